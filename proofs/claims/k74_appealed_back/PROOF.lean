import PyProof.Rows.All
import Wide.All
import OpenK.AllK
import Wide.FinOn
import Lean
import PyProof.EqAt
import PyProof.EqKinds
import PyProof.TupleCall
import PyProof.NeKinds
import PySem.Challenge.RW_hall_k74_appealed_back
set_option Elab.async false
set_option linter.all false
set_option maxRecDepth 100000
set_option maxHeartbeats 4000000
set_option compiler.extract_closed false
set_option genSizeOf false
set_option genInjectivity false
set_option bootstrap.genMatcherCode false
open Lean in
local macro_rules|`(command|mutual $cs* end)=>do
 let cs:=cs.map fun c=>c.raw
 unless cs[0]!.isOfKind ``Parser.Command.where do Macro.throwUnsupported
 let ps:Array Name:=#[`ε,`ζ,`η,`θ,`ι,`ν,`ξ,`ο,`π,`ρ,`τ,`υ,`χ,`ψ,`ω,`Α]
 let ap:= ``Parser.Term.app
 let un:=fun(s:Syntax)=>if s.isOfKind `par then s[0] else s
 let more:=fun(f:Syntax)(as:Array Syntax)=>if as.isEmpty then f else if f.isOfKind ap then .node .none ap #[f[0],mkNullNode (f[1].getArgs++as)] else .node .none ap #[f,mkNullNode as]
 let put:=fun(b:Syntax)(as:Array Syntax)=>b.rewriteBottomUp fun s=>match s with
  |.ident _ _ n _=>match ps.idxOf? n with
   |some i=>.node .none `par #[as.getD i s]
   |none=>s
  |.node i k l=>
   if k==ap&&s[0].isOfKind `par then
    let f:=s[0][0]
    more (if f.isOfKind ``Parser.Term.paren then f[1] else f) (s[1].getArgs.map un)
   else .node i k (l.map un)
  |s=>s
 let ex:=fun(tb:Std.HashMap Name (Nat×Syntax))(c:Syntax)=>c.rewriteBottomUp fun s=>
  let spl:=fun(l:Array Syntax)(k:SyntaxNodeKind)=>if l.any (·.isOfKind `spl) then l.flatMap fun x=>if x.isOfKind `spl then if k==nullKind then x.getArgs else #[x[0]] else #[x] else l
  match s with
  |.ident _ _ n _=>match tb[n]? with
   |some (0,b)=>b
   |_=>s
  |.node i k l=>
   if k==ap then match s[0] with
    |.ident _ _ n _=>match tb[n]? with
     |some (m,b)=>let as:=s[1].getArgs;more (put b (as.extract 0 m)) (as.extract m as.size)
     |_=>s
    |f=>if f.isOfKind ap then more f s[1].getArgs else s
   else if k== ``Parser.Tactic.show&&s[1].isOfKind ``Parser.Term.byTactic then .node .none `spl s[1][1][0][0].getArgs
   else if k== ``Parser.Term.explicitBinder&&s[2].getNumArgs==0 then
    let as:=s[1].getArgs
    match s[1][0] with
    |.ident _ _ n _=>match tb[n]? with
     |some (_,b)=>.node .none `spl (put b (as.extract 1 as.size))[1].getArgs
     |_=>s
    |b=>if b.isOfKind ``Parser.Term.forall then .node .none `spl b[1].getArgs else s
   else if k== ``Parser.Term.paren&&s[1].isOfKind ``Parser.Term.typeAscription then s[1]
   else .node i k (spl l k)
  |s=>s
 let mut tb:Std.HashMap Name (Nat×Syntax):={}
 for a in cs[1]![1][3][0][0][0].getArgs do
  let b:=ex tb a[3]
  let b:=if b.isOfKind ``Parser.Term.paren&&b[1].isOfKind ``Parser.Term.byTactic then b[1] else b
  let mut n:=0
  for x in b.topDown do
   if ps.contains x.getId then n:=n+1
  tb:=tb.insert a[1][0][0].getId (n,b)
 let mut au:Array Syntax:=#[]
 let mut o:=#[]
 for c in cs.extract 2 cs.size do
  if c.isOfKind ``Parser.Command.print then o:=o.push (<-`(command|end $(⟨c[1]⟩):ident)).raw
  else if c.isOfKind ``Parser.Command.where then o:=o.push (<-`(command|end)).raw
  else
   let c:=ex tb c
   for b in c.topDown do
    if b.isOfKind ``Parser.Term.binderTactic&& !au.contains b[2] then
     au:=au.push b[2]
     o:=o.push (<-`(command|theorem $(mkIdent (.str (.mkSimple "_root_") s!"_a{au.size}")) (h:True:=by $(⟨b[2]⟩)):True:=h)).raw
   let v:=au
   o:=o.push (c.rewriteBottomUp fun d=>match d with
    |.atom _ v=>.atom .none v
    |.ident _ r n p=>.ident .none r n p
    |.node _ k l=>
     let d:=Syntax.node .none k l
     if k== ``Parser.Command.declaration&&(d[1].isOfKind ``Parser.Command.definition||d[1].isOfKind ``Parser.Command.abbrev)&&d[1][1][0].getId != `lw then d.setArg 0 (d[0].setArg 4 (mkNullNode #[.node .none ``Parser.Command.noncomputable #[mkAtom "noncomputable"]]))
     else if k== ``Parser.Term.explicitBinder&&d[3][0].isOfKind ``Parser.Term.binderTactic then
      match v.idxOf? d[3][0][2] with
      |some i=>(d.setArg 3 (mkNullNode #[])).setArg 2 (mkNullNode #[d[2][0],.node .none ap #[mkIdent ``autoParam,mkNullNode #[d[2][1],mkIdent (.str (.str (.mkSimple "_root_") s!"_a{i+1}") "_auto_1")]]])
      |none=>d
     else d
    |s=>s)
 return mkNullNode o
mutual
#where
def q
|Β=>rfl|Δ=>Nat|Ε=>some|Ζ=>Addr|Θ=>Prop|Ι=>none|Κ=>Str|Μ=>true|Ν=>pins|Ξ=>rows|Υ=>pos|Χ=>this|Ψ=>Int|Ω=>W.Frag|AA=>Γ1|AB=>Shared|AC=>false|AE=>Value|AF=>Expr|AG=>X.K|AH=>kvs|AI=>Rat|AJ=>Heap|AK=>int|AL=>Pos|AN=>Stmt|AO=>Bool|AT=>str|AU=>its|AW=>World|AY=>cons|AZ=>inr|As=>Program|A0=>inl|A3=>acc|A4=>Γ2|A7=>own|A8=>base|A9=>key|BD=>hlt|BG=>s.heap|BH=>s.heap.objs.size|BM=>sub|BN=>env|BU=>xs.length|BV=>Around|BY=>Γ'|Be=>hq2|Bz=>hq1|B0=>ref|B3=>top|B6=>map|CA=>prog|CB=>X.env|CL=>Type|CM=>hz1|Cc=>lst|Cf=>outer|Ct=>Hd.d|C3=>F.kp|DA=>σ'|DB=>nil|DL=>hok|DZ=>Cls|Da=>List.length_map|De=>hpl|D3=>name|D4=>fin|D8=>False|EC=>List|ED=>l.length|EE=>post|EI=>qual|EJ=>s₁|EK=>List.map_cons|ER=>args|ES=>s1.heap.objs.size|EV=>value|EW=>l.map|Eg=>c.ao|E_=>FuncData|FA=>"hand"|FB=>caps|FH=>X.prog|FI=>List.length_cons|FK=>es.size|FL=>qs.length|Ff=>pos'|Fh=>cpos|F_=>rest|GG=>wpAny|GH=>hlen|GI=>Slot|GW=>D.int|G_=>bare|HA=>bs.length|HQ=>m.length|HR=>"mark"|HU=>vals|IB=>PySem|IC=>names|ID=>"marks"|IE=>RelV|IF=>get?|IG=>ns.length|II=>ps.length|IJ=>apos|IL=>R1.g|IY=>Frag|IZ=>Vals|Ic=>List.getElem?_map|Id=>Same|Iq=>List.cons_append|JO=>PyProof.Rows|JP=>next|JS=>True|JU=>X.stack|JY=>trans|KO=>scope|KP=>"__init__"|KS=>keep|KU=>s₂|KW=>pure|Kb=>vs.length|Ki=>List.length|Kj=>gr.f|Kk=>List.getElem?_cons_succ|LS=>fmod|LT=>String|LU=>done|LV=>hName|LW=>cutD|LX=>List.map|LY=>List.nil_append|L'=>s.toks|MA=>h.get?|MB=>h.objs.size|MC=>I.hok|MD=>"some"|ME=>ds.length|MG=>List.set_cons_zero|MH=>List.set_cons_succ|MI=>Rat.div_def|MY=>body|MZ=>"list"|Mb=>List.getElem?_cons_zero|Mc=>List.append|Md=>"sheet"|Me=>push|Mm=>ws.length|Mn=>"self"|NU=>ws.map|NV=>c.Open|NW=>"sheets"|NX=>s₀|NY=>cont|Na=>F.ws|Nc=>items|Nd=>ps.map|Nl=>l.getD|OL=>PySem.Spec|OM=>Scope|ON=>Sum.inr|OO=>Nodup|OP=>slot|OQ=>X.base|OR=>s.heap.get?|OS=>r.length|OT=>congrArg|OU=>"_law_script"|OV=>rawInt|OW=>ys.length|OX=>List.getD_eq_getElem?_getD|OY=>Perm|OZ=>hold|PY=>Str.empty|PZ=>"work"|Pc=>"set"|Pe=>I.list|Pf=>F.rows|Pi=>"other"|Pl=>iter|Po=>sc.names|Pp=>decide_eq_true|Ps=>List.filter_cons|Pw=>ks.length|P1=>hdct|P2=>Rat.intCast_mul|RE=>c.cD|RF=>hands|RH=>work|RI=>D.str|RO=>"table"|RR=>if_neg|RS=>its.toArray|RU=>self|RY=>List.append_nil|Rc=>items.size|Re=>ks.zip|Rl=>List.map_append|S4=>hs.map|S_=>"sorted"|TC=>treeTable|TD=>Value.ref|TH=>h'.get?|TK=>X.env.locals|TL=>zU.mp|TM=>D.nx|TN=>turn|TU=>List.length_append|TZ=>hbase|Tb=>zero|Th=>succ|Tk=>same|Tl=>Int.gcd|VT=>loose|VU=>p.ps|VV=>decide|VW=>item|VX=>"place"|VY=>HT.sIx|VZ=>R.sl|YO=>List.mem_map|YR=>K.lookup|YU=>m.map|YV=>"law"|YY=>"points"|Ya=>"zip"|Yf=>"reversed"|Y1=>Hd.ex|Y2=>if_pos|Y3=>wpAny_mono|Y_=>"order"|ZA=>"hands"|ZE=>"row"|ZH=>"part"|ZI=>error|ZN=>pl.isList|ZO=>hline|ZT=>h₁|ZU=>List.map_map|dL=>mids|dP=>"tuple"|dQ=>L.map|dS=>ws0.map|da=>z.fdiv|dc=>"reach"|di=>"rule"|dk=>"gap"|dl=>"grade"|dq=>"range"|dr=>"dict"|du=>symm|dy=>Value.none|d4=>xs.map|d5=>free|d6=>more|d_=>zV.mp|eB=>F.bs|eC=>rule|eD=>toNat|eI=>cellsFrom|eJ=>List.size_toArray|eK=>Bool.and_eq_true|eP=>trivial
|eQ=>s2.trans|eR=>p.getD|eS=>pick|iP=>c.Scale|iS=>H₀|iX=>X.mg|ia=>X.fs|ib=>I.loc|ic=>elim|ie=>X.N.Nodup|ii=>s'.heap|ij=>Ends|ik=>I.kIn|im=>its'|io=>I.tuple|ip=>"end"|iq=>Heap.size_push|ir=>slice|i3=>h₂|i4=>getD|i5=>vs.toArray|i6=>wpAny_call|i7=>List.lookup_cons|i8=>xs.getD|i9=>e.symm|i_=>a.den|i'=>cols|nN=>rows.length|nX=>mainGlobals|ng=>us.length|nk=>o.data|nr=>I.ok|nv=>length|ny=>"ahead"|n9=>"bounds"|n_=>s.heap.push|oB=>List.length_take|oC=>if_true|oP=>fQ.move|oQ=>as.Nodup|oS=>h.elim|oa=>z.xe|og=>I1.kIn|om=>q.elim|oq=>A.in1|ox=>ns.getD|oy=>ms.map|oz=>Int.toNat_natCast|o4=>IsPair|o5=>SetTable|o6=>List.mem_range.mp|o_=>zB.mp|pE=>pos2|pM=>default|pS=>a.num|pT=>b.num|pV=>comb|v4=>m.getD|v6=>c.Apart|v_=>f.length|wE=>xs.toList|wP=>p.xf|wS=>kvs.length|wT=>B.len|wb=>X.xe|wc=>Name|we=>rv.length|wf=>wpAny_newObj_type|wn=>lookup|wo=>hbody|wp=>its.toArray.size|wq=>h.push|wt=>ns.map|ww=>Classical|wx=>Fn.run|wy=>of_decide_eq_true|w4=>sF.seq|w8=>G.ex|w9=>s2.heap.push|w_=>List.take_length|xA=>h1.elim|xB=>hmro|xC=>hit'|xD=>kv.length|xE=>Rat.mul_assoc|Ą=>List.length_pos_iff.mpr|ą=>List.mem_cons|Ć=>List.mem_filter|ć=>ws.Nodup|Ĉ=>Option|ĉ=>works|Ċ=>c.xO|ċ=>"_law_appeal"|Č=>"_law_back"|č=>"must_have"|Ď=>"leaning"|ď=>"enumerate"|Đ=>"sum"|đ=>"worth"|Ē=>decide_eq_false|ē=>h1.get?|Ĕ=>K.In|ĕ=>Nat.le_of_lt|Ė=>I.cell|ė=>I.free|Ę=>I.bare|ę=>most|Ě=>eval|ě=>holding|Ĝ=>Array.length_toList|ĝ=>wpAny_holding|Ğ=>"rows"|ğ=>call|Ġ=>List.lookup|ġ=>Attribute|Ģ=>kindOf|ģ=>putK|Ĥ=>s₃|ĥ=>Gr.refl|Ħ=>R.len|ħ=>X.wsh|Ĩ=>Int.natAbs_mul|ĩ=>hacc|Ī=>List.append_assoc|ī=>npos|Ĭ=>hit2|ĭ=>List.mem_singleton.mp|Į=>mono|į=>natAbs|AAb=>List.mem_cons_self|AAc=>OsState|AAd=>f.getD|AAe=>s.os|AAf=>mean|AAg=>pair|AAh=>S.marks|AAi=>"reckoned"|AAj=>"sheet_copy"|AAk=>"renewed"|AAl=>"appeal"|AAm=>"take_back"|AAn=>Array|AAo=>data|AAp=>ps.drop|AAq=>List.range|AAr=>filter|AAs=>B.wm|AAt=>rows.take|AAu=>X.outer|AAv=>X.ex|AAw=>I.ok.kind|AAx=>I.pin|AAy=>σ.set|AAz=>Tuple|AA_=>s1.heap.push|AA'=>stop|ABG=>"bound"|ABH=>"_law_cell_here"|ABJ=>j.toNat|ABK=>step|ABL=>W.emptyDict|ABM=>cLine|ABN=>hfew|ABO=>line|ABP=>s₁.heap|ABQ=>L2.upd|ABR=>TR.move|ABS=>List.zip_cons_cons|ABT=>R.ap|ABU=>Γ1.set|ABV=>z.symm|ABW=>bs.getD|ABX=>bs.map|ABY=>Eq.trans|ABZ=>List.map_congr_left|ABa=>items2|ABb=>q.num|ABc=>U.length|ABd=>rs.length|ABe=>fdiv|AFe=>List.getElem?_eq_getElem|AFf=>List.mem_singleton|AFg=>Rat.add_zero|AFh=>"apart"|AFi=>"scale"|AFj=>"BaseException.__getattribute__"|AFk=>isSome|AFl=>zA.mp|AFm=>sc.names.lookup|AFn=>D.lst|AFo=>ms.take|AFp=>I.freeC|AFq=>I.len|AFr=>whole|AFs=>swapsWith|AFt=>F.ws0|AFu=>pyIter|AFv=>contains|AFw=>p.isList|AFx=>"right"|AFy=>"group"|AFz=>beq_iff_eq.mp|AF_=>A.units|AF'=>scope.names|AGA=>List.getElem?_append_right|AGB=>List.getElem?_append_left|AGC=>List.length_drop|AGD=>Obj.mapSeq|AGF=>s.heap.update|AGG=>its.length|AGH=>wpAny_setField|AGI=>D2.nx|AGJ=>R1.grow|AGK=>sF.trans|AGL=>L2.start|AGM=>decide_eq_true_eq|AGN=>is1.toArray.size|AGO=>X.hand|AGP=>isInstance|AGQ=>own.length|AGR=>s2.heap.objs.size
|AGS=>rs.up|AGT=>R1.sl|AGU=>hs3.extBut|AGV=>List.nodup_append|AGW=>O.fit|AGX=>List.length_reverse|AGY=>V.str|AGZ=>gs.length|AGa=>nextT|AKL=>Rat.le_refl|AKM=>hs.Nodup|AKN=>Inhabited|AKO=>iZ.mp|AKP=>PySem.W|AKQ=>boot_heap|AKR=>w.params|AKS=>s.drawn|AKT=>ws.filter|AKU=>ds.map|AKV=>S.leans|AKW=>"mean"|AKX=>"pair"|AKY=>"middle"|AKZ=>"Open"|AKa=>"Barred"|AKb=>"scaled"|AKc=>"len"|AKd=>"Sitting.renewed"|AKe=>"Sitting.appeal"|AKf=>"Sitting.take_back"|AKg=>fs.length|AKh=>absurd|AKi=>slots|AKj=>X.env.kindOf|AKk=>I.base.free|AKl=>Ne.symm|AKm=>"__debug__"|AKn=>Constant|AKo=>wpAny_truthy_bool|AKp=>Subscript|AKq=>wpAny_standAt|AKr=>Assign|AKs=>"one"|AKt=>"_law_k"|AKu=>Nat.ne_of_gt|AKv=>"left"|AKw=>"found"|AKx=>again|AKy=>sizeLine_eq|AKz=>codeAny|AK0=>"least"|AK1=>I.laid|AK2=>I1.laid|AK3=>bindL|AK4=>bindC|AK5=>N.length|AK6=>s3.heap.objs.size|AK7=>i.toNat|AK8=>if_false|AK9=>List.any_cons|AK_=>hplain|AK'=>valueAt|ALA=>ks.map|ALB=>dd.typeIs|ALC=>TR.there|ALD=>fQ.there|ALE=>fQ.rep|ALG=>Γ.set|ALH=>List.getElem?_eq_none|ALJ=>h1.objs.size|ALK=>R.grow|ALN=>r1.up|ALO=>cx.px|ALP=>pushCells|ALQ=>List.drop_eq_getElem_cons|ALR=>hs1.extBut|ALS=>List.zipWith|ALU=>I2.kIn|ALV=>is.map|ALW=>List.pairwise_cons|ALX=>"set_iterator"|ALY=>Nat.min_self|ALZ=>List.getElem_map|ALa=>ys.map|ALb=>gs.map|ALc=>b.natAbs|ALd=>b.den|ALe=>l.filter|ALf=>Rat.le_trans|ALg=>Rat.mul_one|ALh=>bs.reverse|AQ3=>m.take|AQ4=>cs.length|AQ5=>List.mem_cons_of_mem|AQ6=>Nat.le_refl|AQ7=>cX.mp|AQ8=>List.eq_nil_of_length_eq_zero|AQ9=>qs.map|AQ_=>reverse|AQ'=>S.rule|ARA=>S.gap|ARB=>S.scale|ARD=>S.sheets|ARF=>Int.toNat|ARG=>"reached"|ARH=>"Sitting"|ARI=>"Scale"|ARJ=>"kept_leanings"|ARK=>"int"|ARL=>"Sitting.__init__"|ARN=>beq_eq_false_iff_ne.mpr|ARO=>Paired|ARP=>List.range_succ|ARQ=>List.mem_of_mem_take|ARR=>sizeLine|ARS=>there|ART=>Un.kept|ARU=>Un.laid|ARV=>W.hideAll|ARW=>zA.mpr|ARX=>fs.take|ARZ=>env.kindOf|ARa=>env.cells.lookup|ARb=>X.H₀|ARc=>X.env.scope|ARd=>both.map|ARe=>I.ok.above|ARf=>m.idxOf|ARg=>Drawn|ARh=>T.dic|ARi=>I.base.nq|ARj=>Model|ARk=>Heap.SameBut|ARl=>Int.natCast_add|ARm=>model|ARn=>starEach|ARo=>O.few|ARp=>CmpOp|ARq=>ws.take|ARr=>BoolOp|ARs=>assign|ARt=>s1.toks|ARu=>wpAny_rule|ARv=>pyNext|ARw=>"_law_hand"|ARx=>"_law_work"|ARy=>"_law_sitting_here"|ARz=>rv.get|AR0=>I1.hok.fresh|AR1=>"spot"|AR2=>vals1|AR3=>Binds|AR4=>List.getElem?_replicate|AR5=>getItem|AR6=>Str.ofString|AR7=>z.length|AR8=>List.all_cons|AR9=>h'.objs.size|AR_=>xs.reverse|AR'=>List.length_singleton|ASA=>atKey|ASB=>call_meetsIn|ASD=>s₁.heap.get?|ASE=>l.prog|ASF=>List.Pairwise.nil|ASG=>Γ.length|ASI=>R.gr.h|ASJ=>R.less|ASK=>B.StaysIn|ASL=>I1.hok|ASM=>Dn.nx|ASN=>I.ok.mod.Ft|ASO=>is2.toArray.size|ASP=>Nat.lt_succ_of_lt|ASQ=>R'.grow|ASR=>List.any_eq_true|ASS=>List.mem_iff_getElem.mp|ASU=>GJ.extBut|ASV=>ms.Perm|ASW=>field|ASX=>Heap.SameBut.update|ASY=>Heap.ExtBut|ASa=>hs2.extBut|ASb=>g5.objs.size|ASc=>s1.heap.get?|ASd=>p.size|ASe=>vs.getD|ASf=>SetTable.below|ASg=>dif_pos|ASh=>fresh|ASi=>t.place|ASj=>relayAll|ASk=>es1.size|ASl=>O.dat
|ASm=>List.length_range|ASn=>startM|ASo=>hit.typeIs|ASp=>Prod.mk.inj|ASq=>Nat.one_mul|ASr=>Nat.mul_le_mul_right|ASs=>q.den|ASt=>D.tup|ASu=>rs.map|ASv=>Rat.mul_comm|AaR=>Type _|AaS=>Nat.mul_le_mul|AaT=>List.getElem?_eq_some_iff|AaU=>List.mem_append|AaV=>Bool.false_ne_true|AaW=>decide_eq_true_iff|AaX=>cX.mpr|AaY=>zB.mpr|AaZ=>iZ.mpr|Aaa=>"object"|Aab=>List.filter_filter|Aac=>hs.length|Aad=>ms.flatten|Aae=>L.length|Aaf=>"under"|Aag=>"_law_names"|Aah=>"_law_cell"|Aai=>"_law_marked"|Aaj=>"_law_rows"|Aak=>"climbs"|Aal=>"is_scale"|Aam=>"_law_divisor"|Aan=>"_law_low"|Aao=>"_law_scale_points"|Aap=>"_law_rule"|Aaq=>"meet"|Aar=>"joined"|Aas=>"by_work"|Aat=>"groups"|Aau=>"divisor"|Aav=>"whole_row"|Aaw=>"without"|Aax=>"cleared"|Aay=>"fraction"|Aaz=>"exchanged"|Aa0=>"solved"|Aa1=>"sheets_with"|Aa2=>"is_within"|Aa3=>"plus"|Aa4=>"total"|Aa5=>"share"|Aa6=>"shares"|Aa7=>"minus"|Aa8=>"mean_mark"|Aa9=>"excess"|Aa_=>"group_leanings"|Aa'=>"leanings"|AbA=>"times"|AbB=>"over"|AbC=>"between"|AbD=>"least_number"|AbE=>"width"|AbF=>"nearest"|AbG=>"rising"|AbH=>"number_from"|AbI=>"ends"|AbJ=>"rests_behind"|AbK=>"greatest_cuts"|AbL=>"cuts"|AbM=>"_law_bounds"|AbN=>"_law_sitting"|AbO=>W.nsIn|AbP=>"HallError"|AbQ=>W.findIn|AbR=>"__setattr__"|AbS=>"kept_borders"|AbT=>"__getattribute__"|AbU=>"Scale.__init__"|AbV=>"borders"|AbW=>"Barred.__init__"|AbX=>W.topGo|AbY=>Int.natCast_mul|AbZ=>μ.fdiv|Aba=>xs.drop|Abb=>List.map_drop|Abd=>W.instObj|Abe=>List.filter_append|Abf=>List.flatten_append|Abg=>flatten|Abh=>pm.mem_iff.mp|Abi=>σ.length|Abj=>I.base.keep|Abk=>both.length|Abl=>List.filterMap_cons|Abm=>I.base.slot|Abn=>I.base.tups|Abo=>I.base.pJ|Abp=>I.hok.fresh|Abq=>List.getElem?_set_self|Abr=>List.getElem?_set_ne|Abs=>compareOp|Abt=>standAt|Abu=>target|Abv=>assignEach|Abw=>F.p.xf|Abx=>F.p.ps|Aby=>I.ok.hd|Abz=>toArray|Ab0=>s1.heap|Ab1=>"_law_hands"|Ab2=>wpAny_passesOwn|Ab3=>s2.heap|Ab4=>"counts"|Ab5=>"_law_rows_here"|Ab6=>"multiple"|Ab7=>"lead"|Ab8=>i.natAbs|Ab9=>i.fmod|Ab_=>getAttr|Ab'=>"count"|AcA=>fs.map|AcB=>"_law_told"|AcC=>Nat.le_of_eq|AcD=>Calls.spliced_cons|AcE=>NameKind|AcF=>envOfC|AcG=>scope.names.lookup|AcH=>False.elim|AcI=>wpAny_Call_Name_kw|AcJ=>wpAny_loadPart'|AcK=>Hd.fun_of|AcL=>Heap.get?_update_self|AcM=>sliceBounds|AcN=>"abcdefghijklmnopqrstuvwxyz"|AcO=>o.isSome|AcP=>X.A.units|AcQ=>OpenLaw|AcR=>callerA|AcS=>codeAny_mono|AcT=>vR.back|AcU=>Gr.laid|AcV=>TR.rep|AcW=>R.dropAt|AcX=>oe.data|AcY=>B.get?|AcZ=>Obj.data_mapFields|Aca=>setField|Acb=>noteFrame|Acd=>s2.heap.get?|Ace=>s1.trans|Acf=>k.mono|Acg=>wpAny_pyIter_list|Ach=>W.callWith_K|Aci=>Bool.and_false|Acj=>Bool.false_eq_true|Ack=>List.nodup_cons|Acl=>List.pairwise_map|Acm=>List.take_add_one|Acn=>ms.Pairwise|Aco=>wpAny_seqItems|Acp=>O2.extBut|Acq=>List.length_zipWith|Acr=>xs.toList.length|Acs=>knd.is|Acu=>w.params.followText|Acv=>"set-order"|Acw=>codeAny_builtin|Acx=>List.take_append_drop|Acy=>choose|Acz=>Array.getElem?_eq_getElem|Ac0=>Array.getElem?_eq_none|Ac1=>collect|Ac2=>acc.size|Ac3=>PySem.intKind|Ac4=>hp.objs.size
|Ac5=>Slot.tr|Ac6=>xs.Nodup|Ac7=>List.length_zip|Ac8=>R1.wrT|Ac9=>fQ.repN|Ac_=>a.fmod|Ac'=>Int.mul_comm|AdA=>Rat.intCast_sub|AdB=>l.take|AdC=>Rat.le_of_lt|AdD=>List.flatten_cons|AqU=>s.length|AqV=>Heap.lt_size|AqW=>"BaseException"|AqX=>"type"|AqY=>cd.mro|AqZ=>builtin|Aqa=>"ValueError.__new__"|Aqb=>PySem.Calls|Aqc=>qs.take|Aqd=>s.gens|Aqe=>cs.dropLast.map|Aqf=>DefRec|Aqg=>z.fmod|Aqh=>"Apart"|Aqi=>Hd.adr|Aqj=>"object.__setattr__"|Aqk=>"grade_borders"|Aql=>"borders_borders"|Aqm=>PySem.W.Fast.te14364793385576792824|Aqn=>Sum.inl|Aqo=>d.fdiv|Aqp=>xs.set|Aqq=>List.map_take|Aqr=>es.toList|Aqs=>tupleKind|Aqt=>fs.lookup|Aqu=>fields|Aqv=>List.drop_zero|Aqw=>Paired.mapP|Aqx=>List.getElem_reverse|Aqy=>Slot.pu|Aqz=>builtinsNs|Aq0=>rows.map|Aq1=>X.env.scope.kind|Aq2=>X.env.cells.lookup|Aq3=>ps.take|Aq4=>eF.mpr|Aq5=>X.s₀.heap.get?|Aq6=>AllBare|Aq7=>wh.map|Aq8=>List.mem_flatten.mpr|Aq9=>I.base.there|Aq_=>n.fdiv|Aq'=>Int.zero_add|ArA=>xU.sum|ArB=>isTrue|ArC=>"__classdict__"|ArD=>p.hs.map|ArE=>behindInMarks|ArF=>UnaryOp|ArG=>o.dict|ArH=>its.toList|ArI=>pos.line|ArJ=>F.ws0'|ArK=>F.p'.ps|ArL=>I1.kept|ArM=>IsTup.new|ArN=>"_law_scale"|ArO=>wpAny_load|ArP=>"_law_mark"|ArQ=>I.list_inj|ArR=>Int.mul_one|ArS=>T.done|ArT=>T.item|ArU=>"rights"|ArV=>A.under|ArW=>True.intro|ArX=>attributeBase|ArY=>A.depth|ArZ=>A.deeper|Ara=>List.nodup_cons.mp|Arb=>vs.map|Arc=>S.kind|Ard=>W.fnOf|Arf=>Builtin.Slice.slicePlaces|Arh=>IsPart|Ari=>wpAny_field|Arj=>ht.typeIs|Ark=>subscripted|Arl=>typeIs_str|Arm=>typeOf|Arn=>List.reverse_cons|Aro=>call_meets|Arp=>List.find?_cons|Arq=>List.length_filter_le|Ars=>List.map_nil|Art=>Option.isSome_map|Aru=>Nat.lt_trans|Arv=>dd.mapOf|Arw=>PySem.F.plainAttrs_dict|Arx=>IntsAre|Ary=>l.row.toRowW|Arz=>fs.zip|Ar0=>s.free|Ar1=>oe.dict|Ar2=>R1.put|Ar3=>oe.cls|Ar4=>beq_iff_eq|Ar5=>hm.keeps|Ar6=>x.bare|Ar7=>SameStack|Ar8=>R.apart|Ar9=>R2.grow|Ar_=>I1.list|Ar'=>s2.seq|AsA=>j.natAbs|AsB=>List.range_succ_eq_map|AsC=>NameKind.cell|AsD=>Pairwise|AsE=>NameKind.free|AsF=>q.symm|AsG=>S.free|AsH=>mem_of_lookup|AsI=>Nat.le_of_succ_le|AsJ=>Bool.eq_iff_iff|AsK=>I.fresh|AsL=>Nat.le_succ|AsM=>wpAny_handled|AsN=>O1.extBut|AsO=>F.slot_zip_next|AsP=>L2.Cls|AsQ=>R1.gr.h|AsR=>u1.trans|AsS=>List.pairwise_iff_getElem.mp|AsT=>Array.getElem?_toList|AsU=>es.toList.map|AsV=>h.update|AsW=>scanBound|AsX=>List.nodup_nil|AsY=>hm.heap|AsZ=>Shared.TypeIs|Asa=>codeAny_call_builtin|Asb=>raiseNew|Asc=>wpAny_pyIter_slot|Asd=>length_eq|Ase=>Builtin.List.listSameRef|Asf=>acc.toList|Asg=>"list_reverseiterator"|Ash=>Except.ok|Asi=>s'.heap.get?|Asj=>Heap.size_update|Asl=>R1.gr.h.free|Asm=>R1.apart|Asn=>List.zipWith_cons_cons|Aso=>SortKind|Asp=>rt.root|Asq=>PySem.F.slot_dict_keyiterator_next|Asr=>L.thaw|Ass=>ExceptHandler|Ast=>zR.mpr|Asu=>I5.kIn|Asv=>t.natAbs|Asw=>Int.natAbs|Asx=>Rat.intCast_add|Asy=>List.filter_eq_nil_iff.mpr|Asz=>List.contains_iff_mem|As0=>fs.filter|As1=>mU.zero|As2=>mU.head|As3=>Rat.mul_eq_zero.mp|As4=>List.append_of_mem|As5=>kZ.mpr|BCt=>List.mem_append_left|BCu=>d.natAbs
|BCv=>Nat.ne_of_lt|BCw=>rows.filter|BCx=>u.filter|BCy=>FunctionDef|BCz=>defaults|BC_=>behindTheImports|BC'=>Array.mk|BDG=>Int.ofNat|BDH=>fs.flatten.length|BDI=>"__getattr__"|BDJ=>"__class__"|BDK=>"object.__class__"|BDL=>"ValueError.__init__"|BDM=>"NO_GAP"|BDN=>"Sitting.must_have"|BDO=>"Sitting.mark"|BDP=>"Sitting.grade"|BDQ=>"Sitting.table"|BDR=>"Open.__init__"|BDS=>"Scale.scaled"|BDT=>"Sitting.leaning"|BDU=>"Sitting.reckoned"|BDV=>"Sitting.sheet_copy"|BDW=>PySem.W.Fast.te15667345088766844465|BDX=>Hd.recOf|BDY=>Value.int|BDZ=>Value.isInt_shape|BDa=>Int.fmod_eq_emod_of_nonneg|BDb=>Nat.succ_pos|BDc=>Value.type|BDd=>Vals.append|BDe=>Rat.one_mul|BDf=>sysModules|BDg=>o.ExactDict|BDh=>ob.slots|BDi=>objs.size|BDj=>W.of_hideAll|BDk=>filterMap|BDl=>List.pairwise_append.mp|BDm=>bootBuiltins|BDn=>flatten.length|BDo=>List.filter_nil|BDp=>I.ok.funs.mem|BDq=>I.ok.frf|BDr=>I.stkSub|BDs=>Gm.congr|BDt=>hn.sameBut|BDu=>Constant_none|BDv=>Rat.num_intCast|BDw=>Y.natAbs|BDx=>wpAny_execs_nil|BDy=>X.natAbs|BDz=>wpAny_assign_Name|BD_=>assignInOrder_cons|BD'=>Fast.tb2|BEG=>Fast.again|BEJ=>O.rows.u|BEK=>pw.mem_iff.mp|BEM=>items.reverse|BEO=>"_law_works"|BEQ=>"_law_top"|BER=>"_law_bottom"|BES=>"bottom"|BEU=>"dict_itemiterator"|BEV=>h.IsListIter|BEW=>I.tuple_inj|BEY=>"_law_many"|BEZ=>"_law_way"|BEa=>"_law_w"|BEb=>"_law_h"|BEc=>PyProof.Rows.callWith_type1|BEd=>"_law_one"|BEe=>"_law_other"|BEf=>boot_list|BEg=>I7.unpinned|BEh=>Nat.zero_le|BEi=>binaryOp|BEj=>getMethod|BEk=>W.looks_clsIn|BEl=>W.looks_findIn|BEm=>beq_iff_eq.mpr|BEn=>Inv.made|BEo=>Nat.lt_succ_self|BEp=>Around.under|BEr=>Code.isFrame|BEs=>Calls.spliced_nil|BEt=>W.cellsFrom_some|BEu=>PySem.mem_of_lookup|BEv=>List.length_replicate|BEw=>PySem.AutoSeq1|BEx=>PySem.MeetsSeq|BEy=>PySem.MeetsSeq3|BEz=>s.TypeIs|BE_=>eq_of_beq|BE'=>Builtin.Tuple.tupleExact|BFG=>Subscript_|BFH=>s3.heap.push|BFI=>Heap.get?_update_other|BFJ=>Option.getD_none|BFK=>SeqAt.EqAt|BFL=>"list.append"|BFM=>r.append|BFN=>h1.symm.trans|BFO=>rel.length|BFP=>PySem.F.slot_dict_get|BFQ=>s₁.heap.Ns|BFR=>symm.trans|BFS=>ld.tup.elim|BFT=>Nat.lt_or_ge|BFU=>g.f.trans|BFV=>Inv.landed|BFW=>excClassObj|BFX=>PySem.F.excBase_ValueError|BFY=>wpAny_pyIter_tuple|BFZ=>s3.trans|BFa=>R1.g.seq|BFb=>R2.g.seq|BFc=>Builtin.Int.intBits|BFd=>Nat.log2_lt|BFe=>Nat.pow_succ|BFf=>List.all_map|BFg=>int_tuple|BFh=>int_list|BFi=>str_tuple|BFj=>str_list|BFk=>tuple_int|BFl=>tuple_str|BFm=>list_int|BFn=>list_str|BFo=>beq_false_of_ne|BFp=>checkBuiltinCall|BFq=>pushCells_keeps|BFr=>List.pairwise_cons.mpr|BFs=>names.lookup|BFt=>caps.map|BFu=>List.Nodup|BFv=>l.Pairwise|BFw=>ListComp|BFx=>compPost|BFy=>comprehension|BFz=>gr.f.trans|BF_=>List.flatMap_cons|BF'=>Xu.names.lookup|BGA=>PySem.preSum|BGB=>"list_iterator"|BGC=>PySem.argBest|BGD=>List.take_of_length_le|BGE=>ws.toArray|BGF=>"__next__"|BGG=>hit2.typeIs|BGH=>"StopIteration"|BGI=>wpAny_of_eq|BGJ=>wpAny_throw|BGK=>wpAny_setField_rec|BGL=>wpAny_updateSeq_pair|BGM=>wpAny_letGo|BGN=>wpAny_newTuple|BGO=>D.TOz.symm|BGP=>D.i1z.symm
|BGQ=>wpAny_attempt|BGR=>wpAny_isInstance|BGS=>h2.trans|BGT=>I2.after|BGU=>List.toArray|BGV=>Nat.lt_trichotomy|BGW=>List.pairwise_append|BGX=>t.dummies|BGY=>List.pairwise_lt_range|BGZ=>SetTable.has|BGa=>Obj.putSet|BGb=>setState|BGc=>wpAny_setState_of|BGd=>storeSet|BGe=>PyProof.Rows.F.plain_set_update_loop|BGf=>"set.__new__"|BGg=>codeAny_of_tree|BGh=>wpAny_runValue|BGi=>Nat.zero_add|BGj=>"set_iterator.__next__"|BGk=>Nat.mod_lt|BGl=>List.length_eq_zero_iff.mp|BGm=>seqItems?|BGn=>setNextDrawn|BGo=>setsByText|BGp=>pickOrder|BGq=>pickOrder.go|BGr=>"set_iterator.__iter__"|BGs=>t.place.toList.length|BGt=>vals.length|BGu=>hp.length_eq|BGv=>mem_iff.mp|BGw=>PySem.F.plain_list_iadd|BGx=>wpAny_updateSeq|BGy=>wpAny_pyIter_revIter|BGz=>listUpdate_at|BG0=>onTheHeap|BG1=>Value.builtin|BG2=>s₂.heap.objs.size|BG3=>hp.update|BG4=>I1.after|BG5=>h.mem_iff.mp|BG6=>W.kas_ask|BG7=>a.cps.toList|BG8=>List.getElem_range|BG9=>PySem.F.slot_dict_values|BG_=>"dict_values"|BG'=>decide_false|BHB=>List.nodup_append.mpr|BHC=>"dict_keyiterator"|BHD=>hm.typeIs|BHF=>R1.g.free|BHG=>Decidable|BHH=>Int.gcd_comm|BHJ=>Int.emod_nonneg|BHK=>Int.lt_or_le|BHL=>Int.ne_of_gt|BHM=>Int.mul_ne_zero|BHN=>Rat.num_divInt_den|BHP=>Rat.divInt_eq_div|BHQ=>Prod.snd|BHR=>Rat.add_assoc|BHS=>Nat.add_mul|BHT=>qs.foldl|BHV=>Rat.mul_nonneg|BHW=>S.filter|BHX=>p.mem_iff.mp|BHY=>pre.dropLast|BHZ=>hq.lin.mul|Bki=>List.perm_ext_iff_of_nodup|Bkj=>Nat.mul_comm|Bkk=>List.mem_append_right|Bkl=>Nat.pow_le_pow_right|Bkm=>Nat.lt_of_lt_of_le|Bkn=>List.getElem_mem|Bko=>Nat.lt_irrefl|Bkp=>List.find?_eq_none.mp|Bkq=>List.mem_of_find?_eq_some|Bkr=>List.find?_some|Bks=>"ValueError"|Bkt=>Rat.mul_zero|Bku=>List.filter_congr|Bkv=>importedModules|Bkw=>lw.row.toRowW|Bkx=>Int.gcd_zero_right|Bky=>Int.mul_zero|Bkz=>Value.isStrOf|Bk0=>Int.natAbs_natCast|Bk1=>SeqAt.EqAt.int_str|Bk2=>SeqAt.EqAt.str_int|Bk3=>Nat.le_mul_of_pos_left|Bk4=>Int.dvd_natAbs.mpr|Bk5=>Paired.length|Bk6=>List.range'_succ|Bk7=>List.range_eq_range'|Bk8=>Int.fdiv_eq_ediv_of_nonneg|Bk9=>Bool.true_and|Bk_=>PySem.Within|Bk'=>List.drop_one|BlA=>List.any_map|BlB=>List.getElem?_range|BlC=>List.getD_cons_succ|BlD=>Rat.not_le.mp|BlE=>Bool.or_eq_true|BlF=>Int.ofNat_lt.mpr|BlG=>List.map_reverse|BlH=>Nat.sub_zero|BlI=>List.findIdx_cons|BlJ=>List.mem_range.mpr|BlK=>W.hideAll_none|BlL=>List.flatten_nil|BlM=>X.env.globals|BlN=>X.s₀.heap.objs.size|BlO=>X.base.objs.size|BlP=>X.s₀.heap.FunFrames|BlQ=>s.heap.FunFrames|BlR=>List.cons_eq_cons.mpr|BlS=>X.env.scope.names.lookup|BlT=>Rat.sub_eq_add_neg|BlU=>Calls.Name_function_global|BlV=>List.map_eq_nil_iff.mp|BlW=>I.mod.glob.keeps|BlX=>pm.nodup_iff.mpr|BlY=>Rat.intCast_nonneg.mpr|BlZ=>wpAny_execs_cons|Blb=>assignInOrder_nil|Blc=>wpAny_bindName|Bld=>letOwnedTupleGo|Ble=>h.IsTupleIter|Blf=>s.heap.IsTuple|Blg=>"_law_names_here"|Blh=>"_law_number"|Bli=>PySem.F.type_list_append|Blj=>PySem.F.slot_list_append|Bll=>List.mem_filterMap.mpr|Blm=>"through_works"|Bln=>es.toList.any|Blo=>W.plainGet_of|Blp=>W.findObj_own|Blq=>wpAny_loadPart
|Blr=>wpAny_nsSet1|Bls=>Heap.Ns1.of_empty|Blt=>recursionLimit|Blu=>Hd.seen_cons|Blv=>List.replicate|Blw=>Option.isSome_iff_exists.mp|Blx=>e0.hok.fresh|Bly=>name_of_addr|Blz=>List.take_sublist|Bl0=>s.heap.NoLimit|Bl1=>codeAny_call_function|Bl2=>codeAny_func|Bl3=>PyProof.Rows.callWith_builtin1|Bl4=>slicePart_none|Bl5=>toArray.size|Bl6=>"__getitem__"|Bl7=>PyProof.Rows.slot_tuple_getitem|Bl8=>wpAny_call_entry|Bl9=>wpAny_typeOf|Bl_=>evalPart_none|Bl'=>pl.isList.typeIs|BmA=>slot_list_getitem.lookup|BmB=>its'.toArray|BmC=>List.length_set|BmD=>call_list_seq|BmE=>Calls.callWith_builtin|BmF=>Calls.evalArgs_plain|BmG=>Builtin.List.listTooLong|BmH=>Option.isSome_some|BmI=>Bool.false_or|BmJ=>List.length_nil|BmK=>tupleKind_room_in1|BmL=>PySem.F.slot_dict_pop|BmM=>wpAny_specialOf|BmN=>PySem.F.entry_dict_get|BmO=>wpAny_Call_method|BmP=>List.set_set|BmQ=>Obj.mapFields|BmR=>Array.getElem?_eq_some_iff.mp|BmS=>Obj.isFreed_of_fields|BmT=>Obj.cls_mapFields|BmU=>Bool.not_eq_true'|BmV=>PySem.F.excBase_ValueError.hasBase|BmW=>Int.natAbs_eq_zero.mp|BmX=>SeqAt.RcNeAt|BmY=>s.heap.IsList|BmZ=>wpAny_loadPart_at|Bma=>List.forIn_cons|Bmb=>newFunctionEnv|Bmc=>List.pairwise_cons.mp|Bmd=>List.drop_length|Bme=>List.mem_range|Bmf=>List.all_eq_true|Bmg=>List.length_pos_of_mem|Bmh=>Builtin.List.listFitsIndex|Bmi=>PySem.F.slot_list_insert|Bmj=>Array.toList_inj.mp|Bmk=>wpAny_pyIter_enum|Bml=>"tuple_iterator"|Bmm=>F.slot_tuple_iterator_next|Bmn=>firstArgMember|Bmo=>Builtin.SmallTypes.ownedTupleIsFree|Bmp=>wpAny_onRaise|Bmq=>F.entry_zip_next|Bmr=>F.args_zip_next_1|Bms=>isSubtype_stop|Bmt=>List.not_mem_nil|Bmu=>wpAny_pyIter_zip|Bmv=>Nat.le_add_right|Bmw=>List.getElem?_zipWith|Bmx=>SetTable.below.go|Bmy=>List.getElem_drop|Bmz=>List.getElem_take|Bm0=>t.place.toList|Bm1=>SetTable.probe.go|Bm2=>Array.toList_push|Bm3=>SetTable.grown|Bm4=>wpAny_storeSet_of|Bm5=>PyProof.Rows.F.entry_set_update_loop|Bm6=>plainId_quiet|Bm7=>PySem.F.plain_set_new|Bm8=>sub_set_self|Bm9=>wpAny_askSetting|Bm_=>Code.quiet_builtin|Bm'=>wpAny_fieldsOf|BnA=>wpAny_setEntries_of|BnB=>List.Perm.append_left|BnC=>Nat.le_succ_of_le|BnD=>PySem.F.slot_set_iter|BnE=>wpAny_setEpoch_of|BnF=>PySem.F.entry_proto_collect|BnG=>PySem.F.plain_proto_collect|BnH=>PySem.F.plain_extend_loop|BnI=>codeAny_extend_loopS|BnJ=>List.ext_getElem?|BnK=>get?_update_seq|BnL=>Heap.get?_update_ne|BnM=>wpAny_newList|BnN=>vals.toArray|BnO=>Array.toArray_toList|BnP=>hp.mem_iff.trans|BnQ=>hp.nodup_iff.mpr|BnR=>List.getElem?_reverse|BnS=>call_reversed_list|BnT=>"__length_hint__"|BnU=>"list_reverseiterator.__length_hint__"|BnV=>listItems_at|BnW=>refuseLoop_ref|BnX=>PySem.F.store_ValueError|BnY=>SF.slot.plain|BnZ=>Builtin.ObjectAttr.storeInDict|Bna=>arm_exec_Raise|Bnb=>wpAny_Call_ofName|Bnc=>wpAny_keeperOf_exc|Bnd=>List.nodup_range|Bne=>Array.getD_eq_getD_getElem?|Bnf=>List.pairwise_iff_getElem|Bng=>vs.toArray.size|Bnh=>vs.toArray.zip|Bni=>b.cps.toList|Bnj=>List.not_lt.mp|Bnk=>keyLt'_oneType|Bnl=>List.pairwise_map.mp|Bnm=>x.cps.toList|Bnn=>y.cps.toList
|Bno=>plain_eq_loop|Bnp=>F.slot_list_lt|Bnq=>its2.toArray.size|Bnr=>PySem.F.slot_list_extend|Bns=>PySem.F.type_dict_values|Bnt=>PySem.F.entry_dict_values|Bnu=>List.nodup_append.mp|Bnv=>PySem.F.slot_dict_iter|Bnw=>Builtin.Dict.showsAll|Bnx=>wpAny_dictEntries|Bny=>wpAny_dictEpoch|Bnz=>PySem.F.entry_dict_keyiterator_next|Bn0=>PySem.F.args_dict_keyiterator_next_1|Bn1=>W.callWith_K0|Bn2=>W.kdl_values|Bn3=>Option.bind_eq_some_iff.mp|Bn4=>e.symm.trans|Bn5=>Bool.and_eq_true_iff.mp|Bn6=>Nat.not_lt.mpr|Bn7=>PySem.F.slot_dict_itemiterator_iter|Bn8=>PySem.F.slot_dict_items|Bn9=>"dict_items"|Bn_=>SameStack.mark|Bn'=>wpAny_handleBy_cons|BoA=>codeAny_handlers_test|BoB=>Int.gcd_eq_zero_iff.mp|BoC=>Int.gcd_dvd_right|BoD=>Int.le_of_lt|BoE=>Int.eq_of_mul_eq_mul_right|BoF=>Rat.zero_add|BoG=>List.take_succ_cons|BoH=>List.drop_succ_cons|BoI=>Rat.not_lt.mp|BoJ=>Rat.le_antisymm|BoK=>Rat.not_lt.mpr|BoL=>Rat.inv_pos.mpr|BoM=>S.reverse.map|BoN=>List.mem_reverse.mp|BoO=>List.pairwise_singleton|BoP=>List.mem_flatten.mp|A6=>fun ε=>ζ|BA=>.B0 ε|B7=>(ε:Ψ)|AD=>(by decide)|ET=>.AK ε|Η=>(by omega)|Ap=>fun ε ζ η=> ?_|FC=>ε X F0 H0 ζ η|DD=>ε ->ζ ->Θ|Ρ=>EC Κ|C5=>A6 _ ε|Mo=>ε b=Ε ζ|BB=>(ε:AI)|Ο=>∀(K:Ω)(c:DZ),_|Τ=>by omega|IM=>ε[ζ]?=Ε η|BI=>.Ι|Of=>cC (ET ε)|AM=>EC D|jI=>ε ζ (aj η aq)|Φ=>VV (ε)|DO=>(by trivial)|ZY=>Inv X Ν σ ε ζ|AX=>by rw[ε];exact ζ|At=>(cV 0)|LZ=>(ε:Δ)|My=>Ĉ ε|A_=>ε ->ζ ->η ->θ ->ι|B1=>(qv 0)|FM=>.Cc ε|Fk=>ε ->Θ|BO=>fun ε ζ=> ?_|E6=>fun _=>ε|B4=>RR ε|Ch=>Ε ε|AQ=>EC V|EX=>IM ε i ζ|AR=>(cV 1)|Tm=>.type ε|CH=>Y2 ε|pb=>EC (ε×ζ)|FR=>.wc ε ζ|A1=>(qv 1)|İ=>ZY H ε|ML=>(hr.mono AD)|GY=>ε a=Ε ζ|DE=>by obtain⟨ε,ζ⟩:=η θ|M0=>cB ε ζ (Of η)|D5=>ε<=ARR|Fm=>jI aj ε ζ|DF=>(ε ζ).B6|HV=>au ε (au ζ aN)|BC=>ε P w K mg A8 c|BQ=>.B0 a|Rs=>ε z E cx|A2=>(by simp)|Fr=>ε x=Ε ζ|AV=>fun z=>ε|Kt=>fun _ ε=>ζ|AS=>İ s|ı=>ε P w K mg A8 ζ η θ ι|Lc=>(BA f)|eg=>bJ (C5 ε) ζ η|MM=>ε=AC|B5=>if ε then ζ else η|DH=>⟨_,ε,ζ⟩|ALi=>{cls:= ε,AAo:= ζ}|EF=>by simpa using ε|AdE=>Hd.ix B ε Β|HC=>(e::es)|ALj=>ħ z|EG=>FC QE ε ζ|An=>EC AE|xF=>Aqi (AbO K nX ε)|C4=>r.2.1|BE=>.non|EL=>by exact ε|CI=>r.1|A5=>EC AI|FD=>ı cZ ε ζ η (θ c)|Ix=>(ARm CA w)|Kx=>Mo ε o|CD=>by decide|Cl=>p.1|M3=>Δ ->ε|EZ=>B7 (LZ ε)|To=>MM (ε==ζ)|DT=>by obtain⟨ε,ζ,η⟩:=θ ι|Nn=>mg ε =Ι|C6=>#[bO ε]|CO=>EC α|K0=>by have ε:=ζ;have η:=θ;have ι:=ν;have ξ:=ο|MO=>au ε aN|Au=>dO K ε ζ η f fd|Co=>.pu (ET ε)|Ev=>by exact ε|Ll=>fun _ _ ε=>ζ|AdF=>ε FH X.w|CS=>by rw[RR ε]|Ts=>Ě ε CB|C7=>(ε ζ).nv|xI=>E6 Ex|AGb=>.Call ε ζ [] η|EM=>show ε from ζ|Db=>by refine⟨ε,ζ⟩|Bi=>EC Ζ|IN=>.A0 ε|ASw=>ALi (Tm ε) (.ζ η)|xL=>#[ε (i:=ζ) nd Β DO η]|pd=>Id F ε|Ĳ=>DD ε (Fk ζ)|Lm=>⟨_,ε⟩|CU=>by simpa using ε|P3=>ε b=Ι|DM=>aA ε ζ (bw η)|ALk=>fun _ _ _ ε=>ζ|ABf=>ME=ε|xN=>{ε with heap:=ζ}|K2=>(ħ z)|pe=>by decide+kernel|Cn=>EC Δ|CF=>EC Rw|xc=>(Kt _ Β)|DC=>by rw[<- ε];exact ζ|pf=>⟨F,Γ,_,R,h,ε⟩|E7=>.AZ ε|MQ=>Mo ε u|D6=>fun h=>ε|C8=>by simp [ε]|BS=>EC Ψ|ALl=>fun b ε e=>ζ|ALm=>ε K c (ζ Q) η xI|B8=>by rw[ε] at Χ|ALn=>ALk h (ε h)|Iy=>AKh ε ζ|BF=>by nofun|ei=>My AE|B9=>F.binds fun _ _ _ _ _ _ us hl=>ε
|Gc=>LV ε|D9=>i+1|jS=>(AdF ARm)|R_=>DF AAq ε|ja=>SR K F0 H0 ε ζ σ η|Jn=>xL gq ε ζ|ASx=>GG ε A ζ Q E s|DS=>ε (X:=ALj)|ASy=>BA (xF ε)|Bn=>(cV 2)|C9=>(i+1)|ĳ=>gM (i:=ε)|J_=>∀b,ε ->ζ|Do=>AX ε ζ|CC=>EC AF|K_=>Ap b ε ζ|Ĵ=>ε Ξ w|FS=>fun b hb=>ε|ĵ=>ALm ε D4 ζ|SA=>fU ε ζ xc|By=>∀{c:DZ}{ds P E}(h:ε c ds P E),_|As6=>fun cdv A Cf s H E hr F0=>ε|No=>ε a=Ι|V_=>(dY P w)|J'=>⟨ε,[]⟩|E8=>(BA a)|B2=>ε F ζ (ALn η) (As6 ⟨θ K c,ι,ν⟩)|As7=>∀{K:Ω}{c:DZ},_|C_=>.no|ABg=>Δ ->ε ->ζ|SB=>.type ε|Tu=>Ap ε s1 ζ|B_=>∀(As7){ds Q Ex}(h:ε c ds Q Ex),_|B'=>fun ds Q Ex h=>ε h|jb=>eg ε ζ aW|Tx=>W.mg_of X G ε|BXh=>ε (P:=ζ) (w:=w) (A8:=A8)|CY=>by simp|V'=>.AqZ ε|HE=>.B0 C|On=>aL K F ε ζ|Ķ=>cW ε ML Β ζ|P4=>BXh ε ASE|M_=>fun _ ε=>ζ|DI=>(qv 2)|FE=>ε (EL ζ)|IO=>.tup ε|ZZ=>upd H ε ζ|Cb=>mg ε =Ε Lc|AdG=>ARn ε CB= ζ|WA=>ĵ ε (aJ ζ ds)|ph=>by obtain⟨ε,Β⟩:=ζ|ķ=>DD ε Hp|xh=>EX ε x|M'=>if ε= ζ then η else θ|Go=>by rw[Y2 ε]|pj=>EC (EC ε)|ABh=>.ġ ε ζ η|E2=>(zN _)|DU=>Κ ->ei|KA=>by obtain⟨ε,ζ,Β,η,θ⟩:=ι|NA=>by simp [ε]|D7=>Κ ->AI|Zl=>xN s ε|ALo=>pf (fun ε AA F1 H1 ζ R1 s1 η θ=>ι)|HZ=>by show DE ε L Blu L;obtain⟨ζ,η,θ,ι⟩:=Hd.fun_at ν;show DE ξ L Blu L;obtain⟨ο,π,ρ,τ⟩:=Hd.fun_at υ|EN=>EC Row|ĸ=>(match ε with | ζ=>η | _=>D8)|e9=>fun b o ε ζ=> η|pk=>by exact AcH ε|IP=>z6 (m:=ε)|Hb=>⟨Β,ε⟩|GA=>fun ds P _=>ε|Ĺ=>AdG ε ((AC,Ts ζ)::ARn η CB)|LA=>(BA C)|Dx=>by ·rw[ε];exact ζ|Nw=>⟨ε,ζ,Β,η⟩|P5=>GY H ε|AGc=>AGb ε ζ Υ|Zp=>(by rcases TL ε with ζ | η)|Op=>(.dK AH)|ĺ=>fun ε H1=>ζ|E9=>A6 z ε|DJ=>by unfold ε at h|GB=>fun j=>ε|Fs=>EC Key|xi=>ja ε ζ Γ|LE=>fun ε ζ η θ=>by obtain⟨F,Γ,ι,R,h,k⟩:=ν;exact ξ|FU=>.AK i|ASz=>ABg Δ ε|WB=>fun Γ P E=>ε Γ (fun ζ AA=>η) E|EO=>.DB|EQ=>by obtain⟨ε,ζ,η⟩:=θ ι ν|DV=>_::_|ABi=>SA ε aW|Lo=>fun b hb=>ε|ABj=>#[ε ζ ML Β η]|As8=>backTo ε (ARn ζ CB)|FV=>fun i=>ε|HG=>fun w=>ε|D_=>⟨ε,?_⟩|xj=>(bw st)|Fu=>pd F'|AGd=>{ε with heap:=ζ,toks:=η}|D1=>by cases h|KB=>(by rfl)|I_=>(ε ζ η).JY|NB=>(bx _)|FF=>P ε AA|Ļ=>SR AG F0 H0 ε ζ σ η|GL=>aD ε (A6 ζ η)=θ|LG=>z6 (m:=ε) ζ|P6=>.dic|LH=>(k+1)|MR=>Q (BA ε) ζ|Ee=>by refine⟨ε,ζ,?_⟩|NC=>ALl o ε|ļ=>ABh ε ζ IJ|N0=>∀b∈ε,ζ|EH=>(cV 3)|ABk=>FC ε ζ t|AGe=>ε Ξ w
|Hc=>by
 have ε :ζ:=η
 have θ :ι:=ν
 have ξ:ο:=π
 have ρ:τ:=υ
|EB=>CH Β|xk=>D5 (LZ ε)|Ty=>(a::bs)|D'=>C6 #[gD ε]|EA=>∀(_:DZ),_|LJ=>ASx Ix ε|ALp=>ALo ε ζ r1 h1 η|Lu=>B7 i|FX=>X.calm=Μ|Zs=>ε .leaf|ALq=>(ASy ARH)|WC=>Ķ ε (HV ζ η)|SC=>by show ph t ε|GM=>pb α (β×Ψ)|N1=>ε (ζ:=η) (θ:= ι) (ν :=ξ) (ο :=π)|Lv=>BB (B7 ε)|FG=>Lm Β|HH=>by rw[ε,ζ]|EU=>EC Pt|P7=>FC QS ε ζ|Z3=>(ES+1)|JA=>by rw[ε];rfl|Ľ=>Ĵ kW|WE=>ε (i:=ζ) (η:=θ)|Os=>DD ε AB|F6=>(Rs ha)|GN=>fun ε ζ η θ ι=> ?_|WF=>(Of 1)|ľ=>ABj cW ε ζ|He=>by rw[Da]|E3=>by cases Χ|KE=>fun ε ζ η θ=> ?_|E4=>by split at h|xl=>fun a ε=>ζ|F7=>(qv 3)|GE=>B7 k|E5=>ABf 2|Z_=>(ε b hb).1|xn=>ε Ν s σ H _ I h|ND=>aB (ε c) (Fm ζ η)|FY=>h.1|SD=>by rw[ε ζ];exact η|T0=>(MO B1)|Ŀ=>aK K Eg ε|e_=>AGd s ε ζ|AS0=>ABk QA ε|GS=>by obtain⟨_,_,Β⟩:=len2 hl|Z'=>jI iT ε ζ|AS1=>pb Κ ε|aE=>bT ε (Tu ζ η)|G0=>z7 (α:=_)|AGf=>ε (X:=ALj) (ζ:=η)|ABl=>⟨ε,g,d,ζ,os⟩|xo=>AFe ε|HI=>if ε=Μ then ζ else η|L4=>EC Env|MS=>.pu (FM ε)|LL=>⟨ε,_,ζ,Β,η⟩|MT=>R_ n|Fc=>a::l|KF=>AAn AE|ALr=>.bool AC|T1=>z9 _ Β|fA=>show(ε:Ρ).OO by show pe|aI=>.leaf ε|LM=>by refine ε;refine ζ|jn=>upd H1 ε ζ|fE=>B7 ε≠0|pp=>r.2.2|F8=>by show Db ε ?_|F9=>α ->AI|SE=>aj ε aq|jp=>(As8 ε ζ).any (·.1)=AC|N2=>if ε then ζ else 0|AdH=>by obtain⟨_,Β⟩:=ε|AGg=>Ace ε|HK=>EC T|IQ=>EC Bd|WG=>AKh ε (ζ η)|P8=>M0 bU ε ζ|AGh=>Fr ε c|Oy=>DH Β ε|GT=>xi F H|SG=>(ε b hb).2|IR=>(.refl _)|T_=>cO Γ σ H b|N3=>gU Γ σ b|G1=>fun ε=> ?_|aS=>∀h∈ε,ζ|N4=>∀{ε :ζ},η ->θ|GU=>#[qU]|SH=>by obtain Β:=ε|P9=>⟨ε,Β,ζ⟩|O0=>iX ε=Ι|MU=>by have:=ε;omega|Hk=>CH q|NE=>DH ε Β|xp=>z6 (ε ?_)|P_=>(FR x ī)|GV=>∀(c:DZ),_|pr=>J_ ε (ζ b=η b)|SI=>Sz 4000 ε|T'=>k.nx _ _ _ _ ε ζ η|js=>Ě ε CB|O_=>fun σ H Q=>ε σ H (ĺ ζ η)|As9=>#[.B0 ε,BI,BI,BI,ζ,BI]|LN=>by obtain⟨ε,ζ,η⟩:=h|SK=>by obtain⟨ε,ζ,η,θ,Β,ι,ν,ξ⟩:=ο|N9=>by rfl|AGi=>.Aqu ε|jv=>[.Cc ε]|Hm=>A_ ε ζ η (θ) ι|AGj=>Aqi (AbQ K ε ζ)|HL=>xh X.N|As_=>Ĳ D D|L5=>On ds vs|fF=>Ĺ HC e es|AS2=>blk X sc N' ε|L6=>by rename_i q|AGk=>by cases z|QP=>(n+1)|aT=>∀b∈ε,ζ|ac=>FD ε ζ [η] θ|j_=>mg ε=Ε (BA ζ)|xt=>(Gc 0)|PD=>by refine⟨ε,ζ,η,?_⟩|AGl=>ε=KW AC|UA=>Zl h'|HP=>by intro Ν s σ H Q I h|ABm=>∀(hd:To x (AKm :Κ):=by decide),_|KG=>AsP K Eg|JE=>Gl X x|SL=>(ε).nv|UB=>H ε=Ε ζ|PF=>[BQ]|UC=>fun v ε=>ζ|Hn=>(cV 4)|N_=>H ε=Ι|NF=>cB dD ε ζ|SO=>My Ψ|ad=>(FM vs)|IS=>BEh _|L7=>by by_cases e:ε=ζ|AS3=>EG ε te|AGm=>ĳ 0|pv=>jb m8 ε|LO=>Uq Ξ|AGn=>M0 dD ε 1|ae=>ASz Ψ|IU=>K_ u e|SS=>∀r∈Ξ,ε|xw=>AGf ε i ζ|H_=>D ->As_|NG=>show ε=ζ by omega|KI=>z7 (α:=_) ε|IA=>by show K0 ε (AdE ζ) η (AdE θ) ι (AdE ν) ξ (AdE ο)|j'=>by obtain⟨ε,ζ,η,θ⟩:=h|L8=>B7 n|ŀ=>oR ε ζ=Μ|UD=>(by rcases zT.mp ε with ζ | η)|af=>ASw ε Aqu ζ|NH=>P3 H|ah=>ALl u ε|WH=>BB ε/ BB ζ|pz=>z8 _ e|ai=>by show Zp ε Β ζ|ABn=>IZ ε us|UE=>z6 (ε ζ η ?_)|xx=>ASw dP seq ε|fI=>ľ ε (HV ζ η)|AGo=>GG jS X.A ε ζ wb s|kA=>(eV V_ P w K mg A8 N EI xj f cdv A Cf s H E)|ALs=>ε=Kb|NI=>(-1)|UF=>.d5|AGp=>(ε ζ).BDi|al=>A6 j ε|UH=>fun i ε=>ζ|JI=>by ·exact oS|ALt=>[Mn,ε]|ST=>cB cN ε ζ|UI=>(IN Β)|SU=>dt rs ε|xy=>fun b ε hb ζ=>η|AdI=>(gV Ξ w).ε|JJ=>by obtain⟨_,_,Β,_⟩:=h;rfl|ALu=>DecidableEq ε|WI=>.AZ|xz=>if ε then ζ b else η|KK=>by by_cases q:ε|KL=>by ·exact .AZ ε|WJ=>IM ε j ζ
|KM=>ZY (ZZ ε ζ) η|SV=>fun b ε q=>ζ|SW=>(d_ ε).1|ABo=>AGb ε ζ Fh|SY=>ķ St|OA=>pj Κ|AdJ=>AbQ K ε ζ =Ε (Ch η)|am=>bB K ε ζ=Μ|As'=>ε=TD a|ABp=>k _ _ F H (ĥ sF) ε ζ|SZ=>ε<=9000|UK=>ε=Ε u|x0=>A6 r ε|p_=>fun r ε=>ζ|L9=>(qv 4)|av=>FC ε e ζ
|LP=>by
 have ε:ζ:=η
 have θ:ι:=ν
 refine ξ
|x5=>by show ε;omega|kB=>.refl _|ABq=>Apart σ ε ζ|QQ=>b≠a|aw=>bW (iG e ε)|NJ=>AS0 HC|NL=>BO b hb|AtA=>.obj C' fs ds|AGq=>bN FH X.w ε ζ η θ|x6=>by obtain⟨ε,ζ,Β,η,θ,ι⟩:=ν|WN=>∀p∈ε,ζ|QU=>EC β|UM=>(by show pe)|qA=>ES+1|MV=>zN _|QY=>B4 q|x_=>.A0 (IN ε)|ALv=>Tm MZ|fN=>GY MA ε|NM=>(Rs he)|kC=>eg qy ε ζ|AtB=>show ε by decide|Ł=>(a::cs)|PH=>Nn AKc|L_=>by rw[q] at e|ł=>by obtain Β:As' ε:=ζ|WO=>fun ε Γ E=>ζ Γ (fun η AA=>θ) E|ABr=>ĸ ds ε ζ|kD=>(ABi B1)|Ń=>(Re vs)|qB=>dB (fun ε ζ=>η) θ|WP=>fun p hp=>ε|Qb=>.AY|WS=>fun r=>ε|PM=>by obtain⟨ε,e⟩:=ζ|MW=>by rw[ε]|yA=>A6 b ε|Sb=>B7 0|qE=>Mo H ε|OB=>My Ζ|qS=>by rw[ε,ζ];rfl|AS4=>EC (Ĉ ε)|ń=>ĸ d ε ζ|ALw=>uT AG ε|ALx=>M0 dD ε 0|qV=>ε MC e|Sc=>j7 rs|kF=>(AGg s2)|ABs=>e9 e n ε|ABt=>by by_cases hb:b=ε|Ņ=>jI aB (ε c) ζ|ņ=>∀b o,Kx ε ->ζ|Qr=>Rep K F d v|WU=>(NU (kW Ξ))|qa=>[a,b]|AdK=>Ctx K2 F0 H0 E|MX=>AGm (fA ε) Β DO|Ň=>.cell|ABu=>AKl ε|OC=>⟨ε,ζ,Β⟩|UN=>RR (ε)|Q1=>.B0 l|WV=>Ap ε ζ e|qc=>Fk AM|qf=>Id F1 ε|ax=>by obtain⟨ε,ζ,η,θ⟩:=id ι|Q2=>(Rs hb)|WZ=>P ε BY|ABv=>EZ (C7 ε ζ)|yB=>(match ε with | ζ=>η | _=>AC)|We=>fun b u ε ζ=>η|NN=>ABf 1|NO=>by obtain⟨F,Γ,P,R,h,k⟩:=ε|Se=>zG e|PP=>β ->AI|NR=>by show pk hq|yT=>aL AG ε ζ vs|UO=>Ĳ AM AM|fR=>AtB (fE ε)|fS=>∀b u,MQ ε ->ζ|AdL=>sy (C5 ε) Β aZ boot_len ζ|NS=>fun z E cx=>ε ζ (LE η σ H θ D2 ι ν)|Ba7=>fun _ _ _ _ _ _ q=>ε|Wp=>by obtain⟨u,ε,ζ⟩:=η|W_=>(ε&&ζ)=Μ|Sf=>.pu (.AT ε)|AGr=>AX ε q|fT=>.bl _|qh=>M3 Δ|OE=>Ev h|AGs=>j6 K ε=Μ|qi=>⟨ε,vs,Β,ζ,η⟩|PQ=>IE v u|OF=>x::xs|AdM=>xk 2|AGt=>WC ε B1 ζ|Si=>∀x∈ε,x∈ζ|ň=>Z' lX ε|AdN=>hb (NA ε)|AGu=>AGh Aq2|ABw=>(C5 (nC hu))|OG=>qP ARc x|AGv=>M_ _ D8|OH=>(by rcases ε with z | z)|ŉ=>fun ε ζ P hp=> η|ALy=>dg s x|yY=>ε P w K mg A8 Eg ζ η θ (ι c)|OI=>∀{K:Ω}{F:Hp},_|OK=>#[tZ (yc ε)]|fc=>fun e=>ε|Q3=>fun q=>ε|Sj=>by rw[show ε from ζ]|kG=>by obtain⟨v,ε,ζ⟩:=η|Sk=>by grind|Ŋ=>⟨ε,Β⟩|PR=>⟨ε,ζ,?_⟩|Sl=>A6 h ε|UP=>.B0 p|ABx=>Ap ε s2 ζ|kH=>s.2.1|AGw=>Id ε H'|ŋ=>eg qX ε ζ|ABy=>PE X e ε|W'=>(MO A1)|UQ=>Lm e|kK=>P3 F|AdO=>(FR x p)|Ō=>h∈s|kL=>xh xs|PU=>A.handled=Ι|fe=>(NU .AZ)|Q4=>IE y u|ay=>∀b o,ε ->ζ ->η|fg=>xl ha ε|UR=>by show AdH (len1 hl)|ALz=>Rep K F' ε ζ|US=>nj fun ε _=>ζ|AGx=>.ins C dx ε|fh=>(z8 _ e)|XA=>fun j hj=>ε|AS5=>ε AG F0 H0 t E|PV=>P4 ε c ζ (Tx η) θ|a_=>ALp ds vs ε|UT=>∀(X:Cx) (F0 H0:Hp),_|UU=>fun F0 H0=>(Ev ε)|ABz=>(ε).į|bE=>by obtain⟨o,ε,ζ⟩:=η|bP=>by obtain⟨ε,ζ,q⟩:=η|bS=>by simp [ε,ζ]|kM=>by rw[ε,ζ];exact η|ya=>A6 i ε|XB=>fun ε ζ=> ?_|AB_=>ZY H' ε|AS6=>(FM [])|yb=>.A0 Β|XE=>P (ET ε)|XG=>P (.bl ε)|ō=>ALG i ε|AGy=>FS ⟨ε,ζ⟩|Q_=>WA ε 2|fq=>dF i|bc=>pj α|ye=>(kW Ξ)|qk=>pb κ V|AGz=>(ABi A1)|yi=>.AK ε 0|kN=>N0 fp ε|qo=>∀b u,ε ->ζ ->η|AB'=>.dic ks ε|Sm=>AS3 e|Bb6=>AcF ε (bw ζ) BH f cdv|ACG=>(wt .AK)|ACH=>ε _ _ _ _ ζ|RA=>e _ _ ?_|UV=>by rw[ε] at ζ;cases η|yk=>yd ε=Ε (ζ,η)|XI=>∀j,j<ε ->ζ|AdP=>fun ds P=>ε|AdQ=>cJ ε (ArZ ζ)|ACI=>ε Ν s σ H|XL=>∀(ABm)(hcd:To x (ArC :Κ):=by decide),_|XN=>(fr t b).2|AtC=>∀z E,AdK ->ε|BcA=>(AS2 C NX iS fp)|RC=>#[ĳ ε nd Β DO]|ft=>.AK|ACJ=>fun c=>ε|ACN=>by rw[Da,ε]|bi=>by obtain⟨ε,ζ,e⟩:=η|UX=>(ε ζ).du|qq=>(ε ζ).Abz|Sn=>Ĕ h|So=>(ε ζ η).nv
|AG0=>Hd.fnO K ε ζ|AG1=>(Ch E8)|kP=>VV ε=Μ|ACO=>Ξ[i]|yn=>pd F1|bv=>by rw[ε];refine ζ;refine η|f_=>(IO xs)|XT=>by obtain Β:ε=ζ:=Τ|AdR=>AGc (FR ε p) ζ|AS7=>OR ε=Ε o|UY=>ε b u e|ACP=>AbQ K ε ζ =Ε Ι|b9=>by show SC rx|gE=>(ε+ ζ).eD|ACQ=>by have:=ε;rwa [ζ] at Χ|ACR=>c::EE|Ŏ=>aE ε ζ CM|AS8=>Fr ε .local|kQ=>ε b o e|yo=>(.frz o Op)|Sr=>by obtain⟨x,H1,I1,r1,q1⟩:=ε|ACS=>by refine LG ε (ζ η θ ι ?_)|ACT=>lW (k:=ε)|gI=>cJ k X.A|qr=>seqObj MZ ε ζ|Su=>by show DT u Β rx AR2 r|ŏ=>xy o e ε|AS9=>Ļ F1 ε AA|AS_=>ŀ a b|AG2=>WE Cw ε m ζ|b_=>(fr t b).1|UZ=>Jn ε #[bJ (C5 ζ) η θ]|AG3=>ε (aB (ζ c) (Fm η θ))|XU=>fun x=>ε|kR=>by obtain⟨o',ε⟩:=ζ|Uf=>by unfold ε at e|yv=>by cases ε|U1=>EC κ|yy=>.bool ε|Ő=>(ε ζ).IF η=Ε θ|U2=>by have ε:ζ:=η;have θ:ι:=ν;have ξ:ο:=π|ACU=>Mo ε ob|y0=>IM ε q ζ|U_=>My V|q_=>(Ch v)|kT=>EX Γ ε|AG4=>EX ε v|U'=>M0 dR ε ζ|kU=>D5 BU|cE=>P (FM ε)|ő=>b≠0|VA=>ps[i]|ACV=>Kx TH|kX=>Kx OR|AG5=>jb vU ε|ka=>(ε).up AD|kg=>by show KA ε us ζ η θ|VC=>Ĳ AM D|y_=>NC pz|AS'=>ASw MZ seq ε|AL0=>LJ (ε (BA ζ))|cK=>aI d|AL1=>pr ε H2 ζ|ATA=>lV X (Abs .ε) ζ|gL=>ALs Pw|rL=>ALu κ|AdS=>ĳ ε nd Β DO|AG6=>h0∈Ľ|VI=>W.mg_none_of X G ε|AG7=>TM σ ε|VM=>∀(I:AS),_|XX=>(A6 y (AdN y))|VO=>WB t ds ε|ki=>ALp d v ε|AdT=>Tl μ d|AtD=>ε ->DD Hp VK|VQ=>AbO K nX ε =Ε Ι|AtE=>ALi HE (.Aqu (As9 ε ALr))|AtF=>{ε with nx:=ζ,ct:=η,bk:=θ}|VS=>by subst hP hw hK|AtG=>xw tQ i ε hv hd hcd|ATB=>n_ ε|ATC=>Hd.adr_of ε|AL2=>.function|kl=>fun k=>ε|rS=>BH<=ε|XY=>ε<BH|XZ=>by split at q|AG8=>P.below ε|AL3=>by simp at ε|Xs=>EC AN|rV=>⟨o,ε⟩|km=>(BA x)|cS=>B7 1|zC=>H1 ε=Ι|ko=>(cC BE)|cc=>(ε ζ).JY η|rX=>E6 D8|re=>Κ ->Ψ|Œ=>∀p∈ε,ζ|AtH=>(Mn :Κ)|zD=>dF j|ce=>M3 AI|œ=>(.dK Ń)|AdU=>MQ TH|X0=>by rw[B4 ε] at h|kq=>Jn ε (fI ζ η θ)|X2=>fun i hi=>ε|rh=>No F'|ATD=>by show ε;decide|cf=>.tup xs|kr=>ED/2|Ŕ=>(AGe kW)|ku=>P (qD ε)|ACW=>Z_ hn|gN=>(AGc AdO HC)|gS=>ABn xs|X9=>bO #[gD ε]|ci=>e_ h' tk|AtI=>Hd.isRef (AbQ K ε ζ)=Μ|AL4=>ABq Γ ε|AtJ=>Nw _ ε Β|AL5=>fun σ H Q=>ε|AtK=>W.isFn K (BA ε)=Μ|zI=>ε σ H1 fun ζ H2=>η|X_=>Pm n p|YA=>by show ABt a|YE=>aX ε (aB (ζ c) (Fm η θ))|AG9=>∀s∈S,ε|ATE=>eY (Fm ε ζ)|ATF=>Ari ε ζ (x:=η)|YI=>by show ł u rx|ATG=>ε+21<ABM|AdV=>(ļ e "values")|AG_=>(oU qs).i4|rq=>Gr F H F' H'|AtL=>⟨tg,Pl,ifs,0⟩|ck=>EG a ta
|AL6=>∀(hdb:To x (AKm :Κ):=by decide)
 (he:fF:=by rfl) (De:jp Υ es:=by rfl),_
|YN=>by obtain⟨_,Β,_⟩:=h;rfl|AL7=>by obtain⟨ε,ζ,Β,η⟩:=mV θ|gT=>Sat lt n ε ζ|ky=>ASw dr dict #[]|ATI=>(Lo (k b (zW _ hb)))|AdW=>∀C NX iS fp F0 H0,ε BcA F0 H0 ζ η|AG'=>AE ->ε|ŕ=>.leaf|cn=>fun b=>ε|r6=>by rw[ZU]|gc=>by obtain⟨sl,ε⟩:=ζ|cq=>by split at e'|cr=>ε ->ζ ->A_ η θ ι ν ξ|ACX=>fun vs ε=>ζ|r8=>(cV 6)|AHA=>.B0 BH|gf=>Ap h' ε ζ|r9=>FC QT ε ζ|gi=>Lp lt p ε ζ=Μ|cy=>.AK _|cz=>B4 AaV|gu=>M0 ε ζ 1|AHB=>HV A1 ε|zS=>(ε ζ η θ).nv|ACY=>(ARm P w)|gy=>ws[i]|r_=>Kx MA|ACZ=>M3 D|AHC=>M3 Row|ze=>Nn MZ|AL8=>Iy ε A2|AtM=>J' AGv|k7=>Hb Β|AHD=>P5 u|c0=>by intro Ν s σ H D I h|ATJ=>bW (iG q ε)|AL9=>(AGe gV)|AL_=>P7 (.AKr ε ζ Υ) η|k8=>z6 ?_|Ŗ=>.tr as ε|AdX=>AGi (As9 ε ALr)|k9=>∀(t:cP),_|ŗ=>(0,0)|AL'=>∀a∈as,ε|AMA=>[.AK ε,.AK ζ]|c8=>aD l f|AdY=>ε (t' :=L')|AMC=>(uG qs)|AtN=>(.A7 Z3)|ATK=>ABl h (t+1)|AdZ=>AGo ε (ζ X Ν σ Q)|Ada=>sp ε ζ fun η=>E AA θ|Ř=>eZ X (V' ε) ζ|g6=>AcP+1<ABM|k_=>(vf st)|c9=>(Aby hc)|lI=>fun r hr=>ε|ATL=>ND xR At ε|AHE=>ε K F0 H0 ζ E σ H Q|AHF=>mO Eg ε At|AHG=>yL ak ε B1|c_=>t::ts|dA=>(by rcases ε with h | h)|lL=>bh (dU ε)|AMD=>AdP (ABr ε ζ)|ACa=>#[ε ζ η θ Β DO ι]|dC=>pI P w H h|ACb=>GG jS X.A ε ζ η θ|zh=>dU (dZ ε)|dE=>(AtG hN)|lP=>(match ε with | ζ=>η | θ=>ι | _=>D8)|ř=>.pu (gP Ξ)|lS=>(ofM Ξ m)|Ś=>fun _ _ _ ε ζ=>η|g9=>(by rcases ε with ζ | q)|g_=>by split at h1|zk=>by trivial|ś=>(qv 6)|lT=>B7 j|zn=>B7 AdT|la=>BB (LZ ε)|ACc=>jI m9 ε ζ|hG=>(Rs h)|AME=>TD a|hV=>.AT _|AMF=>EZ BDw|Ŝ=>PE X (.ε ζ η Υ) θ|sA=>(E7 w)|ŝ=>ASx jS ε|ACd=>a::bs|Ş=>fun i H=>ε|zo=>No H|AMG=>z8 _ q|sB=>by show Go Β|lc=>LB Ξ|sC=>pb Key V|ş=>⟨o,e,ε⟩|AtO=>(kW Ξ w).ε|zt=>v= BQ|lf=>AS1 AcE|lh=>xo hi|Š=>Q v H'|hW=>d::ds|hZ=>SG hn|ATM=>jv xs|li=>(AGn At)|AMH=>ABl h t|ATN=>AdI nv|sD=>by show DT ε ζ Β o_ η|sK=>AS4 AI|sL=>(j::cs)|lj=>WB te d ε|h_=>∀(qs:A5),_|AHI=>pV ε rs j|iA=>(hu1 hu)|sN=>(0+ Lu)|š=>∃t,u=ε|AMI=>AS9 H1|lr=>frs JU|ACe=>ox i 0|Adb=>Bl8 ε ζ η θ (ι _)|iE=>by refine ε (bT ζ (Tu η θ))|iF=>AtJ T1|lx=>ALz d v|Ţ=>AtC (ε K2 ζ (AS5 η))|sQ=>by obtain⟨_,_,_,Β⟩:=tu hl|ACf=>ε fun o e=>ζ|ly=>D6 (qD (ε h))|AHJ=>(AFo i).Abg|zw=>FE bO (FE gD ε)|ACg=>AR3 K fd ps []|ţ=>[AtH,a1,a2]|AtP=>[Mn,PZ,ε]|iN=>IE x v|AMJ=>⟨ε,H,I,Β,ζ⟩|AtQ=>by obtain Β:b=ε:=CU hb|ATO=>aL K F' ε vs|sR=>gB Ξ x r|z_=>(apos.endLine==cpos.line)=Μ|Adc=>∀x c,AGu ->ε|Ť=>ε AA (fun ζ A4=>η) E|l_=>(.BFw elt [AtL] sc Υ)|BeW=>backToKw ε (keywordEach [] CB)|Ade=>(SR K F0 H0 F H σ Γ)|iO=>N1 ε mg mg P ASE w w A8 A8|l'=>nomatch e|mB=>by obtain⟨Β,ε⟩:=ζ|mE=>by subst Χ|AHK=>ε<ARR|mI=>by refine xp ε|sT=>by rw[ε,ζ] at Χ|AtR=>by obtain⟨_,Β,_,ε⟩:=ζ|mM=>by apply List.ext_getElem|mP=>by kernel_rfl|ACh=>⟨ε,BO ζ η⟩|ATP=>by rw[ε,<- ζ];exact η|ť=>A6 d ε|sd=>Y2 (ε ζ)|se=>fun ε s' =>ζ|Ŧ=>(cV 8)|ACi=>(ET 0)|AHL=>FC QF ε ζ|mS=>(BH+1)|À=>MC ε _ ζ|ACj=>.AK pp|AHM=>(Of 0)|ŧ=>ε (i:=3)|ATQ=>I.tok _|mT=>B4 Η|Ũ=>.AZ x|ma=>.Cc xs|md=>Ib _ _|Adf=>(Ara ε).1|me=>ABf 3|AHN=>(FR x np)|AHO=>Ĵ gV|sf=>AAn Δ|ACk=>(V' id)|ũ=>by unfold ε;grind|mh=>WA ε 4|sg=>M' i ε ζ η|si=>GA (∃(ε:ζ) (η:θ),ι)|AHP=>(.bl AC)|sj=>ASz AO|mi=>z6 (Y3 ε ζ η)|AHQ=>by rw[ε];omega|ACl=>TH ε=Ε o
|mo=>by rw[ε];grind|AHR=>b∈as|Beu=>jn ES ε|Á=>P8 ε 3|AHS=>∀a∈l,ε|sq=>AsP AG C|Adg=>∀x,x∈ε↔ζ|mr=>(EW qD)|ATR=>ALt PZ|mv=>LD u|AHT=>C4∈m|Adh=>fQ K F H ε ζ as|mw=>r::rs|Â=>IP ε (ζ ?_)|ACm=>.dic ε (Zs ζ)|sv=>(ň At)|AHU=>GG Ix A ε Q E ζ|my=>ABy te|Ū=>fun i j=> .AK ε|ATS=>Ap r s' ε|Ã=>t σ H Q|AtS=>AGl (AFs ε ζ ArI CB)|m3=>∀(te:cu),_|ATU=>(hn a ε).1|ACn=>Inv K2 Ν σ ε ζ|m4=>by intro X hP hw hK hc i Ν s σ H E I hf st hg|AMK=>yB b ε ζ|sx=>PE X a ta|s0=>∃r∈Ξ,ε|AML=>(AGt aO aW)|AMM=>⟨F1,AA,_,R1,ε,ζ⟩|m_=>f::fs|nE=>fun h hh=>ε|AHV=>cC (.AT (AR6 ε))|nI=>BO p hp|s_=>aK AG C f|AHW=>ja F' H' BY|tF=>by show fD _ ε _|ACo=>GK led ε|Ä=>(x h - ALy)|nK=>Ll x x|Å=>gW s o a|nL=>by obtain⟨hp,g,d,tk,os⟩:=ε|ATV=>ArX e ε CB (js e)=Ts e|AHX=>Dw ε I ζ η S n ep|ATW=>rC knd kf ε o ks es ep t|AtT=>ε C NX iS fp vW vX AtM kj|ū=>h1.1|ACp=>fun u=>ε|tI=>by split at e|Adi=>Hd.adr_of ε|tJ=>EC GI|tN=>⟨ATC ε,ζ,η⟩|ATY=>ε (AKl ζ)|Adj=>L'+1|tP=>(cV 5)|tS=>(qv 8)|tT=>AFe h|tj=>by ·subst e;exact ε|Æ=>FC QN ε ζ|tm=>by rw[ĭ ε]|AHY=>.AK j|tq=>AKh (ε ζ) η|AHZ=>(FM xs)|Ŭ=>E6 0|ŭ=>(Ch 1)|AMN=>EX AA ε|Adk=>HA - ε|AHa=>FR Mn ε|ACq=>.AZ (E7 ε)|ACr=>GY ε o|ATZ=>Ε Ň|ATa=>Fr mg ε|ATb=>Fr iX ε|tw=>.Cc ts|AtU=>To ε BDf|Ů=>Nn dq|tz=>Ev n.elim|AMO=>(AdF qx)|t7=>by show CS AD|t9=>pd H|AMP=>P3 H'|Adl=>W.keepIn K ε=Μ|ATc=>xN s' ε|AHb=>(qx P w)|t_=>by show B8 e|ACs=>.AT h|Ç=>ASx M ε|È=>No H0|uA=>.bl b|AHc=>h∈Ľ|uB=>by unfold ε;rw[ζ,η]|uC=>WA ε 3|É=>AG2 ε ζ AD|uS=>by show Go (EF ε)|ACt=>Nl ε 0|ACu=>e9 ε ζ ?_|ua=>by show pk q|AHd=>show ε by omega|ACv=>Ě ε BN|AHe=>On xs vs|Ê=>K_ u q|ACw=>∀h',ε ->ζ ->η|ub=>bW hb|ů=>by have:=ε;simpa using ζ|ue=>(xn ha)|Ë=>SD bW ε ζ|Ì=>by rw[B4 ε,B4 ζ]|ACx=>by refine bT ε (ABx ζ η)|Í=>ah (AX ε ζ)|AMQ=>lV X (BEi .ε) ζ|Bfp=>W.Looks.here (s:=ε)|Ű=>AdI B6|AMR=>p_ s' ε|ui=>(c::ds)|uj=>(g i j)|uk=>Tl t b|AMS=>z6 (ε (ζ ?_))|ul=>ń AtA ε|ATd=>qf F2|ut=>Ba7 om|ATe=>Sem AE|ű=>Ll _ D8|ACy=>ŉ ε ζ ?_|uu=>m∉fs|uv=>Ŋ t|AHf=>ŋ aW ε|Ų=>Ll q q|ų=>nY K H a xs|Î=>(AdL yJ T0)|AHg=>TR K F' H' ε ζ η|Adm=>X.fn x=Μ|Ŵ=>VZ i _ e0|Ï=>fun w hw=>ε|Ð=>(Nd pD)|u7=>AG0 (AGj ALq ε) ζ|Adn=>AS8 BlS|Ado=>(Rat.divInt t b).ε|u8=>AG3 bh ε ζ η|ATf=>BB s.2.2 - ε|ŵ=>WG ε yS _|Ñ=>ABp KB h|AMT=>(hn a ha).2|AMU=>Rep AG ε d v|u_=>AtD AQ|AHh=>-(2^62)|AtV=>ε (t' :=ARt) ζ|vE=>AtI ALq ε|vF=>AtK (AGj ALq ε)|Ŷ=>#[pO ε ζ aW NB]|vS=>DG (B3 72) ε|ŷ=>(mW Pf)|AMV=>ε X F0 H0 tg ζ η|AHi=>ε Ν s1 σ H1 _ I1 q1|AHj=>a==b|ACz=>fun q hq=>ε|vT=>by show PD (fun i Γ=>ε) ζ ?_|ATg=>by show GG _ _ ε _ _ s|AHk=>h0::hs|va=>by rw[RY] at hbs|Adp=>∃m',m' <m/\ε|ATh=>aD S fun s=>(N2 ε ζ)|ATi=>(Beu AtN)|Adq=>(.tr Ty t)|vb=>k _ _ UI e|vc=>ε ζ η (EM (AGq _ _ _ θ) ι)|ve=>∀F0 H0,ε|ATj=>Ψ ->Ψ ->ε|AtW=>DD Hp VK|vi=>by obtain⟨_,_,_,Β,_⟩:=h;rfl|vj=>by have ε:(ζ==η)=AC:=θ|vk=>#[au ε aN]|ATk=>(fs++ [f])|ATl=>by show AdH b;exact⟨ε,ζ,η⟩|vn=>by show SH b;exact⟨ε,ζ,η⟩|vt=>Ord lt n|vx=>(lo+hi)/2|Ò=>fun x y P=>ε|ATm=>(upd H2 A3 AS6)|BgA=>ATG (ArZ ε).units|Ÿ=>gY xs ys|AMW=>fZ 2 (bC ε (bC (Gc ζ) fY))|vy=>⟨kB,ε,ζ,ABs (by rw[e] at n;cases n)⟩|ATn=>Bt (j:=ε) Β|Adr=>sW ε d es ep
|Ads=>∀x,foldedSetIterable ε CB x=KW x|ATo=>{cls:= ALv,dict:=ε,AAo:= ζ,AKi:= η}|Ó=>GG _ _ ε _ _ _|vz=>by rintro Ν s σ H xs us Q I r ⟨F,ds,P,sF,rs,h,k⟩|AC_=>.JP|AC'=>ACO.1|Ô=>fun ε ζ η=>⟨θ,ι⟩|ADG=>by obtain⟨ε,ζ,Β⟩:=η|Õ=>by obtain⟨ε,ζ,η⟩:=CM|Ö=>show ε from Β|Ø=>by rw[<- Χ]|Adt=>AGK ε|Ù=>by show pe|Ź=>by rw[ε,ζ]|AtX=>BDm ε =Ε ζ|ź=>(ε ζ).OO|ADH=>⟨CD,ε⟩|Ż=>BH+1|ADJ=>(BA I)|ż=>(BA BH)|Ú=>(cV 7)|Û=>by ·exact Iy ε ζ|Ž=>(qv 7)|Ü=>RR h|Ý=>ε (i:=i)|AMX=>(ε b hb).2.1|ADK=>by rw[ε];omega|Þ=>(BEh _)|ß=>Id ε H|AHl=>GY F ε|ATp=>D5 wS|ž=>P []|à=>.Cc _|á=>M3 Ψ|ATq=>(Kt _ D8)|â=>by show CS (EF ε)|ã=>by refine⟨ε,?_,ζ⟩|ä=>by show Db ε (BO ζ η)|å=>(FR x Υ)|æ=>by rw[CH ε] at h|AHm=>.AT w|ç=>.AT x|ADL=>(nF w)|AtY=>ε/ BB AqU|è=>by cases r;rfl|é=>by show SC r;rfl|ſ=>AAn GenState|ϊ=>by unfold ε;rw[ζ]|AMY=>ZZ ε (FM ζ)|ADM=>aK K C ε|ADN=>hS b hb|ê=>pb Κ V|ϋ=>IE x u|ë=>As8 Υ ε|Adu=>(AGe mW)|ì=>Os Unit|í=>c::cs|ό=>AS1 Ζ|AMZ=>Fr ε .cell|ύ=>e9 q n ε|î=>.pu (qD ε)|ATr=>Ĳ D AM|ATs=>pv (AG5 ε)|AHn=>(AGn AR)|AHo=>(AGc (ļ o m) HC)|ATt=>fun σ2 H2=>ε|Adv=>(AQ9 qD)|ADP=>eZ X (SB ε) ζ|AHp=>(ALx At)|ï=>Ņ ε At|ð=>(.ow ds)|ñ=>Ba7 q|ADQ=>(n,k)|AMa=>Q () s'|ò=>AGs C|Adw=>.ARr .And ε Υ|AtZ=>x≠ "__name__"|AMb=>d9 f hs|ADR=>w∈ws|Adx=>(ε ζ (AGD η)).θ|ó=>AB' ts|ώ=>ACQ ε Da|Ϗ=>O_ ta x ε|ADS=>ε AG H ζ ys|AMc=>AG7 H|ϐ=>Ii I hg hm ε|ô=>∀l:CO,ε|ϑ=>[FA,NW]|AMd=>dU (dM 1 ε ζ xt η θ)|AHq=>nZ ε i=Ε ζ|Ata=>AdJ LA ε Lc|AMe=>ATE ε WF|ϒ=>(cL ns ε).LS|õ=>Abt apos.atName|ϓ=>(frs JU)|Ady=>ATJ hn|ADT=>AdZ ε EP|ADU=>ATL (Of ε)|ö=>Meth K Eg ε f|ø=>fun c hc=>ε|ADV=>by with_reducible refine BmZ ε ?_|ϔ=>PI X tg ε ζ|AMf=>Gr ε ζ F' H'|ATu=>KV AH vs|Atb=>fun b hb u q=>ε|ADW=>Adc (c≠ε)|ϕ=>nZ (ε ζ) η=Ε θ|ATv=>∀r∈Ξ,ε|ϖ=>EG b tb|Adz=>cW ε ML Β ζ|ù=>α×β×Ψ|ú=>ABg Cn AI|Atc=>Bfp ATK|ADX=>(iJ Ty H)|AHr=>ACH Fn.len hs|ATw=>fD one ε P|ϗ=>EP X Ν σ Q ε ζ|Atd=>by obtain⟨oc,od,kV,doc,pm,an,cdv,ct,osl,Β,lk,hcd⟩:=ε|û=>by show ai hb hb|ü=>Hd.isRef (AbO K nX ε)=Μ|AMg=>ε X vs H Q|ATx=>sIx Rc 0 lo|ATy=>AtF D ε ζ TM|ý=>by obtain⟨v,_,Β,ε,Β⟩:=ζ|Ad0=>xX AG F' ε H' C dx x|Bgh=>AtS EV (Ch ε)|þ=>ě [ov] (BEj ov ε ζ)|ÿ=>ε Ν s σ H ζ _ η θ Q I rx ry ι|Ate=>upd ε Z3 (.ins C ES ζ)|Ā=>fun _ _ _ h=>ε h|AHs=>by show AtR k2 b;exact⟨ε,ζ,η⟩|Atf=>pK X Ν H b|ā=>by have hu:BgA (Bb6 ε ζ):=MU hr.units|AMh=>ε c p ws0 ws bs K V u|Ă=>callWith Υ f first ε ζ|Ad1=>∀F Γ P,Ade ->(t Γ P E) ->(ε) ->ζ|Bgn=>BT n A ε d tb rs fs ix|ă=>by obtain⟨f0,f1,f2,f3,f4,f5⟩:=hf it A2|ATz=>.local|ADY=>by obtain⟨ε,q⟩:=ζ|Atg=>by rw[Da] at ε|AHt=>by obtain⟨ε,Β,ζ⟩:=η|AMi=>BlN<=ε|Ϙ=>(by rcases ε with Β | ζ)|Ad2=>by rw[Ic,ε] at ζ|ADZ=>Y3 ε ζ η|ADa=>⟨ε,q⟩|ADb=>[.B0 ε]|ϙ=>A6 w ε|AHu=>(BA it)|Ϛ=>(BA A3)|AMj=>(cV 9)|ϛ=>(qv 5)|AT0=>DD ε AJ|AMk=>.pu S|Ath=>ε K nX ζ|AMl=>(FM ds)|Ϝ=>i<BU|AHv=>B4 hb|AT1=>.A0 ⟨ε,ζ⟩|ϝ=>CH Η|AHw=>Fm AR ε|AHx=>Ε v|Ϟ=>AV ?_|ϟ=>au ε (HV ζ η)|Ϡ=>(xF AKZ)|ϡ=>(xF AKa)|AHy=>(a::rs)|Ϣ=>(E7 h)|ϣ=>Iy Β ε|ADc=>R_ QP|Ϥ=>(ASy AKZ)|ADd=>(ASy ARI)|ϥ=>Ě ε CB=ζ|AMm=>(Kf w)|AHz=>.bl Μ|Ϧ=>fun ds P E=>ε|ϧ=>h∈hs|AT2=>Zl (ATB ε)|Ϩ=>by show pk hq'|ϩ=>by intro Ν s σ H R I h|AT3=>(yW Ξ)|AH0=>pb Fs V
|Ϫ=>(by simp;omega)|ϫ=>by refine ε (AcS ζ η)|Ϭ=>(xn he)|AH1=>Ŀ ID|ADe=>(EW f)|ϭ=>#[qv 2]|AMn=>(SE AR)|Ϯ=>aS m ε|Ati=>Aca _ _ _|AMo=>AGi vs|AH2=>(C5 (Aq hu))|ADf=>Loc ARc x|ADg=>iY AG C|ADh=>(gZ qs)|ϯ=>SW hi|ϰ=>x5 AdM|Ad3=>.Compare ε [ζ] η Υ|AH3=>(KZ st)|ϱ=>fN o|ϲ=>mU rs f|ϳ=>dv t b|AMp=>ε Cl=Ε p.2|Ad4=>yA (M' b a ε ζ)|Atj=>Pv (D9)|ϴ=>iY K NV|ϵ=>qi p ε ζ|Atk=>(XO a C Ι)|Ad5=>XO a C (Ch ε)|Ϸ=>NU WI|ADi=>yi 0|AMq=>fun c xs ε=>ζ|AMr=>(AGJ gr)|ϸ=>AS7 S|AMs=>Ŏ ε us|Ϲ=>ATA ε (ALw ζ)|Atl=>(AG8 Η)|AMt=>[.AKp ε ζ Ff]|Ϻ=>fun σ H Q ε=>ζ|ϻ=>∀{K:Ω}{F H:Hp},_|AMu=>WH X b|AAG=>by have e' :UK ε:=e|AAH=>Gd ps|AH4=>fun v s1 ε=>ζ|Atm=>EX ys y|ADj=>Adb ε ζ η ?_ θ|Ad6=>eU P w K mg A8 V_ k f fd ps (ε K sp)|AH5=>ATO ds|AAL=>(BeW Υ)|Atn=>ArE ε b=AC|AT4=>Adg ε (x∈ζ)|ADk=>av QN tn|Ato=>ε f ts vs bs ATI h|ADl=>fun z hz=>ε|Atp=>.AqZ "type.__call__" ε|Ad7=>AtU a|Ad8=>(iG eb n1)|Atq=>AtV ArL ε|AMv=>k _ _ _ _ _ ε ζ η θ|AAP=>bN P w H h a ε|ADm=>AAn (Ĉ AE)|AH6=>by rintro z E cx Ν s σ H Q I ⟨F,Γ,P,R,h,kk⟩|Ad9=>ε∈gk S n ALh ζ|AH7=>∀{l:CO},ε|Ad_=>yI (HV ε aW)|AH8=>(Kt z AGk)|AT5=>(vs++ [v])|Ad'=>WE zev ε n ζ|AAQ=>by obtain⟨AU,rv,p,hz⟩:=ε hq|AAR=>P4 ε c ζ (Tx η) θ ι ν ξ|AH9=>Adh ts vs|ADn=>(ε b u ζ).stay|AH_=>iW t ε it l i|AAS=>#[xY (au ε aN)]|AT6=>ε K sp vs H Q E|Bgz=>AdY I.turned (ŏ ε) f0 f1 f3 f4 f5|AMw=>Bgn p|AMx=>{nx:=ε,rt:=ζ}|AT7=>(Mr cx)|AT8=>∀(K:Ω),_|AAT=>AAn (Ψ×AE)|ADo=>(BN::Cf)|AMy=>aD AL9 ε/ BB ATN|Bg0=>sp (AtA::es) (x0 ε) fun ζ=>η|AH'=>(Id F H)|AAV=>(kC kD AGz)|AAX=>∀{x EI:Κ},_|AeA=>Ĺ [a] a []|AIA=>ACJ (jq A k c*ε)|AMz=>by have hl:SL ε=II:=ζ|AIB=>ε _ _ _ _ ζ|Atr=>ha ε Ν s σ H _ I h|AIC=>TR K F H t v as|AT9=>(uE p s i)|AAZ=>by obtain⟨v,_,Β,⟨p,vs,Β,hq,rs⟩,Β⟩:=rs|AIE=>(p CI+q C4)|Bg1=>⟨F1,AA,ε,R1,s1,r1,h1⟩|ADp=>∀{X:Cx}{F0 H0:Hp},_|AAa=>by show SK a vs bs Β ea hkl r r|ADq=>.NotIn|ADr=>fun hb=>ε|AT_=>by rw[Da,ε,ζ]|AT'=>by obtain⟨hb,ε⟩:=ζ|ADs=>by obtain⟨ε,e2⟩:=ζ|AeB=>by obtain⟨ε,_,_,_,e,_⟩:=ζ|AUA=>by generalize BB ε=ζ at*|ADt=>AKu ε|AIF=>by rw[e]|AM0=>MA ε=Ε ζ|AeC=>(cV 11)|ADu=>by cases rx;exact ε|AIH=>(qv 9)|AUB=>B7 at_|AII=>B7 FL|ADv=>Y2 h|AIJ=>.B0 b|ADw=>by rw[Ē ε]|AUC=>Mo H' ε|AIK=>BB pp|AUD=>v.scannable=Μ|ADx=>.AK k|AUF=>Φ AG6|AM1=>by show ACN ε;omega|AeD=>.A0 hb|ADy=>Fr BDm ε|ADz=>(EF h1)|AD_=>P6 _ _|AD'=>.exc _|AEH=>.ptr _|AM2=>Nn S_|AEI=>Co b|AUG=>W.hasDictIn K ε=Μ|AUH=>GG Ix A ε ζ E s|AEJ=>MQ H|AEM=>C8 iH|AEO=>(ASy AKa)|AM3=>(V w)|AEP=>No F|AUI=>b≠TK|AIL=>(SB T)|AM4=>ķ It|AeE=>BFI _ _ ε|AM5=>i' p|AEQ=>Pp q|AEU=>by show Dx (aw ε) ζ|AIM=>bW (iG (ε b u e) ζ)|AEV=>MA ε=Ε o|AeF=>MR BH ε|AIO=>Zs (fu ε ζ η θ).B6|AEW=>WC cF ε ζ|AEX=>⟨o,ho,ε⟩|AEZ=>OT ε e|AEa=>Γ[i]?|Ats=>Tl i j|AM6=>AsP K iP|AeG=>∀x∈ε,C x|AUJ=>DM ε [Mn,ζ] η|AEb=>Oy ?_|AEc=>O0 x|AM7=>xp z7|AM8=>(.frz o u)|AIP=>Around.under_plainId ε _|AEd=>.rR _ _|AeH=>UB ε (.A7 ζ)|AUK=>NG ε (EZ ζ)|AEe=>α ->AO|AIQ=>xx us.toArray|AM9=>AGp n_ ε|AeI=>by obtain⟨vs,H1,I1,r1,q1⟩:=ε|AEf=>by show DT ε ζ Β ASS η|AUL=>AdJ ε ζ (V' η)|AM_=>e_ h' t'|AUM=>by exact Iy Β ε|AEg=>Nw _ _ ε|AM'=>AGq ε BG ζ η|ANA=>ğ (V' ε) ζ|AUN=>x_ iD|AEh=>(AME::us)
|AIS=>(ALx AR)|AUO=>ņ ε (Kx ζ)|AUP=>(ABu hb)|AEi=>(f::rs)|AUQ=>gW ε AG1 a|AUR=>(pre++ACR)|AUS=>Ll _ N9|AeJ=>AGw H1|AEj=>DM [ε] [ζ] η|AEk=>d9 f S|AEl=>xH K H a xs|AUT=>by rw[ε (EF hi),ζ] at e|AEm=>∀i,i<n ->ε|AEn=>(ō C_)|AUU=>AGy ACW ε|AEo=>AdQ ε (Bb6 ζ η)|AEp=>v::vs|AeK=>E Γ x|AeL=>AdR ε [.Call ζ η [] θ]|ANB=>fun o e=>ε|AEq=>∀(i:Δ),_|ANC=>by refine IP ε (ζ ?_)|AEr=>by show KA p vs hq rs ε|AIT=>AtE AGR|ANE=>by by_cases hi:i<ε|AUV=>(Jb aW)|AEs=>by show j' ε Β ζ h|AUW=>Un ε ζ H η BG θ|AEt=>AL4 a|AEu=>AL5 (AHE ε t)|AEv=>AG' κ|AeM=>(jO Γ)|AIU=>AKz ε ζ (.ğ η θ) ι ν|Atu=>TD (qA)|AEw=>EX σ o|Atv=>(FR Pc p2)|AIV=>T' (ε ζ η) s1 θ|AIW=>AMD ATM ε|ANI=>jN ds|AeN=>⟨Τ,Τ⟩|AUY=>AMJ fT ε|ANJ=>Aq6 s'.gens|AEx=>∀(K:Ω)(C:Ζ),_|AeO=>∀u,AHD ->ε|AIX=>Adf nd|AEy=>ATS hq|AEz=>ATW led|AeP=>#[xY aN]|AeQ=>pb κ AE|AUZ=>Adl Lc|AeR=>fun Γ P _=>ε|ANK=>IZ xs AU|AE_=>.rR ks ts|AUa=>zO (ACT ε ζ) AD|AE'=>by show x6 ε ζ η θ h h|AIY=>[FA,ZA,NW]|AFG=>by intro i h1 h2|Atw=>(.frz oe (vh a C))|AFH=>i≠j|AFI=>∀(hc:FX),_|AFJ=>ε fun r hr=>ζ|AFK=>ABv EW qD|Bg2=>AdQ k (AcF EI ε BH f cdv)|AFL=>aB (ε c) (aj ζ (Fm η θ))|AIZ=>Ata KP|ANL=>Atb (AGr ε)|Bg3=>p.2= UF ->∃c,ε Cl=Ε c|AFM=>by show Atd Fn.ex|AUb=>∃o',Mo AcY o'|ANM=>∀(hs:Ads Pl:=by intro _;rfl),_|AUc=>IG<=63|AFN=>by unfold LW VY|AeS=>ε nX mg|AIa=>∀{α:CL},_|AUd=>ε (ζ j pM)|Bg4=>IM vs ε dy|AIb=>p a=Μ|AeT=>M_ z AGk|AIc=>jy S h|ANP=>[FU,.AK j]|AId=>am NV NV|AIe=>fun x y H Q=>ε|Atx=>(F b).AFk|Bg5=>ε==AsE&&ζ== AL2|AFO=>∀{t b:Ψ}(h:ő),_|AeU=>(Bj ps ws u)|AIf=>AR3 AG fd ps []|AeV=>by show DE ε ζ AcK η;show DE θ M yX M;show DE ι ν AcK ξ;show DE ο M yX M|AFP=>by obtain⟨h1,h2⟩:=ε|AIg=>by subst h1 h2|AIh=>B7 (f j).den|AIi=>Φ (A9 b=A9 a)|AeW=>Ace (eQ ε)|AUe=>ε nd Β Β|Bg6=>(a::b::F_)|Aty=>.bl (VV (ε))|AFQ=>by show Zp ε q q|ANQ=>∀{ε:ζ} {vs:AQ},η ->θ|Atz=>(Ce a Ex)|At0=>xz N3 ε Ι|AFR=>(l+r)/2|At1=>(eS ε ζ is).B6|ANR=>(kY S n)|AUf=>AS' ([]:An).Abz|AFS=>Ļ F H Γ|AeX=>FD ε 3 [AKs,Pi] ζ|AFT=>lY X.N sc A7 FB CB N'|AeY=>(hi _ _ _ q)|ANS=>jd m (a i)|At2=>fun b o e n ε hx=> ?_|At3=>Inv X Ν DA H' s'|AFU=>Lean Ξ ms x|AFV=>.ob C fs ts|AFW=>KeyKind CA w κ|AFX=>Pv i σ H|AFY=>AGl (AFs e ε ArI CB)|Bg7=>wpAny_callSpecial?_slot (D3:=AR6 ε)|AFZ=>by obtain⟨d,d0,bd,hd⟩:=ε|AFa=>j_ AKZ NV/\vg K NV=Μ|AFb=>∀(P:As) (w:AW) (K:Ω),_|AFc=>by intro Ν s σ H x y v u Q I rx ry h|AFd=>⟨DC e d0,DC e (d1 _ b1 b2)⟩|AUg=>fun Ν s σ H ε I q=>ζ|ANU=>(pU r g ps ms x).xf|AeZ=>ha z E cx Υ Ν ε σ ζ η θ ι|AUh=>fun BY =>ε|ANV=>if ε<ζ then η else θ|AIj=>¬S b|AIk=>ε<ED|ANW=>by obtain⟨o,ε,_⟩:=ζ|AIl=>by rename_i hb|AIm=>by obtain⟨ε,_,Β⟩:=ζ|Aea=>by exact_mod_cast z|AUi=>by rw[<- ε,ζ]|Aeb=>ALS ε ζ η|AIn=>EC AO|AIo=>(by cases z)|ANX=>(by with_unfolding_all rfl)|AIp=>B7 BU|AUj=>B7 wp|AIq=>B7 ASs|ANZ=>Y2 (ε)|AIr=>TL h|AIs=>(ET i)|AIt=>Rat.inv_mul_cancel _ ε|ANa=>Ap ε s3 ζ|AIu=>by rw[Pp ε]|AIv=>(C5 DW)|ANb=>(BG2+1)|AIw=>BB 0|AIx=>BB AMF|Aec=>Ε b|AIy=>ZY H1 ε|AIz=>My D|AI0=>Fk T|AUk=>Fk AQ|AI1=>by show He;omega|ANc=>(I.tok _)|Aed=>ε _ _ (ζ _ _ e)|AUl=>İ s'|ANd=>M0 cN ε ζ|ANe=>D5 Kb|AI2=>AcL ε ζ Β|AI3=>AV (ε (z ▸ ζ))
|AI4=>eg m8 ε ζ|ANf=>j≠0|AI5=>(EF e)|AI6=>EG e ε|AI7=>.kt _|AI8=>fs[i]|AI9=>Nn Ya|AI_=>(match ε with | Ε ζ=> η | _=> θ)|ANg=>z6 (ĝ ε)|Bg8=>ABf II|AI'=>Jn 1 ε|At4=>Do ε ArW|ANh=>FS (Z_ ε)|ANi=>J' us|AJA=>J' (ε::us)|Aee=>h∈m|AJB=>Ķ ε T0|AJC=>WA ε 1|AJD=>ķ AO|Aef=>(NA q)|AJE=>Ē q|AJF=>W.hideAll_get _ ε ζ|AJG=>i2 b hb|AJH=>P5 Op|AJI=>.tup ds|AJJ=>.tup (AMA ε ζ)|Aeg=>(ε Ξ ζ).nv|AJK=>0<II|Aeh=>(AQ7 ε).2|ANj=>(j - 1)|AJL=>by show Ee ε Β|AJM=>(.pu d)|ANk=>SD ĭ ε ζ|AUm=>Ŀ NW|ANl=>AS0 [a]|ANm=>AS1 AE|AJN=>#[qv 1]|Aei=>d::EE|AJO=>P9 v ε|AUn=>NE T1|AJP=>(AAq ε).B6 ζ|AJQ=>AS3 o|Aej=>(pv AML)|AJR=>α ->D|AJS=>cB cQ WF ε|AJT=>x_ (ε _ _ ζ)|AJU=>mU rs (GB ε)|AJV=>qS Ic ε|AUo=>W.isFn K Lc=Μ|AJW=>(p::cs)|AJX=>(r::rs)|AUp=>AGr Ady|ANn=>iY K C|AJY=>sX ts|Aek=>(AGx fs)|ANo=>BFa hq|AJZ=>AB_ s'|AJa=>Ĕ BG|AJb=>k::ks|AJc=>k' ::ks|AJd=>ACP ALq ε|AJe=>∀(a b:AI),_|AUq=>(yy Μ)|AJf=>AL0 ARv ε|Ael=>(FP aW)|ANp=>tb s p|ANq=>ACb ε ζ wb η|AJg=>CI=w|AJh=>[AKv,AFx]|ANr=>PS X (.AKr ε ζ Υ) η|At5=>GY H' u|ANs=>M0 qY ε 0|AJi=>Cq Ξ ws|ANt=>Sz 1900 q|AJj=>by refine z6 (ε ζ ?_)|AJk=>AtO nv|AJl=>AHI ks|AUr=>AtP Md|AJm=>r∈Ξ|AJn=>BEz (BA ε) ζ|AJo=>∀{n:Δ},_|Aem=>Jn ε #[HF]|AUs=>HG (oh ε (ζ w))|AUt=>qD (v w)|ANu=>(jn a Atk)|AJp=>yR Ξ x h|At6=>yT F1 ds|Aen=>Acs k v=Μ|Aeo=>fk S n bs k|Aep=>ATV "values"|ANv=>f C4|At7=>ε (xl b AS_)|AUu=>(j8 ts)|AJq=>BO q hq|AUv=>(Adk LH)|AJr=>ATb LA|AJs=>.AY r t|ANw=>(∀q∈qs,SI q)|At8=>Adp (W C9 m' ε ζ)|AJt=>∀(i j:Ψ),_|AJu=>b1++ (ε++b2)|AUw=>∀S∈Ss,ε|Aeq=>(Adt Kj)|AUx=>(.dT AH)|AJv=>PA X ε ta|AUy=>B5 ε _ _|AUz=>⟨HE,od,AdX ε,ζ⟩|AU0=>Adz ε (HV ζ η)|Aer=>(cU gF WF)|AU1=>ε fun a b=>AS_|Aes=>ĝ (vs:= ε)|AJw=>by show Atg hl|At9=>Abd C ε|ANx=>(ε p hp).1|ANy=>PE X b tb|AJx=>HB X hC|AU2=>AGp (ε t1 t2 BG l1) l2|Aet=>(ABo AdV [])|At_=>(A6 s (ATf (x kH)))|AU3=>Atn op|At'=>⟨.AK ε,H,ATQ,ζ,q⟩|ANz=>sI ε a y o|AJy=>Atq y_|AJz=>cJ LH X.A|AN0=>(Ar AGQ FB σ)|AU4=>(Atr Υ)|AU5=>by rw[Ac7,<- ε,ALY]|AJ0=>DM N ε st|AJ1=>by show ph t' ry|AJ2=>WJ X.N y|AN1=>GZ B q|AU6=>{s with toks:=Adj}|AJ3=>Ll h (PassesOwnAt.leavingOf h)|AN2=>qo (b≠ε) (MQ ζ) AdU|AN3=>ALi ALv (.seq RS n)|AuA=>Bg3 ARa|AU7=>Bg4 2|AJ4=>∀(hn:AtZ :=by decide)(AL6),_|Aeu=>Og e ds vs ε|AN4=>Bg7 BGF|AJ5=>by show x6 c vs ec hkl rs (Mz e1 ε)|Aev=>by show DE ε M yX M;show DE ζ η AcK θ;show DE ι M yX M;show DE ν ξ AcK ο|AJ6=>Aqi (Ath AbO ε)|AN5=>(match ε with | Μ=>ζ | AC=>η)|AJ7=>by have hn:=qQ|AJ8=>by subst r1 r2|AJ9=>by simp only [Ġ,hb,ε]|Bg9=>(xr.back ASI)|Bg_=>by rw[ε] at z;cases z|AJ_=>(BDX Bw).ε|Aew=>[e1,e2]|AU8=>pb Fs (Ζ×AE)|AN6=>b1++ (ε++b2)|AN7=>Ge Ξ ms|AN8=>(ε w hw).2|AuB=>ε K ζ (SB η)=Ε Μ|AJ'=>P4 ε c ζ (Tx η) θ ι|AU9=>∀j,wB (ε j)|AKB=>P4 ε c ζ (Tx η) θ ι ν|AN9=>∀(K:Ω) (F0 H0:Hp),_|AuC=>(Abv ε CB).B6|Aex=>tV (AdS ε) (tV (AdS ζ) Gz)|AU_=>.tr as (P6 ks ε)|Aey=>{o with dict:=Ε ε}|Aez=>W.methodCall_KW (pl:=pl)|Ae0=>uI Ŕ Adu|AU'=>BindsTo s fd ε ζ|AKC=>(Ate ATi [])|AVA=>Ad1 ε (ζ t E σ H Q)|Ae1=>Ada ds ε C C|AKD=>LL AHA ε (ζ _ (Abp E2))|AKE=>AE ->AE ->ATe|AKF=>(aL K F ds)|Bg'=>∃F2 A4,Ļ F2 H A4/\ATd/\ε|AN_=>(a::r).AAr|Ae2=>J9 Ξ ε w
|AVB=>fun D σ H=>ε σ H (ĺ ζ η)|AN'=>(AS2 AK6 s3 ATm fp)|AKG=>by show UD hb hb hb|BhA=>((kA).wsh (J' (kA).xe))|AKH=>Un fs ex H ε h ζ|AuD=>sIx Rc Rc hi|Ae3=>∀(i:Δ) x y,kL ->Atm ->ε|AKI=>⟨ε,ζ,η,k.rt,k.rf,k.rT,k.rm⟩|AVC=>pf (fun t AA F1 H1 v as R1 s1 nd hn ε h1=>ζ)|BhB=>fun A Cf s H vs Q E hr ε=> ?_|AKJ=>∀(cdv:AE) (A:BV) (Cf:L4) (s:AB) (H:Hp) (E:XK),Bg2 xj ->ε|AKK=>by refine bT (QH (E:=fun C dx H' =>E C dx H') I Β Β Β (hx.imp (KE C dx H' z))) fun _ s'' z=>z|AVD=>BU=ε|AVE=>ε=BU|AVF=>if ε then Ι else ζ|AOA=>by rw[ε,Rl]|AOB=>by obtain⟨v,ε⟩:=ζ|AOC=>by injection ε with ζ _|AOD=>iq ..|AOE=>by rw[Da,ε,ζ,η]|AOF=>by rintro⟨ε,ζ,Β⟩|Ae4=>AsH ε|AVG=>by simpa [ε] using ζ|BhC=>(by kernel_rfl)|BhD=>(by size_fits)|AuE=>(n_ ε).ζ|AOG=>⟨Bm6 ε _,ζ⟩|AOH=>⟨ε,fun⟨ζ,η,θ⟩=>ι⟩|AuF=>[ES]|AOI=>(qv 11)|AOJ=>B7 ED|Ae5=>(C5 (#[]:KF))|AOK=>(MB+1)|AuG=>one=Μ|AOL=>(! ε)=Μ|AOM=>.AK a|AON=>.AK b|AOO=>(Of 2)|AOP=>(FM ys)|AOQ=>BEo _|AOS=>Fk D|AVH=>(AAq ε).ζ η|Ae6=>TL z|AuH=>i<FK|Ae7=>(Ch e)|AOT=>.A0 i|AOV=>.A0 z|AOW=>by rw[ε,ζ,η];rfl|AOX=>.AZ w|AOY=>İ UA|AVI=>Κ ->α|AVJ=>GY H1 ε|AuI=>by show DE ε ζ Bmc η|AOZ=>BC VN|AOa=>BC VR|AOb=>(Rs hi)|AOc=>(EF h2)|AOd=>Vy _ _|AOe=>ms[i]|Ae8=>M3 κ|AOf=>EZ 0|AOg=>EZ Ats|Ae9=>Nn ARK|AOh=>Co m|AOi=>by show CS hk|AVK=>(AFl ε).1|AVL=>xN s1 ε|Ae_=>(E7 RH)|AVM=>MQ F1|AOj=>D6 ?_|AOk=>C8 rZ|AOl=>x∈f|AuJ=>fun z E cx=>Q9 ε ζ|AOm=>(Mu w)|AVN=>J' PF|AOn=>jb qX ε|AOo=>(IO ys)|AOp=>ķ V|AOq=>ķ AQ|AOr=>by show Go hk|BhE=>AcL _ ε ζ|AOs=>by show pk h1|AOt=>Hb ?_|AOu=>P5 ad|Ae'=>E9 (ε (NA z))|AOv=>GB ?_|AfA=>by have:=ε;omega|AOw=>(ED - 1)/2|AVO=>.bool Μ|AVP=>by rw[ε];decide|AVQ=>P (oy ε)|AOx=>(bh (cC AHP))|AOy=>W.plainGet K ε ζ=Μ|AVR=>BU<=i|AOz=>A i j|AO0=>(B7 ε).eD|AO1=>(knd.hash k)|AuK=>by show ε;decide|AO2=>Fr ε .d5|AO3=>#[qv 0]|AO4=>Fast c|AO5=>AHO≠ []|AfB=>(ε==dy)=Μ|AO6=>.dik _ _|AO7=>M_ _ Β|AO8=>ABn vs|AVS=>xx rest.toArray|AuL=>jp Fh es|AO9=>ALs AKg|AVT=>al (r j+ε)|AfC=>by simp only [ε];exact ζ|AVU=>(.ptr a::ds)|AO_=>cB cQ ε (ST ζ η)|AO'=>(lt i j)|APA=>(Atu::us)|AfD=>AS4 E_|AVV=>(.ow xs)|APB=>Sem AO|AfE=>(n,AsC)|AVW=>GG Ix A ε ζ E EJ|APD=>GZ (ε*27720) ζ|APE=>AGw H|APF=>AdL yJ (MO ε)|AuM=>dU (ε d8 (aB (ζ c) (Fm η θ)))|APG=>VZ i _ e|AfF=>(Nd Gf)|AVX=>AdR ε [a]|APH=>pO ABw ε ζ NB|AVY=>Acw ε ?_|AuN=>ACU OR|AVZ=>tn i BG|APJ=>AG4 vs|AVa=>AtE MB|AVb=>e∈S|AVc=>n∈S|APK=>AL3 h|APM=>ATD AdM|APN=>ATD (xk 1)|AfG=>[.ġ ε ζ Ff]|AfH=>(gR Γ)|APO=>by rw[ε] at q;cases q|AfI=>.AY ε EO|AuO=>(FR Yf p2)|AuP=>(AHB DI)|AfJ=>fs c p|AVd=>AL_ ε EV ζ|AfK=>(aT fp AMP)|APP=>Ř ε (vV AG ζ)|AfL=>(AHF ID)|APQ=>(AHG aC)|AfM=>fun a ha=>ε|APR=>fun x hx=>ε|APS=>[ZE,AFx]|APT=>.dik (ε .AZ) (ζ η)|APU=>MT fun i=>ε|AuQ=>by (cases hf;done)|AuR=>by (cases r';done)|APV=>by show AtQ it|APW=>by show AtQ ES|APX=>AM ->UO|AVe=>AHL ε (m9 ζ t)|APY=>(n - e)|AVf=>(AAy i q_)|BhF=>FV (ε i dy)|APZ=>AHU ε AMH|AfN=>ATU ha|APa=>AAv= []|APb=>(EM D8 r).ic|APc=>AMQ ε (ALw ζ)|APd=>by show ATg (ε>>=_)|APe=>ATh Ō ε|APf=>by show if kP (ε< ζ) then _ else _|APg=>IsZip ε z TI TO .ellipsis|APh=>⟨f,fd,ε,M,B9 (by show GS;exact Β)⟩
|AfO=>o.cls= Tm ε|AfP=>j::EE|AfQ=>fun m hm=>ε|AfR=>by rw[ε] at e;cases e|AVg=>AtX ε (SB ζ)|APi=>TM (ABU i ε)|AVh=>(.AT x t)|APj=>FJ ABw ε ζ NB|AVi=>SV u AMG|APk=>by show Wp hu ru ε|APl=>k a zY _ e3|AfS=>(Abs op)|AfT=>by simp [ε,Arp,ζ]|APm=>∀(q:AI),_|APn=>BO r hr|APo=>hN b (AV ε)|AfU=>wd l b|APp=>by exact Iy (EM (AC=Μ) ε) zJ|AuS=>(AA_ ABL).Me|APq=>(Ad5 dx)|AfV=>∀ε,N_ ζ ->MR η (ZZ θ ι)|BhG=>AMM h1 (fun ε A4 F2 H2 v2 R2 s2 r2 h2=>ζ)|APr=>AHX ε fst i|BhH=>ARZ n==ATZ|APs=>(Ad_ aW)|APt=>mR ks k=Μ|AfW=>(aL K F ds vs)|AVj=>∀(Ν:fB) (s:AB) (σ:St) (H:Hp) (ε:ζ),AS ->η ->AGo θ ι|AfX=>by rw[eJ,<- hl]|APu=>[VX,ZE]|APv=>.AZ (IN (lW AD))|AVk=>PE X o td|APw=>by show DT ε ζ η (Ad' θ ι) AD|APx=>Ll e e|APy=>AK1 (t' :=tk)|APz=>UE Aco ε Β|AP0=>eU P w K mg A8 V_ ε f fd ζ (nG K (η c))|AP1=>ou Ss fs|AuT=>fun _ _ _ _ _ st h=>ε|AP2=>oO fs xs ε =Ε ζ|AfY=>fun i h h' st k=>ε|BhI=>Bg5 ε env.scope.kind|AP3=>∃W:ASz ε,(∃m,ζ)/\η|AP4=>by show UD hx q q|AP5=>At2 hb|AP6=>qT (eV V_ P w K mg A8 ε ζ (bw η) f cdv A Cf s H E) F0 H1 (vf θ) (ι K c)|AfZ=>∀ε BY F' H' ζ,A_ AHW Fu η (WZ θ) ι|Afa=>eU FH X.w AG iX OQ (AdF dY) k f fd ps ε|AuU=>(wt V.int)|AP7=>by simp [iH] at h|Afb=>(h0::hs)|AP8=>fun b u eb=>ε|Afc=>(.AK i t)|AP9=>by show L7 Cl k|AuV=>∀x H',ε i H x H' ->ζ|AP_=>WV x c|AVl=>W.Looks Ix h ε ζ|AP'=>by refine nj (BO r hr)|Afd=>yk d ks xs|AQA=>wC Ξ ws m|AuW=>ε (kW Pf w)|AQB=>DS ε ζ hg hm η F6 θ ι he|Afe=>WN (X.pn++Ν) (Cl≠ε)|AVm=>(ε CA w).is|AQC=>iu.d c S b|Afg=>k ε A2 o e|AQD=>∀P:qc,ε ->one (f ζ) P|AQE=>fun i h st b hb=>ε|AQF=>BhB Be|AVn=>by by_cases q:ε<;>simp [q]|AQG=>(Qu ry)|AVo=>∀(O:F.Ok),_|AQH=>∀(K:Ω),_|Afh=>ATp/\ Ad7/\ε|AQI=>Ĉ (EC ε)|AQJ=>#[tZ (ε Β Β ζ η)]|AQK=>by obtain⟨_,_,_,_,_,Β,_⟩:=h;rfl|AVp=>pb Ρ AM|AQL=>hA _ _ h1|AuX=>ı Ay ε ζ [Ğ] (η c)|AQM=>Ll h' h'.elim|Afi=>(G6 ns).1|AVq=>⟨F,Γ,_,S,q,ε⟩|Afj=>aK K iP YY|Afk=>(G6 ns).2|AQN=>iU (cT ε) ζ|Afl=>Gr F ε F' H'|AVr=>yH b _ Ad8 ε|AuY=>len _ _ _ hs|AQO=>P4 ε c ζ (Tx η)|AQP=>∀(t b:Ψ),_|AQQ=>Dn lt p ε|Afm=>fQ K F' H' ε vs ζ|AQR=>(dv t b).į|BhJ=>Pe (w4 hq)|BhK=>DS Gv I hg hm ?_|AuZ=>fun vs H Q E=>ε|Afn=>(.tr Ty tt)|AQS=>fH X.N sc A7 FB ARc N'|AQT=>P (d i j)|BhL=>fun v z=>(Bg_ d)|BhM=>(AL1 T_ H)|Afo=>Ap x H' y|BhN=>(ABU i (.tr Ł t'))|AQU=>AMV ε Pl ti|AQV=>(AMW xt 1)|BhO=>(by first | exact yb | exact .AZ Β)|AQW=>GG jS X.A ε Q E s|Aua=>As0 (A6 f (! ε))|AQX=>jo t1 BG l1 xs|AQY=>by show Ad2 (xo hi') hi|Afp=>(Ad4 Ι (H' b))|AQZ=>KT H AH xs|AQa=>z6 (ATF hz Β ε Β ?_)|BhP=>Φ (FK>1)|AQb=>⟨_,_,_,Β⟩|AVs=>I_ hs.2 b (zK (zM (zG e) ε))|AQc=>I1.fpOk E2 (AR0 E2)|AQd=>oM K F H H0 s o|BhQ=>At1 PY ys|AQe=>ACI ε _ us Q I r ζ|AQf=>Ō/\o∈s|Afq=>∃DA H',At3 /\ε|AQg=>G2 ->DD (DD ε G2) XW|AVt=>∀{ε:ζ} {P:qc},η ->P (θ ι) ->ATw ν|BhR=>ε z TI TO i1 i2 l1 l2|AQh=>ε FH X.w AG iX OQ C m k ps sp|AQi=>by obtain⟨Ss,F,p⟩:=ε|AQj=>by simp only [ą,Bmt,or_false] at ε|Afr=>bD (G5 AMC ε)|Afs=>.dict es ep|AQk=>ε K c (Ca a Q) (ASn ζ Adq ds) Atz|Aub=>pK X Ν ε b|BhS=>[ARy,ARx,ARw,ε]|AQl=>(ABQ H a u)|AQm=>B5 (b=a) ε (xz (b∈bs) ζ (η b))|AQn=>jo t2 BG l2 ys|Aft=>(.AAz elts x1 pt)
|AQo=>(.AAz qa k2 Qm)|Afu=>B5 Atx (F b) (At0 ε)|Auc=>Bg0 (P r A4) Cx (E A4 Cx)|BhT=>∃N:SY,(∀DA H',N DA H' ->ε)/\ζ|AQp=>by show ax oi h1 h2 h3 hit|AQq=>fun _ _ _ _ ε ζ=>η|AQr=>by cases b<;>simp [iH] at h<;>simp [h]|Aud=>(mL sc BH CB).ε|Afv=>qD (gb WU ε o)|AQs=>Ctx BhA F0 H (C5 Ex)|Aue=>fun σ H R ε=>by obtain⟨F,Γ,P,S,q,k⟩:=ζ;exact η|Auf=>[Tm Bks,Tm "Exception",Tm AqW,Tm Aaa]|AQt=>LE σ H Q ε P ζ η|AQu=>Gr F0 H0 F H|Auh=>af dq #[.AK lo t,.AK hi u,.AK 1 v]|Aui=>⟨_,_,_,Β,CD,CD,CD,ε⟩|AQv=>∀ds Q E,sp ds Q E ->Bg8|Auj=>∀{Ξ:GM}{ws:CO}{m:QU},_|AQw=>by obtain⟨a0,u0,Β,h0⟩:=mV h|AVu=>fun x C dx F' H' hE gr xr=>⟨x,F',hE,gr,xr⟩|BhU=>∀{K:Ω}{c:DZ}{a:Ζ}{bs:Bi},_|AQx=>[.AAz [.wc x px,.wc y py] kt pt]|AQy=>by show SK a vs bs e1 e3 e4 h h|AQz=>(GN vs H Q E Bz)|Afw=>⟨ε,I.os,Ę,I.base,ib,Ė,ė,AFp,ζ,MC,AFq⟩|AVv=>k _ AA F1 H1 _ R1 s1 ε h1|AQ0=>hE x C dx F' H' z1 R'.gr Bg9|BhV=>iu.look (c:=c) (S:=S) (b:=ε)|Auk=>fun Γ4 F4 H4 σ4 R4 s4 q=>ε|Aul=>∀{n p:Δ}{A:ae}{d:Ψ},_|AQ1=>by obtain⟨BY,F',x,R',_,xr,_,z1⟩:=z|Aum=>wo cdv A Cf s H E hr F0|AQ2=>∀{f:Ζ}{cdv:AE}{A:BV}{Cf:L4}{s:AB}{H H1:Hp}{E:XK}{F0:Hp},_|AVw=>AKu ε|AVx=>ĩ.1|Aun=>by rw[FI,ε]|AVy=>by rw[ε,Ic] at ζ|AVz=>by obtain⟨u,ε,_⟩:=ζ|AV0=>Blv ε ζ|Afx=>Abp ε|AV1=>by exact_mod_cast ε|AV2=>by cases e|Auo=>BEc ε ζ η|AV3=>(by simp only [eJ]<;>omega)|Afy=>⟨ε,eP⟩|Aup=>by show AeB ε ζ;exact η|AV4=>[Ab4]|Afz=>ε (AAq ζ)|AV5=>(C5 IW)|BhW=>(HA+1)|AV6=>BB Y|AV7=>a.Perm b|BhX=>AX ε AaV|AV8=>BFT i ε|AV9=>My E_|AV_=>My AF|AV'=>FM (Zs ε)|Af0=>AsL _|Af1=>Fk G2|AWA=>by simp;omega|AWB=>E6 Β|AWD=>ARs ε CB|AWF=>D5 OW|AWG=>BC Tz|AWH=>BC VJ|AWI=>Ε w|Af2=>Ε u|AWJ=>.Cc ys|AWK=>(EF h)|Af3=>(EF hj)|AWL=>ABZ fun ε ζ=>η|AWM=>.tup _|AWN=>fun z E cx=>ε ζ|Auq=>(match d with | ε=>ζ | _=> η)|AWO=>Co z|AWP=>Co k|AWR=>.AKp ε ζ Υ|AWS=>j<BU|AWT=>C8 gY|AWU=>x∈g|AWV=>Iy ε AD|AWW=>a::dx::bs|Af4=>J_ NH ε|Af5=>J_ (S b) ε|AWY=>Ĵ Z2|AWa=>FS AeD|AWb=>AAn DictEntry|AWc=>wF Η|Af6=>b≠BH|Aur=>(SB BGH)|AWd=>Ķ ε (MO ζ)|AWe=>(.AT x)|AWf=>gP Ξ|AWg=>rK Ξ|AWh=>(.bl Μ)|AWi=>(S4 .AZ)|Aus=>P5 yo|AWj=>show ε by decide|AWk=>(mW Ξ)|AWl=>(Lo ?_)|AWm=>(r - 1)|AWn=>N0 ACd ε|AWo=>xk 64|AWp=>by rw[ε];simp|Af7=>(Zs d4)|AWq=>II - 1|AWr=>JA em|Aut=>xi F' H|AWs=>(xn ho)|Af8=>b∉ch|AWt=>xo hj|Af9=>(Cl).B6|AWu=>MS ACG|AWv=>#[qv 3]|Auu=>Q BE H'|AWw=>Ab8<2^ε|AWx=>(AGg sF)|AWy=>AGh ARa|AWz=>aS AHk ε|AW0=>(js Pl)|Auv=>(Arz vs)|Af_=>(n_ ε).IF|AW1=>aD l fun a=>ε|Af'=>ALt dc|AW2=>ALu α|AW3=>GG Ix A ε ζ ATq η|AW4=>AF_+1<ABM|AgA=>cJ k A|AW5=>ps[D9]|AW6=>mU rs g|AW7=>(BQ::us)|AgB=>qE Op|AW8=>Ņ ε AR|Auw=>o0∈Ľ|AW9=>i<=BU|AW_=>fR 3|AW'=>fun v hv=>ε|AXA=>AGs NV|Aux=>AGQ=n|Auy=>Ll q om|Auz=>ABz pp|AXB=>dU (ACc ε ζ)|AXC=>kM OX ε ζ|AXD=>(ya ACe)|AXF=>(Arq _ _)|AXG=>kN Atf|AgC=>(FR y np)|AXH=>E AA x|AXI=>AGl (swapsWithSole ε ζ ArI CB)|AgD=>ε t1 t2 h l1|AXJ=>kT s|AgE=>AS' i5|AXK=>ABQ H a ε|AgF=>Rep AG F ε v|AXL=>AL3 e|AXM=>(l.drop ε).take|AXN=>by show j' ε ζ Β h|Au0=>AdJ LA ε (V' ζ)|AXO=>AG9 s.Nodup|AXP=>(cL ns ε).ABe|AgG=>OV 0|AgH=>by rw[z,ε] at q;cases q|Au1=>MA e=Ε ε|AXQ=>T' ε s1 h1|AXR=>by obtain⟨AU,r,pl,hz⟩:=ε hq
|AXS=>by have hl:=we|AgI=>∀w∈ws,ε|AXT=>yj Ξ ws|AXU=>ş BhL|AXV=>AtO B6|AXW=>Rd H a Op|AXX=>by refine ε ζ (ABZ η)|AgJ=>ATP Da ε ζ|AXY=>cB mK At ε|Au2=>by unfold ε;rw[ζ];grind|AXZ=>by refine⟨AeN,ε,ζ,?_,?_⟩|AXa=>by refine⟨ε,fun i Γ=>ζ,η,?_,?_⟩|AgK=>Ac5 ε (P6 ks ζ)|AXb=>AMK ε AHj|AXc=>fk S n bs LH|AXd=>ACo t|AXe=>∀(t:cP)(E:XW),_|AXf=>(x,c)∈ε|AXg=>Lv ε/ BB (B7 ζ)|AXh=>by unfold ε;rw[ζ,η];rfl|AXi=>Ado den|AXj=>(match ε,ζ with | η,θ=>ι | _,_=>D8)|AXk=>Adr BG|BhY=>IsZip ε z TI TO BI|AXl=>ps[D9].1|AXm=>D5 ME/\ε|AgL=>AMX hn|AXn=>aD Ξ (WS ε)|AXo=>AtY (x o)|AgM=>fs s p|AXp=>AMZ AFm|Au3=>AGT i _ e2|AXq=>(AMe AHM)|AXr=>Bgh (.AKp ε ζ Ff)|AXs=>∀i∈is,ε|AXt=>ME - C9|Au4=>OR l=Ε ε|AgN=>ε (t' :=L') (ζ:= η)|AXu=>by ·rw[bW (E9 ε)];exact ζ|AXv=>AT0 Δ|AXw=>(CI - l.1)|AXx=>xL Mi ε AeP|AXy=>K_ o e|Au5=>(qr #[] 0)|AgO=>[MD,ny,ABG]|AXz=>∀(hf:Adm\/Adn:=by show BhO),_|AX0=>TM (ABU i (.tr ε ζ))|AX1=>Aqg 3|AX2=>∀(w:AW),_|AX3=>(ZZ a o)|Au6=>LG (ε _ _) (ζ hT2 η ?_)|AX4=>AeF (AT2 ε)|AX5=>.pu (gl m)|AX6=>by rw[Abq ε] at e2|AX7=>by show AeI CM|AX8=>fun vs H Q=>(AMg ε)|AX9=>fun v σ H Q=>ε|AX_=>WO D te d ε|AX'=>Ţ PE e ε|AgP=>AeO At5|AYA=>z8 _ (z8 _ ε)|AYC=>AeR (P ε Γ)|AYD=>K6 K F Ov ε ζ|AgQ=>∃a ε,x= BQ/\ζ/\η|AgR=>(AFp x c e)|AYE=>AMd ε (iL ζ) η At|AYF=>W i m σ H|AgS=>(mQ val i)|BhZ=>(ε (VY ζ 0 lo)).take|AYG=>.any C|AYH=>by exact AcH h|AYI=>(x::xs)|Au7=>ht _ _ cx|AYJ=>ALm ε Eo (aJ ζ ds)|AgT=>yW Ξ w ε|AgU=>(At4 e)|AYK=>(fun b z=>(AL8 z))|AYL=>xi F' H'|AgV=>T' R2 kF ε|AYM=>HD K F0 H0 ε E|AgW=>by (with_reducible refine wpAny_isSubtype_exc ε ?_;rw[ζ])|AYO=>We q n ε|Au8=>(K' w).OY|Au9=>∀i j,i<n ->ε|AYP=>by obtain⟨z,hd,vs,rel,dd⟩:=qV Io|Au_=>At7 Acn|Au'=>ATY bW n2|AYQ=>(AeE (ABu ε)).JY|AYR=>by show kG hv rv (yF rs ε)|AYS=>At' ε FG|AYT=>by intro Ν s σ H xs us Q I r h|AYU=>Arx vs ns|AYV=>∀i,ε<=i ->i<n ->ζ|AYW=>xU N d q|AvA=>Q6 xs ys h.2|AYX=>ACh (fc ε) d hd|AYY=>(Ad3 a op [b])|AYZ=>#[Yq (i:=0) ak ε ζ Β DO]|AYa=>(match ε with | Ε ζ=>η | Ι=>θ)|AYb=>by have GH:=r'.length|AYc=>∀f∈fs,ε|AYd=>CI - l.1|AvB=>by simp only [ε,eK,ζ] at h|AvC=>(ps.zip us)|AYe=>(Or.inl Β)|AYf=>ArV (Atp ε)|Bha=>TH BH=Ε ε|AYg=>[topFrame z]|Bhb=>[.wc x Ff]|AYh=>AuC ε (·.2)=ζ|AYi=>by ·rw[ε] at hp⊢;exact hp|AYj=>DD AQ Bi|AYk=>d9 ε hs=Μ|AYl=>BDY i t|AYm=>BO h hh|AYn=>(ε ζ).congr (GB η)|AYo=>by show DE h1 h2 ε ζ|AYp=>DH ε (fun v z=>AGk)|AgX=>(AQ7 hr).1|AYq=>Value.str x t|AvD=>(pC AG sp)|AYr=>.AK i _|AvE=>R (.ok (.ret ε)) ζ|AYs=>by by_cases q:k' =k|Bhc=>qq Nd (fun(LZ ε)=>ζ)|AYt=>s3.seq (Ar' hq)|AYu=>ε AG H a xs|Bhd=>VY BU 0 lo|AvF=>BhF ASe|AYv=>ACn H s|AYw=>qP ARc y|AYx=>eF.mp ((e ε).mp ζ)|AYy=>I.write (x:=ε) (e:=ζ)|AgY=>V ->AQ ->AtW|AYz=>Low rs cs a ε|AY0=>pN Γ σ ε a|AY1=>by show kg v r1 r2 r|AvG=>yt p ws0 ws bs|AY2=>rA ε sE (SE ζ)|AY3=>ALp d1 v1 (BhG d2 ε)|AY4=>fun i j hij hj=>ε|Bhe=>Adx AGF a (E6 #[]) ε|AvH=>qx FH X.w|AY5=>(zK (zG e))|AY6=>Au x EI st|AY7=>fun xs H Q=>ε|AvI=>Ļ F' H' BY|AY8=>fun i m ε ζ=>m=η - i/\θ/\ι|AvJ=>GA (∃a b:AI,ε)|Bhf=>(fk S n bs k)|AY9=>Turn P w K tg ε [it] it (UH h ζ)|AY_=>by obtain⟨a,dx,vs,Β,ea,hl,rs⟩:=rd
|AY'=>BhR ZipApart|AZA=>BhV b|AvK=>ε (H' :=upd H1 a ζ)|AZB=>fun f hf=>ε|AZC=>∀m∈ms,ε|AZD=>by rw[Oj e1,BmP] at ε|AZE=>ε AGQ FB ζ|AZF=>X.env.frame=Ε TK|AZG=>⟨fR ε,wF AD⟩|AgZ=>[(0,60),(0,60)]|AZH=>[AG_ b 0,AG_ (b+1) 0]|AZI=>BO j hj|AZJ=>BO i hi|AZK=>.A0 (zO (ε ζ) AD)|Aga=>(AuD - ATx)|AvL=>DF oU qs|AZL=>∀f∈fs,ε|AZM=>(Kt q q)|Agb=>(v4 i pM)|AvM=>Ll y y|AZN=>by refine⟨ε,ζ,η,ABs ?_⟩|AZO=>swappedStores ε ζ CB=KW η|AZP=>M' g f ε ζ|AZQ=>WB tn t ε|Agc=>entryFor table ε =Ε ζ|Agd=>Aca ε ζ (OV η)|AZR=>SS (yR Ξ x C4)|AZS=>by show ai ha ha|AZT=>Ap ε EJ ZT|Age=>by rw[ε] at ha;cases ha|AvN=>[(AC,Ts ε)]|AvO=>ABv MT (FV ε)|AZV=>(mO iP YY At)|AZW=>(yL bQ aP B1)|AZX=>by show bE p1 p2 ε|AZY=>(w.params.setOrder S ep)|Agf=>AtF ε (I (D9)) (I (D9)) ζ|AvP=>1+ (da 5).LS 3|Agg=>(.tr as (.ob C fs ts))|Bhg=>(IO [ACi,(ET 1)])|AZZ=>fun _ _ _ H _ I h=>ε|AZa=>BlS y=Ε ATz|AvQ=>HG (uI ε (V w))|AZb=>dv ε AD AD|AZc=>(ABW k ŗ)|AZd=>∃c,x= .bl c/\ε|Agh=>Bgh (ABh ε f Ff)|AZe=>by obtain⟨hq,hx⟩:=hg|AZf=>(fun s o=>y s o - x o)|AZg=>FC qT MY tb|AZh=>DS ε hu ζ η (Rs θ) ι|Agi=>fun σ H R=>ta σ H (ĺ vs ε)|AZi=>Ad9 Sb HA|AZj=>ALo d v r q ε|AZk=>ACI ε ζ I h|AZl=>D6 (.AK (V w h))|AZm=>(! t.plain&&BhP)|AZn=>N4 l CO (AHS ε) ζ|Bhh=>.AY (EM (IE ε (TD ζ)) Β) r|AZo=>∀{P:As}{w:AW}{K:Ω}{tg:AF},_|AZp=>by show ACS Ati AGH h1 h3 A2|Agj=>bW (show QQ from ε)|AZq=>FC QG tg g|AZr=>by show DE Β rs UJ ε|AvR=>⟨ε,Asl ζ,Asm η⟩|AvS=>Sz 4000 (fJ (ε k))|AZs=>fun h' eb=>(Hb (Bgz (eb b o hb e)))|AvT=>by obtain⟨AU,rv,pl,hz⟩:=BhJ|AZt=>fun _ _ _ _ _ _ _ _ q=>om|Agk=>Tf (cL ns ε)|Bhi=>BhE ε (BmS (AcZ ζ _))|AZu=>by show bP Β Jl q|AZv=>(fQ K F H ts)|AZw=>(TD C::bm).AFv|Agl=>sp vs H Q E|AZx=>∀(w:AW)(os:AAc),_|Bhj=>k d A4 F2 H2 v R2 kF ε ζ|AvU=>fun d v F' H' gr rv hp=>ε|Bhk=>fun t' Cx=>∀cs,E ε Cx.bare|Agm=>(Sum Ψ Κ)|AZy=>⟨W.mg_of X G (Adi ε),ζ⟩|AvV=>AcI (BhK hdb)|Agn=>jy (NU ye) ε|Ago=>[di,ID,dk]|AZz=>ε fun _ _ _ _ _ _ _ q=>ζ q|AZ0=>by obtain⟨a,_,Β,_⟩:=r;rfl|AZ1=>by show LN h1 h2 h3|AvW=>(seqObj dP i5 0)|AZ2=>AdW QG tg g|AZ3=>AdW Ow ifs tc|AZ4=>AcU (o:=HO.tup ε)|AZ5=>by obtain⟨v,_,Β,⟨l,us,Β,hq,rs⟩,Β⟩:=r1|AZ6=>oA k ε S h|Agp=>M' kv.1 k (kv.1,ε) kv|AvX=>j_ "Few" Ċ/\o9 K Ċ|Bhl=>∀o u,ARb b≠Ε (.frz o u)|AZ7=>W.typeIn K Lc=Ε (SB "function")|AZ8=>by cases (EM (u=TD b) ry)|AZ9=>E C dx H'|Bhm=>∀{AH:qk}{vs:AeQ},_|AZ_=>(B5 (i<0) (-i) i)|AZ'=>V ->SO ->SO ->AtW|Agq=>[ZE,Ab7,VX,ny]|AaA=>(ε/\AMc)\/ (ζ/\BhT (At8 DA H') η)|Bhn=>backTo ε (ARn ER BN)|AvY=>n6.some_of (v:=v) (o:=ε)|Bho=>o4 ε TI (BA i1) (BA i2)|Agr=>ACa (OD (i:=ε)) (C5 Ur) Blj Bli ζ|AaB=>(∃x∈ε,C x) ->AeG ζ|AaC=>by simp only [ą,Bmt,or_false,not_or]|AaD=>by obtain⟨⟨old,q⟩,st⟩:=q|Bhp=>ı Ai ε Cf s H|Ags=>(ASX BG I _).ε|AaE=>by obtain⟨F1,H1,I1,L,n0⟩:=lent I R|AaF=>Ő (Ut t1 t2 BG l1) l2 ε _|AaG=>obs K=good w|AaH=>by show AL7 a1 u1 h1 h0|AaI=>(B5 (iH (GW ((da 3).LS 3)) (GW 1)=Μ) 1 0)|AaJ=>DM [AKs,Pi] [AKs,Pi] ε|Bhq=>(UC H' (AeJ /\∃H2,BhM/\ (AL1 (¬T_) H')/\Q v H2))|Bhr=>ε FH X.w AG iX OQ x k ps sp|AvZ=>by obtain⟨vs,H1,I1,r,F1,AA,ds,R1,sF,rs,q⟩:=ε|Ava=>ds= [qD a,qD b]/\SI a/\SI b/\ε
|AaK=>∀(X:Cx) (vs:AQ) (H:Hp) (Q:VK),_|AaL=>pf (fun c AA F1 H1 R1 s1 q=>ε)|Avb=>(Iw K F H Ex E)|AaM=>fun i H2 F2 s2 s3 _=>ε|Agt=>AeZ s H (ACX H1 (∃F1 AA ds,AMI/\yn/\At6/\ε)) I (a_ (Bg1 ds))|AaN=>by obtain⟨e,n,ne,nf,d⟩:=AAx p hp|Bhs=>∀c o,c≠z ->A_ (c≠TO) (c≠i1) (c≠i2) (AS7 c) ε|AaO=>∀{st:AN}{f:Ζ}{fd:E_}{N ps:Ρ}{k:Δ}{sp:ε},_|Avc=>∀{tb:ae}{rs:EN}{fs:AHC}{ix:qh},_|Bht=>∀{z TI TO i1 i2 l1 l2:Ζ},_|AaP=>by obtain⟨a,b,Β,⟨a1,a2⟩,⟨b1,b2⟩,h⟩:=h|AaQ=>by rintro Ν s σ H Q I ⟨F,Γ,P,R,q,k⟩|Agu=>AR6 ε|Agv=>ε (· < ·)|Avd=>BGt=ε|Agw=>if ε then ζ else η++ [θ]|Agx=>by rw[OX,ε]|Agy=>ε<MB|Agz=>ε<AsW|Ag0=>by simp only [Ĝ] at ε|Ag1=>#[zv2]|Ag2=>(by rcases ε with (ζ | ⟨o,η⟩) | θ)|Bhu=>by simp only [eK,ε] at ζ|Ag3=>if h:ε then ζ else η|Ag4=>BlQ ε ζ|Ag5=>ε (ζ Eg η (θ c) At AMn)|Ag6=>by ac_rfl|Ag7=>by split<;>decide|Ag8=>EC σ|Ag9=>EC Ass|Ag_=>A.frames=Ε ε|Ag'=>by show bi ε ζ η;exact θ|AhA=>(BA l)|AhB=>(BA l1)|AhC=>B7 w|AhD=>B7 Rc|AhE=>.B0 c|AhF=>.B0 A3|AhG=>(AGR+1)|AhH=>(ε ζ).AFk=Μ|Ave=>(Of 10)|AhI=>st.2.1|AhJ=>Acx i ε|AhK=>My AO|AhL=>My AI|AhM=>Int.le_refl _|AhN=>Fk Ζ|AhO=>Fk XV|AhP=>Fk (pj D)|AhQ=>by rw[ε,ζ];omega|Avf=>E6 Ι|AhR=>i<Kb|AhS=>B4 hv|AhT=>B4 AD|AhU=>B4 Aef|AhV=>.A0 AD|AhW=>Tm Pc|AhX=>CH hb|AhY=>AsQ _ _ ε|Avg=>Κ ->My AcE|AhZ=>DF dS ε|Aha=>BC zgq|Ahb=>BC VP|Ahc=>Ε []|Ahd=>(Rs hc)|Ahe=>V.ref a|Ahf=>.Cc ds|Ahg=>.Cc ACG|Ahh=>.Cc Adv|Ahi=>(EF q)|Ahj=>(EF hu)|Ahk=>(EF hk)|Ahl=>(EF hw)|Ahm=>Arq _ _|Ahn=>(xF Aqh)|Aho=>(xF "Few")|Ahp=>(xF ARH)|Ahq=>(xF ARI)|Ahr=>EL (zw ε)|Ahs=>by refine AcS ε ζ|Aht=>(ho z)|Ahu=>(hc z)|Avh=>Kx Aq5|Ahv=>M3 SY|Ahw=>EZ 2|Ahx=>by show DT ε ζ η BoP θ|Ahy=>Nn ď|Ahz=>Nn "abs"|Ah0=>st.2.2|Ah1=>Co at_|Ah2=>z6 (BGQ ε)|Ah3=>by show CS AaV|Bhv=>(List.of_mem_zip ε).1|Bhw=>AcJ hl|Ah4=>CU O.key.length_eq|Ah5=>P3 H1|Ah6=>W.plainOver K ε=Μ|Ah7=>W.makesIn K ε=Μ|Ah8=>by rw[Ic] at e|Ah9=>D6 h|Ah_=>C8 q|Ah'=>.AT z|AiA=>.AT RH|AiB=>R_ BhW|AiC=>getD_get? e|AiD=>a::b::t|AiE=>Ĵ isW|AiF=>by cases (EM ε r);rfl|AiG=>(SB AqW)|Avi=>(SB AqX)|AiH=>ε ζ (AQ5 _ η)|AiI=>Tx (Adi ε)|AiJ=>Cn ->AI|AiK=>⟨f,fd,ε,hm,C3,B9 (by show UR;exact Β)⟩|AiL=>ARq i|AiM=>ArG=Ι|AiN=>A.in1.handled=Ι|AiO=>hn b hb|AiP=>hN b hb|AiQ=>(.bl b)|AiR=>(dS .AZ)|AiS=>P5 o|AiT=>P5 Aek|AiU=>.tup ys|Avj=>(E9 AGk)|AiV=>(PL Ξ)|AiW=>HG AUF|AiX=>HG Ae0|AiY=>AF_<ABM|AiZ=>NC (z8 _ fh)|Aia=>IG<=n|Aib=>(.pu AMl)|Aic=>(bh AR)|Aid=>⟨o,ε,Β⟩|Aie=>HH (Tr (x:=ε)) ζ|Aif=>JA ZU|Aig=>Os Flow|Aih=>Os ei|Aii=>ľ ε T0|Bhx=>AcJ hb|Avk=>ĭ hb|Aij=>(xn hv)|Aik=>BEs ?_|Ail=>b∉ia|Bhy=>Ŀ AbS|Bhz=>Ŀ ARJ|Bh0=>Ŀ AFi|Aim=>AS1 AN|Ain=>(AHJ++AQ3 j).B6|Aio=>#[qv 4]|Avl=>Q DA H'|Aip=>⟨ε,ĥ ζ,η⟩|Avm=>Oy (z7 h)|Aiq=>O0 MZ|Air=>z2w _ _ _|Ais=>NE _|Avn=>jv Adv|Ait=>by obtain⟨ε,H1,I1,ζ,q1⟩:=CM|Avo=>(.frz o œ)|Aiu=>BO b q|Aiv=>.obj C fs ds|Aiw=>KI ?_|Aix=>α ->β|Avp=>xx RS|Avq=>AGp AA_ ε|Avr=>ALt YY|Avs=>is1.toArray[j]|Avt=>is2.toArray[j]|Avu=>WJ ε (.pu (o8 k))|Aiy=>ABo (ļ P_ ε) ζ|Aiz=>SZ fq|Bh1=>(x0 (FF r))|Ai0=>(d::ds)|Ai1=>(d4 .AT)|Ai2=>x5 (xk 1)|Ai3=>e _ _ h1|Ai4=>BmY l ε|Bh2=>(FR dq p)|Ai5=>Gl X MZ|Bh3=>qS Acm ε|Ai6=>ņ X.base.get? ε|Ai7=>UN (BhX ε)
|Ai8=>DC e h|Ai9=>bW hb2|Avv=>Pp Β|Ai_=>Ast Β|Ai'=>Sf w|AjA=>iY K RE|AjB=>(pre++c::Aei)|AjC=>by refine ABZ (BO ε ζ)|AjD=>ε K F0 H0 g|AjE=>HA<=1000|AjF=>FL<=1000|AjG=>(ε :Κ)∉fs|AjH=>(b::t)|AjI=>DM ε [OU] ζ|AjJ=>ABz XN|AjK=>ABz b_|AjL=>(BmK hu)|AjM=>Y1 KP ε ζ|AjN=>AB_ s2|Avw=>hix i hi|AjO=>(iL At)|AjP=>(iL AR)|Avx=>(FR y BZ)|AjQ=>ACP LA ε|AjR=>J.go i H|AjS=>J.stop i H|AjT=>AL0 AFu ε|AjU=>WG ε Nat.not_lt_zero _|AjV=>∀(hs:AeA:=by rfl),_|AjW=>ABp KB h.2|AjX=>Inv K2 Ν σ1 ε ζ|AjY=>AtD V|AjZ=>by intro X hP hw hK hc i Ν s σ H E I hf q hg|Aja=>rS l|Ajb=>(i' p)|Ajc=>zC ES|Avy=>zpl (i:=0)|Ajd=>AGB (EF hi)|Aje=>fun h' hs' =>ε|Avz=>V.ref (qA)|Ajf=>EX σ AG1|Av0=>(hx' b u e)|Ajg=>(aT fp Atf)|Av1=>(f j).num|Av2=>(ASX ..)|Ajh=>∀w∈Na,ε|Aji=>DD Δ G2|Ajj=>GY F' u|Ajk=>(2^105*27720)|Ajl=>eU P w K mg A8 V_ LH f fd ps (ε K sp)|Av3=>AtP FA|Ajm=>ε (by show Aea)|Av4=>ŧ zo0|Ajn=>ũ aD|Ajo=>⟨ε,_,Β,AUN,ζ⟩|Ajp=>(AHQ eJ)|Ajq=>k b u q|Ajr=>by unfold ε;rw[ζ,η];grind|Ajs=>setNext _ _ _ _|Ajt=>BnL _ _ _ _|Aju=>jd QP (ε i)|Av5=>yT F ds|Ajv=>(AHV AKW)|Ajw=>(x,AsE)∈ε|Ajx=>ACp (qD (ε u))|Av6=>pre++EE|Ajy=>(qJ ts)|Av7=>.LU (.ret ε)|Ajz=>by unfold ε;rw[ζ,η];exact θ|Aj0=>BO q hq0|Aj1=>(AHa p1)|Aj2=>ACq Η|Av8=>ATa LA|Aj3=>ATc h5|Aj4=>ATc h6|Aj5=>NU fun w=> ε|Aj6=>ACt (kr)|Aj7=>by unfold ε;show r6;rfl|Aj8=>AMR (r= BI/\ε)|Aj9=>(AHf Aej)|Aj_=>Ado num|Aj'=>ATj D|AkA=>ATj V|AkB=>∀(i j:Δ),_|AkC=>ATn 0|AkD=>ATn 1|AkE=>Adr h|AkF=>ALN s2|AkG=>nk= AMo|AkH=>o.cls= HE|AkI=>by rw[z,ε] at e;cases e|Av9=>Ε (Ε ε)|AkJ=>zP _ q|AkK=>EG (.AKp ε ζ Υ) η|AkL=>(Qo K a)|AkM=>AtY 1|AkN=>AGT i _ e0|AkO=>(As8 Fh ε).ζ (A6 η (! θ))|Bh4=>(.AT D3 t)|Bh5=>ac ε 3 OU ζ|AkP=>(Adw (b::F_))|AkQ=>(Adw Bg6)|AkR=>(.ARr .Or (b::F_) Υ)|AkS=>(.ARr .Or Bg6 Υ)|Av_=>(da 105).LS 3|AkT=>[Mn,PZ,Md,ε]|AkU=>by by_cases hb:S b|AkV=>(BQ::vs)|AkW=>h _ ?_|AkX=>P6 _ ts|AkY=>∃v,ε/\Qr|AkZ=>aD m f|Av'=>s.heap.IsCell c v|Aka=>PA X es t|Akb=>PA X HC t|Bh6=>AMp OR|Akc=>[ip,ny,ABG]|Akd=>ALo d v rd ε ζ|Ake=>Ε (.frz o œ)|Akf=>AMy At_|Akg=>Jo wE|Akh=>a∈as|AwA=>by show AT_ ε ASm|Aki=>D9<II|Akj=>pS*ALd|Akk=>i_*ALd|Bh7=>(R.unbase g)|Akl=>by show ε=ζ;grind|Akm=>AUG C|AwB=>typeLookup ε ζ =KW η|Bh8=>(IO (k.map kV))|Akn=>uF c ps|Ako=>Nw ε Β Β|AwC=>(.pu (.AT w))|AwD=>(.pu (.AT hd))|AwE=>(NF AR Aer)|Akp=>[(f,v)]|Akq=>AR0 (zN _)|Akr=>AR0 (AsL _)|Bh9=>by show AUT ε AR4|Aks=>by show KA a vs hq rs r1|Akt=>Ė x c e|Aku=>AUY ?_|Akv=>Pk D Γ E|Akw=>I_ hs'.2 b hb e|Akx=>(AeW s3)|Aky=>(hr.make C us [])|Akz=>pI FH X.w H' h'|Ak0=>pI FH X.w H' ii|Ak1=>by ·show L6;rw[Hk] at hp;exact hp|Ak2=>by ·show L6;rw[QY] at hp;exact hp|Ak3=>by ·rintro C NX iS fp Ν s σ H Q I ⟨vW,vX,q⟩;exact AtT ht HW Ν s σ H Q I q|Ak4=>by ·rintro C NX iS fp Ν s σ H Q I ⟨vW,vX,q⟩;exact AtT he HW Ν s σ H Q I q|Ak5=>fun f=>AMb|Bh_=>⟨HE::us,kw⟩|Ak6=>∀h',ε ->Q Ι UA|Ak7=>(1+ Lu)|AwF=>fun b hb z=>ε|Ak8=>BB d≠0|Ak9=>h a zY|Ak_=>J_ T_ Bhl|Ak'=>(SA A1 AUV)|AlA=>NU fun u=>ε|AlB=>AAd k 0|AlC=>jr f f[i]|AlD=>Aeh hr|AwG=>(.pu (ET m))|Bh'=>z6 (wf ?_ ε)|AlE=>(ST AHp AHn)|AlF=>ğ Lc (.B0 ε::ζ)|AlG=>fS MA AdU|AlH=>(n,k)::r
|AlI=>(ABQ H' a Atw)|AlJ=>vG a1 b2|AlK=>iQ (cT (ND G3 ε ζ))|AlL=>R_ m fun j=> ε|AlM=>Aes [_]|AwH=>SR AG F1 H1 ε ζ σ η|AlN=>Ir IL ec|AlO=>Aeu h4|AwI=>Ae1 (ť (FF d))|AwJ=>Bg' (I i A4)|AlP=>(Ae2 wP)|AlQ=>fun Γ P _=>ε AeM (fun ζ _=>η) kj|AlR=>l::r::t|AlS=>k∈ks|AlT=>fun g hg=>ε|AlU=>x h - ALy|AlV=>by simp only [i7,hx]|AlW=>(sG AC)|AlX=>.dK AH|AlY=>⟨h1,h2⟩|AlZ=>zK (ASP ε)|Ala=>KW (ForInStep.yield ε)|AwK=>(Mn ::ps)|Alb=>∀s',ε ->AMa|Alc=>pQ qs ε=Μ|Ald=>(i8 i PY)|Ale=>(b*b')|AwL=>(ts++ [t])|AwM=>MR l (AMY l ε)|Alf=>(AuK AdM)|Alh=>zO (Mj ?_) ε|AwN=>nY K H1 a xs|Ali=>by by_cases q:g=f|Alj=>ay ε kX ACV|Alk=>AuM (dM 1 ε ζ xt) η θ ι|Alm=>bS iH (Q5 xs)|Aln=>kq ε aO B1 ζ|Alo=>mR ks k|AwO=>(z6 (z7 ?_))|Alp=>ACu e hx|AwP=>[Mn,PZ,FA,HR]|Alq=>AMt P_ k|AwQ=>(AGb Atv [a] pE)|Alr=>(kvs.any fun kv=>(Φ (kv.1=k)))|Als=>ε AG sp ζ η Q (fun C dx H' =>∃x F',θ/\AMf ι ν /\Ad0 ξ)|Alu=>o4 BG TO a b|Alv=>(Aj xs lo hi)|AwR=>Nw cs _ hq|Alw=>∀[AKN β](Auj),_|Alx=>YD (t:=t) h|Aly=>AuZ (AT6 ε)|Alz=>by show HI (!(Φ (ε<ζ))) _ _|Al0=>Aub H'|AwS=>BhS ArP|Al1=>s1.heap.DictAt AMO a ws ep|Al2=>∀(AT8) (F H H0:Hp),_|BiA=>Aud cells.lookup|Al3=>by rw[ε] at q⊢;exact⟨F1,AA,ζ,R1,q,η⟩|Al4=>Aui ?_|Al5=>GQ F ε (Ś _ h (ζ h)) fun cdv A Cf s H E hr F0 H0=>⟨η K c,θ,fun a bs t ds Q Ex h=>ι h⟩|Al6=>(kO ps).2<=ε|AwT=>AKg<1000|Al7=>∀a∈as,ε|Al8=>k*7 % IG|Al9=>.ext (D6 ε)|Al_=>fun H s=>ε|Al'=>∃m,m<n/\ε|AwU=>PE X i ty|AmA=>Gm Ξ m ε|AwV=>(Do RY hl)|AmB=>(IL _ _ ea)|AmC=>by have e:xW ε NI=Ε ζ:=η|AmD=>.pu (J7 bs)|AmE=>by by_cases q:C4=h|AmF=>(M6 qs).BGv|AmG=>(XB x hx)|AwW=>D.rt v H|AmH=>Ő n_ ε BH ζ|AmI=>AG9 (Si s hs)|AmJ=>(z.1).du|AmK=>(AL' (rh/\zo))|AmL=>P6 (ε .AZ) (ζ ŕ)|AmM=>yk AAh ks ys|AmN=>by obtain⟨z,hd,xs,rel,dd⟩:=qV Qx|AmO=>Ap y H' z|AmP=>Lv (-1)/ BB (LZ ε)|AmQ=>BhY BG|AwX=>LL _ _ CD|AwY=>∀z,lV K2 ε (ALw g)|AmR=>(start N vs)|AmS=>Aqt f=Ε v|AmT=>oN xs=Ε ns|AmU=>∀c∈cs,f c=0|AmV=>qG qs r v|AmW=>fun Γ P E=>t Γ (fun c BY =>ε) E|AmX=>(rel.val k).nA|AmY=>AUW ε [] H' ii|AmZ=>by rw[e1,e2] at hd|AwZ=>Bha (ATo Ι (.seq ε ζ) #[])|Ama=>(aT as (kK/\P3 H0))|Amb=>by have e:b=it:=CU hb|Amc=>∀(qs:A5)(bs:IQ),_|Amd=>fun b u q n ε=>ζ|Ame=>sO fun i j=> (Aty ε)|Amf=>AuT (ε st h)|Amg=>AUe (Rb (i:=2))|Amh=>by obtain⟨t,ht,hq⟩:=Aum|Awa=>Bhe Me|Ami=>∀b ob,AuN ->ACU TH|Amj=>fun ds Q _=>ε|Amk=>by refine Aez (aE ε u ζ) ht|Awb=>nY K F a vs|Aml=>(.ArF .Not a Υ)|Amm=>by show kG h1 h2 (wv r hr)|Amn=>.pu (uF c ps)|Amo=>k _ _ _ _ R1 s1 q|Amp=>⟨R'.gr.h,H2,e1,e2,ε⟩|Amq=>by show KA ε r h1 h2 h|Amr=>SP ε Ν D f ζ|Ams=>dY P w Cf H s ε e s'|Amt=>AuV ε (g x σ H' ζ)|Amu=>[ř,Ŗ (ig AHJ x),ε,ζ,y4,y5]|Amv=>∀{α:CL}{one:ATr},_|Amw=>zs2 (hu1 hu) ε A1|Amx=>(B5 (r=mj) 2 1)|Amy=>(up v w q u)|Amz=>by show EQ r hr e F.of S hS|Awc=>(Bhn Fh)|Am0=>Bho BG|Am1=>Ak K F0 H0 ε D2 D|Am2=>Bhp A|Am3=>cand S n bs k Bhf|Awd=>∀{K:Ω}{F0 H0 F H:Hp},_|Am4=>ALO Ν σ AA F1 H1 s1 e s' I1 R1 ε|Am5=>Bhs (ACl c)|Am6=>by obtain⟨v,us,bs,cs,e1,Β,h1,h2⟩:=h|Am7=>by intro wh Ν s σ H Q I h|Am8=>σ ->CO|Am9=>St ->DD Hp (ε)|Am_=>bs++cs|Am'=>x.2≠y.2|Awe=>show¬(ε) from AaV|AnA=>f j - f p/q p*q j
|AnB=>by obtain⟨_,_,e,_⟩:=hS b z|AnC=>∃f∈fs,ε|Awf=>by cases n<;>simp [rZ]|AnD=>ElemsOf knd ε|AnE=>(AA_ ABL)|AnF=>by ·exact Bmv _ _|AnG=>[AFy,ZA]|AnH=>(q::qs)|AnI=>DD Ψ Ψ|AnJ=>(FM (BhQ .AT))|AnK=>by have A9:=AsS ε|AnL=>.A0 (E7 (rV ε))|AnM=>.A0 (w4 hq)|AnN=>by obtain⟨_,_,_,_,Β,_⟩:=h;rfl|AnO=>by obtain⟨_,_,_,_,_,_,Β,_⟩:=h;rfl|AnP=>(k - l)|AnQ=>(r.2 - l.2)|AnR=>BFI _ _ AUP|AnS=>.AZ (vm sF hq)|AnT=>Dy Ξ h|AnU=>ofM Ξ m|AnV=>fun _ H Q=>ε|Awg=>(au B1 AuP)|Awh=>yQ b (e - s)|Awi=>PE X EV tv|AnW=>C7 jk AMC|AnX=>(z9 _ Β)|AnY=>Wx r fs|AnZ=>by have hr' :=jw.mp hr|Awj=>M_ w (yv w)|Awk=>(ZZ A3 AS6)|Ana=>(Ξ++ [r])|Anb=>(AGc (ļ o m) [])|Anc=>VV (ε)=AC|Awl=>PySem.call f vs|Ane=>(Ara nd).2|Anf=>AGd s2 ε s2.toks|Ang=>by refine ε (DP x) ζ (fun w hw=>η) θ|Awm=>gX AG g|BiB=>∀x∈a,x∉b|Anh=>sz+ε* (B5 AuG 1 0)|Ani=>Aua ε++ [g]|Anj=>∀(ABm) (he:fF:=by rfl) (De:AuL:=by rfl),_|Ank=>Φ (C4=h)|Anl=>SS (CI∈ws)|Anm=>R J H'|Ann=>(gB Ξ x)|Awn=>T.keep _ _ _ ε fun b hb o e=>ζ|Ano=>zK (BEo _)|Anp=>RR (Bko _)|Anq=>(List.range' ε n).B6|Anr=>(ε AMm hd).B6|Ans=>ARk a BG ε|Ant=>Jn ε #[fU ζ η xc]|BiC=>(b∈AAv\/AMi b)|Anu=>(AGx ((ATk).zip AT5))|Anv=>ε K F0 H0 t E σ H R|Anw=>(v4 j pM)|Anx=>by obtain⟨_,_,_,_,o,_,_,e,_⟩:=k;exact UQ|Anz=>h v zY|An0=>(ABQ F a ad)|An1=>ki (Bg1 d)|An2=>[FA,HR,Mn]|An3=>qT kA F0 H ε ζ|An4=>(yZ _ _ _ ?_)|Awo=>fun i j hi=>ε|An5=>∃d:Ψ,d≠0/\dF d<=ε/\ζ|An6=>BU - 1 - i|An7=>by show PM t (EM (š ε) r);cases e;rfl|Awp=>(es.getD p (0,BI)).2|Awq=>∃o,ε/\∀v,nk≠ .cell v|Awr=>PK Ξ ws ps|An8=>(ACy w hw)|An9=>EG (.AKn ε j Υ) ζ|BiD=>h p (zW _ hp)|An_=>jo t BG l xs|An'=>ε (n:=ζ) AD AD|AoA=>YR f=Ε ⟨oc,od,ε,ζ⟩|AoB=>by show Zp hx e hx|AoC=>∀(Ξ:CF)(w:Κ),_|AoD=>Bgz (I_ sb.2 b hb e)|AoE=>by show AT' eb (nH b u eb)|AoF=>by show AUA pT y|AoG=>by generalize Lv ALd=v at*|AoH=>by generalize Lv i_=u at*|AoI=>σ ->α ->AI|AoJ=>lt ε (eR ζ 0)|AoK=>#[GC Β (Aex ε ζ)]|AoL=>AUH (ACv ε) (fun ζ EJ=>η)|Aws=>Nw r hr Β|AoM=>AUJ ATR PZ ε|Awt=>N4 cs Cn (ε) ζ|AoN=>U i j hij ε|AoO=>AUL ε AbR Aqj|AoP=>(neC b o e hx)|AoQ=>∀{κ:CL}[rL],_|AoR=>(Arz vs).wn|AoS=>tQ (Υ:=ε) (i:=ζ)|AoT=>EZ (sIx n 0 lo)|AoU=>h _ (I.tok _)|AoV=>AL_ Bhb e (ε i ζ)|AoW=>iW t1 BG i1 l1 k1|AoX=>iW t2 BG i2 l2 k2|AoY=>by obtain⟨a,vs,h0,h1,h2⟩:=h|AoZ=>by refine⟨ES,AuF,_,_,ε,Β,ζ,η,θ,NL,ι⟩|Aoa=>ATt (tb (ATy N N) σ2 H2)|BiE=>AuE pP update|Aob=>gY xs ys=Μ|Aoc=>by have BD:=zG e|Aod=>by show AuI p1 p2 ε|Awu=>M' ε p 1 0|Awv=>z6 (wpAny_typeNameOfWhole_keyiter ASo (z7 ?_))|Aww=>(ABQ F' A3 ad)|Aoe=>∀w,w∈ws↔ε|Aof=>(Wo r ta tb)|BiF=>Atc J.type (z6 (Atc ε ζ))|Awx=>fun a F0 hA=>(Ev (bO (Aem ε)))|Awy=>(.Raise (Ch (ABo AHN HC)) Ι Υ)|Aog=>∀{rs:EN}{cs:Cn},_|Aoh=>ε g tc ζ (qZ AGQ FB Γ)|Awz=>Lx (Φ (ε=AUB)&& ! one)|BiG=>Rh K mg BDM Bhg|Aoi=>ne c _ z (Ll w (yv w))|Aoj=>by obtain⟨f,fd,Fn,ε,ζ,hb⟩:=w8|Aok=>∀(G:Bhr ε)(hr:gI)(hg:JE)(ha:NJ)(AL6),_|Aol=>ho z E cx Ν s σ H (UC H1 (∃F1 AA d,AMI/\yn/\AMU F1/\ ε)) I ζ|Aw0=>fun f hf cs=>ε|Aw1=>(by cases op<;>first | rfl | show AUM ε)|Aom=>W9 (C5 ε) (E6 N9)|BiH=>L.back R' s'|Aon=>h.Ns1 dx mA|Aoo=>(DS fH.cs S)|Aw2=>((ε).LS 26).eD
|Aw3=>fun k' y=>(M' k' k ε y)|Aop=>ě ε (Ě ζ CB)|BiI=>.Cc (YU fun o=>ε)|BiJ=>Ļ F2 H2 A4|Aw4=>g ε Γ (A6 BY ζ) E|Aoq=>nY K H a AuU|Aor=>.ow (DF (R_ k) nm .AT)|Aos=>AdW QE elt te|Aw5=>ACw ε (s.heap.UpToSlots h') (Q () UA)|Aot=>∀ds Q Ex,sp ds Q Ex ->t ε (gQ N ds) xI|Aw6=>by rw[typeLookup_type,builtinLookup_eq_fast];kernel_rfl|BiK=>∃S' ∈ε,AT4 S S'|Aw7=>AuJ ε (Aue Be Be ζ)|Aou=>∀{K:Ω}{F:Hp}{d:D}{v:V},_|Aov=>∃f fd,Ad6 ε/\ATa Lc/\AUZ/\ACg|BiL=>ho Ν s2 σ H2 x y v u|Aw8=>by obtain⟨oc,od,oda,osl⟩:=ε|Aow=>zo9 ε (ALn z3t) AUS|Aox=>by ·rw[hc,ea] at q;cases q|BiM=>ur 3 (Nf c) (aj Ŧ (Fm AMj ε))|Aoy=>Wy rx fx r fs ε ζ|BiN=>AHT ->aS (kW Ξ CI) Aee|Aoz=>IM BY 0 (.pu (.ptr a))/\ε|Ao0=>(by rcases hq with hq | hq)|Aw9=>pH Ξ ws m ε j*AUd x v4|Ao1=>by rw[hl] at st hx|Aw_=>h.mono (fun q hq ε=>ζ) η|Ao2=>(Ue MC eb)|Aw'=>(ZR AeU bd)|Ao3=>ε H2 (eQ s3)|Ao4=>FN d d' =Μ|Ao5=>zM ε (Bkl AD ζ)|Ao6=>Sz 4000 (oh ε ζ)|AxA=>sy (C5 (ε Β)) Β ζ η (MO θ)|Ao7=>TR K F H t v ε|Ao8=>T.obj _ _ ε b hb|Ao9=>rE H F' a|Ao_=>ε ζ es1 (Bm3 ASk)|Ao'=>⟨0,0,0,0⟩|BiO=>by (obtain⟨_,_,z,_⟩:=r';cases z)|ApA=>zlz I S e|AxB=>W_ (BhI k0) BhH|ApB=>nsIn K nX x=Ε (Ch Lc)|AxC=>(ya (ON (i8 i PY):Key))|ApC=>∀(XL) (hd2:To y (AKm :Κ):=by decide) (DY:To y (ArC :Κ):=by decide),_|ApD=>U5 hA ts vs bs n h|ApE=>uE p s i|BiP=>Ada [AtA] ε Cx Cx|ApF=>⟨Aed s3 s2,Τ⟩|ApG=>Ť t es Auc|ApH=>fun t ds P E=>ε|ApI=>∀(hs:Ρ)(x:D7),_|ApJ=>yH c _ (A6 hc ?_) q|ApK=>by show ATl (.ε _ _ _ _) (.ζ _ _ _ _) (.η _ _ _ _)|ApL=>by show ATl (.ε _ _ k1 hu0) (.ζ _ _ k1 hu0) (.η _ _ k1 hu0)|ApM=>GG ACY X.A (ARv (BA it)) (p_ s1 ε) E s|ApN=>by show AHs (.ε _ _ k2 hu0) (.ζ _ _ k2 hu0) (.η _ _ k2 hu0)|ApO=>by show b9;exact ε a t' b t|ApP=>(K1 lo n).ε i H|ApQ=>μ*Aqo zn|ApR=>dt rs (i' p)|ApS=>lW (zL (AHd ε) AD)|ApT=>Ar3= HE/\AcX= AdX fv/\ε|ApU=>∀{n:Δ}{f:ACZ},_|AxD=>(UH v (∃h:AuH,v=es[i].A9))|ApV=>vC knd kf led ε a ζ|ApW=>I_ far b (Ug hT hdT q n)|ApX=>by show AMz (us++ []) (ATP RY OS AHr)|ApY=>ALD ts vs bs h a ha|ApZ=>JU=CB::AAu|AxE=>(Dz wP L f)|Apa=>by obtain⟨_,_,_,q⟩:=hs;exact AcH q|Apb=>obs (cut BG n)|BiQ=>∀{t1 t2:AO}(Bht),_|Apc=>EG AHo (ε C m sp te t)|Apd=>(AGO a).wsh ⟨ε,z.pn⟩|Ape=>by show [AFn _,GW (ε)]=_;rw[AUK ζ η]|BiR=>uz (cT (cB qu (wu Eg RO (Ax (J8 c)) ε) r8))|Apf=>AMv R1 s1 KB q|Apg=>by refine UL Atl Atl (P.ne Η Η Η) ?_|AxF=>by obtain⟨ws,kv,hd⟩:=zpk I hq Rv|Aph=>by obtain⟨b1,b2,b3,b4⟩:=ε|Api=>∀{S:bc}{hs:CO},_|Apj=>by exact Oy (main _ _ AD AD)|Apk=>W.excIn K ε Auf Aqa =Μ|Apl=>.ask i j k|Apm=>AcI (ε ?_ AD AD)|Apn=>fun x e n=>ε x fun o ho=>e _ o n ho|Apo=>by obtain⟨z,AU,n,r,e⟩:=ε|Apq=>by show AL7 a2 u2 h2 h1|Aps=>∀AH,u≠ .dK AH|Apt=>by obtain⟨o,e,c,d⟩:=st|Apu=>∀(hf:Adm\/Adn:=by first | exact yb | exact .AZ Β | assumption),_|AxG=>SR K F0 H0 F' H' DA BY|Apv=>#[Um (C5 Xw) Β bI BEf ε]|BiS=>∀{m n:Δ}{a b:AI},_|Apw=>[AR1,ZE,VX,ny,Ab7]|Apx=>P7 (.For tg ε MY [] Υ) (ζ η g tb)|Apy=>by intro i x y h1 h2|BiT=>(zQ _ (zjk hb e))|Apz=>GA (∃ns:BS,ds= jv ACG/\AUc/\ε)|BiU=>sp tt ds (fun t' d=>∀cs,P d ε) (Bhk ζ)|Ap0=>by obtain⟨fa,fd,Fn,hm,hb⟩:=w8
|Ap1=>∀(BhU){t ds Q Ex}(h:ε c t ds Q Ex),_|Ap2=>Auk ⟨F4,Γ4,R4,eQ (BFZ s4),q⟩|AxH=>BhZ ε BU (VY BU BU hi - Bhd)|Ap3=>show its.toArray.any (DP x)=its.any (DP x) by simp|Ap4=>[ZA,NW,"lefts",ArU,"numbers"]|Ap5=>(BeW Fh).all (A6 x (x.1).AFk)|Ap6=>Xv (C5 yd1) Β mq boot_int (MO ε)|Ap7=>[AMk,Co RF,Co ĉ,Co way,Co ę,MS (nms.map .AT),MS (Nh.map .AT),.ow (Aq0 Bv),ε,ζ,x10,C_]|Ap8=>∀(t1 t2:AO)(h:AJ)(l1 l2:Ζ),_|Ap9=>(match k with | Ũ=>x | .A0 _=>PY)|BiV=>hq ds Pd Ex hsp|BiW=>Ach (first:= PF) (h₀:=OQ)|Ap_=>[z,TI,TO,i1,i2]|Ap'=>Φ (ε+ ([]:EC Keyword).nv+ (B5 ([]:EC Keyword).isEmpty 0 1)<30)|AqA=>uI (Kf u) (V u)|BiX=>⟨_,Bhi ho hd,(BmT ..).JY hc,ε⟩|AqB=>(xw tQ j Rz hv2 hd2 DY)|AxI=>IsZip ε z TI TO (OV ζ)|AqC=>fun d A4 F2 H2 v R2 s2 r p=>(Bhj r p)|AqD=>DS z3h cx.po hc ε (Rs hg) Q2 hs|BiY=>∀(q:Δ) w p,y0 ws w ->y0 ps p ->ε|AqE=>Uz hit hg O Β ?_|AqF=>by show ACx (h F1 H1 z kj AT7 Ν s σ H1 Bhq I1 ⟨F1,jO Γ,_,L.R,q,ε⟩) u hq|AxJ=>(pU r g ps ms x)|AqG=>qD (oA ye AT3 ws h)|AqH=>(Td c p ws0 ws Kf V v).ε|BiZ=>fun d v F' H' gr rv q=>ε|AxK=>[Mn,Ğ,di,dk,AFi,n9]|AqI=>[ZH,"head",ZE,Ab7,VX,ny]
|AqJ=>∀(TZ:Aep:=by rfl) (ZO:z_:=by rfl)
 (he2:Ĺ [.Call AdV [] [] Fh] Aet []:=by rfl),_
|AxL=>ε K C f sp vs H Q E|AqK=>⟨p,vs,Β,ε,Jh h1 r1,Xy rs h2,ABp (JA (Ji h1 r1 rs h2)) h3⟩|AxM=>((al (match xs[j]?,ys[j]? with | Ε a,Aec=>iH a b | _,_=>AC)))|AqL=>by obtain⟨q1,q2,⟨u,v,q3⟩,q4,q5⟩:=q|Bia=>∀(P:As) (w:AW) (K:Ω) (mg:DU),_|AqM=>by ·obtain⟨F,ds,P',Ex,_,rs,hs,_⟩:=Bz;rw[<- Sc];exact AuY|AqN=>by have:=N1 YM rs rs cs ε ks ks ss rs (r:=ζ) fun s hs=>hs|AqO=>∀(K:Ω) (sp:ε) (vs:AQ) (H:Hp) (Q:VK) (E:XK),_|AqP=>∀(X:Cx),A_ (FH=P) (X.w=w) (AG=K) ε (∀(i:Δ) (Ν:fB) (s:AB) (σ:St) (H:Hp) (E:eO),ζ)|AqQ=>∀(P:As) (w:AW) (K:Ω) (mg:DU) (A8:AJ),_|AqR=>(by rcases g with ⟨AH,k,e,ey,l⟩ | ⟨AH,k,b,e,ey,eb,l⟩)|AqS=>by rintro A3 C H' s5 I5 q5 ⟨m,hn⟩ c1 c2 c3 c4 c5 c6|AqT=>by ·rintro C NX iS fp Ν s σ H v u Q I r ⟨vW,vX,q⟩;exact AtT hg HW Ν s σ H v u Q I r q|Bib=>wy ε|AxN=>BnC ε|AxO=>BEK ε|AxP=>(match r with | ε=>ζ | η=>θ)|AxQ=>ES+ε|AxR=>(Ka L (ε w hw)).1|AxS=>if ε then ζ else Ι|AxT=>by rw[TU,ε,ζ]|AxU=>by rw[ε,ζ,η,θ,OX,ι]|AxV=>by rw[iq]|AxW=>ε<=BDH|AxX=>by obtain⟨_,_,_,_,e⟩:=ε|AxY=>by obtain⟨_,_,_,e⟩:=ε|AxZ=>by obtain⟨_,_,_,e,_⟩:=ε|Axa=>by obtain⟨_,⟨_,_,_,e,_⟩,_⟩:=ε|Axb=>by simp only [Da] at ε|Axc=>Int.gcd_dvd_left ..|Axd=>BoC ..|Axe=>by simp only [i7,ε] at ζ|Bic=>ε BmV|Bid=>ε (ASX _ ζ _)|Axf=>by injection ε|Axg=>by cases q|Axh=>EC Obj|Axi=>EC L2.Key|Axj=>(by grind)|Axk=>(by injection z)|Axl=>[Md]|Axm=>(BA sl)|Axn=>(BA C')|Axo=>B7 AHh|Axp=>ARN h|Axq=>Pe h|Axr=>BEm h|Axs=>ALQ h|Axt=>ε ζ (o6 η)|Axu=>by ·rw[B4 q,QY];exact ε|Axv=>.B0 ES|Axw=>ASr _ ε|Axx=>.AK (lo+i)|Axy=>Φ AHT|Axz=>Φ AHc|Ax0=>AX beq_eq_false_iff_ne ε|Ax1=>(FM AR_)|Ax2=>SeqAt.EqAt.same _|Ax3=>Fk AO|Ax4=>Fk AJ|Ax5=>by show CS Η;omega|Ax6=>i<IG|Ax7=>i<II|Ax8=>i<Mm|Ax9=>(AQ6 _)|Ax_=>(hm.push _)|Ax'=>(Ch GE)|AyA=>by subst r;rfl|AyB=>.AZ RH|AyC=>.AZ AC'|AyD=>.AZ (FS (ε hb))|AyE=>İ AM_|AyF=>GY OR ε|Bie=>D5 its.size|AyG=>D5 Rc|AyH=>D5 AR7|AyI=>D5 FK|AyJ=>D5 rest.length|AyK=>BEc ε ζ Β|AyL=>BC zkj|AyM=>BC zf1|AyN=>BC z0k|AyO=>BC zfg|AyP=>BC zo8|AyQ=>BC zd3|AyR=>BC zcs|AyS=>(Rs h1)|AyT=>(Rs hk)|AyU=>Fr TH ε|AyV=>show ε by show pe|AyW=>W.handedIn ε=Μ|AyX=>Lv ASs≠0|AyY=>(EF hl)|AyZ=>(a::dx::bs)|Aya=>.none_bool _|Ayb=>.bool_none _|Ayc=>EZ D9|Ayd=>PE X (ABo (ļ o ε) ζ) η|Aye=>Nn dP|Ayf=>Nn "any"|Ayg=>Nn Pc|Ayh=>(MO DI)|Ayi=>(MO F7)|Ayj=>Ev k7|Ayk=>(IN hy)|Ayl=>CU hps.length_eq|Aym=>To ε (AKm :Κ)|Ayn=>(.dK [])|Ayo=>(E7 hy)|Ayp=>(ALn ycg)|Ayq=>by rw[ALW] at h|Ayr=>BFN e|Ays=>by (exact Iy ε zJ)|Ayt=>FS AHv|Ayu=>No AcY|Ayv=>.bl AC|Ayw=>AFe Η|Ayx=>Ē Η|Ayy=>ALQ Η|Ayz=>by unfold ε;show sB|Ay0=>zx.up AD|Ay1=>ķ SO|Ay2=>pj Ψ|Ay3=>(NA hh)|Ay4=>ARN q|Ay5=>L.hS b hb|Bif=>by show ε+1<ABM;omega|Ay6=>⟨o,ε,O.ex.1⟩|Ay7=>b∈ia|Ay8=>HH iq ε|Ay9=>Os AO|Ay_=>Os Result|Ay'=>Kb<=i|AzA=>AS0 qa|AzB=>(SE At)|AzC=>AGh BiA|AzD=>xp AKq|AzE=>.none_int _ _|AzF=>.none_str _ _|AzG=>.bool_bool _ _|AzH=>.int_none _ _|AzI=>.str_none _ _|AzJ=>by refine AKo ?_|AzK=>rel.val k|AzL=>aD l (A6 a ε)|AzM=>(pv B1)|AzN=>DZ AG C|AzO=>SS BiN|AzP=>BFT j ε|AzQ=>AGo ε (Kt s' ζ)|AzR=>(AvL qD)|AzS=>(z8 _ e1)|AzT=>by show AfX;exact ε|AzU=>Pf[j]|AzV=>(EW .AK)|AzW=>SZ zD|AzX=>k<IG
|AzY=>k<HA|AzZ=>.ow (R_ ε fun j=>ζ)|Aza=>WP BiD|Azb=>WS ACj|Azc=>qE Bh8|Azd=>qS OX ε|Aze=>qV zz7|Azf=>i<=ME|Azg=>(ABu hne)|Azh=>splitId ε =Ε (ζ,η)|Azi=>(pre++AfP)|Azj=>(pre++d::ACR)|Azk=>F.to r hr|Azl=>by show DT u Β rx AR2 r1|Azm=>fc (kf e.2)|Azn=>P [.AK e]|Azo=>DM ε [Ğ] ζ|Azp=>(AGx Auv)|Azq=>dS WI|Azr=>(Ty).OO|Azs=>(Ł).OO|Azt=>XI BU ε|Big=>Ĕ ABP|Azu=>AAt t|Azv=>rows.drop t|Azw=>by show ACN ASm|Azx=>(g.unbase gr)|Azy=>(Ar9 gr)|Azz=>Acz hi|Bih=>tn i ii|Az0=>AG4 AU|Az1=>(hn a h).2|Az2=>List.nodup_cons.mpr ⟨ε,ζ⟩|Az3=>BDx ⟨ε,ζ,η,θ⟩|Az4=>(topStub p)|Az5=>[FA,AFy]|Az6=>AtI ε KP|Az7=>AtK (AGj ε KP)|Bii=>AGA (EF hi)|Az8=>(ON h:Key)|Az9=>(frs Cf)|Az_=>(kW Pf)|Az'=>AdY AK1|A0G=>(AHF NW)|A0H=>(AHG aH)|A0I=>(zh aq)|A0J=>bC (Gc ε) (bC (Gc ζ) fY)|A0K=>ASK h'|A0L=>by have hl:=OS|A0M=>DD D G2|A0N=>Ŝ AKp ε ζ η|A0O=>(zW _ hx)|A0P=>(200*27720)|A0Q=>ALV fun i=>ε|A0R=>Rd H a AUx|A0S=>KV AH ws|A0T=>fun b hb u e=> ε|A0U=>(JA q)|A0V=>AHK BU|A0W=>AHK wS|A0X=>plainObj_wpAny_Assign_Attribute ε hs|A0Y=>Aq2 y=Ε ε|Bij=>(AHQ oB)|A0Z=>qD (s w)|A0a=>(jn a yo)|A0b=>(Á At)|A0c=>rv.up s1|A0d=>ε (pl:=AC)|A0e=>(ALA kV)|A0f=>AMN (AU_ ts)|A0g=>(e - Aeo)|A0h=>pb Key AE|A0i=>ACr OR|A0j=>Ll h h|A0k=>AKT fun w=>ε|A0l=>SU AUR*f j|A0m=>.obj _ _ _|A0n=>.bool_str _ _ _|A0o=>.str_bool _ _ _|A0p=>ŵ (zG e)|Bik=>[FA,Pi,NW]|A0q=>(AHi hb)|A0r=>(AHi ho)|A0s=>⟨f,fd,ε,M,B9 (by show sQ;exact Β)⟩|A0t=>rv.up s2|A0u=>∀(ha:r9 a tA),_|A0v=>∀(ha:PT X a tA),_|A0w=>AHl (.frz o (vh a C))|A0x=>(Ua K a)|A0y=>(Ite K a)|A0z=>ADM D3|A0_=>i8 j 0|A0'=>(ATs F7)|A1G=>(ATs ś)|A1H=>ADP MZ ε|A1I=>(ATv (C4∈U))|A1J=>z.natAbs<=B|A1K=>.rR _ ts|A1L=>AT1 (hstop Β) ε|A1M=>Fr MA o|A1N=>.Cc (ABX ε)|A1O=>BCw fun r=>ε|A1P=>h'.IsCell c v|Bil=>(n_ ABL).Me|A1Q=>Ato oP|A1R=>Ato ALE|A1S=>Ato Ac9|A1T=>(da 9).LS|A1U=>(Atp Bh_)|A1V=>mR ks Ae_=Μ|Bim=>(aL K F ds F_)|A1W=>(ASn AK5 Adq ds)|A1X=>h.FunFrames ε l|A1Y=>o=Ε v|A1Z=>o=Ε E8|A1a=>D6 (.AK (f h))|A1b=>IP (Bmn _ _)|A1c=>AM9 Auh|A1d=>ANA S_ ε|Bin=>AUO ASc ε|A1e=>∀i,i<HQ ->ε|A1f=>AUU (h b hb)|A1g=>fun vs σ H Q=>ε|A1h=>WO D tv d ε|A1i=>by show ANE ME|A1j=>(.AY Β r)|Bio=>AeS base.Ns|A1k=>AeS h.Ns|A1l=>ARk ε h1 h2|A1m=>(I2.env0.make C us [])|A1n=>R1.g.trans sH|A1o=>seqIndex_neg Η ε|A1p=>(Do z (yS _))|A1q=>eR k 0|A1r=>MR A3 H'|Bip=>(.pu (ET sN))|Biq=>by have:=ε;show B8 ζ;omega|A1s=>fS OR AdU|A1t=>k b o hc e|A1u=>by show XT i ME|A1v=>(ABQ F2 a Atw)|A1w=>vm IL hq|A1x=>vG a2 b2|A1y=>(nu AH k)|A1z=>AU1 ws.Pairwise|A1_=>(At9 dx)|A1'=>AU2 zH4|A2G=>iW t1 ε i1 l1 (k1+1)|A2H=>iW t2 ε i2 l2 (k2+1)|A2I=>(by rcases Nat.lt_or_gt_of_ne ε with q | q)|A2J=>(by rcases As3 ε with q | q)|A2K=>(N*M)^ABd|A2L=>Nd Gf|A2M=>s'.os=AAe|Bir=>Kb=II|A2N=>nN<=40|A2O=>(Ae4 hk)|A2P=>⟨Β,CD,ε⟩|A2Q=>((k,x)::r)|A2R=>F' A3=Ι|A2S=>Id H H1|Bis=>DC OS z|A2T=>K_ xs q|Biu=>(AfA a.den_pos)|A2U=>HH (bW ne) iD|A2V=>HH Au' iD|A2W=>∀r∈rs,AU9 r|A2X=>P8 (ADU ε) 4|A2Y=>P9 Β Β|A2Z=>P9 Β ?_|A2a=>UB p AHZ|A2b=>(NF At AR)|A2c=>ņ OR ACV|A2d=>US h Sk|A2e=>(k,x)::r|A2f=>(AfI Β)|A2g=>by obtain⟨AU,r',pl,hz⟩:=Pe hq|A2h=>by obtain⟨AU,r',pl,hz⟩:=io hq
|A2i=>(S0 w os)|A2j=>(O.lv w).few|A2k=>fun o=>(Aey Ac4)|A2l=>.none_tuple k2 hu0|A2m=>.none_list k2 hu0|A2n=>.tuple_none k1 hu0|A2o=>.list_none k1 hu0|A2p=>.bool_tuple _ k2 hu0|A2q=>.bool_list _ k2 hu0|A2r=>.tuple_bool _ k1 hu0|A2s=>.list_bool _ k1 hu0|A2t=>aD l f=0|A2u=>fun D Γ _=>ε|A2v=>fun D Γ E=>ε|A2w=>(gY xs ys)|A2x=>(nD xs ys)|A2y=>f j*SU cs|A2z=>(j9 F0 F)|Biv=>qB ε ds (ζ*SU (j::ds)) cs|A2_=>AuB W.mroIn ε AqW|A2'=>AuB W.mroIn ε Aaa|Biw=>(Aqn a:Key)=ε b|Bix=>(ON a:Key)=ε b|A3G=>Afl ADX|A3H=>.tuple_list k1 k2 hu0|A3I=>.list_tuple k1 k2 hu0|A3J=>Afq (ε DA H')|A3K=>(Afu H1)|A3L=>Afw ε AAx|A3M=>by show j' DA H' I q;exact⟨DA,H',Xj I,q⟩|A3N=>by show j' DA H' I q;exact⟨DA,H',Xk ok I,q⟩|A3O=>W.KasT α|A3P=>T BG|A3Q=>FK=Pw|Biy=>BGX= #[]|A3R=>sc.kind= AL2|A3S=>Ζ ->aG|A3T=>by show Aun BHS|A3U=>by rw[EK,EK]|A3V=>by rw[ABS,i7]|A3W=>wpAny_Name ε hd|A3X=>(.nt ts)|A3Y=>(AAq ε).all|A3Z=>by have hl:=we|A3a=>DD T D|A3b=>BO w hw|A3c=>(as++cs)|A3d=>(ox i 0)|A3e=>C7 uo ns|A3f=>by intro Ν s σ H Q I hw|A3g=>R.g b u e'|A3h=>AGI (ABU i ε)|A3i=>.dik ks xs|A3j=>(aT bs (OSz 4000 b))|A3k=>WH Y (B7 AvP)|A3l=>(by rcases Ae6 with Β | z)|A3m=>x5 (xk 3)|A3n=>fS H' AUb|A3o=>seqEpoch_at (n:=ea)|A3p=>by by_cases BD:i<ME|A3q=>(ACm ks d4)|A3r=>ABR ε t v as ζ η|A3s=>⟨#[c]⟩|A3t=>dL (oU qs)|A3u=>aD Ξ (x0 (ε*sR))|A3v=>bt.lead (N:=16)|A3w=>∀{α:CL}(f:α ->Ψ),_|A3x=>(ħ z).Ok|A3y=>eE HQ (al ε)=ζ|A3z=>VZ j _ e1|A3_=>(hg x).mpr (IN ε)|A3'=>WO _ t ds ε|A4G=>(Œ ps (Ia 300 p))|A4H=>(B5 N3 Ι (F' b))|A4I=>GL Ξ r (AIE*ε) ζ|A4J=>AvO ANS|A4K=>(ALG i (.tr Ł t'))|A4L=>AvQ (K w)|A4M=>lL (dM 1 ε ζ xt d8 η)|A4N=>by refine Ab2 hp (bT (ε _ ζ η) θ)|A4O=>AvS Aqc|A4P=>qP (bw st) Mn|A4Q=>qB d es (s d*h es) ε|A4R=>by show Bhu AGM ε|A4S=>A6 F0 (Ev (bO ε))|A4T=>[PZ,Mn]|A4U=>∀(K:Ω)(ta:TA),_|A4V=>Jr K c.fV|A4W=>BO k hk|A4X=>BO x hx|Biz=>xs.all qH=Μ|Bi0=>z6 (z7 (z6 (z6 ε)))|A4Y=>On es us|A4Z=>(ws++ [w])|A4a=>DM ε [MD,n9] ζ|A4b=>by show SH (AQ8 ε)|A4c=>(U8 a b)|A4d=>UB l AHZ|A4e=>∀j,f j=a j+g j|A4f=>AGA (AQ6 _)|A4g=>av QF tf|A4h=>Bh3 (xo hi')|A4i=>yT F2 es|A4j=>qq ALV AvF|A4k=>wb e s'|A4l=>(Œ IC AuA)|A4m=>dU (iV (zh (SE ε)) ζ)|A4n=>∀[rL](val:Ae8),_|A4o=>(iI fe sA)|A4p=>À p hk|A4q=>(qI t i)|A4r=>.AT x _|A4s=>lt i j=Μ|A4t=>dt AHy sL|A4u=>AvY ε (DC l ζ)|A4v=>AeH dx a|A4w=>by show Bh9 AGA|A4x=>by obtain⟨m,hn,hl⟩:=ε|A4y=>v8 lt is|A4z=>P7 (.Return Ae7 Υ) ε|A4_=>Bh' BhD|A4'=>(cB Ef AfL AR)|A5G=>.ob _ _ ts|A5H=>(.AAz elts x1 Υ)|A5I=>by show SH (zlq rs hns)|A5J=>pr (¬T_) H1 H|A5K=>rH S x h|A5L=>GL Ξ r (x C4) 0|A5M=>iK (K' w) hd|A5N=>(Jq FH X.w q ns)|A5O=>Afm ts as|A5P=>∀(Aul)(Avc)(h:AMw),_|A5Q=>by rw[Ack,Ack] at nd|A5R=>(cB ji AeC ko)|A5S=>rk S bs i|A5T=>(k a zY).o|A5U=>∀{B n:Δ}{q:AI},_|A5V=>gA ks xs k=Ε d|A5W=>AvJ (Ava (ku ε))|A5X=>DN BG x dx C mA|A5Y=>by obtain⟨AU,rv,ε,hz⟩:=Pe hq|A5Z=>fun z E cx Ν s σ H Q I hq=>ε|A5a=>by obtain Β:os' =AAe:=hm.os|A5b=>(cO Γ σ H)|A5c=>Ŝ AKn ε j (tC ζ)|A5d=>(Ag h H).IF|A5e=>W.InstAt h x o C ε|A5f=>SR K F0 H0 F H ε (ō ζ)|A5g=>Bj ps ws v|A5h=>(Auo (AMs AU4) hs Β)|A5i=>.A0 ⟨_,kk,Ir R2.g ec,Β,ε⟩
|A5j=>(zH1 t1 ε l1).BDi|A5k=>BiI (Afv h)|A5l=>by obtain⟨o,AH,e1,e2⟩:=ADN|A5m=>Cu Ξ r g ANU ws u|A5n=>Steps CA w A I S FK ep o ε ζ η|A5o=>by show AvB iH AGM;rw[FY,AvA]|A5p=>⟨x,H2,Asr n0 I' sm e1 e2,rv,hQ⟩|A5q=>BiP Bh1|A5r=>∀i,i∈ms↔i∈ε|A5s=>by obtain⟨a,vs,bs,e1,Β,e3,h⟩:=h|A5t=>(BiR EH)|A5u=>by exact hb Ν s1 σ H1 Q I1 q1|A5v=>by refine .AZ ⟨ε,Atj,fun DA H' p' =>⟨ζ,Τ,Β,BD,p'⟩,Afo⟩|A5w=>by obtain⟨a,dx,vs,h0,h1,h3,h4⟩:=h|A5x=>by obtain⟨a,dx,vs,bs,e1,Β,e3,e4,e5,e6,h⟩:=h|A5y=>by obtain⟨x,H',I',rv,sm,H2,e1,e2,hQ⟩:=hq|A5z=>by show AH6;refine AvV;refine Ach (h₀:=OQ) ASN ε ζ he De;show AvZ η;refine D_ og|Bi1=>AM0 C (BFW nm qn C N bs bm P1 sn BM ab col dd k0 k1 k2 k3 k5 ε)|A5_=>Hd.cB pg|A5'=>r.inj r'|A6G=>ASK ii|A6H=>II=FK|Bi2=>(Ľ,Ű fun r=> ACj)|A6I=>AG6/\Auw|A6J=>AS8 AFm\/ε|A6K=>W.funFrames_hide (as:=ε)|A6L=>∃u,TH e=Ε u|A6M=>ABc<60|A6N=>by obtain⟨_,_,_,_,Β⟩:=Tw hl|A6O=>x C4 - x' C4|Bi3=>by simp only [ε,Acj,AK8]|A6P=>let ⟨o,ho,r⟩:=x;⟨o,ε o ho,r⟩|A6Q=>by wp_walk using Bhw,Bhx|A6R=>ED % 2|A6S=>by dsimp only at e1 e2|A6T=>seqIndex_of h0 ε|A6U=>(newList [])|A6V=>(Bm3 ASk)|A6W=>(ALa RQ)|A6X=>(ASu Ŭ)|A6Y=>(i' (p+1))|A6Z=>I_ GJ.2 _ ε ζ|A6a=>Ac5 ε (.ob C fs ts)|A6b=>BGK ε A2 ζ|A6c=>((by first | rfl | (simp only [Bmn];rfl)))|A6d=>A.handled=Ε E8|A6e=>l.most=Ε n|A6f=>env.frame=Ε L|Bi4=>(AR6 AcN).ε|A6g=>⟨vw,hd⟩|A6h=>[ip,MD]|A6i=>(p::AM5)|A6j=>(A3::as)|A6k=>∀H1,pd H1 ->ε|A6l=>eQ (BFZ ε)|A6m=>BO c hc|A6n=>by obtain⟨_,_,_,_,_,_,_,_,_,_,Β,_⟩:=h;rfl|A6o=>by obtain⟨_,_,_,_,_,_,_,_,_,_,_,Β,_⟩:=h;rfl|A6p=>EX ds d|A6q=>(xs++ys)|A6r=>X _ _ ho|A6s=>Z9 _ _ n|A6t=>Sz 1000 x|A6u=>W.notCls o=Μ|A6v=>EG EV tv|Bi5=>DC (j7 r1) ū|Bi6=>ASx ACY (AFu (BA it))|A6w=>BHW fun e=>ε|A6x=>Cj.there b o eb ε|A6y=>by obtain Β:d' =ε:=hm.drawn|Bi7=>AGc (ļ ε KP) ζ|A6z=>(lZ.mp hr).2|A6_=>LJ (ğ (SB ε) ζ)|A6'=>(h Ν s σ H _ I hw)|A7G=>P9 [] (GB ε)|A7H=>R2.sl i _ e2|A7I=>.pu (vD S)|A7J=>Y0 Ξ x m|A7K=>(k==AsE)=Μ|A7L=>(UC _ (v= AHz))|A7M=>by by_cases hb2:b=ES|A7N=>AGp w9 AUf|A7O=>PS X st t|A7P=>by rw[Ti,AaW];exact ε|A7Q=>SV ob AMG|A7R=>(h2 a h).2|A7S=>(kC AGz kD)|Bi8=>min v.toNat n|A7T=>(iT g t)|A7U=>(ε _ z).2.1 Β|A7V=>AU7\/ε≠Ι|Bi9=>(fg (k a ha).2)|A7W=>O3 (Fm At ε)|A7X=>by cases h;subst r;rfl|A7Y=>(y,k)::r|Bi_=>by rw[List.contains_cons,ε,Bool.or_true]|A7Z=>by show bv he2 (AcD ?_) ε|A7a=>ATA ε (Od fun i j=> (Aty ζ))|A7b=>kl (k.stay (ALk z z) (fun c z=>ε) (AMq z ζ))|A7c=>[ip,AKw,ABG]|A7d=>["start",ip,ABG]|A7e=>ATF hos hds ε|A7f=>lI (by(cases (hr)))|A7g=>QI X F0 H0 Aft ε ζ|A7h=>(ha Ν s1 σ H1 _ I1 q)|A7i=>fun⟨ε,h1,h2⟩=>ζ|A7j=>V7 (H x)|A7k=>by refine ε (Acg ZN ?_)|A7l=>(da 15).LS 7|A7m=>AM ->Ĳ (ε) XV|A7n=>by refine BmE ε (BmF ζ)|A7o=>(by (repeat (any_goals (first | assumption | wp_step))))|A7p=>vG b1 a2|A7q=>o4 ε TO x y|A7r=>fs.Pairwise (xl b BiB)|Bi'=>(by rw[isSubtype_type];kernel_rfl)|A7s=>{s with drawn:=d}|A7t=>fun i h1 h2=>ε|A7u=>∀(n:Δ)(f:qh),_|A7v=>Ŷ ABw B1|A7w=>fun D σ H=>ε|A7x=>(eR m 0)|A7y=>ADH (AUa ε AD)|A7z=>GL s h (ε* Ä) ζ|A7_=>(ATv (Auz<2^40))|BjA=>AA_ (af ε #[BQ])|A7'=>BGI (a:=dy)
|A8G=>by obtain⟨t,hx⟩:=qV UG|BjB=>fun ys hy=>(AX (ε hy hq) hx)|A8H=>AT1 ε (hd σ H p)|A8I=>by show Zp hb e hb|A8J=>by show LN hl hb h|A8K=>∀(Ξ:CF)(ws:Ρ),_|A8L=>AH7 (GL l a ε ζ)|A8M=>z6 (ATF ho hd ε Β ?_)|A8N=>∀(Ν:fB) (s:AB) (σ:St) (H:Hp) (Q:ε),AS ->Ã ->ζ|A8O=>by subst h;simp [aL]|A8P=>(EM (AUQ (Slot.ow ds)) Β)|A8Q=>ne b _ q AeT|A8R=>no b _ q AH8|A8S=>∀(AH:qk)(k:κ),_|A8T=>by show ANC BGo zl8|A8U=>(z8 _ (z9 _ Β))|A8V=>K6 K F Hx ε ds|A8W=>fun Γ P E=>ta Γ (fun d BY =>ε) E|A8X=>by show ACS Ati AGH g1 g3 A2|A8Y=>Arh vu hi|BjC=>newExc Aur []|A8Z=>H' A3=Ε ad|A8a=>k b ob q|A8b=>∀(h:AJ)(H:Hp),_|A8c=>tb BY P E|A8d=>(hi - lo).eD|A8e=>rZ n d d'|A8f=>k b o (Ae' hc) e|A8g=>∀{Ξ:CF}{ms:OA},_|A8h=>AUw (BiK Le)|A8i=>∀(C:Ζ)(f:Κ)(ε:ζ),_|A8j=>AU0 ε B1 A1|BjD=>AU' (J' [u]) [(x,u)]|A8k=>Ae3 (rZ n x y)|A8l=>AVC r ?_|A8m=>⟨r,hr,e⟩|BjE=>Ap j s' q|A8n=>by ·subst hb;rw[iD] at e;cases e;exact ε|A8o=>fun b ob q _=>ε|A8p=>e=x\/AeH e x|A8q=>AL8 (EM (b∈ ([]:Bi)) ε)|A8r=>∀{Ξ:GM}{ws:CO},_|A8s=>(B5 AHR (H' b) (F' b))|A8t=>(B5 AHR (H1 b) (F1 b))|A8u=>VG ε (zL AD (pw 4000 AD)) AD|BjF=>VG ε (pw 4000 AD) AD|A8v=>AHg t' E8 Ł|A8w=>(ne b _ q AeT)|A8x=>(hm b _ q (AV z))|A8y=>∀{hs:Ρ}{h:Κ},_|A8z=>qB c ds (ε*SU ds) cs|A8_=>AfY (ACf st.at (Afg it))|A8'=>by show ACS (BGb S) BGc hg ASl AGW|A9G=>(σ[j]?).join|A9H=>B7 (C7 wt GW)|A9I=>TL (BDr b ε)|A9J=>R'.sl 0 _ e0|BjG=>(∀w∈Na,AuW Au8)|A9K=>#[Uw Β Β jl ε]|BjH=>E AA (.pay C [fl] [tr])|A9L=>Au0 AbR Aqj|A9M=>Au1 (AUz t #[])|A9N=>Au2 aD (ε (l:=l))|A9O=>(setAttr km D3 v)|A9P=>ε=VV (a=b)|BjI=>(kS hl1 ALR D.l1z)|A9Q=>IP (Arm _) (Bl9 ε ?_)|A9R=>AMx (E6 (Q BE)) Q|A9S=>Au6 specialOf BmM ε|A9T=>Au9 (dF (tb i j)<=ε)|A9U=>(qw At (pF WF) qC)|A9V=>P6 fe (DF NU ε ŕ)|A9W=>Gr F' H' F5 H5|A9X=>Bhc p (OV p)|A9Y=>(Bhh E8 a)|A9Z=>∀k v,Aen ->kf v=k|A9a=>∀(Bhm)(r:ATu)(k:κ),_|BjJ=>pB (ε Β) (KE σ H Q Bz)|A9b=>BEl (M:=ARm CA w)|A9c=>fun r hr j=>ε|A9d=>(AGO b0).wsh|A9e=>Au4 (ATo ε (.seq Nc n) ζ)/\Mo OR η/\AvE θ ι|A9f=>⟨ε,ACf (st.2).at ζ⟩|A9g=>o6 (a1.mem_iff.mp hi)|A9h=>fJ (ARd f)|BjK=>[aI d1,aI d2]|A9i=>∀{α β:CL},_|A9j=>by subst z;rw[ε] at mu;exact mu|A9k=>by refine wf ?_ BhD|A9l=>∀(ε:To ζ (AKm :Κ):=by decide) (η:To θ (ArC :Κ):=by decide),_|BjL=>ys[k2]?=Ι|A9m=>by obtain⟨y,H1,I1,ry,q⟩:=ε|A9n=>W.codeIn K cdv EI=Μ|A9o=>N4 qs A5 (∀q∈qs,ε) ζ|A9p=>AvK oP ε IR ts vs bs ζ r|A9q=>AGy (Z_ k) (SG h)|A9r=>∀(Ξ:GM)(w:α),_|A9s=>by show sD w hw hq|A9t=>IZ (wt ft) AU|A9u=>ACz ((ε q hq).up AD)|A9v=>ADT (ğ ACk (ε::us))|A9w=>(ħ ⟨xe,z.pn++Ν⟩)|A9x=>⟨y,H2,I2,ε,q2⟩|A9y=>(vals.map kf).OY ks|A9z=>LW (EW qD) ε (Ch ζ)|A9_=>(Ari he hd h1 ?_)|A9'=>(yA (xz (S b) H2 (H' b)))|A_A=>by obtain⟨o,e3,w,Β,nd,hn,r⟩:=Au3|A_B=>∀(f:Κ)(v:V),_|A_C=>∀{Ξ:CF}{r:Rw}{w:Κ},_|BjM=>∀(hb:AtX S_ (V' S_):=by show pe),_|A_D=>I.un (h' :=BG) (t' :=ε)|A_E=>#[Gy (Xc (pO (C5 yka) ε HF NB) (Xb ζ))]|A_F=>{nx:=rX,rt:=rX,rT:=ε}|BjN=>t Γ (fun ds AA=>ε) E|BjO=>∀{np Fh Υ:AL},_|A_G=>by show UV (IL _ _ q) n1 n1|A_H=>ε f t v bs (Lo (k b (zP _ hb))) h1|A_I=>ε.2.1 x c e Β|A_J=>AVB tv y (zI ta x ε)|A_K=>by have hr:WN r AuA:=WP (hh p (zW _ hp))
|A_L=>by ·have h1:=GD i_ ALd;have:=ha.2;have:=hb.2;omega|A_M=>fun a ha b hb n e=>ε|A_N=>by obtain⟨h',g',d',tk',os'⟩:=s'|A_O=>∀(BiS)(ha:Sz m a)(hb:Sz n b),_|A_P=>BiX (by rw[AcZ hd];simp [OV])|A_Q=>ε=operate ζ (AR5 η θ)|A_R=>(match t with | AC=>ε | Μ=>ζ)|A_S=>fun w hw q=>ε|A_T=>fun σ H=>(Bg' (I C9 A4))|BjP=>∃AU:An,ANK/\ε/\kU|A_U=>∀{xs ys:AM},ε|A_V=>by rw[ε,FI,FI,<- Sc,ζ]|A_W=>by rintro i ε _ hi ⟨ζ,Β⟩|A_X=>Arh vl lo|A_Y=>(BFv fun a b=>a.1≠b.1)|A_Z=>(AGL ţ [BQ,v1,v2])|A_a=>by show kR e' ε;rw[ζ] at e';cases e'|A_b=>by unfold eE;rw[ih];grind|A_c=>mL sc ε CB|A_d=>eS BE ε is|A_e=>Qb ε (Qb ζ EO)|A_f=>kK/\P3 H0/\AL4 b|A_g=>io (vm sF ε)|A_h=>(.dik ks AUu)|A_j=>(cB g ta tb)|BjQ=>BB (Aeg Dy h)|A_l=>Q (.AK ε L') AU6|A_m=>∀(hn:Aux:=by rfl) (ANM),_|A_o=>by ·show Sj (BB ε=ζ) Β;constructor<;>grind|A_p=>.AZ ⟨_,_,ε,Β,Β,Β,Β,ζ⟩|A_q=>[Pi,FA,NW]|BjR=>[ARy,ARx,ARw]|A_r=>[ip,MD,"rests"]|A_s=>(hμ r hr).2|A_t=>j9 F0 F b|A_u=>Zl (n_ (Mu w))|A_v=>by obtain Β:g' =Aqd:=hm.gens|A_w=>{s with heap:=ε,drawn:=d}|BjS=>(Dy Ξ h).B6|A_x=>g ε σ H (ATt (tb (ATy Atj Atj) σ2 H2))|A_y=>(ps++ [(AMu,H)]).B6|A_z=>(Bld tg AHu u)|A_0=>pr (b∉ε) F' F|A_3=>∃ks xs,Afd/\ε|A_4=>∃cs t',IM Γ 0 (.tr Ł t')/\ε|BjT=>∃es,nk= Afs|A_5=>SS (yR Ξ x' C4)|A_6=>(AS2 BH s H fp)|A_7=>ŀ (hdS a) (hdS b)|A_8=>∀{elts:CC}{x1},_|A_9=>WP (AL8 (EM (p∈ ([]:fB)) hp))|A__=>(iR #[Jg B1 Ael K7])|A_'=>Cds (M8 HQ) m x|A'A=>A6 y (M' y D3 AHx ε)|A'B=>gE Lu (B7 m*1)|A'C=>AL5 (∃F0 H0,ε K F0 H0 t kj σ H Q)|A'D=>ACX H2 (∃F2 A4 es,BiJ/\ε/\ζ/\η)|A'E=>.pu (yj lS ws)|A'F=>ŝ (setAttr E8 f u)|BjU=>Gr F0 H0 F' H|A'G=>xX AG F' H1 H' C' O4 x|A'H=>ε f ts vs bs (Lo (k b (zW _ (zW _ hb)))) h|A'I=>AMK (.ε ks' ys) (Φ (ks=ks')&&Ÿ)|A'J=>by refine UE wpAny_lookBehind hoD (Do hdD (pastItsLine_dict (zO hcD ε)))|BjV=>(kI h1 ALR D.i1z)|A'K=>(ģ AH k v)|A'L=>j_ Aqh v6/\o9 K v6|A'M=>j_ AbP c.fV/\o9 K c.fV|A'N=>qB d es (ε*h es) cs|A'O=>aD m (f a)|A'P=>Adx BiE BH Ae5 ε|A'Q=>by show AHt c q1 q1|A'R=>(AcC (iq _ _))|A'S=>Ox (QM (Gx ε))|A'T=>⟨GH,_,e,hrv,ε⟩|A'U=>by have e' :¬q.1=k:=AV (e (h1.trans z))|A'V=>(cT (cB qu (BiM (cV 10)) AeC))|A'W=>dY FH X.w JU H s ε e s'|A'X=>ANQ ds AM L5 ε|A'Y=>(items.toList.drop (sIx Rc 0 lo)).take|A'Z=>∀{P:As}{w:AW}{K:Ω}{elts:CC}{x1},_|A'a=>ε nd Β DO (EL ζ)|A'b=>(AGH ho hd A2 ?_)|A'c=>∀{K:Ω}{h:AJ}{C:Ζ},_|A'd=>by cases rx;show AvT;have hl:=ε|A'e=>AfQ (hg m hm).ε|A'f=>Sq t1 K H a xs|A'g=>Sq t2 K H b ys|A'h=>∀{H:Hp}{a b:Ζ},_|A'i=>Afh (∃vs,ATu/\h.DictOf AHb a vs)|A'j=>∃q,GY TH q|A'k=>(by rcases mf f hf with hf | Β)|A'l=>#[au ε (au ζ aN)]|A'm=>Aup b h (DH _ e)|A'n=>(relabel sc CB).BFs|A'o=>BmF (Y3 A9 ε AvM)|A'p=>by show KA l xs hq q q1|BjW=>WB ta d (ń (.exc C0) ((ε)/\FF ζ))|A'q=>∀x y c,ε ->ζ ->x=y|A'r=>∀k,k<n ->∀j,(ε k j).į<=ζ|A's=>∀d v F' H',rq ->ε ->ζ ->Š|A't=>(fore TC topGo p w os)|A'u=>qB x es (g x (c::d::es)) EE|BjX=>AvR AfN AMT AMT|A'v=>ArX o ε CB (js o)=Ts o|A'w=>by refine⟨o,p1,QD p2 IR (AGy (Ds p2 hb).1 (BO u q'))⟩|A'x=>0::AQ9 fun m=>(B7 (jr qs m))|A'y=>by obtain⟨xs,hq,hx⟩:=hg|A'z=>(by rcases ε with z | ⟨z1,z2,z3⟩)
|A'0=>(revObj l (AUj - 1))|A'1=>(.wc y np::e::es)|BjY=>BmE Β (PySem.evalArgs_none ?_)|A'2=>Ctx X F0 H0 E|A'3=>hQ _ _ _ _ R'.gr KB q|A'4=>by refine IP (newFields _ _) (wf (G0 ⟨_,Β,ALX,_,AUn,uh.lookup,?_⟩))|A'5=>fun i s o a e=>ε|A'6=>(B5 (k=f) ((k,v)::r) ((k,x)::pL f v r))|A'7=>by show DT u hu ru ARz hx|A'8=>by have Uo:p<BH:=by obtain⟨o,n,e,_⟩:=pl;exact Se|A'9=>zS ģ AH k v|A'_=>by show ADG bs e (zE.mp h)|BAI=>#[sy (C5 yds) Β qL boot_abs ε]|BAJ=>AUg Q (h Ν s σ H Q I AeY)|BAK=>⟨o,es,ε,h2,h3,h4⟩|BAM=>h b (zW a hb)|BAO=>∀b xs,qE f_ ->AUC f_|BAQ=>GN i x u e1 e2|BjZ=>∃a bs tt,AMN Afn/\BiU BhN BhN|BAS=>AvU (kk d AA F' H' v AMr Aeq rv hp)|BAV=>by rw[q] at h;cases h;rw[ε r q];rfl|BAW=>∃i j,x= FU/\y= AHY/\C i j/\ε|BAY=>(by simp only [Rep] at r;subst r;cases d' <;>simp only [Rep] at r' <;>first | show AuQ | show AuR | (cases r';exact K5 _) | show BiO)|BAZ=>∀(Bia) (A8:AJ) (C:Ζ) (m:Κ) (k:Δ) (ps:Ρ) (sp:ε),_|BAa=>(NC (kp b o (E9 ?_) fh))|BAb=>(Auq FU (Afr AK7) BE)|BAc=>fun xs ds P=>(ABr ε ζ)|BAd=>by obtain⟨od,J,hl⟩:=I.look|BAe=>by obtain⟨n1,n2,n3⟩:=nd|BAf=>by obtain⟨U,hU,hr⟩:=O.hs|BAg=>ε++ (B5 (CI=w) ζ [])|BAh=>∃(AU:An) (n:Δ),ε|BAi=>by rename_i dd cd sl ho|BAj=>wpAny_Call_method0_late TZ ZO (aE ε v Bz)|BAk=>∀(q:AI)(l:A5),_|BAl=>∀{σ:St}{Γ:G2},_|BAm=>ε Ν s2 σ H2 _ I2 q2|BAn=>(eV V_ P w K mg A8 ţ EI xj f cdv A Cf s H ű)|BAo=>∀{rs:EN} {cs:Cn},ε ->ζ|BAp=>GG jS X.A (ğ Lc ε) (EP K2 Ν σ Q) oa s|BAq=>∀j,ZB M (r j)|BAr=>∀(UT)(tg e:AF)(k9),_|BAs=>xX K F ε H' C dx x|BAt=>AtC (ε K2 tg e (AS5 ζ))|Bja=>∀r,r∈Ξ↔r∈uV|BAu=>ka (M4 (z ε Η) (z ζ Η))|BAv=>by show AL7 a3 u3 h3 h2|BAw=>CI=w/\C4=h|BAx=>Sq t AG H a ε|Bjb=>(AA_ (af ε #[BQ])).ζ ES a|Bjc=>BGR (T:= BGH) (b:=Μ)|BAy=>fun x hx y hy e=>ε|BAz=>k a zY _ (ε f g ATI h)|BA_=>by obtain⟨o,e1,v,Β,nd,hn,rt⟩:=Ŵ|Bjd=>⟨s',o,q,p1,hb⟩|BA'=>PassesOwn jS X.A CB wb|BBG=>∀F,qT X F H0 MY tb|BBH=>by obtain⟨I,i0,TN,LU⟩:=h1|BBJ=>∀{Ξ:GM}{x x' :PP},_|BBK=>[Ğ,ArU,RO,ny,VX]|BBL=>P7 (.Try MY hs [] [] Υ) ε|Bje=>[(AC,Ts ε),(AC,Ts ζ)]|BBM=>AfV p p p p ε|BBN=>(a.free c ob q n hx)|BBP=>(AKk b o e n hx)|BBQ=>n6 (Aqt f) (mA f)|BBR=>by refine Uc ε ζ hc hm (Rk Jl) ?_|BBS=>pO AH2 (zv9 bM.mt ak ML ε) ś NB|BBT=>⟨Tm dP,RL,.seq ε dn,RM⟩|BBV=>(f Afc (ft j u))|BBW=>(Z sh (ig (ARq i) (AUs ps v)) ms x)|BBX=>⟨.AT p.r,qD p.g,uF c VU,uU p.hs p.x,ε,ζ⟩|BBZ=>by refine BiW ASN hm.kp ε hst De|BBa=>ε f ts us cs (Lo (k b (zQ _ hb))) h2|BBb=>by obtain⟨b,_,_,Β,e,_⟩:=h;cases (e);rfl|BBc=>∃i j,x= FU/\y= AHY/\ε|BBd=>∀(i:Δ) s o a,EX ε s ->¬Å|BBe=>∀(p:Bh)(a b:AI)(w:Κ),_|BBf=>BiZ (hQ d v F' H' gr rv q)|BBg=>by rw[zzl G G'] at A'|BBh=>by obtain⟨xs,x,hq,hx⟩:=hg|BBi=>∀C NX iS fp,ε BcA ζ η|Bjf=>AcF EI KO BH f|BBj=>s.heap.IsSliceOf sl vl vu BI|BBk=>(I.ok.cab x c hfn hc)|BBl=>(AcM lo hi Ι n)|Bjg=>⟨F1,AA,R1,kB,i0⟩|BBm=>(.Slice lo hi Ι p2)|BBn=>∀{ta:TA}{p Υ:AL},_|Bjh=>[BEZ,BEa,BEb,Ab1,ABH]|BBo=>N0 ch (BiC/\AUI/\ (ADW b)/\Afe b)|BBp=>(eV CX P w K mg A8 N EI KO f cdv A Cf s H E)|BBq=>∃f fd,Ad6 ε/\Meth K C m f/\ACg|BBr=>∀(K:Ω)(F H:Hp),_|Bji=>WG h (Jf i s o a) e|BBt=>by show ax oj g1 g2 g3 Ĭ
|Bjj=>(AMR (r= .ok (.ret AUq)/\OldK ABP ii/\s'.os=s₁.os/\ANJ))|Bjk=>y s h - dg (k s) (y s)|BBu=>Bg0 (rB r/\P r Γ) x (GR x/\AeK)|BBv=>Fast.lvL O (w:=w) (fun h hh=>ε) ζ η|BBw=>∀(t:T) (v:V) (as:Bi),(AL' ε) ->AIC ->ζ|BBx=>∀(ts:HK) (vs:AQ) (as:Bi),(AL' ε) ->AH9 ->ζ|BBy=>Uc I1 ε hc hm (Rk Jl) ?_|BBz=>∀(x:D7)(L:Ρ)(f:re),_|BB_=>∀Γ F' H σ,Aut ->Fu ->ε Γ ->ζ|BB'=>∀(ws:Ρ)(v:D7)(bs:sK),_|BCG=>I.step (g' :=Aqd) (d' :=AKS) (ch:= ε)|BCH=>⟨_,Au7,F0,gQ N ds,ε,Uj sF rs,BiV,ζ⟩|Bjl=>entryFor_alias (id' := ε) BhC Β UM BhC|BCI=>∀{ks:ε} {xs:AM} {vs:AQ},AHe ->ζ|BCK=>fun b ob eb=>BX b ob (ε b ob eb)|BCL=>(by rcases hc with Β | Β | Β | Β | Β)|BCM=>(Itz K t1 t2 a b)|BCN=>∀{H:Hp}{AH:AH0}{xs:AU8},_|BCO=>ε (knd:=AvH) (AH:=ws) (ep:=ep)|Bjm=>fun Γ5 F5 H5 σ5 R5 s5 q=>ε|BCP=>by show EQ hT hN hsm WK I1 (IN ⟨AH,ε⟩)|BCQ=>fun d v F' H' gr r h=>ε|BCR=>[MD,n9,AKw,ABG,"rests","steps"]|BCS=>(dM n FB ti g tc te)|BCT=>Walks.list (toI (Aby hc)) BH p (zK Uo) RS|BCU=>by obtain⟨go,yl⟩:=hgo ds[i] (zZ BD)|BCV=>fun es A4 F2 H2 vs R2 s2 r2 h2=>⟨F2,A4,es,R2,s2,r2,h2⟩|BCW=>(∀a F,JT pl F a ->qT (AGO a) F H0 (b::su) th)|Bjn=>∃as ws ps x y z,ε/\Γ= [ř,Ŗ (.dic fe AfF),x,y,z]|BCX=>∀{F' H' :Hp} {t' :T} {ε:Bi},Fu ->ζ ->AHg t' v η ->θ|BCY=>BK ds g tb D0 E AA|BCZ=>ε iC aO bI bF mq aZ ak|BCa=>CE Cf P w H s Q u s'|BCb=>Fits Ξ ps Afi Afk (Ln ns)|BCc=>∀{tb:TS}{D:ij}{σ:St}{H:Hp},_|BCd=>fun Γ F' H' σ R s h=>ε Γ F' H' σ Bh7 s h|BCe=>fun Γ F1 H σ R s1 h=>ε Γ F1 H σ R (s.trans s1) h|BCf=>∀(c:DZ)(p:Bh)(ws0 ws:Ρ),_|BCg=>by obtain⟨F2,H2,R2,sF,rc,at2,e1,e2⟩:=BiH|BCh=>by obtain⟨F0,ds,Pd,Ex,sF,rs,hsp,ε,hE⟩:=ζ|BCi=>(fnOf x EI AH3 k_ xj BI BI BI BI Ι BI BI)|BCj=>fun l h' is e hle a1 a2 ε BX=> ?_|BCk=>Y3 (zzt (I:=I) hh hQ ε) (Auy) Ų|BCl=>by obtain⟨j,h1,h2,h3,h4,h5⟩:=zzf he|Bjo=>fun v u s2 x y H2 I2 rx ry q=>ε|BCm=>by rename_i C' bm k0 k1 k2 k3 n k5 hm hs|BCn=>pf (fun ds AA F1 H1 a vs R1 s1 e1 e2 e3 r1 ap h1=>ε)|BCo=>∀(cH:BC zdn)(rN:BC zy5)(cG:AM2)(bI:ze)(ak:KG)(bQ:AM6)(bL:Ŀ di)(bV:Ŀ dk)(bG:Bh0)(aQ:Bhz)(aH:AUm)(aC:AH1)(aU:Bhy)(aP:Afj),_|BCp=>∀(cg:BC zc1)(dH:BC zfv)(dG:BC zg0)(iC:BC zke)(aO:BC TF)(bI:ze)(bF:Ů)(mq:Ae9)(aZ:PH)(ak:KG),_|Bjp=>fun ys F' H' vs R' sF a1 a2 a3 rs ap hp=>ε|BCq=>∀(i j:Ψ) (t u:Tok) (s:AB) (Q:eO) (E:eO),ε|Bjq=>∀{A:ae}{d:Ψ}{tb:ae}{rs:EN}{fs:AHC}{ix:qh},_|BCr=>∀(rM:BC zzr)(lB:BC zq5)(gG:BC zk7)(aZ:PH)(nR:AvX)(lC:BiG),_|BCs=>by intro EV ir Ν s σ H x y v u Q I rx ry h hs|Bjr=>ASP ε|Bjs=>ε ES|Bjt=>@W.check_slot|Bju=>.BCy|Bjv=>by rw[BDW,ε,ζ]|Bjw=>BH∉ε|Bjx=>by simp only [eK] at ε|Bjy=>eval_ListComp ..|Bjz=>by simp only [ε,AGM]|Bj0=>by simp only [Da]|Bj1=>(by rcases zo7 hc with ε | ⟨_,_,_,ζ,_⟩ | ⟨_,_,_,η,_⟩)|Bj2=>by apply Bmj|Bj3=>BEu ε|Bj4=>Nat.pos_of_ne_zero ε|Bj5=>by split<;>omega|Bj6=>(by assumption)|Bj7=>(by rw[eJ]<;>omega)|Bj8=>[OU]|Bj9=>ε (AQ8 ζ)|Bj_=>AGR+1|Bj'=>BG2+1|BkA=>nN+1|BkB=>B7 II|BkC=>Int.neg_dvd.mpr (ε)|BkD=>Ē h|BkE=>ASS h|BkF=>Nat.min_eq_left h|BkG=>(ET ns.sum)|BkH=>by ·show kR e1 (Aq9 b o e hx);exact ε|BkI=>Rat.mul_inv_cancel _ ε|BkJ=>(nN+1)|BkK=>BB ED|BkL=>BB AqU|BkM=>AX Da ε|BkN=>My W.CFound
|BkO=>List.Perm.refl _|BkP=>Int.natCast_nonneg _|BkQ=>by show AwA Da;omega|BkR=>by unfold AsW;omega|BkS=>wy z|BkT=>BmW z|BkU=>(AsL _)|BkV=>(ItemsOf.nil _)|BkW=>(PySem.F.args_dict_values_1 _)|BkX=>by subst h;rfl|BkY=>AcL _ ε ζ|BkZ=>D5 ng|Bka=>D5 IG|Bkb=>(xF AbP)|Bkc=>Kx ASD|Bkd=>Nn Yf|Bke=>(Kt _ JS)|Bkf=>z6 (AKq ε)|Bkg=>Pp hl|Bkh=>Bm_ _ ε|BHa=>C8 P2|BHb=>C8 AdA|BHc=>R_ HA|BHd=>(ASy AbP)|BHe=>Ē e|BHf=>Except.error e|BHg=>Do Da ε|BHh=>Do iq ε|BHi=>No Aq5|BHj=>List.set_eq_of_length_le Η|BHk=>Int.natAbs_of_nonneg Η|BHl=>Rat.intCast_le_intCast.mpr Η|BHm=>(SB Aaa)|BHn=>(SB dr)|BHo=>(IO (AMA 0 1))|BHp=>BEm q|BHq=>(BoB ε).2|BHr=>FF AR_|BHs=>(AAt i)|BHt=>(Zs AKU)|BHu=>Lv FL|BHv=>Lv Abk|BHw=>JA Rl|BHx=>JA BlA|BHy=>IntMulOk i j|BHz=>BDp hb|BH0=>SD BFo ε ζ|BH1=>Int.mul_nonpos_of_nonneg_of_nonpos ε h|BH2=>WG ε BoK ζ|BH3=>Bku fun ε _=>ζ|BH4=>slotArgs _ _ _|BH5=>xp ARu|BH6=>M_ _ eP|BH7=>subscriptTail_builtinR (x:=ε)|BH8=>by rw[AGB ε] at ζ|BH9=>(al (Agk (54+j)))|BH_=>(al (Aw9 i))|BH'=>ε (AQ5 _ ζ)|BIA=>cJ k AcR|BIC=>Bk5 r|BID=>(I1.ok.hd hc)|BIF=>i<=BGs|BIH=>((C5 0)::rs)|BII=>by rwa [w_] at Χ|BIJ=>(pre++x::EE)|BIK=>Bll ⟨ε,ζ,η⟩|BIL=>AKg<=1000|BIM=>ED<=1000|BIN=>nN<=1000|BIO=>(AdL yJ W')|BIQ=>(sc.names.map (·.1)).OO|BIR=>by rw[OX,ε] at e|BIS=>Bkl ε Η|BIV=>XE BU|BIW=>ACH exec_Assign_Name_used ε|BIY=>Ĕ ii|BIZ=>Ĕ s₂.heap|BIa=>List.contains_iff_mem.mp g|BIb=>(R3.grow gr)|BIc=>(kQ I.ok.Ig)|BId=>Pp h2|BIe=>ALQ hi|BIf=>ARP (n:=ε)|BIg=>AG4 RS|BIh=>AtE BG2|BIi=>rS ALJ|BIj=>(BC_ p)|BIk=>[FA,HR]|BIl=>AtC (ε K2 ζ (η AG F0 H0 g E))|BIm=>Abr hj|BIn=>HQ<=12|BIo=>Aae<=12|BIp=>(BH+2)|BIq=>(f j).den_pos|BIr=>s'.heap.UpToSlots h'|BIs=>(Asj ..)|BIt=>la Abk|BIu=>IP (BE' _)|BIv=>AtP AFh|BIw=>Aq6 Aqd|BIx=>pw.mem_iff.mpr hk|BIy=>a≠TK|BIz=>AcG y=Ε ε|BI0=>sd List.mem_singleton.mpr ε|BI1=>ATU AAb|BI2=>(AHV AKX)|BI3=>(AHV AKY)|BI4=>ATV "items"|BI5=>d.params.defaults= []|BI6=>(x,AsC)∈ε|BI7=>Kb<64|BI8=>Mm<64|BI9=>AGZ<64|BI_=>ATY Abr ε|BI'=>ACr YR|BJA=>BDj _ q|BJB=>ADK AKy|BJC=>ADK AGX|BJD=>ABv AQ9 qD|BJE=>(.ARr .Or [a] Υ)|BJF=>(ATv (C4∈Nh))|BJG=>∃o',Mo TH o'|BJH=>Acz BD|BJI=>BU - C9|BJJ=>(BEu h)|BJK=>(BEi op)|BJL=>(.B0 Z3::vs)|BJM=>Fr OR o|BJN=>(ABo (ļ e "items") [])|BJO=>AKj n==ATZ|BJP=>(Ar A7 FB σ)|BJQ=>AIB BnL ε|BJR=>Jo Bm0|BJS=>[AR1,ZE]|BJT=>AM1 hms.length_eq|BJU=>AM1 ASm|BJV=>(IO (ALA kV))|BJW=>∀i,i<AGZ ->ε|BJX=>fun _ _ _ _ _ q h=>ε|BJY=>Bg5 ε Aq1|BJZ=>(kQ I.ok.bs).1|BJa=>wE[k]|BJb=>by cases ε<;>exact let ⟨o,e,_⟩:=ζ;Se|BJc=>Nat.le_mul_of_pos_right _ Η|BJd=>BDa _ Η|BJe=>C7 ARd f|BJf=>h a AAb|BJg=>(Do z AAb)|BJh=>(jb qy A1)|BJi=>u=Value.bool b|BJj=>z6 (BnM ?_ ε)|BJk=>by (with_reducible refine BmZ ε ?_;rw[ζ])|BJl=>(IL b u eb)|BJm=>(K' w).OO|BJn=>(At9 BH)|BJo=>Arx AU ns|BJp=>fun h' eb=>(Hb (AgN zu1 fp ε I ζ hf))|BJq=>#[z2e (i:=0) ak ε ζ Β DO]|BJr=>AVD ng|BJs=>AVE is1.length|BJt=>Mm=II|BJu=>by rw[Bmw] at hd|BJv=>by simp only [oz,hx]|BJw=>(AFz hf)|BJx=>(BH+4)|BJy=>DC BFO z|BJz=>(NF At Bn)|BJ0=>(UH v (AG4 HU))|BJ1=>ņ MA ACV|BJ2=>(AVX ď)|BJ3=>AVY PySem.F.entry_list_iadd|BJ4=>fun o=>(Aey MB)
|BJ5=>AfO dP|BJ6=>[Mn,PZ,FA,Md]|BJ7=>(Ε (Lk br))|BJ8=>BhS AcB|BJ9=>s.heap.DictAt AMO a ws ep|BJ_=>pH Ξ ws m ε HQ|BJ'=>BFv R|BKB=>s₁.gens= #[]|BKC=>by rw[ABS,Arp]|BKD=>ArG=Ε dx|BKE=>by show ANW e ε;exact Se|BKF=>by rw[AFe hi]|BKG=>by rw[List.length_eraseIdx_of_lt hi]|BKH=>AX (ĭ h) ε|BKI=>(ox i PY)|BKJ=>(BmR h1).1|BKK=>(jw.mp h1).1|BKL=>IZ ys im|BKM=>(UH hi (ώ Avw))|BKN=>(AGt cA A1)|BKO=>BGz (n:=ea)|BKP=>∀{K:Ω}{F F' :Hp}(e:Fu),_|BKQ=>fun y hy=>(ANk hy ε)|BKR=>(ħ z).BN|BKS=>AGT j _ e1|BKT=>(Abp (zN _))|BKU=>(Œ ps (Ia 4000 p))|BKV=>(B5 N3 Ι (Aww b))|BKW=>Agc ε Builtin.«dict_keyiterator.__iter__»|BKX=>Good i (as i)|BKY=>(Γ2.set i (.tr Ł t'))|BKZ=>BG1 AFj|BKa=>BG1 "object.__getattribute__"|BKb=>hc.keeps KS|BKc=>Avd OW|BKd=>by rw[AIP BGw]|BKe=>by rw[Ic] at hi|BKf=>(Acz hi)|BKg=>(n_ ky)|BKh=>ASP (zG ε)|BKi=>BDa _ AD|BKj=>(BH+3)|BKk=>by ·simp only [h,oC]<;>omega|BKl=>by ·simp only [h,AK8]<;>omega|BKm=>xP.h _ _ ha'|BKn=>Dt.h _ _ ha'|BKo=>(op==CmpOp.In)|BKp=>(Ķ gG W')|BKq=>(Z' tY At)|BKr=>by ·show kR e1 (Aq9 b o e hx);exact⟨o',ε⟩|BKs=>by show He;simp;omega|BKt=>by show He;have:=ε;omega|BKu=>(AAs w).mpr|BKv=>(.ob C ATk AwL)|BKw=>(.ob C ATk (ts++ [cK]))|BKx=>(fg (mine a ha))|BKy=>(fg (k a (NA ha)))|BKz=>(cB bU At AR)|BK0=>Ū (Ab9 j)|BK1=>Ū (i.fdiv j)|BK2=>AVs ARe e1|BK3=>OT Prod.fst f|BK4=>OT BHQ f|BK5=>e9 hb e (ε b o (Sl (AdN h)) e)|BK6=>fun b ob q _ _ _=>ε|BK7=>AN2 e MA|BK8=>(Itw a o AH)|BK9=>(Itm a o AH)|BK_=>AfT AK' e'|BK'=>AfT ASA e'|BLB=>e0.mod.Ft.keeps (NC (kQ e0.bs).1)|BLC=>e0.mod.nolimit.keeps (NC (kQ e0.bs).1)|BLD=>(A6 hb (AfR (Z_ o1)))|BLE=>ARk it BG h'|BLF=>ASY it BG h'|BLG=>ε it d C9 FK ep|BLH=>s.heap.IsTupleIter it l i|BLI=>by exact Lm (EM (Mo MA _) k)|BLJ=>by exact Lm (EM (Mo Acd _) k)|BLK=>(Aeb g as bs)|BLL=>AdB (cnt q l)|BLM=>l.drop (cnt q l)|BLN=>(EM (Blf a RS) p)|BLO=>(EM (s1.heap.IsTuple a RS) p)|BLP=>∀(k:Δ) (h:k<BU),ε ->ζ|BLQ=>∀(k:Δ) (h:k<Acr),ε ->ζ|BLR=>(Jq FH X.w BH ns)|BLS=>(Jw FH X.w BH ns)|BLT=>AxH Aba|BLU=>Acn (· <= ·)|BLV=>Pw=ABd|BLW=>(by intro q;cases q)|BLX=>(BoB z).2|BLY=>c<=FL|BLZ=>by rw[EK,List.sum_cons,ε,ζ]|BLa=>(eQ s3)|BLb=>(ARF GE)|BLc=>(Bic tl.hasType)|BLd=>PySem.Slot ALX ε ζ|BLe=>Bl3 ε ζ De|BLf=>ε Ģ (P.zip vs) m x=Ε v|BLg=>by rw[ĭ ε] at ζ;exact η|BLh=>by rw[ALQ hi']|BLi=>(mW Pf w)|BLj=>(HV B1 A1)|BLk=>Ε (V' Aqa)|BLl=>(ABW i AC)|BLm=>(its.getD i dy)|BLn=>(a::dx::(AN6 [c]))|BLo=>(EL (Afy hp.1))|BLp=>by refine wpAny_isTrue_Compare1 (bT ε (AH4 ζ η)) θ|BLq=>(Do Uy Af0)|BLr=>(Do P.size hm)|BLs=>(SA DI L9)|BLt=>(jb HS Î)|BLu=>(PySem.F.args_dict_get_3 _ _ _)|BLv=>(hte _ _ cx)|BLw=>(Bif (AF_+1+n))|BLx=>g5.get? c=Ε o|BLy=>by ·show gc e1 (Abm b o e n hb hx);exact⟨sl,ε⟩|BLz=>j_ d.name fa|BL0=>am Ċ Ċ|BL1=>ABv F.rows.map Bv|BL2=>(AdR Ya qa)|BL3=>(qr #[] ea)|BL4=>Fast.tb1 O ?_|BL5=>cE (Zs F.tb.map)|BL6=>by funext j;unfold pV;grind|BL7=>(Œ ex Bh6)|BL8=>(∀q∈l,ANt)|BL9=>(gu fW sv)|BL_=>(IO [kV k,v])|BL'=>by obtain⟨AU,rv,pl,hz⟩:=Ar_ hq|BMA=>(ACc sU At)|BMB=>s.heap.Ns TK m|BMC=>ů we this.symm|BMD=>ABZ fun i hi=>ε|BME=>(AMs (Agt AwI))
|BMF=>(eE p (AIA (- AfJ)))|BMG=>(ANL (bW (na b hb)))|BMH=>Ord lt Kb|BMI=>Biq ε Ĝ|BMJ=>US w (by show AVn ε)|BMK=>(z7 (z7 Avm))|BML=>MS (AcA gl)|BMM=>(uf (aj At aq))|BMN=>Biw Aqn|BMO=>Bix ON|BMP=>(rv.up s2).up|BMQ=>Afz is.Perm Kb|BMR=>(AVT (pV ks ss j))|BMS=>Bk_ mA (fs.map (·.1))|BMT=>(EW fun x=>D.bl (f x))|BMU=>l.any fun s=>Awh|BMV=>IZ (d4 AGY) vs|BMW=>(num j+ GE*Awz lT)|BMX=>ACz (ε q (ARQ hq))|BMY=>(B5 (i=p) _ _)|BMZ=>AKz Ix A (.AqZ ε ζ) η s|BMa=>∀(t:cP)(g:vL)(tb:aG),_|BMb=>AVt l CO (AHS (∀P,ε ->one (f a) P)) ζ g ADe|BMc=>Bi1 Aqa|BMd=>by show Bi3 bne_self_eq_false|BMe=>by rw[OX,OX,lh,ε]|BMf=>(bw st).BFs|BMg=>Bi4 cps.toList|BMh=>ε r (Abh hr)|BMi=>Ap k hk hle|BMj=>W.isFn AG Lc=Μ|BMk=>(Itv K a xs)|BMl=>(WC gC AGz kD)|BMm=>by refine Call_ (ϐ boot_range ε)|BMn=>ik a o hk|BMo=>.ob C fs (wj fs ts f (ACm (iI ks ε) (fu ks xs ζ d).B6))|BMp=>BjA Bn9|BMq=>(UC H' (v= BE/\MR Z3 H'))|BMr=>∃a AH,v= BQ/\AVJ Op/\ ε|BMs=>(.BinOp a op b Υ)|BMt=>(.IfExp c a b Υ)|BMu=>(PIE X Ν σ tg R)|BMv=>⟨f,p.mem_iff.mpr hf,k⟩|BMw=>zS Ar AGQ FB σ|BMx=>BjP (ε BG a RS)|BMy=>(jG ks vs k)|BMz=>(meets_dict_values AMO a hsm)|BM0=>⟨BU,CY,IS,h0⟩|BM1=>(.ASh 0 0 ADL)|BM2=>fun D σ H=>te σ H ε|BM3=>fun b o hc e=>(rV ε)|BM4=>fun c o hb e=>ASU c o XX ε|BM5=>(zno hq' Β ?_ kp)|BM6=>Agr ε #[au (yI (HV ζ η)) aN]|BM7=>(G4 k p a i)|BM8=>∀(C:Ζ)(m:Κ)(sp:d7)(te:cu)(t:cP),_|BM9=>Lr RI (Sl ε) (ŉ h hh ζ) ?_|BM_=>by refine(zvt (B:=27720) ε).Į (ASr _ W.1)|BM'=>fun s Q E hit hg _ hQ=>ε|BNA=>Bjl "dict_keyiterator.__iter__"|BNB=>∀(F:Hp) (ks:Fs) (R:AUk) (v:V),_|BNC=>fun i s Q E hi hit hg _ hQ=>ε|BND=>opI fun _ _ _ _ _ _ _ hc q=>ε|BNE=>lim.keeps x.toInCall.keep|BNF=>w9 AUf|BNG=>gr.trans R5.gr|BNH=>Acu Acv|BNI=>Asb (<- BjC)|BNJ=>unsupported "internal:set_iterator"|BNK=>zrl O.tok.ris|BNL=>pre.getLast hne|BNM=>Ą ne|BNN=>u=dy|BNO=>AR9=Ż|BNP=>oT.data= AGi ts|BNQ=>is2.length=OW|BNR=>(ON:Κ ->Key)|BNS=>Rc+items2.size|BNT=>(kQ I.ok.bs).2|BNU=>by rw[ε,Da,Ĝ]|BNV=>by rw[TU,AR']|BNW=>by rw[size_push',Asj]|BNX=>by rw[Y2 (by simp;omega)]|BNY=>¬(W_ (! ε) (BmG (ζ)))|BNZ=>ES≠qA|BNa=>BH<AR9|BNb=>by have f3:=AutoSeq1.sub_list_list|BNc=>FL - c|BNd=>by rw[AK9,AK9,ε,ζ]|BNe=>by unfold dF BFc|BNf=>let ⟨q,_,_,hq,_⟩:=Ip;⟨q,hq⟩|BNg=>by rw[Da,w_] at ε⊢|BNh=>by cases v<;>try (cases h)|BNi=>by rw[<- ε,Abf,AGV] at ζ|BNj=>BHM Biu ε|BNk=>(TD C)|BNl=>(Abs op')|BNm=>(Aby hh)|BNn=>⟨gy,C8 hx⟩|BNo=>⟨AVK ε,Bib (AFl ζ).2⟩|BNp=>[.wc y kpos]|BNq=>[W.topFrame Hd.z]|BNr=>(A6 f (! AMb))|BNs=>(A6 zs (P (ys++zs)))|BNt=>bW (BCv ε)|BNu=>[ZH,"head"]|BNv=>[qA,ES]|BNw=>.B0 (AGp (AgD ε) l2)|BNx=>zQ _ (zW _ q)|BNy=>.pu (qD (s w))|BNz=>.pu (.exc C)|BN0=>LZ (ASi[i]+1)|BN1=>(FM (oy .AK))|BN2=>by have z:=Int.dvd_gcd_mul_iff_dvd_mul.mpr ε|BN3=>by have p:=Bnu ε|BN4=>(Μ==Μ)|BN5=>.AZ (SG hnc).2|BN6=>GY ASD AgE|BN7=>DF ALe p|BN8=>DF S4 (ly x)|BN9=>(HV AIH (qv 10))|BN_=>AV (by(cases z))|BN'=>Acu Acv =Μ|BOB=>hA b (by rw[q];simp)|BOC=>(⟨#[ch]⟩:Κ)|BOD=>(gs.getD i d0)|BOE=>(rb.getD i ŗ)|BOF=>Co (num j)|BOG=>(Blo hg).1|BOH=>(BmR h3).1|BOI=>C7 Nd pD|BOJ=>(BDj _ q)|BOK=>(ASr _ h12)
|BOL=>Lm (BnK ε (C5 ζ))|BON=>(.dK ((ks++ [kk]).zip AT5))|BOQ=>(pS*ALd)|BOR=>(pT*i_)|BOS=>J_ (Best l b) (cE [qD (Nl b 0),qD (Nl (b+1) 0)])|BOU=>(Do hk (DH I' q))|BOV=>(Do hsz hb)|BOZ=>(Do Ti Avv)|BOa=>(jb ynv aW)|BOb=>aK K RE dc|BOc=>(iu.fs++ [(AbS :Κ)])|BOd=>(NA (Aby hc))|BOe=>Zl (ALP (n_ ky) ε)|BOf=>Adf nd.2.1 q|BOg=>Hb (AX e Ñ)|BOh=>(DF Kf w .AZ)|BOi=>.tup (k.map o8)|BOj=>Acu Acv =AC|BOk=>z6 (BGK ε A2 ζ)|BOl=>HG (qD (oh ps (v w)))|BOm=>h.DictOfH (Aqs AHb) a ε|BOn=>S.par n (Bhv hy)|BOo=>W.tail_of_in X ht|BOp=>HH e2 Array.append_assoc|BOq=>Os (AE×An)|BOr=>W.tailIn K Lz ε=Μ|BOs=>W.readsIn K ε Avi=Μ|BOt=>∀x∈Av6,f x=0|BOu=>Ba Γ σ H b|BOv=>(Z' z3r At)|BOw=>(Awc).any (·.1)=AC|BOx=>BM _ ((e _).mpr ε)|BOy=>by ·rw[ε,FI,FI];omega|BOz=>P8 (cB cQ ε (ANd ζ η)) 2147483647|BO0=>(AGj ADd AKb)|BO1=>(∀a∈b1++b2,AgP)|BO2=>(aT (a::cs) (P3 F'/\iJ Ty H b=Ι))|BO3=>[ACs,.AK (f h)]|BO4=>Φ (a.1<b.1)|BO5=>ah (by(rw[aw ha];exact ε))|BO6=>WH z (B7 27720)|BO7=>(AGc (ļ AHN m) HC)|BO8=>(ST AIS li)|BO9=>WJ ys ys[j]|BO_=>am v6 v6|BO'=>am RE RE|BPA=>(Ag ABP H)|BPB=>by have z' :ε:=z;cases z'|BPC=>fN (W.methodObj Lc ε)|BPD=>Gr F H (yA (AVF N3 ε)) ζ|BPE=>by have e' :ε=ζ:=by exact_mod_cast i9|BPF=>(fr t' b').2|BPG=>bT (xn hi) (Tu iv CM)|BPI=>UN (AVP hh)|BPJ=>(fr t' b').1|BPK=>fS Afp (QQ/\MQ H')|BPL=>(AdL yf4 T0)|BPM=>IP ask (Bm9 ε)|BPN=>XA (k j (zW _ hj))|BPO=>a_ ⟨Bi5,WP ε⟩|BPP=>(ya (ABW i AC))|BPQ=>BEz v T|BPR=>gE 1 (ϒ 53 4)|BPS=>(DC hst K4)|BPT=>OT AFn ?_|BPU=>o_ (ARQ hq)|BPV=>AL0 Builtin.SmallTypes.nextOf it|BPW=>AL1 (¬T_) H'|BPX=>kl (BjF (gs k))|BPY=>SeqAt.EqAt.of_refs e rc|BPZ=>∀(x:Ĉ (Ĉ AE)),_|BPa=>cc Array.perm_iff_toList_perm.mp ε P|BPb=>I.kept (t' :=L') ε|BPc=>(ATE AHM (Of 60))|BPd=>gT ε (Q3 (Pm n q/\Up lt q n))|BPe=>(.BFw elt [⟨Abu,Pl,ifs,0⟩] KO Υ)|BPf=>ASf xs j|BPg=>(AGt aO (AHf (kC aW Ž)))|BPh=>by ·rw[AaU,AFf]|BPi=>by ·rw[ε b (D6 (hb (Bkk _ h))),ζ]|BPj=>z6 (Blr ε (gf hn' hs))|BPk=>Abj b o e n|BPl=>by show sT BFu Acl|BPm=>FV (ABW i AC)|BPn=>isIn m b=AC|BPo=>p.2= Ň ->Cl≠x|BPp=>s0 (AT4 ε (yh Ξ CI))|BPq=>by refine UE Bjc ε Bms|BPr=>(VV (x= BE))|BPs=>OR p=Ε AN3|BPt=>ATY ARN (zK ε)|BPu=>(.EC es Υ)|BPv=>Æ EV tn|BPw=>#[iR #[Jg ε Ael K7]]|BPx=>oy fun w=>AUt|BPy=>AMS z6 Bmp|BPz=>AMS AKq z6|BP0=>AMS BGM z7|BP1=>ATh (h∈k s) Bjk|BP2=>kK/\∃u,AVM/\LDn u|BP3=>Prod.ext e1 e2|BP4=>(ASf xs j)|BP5=>(Ź (xo hq) e)|BP6=>Inv X Ν AVf H s'|BP7=>r=Ι/\İ s1|BP8=>ALi ALv (.seq BmB n')|BP9=>Lean Ξ Ep x'|BP_=>ϊ yr jX.dn|BP'=>h s (zW _ hs)|BQA=>h u (zW _ hu)|BQB=>Ϗ (zI tb y (r x y H2 ε))|BQC=>AHq z.cps.toList c|BQD=>ϔ Pl wi|BQE=>h b (AQ5 _ hb)|BQF=>C7 ε qs=FL|BQG=>(Ś _ n n)|BQH=>∀o w,u≠ .frz o w|BQI=>W.clsIn K ε=Ε cd|BQJ=>TH l=Ε (qr ε e)|BQK=>[.AT D3 t,v]|BQL=>fun σ H R=>te σ H (ĺ v ε)|BQM=>⟨.AT ε,H,ATQ,FG,q⟩|BQN=>KW (Ι:ei)|BQO=>by refine i6 (Asa ε ζ η)|BQP=>tn 0 Ab3|BQQ=>tn C9 Ab3|BQR=>EU ->AI ->AI|BQS=>(qD (x' m[j]))|BQT=>(AGb Bh2 [a] pc)|BQU=>(kvs.map fun kv=>(Agp y))|BQV=>∀{x y:AI}(h1:wB x)(h2:wB y),_|BQW=>AUa 10 (zL (AHd ε) AD)|BQX=>SlO K F H H0 ds o|BQY=>z3j R.g h1 h2|BQZ=>AeW (BFz (s4.trans ε))
|BQa=>AeX Aa3 SM|BQb=>AeX Aa7 Lj|BQc=>AeX AbA Y6|BQd=>AeX AbB Vf|BQe=>yt AxJ ws0 ws Aw'|BQf=>AUh (ε (Γ'.set i C_))|BQg=>AUh (Adp (W m' BY))|BQh=>release [v,ov,iv] []|BQi=>(EW f).sum|BQj=>by ·subst e;rw[Rat.div_mul_cancel hp];grind|BQk=>Hz X MY tb|BQl=>(ABh P_ f RD)|BQm=>(j - i).eD|BQn=>∀i j,i<m ->j<m ->ε ->i=j|BQo=>(.AKp P_ k Ff)|BQp=>∀i,s<=i ->i<s+n ->ε|BQq=>mQ AxC BU|BQr=>⟨u,CU e1,e2⟩|BQs=>⟨ob,h1,h2.2.1⟩|BQt=>KW (Ε Μ)|BQu=>qD (BB (f h) - wP h)|BQv=>pQ AeU bd=Μ|BQw=>AVH MB ε (fun a=>ζ)|BQx=>MM (bB K RE NV)|BQy=>MM (bB K Ċ v6)|BQz=>(yia h hB).1|BQ0=>by ·subst hb;rw[EB] at e';rw[iD];exact ε|BQ1=>by have e:ε:=by unfold yQ;simp [q]|BQ2=>MS (S4 (D6 ε))|BQ3=>Ar3=cls/\Ar1=ε/\ ζ|BQ4=>(ABQ H p ad)|BQ5=>I_ far b (AV (AgH hB))|BQ6=>by show ACS (setEpoch S) BnE hg ASl AGW|BQ7=>∀(hb:AVg MZ MZ:=by show pe),_|BQ8=>(Jw FH X.w q xs)|BQ9=>ANf/\SZ zD|BQ_=>by refine AMS z6 Bmp|BQ'=>by refine AMS z7 BGJ|BRB=>⟨q,BEt _ _ _ (IN q)⟩|BRC=>TL ((h ε).mpr zY)|BRD=>(cB fW AwE At)|BRE=>AGT 0 _ h0|BRF=>D5 (C7 BhQ AGY)|BRG=>(hz i him).2|BRH=>hs8.extBut _ _ ε (hs7.extBut _ _ ζ η)|BRJ=>∀j,ε ->j<k ->gi k j|BRK=>∀j,ε ->b<j ->AfU<wd l j|BRL=>e_ (ATB Auh) tk|BRM=>e_ (ATB Avp) L'|BRN=>hz _ (zox Η)|BRO=>∀j,dF (g j)<=143|BRP=>E AA (.pay C [f1,f2] BjK)|BRQ=>qD (oh VU (v u))|BRR=>AMA (B7 (C7 AQ9 qD)) 1|BRS=>(ACm ks (DF ts.map Ga))|BRT=>(SF.args km Bh4 v)|BRU=>aD Ξ (x0 (g r*g r))|BRV=>ay Avh (b∉ia) AUb|BRW=>(ps++ [([],[])])|BRX=>zzk l Η Η|BRY=>Ĉ (AB×Thread)|BRZ=>GL l a ((f a+d a)* (f a+d a)) ε|BRa=>qB x ds (g x (a::ds)) ε|BRb=>(Bhh (BA Z3) Z3)|BRc=>qB d es (s d*h (c::es)) ds|BRd=>show ε<=200 by show He;exact ζ|BRe=>Mj (j:=27720)|BRf=>∀k,GZ ε (fJ ((ζ f).take k))|BRg=>GD pS ALd|BRh=>GD pT i_|BRi=>OJ ε (ANB (ASU _ o ζ e))|BRj=>D ->D ->AO|BRk=>mA D3=Ε v|BRl=>(zT.mp hp).ic|BRm=>(e _).mpr (Aq4 Aws)|BRn=>Ap x H2 y|BRo=>Ap x hx n|BRp=>FC Xf es gs|BRq=>Q () (ABl h' tk')|BRr=>∀v∈vs,(∃k,AVm ε k v=Μ)/\AUD|BRs=>(∀v∈HU,(∃k,Aen)/\AUD)|BRt=>AdG [a] (AvN a)|BRu=>AdG [b] (AvN b)|BRv=>aS L ((f h).į<2^100)|BRw=>Avq (af BG_ #[BQ])|BRx=>SV ps ⟨#[],by rw[ε,q];simp⟩|BRy=>ABp (hd i j F) hp|BRz=>BGd a es1 t2|BR0=>We e n ?_|BR1=>(ud BN AF' [])|BR2=>(ud CB Po [])|BR3=>(.xd [(f1,v1)])|BR4=>Â (KW _) G0|BR5=>Bh5 Aao ZW|BR6=>Bh5 Aap ZV|BR7=>gV Ξ w= []|BR8=>fun _ ob q _ _ _=>(ADa BDh)|BR9=>AUi p1.length (j7 q1)|BR_=>AUi p2.length (j7 q2)|BR'=>AwF (n1 (z ▸ zW _ hb))|BSA=>by have hbs:=hb s us ik hl|BSB=>by have hbs:=hb s1 us og hl|BSC=>(ASA xs k).AFk|BSE=>∀{Ξ:CF}(u:LO),_|BSF=>∀{Ξ:CF}(L:lc),_|BSG=>∀w' s',AUl ->ε ->Q w' s'|BSH=>Agd ADJ 1 (Lu+1)|BSI=>s.heap.IsKeyIter it d i FK ep|BSJ=>fun s3 I3=>⟨σ,_,I3,q2⟩|BSK=>(fun j hj P hP=> ?_)|BSL=>(fun i hi P hP=> ?_)|BSM=>(fu ks vs k v)|BSN=>FD Aaf 1 [AKs,Pi] G3|BSO=>FD Aau 1 [AKs,Pi] Ve|BSP=>(Aeb (xl b (D.bl (g a b))) as bs)|BSQ=>.tr ε (yr c F.p' ArJ Na eB ζ η θ)|BSR=>∀{i j:Ψ}(h1:fq<=4000)(h2:zD<=4000),_|BSS=>∀{i j:Ψ}(h1:fq<=8000)(h2:zD<=8000),_|BSU=>(kn I sF r rv)|BSV=>(kn I sF r' ru)|BSW=>Fr H (XO x C Ι)
|BSX=>∀(he:AeA:=by rfl) (he2:Ĺ [.Call AuO [a] [] pE] (AGb AuO [a] pE) []:=by rfl),_|BSY=>(.xd [(f1,v1),(f,y)])|BSZ=>(.xd [(f1,v1),(f2,v2)])|BSa=>eU P w K mg A8 V_ k f fd ps (ε K C fl sp)|BSb=>eU P w K mg A8 V_ LH f fd AwK (ε K C fl sp)|BSc=>SlT K F H H0 as t o|BSd=>SlN K F H H0 as ts o|BSe=>(ALl ps ⟨#[],by rw[e];simp⟩)|BSf=>((AC_,ε),(Μ,ζ,good w))|BSg=>by rw[AGA (by rw[Da,<- hl];omega),AR4,ε]|BSh=>AgT o - x o|BSi=>Ni (show¬ε by rw[ζ];exact zJ) η|BSj=>BEz E8 dr|BSk=>(Builtin.«zip.__next__» (J' (ADb z)))|BSl=>(Bid (Ags JY) I)|BSm=>(iK (K' w) hd)|BSn=>u=BDc n|BSo=>(by simpa [Rat.not_lt] using q)|BSp=>⟨Adj,HH eJ ε⟩|BSq=>t.slot j= .empty|BSr=>UnR X ε (rU fun i=> .AK ζ)|BSs=>ZY ε (AGd s1 h' tk)|BSt=>(G5 (uG qs))|BSu=>i< C7 ALa AGY|BSv=>AV (q (UX ĭ z))|BSw=>∃k,k<n/\r=jq A k|BSx=>I.pins_of fun p hp=>ε|BSy=>Au KP ARL NZ|BSz=>CU (OT Array.toList d1)|BS2=>Avu AA/\ε/\ζ/\AHK Pw/\η|BS3=>D6 (OC x h)|BS4=>(Do I.ok.glob (BlW I.bk))|BS5=>Nw a oe (s1 _ _ e2)|BS6=>E t (.any NV)|BS7=>NC (kM (aw n1) (aw n2) e)|BS8=>R.put i ε (M_ h oS)|BS9=>DM ϑ [FA,NW] ε|BS_=>N4 is Cn (∀i∈is,ε) ζ|BS'=>pQ qs bs=AC|BTA=>(H b).B6 (.frz (ob b))|BTB=>kh b _ (old b o eb) q|BTC=>(Ap i v hv)|BTD=>fun r s' =>r=w/\ϗ r s'|BTE=>∀j,ε ->AfU<=wd l j|BTF=>ds= ANP/\XE (Tl i j)|BTG=>We hb eb (bS hb eb)|BTH=>IP (runValue _) (BGh ε)|BTI=>∃sl,Mo TH {o with AKi:=sl}|BTJ=>AdZ (ArB e CB ε) TP|BTK=>AMD ANP (XE (B5 ε j i))|BTL=>.pu (qF n (FV (A i n)))|BTM=>∀(UT)(es:CC)(t:cP),_|BTN=>∀(sc:OM)(x:Κ),_|BTO=>∀a vs,zt ->ε ->R vs ->ζ|BTP=>fun Γ P E=>(ε)/\BjN BjZ|BTQ=>by show Ì e (E9 (e (h1.trans z)))|BTR=>zO (ACT 1 AD) Η|BTS=>fun b o eb n q1 q2=> ?_|BTT=>D5 (BU+OW)/\ε|BTU=>z8k r _ _ hr|BTV=>xW BU k=Ε j|BTX=>⟨HE,Ι,AdX AGR,#[]⟩|BTY=>∀{Ģ:Avg}{x:Κ},_|BTZ=>ARU (AVi) E2 n2|BTa=>Ad9 Aeo (Adk k)|BTb=>bindArgs ε ANi=KW AvC|BTc=>Bin (AuS (At9 ES)).IF|BTd=>AUQ (AgK [a] Af7)|BTe=>ANV x CI ε (ζ (r::t) x)|BTf=>∀{w h:Κ}(hh:AHc),_|BTg=>(yA (xz AHR H' (F' b)))|BTh=>fun Γ P _=>te AfH (fun d _=>ε) kj|BTi=>fun b ob u q=> ?_|BTj=>YF (t:=z) (b:=27720)|BTk=>m≠0/\SZ (dF m)|BTl=>sI.k (k:=kk) ea|BTm=>[MD,n9,"backward","lists"]|BTn=>nu AH k=Ε v|BTo=>fQ K F H ts vs bs|BTp=>aS hs (rH S x h=0)|BTq=>∀i j,i<j ->j<r ->ε|BTr=>{D with nx:=u D}|BTs=>Vc (ns s hS) nh (BM s hS)|BTt=>#[yI (HV (eg vU B1 DI) (eg vU A1 DI))]|BTu=>Rep K (j9 F0 F') d v|BTv=>(h u _ ANc ru)|BTw=>iu.d c S (Ε (Lk bs))|BTx=>k b u (hb b n) q|BTy=>GA (∃qs:A5,ds= Avn/\ε/\ ANw/\ζ)|BTz=>Bf ps x=oh ps x|BT0=>∀(s:AB) (u:AE),BjD|BT1=>∀{Ξ:CF}(u:LO)(w:Κ),_|BT2=>97+ Aw2 (num at_+ ε)|BT3=>XR lt (W.kas_sort Kb)|BT4=>(((Av2).extBut.push _).Me _)|BT5=>(Bi7 AdO [e,e2])|BT6=>⟨o,e1,z1e r (AfM ε)⟩|BT7=>Ox (pO (C5 Rg) ε ζ ANX)|BT8=>AdP (lP ds ATM ε [cf] ζ)|BT9=>Bi_ (T.hasType BmV)|BT_=>si Ξ CF U Ρ ε|BT'=>∀{K:Ω}{F:Hp}{ds:AM}{vs:AQ},_|BUA=>by show EQ f hf BM p.sub S hS|BUB=>ε (af (XF t1) #[.B0 l1,ADi])|BUC=>(Aeb (Aw3 v) ks vs)|BUE=>∀(C:Ζ) (fs:Ρ) (ts:HK),_|BUF=>Ju ⟨P,a1,x5 (r<=n),a3⟩|BUH=>fun b u e=>xP.h b u Av0|BUI=>∀vs H Q E,Agl ->Bir|BUJ=>∀{α:CL}{l:CO}{i:Δ}{d:α}(h:i<ED),_
|BUK=>Aw5 (yG B ADo a ε ζ (OV L) h')|BUL=>(fun v Ĥ h₃=>z6 (AKq (z7 h₃)))|BUM=>∀b o u,qE AM8 ->AUC AM8|BUN=>r9 (Ad3 a ε [b]) (cT (cB (MF ζ) ta tb))|BUQ=>AK1 (a:=BH) (o:= ε) (t' :=L')|BUU=>#[.one Β gH.1 cY.cls (Awx ε) AD]|BUV=>∀{u:HO} {b:Ζ},AM' H b u ->AM' ε b u|BUW=>Bjb BG_ IsValuesView|BUY=>⟨Ş (∃xs x,ų/\kL),fun i H x H' =>ε,Ş (∃xs,ų/\AVR)⟩|BUZ=>WalkO q VT XP YP Ary d [] (fun f vs=>Awl)|BUa=>∀{ds:AM} {vs:AQ} {ns:ε},L5 ->ζ ->vs=wt η|BUb=>⟨dr,"dict.values",Arw,BG9,ε,hT,hN,BjY⟩|BUc=>⟨c,_,[],Β,Β,iD,z0i ε,K9 (zps rs rd)⟩|BUd=>pf (fun ds AA F1 H1 J Hx R1 s1 hx hJ h1 A3 ha=>zqk R1 hJ hx ha h1 (Bjp ε))|BUe=>by obtain⟨oD,esD,epD,hoD,hdD,hcD⟩:=hn'.count (Within.cons D3 v ε)|BUf=>h1.imp (Ś _ q (z25 q))|BUg=>N' =A7++BFt fun j=>N.getD j ""|BUh=>LO ->BiY (p=Bi2)|BUi=>(∀a,Good i a ->P [F i a])|BUj=>(B5 a 1 0)==b|BUk=>(z0g hn hg k Η).2|BUl=>if c then a else b|BUm=>by rw[tk,Abe,Abf]|BUn=>xs[k1]?=Ι\/BjL|BUo=>f p*HM.dt rs cs|BUp=>r j*SU cs - Biv d (r d)|BUq=>∀{cs:Cn},dB (fun c ds=>ε) cs=ζ|BUr=>by rw[Bii,Ic,BEv] at ε|BUs=>nx k % ED|BUt=>by rw[Ac7,<- hkl,ALY] at ε|BUu=>ARV ii (a::lr)|BUv=>ASf ASi OP|BUw=>(W.codeRec_of KX hcd)|BUx=>by simp at g1;subst g1;simp [rZ]|BUy=>by simp at h1 h2;show AIg;show Awf|BUz=>by simp;split at hf<;>(rename_i e;simp [e];omega)|BU0=>seqIndex? i ε=Ε j|BU1=>Asi ANb=Ε oe|BU2=>(Aqs AHb).is|BU3=>(wq ky).update|BU4=>⟨hb,AVG hb eb⟩|BU5=>⟨zk,zk,zk⟩|BU6=>⟨z.1,ht _ _ z.2.1,z.2.2⟩|BU7=>Ash (Flow.ret v)|BU8=>(fun y hy=>k y (zW _ hy))|BU9=>backTo Fh (ARn ε CB)= ζ|BU_=>((p,w)::P.zip vs)|BU'=>Ap p hp z|BVA=>Ap g1 CM hs1|BVB=>IM nms v CI|BVC=>YG (ACT 4000 ε) AD|BVD=>(AGK (Du.trans Kj))|BVE=>(pD (kO ps))|BVF=>(G0 (G0 h))|BVG=>I_ sb.2 b hb z|BVH=>(g k*f j - f k*g j)|BVI=>GY ((ε AvW).Me Au5).IF ζ|BVJ=>(M0 jE Ave 12)|BVK=>fun b q1 q2=>by rw[ε,bW q2,bW q1]|BVL=>by by_cases hl:BU=OW|BVM=>(hμ r hr).1|BVN=>∃w,LD w/\Mo F0 w|BVO=>ε fun v hv=>AIX (Bhv hv)|BVP=>PE X gN (Ud r t)|BVQ=>Au YV YV Bw|BVR=>(AGb Bh2 qa pc)|BVS=>(EM (Blf l xs) hl)|BVT=>aA N ps KO|BVU=>ε ->AMU F ->AgF d' ->iH d d' =Μ|BVV=>xN KU ((s₂.heap.push (xx ε)).Me ζ)|BVW=>W.specialIn K ε AbT =Ε (Ch (V' "type.__getattribute__"))|BVX=>W.takerIn K C ε=Ε Ι|BVY=>⟨ε,eσ,_,Β,k _ _ _ _ R IR h⟩|BVZ=>FS (h b (zW _ hb))|BVa=>FS (by simp at hb;simp [hb])|BVb=>(Nd fun p=>Awp)|BVc=>ε k (List.dropLast_subset _ hk)|BVd=>Arm ACk=KW (SB "method_descriptor")|BVe=>by show c∈_;simp|BVf=>AdG qa (Bje a b)|BVg=>Zl (Bil (Abd C BH))|BVh=>ĸ AA[i]? (Ε AVV) (g xs ds fun ys=>ε)|BVi=>.tup [AHm,AUt,.AK (uH bs (v w))]|BVj=>(by rw[FI,BmJ,AKy];omega)|BVk=>GL ws w (N2 AHc (F w)) ε|BVl=>∀s,k<=s ->ε ->a s k=0|BVm=>ε i u (DC AsT e2)|BVn=>ne g (zW _ hg)|BVo=>by show AxF;have hl:=xD|BVp=>SD Oj e1 q|BVq=>AGf zk9 g Awm|BVr=>HI one 1 0|BVs=>zQ _ (Ast Β)|BVt=>(LW xs l u)|BVu=>pr (b≠T) (ε).IF OR|BVv=>zO (zrv xs lo hi) hz|BVw=>eU P w K mg A8 CX k f fd ps ε|BVx=>Ē (A6 q (nomatch q))|BVy=>(AcF EI KO BH f cd)|BVz=>xx (Bhc i (OV i))|BV0=>(UH j (Φ (ACe>ox j 0)))|BV1=>∀b o,AUI ->A_ ε Af8 kX NH ζ|BV2=>(Ap s6 I6 CM)|BV3=>ug AgS (val i)
|BV4=>fN (ALi BI (.Aqu ps))|BV5=>WP ⟨ka (ANx C.sz),ka (C.sz p hp).2⟩|BV6=>qD (jy WU h)|BV7=>aL K F0 ds vs|BV8=>∀A' :BV,A'.handled=Ι ->ε|BV9=>Mod AG iX OQ|BV_=>∀s∈NU (kW Ξ),ε|BV'=>XA (hz _ (Vx hj))|BWB=>∀u,Hx A3≠Af2|BWC=>bN P w ε ii b u|BWD=>by rw[ABS,EK,ε (EF h)]|BWF=>by rw[Ac7,hkl,ALY]|BWG=>nfr b u eb hm|BWH=>ATA ε (fun x y H Q=>y= BE/\Q (.bl ζ) H)|BWJ=>ku (WH i j)|BWK=>AG9 (ź k s)|BWL=>xX K F' ε H' C dx x|BWM=>Ε (ARs (FR y py) CB)|BWN=>(AL' (rh/\È/\ABq BY a))|BWO=>.pu (uI L f)|BWP=>fun o=> !(Φ (q<o))|BWQ=>Ei ε (yN (wg Eg AAk 0 (Te c) (AHw ζ)))|BWR=>∀i h,tn i h ->kN (Awq r_)|BWT=>⟨z,H,I,tR,q⟩|BWU=>Â (newList []) wf|BWV=>Ū (i^ABJ)|BWW=>Ud (ε K g) (Ol K F0 H0 t E) σ H Q|BWX=>by show tF (LW (YU RI) ŭ Ι)|BWY=>pR p.r p.g AxE|BWZ=>DS ε NM TZ ZO|BWa=>Ç (storeName CB x u)|BWb=>qo QQ (MQ H') (MQ Afp)|BWc=>ac Aal 3 YY Zj|BWd=>ac Aa8 3 Md ZD|BWe=>ac AbI 3 ID Zq|BWf=>GL m h (BjQ*f h) ε|BWg=>GL Afb h (AIc*x h) ε|BWh=>j_ AKa RE/\vg K RE=Μ|BWi=>pI P w H' ii|BWj=>(B5 (v<0) (max (v+ L8) 0) (min v L8))|BWk=>by simp [qD,rB,jN]|BWl=>∀{k:Δ}{A:BV},_|BWm=>pw.nodup_iff.mpr (Vd BEJ w)|BWn=>(.AKp P_ Avx pE)|BWo=>fun σ H R=>tl σ H (ĺ x (∃a,x= BQ/\ ((ε)\/ (ζ))))|BWp=>KE x c e z|BWq=>LL ε I2 (q _ (AR0 E2))|BWr=>AMx (M_ H' Auu) Q|BWs=>g1 _ (Obj.mapFields (·.setIfInBounds 4 (Value.bool true))) ε _ ζ η|BWt=>Ġ x ((B5 AxB AfE (n,k0))::_)=_|BWu=>AGB (DC wT hq)|BWv=>⟨ε,_,c,hv,AX BnO hg⟩|BWw=>ALD _ _ _ rs a ε|BWx=>pN AA σ i b|BWy=>ů (h ε (j+1) Η Af3) Χ|BWz=>ATo dd2 (.seq ABa n2) ε|BW0=>∀{one:ATr}{f g:ACZ},_|BW1=>∀{rs:EN}{f g:Row},_|BW2=>(fun C dx H' =>∃x F',AeK/\rq /\Ad0 H)|BW3=>E LA Ι H1|BW4=>(z65 Η q hq)|BW5=>∀h',AxI h' BH ->ε|BW6=>(B5 (j<0) (-j) j)|BW7=>V ->V ->V ->Ĳ Hp Hp|BW8=>DM [RO,VX,ε,ζ] [RO,VX,η] θ|BW9=>J_ T_ (∃AH,AgB/\Mo H1 (.frz (ob b) Op))|BW_=>∀(AN9) (t:cP) (E:XW) (σ:St) (H:Hp) (R:AM4),_|BW'=>Ai FH X.w AG iX OQ X.A JU ε ζ|BXA=>Av1*AbZ AIh|BXB=>ASr _ (zO Bij ε)|BXC=>qD (sg 0 (Agn o) (gb WU Agb o))|BXD=>∃d,AHq xs d/\P d|BXE=>∀b ps,qE (.LC ps) ->∃d6,Mo H' (.LC (ps++d6))|BXF=>M' C4 h ANv 0|BXH=>v= .B0 e/\Big/\ASD e=Ε oe/\ε|BXI=>ac Aav 2 ZE Y8|BXJ=>ac AbG 2 MD SX|BXK=>ac AbM 2 OU ZS|BXL=>(rY (cT (ANs At)) (NF AR (cU gF At)) ko)|BXM=>∀v,v∈ws↔ (ε)\/v=ζ|BXN=>AVd (AfG P_ f) (ε C i f ζ)|BXO=>ŝ (Abs ε u E8)|BXP=>yY Dv č 1 ATR Vl|BXQ=>yY Dv HR 2 ATR Vm|BXR=>yY Dv dl 3 ATR ZQ|BXS=>AuW (jj ε hd).OY|BXT=>AuX Aas 1 S9|BXU=>AuX Aat 3 Zy|BXV=>AuX Aa' 8 ZJ|BXW=>AVr (Cj.nq b o u eb)|BXX=>Í (AIM hx ha) (UY hx)|BXY=>AO×AfD×AfD|BXZ=>(wq (af BGB #[UP,AgG])).ε|BXa=>Qc (sr f hf)|BXb=>⟨.bl ε,H1,I1,Β,q1⟩|BXc=>Af5 (∃o AH,qE yo/\Mo H2 Op)|BXd=>[MD,Y_,ZH,VX]|BXe=>∀b,kK ->¬N3 ->P3 F1|BXf=>∀(X:Cx)(id:LT)(r:AgY),_|BXg=>AgI (u' w=u w)|BXi=>ϕ ADc f NI (f n)|BXj=>(hg x).mpr (E7 ⟨f,hf,q,ε⟩)|BXk=>⟨Ş (Aus/\i<wS),fun i H x H' =>ε,Ş (Aus/\wS<=i)⟩|BXl=>(Hd.fore TC AbX pg w os)|BXm=>EqD A s v u (iH d d')|BXn=>ArX P_ ε CB (js P_)=Ts P_|BXo=>∀(Bhm)(r:ATu)(k:κ){y:V}{u:AE}(ry:Q4),_|BXp=>ASt [qD (AMu),qD H]|BXq=>w∈ BjS (A6 r CI)|BXr=>AN5 ε (eC "set.scan.the-table-gave-way") (KW ())|BXs=>(vs++ws).Abz
|BXt=>fun pre c d EE=>ε|BXu=>Meets (ε (J' [Q1,AIJ])) ζ|BXv=>(rel.val k).i4 rd|BXw=>FD Aai 1 Bjh ZK|BXx=>FD Aaw 1 Agq Y9|BXy=>⟨Avz,H',I3,Β,q3⟩|BXz=>∀{m:Ρ}(hm:m∈ms),_|BX0=>LJ (exec (.Raise (Ch (ABo AgC ER)) ε Υ) BN)|BX1=>∀{ns:BS} {AU:An},ε ->ζ|BX2=>ac AbD 1 di Zh|BX3=>ac AKY 1 Y_ Ze|BX4=>ac Aa4 4 MD SN|BX5=>ac AbE 4 "two" S6|BX6=>ac AKW 5 MD SQ|BX7=>ac AbF 5 Y_ Zf|BX8=>UC EJ (ANq (js b) (fun u KU=>ε) EJ)|BX9=>z0y I S hk e|BX_=>by have e2:(op==CmpOp.NotIn)=AC:=by show Aw1 h2|BX'=>(PX ws v bs).B6|BYA=>UZ 3 qX aW (ATs ε)|BYB=>fun us s1 ⟨xs,H1,I1,r,z,q⟩=>(D_ Bis)|BYC=>((up4.trans up5).JY up6)|BYD=>AK2 (t' :=ARt) (ah pz) E2 ?_|BYE=>∀ms:Ρ,Au_ ->(ε) ->AVQ .AT|BYF=>AwB AIL Bl6 (Ch ACk)|BYG=>(AeL MZ AdV [] Fh)|BYH=>(AeL MZ AuO [a] pE)|BYI=>∀{K:Ω}{c:DZ}{a:Ζ}{ds Q Ex}(h:ε c ds Q Ex),_|BYJ=>AwH MP GX AA|BYK=>(k a zY _ e3)|BYL=>ı JC ċ 11 AwS (Nf c)|BYM=>ı JC Č 11 BjR (Vt c)|BYN=>FD AbJ 4 [MD,n9] Zr|BYO=>FD AbK 5 [MD,n9] Zt|BYQ=>(AfC Rep (qi l1 h1 q1))|BYS=>yY Ea AAl 10 AwP Vp|BYU=>yY Ea AAm 10 Av3 Vq|BYV=>ŝ (Ab_ E8 f b)|BYW=>A6 hb (AfR (hn b (AQ5 _ ε)).1)|BYY=>#[zs1 aR ak ML (UU B1) ε]|BYZ=>∀u s',AUl ->PQ ->Q u s'|BYa=>Jj K x ε st f fd (BA T)|BYb=>∀(K:Ω) (x EI:Κ),_|BYc=>Awn ε (ζ (b,o) (zQ _ BiT)).1|BYd=>QA (AGO b0) F0 H0 Aew t|BYe=>Awt (∀c ds,ME+1=AQ4 ->ε) ζ|BYf=>∀(ho:AwY AfS)(ha:ck)(hb:ϖ)(hm:AU3),_|BYg=>∀{K:IY}{x:Κ}{st:AN}(h:ε K x=ex x x st),_|BYh=>∀{K:IY}{x:Κ}{g:E_}(h:ε K x=Ε g),_|BYi=>A_ Bim (sp ds Pd Ex) ((ε)) Avb (AxL ζ)|BYj=>AxA yn8 zp boot_any ε|BYk=>AH_ h ->ASY c h h' ->it≠c ->AH_ h'|BYl=>k _ AA F1 _ q _ R2 s1 q1 q2 q3 ε ap h1|BYm=>k _ AA F1 _ l2 _ R3 s1 q1 q2 q3 (Yh ms) ap ε|BYn=>AII∈gk ADh FL AgZ ε|BYo=>g<wd (oU qs) 0|BYp=>∀(IC:lf) (cs:ό),ε|BYq=>zuq I1 ea h1|BYr=>ARU kp hle n1|BYs=>Aca ADJ 2 BI|BYt=>(hd j hj hj)|BYu=>ε ->G2 ->DD (Af1) XW|BYv=>HX x=Μ/\xs.all HX=Μ/\XG (B5 neg (! inD x xs) (inD x xs))|BYw=>zlc (k:=ε) (ks:=ks)|BYx=>hq H1 (Ace s2)|BYy=>nk= .seq AU n/\Bie/\IZ xs ArH|BYz=>P (qO n m (Y7 k s a))|BY0=>by show DT q hq e ASS ε|BY1=>xN s3 (BFH (af "slice" #[vl,vu,BI]))|BY2=>fun b z=>(WG z Ws b)|BY3=>∀h' e,ε ->(∃o,ACl e/\AfO BGH) ->E (BA e) UA|BY4=>P7 Awy (z03 C fl sp t)|BY5=>KE s us X hl|BY6=>KE h' tk hS OZ|BY7=>WN Po (p.2= UF ->ε Cl=Ε Ň\/ζ Cl=Ε UF)|BY8=>Q (ET ((m*m).LS 2147483629))|BY9=>o4 h' BH x y|BY_=>∃u,us= [u]/\ϋ|BY'=>∃l,v= Q1/\∃is,ε|BZA=>AKo ⟨H1,I1,q⟩|BZB=>O_ td x (∃a,x= BQ/\IsD H1 a/\zI ty y ε)|BZC=>∀A8:AJ,Ĕ A8 ->Bio ->ε|BZD=>Ò (lP y BE ε (.bl d) (ĸ x (.bl c) (XG ζ)))|BZE=>¬(ε=0/\VY BU BU ζ=BU)|BZF=>(B5 (a<0) (-a) a)|BZG=>AIW (∃bs,vA xs=Ε bs/\XG (ε id))|BZH=>fun u e=>(Age (hx A3 u e))|BZI=>ASJ e e1 ε j Bjd|BZJ=>SR K F1 H1 F1 H1 σ AeM|BZK=>AgV (LU _ (SD j7 rs hI))|BZL=>(ANL (Agj (AV (dis a AAb (z ▸ hb)))))|BZM=>ANr (AfG o f) EV (ε C f ta tv)|BZN=>∀{op:ARp}{r:R2}(ho:lV X AfS r)(ha:sx)(hb:ANy)(hm:AU3),_|BZO=>∀{n:Δ}{f:ACZ}{i:Δ}(h:i<n),_|BZP=>(fun a ha u hu=>mine a u ha hu)|BZQ=>Bx.k (k:=kk) ea (by show AU5 hkl;exact hl)|BZR=>Jv CA w A E vs (Rr xs) ε oneType'|BZS=>fun BN he b hb=>zW _ (Bll ⟨BN,he,hb⟩)|BZT=>∀(rs:CF){k:Δ}(h:k<=ABd),_
|BZU=>GL hs o (gb S h o*x o) ε|BZV=>p.2.2 b hb b A2 Β|BZW=>(R_ HA fun k=>vD (rk ANR ALh AUv))|BZX=>by have hbs:=hb (AVL (AuS (Abd C ES))) ε ALU AwV|BZY=>(Ate (upd F' ES AtN) [(fl,v)])|BZZ=>(names.map fun ADQ=>if (BhI k&&BhH) then AfE else ADQ).wn|BZa=>∃ms:A5,ms.length=ABd/\∀j,pV ms rs j=ε|BZb=>Aw7 (DS ε hg hm F6 hs) (AVq (fun ds AA F1 H1 vs R1 s1 r1 h1=>ζ))|BZc=>⟨i,sl,o,q,e1,hb⟩|BZd=>(bh (eY (Fm (cB dR At Bn) (cB dR AR Bn))))|BZe=>Bk Ξ ps ns r g bd|BZf=>BjW (n8 K C0/\Jc K C0) (.bl ε)|BZg=>hb wh Ν s1 σ H1 Q I1 q1|BZh=>Bjo (BiL Q I2 rx ry q)|BZi=>Ju ⟨Β,MV,ε,Β,U⟩|BZj=>(hn b (zW _ hm)).2|BZk=>{oe with AAo:= AGi #[.B0 fv,BI,BQ,BI,AVO,BI]}|BZl=>by rw[AGB (AgJ hl hi),Ic,ε]|BZm=>fun l hl=>k _ _ l rs hl h|BZn=>fun obj EJ=>obj= AHA/\EJ=ε|BZo=>show(EZ (qI t ε)).eD=qI t ζ from oz _|BZp=>∀i j F,Rep AG F (d i j) (v i j)|BZq=>(AIK - x C4) - aD (gV Ξ CI) At_/ BB (Aeg gV CI)|BZr=>by simp only [List.zipIdx_cons,List.zipIdx_nil,Bma,List.forIn_nil]|BZs=>by simp only [Ps,q,ε,ζ,η,BlL,RY]|BZt=>∀(f m:Δ),1<=m ->m+f<=n ->ε ->ζ|BZu=>∀EJ (P:eO),P BI EJ ->AVW ε P|BZv=>(I_ fz b hb e1)|BZw=>ex d.1 d.1 d.2|BZx=>putSet_of es' t' hd|BZy=>(SP K2 Ν D)|BZz=>z3n ε NM (Rs hl) (Rs hh)|BZ0=>ĕ (L.mm r AgX)|BZ1=>J.type.andThen (W.looks_mroIn X c.g.ob)|BZ2=>I1.fpOk hb2 (AR0 hb2)|BZ3=>aD Afb (jy S)|BZ4=>⟨m.base,m.few,m.line,m.trees⟩|BZ5=>⟨cs,t',e0,q⟩|BZ6=>∀{l r:Pt}(h:l.1<CI)(h2:l.2<=r.2),_|BZ7=>zu5 hl _ fun i a b z1 z2=>by simp only [z1,z2]|BZ8=>(ε (b,o) (zQ _ BiT)).2.1|BZ9=>(hl.add ((h.mul (dt rs AUR)).mul NI))|BZ_=>yH p _ pa ep|BZ'=>Cl=q.1/\UB q.2.1 (IO (Af9 kV))/\IE p.2 q.2.2|BaA=>ε _ _ e' (n1 b n hb)|BaB=>FD ARG 2 AgO Zn|BaC=>FD Aa5 5 Bik Zz|BaD=>FD Aa6 6 AIY ZC|BaE=>(AuS (Abd C ES))|BaF=>(.While c MY [] Υ)|BaG=>PIg X tg Pl wi|BaH=>Zl ((Awa AvW).Me Au5)|BaI=>(∀d,ε≠ cK)/\∀k,ζ≠ .kt k|BaJ=>⟨l,us,Β,ANo,fun hz=>(AVv (ε hq rs hz))⟩|BaK=>LJ (setNext S OP given ε)|BaL=>Lv (6* (AMF+1)+ Av_)|BaM=>P7 (.AKr [.wc y py] l_ spos) ε|BaN=>BFq _ _ b o fh|BaO=>(.Compare a [op,op'] [b,c] Υ)|BaP=>N4 H' Hp AfK (kN ε)|BaQ=>∀(ABm) (he:Ĺ Aew e1 [e2]:=by rfl) (De:jp Fh [e2]:=by rfl),_|BaR=>M1 X ε "pop" IJ ζ Fh|BaS=>aD l fun a=>(N2 AIb (f a))|BaT=>ah (by show(AUy _)=_;rw[ANZ (by rw[e];rfl)];exact e)|BaU=>jI aB (FW iP YY (S7 c)) ε|BaV=>far b _ (Ug he hd q n) k|BaW=>∀x:Κ,AtZ ->mb x=BDm x|BaX=>∀{t:o5}(hd:Biy),_|BaY=>(AGx (pL f y fs))|BaZ=>XA (by obtain Β:j=0:=Η;exact ε)|Baa=>oM K F' H' H0 s o|Bab=>[.Ass ε Ι (b::su) hp]|Bac=>(ts.set q (P6 (iI Ry k2) (AIO Ry xs k2 d)))|Bae=>XU (by subst x;rw[ε] at hoe;cases hoe;simp at hce)|Baf=>FD Aag 1 [ABH,BEY] Vj|Bag=>FD Aah 1 [OU,AKt] xR|Bah=>FD Aam 1 [BEd,BEe] ZM|Bai=>FD Aaq 1 [AFy,ZA] Vi|Baj=>FD Aa1 1 [FA,NW] PN|Bak=>FD Aa2 1 ["step",ABG] Vg|Bal=>⟨_,es',ep',hL,r'⟩|Bam=>⟨x,H1,I1,r1,q1⟩|Ban=>s.1=CI/\kH=C4|Bao=>zS Dz x L f|Bap=>FD Aak 2 [AKv,AFx] Zi|Baq=>FD Aan 2 [BEQ,BER] Tc|Bas=>FD Aar 2 [AKw,ZA] Zx|Bat=>FD Aay 2 ["top",BES] Li|Bau=>FD "led" 2 [RO,VX] Zc|Bav=>FD AbH 2 [AK0,ID] Zo|Baw=>FD Aqk 2 [MD,HR] Zw|Bax=>FD Aa0 3 [Ğ,ArU] Zd|Bay=>FD dc 3 [MD,n9] S8|Ba0=>FD Aql 3 [ID,Ab4] Zv
|Ba1=>∀q,zC q ->MR q (jn q ε)|Ba2=>∀{Ξ:CF}{ms:OA}{x:D7},_|Ba3=>Adb slot_list_sort (NE hoL) entry_list_sort ε args_list_sort|Ba4=>ACf (st.1).at (hk I A2 o e)|Ba5=>yga u nw cw h|Ba6=>(max (dF i) (dF j))|Ba8=>∀F ds P,Hm AH' AfW (g ds P) ε (ζ K g vs H Q)|Ba9=>ě [v,ov,iv] (setItem ov iv v)|Ba_=>{o with AAo:= .set es' (ep+1) t'}|Ba'=>by show ADY t (EM (š ε) ry);subst q;rfl|BbA=>É (num at_+ ε*Lx (Μ&& ! AC)) 26|BbB=>Ï (z60 C.gd C.sz (((AN8 ε).ok ζ (z06 (η w hw).1)).up AD))|BbC=>(hc j _ _ e1 e2)|BbD=>nk= .set es ep t|BbE=>¬(a.1=b.1/\a.2.1=b.2.1)|BbF=>BFK A s u v ε|BbG=>yY Dv Ď 1 (ALt FA) ZP|BbH=>yY Dv AAi 8 AUr Vn|BbI=>(fun C dx H' =>∃BY F' x,AvI /\Fu /\Ad0 H/\ (Ar6=x\/Af4 (ABq BY b))/\E BY x)|BbJ=>yd7 (cs:=ε) wr (N:=N)|BbK=>dF (ε)<=max (dF i) (dF j)+1|BbL=>Ada ds (A6 tr BjH) Cx Cx|BbM=>∀l,N_ l ->MR l (AMY l ε)|BbN=>∀(i:Δ) x Γ,xh ds ->I i Γ ->Aw4 x (tb (Agf ε ζ) BY E)|BbO=>AUO Acd ((w9 AIQ).Me AIT).IF|BbP=>(AeL Đ AdV [] Fh)|BbQ=>fun x C' O4 F' H' hE gr xr=>⟨x,F',hE,gr.low sH,xr.back sH⟩|BbR=>by have hsz:wp=IG:=CU hl.symm|BbS=>fun b o _ hb _ e n=>ε b o e n hb A2|BbT=>by rw[AGA (AX wT (AQ6 _))] at h2|BbU=>(oA ye AT3 ws h)|BbV=>(FM (eS BE vs is))|BbW=>(FM (PX ws v bs))|BbX=>ı RV AbN 11 [OU,Ab5,ArN] (Vr c)|BbY=>FD AbL 6 [ID,n9] Zu|BbZ=>(bT (xn hi) (AH4 h1 (bT h1 (ABx itv h2))))|Bba=>z6 (ATF hz Β BI Β (z7 ?_))|Bbb=>yY Ea AAk 9 AUr Te|Bbc=>∀a ds Q Ex,sp ds Q Ex ->ε|Bbd=>AVe (AeL S_ Atv [a] pE) ε|Bbe=>sp (.ob C [] []) ds (fun t' _=>(FF t')) (M_ Cx (E AA Cx))|Bbf=>Afa (ε AG C fl sp)|Bbg=>Un ϓ [] H1 ANu Ab3 h2|Bbh=>∀(BhU){t ds Q Ex}(C:n8 K NV/\AId)(h:ε c t ds Q Ex),_|Bbi=>(h ms x G).2|Bbj=>∃m xs ys,n=m+1/\d= ε/\d' = ζ/\Ae3 (rZ m x y)|Bbk=>∀(m:Δ) (u:ce),(eE m (ACJ (- u c)))= - eE m u|Bbl=>ybc L x hi i0|Bbm=>(U i ANj q' Η)|Bbn=>z5q (Y:=Y) (e:=1)|Bbo=>[RI nJ,.AT S5,.AT mj]|Bbp=>oP f ts vs as Bi9 r|Bbq=>∀{K:Ω}{F F' :Hp}{d:D}{v:V},_|Bbr=>∀x c v,AGu ->Av' ->ε|Bbs=>(B5 (v<0) (gE v L8) Bi8)|Bbt=>EG gN (aB (FW C fl sp) t)|Bbu=>∀d v F' H,BjU ->ε ->ζ d ->AwW|Bbv=>(F.st a cs K' ŷ F.u y7 y8 y9 y10 y11)|Bbw=>(pL f v fs).B6 (·.1)|Bbx=>fs AT9 j - fs AT9 p/AgM*fs s j|Bby=>h2.imp id fun⟨a,o,b,c⟩=>⟨a,o,Τ,c⟩|Bbz=>JV pl K tb fun C D Γ E=>ε|Bb0=>z2u Asu hCc _ e1|Bb1=>Builtin.Slice.sliceAdjust lo hi 1 L8|BIU=>jq A (ix i) c|Bb2=>⟨ε::vs,.AY FG q1,fun F=>rW KB (q2 F)⟩|Bb3=>jH (yr c p ws0 ws br Kf V v)|Bb4=>⟨o,es,ep,k _ o ε ho,r⟩|Bb5=>⟨hx,hc,hnc,AX hd ε⟩|Bb7=>xL ztv ε #[zvg (UU (z8x aM ak ML B1 W'))]|Bb8=>Jn 11 (ACa Av4 ε ML Β ζ)|Bb9=>FD Aa9 5 [FA,NW] ZF|Bb_=>FD Aa_ 7 [ZA,NW] ZG|Bb'=>yY Ci RO 4 [Mn] J8|BcB=>yY Ci AAj 2 ATR Vo|BcC=>(eE m (AIA (B5 (c<p) (- AfJ) (Awu c))))|BcD=>∀{α:CL}[AKN α]{one:ATr}{f:ACZ},_|BcE=>∀{Ξ:CF}{ms Ep :OA}{x x' :D7},_|BcF=>AVA (AfZ d v ε d Š) ζ|BcG=>AVA (AfZ ds vs ε ds (Q vs H')) ζ|BcH=>∀(l:Ζ) (ms:Ρ),N_ l ->ε ->Au_ ->AwM (oy .AT)|BcI=>(AfC Rep ⟨l2,us,AIF,h2,q2⟩)|BcJ=>∀{S:BS}{n:Ψ}{bs:IQ}(h0:Sb∈S)(hn:AVc),_|BcK=>∀{w:Κ}(e:∀v∈ws,v≠w ->f v=g v),_|BcL=>Jj K đ đ NT f fd (BA vM)|BcM=>QS (AGO b0) F0 H0 (.Raise (Ch (ABo AHN Aew)) (Ch (.AKn BI j cp)) Υ) (zvd C f1 f2 t)
|BcN=>∀{A B:Δ}{p q:AI}(h1:GZ A p)(h2:AN1),_|BcO=>∀{A B:Δ}{x y:AI}(h1:ZB A x)(h2:ZB B y),_|BcP=>∀(BiQ){k1 k2:Δ}{xs ys:KF}{a b:AE},_|BcQ=>Fast.same O (e4 cs K' _ pm)|BcR=>AGa k s d tb|BcS=>∀(C:Ζ)(f:Κ)(ta tv:TE),_|BcT=>(zoz (hf c hc) (zK (ε c hc))).1|BcU=>W.set_plain (s:=AMH) X J c.sa ?_|BcV=>[GW 60,.AK 2,.AK 4,.AK ((da 36).LS 7)]|BcW=>one x fun ys=>ε one xs fun zs=>P (ys++zs)|BcX=>∀{xs:An} {as:EC Agm},vN xs=Ε as ->ε|BcY=>∀{Ξ:CF}{ws:Ρ}{ps:AVp}(B:Awr)(u:LO),_|BcZ=>fun b hb hc=>(hnc b hc).2.2 i (A7 b hb)|Bca=>⟨_,_,_,Β,Β,Β,hc⟩|Bcb=>∀{binds:ANm} {m:DU},(∀v,(x,v)∉binds) ->ε Ģ binds m x=m x|Bcc=>P9 u (Wl (s:=UA) e c d AD ⟨x,H,I1,ru,Hb (BjB ε),st',ANh hf⟩)|Bcd=>gT ε (WS (Pm n r.2/\1<=CI/\CI<=n/\Up lt r.2 CI))|Bce=>vC knd kf ADL h' BH (mQ val Rc)|Bcf=>SR K F ε F' H' DA BY|Bcg=>(match nsIn K nX x with | Av9 Lc=>ε K f x | _=>Ι)|Bch=>by obtain⟨o,ho,hc,hd⟩:=id Ĭ|Bci=>∃f fd,ε/\AIZ/\AUo/\ANn/\Av8/\ζ|Bcj=>∀F ds P Ex,AH' ->A_ AfW (sp ds P Ex) ((ε)) Avb (AT6 ζ)|Bck=>∀{ds:AM} {vs:AQ},L5 ->ds.all HX=Μ ->ε|Bcl=>fun j a b=>h5 j Η b|Bcm=>cx.pX Ν σ Γ F H s e s' I R ε|Bcn=>by refine⟨⟨R0.gr.f,Ê,ε,ύ (R0.gr.n b o q n)⟩,R0.len,BjE,R0.ap⟩|Bco=>∀{h:AJ}{H:Hp}{b:Ζ}{o:Obj},_|Bcp=>Bjm ⟨F5,Γ5,R5,eQ (BFz (s4.trans s5)),q⟩|Bcq=>AdJ (BA ε) KP Lc/\AUo|Bcr=>show LR 10 12 from ⟨CD,CD,CD⟩|Bcs=>fun h1 h2 q st=>q.stay st|Bct=>fun u' s2 I2 ru=>⟨v,H1,I2,ru,q⟩|Bcu=>∀j∈FB,j<AK5/\AFm (N.getD j "")=Ε UF|Bcv=>by simp only [show¬(Lu<0) from Τ,AK8,oz,ε]|Bcw=>wpAny_newFunctionEnv_cells Arc hkind (KE BN he s1 x)|Bcx=>(pl=Μ ->∃C,x= HE)/\ε/\tt x.cls ζ AA E|Bcy=>zvd NV PZ AFh (AHw ε)|Bcz=>(Tv H hA ll.1 zl)|Bc0=>(rk ANR ALh AUv).AFv (n - e)|Bc1=>[.wc Mn p6,.ġ (AHa p7) fl p8]|Bc2=>#[z84 #[Rn cI ak ML B1 W']]|Bc3=>zv6 (g:=ε) (μ r) (XA ζ)|Bc4=>GG M A ε Q E AMH|Bc5=>aD hs (rH S x)|Bc6=>by refine⟨as,_,_,Β,AwX,a,bs,_,Β,p,ws0,ws,br,Kf,V,v,w,ε,ζ,Β,?_,O,hw,S,Aw_ cs AwR (Aw0 (Nw cs _ hf))⟩|Bc7=>(∀t∈ts,∃ks us,t= AB' us)|Bc8=>AV (c4 y a ha' ABV)|Bc9=>AV (A9 j i ε ζ q ABV)|Bc_=>ı Ri đ 7 Ago (Vk c)|Bc'=>#[z14 (j:=5) nd Β DO (z88 (ABj z5y fK (au A1 ε)) (UU (HV ζ η)))]|BdA=>xL z6l ε #[ybj (ABj z3l dH Awg)]|BdB=>Bh6/\N_ Cl/\Cl≠TK/\Cl∉ia/\∀v,(p.2).AAo≠ .cell v|BdC=>AHh<=i/\i<2^62/\ AHh<=j/\j<2^62|BdD=>FD AKX 6 [Y_,dk] Zg|BdE=>(ANp*tb AT9 j - tb AT9 p*tb s j).ABe d|BdF=>k l _ (Afx hlt2) hms (zt2 a2)|BdG=>z6 (AN4 BGG Bmm (ADj Bmm BGG F.entry_tuple_iterator_next F.args_tuple_iterator_next_1))|BdH=>[AKw,ZA,AFh,"together",AFy]|BdI=>⟨AKQ AKR,BC' [],boot_drawn,boot_toks,os⟩|BdJ=>ABl ((wq AVS).Me AVa) t|BdK=>∀a vs bs,zt ->A_ (as=ACd) ε gL (R vs bs) ζ|BdL=>∀cs K' y11,BjG ->ε K c Dn (F.st a cs K' ŷ F.u Bip AwC AwD AwG y11) E|BdM=>∀(te:cu)(tl th:Mp),_|BdN=>AK2 kp hle (yfj ge)|BdO=>ygx R1 h1.2 (Acf s1)|BdP=>∀{i:Δ} {e:Ψ},ε ->AVb|BdQ=>O_ ty y (zI td x (AgQ o (ANz H2) (Q (.bl ε) H2)))|BdR=>AbQ AG LA KP =Ε (Ch Lc)|BdS=>iH (qD a) (qD b)|BdT=>L.back (AGJ gr) (AGK Kj)|BdU=>by have xP:Gr F' H' F4 H4:=gr.trans R4.gr|BdV=>∀(lo hi:SO)(n:Δ),_|BdW=>GW (fk S n bs ε)|BdX=>XI ED (Sz 1900 (Nl j 0))|BdY=>∀{Ss Le fs fs' :bc},_|BdZ=>⟨F1,ds,_,IL,r1,h1,ε⟩
|Bda=>nu (Re vs) k=Ε v|Bdb=>∀i v,ε ->Acs (val i) v=Μ/\AUD|Bdc=>(by repeat (first | show ADV he | show ADV hC | show AgW hC hcB | wp_step))|Bdd=>∀(K:IY)(f:Ζ)(EI:Κ),_|Bde=>∀{k:Δ}{A:BV}(r:AgA),_|Bdf=>Ë (ne c _ z Awj) z|Bdg=>(sortedHeap h a vs out).IF|Bdh=>∀(a:Ζ)(o:Obj)(AH:sC),_|Bdi=>W5 P w Cf H s E e s'|Bdj=>ε FH X.w AG iX OQ x C fl k ps sp|Bdk=>∀i∈ε,∃k:Δ,i=GE/\ζ|Bdl=>ADl (by show EQ r h1 h2 G.hand hm hz;rw[<- h2];exact hr r h1)|Bdm=>SR K F1 H F1 H σ AfH|Bdn=>AcF EI KO BH f cd|Bdo=>∀(hc:sq)(hm:Meth AG C m fa)(Fn:eU FH X.w AG iX OQ (AdF dY) k fa fd ps AvD),_|Bdp=>fun Ν s σ H Q I h=>ε|Bdq=>O_ t xs (kU/\∀p,zC p ->MR p (jn p ε))|Bdr=>ANB (AsY S o hw e)|Bds=>AIV (Ar2 i (s:= ε)) ⟨v,Β,nd,AUU AgL,r1⟩ (AfM AMT.2) ζ|Bdt=>fore TC topGo p w os|Bdu=>fun Γ=>(Bjn (PK (AAt C9) ws ps))|Bdv=>∀(hA:∀ds vs,ANI ->L5 ->AH5),_|Bdw=>⟨l,Β,h2,hl,hz,h⟩|Bdx=>(fun C dx H' =>∃x F',(GR x/\AeK)/\AMf MP GX /\Ad0 GX)|Bdy=>∀b o,A_ r_ NH ε (b∉ex) ζ|Bdz=>z0x I AgU hs he (yg5 ε hd ζ Ip)|Bd0=>ASa _ _ D.TOi1 (ALR _ _ D.TOz hTO)|Bd1=>∀i h h',tn i h ->(aT fp (∀o,r_ ->ACV)) ->tn i h'|Bd2=>⟨Tm t,_,.seq xs _,_⟩|Bd3=>tc A4 (fun w Γ3=>g' y w fun d=>P d Γ3) E|Bd4=>Agi (∃a xs,vs= PF/\AwN/\ (kU ->R ε H1))|Bd5=>fun a ds Q Ex h=>ε h|Bd6=>Acp _ _ ε (ζ _ _ c4 (AGU _ _ c2 (ASa _ _ c3 (ALR _ _ c1 η))))|Bd7=>∀(hs:Ĺ qa a [b]:=by rfl)(De:jp Υ [b]:=by rfl),_|Bd8=>LG (BGb S) (BGc hg ASl AGW ?_)|Bd9=>((fg (k a (by rcases zT.mp ha with z | z<;>simp [z]))))|Bd_=>∀(K:Ω)(H:Hp)(a:Ζ)(xs:AQ),_|Bd'=>∀(K:Ω) (F:Hp) (R:AUk) (v:V),_|BeA=>FD Aaj 2 [OU,Ab1,BEO] ZL|BeB=>FD Aax 2 [RO,VX,ny] Za|BeC=>AIU ACY AcR (BA fa) AVN Bjj EJ|BeD=>∀{P:Ρ} {vs:An} {i:Δ} {m:DU},ε|BeE=>t=AMh yr/\ds= [AHm,ACs,.AK m]/\AvG/\ADR/\ C7 K w<=12/\AMh Cr w (jj (K w) h) (up AM3 h m) P (E6 ε)|BeF=>BiY (SL Cl=SL p.2/\(Cl).OO/\SL Cl<=nN/\∀h,h∈Cl↔h∈Ĵ yh)|BeG=>fun c ob q n hc hx=>ε|BeH=>BindsTo.of_defaults Β (X _ _ hT) Β Β Β|BeI=>ε q VT (Bkv p.main.body) Xt Μ s|BeJ=>(dw g g' ta tb tc)|BeK=>∀(lt:sj)(p:sf)(r:Δ),_|BeL=>∀(AH:qk)(k:κ)(v:V),_|BeM=>∀(hN:ie)(hi:HL)(hx:ADf),_|BeN=>ε c o (I.cne x c e) hc V9 ho AgR|BeO=>g x Γ0 (A6 AA (tc AA (fun b A4=>(HI b ε ž)) kj)) kj|BeP=>hs i x σ _ (y xs q) p|BeQ=>AUg D (h Ν s σ H D I AeY)|BeR=>AVj D ij (t D σ H) (ε st CB) (SP X Ν D)|BeS=>GA (∃(S:BS) (n:Ψ) (bs:IQ),ε)|BeT=>∃p ys,xs= [UP]/\ (ADS nY p\/ADS xH p)/\ε|BeU=>⟨F1,ε,_,_,IL,ζ,q,fun t v as F' H' gr nd hn rt hp=>kk t AA F' H' v as AMr Aeq nd (fg BjX) rt hp,AVu⟩|BeV=>⟨F2,A4,_,R2,h2,fun u Γ3 F3 H3 R3 s3 h3=>ε⟩|BeX=>Jd A3 J AN0 (gX K g) (tX K tc) (ε K ζ) Q Awk
|BeY=>∀(hc:FX)(hg:Gl X S_)(hm:O0 S_)(hg2:Gl X Pc)(hm2:O0 Pc)(ha:ANl)(BjM)
 (he:AeA:=by rfl) (he2:Ĺ [.Call Atv [a] [] pE] AwQ []:=by rfl),_
|BeZ=>RZ P w K mg A8 ε f fd C f1 f2 a1 a2|Bea=>⟨x,H1,I1,rx,F1,AA,d,R1,sF,rd,q⟩|Beb=>ε (Bjf cd).Ģ AvC Avf|Bec=>.of_wp fun CA w A R s h=>ε|Bed=>Hd.fore TC AbX pg w os|Bee=>Calls.call_function_entry kind_sorted plain_sorted entry_sorted (args_sorted1 _) (EM (Ó (Builtin.«sorted» _)) ?_)|Bef=>z61 hex hst hfr hb hh|Beg=>zxt S hr.hd e0 ε r x|Beh=>∀(hu:g6)(hi:AwU)(ho:AVk),_|Bei=>∀(he:Sm)(hl:FC QO lo tl)(hh:FC QO hi th),_|Bej=>fun ds P E=>sp ds ε E|Bek=>Xa K g x y H Q|Bem=>⟨F0,gQ N AVU,_,Uj sF (rW KB rs),hq a ds Pd Ex hsp,ε⟩|Ben=>∃od,ε/\∀D3,W.lookIn D3 od=Ε (mA D3)|Beo=>#[ya3 ε #[Yo (ACa Avy aV ak ML (AHB ζ))]]|Bep=>∀{rs:EN}{pre EE:Cn}{c:Δ}{f:Row},_|Beq=>M_ s' (SP K2 Ν Dn AC_ s')|Ber=>(a k k*a i j - a i k*a k j).ABe p|Bes=>(eV CX P w K mg A8 N EI KO f cd A Cf s H E)|Bet=>∀(X:Cx)(tg Pl:AF)(wi:TI),_|Bev=>Hm (dx≠x) (Fr H' (XO x C (Ch dx))) (H' dx=Ε ε) (∀b,b≠x ->b≠dx ->H' b=ζ b) Auu|Bew=>[Ğ,AKw,ZA,NW,FA,Ď]|Bex=>fun j y v' e1 e2 e3=> ?_|Bey=>fun s' A3 c' hm hS' ĩ=> ?_|Bez=>GL (AN_ fun b=>AIi) b (φ (A9 b)*g b) ε|Be0=>Dv P w K mg A8 iP AKb 5 (ALt "x") (Zm c)|Be1=>RG P w K mg A8 ARH Eg 9 AxK (Nb c)|Be2=>xZ (z3e B.nd l1 l2 (by rw[l1',l2',z]))|Be3=>∀{xs:AQ} {us:An},gS ->Biz ->ε|Be4=>z.sameBut hs (cne y c e)|Be5=>∀{n p M N:Δ}(Bjq),_|Be6=>lj (Ť tl l (th A4 (fun u Γ3=>(ń ε ζ)) E))|Be7=>∀(AT8) (F0 H0 F H:Hp),_|Be8=>∀(ADp){e:AF}{tn:pG}(he:ADk),_|Be9=>FD Aaz 1 [RO,VX,AR1] Zb|Be_=>FD AbC 4 [AKv,AFx,"x"] Zk|Be'=>∀(AIa)(f:AVI)(w:Κ)(a:α),_|BfA=>∀d BY F' H' v,A_ AvI Fu (AMU F') (WZ d) Š|BfB=>∀d z F' H',rq ->ALz d z ->P d ->Q z H'|BfC=>(fun a F0 hq=>by have hA:=hq.2 Β;exact(bO #[zwq hA Β iw ML (AHB QL)]))|BfD=>(by simp only [Rep] at r;obtain⟨a,vs,Β,h1,_⟩:=r;cases d' <;>simp only [Rep] at r' <;>first | show AuQ | show AuR | (obtain⟨_,_,z,h2,_⟩:=r';cases z;exact(zyi I ε ζ).ic))|BfE=>∀a vs,A_ zt ε gL (R vs) (ζ F ks R v)|BfF=>fun i s Q E hi st hQ=>ε|BfG=>⟨ε,CY,fun a ha b hb e=>ζ (by rw[Avk] at e;exact e ▸ ha)⟩|BfH=>GA (∃(Ξ:CF) (ws:Ρ) (h:Κ),ε)|BfI=>∀BY F' H' DA,AxG ->Fu ->P BY ->Avl|BfJ=>ε (yu a1 b2) (yu b1 a2)|BfK=>Mk2 P w K mg A8 ARI iP YY 4 Avr (S7 c)|BfL=>RT P w K mg A8 AKa RE dc 4 Af' (Vh c)|BfM=>∀{xs:AQ} {us:An} (n:Δ),gS ->IZ (ε n) (ζ n)|BfN=>∀{ds:AM} {vs:AQ} (n:Δ),L5 ->On (ε n) (ζ n)|BfO=>∀(Awd){σ:St}{Γ:G2}(R:GT),_|BfP=>SlX K F H H0 as C fs ts o|BfQ=>∀(BiQ){k1 k2:Δ}{xs ys:KF}{x y a b:AE},_|BfR=>fun c o c1 c2 c3 c4 e=>ε|BfS=>W_ (EZ ATx==0&&cS==1) (Aga==Rc)|BfT=>fun b Γ4 F4 H4 R4 s4 q4=> ?_|BfU=>by refine i6 (z1q (f:=f) og M.makes M.init ε ?_)|BfV=>LW Ð ŭ Ι=DF AAp 1 pD|BfW=>∀{X:Cx}{Ν:fB}{σ:St}{H:Hp},_|BfX=>nD (MT f) (MT g)=MT (FV (.tup [f i,g i]))|BfY=>⟨F1,AA,P,R1,q,fun b A4 F2 H2 R2 s2 p=>k b A4 F2 H2 R2 kF p⟩|BfZ=>fun d BY F' H' v R' s' r ε=> ?_|Bfa=>(Gv (X:=(ħ z).hand a) (zo1 I5 a) hg hm ?_ hd)|Bfb=>fun HU h1 d tk hk hm BD OZ=> ?_|Bfc=>z6 (zmv BjV BjI hx fun g2 q1 hs2=>z7 ?_)|Bfd=>fun D Γ _=>tb D Γ fun AA Cv=>∃C,Cv.cls=C/\n8 K C/\am C Cd/\th ε ζ kj|Bfe=>{s with heap:=h',drawn:=d,toks:=tk}
|Bff=>∃l xs ws F Pd ds,v= Q1/\H2 l=Ε (FM ws)/\pd H2/\aL AG F xs ws/\Av5/\g xs ds Pd/\∀ys us,aL AG F ys us ->Pd ys ->Q BE (upd H2 l (FM us))|Bfg=>zi3 (KO:=sc) (BN:=CB) Po ε|Bfh=>(by rcases h with ⟨_,z⟩ | ⟨_,z⟩ | ⟨_,z⟩ | ⟨_,_,_,z,_⟩ | ⟨_,z⟩<;>cases z)|Bfi=>JQ K F0 H0 F H σ Γ F1 H1|Bfj=>TrY h B e cls dd fl|Bfk=>zwr he I h (Ap v H1 hq) TZ ZO|Bfl=>ha F1 H1 z kj AT7 ε Ν ζ|Bfm=>⟨Avj,C.1,C.2,cs,_,Β,hf⟩|Bfn=>k _ A4 F2 H2 R2 kF hp|Bfo=>fun ε Ν s σ H Q I q=>h ζ Ν s σ H Q I AeY|Bfq=>W6 K F H H' dx fs ts|Bfr=>W.kas_kind (T:= ε) h2 (UC hv ?_) AD AD hQ|Bfs=>fun i v s' Q' E' hv hQ=> ?_|Bft=>fun Γ3 F3 H3 σ3 R3 s3 q3=> ?_|Bfu=>ki (AMM h1 (fun l A4 F2 H2 R2 s2 h2=>ε))|Bfv=>zwc (ep:=ep) hbt hg O hdr|Bfw=>(kS (kS (kS hl2 ALR D.l2z) ASa D.l2i1) AGU D.l2TO)|Bfx=>z2z I S ε i x v h1 h2|Bfy=>∀(d:D) (v:V),rB d ->Qr ->lx|Bfz=>∀(ds:AM) (vs:AQ),ANI ->L5 ->AH5|Bf0=>fun hz=>k ds AA F1 H1 _ R1 s1 ε h1|Bf1=>∀{g' :ſ}{t' :Δ}{d' :ARg}{ch:Bi},_|Bf2=>∃as fs ts,AMN Agg/\f∉fs/\AwT/\Gw ATk=Μ/\ε|Bf3=>∃i vs DA H',Inv AN' [] DA H' s' /\Bih/\ AfK/\ε|Bf4=>ADn ε e (fun c v _ q=>ζ) (fun c q=>AUp) (AMq q AUp)|Bf5=>∀(Fn:Afa AvD)(hr:gI)(hb:AIf)(cx:AdK),_|Bf6=>∀(a it:Ζ)(o:Obj)(AH:sC)(ep:Δ)(Rv:BjT),_|Bf7=>bT (BiL _ I2 r1 r2 q2) (ANa ε ⟨z,H3,I3,r3,k,e,q3⟩)|Bf8=>ε (xs:=vs) (fun i σ H=>AwJ) Bjg (fun i σ H _ hz=>by obtain⟨F2,A4,R2,s2,_⟩:=hz;exact ζ) (MY ds vs rs I TN) ?_|Bf9=>Awo (zO (Vv (bt.small (N:=16) ba Η h1 hi j)) (mx ε Η))|Bf_=>M2 X o "get" IJ e f Fh|Bf'=>by refine z6 (z3d X hC hi hf (ADZ i3 (fun r s' hr=>⟨hr.1,ANg (wpAny_point (z7 ?_))⟩) (Ll z z)) GH)|BgB=>BjJ (DS Wt (ε hc) hg hm hb (Qs inner z2j he2) AD AD he2)|BgC=>∀{P:As}{w:AW}{K:Ω}{mg:DU}{A8:AJ},_|BgD=>GG Ix oq (BnZ dx Bh4 D3 v) (se D4 (D4= Av7 BI/\AMa)) ATq s'|BgE=>∀{K:Ω}{F:Hp}{a:Ζ}{vs:AQ}{xs:AM}(hq:Awb)(rs:AHe)(hz:ANe),_|BgF=>JQ AG F0 H0 F H σ Γ F1 H1|BgG=>∀j (g1:j<AGN) (g2:j<ASO),BFK oq s Avs Avt (AxM j)
|BgH=>by
 show LM k8 k8;show LM Awv (UE Bm' ho hd);have hown:Builtin.Dict_items.ownsTuple BHC =AC:=CD
 show ATg (AUy (AfB (TD d)));show bv (UN (Awe (AfB (TD d)))) AM7 (UE Bnx hod hdd);show CS A2
 refine AM7;refine UE Bny hod hdd;show CS A2
 refine z7 ?_
|BgI=>(kI (kI (kI h2 ALR D.i2z) ASa D.i12.symm) AGU D.TOi2.symm)|BgJ=>[Mn,Ğ,di,dk,AFi,n9,PZ,"dealt"]|BgK=>AIe (∃p xs i v,x= UP/\y= FU/\ε/\AHq xs v/\Q v H)|BgL=>(ε (u:= ζ) (ATU zY) (hn a zY).2.1 (hn a zY).2.2).frzM sF (IU) (fun b u e n=> ?_)|BgM=>∀{BN:Env}{s:AB}{f:Ζ}{y:Κ}(BjO),_|BgN=>∀(Aul){tb:ae}{rs:EN}{fs:AHC}{ix:qh}(h:AMw),_|BgO=>A_ TB As AW Δ (A_ ei Δ AB Thread ε)|BgP=>∀{x:D7}{L:Ρ}{f:re}(O:yq x L f),_|BgQ=>[ď,Ya,BEU,"dict_reverseitemiterator","odict_iterator","itertools.zip_longest","itertools.pairwise"].AFv|BgR=>∀{x:D7}{L:Ρ}{f:re}{r:Κ}{ε:AI},_|BgS=>staticsOk (Bkv p.main.body) (AKQ AKR) BG&&namesBound p BG&&gensDone s&&laidKept (AKQ AKR) BG|BgT=>∀(kV doc pm:AE) (an:OB) (cdv ct:AE) (ε:ζ),η|BgU=>AB_ {s with heap:=h',gens:=g',drawn:=d',toks:=t'}|BgV=>∀(c:ADg)(n:s_)(ha:PE X o ta)(hv:Awi)(hs:Agh o),_|BgW=>∀{K:Ω}{F:Hp}{a:Ζ}{o:Obj}{ks:Fs}{vs:AQ}{xs:AM}(e:AHl Avo)(hkl:gL)(rs:AHe)(hz:D5 (C7 Re vs)),_|BgX=>by have hm:AVl (mroOf LA) AqY:=(BEk X hcd).andThen .now;rw[W.osa_eq,refuse_eq];refine z6 (z6 (BiF hm ?_));rw[xB,BnW,zks _ ht];refine z7 (z6 (BiF (BEl X hn) AwO));show DT cd' hc' hd' W.any_some c.hd;show Aw8 o;subst hc hd;refine Bi0 (Blq hx (z6 (Atc (BEk X hc') ?_)))|BgY=>⟨ĥ s2,kM ε Da Ħ,WV i s,fun i j a hz=>by obtain⟨s,o,e,_,h⟩:=hz;exact Bji⟩|BgZ=>∃p ws0 ws bs K V u w h,t=AMh yr/\ds= [AHm,ACs]/\AvG/\ADR/\h∈K w/\AMh Cr w (iK (K w) h) AM3 P (E6 ε)|Bga=>(.of (owner:= ALX) (n:= ε) (Aw6) UM UM UM (by first | exact .A0 UM | exact .AZ UM) Bi')|Bgb=>∀{X:Cx}{Ν:fB}{σ:St}{H:Hp}{s:AB}{ε:ζ},_|Bgc=>fun Ν s σ H v u Q I r q=>ACI h v u Q I r (AIB hi q)|Bgd=>∀(AVo){cs:Bi}{K' :Ks}{y8 y9 y10 y11:GI},_|Bge=>fun Γ3 F3 H3 σ3 R3 s3 hz=>by obtain⟨m',l,w3⟩:=hz;exact⟨m',l,F3,Γ3,R3,Ace (eQ s3),w3⟩|Bgf=>⟨_,_,Β,Β,Β,Β,Β,Β,Β,CD,CD,CD,CD⟩|Bgg=>∀{t:AO} {h h' :AJ} {l c:Ζ} {ws:KF},jo t h l ws ->ASY c h h' ->l≠c ->jo t h' l ws|Bgi=>∀{E:eO}{Ν:fB}{s:AB}{σ:St}{H:Hp}{x:Κ}{u:AE}{Υ:AL}{Q:eO},_|Bgj=>∃h' tk A3 c',r= .ok (.ret ż)/\s' =ci/\ (ay Af6 (Kx (Af_ kJ)) ACV)/\AwZ A3 c'/\ItemsOf AxD A3 FK|Bgk=>⟨BQ,e1,a,C,dx,_,Β,ea,hc,hn,by show AU5 Lb;exact hl,?_⟩|Bgl=>∀{Ξ uV :CF}{ms Ep :OA}(h:AN7)(h' :Ge uV Ep)(e:Bja),_|Bgm=>[OU,Ab5,ArN,ARy,"_law_beside","_law_first","_law_due",AKt,ARx,ARw,ArP,AcB]|Bgo=>⟨⟨oc,od,_,_,_,_,_,_,sl,ε,e,c⟩,k⟩|Bgp=>⟨fun _ _ _ _ _ _ _ _ _ _ h=>by obtain⟨_,_,_,_,_,_,_,_,_,_,_,_,_,_,_,_,_,_,_,_,h⟩:=h;exact oS,ε⟩|Bgq=>ε cG bI ak bQ bL bV bG aQ aH aC aU aP|Bgr=>(Ard D3 EI params MY KO dV kV doc pm an cdv ct)|Bgs=>Xo2 P w K mg A8 AKZ NV PZ AFh PZ AFh 1|Bgt=>∀(X:Cx)(Ν:fB)(σ:St)(tg:AF)(R:AM4)(itv:AE)(s2:AB),_|Bgu=>∀(A:BV) (i:Δ) (s:AB) (Q:eO) (E:eO),AVZ ->MR it s ->Bi6|Bgv=>⟨ok.mod,ok.kind,ok.glob,ok.blt,ok.above,ok.inj,ok.has,ok.cab,ε,ok.frames,ok.stk,ok.exf,ok.bs,ok.bsz,ok.Ig,ok.Ih,ok.funs,ok.frf⟩|Bgw=>∀(l b:Ζ)(Nc ABa:KF)(n n2:Δ)(dd dd2:OB)(sl sl2:ADm)(x y:Κ)(t u:Tok)(h1:IM Nc 0 AVh)(h2:IM ABa 0 (.AT y u))(hxy:x≠y),_|Bgx=>⟨Β,CD,_,_,w,_,_,_,_,_,_,_,c1,c2,c3,c4,c5,Β,zvf _ _,G1 as⟩|Bgy=>[97,98,99,100,101,102,103,104,105,106,107,108,109,110,111,112,113,114,115,116,117,118,119,120,121,122]
theorem aap{α:AaR}{a:α}{P:Θ}(e:Ι=Ε a):P:=l'
theorem aaq{α:AaR}{a:α}{P:Θ}(e:No Ε):P:=l'
theorem aar{P:Θ}(e:MM Μ):P:=l'
theorem aat{P:Θ}(e:AC=Μ):P:=l'
theorem aau{α:AaR}{a:α}{l:CO}{P:Θ}(e: []=Fc):P:=l'
theorem aav{α:AaR}{a:α}{l:CO}{P:Θ}(e:Fc= []):P:=l'
theorem aaw{α:AaR}{a:α}{P:Θ}(e:a∈ ([]:CO)):P:=l'
local macro_rules|`(tactic|omega)=>`(tactic|first|lia|omega (splitDisjunctions:=true))
local macro_rules|`(tactic|cases $e:ident)=>`(tactic|first|subst $e|exact aap $e|exact aaq $e|exact aat $e|exact aar $e|exact aav $e|exact aau $e|exact aaw $e|exact False.elim $e|(have hx:=Option.some.inj $e;subst hx)|(have hx:=List.cons.inj $e;obtain⟨rfl,rfl⟩:=hx)|(have hx:=Prod.mk.inj $e;obtain⟨rfl,rfl⟩:=hx)|(have hx:=Prod.mk.inj (Option.some.inj $e);obtain⟨rfl,rfl⟩:=hx)|cases ($e))
local macro_rules|`(tactic|show $t)=>`(tactic|refine(?_: $t))
abbrev eO:=DD PySem.Value PySem.Shared
abbrev fB:=pb PySem.Addr PySem.Obj
section
open IB OL JO
abbrev z6:= @wpAny_bind
abbrev z7:= @wpAny_pure
abbrev z8:= @Heap.get?_push_of_some
abbrev z9:= @Heap.get?_push_size
abbrev zZ:= @AFe
abbrev zY:= @AAb
abbrev zW:= @AQ5
abbrev zV:= @AaT
abbrev zU:= @ą
abbrev zT:= @AaU
abbrev zR:= @AFf
abbrev zQ:= @Bkk
abbrev zP:= @BCt
abbrev zO:= @Nat.le_trans
abbrev zN:= @AQ6
abbrev zM:= @Bkm
abbrev zL:= @Nat.lt_of_le_of_lt
abbrev zK:= @BCv
abbrev zJ:= @AaV
abbrev zG:= @AqV
abbrev zF:= @Option.some.inj
abbrev zE:= @Option.map_eq_some_iff
abbrev zB:= @YO
abbrev zA:= @Ć
abbrev yZ:= @Heap.get?_push_ne
abbrev yX:= @List.cons.inj
abbrev yV:= @List.mem_of_getElem?
abbrev yU:= @Bkn
abbrev yS:= @Bko
#where
namespace L2
open IB OL JO
def DG(s:AN)(j:Δ):AN:=match s with
 | .ClassDef _ _ _ MY _ _ _ _ _ _ _=>body.getD j (.Pass Ao')
 | _=> .Pass Ao'
def KZ(s:AN):Arguments:=match s with
 | Bju _ a _ _ _ _ _ _ _ _=>a
 | _=>{posonlyargs:= [],ER:= [],vararg:=Ι,kwonlyargs:= [],kw_defaults:= [],kwarg:=Ι,BCz:= []}
def vf(s:AN):Xs:=match s with
 | .BCy _ _ b _ _ _ _ _ _ _=>b
 | _=> []
def bw(s:AN):OM:=match s with
 | .BCy _ _ _ _ _ _ sc _ _ _=>sc
 | _=>{kind:= AL2,IC:= [],isGenerator:=AC,isCoroutine:=AC}
#print L2
namespace L3
open IB AKP JO L2
abbrev Lz:An:= Auf
def j6(AEx):AO:=yB (YR C) (Ε ⟨Tm AqX,_,.cls cd,sl⟩) (match AqY,sl.toList with
  | .B0 C' ::bm,[_,_,_,_,Ε (V' n),_]=>C' ==C&&n== Aqa && ! cd.hasDel&&W.tailIn K Lz bm
  | _,_=>AC)
def bB(K:Ω)(C D:Ζ):AO:=yB (YR C) (Ε ⟨_,_,.cls cd,_⟩) (cd.mro.contains (BA D))
def vg(AEx):AO:=yB (YR C) (Ε ⟨Tm AqX,_,.cls cd,_⟩) (yB AqY (.B0 C' ::_) (C' ==C))
def isV(o:BkN)(s:LT):AO:=yB o (Ε (.val (V' t))) (t==s)
#print L3
namespace Hd
open IB AKP Aqb JO L2 L3
noncomputable section
def Ie:ABg Axh IY
 | _,[]=> []
 | i,o::r=>AN5 o.isFreed (Ie C9 r) ((i,o)::Ie C9 r)
def cut(h:AJ)(_:Δ):IY:=Ie 0 h.objs.toList
def treeOf:Axh ->Δ ->BT ->BT
 | [],_,t=>t
 | o::r,i,t=>treeOf r C9 (t.ins i o)
abbrev ann:ei:=Ε (BA 6)
abbrev z:AL:=Ao'
def BN(p:As):Env:={KO:=p.main.scope,locals:=mainNs,globals:=mainNs,cells:= [],code:= .B0 13,frame:=Ε 14}
def cB(p:As):Code:= .MY (BC_ p) (BN p)
def S0(AZx):AB:=BdI
def Sa(x:BRY)(w:AW)(os:AAc):AB:=AYa x y y.1 (S0 w os)
def Ta(s:AB):SharedT:=⟨treeOf s.heap.objs.toList 0 EO,15,s.heap.life,Aqd,AKS,L',AAe⟩
abbrev TB:=LT ->My Builtin
abbrev GoT:=BgO BRY
abbrev aax:=TB ->A_ As AW Δ ei (A_ Δ Δ SharedT Thread (Ĉ (Flow×SharedT×Code×AL)))
abbrev aay:=BgO (My AB)
def fore(tb:TB)(GO:GoT)(p:As)(w:AW)(os:AAc):AB:=Sa (GO tb p w 11 ann 12 A2i Az4) w os
def shot(AIa)(tb:TB)(GO:GoT)(RUN:aax)(TOP:aay)(EXS:Xs ->Env ->Sem Flow)(p:As)(obs:AB ->α)(w:AW)(os:AAc):Ĉ ((Flow×Code)×α):=
 (RUN tb p w 11 ann 1 30000 (Ta (fore tb GO p w os)) ⟨(EXS BIj (BN p)).wrap doneF deadEnd id id,cB p,z,AYg⟩).bind (XU ((TOP tb p w 11 ann 2 (x.2.1).abs ⟨doneF AC_,x.2.2.1,x.2.2.2,AYg⟩).B6 fun s=>((x.1,x.2.2.1),obs s)))
def F_(AIa)(SEEN:cr As Ρ Ρ (AB ->AO) AO AB α)(p q:As)(VT:Ρ)(Xt:AB ->AO){β:CL}(obs:IY ->β)(n:Δ)(w:AW)(s:AB):AO×α×β:=
 (BgS,BeI SEEN,Apb)
def adr(BPZ):Ζ:=match x with | Av9 Lc=>f | _=>0
def isRef(BPZ):AO:=yB x (Av9 (BA _)) Μ
def allB:AIn ->AO
 | []=>Μ
 | b::l=>AN5 b (allB l) AC
def nth(l:AIn)(i:Δ):AO:=match l,i with
 | [],_=>Μ
 | b::_,0=>b
 | _::l,D9=>nth l i
def G_(fd:E_):E_:={fd with kwdefaults:= BI,doc:= BI,pyModule:= BI,annotations:=Ι,code:= BI,closureTuple:= BI}
def fnO(Bdd):AV9:=AI_ (YR f) ⟨_,_,.func fd,_⟩ (AN5 (codeIn K fd.code EI&&keepIn K Lc) (Ε (G_ fd)) Ι) Ι
def V0(K:IY)(v:AE):AO:=yB v (.B0 T) (yB (YR T) (Ε Bd2) (t== dP &&(yB wE [BI] Μ)))
def fnD(Bdd):AV9:=(fnO K f EI).bind fun fd=>(AN5 (V0 K fd.defaults) (Ε {fd with BCz:= BI}) Ι)
def V1(K:IY)(x:Κ):AV9:=Bcg fnO
def fnM(K:IY)(x:Κ):AV9:=Bcg fnD
abbrev ex(x EI:Κ)(st:AN):AV9:=Ε BCi
abbrev d(x:Κ)(s:AN):Κ×AN:=(x,s)
def seen(K:IY)(ds:Aim):AfD:=AKU fun d=>V1 K d.1
def due(ds:Aim):AfD:=AKU fun d=>BZw
def recOf(s:AN):Aqf:=match s with
 | Bju n a b _ _ _ sc _ _ ps=>⟨n,a,b,sc,ps⟩
 | _=>⟨PY,KZ s,[],bw s,z⟩
def vN:An ->AQI Agm
 | []=>Ahc
 | AYr::r=>(vN r).B6 (.inl i:: ·)
 | A4r::r=>(vN r).B6 (.inr x:: ·)
 | _=>Ι
def tupO(K:IY)(a:Ζ):AQI Agm:=AI_ (YR a) Bd2 (M' t dP (vN wE) Ι) Ι
def qO(w:AW)(AH:AS1 Ρ):AQI (Ψ×Κ×Ρ):=Ε (kvs.map fun p=>(hashStr w Cl,Cl,p.2))
#where
#print Hd
local macro_rules | `(tactic| nofun)=> `(tactic| exact ⟨rfl,rfl,rfl,by decide+kernel,rfl,by decide+kernel,by decide+kernel⟩)
namespace Lw
open IB OL JO L2 L3
def B3(AEq):AN:=PySem.Challenge.pw_hall_k74_appealed_back.main.body.getD i (.Pass Ao')
abbrev zc6:AN:=vS 3
abbrev zfw:AN:=vS 4
abbrev zze:AN:=B3 19
abbrev zfk:AN:=B3 26
abbrev zfi:AN:=vS 5
abbrev zdp:AN:=vS 2
abbrev zkk:AN:=B3 77
abbrev znv:AN:=B3 74
abbrev zi2:AN:=B3 78
abbrev zng:AN:=B3 79
abbrev zuw:AN:=B3 59
abbrev zjm:AN:=B3 58
abbrev V2:AN:=DG (B3 61) 0
abbrev zg1:AN:=B3 75
abbrev zro:AN:=B3 76
abbrev zdi:AN:=B3 80
abbrev znl:AN:=B3 82
abbrev z23:AN:=B3 33
abbrev zpi:AN:=B3 32
abbrev zr3:AN:=B3 29
abbrev zut:AN:=B3 31
abbrev zp6:AN:=B3 13
abbrev zgz:AN:=B3 36
abbrev zmf:AN:=B3 40
abbrev zle:AN:=B3 39
abbrev zm2:AN:=B3 14
abbrev zka:AN:=B3 38
abbrev yjl:AN:=B3 37
abbrev V3:AN:=B3 35
abbrev zet:AN:=B3 44
abbrev zkw:AN:=B3 67
abbrev V4:AN:=B3 66
abbrev z66:AN:=B3 15
abbrev zzx:AN:=B3 20
abbrev zvw:AN:=B3 46
abbrev zpa:AN:=B3 45
abbrev zzh:AN:=B3 16
abbrev zku:AN:=B3 48
abbrev zpg:AN:=B3 47
abbrev T8:AN:=B3 43
abbrev zjb:AN:=B3 42
abbrev ze6:AN:=DG (B3 10) 0
abbrev z0a:AN:=B3 17
abbrev yaj:AN:=B3 18
abbrev zpo:AN:=B3 60
abbrev zfu:AN:=DG (B3 61) 1
abbrev zdw:AN:=vS 6
abbrev z53:AN:=B3 21
abbrev zf2:AN:=B3 52
abbrev zzz:AN:=B3 56
abbrev zqn:AN:=B3 55
abbrev z7n:AN:=B3 54
abbrev zvh:AN:=B3 53
abbrev zo2:AN:=B3 22
abbrev NT:AN:=B3 51
abbrev zch:AN:=vS 1
abbrev zco:AN:=B3 24
abbrev zy4:AN:=B3 65
abbrev T9:AN:=DG (B3 9) 0
abbrev zeq:AN:=B3 64
abbrev z1a:AN:=B3 63
abbrev zea:AN:=B3 70
abbrev V5:AN:=B3 69
abbrev z92:AN:=B3 68
abbrev NZ:AN:=vS 0
abbrev zi6:AN:=B3 81
abbrev zhb:AN:=B3 83
abbrev zcr:AN:=vS 11
abbrev N5:AN:=vS 12
abbrev N6:AN:=vS 8
abbrev N7:AN:=B3 84
abbrev N8:AN:=vS 9
abbrev Oa:AN:=B3 85
abbrev Bw:AN:=B3 86
def ds:Aim:= [Ct Aaf zze,Ct Aag zkk,Ct Aah znv,Ct Aai zi2,Ct Aaj zng,Ct Aak zuw,Ct Aal zjm,Ct Aam zg1,Ct Aan zro,Ct Aao zdi,Ct Aap znl,Ct Aaq z23,Ct Aar zpi,Ct Aas zr3,Ct Aat zut,Ct Aau zp6,Ct Aav zgz,Ct Aaw zmf,Ct Aax zle,Ct Aay zm2,Ct Aaz zka,Ct "led" yjl,Ct Aa0 V3,Ct Aa1 zet,Ct Aa2 zkw,Ct ARG V4,Ct Aa3 z66,Ct Aa4 zzx,Ct Aa5 zvw,Ct Aa6 zpa,Ct Aa7 zzh,Ct Aa8 zku,Ct Aa9 zpg,Ct Aa_ T8,Ct Aa' zjb,Ct AbA z0a,Ct AbB yaj,Ct AbC zpo,Ct AKW z53,Ct AbD zf2,Ct AbE zzz,Ct AbF zqn,Ct AKX z7n,Ct AKY zvh,Ct AbG zo2,Ct dc zy4,Ct AbH zeq,Ct AbI z1a,Ct AbJ zea,Ct AbK V5,Ct AbL z92,Ct AbM zi6,Ct AbN zhb,Ct ċ N7,Ct Č Oa,Ct YV Bw]
def fts(AQH):AIn:= [
 Φ (ü Aqh),
 Φ (ü "Few"),
 Φ (ü AbP),
 Φ (ü AKZ),
 Φ (ü AKa),
 Φ (ü ARH),
 Φ (ü ARI),
 Φ (AOy Ahp PY),
 Φ (AUG Ahp),
 Φ (Ah6 Ahp),
 Φ (AoO ALq),
 Φ (Ah7 Ahp),
 Φ (Adl ALq),
 Φ (AOy Ahq PY),
 Φ (AUG Ahq),
 Φ (Ah6 Ahq),
 Φ (AoO ADd),
 Φ (Ah7 Ahq),
 Φ (Adl ADd),
 Φ (AJd ID),
 Φ (AJd AbS),
 Φ (ACP ADd YY),
 Φ (ACP Ϥ PZ),
 Φ (ACP Ϥ AFh),
 Φ (AJd ARJ),
 Φ (AJd AFi),
 Φ (AJd di),
 Φ (AJd dk),
 Φ (ACP AEO dc),
 Φ (AJd NW),
 Φ (AGs Ϡ),
 Φ (AUL Ϥ AbT AFj),
 Φ (ACP Ϥ BDI),
 Φ (AUL Ϥ BDJ BDK),
 Φ (A2' Ϡ),
 Φ (A2_ Ϡ),
 Φ (AoO Ϥ),
 Φ (AUG Ϡ),
 Φ (AGs ϡ),
 Φ (AUL AEO AbT AFj),
 Φ (ACP AEO BDI),
 Φ (AUL AEO BDJ BDK),
 Φ (A2' ϡ),
 Φ (A2_ ϡ),
 Φ (AoO AEO),
 Φ (AUG ϡ),
 Φ (BVW BHd),
 Φ (BOs Bkb),
 Φ (L3.isV (W.findCls K BHd Avi KP) BDL =Μ),
 Φ (vE č),
 Φ (vF č),
 Φ (vE HR),
 Φ (vF HR),
 Φ (vE dl),
 Φ (vF dl),
 Φ (vE RO),
 Φ (vF RO),
 Φ (Az6 ADd),
 Φ (Az7 ADd),
 Φ (Az6 Ϥ),
 Φ (Az7 Ϥ),
 Φ (AtI ADd AKb),
 Φ (AtK BO0),
 Φ (vE Ď),
 Φ (vF Ď),
 Φ (vE AAi),
 Φ (vF AAi),
 Φ (Az6 AEO),
 Φ (Az7 AEO),
 Φ (vE KP),
 Φ (vF KP),
 Φ (vE AAj),
 Φ (vF AAj),
 Φ (vE AAk),
 Φ (vF AAk),
 Φ (vE AAl),
 Φ (vF AAl),
 Φ (vE AAm),
 Φ (vF AAm),
 Φ (ü Aqk),
 Φ (ü Aql),
 Φ (Apk Ahn),
 Φ (Apk Aho),
 Φ (Apk Bkb),
 Φ (vg K Ϡ=Μ),
 Φ (vg K ϡ=Μ),
 Φ (VQ ď),
 Φ (VQ AKc),
 Φ (VQ S_),
 Φ (VQ dq),
 Φ (VQ ARK),
 Φ (VQ "all"),
 Φ (VQ Ya),
 Φ (VQ dP),
 Φ (VQ "abs"),
 Φ (VQ "any"),
 Φ (VQ MZ),
 Φ (VQ Pc),
 Φ (VQ Đ),
 Φ (VQ Yf),
 Φ (VQ "max"),
 Φ (VQ dr),
 Φ (ü BDM),
 Φ (Hd.tupO K (Aqi (Ath AbO BDM))=Ε [.A0 0,.A0 1]),
 Φ (am Ahn Ahn),
 Φ (MM (bB K Aho Ahn)),
 Φ (am Aho Aho),
 Φ (AGs Ϡ),
 Φ (AGs ϡ),
 Φ (am Ϡ Ϡ),
 Φ (MM (bB K ϡ Ϡ)),
 Φ (am ϡ ϡ)]
def obs(AQH):BXY:=(Hd.allB (fts K),
 Hd.seen K ds,[u7 č BDN,
  u7 HR BDO,
  AG0 (xF Aqk) dl,
  u7 dl BDP,
  u7 RO BDQ,
  AG0 (AGj ADd KP) AbU,
  AG0 (AGj Ϥ KP) BDR,
  AG0 BO0 BDS,
  u7 Ď BDT,
  Hd.fnM K đ,
  u7 AAi BDU,
  AG0 (xF Aql) AbV,
  AG0 (AGj AEO KP) AbW,
  u7 KP ARL,
  u7 AAj BDV,
  u7 AAk AKd,
  u7 AAl AKe,
  u7 AAm AKf])
def good(AX2):BXY:=(Μ,Hd.due ds,
 [Y1 č BDN zc6,
  Y1 HR BDO zfw,
  Y1 dl dl zfk,
  Y1 dl BDP zfi,
  Y1 RO BDQ zdp,
  AjM AbU V2,
  AjM BDR ze6,
  Y1 AKb BDS zfu,
  Y1 Ď BDT zdw,
  Y1 đ đ NT,
  Y1 AAi BDU zch,
  Y1 AbV AbV zco,
  AjM AbW T9,
  AjM ARL NZ,
  Y1 AAj BDV zcr,
  Y1 AAk AKd N5,
  Y1 AAl AKe N6,
  Y1 AAm AKf N8])
abbrev pg:As:=PySem.Challenge.pw_hall_k74_appealed_back
abbrev lw:W.OpenLaw:=PySem.Challenge.rw_hall_k74_appealed_back
abbrev vw:As:=W.view pg [86]
def VT:Ρ:=pg.boundNames.filter fun x=>x != YV
theorem hd_e:W.opening pg=W.plainProg pg.main.scope.names:=mP
theorem hd_f(s:AB):PySem.fenceModules? pg s=Ε s:=mP
theorem hd_A(AZx):AbX TC pg w 11 Hd.ann 12 (Hd.S0 w os) (W.topStub pg)=Ε (Bed,⟨denote TC (Hd.cB pg),A5_,Hd.z,BNq⟩):=by
 show Bjv PySem.W.Fast.te11892475500146522536 Aqm;kernel_rfl
theorem hd_B(AZx):W.segRun TC pg w 11 Hd.ann 1 1 BXl (W.blockOf (W.behindTheImports pg) (Hd.env pg) (Hd.cB pg) Hd.z BNq)=Ε (AC_,Bed,A5_,Hd.z):=by
 show Bjv PySem.W.Fast.te14374325043358763698 Aqm;kernel_rfl
theorem hd_C(AZx):(Hd.Ta BXl).abs=Hd.fore TC AbX pg w os:=by
 rw[BDW,Aqm];kernel_rfl
theorem hd_D(AZx):Hd.shot TC AbX W.segRunT W.topRun execs pg (Hd.rest W.openSeen pg vw VT (C5 Μ) obs 1500 w) w os=Ε (BSf A5_ (W.openGood vw VT)):=by
 rw[BDW,PySem.W.Fast.te10110043849684766642,PySem.W.Fast.te14082659384304107361,PySem.W.Fast.te12563942051412417395,PySem.W.Fast.te4187177175401517315,Aqm];kernel_rfl
theorem hd_s:lw.row.wellSaid=Μ:=mP
theorem hd_said:lw.wellSaid=Μ:=by
 unfold W.OpenLaw.wellSaid;rw[hd_s]
 kernel_rfl
theorem hd_ok:W_ (W.chainsOk vw&&W.opensWell lw.row.prog) (W.frees Bkw&&lw.row.within.isEmpty):=mP
theorem hd_bare:lw.row.prog.bare:=⟨Β,Β,Β,Β,Β,Ù⟩
theorem hd_d:W.defOf vw lw.row.name=Ε (BDX Bw,[]):=mP
theorem hd_p:lw.row.prog.theDef lw.row.name=Ε (AJ_ params,AJ_ MY,AJ_ KO):=mP
theorem hd_k:W.kwWritten? (AJ_ params.kwonlyargs) (AJ_ params.kw_defaults)=Ε []:=mP
theorem hd_n:AJ_ D3= YV :=mP
theorem hd_z:AJ_ params.defaults= []:=mP
#print Lw
namespace L2
open IB OL JO
abbrev Key:=Sum Ψ Κ
def vO:Key ->AE ->AO
 | .A0 k,v=>Value.isInt k v
 | Ũ,v=>Bkz x v
def aaz(AX2):Key ->Ψ
 | .A0 k=>hashInt k
 | Ũ=>hashStr w x
theorem Fq:∀{k:Key} {v:AE},vO k v=Μ ->(∃i t,k=Aqn i/\v=AYl)\/ (∃x t,k=ON x/\v=AYq)
 | AOT,v,h=>by
  show PM t (BDZ (k:=i) (v:=v) h);exact .A0 (Nw i t e)
 | Ũ,v,h=>by
  show PM t (Value.isStrOf_shape (x:=x) (v:=v) h);exact .AZ (Nw x t e)
theorem z80(i:Ψ)(t:Tok):vO (IN i) Afc=Μ:=bS vO Value.isInt
theorem z94(x:Κ)(t:Tok):vO (E7 x) AVh=Μ:=bS vO Bkz
theorem yl8(a b:Ψ):VV (BMN)=(a==b):=by
 show L7 a b
 ·subst e;simp
 ·have h:¬BMN:=Q3 (e (Sum.inl.inj q));rw[BkD];exact UX ARN e
theorem ymr(a b:Κ):A9P (Φ BMO):=by
 show L7 a b
 ·subst e;simp
 ·have h:¬BMO:=Q3 (e (Sum.inr.inj q));rw[BkD,BHe]
theorem ynf(a:Ψ)(b:Κ):Anc (Biw ON):=BVx
theorem ym1(a:Κ)(b:Ψ):Anc (Bix Aqn):=BVx
def qx(CA:As)(w:AW):PySem.KeyKind CA w Key where
 is:=vO
 hash:=aaz w
 inj:=fun v a b ha hb=>by
  rcases Fq ha with ⟨i,t,Β,Β⟩ | ⟨x,t,Β,Β⟩
  ·rcases Fq hb with ⟨j,u,Β,e⟩ | ⟨y,u,Β,e⟩
   ·show AOC e e1;rw[e1]
   ·exact l'
  ·rcases Fq hb with ⟨j,u,Β,e⟩ | ⟨y,u,Β,e⟩
   ·exact l'
   ·show AOC e e1;rw[e1]
 byValue:=fun k v h=>by
  rcases Fq h with ⟨i,t,Β,Β⟩ | ⟨x,t,Β,Β⟩<;>rfl
 pyHash:=fun hv h=>by
  rcases Fq hv with ⟨i,t,Β,Β⟩ | ⟨x,t,Β,Β⟩
  ·exact wpAny_pyHash_int h
  ·exact wpAny_pyHash_str h
 eqBool:=fun hu hv h=>by
  rcases Fq hu with ⟨i,t,Β,Β⟩ | ⟨x,t,Β,Β⟩
  ·rcases Fq hv with ⟨j,u,Β,Β⟩ | ⟨y,u,Β,Β⟩
   ·rw[yl8] at h;exact wpAny_eqBool_int h
   ·rw[ynf] at h;exact Bk1 i t y u _ _ _ _ h
  ·rcases Fq hv with ⟨j,u,Β,Β⟩ | ⟨y,u,Β,Β⟩
   ·rw[ym1] at h;exact Bk2 x t j u _ _ _ _ h
   ·rw[ymr] at h;exact wpAny_eqBool_str h
 «strs»:=fun k x t v h=>by
  rcases Fq h with ⟨i,u,Β,e⟩ | ⟨y,u,Β,e⟩
  ·exact l'
  ·show AOC e e1;subst e1;cases v<;>rfl
theorem zz3(CA:As)(w:AW)(i:Ψ)(t:Tok):AVm qx (IN i) Afc=Μ:=z80 i t
theorem zqf(CA:As)(w:AW)(x:Κ)(t:Tok):AVm qx (E7 x) AVh=Μ:=z94 x t
inductive V where
 | non | bl (b:AO) | AK (i:Ψ) | AT (x:Κ) | V6 (b:AAn UInt8) | flt (b:UInt64) | B0 (a:Ζ) | ty (n:LT)
 deriving DecidableEq
def IE:DD V AE
 | BE,u=>BNN
 | uA,u=>BJi
 | FU,u=>š AYl
 | ç,u=>š AYq
 | .V6 b,u=>š (Value.bytes b t)
 | .flt b,u=>š (Value.float b t)
 | BQ,u=>As' u
 | .ty n,u=>BSn
abbrev IZ:DD AQ An:=ARO IE
theorem Vals.length{xs:AQ}{us:An}(r:gS):BJr:=BIC
theorem Vals.get:∀{xs:AQ} {us:An} {i:Δ} {x:V},gS ->kL ->∃u,EX us u/\ϋ
 | _,_,_,_,EO,e=>AXL
 | _,_,0,_,.AY r _,e=>by simp at e;subst e;exact Oy r
 | _,_,D9,x,Qb _ t,e=>by
  show EQ u h1 h2 (WE Vals.get i x x) t AI5
  exact⟨u,CU h1,h2⟩
theorem Vals.set{x:V}{u:AE}(r:ϋ):∀{xs:AQ} {us:An} (i:Δ),gS ->IZ (Aqp i x) (us.set i u)
 | _,_,_,EO=> EO
 | _,_,0,Qb _ t=> AJs
 | _,_,D9,.AY q t=> .AY q (Vals.set r i t)
theorem BDd:∀{xs ys:AQ} {us ws:An},gS ->IZ ys ws ->IZ A6q (us++ws)
 | _,_,_,_,EO,s=>s
 | _,_,_,_,AJs,s=> .AY r (BDd t s)
theorem Vals.take:BfM xs.take us.take
 | _,_,0,_=> EO
 | _,_,_+1,EO=> EO
 | _,_,n+1,AJs=> .AY r (Vals.take n t)
theorem Vals.drop:BfM Aba us.drop
 | _,_,0,r=>r
 | _,_,_+1,EO=> EO
 | _,_,n+1,Qb _ t=>Vals.drop n t
def n6:DD U_ ei
 | AHx,Af2=>PQ
 | Ι,Ι=>JS
 | _,_=>D8
def KV{κ:CL}:DD qk AeQ:=ARO fun(p:κ×V) (q:κ×AE)=>Cl=q.1/\IE p.2 q.2
def kV:Key ->V
 | AOT=> FU
 | Ũ=> ç
inductive HO where
 | Cc (xs:AQ)
 | tup (xs:AQ)
 | dK (AH:sC) | dT (AH:AH0)
 | set (S:Ψ ->AO) (n:Δ)
 | ins (C dx:Ζ) (fs:ê)
 | A7 (x:Ζ)
 | xd (fs:ê)
 | met (f x:Ζ)
 | rng (lo hi:Ψ)
 | frz (o:Obj) (u:HO)
 | LC (ps:KF)
 | ext (φ:Ax4)
abbrev Hp:=Ζ ->My HO
def upd(H:Hp)(a:Ζ)(o:HO):Hp:=cn (M' b a (Ε o) (H b))
theorem iD{H:Hp}{a:Ζ}{o:HO}:upd H a o a=Ε o:=Ayz upd
theorem bW(A'h){o:HO}(h:QQ):upd H a o b=H b:=ϊ upd Ü
theorem yo2(A'h){o u:HO}(h:AiS)(h' :AEJ)(d:o≠u):a≠b:=by
 intro e;subst e;rw[h] at h';exact d (zF h')
theorem iG(A'h){o:HO}(h:AiS)(h' :NH):a≠b:=by
 intro e;subst e;rw[h] at h';cases h'
section
variable(P:As)(w:AW)
def bN(H:Hp)(h:AJ)(a:Ζ):Fk HO
 | ma=>kU/\BAh (ANK/\fN AN3)
 | cf=>kU/\∃AU:An,ANK/\IsTup h a RS
 | AlX=>A'i
 | .dT AH=>Afh (∃xs:AU8,
   ARO (fun(p:Fs×V) (q:Fs×Ζ×AE)=>BZ') AH xs/\
   ∃o es ep,ϱ/\BDg/\nk= Afs/\Aqr=d4 (entryOfKey (Aqs AHb))/\ (xs.map (·.1)).OO)
 | .set S n=>h.SetOf (intKind P w) a S n
 | .ins C dx fs=>A4v/\BIL/\dx≠a/\fN A1_/\
   ∃mA,Aon/\ (∀f,BBQ)/\BMS
 | .A7 _=>∃o,ϱ
 | .xd fs=>∃mA,h.Ns1 a mA/\∀f,BBQ
 | .rng lo hi=>∃t u v,fN Auh
 | .frz o u=>ϱ/\bN H h a u
 | .LC ps=>BV4
 | .met f x=>BPC km
 | .ext φ=>φ h/\ (∃o,ϱ)/\∀h1 h2:AJ,φ h1 ->(∀o,ACr ē ->ACr h2.get?) ->φ h2
def pI(H:Hp)(h:AJ):Θ:=∀a o,AiS ->AAP o
#where
section
variable{P:As}{w:AW}{H H' :Hp}{h h' :AJ}{a:Ζ}{o:HO}
theorem bN.lt(x:AAP o):Agy a:=by
 cases o with
 | Cc xs=>show AxX x;exact Se
 | tup xs=>obtain⟨_,_,_,p⟩:=x;exact p.lt
 | dK AH=>obtain⟨_,_,_,_,o,_,_,e,_⟩:=x;exact Se
 | dT AH=>obtain⟨_,_,_,_,o,_,_,e,_⟩:=x;exact Se
 | set S n=>show AeB o x;exact Se
 | ins C dx fs=>show AxZ x;exact Se
 | A7 y=>obtain⟨_,e⟩:=x;exact Se
 | xd fs=>show Axa x;exact Se
 | rng lo hi=>show AxY x;exact Se
 | frz ob u=>obtain⟨e,_⟩:=x;exact Se
 | LC ps=>exact zG (show fN _ from x)
 | met f y=>exact zG (show fN _ from x)
 | ext φ=>obtain⟨_,⟨_,e⟩,_⟩:=x;exact Se
theorem Aqw{α β:CL}{F G:DD α β}:∀{l₁:CO} {l₂:QU},ARO F l₁ l₂ ->(∀a b,F a b ->G a b) ->ARO G l₁ l₂
 | _,_,EO,_=> EO
 | _,_,AJs,f=> .AY (f _ _ r) (Aqw t f)
theorem bN.stay(x:AAP o)(k:qo (b=a\/qE (.A7 a)) (MQ MA) AdU)
  (ho:J_ (qE (.A7 a)) (AUC (.A7 a))) (ht:BAO):bN P w H' h' a o:=by
 induction o with
 | Cc xs=>show Apo x;exact⟨z,AU,n,r,vb⟩
 | tup xs=>obtain⟨z,AU,r,ob,e,c⟩:=x;exact⟨z,AU,r,ob,vb,c⟩
 | dK AH=>obtain⟨z,y,vs,r,ob,es,ep,e,c⟩:=x;exact⟨z,y,vs,r,ob,es,ep,vb,c⟩
 | dT AH=>
  obtain⟨z,y,xs,r,ob,es,ep,e,c⟩:=x;exact⟨z,y,xs,Aqw r fun p q z=>BU6,ob,es,ep,vb,c⟩
 | set S n=>obtain⟨ob,es,ep,t,e,c⟩:=x;exact⟨ob,es,ep,t,vb,c⟩
 | ins C dx fs=>
  obtain⟨d,z,ne,e,mA,⟨od,es,ep,e2,c⟩,r⟩:=x;exact⟨ho _ d,z,ne,vb,mA,⟨od,es,ep,k _ _ (E7 d) e2,c⟩,r⟩
 | A7 y=>show PM ob x;exact⟨ob,vb⟩
 | xd fs=>obtain⟨mA,⟨od,es,ep,e,c⟩,r⟩:=x;exact⟨mA,⟨od,es,ep,vb,c⟩,r⟩
 | rng lo hi=>obtain⟨t,u,v,e⟩:=x;exact⟨t,u,v,vb⟩
 | frz ob u ih=>show ADY e x;exact⟨vb,ih q⟩
 | LC ps=>
  have e:BV4:=x;exact k a _ UI e
 | met f y=>
  have e:BPC (BA y):=x;exact k a _ UI e
 | ext φ=>obtain⟨p,⟨o,e⟩,st⟩:=x;exact⟨st _ _ p fun o q=>k _ _ UI q,rV vb,st⟩
theorem pI.lt(x:dC)(e:AiS):Agy a:=(x a o e).lt
theorem pI.fresh(x:dC)(e:MB<=a):zo:=by
 cases q:H a with
 | Ι=>rfl
 | Ε u=>exact ŵ (zM (x.lt q) e)
theorem pI.kept(x:dC)(k:AlG):pI P w H h' :=fun a o e=>
 (x a o e).stay (fun b u _ q=>Ajq) AZM Ų
theorem pI.laid(x:dC)(k:AlG)(hp:MB<=a)(new:bN P w AX3 h' a o):pI P w AX3 h' :=ah (by
 have hn:=x.fresh hp;show YA
 show A8n new
 ·rw[ub] at e;exact Bf4 x (k c v q))
#where
def Rd(H:Hp)(a:Ζ)(u:HO):Θ:=AHD\/∃o,P5 AM8
theorem Rd.ok{P:As}{w:AW}{H:Hp}{h:AJ}{a:Ζ}{u:HO}(r:Rd H a u)(x:dC):AAP u:=by
 rcases r with r | ⟨o,r⟩
 ·exact x a u r
 ·obtain⟨_,q⟩:=x a _ r;exact q
def V7:Fk (My HO)
 | Ε (FM _)=>JS
 | Ε (.dK _)=>JS
 | Ε (.dT _)=>JS
 | Ε (.set _ _)=>JS
 | Ε (.ins _ _ _)=>JS
 | Ε (.ext _)=>JS
 | Ε (.xd _)=>JS
 | _=>D8
section
variable{P:As}{w:AW}{H:Hp}{h h' :AJ}{x e:Ζ}{o' :HO}
theorem pI.write(ok:dC)(mu:A7j)(he:A8p)(k:BK7)(heo:A6L)
  (new:bN P w (ZZ x o') h' x o'):pI P w (ZZ x o') h' :=SV u (by
 have V8:∀c y,AeH c y ->c≠x:=fun c y r z=>(A9j r)
 have aaA:∀c xs,UB c f_ ->c≠x:=fun c xs r z=>(A9j r)
 show ABt x
 ·subst hb;rw[iD] at q;cases q;exact new
 ·rw[ub] at q;by_cases hbe:b=e
  ·have q' :qE (.A7 x):=by
    show OH he
    ·exact tq hbe.trans z hb
    show Dx hbe z
   rw[q] at q';cases q';show AOB hv heo;exact⟨v,AX hbe hv⟩
  ·refine ADn ok q (fun c v hc r=>k c v ?_ r) (fun c r=>(Ë (V8 c b r) r)) (AMq r (Ë (aaA c xs r) r))
   show Ϙ hc hc
   ·exact hbe
   ·rintro Β;show OH he
    ·exact V8 c b hc z
    ·rw[hc] at z;cases z;exact hb Β)
#where
structure Un (fs ex:Bi) (H H' :Hp) (h h' :AJ):Θ where
 KS:Bdy (b∉fs) ACV
 OP:Bdy (b∈fs) BTI
 d5:ņ MA (NH ->b∉ex ->AMP)
 ARS:ay r_ (b∉ex) BJG
 tups:BAO
 nq:BUM
 pJ:BXE
section
variable{fs fs' ex ex' :Bi}{H H1 H2:Hp}{h h1 h2 h' :AJ}{a x e:Ζ}{o:HO}
theorem Un.any(u:AKH H1 h1){b:Ζ}{ob:Obj}(q:ACU MA)(n:NH)(hx:b∉ex):∃sl,Mo ē {ob with AKi:=sl}:=by
 by_cases hb:b∈fs
 ·exact u.slot b ob q n hb hx
 ·exact⟨BDh,u.keep b ob q n hb hx⟩
theorem Un.trans(a:AKH H1 h1)(b:Un fs ex H1 H2 h1 h2):AKH H2 h2 where
 KS:=BeG (b.keep c ob (a.keep c ob q n hc hx) BBN hc hx)
 OP:=BeG (by
  show gc e1 (a.slot c ob q n hc hx);show ADs sl' (b.slot c _ e1 BBN hc hx);exact⟨sl',e2⟩)
 d5:=fun c ob q n hx=>by
  show kR e1 (a.there c ob q hx);exact b.free c o' e1 BBN hx
 ARS:=fun c ob q hx=>by
  show kR e1 (a.there c ob q hx);exact b.there c o' e1 hx
 tups:=fun c xs q=>b.tups c xs (a.tups c xs q)
 nq:=fun c ob xs q=>b.nq c ob xs (a.nq c ob xs q)
 pJ:=fun c ps q=>by
  obtain⟨m1,e1⟩:=a.pJ c ps q;show ADs m2 (b.pJ c _ e1);exact⟨m1++m2,BOp⟩
theorem ART(k:AlG):AKH H h' :=
 ⟨BK6 A8a,BK6 ⟨BDh,A8a⟩,Ś n _ n,A8o ⟨ob,A8a⟩,Ų,fun _ _ _ q=>q,fun _ ps q=>⟨#[],AWp q⟩⟩
theorem Un.refl:AKH H h:=ART Ų
theorem ARU(k:AlG)(hp:MB<=a)(hn:zo):AKH AX3 h' where
 KS:=fun b u q _ _ _=>Ajq
 OP:=fun b u q _ _ _=>⟨u.slots,Ajq⟩
 d5:=Amd _ (AX (BNt (Bkm (AqV q) hp)) n)
 ARS:=We q _ ⟨u,Ajq⟩
 tups:=SV xs AUp
 nq:=We xs q AUp
 pJ:=BRx Ady
theorem Un.write(mu:A7j)(he:A8p)(k:BK7)(heo:A6L):AKH (ZZ x o) h' :=by
 have hx:Af4 (b≠x):=fun b n z=>(A9j n)
 have hb:Af4 (b≠e):=fun b n z=>by
  subst z;rcases he with r | r
  ·exact hx b n r
  ·rw[n] at r;cases r
 have hm:qo AEJ (¬V7 (Ε u)) (b≠x):=fun b u q nm z=>by subst z;rw[q] at mu;exact nm mu
 refine⟨fun b u q n _ _=>BTx,fun b u q n _ _=>⟨u.slots,BTx⟩,Amd _ (AX (bW (hx b n)) n),We q _ ?_,
  SV xs (Ë A8x q),We xs q (Ë A8x q),BRx (bW A8x)⟩
 by_cases hbe:b=e
 ·subst hbe;exact heo
 ·exact⟨u,k b u hbe q⟩
#where
def yE(A8b):Bi:=BQw AAr (H a).AFk
def Ag(A8b):AJ:=ARV h (yE h H)
theorem z8m(A8b):(Ag h H).BDi=MB:=W.hideAll_size _ _
theorem ycu(Bco)(e:r_)(n:NH):Kx A5d:=
 AJF e (fun hm=>by
  have q:(H b).AFk=Μ:=(AFl hm).2;rw[n] at q;simp at q)
theorem yjj(Bco)(e:Kx A5d):r_/\NH:=by
 have e' :r_:=BDj (yE h H) e;show F8 e';cases q:H b with
 | Ι=>rfl
 | Ε x=>
  have hm:b∈yE h H:=ARW ⟨BlJ (zG e'),Ah_⟩
  have z:P3 A5d:=BlK (yE h H) hm;rw[z] at e;cases e
def yhk(g h:AJ)(L:Ζ):fB:=BQw BDk (AVF (a=L\/ AhH g.get? a) ((MA a).B6 fun o=>(a,o)))
def F_(g h:AJ)(L d:Ζ):fB:=(yhk g h L).AAr fun p=>(Φ (Cl≠d))
structure Mod (K:Ω) (mg:DU) (A8:AJ):Θ where
 Ft:Ĕ A8
 glob:Bio
 blt:∃mb,base.Ns Aqz mb/\BaW
 nolimit:base.NoLimit
structure Cx where
 CA:As
 w:AW
 K:Ω
 mg:DU
 A8:AJ
 A:BV
 N:Ρ
 NX:AB
 iS:Hp
 BN:Env
 Cf:L4
 stack:L4
 ex:Bi
 fn:Κ ->AO
 calm:AO
 pn:fB
 xe:eO
def frs(l:L4):Bi:=l.filterMap (·.frame)
abbrev Cx.fs(X:Cx):Bi:=frs AAu
def qP(BTN):Θ:=A6J (AXp\/AO2 AFm)
def Loc(BTN):Θ:=A6J AXp
def Look(BN:Env)(h:AJ)(m:DU)(x:Κ)(u:AE):Θ:=
 (AS8 ARZ/\Fr m u)\/ ((AMZ ARZ\/AO2 ARZ)/\∃c,AWy/\h.IsCell c (Ε u))
structure Cx.Ok (X:Cx):Θ where
 mod:BV9
 kind:Aq1= AL2
 glob:BlM=nX
 blt:X.env.builtins=Aqz
 above:AMi TK
 inj:A'q AGu (A0Y c)
 has:∀x,(AMZ AKj\/AO2 AKj) ->∃c,AGu
 cab:∀x c,Adm ->AGu ->AMi c
 hd:FX ->X.A.handled=Ι
 frames:X.A.frames=Ε JU
 stk:JU=AAu\/ (JU=CB::AAu/\AZF)
 exf:N0 AAv (AUI/\ADW b)
 bs:Ai6 (Avh/\P3 ARb)
 bsz:BlO<=BlN
 Ig:Ai6 (b∉AAv)
 Ih:N0 AAv Ail
 funs:BlP OQ AAu
 frf:N0 ia (P3 ARb)
structure Inv (X:Cx) (Ν:fB) (σ:AS4 V) (H:Hp) (s:AB):Θ where
 ok:X.Ok
 os:AAe=X.s₀.os
 G_:BIw
 A8:Un ia AAv ARb H X.s₀.heap BG
 loc:∃m,BMB/\∀(i:Δ) (x:Κ) (v:V),HL ->EX σ q_ ->OG ->∃u,PQ/\Look CB BG m x u
 cell:Adc (∃v,Av')
 d5:N_ TK
 freeC:Adc (N_ c)
 pin:WN (X.pn++Ν) BdB
 DL:pI FH X.w H BG
 len:Abi=X.N.length
section
variable{X:Cx}{Ν:fB}{σ:AS4 V}{H H' :Hp}{s:AB}{h' :AJ}
theorem Cx.Ok.nofr(ok:X.Ok){b:Ζ}{o:Obj}(e:Kx X.base.get?):Ail:=ADr (by
 have:=(ok.funs.mem hb).1;show t_;show E3)
theorem Inv.bs(VM):Ai6 (kX/\NH):=NC ⟨Abj b o BJZ BNT (I.ok.nofr e) BIc,AKk b o BJZ BNT BIc⟩
theorem Inv.bk(VM):Ai6 kX:=NC (kQ I.bs).1
theorem Inv.mod(VM):BV9:=I.ok.mod
theorem Inv.kIn(VM):X.K.In BG:=I.ok.mod.Ft.keeps I.bk
theorem Inv.lt(VM):XY TK:=let ⟨_,hn,_⟩:=ib;hn.lt
theorem Inv.sz(VM):AMi BH:=zO ARe (ĕ I.lt)
theorem Inv.nofs(I:AS){a:Ζ}(h:rS a):a∉ia:=ADr (by
 obtain⟨_,o,ho,_⟩:=BHz;exact ŵ (zM (zG ho) (zO I.sz h)))
theorem Inv.cne(VM):ADW TK:=fun x c e z=>by
 obtain⟨v,o,ho,hd⟩:=Akt;obtain⟨m,⟨o',es,ep,ho',hd',_⟩,_⟩:=ib;rw[z,ho'] at ho;cases ho;rw[hd'] at hd;cases hd
theorem Inv.funs(VM):Ag4 OQ AAu:=by
 have all:∀(l:L4),(aT (frs l) Ay7) ->BlP OQ l ->BlQ OQ l:=by
  intro l;induction l with
  | DB=>intro _ _;trivial
  | AY BN r ih=>
   intro hs hl;obtain⟨hk,⟨L,o,hf,hn,ho,hd⟩,hr⟩:=hl;have hL:L∈ia:=hs L (Ajz frs Abl hf zY)
   show PM sl (Abm L o ho (BDq L hL) hL (AV (I.ok.Ih L z hL)));exact⟨hk,⟨L,_,hf,hn,e,hd⟩,ih (Lo (hs b (Ajz frs Abl hf (zW _ hb)))) hr⟩
 exact all AAu (Kt hb hb) I.ok.funs
theorem Inv.stack(VM):Ag4 OQ JU:=by
 rcases I.ok.stk with e | ⟨e,hf⟩
 ·rw[e];exact I.funs
 ·rw[e];obtain⟨m,hn,_⟩:=ib;refine Qb (by rw[AAw];decide) hf hn ?_ I.funs
  exact Heap.get?_none_of_le (zO I.ok.bsz ARe)
theorem Inv.stkSub(VM):N0 lr (b∈TK::ia):=FS (by
 rcases I.ok.stk with e | ⟨e,hf⟩
 ·rw[e] at hb;exact zW _ hb
 ·rw[e] at hb;unfold frs at hb;rw[Abl,hf] at hb;exact hb)
theorem Inv.stkFree(VM):N0 lr NH:=FS (by
 rcases A9I hb with e | hb
 ·rw[e];exact ė
 ·obtain⟨_,o,ho,_⟩:=BHz;exact AKk b o ho (BDq b hb) (AV (I.ok.Ih b z hb)))
theorem Inv.step(Bf1)(I:AS)
  (hch:BBo)
  (KS:BV1 Ail ACV)
  (OP:BV1 Ay7 BTI) (d5:∀b o,Af8 ->kX ->NH ->AMP)
  (ARS:ay Af8 kX BJG)
  (tups:BAO) (nq:BUM) (pJ:BXE)
  (ns:∀m,BMB ->h'.Ns TK m) (DL:Akz) (hg:Aq6 g'):
  BgU:=by
 have neL:ņ Aq5 AUI:=NC (zK (zM (zG e) ARe));show LP neC (ay Avh (b∉AAv) Af8) (fun b o e hx hb=>by
  show OH (Z_ hch)
  ·exact hx z
  ·exact ŵ (zM (zG e) z)) cellK (Adc (∀v,Av' ->A1P)) (fun x c e v (AEX hd)=>by
  have V9:c∉ch:=AV (A_I (hch c z).2);by_cases hc:c∈ia
  ·show gc q (BeN OP);exact DH q hd
  ·exact⟨o,BeN KS,hd⟩) ⟨nr,I.os,hg,⟨AP5,AP5,GN b o e n hx,Alp,fun b xs e=>tups b xs (Abn b xs e),e9 xs e (nq b o xs (ARi b o xs e)),K_ ps e⟩,?_,AP_,?_,AP_,nI,DL,AFq⟩
 ·exact KS b o (kQ neL) hb AoP (Abj b o e n hb hx) BBP
 ·show gc e1 (Abm b o e n hb hx);show ADs sl' (OP b _ (kQ neL) hb AoP e1 BBP);exact⟨sl',e2⟩
 show BkH (d5 b o' AoP e1 BBP)
 show BkH (ARS b o' AoP e1)
 ·obtain⟨m1,e1⟩:=Abo b ps e;show ADs m2 (pJ b _ e1);exact⟨m1++m2,BOp⟩
 ·show A4x ib;refine⟨m,ns m hn,fun i x v e1 e2 e3=> ?_⟩;show Wp r l (hl i x v e1 e2 e3);show Ee u r;rcases l with l | ⟨k,c,e,z⟩
  ·exact .A0 l
  show KL ⟨k,c,e,cellK x c e _ z⟩
 ·show AOB z Akt;exact⟨v,cellK x c e v z⟩
 ·obtain⟨m,⟨o,_,_,ho,_⟩,_⟩:=ib;exact d5 _ o (E9 (A7U hch)) ho ė
 ·obtain⟨v,o,ho,hd⟩:=Akt;exact d5 c o (E9 (A_I (hch c z).2)) ho AgR
 ·show AaN;have V9:Cl∉ch:=AV ((hch Cl z).2.2.2 p hp Β);exact⟨KS Cl p.2 ne nf V9 e n,d5 Cl p.2 V9 e n,ne,nf,d⟩
theorem Inv.un{t' :Δ}(I:AS)(u:AUW ia [] H' h')(DL:Akz):AB_ AM_:=by
 obtain⟨m,⟨o,es,ep,ho,r⟩,_⟩:=id ib;show gc hL (u.any ho ė A2)
 exact BCG [] (Kt z (nomatch z)) (BbS u.keep) (BbS u.slot) (fun b o _ e n=>u.free b o e n A2) (fun b o _ e=>u.there b o e A2) u.tups u.nq u.pJ (fun m' hm=>by
  obtain⟨o',es',ep',ho',r'⟩:=hm;rw[ho] at ho';cases ho';exact Bal) DL Ę
theorem Inv.call(Bf1)(I:AS)(u:AUW ϓ ch H' h')(DL:Akz)(hg:Aq6 g')
  (hch:BBo):
  BgU:=by
 obtain⟨m,⟨o,es,ep,ho,r⟩,_⟩:=id ib;show gc hL (u.any ho ė (AV (A7U hch)));exact I.step (ch:=ch) hch (fun b o hL hb hc e n=>u.keep b o e n (E9 ((TL (BDr b z)).ic hL hb)) hc) (fun b o _ _ hc e n=>u.any e n hc) (fun b o hc e n=>u.free b o e n hc) (fun b o hc e=>u.there b o e hc) u.tups u.nq u.pJ (fun m' hm=>by
  obtain⟨o',es',ep',ho',r'⟩:=hm;rw[ho] at ho';cases ho';exact Bal) DL hg
theorem Inv.turned{t' :Δ}{it:Ζ}(I:AS)(k:Alj (b≠it))(hn:N_ it)(hL:it≠TK)
  (h1:it∈AAv\/AMi it) (h2:ADW it) (h3:Afe it):AyE:=by
 have Wa:fS H (b≠it):=We e z (AkI hn)
 refine BCG [it] AWl (fun b o _ _ hc e _=>A8f) (fun b o _ _ hc e _=>⟨o.slots,A8f⟩) BQG
  (BM3 A8f) (APx) (ALk e e) BSe (XB m hm) (IU) Ę
 ·show Amb
  subst e;exact⟨h1,hL,h2,h3⟩
 ·obtain⟨o,es,ep,ho,r⟩:=hm;exact Bb4 (ABu hL)
 ·refine ADn MC e (fun c v hc q=>k c v ?_ q) AZM Ų;show OH hc
  show Dx z (UY Wa)
  ·exact Wa c _ z
theorem Inv.tok(I:AS)(t:Δ):İ {s with toks:=t}:=A_D t Un.refl MC
theorem Inv.kept{t' :Δ}(I:AS)(k:A1s):AyE:=I.un (ART k) (I.hok.kept k)
theorem Inv.laid{a:Ζ}{o:HO}{t' :Δ}(I:AS)(k:A1s)(hp:rS a)(new:AGq AX3 h' a o):
  KM a o AM_:=I.un (ARU k hp (Afx hp)) (I.hok.laid k hp new)
theorem Inv.write{x e:Ζ}{o:HO}{t' :Δ}(I:AS)(mu:A7j)(he:A8p)(k:AN2 e OR)(heo:A6L)
  (new:AGq (ZZ x o) h' x o):KM x o AM_:=I.un (Un.write mu he k heo) (I.hok.write mu he k heo new)
theorem Inv.pins_of{uR :fB}(I:AS)(h:WN uR BdB):Inv X uR σ H s:=
 Afw nr (WP (BRl (E9 (AAx p (zP _ z))) (h p)))
theorem z1v{N:Ρ}(hN:N.Nodup){i j:Δ}{x:Κ}(a:xh N)(b:WJ N x):i=j:=by
 show DE h1 e1 d_ a;show ADs h2 (d_ b);exact(List.getElem_inj hN).mp (e1.trans e2.symm)
theorem zru{M:ARj}{A:BV}{E:eO}{i:Δ}{x:Κ}{v:V}{u:AE}{Q:ì}(I:AS)(hN:ie)(hi:HL)(hx:ADf)(r:PQ)
  (h:∀s',BP6 ->(∃a,Ans ii/\ (a=TK\/Fr Aq2 a)) ->AMa) (Apu):BWa:=by
 show DT m hn hl id ib;have hcls:MM (Aq1== .class || (Aq1== .module&&TK !=BlM)):=JA AAw
 have hiσ:i<Abi:=AX AFq ϯ
 have cne:=I.cne;have tracked:∀{a:Ζ} {h' :AJ},(∃o,A0i/\zo) ->Ans h' ->pI FH X.w H h' :=fun{a h'} ha hs b ob e=>by
  obtain⟨_,_,hfree⟩:=ha;refine(MC b ob e).stay (fun c w' hc q=>I_ hs.2 c ?_ q) AZM Ų;rintro Β;show Ϙ hc hc
  ·rw[hfree] at e;cases e
  ·rw[hfree] at hc;cases hc
 rcases hx with hk | hk
 ·refine wpAny_storeName_local hk hn (Ap h' hn' hs) hcls;obtain⟨oL,_,_,hoL,_⟩:=id hn;refine h _ ⟨nr,I.os,Ę,⟨AP5,AP5,AKk,Alp,Abn,ARi,Abo⟩,DH hn' Bex,WV y c,ė,AFp,nI,tracked ⟨oL,hoL,ė⟩ hs,CU AFq⟩ (DH hs yb)
  ·exact AVs ARe (BPk hb hx)
  show BLy BK2
  show BKr BK2
  ·by_cases hj:j=i
   ·subst hj;rw[hi] at e1;cases e1;show AX6 hiσ;cases e2;exact⟨u,r,AT1 hk CY⟩
   ·rw[BI_ hj] at e2;show bP u' r' (hl j y v' e1 e2 e3);show Ee u' r';rcases q with ⟨k,e⟩ | ⟨k,c,e,z⟩
    ·refine .A0 (D_ k);have:y≠x:=fc (hj (z1v hN e1 (e ▸ hi)));simp [Χ,e]
    show KL ⟨k,c,e,Be4⟩
  ·obtain⟨w',z⟩:=Ė y c e;exact⟨w',Be4⟩
  ·show AaN;exact⟨I_ hs.2 Cl ne e,n,ne,nf,d⟩
 ·have hfn:Adm:=by
   show OH hf
   ·exact z
   ·rw[z] at hk;cases hk
  obtain⟨c,hc⟩:=I.ok.has x (IN hk);obtain⟨w',z⟩:=Ė x c hc;refine wpAny_storeName_cell AAw hk hc z (Ap h' hc' hs);obtain⟨oc,hoc,aaB⟩:=id z;refine h UA ⟨nr,I.os,Ę,⟨AP5,AP5,AKk,Alp,Abn,ARi,Abo⟩,⟨m,BDt hs (AKl (cne x c hc)),Bex⟩,WV y c',ė,AFp,nI,tracked ⟨oc,hoc,AFp x c hc⟩ hs,CU AFq⟩ ⟨c,hs,.AZ hc⟩
  ·exact AVs BBk (BPk hb hx)
  show BLy (AVs BBk e1)
  show BKr (AVs BBk e1)
  ·by_cases hj:j=i
   ·subst hj;rw[hi] at e1;cases e1;show AX6 hiσ;cases e2;exact⟨u,r,.AZ ⟨.A0 hk,c,hc,hc'⟩⟩
   ·rw[BI_ hj] at e2;show bP u' r' (hl j y v' e1 e2 e3);show Ee u' r';rcases q with q | ⟨k,c',e,z'⟩
    ·exact .A0 q
    ·refine .AZ ⟨k,c',e,z'.sameBut hs ?_⟩;rintro Β;exact hj (z1v hN e1 (I.ok.inj _ _ _ e hc ▸ hi))
  ·by_cases hcc:c' =c
   ·subst hcc;exact Lm hc'
   ·obtain⟨w2,z2⟩:=Ė y c' e;exact⟨w2,z2.sameBut hs hcc⟩
  ·show AaN;refine⟨I_ hs.2 Cl ?_ e,n,ne,nf,d⟩;intro q;rw[q,hoc] at e;have q' :oc=p.2:=zF e;exact d w' (DC q' aaB)
theorem zph{M:ARj}{A:BV}{E:eO}{i:Δ}{x:Κ}{v:V}{u:AE}{Q:ì}(I:AS)(hN:ie)(hi:HL)(hx:ADf)(r:PQ)
  (h:Alb BP6) (Apu):BWa:=
 zru I hN hi hx r (fun s' I' _=>h s' I') hf
theorem Inv.call'{s' :AB}{ch:Bi}(I:AS)(ho:A2M)(u:AUW ϓ ch H' ii)(DL:Ak0)(hg:ANJ)
  (hch:BBo):AJZ :=by
 obtain⟨h',g',d',t',o'⟩:=s';have e:o' =AAe:=ho;subst e;exact I.call (g' :=g') (t' :=t') (d' :=d') u DL hg hch
#where
abbrev XK:=AG' (ķ OB)
abbrev St:=AS4 V
abbrev VK:=AOp
abbrev TE:=AtD St
abbrev TT:=Am9 AJD
abbrev TA:=Am9 AOq
structure ij where
 nx:SY
 rt:VK
 bk:SY:=AGv
 ct:SY:=AGv
abbrev TS:=ij ->SY
inductive EP (X:Cx) (Ν:fB) (σ:St) (Q:VK) (u:AE) (s' :AB):Θ
 | mk:∀v H',(Inv X Ν σ H' s') ->(IE v u) ->(Q v H') ->ϗ u s'
def TP(X:Cx)(Ν:fB)(σ:St)(Q:AJD)(b:AO)(s' :AB):Θ:=∃H',AJZ /\Q b H'
inductive AP (X:Cx) (Ν:fB) (σ:St) (Q:AOq) (us:An) (s' :AB):Θ
 | mk:∀vs H',(Inv X Ν σ H' s') ->(IZ vs us) ->(Q vs H') ->AP X Ν σ Q us s'
def SP(X:Cx)(Ν:fB)(D:ij)(f:Flow)(s' :AB):Θ:=
 match f with
 | AC_=>A3J TM
 | .brk=>A3J D.bk
 | .NY=>A3J D.ct
 | .ret u=>∃v DA H',At3 /\PQ/\D.rt v H'
def PE(X:Cx)(e:AF)(t:TE):Θ:=
 A8N VK (ADT (js e))
def PT(X:Cx)(e:AF)(t:TT):Θ:=
 A8N AJD (BTJ (js e))
def PW(X:Cx)(e:AF)(t:TT):Θ:=
 ∀(AFr:ATe) (Ν:fB) (s:AB) (σ:St) (H:Hp) (Q:AJD),AS ->Ã ->BTJ AFr
theorem PW.pt{X:Cx}{e:AF}{t:TT}(h:PW X e t):PT X e t:=h _
def PA(X:Cx)(es:CC)(t:TA):Θ:=
 ∀(Υ:AL) (Ν:fB) (s:AB) (σ:St) (H:Hp) (Q:AOq),AS ->Ã ->AdZ (spliced (ë es)) AP
def PS(X:Cx)(st:AN)(t:TS):Θ:=
 BeR exec
def Hz(X:Cx)(st:Xs)(t:TS):Θ:=
 BeR execs
theorem bT{α:CL}{t:Sem α}{Q Q' :Os α}{M:ARj}{A:BV}{E:eO}{s:AB}(h:Ç t)(hQ:∀a s,Q a s ->Q' a s):GG M A t Q' E s:=Y3 h hQ nK
section
variable{X:Cx}
def LK(AEq):TE:=AL5 (∃v,EX σ q_/\Q v H)
def tC(v:V):TE:=AnV (Q v H)
theorem tQ{i:Δ}{x:Κ}{Υ:AL}(hN:HL)(hv:OG)(XL):PE X å (LK i):=by
 show HP;show LN v e h;show A4x ib;show Wp r l (hl i x v hN e hv);have D4:ϗ u s:=⟨v,H,I,r,h⟩;rcases l with ⟨hk,hm⟩ | ⟨hk,c,hc,hcell⟩
 ·exact A3W (wpAny_loadName_local AAw hk hn hm D4)
 ·rcases hk with hk | hk
  ·exact A3W (wpAny_loadName_cell AAw hk hc hcell D4)
  ·exact A3W (wpAny_loadName_free AAw hk hc hcell D4 hcd)
theorem ygw{i j Υ}:A5c AIs AIs:=AZZ (wpAny_Constant_int ⟨FU,H,ATQ,FG,h⟩)
theorem yon{b j Υ}:A5c (yy b) AiQ:=AZZ (Constant_bool (AMJ uA h))
theorem ylw{j Υ}:Ŝ AKn BI j (tC .non):=AZZ (BDu (AMJ BE h))
theorem yly{x j Υ}:A5c AWe AWe:=AZZ (Calls.Constant_str ⟨ç,H,ATQ,FG,h⟩)
def Gl(X:Cx)(x:Κ):Θ:=Fr AKj .globalImplicit
theorem Gv(Bgi)(I:AS)(hg:JE)(hm:ATb u)(h:Q u s)
  (ABm):AQW (js å):=
 BlU AAw hg (Calls.loadGlobal_global BS4 hm h) hd
theorem Ii(Bgi)(I:AS)(hg:JE)(hm:AEc)(hv:ADy u)(h:Q u s)
  (hn:AtZ :=by decide) (ABm):AQW (js å):=by
 obtain⟨mb,h1,h2⟩:=I.mod.blt;exact BlU AAw hg (Calls.loadGlobal_builtin BS4 hm (Do I.ok.blt (h1.keeps I.bk)) (I_ h2 x hn hv) h) hd
theorem yir{x:Κ}{v:V}{u:AE}{Υ:AL}(hg:JE)(hm:ATb u)(r:PQ)(ABm):PE X å (tC v):=
 AZZ (Gv I hg hm ⟨v,H,I,r,h⟩ hd)
variable{a b:AF}{ta tb:TE}{Υ:AL}
def PC(X:Cx)(op:ARp)(a b:AF)(t:TE):Θ:=
 AVj Q VK Ã (js a) (BX8 (ANq (Abs op v u) (EP X Ν σ Q) KU))
theorem yea(b:AF){op:ARp}(h:op≠ .In)(h2:op≠ ADq):AU3:=by
 have e1:BKo=AC:=by show Aw1 h
 show BX_
 cases b<;>simp [ArE,e1,e2]
def aaC(ta:TE):TE:=Ϗ (Q (.bl BPr) H1)
theorem RelV.none_iff{x:V}{v:AE}(r:iN):(v==dy)=VV (x= BE):=by
 cases x with
 | non=>show è
 | bl _=>show è
 | AK _=>show é
 | AT _=>show é
 | V6 _=>show é
 | flt _=>show é
 | B0 _=>show è
 | ty _=>show è
theorem ylr{j Ff}(ha:sx):PC X .Is a (.AKn BI j Ff) (aaC ta):=by
 show HP;refine bT ue (Tu v Ah);show Sr Ah;exact BDu (is_none_gen ⟨fT,H1,I1,JA r1.none_iff,q1⟩)
def tB(t:TE):TT:=O_ t x (AZd (Q c H1))
theorem z3a{op:ARp}{t:TE}(h:PC X op a b t)(h1:AU3:=by first | exact yea _ AD AD | rfl):PT X AYY (tB t):=by
 show A3f;show BLp A6' h1 (bT h1 fun u s2 h2=>bT h2 (ANa c CM)) h1;show Sr CM;show bP d Β q1;cases r1;exact BZA
theorem ynz{e:AF}{t:TE}(h:ABy t)(he:∀AFr,ArB e CB AFr=(do let v<- AFr;Abt e.pos;ě [v] (truthy v)):=by intro _;rfl):PT X e (tB t):=by
 show A3f;refine isTrue_plain (Ŏ A6' v) (he _);show Sr CM;show bP d Β q1;cases r1;exact BZA
variable{tA LQ :TT}{F_:CC}
def aaD(t u:TT):TT:=O_ t c (HI c (u σ H1 Q) (Q AC H1))
def tOr(t u:TT):TT:=O_ t c (HI c (Q Μ H1) (u σ H1 Q))
def aaE(t:TT):TT:=O_ t c (Q (! c) H1)
theorem yi1(A0v):PW X (Adw [a]) tA:=by
 show Am7;show iE isTrue_and (AZk ha Q) c e;cases c with
 | Μ=>exact isTrue_and_nil e
 | AC=>exact e
theorem ylp(A0v):PW X BJE tA:=by
 show Am7;show iE isTrue_or (AZk ha Q) c e;cases c with
 | AC=>exact isTrue_or_nil e
 | Μ=>exact e
theorem ymw(ha:PT X a tA)(hb:PW X AkP LQ):PW X AkQ (aaD tA LQ):=by
 show Am7;show iE isTrue_and ue c CM;show Õ H1 I1 q1;cases c with
 | Μ=>exact BZg
 | AC=>exact⟨H1,I1,q1⟩
theorem yof(ha:PT X a tA)(hb:PW X AkR LQ):PW X AkS (tOr tA LQ):=by
 show Am7;show iE isTrue_or ue c CM;show Õ H1 I1 q1;cases c with
 | Μ=>exact⟨H1,I1,q1⟩
 | AC=>exact BZg
theorem ynn(A0v):PT X Aml (aaE tA):=by
 show HP;exact isTrue_not (ACI ha (fun c H1=>Q (! c) H1) I h)
def Wb(ta tb:TE):TE:=Ϗ (AZd (HI c (tb σ H1 Q) (Q AHP H1)))
def aaF(ta tb:TE):TE:=Ϗ (AZd (HI c (Q AWh H1) (tb σ H1 Q)))
def Wc(ta:TE):TE:=Ϗ (AZd (Q (.bl (! c)) H1))
theorem ym4{op}{t:TE}(h:PE X a t):Ŝ ARr op [a] t:=fun Ν s σ H Q I hw=>BoolOp_one (ACI h Q I hw)
theorem ylx(ha:sx)(hb:PE X AkP tb):PE X AkQ (Wb ta tb):=by
 show HP;show iE BoolOp_and ue v DK;show Sr DK;show A'Q;cases r1;show AzJ;cases c with
 | Μ=>show A5u
 | AC=>exact BXb AC
theorem yor(ha:sx)(hb:PE X AkR tb):PE X AkS (aaF ta tb):=by
 show HP;show iE BoolOp_or ue v hq8;show Sr hq8;show A'Q;cases r1;show AzJ;cases c with
 | AC=>show A5u
 | Μ=>exact⟨AHz,H1,I1,Β,q1⟩
theorem ynh(ha:sx):PE X Aml (Wc ta):=by
 show HP;show iE UnaryOp_ ue v Wd;show Sr Wd;show A'Q;cases r1;exact not_of (AKo (BXb (! c)))
def tIf(t:TT)(ta tb:TE):TE:=O_ t c (HI c (ta σ H1 Q) (tb σ H1 Q))
theorem yen{c:AF}(hc:PT X c tA)(ha:sx)(hb:ANy):PE X BMt (tIf tA ta tb):=by
 show HP;show iE wpAny_IfExp (xn hc) d CM;show Õ H1 I1 q1;cases d with
 | Μ=>exact ha Ν s1 σ H1 Q I1 q1
 | AC=>show A5u
#where
def nY(Bd_):Θ:=
 Rd H a AHZ\/
  ∃(o:Obj) (AU:KF) (n:Δ),BI'/\o.cls= ALv /\AiM/\BYy
def xH(Bd_):Θ:=
 Rd H a f_\/
  ∃(o:Obj) (AU:KF) (n:Δ),BI'/\BJ5 /\BYy
def aaG:AG' U_
 | BI=>Ε BE
 | .bool b=>Ε AiQ
 | AYr=>Ε AIs
 | A4r=>Ε AWe
 | .bytes b _=>Ε (.V6 b)
 | .float b _=>Ε (.flt b)
 | BQ=>Ε E8
 | Tm n=>Ε (.ty n)
 | _=>Ι
theorem RelV.abs{x:V}{u:AE}(r:ϋ):aaG u=Ε x:=by
 cases x with
 | non=>show è
 | bl _=>show è
 | AK _=>show é
 | AT _=>show é
 | V6 _=>show é
 | flt _=>show é
 | B0 _=>show è
 | ty _=>show è
theorem RelV.inj{x y:V}{u:AE}(r:ϋ)(q:Q4):x=y:=zF (r.abs.symm.trans q.abs)
theorem Vals.inj:∀{xs ys:AQ} {us:An},gS ->ABn ys ->xs=ys
 | _,_,_,EO,EO=>Β
 | _,_,_,AJs,.AY r' t' =>HH A5' (Vals.inj t t')
section
variable{X:Cx}{Ν:fB}{σ:St}{H:Hp}{s:AB}{a:Ζ}{xs ys:AQ}
theorem Inv.list(I:AS)(h:AYu nY):BMx PlainL:=by
 rcases h with h | ⟨o,AU,n,hk,hc,hd,hs,hz,r⟩
 ·show Apo (h.ok MC);exact⟨AU,r,⟨_,n,e,Β,Β,Β⟩,z⟩
 ·show PD ArH r ⟨o,n,BMn,hc,hd,CU hs⟩
  have e:=OS;show Ag0 e;omega
theorem Inv.tuple(I:AS)(h:AYu xH):BMx IsTup:=by
 rcases h with h | ⟨o,AU,n,hk,hc,hs,hz,r⟩
 ·obtain⟨z,AU,r,p⟩:=h.ok MC;exact⟨AU,r,p,z⟩
 ·show PD ArH r ⟨o,BMn,hc,n,CU hs⟩
  have e:=OS;show Ag0 e;omega
theorem Inv.list_inj(I:AS)(h:AYu nY)(h' :ADS nY a):xs=ys:=by
 obtain⟨AU,r,⟨o,n,e,_,_,d⟩,_⟩:=Axq;obtain⟨im,r',⟨o',n',e',_,_,d'⟩,_⟩:=Pe h';rw[e] at e';cases e';rw[d] at d';show AOC d' d1;have:AU=im :=BSz
 show mE;exact A5'
theorem Inv.tuple_inj(I:AS)(h:AYu xH)(h' :ADS xH a):xs=ys:=by
 obtain⟨AU,r,⟨o,e,_,n,d⟩,_⟩:=io h;obtain⟨im,r',⟨o',e',_,n',d'⟩,_⟩:=io h';rw[e] at e';cases e';rw[d] at d';show AOC d' d1;have:AU=im :=BSz
 show mE;exact A5'
#where
section
variable{X:Cx}{st:AN}{F_:Xs}{t u:TS}{e:AF}{te:TE}{Υ:AL}
def Wf:TS:=A7w AMc
def aaH(t u:TS):TS:=fun D σ H=>t BTr σ H
theorem yh5:Hz X [] Wf:=fun _ _ σ H _ I h=>(Az3 σ H I h)
theorem zo3(h1:A7O)(h2:Hz X F_ u):Hz X (st::F_) (aaH t u):=by
 show c0;show iE BlZ (AZk h1 BTr) f q;cases f with
 | JP=>
  obtain⟨DA,H',I',q⟩:=q;exact h2 Ν s1 DA H' D I' q
 | ret v=>exact q
 | brk=>exact q
 | NY=>exact q
theorem zv4(h1:A7O):Hz X [st] t:=by
 show c0;show iE BlZ (AZk h1 D) f q;cases f with
 | JP=>exact BDx q
 | ret v=>exact q
 | brk=>exact q
 | NY=>exact q
theorem Inv.quiet{Ν:fB}{σ:St}{H:Hp}{s:AB}(VM):interactive CB=AC:=bS interactive AAw
def Wg(te:TE):TS:=BM2 (M_ H1 (AG7 H1))
theorem zvl(he:my)(hs:AFY Ι:=by rfl):PS X (.AF e Υ) (Wg te):=by
 show c0;exact wpAny_Expr_any (bT Ϭ (AH4 Qj (by show Sr Qj;exact⟨σ,H1,I1,q1⟩))) I.quiet hs
def aaI(te:TE):TS:=BM2 D.rt
theorem z3f(he:my):PS X (.Return Ae7 Υ) (aaI te):=by
 show c0;exact wpAny_Return_some (bT Ϭ (AH4 Ij (by show Sr Ij;exact⟨x,σ,H1,I1,r1,q1⟩)))
def aaJ(c:TT)(t u:TS):TS:=fun D σ H=>c σ H fun b H1=>(HI b (t D σ H1) (u D σ H1))
theorem yoe{c:AF}{a b:Xs}{tc:TT}(hc:PT X c tc)(ha:Hz X a t)(hb:Hz X b u):PS X (.If c a b Υ) (aaJ tc t u):=by
 show c0;show iE wpAny_If (xn hc) d CM;show Õ H1 I1 q1;cases d with
 | Μ=>exact ha Ν s1 σ H1 D I1 q1
 | AC=>exact hb Ν s1 σ H1 D I1 q1
#where
abbrev TG:=V ->St ->DD Hp (SY)
abbrev Ob:=AQ ->St ->DD Hp (SY)
def PG(X:Cx)(Abu:AF)(t:TG):Θ:=
 ∀(Ν:fB) (s:AB) (σ:St) (H:Hp) (v:V) (u:AE) (Q:SY),AS ->PQ ->t v σ H Q ->
  AzQ (ARs Abu CB u) (Afq Avl)
def Qk(X:Cx)(ts:CC)(t:Ob):Θ:=
 ∀(Ν:fB) (s:AB) (σ:St) (H:Hp) (vs:AQ) (us:An) (Q:SY),AS ->AO8 ->t vs σ H Q ->
  AzQ (assignInOrder ((assignEach ts X.env).map (·.2)) us) (Afq Avl)
abbrev Ql:=BW7
def Wh(X:Cx)(t:Ql):Θ:=
 ∀(Ν:fB) (s:AB) (σ:St) (H:Hp) (o i v:V) (ov iv u:AE) (Q:Fk Hp),AS ->A_ (IE o ov) (IE i iv) PQ (t o i v H Q) (AzQ (setItem ov iv u) (∃H',AJZ /\Q H'))
section
variable{X:Cx}{Υ:AL}
def Oc(AEq):TG:=AX9 (Q AVf H)
theorem yif{i:Δ}{x:Κ}(BeM)(Apu):PG X å (Oc i):=by
 intro Ν s σ H v u Q I r h;exact BDz (zph I hN hi hx r (fun s' I' =>⟨_,H,I',h⟩) hf)
def aaK:Ob:=A1g (vs= []/\Q σ H)
def Wi(t:TG)(u:Ob):Ob:=A1g (∃v r,vs=v::r/\t v σ H fun DA H' =>u r DA H' Q)
theorem yj8:Qk X [] aaK:=by
 intro Ν s σ H vs us Q I r h;obtain⟨e,h⟩:=h;subst e;cases r;exact Blb ⟨σ,H,I,h⟩
theorem yc0{e:AF}{es:CC}{t:TG}{u:Ob}(h1:PG X e t)(h2:Qk X es u)
  (hs:AYh HC (AWD e::AuC es (·.2)):=by rfl):Qk X HC (Wi t u):=by
 intro Ν s σ H vs us Q I r h;show j' v vr e1 h;subst e1;cases r with
 | AY r rr=>
  rw[hs];show iE BD_ (h1 Ν s σ H _ _ _ I r h) _ CM;obtain⟨σ1,H1,I1,q1⟩:=CM;exact h2 Ν s1 σ1 H1 _ _ Q I1 rr q1
def aaL(K:Ω)(n:Δ)(t:Ob):TG:=AX9 (∃a xs,v= BQ/\AEl/\BU=n/\t xs σ H Q)
theorem yls{es:CC}{k:Δ}{t:Ob}{n:Δ}(hc:FX)(h:Qk X es t)
  (hn:So Abv es CB=n:=by rfl) (hst:(Abv es CB).findIdx? (·.1)=Ι:=by rfl):PG X (.AAz es k Υ) (aaL AG n t):=by
 intro Ν s σ H v u Q I r hw;obtain⟨a,xs,e1,hq,hl,hw⟩:=hw;subst e1;cases r;obtain⟨AU,rv,ht,hz⟩:=io hq;refine assign_Tuple_tuple c9 ht (by simp [hn,<- hl,we]) hst (BO h' hx)
 have I1:AOY:=BPb (NC (hx b o AY5 e));exact h Ν _ σ H xs _ Q I1 (EF rv) hw
def fW(to ti:TE)(t:Ql):TG:=AX9 (to σ H (ĺ o (ti σ H1 fun i H2=>t o i v H2 fun H3=>Q σ H3)))
theorem ylu{o i:AF}{to ti:TE}{t:Ql}(ho:PE X o to)(hi:PE X i ti)(hs:Wh X t)
  (ha:∀v,ARs (AWR o i) CB v=(do
   let ov<- Aop [v] o
   let iv<- Aop [v,ov] i
   Abt Υ
   Ba9
   BQh):=by intro _;rfl):PG X (AWR o i) (fW to ti t):=by
 intro Ν s σ H v u Q I r h;rw[ha];refine ANg (aE AWs ov Ik);show Sr Ik;refine z6 (ĝ (bT (AHi hi) (ABx iv Il)));obtain⟨y,H2,I2,r2,q2⟩:=Il;refine z6 (AKq (z6 (ĝ (bT (hs Ν s2 σ H2 x y v ov iv u _ I2 r1 r2 r q2) (ANa _ CM)))));show Õ H3 I3 q3;exact wpAny_release ⟨σ,H3,I3,q3⟩
def Wj(te:TE)(g:TG):TS:=AVB te x (g x σ H1 TM)
theorem ygj{tg e:AF}{te:TE}{g:TG}(he:my)(hg:PG X tg g)(hs:AXI [tg] e:=by rfl)(hw:AZO [tg] e Ι:=by rfl)
  (h1:AYh [tg] [AWD tg]:=by rfl):ANr [tg] e (Wj te g):=by
 show c0;refine wpAny_Assign_stores (Ŏ Ϭ v) hs hw;show Sr CM;rw[h1];exact bT (hg Ν s1 σ H1 x v _ I1 r1 q1) fun _ s2 q=>q
theorem Wk{i:Δ}{x:Κ}{e:AF}{te:TE}{Ff :AL}(hN:ie)(hi:HL)(hx:ADf)(he:my)(hs:AFY (Ch (FR x Ff)):=by rfl)(Apu):
  ANr Bhb e (Wj te (Oc i)):=by
 show c0;refine wpAny_Assign_Name (Ŏ Ϭ v) hs;obtain⟨y,H1,I1,r1,q1⟩:=CM;exact zph I1 hN hi hx r1 (fun s2 I2=>⟨_,H1,I2,q1⟩) hf
def aaM(i j:Δ)(ta:TA):TS:=AVB ta vs (∃v w,vs= [v,w]/\TM ((AAy i q_).set j (Ch w)) H1)
theorem ymq{i j:Δ}{x y:Κ}{a b:AF}{ta:TA}{px py pt:AL}{kt k2 Qm}(hc:FX)(hN:ie)(hi:HL)(hj:AJ2)(hij:AFH)
  (hx:Adn) (hy:AZa) (ha:AJv qa)
  (hw:AZO AQx AQo (Ch [x,y]))
  (hs:AXI AQx AQo:=by rfl):
  ANr AQx AQo (aaM i j ta):=by
 show c0;rw[exec_Assign_arm];refine AzD;rw[hs];refine AM7;show t7
 refine z6 (Tuple_ (aE (Atr _) us aaN));show AeI aaN;obtain⟨v,w,e1,q1⟩:=q1;subst e1;obtain⟨u1,u2,Β,rv,tR⟩:∃u1 u2,us= [u1,u2]/\IE v u1/\IE w u2:=by
  cases r1 with
  | AY p q=>
   cases q with
   | AY p' q' =>
    cases q';exact⟨_,_,Β,p,p'⟩
 refine wf ?_ (AuK (D5 2))
 have I2:AIy (AVL (AA_ (xx [u1,u2].Abz))):=AJy;rw[hw];refine AM7;show ACb (do eC "assign.swapped-stores";let Nc<- unpackItems (BA ES) 2 Ι;assignInOrder [fun v=>bindName CB y v,fun v=>bindName CB x v] BEM;KW Flow.next) _ _ _;refine z6 (ARu (z6 (unpackItems_tuple (Nc:= #[u1,u2]) (Aby hc) (ArM Ab0 _) (BO h' hx'))));have I3:=I2.kept (h' :=h') (t' :=ARt) (NC (hx' b o AY5 e));refine z6 (BD_ (Blc (zph I3 hN hj Ayk tR (XB s2 I4) Ayo)));refine BD_ (Blc (zph I4 hN hi (IN hx) rv (fun s3 I5=>Blb (z7 ?_)) (E7 hx)));rw[List.set_comm _ _ (ABu hij)] at I5;exact⟨_,H1,I5,q1⟩
#where
section
variable{X:Cx}{Υ:AL}
def Qn(c:TT)(tb:TS):TS:=A7w (∃W:Ahv,(∃m,W m σ H)/\∀m σ H,W m σ H ->
 c σ H fun b H1=>(HI b (BhT (Adp (W m' DA H')) (tb (ATy N N) σ H1)) (AG7 H1)))
theorem yem{c:AF}{MY:Xs}{tc:TT}{tb:TS}(hp:BA')(hc:PT X c tc)(hb:BQk):PS X BaF (Qn tc tb):=by
 show c0;obtain⟨W,⟨m0,w0⟩,TN⟩:=h;refine wpAny_While (codeAny_whileLoop (se n (Afq (W n DA H'))) ?_ m0 ⟨σ,H,I,w0⟩);rintro n s1 ⟨σ1,H1,I1,w1⟩;show A4N (hc Ν s1 σ1 H1) I1 (TN n σ1 H1 w1) (K_ s2 CM);show Õ H2 I2 q2;cases b with
 | Μ=>
  obtain⟨N,hN,q2⟩:=q2;show sB;show A4N (hb Ν s2 σ1 H2) I2 q2 (ANa f q3);cases f with
  | JP=>
   obtain⟨σ3,H3,I3,n3⟩:=q3;obtain⟨m',hm,w3⟩:=hN σ3 H3 n3;exact⟨m',hm,σ3,H3,I3,w3⟩
  | NY=>
   obtain⟨σ3,H3,I3,n3⟩:=q3;obtain⟨m',hm,w3⟩:=hN σ3 H3 n3;exact⟨m',hm,σ3,H3,I3,w3⟩
  | brk=>exact q3
  | ret v=>exact q3
 | AC=>
  show Ah3;exact Az3 σ1 H2 I2 q2
#where
structure It where
 go:ķ Δ
 yld:ABg Hp AOp
 AA':ķ Δ
def pK(X:Cx)(Ν:fB)(H:Hp)(b:Ζ):Θ:=
 NH/\AUI/\Ail/\ BiC/\ (ADW b)/\Afe b
theorem Inv.fpOk{X:Cx}{Ν:fB}{σ:St}{H H' :Hp}{s:AB}{b:Ζ}(I:AS)(hb:rS b)(hn:AMP):Al0:=by
 refine⟨hn,AKu (zM I.lt hb),I.nofs hb,.AZ (zO I.sz hb),BWp,BU'⟩
 ·show ADY v Akt;exact ŵ (zM q.lt (Do z hb))
 ·exact ŵ (zM (zG (ANx AAx)) (Do z hb))
structure Turn (P:As) (w:AW) (K:Ω) (tg:AF) (J:It) (fp:Bi) (it:Ζ) (tn:AXv):Θ where
 mem:it∈fp
 obj:BWR
 KS:Bd1
 VW:AqP FX (A_ AS Ajg AVZ AjR (ApM (∃u,UK r/\
   GG ACY X.A A_z (Kt s2 (∃x H',AjN/\ϋ/\J.yld i H x H' /\BQQ/\kN AMP)) E s1)))
 LU:AqP FX (A_ AS Ajg AVZ AjS (ApM BP7))
 RU:Bgu
abbrev TI:=Am9 AM4
def PIE(Bgt):Θ:=
 ∃(it:Ζ) (fp:Bi) (tn:AXv) (J:It) (H' :Hp),itv= .B0 it/\AjN/\Turn FH X.w AG tg J fp it tn/\BQP/\ (aT fp Al0)/\Anm
def PI(Bet):Θ:=
 AVj R AM4 (wi σ H R) AW0 (UC s1 (ANq (AFu v) BMu s1))
theorem Wl{M:ARj}{A:BV}{E:eO}{s:AB}{tg:AF}{it:Ζ}{u:AE}{o:Obj}{n:LT}{vs:KF}{Q:ì}(ho:AS7 it)(hc:AfO n)(hd:AkG)
  (hn: BgQ n=AC) (hQ:Q () s):Ç A_z:=by
 cases tg<;>first
  | exact z7 hQ
  | (
    cases u<;>first
    | exact z7 hQ
    | (
      show AJj ArO ho;rw[hc,hd];show Ç (AUy (W_ (BgQ n) (vs[0]?==Ε (OV _))));rw[UN (by intro h;rw[hn,Bool.false_and] at h;cases h)]
      exact z7 hQ))
def Ua(K:Ω)(a:Ζ):It:=
 BUY (H' =H/\∀xs,ų ->kL)
def Qo(K:Ω)(a:Ζ):It:=
 ⟨Ş (∃xs x,AEl/\kL),fun i H x H' =>H' =H/\∀xs,AEl ->kL,Ş (∃xs,AEl/\AVR)⟩
def K1(lo:Ψ)(n:Δ):It:=⟨fun i _=>i<n,fun i H x H' =>H' =H/\x= Axx,fun i _=>n<=i⟩
theorem zxy(AZo)(a it:Ζ):AY9 A0x (BEV it a i) where
 mem:=CY
 obj:=AQE (by
  show Amb
  subst e;show Apt;exact AXU)
 KS:=A8_
 VW:=by
  show m4;show VS;show BBh;show AAQ Pe;show A'7;show ă
  refine wpAny_pyNext_list_item st AFw (x:=u) Ahj (gf st' sb)
  have I1:AOY:=AoD;show ax o e c d st';exact Bcc ArQ
 LU:=by
  show m4;show VS;show A'y;show AAQ Pe;show ă
  show AXS;exact wpAny_pyNext_list_end c9 st AFw Ϫ AZs
 RU:=Amf wpAny_pyIter_listiter
theorem ztm(AZo)(a it:Ζ):AY9 AkL (Ble it a i) where
 mem:=CY
 obj:=AQE (by
  show Amb
  subst e;show Apt;exact AXU)
 KS:=A8_
 VW:=by
  show m4;show VS;show BBh;show AAQ io;show A'7;show ă
  refine wpAny_pyNext_tuple_item st BLN (x:=u) Ahj (gf st' sb)
  have I1:AOY:=AoD;show ax o e c d st';exact Bcc BEW
 LU:=by
  show m4;show VS;show A'y;show AAQ io;show ă
  show AXS;exact wpAny_pyNext_tuple_end c9 st BLN Ϫ AZs
 RU:=Amf wpAny_pyIter_tupleiter
theorem z4b(AZo)(it:Ζ)(lo:Ψ)(n:Δ):AY9 (K1 lo n) (IsRangeIter h it (lo+ LZ i*1) (L8 - LZ i) 1) where
 mem:=CY
 obj:=AQE (by
  show Amb
  subst e;exact DH st (fun v z=>(BPB (Data.fields _=Data.cell v))))
 KS:=AfY (k it A2 _ st)
 VW:=by
  show m4;show VS;show ă
  have W:=Walks.range (CA:=FH) (w:=X.w) c9 it lo 1 n;refine W.item i s _ _ hg st fun v h' tk hv st' kk=> ?_;show SC hv;have I1:İ ci:=I.turned (ŏ (kk b o (EF hb) e)) f0 f1 f3 f4 f5
  refine Oy (Wl (s:=ci) (n:= "range_iterator") st' Β Β AD ⟨Axx,H,I1,D_ t,k7,st',ANh hf⟩)
  rw[ArR]
 LU:=by
  show m4;show VS;show ă
  exact wpAny_pyNext_range_end c9 st (by have:n<=i:=hg;omega) AZs
 RU:=Amf wpAny_pyIter_rangeiter
section
variable{X:Cx}{tg:AF}
theorem z2n{Ν:fB}{σ:St}{H:Hp}{s:AB}{R:AM4}{E:eO}{lo hi:Ψ}{t u v:Tok}{tk:Δ}(I:AS)(h1: AHh<=lo)(h2:lo<2^62)(h3: AHh<=hi)(h4:hi<2^62)
  (q:R (K1 lo A8d) H):ACb (AFu (BA BH)) BMu E BRL:=by
 refine wpAny_pyIter_range (IsRange.new ..) (small_one h1 h2 h3 h4) ?_;have I1:İ BRL:=I.kept y_;refine⟨A1c,[A1c],_,_,H,Β,
  ArL (t' :=tk) y_,z4b _ lo A8d,?_,NL,q⟩
 ·have e1:lo+ AOf*1=lo:=CY
  have e2:EZ A8d - AOf=Builtin.Range.rangeSize lo hi 1:=by rw[rangeSize_one];split<;>omega
  rw[e1,e2];exact T1
 ·have e:b=A1c:=CU hb
  subst e;exact AQc
def Wm(ta:TA):TI:=Agi (∃j:Ψ,vs= [AHY]/\ AHh<=j/\j<2^62/\R (K1 0 ABJ) H1)
def Wn(ta:TA):TI:=Agi (∃i j:Ψ,vs= ANP/\ (BdC)/\R (K1 i BQm) H1)
theorem z77{a:AF}{ta:TA}{p Υ:AL}(hg:Gl X dq)(hm:O0 dq)(ha:AJv [a])(hs:BRt:=by rfl):ϔ (AVX dq) (Wm ta):=by
 show ϩ;show BMm A5h;show AX7;obtain⟨j,e,q1,q2,q⟩:=q1;subst e;cases r1 with
 | AY r rr=>
  cases rr;show SC r;exact call_range_1 (z2n I1 Η Η q1 q2 Ahi)
theorem z7i{a b:AF}(BBn)(hg:Gl X dq)(hm:O0 dq)(ha:AJv qa)(hs:BVf:=by rfl)(hs2:BRu:=by rfl):
  ϔ (AdR dq qa) (Wn ta):=by
 show ϩ;show BMm (Auo (aE AU4 us ⟨vs,H1,I1,r1,q1⟩) (Ź hs hs2) (JA hs2))
 obtain⟨i,j,e,⟨q1,q2,q3,q4⟩,q⟩:=q1;subst e;cases r1 with
 | AY r rr=>
  cases rr with
  | AY r' rr=>
   cases rr;show SC r;show ph t' r';exact call_range_2 (z2n I1 q1 q2 q3 q4 q)
def aaO(wi:TI)(g:TG)(tb:TS):TS:=AVB wi J (AP3 SY (W 0 m σ H1) (∀i m σ H,AYF ->
 AaA AjS AjR (Amt J.yld Aoa)))
def vP(fp:Bi)(h:AJ):fB:=fp.filterMap fun b=>(MA b).B6 fun o=>(b,o)
theorem zjk{fp:Bi}{h:AJ}{b:Ζ}{o:Obj}(hb:b∈fp)(e:r_):(b,o)∈vP fp h:=BIK b hb (by rw[e];rfl)
theorem z8a{fp:Bi}{h:AJ}{p:Ζ×Obj}(hp:p∈vP fp h):Cl∈fp/\AMp MA:=by
 show DT b hb e List.mem_filterMap.mp hp;cases q:MA b with
 | Ι=>show L_;cases e
 | Ε o=>
  show L_;have e' :(b,o)=p:=zF e;subst e';exact ADa hb
theorem Inv.pinned{Ν:fB}{σ:St}{H:Hp}{s:AB}{fp:Bi}(I:AS)(hf:AXG)(ho:kN (Awq kX)):Inv X (Ν++vP fp BG) σ H s:=
 BSx (BRl (E9 (AAx p (zQ _ z))) (AV (by
  show PM hb (z8a z);obtain⟨f0,f1,f2,_⟩:=hf Cl hb;show EQ o e' d ho Cl hb;rw[e] at e';cases e';exact⟨e,f0,f1,f2,d⟩)))
theorem Inv.unpinned{Ν pl:fB}{σ:St}{H:Hp}{s:AB}(I:Inv X (Ν++pl) σ H s):AS:=BSx (AAx p (zQ _ (zP _ hp)))
theorem z3h{Pl:AF}{MY:Xs}{wi:TI}{g:TG}{tb:TS}{Υ:AL}(hp:BA')(hc:FX)(hi:BQD)(hg:PG X tg g)(hb:BQk)
  (ANM):PS X (.For tg Pl MY [] Υ) (aaO wi g tb):=by
 show c0;refine wpAny_For BbZ hs;obtain⟨it,fp,tn,J,H2,e,I2,T,st2,f2,W,⟨m0,w0⟩,TN⟩:=h2;subst e
 
 have stat:BaP Al0:=Ô hn b hb AiO (SG f2);refine codeAny_forLoop_any (se n (∃i DA H',At3 /\Bih/\ AfK/\W i n DA H')) ?_ m0 ⟨0,σ,H2,I2,st2,ANh f2,w0⟩;rintro n s3 ⟨i,σ3,H3,I3,st3,fr3,w3⟩;rcases TN i n σ3 H3 w3 with ⟨AA',qn⟩ | ⟨go,N,hN,ABK⟩
 ·refine Ab2 hp (bT (ArS X Β Β Β hc i Ν s3 σ3 H3 wb I3 (stat fr3) st3 AA') (Ap r s4 CM));obtain⟨hr,I4⟩:=CM;subst hr;exact Az3 σ3 H3 I4 qn
 ·refine Ab2 hp (bT (ArT X Β Β Β hc i Ν s3 σ3 H3 wb I3 (stat fr3) st3 go) (Ap r s4 CM));show Wp hr h4 CM;subst hr;refine Ab2 hp (bT h4 (Ap _ s5 aaP));obtain⟨x,H5,I5,r5,y5,Ub,fr5⟩:=aaP;have I5' :=I5.pinned (stat fr5) (T.obj _ _ Ub);refine Ab2 hp (bT (hg _ s5 σ3 H5 x u _ I5' r5 (ABK x H5 y5)) (Ap _ s6 CM));obtain⟨σ6,H6,I6,q6⟩:=CM;show A4N (hb _ s6 σ6 H6) I6 q6 (Ap f s7 q7);have AKx:∀{σ7:St} {H7:Hp},Inv X (Ν++vP fp s5.heap) σ7 H7 s7 ->N σ7 H7 ->Al' (∃i DA H',Inv X Ν DA H' s7/\tn i s7.heap/\ AfK/\W i m DA H') :=fun{σ7 H7} I7 n7=>by
   obtain⟨m',hm,w7⟩:=hN σ7 H7 n7;refine⟨m',hm,D9,σ7,H7,BEg,BYc Ub I7.pin,NL,w7⟩;show bE e d (Ao8 Ub);exact BZ8 I7.pin
  cases f with
  | JP=>obtain⟨σ7,H7,I7,n7⟩:=q7;exact AKx I7 n7
  | NY=>obtain⟨σ7,H7,I7,n7⟩:=q7;exact AKx I7 n7
  | brk=>obtain⟨σ7,H7,I7,q7⟩:=q7;exact⟨σ7,H7,BEg,q7⟩
  | ret v=>obtain⟨x7,σ7,H7,I7,r7,q7⟩:=q7;exact⟨x7,σ7,H7,BEg,r7,q7⟩
#where
theorem yeb{K:Ω}{a:Ζ}{xs:AQ}{g:TG}(BCc)(Pv:Ahv)(h0:Pv 0 σ H)(hl:∀i σ H,AW9 ->AFX ->ų)
  (hs:∀i x σ H,kL ->AFX ->A_x x) (hd:∀σ H,Pv BU σ H ->AMc):
  AP3 SY (W 0 m σ H) (∀i m σ H,AYF ->
   AaA ((Ua K a).AA' i H) ((Ua K a).go i H) (Amt (Ua K a).yld Aoa)):=by
 show Ee (AY8 σ H BU AW9 AFX) BM0
 rintro i m σ H ⟨Β,hi,p⟩;have q:=hl i σ H hi p;by_cases BD:i<BU
 ·show A5v ⟨xs,xs[i],q,C8 BD⟩ BJI
  obtain⟨e,y⟩:=y;subst e;exact BeP
 ·have e:i=BU:=Τ
  subst e;exact A8H ⟨xs,q,MV⟩
theorem yhj{K:Ω}{a:Ζ}{xs:AQ}{g:TG}(BCc)(Pv:Ahv)(h0:Pv 0 σ H)(hl:∀i σ H,AW9 ->AFX ->AEl)
  (hs:∀i x σ H,kL ->AFX ->A_x x) (hd:∀σ H,Pv BU σ H ->AMc):
  AP3 SY (W 0 m σ H) (∀i m σ H,AYF ->
   AaA ((Qo K a).AA' i H) ((Qo K a).go i H) (Amt (Qo K a).yld Aoa)):=by
 show Ee (AY8 σ H BU AW9 AFX) BM0
 rintro i m σ H ⟨Β,hi,p⟩;have q:=hl i σ H hi p;by_cases BD:i<BU
 ·show A5v ⟨xs,xs[i],q,C8 BD⟩ BJI
  obtain⟨e,y⟩:=y;subst e;exact BeP
 ·have e:i=BU:=Τ
  subst e;exact A8H ⟨xs,q,MV⟩
theorem z9q{lo:Ψ}{n:Δ}{g:TG}(BCc)(Pv:Ahv)(h0:Pv 0 σ H)
  (hs:∀i σ H,i<n ->AFX ->A_x (ET (lo+i))) (hd:∀σ H,Pv n σ H ->AMc):
  AP3 SY (W 0 m σ H) (∀i m σ H,AYF ->
   AaA (ApP AA') (ApP go) (Amt (K1 lo n).yld Aoa)):=by
 show Ee (fun i m σ H=>m=n - i/\i<=n/\AFX) ⟨n,CY,IS,h0⟩
 rintro i m σ H ⟨Β,hi,p⟩;by_cases BD:i<n
 ·show A5v BD (n - C9)
  obtain⟨e,y⟩:=y;subst e y;exact hs i σ _ BD p
 ·have e:i=n:=Τ
  subst e;exact A8H MV
abbrev R2:=V ->V ->AtW
def lV(X:Cx)(f:AKE)(r:R2):Θ:=
 ∀(Ν:fB) (s:AB) (σ:St) (H:Hp) (x y:V) (v u:AE) (Q:VK),A_ AS iN Q4 (r x y H Q) (ADT (f v u))
def UnR(X:Cx)(f:AG' ATe)(r:AjY):Θ:=
 ∀(Ν:fB) (s:AB) (σ:St) (H:Hp) (x:V) (v:AE) (Q:VK),AS ->iN ->r x H Q ->
  ADT (f v)
def eZ(X:Cx)(f:AE)(r:u_):Θ:=
 ∀(Ν:fB) (s:AB) (σ:St) (H:Hp) (xs:AQ) (us:An) (Q:VK),AS ->gS ->r xs H Q ->
  ADT (ğ f us)
def Wo(r:R2)(ta tb:TE):TE:=BQB Q
def tUn(r:AjY)(ta:TE):TE:=Ϗ (r x H1 Q)
def rI(C:AnI)(g:AkA):R2:=AIe (BAW (Q uj H))
def Od(g:AkA):R2:=AIe (BBc (Q uj H))
def rU(g:Ψ ->V):AjY:=fun x H Q=>∃i,x= FU/\Q (g i) H
section
variable{X:Cx}{a b c:AF}{ta tb tc:TE}{Υ:AL}
theorem Qp(ha:sx)(hb:ANy){Ν:fB}{s:AB}{σ:St}{H:Hp}{R:V ->AOp}(I:AS)
  (h:ta σ H (ĺ x (zI tb y (R x y H2)))) {Q:eO} {f:AKE}
  (hf:∀v u s2 x y H2,A_ (ZY H2 s2) iN Q4 (R x y H2) (ANq (f v u) Q s2)):
  AGo (js a) (BX8 (ANq (f v u) Q KU)):=by
 refine bT ue (Tu v aaQ);show Sr aaQ;show ACx A0q u aaR;obtain⟨y,H2,I2,r2,q2⟩:=aaR;exact hf v u s2 x y H2 I2 r1 r2 q2
theorem ynb{op:Operator}{r:R2}(ho:lV X BJK r)(ha:sx)(hb:ANy):PE X BMs Aof:=by
 show HP;exact wpAny_BinOp (Qp ha hb I h BZh)
theorem yox{op:ArF}{r:AjY}(ho:UnR X (unaryOp op) r)(ha:sx):Ŝ ArF op a (tUn r ta):=by
 show HP;exact UnaryOp_ (bT ue (AH4 aaS (by show Sr aaS;exact ho Ν s1 σ H1 x v Q I1 r1 q1)))
theorem opI{f:AKE}{C:AnI}{g:ATj Ψ}
  (eC:BCq (C i j ->A_l uj ->AQW BBV)):
  lV X f (rI C (Ū uj)):=by
 show AFc;show x6 i j Β hc q h;show b9;show AJ1;exact eC i j t t' s _ _ hc (AYS uj)
theorem Wq{f:AKE}{g:ATj Ψ}
  (eC:BCq (A_l uj ->AQW BBV)):
  lV X f (Od (Ū uj)):=by
 show AFc;show KA i j Β q h;show b9;show AJ1;exact eC i j t t' s _ _ (AYS uj)
theorem Qq{f:AKE}{g:ATj AO}
  (eC:BCq (Q (yy uj) s ->AQW BBV)):
  lV X f (Od fun i j=> .bl uj):=by
 show AFc;show KA i j Β q h;show b9;show AJ1;exact eC i j t t' s _ _ (AMJ (.bl uj) q)
def LR(AJt):Θ:=0<=j/\j<=1000000/\AWw 64
theorem ymh:AMQ Add (Od (Ū (i+j))):=AZz Wq add_int
theorem ynu:AMQ Sub (Od (Ū (i - j))):=AZz Wq sub_int
theorem yix:AMQ Mod (rI (Kt j ANf) BK0):=BND (mod_int' hc q)
theorem yn7:AMQ Pow (rI LR BWV):=BND (pow_int_small hc.1 hc.2.1 hc.2.2 q)
theorem unI{f:AG' ATe}{g:Ψ ->Ψ}
  (eC:∀(i:Ψ) (t:Tok) (s:AB) (Q:eO) (E:eO),A_l (g i) ->AQW (f Afc)):
  BSr f (g i):=by
 intro Ν s σ H x v Q I rx h;show LN i Β q;show b9;exact eC i t s _ _ (AYS (g i))
theorem ylq:BSr (unaryOp .USub) (-i):=unI (AQq _ q (neg_int q))
#where
section
variable{X:Cx}{a b c:AF}{ta tb tc:TE}{Υ:AL}
theorem ygu{Ν:fB}{σ:St}{H:Hp}{s:AB}{Q:VK}{k k' :AO}(I:AS)(q:Q (.bl k) H)(e:k=k'):ϗ (yy k') s:=by
 subst e;exact AMJ (.bl k) q
theorem yoi:A7a Lt (i<j):=AZz Qq lt_int
theorem yop:A7a LtE (i<=j):=AZz Qq le_int
theorem you:A7a Gt (j<i):=AZz Qq gt_int
theorem ymj:BWH Is BPr:=by
 show AFc;show mB q h;cases ry;refine is_none_gen (ygu I q ?_);cases x<;>first
  | (cases rx;rfl)
  | (show b9;rfl)
theorem yi2:BWH IsNot (!(Φ (x= BE))):=by
 show AFc;show mB q h;cases ry;refine isnot_none_gen (ygu I q ?_);cases x<;>first
  | (cases rx;rfl)
  | (show b9;rfl)
theorem bx(b:AF){op:ARp}(h:op≠ .In:=by decide)(h2:op≠ ADq:=by decide):AU3:=by
 have e1:BKo=AC:=by show Aw1 h
 show BX_
 cases b<;>simp [ArE,e1,e2]
theorem yjr(BZN):PE X AYY Aof:=by
 show HP;exact wpAny_Compare1 (Qp ha hb I h BZh) hm
def Wr(t:TE):TT:=fun σ H Q=>t σ H fun x H' =>∃k,x= .bl k/\Q k H'
theorem yjb(BZN):PT X AYY (Wr Aof):=by
 show HP;show BLp ue Bam (bT A0q fun u s2 (A9x r2)=>
  (Bf7 c)) hm
 subst e;cases r3;exact AKo ⟨H3,I3,q3⟩
def Im(r r' :R2)(ta tb tc:TE):TE:=BQB (fun z H3=>∃k,z= .bl k/\
 (B5 (k=Μ) (tc σ H3 fun w' H4=>r' y w' H4 Q) (Q AHP H3)))
theorem yfs{op op' :ARp}{r r' :R2}(ho:lV X AfS r)(ho' :lV X BNl r')(ha:sx)(hb:ANy)(hc:PE X c tc)
  (hm:lastMarks [op,op'] [b,c]=AC:=by with_unfolding_all rfl):PE X BaO (Im r r' ta tb tc):=by
 show HP;refine Compare_chain (bT ue (AH4 Bam (chain_link (bT A0q fun u s2 (A9x r2)=>
  (Bf7 d))))) hm
 subst e;cases r3;show AzJ;cases k with
 | AC=>exact ite_ff ⟨.bl AC,H3,I3,Β,q3⟩
 | Μ=>exact ite_tt (chain_last (bT (hc Ν s3 σ H3 _ I3 q3) fun w' s4 aaT=>by obtain⟨z',H4,I4,r4,q4⟩:=aaT;exact ho' Ν s4 σ H4 y z' u w' Q I4 r2 r4 q4))
theorem qQ:LZ ARR<2^63:=AVP AKy
theorem z4o:AMQ Add (fun x y H Q=>∃i j,x= .AT i/\y= .AT j/\D5 (i.length+j.length)/\Q (.AT (i++j)) H):=by
 show AFc;show x6 i j Β hz q h;show b9;show AJ1;exact add_str (fun t' tk=>(BQM (i++j))) hz
theorem AR2{x:V}{us:An}(r:ABn [x]):BY_:=by
 cases r with
 | AY r1 r2=>cases r2;exact Oy r1
theorem vals2{x y:V}{us:An}(r:ABn [x,y]):∃u w',us= [u,w']/\ϋ/\IE y w' :=by
 cases r with
 | AY r1 r2=>
  cases r2 with
  | AY r3 r4=>cases r4;exact⟨_,_,Β,r1,r3⟩
theorem yfm:Ř "abs" (AY7 (∃i,xs= [FU]/\Q (ET AZ_) H)):=by
 show AYT;show LN i Β q;obtain⟨u,Β,t,Β⟩:=AR2 r;exact call_abs_int fun u tk=>(AYS AZ_)
#where
structure DN (h:AJ) (x dx C:Ζ) (mA:DU):Θ where
 obj:Fr MA A1_
 ns:Aon
 ne:dx≠x
theorem zx6{h:AJ}{dx:Ζ}{mA:DU}(n:Aon):Ben (AM0 dx od):=by
 obtain⟨o,es,ep,ho,hd,hk,_,hm⟩:=n;refine AEX (G1 D3);have e:=hm D3;unfold nsFind findBy at e;rw[<- Array.find?_toList] at e;unfold W.lookIn;rw[hd];dsimp only;split
 ·rename_i y q;show L_;exact AEZ Ε
 ·show L6;show L_;have a:Bln (·.refKey)=AC:=by
   rw[List.any_eq_false];intro y hy;obtain⟨z,t,hkey⟩:=hk y (Array.mem_toList_iff.mp hy);simp [DictEntry.refKey,hkey]
  have a' :¬Bln (·.refKey)=Μ:=AX a zJ
  show CS a';exact AEZ Ε
theorem DN.look{h:AJ}{x dx C:Ζ}{mA:DU}(I:DN h x dx C mA):Ben (W.InstAt h x A1_ C (Ch od)):=
 let ⟨od,ho,hl⟩:=zx6 I.ns
 ⟨od,Nw I.obj Β ho,hl⟩
section
variable{CA:As}{w:AW}{A:BV}{E:eO}{s:AB}{K:Ω}{x dx C f:Ζ}{mA:DU}{D3:Κ}{v:AE}
theorem ykp{expr:AO}{Q:eO}(X:AJa)(I:A5X)(hg:AOy C D3)(hh:Akm)
  (ha:AjQ D3) (hv:BRk) (hv' :AyW v) (h:Q v AU6):
  LJ (Ab_ km D3 expr):=by
 show BAd;exact W.get_value X J BOG (Blp hh ha Β (Ź hl hv)) hv' h
theorem yb8{pl:APB}{Q:BOq}(X:AJa)(I:A5X)(hg:AOy C D3)
  (hf:Ata D3) (ht:AUo) (hv:mA D3=Ι) (h:Q (.B0 f,ADb x) s):
  LJ (BEj km D3 pl):=by
 show BAd;exact W.method_fn X J BOG (Blo hg).2 hf (AFz ht) (by show(W.lookIn name od).map (·.isSome)=some false;rw[hl,hv];rfl) h
theorem yh1{ns:Ρ}{Q:ì}(X:AJa)(I:A5X)
  (hs:A9L) (hp:Ah6 C) (ht:BVX D3) (hh:Akm)
  (hw:Bk_ mA ns) (hsz:Bka)
  (h:ACw (DN h' x dx C (A'A (mA y))) (ARk dx BG h') (Q () (e_ h' (L'+2)))):
  LJ A9O:=by
 show BAd;refine W.set_plain X J hs (W.osa_open (s:=AU6) (r:=Ι) X J hp ht (G1 b));show DT cd hc hd' W.any_some hh;have hx:Fr OR ⟨HE,Ε dx,.plain,#[]⟩:=I.obj;refine Bi0 (Blq hx (z6 (Bfp AU6 (BEk X hc) ?_)));rw[hd'];refine z7 (a:=Ε dx) (z6 (z7 (z6 ?_)));refine Blr (s:=AU6) I.ns (gf hn2 hs2);obtain⟨oD,esD,epD,hoD,hdD,hcD⟩:=hn2.count (PySem.Within.cons D3 v hw);show A'J (AHQ FI)
 exact z7 (h _ ⟨I_ hs2.2 _ (ABu I.ne) I.obj,hn2,I.ne⟩ hs2)
theorem z1q{R:Ay_}{vs:An}{kw:ANm}(X:AJa)(hm:Ah7 C)
  (hi:AIZ) (hf:AZ7)
  (h:AIU Ix (AYf ⟨HE::vs,kw⟩) Lc ⟨.B0 mS::vs,kw⟩ (W.InitBack mS R) BVg):
  AIU Ix A LA ⟨vs,kw⟩ R s:=by
 obtain⟨hh,g,d,t,os⟩:=s;exact W.make_core (W.makes_of X hm) (BEl X hi) (A6 RU (W.bind_fn X RU hf)) UI h
#where
def pL(A_B):ê ->ê
 | []=> Akp
 | (g,x)::r=>AZP ((g,v)::r) ((g,x)::pL f v r)
theorem zp4(f g:Κ)(v:V):∀fs:ê,(pL f v fs).wn g=AZP AHx (Aqt g)
 | []=>by
  show Ġ g Akp=_;by_cases h:g=f
  ·have hb:(g==f)=Μ:=Axr;show AJ9 ADv
  ·show vj hb g f Axp;show AJ9 Ü
 | A2e=>by
  have ih:=zp4 f g v r;show Sj (pL f v A2Q=A'6) Β;by_cases hk:k=f
  ·show AOr;by_cases h:g=k
   ·have hb:(g==k)=Μ:=Axr;show AJ9 (sd h.trans hk)
   ·show vj hb g k Axp;show AJ9 (UN (fun e:g=f=>h (e.trans hk.symm)))
  ·show AOi;by_cases h:g=k
   ·have hb:(g==k)=Μ:=Axr;show AJ9 (UN (fun e:g=f=>hk (h.symm.trans e)))
   ·show vj hb g k Axp;simp only [Ġ,hb];exact ih
theorem zqw(A_B):∀fs:ê,f∈ Bbw/\∀g,g∈AcA (·.1) ->g∈ Bbw
 | []=>⟨C8 pL,fun g h=>APK⟩
 | A2e=>by
  obtain⟨i1,i2⟩:=zqw f v r;show Sj (pL f v A2Q=A'6) Β;by_cases hk:k=f
  ·show AOr;subst hk;exact⟨CY,fun g h=>(CU h)⟩
  ·show AOi;show ä ?_ g h
   show Dx EK (zW _ i1)
   ·rw[EK] at h⊢;rcases AIr with e | e
    ·exact zU.mpr (IN e)
    ·exact zW _ (i2 g e)
theorem zry(A_B):∀fs:ê,zS pL f v fs<=AKg+1
 | []=>C8 pL
 | A2e=>by
  have ih:=zry f v r;show Sj (pL f v A2Q=A'6) Β;by_cases hk:k=f
  show BOy (CH hk)
  show BOy (B4 hk)
theorem n6.some_of{v:V}{o:ei}(r:n6 (Ε v) o):∃u,UK o/\PQ:=by
 cases o with
 | Ι=>exact APb
 | Ε u=>exact P9 u r
theorem n6.none_of{o:ei}(r:n6 Ι o):o=Ι:=by
 cases o with
 | Ι=>rfl
 | Ε u=>exact APb
theorem zwd{v:V}{u:AE}(r:PQ):AyW u:=by
 cases v with
 | non=>show AiF BNN
 | bl b=>show AiF BJi
 | AK i=>show An7 AYl
 | AT x=>show An7 AYq
 | V6 b=>show An7 (Value.bytes b t)
 | flt b=>show An7 (Value.float b t)
 | B0 a=>show AiF (As' u)
 | ty n=>show AiF BSn
section
variable{P:As}{w:AW}{H H' :Hp}{h h' :AJ}{a C dx:Ζ}{fs fs' :ê}
theorem zz7(DL:dC)(e:AiT):∃mA,DN h a dx C mA/\ (∀f,BBQ)/\BMS/\BIL/\A4v:=by
 obtain⟨d,z,ne,ob,mA,n,r,q⟩:=(EM (AAP Aek) (DL a _ e));exact⟨mA,⟨ob,n,ne⟩,r,q,z,d⟩
#where
structure DZ (AEx):Θ where
 pg:AOy C PY
 hd:Akm
 po:Ah6 C
 sa:A9L
theorem Cls.get{K:Ω}{C:Ζ}(c:DZ K C)(f:Κ):AOy C f:=c.pg
def aK(K:Ω)(C:Ζ)(f:Κ):Θ:=AjQ f
theorem aK.taker{K:Ω}{C:Ζ}{f:Κ}(n:ADM f):BVX f:=by
 unfold W.takerIn;show Sj (AjQ f) n
 rfl
structure Meth (K:Ω) (C:Ζ) (m:Κ) (f:Ζ):Θ where
 at_:Ata m
 fn:AUo
 kp:AUZ
section
variable{X:Cx}{Ν:fB}{σ:St}{H:Hp}{s:AB}{a C dx:Ζ}{fs:ê}{f:Κ}{v:V}{A:BV}{E:eO}
theorem z4y{b:AO}{Q:eO}(I:AS)(e:AiT)(c:AzN)(n:s_)(l:AmS)
  (h:BYZ):BYV:=by
 obtain⟨mA,O,r,_,_,_⟩:=Aze;show APk (A4u (mA f) (r f))
 exact ykp ik O (c.get f) c.hd n hu (zwd ru) BTv
theorem Uc{m:Κ}{g:Ζ}{pl:APB}{Q:BOq}(I:AS)(e:AiT)(c:AzN)(k:Meth AG C m g)(l:Aqt m=Ι)
  (h:Q (.B0 g,PF) s):ŝ (BEj E8 m pl):=by
 obtain⟨mA,O,r,_,_,_⟩:=Aze;have hn:mA m=Ι:=n6.none_of (DC l (r m))
 exact yb8 ik O (c.get m) k.at_ k.fn hn h
theorem z4m{y:V}{u:AE}{Q:ì}(I:AS)(e:AiT)(c:AzN)(n:s_)(hl:AwT)(ry:Q4)
  (h:Alb (KM a BaY s')):A'F:=by
 obtain⟨mA,O,r,wi,_,ho⟩:=Aze;have hz:D5 (SL (fs.map (·.1))):=AM1 AKy
 refine yh1 ik O c.sa c.po n.taker c.hd wi hz fun h' O' sb=>AkW;have hd:∃o,ACl dx:=let ⟨o,_,_,e',_⟩:=O'.ns;rV e';refine AYy a dx AgU (E7 ho) (xy q z BVG) hd ?_
 refine⟨Ë O.ne ho,?_,O.ne,O'.obj,_,O'.ns,G1 g,BO g hg⟩
 ·have:=zry f y fs;omega
 ·rw[zp4];show Ali
  ·rw[Hk,Hk];exact ry
  ·rw[B4 q,QY];exact r g
 ·show Ali
  show Dx q (zqw f y fs).1
  ·refine(zqw f y fs).2 g (wi g (AV (hg ?_)));show(B5 (g=f) Af2 (mA g))=Ι;show CS q;exact z
theorem BEn(VM):ZY (upd (ZZ BH (.A7 mS)) mS (.ins C BH [])) BVg:=by
 have e1:AmH ABL ABL:=z9 BG Β;have e2:Ő Bil BJn mS BJn:=ACQ (z9 (n_ ABL) (o:=Abd C BH) Β) iq
 have e3:AuE ABL Ns BH (C5 Ι):=⟨ABL,#[],_,e1,Β,(fun e he=>(AL8 he)),AWB⟩
 have I1:=N1 AK1 a BH o (.A7 mS) h' (ATB ABL) t' L' (AVi) E2 (Lm e1);refine AK2 (a:=Ż) (o:= .ins C BH []) (t' :=L') (AVi) A'R ?_;have ne:BH≠Ż:=Ano;refine⟨A2U,IS,ne,e2,Avf,(Bls e3).at fun o q=>AMG,E6 ArW,fun y hy=>(ϣ hy)⟩
theorem yap{CA:As}{w:AW}{BN:Env}{e:AF}{f:Κ}{Υ:AL}{s:AB}{Q:eO}(hb:ArX e f BN (ACv e)=Ě e BN)
  (h:AoL e o (AHU (Ab_ o f Μ) EJ)):LJ (ACv (.ġ e f Υ)):=
 Attribute_any_ h (Ź arm_eval_Attribute hb)
#where
def aaU(K:Ω)(ta:TE)(f:Κ):TE:=Ϗ (∃a C dx fs v,x= BQ/\AVJ Aek/\DZ K C/\ADM f/\AmS/\Q v H1)
def aaV(K:Ω)(ta tv:TE)(f:Κ):TS:=A_J (∃a C dx fs,x= BQ/\GY H2 Aek/\DZ K C/\ADM f/\AwT/\
 AG7 (upd H2 a BaY))
section
variable{X:Cx}{o e EV:AF}{f:Κ}{Υ Ff tpos:AL}{ta tv:TE}
theorem ygp(he:ABy ta)(hb:ATV f):Ŝ ġ e f (aaU AG ta f):=by
 show HP;refine yap hb (bT Ϭ (Tu u aaW));obtain⟨x,H1,I1,rx,a,C,dx,fs,v,ex,ea,c,n,l,q⟩:=aaW;subst ex;show YI;exact z4y I1 ea c n l Bct
theorem z89(ha:PE X o ta)(hv:Awi)(hs:Agh o):ANr (AfG o f) EV (aaV AG ta tv f):=by
 show c0;refine A0X (Ŏ Aij u);show A9m CM;show ACx A7h ov hz2;obtain⟨x,H2,I2,rx,a,C,dx,fs,ex,ea,c,n,l,q2⟩:=hz2;subst ex;show ł ov rx;exact z4m I2 ea c n l ry BSJ
#where
structure cJ (k:Δ) (A:BV):Θ where
 hd:PU
 dp:ArY+3*k+5<Blt
 un:AF_+16*k+200<ABM
theorem cJ.mono{j k:Δ}{A:BV}(r:AgA)(h:j<=k):cJ j A:=⟨r.hd,MU r.dp,MU r.un⟩
theorem cJ.deeper(BWl)(r:cJ LH A)(BN:Env):AdQ k BN:=
 ⟨r.hd,by have:=r.dp;show ArY+1+3*k+5<_;omega,by have:=r.un;show AF_+3+16*k+200<_;omega⟩
theorem z3y{A:BV}{C:Ζ}{us:An}{kw:ANm}:(ArV A1U).depth=ArY+1:=by
 first | rfl | simp [BEp,Code.weight,Code.isCreation,Code.isGuard,Code.isCaller,Code.frames,BEr,guardIds]
theorem z47{A:BV}{C:Ζ}{us:An}{kw:ANm}:(ArV A1U).units=AF_+1:=by
 first | rfl | simp [BEp,Code.cUnits,Code.frames,BEr]
theorem cJ.make(BWl)(r:cJ LH A)(C:Ζ)(us:An)(kw:ANm):cJ k (ArV A1U):=
 ⟨r.hd,by have:=r.dp;rw[z3y];omega,by have:=r.un;rw[z47];omega⟩
theorem cJ.depth(Bde):ArY<Blt:=MU r.dp
theorem cJ.units(Bde):AF_+64<ABM:=MU r.un
def aaX:TA:=AnV (Q [] H)
def Oe(ta:TE)(tr:TA):TA:=Ϗ (zI tr xs (Q AYI H2))
section
variable{X:Cx}{e:AF}{es:CC}{te:TE}{t:TA}{Υ:AL}
theorem z2j:PA X [] aaX:=fun _ _ _ _ H Q I h=>BEs ⟨[],H,I,EO,h⟩
theorem Qs(ha:my)(hr:Aka)(hs:fF:=by rfl):PA X HC (Oe te t):=by
 intro Υ Ν s σ H Q I h;rw[hs];show iE AcD ue u aaY;show Sr aaY;exact bT (hr Υ Ν s1 σ H1 _ I1 q1) fun us s2 aaZ=>by obtain⟨xs,H2,I2,r2,q2⟩:=aaZ;exact⟨OF,H2,I2,.AY r1 r2,q2⟩
def aa0(t:TA):TE:=Bdq f_
def aa1(t:TA):TE:=Bdq AHZ
theorem ygk{x1}(h:Aka):Ŝ AAz es x1 (aa0 t):=by
 intro Ν s σ H Q I hq;refine wpAny_Tuple_spliced (bT (h Υ Ν s σ H _ I hq) BYB)
 have hf:Ajc:=Akq;refine⟨Axv,upd H1 ES f_,BYD,Β,q _ hf⟩;exact⟨z,us,r,⟨_,T1,Β,_,Β⟩⟩
theorem yl0(h:Aka):PE X BPu (aa1 t):=by
 intro Ν s σ H Q I hq;refine wpAny_List_spliced (bT (h Υ Ν s σ H _ I hq) BYB)
 have hf:Ajc:=Akq;refine⟨Axv,upd H1 ES AHZ,BYD,Β,q _ hf⟩;exact⟨z,us,0,r,T1⟩
#where
abbrev Sp:=AQ ->Hp ->DD VK XK
abbrev K3:=A_ L4 Hp AB XK (Os AE)
structure Ai (AFb) (mg:DU) (A8:AJ) (A:BV) (Cf:L4) (s:AB) (H:Hp):Θ where
 frames:Ag_ Cf
 mod:Mod K mg A8
 bs:ņ base.get? (kX/\NH)
 bsz:base.objs.size<=BH
 funs:Ag4 A8 Cf
 frf:N0 (frs Cf) NH
 DL:pI P w H BG
 G_:BIw
def CE(Cf:L4)(P:As)(w:AW)(H:Hp)(s:AB)(Q:VK)(u:AE)(s' :AB):Θ:=
 ∃v H',s'.os=AAe/\ANJ/\AmY Az9/\BWi/\PQ/\Š
def CR(CX:K3)(Cf:L4)(P:As)(w:AW)(H:Hp)(s:AB)(Q:VK)(E:XK)(r:Result)(s' :AB):Θ:=
 match r with
 | .ok (.ret u)=>BCa
 | .ok _=>D8
 | .ZI e=>CX Cf H s E e s'
structure eU (AqQ) (CX:K3) (k:Δ) (f:Ζ) (fd:E_) (ps:Ρ) (sp:Sp):Θ where
 len:BUI
 run:∀(A:BV) (Cf:L4) (s:AB) (H:Hp) (ER:Args) (us:An) (vs:AQ) (Q:VK) (E:XK),AgA ->A_ Am2 (AU' ER AvC) AO8 Agl (AIU ACY A Lc ER (CR CX Cf P w H s Q E) s)
theorem eU.imp{P:As}{w:AW}{K:Ω}{mg:DU}{A8:AJ}{CX:K3}{k:Δ}{f:Ζ}{fd:E_}{ps:Ρ}{sp sp' :Sp}(F:BVw sp)
  (h:∀vs H Q E,sp' vs H Q E ->Agl):BVw sp' :=
 ⟨fun vs H Q E q=>F.len vs H Q E (AIB h q),fun A Cf s H ER us vs Q E hr he hb hv hs=>F.run A Cf s H ER us vs Q E hr he hb hv (AIB h hs)⟩
theorem Ai.make(BgC){A:BV}{Cf:L4}{s:AB}{H:Hp}(e:Am2)(C:Ζ)(us:An)(kw:ANm):
  Bhp (AYf Bh_):=⟨by first | exact e.frames | (simpa [BEp,Code.envs,BEr,pushEnvs] using e.frames),e.mod,e.bs,e.bsz,e.funs,e.frf,e.hok,e.bare⟩
section
variable{X:Cx}{Ν:fB}{σ:St}{H:Hp}{s s' :AB}
theorem Inv.env0(VM):BW' s H:=
 ⟨I.ok.frames,I.ok.mod,I.bs,zO I.ok.bsz I.sz,I.stack,I.stkFree,MC,Ę⟩
theorem Inv.after{Q:VK}{u:AE}(I:AS)(h:CE JU FH X.w H s Q u s'):ϗ u s' :=by
 obtain⟨v,H',os,G_,un,DL,r,q⟩:=h;obtain⟨hh,g,d,t,os'⟩:=s';obtain Β:os' =AAe:=os;exact⟨v,H',I.call (h' :=hh) (g' :=g) (d' :=d) (t' :=t) (ch:= []) un DL G_ AYK,r,q⟩
#where
def AR3(K:Ω)(fd:E_)(ps:Ρ)(ds:An):Θ:=
 ∀(s:AB) (us:An),AJa ->SL (us++ds)=II ->AU' ANi (ps.zip (us++ds))
theorem Binds.all{K:Ω}{fd:E_}{ps:Ρ}(h:∀us:An,ng=II ->BTb fd):ACg:=fun s us _ hl=>by
 rw[RY] at hl⊢;exact .of_eq (h us hl)
section
variable{X:Cx}{CX:K3}{k:Δ}{f C:Ζ}{fd:E_}{ps:Ρ}{sp:Sp}{dvs:AQ}{ds:An}{E:XK}{x m:Κ}{p Υ IJ:AL}{e o:AF}{es:CC}{ta:TE}{t:TA}
structure Mk (K:Ω) (C f:Ζ):Θ where
 makes:Ah7 C
 init:AIZ
 fn:AUo
 kp:Adl LA
#where
structure aA (N P:Ρ) (sc:OM):Θ where
 kind:A3R
 co:MM sc.isCoroutine
 gen:MM sc.isGenerator
 nd:N.Nodup
 pre:N.take P.length=P
 par:∀x∈P,A6J AXp
 nofree:∀y∈Po,y.2≠ UF
theorem zyd(BTY):Bcb AK3
 | [],_,_=>Β
 | (n,v)::r,m,h=>by
  unfold AK3;rw[zyd (Ï (AiH h w hw))];split
  ·have:x≠n:=by rintro Β;exact Anz
   simp [Χ]
  ·rfl
theorem zw8(BTY):Bcb AK4
 | [],_,_=>Β
 | (n,v)::r,m,h=>by
  unfold AK4;rw[zw8 (Ï (AiH h w hw))];split
  ·rfl
  ·have:x≠n:=by rintro Β;exact Anz
   simp [Χ]
theorem zxe{Ģ:Avg}{x:Κ}{v:AE}:BeD (A_ P.Nodup (xh P) APJ (AS8 Ģ) (BLf AK3))
 | [],_,_,_,_,h,_,_=>APK
 | DV,[],_,_,_,_,h,_=>APK
 | p::P,w::vs,0,m,nd,h1,h2,hk=>by
  simp at h1 h2;subst h1;subst h2;show AK3 Ģ BU_ m p=_;unfold AK3;rw[BVO zyd,CH hk];simp
 | p::P,w::vs,D9,m,nd,h1,h2,hk=>by
  unfold AK3;exact Ý zxe Ane ADz AOc hk
theorem zye{Ģ:Avg}{x:Κ}{v:AE}:BeD (A_ P.Nodup (xh P) APJ (Ģ x≠Ε ATz) (BLf AK4))
 | [],_,_,_,_,h,_,_=>APK
 | DV,[],_,_,_,_,h,_=>APK
 | p::P,w::vs,0,m,nd,h1,h2,hk=>by
  simp at h1 h2;subst h1;subst h2;show AK4 Ģ BU_ m p=_;unfold AK4;rw[BVO zw8,B4 hk];simp
 | p::P,w::vs,D9,m,nd,h1,h2,hk=>by
  unfold AK4;exact Ý zye Ane ADz AOc hk
def start(N:Ρ)(vs:AQ):St:=Arb Ε++AV0 (AK5 - Kb) Ι
def eV(CX:K3)(P:As)(w:AW)(K:Ω)(mg:DU)(A8:AJ)(N:Ρ)(EI:Κ)(KO:OM)(f:Ζ)(cd:AE)(A:BV)(Cf:L4)(s:AB)(H:Hp)(E:XK):Cx where
 CA:=P
 w:=w
 K:=K
 mg:=mg
 A8:=A8
 A:=ArZ (Bjf cd)
 N:=N
 NX:=s
 iS:=H
 BN:=Bdn
 Cf:=Cf
 stack:=Bdn::Cf
 ex:= []
 calm:=Μ
 fn:=E6 Μ
 pn:= []
 xe:=fun e s' =>GG ACY (ArZ BVy) (leaving BVy e) (Kt s'' (CX Cf H s E e s'')) (fun e' s'' =>CX Cf H s E e' s'') s'
theorem z2r{sc:OM}{n:Δ}{x:Κ}(h:AXp):∃c,AGh (eI n Po []).wn:=by
 have q:=BEt Po n [] (IN h);exact Blw q
theorem zxt{CX:K3}{P:As}{w:AW}{K:Ω}{mg:DU}{A8:AJ}{N ps:Ρ}{EI:Κ}{KO:OM}{f:Ζ}{cd:AE}{A:BV}{Cf:L4}{s s1:AB}{H:Hp}{E:XK}{us:An}{vs:AQ}
  (S:BVT) (hd:PU) (e0:Am2) (hl:Bir) (r:AO8)
  (x:InCallC s BH (Beb AK3) (eI mS AF' []) (Beb AK4) s1):
  Inv Bes [] AmR H s1:=by
 have De:II<=AK5:=by have:=OT Ki S.pre;show B8 oB;omega
 obtain⟨h1,tk,Β,hk⟩:=x.done;have Ws:∀b:Ζ,b∉ (Bes).ex:=fun b z=>(A8q z)
 refine⟨⟨e0.mod,Arc,Β,Β,MV,GN y z c h1 h2,BO y hy,fun y c _ h=> ?_,E6 hd,Around.frames_deeper e0.frames,.AZ k7,BY2,e0.bs,e0.bsz,fun b _ _=>Ws b,BY2,e0.funs,e0.frf⟩,
  Β,e0.bare,ART hk,DH x.toInCall.ns (fun i y v h1 h2 h3=> ?_),fun y c h=>(Lm (x.cell y c h)),Blx (zN _),Ap y c h,A_9,e0.hok.kept hk,?_⟩
 ·exact Bly x.apart (Bj3 h1) (BEu h2)
 ·have hy:BIz Ň\/BIz UF:=hy;rcases hy with hy | hy
  ·exact z2r hy
  ·exact AKh Β (S.nofree _ (Bj3 hy))
 ·exact ĕ (x.above y c BJJ)
 ·have hi:AhR:=by
   unfold start at h2;show ANE Kb
   ·exact hi
   ·rw[AGA (EF hi)] at h2
    rw[AR4] at h2;split at h2<;>cases h2
  have ha:APJ:=by
   unfold start at h2;show AVy Ajd h2
   cases e:vs[i]? with
   | Ι=>rw[e] at h2;cases h2
   | Ε a=>rw[e] at h2;cases h2;rfl
  show DT u hu rv r.get ha;have hp:EX ps y:=by
   rw[<- S.pre,List.getElem?_take_of_lt Η];exact h1
  have ndP:ps.Nodup:=DC S.pre (S.nd.sublist (Blz _ _))
  show Ee u rv;rcases S.par y (yV hp) with k | k
  ·exact AT1 k (zxe ndP hp hu k)
  ·show PM c (z2r (n:=Ż) k);refine .AZ ⟨.A0 k,c,e,?_⟩;have q:=x.cell y c e;rw[zye ndP hp hu (by show AcG y≠_;rw[k];decide)] at q
   exact q
 ·exact Blx (ĕ (x.above y c BJJ))
 ·unfold start;show _=AK5;show AxT Da BEv;omega
theorem Qt{CX:K3}{P:As}{w:AW}{K:Ω}{mg:DU}{A8:AJ}{k:Δ}{f:Ζ}{D3 EI:Κ}{params:Arguments}{MY:Xs}{KO:OM}{dV kV doc pm cdv ct oc:AE}{an od:OB}
  {osl:ADm} {N ps:Ρ} {sp:Sp} (lk:AoA (.func Bgr) osl) (hcd:A9n) (S:BVT)
  (len:BUI)
  (wo:∀(A:BV) (Cf:L4) (s:AB) (H:Hp) (vs:AQ) (Q:VK) (E:XK),Bg2 KO ->Agl ->
   ∃t,Hz BBp MY t/\t BWr AmR H):
  eU P w K mg A8 CX LH f Bgr ps sp:=by
 refine⟨len,fun A Cf s H ER us vs Q E hr e0 hb r hsp=> ?_⟩;have hl:=ACH len hsp;show U2 KX AJa BLB lim Bl0 BLC hkind (∀y∈ps.zip us,AcG y.1=Ε ATz\/ (AcG y.1=Ε Ň/\ AhH (eI mS AF' []).wn y.1)) (fun⟨n,v⟩ hy=>by
  show g9 BOn q
  ·exact .A0 q
  show KL BRB)
 show LM (Bl1 hr.depth (KX _ _ lk) Β S.co S.gen Β BUw (AIB hb ?_)) Bcw;subst he;show Db BNE (Bl2 ?_);obtain⟨t,ht,hq⟩:=wo A Cf s H vs Q E (hr.deeper _) hsp;have I:Inv BBp [] AmR H s1:=Beg hl;refine Y3 (ht [] s1 AmR H _ I hq) (Ap fl s' hs) fun e s' hs=>hs;have D4:∀{DA :St} {H' :Hp} {v:V} {u:AE},Inv BBp [] DA H' s' ->PQ ->Š ->BCa :=
  fun{DA H' v u} J rv q=>⟨v,H',J.os,J.bare,J.base,J.hok,rv,q⟩
 cases fl with
 | ret u=>
  obtain⟨v,DA,H',J,rv,q⟩:=hs;exact D4 J rv q
 | JP=>
  obtain⟨DA,H',J,q⟩:=hs;exact D4 (v:=V.non) (u:=dy) J Β q
 | brk=>
  show Apa
 | NY=>
  show Apa
section
variable{X:Cx}{x:Κ}{p Υ:AL}{e:AF}{es:CC}{t:TA}{id T:LT}{r:u_}
def Ud(r:u_)(t:TA):TE:=O_ t vs (r vs H1 Q)
theorem Wt(hc:Ř id r)(hg:JE)(hm:AEc)(hv:ADy ACk)(ha:Akb)(AJ4):BVP:=by
 show HP;refine AcI (ϐ hv ?_ hn hdb);exact BLe (bT AU4 fun us s1 aa2=>by show AeI aa2;exact hc Ν s1 σ H1 vs us Q I1 r1 q1) he
theorem Wu(hc:ADP T r)(hg:JE)(hm:AEc)(hv:ADy AIL)(ha:Akb)(AJ4):BVP:=by
 show HP;refine AcI (ϐ hv ?_ hn hdb);exact BEc (bT AU4 fun us s1 aa3=>by show AeI aa3;exact hc Ν s1 σ H1 vs us Q I1 r1 q1) he De
#where
#print L2
namespace HT
open IB JO
section
open PySem.SeqAt
open BEw (AcJ)
open BEx PySem.MeetsSeq2 BEy
#where
section
variable{CA:As}{w:AW}{A:BV}{E:eO}{s:AB}
def sIx(n d:Δ):SO ->Δ
 | Ι=>d
 | AHx=>ANV v 0 (gE v L8) Bi8
theorem ynl(n d:Δ)(hd:d<=n)(o:SO):sIx n d o<=n:=by
 cases o with
 | Ι=>exact hd
 | Ε v=>
  show Bbs<=n;by_cases hv:v<0
  ·show Go hv;omega
  ·show CS hv;exact Nat.min_le_right _ _
theorem z76(v:Ψ)(n d:Δ):BWj=EZ (sIx n d q_):=by
 show BWj=EZ Bbs;by_cases hv:v<0
 ·simp only [CH hv];omega
 ·simp only [AhS];omega
theorem z4e(BdV):Bb1=(AoT,EZ (sIx n n hi)):=by
 have h1:¬(cS<0):=Τ
 refine Prod.ext ?_ ?_
 ·cases lo with
  | Ι=>rfl
  | Ε v=>exact z76 v n 0
 ·cases hi with
  | Ι=>rfl
  | Ε v=>exact z76 v n n
theorem z4u(AkB):Arf Lu lT 1=j - i:=by
 unfold Arf;have h1:cS>0:=Τ
 simp only [h1,oC,Int.ediv_one];split<;>omega
theorem zs3{v:AE}{o:SO}{Q:Os SO}(p:Arh v o)(h:Q o s):LJ (Builtin.Slice.slicePartIndex v):=by
 cases p with
 | Ι=>exact Bl4 h
 | AK i t=>exact slicePart_int h
theorem zok{sl:Ζ}{vl vu:AE}{lo hi:SO}{n:Δ}{Q:Os (Ψ×Ψ×Δ)}(hs:BBj)(pl:A_X)(pu:A8Y)
  (h:Q (AoT,1,sIx n n hi - sIx n 0 lo) s):LJ (Builtin.Slice.sliceApplied Axm (KW L8)):=by
 show ax os hos hcs hds hs;refine z6 (z6 (A7e vl Β (z6 (A7e vu Β (z6 (A7e BI Β (z7 ?_)))))));refine xp Bl4;show t7
 refine z6 (zs3 pl (z6 (zs3 pu AwO)));show ATg (match Bb1 with | (lo,hi)=>KW (lo,cS,Arf lo hi 1))
 rw[z4e lo hi n];show ATg (KW (AoT,cS,Arf AoT (EZ (sIx n n hi)) 1));rw[z4u];exact z7 h
theorem yc8(xs:KF)(i k:Δ):qq (AAq k).BDk (fun(LZ m)=>xs[A'B]?)=qq (xs.toList.drop i).take k:=by
 have e:(A6 (LZ m) xs[A'B]?)=fun m=>xs[i+m]?:=by
  funext m
  have:A'B=i+m:=Τ
  rw[Χ]
 rw[e];have:=pick_run xs i k;show B8 List.filterMap_map;have e2:((A6 x xs[x]?) ∘ XU (i+x))=fun m=>xs[i+m]?:=Β;show B8 e2;rw[Χ]
theorem getItem_tuple_cut{t sl:Ζ}{Nc:KF}{vl vu:AE}{lo hi:SO}{Q:eO}(ht:IsTup BG t Nc)(hs:BBj)(pl:A_X)(pu:A8Y)
  (hw:¬(ATx=0/\sIx Rc Rc hi=Rc))
  (h:AX4 (xx (qq A'Y Aga)))
  (hsz:AyG):LJ (AR5 (BA t) Axm):=by
 have Fw:sizeOk (.seq (qq A'Y Aga)):=by
  show D5 (A'Y Aga).Bl5;rw[eJ,oB,AGC,Ĝ];omega
 have hj:AuD<=Rc:=ynl _ _ E2 hi;show ax os hos hcs hds hs;have hTs:AJn sl "slice" :=⟨os,hos,hcs⟩;unfold AR5
 try with_reducible refine ĝ ?_
 first | show mI z7 | skip
 refine UE wpAny_sequenceKey Arj AD
 refine z6 (Bg7 Bl6 Arj Bl7
  (Bl8 Bl7 Arj entry_tuple_getitem ?_ (args_tuple_getitem _ _)))
 show APd (Builtin.Tuple.tupleItemsOf (BA t));refine z6 (tupleItemsOf_ ht ?_);refine z6 (Bl9 hTs ?_);show Go AD
 refine z6 (zok hs pl pu ?_);have hno:¬(BfS):=by
  intro q;rw[eK,eK] at q;have q1:EZ ATx=0:=BE_ q.1.1;have q2:AuD - ATx=Rc:=BE_ q.2;exact hw ⟨Τ,Τ⟩
 show ATg (AUy BfS);rw[B4 hno,yc8]
 first
  | exact IP (BE' _) (wf (z7 Avm) Fw)
  | exact IP (BE' _) (wf (z6 BMK) Fw)
  | exact z6 (BIu (wf BMK Fw))
  | exact z6 (BIu (wf (z7 Avm) Fw))
#where
#print HT
namespace L2
open IB OL JO
abbrev TO:=Am9 Ay1
def PO(X:Cx)(e:AV_)(t:TO):Θ:=
 AVj Q Ay1 Ã (evalPart e CB) (se u (∃o H',AJZ /\Arh u o/\Q o H'))
def yip:TO:=AnV (Q Ι H)
def Wv(t:TE):TO:=O_ t x (∃i,x= FU/\Q (Ε i) H1)
section
variable{X:Cx}{e:AF}{te:TE}{lo hi:AV_}{tl th:TO}{Υ p2:AL}
theorem yht:PO X Ι yip:=by
 show HP;rw[Bl_];exact z7 ⟨Ι,H,I,BI,h⟩
theorem yij(h:my):PO X Ae7 (Wv te):=by
 show A3f;rw[evalPart_some];refine bT A6' (Tu u aa4);show Sr aa4;show bP i Β q1;show SC r1;exact⟨Ε i,H1,I1,.AK i t,q⟩
def SlR(X:Cx)(r:AZ'):Θ:=
 ∀(Ν:fB) (s:AB) (σ:St) (H:Hp) (x:V) (v vl vu:AE) (lo hi:SO) (sl:Ζ) (Q:VK),cr AS iN BBj A_X A8Y (r x lo hi H Q) (∃T id,BYF/\BPQ/\ADT (AR5 v Axm))
def tSl(r:AZ')(te:TE)(tl th:TO):TE:=O_ te x (zI tl l (th σ H2 fun u H3=>r x l u H3 Q))
theorem z3n{r:AZ'}(hr:SlR X r)(he:my)(hl:PO X lo tl)(hu:PO X hi th):A0N e BBm (tSl r te tl th):=by
 show HP;refine BFG (bT Ϭ (Tu v aa5));show Sr aa5;refine wpAny_Slice (bT (AHi hl) (ABx vl CM));obtain⟨l,H2,I2,pl,q2⟩:=CM;refine bT (BAm hu) (ANa vu hz2);obtain⟨u,H3,I3,pu,q3⟩:=hz2;rw[Bl_];refine z7 ?_;have I4:ZY H3 BY1:=I3.kept (t' :=s3.toks) A7Q;obtain⟨T,id,hT,ht,hg⟩:=hr Ν BY1 σ H3 x v vl vu l u AK6 Q I4 r1 (Heap.IsSliceOf.new ..) pl pu q3;exact tail_any (ops:= [.B0 AK6,v]) ht hT hg ANX
def Aj(xs:AQ)(lo hi:SO):AQ:=BLT
theorem zrv(xs:AQ)(lo hi:SO):zS Aj xs lo hi<=BU:=by
 unfold Aj;rw[oB,AGC];omega
def aa6(AQH):AZ':=fun x lo hi H Q=>∃a xs,x= BQ/\AEl/\
 BZE Bhd hi/\BBM (IO Alv)
theorem ymk:SlR X (aa6 AG):=by
 intro Ν s σ H x v vl vu lo hi sl Q I rx hs pl pu h;show x6 a xs hx hw q h;cases rx;obtain⟨AU,r,ht,hz⟩:=io hx;have GH:wp=BU:=AX eJ r.length.symm
 refine⟨dP,_,PyProof.Rows.slot_tuple_getitem.lookup,Arj,?_⟩;refine HT.getItem_tuple_cut ht hs pl pu (Do GH hw) ?_ (Do GH hz)
 rw[GH];refine AKD (AgN AK1 o (.tup Alv) (A7Q) E2 ?_) q;exact⟨BVv,_,AxH r.drop,ArM _ _⟩
#where
def xW(n:Δ)(i:Ψ):My Δ:=if 0<=i then(B5 (i<n) (Ε AK7) Ι) else AxS (-L8<=i) (Ε (gE i n))
def nZ{α:CL}(xs:CO)(i:Ψ):My α:=(xW BU i).bind fun j=>xs[j]?
theorem ybo{n:Δ}{i:Ψ}{j:Δ}(h:xW n i=Ε j):BU0 n/\j<n/\ -L8<=i/\i<n:=by
 show DJ xW;by_cases h0:0<=i
 ·show æ h0;by_cases h1:i<n
  ·show æ h1;have e:AK7=j:=zF h;exact⟨HH (A6T h1) e,Τ,Τ,h1⟩
  ·show X0 h1;cases h
 ·show X0 h0;by_cases h1: -L8<=i
  ·show æ h1;have e:gE i n=j:=zF h;exact⟨HH (A1o h1) e,Τ,h1,Τ⟩
  ·show X0 h1;cases h
theorem zzf{α:CL}{xs:CO}{i:Ψ}{v:α}(h:AHq xs v):∃j,BU0 BU/\WJ xs v/\AWS/\ -AIp<=i/\Ϝ:=by
 show DJ nZ;cases e:xW BU i with
 | Ι=>rw[e] at h;cases h
 | Ε j=>
  rw[e] at h;obtain⟨h1,h2,h3,h4⟩:=ybo e;exact⟨j,h1,h,h2,h3,h4⟩
theorem Bt{α:CL}{xs:CO}{j:Δ}{v:α}(h:WJ xs v):nZ xs lT=Ε v:=by
 have hj:AWS:=SW h;have e:xW BU lT=Ε j:=by
  unfold xW;rw[CH Η,ϝ];simp
 unfold nZ;rw[e];exact h
def zzp(b:AF):Θ:=∀o i,A_Q (Ark b AC o i) [o,i] o i
def IxR(X:Cx)(r:R2):Θ:=
 ∀(EV ir:AF) (Ν:fB) (s:AB) (σ:St) (H:Hp) (x y:V) (v u:AE) (Q:VK),AS ->A_ iN Q4 (r x y H Q) (A_Q (Ark ir AC v u) [v,u] v u) (ADT (subscriptTail EV ir v u))
def MtR(BXf):Θ:=
 ∀(Ν:fB) (s:AB) (σ:St) (H:Hp) (x:V) (xs:AQ) (v:AE) (us:An) (Q:VK),A_ AS iN gS (r x xs H Q) (A9v v)
section
variable{X:Cx}{a b:AF}{ta tb:TE}{Υ:AL}
theorem yh0{r:R2}(hr:IxR X r)(ha:sx)(hb:ANy)(hs:zzp b):A0N a b Aof:=by
 show HP;exact BFG (Qp ha hb I h (Bjo (hr a b Ν s2 σ H2 x y v u Q I2 rx ry q (hs _ _))))
def aa7(AQH):R2:=BgK (nY K H p xs)
def aa8(AQH):R2:=BgK (xH K H p xs)
def aa9:R2:=AIe (∃z i c,x= Ah'/\y= FU/\AyH/\BQC/\Q (.AT A3s) H)
theorem z97:IxR X (aa7 AG):=by
 show BCs;obtain⟨p,xs,i,z,Β,Β,hq,he,q⟩:=h;cases rx;show SC ry;obtain⟨AU,r,pl,hz⟩:=Pe hq;show BCl;show DT w ew tR r.get h2;show A0L;show AJ7;have D4:ϗ w s:=BWT;by_cases h0:0<=i
 ·have hj:AK7=j:=by
   rw[A6T h5] at h1;exact zF h1
  exact item_listR ZN h0 Η (by rw[hj];simpa using ew) D4 hs
 ·have hj:gE i AUj=j:=by
   rw[A1o h4] at h1
   show AfX;exact zF h1
  exact BH7 w Bl' BmA
   (wpAny_getItem_list_neg (Q:=BTD) ZN Η Bj7 Η (by rw[hj];simpa using ew) (Hb D4)) hs
theorem yf2:IxR X (aa8 AG):=by
 show BCs;obtain⟨p,xs,i,z,Β,Β,hq,he,q⟩:=h;cases rx;show SC ry;show AXR io;show BCl;show DT w ew tR r.get h2;show A0L;show AJ7;have D4:ϗ w s:=BWT;exact BH7 w pl.typeIs slot_tuple_getitem.lookup
  (getItem_tuple (j:=j) (Q:=BTD) pl Η Η (AzT h1) (EF ew) (Hb D4)) hs
theorem ymp:IxR X aa9:=by
 show BCs;show SK z i c Β hz he q h;show b9;show AJ1;show BCl;have hl:z.cps.toList.length=AR7:=C8 Str.length
 rw[hl] at h1 h4 h5;show AJ7;exact tail_any (Arl s z t) slot_str_getitem.lookup (getItem_str (c:=c) (by
  have e1:Anc (i< -(B7 (2^63))):=Ayx
  have e2:Anc (i≥2^63):=Ayx
  rw[e1,e2,Bool.or_false]) (by rw[h1];simpa using h2) (BQM A3s)) hs
theorem z4s(AU:An)(n j:Δ)(u:AE):AGD (·.setIfInBounds j u) AN3=ALi ALv (.seq (its.set j u).Abz n):=C8 AGD
theorem Inv.lst{Ν:fB}{σ:St}{H:Hp}{s:AB}{p:Ζ}{xs:AQ}(I:AS)(h:A2a):
  BAh (ANK/\BPs/\kU):=by
 show Apo (À p h);exact⟨AU,n,r,e,z⟩
theorem Inv.lstUpd{Ν:fB}{σ:St}{H:Hp}{s:AB}{p:Ζ}{xs ys:AQ}{AU im :An}{n n' :Δ}{f:Obj ->Obj}(I:AS)(h:A2a)
  (ho:BPs) (hf:f AN3=BP8) (r:BKL) (hz:AWF) (t:Δ):
  KM p AOP (e_ (AGF p f) t):=by
 have e:(AGF p f).IF p=Ε BP8:=HH (AcL f ho (by rw[hf]<;>rfl)) hf
 refine AYy p p (by rw[h];trivial) UI (xy u q ((AeE AUP).JY q)) UQ ?_
 exact⟨hz,im,n',r,e⟩
def Ww:BW7:=fun o i v H Q=>∃p xs k j,o= UP/\i= ADx/\A2a/\BTV/\Q (AMY p (Aqp j v))
theorem ycb:Wh X Ww:=by
 intro Ν s σ H o i v ov iv u Q I ro ri rv h;obtain⟨p,xs,k,j,Β,Β,hp,hj,q⟩:=h;cases ro;show SC ri;obtain⟨AU,n,r,ho,hz⟩:=I.lst hp;obtain⟨h1,h2,h3,h4⟩:=ybo hj;show A0L;show AJ7;have I' :KM p (FM (Aqp j v)) (Zl (AGF p (Obj.mapSeq (·.setIfInBounds j u)))):=
  I.lstUpd hp ho (z4s AU n j u) (r.set rv j) (Do BmC hz) L'
 by_cases h0:0<=k
 ·have hk:k.toNat=j:=by
   rw[A6T h4] at h1;exact zF h1
  exact W.ki_setAt ho h0 Η (AzT h4) BOU
 ·have hk:gE k AUj=j:=by
   rw[A1o h3] at h1
   show AfX;exact zF h1
  exact W.ki_setBack ho Η (AzT h3) Η BOU
theorem zxg(BdV):BBl.1=EZ (VY n 0 lo)/\ BBl.2.1=EZ (VY n n hi)/\ BBl.2.2=1:=by
 show ã ?_ Β
 ·cases lo with
  | Ι=>simp [AcM,VY]
  | Ε i=>
   simp only [AcM,VY,BFJ,AtB (cS>0),oC]
   by_cases h:i<0
   show BKk
   show BKl
 ·cases hi with
  | Ι=>simp [AcM,VY]
  | Ε i=>
   simp only [AcM,VY,BFJ,AtB (cS>0),oC]
   by_cases h:i<0
   show BKk
   show BKl
theorem zvu(AU:An)(lo hi:SO):slicePick RS lo hi Ι=qq (BhZ its.drop AGG) (VY AGG AGG hi - VY AGG 0 lo):=by
 obtain⟨h1,h2,h3⟩:=zxg lo hi wp;unfold slicePick;rw[h1,h2,h3];simp only [sliceRange_one,pick_run,eJ]<;>rfl
def abb(AQH):AZ':=fun x lo hi H Q=>(AgQ xs ų (∀p,N_ p ->MR p (AMY p Alv)))
theorem yhn:SlR X (abb AG):=by
 intro Ν s σ H x v vl vu lo hi sl Q I rx hs pl pu h;show KA a xs hx q h;cases rx;obtain⟨AU,r,ht,hz⟩:=Pe hx;have GH:=OS;refine⟨MZ,_,BmA,ht.isList.typeIs,?_⟩;refine wpAny_getItem_list_slice ht.isList hs pl pu BI A2 ?_ Bj7
 rw[zvu,<- GH];refine AKD (AgN AK1 o (.Cc Alv) (A7Q) E2 ?_) q;exact⟨BVv,_,0,AxH r.drop,T1⟩
def qH:V ->AO
 | BE=>Μ
 | fT=>Μ
 | cy=>Μ
 | hV=>Μ
 | _=>AC
def Ma:V ->V ->AO
 | BE,BE=>Μ
 | .bl a,uA=>AHj
 | .bl a,AON=>BUj
 | AOM,uA=>a==(B5 b 1 0)
 | AOM,AON=>AHj
 | .AT a,.AT b=>AHj
 | _,_=>AC
theorem ynk{A:BV}{s:AB}{y x:V}{u v:AE}(ry:Q4)(rx:iN)(fy:qH y=Μ)(fx:qH x=Μ):BbF (Ma y x):=by
 cases y with
 | non=>
  cases ry;cases x with
  | non=>show ADu Ax2
  | bl b=>show ADu (SeqAt.EqAt.none_bool b)
  | AK b=>show b9;exact SeqAt.EqAt.none_int b t
  | AT b=>show b9;exact SeqAt.EqAt.none_str b t
  | _=>show APp fx
 | bl a=>
  cases ry;cases x with
  | non=>show ADu (SeqAt.EqAt.bool_none a)
  | bl b=>show ADu (SeqAt.EqAt.bool_bool a b)
  | AK b=>show b9;exact SeqAt.EqAt.bool_int a b t
  | AT b=>show b9;exact SeqAt.EqAt.bool_str a b t
  | _=>show APp fx
 | AK a=>
  show AJ1;cases x with
  | non=>show ADu (SeqAt.EqAt.int_none a t')
  | bl b=>show ADu (SeqAt.EqAt.int_bool a t' b)
  | AK b=>show ApO SeqAt.EqAt.int_int
  | AT b=>show ApO Bk1
  | _=>show APp fx
 | AT a=>
  show AJ1;cases x with
  | non=>show ADu (SeqAt.EqAt.str_none a t')
  | bl b=>show ADu (SeqAt.EqAt.str_bool a t' b)
  | AK b=>show ApO Bk2
  | AT b=>show ApO SeqAt.EqAt.str_str
  | _=>show APp fx
 | _=>show APp fy
def DP(x:V)(u:AE):AO:=match u with
 | BI=>Ma BE x
 | .bool b=>Ma AiQ x
 | AYr=>Ma AIs x
 | .AT z _=>Ma (.AT z) x
 | _=>AC
theorem yfy{x y:V}{u:AE}(r:Q4)(f:qH y=Μ):DP x u=Ma y x:=by
 cases y with
 | non=>show è
 | bl b=>show è
 | AK i=>show é
 | AT z=>show é
 | _=>show APp f
theorem Wx{x:V}:Be3 (us.any (DP x)=xs.any fun y=>Ma y x)
 | _,_,EO,_=>Β
 | y::xs,u::us,AJs,f=>by
  rw[AR8,eK] at f;show BNd (yfy r f.1) (Wx t f.2)
theorem Wy{A:BV}{s:AB}{x:V}{v:AE}(rx:iN)(fx:qH x=Μ):Be3 (∀u∈us,BbF (DP x u))
 | _,_,EO,_=>fun u hu=>(yv hu)
 | y::xs,u::us,AJs,f=>fun u' hu=>by
  rw[AR8,eK] at f;show ai hu hu
  show Dx (yfy r f.1) (ynk r rx f.1 fx)
  ·exact Wy rx fx t f.2 u' hu
def inV(x:V)(xs:AQ):AO:=xs.any fun y=>Ma y x
def rIn(K:Ω)(neg:AO):R2:=AIe (∃p xs,y= UP/\ (nY K H p xs\/xH K H p xs)/\qH x=Μ/\Biz/\Q (.bl (B5 neg (! inV x xs) (inV x xs))) H)
theorem zx9:ATA In (rIn AG AC):=by
 show AFc;obtain⟨p,xs,Β,hq,fx,fs,q⟩:=h;cases ry;show Ao0
 ·show AXR Pe;show Ang SeqAt.in_listAt ZN (Aoy w Ahl) Aku
  rw[Ap3,AnY]
  exact q
 ·show AXR io;show Ang SeqAt.in_tupleAt pl (Aoy w Ahl) Aku
  rw[Ap3,AnY]
  exact q
theorem znz:ATA NotIn (rIn AG Μ):=by
 show AFc;obtain⟨p,xs,Β,hq,fx,fs,q⟩:=h;cases ry;show Ao0
 ·show AXR Pe;show Ang SeqAt.notIn_listAt ZN (Aoy w Ahl) Aku
  rw[Ap3,AnY]
  exact q
 ·show AXR io;show Ang SeqAt.notIn_tupleAt pl (Aoy w Ahl) Aku
  rw[Ap3,AnY]
  exact q
theorem zn9:Ř AKc (AY7 (BeT (Q (ET OW) H))):=by
 show AYT;show KA p ys hq q h;show Su;cases rx;show AJ7;show Ao0
 ·show A2g;show AYb;exact Calls.call_len_list ZN AV3 (At' OW (BSp GH))
 ·show A2h;show AYb;exact len_tuple pl AV3 (At' OW (BSp GH))
theorem zwi:Ř AKc (AY7 (∃z,xs= [Ah']/\AyH/\Q (ET AR7) H)):=by
 show AYT;show j' z Β hz q;obtain⟨u,Β,t,Β⟩:=AR2 r;show AJ7;exact len_str Η (AYS AR7)
theorem zn3:A1H (AY7 (BeT (BbM ys))):=by
 show AYT;show KA p ys hq q h;show Su;cases rx;have D4:∀(AU:An),IZ ys AU ->AWF ->∀(h' :AJ) (c' :Δ),(∀b o',Mo OR o' ->Mo TH o') ->
   AwZ RS c' ->ϗ ż UA:=fun AU r' hz h' c' kp e=>
  (AKD (Az' kp E2 (EM (AGq _ h' _ AOP) ⟨hz,AU,c',r',e⟩)) q)
 show Ao0
 ·show A2g;show AYb;obtain⟨o,ho,hc,n,hd⟩:=ZN;exact BmD p UI ho hc hd (fun h' c' kp e=>D4 AU r' hz h' c' kp e) AV3
 ·show A2h;show AYb;obtain⟨o,ho,hc,n,hd⟩:=pl;exact BmD p (E7 Β) ho hc hd (fun h' c' kp e=>D4 AU r' hz h' c' kp e) AV3
theorem zll:ADP dP (AY7 (∃p ys,xs= [UP]/\ ((ADS nY p/\AfV l l l l AOo)\/ (ADS xH p/\MR p H)))):=by
 show AYT;show AXN p ys;show Su;cases rx;rcases h with ⟨hq,q⟩ | ⟨hq,q⟩
 ·show A2g;show AYb;refine call_tuple_list ZN (XB h' kp) AV3
  have I1:AOY:=BPb kp;have I2:KM AR9 AOo (Zl (h'.push Avp)):=
   vc (AdY AK2) (y_) E2 AOo ⟨hz,AU,r',ArM _ _⟩
  exact BWq (.B0 AR9)
 ·show A2h;exact call_tuple_same pl (AMJ UP q)
def tyV(K:Ω)(T:LT)(x:V)(H:Hp):Θ:=match x with
 | hV=>T= "str"
 | cy=>T= ARK
 | UP=>(T= MZ /\∃xs,nY K H p xs)\/ (T= dP /\∃o,YR p=Ε o/\BJ5 /\AiM)\/
   (T= dr /\ ((∃AH,UB p Op)\/∃AH,UB p AUx))\/ (T= Pc /\∃S n,UB p (.set S n))
 | _=>D8
theorem ymu{Ν:fB}{σ:St}{H:Hp}{s:AB}{T:LT}{x:V}{v:AE}(I:AS)(r:iN)(ty:tyV AG T x H):
  BPQ/\∀a,zt ->∃ob,AyF ob/\ob.dict=Ι:=by
 cases x with
 | AT z=>
  show SC r;cases (EM (T= "str") ty);exact⟨Arl s z t,M_ e l'⟩
 | AK i=>
  show SC r;cases (EM (T= ARK) ty);exact⟨typeIs_int s i t,M_ e l'⟩
 | B0 p=>
  cases r;rcases ty with ⟨Β,xs,hq⟩ | ⟨Β,o,hk,hc,hd⟩ | ⟨Β,hk⟩ | ⟨Β,S,n,hk⟩
  ·obtain⟨AU,_,pl,_⟩:=Pe hq;show ä Bl' a e;cases e;obtain⟨o,n,e,c,hd,_⟩:=pl;exact ş hd
  ·show ä ⟨o,ik p o hk,hc⟩ a e;cases e;exact⟨o,ik _ o hk,hd⟩
  ·have z:∃o,AS7 p/\BDg:=by
    rcases hk with ⟨AH,hk⟩ | ⟨AH,hk⟩
    ·obtain⟨_,_,_,_,o,_,_,e,ex,_⟩:=A4p;exact ş ex
    ·obtain⟨_,_,_,_,o,_,_,e,ex,_⟩:=A4p;exact ş ex
   show bE e ex z;show ä (ş ex.1) a e2;cases e2;exact ş ex.2.1
  ·obtain⟨o,_,_,_,e,ex,_⟩:=A4p;show ä (ş ex.1) a e2;cases e2;exact ş ex.2.1
 | _=>show pk ty
def tBM(K:Ω)(T:LT)(r:AgY)(to:TE)(t:TA):TE:=O_ to x (tyV K T x H1/\zI t xs (r x xs H2 Q))
variable{o e:AF}{es:CC}{to:TE}{t:TA}{D3:Κ}{IJ Fh:AL}{T id:LT}{r:AgY}
theorem yoh(pa:PlainAttrs T)(OP:GI T D3 id)(hty:BVd)(hm:MtR X id r)(ho:PE X o to)(ha:Akb)
  (TZ:A'v D3:=by rfl)
  (ABN:W_ (AkO HC all x x.1&&Ap5) (Ap' (SL HC)):=by rfl)
  (ZO:z_:=by rfl) (hs:fF:=by rfl) (AK_:AuL:=by rfl):
  Ayd D3 HC (tBM AG T r to t):=by
 show HP;refine wpAny_Call_method_late TZ ABN ZO Β (aE AWs v abd);obtain⟨x,H1,I1,r1,ty,q1⟩:=abd;show AFP (ymu I1 r1 ty);refine⟨T,id,pa,OP,hty,h1,h2,?_⟩;have hA:=ha Fh Ν s1 σ H1 _ I1 q1;rw[hs] at hA⊢;show A7n (by show(false || (backTo cpos (starEach es X.env)).any (·.1))=false;rw[hplain]<;>rfl) ?_
 exact bT hA fun us s2 abe=>by obtain⟨vs,H2,I2,r2,q2⟩:=abe;exact hm Ν s2 σ H2 x vs v us Q I2 r1 r2 q2
#where
def MtM(BXf):Θ:=
 ∀(Ν:fB) (s:AB) (σ:St) (H:Hp) (x:V) (xs:AQ) (v:AE) (us:An) (Q:VK),A_ AS iN gS (r x xs H Q) (A9v v)
theorem Vals.one:∀{x:V} {us:An},ABn [x] ->BY_
 | _,_,.AY r EO=>Oy r
theorem Vals.reverse{xs:AQ}{us:An}(h:gS):IZ AR_ us.reverse:=by
 induction h with
 | DB=>exact EO
 | AY r t ih=>rw[Arn,Arn];exact BDd ih (AfI r)
section
variable{X:Cx}{Ν:fB}{σ:St}{H:Hp}{s:AB}{l b:Ζ}{xs ys zs:AQ}
theorem Inv.lset{AU im :An}{n:Δ}{f:KF ->KF}{t' :Δ}(I:AS)(hH:A4d)
  (e:Au4 AN3) (hf:f RS=BmB) (hv:BKL) (hz:AWF):
  KM l AOP (e_ (AGF l (AGD f)) t'):=by
 have q:=PySem.IsL.update e f;rw[hf] at q;refine AYy l l (Do hH eP) UI (fun b' u hb hu=>(BFI BG (AGD f) AUP).JY hu) (Lm q) ?_
 exact⟨hz,im,_,hv,q⟩
theorem Inv.lnew{AU:An}{t' :Δ}(I:AS)(hv:IZ ys AU)(hz:AWF):
  KM BH AOP (e_ (ATB (AS' RS)) t'):=
 AK1 (Ll q AMG) E2 ⟨hz,AU,0,hv,T1⟩
theorem Inv.fresh(VM):N_ BH:=Abp (zN _)
theorem Inv.lstM(I:AS)(hH:A4d):kU/\BAh (ANK/\AVD AGG/\Au4 AN3):=by
 show Apo (À l hH);exact⟨z,AU,n,r,OS,e⟩
theorem yc5{n:Δ}(h:D5 n):BmG n=AC:=Ev Ayx
#where
section
variable{X:Cx}
def ykw:AgY:=fun x vs H Q=>∃l xs y,x= Q1/\vs= [y]/\A4d/\A0V/\Q BE (AMY l (xs++ [y]))
theorem zyp:MtM X BFL ykw:=by
 intro Ν s σ H x vs v us Q I rx rv h;show SK l xs y Β hH hz q h;cases rx;show Wp Β ru rv.one;obtain⟨z,AU,n,r,hl,e⟩:=I.lstM hH;refine Aro F.slot_list_append (NE e) F.entry_list_append (F.args_list_append_2 _ _) (PySem.list_append l RS n u Ajp) (D_ e)
 refine LL BE (I.lset (im :=AU++ [u]) hH e A2 (BFM (AfI ru)) ?_) q
 show BNV;omega
#where
section
variable{κ:CL}[rL]
def nu(A8S):U_:=(kvs.find? fun kv=>(Φ (kv.1=k))).B6 (·.2)
def ģ(BeL):qk:=
 HI Alr (kvs.map (A6 kv (Agp v))) (AH++ [(k,v)])
def vQ(A8S):qk:=kvs.filter fun kv=>(Φ (kv.1≠k))
theorem zuh{p:κ×V}{r:qk}{k:κ}(e:Cl=k):nu (p::r) k=Ε p.2:=AfT nu e
theorem zt0{p:κ×V}{r:qk}{k:κ}(e:¬Cl=k):nu (p::r) k=nu r k:=AfT nu e
theorem z2y(k:κ):∀AH:qk,Alr=(nu AH k).AFk
 | []=>Β
 | p::r=>by
  rw[AK9];show AP9
  ·simp only [zuh e,Pp e,Bool.true_or,BmH]
  ·rw[zt0 e,BHe,BmI];exact z2y k r
theorem zrj(BeL):A'9<=wS+1:=by
 unfold ģ;split
 ·show He;omega
 ·show AxT FI BmJ;omega
theorem n6.nA{o:U_}{u:ei}(r:n6 o u):AcO=u.isSome:=by
 cases o with
 | Ι=>cases u with
  | Ι=>rfl
  | Ε _=>exact APb
 | Ε _=>cases u with
  | Ι=>exact APb
  | Ε _=>rfl
theorem n6.getD{o:U_}{u:ei}{d:V}{d' :AE}(r:n6 o u)(rd:IE d d'):IE (o.getD d) (u.getD d'):=by
 cases o with
 | Ι=>cases u with
  | Ι=>exact rd
  | Ε _=>exact APb
 | Ε _=>cases u with
  | Ι=>exact APb
  | Ε _=>exact r
theorem KV.val(A9a):n6 A1y (AK' vs k):=by
 induction r with
 | DB=>exact ArW
 | @AY p q ps qs h t ih=>
  show AFP h;show AP9
  ·have e' :q.1=k:=Ayr;have b:AK' AnH k=Ε q.2:=BK_
   rw[zuh e,b];exact h2
  ·show A'U;have b:AK' AnH k=AK' qs k:=BK_
   rw[zt0 e,b];exact ih
theorem KV.any(A9a):Alr=vs.any fun kv=>(Φ (kv.1=k)):=by
 induction r with
 | DB=>rfl
 | AY h t ih=>show BNd ih FY
theorem KV.repl(BXo):
  KV BQU (Arb fun kv=>(Agp u)):=by
 induction r with
 | DB=>exact EO
 | @AY p q ps qs h t ih=>
  show A3U;refine .AY ?_ ih;show AFP h;show AP9
  ·rw[CH e,sd BFN e];exact⟨h1,ry⟩
  ·show BTQ;exact⟨h1,h2⟩
theorem KV.put(BXo):KV (ģ AH k y) (stored vs k u):=by
 unfold ģ stored;rw[r.any k];by_cases e:(vs.any fun kv=>(Φ (kv.1=k)))=Μ
 ·rw[CH e,CH e];exact r.repl k ry
 ·show Ì e e;exact Paired.snoc r (Hb ry)
theorem KV.drop(A9a):KV (vQ AH k) (without vs k):=by
 unfold vQ without;induction r with
 | DB=>exact EO
 | @AY p q ps qs h t ih=>
  show AFP h;rw[Ps,Ps];show AP9
  ·have a:¬(kP (Cl≠k)):=C8 e
   have b:¬(kP (q.1≠k)):=C8 Ayr
   rw[B4 a,RR b];exact ih
  ·show A'U;have a:kP (Cl≠k):=C8 e
   have b:kP (q.1≠k):=C8 e'
   rw[CH a,Y2 b];exact .AY AlY ih
theorem KV.length{AH:qk}{vs:AeQ}(r:ATu):ALs wS:=BIC
theorem ydn(A8S):So vQ AH k<=wS:=Ahm
#where
theorem Qu{P:As}{w:AW}{k:Key}{u:AE}(r:IE (kV k) u):(qx P w).is k u=Μ:=by
 cases k with
 | A0 i=>show PM t (EM (š AYl) r);subst e;exact zz3 P w i t
 | AZ x=>show PM t (EM (š AYq) r);subst e;exact zqf P w x t
theorem zyb{P:As}{w:AW}:∀{ks:Fs} {us:An},IZ (ALA kV) us ->ItemsAre AHb ks us
 | [],_,r=>by rw[Ars] at r;cases r;exact EO
 | AJb,_,r=>by
  rw[EK] at r;cases r with
  | AY h t=>exact Qb (Qu h) (zyb t)
abbrev KT(H:Hp):DD AH0 AU8:=ARO fun p q=>BZ'
theorem KT.val(BCN)(r:AQZ)(k:Fs):n6 A1y ((atKey xs k).map (·.2)):=by
 induction r with
 | DB=>exact ArW
 | @AY p q ps qs h t ih=>
  obtain⟨h1,_,h2⟩:=h;show AP9
  ·have e' :q.1=k:=Ayr;have b:ASA AnH k=Ε q.2:=BK'
   rw[zuh e,b];exact h2
  ·show A'U;have b:ASA AnH k=ASA qs k:=BK'
   rw[zt0 e,b];exact ih
theorem KT.repl(BCN)(r:AQZ)(k:Fs){y:V}{u:AE}(ry:Q4):
  KT H BQU (d4 (putAt k u)):=by
 induction r with
 | DB=>exact EO
 | @AY p q ps qs h t ih=>
  show A3U;refine .AY ?_ ih;show AZ1;unfold putAt;show AP9
  ·rw[CH e,sd BFN e];exact⟨h1,h2,ry⟩
  ·show BTQ;exact⟨h1,h2,h3⟩
theorem KT.put(BCN)(r:AQZ)(k:Fs){b:Ζ}{y:V}{u:AE}(hb:Azc)(ry:Q4):
  KT H (ģ AH k y) (storedH xs k b u):=by
 have e:Alr=BSC:=by
  rw[z2y,(r.val k).nA,Art]
 unfold ģ storedH;rw[e];show KK (BSC=Μ)
 ·rw[Hk,Hk];exact r.repl k ry
 show Axu (Paired.snoc r ⟨Β,hb,ry⟩)
theorem KT.keeps{H H' :Hp}{AH:AH0}{xs:AU8}(r:AQZ)(ht:∀b ys,qE AOo ->AUC AOo):KT H' AH xs:=
 Aqw r (Ll z BU6)
section
variable{P:As}{w:AW}{H:Hp}{h:AJ}{a:Ζ}
theorem yoa{u:HO}(ok:dC)(e:Rd H a u):AAP u:=e.ok ok
theorem Io{AH:sC}(ok:dC)(e:AXW):A'i:=
 show AAP Op from yoa ok e
theorem Qw{AH:sC}(ok:dC)(e:AJH):A'i:=Io ok (IN e)
theorem Ue{ks:Fs}(ok:dC)(e:P5 BJV):BU2 h ks a:=by
 obtain⟨_,AU,r,o,h1,h2,n,h3⟩:=(EM (AAP BJV) (ok a _ e));exact⟨o,RS,n,h1,h2,h3,CU (zyb r)⟩
theorem Qx{AH:AH0}(ok:dC)(e:A0R):Afh (∃xs,AQZ/\BOm xs):=by
 obtain⟨z,y,xs,r,o,es,ep,h1,h2,h3,h4,h5⟩:=(EM (AAP AUx) (yoa ok e));refine⟨z,y,xs,r,o,es,ep,h1,h2,h3,h4,A4X,h5⟩;have all:∀{l:AH0} {m:AU8},KT H l m ->∀x∈m,BU2 h x.1 x.2.1:=by
  intro l m q;induction q with
  | DB=>intro x hx;exact nomatch hx
  | @AY p q ps qs hq t ih=>
   intro x hx;show AoB
   show tj (Ue ok (DC hq.1 hq.2.1))
   ·exact ih x hx
 exact all r x hx
theorem yom{AH:AH0}(ok:dC)(e:P5 AUx):Afh (∃xs,AQZ/\BOm xs):=Qx ok (IN e)
#where
def sI(H:Hp)(a:Ζ)(y:V)(r:U_):Θ:=
 (∃AH k,AXW/\y=kV k/\r=nu AH k)\/∃AH k b,A0R/\y= AIJ/\Azc/\r=nu AH k
def Bx(H:Hp)(a:Ζ)(y v:V)(H' :Hp):Θ:=
 (∃AH k,AJH/\y=kV k/\A0W/\H' =upd H a (.dK A'K))\/
 ∃AH k b,P5 AUx/\y= AIJ/\Azc/\A0W/\H' =upd H a (.dT A'K)
theorem sI.k{H:Hp}{a:Ζ}{AH:sC}{k:Key}(e:AJH):sI H a (kV k) A1y:= .A0 ⟨AH,k,.A0 e,Β,Β⟩
theorem Bx.k{H:Hp}{a:Ζ}{AH:sC}{k:Key}{v:V}(e:AJH)(hl:A0W):Bx H a (kV k) v (ZZ a (.dK A'K)):= .A0 ⟨AH,k,e,Β,hl,Β⟩
section
variable{X:Cx}{Ν:fB}{σ:St}{H:Hp}{s:AB}{a:Ζ}{y v:V}{u r:AE}{o:U_}{A:BV}{E:eO}
theorem Inv.big(VM):XY BDf:=by
 have h:nX<BH:=(BlW I.bk).lt;exact Aru AD h
theorem ybn{Q:eO}(hu:AW4)(I:AS)(g:sI H a y q_)(ry:Q4)(h:BSG (IE v w')):
  ŝ (AR5 E8 u):=by
 show AqR
 ·subst ey;show AYP;obtain⟨w',hw,tR⟩:=AvY (AK' vs k) (AX l AzK)
  exact wpAny_getItem_of AQG Arv hw (h w' _ ANc tR)
 ·subst ey;show AZ8;show AmN;obtain⟨w',hw,tR⟩:=AvY ((ASA xs k).B6 (·.2)) (AX l AzK)
  show DT p hp hp2 zE.mp hw;refine wpAny_getItem_heap AjL Ao2 dd hp ?_;rw[hp2];exact h w' _ ANc tR
theorem abf{Q:eO}(hu:AW4)(I:AS)(g:ANz H)(ry:Q4)(h:∀s',AUl ->Q (yy AcO) s'):
  BXO .In:=by
 show AqR
 ·subst ey;show AYP;refine wpAny_in_of AQG hd Arv ?_;rw[<- AmX,<- l];exact AoU
 ·subst ey;show AZ8;show AmN;refine wpAny_in_heap AjL Ao2 hd dd ?_;have q:=AmX;rw[Art] at q;rw[<- q,<- l];exact AoU
theorem yj3{Q:eO}(hu:AW4)(I:AS)(g:ANz H)(ry:Q4)(h:∀s',AUl ->Q (yy (! AcO)) s'):
  BXO ADq:=by
 show AqR
 ·subst ey;show AYP;refine wpAny_notIn_of AQG hd Arv ?_;rw[<- AmX,<- l];exact AoU
 ·subst ey;show AZ8;show AmN;refine wpAny_notIn_heap AjL Ao2 hd dd ?_;have q:=AmX;rw[Art] at q;rw[<- q,<- l];exact AoU
theorem z0x{h' :AJ}{t' :Δ}{ob:HO}(I:AS)(mu:V7 (H a))(hs:Ans h')(he:A'j)(new:AGq (ZZ a ob) h' a ob):
  KM a ob AM_:=
 AYy a a mu UI (xy q z (I_ hs.2 b hb z)) he new
theorem yg5{P:As}{w:AW}{H' :Hp}{h' :AJ}{AH:sC}{vs:A0h}(z:ATp)(hd:Ad7)(rel:ATu)(dd:h'.DictOf AHb a vs):
  bN P w H' h' a Op:=⟨z,hd,vs,rel,dd⟩
theorem z6t{H' :Hp}{Q:ì}(hu:AW4)(I:AS)(g:Bx H a y v H')(ry:Q4)(rv:IE v r)(h:Alb AJZ):
  ŝ (setItem E8 u r):=by
 rcases g with ⟨AH,k,e,ey,l,eH⟩ | ⟨AH,k,b,e,ey,eb,l,eH⟩
 ·subst ey eH;obtain⟨z,hd,vs,rel,dd⟩:=qV Qw;have hz:ANe:=BJy
  have hl:D5 A'9:=MU (zrj AH k v)
  refine wpAny_setItem_pairs (hsz:=hz) AQG dd fun h' Ip hs=>AkW;have he:A'j:=BNf;exact Bdz hl (rel.put k rv)
 ·subst ey eH;show AZ8;obtain⟨z,hd,xs,rel,dd⟩:=qV yom;have hz:kU:=DC (Bk5 rel) z
  have hl:D5 A'9:=MU (zrj AH k v)
  refine wpAny_setItem_heap (hsz:=hz) AjL Ao2 dd fun h' Ip hs=>AkW;obtain⟨q,es,ep,hq,h2,h3,h4,_,h5⟩:=Ip;refine z0x I AgU hs ⟨q,hq⟩ ⟨hl,hd,_,(rel.put k eb rv).keeps (Ap c ys ec),q,es,ep,hq,h2,h3,h4,h5⟩
  rw[bW (yo2 ec e (E9 (nomatch z)))];exact ec
#where
section
variable{X:Cx}{Ν:fB}{σ:St}{H:Hp}{s:AB}{a:Ζ}{AH:sC}{k:Key}{u:AE}{A:BV}{E:eO}
theorem yoy{v:V}{d6:An}{Q:eO}(I:AS)(e:AJH)(ry:IE (kV k) u)(l:BTn)(hm:d6= []\/∃x,d6= [x])
  (h:∀w' s',KM a (.dK (vQ AH k)) s' ->IE v w' ->Q w' s'):ŝ (ANA "dict.pop" (BQ::u::d6)):=by
 obtain⟨z,hd,vs,rel,dd⟩:=qV Qw;obtain⟨w',hw,tR⟩:=A4u (AK' vs k) AzK
 have hp:AhH keyPart u:=by
  cases k with
  | A0 i=>show Ba' AYl
  | AZ x=>show Ba' AYq
 have ha:argsOk "dict.pop" (J' (BQ::u::d6)):=by
  rcases hm with q | ⟨x,q⟩
  ·subst q;exact PySem.F.args_dict_pop_2 _ _
  ·subst q;exact PySem.F.args_dict_pop_3 _ _ _
 refine ASB BmL ALB PySem.F.entry_dict_pop ha (meets_dict_pop_there AMO a AQG d6 hm hp)
  ⟨vs,w',dd,BJy,hw,fun h' Ip hs=>h w' _ ?_ tR⟩
 have he:A'j:=BNf;exact Bdz (zO (ydn AH k) z) (rel.drop k)
theorem yok{Q:eO}(I:AS)(e:AXW)(h:∀t s',AUl ->Q (.AK wS t) s'):ŝ (ANA AKc PF):=by
 show AYP;refine call_len_dict hd dd (by rw[<- BFO];rw[AKy] at z;omega) ?_
 rw[<- BFO];exact h _ _ ANc
#where
def Mf(i:AF):Θ:=∀ov iv,A_Q (Ark i AC ov iv) [ov,iv] ov iv
theorem yjm{CA:As}{w:AW}{A:BV}{E:eO}{s:AB}{BN:Env}{EV ir:AF}{Υ:AL}{T id:LT}{Q:eO}
  (hl:BYF) (hs:Mf ir)
  (h:AoL EV o (AVW (ACv ir) (UH KU (s₂.TypeIs o T/\AHU (AR5 o i) KU)))):
  LJ (ACv (AWR EV ir)):=by
 refine BFG (Y3 h (fun o EJ ZT=>Y3 ZT (Ap i KU i3) nK) nK);obtain⟨hT,i3⟩:=i3;refine z6 ?_;rw[getitemInPython_of_ne hT.not_modules];refine UE BmM hT hl;have D4:GG Ix A (Ark ir AC o i) (p_ Ĥ (AHU (letTemporaryGo EV o r>>=E6 (KW r)) Ĥ)) E KU:=AX (hs o i) (wpAny_operating (Y3 i3 (fun r Ĥ h₃=>z6 (wpAny_letTemporaryGo (z7 h₃))) nK))
 first
  | exact z7 (z6 D4)
  | exact z6 (z7 (z6 D4))
  | exact z6 D4
theorem zz9(BfW){s:AB}{a:Ζ}{y:V}{o:U_}(I:AS)(g:ANz H):BSj :=by
 rcases g with ⟨AH,k,e,_,_⟩ | ⟨AH,k,b,e,_,_,_⟩
 ·obtain⟨_,_,vs,_,dd⟩:=qV Io;exact ALB
 ·obtain⟨_,_,xs,_,dd⟩:=qV Qx;exact ALB
def Wz(td ty:TE):TE:=O_ td x (zI ty y (AgQ v (sI H2 a y q_) (Q v H2)))
def abg(ty td:TE):TE:=BdQ AcO
def yhs(ty td:TE):TE:=BdQ (! AcO)
def WD(td ty tv:TE):TS:=AVB tv v (zI td x (ty σ H2 fun y H3=>(AgQ H4 (Bx H3 a y v H4) (AG7 H4))))
section
variable{X:Cx}{o i e EV:AF}{Υ Ff tpos:AL}{td ty tv:TE}
theorem z9v(hu:g6)(ho:AVk)(hi:AwU)(hs:Mf i):A0N o i (Wz td ty):=by
 show HP;refine yjm PySem.F.slot_dict_getitem.lookup hs (Ŏ AWs u);show Ait x rx;show ACx (AHi hi) iv hz2;obtain⟨y,H2,I2,ry,a,v,ex,g,q2⟩:=hz2;subst ex;show YI;exact⟨zz9 I2 g,ybn hu I2 g ry fun w' s3 I3 tR =>⟨v,H2,I3,tR,q2⟩⟩
theorem ym7(Beh):PC X .In i o (abg ty td):=by
 show HP;refine BPG;show Ait y ry;show ACx A0r u hz2;obtain⟨x,H2,I2,rx,a,ov,ex,g,q2⟩:=hz2;subst ex;show YI;exact abf hu I2 g ry fun s3 I3=>⟨.bl ov.isSome,H2,I3,Β,q2⟩
theorem zyg(Beh):PC X ADq i o (yhs ty td):=by
 show HP;refine BPG;show Ait y ry;show ACx A0r u hz2;obtain⟨x,H2,I2,rx,a,ov,ex,g,q2⟩:=hz2;subst ex;show YI;exact yj3 hu I2 g ry fun s3 I3=>⟨.bl (! ov.isSome),H2,I3,Β,q2⟩
theorem zuk(hu:g6)(ho:AVk)(hi:AwU)(hv:Awi)(hs:AXr o i):
  ANr (AMt o i) EV (WD td ty tv):=by
 show c0;refine wpAny_Assign_Subscript (Ŏ Aij r) hs;show Ait v rv;refine bT A0r (ABx u hz2);obtain⟨x,H2,I2,rx,q2⟩:=hz2;refine bT (BAm hi) (ANa iv hz3);obtain⟨y,H3,I3,ry,a,H4,ex,g,q3⟩:=hz3;subst ex;show YI;exact z6t hu I3 g ry rv fun s4 I4=>⟨σ,H4,I4,q3⟩
#where
theorem ydl{P:As}{w:AW}{H:Hp}(h:AJ)(hb:Agy BDf):bN P w H (wq ky) MB Ayn:=
 ⟨IS,BPt hb,[],EO,Heap.DictOf.new h⟩
def Qy:TE:=AnV (BBM Ayn)
section
variable{X:Cx}{Υ:AL}
theorem yei:Ŝ Dict [] [] Qy:=Bdp (wpAny_Dict_empty (AKD (BUQ (.dK []) (Ll q AMG) E2 (ydl BG I.big)) h))
#where
structure M1 (X:Cx) (o:AF) (m:Κ) (IJ:AL) (e:AF) (Fh:AL):Θ where
 A8:A'v m
 few:W_ (AkO [e] all x x.1&&Ap5) (Ap' ([e]:CC).nv)
 ABO:z_
 trees:BU9 [e] (AvN e)
structure M2 (X:Cx) (o:AF) (m:Κ) (IJ:AL) (e f:AF) (Fh:AL):Θ where
 A8:A'v m
 few:W_ (AkO [e,f] all x x.1&&Ap5) (Ap' ([e,f]:CC).nv)
 ABO:z_
 trees:BU9 [e,f] (Bje e f)
def IsD(H:Hp)(a:Ζ):Θ:=(∃AH,AXW)\/∃AH,A0R
theorem WK(Bgb a Ζ)(I:AS)(d:IsD H a):
  BSj /\ (J_ (TD a= AIJ) (∃ob,AuN/\ob.dict=Ι))/\ Ad7:=by
 rcases d with ⟨AH,e⟩ | ⟨AH,e⟩
 ·obtain⟨_,hd,vs,_,dd⟩:=qV Io;refine⟨ALB,Aiu,hd⟩;cases q;obtain⟨ob,_,_,h1,h2,_⟩:=dd;exact BQs
 ·obtain⟨_,hd,xs,_,dd⟩:=qV Qx;refine⟨ALB,Aiu,hd⟩;cases q;obtain⟨ob,_,_,h1,h2,_⟩:=dd;exact BQs
section
variable{X:Cx}{Ν:fB}{σ:St}{H:Hp}{s:AB}{a:Ζ}{y d:V}{u r:AE}{o:U_}{A:BV}{E:eO}
theorem ymo{Q:eO}(hu:AW4)(I:AS)(g:ANz H)(ry:Q4)(rd:IE d r)(h:BSG (IE (o.getD d) w')):
  ŝ (ANA "dict.get" [BQ,u,r]):=by
 show AqR
 ·subst ey;show AYP;refine ASB BFP ALB BmN BLu (meets_dict_get_default AMO a AQG hd r) (DH Arv (h _ _ ANc ?_));rw[l];exact BXv
 ·subst ey;show AZ8;show AmN;refine ASB BFP ALB BmN BLu (meetsH_dict_get_default (Aqs (qx FH X.w)) a b hd r) ⟨BmK hu,k,xs,Ue MC eb,dd,h _ _ ANc ?_⟩;rw[l];exact BXv
#where
def Qz(td ty tx:TE):TE:=BZB (tx σ H2 fun z H3=>∃o,ANz H3/\Q (o.getD z) H3)
def QB(td ty:TE):TE:=BZB (∃AH k v,GY H2 Op/\y=kV k/\BTn/\Q v (upd H2 a (.dK (vQ AH k))))
section
variable{X:Cx}{o e f:AF}{IJ Fh:AL}{td ty tx:TE}
theorem yct(hu:g6)(ho:AVk)(he:ABy ty)(hf:PE X f tx)(m:Bf_):Ayd "get" [e,f] (Qz td ty tx):=by
 show HP;refine BmO m.base m.few m.line Arw BFP PySem.F.type_dict_get (aE AWs u abh);obtain⟨x,H1,I1,rx,a,ex,d,q1⟩:=abh;subst ex;show YI;obtain⟨t1,t2,_⟩:=WK I1 d;show Ee t1 t2;rw[m.trees];show A7n Β (AcD (bT (AHi he) fun iv s2 (A9x ry)=>
  AcD (bT (BAm hf) fun fv s3 ⟨z,H3,I3,rz,ov,g,q3⟩=>Aik)))
 exact ymo hu I3 g ry rz fun w' s4 I4 tR =>⟨_,H3,I4,tR,q3⟩
theorem yek(ho:AVk)(he:ABy ty)(m:BaR o e):Ayd "pop" [e] (QB td ty):=by
 show HP;refine BmO m.base m.few m.line Arw BmL PySem.F.type_dict_pop (aE AWs u WL);obtain⟨x,H1,I1,rx,a,ex,d,q1⟩:=WL;subst ex;show YI;obtain⟨t1,t2,_⟩:=WK I1 d;refine PR t1 t2;rw[m.trees];show A7n Β (AcD (bT (AHi he) (ABx iv CM)));obtain⟨y,H2,I2,ry,AH,k,v,ea,ey,l,q2⟩:=CM;refine BEs ?_;subst ey;exact yoy I2 ea ry l UI fun w' s3 I3 tR =>⟨v,_,I3,tR,q2⟩
#where
#print L2
namespace Att
open IB AKP Aqb JO
theorem zqr{P:Params}{h:AJ}:∀(ns:BS) (vs:An),WellAll P h vs (wt WData.int) ->AYU:=by
 intro ns;induction ns with
 | DB=>
  intro vs w;rw[Ars] at w;cases w;exact EO
 | AY n ns ih=>
  intro vs w;rw[EK] at w;cases w with
  | AY a b=>
   cases a;exact Qb _ _ (ih _ b)
theorem z7o{l:AcQ}{n:Δ}(hn:A6e){P:Params}{h:AJ}{ER:EC WData}{HU:An}
  (hpre:l.row.toRowW.claim.pre ER=Μ) (hwl:WellAll P h HU ER):
  ∃a vs ns,HU= [AME]/\ER= [WData.list (wt WData.int)]/\fN AgE/\AYU/\Aia:=by
 have hsh:WShape.hasAll [] ER [.list ft]=Μ:=(pre_splitW hpre).1;have hc:l.pre.holds [] {ER:=ER}=Μ:=(pre_splitW hpre).2;show KA d r h1 h2 (hasAllW_cons hsh);show SH (hasAllW_nil h2);show DT xs Β h3 hasW_list h1;show DE ns Β items_int h3;have GH:Aia:=by
  have h4:(WTm.not (.lt (.lit (ET L8)) (.len (.arg 0)))).holds [] {ER:= [.list ACG]}=Μ:=by
   have h4:=(holds_andW hc).1;rw[hn] at h4;exact h4
  have h5:=condW_of h4 (w_not (w_lt w_lit (w_len_list (w_arg Β))));show Atg h5;refine Nat.le_of_not_lt (G1 q);have q' :L8< EZ IG:=Τ
  first
   | (rw[Pp q'] at h5;exact AWV h5)
   | (simp at h5;omega)
 cases hwl with
 | AY w1 w2=>
  cases w2;cases w1 with
  | list ho hall=>exact⟨_,_,ns,Β,Β,ho,zqr ns _ hall,GH⟩
theorem z6c(l:AcQ)(ER:EC WData):l.row.toRowW.claim.post ER AUq ER=Μ:=
 postW_of (r:=Ary) (X:=BN4)
  (show WShape.has [] AUq .bool=Μ by first | rfl | decide | simp [WShape.has,WShape.arms,WShape.armsAll])
  (EM ((WTm.eq .res (.lit AUq)).EV [] {ER:=ER,res:=Ε AUq,after:=ER}=Ε (yy BN4)) (w_eq_bool (w_res Β) w_lit)) Β
theorem BJ{l:AcQ}{n:Δ}{q:As}{VT:Ρ}{XP:AT0 (DU)}{YP:AT0 AW}{d:Aqf}
  (hn:A6e) (hdf:BI5)
  (ğ:∀(w:AW) (NX EJ:AB) (mg mb:DU) (fa:Ζ) (o:Obj) (pm cd doc:AE) (a:Ζ) (vs:An) (ns:BS),
   cr (Ground q VT [] XP w NX mg mb ABP) (YP w ABP) (ASD fa=Ε o) (nk= .func (docDef d.name d.params d.body d.scope pm cd doc)) (s₁.heap.CodeRec cd d.name) BLz (A_ BN6 AYU Aia BKB (AIU (ARm ASE w) AcR (BA fa) AVN Bjj EJ))):
  BUZ:=by
 intro w NX EJ mg mb G Y fa o pm cd doc dV kV ho hd hcd hD hmg hg ER HU as hpre hlay hrd hwl hlo;obtain Β:dV= BI:=Dflts.none hD hdf;obtain Β:kV= BI:=Dflts.noKw hD;show SK a vs ns Β hobj hints GH (z7o hn hpre hwl);show ϫ enter_call (ğ w NX EJ mg mb fa o pm cd doc a vs ns G Y ho (fd_plain hd) hcd hmg hobj hints GH hg) AEy;obtain⟨Β,h2,h3,h4⟩:=hq;exact⟨.A0 ⟨AVO,AVO,[],Β,AWB,AVO,z6c l _,E6 ⟨ASF,M_ hm (nomatch hm)⟩⟩,h2,h3,h4⟩
section
variable{CA:As}{w:AW}{A:BV}{E:eO}{s:AB}{K:IY}
#where
#print Att
namespace L2
open IB OL JO
theorem WM:∀{vs:An} {ns:BS},AYU ->IZ (wt V.int) vs
 | _,_,EO=> EO
 | _,_,.AY n t h=> Qb uv (WM h)
def Only(H:Hp):Θ:=∀b,NH\/∃o xs,qE (.frz o AHZ)
theorem yc4{P:As}{w:AW}{K:Ω}{mg mb:DU}{CX:K3}{k:Δ}{fa a:Ζ}{fd:E_}{x:Κ}{sp:Sp}{EJ:AB}{vs:An}{ns:BS}
  (KX:Big) (hns:AeS BFQ) (hb:BFQ Aqz mb) (hbb:BaW) (hlim:s₁.heap.NoLimit) (hg:BKB)
  (ha:BN6) (hi:AYU) (hl:Bka) (hr:BIA)
  (F:BZC (eU P w K mg A8 CX k fa fd [x] sp)) (hbind:BT0)
  (hsp:∀H:Hp,Only H ->Aoq ->sp PF H A7L ű)
  (hCX:∀H e s',CX [] H EJ (ű) e s' ->D8):
  BeC:=by
 have rv:=WM hi;have lenV:=hi.length
 
 have core:∀H:Hp,Only H ->Hm Aoq (pI P w H ABP) (J_ (H b≠Ι) (b=a)) (H a≠Ι ->No YR) BeC:=by
  intro H hO hS DL hA hK;have Fy:∀{b:Ζ} {o:Obj},Bkc ->NH ->Kx (Ag ABP H).IF:=fun e n=>ycu e n;have Ws:∀{b:Ζ} {o:Obj} {es:AWb} {ep:Δ},Bkc ->nk= Afs ->NH:=fun{b o es ep} e d=>by
   cases q:H b with
   | Ι=>rfl
   | Ε u=>
    have e' :b=a:=BOB
    subst e';rw[ha] at e;cases e;have d' :Data.seq i5 _=Data.dict es ep:=d;cases d'
  have nsK:∀{b:Ζ} {m:DU},BFQ b m ->(Ag ABP H).Ns b m:=fun{b m} WQ=>by obtain⟨o,es,ep,e,d,r⟩:=WQ;exact⟨o,es,ep,Fy e (Ws e d),d,r⟩
  have hKb:Ĕ (Ag ABP H):=NC (Fy (kQ KX) (by
   cases q:H b with
   | Ι=>rfl
   | Ε u=>
    have e' :b=a:=BOB
    subst e';rw[hK (AWp q)] at e;cases e))
  have hM:Mod K mg BPA:=⟨hKb,nsK hns,⟨mb,nsK hb,hbb⟩,let ⟨mc,h1,h2⟩:=hlim;⟨mc,nsK h1,h2⟩⟩;have e0:Ai P w K mg BPA AcR [] EJ H:=⟨Β,hM,NC (yjj e),AcC (z8m _ _),eP,FS (A8q hb),DL,.of_eq hg⟩
  show Ahs ((F _ hKb (nsK hns)).run AcR [] EJ H AVN PF PF _ _ hr e0 (hbind EJ E8) A2f (hsp H hO hS)) (ATS h);cases r with
  | ZI e=>exact(hCX H e s' h).ic
  | ok fl=>
   cases fl with
   | JP=>show AYH
   | brk=>show AYH
   | NY=>show AYH
   | ret u=>
    obtain⟨v,H',os,G_,un,hok',r',q⟩:=h;have q' :v= AHz:=q;subst q';obtain Β:u=Value.bool Μ:=r';refine⟨Β,OldK.of_keep AXy,os,G_⟩;cases q:H b with
    | Ι=>exact un.keep b o e q (by intro z;exact A8q z) A2
    | Ε u=>
     rcases hO b with z | ⟨ob,xs,z⟩
     ·rw[q] at z;cases z
     ·have z2:=un.nq b ob _ z;obtain⟨e1,_⟩:=DL b _ z;obtain⟨e2,_⟩:=hok' b _ z2;rw[e] at e1;cases e1;exact e2
 cases hk:YR a with
 | Ε o=>
  
  have e:=KX a o hk;rw[ha] at e;cases e;refine core (C5 Ι) (C5 yb) (E7 ⟨_,i5,_,hk,Β,Β,Β,kM eJ lenV hl,CU rv⟩) (fun b u z=>(BPB (UK (Ι:My HO)))) (fun b z=>(ϣ z)) (AV (ϣ z))
 | Ι=>
  refine core (Ad4 (Ε (.frz AgE (FM AuU))) Ι) (yA ?_) (IN (E7 ⟨AgE,EB⟩)) (K_ u z) (fun b z=> ?_) (E6 hk)
  ·show YA
   ·exact .AZ (DH _ AhX)
   ·exact .A0 (RR hb)
  ·show YA
   ·have z' :=(Y2 hb).BFR z;cases z';subst hb;exact⟨ha,BkM hl,vs,_,rv,ha⟩
   ·have z' :=(RR hb).BFR z;cases z'
  ·show YA
   ·exact hb
   ·exact tq RR hb z
abbrev E0:XK:=ű
structure dO (BYb) (st:AN) (f:Ζ) (fd:E_):Θ where
 ex:∃(oc:AE) (od:OB) (kV doc pm:AE) (an:OB) (cdv ct:AE) (osl:ADm),
  fd=Ard x EI AH3 k_ xj BI kV doc pm an cdv ct/\AoA (.func fd) osl/\A9n
 kp:AUZ
section
variable{P:As}{w:AW}{K:Ω}{mg:DU}{A8:AJ}
theorem dO.binds(AAX){st:AN}{f:Ζ}{fd:E_}{ps:Ρ}(F:AY6)
  (h:BgT us An (ng=II ->BTb (Ard x EI AH3 k_ xj BI kV doc pm an cdv ct))):ACg:=by
 show Atd F.ex;exact .all (h kV doc pm an cdv ct)
#where
def Id(H H' :Hp):Θ:=AUO H H'
theorem Same.refl(H:Hp):ß H:=A0j
theorem Same.trans{H H1 H2:Hp}(a:A2S)(b:Id H1 H2):Id H H2:=fun c o h=>b c o (a c o h)
theorem Same.free{H H' :Hp}(e:APE){l:Ζ}(h:H' l=Option.none):H l=Option.none:=by
 cases q:H l with
 | Ι=>rfl
 | Ε o=>
  rw[e l o q] at h;cases h
theorem Same.seq{K:Ω}{H H' :Hp}{a:Ζ}{xs:AQ}(e:APE)(h:ų):nY K H' a xs:=by
 show Ag2 h h h h
 ·exact AJT e h
 ·exact AnL (e _ _ h)
 show KL h
#print L2
namespace L3
open IB OL JO L2
abbrev St:=L2.St
inductive D where
 | non | bl (b:AO) | AK (i:Ψ) | AT (x:Κ) | tup (xs:AM) | Cc (xs:AM) | exc (C:Ζ) | ptr (a:Ζ)
 | obj (C:Ζ) (fs:Ρ) (xs:AM) | dic (ks:Fs) (xs:AM) | rR (ks:pj Key) (xs:AM) | dik (ks:Fs) (xs:AM)
def vh(a C:Ζ):HO:= Al9 (∃o vs,ϱ/\o.cls= HE/\nk= AMo/\ (A7V ArG))
def QC(F:Hp)(a:Ζ):Θ:=∃o C,A0w
inductive IsT (Bd'):Θ
 | mk:BTO (xH K F a vs) (IsT K F R v)
inductive WR (Bd'):Θ
 | mk:BTO Awb (WR K F R v)
inductive WT (F:Hp) (C:Ζ) (fs:Ρ) (R:AUk) (v:V):Θ
 | mk:∀a dx vs,A_ zt (AHl Azp) AO9 (R vs) (WT F C fs R v)
inductive WW (BNB):Θ
 | mk:BfE (AHl œ) WW
inductive WX (F:Hp) (ks:pj Key) (R:AUk) (v:V):Θ
 | mk:BfE (Rd F a (.dT Ń)) WX
inductive WY (BNB):Θ
 | mk:∀a o vs,A_ zt (AHl Avo) gL (R vs) (WY F ks R v)
inductive IsC (P:Fk V) (R:AUk) (vs:AQ):Θ
 | mk:∀v r,vs=v::r ->P v ->R r ->IsC P R vs
mutual
def Rep(K:Ω)(F:Hp):DD D V
 | BE,v=>v= BE
 | uA,v=>v= uA
 | FU,v=>v= FU
 | ç,v=>v= ç
 | AJI,v=>IsT K F AKF v
 | Ahf,v=>WR K F AKF v
 | .exc C,v=>∃a o,v= BQ/\A0w
 | .ptr a,v=>zt
 | Aiv,v=>WT F C fs AKF v
 | AB' ds,v=>WW F ks AKF v
 | .rR ks ds,v=>WX F ks AKF v
 | .dik ks ds,v=>WY F ks AKF v
def aL(K:Ω)(F:Hp):DD AM AQ
 | [],vs=>vs= []
 | hW,vs=>IsC (Rep K F d) AKF vs
end
theorem vm{K:Ω}{H H' :Hp}{a:Ζ}{xs:AQ}(e:APE)(h:AEl):xH K H' a xs:=by
 show Ag2 h h h h
 ·exact AJT e h
 ·exact AnL (e _ _ h)
 show KL h
theorem Ir{F H:Hp}{a:Ζ}{u:HO}(s:t9)(r:Rd F a u):Rd H a u:=by
 rcases r with r | ⟨o,r⟩
 ·exact .A0 (s _ _ r)
 show KL (rV (s _ _ r))
mutual
theorem zu6(BKP):∀(d:D) (v:V),Qr ->lx
 | BE,_,h=>OE
 | fT,_,h=>OE
 | cy,_,h=>OE
 | hV,_,h=>OE
 | AJI,_,h=>by
  show AoY;exact⟨a,vs,h0,vm e h1,Aeu h2⟩
 | Ahf,_,h=>by
  show AoY;exact⟨a,vs,h0,e.seq h1,Aeu h2⟩
 | AEH,_,h=>OE
 | .exc C,_,h=>by
  show j' a o h0 h1;exact⟨a,o,h0,Ai3⟩
 | Aiv,_,h=>by
  show A5w;exact⟨a,dx,vs,h0,Ai3,h3,AlO⟩
 | AB' ds,_,h=>by
  obtain⟨a,vs,h0,h1,h3,h4⟩:=h;exact⟨a,vs,h0,Ai3,h3,AlO⟩
 | .rR ks ds,_,h=>by
  obtain⟨a,vs,h0,h1,h3,h4⟩:=h;exact⟨a,vs,h0,Ir e h1,h3,AlO⟩
 | .dik ks ds,_,h=>by
  obtain⟨a,o,vs,h0,h1,h3,h4⟩:=h;exact⟨a,o,vs,h0,Ai3,h3,AlO⟩
theorem Og(BKP):∀(ds:AM) (vs:AQ),L5 ->AH5
 | [],_,h=>OE
 | hW,_,h=>by
  obtain⟨v,r,h0,h1,h2⟩:=h;exact⟨v,r,h0,zu6 e d v h1,Og e ds r h2⟩
end
theorem Rep.up(Bbq)(h:Qr)(e:Fu):lx:=zu6 e d v h
theorem aL.up{K:Ω}{F F' :Hp}{ds:AM}{vs:AQ}(h:L5)(e:Fu):AH5:=Aeu h
theorem j7(OI):A'X (ABf Kb)
 | [],_,h=>by show DJ aL;subst h;rfl
 | DV,_,h=>by
  show DJ aL;obtain⟨v,r,Β,_,h2⟩:=h;simp only [FI,j7 h2]
theorem yF(OI):∀{ds:AM} {vs:AQ} {i:Δ} {d:D},L5 ->A6p ->AkY APJ
 | [],_,_,_,_,e=>AXL
 | DV,_,0,_,h,e=>by
  obtain⟨v,r,Β,h1,_⟩:=h;simp at e;subst e;exact AJO h1
 | DV,_,D9,d,h,e=>by
  obtain⟨v,r,Β,_,h2⟩:=h;show EQ u e1 e2 (Ý yF) h2 AI5
  exact BQr
theorem zx5(OI):∀{ds:AM} {vs:AQ} {i:Δ} {v:V},L5 ->APJ ->∃d,A6p/\Qr
 | [],_,_,_,h,e=>by subst h;simp at e
 | d::_,_,0,_,h,e=>by
  obtain⟨v,r,Β,h1,_⟩:=h;simp at e;subst e;exact P9 d h1
 | DV,_,D9,v,h,e=>by
  obtain⟨v',r,Β,_,h2⟩:=h;show EQ u e1 e2 (Ý zx5) h2 AI5
  exact BQr
theorem Oh(OI):∀{ds es:AM} {vs us:AQ},L5 ->A4Y ->On (ds++es) (vs++us)
 | [],_,_,_,h,k=>by subst h;exact k
 | DV,_,_,_,h,k=>by
  show Amq v;exact⟨v,_,Β,h1,Oh h2 k⟩
theorem Oi(Aou)(h:Qr):On [d] [v]:=Ev ⟨v,[],Β,h,N9⟩
theorem rW(OI){d:D}{v:V}{ds:AM}{vs:AQ}(h:Qr)(k:L5):On Ai0 (v::vs):=Ev (qi v h k)
theorem zpr(OI):BfN ds.take vs.take
 | _,_,0,_=>C8 aL
 | [],_,_+1,h=>A8O
 | DV,_,n+1,h=>by
  show Amq u;exact rW h1 (zpr n h2)
theorem zr5(OI):BfN ds.drop vs.drop
 | _,_,0,h=>h
 | [],_,_+1,h=>A8O
 | DV,_,n+1,h=>by
  show Amq u;exact zr5 n h2
def vR(H:Hp)(b:Ζ)(o:HO):Θ:=NH\/ (∃xs,o= cf)/\Kx H
theorem AcT(s:A2S)(h:vR H1 b o):vR H b o:=by
 rcases h with h | ⟨⟨xs,e⟩,h⟩
 ·exact .A0 (Ar0 h)
 ·cases q:H b with
  | Ι=>exact .A0 q
  | Ε u=>
   have:=s _ _ q;show B8 h;show E3;exact .AZ (ADa ⟨xs,e⟩)
structure Gr (F H F' H' :Hp):Θ where
 f:Fu
 g:AGw F'
 h:APE
 n:ay (Kx F') kK (vR H b o)
theorem ĥ(h:t9):Gr F H F H:=vy h kB
theorem Gr.trans(a:Gr F H F1 H1)(b:Gr F1 H1 F2 H2):Gr F H F2 H2:=by
 refine⟨a.f.trans b.f,b.g,a.h.trans b.h,KE c o e n⟩;cases q:F1 c with
 | Ι=>exact AcT a.h (b.n c o e q)
 | Ε u=>have:=b.f _ _ q;show t_;show E3;exact a.n c _ q n
theorem AcU(h:t9)(hp:N_ p):Gr F H (ABQ F p o) (ABQ H p o):=by
 refine⟨IU,IU,IU,BR0⟩
 show Dx (AIM h hp) e
 ·show ABt p
  ·subst hb;rw[iD] at e⊢;exact e
  ·rw[ub] at e⊢;exact UY h
 show AEU hp e
 ·show ABt p
  ·subst hb;exact .A0 hp
  ·rw[ub,n] at e;cases e
inductive T where
 | leaf (d:D) | Cc (ts:HK) | dic (ks:Axi) (ts:HK) | rR (ks:pj L2.Key) (ts:HK) | ob (BUE) | kt (k:Axi)
def o8:Key ->D | AOT=> FU | Ũ=> ç
def Gw(fs:Ρ):AO:= !(Φ (fs= [(YY :Κ)]))
inductive TrL (H:Hp) (R:AYj) (v:V) (as:Bi):Θ
 | mk:∀a vs bs,A_ zt (as=ACd) AOu (R vs bs) (TrL H R v as)
inductive TrK (H:Hp) (ks:Axi) (R:AYj) (v:V) (as:Bi):Θ
 | mk:BdK (P5 œ) (TrK H ks R v as)
inductive TrT (H:Hp) (ks:pj L2.Key) (R:AYj) (v:V) (as:Bi):Θ
 | mk:BdK (P5 (.dT Ń)) (TrT H ks R v as)
inductive TrO (H:Hp) (C:Ζ) (fs:Ρ) (R:AYj) (v:V) (as:Bi):Θ
 | mk:∀a dx vs bs,zt ->as=AWW ->P5 Azp ->A_ A4v AO9 (Gw fs=Μ) (R vs bs) (TrO H C fs R v as)
inductive TrC (P:DD V Bi) (R:AYj) (vs:AQ) (as:Bi):Θ
 | mk:∀v us bs cs,A_ (vs=v::us) (as=Am_) (P v bs) (R us cs) (TrC P R vs as)
mutual
def TR(BBr):T ->DD V Bi
 | cK,v,as=>as= []/\Qr
 | tw,v,as=>TrL H AZv v as
 | ó,v,as=>TrK H ks AZv v as
 | AE_,v,as=>TrT H ks AZv v as
 | AFV,v,as=>TrO H C fs AZv v as
 | .kt k,v,as=>as= []/\∃a,v= BQ/\AHl Bh8
def fQ(BBr):HK ->DD AQ Bi
 | [],vs,as=>vs= []/\as= []
 | c_,vs,as=>TrC (TR K F H t) AZv vs as
end
section
variable{K:Ω}{F H F' H' :Hp}
mutual
theorem ABR(f:Fu):BBw AgP (AHg t v as)
 | cK,v,as,k,h=>Ev ⟨FY,(h.2).up f⟩
 | tw,v,as,k,h=>by
  show A5s;exact⟨a,vs,bs,e1,Β,APl,A1Q⟩
 | ó,v,as,k,h=>by
  show AQy;exact⟨a,vs,bs,e1,Β,APl,e4,A1Q⟩
 | AE_,v,as,k,h=>by
  show AQy;exact⟨a,vs,bs,e1,Β,APl,e4,A1Q⟩
 | AFV,v,as,k,h=>by
  show A5x;exact⟨a,dx,vs,bs,e1,Β,APl,k dx (zW _ zY) _ e4,e5,e6,A'H oP⟩
 | AI7,v,as,k,h=>by show j' e a e1 e2;exact⟨e,a,e1,f _ _ e2⟩
theorem oP(f:Fu):BBx AgP A5O
 | [],vs,as,k,h=>OE
 | c_,vs,as,k,h=>by
  show Am6;exact⟨v,us,bs,cs,e1,Β,A_H ABR,BBa oP⟩
end
def LD(u:HO):Θ:=(∃vs,u= .Cc vs)\/ (∃AH,u= AlX)\/ (∃AH,u= .dT AH)\/ (∃C dx kvs,u= .ins C dx kvs/\Gw (kvs.map (·.1))=true)\/∃a,u= .A7 a
theorem z3s:ANQ fs Ρ AO9 (DF Arz vs (·.1)=fs)
 | [],_,_=>Β
 | DV,[],h=>D1
 | m_,AEp,h=>BWD z3s
theorem LD.tup(h:LD f_):D8:=Bfh
theorem LD.frz(h:LD (.frz o u)):D8:=Bfh
theorem LD.ins(h:LD (AGx AH)):Gw (kvs.map (·.1))=Μ:=by
 rcases h with ⟨_,z⟩ | ⟨_,z⟩ | ⟨_,z⟩ | ⟨_,_,_,z,q⟩ | ⟨_,z⟩<;>cases z
 exact q
mutual
theorem ALC:∀(t:T) (v:V) (as:Bi),AIC ->Al7 (∃u,AHD/\mv)
 | cK,v,as,h,a,ha=>Age FY
 | tw,v,as,h,a,ha=>by
  obtain⟨b,vs,bs,e1,Β,e3,h⟩:=h;show AZS
  ·exact DH e3 (.A0 FG)
  ·exact ApY
 | ó,v,as,h,a,ha=>by
  obtain⟨b,vs,bs,e1,Β,e3,_,h⟩:=h;show AZS
  ·exact DH e3 (.AZ (IN FG))
  ·exact ApY
 | AE_,v,as,h,a,ha=>by
  obtain⟨b,vs,bs,e1,Β,e3,_,h⟩:=h;show AZS
  ·exact DH e3 (ACq (IN FG))
  ·exact ApY
 | AFV,v,as,h,a,ha=>by
  obtain⟨b,dx,vs,bs,e1,Β,e3,e4,e5,e6,h⟩:=h;show AZS
  ·exact DH e3 (ACq (E7 (IN (LL _ _ (SD z3s e5 e6)))))
  ·show AZS
   ·exact DH e4 (ACq (E7 (E7 FG)))
   ·exact ApY
 | AI7,v,as,h,a,ha=>Age FY
theorem ALD:∀(ts:HK) (vs:AQ) (as:Bi),AH9 ->Al7 (∃u,AHD/\mv)
 | [],vs,as,h,a,ha=>Age h.2
 | c_,vs,as,h,a,ha=>by
  show Am6;show UD ha ha ha
  ·exact ALC t v bs h1 a ha
  ·exact ALD ts us cs h2 a ha
end
#where
mutual
def toD:T ->D
 | cK=>d
 | tw=> .Cc AUu
 | ó=> P6 ks (j8 ts)
 | AE_=> .rR ks (j8 ts)
 | AFV=> .obj C fs AUu
 | .kt k=> BOi
def j8:HK ->AM
 | []=> []
 | c_=>toD t::j8 ts
end
theorem W0(OI):∀ks:Fs,On (ALA o8) A0e
 | []=>N9
 | AOT::ks=>rW KB (W0 ks)
 | Ũ::ks=>rW KB (W0 ks)
section
variable{K:Ω}{F H F' :Hp}
mutual
theorem AcV(f:Fu):BBw (AeO Ajj) (ALz (toD t) v)
 | cK,v,as,k,h=>Ev ((h.2).up f)
 | tw,v,as,k,h=>by
  show A5s;exact⟨a,vs,e1,x_ BYK,A1R⟩
 | ó,v,as,k,h=>by
  show AQy;exact⟨a,vs,e1,APl,e4,A1R⟩
 | AE_,v,as,k,h=>by
  show AQy;exact⟨a,vs,e1,.A0 BYK,e4,A1R⟩
 | AFV,v,as,k,h=>by
  show A5x;exact⟨a,dx,vs,e1,APl,e5,A'H ALE⟩
 | .kt k,v,as,_,h=>by
  obtain⟨_,a,e1,e2⟩:=h;exact⟨a,_,e1,AJT f e2,W0 k⟩
theorem ALE(f:Fu):BBx (AeO Ajj) (ATO AUu)
 | [],vs,as,k,h=>Ev FY
 | c_,vs,as,k,h=>by
  show Am6;exact⟨v,us,e1,A_H AcV,BBa ALE⟩
end
#where
inductive GI where
 | no | pu (d:D) | ow (ds:AM) | tr (as:Bi) (t:T) | nt (as:Bi) (ts:HK) | xe (as:Bi) (C:Ζ) (fs:Ρ) (ts:HK)
inductive SlO (Al2) (ds:AM) (o:U_):Θ
 | mk:∀a vs,A1Z ->A_ AOu AEP È L5 BQX
inductive SlT (Al2) (as:Bi) (t:T) (o:U_):Θ
 | mk:∀v,A_ A1Y oQ Ama AIC BSc
inductive SlN (Al2) (as:Bi) (ts:HK) (o:U_):Θ
 | mk:∀p vs,o=Ε (BA p) ->A_ (F p=Ε (IO vs)) oQ Ama AH9 BSd
inductive SlX (Al2) (as:Bi) (C:Ζ) (fs:Ρ) (ts:HK) (o:U_):Θ
 | mk:∀a oe dx vs,A_ A1Z (AHl Atw) (Ar1=Ε dx) (F dx=Ε (.xd Auv)) (A_ AO9 oQ Ama AH9 BfP)
def oM(AT8)(F H H0:Hp):DD GI U_
 | C_,_=>JS
 | .pu d,o=>AkY A1Y
 | .ow ds,o=>BQX
 | Ŗ t,o=>BSc
 | .nt as ts,o=>BSd
 | .xe as C fs ts,o=>BfP
def gW:GI ->DD U_ Ζ
 | .ow _,o,a=>A1Z
 | Ŗ _,_,a=>Akh
 | .nt as _,_,a=>Akh
 | .xe as _ _ _,_,a=>Akh
 | _,_,_=>D8
inductive pN (Γ:tJ) (σ:St) (i:Δ) (a:Ζ):Θ
 | mk:∀s o,AXJ ->AEw ->Å ->AY0 i
structure SR (Be7) (σ:St) (Γ:tJ):Θ where
 gr:AQu
 len:Abi=ASG
 sl:∀(i:Δ) s,AXJ ->∃o,AEw/\AQd
 ap:∀(i j:Δ) a,AY0 i ->AY0 j ->i=j
section
variable{K:Ω}{F0 H0 F H F' H' :Hp}{σ:St}{Γ:tJ}
theorem SR.g(R:GT):t9:=R.gr.g
theorem Ds(r:AQd)(h:Å):AEP/\È/\∃u,AHD/\mv:=by
 cases s with
 | no=>exact oS
 | pu d=>exact oS
 | ow ds=>obtain⟨b,vs,Β,h1,h2,h3,_⟩:=r;cases h;exact⟨h2,h3,_,h1,.A0 FG⟩
 | tr as t=>obtain⟨v,_,_,h2,h3⟩:=r;exact⟨(h2 a h).1,A7R,ALC t v as h3 a h⟩
 | nt as ts=>obtain⟨p,vs,_,_,_,h2,h3⟩:=r;exact⟨(h2 a h).1,A7R,ALD ts vs as h3 a h⟩
 | xe as C fs ts=>obtain⟨_,_,_,vs,_,_,_,_,_,_,h2,h3⟩:=r;exact⟨(h2 a h).1,A7R,ALD ts vs as h3 a h⟩
theorem QD(r:AQd)(f:Fu)(k:∀a,Å ->rh/\AgP):Baa:=by
 cases s with
 | no=>trivial
 | pu d=>
  show kG e r r;exact⟨v,e,r.up f⟩
 | ow ds=>
  obtain⟨a,vs,e,e1,e2,e3,r⟩:=r;obtain⟨k1,k2⟩:=k a e;exact⟨a,vs,e,k2 _ e1,k1,e3,r.up f⟩
 | tr as t=>
  obtain⟨v,e,nd,h,r⟩:=r;exact⟨v,e,nd,A9q,A3r f Bi9 r⟩
 | nt as ts=>
  obtain⟨p,vs,e,e1,nd,h,r⟩:=r;exact⟨p,vs,e,f _ _ e1,nd,A9q,Bbp⟩
 | xe as C fs ts=>
  obtain⟨a,oe,dx,vs,e,e1,e2,e3,e4,nd,h,r⟩:=r;exact⟨a,oe,dx,vs,e,f _ _ e1,e2,f _ _ e3,e4,nd,A9q,Bbp⟩
theorem z3z(r:AQd)(g:rq):Baa:=
 QD r g.f (AfM (by
  obtain⟨h1,_,u,h3,ld⟩:=Ds r ha;show Db ?_ (fun u e=>g.h _ _ e);cases q:F' a with
  | Ι=>rfl
  | Ε w=>
   rcases g.n a w q h1 with z | ⟨⟨xs,e⟩,z⟩
   ·rw[h3] at z;cases z
   ·rw[h3] at z;cases z;subst e;exact BFS))
theorem SR.grow(R:GT)(g:rq):AYL:=by
 refine⟨R.gr.trans g,Ħ,WV i s,ABT⟩;show bE e1 r (VZ i s e);exact⟨o,e1,z3z r g⟩
theorem W3(h:pN (ō s) (AAy i o) j a):(j=i/\Å)\/ (j≠i/\AY0 j):=by
 obtain⟨t,p,e1,e2,h⟩:=h;by_cases hj:i=j
 ·subst hj;have hi:i<ASG:=by
   show dA (AV8 ASG)
   ·exact h
   ·rw[ALH AWK] at e1;cases e1
  have hi' :i<Abi:=by
   show dA (AV8 Abi)
   ·exact h
   ·rw[ALH AWK] at e2;cases e2
  rw[Abq hi] at e1;show AX6 hi';cases e1;cases e2;exact .A0 (Hb h)
 ·rw[BIm] at e1 e2;exact .AZ ⟨AKl hj,t,p,e1,e2,h⟩
def Apart(σ:St)(Γ:tJ)(a:Ζ):Θ:=∀j,¬(AY0 j)
theorem SR.apart(R:GT)(h:zo):AEt:=fun j Bz=>by
 obtain⟨s,o,e1,e2,q⟩:=Bz;obtain⟨o',e3,r⟩:=VZ j s e1;rw[e2] at e3;cases e3;obtain⟨_,_,u,e,_⟩:=Ds r q;rw[h] at e;cases e
theorem SR.put(R:GT)(i:Δ)(r:AQd)(ha:∀a,Å ->AEt):A5f (AAy i o) s:=by
 refine⟨R.gr,C8 Ħ,WV j t,GN j k a e1 e2⟩
 ·by_cases hj:i=j
  ·subst hj;have hi:i<ASG:=by
    show dA (AV8 ASG)
    ·exact h
    ·rw[ALH (EF h)] at e;cases e
   rw[Abq hi] at e;cases e;exact⟨o,Abq (AX Ħ hi),r⟩
  ·rw[BIm] at e;rw[Abr hj];exact VZ j t e
 ·rcases W3 e1 with ⟨Β,q1⟩ | ⟨n1,q1⟩
  ·rcases W3 e2 with ⟨Β,_⟩ | ⟨_,q2⟩
   ·rfl
   ·exact(ha a q1 _ q2).ic
  ·rcases W3 e2 with ⟨Β,q2⟩ | ⟨_,q2⟩
   ·exact(ha a q2 _ q1).ic
   ·exact ABT j k a q1 q2
theorem SR.set(R:GT)(i:Δ)(r:Qr):A5f AVf AJM:=BS8 (AJO r)
theorem SR.drop(R:GT)(i:Δ)(o:U_):SR K F0 H0 F H (AAy i o) AEn:=BS8 eP
theorem SR.setOw(R:GT)(i:Δ)(h1:AOu)(h2:AEP)(h3:È)(r:L5)(ha:AEt):
  A5f (AAy i AG1) ð:=R.put i ⟨a,vs,Β,h1,h2,h3,r⟩ fun b h=>by cases h;exact ha
theorem z3j(g:t9)(h1:AOu)(h2:AEP):pd An0/\ß An0:=by
 show Db IU IU
 show AEU h2 e
 ·show YA
  show A8n h1
  ·rw[ub] at e;exact UY g
theorem SR.frzM(R:GT)(s1:Fu)(s2:ß F')(n:qo (MQ F') kK (P3 H0/\AL4 b)):Aut:=by
 refine⟨⟨R.gr.f.trans s1,s2,ASI,ACu e q⟩,Ħ,WV j s,ABT⟩
 ·cases z:F b with
  | Ι=>exact .A0 (n b o e z).1
  | Ε u=>have:=s1 _ _ z;show t_;show E3;exact R.gr.n b _ z q
 ·show bE e1 r (VZ j s e);refine⟨o,e1,QD r s1 (AGy ?_ (M_ q q))⟩;obtain⟨h1,_,_⟩:=Ds r hb;cases q:F' b with
  | Ι=>rfl
  | Ε u=>exact((n b u q h1).2 j ⟨s,o,e,e1,hb⟩).ic
theorem SR.frzA(R:GT)(h1:AOu)(h2:AEP)(h3:È)(ha:AEt):xi An0 H:=by
 obtain⟨s1,s2⟩:=BQY;refine R.frzM s1 s2 BR0;show YA
 ·subst hb;exact⟨h3,ha⟩
 ·rw[ub,n] at e;cases e
theorem Oj(e1:AEw):AAy i o=σ:=by
 show DE hl e2 d_ e1;rw[<- e2];simp
theorem SR.less(R:GT)(e:AXJ)(e1:AEw)(h:Å):ABq AEn a:=fun j q=>by
 have q' :pN AEn (AAy i o) j a:=BVp
 rcases W3 q' with ⟨_,z⟩ | ⟨n,z⟩
 ·exact z
 ·exact n (ABT j i a z ⟨s,o,e,e1,h⟩)
theorem SR.dropAt(R:GT)(e1:AEw):ja F H AEn:=by
 have q:=R.drop i o;rw[Oj e1] at q;exact q
theorem SR.frz(R:GT)(e:kT ð):∃a F',Ajf/\Fu /\ja F' H (ō Aib)/\ALz AMl E8:=by
 obtain⟨o,e1,a,vs,Β,h1,h2,h3,r⟩:=APG;obtain⟨s1,_⟩:=BQY;have rp:Rep K An0 AMl E8:=Ev (qi a AUN (r.up s1))
 have R2:=((AcW e1).frzA h1 h2 h3 (ASJ e e1 A8P)).set i rp;show AZD R2;exact⟨a,_,e1,s1,R2,rp⟩
theorem SR.wrO(R:GT)(e:AXJ)(e1:AEw)(h:Å)(r:oM K F AQl H0 t o)(ht:J_ (gW t o b) (gW s o b)):
  ja F AQl (ō t):=by
 obtain⟨o',e2,r0⟩:=APG;rw[e1] at e2;cases e2;obtain⟨h2,h3,w,h1,_⟩:=Ds r0 h;have hi:i<ASG:=SW e;have R1:ja F AQl AEn:=by
  have R0:=AcW e1;show Bcn Ê
  show Dx (ATJ h2) (R0.g b u q)
  show Dx (ATJ h3) (R0.gr.h b u q)
  ·show AZX (R0.sl j s' q);show A'w;have:QQ:=AV (by subst z;exact BZI h)
   rw[bW Χ];exact q'
 have R2:=Ar2 i r (FS (ASJ e e1 (ht b hb)));show AZD R2;exact R2
theorem SR.wr(R:GT)(e:kT ð)(e1:Ajf)(r:A4Y):
  ja F (AXK (FM us)) (ō (.ow es)):=by
 show bE e2 r0 APG;rw[e1] at e2;cases e2;obtain⟨h2,h3,_⟩:=Ds r0 A8P;exact R.wrO e e1 A8P ⟨a,us,Β,iD,h2,h3,r⟩ (FS hb)
theorem SR.base(R:GT):SR K F H0 F H σ Γ:=⟨vy R.g ASI,Ħ,VZ,ABT⟩
theorem Gr.unbase(g:AQu)(g' :Afl H0):AMf F0 H0 :=by
 show AZN (BFU g'.f) g'.g g'.h;cases q:F b with
 | Ι=>exact g'.n b o e q
 | Ε u=>have:=g'.f _ _ q;show t_;show E3;exact g.n b _ q n
theorem SR.unbase(g:AQu)(R:Bcf H0):AxG :=⟨g.unbase R.gr,Ħ,VZ,ABT⟩
#where
inductive TrY (h B:AJ) (e:Ζ) (cls:AE) (dd:OB) (fl:AE):Θ
 | mk:∀oe vs T oT ts,Au1 oe ->A_ (BQ3 dd (A7V dd)) (AcX= AMo) (IM vs 1 (BA T)) (AcY T=Ι) (A_ (T≠e) (AM0 T oT) BNP (IM ts 3 fl) Bfj)
def W4(B:AJ)(l:L4)(a:Ζ)(cls:AE)(dx:OB)(h:AJ):Θ:=
 ASK h/\Ayu/\A1X B/\
  (TrY h B a cls dx BI\/∃oe vs,fN oe/\BQ3 dx (AcX= AMo/\Bg4 1/\ (A7V dx)))
def yG(B:AJ)(l:L4)(e:Ζ)(cls:AE)(dd:OB)(fl:AE)(h:AJ):Θ:=ASK h/\AcY e=Ι/\A1X B/\Bfj
theorem yG.there(x:yG B l e cls dd fl h):∃ob,Au1 ob/\ob.cls=cls:=by
 obtain⟨_,_,_,oe,_,_,_,_,he,hc,_⟩:=x;exact⟨oe,he,hc.1⟩
section
variable{M:ARj}{A:BV}{E:eO}{s:AB}{B:AJ}{BN:Env}{Cf:L4}{L a:Ζ}{cls fl:AE}{dd:OB}{Q:ì}
theorem z7j(f:KF ->KF)(o:Obj):(BmQ f o).dict=ArG:=by
 unfold BmQ;split<;>rfl
theorem Ug{h:AJ}{T b:Ζ}{oT o:Obj}{ts:KF}(hT:AM0 T oT)(hd:BNP)(hb:r_)(hn:∀vs,nk≠ AMo):b≠T:=Q3 (by
 rw[q,hT] at hb;injection hb with hb;subst hb;exact hn ts hd)
theorem Iu{l:L4}(x:yG B l a cls dd fl BG)(hQ:Aw5 (yG B l a cls dd BI h')):Ç (setFlight E8 Ι):=by
 obtain⟨f1,f2,f3,oe,vs,T,oT,ts,he,hk,hd,h1,hB,hne,hT,hdT,h3⟩:=x;have far:BVu (s.heap.update T (Obj.mapFields (·.setIfInBounds 3 ((none:Option Addr).elim Value.none fun f=>rawInt f)))):=FS AnR;have hz:3<ts.size:=BOH;refine z6 A9_;show Go A2
 refine AGH hT hdT hz (hQ _ ⟨K_ o q,f2,f3.of_keeps (ύ (Aid ?_)),oe,vs,T,_,_,I_ far a Azg he,hk,hd,h1,hB,hne,Bhi hT hdT,AcZ hdT _,C8 hz⟩ (ύ (D_ o.slots)))
 ·exact BQ5 (f1 b o q)
 ·exact ApW q
 ·exact ApW q
theorem Iv{oe:Obj}{vs:KF}{head:AE}{d6:AO}(hfr:Ag_ ADo)(hl:Ag4 B ADo)(hf:A6f)(he:AyF oe)(hkb:ASK BG)(hen:Ayu)
  (hd:AcX= AMo) (hz:1<vs.size) (h2:AU7\/Ar1≠Ι) (hQ:BUK Ar3 Ar1):
  Ç (do let x<- frameOf BN;let pl<- entryPlaceOf L d6;let b<- EntryCells.newEntry head x BI (OV L) BI pl;Aca E8 1 b):=by
 have nf:a∉ (ADo).BDk (·.frame):=fun hm=>by
  obtain⟨_,o,ho,hn⟩:=hl.mem hm;rw[he] at ho;injection ho with ho;subst ho;exact hn vs hd
 refine z6 (wpAny_frameOf_fun hfr hl hf (BO h1 k1));show LM (z6 (wpAny_entryPlaceOf (BO pl hp))) (Bh' (AIB hp.sizeOk5 _));have e1:GY ē oe:=I_ k1.2.1 a nf he;have b1:ASK h1:=SV o (I_ k1.2.1 b (fun hm=>(APO (hl.mem hm).1)) (hkb b o q))
 refine AGH AzS hd hz (hQ _ ?_ ?_)
 all_goals
  have ne:ALJ≠a:=AKu (zG e1);have d3:=AcZ hd (·.setIfInBounds 1 (Value.ref h1.objs.size));have far:ay QQ (Kx ē) (Kx ((h1.push {cls:= .type "traceback",dict:=none,data:= .fields ([head,.ref L,.none,rawInt L,.none]++ (if pl.isEmpty then List.replicate 6 Value.none else pl)).toArray}).update a (Obj.mapFields (·.setIfInBounds 1 (Value.ref h1.objs.size)))).IF):=
   e9 hb q (AX AnR AMG)
 ·show PD (SV o (far b o (E9 (AgH hen)) (b1 b o q))) hen (hl.of_keeps (ύ ?_))
  ·show gc k (k1.2.2 b o q);exact NE BaV
  ·exact⟨_,_,ALJ,_,_,BhE AzS (BmS d3),⟨BmT _ _,z7j _ _,h2.imp (E9 (SD Array.getElem?_setIfInBounds_ne AD z)) id⟩,d3,C8 hz,b1.fresh,ne,
    AYQ ne (z9 h1 Β),Β,by first | (simp;done) | (rcases hp with Β | ⟨_,_,_,_,_,_,_,Β⟩<;>simp)⟩
 ·intro b o q n;show gc k (k1.2.2 b o q);exact⟨sl,BaV⟩
theorem z2a(hfr:Ag_ ADo)(hf:A6f)(x:W4 B ADo a cls dx BG)
  (hQ:BUK cls dx):Ç (Acb E8 BN):=by
 obtain⟨f1,f2,f3,⟨oe,vs,T,oT,ts,he,⟨Β,Β,h2⟩,hd,h1,hB,hne,hT,hdT,h3⟩ | ⟨oe,vs,he,Β,Β,hd,h1,h2⟩⟩:=x
 ·unfold Acb;simp only [hf];refine z6 A9_;show Go A2
  refine z6 (Ari hT hdT h3 ?_);show CS (NA OV)
  refine z6 (AGH hT hdT BOH ?_);have far:BVu (s.heap.update T (Obj.mapFields (·.setIfInBounds 3 Value.none))):=FS AnR;refine Iv (s:=Zl (AGF T (Obj.mapFields (·.setIfInBounds 3 Value.none)))) hfr (f3.of_keeps (ύ (Aid (ApW q)))) hf (I_ far a Azg he) (SV o (BQ5 (f1 b o q))) f2 hd BKJ h2 (gf w up)
  exact hQ h' w (ύ (up b o (ApW q) n))
 ·unfold Acb;simp only [hf];refine z6 A9_;show t7
  exact Iv hfr f3 hf he f1 f2 hd BKJ h2 fun h' w up=>hQ h' w up
theorem z6f(hfr:Ag_ ADo)(hf:A6f)(x:W4 B ADo a cls dx BG)
  (hQ:Aw5 (W4 B Cf a cls dx h')):Ç (leaving BN E8):=by
 refine z6 (z2a hfr hf x fun h1 w up=>Iu (s:=Zl h1) w (Ap h2 w2 up2));obtain⟨k1,k2,⟨_,_,k3⟩,k4⟩:=w2;exact hQ h2 ⟨k1,k2,k3,.A0 k4⟩ (up.trans up2)
#where
inductive W5 (P:As) (w:AW) (Cf:L4) (H:Hp) (s:AB) (E:XK) (e:AE) (s' :AB):Θ
 | mk:∀a C H' B dx,e= BQ ->A_ (s'.os=AAe) ANJ (AmY Az9) BWi (A_ (W4 B Cf a C dx ii) (ay kX (b∉frs Cf) AUb) (A3n) AZ9 Bdi)
def dY(P:As)(w:AW):K3:=fun Cf H s E e s' =>Bdi
theorem dY.imp(h:Ams E)(k:∀C dx H',AZ9 ->E' C dx H'):Ams E' :=by
 obtain⟨a,C,H',B,dx,h1,h2,h3,h4,h5,h6,h7,h8,h9⟩:=h;exact⟨a,C,H',B,dx,h1,h2,h3,h4,h5,h6,h7,h8,k _ _ _ h9⟩
section
variable{X:Cx}{Ν:fB}{σ:St}{H H' :Hp}{s s' :AB}{B:AJ}{h' :AJ}
theorem z7c(DL:Ak0)(b1:A6G)(b2:A0K)(yE:A3n):Akz :=fun b u e=>
 ADn DL e (fun c v hc q=>by
  have:∃o',AcY c=Ε o' :=by
   show Ϙ hc hc
   ·exact yE _ _ e
   ·exact yE _ _ hc
  show kR e' Χ;have z:=b1 c o' e';rw[q] at z;cases z;exact b2 c _ e') AZM Ų
theorem ygz(I:AS)(hex:APa)(os:A2M)(G_:ANJ)(un:AmY ϓ)(DL:Ak0)(b1:A6G)(b2:A0K)
  (inB:ay kX (b∉lr) AUb) (up:BIr):
  Un ia [] ARb H' X.s₀.heap h' /\BRV :=by
 have I' :AJZ :=I.call' os un DL G_ AYK
 have hb:=I'.base;rw[hex] at hb;have hb0:=I.base;rw[hex] at hb0;have Uh:BRV :=ABs (by
  obtain⟨o1,e1⟩:=hb0.there b o e A2
  refine inB b o1 e1 Ϟ;show OH (A9I z)
  show Û (zM (zG e) ARe) A1p
  ·exact n z)
 show Db ⟨At2 hf,At2 hf,fun b o e n hx=>hb.free b o e n hx,Alp,hb.tups,hb.nq,hb.pJ⟩ Uh
 ·have e1:=hb.keep b o e n hf A2
  show kR e' (Uh b o e hf);have z:=b1 b o' e';rw[e1] at z;cases z;exact b2 b _ e'
 ·show gc e1 (hb.slot b o e n hf A2)
  obtain⟨_,o2,e2,nf⟩:=BDp hf;rw[e] at e2;cases e2;obtain⟨sl',e3⟩:=up b _ e1 nf;exact⟨sl',e3⟩
 ·by_cases hf:Ay7
  ·show gc e1 (hb.slot b o e (BDq b hf) hf A2)
   obtain⟨_,o2,e2,nf⟩:=BDp hf;rw[e] at e2;cases e2;obtain⟨sl',e3⟩:=up b _ e1 nf;exact Lm e3
  ·show kR e' (Uh b o e hf);exact⟨o',b2 b o' e'⟩
theorem QH(I:AS)(hex:APa)(hst:ApZ)(hfr:AZF)
  (h:A'W E):ACb (leaving CB e) (Kt s'' (dY FH X.w AAu ARb X.s₀ E e s'')) Eb s' :=by
 obtain⟨a,C,H',B,dx,Β,os,G_,un,DL,K4,inB,yE,hE⟩:=h;refine z6f (Ź I.ok.frames hst) hfr BPS (gf QJ up)
 obtain⟨un',Uh⟩:=ygz I hex os G_ un DL K4.1 QJ.1 inB up;exact⟨a,C,H',B,dx,Β,os.trans I.os,G_,un',z7c DL K4.1 QJ.1 yE,QJ,Uh,yE,hE⟩
theorem BFV(I:AS)(hex:APa)(os:A2M)(G_:ANJ)(un:AmY ϓ)(DL:Ak0)(b1:A6G)(b2:A0K)
  (inB:ay kX (b∉lr) AUb) (yE:A3n) (up:BIr):AB_ (AGd s' h' t'):=by
 have I' :AJZ :=I.call' os un DL G_ AYK
 obtain⟨un',Uh⟩:=ygz I hex os G_ un DL b1 b2 inB up;have cl:∀{c v},s'.heap.IsCell c v ->A1P:=fun{c v} (AEX hd)=>by
  show PM sl (up c o ho (ACX z (Bg_ hd)))
  exact DH e hd
 refine⟨nr,I'.os,G_,AX hex un',?_,AP_,I'.free,I'.freeC,nI,z7c DL b1 b2 yE,AFq⟩
 ·show A4x I'.loc;refine⟨m,up.ns hn,fun i x v e1 e2 e3=> ?_⟩;show Wp r l (hl i x v e1 e2 e3);show Ee u r;rcases l with l | ⟨k,c,e,z⟩
  ·exact .A0 l
  show KL ⟨k,c,e,cl z⟩
 ·show AOB z (I'.cell x c e);exact⟨v,cl z⟩
 ·show AaN;obtain⟨e',n',_,_,_⟩:=I'.pin p hp;refine⟨?_,n',ne,nf,d⟩;show kR q (inB Cl p.2 e (AV (by
   show OH (TL (BDr Cl z))
   ·exact ne z
   ·exact nf z)))
  have z:=b1 Cl o' q;rw[e'] at z;cases z;exact b2 Cl _ q
#where
def o9(AEx):Θ:=Apk C
inductive ExN (h:AJ) (C:Ζ):Θ
 | mk:∀bm N nm qn bs P1 sn BM ab col dd k0 k1 k2 k3 k5 mN,A_ BMc (h.Ns N mN) (mN KP =Ι) (OwnTail h Auf bm) (ExN h C)
theorem yce(A'c)(X:Sn)(q:o9 K C):ExN h C:=by
 unfold o9 W.excIn at q;show XZ
 ·show BAi;show XZ
  ·show BCm;simp only [eK,Ar4,BmU] at q;obtain⟨⟨⟨⟨⟨Β,Β⟩,hdel⟩,ht⟩,DL⟩,hni⟩:=q;obtain⟨nm,bs,mro,ns,qn,hd,sn,BM,ab,col,del⟩:=cd;subst hm hdel;obtain Β:sl= #[k0,k1,k2,k3,BLk,k5]:=by
    cases sl;simp only at hs;rw[hs]
   exact⟨bm,ns,nm,qn,bs,hd,sn,BM,ab,col,dd,k0,k1,k2,k3,k5,_,A6r,.of_isNs (W.isNs_of_in X DL),W.nsMap_none_of_in X DL hni,BOo⟩
  ·cases q
 ·cases q
inductive ExO (K:Ω) (h:AJ) (C:Ζ):Θ
 | mk:∀bm N nm qn bs P1 sn BM ab col dd k0 k1 k2 k3 k5,BMc ->OwnTail h Lz bm ->BOr bm ->∀cd,BQI C ->AqY= HE::bm ->ExO K h C
theorem HB(A'c)(X:Sn)(q:ò):ExO K h C:=by
 unfold j6 at q;show XZ
 ·show BAi;show XZ
  ·show BCm;simp only [eK,Ar4,BmU] at q;obtain⟨⟨⟨Β,Β⟩,hdel⟩,ht⟩:=q;have hcl:BQI C':=ϊ W.clsIn ho
   have hm0:=hm;obtain⟨nm,bs,mro,ns,qn,hd,sn,BM,ab,col,del⟩:=cd;subst hm hdel;obtain Β:sl= #[k0,k1,k2,k3,BLk,k5]:=by
    cases sl;simp only at hs;rw[hs]
   exact⟨bm,ns,nm,qn,bs,hd,sn,BM,ab,col,dd,k0,k1,k2,k3,k5,A6r,BOo,ht,_,hcl,hm0⟩
  ·cases q
 ·cases q
def n8(AEx):Θ:=ò
theorem o9.k{K:Ω}{C:Ζ}(q:o9 K C):n8 K C:=by
 unfold o9 W.excIn at q;unfold n8 j6;show XZ
 ·show BAi;rw[ho];show XZ
  ·show BCm;show Bjx q;obtain⟨⟨⟨⟨⟨q1,q2⟩,q3⟩,q4⟩,_⟩,_⟩:=q;simp only [hm,hs,q1,q2,q3,q4,Bool.and_self]
  ·cases q
 ·cases q
section
variable{X:Cx}{Ν:fB}{σ:St}{H:Hp}{s:AB}
theorem ykm(hl:A1X A8)(hm:Heap.MadeExcOf h h1 a LA vs):W4 (ARV h (frs l)) l a LA Ι h1:=by
 obtain⟨t,he,_,_⟩:=hm.there;refine⟨fun b o q=>Ar5 b o BOJ,?_,?_,A_p he yb⟩
 ·cases q:(ARV h (frs l)).IF a with
  | Ι=>rfl
  | Ε o=>
   have z:=BJA;rw[hm.new] at z;cases z
 ·have k:=A6K (frs l) hl fun BN he a ha=>(BIK BN he ha);exact k.of_keeps (e9 e _ (Aid (Ar5 b o e)))
theorem yd4{x:Κ}{C:Ζ}(BjO){e:AF}{es:CC}{t:TA}{Q:Aig}{E:XK}(hg:JE)(hm:AJr)(hC:o9 AG C)(ha:Akb)(hh:FX)
  (I:AS) (h:t σ H (ĺ vs (D5 Kb/\BW3)))
  (px:∀H1 s1 e s',AIy s1 ->dY FH X.w JU H1 s1 (fun C' dx H' =>C' = HE/\dx=Ι/\H' =H1/\BW3) e s' ->A4k)
  (Anj):
  AGo (exec Awy CB) Q:=by
 obtain⟨bm,N,nm,qn,bs,P1,sn,BM,ab,col,dd,k0,k1,k2,k3,k5,mN,e1,e2,e3,e4⟩:=yce I.mod.Ft hC;refine N1 (N1 (N1 (N1 wpAny_Raise_call_subT C C nm nm q qn N N) bs bs bm bm P1 P1 sn sn) BM BM ab ab col col dd dd) k0 k0 k1 k1 k2 k2 k3 k3 (k5:=k5)
  BFX (mN:=mN) (Bic e4.hasType) BNm ?_ e3 (Gv I hg hm AOt hd)
 ·rw[he];show MM (false || (backTo cpos (starEach es X.env)).any (·.1))
  rw[De];rfl
 ·have A9:=ha Fh Ν s σ H _ I h;rw[he] at A9⊢;refine A'o (fun us s2 ⟨vs,H1,I1,r,z,q⟩=>⟨Β,Bis,I1.bk _ _ e1,e2.keeps I1.bk,e4.keeps I1.bk,gf a hm⟩)
  refine px H1 s2 _ _ I1 ⟨a,HE,H1,ARV Ab3 (frs JU),Ι,Β,Β,I1.bare,ART Ar5,I1.hok.kept Ar5,ykm I1.stack hm,ABs (rV (AJF e n)),IU,Β,Β,Β,q⟩;obtain⟨o,eo⟩:∃o,Kx Acd:=by
   have k:=UY ASL;cases u with
   | Cc xs=>show AxX k;exact UQ
   | tup xs=>obtain⟨_,_,_,o,e,_⟩:=k;exact UQ
   | dK AH=>show Anx
   | dT AH=>show Anx
   | set S n=>show AeB o k;exact UQ
   | ins C dx fs=>show AxZ k;exact UQ
   | A7 y=>exact k
   | xd fs=>show Axa k;exact UQ
   | rng lo hi=>show AxY k;exact UQ
   | frz ob u=>obtain⟨e,_⟩:=k;exact UQ
   | LC ps=>show BLJ
   | met f y=>show BLJ
   | ext φ=>obtain⟨_,e,_⟩:=k;exact e
  show Db o (AJF eo Ϟ);have:=I1.stkFree b z;show t_;show E3
#where
abbrev G2:=tJ
inductive XV where
 | B0 (C:Ζ) | any (C:Ζ) | pay (BUE)
def XV.cls:XV ->Ζ
 | HE=>C
 | AYG=>C
 | .pay C _ _=>C
inductive W6 (AT8) (F H H' :Hp) (dx:OB) (fs:Ρ) (ts:HK):Θ
 | mk:∀p vs as,A_ (dx=Ε p) (H' p=Ε (.xd Auv)) AO9 (F p=Ι) (A_ (N_ p) oQ (aT as (kK/\NH)) (fQ K F H' ts vs as) Bfq)
def xX(AT8)(F H H' :Hp)(C:AE)(dx:OB)(x:XV):Θ:=C= .B0 x.cls/\match x with
 | .B0 _=>dx=Ι
 | .any _=>JS
 | .pay _ fs ts=>Bfq
theorem Gr.low(s:A2S)(g:Afl H1):rq :=⟨g.f,g.g,s.trans g.h,ABs (AcT s (g.n b o e n))⟩
def XV.bare:XV ->XV
 | HE=> AYG
 | AYG=> AYG
 | .pay C _ _=> AYG
theorem xX.bare{K:Ω}(h:BAs H):xX K F1 H1 H2 C d1 Ar6:=by
 have h:=FY;cases x<;>exact Afy h
def Iw(K:Ω)(F H:Hp)(Ex:AhO)(E:XK):Θ:=∀x C dx F' H',Ex x ->rq ->BWL H ->AZ9
theorem xX.back{K:Ω}(s:ß H1)(h:BAs H):BAs H1:=by
 show F8 FY;have h:=h.2;cases x with
 | B0 _=>exact h
 | any _=>trivial
 | pay c fs ds=>
  obtain⟨p,vs,as,e1,e2,e3,e4,e5,nd,e6,e7⟩:=h;exact⟨p,vs,as,e1,e2,e3,e4,Ar0 e5,nd,AGy (Z_ e6) (Ar0 (SG e6)),e7⟩
abbrev XW:=DD G2 XV
abbrev cu:=AQg D
abbrev cP:=AQg AM
abbrev TT2:=AQg AO
inductive TW where
 | one (t:T) | tp (ts:HK)
def TRR(BBr):TW ->DD V Bi
 | .one t,v,as=>AIC
 | .tp ts,v,as=>∃p us,v= UP/\F p=Ε (IO us)/\Adh ts us
def Mg(Q:AI0):Fk TW
 | .one t=>Q t
 | .tp _=>D8
structure qR where
 nx:Af1
 rt:AOS
 bk:Af1:=rX
 ct:Af1:=rX
 rf:AOS:=rX
 rT:Fk TW:=rX
 rm:A0M:=AGv
abbrev aG:=qR ->DD G2 XW
open ww in
noncomputable def j9 (F0 F:Hp):Hp:=cn (AVF BVN (F b))
theorem zw3:Id A2z F:=ah (by
 show Uf j9;show tI
 ·cases e
 ·exact e)
theorem zrb(h:∀u,mv ->F0 b≠Af2):A_t=F b:=by
 unfold j9;show CS (fun hz=>by show bP w hw hz;exact h w hw q)
theorem z1l(e:UK A_t):∀w,LD w ->F0 b≠AWI:=A_S (by
 show Uf j9;rw[CH ⟨w,hw,q⟩] at e;cases e)
theorem z46(s:Id F0 F1):Id (j9 F1 F) A2z:=ah (SD zrb (A_S (z1l e w hw (s _ _ q))) (zw3 _ _ e))
theorem z7k(s:Id F0 F):fS F (mv\/UK A_t):=ah (by
 by_cases h:BVN
 ·show LN w hw q;have:=s _ _ q;show t_;show E3;exact .A0 hw
 show KL (SD zrb (A_S (h ⟨w,hw,q⟩)) e))
section
variable(K:Ω)(F0 H0:Hp)
inductive UpE (t:cu) (E:XW) (σ:St) (H:Hp) (Q:VK):Θ
 | mk:BcF lx UpE
def HD(t:cu)(E:XW):TE:=AEu UpE
inductive UpT (t:TT2) (E:XW) (σ:St) (H:Hp) (Q:AJD):Θ
 | mk:AVA (∀b BY F' H',AHW ->Fu ->WZ b ->Q b H') UpT
def W7(t:TT2)(E:XW):TT:=AEu UpT
inductive UpA (t:cP) (E:XW) (σ:St) (H:Hp) (Q:AOq):Θ
 | mk:BcG AH5 UpA
def Ol(AXe):TA:=AEu UpA
inductive UpF (t:cP) (E:XW) (σ:St) (H:Hp) (Q:VK):Θ
 | mk:AVA (∀ds BY F' H' a vs,A_ AHW Fu (GY H' ad) rh (A_ È AH5 (ABq BY a) (WZ ds) (Q E8 H'))) UpF
def upF(AXe):TE:=AEu UpF
structure Ak (F:Hp) (D2:qR) (D:ij):Θ where
 nx:BB_ AGI AMc
 bk:BB_ D2.bk (D.bk σ H)
 ct:BB_ D2.ct (D.ct σ H)
 rt:Bbu lx D2.rt
 rf:Bbu BTu D2.rf
 rT:∀t v as F' H,BjU ->A_ oQ (AL' (rh/\È)) (TRR K F' H t v as) (D2.rT t) AwW
 rm:∀d v Γ F' H σ,Aut ->lx ->D2.rm d Γ ->AwW
inductive UpS (t:aG) (E:XW) (D:ij) (σ:St) (H:Hp):Θ
 | mk:∀F Γ D2,Ade ->(t D2 Γ E) ->(Ak K F0 H0 F D2 D) ->UpS t E D σ H
def upS(t:aG)(E:XW):TS:=A7w (UpS K F0 H0 t E D σ H)
#where
theorem Ak.mono{K:Ω}{F0 H0 F F' :Hp}{D2:qR}{D:ij}(k:Am1 F)(s:Fu):Am1 F':=
 AKI (BCe k.nx) (BCe k.bk) (BCe k.ct)
structure Om where
 xe:eO
 pn:fB
abbrev _root_.L2.Cx.wsh(X:Cx)(z:Om):Cx:={X with xe:=oa,pn:=z.pn}
structure Ctx (UT) (E:XW):Θ where
 pX:∀Ν σ Γ F H s e s',AS ->AFS ->A'W BbI ->A4k
 pq:∀A' A'',Ar7 A' X.A ->PassesOwnAt jS A' A'' CB wb
theorem Ctx.po(cx:A'2):BA':=cx.pq _ _ (SameStack.refl _)
theorem Ctx.px(cx:A'2)(Ν:fB)(σ:St)(Γ:G2)(F H:Hp)(s:AB)(e:AE)(s' :AB)(I:AS)(R:AFS)(hx:A'W BW2):A4k :=
 Bcm (hx.imp fun _ _ H' hz=>by obtain⟨x,F',h1,h2,h3⟩:=hz;exact⟨Γ,F',x,ALK h2,h2.f,h3,AyD Ar8,h1⟩)
def QE(UT)(e:AF)(t:cu):Θ:=AX' HD
def QF(UT)(e:AF)(t:cP):Θ:=AX' upF
def QT(UT)(e:AF)(t:TT2):Θ:=Ţ PT e W7
def QW(UT)(e:AF)(t:TT2):Θ:=Ţ PW e W7
def QA(BTM):Θ:=Ţ PA es Ol
def QS(UT)(st:AN)(t:aG):Θ:=Ţ PS st upS
def qT(UT)(st:Xs)(t:aG):Θ:=Ţ Hz st upS
section
variable{X:Cx}{e:AF}{es:CC}{st:AN}{sts:Xs}
theorem pB(h:ABy t)(hi:∀σ H Q,t' σ H Q ->Ã):ABy t' :=BAJ
theorem QK(h:PT X e t)(hi:∀σ H Q,t' σ H Q ->Ã):PT X e t' :=BAJ
theorem pwC(h:PW X e t)(hi:∀σ H Q,t' σ H Q ->Ã):PW X e t' :=Bfo w w
theorem paC(h:Aka)(hi:∀σ H Q,t' σ H Q ->Ã):PA X es t' :=Bfo p p
theorem tU(h:A7O)(hi:∀D σ H,t' D σ H ->t D σ H):PS X st t' :=BeQ
theorem W8(h:Hz X sts t)(hi:∀D σ H,t' D σ H ->t D σ H):Hz X sts t' :=BeQ
#where
section
variable{X:Cx}{F0 H0:Hp}{a b c e:AF}{es:CC}{Υ:AL}{ta tb tc te:cu}
def cC(d:D):cu:=AYC d
theorem W9(h:∀z,PE K2 e (tC v))(r:∀F,AMU F):AI6 (cC d):=fun z E cx=>
 pB (h z) (AQt Bz Bz (AMv R IR (r F) h))
theorem aW{i j Υ}:An9 AIs (Of i):=Aom ygw
theorem QL{i j Υ}:An9 (yy i) (cC (.bl i)):=Aom yon
theorem HF{j Υ}:An9 BI ko:=Aom ylw
theorem HJ{x j Υ}:An9 AWe (cC (.AT x)):=Aom yly
def cV(AEq):cu:=AeR (lP AEa (Ε AJM) (P d Γ) (Ε ð) (P AMl (ALG i Aib)))
theorem yl1(hN:HL)(hv:OG)(XL):EG å (cV i):=fun z E cx=>
 pB dE (Ϻ Be (by
  show NO Be;show DJ cV;show E4
  ·rename_i d e;obtain⟨o,e1,v,Β,r⟩:=APG;exact⟨v,e1,k d Γ F H v R IR r h⟩
  ·rename_i ds e;obtain⟨a,F',e1,s1,R',r⟩:=R.frz e;exact⟨BQ,e1,k _ _ F' H _ R' s1 r h⟩
  show JI))
inductive Xa (K:Ω) (g:H_) (x:V) (y:V) (H:Hp) (Q:VK):Θ
 | mk:∀F d1 d2 P,AH' ->Hm (Rep K F d1 x) (Rep K F d2 y) (g d1 d2 P) BfB Bek
def uT(K:Ω)(g:H_):R2:=AIe Bek
def cB(g:H_)(ta tb:cu):cu:=WB ta d1 (Ť tb d2 (g d1 d2 fun d=>P d A4))
theorem yex{K:Ω}{g:H_}{E:XW}{σ:St}{H:Hp}{Q:VK}(h:AHE HD A_j):Wo (uT K g) (AYM ta) (AYM tb) σ H Q:=by
 show NO h;refine AY3 ⟨F2,d1,d2,_,R2.g,AkF,r2,h2,fun d z F' H' gr rz hp=> ?_⟩;exact k d A4 F' H' z Azy (AeW Kj) rz hp
theorem bJ(ho:AwY BJK)(ha:ck)(hb:ϖ):EG BMs A_j:=fun z E cx=>
 pB (ynb Aht F6 Q2) (Ā yex)
theorem FJ(BYf):EG AYY A_j:=fun z E cx=>
 pB (yjr Aht F6 Q2 hm) (Ā yex)
def cT(t:cu):TT2:=fun Γ P E=>t Γ (fun d BY =>(ń (.bl c) (WZ c))) E
theorem ynr{K:Ω}{E:XW}{σ:St}{H:Hp}{Q:AJD}(h:AHE W7 (cT te)):HD K F0 H0 te E σ H fun x H' =>(AZd (Q c H')) :=by
 show NO h;refine pf (BfZ q);cases d with
 | bl c=>
  exact⟨c,r,k c BY F' H' R' s' q⟩
 | _=>show ua
theorem pO(BYf):r9 AYY (cT (cB g ta tb)):=fun z E cx=>
 QK (yjb Aht F6 Q2 hm) fun σ H Q h=>yex (ynr h)
theorem Gx(h:Sm)(he:∀AFr,ArB e CB AFr=(do let v<- AFr;Abt e.pos;ě [v] (truthy v)):=by intro _;rfl):av QT (cT te):=fun z E cx=>
 QK (DS ynz hG he) (Ā ynr)
def iU(t u:TT2):TT2:=AmW (HI c (u BY P E) (WZ AC))
def vK(t u:TT2):TT2:=AmW (HI c (WZ Μ) (u BY P E))
def iQ(t:TT2):TT2:=AmW (WZ (! c))
variable{F_:CC}{tA LQ :TT2}
theorem Xb(A0u):FC QW (Adw [a]) tA:=AWN yi1 F6
theorem ym2(A0u):FC QW BJE tA:=AWN ylp F6
theorem Xc(ha:r9 a tA)(hb:FC QW AkP LQ):FC QW AkQ (iU tA LQ):=fun z E cx=>
 pwC (ymw F6 Q2) (LE σ H Q Ah P Ah (AaL (by
  cases c with
  | Μ=>
   exact BfY
  | AC=>
   exact Amo)))
theorem yo1(ha:r9 a tA)(hb:FC QW AkR LQ):FC QW AkS (vK tA LQ):=fun z E cx=>
 pwC (yof F6 Q2) (LE σ H Q Al P Al (AaL (by
  cases c with
  | Μ=>
   exact Amo
  | AC=>
   exact BfY)))
theorem Gy(h:av QW tA):av QT tA:=fun z E cx=>(hG).pt
theorem QM(A0u):r9 Aml (iQ tA):=fun z E cx=>
 QK (ynn F6) (AQt HN HN (AaL Amo))
def fC(ta tb:cu):cu:=A8W (lP d AHz A8c Ayv (WZ AHP))
def jV(ta tb:cu):cu:=A8W (lP d Ayv A8c AHz (WZ AWh))
def gj(ta:cu):cu:=A8W (ń (.bl c) (WZ (.bl (! c))))
theorem Xd{op}(h:ck):EG (.ARr op [a] Υ) ta:=AWN ym4 hG
theorem z2b(ha:ck)(hb:EG AkP tb):EG AkQ (fC ta tb):=fun z E cx=>
 pB (ylx F6 Q2) (LE σ H Q Mh P Mh (AZj (by
  cases d with
  | bl c=>
   show Ee c r;cases c with
   | Μ=>show sB;exact⟨F1,AA,P,R1,q,AqC⟩
   | AC=>show Ah3;exact Apf
  | _=>show ua)))
theorem yoz(ha:ck)(hb:EG AkR tb):EG AkS (jV ta tb):=fun z E cx=>
 pB (yor F6 Q2) (LE σ H Q DK P DK (AZj (by
  cases d with
  | bl c=>
   show Ee c r;cases c with
   | AC=>show Ah3;exact⟨F1,AA,P,R1,q,AqC⟩
   | Μ=>show sB;exact Apf
  | _=>show ua)))
theorem ylf(ha:ck):EG Aml (gj ta):=fun z E cx=>
 pB (ynh F6) (AQt hq8 hq8 (AZj (by
  cases d with
  | bl c=>
   exact⟨c,r,Apf⟩
  | _=>show ua)))
def rY(t:TT2)(ta tb:cu):cu:=AmW (HI c (ta BY P E) A8c)
theorem Ui(hc:r9 c tA)(ha:ck)(hb:ϖ):EG BMt (rY tA ta tb):=fun z E cx=>
 pB (yen Ahd F6 Q2) (LE σ H Q Wd P Wd (AaL (by
  cases c with
  | Μ=>show Al3 EB P AqC
  | AC=>show Al3 cz P AqC)))
def aq:cP:=AYC []
def aj(t:cu)(u:cP):cP:=WB t d (Ť u ds (P Ai0 A4))
theorem aN:FC QA [] aq:=fun z E cx=>paC z2j (LE σ H Q QV P QV (AMv R IR KB h))
theorem au(ha:Sm)(hr:FC QA es tr)(hs:fF:=by rfl):FC QA HC (aj te tr):=fun z E cx=>
 paC (DS Qs F6 (Rs hr) hs) (Ϻ ⟨F,Γ,P,R,h,k⟩ (ALp d v1 (AMM h1 (fun ds A4 F2 H2 vs R2 s2 r2 h2=>(AMv R2 kF (rW (ALN s2) r2) h2)))))
def eY(k9):cu:=VO (AXm (FF (IO ds)))
theorem yI{x1}(h:AS0 es):EG (.AAz es x1 Υ) (eY t):=fun z E cx=>
 pB (ygk hG) (AQt Ij Ij (BPO (by
  have gr:=AZ4 vs IL hp;refine AMv AMr (AGg Kj) ?_ h1.2;exact ϵ AUN (ALN Kj))))
def dZ(k9):cP:=VO (AXm (FF ds))
theorem Iz(ϻ){σ:St}{Γ:G2}{p:Ζ}{vs:AQ}{ds:AM}(R:GT)(hp:N_ p)(r:L5):
  xi F BQ4/\ BQ4 p=Ε ad/\F p=Ι/\H0 p=Ι/\AL4 p:=by
 refine⟨?_,iD,R.g.free hp,R.gr.h.free hp,Ar8 hp⟩;refine ALK (vy IU IU)
 show Dx (AIM R.g hp) (UY R.g)
 show AEU hp e
theorem xY{t:cP}(h:AS0 es):AHL BPu (dZ t):=fun z E cx=>
 pB (yl0 hG) (AQt Ik Ik (BPO (by
  obtain⟨R2,e1,e2,e3,ap⟩:=Iz R1 hp r1;exact k ds AA F1 _ p vs R2 s1 e1 e2 e3 r1 ap h1.2)))
def dU(k9):cu:=VO (FF AMl)
theorem iR(h:ABk QF e):AI6 (dU t):=fun z E cx=>
 pB hG (LE σ H Q Il P Il (BCn (by
  obtain⟨s2,_⟩:=z3j IL e1 e2;refine AMv (R1.frzA e1 e2 e3 ap) kF ?_ h1;exact qi a AUN AkF)))
variable{st:AN}{sts:Xs}{t u:aG}
def bA:aG:=A2u (TM Γ)
def aF(t u:aG):aG:=fun D Γ E=>t {D with nx:=AUh (u D BY E)} Γ E
theorem qU:FC qT [] bA:=NS W8 yh5 D abj abj (T' R IR h)
theorem bK(h1:ABk QS st)(h2:FC qT sts u):FC qT (st::sts) (aF t u):=NS W8 (zo3 AyS (Rs h2)) D abk abk (pf (AKI (fun BY F' H' DA R' s' q=>⟨F',BY,D2,R',q,Acf s'⟩) k.bk k.ct))
theorem bO(h1:ABk QS st):ABk qT [st]:=AWN zv4 AyS
def fL(m3):aG:=fun D Γ E=>te Γ (Kt AA (TM AA)) E
theorem z84(he:Sm)(hs:AFY Ι:=by rfl):P7 (.AF e Υ) (fL te):=NS tU (DS zvl NM hs) D abl abl (ki (AXQ R1))
def bh(m3):aG:=fun D Γ E=>te Γ (fun d _=>D.rt d) E
theorem gD(he:Sm):A4z (bh te):=fun z E cx=>
 tU (z3f NM) (LE D σ H abm D2 abm (ki (k.rt _ _ _ _ R1.gr r1 h1)))
def gK:aG:=fun D _ _=>D.rt BE
def cM(c:TT2)(t u:aG):aG:=WO D c b (HI b (t D AA E) (u D AA E))
theorem qW(hc:r9 c tA)(ha:ABk qT x)(hb:FC qT y u):P7 (.If c x y Υ) (cM tA t u):=NS tU (yoe Ahd F6 Q2) D abn abn (AaL (by
  cases c with
  | Μ=>show Al3 EB D2 (Acf s1)
  | AC=>show Al3 cz D2 (Acf s1)))
def aX(i:Δ)(te:cu):aG:=AX_ (APi AJM)
theorem gq(hN:ie)(hi:HL)(hx:ADf)(he:Sm)(hs:AFY (Ch (FR x Ff)):=by rfl)
  (AXz):AoV aX te:=NS tU (xw Wk i hN hi hx NM hs hf) D abo abo (ki (AXQ (R1.set i r1)))
def c7(i:Δ)(t:cP):aG:=WO D t ds (APi ð)
theorem Mi(hN:ie)(hi:HL)(hx:ADf)(he:A4g)(hs:AFY (Ch (FR x Ff)):=by rfl)
  (AXz):AoV c7 tf:=NS tU (xw Wk i hN hi hx NM hs hf) D abp abp (BCn (AXQ (R1.setOw i e1 e2 e3 r1 ap)))
#where
#print L3
namespace L3
open IB OL JO L2
abbrev vL:=BYu D
abbrev Am:=BYu AM
section
variable(K:Ω)(F0 H0:Hp)
inductive UpG (g:vL) (E:XW) (v:V) (σ:St) (H:Hp) (Q:SY):Θ
 | mk:∀F Γ P d,Hm Ade (Rep K F d v) (g d Γ P E) BfI (UpG g E v σ H Q)
def upG(g:vL)(E:XW):TG:=AX9 (AjD UpG E v σ H Q)
inductive Xe (g:Am) (E:XW) (vs:AQ) (σ:St) (H:Hp) (Q:SY):Θ
 | mk:∀F Γ P ds,Hm Ade AfW (g ds Γ P E) BfI (Xe g E vs σ H Q)
def abq(g:Am)(E:XW):Ob:=A1g (AjD Xe E vs σ H Q)
#where
def QG(UT)(e:AF)(g:vL):Θ:=BIl PG e upG
def Xf(UT)(es:CC)(g:Am):Θ:=BIl Qk es abq
section
variable{X:Cx}{F0 H0:Hp}{e tg:AF}{es:CC}{Υ:AL}{te:cu}{g:vL}{gs:Am}
theorem pgC(h:PG X e t)(hi:∀v σ H Q,t' v σ H Q ->t v σ H Q):PG X e t' :=Bgc
theorem Xg(h:Qk X es t)(hi:∀v σ H Q,t' v σ H Q ->t v σ H Q):Qk X es t' :=Bgc
def LV(AEq):vL:=fun d Γ Q _=>Q (ALG i AJM)
theorem gM(BeM)(AXz):FC QG å (Gc i):=fun z E cx=>
 pgC (xw yif i hN hi hx hf) fun v σ H Q Bz=>by obtain⟨F,Γ,P,d,R,r,h,k⟩:=Bz;exact k _ _ _ _ (R.set i r) IR h
def fY:Am:=fun ds Γ Q _=>ds= []/\Q Γ
def bC(g:vL)(gs:Am):Am:=fun ds Γ Q E=>match ds with | d::r=>Aw4 d (gs r BY Q E) | []=>D8
theorem Gz:FC Xf [] fY:=fun z E cx=>Xg yj8 fun vs σ H Q Be=>by
 obtain⟨F,Γ,P,ds,R,r,h,k⟩:=Be;show mB h h;exact⟨r,k _ _ _ _ R IR h⟩
theorem tV(h1:av QG g)(h2:BRp)(hs:AYh HC (AWD e::AuC es (·.2)):=by rfl):FC Xf HC (bC g gs):=fun z E cx=>
 Xg (DS yc0 AyS (Rs h2) hs) fun vs σ H Q Ah=>by
  obtain⟨F,Γ,P,ds,R,r,h,k⟩:=Ah;cases ds with
  | DB=>show AYH
  | AY d ds=>
   show AY1;exact⟨v,us,Β,F,Γ,_,d,R,r1,h,fun AA F1 H1 σ1 R1 s1 q=>⟨F1,AA,P,ds,R1,r2.up s1,q,fun A4 F2 H2 σ2 R2 s2 p=>k _ _ _ _ R2 kF p⟩⟩
def fZ(n:Δ)(gs:Am):vL:=fun d Γ Q E=>(ń AJI (ME=n/\gs ds Γ Q E))
theorem GC(hc:FX)(h:BRp)(hn:So Abv es CB=n:=by rfl)(hst:(Abv es CB).findIdx? (·.1)=Ι:=by rfl):FC QG (.AAz es k Υ) (fZ n gs):=fun z E cx=>
 pgC (AGf yls n n hc hG hn hst) fun v σ H Q Al=>by
  obtain⟨F,Γ,P,d,R,r,h,k⟩:=Al;cases d with
  | tup ds=>
   show KA a vs hq rs r;exact⟨a,vs,Β,vm R.g hq,DC Sc FY,F,Γ,P,ds,R,rs,h.2,k⟩
  | _=>show AYH
def jD(te:cu)(g:vL):aG:=AX_ (g d AA TM E)
theorem yg0(he:Sm)(hg:AZq)(hs:AXI [tg] e:=by rfl)(hw:AZO [tg] e Ι:=by rfl)
  (h1:AYh [tg] [AWD tg]:=by rfl):AL_ [tg] e (jD te g):=NS tU (DS ygj NM (Rs hg) hs hw h1) D HN HN (ki ⟨F1,AA,_,d,R1,r1,h1,fun A4 F2 H2 σ2 R2 s2 p=>(AgV p)⟩)
def jW(i j:Δ)(k9):aG:=WO D t ds (ABr [x,y] (TM ((ABU i (.pu x)).set j (.pu y))))
theorem yn5{kt k2 Qm}(hc:FX)(hN:ie)(hi:HL)(hj:AJ2)(hij:AFH)
  (hx:Adn) (hy:AZa) (ha:AzA)
  (hw:AZO AQx AQo (Ch [x,y])) (hs:AXI AQx AQo:=by rfl):
  AL_ AQx AQo (jW i j t):=NS tU (ymq (X:=ALj) (i:=i) (j:=j) hc hN hi hj hij hx hy F6 hw hs) D Mh Mh (a_ (by
  match ds,r1,h1 with
  | [d1,d2],r1,h1=>
   obtain⟨v1,_,Β,q1,v2,_,Β,q2,Β⟩:=r1;exact Nw v1 v2 (AXQ ((R1.set i q1).set j q2))
  | [],_,h1=>show AOs
  | [_],_,h1=>show AOs
  | _::_::DV,_,h1=>show AOs))
def DQ(c:TT2)(tb:aG):aG:=A2v (∃W:Aji,(∃m,W m Γ)/\∀m Γ,W m Γ ->
 c Γ (fun b AA=>(HI b (tb (ATy BQg BQg) AA E) (TM AA))) E)
theorem z2p(hc:r9 c tc)(hb:AZg):P7 BaF (DQ tc tb):=fun z E cx=>
 tU (yem cx.po Ahd Q2) fun D σ H DK=>by
  obtain⟨F,Γ,D2,R,⟨W,⟨m,w0⟩,TN⟩,k⟩:=DK;refine⟨fun m σ H=>∃F1 AA,AS9 H/\yn/\W m AA,⟨m,F,Γ,R,kB,w0⟩,KE m σ H CM⟩;obtain⟨F1,AA,R1,s1,w1⟩:=CM;refine AMM (TN m AA w1) (fun b A4 F2 H2 R2 s2 q=> ?_);cases b with
  | Μ=>
   rw[EB] at q⊢;refine⟨fun DA H' =>(Adp (∃F3 Γ3,SR AG F0 H0 F3 H' DA Γ3/\pd F3/\W m' Γ3)),fun DA H' z=>z,F2,A4,_,R2,q,AKI Bge (fun Γ3 F3 H3 σ3 R3 s3 p=>(T' R3 Akx p)) Bge⟩
  | AC=>
   rw[cz] at q⊢;exact AgV q
def abr(K:Ω)(tl:TE):TI:=BWo ((∃xs,AwN)/\R A0x H1) ((∃xs,xH K H1 a xs)/\R AkL H1)
theorem ynm(hl:PE X l tl):ϔ l (abr AG tl):=by
 show ϩ;refine bT (xn hl) (Tu v Wd);show Sr Wd;show bP a e q1;subst e;cases r1;rcases q with ⟨⟨xs,hq⟩,q⟩ | ⟨⟨xs,hq⟩,q⟩
 ·show AAQ Ar_;refine Acg AFw ?_;show AoZ H1 AJy (zxy a _) iF q;show APW
  exact AQc
 ·show AAQ I1.tuple;refine BFY BLO ?_;show AoZ H1 AJy (ztm a _) iF q;show APW
  exact AQc
def BK(ds:AM)(g:vL)(tb:aG)(D0:qR)(E:XW)(Γ:G2):Θ:=∃I:Aji,I 0 Γ/\
 (BbN D0 D0.nx)/\∀Γ,I ME Γ ->D0.nx Γ
def Ao(te:cu)(g:vL)(tb:aG):aG:=WO D0 te d (lP d Ahf BCY AJI BCY)
theorem Oo(hc:FX)(hi:AS3 Pl)(hg:AZq)(hb:AZg)(ANM):
  Apx Pl Ao te:=NS tU (AqD (ynm AOb)) Dn QV QV (ki (by
  have MY:∀(ds:EC L3.D) (vs:AQ),At6 ->∀I:Aji,(BbN D2 AGI) ->
    ∀(i:Δ) x σ H,xh vs ->(AwJ) ->upG AG F0 H0 g E x σ H (ATt (upS AG F0 H0 tb E (AtF Dn A_T A_T ASM) σ2 H2)):=by
   rintro ds vs rs I TN i x σ H hx ⟨F2,A4,R2,s2,hI⟩;obtain⟨d,hd,rd⟩:=zx5 rs hx;exact⟨F2,A4,_,d,R2,rd.up s2,TN i d A4 hd hI,fun Γ3 F3 H3 σ3 R3 s3 p=>⟨F3,Γ3,Agf D2 AGI,R3,p,AKI Ap2 (Auk (T' R4 (AGg (A6l s4)) q)) Ap2⟩⟩
  cases d with
  | Cc ds=>
   show Aks;show BBH;refine⟨a,Β,AT1 ⟨vs,ANo⟩ (Bf8 yeb (BFb (Ar' hq)))⟩
   rintro σ H ⟨F2,A4,R2,s2,hI⟩;exact BZK
  | tup ds=>
   show Aks;show BBH;refine⟨a,Β,.AZ ⟨⟨vs,A1w⟩,Bf8 yhj (vm R2.g (vm s2 hq))⟩⟩
   rintro σ H ⟨F2,A4,R2,s2,hI⟩;exact BZK
  | _=>show AOs))
def IK(lo:Ψ)(n:Δ)(g:vL)(tb:aG)(D0:qR)(E:XW)(Γ:G2):Θ:=∃I:Aji,I 0 Γ/\
 (∀(i:Δ) Γ,i<n ->I i Γ ->Aw4 (ET (lo+i)) (tb (Agf D0 D0.nx) BY E))/\∀Γ,I n Γ ->D0.nx Γ
theorem ygx{K:Ω}{F1 H1:Hp}{AA:G2}{σ:St}{lo:Ψ}{n:Δ}{tb:aG}{D2:qR}{D:ij}{E:XW}(R1:ja F1 H1 AA)(h:IK lo n g tb D2 E AA)(k:Am1 F1):
  AP3 SY (W 0 m σ H1) (∀i m σ H,AYF ->AaA (ApP AA') (ApP go) (AuV (K1 lo n).yld (AjD upG E x σ H' (ATt (upS K F0 H0 tb E (ATy N N) σ2 H2))))):=by
 show j' I i0 TN LU;refine z9q (lo:=lo) (n:=n) (fun i σ H=>∃F2 A4,ja F2 H A4/\ATd/\I i A4) Bjg ?_ ?_
 ·rintro i σ H hi ⟨F2,A4,R2,s2,hI⟩;exact⟨F2,A4,_,Axx,R2,N9,TN i A4 hi hI,fun Γ3 F3 H3 σ3 R3 s3 p=>⟨F3,Γ3,_,R3,p,AKI Ap2 (Auk (T' R4 (A6l s4) q)) Ap2⟩⟩
 ·rintro σ H ⟨F2,A4,R2,s2,hI⟩;exact T' R2 s2 (LU _ hI)
def sJ(BMa):aG:=WO D0 t ds (ABr [AHY] ((AHh<=j/\j<2^62)/\IK 0 ABJ g tb D0 E AA))
theorem Oq(hc:FX)(hgl:Gl X dq)(hm:O0 dq)(ha:ANl)(hg:AZq)(hb:AZg)
  (hst:BRt:=by rfl) (hs:Ads BQT:=by intro _;rfl):Apx BQT sJ t:=NS tU (AqD (z77 hgl hm F6 hst)) D Ik Ik (a_ (by
  show g_
  ·rename_i j;show ý Β r1;exact⟨j,Β,ū.1,ū.2,BdO⟩
  ·exact AcH h1))
def IV(BMa):aG:=WO D0 t ds (ABr ANP ((BdC)/\IK i BQm g tb D0 E AA))
theorem z82(hc:FX)(hgl:Gl X dq)(hm:O0 dq)(ha:AzA)(hg:AZq)(hb:AZg)
  (hst:BVf:=by rfl) (hst2:BRu:=by rfl) (hs:Ads BVR:=by intro _;rfl):Apx BVR IV t:=NS tU (AqD (z7i hgl hm F6 hst hst2)) D Il Il (a_ (by
  show g_
  ·rename_i i j;obtain⟨v,_,Β,Β,v2,_,Β,Β,Β⟩:=r1;exact⟨i,j,Β,ū,BdO⟩
  ·exact AcH h1))
#where
abbrev d7:=A7m AOS
inductive Ot (AqO d7):Θ
 | mk:Bcj (A's lx (P d)) Ot
def pC(K:Ω)(sp:d7):Sp:=Aly Ot
def aB(sp:d7)(t:cP):cu:=VO AwI
section
variable{X:Cx}{F0 H0:Hp}{e:AF}{es:CC}{Υ p:AL}{x:Κ}{f:Ζ}{fd:E_}{ps:Ρ}{k:Δ}{sp:d7}{t:cP}
theorem QX(Bf5)
  (I:AYv) (R:AFS) (r:AO8) (rs:Av5) (h:sp ds P fun C=>E Γ C) (hQ:A's (AMU F') (P d)):
  BAp us:=by
 have hs:pC AG sp vs H Q BW2:=⟨F,ds,P,_,R.g,rs,h,hQ,AVu⟩;show ApX
 show BSA;show va;show ϫ i6 (wx X.A JU s H ANi us vs Q _ hr I.env0 hbs r hs) AEy;cases r with
 | ZI e=>exact ALO Ν σ Γ F H s e s' I R hq
 | ok fl=>
  cases fl with
  | ret u=>exact I.after hq
  | JP=>show NR
  | brk=>show NR
  | NY=>show NR
theorem z72(Fn:Afa AvD)(hr:gI)(hg:JE)(hm:ATb Lc)(hk:W.keepIn AG Lc=Μ)(hb:AIf)
  (ha:NJ) (AL6):
  EG gN (aB sp t):=by
 show AH6;refine AcI (BhK hdb);refine Ach (h₀:=OQ) ASN hk (aE (Agt AwI) us xZ) he De;show AvZ xZ;show F8 og;exact QX Fn hr hb cx I1 R1 r rs q BAS
#where
def aJ(n:Δ)(ds:AM):G2:=AKU .pu++AV0 (n - ME) C_
abbrev gQ(N:Ρ)(ds:AM):G2:=aJ AK5 ds
theorem Uj{K:Ω}{F0 H:Hp}{N:Ρ}{ds:AM}{vs:AQ}(h:ß F0)(r:BV7):SR K F0 H F0 H (AGL N vs) (gQ N ds):=by
 have hl:=j7 r;refine⟨ĥ h,by simp [AGL,gQ,aJ,hl],WV i s,GN i j a e _⟩
 ·unfold gQ aJ at e;unfold AGL;show A1i
  ·show AUT AGB Ic
   cases q:ds[i]? with
   | Ι=>show L_;cases e
   | Ε d=>
    show L_;cases e;show kG e1 r1 (yF r q);refine⟨AHx,?_,v,Β,r1⟩;show BZl e1;rfl
  ·show A4w
   show tI
   ·cases e;rename_i BD;show Axb BD;show ã Ι eP;show BSg (ANZ (AgJ hl BD))
   ·cases e
 ·exfalso
  obtain⟨s,o,e,_,hs⟩:=e;unfold gQ aJ at e;show A1i
  ·show AUT AGB Ic
   cases q:ds[i]? with
   | Ι=>show L_;cases e
   | Ε d=>show L_;cases e;exact hs
  ·show A4w
   show tI
   ·cases e;exact hs
   ·cases e
section
variable{P:As}{w:AW}{K:Ω}{mg:DU}{A8:AJ}
theorem jh(AAX)(AaO d7)(Fn:Au x EI st)(S:AJ0 ps)(len:AQv)
  (wo:AKJ (∀F0:Hp,
   ∃t,An3 k_ t/\Aot A9R)):
  Ajl pC:=by
 show AFM;refine Qt lk hcd S AQz AQF
 show AqM
 show BCh hQ Be;show Amh;have cx:AQs:=by
  show Db (fun Ν σ Γ F H1 s1 e s' I R hx=> ?_) AJ3;show AKK;show AQ1;exact AQ0
 exact BCH (AMx (E6 (Pd BE)) Pd) ⟨fun Γ F' H' σ R' _ q=>A'3,ñ,ñ,BBf,ut,fun _ _ _ _ _ _ _ _ _ q=>om,AZt⟩
#where
def dF(i:Ψ):Δ:=BFc i
theorem yks(h:fq+zD<=100000000):BHy:=by
 show DJ dF;unfold IntMulOk;intro z;show A4R z;have z2:=z.2;unfold Builtin.Int.intTooBig at z2;have hb:bitsLine=134217728:=N9
 rw[hb] at z2;have:=wy z2;omega
theorem lW(h:AWw k):fq<=k:=by
 show BNe;split
 ·exact IS
 ·show L6;have n0:Ab8≠0:=AV (by
   have:i=0:=BkT;show mE;exact q Β)
  have:=(BFd n0).mpr h;omega
theorem QZ(h:fq<=k):AWw k:=by
 unfold dF BFc at h;show E4
 ·show L6;have:i=0:=CU q
  show mE;exact Nat.two_pow_pos k
 ·show L6;have n0:Ab8≠0:=AV (by
   have:i=0:=BkT;show mE;exact q Β)
  exact(BFd n0).mp Η
theorem GD(AJt):dF (i*j)<=fq+zD:=by
 refine lW ?_;rw[Ĩ,Nat.pow_add];exact Nat.mul_lt_mul'' (QZ (zN _)) (QZ E2)
theorem zjf(AJt):BbK (i+j):=by
 refine lW ?_;have h1:AWw Ba6:=QZ (Nat.le_max_left _ _);have h2:AsA<2^ Ba6:=QZ (Nat.le_max_right _ _);have h3:=Int.natAbs_add_le i j;rw[BFe];omega
theorem yhv(i:Ψ):dF (-i)=dF i:=by show BNe;simp
theorem znb(AJt):BbK (i - j):=by
 have h:=zjf i (-j);rw[yhv,<- Int.sub_eq_add_neg] at h;exact h
theorem Mj(h:Ab8<=AsA):fq<=zD:=lW (zL h (QZ (zN _)))
section
variable{X:Cx}
theorem zux{f:AKE}{C:AnI}{v:AkA}{d:Aj'}{g:H_}(ho:lV X f (rI C v))(hg:∀x y P,g x y P ->BAW AQT)(hd:BZp):lV X f (ALw g):=by
 rintro Ν s σ H x y u w Q I rx ry ⟨F,d1,d2,P,sF,r1,r2,h,k⟩;show x6 i j Β hc hp (hg _ _ _ h);show AJ8;exact ÿ ho _ u w ⟨i,j,Β,Β,hc,BRy⟩
theorem zo9{f:AKE}{v:AkA}{d:Aj'}{g:H_}(ho:lV X f (Od v))(hg:∀x y P,g x y P ->BBc AQT)(hd:BZp):lV X f (ALw g):=by
 rintro Ν s σ H x y u w Q I rx ry ⟨F,d1,d2,P,sF,r1,r2,h,k⟩;show KA i j Β hp (hg _ _ _ h);show AJ8;exact ÿ ho _ u w ⟨i,j,Β,Β,BRy⟩
def wI(C:AnI)(d:Aj'):H_:=Ò (AXj x y FU AHY (C i j/\AQT))
theorem ycg(h:wI C d x y P):BAW AQT:=by
 show DJ wI;show E4
 ·exact LL _ Β h
 show JI
def sO(d:Aj'):H_:=Ò (AXj x y FU AHY AQT)
theorem z3t(h:sO d x y P):BBc AQT:=by
 show DJ sO;show E4
 ·exact LL _ Β h
 show JI
def cQ:H_:=Ò (match x,y with
 | FU,AHY=>XE (i+j)
 | .AT i,.AT j=>D5 (i.length+j.length)/\P (.AT (i++j))
 | _,_=>D8)
theorem qX:APc Add cQ:=by
 rintro Ν s σ H x y u w Q I rx ry ⟨F,d1,d2,P,sF,r1,r2,h,k⟩;show DJ cQ;show E4
 ·show AJ8;exact ÿ ymh _ u w (LL _ Β Ñ)
 ·show AJ8;exact ÿ z4o _ u w ⟨_,_,Β,Β,FY,AjW⟩
 show JI
def fW:H_:=sO fun i j=> .AK (i - j)
theorem HS:APc Sub fW:=Aow ynu
def DR(AJt):Θ:=fq<=64\/zD<=64\/fq+zD<=100000000
theorem DR.ok(h:DR i j):BHy:=by
 rcases h with h | h | h
 ·exact .of_left h
 ·exact .of_right h
 ·exact yks h
def cN:H_:=wI DR (Ū (i*j))
theorem qy:APc Mult cN:=zux (C:=DR) (v:=Ū (i*j)) (opI fun i j _ _ _ _ _ hc q=>mul_int q hc.ok) Ayp AUS
def dR:H_:=wI (Kt j BQ9) BK1
theorem vU:APc FloorDiv dR:=zux (C:=M_ j BQ9) (v:=BK1) (opI fun i j _ _ _ _ _ hc q=>floordiv_int hc.1 q (IN (PyProof.noPylong_of_log2 (by
 have:=QZ hc.2;exact(BFd (E9 (hc.1 (BmW z)))).mpr Χ)))) Ayp AUS
def bU:H_:=wI (Kt j ANf) BK0
theorem m8:APc Mod bU:=zux (C:=M_ j ANf) yix Ayp AUS
def jE:H_:=wI LR BWV
theorem ynv:APc Pow jE:=zux yn7 (ALn ycg) AUS
def tW:H_:=Ame (i<j)
theorem IW:Ϲ Lt tW:=Aow yoi
def vo:H_:=Ame (i<=j)
theorem Xh:Ϲ LtE vo:=Aow yop
def qY:H_:=Ame (j<i)
theorem DW:Ϲ Gt qY:=Aow you
def xJ:H_:=Ame (j<=i)
def fM:D ->AO | BE=>Μ | _=>AC
theorem z7z(Aou)(r:Qr):Φ (v= BE)=fM d:=by
 cases d with
 | non=>subst r;rfl
 | bl _=>subst r;rfl
 | AK _=>subst r;rfl
 | AT _=>subst r;rfl
 | tup _=>show AZ0
 | Cc _=>show AZ0
 | exc _=>show AZ0
 | ptr _=>subst r;rfl
 | obj _ _ _=>obtain⟨a,_,_,Β,_⟩:=r;rfl
 | dic _ _=>show AZ0
 | rR _ _=>show AZ0
 | dik _ _=>obtain⟨a,_,_,Β,_⟩:=r;rfl
def vp:H_:=BZD (XG (fM x)) (c==d)
def ji:H_:=BZD (XG (! fM x)) (c !=d)
theorem abt:Ϲ Is vp:=by
 rintro Ν s σ H x y u w Q I rx ry ⟨F,d1,d2,P,sF,r1,r2,h,k⟩;show DJ vp;show E4
 ·have e:=z7z r1;subst r2;exact ÿ ymj x u w BOg
 ·show E4
  ·show AJ8;cases rx;cases ry;exact is_bool (AUY Ñ)
  ·exact oS
 show JI
theorem yka:Ϲ IsNot ji:=by
 rintro Ν s σ H x y u w Q I rx ry ⟨F,d1,d2,P,sF,r1,r2,h,k⟩;show DJ ji;show E4
 ·have e:=z7z r1;subst r2;exact ÿ yi2 x u w BOg
 ·show E4
  ·show AJ8;cases rx;cases ry;exact isnot_bool (AUY Ñ)
  ·exact oS
 show JI
mutual
def iH:BRj
 | BE,b=>(AMK BE Μ)
 | .bl a,b=>(AXb uA)
 | AOM,b=>(AXb AON)
 | .AT a,b=>(AXb (.AT b))
 | cf,b=>(AMK AiU Ÿ)
 | ma,b=>(AMK AWJ Ÿ)
 | .exc a,b=>(AXb (.exc b))
 | .ptr a,b=>(AXb (.ptr b))
 | .obj C fs xs,b=>(AMK (.obj C' fs' ys) (Φ (C=C')&&Φ (fs=fs')&&Ÿ))
 | AB' xs,b=>(A'I dic)
 | .rR ks xs,b=>(A'I rR)
 | A3i,b=>(A'I dik)
def gY:AM ->AM ->AO
 | [],[]=>Μ
 | OF,y::ys=>iH x y&&Ÿ
 | _,_=>AC
end
@[simp] def kd:D ->Δ
 | BE=>0
 | fT=>1
 | cy=>2
 | hV=>3
 | AWM=>4
 | à=>5
 | _=>6
@[simp] def FN (d d' :D):AO:=kd d<6&&kd d' <6&&(kd d !=kd d' || kd d<4)&&(kd d !=1 || kd d' !=2)&&(kd d !=2 || kd d' !=1)
def rZ:M3 (DD D D)
 | n+1,cf,AiU=>A8k
 | n+1,ma,AWJ=>A8k
 | _,d,d' =>Ao4
#where
mutual
theorem K5:∀d:D,iH d d=Μ
 | BE=>AEM
 | fT=>AEM
 | cy=>AEM
 | hV=>AEM
 | cf=>Ev (Q5 xs)
 | ma=>Ev (Q5 xs)
 | AD'=>AEM
 | AEH=>AEM
 | .obj _ _ xs=>Alm
 | P6 _ xs=>Alm
 | .rR _ xs=>Alm
 | .dik _ xs=>Alm
theorem Q5:∀ds:AM,gY ds ds=Μ
 | []=>AWT
 | hW=>AXh gY (K5 d) (Q5 ds)
end
mutual
theorem ygv:∀a b:D,iH a b=Μ ->a=b
 | BE,b,h=>AQr
 | fT,b,h=>AQr
 | cy,b,h=>AQr
 | hV,b,h=>AQr
 | AD',b,h=>AQr
 | AEH,b,h=>AQr
 | .obj _ _ xs,b,h=>by
  cases b with
  | obj _ _ ys=>show AvB iH AGM;rw[FY.1,FY.2,AvA]
  | _=>show AP7
 | P6 _ xs,b,h=>by
  cases b with
  | dic _ ys=>show A5o
  | _=>show AP7
 | .rR _ xs,b,h=>by
  cases b with
  | rR _ ys=>show A5o
  | _=>show AP7
 | .dik _ xs,b,h=>by
  cases b with
  | dik _ ys=>show A5o
  | _=>show AP7
 | cf,b,h=>by
  cases b with
  | tup ys=>rw[Q6 xs ys h]
  | _=>show AP7
 | ma,b,h=>by
  cases b with
  | Cc ys=>rw[Q6 xs ys h]
  | _=>show AP7
theorem Q6:∀a b:AM,gY a b=Μ ->a=b
 | [],b,h=>by cases b<;>simp [gY] at h<;>rfl
 | OF,b,h=>by
  cases b with
  | DB=>simp [gY] at h
  | AY y ys=>
   show DJ gY;rw[eK] at h;rw[ygv x y FY,AvA]
end
theorem zu5:A_U (BU=OW ->(∀e:M3 AO,(Ae3 (e i=iH x y)) ->A3Y BU e=Ÿ))
 | [],[],_,_,_=>AWT
 | OF,y::ys,hl,e,he=>by
  have ih:=zu5 (xs:=xs) (ys:=ys) AyY (ya (e (D9))) fun i a b h1 h2=>he C9 a b ADz AOc
  rw[FI,AsB,AR8,BFf];rw[he 0 x y Β Β]
  congr 1
theorem zv8:A_U (BU≠OW ->gY xs ys=AC)
 | [],[],h=>ϣ h
 | [],DV,_=>AWT
 | DV,[],_=>AWT
 | OF,y::ys,h=>uB gY (zv8 (Ae' h)) Aci
theorem z83:A_U (AVD OW ->(Ae3 (iH x y=Μ)) ->Aob)
 | [],[],_,_=>AWT
 | OF,y::ys,hl,h=>AXh gY (h 0 x y Β Β) (z83 AyY fun i a b h1 h2=>h C9 a b ADz AOc)
section
variable{X:Cx}{Ν:fB}{σ:St}{F H:Hp}{s:AB}
theorem zyi(I:AS){a:Ζ}{xs ys:AQ}(h:AYu nY)(h' :ADS xH a):D8:=by
 obtain⟨AU,_,⟨o,n,e,c,_,_⟩,_⟩:=Axq;obtain⟨im,_,⟨o',e',c',_⟩,_⟩:=io h';rw[e] at e';cases e';rw[c] at c';injection c' with c';exact AWV c'
theorem zo7{n:Δ}{d d' :D}(hc:A8e):Ao4\/ (Bbj cf AiU)\/
  Bbj ma AWJ:=by
 unfold rZ at hc;split at hc
 show KL (IN Bca)
 show KL (E7 Bca)
 ·exact .A0 hc
theorem ygn(I:AS)(sF:t9):∀(n:Δ) (d d' :D) (v:V),BVU A8e:=by
 have flat:∀(d d' :D) (v:V),BVU Ao4:=by
  intro d d' v hf r r';cases d with
  | non=>simp only [Rep] at r;subst r;cases d' <;>simp only [Rep] at r' <;>first | rfl | show AuQ | show AuR | show BiO
  | bl=>show BAY
  | AK=>show BAY
  | AT=>show BAY
  | tup=>show BfD (w4 h2) (vm sF h1)
  | Cc=>show BfD (w4 h1) (vm sF h2)
  | _=>cases hf
 intro n;induction n with
 | Tb=>
  intro d d' v hc r r';show Bj1 h h h
  ·exact flat d d' v h r r'
  ·cases h
  ·cases h
 | Th n ih=>
  intro d d' v hc r r';have go:∀{xs ys:AM} {vs us:AQ},Hm (vs=us) (yT F xs) (aL AG F ys us) A8k Aob:=by
   intro xs ys vs us e r1 r2 hc;subst e;refine z83 (Ź (j7 r1) (j7 r2)) (GN i x y h1 h2)
   show EQ v1 e1 q1 yF r1 h1;show EQ v2 e2 q2 yF r2 h2;rw[e1] at e2;cases e2;exact ih x y v1 (hc i x y h1 h2) q1 q2
  rcases zo7 hc with h | ⟨_,xs,ys,h,Β,Β,hc⟩ | ⟨_,xs,ys,h,Β,Β,hc⟩
  ·exact flat d d' v h r r'
  ·cases h;show KA a vs h1 q1 r;obtain⟨b,us,z,h2,q2⟩:=r';cases z;exact go (BEW (vm sF h1) (vm sF h2)) q1 q2 hc
  ·cases h;show KA a vs h1 q1 r;obtain⟨b,us,z,h2,q2⟩:=r';cases z;exact go (ArQ (w4 h1) (w4 h2)) q1 q2 hc
structure EqD (A:BV) (s:AB) (v u:AE) (b:AO):Θ where
 eq:BFK A s v u b
 rc:SeqAt.RcAt A s v u b
 ne:BmX A s v u (! b)
theorem z6u{n m:Δ}(e:M3 AO)(h:n=m):(AVH (min n m) all e&&n==m)=A3Y n e:=by
 subst h;simp
def Kn(s:AB):DD D AE
 | BE,v=>v= BI
 | uA,v=>v= .bool b
 | FU,v=>∃t,v= .AK i t
 | ç,v=>∃t,v= .AT x t
 | AWM,v=>BY' (IsTup BG l is)
 | à,v=>BY' (Ai4 is)
 | _,_=>JS
theorem kn(I:AS)(sF:t9){d:D}{x:V}{v:AE}(r:Rep AG F d x)(rv:iN):Kn s d v:=by
 cases d<;>simp only [Rep] at r<;>try trivial
 case non=>subst r;cases rv;rfl
 case bl=>subst r;cases rv;rfl
 case AK=>subst r;show SC rv;exact uv
 case AT=>subst r;show SC rv;exact uv
 case tup=>
  obtain⟨l,vs,Β,h,_⟩:=r;cases rv;obtain⟨is,_,k,_⟩:=A_g h;exact⟨l,Β,_,k⟩
 case Cc=>
  obtain⟨l,vs,Β,h,_⟩:=r;cases rv;obtain⟨is,_,k,_⟩:=Pe (w4 h);exact⟨l,Β,_,k.isList⟩
theorem z7f{A:BV}{d d' :D}{v u:AE}(hu0:AiY)(hf:Ao4)(a:Kn s d v)(b:Kn s d' u):BXm:=by
 cases d with
 | non=>
  show SH a;cases d' with
  | non=>show vn (.Tk _) .none_none .none_none
  | bl _=>show vn Aya Aya Aya
  | AK _=>show ATl AzE AzE AzE
  | AT _=>show ATl AzF AzF AzF
  | tup _=>show AHs A2l A2l A2l
  | Cc _=>show AHs A2m A2m A2m
  | _=>cases hf
 | bl _=>
  show SH a;cases d' with
  | non=>show vn Ayb Ayb Ayb
  | bl _=>show vn AzG AzG AzG
  | AT _=>show ATl A0n A0n A0n
  | tup _=>show AHs A2p A2p A2p
  | Cc _=>show AHs A2q A2q A2q
  | _=>cases hf
 | AK _=>
  show AdH a;cases d' with
  | non=>show vn AzH AzH AzH
  | AK _=>show ApK int_int int_int int_int
  | AT _=>show ApK int_str int_str int_str
  | tup _=>show ApN BFg BFg BFg
  | Cc _=>show ApN BFh BFh BFh
  | _=>cases hf
 | AT _=>
  show AdH a;cases d' with
  | non=>show vn AzI AzI AzI
  | bl _=>show vn A0o A0o A0o
  | AK _=>show ApK str_int str_int str_int
  | AT _=>show ApK str_str str_str str_str
  | tup _=>show ApN BFi BFi BFi
  | Cc _=>show ApN BFj BFj BFj
  | _=>cases hf
 | tup _=>
  show AtR k1 a;cases d' with
  | non=>show vn A2n A2n A2n
  | bl _=>show vn A2r A2r A2r
  | AK _=>show ApL BFk BFk BFk
  | AT _=>show ApL BFl BFl BFl
  | Cc _=>show AHs A3H A3H A3H
  | _=>cases hf
 | Cc _=>
  show AtR k1 a;cases d' with
  | non=>show vn A2o A2o A2o
  | bl _=>show vn A2s A2s A2s
  | AK _=>show ApL BFm BFm BFm
  | AT _=>show ApL BFn BFn BFn
  | tup _=>show AHs A3I A3I A3I
  | _=>cases hf
 | _=>cases hf
theorem Xi(I:AS)(sF:t9):∀(n:Δ) (A:BV) (d d' :D) (x y:V) (v u:AE),cr (AF_+n+1<ABM) A8e (Rep AG F d x) (Rep AG F d' y) iN Q4 BXm:=by
 intro n;induction n with
 | Tb=>
  intro A d d' x y v u hu hc r r' rv ru;show Bj1 h h h
  ·exact z7f Η h BSU BSV
  ·cases h
  ·cases h
 | Th n ih=>
  intro A d d' x y v u hu hc0 r r' rv ru;have hu0:AiY:=Τ
  rcases zo7 hc0 with h | ⟨_,xs,ys,h,Β,Β,hc⟩ | ⟨_,xs,ys,h,Β,Β,hc⟩
  ·exact z7f hu0 h BSU BSV
  ·cases h;show KA l1 vs h1 q1 r;show kg l2 h2 q2 r';cases rv;cases ru;obtain⟨is1,p1,k1,_⟩:=A_g h1;obtain⟨is2,p2,k2,_⟩:=A_g h2;have el1:BJs:=BR9
   have el2:BNQ:=BR_
   have at_:BgG:=by
    intro j g1 g2;show Hc g1' AWS (AVG el1 g1) g2' (j<OW) (AVG el2 g2) e1 (WJ xs xs[j]) (C8 g1') e2 BO9 (C8 g2')
    show EQ w1 f1 m1 yF q1 e1;show EQ w2 f2 m2 yF q2 e2;show DT z1 c1 b1 p1.get f1;show DT z2 c2 b2 p2.get f2;have y1:Avs=z1:=by simpa [AaT] using (d_ c1).2
    have y2:Avt=z2:=by simpa [AaT] using (d_ c2).2
    simp only [e1,e2];rw[y1,y2];exact(ih oq _ _ w1 w2 z1 z2 BLw BbC m1 m2 b1 b2).eq
   show ACH EqD A2w;have Tk:l1=l2 ->Aob:=fc (by
    have z:=ygn I sF QP f_ AOo AhB (AfC rZ hc) BYQ BcI
    exact z)
   have ev:(AVH (min AGN ASO) all AxM&&AGN==ASO)=Ÿ:=by
    have s1:AGN=BU:=C8 el1
    have s2:ASO=OW:=C8 el2
    rw[s1,s2];show BVL
    show Dx (z6u _ hl) BZ7
    ·rw[zv8 hl,BFo hl,Aci]
   have rc:=SeqAt.RcAt.tuples k1 k2 hu0 at_;have rn:=SeqAt.RcNeAt.tuples k1 k2 hu0 at_;rw[ev] at rc rn;refine⟨?_,rc,rn⟩;show L7 l1 l2
   ·rw[Tk e];subst e;exact Ax2
   ·exact BPY
  ·cases h;show KA l1 vs h1 q1 r;show kg l2 h2 q2 r';cases rv;cases ru;obtain⟨is1,p1,k1',_⟩:=Pe (w4 h1);obtain⟨is2,p2,k2',_⟩:=Pe (w4 h2);have k1:=k1'.isList;have k2:=k2'.isList;show U2 el1 BJs BR9 el2 BNQ BR_ at_ BgG (by
    intro j g1 g2;show Hc g1' AWS (AVG el1 g1) g2' (j<OW) (AVG el2 g2) e1 (WJ xs xs[j]) (C8 g1') e2 BO9 (C8 g2')
    show EQ w1 f1 m1 yF q1 e1;show EQ w2 f2 m2 yF q2 e2;show DT z1 c1 b1 p1.get f1;show DT z2 c2 b2 p2.get f2;have y1:Avs=z1:=by simpa [AaT] using (d_ c1).2
    have y2:Avt=z2:=by simpa [AaT] using (d_ c2).2
    simp only [e1,e2];rw[y1,y2];exact(ih oq _ _ w1 w2 z1 z2 BLw BbC m1 m2 b1 b2).eq)
   show ACH EqD A2w;have Tk:l1=l2 ->Aob:=fc (by
    have z:=ygn I sF QP AHZ AOP AhB (AfC rZ hc) BYQ BcI
    exact z)
   have rcn:SeqAt.RcAt A s AhB (BA l2) A2w/\BmX A s AhB (BA l2) (! Ÿ):=by
    show BVL
    ·have ev:A3Y AGN AxM=Ÿ:=by
      have s1:AGN=BU:=C8 el1
      rw[s1];exact BZ7
     have hz:AGN=ASO:=by simp [el1,el2,hl]
     have rc:=SeqAt.RcAt.lists k1 k2 hz hu0 at_;have rn:=SeqAt.RcNeAt.lists k1 k2 hz hu0 at_;rw[ev] at rc rn;exact⟨rc,rn⟩
    ·have hz:(AGN !=ASO)=Μ:=by simp [el1,el2,hl]
     rw[zv8 hl];exact⟨SeqAt.RcAt.lists_lengths k1 k2 hz hu0,SeqAt.RcNeAt.lists_lengths k1 k2 hz hu0⟩
   obtain⟨rc,rn⟩:=rcn;refine⟨?_,rc,rn⟩;show L7 l1 l2
   ·rw[Tk e];subst e;exact Ax2
   ·exact BPY
def mK:H_:=Ò (rZ 20 x y/\XG (iH x y))
def qu:H_:=Ò (rZ 20 x y/\XG (! iH x y))
theorem nC(hu:ATG AcP):Ϲ Eq mK:=by
 rintro Ν s σ H x y u w Q I rx ry ⟨F,d1,d2,P,sF,r1,r2,h,k⟩;exact ACH (Xi I sF 20 X.A d1 d2 x y u w hu FY r1 r2 rx ry).rc (AUY AjW)
theorem Aq(hu:ATG AcP):Ϲ NotEq qu:=by
 rintro Ν s σ H x y u w Q I rx ry ⟨F,d1,d2,P,sF,r1,r2,h,k⟩;exact ACH (Xi I sF 20 X.A d1 d2 x y u w hu FY r1 r2 rx ry).ne (AUY AjW)
#where
theorem z2u(A'c)(X:Sn)(q:n8 K C)(D:Ζ){nm qn:Κ}{N:Ζ}{bs bm:An}{P1:AO}{sn:Ρ}{BM:An}{ab:AO}{col:AhK}{dd:OB}{k0 k1 k2 k3 k5:ei}{newId:LT}
  (e:Bi1 newId):AZw (BA D)=bB K C D:=by
 unfold n8 j6 at q;show XZ
 ·rename_i ho;have z:=A6r;rw[e] at z;unfold bB;rw[ho];cases z
  rfl
 ·cases q
section
variable{M:ARj}{A:BV}{E:eO}{h:AJ}{g:ſ}{d:ARg}{t:Δ}{os:AAc}
 {nm q nm' q' :Κ} {C N C' N' :Ζ} {bs bm bs' bm' :An} {P1 Ja :AO} {sn sn' :Ρ} {BM sub' :An} {ab ab' :AO} {col col' :AhK} {dd Ip :OB} {k0 k1 k2 k3 k5 j0 j1 j2 j3 j5:ei} {newId newId' :LT}
theorem zpp(hC:AM0 C (BFW nm q C N bs bm P1 sn BM ab col dd k0 k1 k2 k3 k5 newId))(hD:AM0 C' (BFW nm' q' C' N' bs' bm' Ja sn' sub' ab' col' Ip j0 j1 j2 j3 j5 newId'))
  (he:fN oe) (hcls:Ar3= HE) (TZ:bm'.contains AiG=Μ) (hq:Q (AZw Axn) AMH):Bc4 (excMatches E8 Axn):=by
 have cb:(TD C' ::bm').AFv AiG=Μ:=Bi_ TZ
 have nt:=tc_notTuple;generalize hk:(TD C::bm).AFv Axn=k at hq
 repeat (first | show BJk he hcls | show ADV hD | show AgW hD cb | show AgW hC hk | wp_step)
 cases (k)<;>(wp_walk;exact hq)
#where
abbrev _root_.L2.Cx.hand(X:Cx)(a:Ζ):Cx:={X with A:=X.A.mark (Ε E8),calm:=AC}
section
variable{X:Cx}{Ν:fB}{σ:St}{H:Hp}{s:AB}{a:Ζ}
theorem yic(ok:X.Ok)(a:Ζ):(AGO a).Ok:=
 Bgv (AV (AL8 z))
theorem zo1(I:AS)(a:Ζ):Inv (AGO a) Ν σ H s:=A3L (yic nr a)
theorem yao(ok:X.Ok)(z:Om):A3x:=Bgv ok.hd
theorem yhb(I:AYv):Inv A9w [] σ H s:=
 Afw (yao nr _) (WP (AAx p (EF hp)))
theorem Xj(I:Inv A9w uR σ H s):AYv:=
 Afw (yao nr _) (WP (AAx p (zP _ hp)))
theorem yo4{z:Om}{xe:eO}{D:ij}{f:Flow}{uR :fB}(h:SP A9w uR D f s):Amr K2 s:=by
 cases f with
 | JP=>show A3M
 | brk=>show A3M
 | NY=>show A3M
 | ret u=>obtain⟨v,DA,H',I,r,q⟩:=h;exact⟨v,DA,H',Xj I,r,q⟩
theorem Xk(ok:A3x)(I:Inv (Apd xe) Ν σ H s):AYv:=
 A3L ok
theorem z8e{z:Om}{xe:eO}{D:ij}{f:Flow}(ok:A3x)(h:Amr (Apd xe) s):Amr K2 s:=by
 cases f with
 | JP=>show A3N
 | brk=>show A3N
 | NY=>show A3N
 | ret u=>obtain⟨v,DA,H',I,r,q⟩:=h;exact⟨v,DA,H',Xk ok I,r,q⟩
#where
def kj:XW:=AGv
theorem Ak.base(Awd){D2:qR}{D:ij}(k:Am1 F)(g:AQu):Ak K F H0 F D2 D:=
 ⟨BCd k.nx,BCd k.bk,BCd k.ct,BCQ (k.rt d v F' H' Azx r h),BCQ (k.rf d v F' H' Azx (zu6 (z46 g.f) d v r) h),fun t v as F' H' gr nd hn r h=>k.rT t v as F' H' Azx nd hn r h,fun d v Γ F' H' σ R r h=>k.rm d v Γ F' H' σ Bh7 r h⟩
section
variable{X:Cx}{Ν:fB}{σ:St}{H:Hp}{s:AB}
theorem HW:Ctx (ħ ⟨AGv,pn⟩) F0 H0 kj:=
 Bgp (Ll _ PassesOwnAt.never)
#where
def lM(K:Ω)(Cd:Ζ)(tb th:aG):aG:=Bfd D AA
def gO(K:Ω)(Cd:Ζ)(i:Δ)(tb th:aG):aG:=Bfd {nx:=AUh (TM (Γ'.set i C_)),rt:=D.rt,bk:=BQf D.bk,ct:=BQf D.ct} (ABU i (.pu (.exc C)))
def cU(g:As_)(ta:cu):cu:=WB ta d (g d fun d' =>(FF d'))
def gF:As_:=fun x P=>(ĸ x FU (XE (-i)))
inductive Ou (K:Ω) (g:VC) (vs:AQ) (H:Hp) (Q:VK):Θ
 | mk:Ba8 BfB Ou
def vV(K:Ω)(g:VC):u_:=fun vs H Q=>Ou K g vs H Q
def iT(g:VC)(t:cP):cu:=VO (g ds fun d=>(FF d))
def dD:H_:=Ò (match x,y with
 | ma,FU=>BXD
 | cf,FU=>BXD
 | Ah',FU=>∃c,AyH/\BQC/\P (.AT A3s)
 | _,_=>D8)
theorem zt4(OI){ds:AM}{vs:AQ}{i:Ψ}{d:D}(r:L5)(h:AHq ds d):AkY (AHq vs v):=by
 unfold nZ at h⊢;rw[<- j7 r];cases q:xW ME i with
 | Ι=>rw[q] at h;cases h
 | Ε j=>
  rw[q] at h;exact yF r h
section
variable{X:Cx}{F0 H0:Hp}{a b e:AF}{es:CC}{Υ p:AL}{ta tb te:cu}{t:cP}{x:Κ}
theorem Jb(ha:ck):EG (.ArF .USub a Υ) (cU gF ta):=fun z E cx=>
 pB (yox ylq F6) (LE σ H Q Bz P Bz (AZj (by
  cases d with
  | AK i=>
   exact⟨i,r,Apf⟩
  | _=>show ua)))
theorem ygi{K:Ω}{g:VC}{E:XW}{σ:St}{H:Hp}{Q:VK}(h:AHE HD A7T):BWW vV:=by
 show NO h;exact a_ (BdZ (fun d z F' H' gr rz hp=>k d AA F' H' z AMr (AGg Kj) rz hp))
theorem sy{id:LT}{g:VC}(hc:∀z,eZ K2 ACk (vV AG g))(hg:JE)(hm:AEc)(hv:ADy ACk)(ha:NJ)(AJ4):EG gN A7T:=fun z E cx=>
 pB (AQB Wt Ahu hv hn hdb De) (Ā ygi)
theorem fU(ha:ck)(hb:ϖ)(hs:zzp b):AkK a b (NF ta tb):=fun z E cx=>
 pB (AGf yh0 r (uT AG dD) (by
  rintro EV ir Ν s σ H x y v u Q I rx ry ⟨F,d1,d2,P,sF,r1,r2,h,k⟩ hs;show DJ dD;show E4
  ·show AEr r1;subst r2;show LN d e hp;obtain⟨w,ew,tR⟩:=zt4 rs e;exact z97 EV ir Ν s σ H _ _ v u Q I rx ry ⟨p,vs,_,w,Β,Β,w4 hq,ew,ABp tR hp⟩ hs
  ·show AEr r1;subst r2;show LN d e hp;obtain⟨w,ew,tR⟩:=zt4 rs e;exact yf2 EV ir Ν s σ H _ _ v u Q I rx ry ⟨p,vs,_,w,Β,Β,vm sF hq,ew,ABp tR hp⟩ hs
  ·show AJ8;show j' c hz e hp;exact ymp EV ir Ν s σ H _ _ v u Q I rx ry ⟨_,_,c,Β,Β,hz,e,ABp KB hp⟩ hs
  show JI) F6 Q2 hs) (Ā yex)
#where
def tY:VC:=AMD [FU] (XE AZ_)
def lX:VC:=AdP (match ds with | ATM=>BIV | [cf]=>BIV | [Ah']=>D5 AR7/\XE AR7 | _=>D8)
def xK:VC:=BTK (j>i)
def xM:VC:=BTK (j<i)
section
variable{X:Cx}
theorem yds:APP "abs" tY:=by
 show vz;show DJ tY;show E4
 ·show ý Β rs;exact AQe yfm (Oy Ñ)
 show JI
theorem yJ:APP AKc lX:=by
 show vz;show DJ lX;show E4
 ·show AAZ;rw[Sc] at h;exact AQe zn9 (ϵ AnM Ñ)
 ·show AAZ;rw[Sc] at h;exact AQe zn9 (ϵ AnS Ñ)
 ·show ý Β rs;exact AQe zwi ⟨_,Β,FY,AjW⟩
 show JI
#where
def tyD:D ->My LT
 | BE=>Ε "NoneType" | fT=>Ε "bool" | cy=>Ε ARK | hV=>Ε "str" | AWM=>Ε dP | à=>Ε MZ | AD'=>Ι | AEH=>Ι | A0m=>Ι | AD_=>Ι | AEd=>Ι | AO6=>Ε dr
def abu(d:D)(T:LT):AhK:=(tyD d).bind fun S=>W.kitOne [] (SB S) AIL
def lN(T:LT)(ta:cu):cu:=WB ta d (match abu d T with | Aec=>FF AiQ | Ι=>D8)
def dh(C:Ζ)(t:cP):aG:=A3' (AXm (E AA LA))
section
variable{X:Cx}{F0 H0:Hp}{e:AF}{es:CC}{Υ np Fh:AL}{t:cP}{x:Κ}{C:Ζ}
theorem z2d(hh:FX)(hg:JE)(hm:AJr)(hC:o9 AG C)(ha:NJ)
  (Anj):
  P7 Awy (dh C t):=by
 rintro z E cx Ν s σ H D I ⟨F,Γ,D2,R,h,k⟩;refine AGf yd4 E (fun C' dx H1=>∃F1 AA,AMI/\E AA LA) hg hm hC F6 hh I (a_ ⟨Bi5,F1,AA,R1,h1.2⟩) (fun H1 s1 e s' I1 hx=> ?_) hd he De
 obtain⟨a,C',H',B,dx,h1,h2,h3,h4,h5,h6,h7,h8,Β,h9,Β,F1,AA,R1,hE⟩:=hx;exact ALO Ν σ AA F1 _ s1 e s' I1 R1 ⟨a,_,_,B,dx,h1,h2,h3,h4,h5,h6,h7,h8,_,_,hE,ĥ IL,Β,h9⟩
#where
structure cZ (AFb) (mg:DU) (A8:AJ) (x:Κ) (k:Δ) (ps:Ρ) (sp:d7):Θ where
 ex:Aov pC
section
variable{X:Cx}{F0 H0:Hp}{e:AF}{es:CC}{Υ p:AL}{x:Κ}{ps:Ρ}{k:Δ}{sp:d7}{t:cP}
theorem cW(Aok cZ):
  EG gN (aB sp t):=by
 obtain⟨f,fd,h1,h2,h3,h4⟩:=w8;exact z72 h1 hr hg h2 h3 h4 ha hdb he De
#where
section
variable{X:Cx}{Ν:fB}{σ:St}{H:Hp}{s:AB}{a:Ζ}{o:HO}
theorem Inv.track(I:AS)(hn:zo)(ok:AM' (AXK o) a o)(n0:BHi)(nl:BIy)(nc:ADW a)(np:Afe a):ZY (AXK o) s:=by
 refine⟨nr,I.os,Ę,⟨Abj,Abm,GN b u e n hx,Aq9,K_ xs e,We xs e ?_,K_ ps e⟩,ib,Ė,?_,AP_,nI,IU,AFq⟩
 show AXu (AkI n0) (AKk b u e n hx)
 ·have q:=Abn b xs e;rw[Ady];exact q
 ·have q:=ARi b u xs e;rw[Ady];exact q
 ·show ADY m (Abo b ps e);exact⟨m,AUp⟩
 show Dx (ATY bW nl) ė
 ·rw[bW (nc x c e)];exact AFp x c e
 ·show AaN;exact⟨e,AX (bW (np p hp)) n,ne,nf,d⟩
 ·show YA
  show A8n ok
  ·rw[ub] at e;exact Bf4 MC q
#where
def zua:d7:=Apz (XG Μ)
theorem zk8(OI):∀ns:BS,On ACG AuU
 | []=>N9
 | n::ns=>rW KB (zk8 ns)
theorem z5s{K:Ω}{H:Hp}{a:Ζ}{ns:BS}(hl:AUc)(hS:Aoq):pC K zua PF H A7L ű:=
 ⟨H,jv ACG,fun d=>d= AHz,rX,kB,Oi (EL ⟨a,_,Β,hS,zk8 ns⟩),⟨ns,Β,hl,Β⟩,BCQ (by subst h;exact r),AQq _ h oS⟩
theorem ydm(h:dY P w [] H s (ű) e s'):D8:=by
 obtain⟨_,_,_,_,_,_,_,_,_,_,_,_,_,h⟩:=h;exact h
structure DZ where
 fV:Ζ:=0
 Q7:Ζ:=0
 abv:Ζ:=0
 abw:Ζ:=0
 ab3:Ζ:=0
 Missing:Ζ:=0
 Xl:Ζ:=0
 xO:Ζ:=0
 Apart:Ζ:=0
 aao:Ζ:=0
 cD:Ζ:=0
 Open:Ζ:=0
 abx:Ζ:=0
 Uk:Ζ:=0
 ab4:Ζ:=0
 Scale:Ζ:=0
 ab6:Ζ:=0
 ao:Ζ:=0
 ab7:Ζ:=0
structure Jc (AEx):Θ where
 ga:Au0 AbT AFj
 gn:AjQ BDI
 cl:Au0 BDJ BDK
 ob:A2' C
 be:A2_ C
def lO(K:Ω)(C:Ζ)(ta:cu):cu:=BZf (bB K C0 C)
section
open AKP PySem.Builtin PySem.Builtin.ObjectAttr PySem.Builtin.Getset_descriptor
variable{CA:As}{w:AW}{A:BV}{E:eO}{K:Ω}{h:AJ}{g:ſ}{d:ARg}{t:Δ}{os:AAc}{a C:Ζ}{o:Obj}
theorem zu0(X:Sn)(G:Jc K C)(hx:ϱ)(hc:AkH)(hq:Q () AMH):Bc4 (BFp AFj (J' [BQ,nameV])):=by
 have hk:builtinKind AFj =Ε .OP:=Ù
 have hsp:Azh AFj AqW AbT:=Ù
 have ha:=F.args_bexc_ga E8 nameV;have L1:=looks_mroIn (M:=M) X G.be;simp only [BFp,hk,hsp];refine z6 ?_;unfold AGP
 repeat (first | show BJk hx hc | with_reducible refine L1.at ?_ | wp_step)
 exact hq
#where
theorem z8k:∀(IC:lf) (n:Δ) (A3:ό),(Œ IC BPo) ->(eI n IC A3).wn x=acc.lookup x
 | [],_,_,_=>Β
 | A7Y,n,A3,h=>by
  unfold eI;have hr:WN r BPo:=WP BiD;split
  ·rename_i hk;have hy:y≠x:=h (y,k) zY Ahk
   rw[BTU,i7];have:To x y:=Ax0 (AKl hy)
   rw[Χ]
  ·exact BTU
theorem z9c:∀(IC:lf) (h:AJ) (A3:ό),AXf (eI MB IC A3) ->AXf A3\/ (MB<=c/\ (ALP h IC).IsCell c Ι/\ BI6 IC)
 | [],_,_,m=> .A0 m
 | A7Y,h,A3,m=>by
  unfold eI at m;unfold ALP;split at m
  ·rename_i hk;show AOr;have sz:AGp wq (ASw "cell" cell Ι)=MB+1:=AOD;rw[<- sz] at m;show A'z (z9c r _ _ m)
   ·rcases Ae6 with e | z
    ·cases (e);have e2:k= Ň:=CU hk
     subst e2;refine .AZ ⟨MV,?_,zY⟩;exact NE (BFq r _ _ _ AnX)
    ·exact AOV
   show KL ⟨by rw[sz] at z1;omega,z2,zW _ z3⟩
  ·rename_i hk;show AOi;show A'z (z9c r h A3 m)
   ·exact AOV
   show KL ⟨z1,z2,zW _ z3⟩
theorem zup:∀(IC:lf) (n:Δ) (A3:ό),(acc.Pairwise fun x y=>Am') ->(Œ A3 (p.2<n)) ->(eI n IC A3).AsD fun x y=>Am'
 | [],_,_,h,_=>h
 | A7Y,n,A3,h,hl=>by
  unfold eI;split
  ·refine zup r _ _ (BFr ⟨WV p hp,h⟩) nI
   ·have e' :n=p.2:=e;exact yS _ (Nat.lt_of_lt_of_eq (hl p hp) e')
   ·show ai hp hp
    ·exact AOQ
    ·exact ASP (hl p hp)
  ·exact zup r n A3 h hl
def ud(BN:Env):lf ->ό ->ό
 | [],cs=>cs
 | AlH,cs=>ud BN r (B5 (k== UF) ((n,(ARa n).i4 0)::cs) cs)
theorem yib(h:WN AF' AuA):closureFor KO BN=KW BR1:=by
 have A9:∀(IC:lf) (cs:ό),A4l ->
   (forIn IC cs fun(x:Κ×AcE) (r:ό)=>(if x.2== UF then do let a<- cellOf BN x.1;Ala ((x.1,a)::r) else Ala r:Sem _))=KW (ud BN IC cs):=by
  intro IC;induction IC with
  | DB=>intro cs _;rfl
  | AY p r ih=>
   intro cs hh;obtain⟨n,k⟩:=p;show A_K;rw[Bma];unfold ud;by_cases hk:A7K
   ·show PM c (hh ADQ zY Ahk)
    have e' :cellOf BN n=KW c:=by unfold cellOf;rw[e]
    simp only [hk,oC,e',pure_bind,e,Option.getD_some];exact ih _ hr
   ·show vj hk' k AsE (CU hk)
    simp only [hk',Acj,AK8,pure_bind];exact ih _ hr
 unfold closureFor;have:=A9 AF' [] h
 simpa using Χ
theorem zv7:∀(IC:lf) (cs:ό),A4l ->AXf (ud BN IC cs) ->AXf cs\/ (Ajw IC/\AWy)
 | [],_,_,m=> .A0 m
 | AlH,cs,hh,m=>by
  show A_K;rcases zv7 r _ hr m with z | ⟨z1,z2⟩
  ·split at z
   ·rename_i hk;rcases Ae6 with e | z
    ·cases (e);have e2:k= UF:=CU hk
     subst e2;show PM c (hh (_,UF) zY Β);refine .AZ (D_ zY);have e' :AWy:=e;rw[e'];rfl
    ·exact AOV
   ·exact AOV
  show KL ⟨zW _ z1,z2⟩
theorem zo4(e:AWy):BYp ((Ajw IC\/AGh cs.lookup) ->(∀c',Fr cs.lookup c' ->c' =c) ->AGh (ud BN IC cs).wn)
 | [],cs,h,_=>by
  show dA h
  ·cases h
  ·exact h
 | AlH,cs,h,hu=>by
  unfold ud;by_cases hk:A7K
  ·show AOr;by_cases hn:x=n
   ·subst hn;refine zo4 e r _ (E7 ?_) (BO c' q)
    ·rw[i7];simp [e]
    ·rw[i7] at q;simp [e] at q;exact AsF
   ·show vj hb x n (Ax0 hn)
    refine zo4 e r _ ?_ (BO c' q)
    ·show dA h
     ·show OH AIr
      ·cases (z);exact ϣ hn
      ·exact AOV
     ·refine .AZ ?_;rw[i7,hb];exact h
    ·rw[i7,hb] at q;exact hu c' q
  ·show AOi;refine zo4 e r cs ?_ hu;show dA h
   ·show OH AIr
    ·cases (z);exact ϣ hk
    ·exact AOV
   show KL h
theorem znt(inj:A'q AWy (ARa y=Ε c)):BYp (A_ (names.map (·.1)).OO A4l (cs.Pairwise fun x y=>Am') (∀p∈cs,env.cells.lookup p.1=some p.2/\p.1∉names.map (·.1)) ((ud BN IC cs).AsD fun x y=>Am'))
 | [],_,_,_,h,_=>h
 | AlH,cs,nd,hh,h,hc=>by
  unfold ud;rw[EK,Ack] at nd;show A_K;have hc' :WN cs (AMp ARa/\Cl∉r.map (·.1)):=WP ⟨ANx hc,AV ((hc p hp).2 (AX EK (zW _ z)))⟩
  by_cases hk:A7K
  ·show AOr;show PM c (hh ADQ zY Ahk)
   have e' :ARa n=Ε c:=e;rw[e'];refine znt inj r _ nd.2 hr (BFr ⟨BU',h⟩) nI
   ·have z' :c=p.2:=z;have q:=ANx hc;rw[<- z'] at q;have:=inj _ _ _ e' q;exact(hc p hp).2 (ATP EK Χ zY)
   ·show ai hp hp
    ·exact⟨e',nd.1⟩
    ·exact hc' p hp
  ·show AOi;exact znt inj r cs nd.2 hr h hc'
theorem zi3{KO:OM}{BN:Env}{x:Κ}:∀(IC:lf) {k:AcE},Fr BFs k ->Fr BZZ k\/
   (k= UF/\ AMZ BZZ)
 | [],_,h=>APK
 | (n,k0)::r,k,h=>by
  have ih:= @zi3 KO BN x r k;show BWt\/ (_/\BWt);cases hx:x==n with
  | Μ=>
   show Axe hx h;cases h;by_cases hc:AxB
   ·show Go hc;show Bjx hc;exact .AZ ⟨CU hc.1.1,by show AlV⟩
   ·show CS hc;exact .A0 (by show AlV)
  | AC=>
   show Axe hx h;by_cases hc:AxB
   ·show Go hc;show AlV;exact ih h
   ·show CS hc;show AlV;exact ih h
def mL(KO:OM)(C:Ζ)(BN:Env):Env:=
 {KO:=relabel KO BN,locals:=C,globals:=env.globals,cells:=eI (C+1) AF' BR1,EI:=env.qual,func:=Ι,code:=env.code,frame:=env.frame,builtins:=env.builtins}
def blk(X:Cx)(KO:OM)(N:Ρ)(C:Ζ)(NX:AB)(iS:Hp)(fp:Bi):Cx:=
 {X with BN:=mL KO C CB,N:=N,NX:=NX,iS:=iS,Cf:=JU,stack:=JU,ex:=fp,fn:=XU (AcG x==ATZ),pn:= [],xe:=AGv}
def Ar(A7:Δ)(FB:Cn)(σ:St):St:=AV0 A7 Ι++BFt fun j=>A9G
structure lY (N:Ρ) (sc:OM) (A7:Ρ) (FB:Cn) (BN:Env) (N' :Ρ):Θ where
 kind:A3R
 nd:N'.Nodup
 snd:BIQ
 d5:BY7 ARZ ARZ
 IC:BUg
 FB:Bcu
theorem z56
  (hQ:Q (newEnv KO BH g (eI mS AF' cl) q Ι BI (Ch BN) Aqz) (BOe AF')):
  Ç (Bmb KO g cl [] q Ι BI (Ch BN)):=by
 simp only [Bmb,BmH,oC];show mI wpAny_alloc;refine z6 (wpAny_layCells _ (fun D3 kind cells=>by cases hkc:kind==AsC<;>simp [hkc]) _ _ _ _ ?_)
 show Sj ((AT2 ky:AB).heap.objs.size=Ż) AOD;exact z6 (z7 (z7 hQ))
section
variable{X:Cx}{Ν:fB}{σ:St}{H:Hp}{s:AB}{sc:OM}{A7:Ρ}{FB:Cn}{N' :Ρ}{fp:Bi}
theorem zpd(I:AS)(S:AFT):WN Po (Bg3 Aq2):=fun p hp hk=>I.ok.has _ (AsG p hp hk)
theorem zlz(I:AS)(S:AFT)(e:AzC):
  (AGu/\XY c/\AFm x≠ATZ)\/ (Ż<=c/\ (ALP BKg Po).IsCell c Ι):=by
 have m:=AsH e;have sz:AM9 ky=Ż:=AOD;have m' :AXf (eI (AM9 ky) Po BR2):=AX sz m
 show A'z (z9c Po _ _ m')
 ·rcases zv7 Po [] (zpd I S) z with z | ⟨z1,z2⟩
  ·cases z
  ·show AOB hc (Ė x c z2);refine .A0 ⟨z2,hc.lt,G1 q⟩;have q' :=AsH q;have:=S.snd;show BPl;have d:∀(l:lf),A_Y ->Ajw l ->BI6 l ->D8:=by
    intro l;induction l with
    | DB=>intro _ h;cases h
    | AY a r ih=>
     intro hp h1 h2;show Aod hp;rcases TL h1 with e1 | h1<;>rcases TL h2 with e2 | h2
     ·rw[<- e1] at e2;cases (e2)
     ·exact p1 _ h2 (by rw[<- e1])
     ·exact p1 _ h1 (by rw[<- e2])
     ·exact ih p2 h1 h2
   exact d _ Χ z1 q'
 show KL ⟨by rw[sz] at z1;exact z1,z2⟩
theorem z0y(I:AS)(S:AFT)(hk:AO2 AFm)(e:AGu):AzC:=by
 show AGh (eI _ Po BR2).wn;rw[z8k]
 ·exact zo4 e _ _ (IN A2O) fun c' q=>Axg
 ·intro p hp hc z;have q:=AsH hk;have:=S.snd;show BPl;have d:∀(l:lf),A_Y ->Ajw l ->p∈l ->D8:=by
   intro l;induction l with
   | DB=>intro _ h;cases h
   | AY a r ih=>
    intro hpw h1 h2;show Aod hpw;rcases TL h1 with e1 | h1<;>rcases TL h2 with e2 | h2
    ·rw[<- e1] at e2;subst e2;cases hc
    ·exact p1 _ h2 (DC e1 ABV)
    ·exact p1 _ h1 (DC e2 z)
    ·exact ih p2 h1 h2
  exact d _ Χ q hp
theorem z2z(I:AS)(S:AFT)(Xm:Bbr A1P)(i:Δ)(x:Κ)(v:V)(h1:xh N')(h2:EX AN0 q_):
  ∃u,PQ/\Look (A_c BH) h' m' x u:=by
 have h2' :EX AN0 q_:=h2;have h1' :xh N':=h1;unfold Ar at h2';rw[S.names] at h1';show ANE AGQ
 ·rw[Ajd,AR4] at h2'
  split at h2' <;>cases h2'
 ·show BUr h2'
  show AVy (AGA Η) h1'
  cases hj:FB[i - AGQ]? with
  | Ι=>show UV hj h1' h1'
  | Ε j=>
   rw[hj] at h1' h2';obtain⟨j1,j2⟩:=S.caps j (yV hj);have hx:X.N.getD j "" =x:=CU h1'
   have hσ:WJ σ q_:=by
    have:A9G=Ε v:=CU h2'
    cases q:σ[j]? with
    | Ι=>show B8 q;show E3
    | Ε o=>show B8 q;have:A1Y:=Χ;rw[Χ]
   rw[hx] at j2;have hN:WJ X.N x:=by
    rw[OX,xo j1] at hx;rw[AFe j1]
    simpa using hx
   obtain⟨m,hn,hloc⟩:=ib;have kx:=AsG (x,UF) (Ae4 j2) Β;have vis:OG:=by
    rcases kx with k | k
    ·exact .AZ (IN k)
    show KL (E7 k)
   show Wp ru l (hloc j x v hN hσ vis);refine⟨u,ru,.AZ (D_ ?_)⟩
   ·rcases Bfg j2 with h | ⟨_,h⟩
    ·exact .AZ h
    ·exact .A0 h
   ·rcases l with ⟨k,_⟩ | ⟨_,c,ec,hc⟩
    ·have k' :AS8 AKj:=k;have kx' :AMZ AKj\/AO2 AKj:=kx;rw[k'] at kx';rcases kx' with z | z<;>cases z
    ·exact⟨c,z0y I S j2 ec,Xm x c _ ec hc⟩
theorem ya7(I:AS)(S:AFT)(hf:AXG)(hl:kN (XY b)):
  Inv A_6 [] AN0 H (BOe Po):=by
 have KS:AUO OR (ALP BKg Po).IF:=NC BaN;have ok:=nr;have inj:A'q AzC (BiA y=Ε c):=fun x y c e1 e2=>by
  refine Bly (cs:=Aud cells) ?_ (Ae4 e1) (Ae4 e2);refine zup _ _ _ (znt ok.inj _ _ S.snd (zpd I S) ASF (fun p hp=>(yv hp))) nI
  rcases zv7 (x:=Cl) (c:=p.2) Po [] (zpd I S) hp with z | ⟨_,z⟩
  ·cases z
  ·show AOB hc (Ė _ _ z);exact Bjr hc.lt
 show LP frC (J_ (rS b) NH) (FS (Abp hb)) aby (Aud scope.kind= AL2) Arc ⟨⟨ok.mod,aby,ok.glob,ok.blt,MV,inj,A4X,KE x c hfn e,ok.hd,ok.frames,yb,AGy (zK (hl b hb)) BWp,I.bs,zO ok.bsz I.sz,ACu e hb,K_ hb z,I.stack,I.stkFree⟩,
  Β,Ę,ART KS,DH ((Heap.Ns.new BG BHn).keeps (BFq _ _)) (fun i x v h1 h2 h3=> ?_),AP_,frC _ (zN _),AP_,A_9,I.hok.kept KS,?_⟩
 ·
  have hx' :AMZ A'n\/ AO2 A'n:=hx;have:∃k,Fr AFm k:=by
   have A9:∀(l:lf) (k' :AcE),Fr (EW fun ADQ=>if (BJY k&&BJO) then AfE else ADQ).wn k' ->∃k,Fr l.lookup k:=by
    intro l;induction l with
    | DB=>intro k' h;simp at h
    | AY a r ih=>
     intro k' h;obtain⟨n,k0⟩:=a;cases hb:x==n with
     | Μ=>exact⟨k0,bS i7 hb⟩
     | AC=>
      have h2:Ġ x ((B5 (W_ (BJY k0) BJO) AfE (n,k0))::(r.map _))=Ε k' :=h;obtain⟨k,hk⟩:=ih k' (by
       split at h2<;>(show Axe hb h2;exact h2))
      exact⟨k,by simp only [i7,hb];exact hk⟩
   show dA hx'
   ·exact A9 _ _ h
   ·exact A9 _ _ h
  obtain⟨k,hk⟩:=Χ;rcases Bfg hk with h | ⟨h1,h2⟩
  ·have hkk:k= Ň\/k= UF:=by
    have h' :Fr A'n k:=h;rcases hx' with z | z<;>rw[z] at h' <;>cases h' <;>simp
   show Ϙ hkk Β
   ·exact Blw (BEt Po _ _ (IN hk))
   ·show PM c (ok.has x (AsG (x,UF) A2O Β));exact⟨c,BX9⟩
  ·subst h1;show PM c (ok.has x (AsG (x,UF) A2O Β));exact⟨c,BX9⟩
 ·
  have abz :AXp:=by
   have:(AFm x==Ε AsC)=Μ:=hfn
   simpa using Χ
  rcases ApA with ⟨_,_,z⟩ | ⟨z,_⟩
  show Û abz z
  ·show rS c;exact AsI z
 ·rcases ApA with ⟨z1,_,_⟩ | ⟨z1,_⟩
  ·exact(SG hf).2.2.2.1 x c z1 z
  ·have:=hl b hb;rw[<- z] at Χ;exact yS _ (zM Χ (AsI z1))
 ·have q:=(SG hf).2.2.1;show g9 q q
  ·exact ok.Ig b o e q
  ·have q2:b<BlO:=Se;exact yS _ (zM q2 (zO ok.bsz q))
 ·show OH (A9I z)
  ·exact AMX hf z
  ·exact(SG hf).2.1 z
 ·exact Bfx (fun x c v _ hc=>BKb)
 ·rcases ApA with ⟨z1,_,_⟩ | ⟨_,z⟩
  ·show AOB hc (Ė x c z1);exact⟨v,BKb⟩
  ·exact Lm z
 ·rcases ApA with ⟨z1,_,_⟩ | ⟨z,_⟩
  ·exact AFp x c z1
  ·exact frC c (AsI z)
 ·show BMw=N'.length;rw[S.names];unfold Ar;simp
theorem z5o(I:AS)(S:AFT)(hf:AXG)(B:Inv A_6 uR σ5 H5 s5):
  Inv A_6 uR AN0 H5 s5:=by
 obtain⟨m,hn,_⟩:=B.loc;have kc:Bbr (s5.heap.IsCell c v):=fun x c v e (AEX hd)=>by
  have nx:c∉fp:=AV (A_I (hf c z).2.2.2);by_cases hc:c∈lr
  ·show gc q (B.base.slot c o ho AgR hc nx);exact DH q hd
  ·exact⟨o,B.base.keep c o ho AgR hc nx,hd⟩
 exact⟨B.ok,B.os,B.bare,B.base,⟨m,hn,fun i x v h1 h2 h3=>(Bfx kc)⟩,B.cell,B.free,B.freeC,B.pin,B.hok,by show BMw=N'.length;rw[S.names];unfold Ar;simp⟩
#where
abbrev z8q(ifs:CC)(BN:Env):APB:=forIn ifs Μ fun c r=>if r=Μ then do let ok<- ArB c BN (ACv c);Ala ok else Ala r
section
variable{CA:As}{w:AW}{A:BV}{R:Ay_}{s:AB}
theorem ya5(I:Os Δ)
  (TN:∀n s,I n s ->GG Ix A (ARv it) (p_ EJ (AxP Ι (R (.ok AC_) EJ) AHx (AW3 (Bld Abu it v) (Kt s₁' (AW3 (ARs Abu BN v) (Kt KU (AW3 (z8q ifs BN) (fun ok Ĥ=>
      (HI ok (AW3 (ACv elt) (fun x s₄=>
       (AW3 (ANA BFL [A3,x]) (Kt s₅ (Al' (I m s₅))) s₄)) Ĥ) (Al' (I m Ĥ)))) KU)) s₁')) EJ))) ATq s)
  (n:Δ) (h:I n s):
  AKz Ix A (.compLoop BPe 0 it A3 BN) R s:=by
 refine codeAny_loop Β I (Ap n s hI) n h;show GG _ A ((compTurn BPe 0 it A3 BN).onRaise (fun x=>do Acb x BN;theTreesLotGoes x)) _ _ s;refine wpAny_noted ?_;rw[compTurn_list];refine z6 (AKq (z6 (ADZ (TN n s hI) (AZT r) AQM)));cases r with
 | Ι=>exact z7 ZT
 | Ε v=>
  refine mi ZT (Ap _ s₁' h₁') AQM;refine mi h₁' (fun _ KU i3=>(mi i3 (Ap ok Ĥ h₃) AQM)) AQM;cases ok with
  | AC=>exact z7 (Hb h₃)
  | Μ=>
   exact z6 (z6 (ADZ h₃ (fun x s₄ h₄=>(mi h₄ (fun _ s₅ h₅=>z7 (z7 (Hb h₅))) AQM)) AQM))
#where
def PTs(X:Cx)(ifs:CC)(t:TT):Θ:=
 A8N AJD (AdZ (z8q ifs CB) TP)
theorem yhl:PTs X [] (fun _ H Q=>Q Μ H):=Bdp (wpAny_tests_nil ⟨H,I,h⟩)
theorem yi3(h:PT X c t):PTs X [c] t:=AUg Q (wpAny_tests_one (ACI h Q I q))
structure Xn (AFb) (tg:AF) (J:It) (fp:Bi) (it:Ζ) (tn:AXv) (cm:Fk Cx):Θ where
 mem:it∈fp
 obj:BWR
 KS:Bd1
 VW:AqP (cm X) (A_ AS Ajg AVZ AjR (ApM (∃u,UK r/\
   GG ACY X.A A_z (Kt s2 (∃x H',AjN/\ϋ/\J.yld i H x H' /\BQQ/\kN AMP)) E s1)))
 LU:AqP (cm X) (A_ AS Ajg AVZ AjS (ApM BP7))
 RU:Bgu
def abA(Bgt):Θ:=
 ∃(it:Ζ) (fp:Bi) (tn:AXv) (J:It) (H' :Hp) (cm:Fk Cx),itv= .B0 it/\AjN/\Xn FH X.w AG tg J fp it tn cm/\BQP/\ (aT fp Al0)/\Anm /\
  ∀Y:Cx,Y.A=X.A ->Y.calm=X.calm ->(∀b o u,AUC AM8 ->Mo Y.H₀ AM8) ->cm Y
def PIg(Bet):Θ:=
 AVj R AM4 (wi σ H R) AW0 (UC s1 (ANq (AFu v) (abA X Ν σ tg R) s1))
theorem pig(hc:FX)(hi:BQD):BaG:=fun Ν s σ H R I h=>
 bT (AZk hi R) (AH4 h1 (bT h1 fun itv s2 Bz=>by obtain⟨it,fp,tn,J,H',e,I',T,st,f,r⟩:=Bz;exact⟨it,fp,tn,J,H',fun Y=>Y.calm=Μ,e,I',⟨T.mem,T.obj,T.keep,ArT,ArS,T.self⟩,st,f,r,fun Y _ q _=>q.trans hc⟩))
def Jd(A3:Ζ)(J:It)(DA :St)(g:TG)(tc:TT)(te:TE)(Q:AOp)(H1:Hp):Θ:=
 AP3 AOq (W 0 m [] H1) (∀i m vs H,W i m vs H ->UB A3 ad/\Kb<ARR+1/\
  ((AjS/\MR A3 H)\/ (AjR/\AHK Kb/\AuV J.yld (g x DA H' (ATt (tc σ2 H2 fun b H3=>
   (HI b (te σ2 H3 fun v H4=>H4 A3=Ε ad/\At8 AT5 (upd H4 A3 (FM AT5))) (At8 vs H3))))))))
def Xo(A7:Δ)(FB:Cn)(wi:TI)(g:TG)(tc:TT)(te:TE):TE:=O_ wi J (∀A3,zC A3 ->Jd A3 J BJP g tc te Q (jn A3 AS6))
section
variable{X:Cx}{sc:OM}{A7:Ρ}{FB:Cn}{N' :Ρ}{elt tg Pl:AF}{ifs:CC}{Υ:AL}{wi:TI}{g:TG}{tc:TT}{te:TE}
theorem zk9(S:AFT)(hi:BaG)
  (hg:BBi PG tg g) (ht:BBi PTs ifs tc) (he:BBi PE elt te)
  (ee:e= .BFw elt [AtL] sc Υ) (hs:Ads Pl)
  (I:AS) (h:Xo AGQ FB wi g tc te σ H Q)
  (D4:∀A3 C H' s5,AB_ s5 ->A_ A1r (∃m,s5.heap.Ns C m) (H' C=Ι) (C≠TK) (A_ (AMi C) (ADW C) (Œ (X.pn++Ν) (Cl≠C)) (C∉ia) (BFx jS X.A wb use Qv Ϛ C (.ok AC_) s5))):
  AGo (BFy e sc CB ps A6U AC AW0 use) Qv:=by
 subst ee;refine wpAny_comprehension_free (g:=AtL) (gs:= []) (cl:=ud CB Po []) Β hs (yib (zpd I S)) Arc ?_ BbZ
 ·intro p hp hk;have nd:=S.snd;rw[BFu,Acl] at nd;have d:∀(l:lf),A_Y ->p∈l ->l.lookup Cl=Ε ATz:=by
   intro l;induction l with
   | DB=>intro _ h;cases h
   | AY a r ih=>
    intro hpw h1;show Aod hpw;show Zp h1 e1 h1
    ·subst e1;rw[i7];simp [hk]
    ·show vj hb Cl a.1 (Ax0 (AKl (p1 p h1)))
     rw[i7,hb];exact ih p2 h1
  exact d _ nd hp
 obtain⟨it,fp,tn,J,H2,cm,Β,I2,T,st2,f2,R2,hcm⟩:=h2;have hp0:=I2.fresh;refine wf ?_;have I3:=I2.lnew (AU:= []) (ys:= []) (t' :=s2.toks) EO (BEh _);generalize ĩ:AGR=A3 at*;obtain⟨W,⟨m0,w0⟩,TN⟩:=R2 A3 hp0;show Hc f3 (kN (Aub ATm)) (FS (by
  show Db ?_ (SG f2);show ANW eo (Ao8 st2);rw[BNt (DC ĩ (AqV eo))]
  exact Z_ f2)) hc (∀C NX,cm (AS2 C NX ATm fp)) (fun C NX=>hcm _ Β Β (e9 u e (kM (Ö ((AS2 C NX ATm fp).iS=upd H2 A3 AS6)) (aw hp0) e))) BD (kN (b< A7N)) (FS (by
  show ANW eo (Ao8 st2);rw[iq];exact BKh eo)) st3 (tn 0 (w9 AUf)) (Awn st2 pz);refine z56 ?_;show AKz _ _ (.compStart l_ 0 AHu Ϛ (A_c A7N)) (BFx _ _ _ use Qv Ϛ A7N) _;generalize hs3:(Anf BNF:AB)=s3 at*;have hh3:w9 AUf=s3.heap:=by rw[<- hs3]
 have ab8 :(xN s2 BNF:AB)=s3:=by rw[<- hs3]
 rw[hh3] at BD st3⊢;have I4:=ya7 I3 S f3 BD;have st4:tn 0 (ALP (BFH ky) Po):=Awn st3 BaN;have A9:AKz jS X.A (.compLoop l_ 0 AHu Ϛ (A_c AK6)) (BFx jS X.A wb use Qv Ϛ AK6)
   (xN s3 (ALP (BFH ky) Po)):=by
  have stat:BaP (pK AN' [] H' b):=fun hn b hb=>
   ⟨AiO,Z_ I4.ok.exf,I4.ok.Ih b hb,AeD,SG I4.ok.exf,A_9⟩
  refine ya5 (se n (Bf3 (W i n vs H'))) ?_ m0
   ⟨0,[],AZE Ar σ,_,I4,st4,ANh f3,w0⟩
  rintro n s5 ⟨i,vs,σ5,H5,I5,Ub,fr5,w5⟩;obtain⟨ha5,hz5,⟨AA',qn⟩ | ⟨go,hz,ABK⟩⟩:=TN i n vs H5 w5
  ·refine bT (ArS AN' Β Β Β (hc _ _) i [] s5 σ5 H5 _ I5 (stat fr5) Ub AA') (Ap r s6 CM);obtain⟨hr,I6⟩:=CM;subst hr;have IX:ZY H5 s6:=I3.call' (ch:=fp) I6.os I6.base I6.hok I6.bare (FS ⟨(SG f3).2.2.1,AMX f3,(SG f3).2.2.2.1,(SG f3).2.2.2.2⟩);obtain⟨m6,hn6,_⟩:=I6.loc;refine D4 A3 AK6 H5 s6 IX qn ⟨m6,hn6⟩ I6.free (ADt I3.lt) I3.sz (fun x c e z=> ?_) (Ap p hp z) (I3.nofs (zN _))
   ·show ADY v (I3.cell x c e);exact Iy q.lt A1p
   ·exact tq zG (ANx I3.pin) A1p
  ·
   have I5' :Inv AN' [] AN0 H5 s5:=z5o I3 S f3 I5;refine bT (ArT AN' Β Β Β (hc _ _) i [] s5 _ H5 _ I5' (stat fr5) Ub go) (Ap r s6 CM);show Wp hr h6 CM;subst hr;refine bT h6 (Ap _ s7 Be);obtain⟨x,H7,I7,r7,y7,st7,fr7⟩:=Be;have I7' :=I7.pinned (stat fr7) (T.obj _ _ st7);refine bT (hg _ _ _ _ _ s7 _ H7 x u _ I7' r7 (ABK x H7 y7)) (Ap _ s8 CM);obtain⟨σ8,H8,I8,q8⟩:=CM;refine bT (ht _ _ _ _ _ s8 σ8 H8 _ I8 q8) (K_ s9 CM);show Õ H9 I9 q9;have AKx:∀{vs' :AQ} {DA :St} {H' :Hp} {s' :AB},Inv AN' ([]++vP fp s7.heap) DA H' s' ->(∃m',m' <n/\W C9 m' vs' H') ->
     Al' (Bf3 (W i m vs H')) :=fun{vs' DA H' s'} I' ⟨m',hm,w'⟩=>by
    refine⟨m',hm,D9,vs',DA,H',I'.unpinned,BYc st7 I'.pin,NL,w'⟩;show bE e d (Ao8 st7);exact BZ8 I'.pin
   cases b with
   | AC=>
    rw[cz] at q9⊢;exact AKx I9 q9
   | Μ=>
    rw[EB] at q9⊢;refine bT (he _ _ _ _ _ s9 σ8 H9 _ I9 q9) (Ap y s10 Ah);obtain⟨v,H10,I10,r10,Q8,q10⟩:=Ah;refine bT (zyp (X:=blk X sc N' AK6 s3 ATm fp) _ s10 σ8 H10 Ϛ [v] Ϛ [y] (Kt H' (H' =upd H10 A3 (FM AT5))) I10 Β (AfI r10) ⟨A3,vs,v,Β,Β,Q8,hz,Β⟩) (Ap _ s11 Al);obtain⟨_,H11,I11,_,e11⟩:=Al;subst e11;exact AKx I11 q10
 exact codeAny_compStart_list A9 (T.self _ _ _ _ _ st4 A9)
#where
def K6(K:Ω)(F Hx:Hp)(J:It)(ds:AM):Θ:=AXm (∀(i:Δ) (H1 F1:Hp),yn ->qf H1 ->Id Hx H1 ->
 (i=ME ->J.stop i H1)/\∀d,A6p ->J.go i H1/\∀x H',J.yld i H1 x H' ->∃F2,Gr F1 H1 F2 H' /\Rep K F2 d x)
def Ov:Hp:=Avf
theorem z1b:ß Ov:=Ll e AV2
inductive UpI (BW_):Θ
 | mk:Ad1 (∀ds BY F' H' J Hx,AHW ->A_ Fu (AGw Hx) (K6 K F' Hx J ds) (WZ ds) Anm) (Anv UpI)
def upI(AN9)(AXe):TI:=fun σ H R=>(Anv UpI)
inductive Xp (BW_):Θ
 | mk:Ad1 (AfZ ds J (K6 K F' Ov J ds) ds Anm) (Anv Xp)
def abB(AN9)(AXe):TI:=fun σ H R=>(Anv Xp)
def QI(BAr):Θ:=BAt PI abB
def Ul(BAr):Θ:=BAt PI upI
theorem Q9(h:ϔ e t)(hi:∀σ H R,t' σ H R ->t σ H R):ϔ e t' :=AUg R (h Ν s σ H R I AeY)
theorem tZ(h:AMV QI e t):AMV Ul e t:=AuJ hG (Aue Bz Bz ⟨F,Γ,P,S,q,fun ds BY F' H' J S' s' hJ hp=>k ds BY F' H' J Ov S' s' z1b hJ hp⟩)
def Xq(K:Ω)(tl:TE):TI:=BWo (∃xs,AwN/\ (kU ->R A0x H1)) (∃xs,xH K H1 a xs/\ (kU ->R AkL H1))
theorem yhp(hl:PE X l tl):ϔ l (Xq AG tl):=by
 show ϩ;refine bT (xn hl) (Tu v Be);show Sr Be;show bP a e q1;subst e;cases r1;rcases q with ⟨xs,hq,q⟩ | ⟨xs,hq,q⟩
 ·show AAQ Ar_;refine Acg AFw ?_;show AoZ H1 AJy (zxy a _) iF (q hz);show APW
  exact AQc
 ·show AAQ I1.tuple;refine BFY BLO ?_;show AoZ H1 AJy (ztm a _) iF (q hz);show APW
  exact AQc
theorem yk2{K:Ω}{F Hx:Hp}{a:Ζ}{vs:AQ}{ds:AM}(hq:A6k (xH K H1 a vs))(rs:L5)(hz:ANe):A8V AkL:=by
 have hl:=Sc;refine⟨Τ,fun i H1 F1 s1 s2 s3=>(AYX ⟨vs,BYx,Τ⟩)⟩
 show AYR hd;show Db ⟨vs,v,BYx,hv⟩ Afo;show mB y y;have:=y vs (hq _ kF);show B8 hv;show E3;exact Aip F1 s2 A0c
def iL(m3):cP:=lj (lP d Ahf (FF ds) AJI (FF ds))
section
variable{X:Cx}{F0 H0:Hp}{e tg:AF}{es:CC}{Υ:AL}{te:cu}{g:vL}{gs:Am}{ti:cP}{tb:aG}
theorem yc(h:Sm):AMV QI e (iL te):=fun z E cx=>Q9 (yhp hG) (Aue Ah Ah (AVq (fun d AA F1 H1 v R1 s1 r1 h1=>by
 cases d with
 | Cc ds=>
  show Aks;refine P9 a (.A0 ⟨vs,BFa hq,Bf0 ?_⟩);refine⟨SD j7 rs hz,fun i H2 F2 s2 s3 s4=>(AYX ⟨vs,AYt,kM e Sc MV⟩)⟩
  show AYR hd;show Db ⟨vs,v,AYt,hv⟩ Afo;show mB y y;have:=y vs (s3.seq (Ar' hq));show B8 hv;show E3;exact Aip F2 s3 A0t
 | tup ds=>
  show Aks;exact⟨a,Β,.AZ ⟨vs,A1w,Bf0 (yk2 (fun H2 s=>vm s hq) rs hz)⟩⟩
 | _=>show AOs)))
def fj(ti:cP)(g:vL)(tb:aG):aG:=WO D0 ti ds BCY
theorem Xr(hc:FX)(hi:AQU QI)(hg:AZq)(hb:AZg)(ANM):
  Apx Pl fj ti:=NS tU (AqD AOb) Dn Al Al (ALo ds J hJ h1 (by
  show BBH;show Ee (AY8 σ H ME Azf AwJ) ⟨ME,CY,IS,F1,AA,R1,kB,i0⟩
  rintro i m σ H ⟨Β,hi,F2,A4,R2,s2,hI⟩;obtain⟨hstop,hgo⟩:=hJ.2 i H F2 s2 R2.g z1b;show A3p
  ·show BCU;refine .AZ ⟨go,A_T,fun DA H' p' =>⟨AXt,Τ,Β,BD,p'⟩,Afo⟩
   obtain⟨F3,gr,rx⟩:=yl x H' y;exact⟨F3,A4,_,ds[i],Ar9 gr,rx,TN i ds[i] A4 (zZ BD) hI,fun Γ4 F4 H4 σ4 R4 s4 p=>⟨F4,Γ4,Agf D2 AGI,R4,p,AKI Bcp (Bjm (T' R5 (BQZ s5) q)) Bcp⟩⟩
  ·show A1u
   exact A1L (AgV (LU _ hI))))
def Je(Γ:G2)(j:Δ):GI:=AI_ Γ[j]? AJM (.pu d) C_
def qZ(A7:Δ)(FB:Cn)(Γ:G2):G2:=AV0 A7 C_++BFt (Je Γ)
theorem z20(ϻ)(BAl)(A7:Δ)(FB:Cn)(R:GT):SR K F H F H BJP (qZ A7 FB Γ):=by
 have len:zS Ar A7 FB σ=zS qZ A7 FB Γ:=by simp [Ar,qZ]
 have Jf:BBd (qZ A7 FB Γ):=A'5 (by
  show Uf qZ;show ANE A7
  ·show Bh9 AGB
   rw[CH hi] at e;cases e;exact Ah9
  ·show AUT AGA Ic
   cases q:FB[i - So Blv A7 Slot.no]? with
   | Ι=>show L_;cases e
   | Ε j=>
    show L_;have e' :Je Γ j=s:=CU e
    unfold Je at e';split at e' <;>(subst e';exact Ah9))
 refine⟨ĥ R.g,len,WV i s,fun i j a HN=>by obtain⟨s,o,e,_,h⟩:=HN;exact Bji⟩
 show ANE A7
 ·show Ee Ι ?_
  ·unfold Ar;rw[Ajd,AR4,CH hi]
  ·show Uf qZ;rw[Ajd,AR4,CH hi] at e
   cases e;trivial
 ·show Uf qZ;show BUr e
  cases q:FB[i - A7]? with
  | Ι=>show L_;cases e
  | Ε j=>
   show L_;have e' :Je Γ j=s:=CU e
   show Ee A9G ?_
   ·unfold Ar;rw[Bii,Ic,BEv,q];rfl
   ·unfold Je at e';show cq
    ·rename_i d hd;subst e';obtain⟨o,e1,v,Β,rv⟩:=VZ j _ hd;exact⟨v,JA e1,rv⟩
    ·subst e';trivial
def Ml(g:vL)(tc:TT2)(te:cu)(Γ0:G2)(x:D)(P:qc):Θ:=BeO (te A4 (fun d _=>P [d]) kj)
def fD(one:ATr):UO
 | [],P=>ž
 | OF,P=>BcW fD
def dM(A7:Δ)(FB:Cn)(ti:cP)(g:vL)(tc:TT2)(te:cu):cP:=WB ti ds (fD (Ml g tc te (qZ A7 FB AA)) ds fun ys=>(FF ys))
theorem zqm(f:D ->AM):AVt xs AM (∀x∈xs,∀P,P (f x) ->one x P) xs.flatMap f xs
 | [],_,_,h=>h
 | OF,P,k,h=>k x zY _ (zqm f BU8 (by simpa [BF_] using h))
def d8:TT2:=AYC Μ
def Ow(UT)(ifs:CC)(t:TT2):Θ:=Ţ PTs ifs W7
theorem yK:FC Ow [] d8:=fun z E cx Ν s σ H Q I Mh=>by show NO Mh;exact yhl Ν s σ H Q I (k _ _ _ _ R IR h)
theorem Ox(h:ABk QT c):ABk Ow [c]:=AWN yi3 hG
#where
section
variable{X:Cx}{F0 H0:Hp}{elt tg Pl:AF}{ifs:CC}{sc:OM}{A7:Ρ}{FB:Cn}{N' :Ρ}{Υ:AL}{te:cu}{g:vL}{tc:TT2}{ti:cP}
def gX(K:Ω)(g:vL):TG:=AX9 (∃F0 H0,AjD upG kj v σ H Q)
def tX(K:Ω)(t:TT2):TT:=A'C W7
def eX(K:Ω)(t:cu):TE:=A'C HD
theorem zvy(gr:rq)(h:AEP)(e:AOu):rh:=by
 cases q:F' a with
 | Ι=>rfl
 | Ε u=>
  rcases gr.n a u q h with z | ⟨⟨xs,e'⟩,z⟩
  ·rw[e] at z;cases z
  ·rw[e] at z;cases z;cases e'
theorem zqk(ϻ){σ:St}{Γ:G2}{J:It}{Hx:Hp}{ds:AM}{A3:Ζ}{P:qc}{Q:AOp}(R:GT)(hJ:A8V J)(hx:ß Hx)(ha:N_ A3)
  (h:fD (Aoh Ml te) ds P)
  (D4:∀ys F' H' vs,A_ AYL Fu A8Z A2R (A_ (H0 A3=Ι) (ATO ys) (AL4 A3) (P ys) A1r)):
  BeX eX te:=by
 obtain⟨R1,e1,e2,e3,ap⟩:=Iz (ds:= []) (vs:= []) R ha KB
 show LP hx1 (Id Hx Awk) BXX xa BWB BZH (PR (AY8 vs H' ME Azf (∃F' ys,AYL/\Fu /\AGw Hx /\A8Z/\A2R/\ATO ys/\Ay'/\fD (Aoh Ml te) (ds.drop i) BNs)) ⟨ME,CY,IS,F,[],R1,kB,hx1,e1,e2,N9,MV,CU h⟩)
 rintro i m vs H' ⟨Β,hi,F',ys,R',sF,hx',ha',Ra,rs,lv,hc⟩;have hz:=hJ.1;show Ee ha' Τ
 obtain⟨hstop,hgo⟩:=hJ.2 i H' F' sF R'.g hx';show A3p
 ·show BCU;refine .AZ ⟨go,Τ,BRn⟩
  obtain⟨F2,gr,rx⟩:=yl x H2 y;rw[ALQ BD] at hc;have R2:=ASQ gr;refine⟨F2,H2,F2,AZE qZ Γ,_,ds[i],AZE z20 R2,rx,hc,Bft⟩;refine⟨F2,H2,F3,Γ3,_,R3,q3,BfT⟩;show BdU;cases b with
  | AC=>
   rw[cz] at q4;refine⟨AXt,Τ,Β,BD,F4,ys,ASQ xP,AGK xP.f,BUH,BKm,zvy xP Ra ha',AGS xP.f,Τ,?_⟩
   simpa using q4
  | Μ=>
   rw[EB] at q4;refine⟨F2,H2,F4,Γ4,_,R4,q4,fun d Γ5 F5 H5 v R5 s5 rv q5=> ?_⟩;have Dt:A9W:=BNG;have a5:=BKn;have f5:=zvy Dt Ra ha';refine⟨a5,AXt,Τ,Β,BD,F5,ys++ [d],?_,AGK Dt.f,IU,iD,f5,Oh (AGS Dt.f) (Oi rv),AWA,?_⟩
   ·have R6:=ASQ Dt;refine⟨⟨R6.gr.f,IU,IU,R6.gr.n⟩,R6.len,WV j sl,R6.ap⟩
    show AEU f5 (UY R6.g)
    show AEU e3 (UY R6.gr.h)
    ·show AZX (R6.sl j sl e);refine⟨o,p1,QD p2 IR (ø (ACh (Ds p2 hc).1 u q))⟩;have:c≠A3:=AV (by subst z;exact ap j ⟨sl,o,e,p1,hc⟩)
     rw[bW Χ];exact q
   show AXu (xa u (DC z e)) (Dt.h b u Av0)
   ·simpa [Ī] using q5
 ·show A1u
  refine A1L (D4 ys F' H' vs R' sF ha' Ra e3 rs ap ?_);rw[Bmd] at hc
  simpa [fD] using hc
structure fH (N:Ρ) (sc:OM) (A7:Ρ) (FB:Cn) (Xu:OM) (N' :Ρ):Θ where
 kind:A3R
 nd:N'.Nodup
 snd:BIQ
 d5:BY7 BF' BF'
 IC:BUg
 FB:Bcu
theorem fH.cs(h:AQS):AFT :=⟨h.kind,h.nd,h.snd,h.free,h.names,h.caps⟩
def QIg(BAr):Θ:=BAt PIg upI
theorem ydw(S:AQS)(hi:AQU QIg)
  (hg:AZ2) (ht:AZ3) (he:Aos)
  (A_m):AHL l_ BCS:=by
 subst hn;rintro z E cx Ν s σ H Q I ⟨F,Γ,P,R,h,k⟩;show Sj (Ě l_ BKR=BFy l_ sc CB _ A6U AC AW0) Bjy;refine BVq (tc:=tX AG tc) (te:=eX AG te) (Q:=Q) Aoo AOb ?_ ?_ ?_ Β hs I ?_ ?_
 show AqT
 show Ak3
 show Ak4
 ·exact BUd (k ys AA F' H' A3 vs R' AWx a1 a2 a3 rs ap hp)
 ·show AqS;exact⟨m,hn,Aje ⟨AhF,H',I5.turned (t' :=s5.toks) (it:=C) (ŏ Akw) c1 c2 (E7 c3) c4 c5,Β,q5⟩⟩
theorem Av(S:AQS)(hc:FX)(hi:AQU Ul)
  (hg:AZ2) (ht:AZ3) (he:Aos)
  (A_m):AHL l_ BCS:=ydw S (fun z E cx=>pig hc AOb) hg ht he hn hs
theorem Rb(hN:ie)(hi' :EX X.N y)(hy:AZa)(S:AQS)(hc:FX)(hi:AQU Ul)
  (hg:AZ2) (ht:AZ3) (he:Aos)
  (hn:Aux:=by rfl) (hsw:AFs l_ (Ch (FR y py)) spos.line CB=KW Μ:=by rfl) (ANM):
  BaM (c7 i (dM n FB ti g tc te)):=by
 subst hn;rintro z E cx Ν s σ H Dn I ⟨F,Γ,D2,R,h,k⟩;rw[BIW hsw];refine BPz;refine mi (N1 zk9 X ALj use BWM Qv Beq g Awm (tc:=tX AG tc) (te:=eX AG te) (Q:=fun v H' =>ASM AVf H') Aoo (pig hc AOb) ?_ ?_ ?_ Β hs I ?_ ?_) (fun _ s' hq=>z7 (z7 hq)) APx
 show AqT
 show Ak3
 show Ak4
 ·exact BUd (T' (R'.setOw i a1 a2 a3 rs ap) AWx hp)
 ·show AqS;refine BDz (DS zru I5 hN hi' Ayk (v:= AhF) Β BV2 Ayo);show Õ a hsb ha;have ha' :a=TK\/A0Y a:=ha;have hac:C≠a:=by
   show Ϙ ha' ha'
   ·exact c2
   ·exact Bc8
  refine⟨m,BDt hsb hac,Aje ⟨_,H',I6.turned (t' :=s6.toks) (it:=C) (ŏ Akw) c1 c2 (E7 c3) c4 c5,q5⟩⟩
#where
inductive Oz (K:Ω) (g:UO) (vs:AQ) (H:Hp) (Q:VK):Θ
 | mk:Ba8 (∀es us l,A4Y ->N_ l ->P es ->AwM us) Oz
def GF(K:Ω)(g:UO):u_:=fun vs H Q=>Oz K g vs H Q
section
variable{X:Cx}{F0 H0:Hp}{a b e:AF}{es:CC}{Υ p p2:AL}{ta tb te:cu}{t:cP}{x:Κ}
def m9(g:UO)(t:cP):cP:=VO (g ds fun es=>(FF es))
theorem yg2{K:Ω}{g:UO}{E:XW}{σ:St}{H:Hp}{Q:VK}(h:AHE upF (m9 g t)):BWW GF:=by
 show NO h;refine a_ (BdZ (fun es us l r hl hp=> ?_));obtain⟨R2,e1,e2,e3,ap⟩:=Iz R1 hl r;exact k es AA F1 _ l us R2 s1 e1 e2 e3 r ap hp
theorem ycn{id:LT}{g:UO}(hc:∀z,eZ K2 ACk (GF AG g))(hg:JE)(hm:AEc)(hv:ADy ACk)(ha:NJ)(AJ4):AVe gN g:=fun z E cx=>
 pB (AQB Wt Ahu hv hn hdb De) (Ā yg2)
theorem Um{T:LT}{g:UO}(hc:∀z,eZ K2 AIL (GF AG g))(hg:JE)(hm:AEc)(hv:ADy AIL)(ha:NJ)(AJ4):AVe gN g:=fun z E cx=>
 pB (AQB Wu Ahu hv hn hdb De) (Ā yg2)
theorem Xv{T:LT}{g:VC}(hc:∀z,eZ K2 AIL (vV AG g))(hg:JE)(hm:AEc)(hv:ADy AIL)(ha:NJ)(AJ4):EG gN A7T:=fun z E cx=>
 pB (AQB Wu Ahu hv hn hdb De) (Ā ygi)
#where
def sU:UO:=BT8 (P xs) (P xs)
theorem Xw:A1H (GF AG sU):=by
 show vz;show DJ sU;show E4
 ·show AAZ;exact AQe zn3 (ϵ AnM BZm)
 ·show AAZ;exact AQe zn3 (ϵ AnS BZm)
 show JI
def vq:VC:=BT8 (P f_) (P f_)
theorem yke:ADP dP (vV AG vq):=by
 show vz;show DJ vq;show E4
 ·show AAZ;refine ACI zll _ us Q I r (Nw p vs (.A0 (ACh (w4 hq) l hl)));have gr:=AZ4 vs sF hl;refine k _ _ _ _ gr ?_ h;exact qi l AUN (AGS Kj)
 ·have rs0:=rs;show AAZ;refine ACI zll _ us Q I r (Nw p vs (.AZ ⟨vm sF hq,ABp ?_ h⟩));exact ϵ hq rs
 show JI
def LW(xs:AM)(lo hi:SO):AM:=BLT
theorem z16(BT')(r:L5)(lo hi:SO):On (LW ds lo hi) (Aj vs lo hi):=by
 unfold LW Aj;rw[j7 r];exact zpr _ (zr5 _ r)
abbrev Mp:=AQg SO
inductive UpO (AN9) (t:Mp) (E:XW) (σ:St) (H:Hp) (Q:Ay1):Θ
 | mk:Ad1 (∀o BY F' H',AHW ->Fu ->WZ o ->Q o H') (AHE UpO t)
def upO(AN9)(t:Mp)(E:XW):TO:=AEu UpO
def QO(UT)(e:AV_)(t:Mp):Θ:=Ţ PO e upO
theorem poC(h:PO X e t)(hi:∀σ H Q,t' σ H Q ->Ã):PO X e t' :=BAJ
def qC:Mp:=AYC Ι
def pF(m3):Mp:=lj (ń FU (P (Ε i) AA))
section
variable{X:Cx}{F0 H0:Hp}{a b e:AF}{es:CC}{Υ p p2:AL}{ta tb te:cu}{t:cP}{x:Κ}{lo hi:AV_}{tl th:Mp}
theorem K7:FC QO Ι qC:=fun z E cx=>poC yht (LE σ H Q Bz P Bz (k _ _ _ _ R IR h))
theorem FP(h:Sm):FC QO Ae7 (pF te):=fun z E cx=>poC (yij hG) (AQt Be Be (AZj (by
 cases d with
 | AK i=>exact⟨i,r,Amo⟩
 | _=>show ua)))
def qw(BdM):cP:=Be6 ma (P BVt Γ3)
theorem Jg(Bei):AHL (AWR e BBm) (qw te tl th):=fun z E cx=>
 pB (BZz yhn) (LE σ H Q Ah P Ah (Bfu (BeV (by
  cases d with
  | Cc xs=>
   have r3:=ALN (eQ s3);show KA a vs hq rs r3;refine qi a (R3.g.seq hq) nI;have rc:=z16 rs l u;obtain⟨R4,e1,e2,e3,ap⟩:=Iz R3 hp rc;exact k _ Γ3 F3 _ p _ R4 Akx e1 e2 e3 rc ap h3
  | _=>show pk h3))))
def lQ(m3):cP:=lj (ń ma BHr)
theorem zpf(OI):A'X (On ds.reverse vs.reverse)
 | [],_,h=>BkX
 | hW,_,h=>by
  show Amq v;rw[Arn,Arn];exact Oh (zpf h2) (Oi h1)
#where
section
variable{X:Cx}
theorem toI{A:BV}(h:PU):AiN:=h
theorem zo5(I:AS)(k:A2c)(r:PQ)(q:Q v H):ϗ u ci:=⟨v,H,I.kept k,r,q⟩
def oN:AM ->AQI Ψ
 | []=>Ahc
 | FU::r=>(oN r).B6 (i:: ·)
 | DV=>Ι
def vA:AM ->AQI AO
 | []=>Ahc
 | .bl i::r=>(vA r).B6 (i:: ·)
 | DV=>Ι
theorem zlq(OI):BUa BS (oN ds=Ε ns) ft
 | [],vs,ns,r,h=>A7X
 | FU::ds,vs,ns,r,h=>by
  show kg v Β r r;show DJ oN;cases q:oN ds with
  | Ι=>rw[q] at h;cases h
  | Ε ms=>
   show BAV zlq
 | BE::_,_,_,_,h=>D1
 | fT::_,_,_,_,h=>D1
 | hV::_,_,_,_,h=>D1
 | AWM::_,_,_,_,h=>D1
 | à::_,_,_,_,h=>D1
 | AD'::_,_,_,_,h=>D1
 | AEH::_,_,_,_,h=>D1
 | A0m::_,_,_,_,h=>D1
 | AD_::_,_,_,_,h=>D1
 | AEd::_,_,_,_,h=>D1
 | AO6::_,_,_,_,h=>D1
theorem zv3(OI):BUa AIn (vA ds=Ε ns) .bl
 | [],vs,ns,r,h=>A7X
 | .bl i::ds,vs,ns,r,h=>by
  show kg v Β r r;show DJ vA;cases q:vA ds with
  | Ι=>rw[q] at h;cases h
  | Ε ms=>
   show BAV zv3
 | BE::_,_,_,_,h=>D1
 | cy::_,_,_,_,h=>D1
 | hV::_,_,_,_,h=>D1
 | AWM::_,_,_,_,h=>D1
 | à::_,_,_,_,h=>D1
 | AD'::_,_,_,_,h=>D1
 | AEH::_,_,_,_,h=>D1
 | A0m::_,_,_,_,h=>D1
 | AD_::_,_,_,_,h=>D1
 | AEd::_,_,_,_,h=>D1
 | AO6::_,_,_,_,h=>D1
theorem z5v(ns:BS)(f:á)(h:∀i,i<IG ->f i=ACe):BGA f IG=ns.sum:=by
 have A9:∀k,k<=IG ->BGA f k=(ns.take k).sum:=by
  intro k;induction k with
  | Tb=>intro _;rfl
  | Th k ih=>
   intro hk;show BGA f k+f k=_;show AxU (ih Η) (h k Η) Acm List.sum_append Ayw
   simp
 rw[A9 _ (AQ6 _),w_]
theorem zuz(pl:PlainL h p AU):BXZ IsListIter MB p 0/\ BXZ IsList p AU:=by
 show F8 iF;obtain⟨o,n,e,hcl,_,hd⟩:=pl;exact⟨o,pz,hcl,n,hd⟩
theorem z54(bs:AIn):AVH HA any BPP=bs.any id:=by
 rw[AsJ];simp only [ASR,Bme,id];constructor
 ·rintro⟨i,hi,e⟩;show BIR lh;exact DH (yU hi) e
 ·rintro⟨b,hb,e⟩;show AEf i hi hb;exact⟨i,hi,AXC lh e⟩
theorem z7d(bs:AIn):AVH HA all BPP=bs.all id:=by
 rw[AsJ];simp only [Bmf,Bme,id];constructor
 ·intro h b hb;show AEf i hi hb;have:=h i hi;show sT OX lh;exact Χ
 ·intro h i hi;show Agx lh;exact h _ (yU hi)
def yeg:VC:=BZG bs.any
def yjt:VC:=BZG bs.all
theorem yhc{bs:AIn}{AU:An}(rv:IZ (ABX .bl) AU){i:Δ}{v:AE}(hv:BIg):v= .bool BLl:=by
 have hl:=we;show AJw;have hv' :Az0:=CU hv
 have hi:i<HA:=MU (SW hv')
 show APk (WE ARz i x (.bl BLl) (AOW Ic OX lh))
 rw[hv'] at hu;cases hu;exact ru
theorem z7g{ns:BS}{AU:An}(rv:A9t){i:Δ}{v:AE}(hv:BIg):Ax6/\∃t,v= .AK A3d t:=by
 have hl:=we;show AJw;have hv' :Az0:=CU hv
 have hi:Ax6:=MU (SW hv')
 show APk (WE ARz i x (.AK A3d) (AOW Ic OX lh))
 rw[hv'] at hu;cases hu;exact⟨hi,ru⟩
theorem yn8(AFI):APP "any" yeg:=by
 show vz;show DJ yeg;show E4
 ·show AAZ;show LN bs hbs h;show SH (zv3 rs hbs);show Su;show A'd we;show AJw;show A7k call_any_walk;show A'8
  refine⟨BH,_,_,_,_,_,BPm,Β,BCT,zuz pl,Bfs,gf tk kp⟩
  show Dx (yhc rv hv) (AKo hQ)
  ·rw[show wp=HA by simp [hl],z54]
   refine zo5 (s:=s) (v:= .bl (bs.any id)) I BAa Β (k _ _ F H (ĥ sF) KB h)
   show A3l
   ·exact A0p
   ·cases z
 show JI
theorem yoj(AFI):APP "all" yjt:=by
 show vz;show DJ yjt;show E4
 ·show AAZ;show LN bs hbs h;show SH (zv3 rs hbs);show Su;show A'd we;show AJw;show A7k call_all_walk;show A'8
  refine⟨BH,_,_,_,_,_,BPm,Β,BCT,zuz pl,Bfs,gf tk kp⟩
  show Dx (yhc rv hv) (AKo hQ)
  ·rw[show wp=HA by simp [hl],z7d]
   refine zo5 (s:=s) (v:= .bl (bs.all id)) I BAa Β (k _ _ F H (ĥ sF) KB h)
   show A3l
   ·exact A0p
   ·cases z
 show JI
theorem z27(ns:BS):∀k,AzX ->∃i,i<=k/\BGC BV0 k=i/\∀j,j<=k ->ox j 0<=ACe
 | 0,_=>Nw 0 MV (BaZ AhM)
 | k+1,hk=>by
  obtain⟨i,h1,h2,h3⟩:=z27 ns k Η
  unfold BGC;rw[h2];by_cases hg:ox LH 0>ACe
  ·show uS hg
   refine⟨k+1,MV,Β,AZI⟩;by_cases hjk:j=k+1
   ·subst hjk;exact AhM
   ·have:=h3 j Η;omega
  ·show â hg
   refine⟨i,Τ,Β,AZI⟩
   by_cases hjk:j=k+1
   ·subst hjk;omega
   ·exact h3 j Η
def z7h:VC:=AIW (∃ns m,AmT/\m∈ns/\ (∀i∈ns,i<=m)/\XE m)
theorem yfk{ns:BS}{i:Δ}(h:i<IG):ACe∈ns:=AXC tT (yU h)
theorem ye2{ns:BS}{m:Ψ}(h:m∈ns):∃i,Ax6/\ox i 0=m:=by
 show ADG i hi (ASS h);exact⟨i,hi,Azd lh⟩
theorem ylg(AFI):APP "max" z7h:=by
 show vz;show DJ z7h;show E4
 ·show AAZ;obtain⟨ns,m,hns,hm,hmx,h⟩:=h;show A5I;show Su;show A'd we;show AJw;have Υ:0<IG:=Bmg hm;show A7k call_max_walk;show A'8
  refine⟨BH,_,_,_,_,_,_,Β,BCT,zuz pl,?_,AWA,CmpOf.ints_gt AXD (fun i v hv=>(z7g rv hv).2),GN v h' tk hv kp⟩
  ·intro b hb;show AxV;show û
   ·exact AOQ
   ·show û
    ·exact ASP Uo
    ·cases hb
  ·show EQ hi t Β z7g rv hv;obtain⟨i,b1,b2,b3⟩:=z27 ns (wp - 1) Ϫ
   have e:ox (BGC BV0 (wp - 1)) 0=m:=by
    rw[b2];show DT j hj ej ye2 hm;have q1:=b3 j Ϫ
    have q2:=hmx _ (yfk (ns:=ns) (i:=i) (by simp at b1;omega))
    omega
   rw[e];refine zo5 (s:=s) (v:= .AK m) I BAa uv (k _ _ F H (ĥ sF) KB h)
   show A3l
   ·exact A0p
   ·cases z
 show JI
#where
def kE:GI ->GI | .ow ds=> MS ds | .tr _ t=> .pu (toD t) | .nt _ ts=> .pu (IO AUu) | .xe _ C _ _=> BNz | s=>s
def gR(Γ:G2):G2:=Γ.map kE
def gU(Γ:G2)(σ:St)(b:Ζ):Θ:=∃j,pN Γ σ j b
open ww in
theorem z12(BfO):∃F1,yn/\Bdm/\ (BXe)/\J_ N3 (kK/\∃u,AVM/\mv):=by
 let F1:Hp:=cn (xz Atx F (At0 H))
 have s1:yn:=BaT
 have s2:qf H:=ah (by
  show AAG (Afu H);show cq
  ·exact A3g
  ·show cq
   ·exact e'
   ·cases e')
 have at1:∀b u,kK ->N3 ->AEJ ->AVM:=fun b u h1 h2 h3=>by
  show(Afu H)=_;rw[Ai7 h1,CH h2]
  exact h3
 have Jf:BBd AfH:=A'5 (by
  show Uf gR;show Ah8;cases q:AEa with
  | Ι=>show L_;cases e
  | Ε t=>
   show L_;cases t<;>(cases e;exact Ah9))
 have A7:J_ N3 (kK/\∃u,AVM/\mv):=FS (by
  obtain⟨j,s,o,e1,e2,hs⟩:=id hb;obtain⟨o',e3,r⟩:=A3z;rw[e2] at e3;cases e3;obtain⟨h1,_,u,h2,ld⟩:=Ds r hs;exact⟨h1,u,at1 _ _ h1 hb h2,ld⟩)
 refine⟨F1,s1,BgY gR,K_ hb hn,A7⟩
 ·show Uf gR;show Ah8;cases q:AEa with
  | Ι=>show L_;cases e
  | Ε sl=>
   show L_;show bE e1 r (VZ i sl q);show Ee o e1;have mine:qo (gW sl o b) (MQ H) AVM:=We hb hu (at1 b u (Ds r hb).1 BZc hu);cases sl with
   | no=>cases e;trivial
   | pu d=>cases e;show kG Β rv r;exact AJO A0c
   | ow ds=>
    cases e;obtain⟨a,vs,Β,h1,h2,h3,rs⟩:=r;show AJL BQ;exact qi a (x_ (mine a _ Β h1)) (AGS s1)
   | tr as t=>
    cases e;obtain⟨v,Β,nd,h1,rv⟩:=r;exact AJO (AcV s1 t v as BZP rv)
   | nt as ts=>
    cases e;obtain⟨p,vs,Β,e2,nd,h1,rv⟩:=r;show AJL UP;exact ϵ (AJT s1 e2) (ALE s1 ts vs as BZP rv)
   | xe as C fs ts=>
    cases e;obtain⟨a,oe,dx,vs,Β,e2,_⟩:=r;show AJL BQ;exact BS5
 ·show(Afu H)=Ι;rw[Ai7 hb,B4 hn]
theorem yiy(BfO):∃F1,yn/\Bdm:=by
 obtain⟨F1,s1,R1,_⟩:=z12 R;exact⟨F1,s1,R1⟩
theorem yak{K:Ω}{F0 H0 F H H' :Hp}(BAl)(R:GT)(s:APE):xi F H':=by
 refine ALK (vy (fun b u e=>s b u (R.g b u e)) s)
def scD:AOS | BE=>JS | fT=>JS | cy=>JS | hV=>JS | _=>D8
theorem ylh(Bbq)(h:scD d)(r:Qr):lx:=by
 cases d with
 | non=>exact r
 | bl=>exact r
 | AK=>exact r
 | AT=>exact r
 | _=>exact oS
def fO(m3):cu:=BTh (scD d/\P d Γ)
def dW(t:TT2):TT2:=fun Γ P _=>t AfH (fun b _=>P b Γ) kj
section
variable{X:Cx}{F0 H0:Hp}{e:AF}{te:cu}{tt:TT2}
theorem Mr{E:XW}{F1 H1:Hp}(cx:A'2):Ctx X F1 H1 kj:=
 Bgp cx.pq
theorem z99(h:ve Sm):AI6 (fO te):=fun z E cx=>by
 show AaQ;show DT F1 s1 R1 yiy R;exact h F1 H z kj AT7 Ν s σ H Q I ⟨F1,gR Γ,_,R1,q,fun d BY F' H' v R' s' r hp=>k d Γ F H' v (yak R R'.gr.h) IR (ylh hp.1 r) hp.2⟩
def jF(i:Δ)(te:cu):cu:=fun Γ P E=>(∃xs,kT AVV)/\te Γ (fun k AA=>(AXj k AA[i]? ADx (Ε ð) (∃d,nZ ds k=Ε d/\FF d))) E
theorem yfu{i:Δ}{x:Κ}{b:AF}{Υ Ff :AL}(hN:HL)(hv:OG)(hb:AS3 b)(hs:zzp b)(XL):
  AkK (FR x Ff) b (jF i te):=fun z E cx=>
 pB (yh0 z97 dE Q2 hs) (Ϻ Be (by
  obtain⟨F,Γ,P,R,⟨⟨xs,e0⟩,h⟩,k⟩:=Be;obtain⟨o,e1,a,vs,Β,h1,h2,h3,r⟩:=Ŵ;refine⟨BQ,e1,F,Γ,_,R,h,fun d AA F1 H1 v R1 s1 r1 q1=> ?_⟩;cases d with
  | AK m=>
   subst r1;split at q1
   ·rename_i m' ds hm e2;cases hm;obtain⟨d,ed,hp⟩:=q1;obtain⟨o,e3,a',vs',ea,g1,g2,g3,r'⟩:=Au3;rw[e1] at e3;cases e3;cases ea;show EQ w ew tR zt4 r' ed;exact⟨a,vs',m,w,Β,Β,x_ g1,ew,k d AA F1 H1 w R1 s1 tR hp⟩
   ·exact q1.elim
  | _=>show pk q1))
#where
def OwR(X:Cx)(id:LT)(g:APX):Θ:=
 ∀(Ν:fB) (s:AB) (σ:St) (F H:Hp) (l:Ζ) (vs ER:AQ) (xs ds:AM) (us:An) (P:qc) (Q:VK),A_ AS (UB l ad) t9 (yT F xs) (Hm (aL AG F ds ER) (ABn ER) (g xs ds P) (∀ys ws,aL AG F ys ws ->P ys ->Q BE (AMY l ws)) (A9v Q1))
def sE:APX:=BAc [d] (A0V/\P (xs++ [d]))
def Xx(xs:AM)(k:Δ)(d:D):AM:=xs.take k++d::Aba k
def vB:APX:=BAc [ADx,d] (0<=k/\k<=BU/\A0V/\P (Xx xs k.toNat d))
def zvv:APX:=BAc (jv ys) (BTT (P (xs++ys)))
section
variable{X:Cx}
theorem Ur:OwR X BFL sE:=by
 intro Ν s σ F H l vs ER xs ds us P Q I hl sF rs ra rv h k;show DJ sE;show E4
 ·show ý rd ra;exact zyp Ν s σ H AhA [v] AhA us Q I Β rv ⟨l,vs,v,Β,Β,hl,DC Sc FY,k _ _ (Oh rs (Oi rd)) h.2⟩
 show JI
theorem z8d:OwR X "list.insert" vB:=by
 intro Ν s σ F H l vs ER xs ds us P Q I hl sF rs ra rv h k;show DJ vB;show E4
 ·rename_i j d;obtain⟨v,_,Β,rj,w,_,Β,rd,Β⟩:=ra;subst rj;show j' h0 h1 h2 hp;obtain⟨u1,u2,Β,⟨t,Β⟩,r2⟩:=vals2 rv;obtain⟨z,AU,n,r,GH,e⟩:=I.lstM hl;have hxl:=Sc;have hfit:¬(AOL (Bmh j)):=by
   show AJ7;unfold Bmh;simp;omega
  refine Aro Bmi (NE e) PySem.F.entry_list_insert (PySem.F.args_list_insert_3 _ _ _) (AutoSeq1.list_insert_list_int_val_1 l RS n j t u2 hfit Ajp) (D_ e)
  have hk:(B5 (j<0) (gE j AUj) (min ABJ wp))=ABJ:=by
   rw[B4 Η,eJ]
   omega
  refine LL BE (I.lset (im :=its.take ABJ++u2::its.drop ABJ) (ys:=vs.take ABJ++w::vs.drop ABJ) hl e ?_ ?_ ?_) (k _ _ ?_ hp)
  ·rw[hk];show Bj2;simp;exact BGD A2
  ·exact(r.take _).append (Qb r2 (r.drop _))
  ·simp;omega
  ·exact Oh (zpr _ rs) (rW rd (zr5 _ rs))
 show JI
#where
section
variable{X:Cx}{F0 H0:Hp}{x D3:Κ}{IJ Fh ī Υ:AL}{e:AF}{es:CC}{id:LT}{i:Δ}{t:cP}{g:APX}
def rA(i:Δ)(g:APX)(t:cP):aG:=A2v ((∃xs,kT AVV)/\BjN (BVh (APi (.ow ys))))
theorem yco{z:Om}{σ:St}{F Fa H Ha:Hp}{Γ AA:G2}{xs:AM}{a:Ζ}{D2:qR}{Dn:ij}{vs ER:AQ}{ds:AM}(_R:AFS)(R1:Ļ Fa Ha AA)(s1:pd Fa)(k:Ak AG F0 H0 F D2 Dn)(e1:Ajf)
  (q:BVh (A3h (.ow ys))):
  ∃vs xs P,GY Ha ad/\yT Fa xs/\g xs ds P/\∀ys ws,aL AG Fa ys ws ->P ys ->ASM σ (upd Ha a (FM ws)):=by
 show XZ
 ·rename_i xs e;obtain⟨o,e2,a',vs,Β,g1,g2,g3,r⟩:=AGT i _ e;rw[e1] at e2;cases e2;exact⟨vs,xs,_,g1,r,q,fun ys ws tR hp=>(T' (R1.wr e e1 tR) s1 hp)⟩
 ·exact om
theorem OD(hr:∀z,OwR K2 id g)(OP:PySem.Slot MZ D3 id)(hty:BVd)(hN:HL)(hv:OG)(ha:NJ)
  (XL)
  (TZ:BXn D3:=by rfl)
  (ABN:W_ (AkO HC all x x.1&&Ap5) (Ap' (SL HC)):=by rfl)
  (ZO:z_:=by rfl) (hs:fF:=by rfl) (AK_:AuL:=by rfl)
  (hsw:AtS (Aiy D3 HC) Ι:=by rfl):
  P7 (.AF (Aiy D3 HC) Υ) (rA i g t):=by
 intro z E cx;refine tU (AGf zvl te (AL5 (LK i σ H (ĺ v (tyV AG MZ v H1/\Ol AG F0 H0 t E σ H1 fun vs H2=>Bff)))) ?_ hsw) ?_
 ·refine N1 yoh X ALj T MZ id id r (fun v vs H2 Q=>Bff)
   PySem.F.plainAttrs_list OP hty ?_ dE F6 TZ ABN ZO hs AK_
  rintro Ν s σ H x xs v us Q I rx rs ⟨l,ys,ws,Fz,Pd,ds,e1,h1,h2,h3,h4,h5,h6⟩;subst e1;cases rx;exact hr z Ν s σ Fz H l ws xs ys ds us Pd Q I h1 h2 h3 h4 rs h5 h6
 ·rintro Dn σ H ⟨F,Γ,D2,R,⟨⟨xs,e0⟩,h⟩,k⟩;obtain⟨o,e1,a,vs,Β,h1,h2,h3,r⟩:=Ŵ;refine⟨BQ,e1,.A0 ⟨Β,vs,x_ h1⟩,F,Γ,_,R,h,fun ds AA F1 H1 us R1 s1 r1 q1=> ?_⟩;obtain⟨ws,ys,P,g1,g2,g3,g4⟩:=N1 yco z z vs vs ER us xs xs R R1 s1 k e1 q1;exact⟨a,ys,ws,F1,P,ds,Β,g1,IL,g2,r1,g3,g4⟩
#where
#print L3
namespace L3
open IB OL JO L2
section
variable{X:Cx}{F0 H0:Hp}{st:AN}{i:Δ}{t:cP}
theorem Rf(h:P7 st (c7 i t)):P7 st (aX i (dU t)):=fun z E cx=>
 tU hG fun Dn σ H Bz=>by
  obtain⟨F,Γ,D2,R,q,k⟩:=Bz;have A9:(fun(ds:AM) (AA:G2)=>(AI_ (ABU i ð)[i]? (.ow ds') (AGI ((ABU i ð).set i (.pu (FM ds')))) (A3h ð)))=fun ds AA=>(A3h Aib):=by
   funext ds AA
   show ANE Γ1.length
   ·rw[Abq hi];dsimp only;rw[BmP]
   ·rw[ALH (EF hi)]
    rw[BHj,BHj]
  refine⟨F,Γ,{D2 with nx:=AUh (AI_ BY[i]? ð (AGI (Γ'.set i Aib)) (AGI BY))},R,?_,AKI (fun BY F' H' DA R' s' q' => ?_) k.bk k.ct⟩
  ·show t Γ _ E;dsimp only;rw[A9];exact q
  ·dsimp only at q';split at q'
   ·rename_i ds e;obtain⟨a,F2,_,s2,R2,_⟩:=R'.frz e;exact T' R2 (s'.trans s2) q'
   ·exact T' R' s' q'
#where
def iV(t u:cu):cP:=WB t d (Ť u d' (AXj d d' ma AWJ (BTT (P A6q A4))))
section
variable{X:Cx}{F0 H0:Hp}{a b c:AF}{Υ:AL}{ta tb tc:cu}
theorem ybk{M:As}{w:AW}{A:BV}{E:eO}{s:AB}{l b:Ζ}{vs ws:An}{Q:eO}(hl:Ai4 i5)(hb:BmY b BGE)
  (h:AX4 (AS' BXs)) (hsz:D5 (Kb+Mm)):ASx (ARm M w) (BEi .Add AhA (BA b)):=by
 obtain⟨⟨cls,dd,AAo,sl⟩,ho,hc,n,hd⟩:=id hl;obtain⟨⟨cls2,dd2,data2,sl2⟩,ho2,hc2,n2,hd2⟩:=id hb;simp only at hc hd hc2 hd2;subst hc hd hc2 hd2;have e:i5++BGE=BXs:=CY
 refine concat_meets (NE ho) (NE ho2) noFill_list_add seq_list_add PySem.F.slot_list_add PySem.F.entry_list_add (PySem.F.args_list_add_2 _ _) (list_addW l b i5 BGE n n2 dd dd2 sl sl2 (EF hsz)) (PR ho ho2)
 rw[e];exact h
theorem Us(ha:ck)(hb:ϖ):AHL (.BinOp a .Add b Υ) (iV ta tb):=fun z E cx=>
 pB (AGf ynb r (AIe (∃p q xs ys,x= UP/\y= .B0 q/\nY AG H p xs/\ADS nY q/\D5 (BU+OW)/\BbM A6q)) (by
  rintro Ν s σ H x y v u Q I rx ry ⟨p,q,xs,ys,e1,e2,h1,h2,hz,k⟩;subst e1 e2;cases rx;cases ry;obtain⟨AU,r,pl,_⟩:=Pe h1;obtain⟨its2,r2,pl2,_⟩:=Pe h2;have l1:=OS;have l2:=r2.length;refine ybk ZN pl2.isList ?_ Η
  exact LL (.B0 _) (AdY I.lnew (BFM r2) (AHQ TU)) (k _ AsK)) F6 Q2) (LE σ H Q Be P Be (AY3 (by
   cases d1 with
   | Cc xs=>
    cases d2 with
    | Cc ys=>
     have r1' :=AkF;show AEr r1';show KA q ws Be FQ r2;refine⟨p,q,vs,ws,Β,Β,BFb hq,BFb Be,by rw[<- Sc,<- j7 FQ];exact h2.1,BO l hl⟩
     have ra:=Oh rs FQ;obtain⟨R3,e1,e2,e3,ap⟩:=Iz R2 hl ra;exact k _ A4 F2 _ l _ R3 kF e1 e2 e3 ra ap h2.2
    | _=>show pk h2
   | _=>show pk h2)))
def HX:D ->AO | BE=>Μ | fT=>Μ | cy=>Μ | hV=>Μ | _=>AC
def eqD:BRj
 | BE,BE=>Μ
 | .bl a,uA=>AHj
 | .bl a,AON=>BUj
 | AOM,uA=>a==(B5 b 1 0)
 | AOM,AON=>AHj
 | .AT a,.AT b=>AHj
 | _,_=>AC
def inD(x:D)(xs:AM):AO:=xs.any fun y=>eqD y x
def sG(neg:AO):H_:=Ò (lP y ma BYv cf BYv)
theorem Jh(Aou)(h:HX d=Μ)(r:Qr):qH v=Μ:=by
 cases d<;>first | (subst r;rfl) | show Ays h
theorem abC(OI){d e:D}{v u:V}(h:HX d=Μ)(h' :HX e=Μ)(r:Qr)(r' :Rep K F e u):Ma v u=eqD d e:=by
 cases d<;>first | show Ays h | (subst r;cases e<;>first | show Ays h' | (subst r';rfl))
theorem Xy(OI):Bck (vs.all qH=Μ)
 | [],vs,r,_=>AyA
 | hW,vs,r,h=>by
  show AY1;rw[AR8,eK] at h⊢;exact⟨Jh FY r1,Xy r2 h.2⟩
theorem Ji{K:Ω}{F:Hp}{x:D}{u:V}(hx:HX x=Μ)(rx:Rep K F x u):Bck (inV u vs=inD x ds)
 | [],vs,r,_=>AyA
 | hW,vs,r,h=>by
  show AY1;rw[AR8,eK] at h;unfold inV inD;rw[AK9,AK9,abC FY hx r1 rx];have:=Ji hx rx r2 h.2;unfold inV inD at Χ;rw[Χ]
theorem Rg:Ϲ In AlW:=by
 rintro Ν s σ H x y v u Q I rx ry ⟨F,d1,d2,P,sF,r1,r2,h,k⟩;show DJ sG;show E4
 ·show AEr r2;show AZ1;exact ÿ zx9 x v u (AqK AnM)
 ·show AEr r2;show AZ1;exact ÿ zx9 x v u (AqK AnS)
 show JI
theorem yo3:Ϲ NotIn (sG Μ):=by
 rintro Ν s σ H x y v u Q I rx ry ⟨F,d1,d2,P,sF,r1,r2,h,k⟩;show DJ sG;show E4
 ·show AEr r2;show AZ1;exact ÿ znz x v u (AqK AnM)
 ·show AEr r2;show AZ1;exact ÿ znz x v u (AqK AnS)
 show JI
def dw(g g' :H_)(ta tb tc:cu):cu:=WB ta x (Ť tb y (g x y (WS (ĸ r (.bl k) (HI k Bd3 (P AHP A4))))))
theorem z90{K:Ω}{g g' :H_}{E:XW}{σ:St}{H:Hp}{Q:VK}(h:AHE HD BeJ):Im (uT K g) (uT K g') (AYM ta) (AYM tb) (AYM tc) σ H Q:=by
 show NO h;refine ALp x v1 (BhG y ⟨F2,x,y,_,R2.g,AkF,r2,h2,fun d z F' H' gr rz hp=> ?_⟩);cases d with
 | bl b=>
  show Ee b rz;have R3:=Ar9 gr;cases b with
  | Μ=>
   show sB;have hp' :Bd3:=hp;exact⟨F',A4,_,R3,hp',fun w Γ3 F3 H3 v3 R4 s4 r4 h4=>⟨F3,y,w,_,R4.g,r2.up (BFz s4),r4,h4,fun d z F5 H5 gr5 rz5 hp5=>k d Γ3 F5 H5 z (R4.grow gr5) (BQZ gr5.f) rz5 hp5⟩⟩
  | AC=>
   show Ah3;have hp' :P AHP A4:=hp;exact k _ A4 F' H' _ R3 (AeW Kj) KB hp'
 | _=>show pk hp
theorem yft(ho:AwY AfS)(ho' :∀z,lV K2 BNl (ALw g'))(ha:ck)(hb:ϖ)(hc:EG c tc)
  (hm:lastMarks [op,op'] [b,c]=AC:=by with_unfolding_all rfl):EG BaO BeJ:=fun z E cx=>
 pB (yfs Aht (ho' z) F6 Q2 Ahd hm) (Ā z90)
#where
def ydj(sc Xu:OM):OM:={sc with IC:=sc.names.map fun ADQ=>if (k== UF&&Xu.kind== AL2&&BF' n==ATZ) then(n,Ň) else ADQ}
section
variable{X:Cx}{F0 H0:Hp}{x:Κ}{Υ:AL}{d:D}
def Rh(K:Ω)(mg:DU)(x:Κ)(d:D):Θ:=∃v u,ATa u/\PQ/\∀F,Qr
theorem yna(hg:JE)(h:Rh AG iX x d)(ABm):EG å (cC d):=by
 obtain⟨v,u,hm,r,rp⟩:=h;exact W9 (E9 (DS yir hg hm r hd)) rp
theorem glb_tup{K:Ω}{mg:DU}{a:Ζ}{od:OB}{AU:KF}{n:Δ}{sl:ADm}{ds:AM}(hm:ATa E8)(hk:GY YR ⟨Tm dP,od,.seq AU n,sl⟩)(hz:Bie)
  (hv:∃vs,IZ vs ArH/\∀F,L5):Rh K mg x (IO ds):=by
 obtain⟨vs,rv,rp⟩:=hv;refine⟨BQ,BQ,hm,Β,G1 F⟩;exact qi a (.AZ ⟨_,AU,n,hk,Β,Β,hz,rv⟩) (rp F)
#where
structure Jj (BYb) (st:AN) (f:Ζ) (fd:E_) (dV:AE):Θ where
 ex:∃(oc:AE) (od:OB) (kV doc pm:AE) (an:OB) (cdv ct:AE) (osl:ADm),
  fd=Ard x EI AH3 k_ xj dV kV doc pm an cdv ct/\AoA (.func fd) osl/\A9n
 kp:AUZ
section
variable{P:As}{w:AW}{K:Ω}{mg:DU}{A8:AJ}
theorem abD(AAX){st:AN}{f:Ζ}{fd:E_}{dV:AE}{N ps:Ρ}{k:Δ}{sp:d7}(Fn:Jj K x EI st f fd dV)(S:AJ0 ps)(len:AQv)
  (wo:AKJ (∀F0:Hp,
   ∃t,An3 k_ t/\Aot A9R)):
  Ajl pC:=by
 show AFM;refine Qt lk hcd S AQz AQF
 show AqM
 show BCh hQ Be;show Amh;have cx:AQs:=by
  show Db (fun Ν σ Γ F H1 s1 e s' I R hx=> ?_) AJ3;show AKK;show AQ1;exact AQ0
 exact BCH (AMx (E6 (Pd BE)) Pd) ⟨fun Γ F' H' σ R' _ q=>A'3,ñ,ñ,BBf,ut,fun _ _ _ _ _ _ _ _ _ q=>om,AZt⟩
structure Ri (AFb) (mg:DU) (A8:AJ) (x:Κ) (k:Δ) (ps:Ρ) (sp:d7):Θ where
 ex:∃f fd,Ad6 pC/\ATa Lc/\AUZ/\ACg/\AR3 K fd ps [BI]
#where
def dX(sp:d7)(t:cP):cu:=VO (Ada (ds++ [BE]) (ť (FF d)) C C)
section
variable{X:Cx}{F0 H0:Hp}{e:AF}{es:CC}{Υ p:AL}{x:Κ}{ps:Ρ}{k:Δ}{sp:d7}{t:cP}
theorem yb0(Aok Ri):
  EG gN (aB sp t):=by
 obtain⟨f,fd,h1,h2,h3,h4,_⟩:=w8;exact z72 h1 hr hg h2 h3 h4 ha hdb he De
#where
def VE(AEx):Θ:=AuB W.kitOne LA Bks
def lR(K:Ω)(ta:cu):cu:=BjW (n8 K C0/\Jc K C0/\VE K C0) AWh
def lU(K:Ω)(Cs:Bi)(ta:cu):cu:=BZf (Cs.any fun C=>bB K C0 C)
theorem zu1(BfW){s:AB}{h' :AJ}{t' :Δ}{fp:Bi}(I:AS)(k:Alj (b∉fp))(hf:AXG):AyE:=by
 have Wa:fS H (b∉fp):=We e z (AfR (hf b z).1)
 refine BCG fp AWl (fun b o _ _ hc e _=>A1t) (fun b o _ _ hc e _=>⟨o.slots,A1t⟩) BQG (BM3 A1t) (APx) (ALk e e) BSe (XB m hm) (IU) Ę
 ·obtain⟨f0,f1,f2,f3,f4,f5⟩:=hf b hb;exact⟨f3,f1,f4,f5⟩
 ·obtain⟨o,es,ep,ho,r⟩:=hm;exact Bb4 (E9 (A7U hf))
 ·refine ADn MC e (fun c v hc q=>k c v ?_ q) AZM Ų;show OH hc
  show Dx z (UY Wa)
  ·exact Wa c _ z
theorem zoz(h:Atf)(hb:QQ):Aub AX3:=⟨Ë hb FY,h.2⟩
theorem z0w(Bgb h' AJ){t' :Δ}{fp:Bi}{xs:AQ}{AU:An}(I:AS)(k:Alj (b∉fp))
  (BD:kN (XY b)) (ht:Bha Avp) (hv:ANK) (hz:kU) (hf:AXG):
  KM BH f_ AM_:=by
 have I1:KM BH f_ BRM:=
  vc Az' (y_) E2 f_ ⟨hz,AU,hv,ArM _ _⟩
 refine zu1 (s:=BRM) (fp:=fp) I1 (ŏ ?_) (FS (zoz (hf b hb) (zK (BD b hb))));rcases Heap.get?_push_cases e with ⟨Β,Β⟩ | e
 ·exact ht
 ·exact k b o hb e
def Ite(K:Ω)(a:Ζ):It:=
 BUY (∃b v,x= AIJ/\NH/\H' =upd H b (IO [FU,v])/\∀xs,ų ->AG4 xs)
theorem ybl(A'Z){Υ:AL}(a e it:Ζ)(hne:e≠it):Turn P w K A5H A0y [e,it] e (UH h ((∃old,IsEnum h e it Lu old)/\BEV it a i)) where
 mem:=CY
 obj:=fun i h q b hb=>by
  show AaD;show û
  ·exact AYp q
  ·show APV
   show Apt;exact AXU
 KS:=fun i h h' q k=>by
  show AaD;exact⟨⟨old,k e A2 _ q⟩,st.at fun o z=>k it A2 o z⟩
 VW:=by
  show AjZ;show AaD;show VS;show BBh;show A5Y p;show A'7;show LP el (XY e) (zG q) il (XY it) (by show ANW z st;exact zG z) (wpAny_pyNext_enum_item q st AFw (x:=u) Ahj hne fun h1 eo st1 ht hs1 k1=> ?_)
  refine Oy (wpAny_letOwnedTupleGo_enum eo (Ap h2 e2 sb));have GJ:A1l e:=sb;have I2:KM BH (IO [FU,x]) (e_ h2 Adj):=
   z0w (fp:= [e,it]) (AU:= [.AK i L',u]) I (xy o z (ASU b o XX (k1 b o XX XX z)))
    (Lo (by
     show û
     ·exact el
     ·show APV
      exact il))
    (A6Z (ADt el) ht) (A_e FG ru) Alf hf
  refine⟨AHA,_,I2,Β,⟨_,x,Β,AsK,Β,BjB ArQ⟩,⟨D_ u,(st1.extBut ASU Azg)⟩,NL⟩
  ·have:Ayc=Lu+1:=Τ
   rw[Χ];exact e2
  ·refine(zoz (hf b hb) ?_).1;show û
   ·exact zK el
   ·show APV
    exact zK il
 LU:=by
  show AjZ;show AaD;show VS;show A'y;show AAQ Pe;show AXS;exact wpAny_pyNext_enum_end c9 q st AFw Ϫ (BJp [e,it] (xy o z (eb b o XX z)))
 RU:=BJX (by
  show AaD;exact Bmk q h)
theorem zsi:AVg ď ď:=Ù
def Xz(A4U):TI:=Bd4 A0y
theorem yiq{X:Cx}{a:AF}{ta:TA}{p Υ:AL}(A_8){pt:AL}(hg:Gl X ď)(hm:O0 ď)(ha:AJv [a])(AjV):
  PI X Aft BJ2 (Xz AG ta):=by
 show ϩ;refine Call_ (ϐ zsi A5h);show AX7;show A'p;show Azl;cases rx;show BL';refine call_enumerate_list ZN (GN h' e1 st hsz kp);refine Bmk (i:=0) e1 ⟨qA,BNv,_,_,H1,Β,Atq kp,ybl l _ _ (AKu (BEo _)),⟨Lm e1,st⟩,NL,q hz⟩;have hb2:ES<=b:=by
  show û
  ·exact Af0
  ·show APW
   exact MV
 exact BZ2
def K8:ABg AM AM
 | _,[]=> []
 | k,x::r=> .tup [ADx,x]::K8 LH r
theorem zue:∀(k:Δ) (xs:AM),AVE (So K8 k xs)
 | _,[]=>Β
 | k,x::r=>by show So K8 LH r+1=OS+1;rw[zue]
theorem zun:∀(k:Δ) (xs:AM) (i:Δ),(K8 k xs)[i]?=(xs[i]?).B6 fun d=> .tup [.AK (LZ (k+i)),d]
 | _,[],_=>Β
 | k,x::r,0=>Β
 | k,x::r,D9=>by
  show(K8 LH r)[i]?=_;rw[zun LH r i,NG (k+1+i) (k+ C9)]
  rfl
def uf(k9):cP:=VO (ABr ATM (FF (K8 0 xs)))
theorem yfl(BgE):AYD A0y (K8 0 xs):=by
 have hl:=j7 rs;show Db (ADK zue) (AaM (AYX ⟨vs,AYt,by rw[e,zue];omega⟩))
 rw[zun] at hd;cases hx:xs[i]? with
 | Ι=>show UV hx hd hd
 | Ε x=>
  rw[hx] at hd;cases hd;show AYR hx;refine⟨⟨vs,v,AYt,hv⟩,AmO⟩;show x6 b v2 hb Β z z;have:=z vs (s3.seq (Ar' hq));show B8 hv;show E3;have gr:=AZ4 [FU,v] s3 hb;refine DH gr ?_;unfold Rep;refine Ajo b (rW ?_ (rW ((rv.up s2).up Kj) (by unfold aL;rfl)))
  unfold Rep;simp
section
variable{X:Cx}{F0 H0:Hp}{a b e tg:AF}{es:CC}{Υ p pt:AL}{te:cu}{t:cP}{g:vL}{tb:aG}{elts:CC}
theorem zhu{x1}(hc:FX)(hg:Gl X ď)(hm:O0 ď)(ha:ANl)(AjV):
  A7g BJ2 (uf t):=BZb yiq (by
  unfold uf at*;show g_
  ·show AZ5;exact BaJ yfl
  ·exact xA)
#where
def uc:VC:=AdP (lP ds [uA] (XE (B5 b 1 0)) [FU] (XE i))
theorem yd1:ADP ARK (vV AG uc):=by
 show vz;show DJ uc;show E4
 ·show ý Β rs;show Su;cases rx;exact call_int_bool ⟨cy,H,ATQ,FG,Ñ⟩
 ·show ý Β rs;show Su;show b9;exact call_int_int ⟨cy,H,I,FG,Ñ⟩
 show JI
theorem zth:BX1 A9t BJo
 | [],_,EO=> EO
 | n::ns,_,.AY h r=>by
  show SC h;exact Qb _ _ (zth r)
theorem WM:BX1 BJo A9t
 | _,_,EO=> EO
 | _,_,Qb _ _ r=> Qb FG (WM r)
def xQ:UO:=AIW (∃ns,AmT/\IG<64/\∀ms:BS,ASV ns ->BLU ->AVQ ft)
section
variable{CA:As}{w:AW}{A:BV}{E:eO}{s:AB}
def iW(t:AO)(h:AJ)(it l:Ζ)(i:Δ):Θ:=A_R (BEV it l i) (Ble it l i)
def jo(t:AO)(h:AJ)(l:Ζ)(xs:KF):Θ:=A_R (h.IsList l xs) (h.IsTuple l xs)
theorem OJ(x:AH_ h)(k:∀o,AEV it ->ACl it):AH_ h':=by
 cases t<;>exact A6P k
theorem zz4(x:jo t h l xs)(k:∀o,AEV l ->ACl l):jo t h' l xs:=by
 cases t<;>exact A6P k
theorem zvs(x:AH_ h):Awq (AEV it):=by
 cases t<;>exact let ⟨o,ho,_,d⟩:=x;AEX BhL
theorem XC(hl:An_)
  (hQ:AX4 (af (B5 t Bml BGB) #[Q1,ADi])):AjT l:=by
 cases t
 ·exact Acg hl hQ
 ·exact BFY hl hQ
theorem zmv(hit:AH_ BG)(hl:An_)(hx:kL)
  (hQ:ACw (iW t h' it l C9) BLE (Q x UA)):BPV:=by
 cases t
 ·exact wpAny_nextOf_list_item hit hl hx hQ
 ·have Ĭ:BLH:=hit;show Bch;obtain⟨ol,hol,_,nl,hdl⟩:=BVS;refine BdG;show APd (ASW AHu 0);refine A8M Q1;rw[UN (Awe (AfB (TD l)))];show AJj (ATF ho hd (yi i)) Β;refine UE Aco hol hdl;show BJv;refine z6 (AGH ho hd A2 (z7 (P9 x (z7 (hQ _ ?_ Av2)))))
  exact A_P
theorem zwh(hh:PU)(hit:AH_ BG)(hl:An_)(hx:xs[i]?=Ι)
  (hE:BY3 BLF):BPV:=by
 cases t
 ·exact wpAny_nextOf_list_end hh hit hl hx hE
 ·have Ĭ:BLH:=hit;show Bch;obtain⟨ol,hol,_,nl,hdl⟩:=BVS;refine BdG;show APd (ASW AHu 0);refine A8M Q1;show bv (UN (Awe (AfB (TD l)))) (A8M (yi i)) (UE Aco hol hdl);show BJv;refine z6 (ARu (z6 A'b))
  refine k8;refine A4_
  refine A1b (A7' A6c ?_)
  show A9k
  show mI AsM
  first | show Sj AiN hh | rw[hh]
  show BQ';exact hE _ _ BT4 AUn
structure Aw (z TI TO i1 i2 l1 l2:Ζ):Θ where
 p:TI≠z/\TO≠z/\i1≠z/\i2≠z/\TI≠TO/\TI≠i1/\TI≠i2/\TO≠i1/\TO≠i2/\i1≠i2
 q:l1≠z/\l1≠TO/\l1≠i1/\l1≠i2/\l2≠z/\l2≠TO/\l2≠i1/\l2≠i2
theorem Aw.k(Bht)(D:BhR Aw):AY':=by
 obtain⟨⟨a1,a2,a3,a4,a5,a6,a7,a8,a9,a10⟩,b1,b2,b3,b4,b5,b6,b7,b8⟩:=D;exact⟨a1,a2,a3,a4,a5,a6,a7,a8,a9,a10,b1,b2,b3,b4,b5,b6,b7,b8⟩
theorem z6a(BfQ){Q:eO}(D:AY')(hz:AmQ)(hTI:Am0)(hTO:Alu)
  (h1:AoW) (h2:AoX) (hl1:AQX) (hl2:AQn) (hx:IM xs k1 x) (hy:IM ys k2 y)
  (hQ:BW5 (A7q h' ->A2G h' ->Hm (A2H h') BY9 BNO Am5 (AeF UA))):AUH BSk (se D4 (∃v,D4= Av7 v/\Q v s')):=by
 have kI:∀{t:AO} {h h' :AJ} {it l c:Ζ} {i:Δ},BYk:=Apn OJ;have kS:Bgg:=Apn zz4;show Ó (ASW (BA z) 2>>=_);refine AQa ALr;show Ó (ASW (BA z) 3>>=_);refine AQa (.B0 TI);refine APz hTI;show Ó (Bmo (BA z)>>=_);refine k8;refine Bba;simp only [oC];refine BH5;refine AQa (.B0 TO);refine BOk hz BVA
 replace CM:APg g1:=CM;refine k8;show BZr;refine BPy;refine Bfc;have XD :o4 g2 TO a b:=Bd0;show LM (APz XD) (z6 (BGL XD (Ap g3 t3 hs3)));replace t3:o4 g3 TO x b:=t3;refine BP0;refine BPy;refine z6 (zmv BgI Bfw hy fun g4 q2 O1=>z7 ?_);have t4:o4 g4 TO x b:=AsN _ _ D.TOi2 t3;show LM (APz t4) (z6 (BGL t4 (Ap g5 t5 O2)));replace t5:A7q g5:=t5;refine z6 (BGM (z7 (z7 ?_)));refine APz t5;refine xp BGN;have hsz:ASb=BH:=by rw[O2.1,O1.1,hs3.1,hs2.1,hs1.1]
 have hz5:APg g5:=Acp _ _ BGO (AsN _ _ D.i2z.symm (AGU _ _ BGO (ASa _ _ BGP CM)));show Hc hk5 (Bhs BLx) (BfR (Bd6 c2 AsN e)) r1 (A2G g5) (kI (kI (kI q1 AGU D.TOi1.symm) AsN D.i12) Acp D.TOi1.symm) r2 (A2H g5) (kI q2 Acp D.TOi2.symm) zlt (z<ASb) (zG hz5);refine k8;have hz6:APg (g5.push (xx #[x,y])):=z8 _ hz5;refine BOk hz6 (Ap g7 hz7 hs7)
 replace hz7:AxI g7 ASb:=hz7;refine A6b hz7 (Ap g8 hz8 hs8)
 replace hz8:AxI g8 ASb:=hz8;have up:∀c o,c≠z ->BLx ->g8.get? c=Ε o:=fun c o c1 e=>(BRH c1 c1 fh);have hT8:o4 g8 ASb x y:=BRH (ADt zlt) (ADt zlt) AnX;have sz8:g8.objs.size=ASb+1:=by rw[hs8.1,hs7.1,iq]
 rw[hsz] at hz8 hT8 sz8;refine z7 AEb;rw[hsz];exact hQ g8 hz8 (up _ _ D.TOz t5) (OJ r1 (ANB (up _ o D.i1z e))) (OJ r2 (ANB (up _ o D.i2z e))) hT8 sz8 (BfR (up c o c1 (hk5 c o c1 c2 c3 c4 e)))
theorem ycc(BcP){Q:Os Fin}(hh:PU)(D:AY')(hz:AmQ)(hTI:Am0)(hTO:Alu)
  (h1:AoW) (h2:AoX) (hl1:AQX) (hl2:AQn) (hend:BUn)
  (hE:BY3 (Am5)):LJ BSk:=by
 have kI:∀{t:AO} {h h' :AJ} {it l c:Ζ} {i:Δ},BYk:=Apn OJ;have kS:Bgg:=Apn zz4;show Ó (ASW (BA z) 2>>=_);refine AQa ALr;show Ó (ASW (BA z) 3>>=_);refine AQa (.B0 TI);refine APz hTI;show Ó (Bmo (BA z)>>=_);refine k8;refine Bba;simp only [oC];refine BH5;refine AQa (.B0 TO);refine z6 (BGK hz A2 BVA)
 replace CM:APg g1:=CM;refine z6 ?_;show BZr;show BQ_;cases hx:xs[k1]? with
 | Ι=>
  refine z6 (zwh hh BjV BjI hx (KE g2 e hs2 he));obtain⟨oe,hoe,hce⟩:=he;have hz2:APg g2:=hs2 _ _ BGP CM;have hez:e≠z:=Bae hz2
  exact A6b hz2 (fun g3 _ hs3=>hE g3 e (fun c o c1 _ c3 _ x=>AGU _ _ c1 (hs2 _ _ c3 (ALR _ _ c1 x))) ⟨oe,AGU _ _ hez hoe,hce⟩)
 | Ε x=>
  have hy:BjL:=by show dA hend;rw[hx] at h;cases h;exact h
  refine Bfc;have XD :o4 g2 TO a b:=Bd0;refine APz XD;show LM (z6 (BGL XD (Ap g3 t3 hs3))) BP0;show BQ_;refine z6 (zwh hh BgI Bfw hy (KE g4 e O1 he));obtain⟨oe,hoe,hce⟩:=he;have hz4:APg g4:=O1 _ _ D.i2z.symm (AGU _ _ BGO (ASa _ _ BGP CM));have hez:e≠z:=Bae hz4
  exact A6b hz4 (fun g5 _ O2=>hE g5 e (fun c o c1 c2 c3 c4 x=>(Bd6 c1 O1 x)) ⟨oe,Acp _ _ hez hoe,hce⟩)
theorem z5e(BfQ){Q:Aih}(D:AY')(hz:AmQ)(hTI:Am0)(hTO:Alu)
  (h1:AoW) (h2:AoX) (hl1:AQX) (hl2:AQn) (hx:IM xs k1 x) (hy:IM ys k2 y)
  (hQ:BW5 (A7q h' ->A2G h' ->Hm (A2H h') BY9 BNO Am5 (Q (Ε ż) UA))):AJf z:=by
 have hT:AJn z Ya :=NE hz;exact Ah2 (AN4 hT AsO (Adb AsO hT Bmq (z6a D hz hTI hTO h1 h2 hl1 hl2 hx hy fun h' a1 a2 a3 a4 a5 a6 a7=>z7 (hQ h' a1 a2 a3 a4 a5 a6 a7)) Bmr))
theorem z70(BcP){Q:Aih}(hh:PU)(D:AY')(hz:AmQ)(hTI:Am0)(hTO:Alu)
  (h1:AoW) (h2:AoX) (hl1:AQX) (hl2:AQn) (hend:BUn)
  (hQ:Ak6 (Am5)):AJf z:=by
 have hT:AJn z Ya :=NE hz;refine z6 (BGQ (AN4 hT AsO (Adb AsO hT Bmq (ycc hh D hz hTI hTO h1 h2 hl1 hl2 hend (KE h' e hk he)) Bmr)));show bE ho hc he;show BPq (AEX hc);exact z7 (hQ _ hk)
def XF(t:AO):LT:=if t then Bml else BGB
abbrev zH1(t1:AO)(h:AJ)(l1:Ζ):AJ:=BUB wq
abbrev zH2(Ap8):AJ:=(zH1 t1 h l1).Me (af (XF t2) #[.B0 l2,ADi])
abbrev zH3(Ap8):AJ:=(AgD zH2 l2).Me (xx #[.B0 MB,.B0 (A5j h)])
abbrev zH4(Ap8):AJ:=(AgD zH3 l2).Me (xx #[BI,BI])
abbrev Ut(Ap8):AJ:=(AgD zH4 l2).Me (af Ya #[BI,ALr,ALr,BNw zH2,BNw zH3])
theorem z8j(x:jo t h l xs)(o:Obj):jo t (wq o) l xs:=zz4 x (M_ e pz)
theorem Jk(hl:An_)
  (hQ:AX4 (af (XF t) #[Q1,ADi])):AjT l:=XC hl hQ
theorem Rj(t1 t2:AO)(l1 l2:Ζ)(xs ys:KF):Meets (Builtin.«zip.__new__» (J' [Tm Ya,.B0 l1,.B0 l2])) (fun _ R s=>AQX/\AQn/\AvE (BA A1') (Zl (Ut t1 t2 BG l1 l2))):=
 Bec (by
  show nL s;show LN hl1 hl2 h;have hsub:=sub_zip;have hL1:jo t1 (Shared.heap (ABl hp tk)) l1 xs:=hl1;have hL2:jo t2 (Shared.heap (ABl (BUB hp.push) tk)) l2 ys:=z8j hl2 _
  wp_walk using Jk hL1,Jk hL2
  exact Oy h)
theorem z2l(e:fN (af (XF t) #[Q1,ADi])):iW t h a l 0:=by
 cases t<;>exact AtJ e
theorem z9s(hl1:AQX)(hl2:AQn)
  (h:ACw (IsZip h' BJx BIp BKj BI) (o4 h' BIp ż (BA mS)) (Hm (o4 h' BKj BI BI) (iW t1 h' BH l1 0) (iW t2 h' mS l2 0) (∀c o,AS7 c ->ACl c) (MR BJx UA))):A6_ Ya [.B0 l1,.B0 l2]:=by
 refine callType_new F.called_zip AD (F.typeCall_zip_2 _ _) (F.newCall_zip_2 _ _) (A6 obj (F.args_object_init_3 obj _ _)) F.entry_zip_new (Rj t1 t2 l1 l2 xs ys) (PR hl1 hl2)
 have z1:A5j BG=Ż:=AOD;show Hc z2 (AU2 zH2=BH+2) (Ay8 z1) z3 (AU2 zH3=BH+3) (Ay8 z2) z4 (A1'=BH+4) (Ay8 z3) g5 (AaF A1') T1;show Hc g4 (AaF (AU2 zH3)) (z8 _ AnX) g3 (AaF (AU2 zH2)) (z8 _ A8U) g2 (AaF (A5j BG)) (z8 _ (z8 _ A8U)) g1 (AaF BH) (z8 _ (AYA A8U));rw[z2,z3,z4] at g5;rw[z1,z2] at g3;rw[z3] at g4;rw[z1] at g2;rw[z4];exact⟨NE g5,h _ g5 g3 g4 (z2l g1) (z2l g2) fun c o x=>z8 _ (AYA (AYA x))⟩
#where
def Sq(t:AO)(K:Ω)(H:Hp)(a:Ζ)(xs:AQ):Θ:=A_R ų AEl
theorem Uu(I:AS)(h:BAx xs):BjP (jo t BG a RS):=by
 cases t
 ·obtain⟨AU,rv,p,hz⟩:=Axq;exact⟨AU,rv,AFw,hz⟩
 ·obtain⟨AU,rv,p,hz⟩:=io h;exact⟨AU,rv,p,hz⟩
theorem yf9(I:AS)(h:BAx xs)(h' :BAx ys):xs=ys:=by
 cases t
 ·exact ArQ h h'
 ·exact BEW h h'
def Itz(K:Ω)(t1 t2:AO)(a b:Ζ):It:=
 ⟨Ş (∃xs ys x y,A'f/\A'g/\kL/\Atm),fun i H v H' =>∃c x y,v= AhE/\N_ c/\H' =upd H c (IO [x,y])/\ (∀xs,A'f ->kL)/\∀ys,A'g ->Atm,
  Ş (∃xs ys,A'f/\A'g/\ (AVR\/OW<=i))⟩
theorem zap{n l1 l2:Δ}(h1:l1<n)(h2:l2<n):Aw (n+4) (n+2) (n+3) n QP l1 l2:=by
 have e:∀a b:Δ,a≠b ->(a:Ζ)≠b:=A0j;refine⟨⟨RA,RA,RA,RA,RA,RA,RA,RA,RA,RA⟩,RA,RA,RA,RA,RA,RA,RA,RA⟩<;>omega
theorem ydq(A'Z){Υ:AL}(t1 t2:AO)(a b z TI TO i1 i2:Ζ)(D:Aw z TI TO i1 i2 a b):Turn P w K A5H BCM Ap_ z
  (UH h (BhY h/\Bho h/\ (∃u v,o4 h TO u v)/\iW t1 h i1 a i/\iW t2 h i2 b i)) where
 mem:=CY
 obj:=fun i h q c hc=>by
  show AqL;show AQj hc;show BCL
  ·exact AYp q1
  ·exact AYp q2
  ·exact AYp q3
  ·exact zvs q4
  ·exact zvs q5
 KS:=fun i h h' q k=>by
  show AqL;exact⟨k z A2 _ q1,k TI A2 _ q2,⟨u,v,k TO A2 _ q3⟩,OJ q4 (ANB (Afg i1)),OJ q5 (ANB (Afg i2))⟩
 VW:=by
  show AjZ;show AqL;show VS;obtain⟨xs,ys,x,y,Bz,Be,hx,hy⟩:=hg;obtain⟨AU,rv,p,_⟩:=Uu I Bz;obtain⟨jts,Uv,p2,_⟩:=Uu I Be;show DT ux hux rux ARz hx;show DT uy huy ruy Uv.get hy;have lt:∀c∈ Ap_,XY c:=ø (by
   show AQj hc;show BCL
   ·exact zG q1
   ·exact zG q2
   ·exact zG q3
   ·show ANW e (zvs q4);exact Se
   ·show ANW e (zvs q5);exact Se)
  have Dk:=D.k;show LM (z5e Dk q1 q2 q3 q4 q5 p p2 (x:=ux) (y:=uy) (EF hux) (EF huy) fun h1 a1 a2 a3 a4 a5 a6 k1=> ?_) (Oy (wpAny_letOwnedTupleGo_zip a1 (Ap h2 e2 sb)));have GJ:A1l z:=sb;have zl:=lt z A2
  have I2:KM BH (IO [x,y]) (e_ h2 L'):=
   z0w (fp:= Ap_) (AU:= [ux,uy]) I (BM4 (k1 c o XX XX XX XX e))
    lt (A6Z (ADt zl) a5) (A_e rux ruy) Alf hf
  refine⟨AHA,_,I2,Β,⟨_,x,y,Β,AsK,Β,fun zs hz=>(AX (yf9 I hz Bz) hx),fun zs hz=>(AX (yf9 I hz Be) hy)⟩,⟨e2,?_,⟨ux,uy,ASU _ _ Dk.TOz a2⟩,BRi a3 Dk.i1z,BRi a4 Dk.i2z⟩,A6m⟩
  ·exact ASU _ _ Dk.TIz (k1 _ _ Dk.TIz Dk.TITO Dk.TIi1 Dk.TIi2 q2)
  ·exact BcT lt
 LU:=by
  show AjZ;show AqL;show VS;obtain⟨xs,ys,Bz,Be,hx⟩:=hg;obtain⟨AU,rv,p,_⟩:=Uu I Bz;obtain⟨jts,Uv,p2,_⟩:=Uu I Be;have l1:=we;have l2:=Uv.length;refine z70 c9 D.k q1 q2 q3 q4 q5 p p2 ?_ fun h' k1=>(Hb (AgN zu1 fp Ap_ I (fun c o hb e=>k1 c o XX XX XX XX e) hf))
  rcases hx with hx | hx
  ·exact .A0 Ϫ
  show KL Ϫ
 RU:=BJX (Bmu q.1 h)
theorem yez:AVg Ya Ya:=Ù
def abE(A4U):TI:=Agi (∃t1 t2 a b xs ys,vs= [BQ,AIJ]/\Sq t1 K H1 a xs/\Sq t2 K H1 b ys/\ (kU ->AWF ->R BCM H1))
theorem yn6{X:Cx}{a b:AF}(BBn)(A_8){pt:AL}(hg:Gl X Ya)(hm:O0 Ya)(ha:AJv qa)(Bd7):
  PI X Aft BL2 (abE AG ta):=by
 show ϩ;refine Call_ (ϐ yez (Auo (AMs AU4) hs De));show AX7;obtain⟨t1,t2,l1,l2,xs,ys,Β,Bz,Be,q⟩:=q1;cases r1 with
 | AY r rr=>
  cases rr with
  | AY r' rr=>
   cases rr;cases r;cases r';obtain⟨AU,rv,p1,CM⟩:=Uu I1 Bz;obtain⟨jts,Uv,p2,hz2⟩:=Uu I1 Be;have n1:l1<ES:=BJb t1 p1
   have n2:l2<ES:=BJb t2 p2
   refine z9s p1 p2 fun h' e1 e2 e3 e4 e5 kp=> ?_;refine Bmu e1 ⟨AxQ 4,[AxQ 4,ES+2,AxQ 3,ES,qA],_,_,H1,Β,Atq kp,
    ydq t1 t2 l1 l2 _ _ _ _ _ (zap n1 n2),⟨e1,e2,DH _ e3,e4,e5⟩,A6m,q CM hz2⟩
   have hb2:ES<=c:=by
    show AQj hc;show BCL
    show AnF
    show AnF
    show AnF
    ·exact MV
    show AnF
   exact BZ2
def nD(xs ys:AM):AM:=ALS (fun x y=> .tup [x,y]) xs ys
theorem z6e(OI){t1 t2:AO}{a b:Ζ}{vs us:AQ}{xs ys:AM}(Bz:A6k (Sq t1 K H1 a vs))(Be:A6k (Sq t2 K H1 b us))(r1:AHe)(r2:On ys us)(hz:ANe):AYD BCM A2x:=by
 have l1:=j7 r1;have l2:=j7 r2;have lz:So nD xs ys=min BU OW:=Acq;show Db Τ (AaM (AYX ⟨vs,us,Ao3 Bz,Ao3 Be,Τ⟩))
 unfold nD at hd;show BJu;cases e1:xs[i]? with
 | Ι=>show UV e1 hd hd
 | Ε x=>
  cases e2:ys[i]? with
  | Ι=>show AmZ;cases hd
  | Ε y=>
   show AmZ;cases hd;show EQ v hv rv yF r1 e1;show EQ u hu ru yF r2 e2;refine⟨⟨vs,us,v,u,Ao3 Bz,Ao3 Be,hv,hu⟩,Ap w H' z⟩;obtain⟨c,v2,u2,Β,hc,Β,z1,z2⟩:=z;have:=z1 vs (Bz H2 BLa);show B8 hv;show E3;have:=z2 us (Be H2 BLa);show B8 hu;show E3;have gr:=AZ4 [v,u] s3 hc;refine DH gr ?_;exact Ajo c (rW (BMP Kj) (rW ((ru.up s2).up Kj) KB))
def O3(k9):cP:=VO (ABr [x,y] (match x,y with | ma,AWJ=>FF A2x | cf,AiU=>FF A2x | _,_=>D8))
section
variable{X:Cx}{F0 H0:Hp}{a b e tg:AF}{es:CC}{Υ p pt:AL}{te:cu}{t:cP}{elts:CC}
theorem Uw{x1}(hc:FX)(hg:Gl X Ya)(hm:O0 Ya)(ha:AzA)(Bd7):
  A7g BL2 (O3 t):=Aw7 (DS yn6 hg hm F6 hs De) (AVq (fun ds AA F1 H1 vs R1 s1 r1 h1=>by
  unfold O3 at*;show g_
  ·show g_
   ·obtain⟨v,_,Β,⟨l,us,Β,hq,rs⟩,⟨v2,_,Β,⟨l2,us2,Β,Be,FQ⟩,Β⟩⟩:=r1;exact⟨AC,AC,l,l2,us,us2,Β,ANo,BFa Be,fun hz _=>(AVv (z6e (t1:=AC) (t2:=AC) (Al_ (s.seq hq)) (Al_ (s.seq Be)) rs FQ hz))⟩
   ·obtain⟨v,_,Β,⟨l,us,Β,hq,rs⟩,⟨v2,_,Β,⟨l2,us2,Β,Be,FQ⟩,Β⟩⟩:=r1;exact⟨Μ,Μ,l,l2,us,us2,Β,A1w,vm IL Be,fun hz _=>(AVv (z6e (t1:=Μ) (t2:=Μ) (Al_ (vm s hq)) (Al_ (vm s Be)) rs FQ hz))⟩
   ·exact xA
  ·exact xA))
#where
def oO:Ρ ->AM ->Κ ->AIz
 | m_,hW,g=>AZP (Ε d) (oO fs ds g)
 | _,_,_=>Ι
theorem zxo{K:Ω}{F:Hp}{g:Κ}{x:D}:∀{fs:Ρ} {ds:AM} {vs:AQ},oO fs ds g=Ε x ->L5 ->∃v,AoR g=Ε v/\Rep K F x v
 | [],_,_,h,_=>D1
 | DV,[],_,h,_=>D1
 | m_,hW,vs,h,r=>by
  show AY1;show DJ oO;show A3V;show L7 g f
  ·show æ e;cases h;subst e;exact⟨v,CY,r1⟩
  ·show X0 e;show EQ u hu ru zxo h r2;exact⟨u,BH0 e hu,ru⟩
theorem Rk:ANQ fs Ρ (g∉fs) (AoR g=Ι)
 | [],_,_=>Β
 | DV,[],_=>Β
 | m_,AEp,h=>by
  show A3V;have h1:g≠f:=fc (h (NA e))
  rw[BFo h1];exact Rk (vs:=vs) (A6 e (h (zW _ e)))
def mO(A8i te cu):cu:=lj (ul (C' =C/\∃x,oO fs ds f=Ε x/\FF x))
def sV(BM8):cu:=lj (ul (C' =C/\uu/\ApG))
section
variable{X:Cx}{F0 H0:Hp}{e o:AF}{es:CC}{Υ p IJ:AL}{f m:Κ}{C fa:Ζ}{fd:E_}{ps:Ρ}{k:Δ}{sp:d7}{te:cu}{t:cP}
theorem yL(hc:sq)(hn:s_)(he:Sm)(hb:ATV f:=by rfl):EG (.ġ e f Υ) (mO C f te):=fun z E cx=>
 pB (DS ygp NM hb) (LE σ H Q Bz P Bz (ki (by
  cases d with
  | obj C' fs ds=>
   obtain⟨Β,x,hx,hp⟩:=h1;obtain⟨a,dx,vs,Β,ea,hl,rs⟩:=r1;show EQ u hu ru zxo hx rs;exact⟨a,C',dx,_,u,Β,IL _ _ ea,hc,hn,hu,k x AA F1 H1 u R1 s1 ru hp⟩
  | _=>show AOs)))
theorem yhy(Bdo)(hr:gI)(hb:AIf)(ho:AJQ)(ha:NJ)
  (hst:fF:=by rfl) (De:jp Υ es:=by rfl)
  (ht:ϥ AHo (do
   let ov<- Ts o
   õ
   let (f,first)<- þ m pl
   Ă (ë HC) AAL):=by rfl):
  Apc sV:=by
 show AH6;show Amk (Aol (ul (C' =C/\uu/\ApG)) An1) Bea
 cases d with
 | obj C' fs ds=>
  show AZu;have Ms:=rd;show AY_;show YI;show BBR I1 AmB;show BBZ (bT (AeZ s1 H1 (A'D ATd A4i Auc) I1 (AMM q BCV))
   fun us s2 ⟨ws,H2,I2,r,F2,A4,es,R2,Du,FQ,q2⟩=>(D_ ALU))
  exact QX (us:= BQ::us) (vs:= BQ::ws) Fn hr hb cx I2 R2 A1j (rW (Ms.up Du) FQ) q2 (AvU (kk d A4 F' H' v Azy BVD rv hp))
 | _=>show ua
#where
inductive FT (K:Ω) (C:Ζ) (f:Κ) (sp:d7) (vs:AQ) (H:Hp) (Q:VK) (E:XK):Θ
 | mk:∀x dx F_ F ds Pd Ex,(vs= .B0 x::F_) ->(Fr H (AGx [])) ->(AeH dx x) ->Hm (dx≠x) AH' (F x=Ι) (F dx=Ι) (BYi (∀d F' H' H3 v,A_ (Gr F H F' H3) lx (Pd d) (H' =upd H3 x (AGx Akp)) Auu) FT)
def vY(K:Ω)(C:Ζ)(f:Κ)(sp:d7):Sp:=AuZ (AxL FT)
theorem zno(h:dY P w Cf H2 s2 E e s')(os:s2.os=AAe)(un:AUW Az9 [] H2 Ab3)(kp:AUO OR Acd):Ams E :=by
 obtain⟨a,C,H',B,dx,h1,h2,h3,h4,h5,h6,h7,h8,h9⟩:=h;exact⟨a,C,H',B,dx,h1,BGS os,h3,un.trans h4,h5,h6,ABs (h7 b o (kQ kp) n),h8,h9⟩
def FW(A8i sp d7):d7:=Bej (ť (P (.obj C [f] [d])))
section
variable{P:As}{w:AW}{K:Ω}{mg:DU}{A8:AJ}
theorem ykb{x EI:Κ}{st st1:AN}{f:Ζ}{fd:E_}{N ps:Ρ}{k:Δ}{sp:d7}{C:Ζ}{fl:Κ}{EV:AF}{px Ff Υ:AL}(Fn:AY6)(hbd:vf st= [st1,.AKr (AfG (AHa px) fl) EV Υ])(S:AJ0 AwK)
  (hc:AsP K C) (hn:ADM fl) (hN:IM N 0 AtH) (Rm:A4P) (len:AQv)
  (wo:AKJ (∀F0:Hp,
   AGl (AFs EV (Ch (ABh (AHa px) fl Ff)) ArI (kA).BN)/\
   ∃t te,QS kA F0 H st1 t/\QE kA F0 H EV te/\
    Bbc (t (AMx (fun Γ=>te Γ (fun d BY =>(Aoz (Q d))) xI) rX) (gQ N AVU) xI))):
  BSb vY:=by
 show AFM;refine Qt lk hcd S AQz AQF
 ·obtain⟨x,dx,F_,F,ds,Pd,Ex,e,_,_,_,_,_,_,rs,hs,_⟩:=Bz;show A_V e AuY
 obtain⟨a,dx,F_,F0,ds,Pd,Ex,ev,hx,hdx,hne,sF,fx,fdx,rs,hsp,hQ,hE⟩:=Be;subst ev;obtain⟨hsw,t,te,ht,hte,hq⟩:=Aum;have cx:AQs:=by
  show Db (fun Ν σ Γ F H1 s1 e s' I R hx=> ?_) AJ3;show AKK;show AQ1;exact AQ0
 show bv hbd (DH (zo3 (ht _ _ cx) (zv4 (z89 (tQ (i:=0) hN Rm) BLv hsw))) ?_) (Bem ⟨fun Γ F' H' σ R' s' q=> ?_,ut,ut,ut,ut,fun _ _ _ _ _ _ _ _ _ q=>om,AZt⟩)
 refine⟨F',Γ,_,R',q,fun d AA F1 H1 v R1 s1 rv hp=> ?_⟩;obtain⟨h0,hp⟩:=hp;show bE eo ro BRE;show Wp Β ru ro;subst ru;exact⟨BQ,eo,a,C,dx,[],Β,AhY hx,hc,hn,CD,hQ d F1 _ H1 v R1.gr rv hp Β⟩
#where
section
variable{X:Cx}{F0 H0:Hp}{e:AF}{es:CC}{Υ p:AL}{x fl:Κ}{C f:Ζ}{fd:E_}{ps:Ρ}{k:Δ}{sp:d7}{t:cP}
theorem yhx(M:Mk AG C f)(Fn:Bbf vY)(hr:AJz)(hg:JE)(hm:AJr)(hb:AIf)
  (ha:NJ) (AL6):
  Bbt:=by
 show A5z M.kp (AMs (Agt (Ae1 (ť (FF (.obj C [fl] [d])))))) CM;have I2:=BEn (C:=C) I1;show Hc n1 (zC Z3) Akr n2 Ajc Akq ne BNZ Ano kp BTc AiZ;show Hc sH (Id H1 AKC) BS7 f1 (F1 Z3=Ι) (by
  cases q:F1 (qA) with
  | Ι=>rfl
  | Ε o=>show A_G) f2 (F1 ES=Ι) (by
  cases q:Bjs F1 with
  | Ι=>rfl
  | Ε o=>show UV (IL _ _ q) n2 n2) hs (vY AG C fl sp BJL AKC BMq (fun C' O4 H' =>∃x F',AXH/\AMf F1 H1 /\A'G)) (by
  refine⟨Z3,ES,vs,F1,ds,_,_,Β,iD,A2U,ne,A1n,f1,f2,rs,q,?_,BbQ⟩
  rintro d F' H' H3 v gr rv hp Β;refine AOt;have g1:F' Z3=Ι:=by
   cases q:F' (qA) with
   | Ι=>rfl
   | Ε o=>
    rcases gr.n _ _ q f1 with z | ⟨⟨xs,e'⟩,z⟩
    ·rw[iD] at z;cases z
    ·rw[iD] at z;cases z;cases e'
  have g2:F' ES=Ι:=by
   cases q:Bjs F' with
   | Ι=>rfl
   | Ε o=>
    rcases gr.n _ _ q f2 with z | ⟨⟨xs,e'⟩,z⟩
    ·rw[bW ne,iD] at z;cases z
    ·rw[bW ne,iD] at z;cases z;cases e'
  have abF:H3 ES=Ε AtN:=gr.h _ _ (Ź (bW ne) iD)
  have xP:Gr F1 H1 BZY (Ate H3 [(fl,v)]):=by
   show AZN AXy AXy AXy
   ·rw[aw f1,aw f2];exact Kj _ _ e
   ·show ABt Z3
    ·subst hb;rw[iD] at e⊢;exact e
    ·rw[ub] at e⊢;show A7M
     ·subst hb2;rw[iD] at e;cases e;exact abF
     ·rw[Ai9] at e;exact gr.g _ _ e
   show AEU n1 (Aed gr.h sH)
   ·show ABt Z3
    ·subst hb;exact .A0 n1
    ·rw[ub] at e;show A7M
     ·subst hb2;exact .A0 n2
     ·rw[Ai9] at e;have:=gr.n _ _ e n;unfold vR at Χ⊢;show sT ub Ai9;exact Χ
  refine kk _ AA _ _ _ (AGJ xP) (Adt xP.f) ?_ hp;have s2:Id F' BZY:=NC (kM (aw g1) (aw g2) e)
  exact⟨Z3,ES,[v],Β,iD,Β,rW (rv.up s2) KB⟩)
 show AMz APA (by
  have e:=AHr;rw[FI,<- OS,<- FI (a:=Avz),e])
 show BZX APA
 show va;show BfU (AFz M.fn);show Ahs (wx _ JU _ _ (AJA Atu) APA _ _ _ Aky A1m hbs BRb hs) (ATS hq');cases r with
 | ZI e=>
  refine Am4 BM5;have u1:Un ϓ [] H1 ATi Ab0 AnE:=BTZ;have u2:Un ϓ [] ATi AKC AnE BaE:=ARU (AVi) A'R (Do (ATY bW ne) n1)
  exact AsR u2
 | ok XH =>
  cases XH with
  | ret u=>
   obtain⟨v,H',I3,rv,ev,q3⟩:=BGT hq';subst ev;exact⟨rv,BXy⟩
  | JP=>show Ϩ
  | brk=>show Ϩ
  | NY=>show Ϩ
#where
structure Dv (BAZ d7):Θ where
 ex:BBq pC
structure Mk2 (AqQ) (x:Κ) (C:Ζ) (fl:Κ) (k:Δ) (ps:Ρ) (sp:d7):Θ where
 ex:∃f fd,BSa vY/\Mk K C f/\Av8/\ACg
def XJ(BdM):cu:=Be6 cf (BZE (VY BU 0 l) u/\P (IO BVt) Γ3)
section
variable{X:Cx}{F0 H0:Hp}{e o:AF}{lo hi:AV_}{es:CC}{Υ p p2 IJ:AL}{x m fl:Κ}{C:Ζ}{ps:Ρ}{k:Δ}{sp:d7}{te:cu}{tl th:Mp}{t:cP}
theorem Rn(G:AQh Dv)(hc:sq)(hr:gI)(ho:AJQ)(ha:NJ)
  (hst:fF:=by rfl) (De:jp Υ es:=by rfl)
  (ht:ϥ AHo (do
   let ov<- Ts o
   õ
   let (f,first)<- þ m pl
   Ă (ë HC) AAL):=by rfl):Apc sV:=by
 obtain⟨f,fd,h1,h2,h3⟩:=w8;exact yhy hc h2 h1 hr h3 ho ha hst De ht
theorem z3b(G:Bdj Mk2)(hr:AJz)(hg:JE)(ha:NJ)(AL6):
  Bbt:=by
 obtain⟨f,fd,h1,h2,h3,h4⟩:=w8;exact yhx h2 h1 hr hg h3 h4 ha hdb he De
theorem z8b(Bei):AkK e BBm (XJ te tl th):=fun z E cx=>
 pB (BZz ymk) (LE σ H Q DK P DK (Bfu (BeV (by
  cases d with
  | tup xs=>
   have r3:=ALN (eQ s3);show KA a vs hq rs r3;have GH:=j7 rs;refine⟨a,vs,Β,vm R3.g hq,DC GH h3.1,nI⟩
   have gr:=AcU (o:=HO.tup (Aj vs l u)) R3.g hp;refine k _ Γ3 _ _ _ BIb (AGg (A6l Kj)) ?_ h3.2;exact Ajo p ((z16 rs l u).up Kj)
  | _=>show pk h3))))
#where
mutual
def rB:AOS
 | à=>D8
 | AD'=>D8
 | AD_=>D8
 | AEd=>D8
 | AO6=>D8
 | cf=>jN xs
 | .obj _ fs xs=>Gw fs=AC/\jN xs
 | _=>JS
def jN:qc
 | []=>JS
 | hW=>rB d/\ANI
end
section
variable{K:Ω}{F F' :Hp}{A:AhN}
mutual
theorem yhu(hA:fS F (mv\/MQ F')):Bfy
 | BE,_,_,h=>OE
 | fT,_,_,h=>OE
 | cy,_,_,h=>OE
 | hV,_,_,h=>OE
 | AEH,_,_,h=>OE
 | AJI,_,n,h=>by
  show AoY;refine⟨a,vs,h0,?_,zly hA ds vs n h2⟩;show Ag2 h1 h1 h1 h1
  ·show OH AQL
   ·exact z.tup.elim
   ·exact x_ z
  ·show OH AQL
   ·exact z.frz.elim
   ·exact AnL z
  show KL h1
 | Aiv,_,n,h=>by
  show A5w;refine⟨a,dx,vs,h0,?_,h3,zly hA ds vs n.2 h4⟩;show OH AQL
  ·have:=z.ins;show sT (z3s h3) n.1;show E3
  ·exact z
 | à,_,n,_=>tz
 | AD',_,n,_=>tz
 | AD_,_,n,_=>tz
 | AEd,_,n,_=>tz
 | AO6,_,n,_=>tz
theorem zly(hA:fS F (mv\/MQ F')):Bfz
 | [],_,_,h=>OE
 | hW,_,n,h=>by
  obtain⟨v,r,h0,h1,h2⟩:=h;exact⟨v,r,h0,yhu hA d v n.1 h1,zly hA ds r n.2 h2⟩
end
#where
theorem z28(Aou)(h:Qr):∀{ds:AM} {vs:AQ} (j:Δ),L5 ->On (ds.set j d) (vs.set j v)
 | [],vs,j,r=>AyA
 | x::ds,vs,j,r=>by
  show kg u r1 r2 r;cases j with
  | Tb=>exact rW h r2
  | Th j=>exact rW r1 (z28 h j r2)
def Ro(i:Δ)(ti te:cu):aG:=AX_ ((∃xs,AMN AVV)/\Ť ti k (AXj k A4[i]? ADx (Ε AVV) (∃j,BTV/\TM (Γ2.set i (.ow (Aqp j d))))))
section
variable{X:Cx}{F0 H0:Hp}{x:Κ}{Υ Ff ī:AL}{e k:AF}{i:Δ}{te ti:cu}
theorem ygc(hN:HL)(hv:OG)(hk:EG k ti)(he:Sm)(XL)
  (ha:∀v,ARs BQo CB v=(do
   let ov<- Aop [v] P_
   let iv<- Aop [v,ov] k
   Abt Ff
   Ba9
   BQh):=by intro _;rfl)
  (hs:AXI Alq e:=by rfl) (hw:AZO Alq e Ι:=by rfl)
  (h1:AYh Alq [AWD BQo]:=by rfl):
  AL_ Alq e (Ro i ti te):=fun z E cx=>
 tU (DS ygj NM (DS ylu dE AyT ycb ha) hs hw h1) fun Dn σ H Bz=>by obtain⟨F,Γ,D2,R,h,kk⟩:=Bz;exact ki (by
  obtain⟨⟨xs,e0⟩,h2⟩:=h1;obtain⟨o,e1,a,vs,Β,g1,g2,g3,r⟩:=AkN;refine⟨BQ,e1,F1,AA,_,R1,h2,fun k A4 F2 H2 kv R2 s2 rk q=> ?_⟩;show XZ
  ·rename_i k' xs' e2;show bP j hj q;obtain⟨o,e3,a',ws,Β,w1,w2,w3,tR⟩:=A7H;rw[e1] at e3;cases e3;subst rk;have hl:=j7 tR;refine⟨a,ws,k',j,Β,Β,w1,DC hl hj,?_⟩
   exact kk.nx _ _ _ _ (R2.wr e2 e1 (z28 (ALN s2) j tR)) kF q
  ·exact om)
#where
section
variable(K:Ω)(F0 H0:Hp)
inductive UpR (t:cu) (E:XW) (σ:St) (H:Hp) (Q:VK):Θ
 | mk:BcF BTu UpR
def upR(t:cu)(E:XW):TE:=AEu UpR
inductive XM (t:cP) (E:XW) (σ:St) (H:Hp) (Q:AOq):Θ
 | mk:BcG (aL K (j9 F0 F') ds vs) XM
def abG(AXe):TA:=AEu XM
#where
def QR(UT)(e:AF)(t:cu):Θ:=AX' upR
def QRA(BTM):Θ:=Ţ PA es abG
section
variable{X:Cx}{F0 H0:Hp}{e:AF}{es:CC}{Υ:AL}{te:cu}
theorem z63{K:Ω}{F:Hp}{a:Ζ}{vs:AQ}(h0:No F0)(h:Awb):nY K A2z a vs:=by
 have e:j9 F0 F a=F a:=zrb (Ll q (APO h0))
 show dA h
 ·left;unfold Rd at h⊢;rw[e];exact h
 show KL h
def XQ(k9):cu:=VO (ANI/\FF AMl)
#where
section
variable{X:Cx}{F0 H0:Hp}{e:AF}{es:CC}{Υ p:AL}{x:Κ}{f:Ζ}{fd:E_}{ps:Ρ}{k:Δ}{sp:d7}{t:cP}{te:cu}
def Jm(m3):cu:=BTh (P d Γ)
#where
def XR{α:CL}(lt:sj):A3O ->α
 | .ret a=>a
 | Apl=>XR lt (k AO')
def Ux{α:CL}(lt:sj)(n:Δ):A3O ->AO
 | .ret _=>Μ
 | Apl=>Φ (i<n)&&(Φ (j<n)&&(Φ AFH&&Ux lt n (k AO')))
theorem ygb(hc:∀i j (C:Ay9),A_ (i<n) (j<n) AFH (C AO' s) (cmp i j C s)):
  ∀(t:A3O) (Q:Os α),Ux lt n t=Μ ->Q (XR lt t) s ->t.kasWp cmp Q s
 | .ret _,_,_,h=>h
 | Apl,Q,ok,h=>by
  unfold Ux at ok;show A4R ok;exact hc i j _ ok.1 ok.2.1 ok.2.2.1 (ygb hc (k AO') Q ok.2.2.2 h)
section
variable{CA:As}{w:AW}{A:BV}{E:eO}{s:AB}
theorem z9r{vs:An}{p:sf}(hp:ALs ASd):ALs (BGU (p.toList.map fun i=>ASe i dy)).size:=C8 hp
#where
theorem zwl(h:gS):BS_ Ϝ (IZ (A0Q (i8 i BE)) (ALV (BhF us.getD)))
 | [],_=> EO
 | i::is,k=>by
  have hi:=k i zY;show APk (h.get (zZ hi));refine .AY ?_ (zwl h BPN);show IE (i8 i BE) (us.getD i dy);show BMe hu;exact ru
theorem zwt(BT')(h:L5):BS_ (i<ME) (On (A0Q (ds.getD i BE)) (A0Q (ASe i BE)))
 | [],_=>C8 aL
 | i::is,k=>by
  have hi:=k i zY;show kG hv rv (yF h (zZ hi));refine rW ?_ (zwt h BPN);show Rep K F (ds.getD i BE) (ASe i BE);show BMe hv;exact rv
def Jo(xs:Cn):Θ:=Agv xs.Pairwise
theorem XS(h:Jo xs)(hij:i<j)(hj:AWS):xs[i]'(Aru hij hj)<xs[j]:=AsS h i j _ hj hij
structure Bel (xs:Cn) (j b:Δ):Θ where
 le:b<=BU
 lo:BLP (k<b) (xs[k]<j)
 hi:BLP (b<=k) (j<=xs[k])
theorem zt6(hr:Akg):∀(f lo hi:Δ),lo<=hi ->Hm (hi<=Acr) (hi - lo<=f) (BLQ (k<lo) (BJa<j)) (BLQ (hi<=k) (j<=BJa)) (Bel wE j (Bmx xs j f lo hi))
 | 0,lo,hi,h1,h2,h3,h4,h5=>by
  show XT lo hi
  exact⟨h2,h4,h5⟩
 | f+1,lo,hi,h1,h2,h3,h4,h5=>by
  unfold Bmx;by_cases hl:lo<hi
  ·show Go hl;have hm1:lo<=vx:=Τ
   have hm2:vx<hi:=Τ
   have hm:vx<Acr:=Τ
   have hg:i8 (vx) j=wE[vx]:=by
    have:vx<xs.size:=CU hm
    simp [Array.getD,Χ]
   dsimp only;rw[hg];by_cases hc:wE[vx]<j
   ·show Go hc;refine zt6 hr f _ hi Η h2 Η (Ap k hk BD) h5
    show L7 k vx
    show tj hc
    ·exact Aru (XS hr (Τ:k< vx) hm) hc
   ·show CS hc;refine zt6 hr f lo _ Η Η Η h4 BMi
    show L7 k vx
    ·subst e;omega
    ·have:=XS hr (Τ:vx<k) hk
     omega
  ·show CS hl;show XT lo hi
   exact⟨h2,h4,h5⟩
theorem z1c(hr:Akg)(j:Δ):Bel wE j BP4:=Ev (zt6 hr _ 0 _ Þ A2 Η (fun k _ h=>Τ) fun k hk h=>by simp at hk;omega)
theorem yl6(h:Bel xs j b)(k:Bel xs j c):b=c:=by
 rcases BGV b c with q | q | q
 ·have hb:b<BU:=zM q k.le;have:=k.lo b hb q;have:=h.hi b hb E2;omega
 ·exact q
 ·have hc:c<BU:=zM q h.le;have:=h.lo c hc q;have:=k.hi c hc E2;omega
theorem yky(hr:Akg)(hn:xs[BPf]?≠Ε j):Jo (SetTable.insertAt xs BP4 j).toList:=by
 rw[SetTable.toList_insertAt];have hb:=z1c hr j;generalize BPf=b at*;have hn' :∀(h:b<Acr),wE[b]≠j:=fun h e=>hn (by rw[<- AsT,tT,e])
 unfold Jo;rw[BGW];show ã hr.take (KE a ha c hc)
 ·rw[ALW];refine⟨A6m,hr.drop⟩;show AEf k hk hc;rw[AGC] at hk;rw[Bmy];have h1:=hb.hi (b+k) Η Η
  show L7 k 0
  ·subst e;have:=hn' Η
   omega
  ·have:=XS hr (Τ:b<b+k) Η
   have:=hb.hi b Η E2
   omega
 ·show AEf k hk ha;rw[oB] at hk;rw[Bmz];have h1:=hb.lo k Η Η
  show ai hc hc
  ·exact h1
  ·show AEf m hm hc;rw[AGC] at hm;rw[Bmy];have:=hb.hi (b+m) Η Η
   omega
theorem z30(hr:Akg)(hi:i<=Acr):ASf xs (Ag3 (0<i) (wE[i - 1]' Η+1) 0)=i:=by
 refine yl6 (z1c hr _) ⟨hi,Ap k hk BD,BMi⟩
 ·rw[ASg Η]
  show L7 k (i - 1)
  ·subst e;exact AOQ
  ·have:=XS hr (Τ:k<i - 1) Η
   omega
 ·split
  ·rename_i h0;have:=XS hr (Τ:i - 1<k) hk
   omega
  ·exact IS
structure GK (led:AO) (t:o5):Θ where
 ris:BJR
 dum:Biy
 led:t.led=led
theorem z7e:ACo (.ASh 0 0 led):=P9 (bS SetTable.fresh Jo) Β
theorem z6r(n:Δ):Jo (Array.range n).toList:=AX Array.toList_range BGY
theorem zgw(h:AXd)(n:Δ):GK led (t.standIn n):=P9 (z6r n) h.led
theorem z93(h:AXd):ACo {t with plain:=AC}:=⟨h.ris,h.dum,h.led⟩
theorem ybw(j:Δ):BGZ #[] j=AC:=C8 BGZ
theorem zs0(BaX){j:Δ}:(BSq ->ASi[ASf ASi j]?≠Ε j)/\t.slot j≠ .dummy:=by
 unfold SetTable.slot;rw[hd,ybw];dsimp only;split
 ·exact⟨AV AIo,AV AIo⟩
 ·show L6;exact⟨E6 Ahi,AV AIo⟩
theorem z1o(BaX){ha:á}{h:Ψ}:∀(f:Δ) (p:SetTable.Probe) {j:Δ} {dm:My Δ},p.dummy=Ι ->Bm1 t ha h f p=Ε (.empty j dm) ->dm=Ι/\BSq
 | 0,p,j,dm,_,e=>AV2
 | f+1,p,j,dm,hp,e=>by
  have adv:(t.advance p).dummy=Ι:=by
   unfold SetTable.advance;split<;>exact hp
  show Uf Bm1;show tI
  ·show L6;cases e;exact ADa hp
  ·show L6;exact Iy q (zs0 hd).2
  ·rename_i i q;show tI
   ·cases e
   ·exact z1o hd f _ adv e
theorem yjc{led:AO}{t:o5}(h:AXd)(es:AAT)(k:Ψ)(x:AE):ACo (layNew t es k x).2.1:=by
 unfold layNew;split
 ·rename_i OP wd q;unfold SetTable.freeSlot at q;show XZ
  ·rename_i j dm e;cases (q);show mB hs (z1o h.dum _ _ Β e);have hn:=(zs0 h.dum).1 hs;dsimp only [BFJ];have hp:ACo (t.put j).1:=⟨yky h.ris hn,by show(B5 (BGZ BGX j=Μ) _ BGX)= #[];rw[h.dum,ybw];rfl,h.led⟩
   unfold SetTable.orStandIn;split
   ·exact hp
   ·exact zgw hp _
  ·cases q
 ·exact zgw h _
theorem z9x(h:AXd)(es:AAT)(n:Δ):ACo (ASj t es n).2.1:=by
 unfold ASj;split
 ·rename_i t' order q;dsimp only;split
  ·unfold SetTable.relaid SetTable.laid at q;cases e:SetTable.layClean (SetTable.sizeAbove n - 1) (es.map (·.1)) with
   | Ι=>rw[e] at q;cases q
   | Ε owner=>
    rw[e] at q;cases (q);refine⟨?_,Β,h.led⟩;have BM:∀l:Cn,((l.filterMap fun j=>(owner.getD j none).map (j, ·)).map (·.1)).Sublist l:=by
     intro l;induction l with
     | DB=>exact List.Sublist.refl _
     | AY a r ih=>
      rw[Abl];cases owner.getD a Ι with
      | Ι=>exact ih.cons _
      | Ε v=>exact ih.cons₂ _
    exact List.Pairwise.sublist (BM _) BGY
  ·exact zgw h _
 ·exact zgw h _
section
variable{CA:As}{w:AW}{κ:CL}[rL](knd:AFW)(kf:AEv)
structure rC (led:AO) (o:Obj) (ks:U1) (es:AAT) (ep:Δ) (t:o5):Θ where
 ex:o.ExactSet
 dat:BbD
 el:AnD Aqr
 fit:t.fits FK=Μ
 tok:AXd
 A9:(AsU Azm).OY ks
def vC(led:AO)(h:AJ)(a:Ζ)(ks:U1):Θ:=∃o es ep t,ϱ/\AEz
def ug(ks:U1)(k:κ):U1:=Agw AlS ks ks k
variable{knd kf}(hkf:A9Z)
include hkf
theorem yjd(el:AnD es):k∈es.map (A6 e (kf e.2))↔∃e∈es,Acs k e.2=Μ:=by
 rw[YO];constructor
 ·show AOF e he;obtain⟨⟨k',hk',_⟩,_⟩:=el e he;exact⟨e,he,AX (hkf k' _ hk') hk'⟩
 ·rintro⟨e,he,hk⟩;exact⟨e,he,hkf k _ hk⟩
variable{A:BV}{E:eO}{s:AB}{a:Ζ}{ks:U1}{led:AO}
theorem ybs{h:AJ}{o:Obj}{es:AAT}{ep:Δ}{t:o5}(hg:ϱ)(hd:BbD)(es' :AAT)(t' :o5):
  GY (AsV a (BGa es' t')).IF Ba_:=by
 have z:=AcL (BGa es' t') hg (JA BZx)
 rwa [BZx] at z
omit hkf in
theorem rC.put(S:AEz)(el:AnD es'.toList)(fit:t'.fits es'.size=Μ)(tok:ACo t')(A9:(es'.toList.map Azm).OY ks'):
  rC knd kf led Ba_ ks' es' (ep+1) t' :=⟨S.ex,Β,el,fit,tok,A9⟩
theorem ylc{k:κ}{x:AE}{Q:Ay9}(hx:Acs k x=Μ)(hsc:x.scannable=Μ)(S:ApV BG ks)(hb:Agz (Pw+1))
  (h:∀b h',Ans h' ->ApV h' (ug ks k) ->Q b UA):LJ (setAddHashed a x AO1):=by
 obtain⟨o,es,ep,t,hg,S⟩:=S;have hsz:A3Q:=ů S.key.length_eq Χ
 have hmem:=yjd hkf S.el (k:=k);refine Aes [x] (IP (BGb a) (BGc hg S.dat S.fit ?_));dsimp only;rw[byScan_of hsc (Τ:Agz FK) S.el]
 refine z6 (IP (eC _) (ARu (IP (setScan a x _ _ _) (wpAny_setScan_of hx hg S.dat S.fit S.el ?_))));cases hr:List.findIdx? (A6 e (Acs k e.2)) Aqr with
 | Ε j=>
  obtain⟨hj,hpj,_⟩:=List.findIdx?_eq_some_iff_getElem.mp hr;have hk:AlS:=S.key.mem_iff.mp (hmem.mpr (DH (yU hj) hpj));refine G0 (G0 ?_);have z:=h AC BG (Heap.SameBut.refl a BG) ⟨o,es,ep,t,hg,by unfold ug;show AOr;exact S⟩
  exact z
 | Ι=>
  have hk:k∉ks:=Q3 (by
   obtain⟨e,he,hp⟩:=hmem.mp (S.key.mem_iff.mpr q);have:=List.findIdx?_eq_none_iff.mp hr e he;show B8 hp;show E3)
  have hperm:=layNew_perm t es AO1 x;have hfits:=layNew_fits t es AO1 x;have Mt:=yjc S.tok es AO1 x;generalize layNew t es AO1 x=lay at hperm hfits Mt⊢;obtain⟨es1,t1,wd,gave⟩:=lay;rw[Bm2] at hperm;show Hc el1 (AnD es1.toList) ((S.el.push hx hsc).perm hperm) key1 ((es1.toList.map Azm).OY (ug ks k)) (by
   unfold ug;show AOi;refine cc hperm.map _ ?_;rw[Rl];refine List.Perm.append S.key ?_;show [kf x].OY [k];rw[hkf k x hx]) sz1 (ASk=FK+1) (ů hperm.length_eq Χ) X3 (D5 ASk) (fits_of_scanBound Η)
  have gw:∀(b:AO) {EJ:AB} {Q' :ì},Q' () EJ ->AVW (BXr b) Q':=
   fun b EJ Q' q=>by
    cases b with
    | Μ=>exact ARu q
    | AC=>exact KI q
  have tail:∀t2:o5,t2.fits ASk=Μ ->ACo t2 ->AUH (do
    BRz
    if W_ (! wd) t2.tooFull then do
      (BXr (ASj t2 es1 A6V).2.2)
      BGd a (ASj t2 es1 A6V).1 (ASj t2 es1 A6V).2.1
      BQt
     else BQt) (AMR (AHU (AYa r added (KW added) (setAddHashedIn a x AO1 99999)) s')):=by
   intro t2 f2 k2;refine LG BRz (Bm4 hg S.dat ?_ X3);have g1:=ybs (hkf:=hkf) hg S.dat es1 t2;have S1:=S.put (ks' :=ug ks k) el1 f2 k2 key1;have sb1:=ASX BG a (BGa es1 t2);split
   ·have hp2:=Ao_ relayAll_perm t2;have hf2:=Ao_ relayAll_fits t2;have ht2:=Ao_ z9x k2;generalize Ao_ ASj t2=rl at hp2 hf2 ht2⊢;obtain⟨es2,t3,gave2⟩:=rl;have sz2:es2.size=ASk:=ů hp2.length_eq Χ
    show AJj gw gave2;refine LG (BGd a es2 t3) (Bm4 g1 Β ?_ Η)
    have S2:=S1.put (ks' :=ug ks k) (el1.perm hp2) hf2 ht2 ((hp2.map _).JY key1);refine G0 (G0 ?_);exact h Μ _ (Bid sb1.trans a) ⟨_,_,_,_,ybs (hkf:=hkf) g1 Β es2 t3,S2⟩
   ·exact G0 (G0 (h Μ _ sb1 ⟨_,_,_,_,g1,S1⟩))
  show AJj gw gave;split
  ·refine z6 ?_;rw[hashByValue_scannable 8 hsc];refine KI ?_;refine tail _ ?_ ?_
   ·split
    ·exact hfits
    ·exact SetTable.fits_plain_off hfits
   ·split
    ·exact Mt
    ·exact z93 Mt
  ·show mI G0;exact tail _ hfits Mt
#where
abbrev nF(AX2):AO:= !(Acu Acv)
abbrev Mu(AX2):Obj:={cls:= AhW,dict:=Ι,AAo:= .set #[] 0 BM1}
def mQ(AoQ)(val:Ae8):M3 U1
 | 0=> []
 | D9=>BV3
theorem ztt (A4n):∀i,So mQ val i<=i
 | 0=>MV
 | D9=>by
  have ih:=ztt val i;show So ug AgS (val i)<=D9;unfold ug;split
  ·omega
  ·show BNV;omega
theorem zo6 (A4n):∀{i},k∈mQ val i↔∃j,j<i/\val j=k
 | 0=>C8 mQ
 | D9=>by
  have ih:=zo6 val (k:=k) (i:=i);have e:k∈mQ val C9↔k∈mQ val i\/k=val i:=by
   show k∈BV3↔_;unfold ug;split
   ·show L6;constructor
    ·exact .A0
    ·rintro(z | Β)
     ·exact z
     ·exact q
   show BPh
  rw[e,ih];constructor
  ·rintro(⟨j,hj,Β⟩ | Β)
   ·exact OC j Τ
   ·exact OC i Τ
  ·show AOF j hj;by_cases q:j=i
   ·subst q;exact .AZ Β
   ·exact .A0 (OC j Τ)
theorem znr (A4n):∀i,(mQ val i).OO
 | 0=>AsX
 | D9=>by
  have ih:=znr val i;show(ug AgS (val i)).OO;unfold ug;split
  ·exact ih
  ·show L6;rw[AGV];refine⟨ih,CY,KE a ha b hb⟩
   rw[AFf] at hb;subst hb;exact AI3 q ha
theorem ye1{CA:As}{w:AW}{κ:CL}[rL]{knd:AFW}{kf:AEv}:rC knd kf ADL AOm [] #[] 0 BM1:=
 ⟨A2Y,Β,fun e he=>(AL3 he),N9,z7e,CY⟩
section
variable{CA:As}{w:AW}{κ:CL}[rL]{knd:AFW}{kf:AEv}(hkf:A9Z)
theorem vC.stay(S:ApV h ks)(e:∀o,ϱ ->ACr TH):ApV h' ks:=by
 obtain⟨o,es,ep,t,hg,S⟩:=S;exact⟨o,es,ep,t,e o hg,S⟩
include hkf
theorem yeh{A:BV}{R:Ay_}{I:Ζ}{fp wr:Bi}{G:DD ſ ſ}{n:Δ}{P:DD Δ AE}{St:Os Δ}
  (W:WalksS CA w oq I fp wr G n P St) {S:Ζ} (hS:S∉fp) {val:Ae8} (hv:Bdb (P i v)) (hb:Agz (n+1)) {led:AO}:
  ∀(j i:Δ) (s:AB),Hm (i+j=n) (St i s) (vC knd kf led BG S AgS) (∀s',Moved (S::wr) G s s' ->vC knd kf led ii S (mQ val n) ->AvE BI s') (BMZ "set.update.loop" (J' [.B0 S,.B0 I]) R):=by
 have hw:S∉wr:=Q3 (hS (W.sub _ q));have grow:N0 wr (b∈S::wr):=fun b q=>zW _ q;intro j;induction j with
 | Tb=>
  intro i s hij st hs hR;show XT i n
  refine Acw Bm5 ?_;rw[AIP BGe];refine IP (ARv ADJ) (W.done s _ _ st (BO s' hm));exact KI (hR s' (hm.mono grow) (hs.stay Bdr))
 | Th j ih=>
  intro i s hij st hs hR;refine AVY Bm5;rw[AIP BGe];refine LG (ARv ADJ) (W.item i s _ _ Η st (GN v s1 hP st1 hm))
  obtain⟨hk,hc⟩:=hv i v hP;have hs1:=hs.stay (h' :=Ab0) Bdr;show ANC (ě [v] (setAdd S v)) (Aes [v]);refine Aes [v] (IP (pyHash v) (knd.pyHash hk ?_));refine ylc hkf (s:={s1 with toks:=ARt+1}) hk hc hs1 (by have:=ztt val i;omega) (KE _ h2 sb S2)
  refine KI (AOG BGe (ih C9 _ Η (W.frame _ s1 h2 _ st1 BkU fun b hb o e=> ?_) S2 (Ap s3 hm3 S3)))
  ·exact I_ sb.2 b (AI3 hS hb) e
  ·refine hR s3 (Moved.trans W.gtrans ((hm.mono grow).then_heap BkU (ACu hb e)) hm3) S3;exact I_ sb.2 b (AI3 hb zY) e
#where
section
variable{CA:As}{w:AW}{A:BV}{E:eO}{s:AB}
theorem zzq(v:AE)(h:Q₁ (BA BH) A_u):
  AIU Ix A (V' BGf) (J' [AhW,v]) (wants Q₁ E) s:=by
 refine BGg ?_;show GG _ oq (BFp BGf (J' [AhW,v])>>=E6 (AKx (.AqZ BGf (J' [AhW,v])))) _ _ s;refine z6 (BGI (PySem.F.newCall_set_1 v) (G0 ⟨Bm6 Bm7 _,AVY PySem.F.entry_set_new⟩));rw[AIP Bm7];unfold Builtin.«set.__new__» Builtin.Frozenset.newClass;have hsub:=Bm8;show nL s
 wp_walk
 refine Bm9 (G0 ?_);exact z6 (wpAny_alloc BVF)
#where
section
variable{CA:As}{w:AW}{κ:CL}[rL]{knd:AFW}{kf:AEv}(hkf:A9Z){A:BV}{E:eO}{s:AB}
include hkf
set_option maxHeartbeats 3200000 in
theorem zqe{l:Ζ}{Nc:KF}{val:Ae8}{Q:eO}(hh:PU)(hl:Ai4 Nc)(hv:Bdb (AG4 Nc))(hb:Agz (Rc+1))
  (h:∀(h' :AJ) (tk:Δ),Bce ->(A2c) ->AeF ci):
  A6_ Pc [Q1]:=by
 obtain⟨c,tl,xB⟩:=PySem.F.called_set.mro;have hmade:=PySem.F.called_set.made;have hsub:=PySem.F.called_set.sub;refine i6 (BGg ?_);show Ó (callAny (SB Pc) _);refine KI ⟨Bm_ _ UM,AVY PySem.F.entry_type_call⟩
 rw[Around.under_plain (weight_type_call_type Pc [Q1] []) Β];have q1:=PySem.F.called_set.notType;have q2:=PySem.F.called_set.canCreate;have q3:=PySem.F.typeCall_set_1 AhA
 show A7o
 refine AcS (zzq (BA l) (E:=E) (Q₁:=BZn A_u) k7) (Ap r EJ hr);cases r with
 | ZI e=>exact hr
 | ok fl=>
  cases fl with
  | ret obj=>
   show ph Β hr;have hS:AmH AOm AOm:=T1;have hT:AsZ A_u ż Pc :=NE hS;have q4:=PySem.F.called_set.init.lookup;have q5:=PySem.F.called_set.init.bind ż
   show A7o
   show Ahs (Asa (R:=wants (p_ KU (r= BI/\∃h' tk,KU=ci/\Bce/\
     A2c)) E) PySem.F.called_set.init.plain PySem.F.entry_set_init (check_set_init_1 hT ?_)) (Ap r₂ KU hr₂)
   ·obtain⟨ol,hol,hcl,nl,hdl⟩:=hl;obtain⟨oc,od,ot,os⟩:=ol;simp only at hcl hdl;subst hcl;subst hdl;have hol' :Ő n_ AOm l (ATo od (.seq Nc nl) os):=z8 _ hol;have q6:=PySem.F.sub_list_set;have q7:=PySem.F.sub_list_frozenset;have q8:To (BDc MZ) (BDc dr):=CD
    have hl1:AuE AOm IsList l Nc:=⟨_,hol',Β,nl,Β⟩;unfold Builtin.«set.__init__» noKeywords Builtin.Frozenset.updateFrom;generalize hPI:AFu=PI
    wp_walk
    subst hPI;refine Acg hl1 (z6 (BGh ?_));have hlS:XY l:=zG hol;have hh3:A.in1.in1.in1.handled=Ι:=C8 hh
    have Uy:AM9 AOm=Ż:=AOD;refine yeh hkf (led:=nF w) ((Walks.list hh3 _ l (Do Uy (AlZ hlS)) Nc).toS) (S:=BH) ?_ hv hb Rc 0 _ (BGi _)
     ⟨iF,hl1.push _⟩ ⟨_,_,_,_,z8 _ hS,ye1⟩ (Ap s' hm hS')
    ·rw[Uy];show AaC;exact⟨Ano,AVw hlS⟩
    ·show A_N;show A_v;show A6y AKS;show A5a;refine Aiw;refine KI ⟨Β,h',tk',Β,hS',AXy⟩;show Aoc;refine AsY b o ?_ (AYA e);rw[Uy];show AaC;exact⟨zK BD,AlZ BD⟩
   ·cases r₂ with
    | ZI e=>exact hr₂
    | ok fl₂=>
     cases fl₂ with
     | ret r=>
      obtain⟨Β,h',tk,Β,hS',hk'⟩:=hr₂
      show A7o
      exact h _ _ hS' hk'
     | _=>exact hr₂.elim
  | _=>exact hr.elim
#where
theorem uh:BLd BGF BGj := Bga BGF
theorem ym3:Agc BGj Builtin.«set_iterator.__next__»:=entryFor_of_tree (by kernel_rfl)
theorem yl9(v:AE):argsOk BGj (J' [v]):=mP
theorem yck:Agc "set.__iter__" Builtin.«frozenset.__iter__»:=Bjl "frozenset.__iter__"
def Dw(h:AJ)(I:Ζ)(fst:AE)(i:Δ)(S:Ζ)(n ep:Δ):Θ:=∃o,AEV I/\AfO ALX /\nk= AGi #[fst,yi i,.B0 S,yi n,yi ep]
theorem Dw.ty{s:AB}{I S:Ζ}{fst:AE}{i n ep:Δ}(x:APr BG):AJn I ALX :=let ⟨o,ho,hc,_⟩:=x;AEX hc
theorem Dw.at(x:APr h)(e:∀o,AEV I ->ACl I):APr h':=A6P e
theorem z3g(hi:Ϝ):(xs[i]::xs.eraseIdx i).OY xs:=by
 rw[List.eraseIdx_eq_take_drop_succ];refine List.perm_middle.symm.trans ?_;rw[<- BIe,Acx]
section
variable{CA:As}{w:AW}{A:BV}{E:eO}{s:AB}
theorem ya6(hn:n≠0)(h:∀i d,i<n ->Q i A7s):LJ (Acy src n):=fun Γ p _=>by
 unfold Acy;rw[Sem.wp_choose];exact⟨hn,h _ _ (BGk _ (Bj4 hn))⟩
theorem zxq(n:Δ):∀(xs:CO) {s:AB} {Q:Os CO},BU=n ->(∀ys d,ys.Perm xs ->Q ys A7s) ->LJ (drawOrder n xs):=by
 induction n with
 | Tb=>
  intro xs s Q hn h;have:xs= []:=BGl hn;show mE;exact KI (h [] AKS IR)
 | Th n ih=>
  intro xs s Q hn h;cases xs with
  | DB=>cases hn
  | AY x xs=>
  refine IP (Acy _ _) (ya6 A2 (Ap i d hi))
  show BKF;refine z6 (ih ((x::xs).eraseIdx i) ?_ fun ys d' hp=>(KI (h _ d' ?_)))
  ·show BKG;omega
  ·refine cc hp.cons _ ?_;exact z3g hi
section
variable{S I:Ζ}{fst:AE}{i n ep:Δ}{o:Obj}{es:AAT}{t:o5}
theorem zzt(hh:PU)(hQ:Ak6 (ASY I h0 h'))(hk:ASY I h0 BG):
  GG Ix oq (BjC>>=fc (Asb e:Sem PySem.Fin)) ATq
   (se e (AHU (do if<- AGP e Aur then BQN else throw e) s')) s:=by
 refine k8;show LM A4_ (A1b (A7' A6c ?_))
 show A9k
 show ANC _ AsM;rw[show AiN by simp [hh]]
 refine AMS G0 (BGJ (α:=_));refine LG (AGP _ _) (Bjc AUn Bms ?_);exact G0 (hQ _ ((hk.push _).Me _))
#where
#where
section
variable{CA:As}{w:AW}{κ:CL}[rL]{knd:AFW}{kf:AEv}{A:BV}{E:eO}{s:AB}{S I:Ζ}{fst:AE}{i n ep:Δ}{o:Obj}{es:AAT}{t:o5}{led:AO}{ks:U1}
theorem Uz(hit:APr BG)(hg:ϸ)(O:AEz)(hn:FK=n)
  (h:GG Ix oq (if let .AK OP _:=fst then do
    match<- setNext S slot.toNat i ep with
    | Ε (x,JP)=>
     Agd ADJ 0 JP
     BSH
     ret x
    | Ι=>BYs;BNI
   else do
    let some places<- BGm fst | BNJ
    match places[i]? with
    | Ε (ft place _)=>
     let x<- BGn S place.toNat ep
     BSH
     ret x
    | Ε _=>BNJ
    | Ι=>Agd ADJ 0 0;BYs;BNI)
   (se D4 (∃r,D4= Av7 r/\Q (Ε r) s'))
   (se e (AHU (do if<- AGP e Aur then BQN else throw e) s')) s):
  AJf I:=by
 show ax oi ho hc hd hit;unfold ARv;refine IP _ (BGQ (AN4 hit.ty uh (ADj uh hit.ty ym3 yl9)));unfold Builtin.«set_iterator.__next__»;show ANC BH4 G0;refine LG (fieldsOf _) (Bm' ho hd ?_);show ACS (setEntries S) BnA hg ASl AGW;rw[UN (AWp hn)]
 refine Y3 h (fun D4 s' hz=>by obtain⟨r,hr,hq⟩:=hz;exact⟨r,hr,KI hq⟩) fun e s' he=>he
theorem zl8(h:Q (Acu Acv) s):LJ BGo:=Ev (BPM (G0 h))
theorem zwc(hbt:BOj)(hg:ϸ)(O:ATW Μ)(hdr:MM AZm)
  (h:Q (match es[BUv]?,ASi[BUv]? with | Ε (_,x),Ε j=>Ε (x,j+1) | _,_=>Ι) s):BaK e0:=by
 refine Bd8;show A8T;rw[hbt,cz,B4 (E9 (by have z' :W_ (! t.plain) BhP:=z;rw[hdr] at z';cases z'))]
 refine LG _ ?_;show Ó (B5 (W_ (! t.led) (! es.isEmpty)) _ (KW PUnit.unit));rw[O.tok.led,B4 A2]
 exact G0 (G0 h)
theorem zx2(hbt:BN')(hg:ϸ)(O:AEz)
  (h:Q (((BGp AZY es)[given]?).B6 (fc (e.2,OP))) s):BaK ep:=by
 show LM Bd8 (Â BGo zl8);rw[hbt,EB,B4 A2]
 refine LG (setWalk S) ?_;show A8';show A8T;rw[hbt,EB];exact BPM BVF
theorem z8y(hg:ϸ)(O:AEz)(hx:IM es p x)(h:Q x.2 s):LJ (BGn S p ep):=by
 show A8';dsimp only;rw[B4 A2,hx]
 exact G0 h
theorem zzv(hg:ϸ)(O:AEz)(h:Q (! BNH &&AZm) s):LJ (setDrawn S):=by
 show A8';show A8T;exact G0 h
theorem ybh(nx:qh):∀(f k:Δ) (l:CO) (out:AAn α),ED=f ->(BGq nx f k l out).toList.Perm (out.toList++l)
 | 0,k,l,out,hl=>by
  unfold BGq;rw[BGl hl];simp
 | f+1,k,l,out,hl=>by
  unfold BGq;have hi:BUs<ED:=BGk _ Η
  show BKF;refine I_ (ybh nx f LH (l.eraseIdx (BUs))) _ (by show BKG;omega) ?_
  rw[Bm2,Ī];exact BnB _ (z3g hi)
theorem zrf(nx:qh)(xs:AAn α):(BGp nx xs).toList.Perm wE:=Ev (ybh nx _ 0 _ #[] A2)
#where
theorem yg6:BLd "__iter__" BGr := Bga "__iter__"
theorem ynt:BKW BGr:=BNA
theorem ynx(v:AE):argsOk BGr (J' [v]):=mP
theorem Dw.Rp(x:APr h)(v:AE):AHX (h.update I (Obj.mapFields (·.setIfInBounds 0 v))) v i:=by
 obtain⟨o,ho,hc,hd⟩:=x;exact BiX (by rw[AcZ hd];simp)
theorem Dw.Rq(x:APr h):AHX (h.update I (Obj.mapFields (·.setIfInBounds 1 (rawInt ((i:Int)+1))))) fst C9:=by
 obtain⟨o,ho,hc,hd⟩:=x;exact A_P
section
variable{CA:As}{w:AW}{κ:CL}[rL]{knd:AFW}{kf:AEv}
structure Steps (CA:As) (w:AW) (A:BV) (I S:Ζ) (n ep:Δ) (o:Obj) (ex:fB) (HU:An) (fst:M3 AE):Θ where
 VW:∀i (s:AB) (Q:Aih) (E:eO),i<n ->Hm (AHX BG (fst i) i) ϸ BL7 (∀v h',AG4 HU ->AHX h' (fst C9) C9 ->ARk I BG h' ->Q (Ε v) UA) (AJf I)
 LU:∀(s:AB) (Q:Aih) (E:eO),Hm (AHX BG (fst n) n) ϸ BL7 (Ak6 (ASY I BG h')) (AJf I)
theorem z55(T:Steps CA w A I S n ep o ex HU fst)(hS:S≠I)(hX:WN ex (Cl≠I)):
  Walks CA w A I (I::S::ex.map (·.1)) [I] n BJ0 (UH h (AHX h (fst i) i/\AEV S/\WN ex (AMp MA))) where
 BM:=BVa
 frame:=fun i h h' st hk=>⟨Ba4,hk S A2 o AhI,WP (hk Cl (by simp only [ą,YO];exact ACq (OC p hp)) p.2 (Ah0 p hp))⟩
 VW:=BfF (ArT i s Q E hi st.1 AhI Ah0 fun v h' hv st' sb=>hQ v h' L' hv ⟨st',I_ sb.2 S hS AhI,WP ((sb.2 Cl (hX p hp)).JY (Ah0 p hp))⟩ (e9 hb e (I_ sb.2 b (AV (AdN z)) e)))
 LU:=fun s Q E st hQ=>ArS s Q E st.1 AhI Ah0 fun h' eb=>hQ h' L' (e9 hb e (eb b o (E9 (AdN z)) e))
 RU:=fun i s Q E st hQ=>by
  refine Asc (st.1).ty yg6 (ADj yg6 (st.1).ty ynt ynx);exact KI ⟨_,Β,ALX,_,(st.1).ty,uh.lookup,hQ⟩
variable{A:BV}{I S:Ζ}{n ep:Δ}{o:Obj}{es:AAT}{t:o5}{ks:U1}
def qI(t:o5)(i:Δ):Δ:=Ag3 (0<i/\BIF) (Bm0[i - 1]' Η+1) 0
theorem zrl(hr:BJR)(hi:BIF):ASf ASi A4q=i:=by
 have:=z30 hr hi;unfold qI;by_cases h0:0<i
 ·rw[ASg ⟨h0,hi⟩];show B8 (ASg h0);exact Χ
 ·rw[dif_neg (E9 (h0 z.1))];show B8 (dif_neg h0);exact Χ
theorem z3q(h:t.fits n=Μ):BGs=n:=by
 show AvB SetTable.fits Ar4
 simpa using FY
theorem yhh(hh:PU)(hbt:BOj)(O:ATW Μ)(hdr:MM AZm):
  A5n [] (es.toList.map (·.2)) (FV (yi A4q)) where
 VW:=BNC (by
  have hl:=z3q AGW;have hb:=Ý BNK Η
  have hp:i<t.place.size:=CU (Τ:i<BGs)
  show LM AqE (Â Ajs Bfv);rw[BZo i i,hb,Azz,Acz hp];show AQp;refine LG Ati (AGH h1 h3 A2 ?_)
  have Ĭ:=hit.Rp (OV BN0);show BBt;show A8X
  refine KI (Oy (hQ _ _ (NA hi) ?_ BSl))
  have e:(BDY (qI t C9) 0)=OV BN0:=by
   unfold qI;rw[ASg AeN]
   simp [OV]
  rw[e];exact hit2.Rq)
 LU:=BM' (by
  have hl:=z3q AGW;have hb:=BNK (i:=FK) Η
  refine Uz hit hg O Β ?_;show ANC Ajs Bfv;rw[BZo FK FK,hb,Ac0 (AQ6 _)];show AQp;show AZp
  exact BCk (Ags extBut))
theorem yk0(hh:PU)(hbt:BN')(O:AEz):
  A5n [] ((pickOrder (w.params.setOrder S ep) es).toList.map (·.2)) (E6 ADi) where
 VW:=BNC (by
  have hp:=(zrf AZY es).Asd;show Ag0 hp;refine AqE;refine LG Ajs (zx2 hbt hg O ?_);have hi' :i< (BGp AZY es).size:=Τ
  rw[Acz hi'];show AQp;show AZp
  have Ĭ:=hit.Rp (OV AOf);show BBt;show A8X
  exact KI (Oy (hQ _ _ (NA hi') hit2.Rq BSl)))
 LU:=BM' (by
  have hp:=(zrf AZY es).Asd;show Ag0 hp;refine Uz hit hg O Β ?_;show ACS Ajs zx2 hbt hg O;rw[Ac0 Η]
  show AQp;show AZp
  exact BCk (Ags extBut))
theorem yk5{led:AO}(hh:PU)(O:AEz){Tp:Ζ}{ot:Obj}{ps:Cn}(hps:Afz ps.Perm FK)(hot:∃m,ot.data= .seq A9X m):
  A5n [(Tp,ot)] BVb (E6 (.B0 Tp)) where
 VW:=fun i s Q E hi hit hg hx hQ=>by
  obtain⟨m,hm⟩:=hot;show U2 hl A6H Ayl hi' Ax7 Τ BD (VA<FK) (o6 (hps.mem_iff.mp (yU hi')));show LM AqE (LG (BGm _) (Aco (hx (Tp,ot) A2) hm ?_))
  dsimp only;have e:EX A9X (.AK (LZ VA) 0):=bS hi' OV
  rw[e];show ACS (BGn _ _ _) (z8y (x:=es[VA])) hg O (Do oz BJH)
  show AQp;show AZp
  exact KI (Oy (hQ _ _ (by simp [hi',BD]) hit.Rq (ASX BG I _)))
 LU:=fun s Q E hit hg hx hQ=>by
  obtain⟨m,hm⟩:=hot;have hl:A6H:=Ayl
  show LM AqE (LG (BGm _) (Aco (hx (Tp,ot) A2) hm ?_))
  dsimp only;have e:A9X[FK]?=Ι:=C8 hl
  rw[e];show AQp;show AZp
  have Ĭ:=hit.Rp (OV 0);show BBt;show A8X
  exact BCk (Ags JY (ASX _ I _)).extBut
#where
section
variable{CA:As}{w:AW}{κ:CL}[rL]{knd:AFW}{kf:AEv}{A:BV}{E:eO}{s:AB}{S:Ζ}{ep:Δ}{o:Obj}{es:AAT}{t:o5}{ks:U1}
structure Laid (knd:AFW) (kf:AEv) (s:AB) (S:Ζ) (o:Obj) (ks:U1) (I:Ζ) (h' :AJ) (n:Δ) (HU:An) (St:AXv) (fp:Bi):Θ where
 wk:BV8 (Walks CA w A' I fp [I] n BJ0 St)
 st:St 0 h'
 len:BGt=n
 lem:n=Pw
 A9:A9y
 mem:∀v∈HU,(∃k,Aen)/\AUD
 new:rS I
 inF:I∈fp
 fpl:kN (b<AR9)
 fpn:kN (b=S\/rS b)
 kep:Ami
 siz:rS AR9
theorem yd5(hg:ϸ)(O:ATW ADL)(hb:AyI)
  (h:∀(I:Ζ) (h' :AJ) d n HU St fp,Laid knd kf s S o ks I h' n HU St fp ->MR I (A_w h')):AjT S:=by
 have hT:AJn S Pc :=Ay6 hg;show Hc hSl (XY S) (zG hg) hlk A3Q Ah4 scn (∀v∈AsU (·.2),(∃k,Aen)/\AUD) (AW' (by
  show sD e he hv;obtain⟨⟨k,hk,_⟩,hs⟩:=O.el e he;exact⟨⟨k,hk⟩,hs⟩)) D4 (∀(h1:AJ) d (HU:An) (ex:fB) (fst:M3 AE),BIi ->(∀b ob,AuN ->ACU ē) ->(Œ ex (AMp ē/\rS Cl)) ->
   A_ (BV8 (Steps CA w A' ALJ S FK ep o ex HU fst)) (Avd FK) A9y BRs (MR ALJ (A_w (h1.push (af ALX #[fst 0,AgG,.B0 S,OV FK,OV ep]))))) (by
  intro h1 d HU ex fst hsz hk hx' hs hl hp hm;have hx:WN ex (AMp ē):=fun p q=>(hx' p q).1;refine h _ _ d FK HU _ _ ⟨fun A' hh=>z55 (hs A' hh) (zK (zM hSl hsz)) (fun p q=>zK (zG (hx p q))),⟨iF,z8 _ (hk S o hg),fun p q=>z8 _ (hx p q)⟩,hl,hlk,hp,hm,hsz,CY,Aiu,Aiu,ALl ob (z8 _ (hk b ob e)),?_⟩
  ·show AxV;simp only [ą,YO] at q;rcases q with Β | Β | ⟨p,hp',Β⟩
   ·exact AOQ
   ·exact ASP (zM hSl hsz)
   ·exact BKh (hx p hp')
  ·simp only [ą,YO] at q;rcases q with Β | Β | ⟨p,hp',Β⟩
   show KL hsz
   ·exact yb
   show KL (hx' p hp').2
  show Dx iq (BnC hsz))
 refine Asc hT BnD (ADj BnD hT yck PySem.F.args_set_iter_1);unfold Builtin.«frozenset.__iter__»;refine LG (Builtin.Frozenset.slot0 _ _) ?_;show ANC BH4 G0;refine KI ?_;refine LG (Builtin.Frozenset.sizeOf S) ?_;refine LG (setEntries S) (BnA hg ASl AGW (G0 ?_));refine LG (setDrawn S) (zzv hg O ?_);cases hbt:BNH with
 | Μ=>
  rw[Ö (MM (! Μ&&AZm)),cz];refine BR4;show BQ6;show A'4;have hp:=zrf AZY es;refine D4 BG AKS ((pickOrder (w.params.setOrder S ep) es).toList.map (·.2)) [] (C5 ADi) E2 (APx) (fun p q=>Axg) (fun A' hh=>yk0 hh hbt O) (EF BGu) ?_ (AW' (scn v ((hp.map _).BGv hv)))
  show r6;exact cc hp.map _ O.key
 | AC=>
  have abH:nF w=Μ:=by unfold nF;rw[hbt];rfl
  cases hdr:AZm with
  | AC=>
   rw[Ö (MM (! AC&&AC)),cz];refine BR4;show BQ6;show A'4;rw[abH] at O;refine D4 BG AKS (es.toList.map (·.2)) [] (ya (yi A4q)) E2 (APx) (fun p q=>Axg) (fun A' hh=>yhh hh hbt O hdr) A2 ?_ scn
   show r6;exact O.key
  | Μ=>
   rw[Ö (W_ (! AC) Μ),EB];refine LG (drawOrder _ _) (zxq FK (AAq FK) A2 (Ap ps d hps))
   have De:A6H:=Ayl
   refine IP (newTuple _) (BGN ?_ (by show ACN De;exact hb))
   have hgt:Af_ BVz S=Ε o:=z8 _ hg;show ACS (setEpoch S) BnE hgt ASl AGW;show A'4;have hpm:(Nd fun p=>Awp).OY (es.toList.map (·.2)):=by
    refine cc hps.map _ ?_;have:AJP FK (A6 p Awp)=AsU (·.2):=by
     show mM
     ·simp
     ·show AFG;have:AuH:=CU h1
      simp [Χ]
    rw[Χ]
   refine D4 _ d BVb [(BH,BVz)] (C5 AHA) (BHh Af0) (ALl ob pz) (XB p q) (fun A' hh=>yk5 hh O hps FG) (NA De) ?_ (AW' (scn v (hpm.mem_iff.mp hv)))
   ·obtain Β:p=_:=CU q
    exact⟨T1,MV⟩
   ·refine cc hpm.map kf ?_;rw[ZU];exact O.key
abbrev kJ:Obj:=AUf
theorem zpy(hh:PU)(hg:ϸ)(O:ATW ADL)(hb:AyI)
  (h:∀(HU:An) (h' :AJ) d tk,Hm A9y BRs BNa Ami (Q HU Bfe)):
  AL0 Ac1 S:=by
 have hSl:XY S:=zG hg;refine BTH (Acw BnF ?_);show bv (AIP BnG) BWU (KI (AOG BGw BJ3));show BKd;show LP hg1 (Af_ kJ S=Ε o) (z8 _ hg) hT1 (AsZ (AT2 kJ) (BA S) Pc) (Ay6 hg1) (A9Q hT1);have n1:Ase ż (BA S)=AC:=bS Ase (AVw hSl)
 show bv (UN (AVP n1)) (LG (AFu _) (yd5 hg1 O hb fun I h1 d n HU St fp L=> ?_)) (Â (ě _ _) AlM);show LP hg2 (ē S=Ε o) (L.kep S o hg1) hT2 (AsZ (A_w h1) (BA S) Pc) (Ay6 hg2) (A9S PySem.F.slot_set_len.lookup);dsimp only;rw[AyV (Azh "set.__len__" Pc "__len__")]
 refine Au6 AGP BGR Bm8;rw[B4 AD,CH UM]
 refine A9Q hT2;refine Aiw;show Go UM
 refine Â (eC _) ARu;have hS1:ē BH=Ε kJ:=L.kep _ _ AnX;have hNI:BH≠I:=zK (zM (BHh AOQ) L.new)
 show LM (LG (Builtin.List.listTouch _) ?_) (LG (updateSeq _ _) (BGx hS1 Β ?_));have hS2:=AI2 (Obj.mapSeq (·.push Value.none)) hS1;refine BGx hS2 Β ?_;have hS3:=AI2 (Obj.mapSeq (·.pop)) hS2;show U2 oth (∀b ob,Af6 ->ACU ē ->ACU ((h1.update s.heap.objs.size (Obj.mapSeq (·.push Value.none))).update s.heap.objs.size (Obj.mapSeq (·.pop))).IF) (fun b ob q e=>AYQ q (AYQ q e)) hNf (Bjw fp) (Q3 (by
  show OH (L.fpn _ q)
  ·exact WG z AKu hSl
  ·have z' :AM9 kJ<=BH:=z;rw[iq] at z';exact WG z' Nat.not_succ_le_self _)) Jp (D5 n) (by
  have e1:=L.lem;have e2:FK=Pw:=Ah4
  omega)
 have W:=L.wk oq Ay3
 refine KI (AOG BnH (BnI W.toS Jp _ hNf _ n 0 _ _ _ Β Þ (W.frame 0 h1 _ L.st fun b q ob e=>oth b ob (E9 (hNf (z ▸ q))) e) hS3 BkV Bey));show LM (IP (load _) (ArO hS' ?_)) Aiw;have ev:Asf=HU:=by
  apply BnJ;intro i;show KK (i<n)
  ·have hi:i<Ac2:=AGr AVx
   have:=ĩ.2 i A3[i] BKf;rw[AsT,Azz,Χ]
  ·exact cc ALH (by rw[Ĝ,AVx];omega) (UX ALH (AHQ L.len))
 rw[ev];show A_N;show A_v;show A6y d;show A5a;refine h HU h' d' tk' L.key L.mem (zG hS') (K_ ob e);show Aoc;have hbN:Af6:=zK BD;refine AsY b ob ?_ (oth b ob hbN (L.kep b ob fh));show AaC;exact⟨hbN,AV (hbN (by
  subst z;have z2:AM9 kJ<=b:=L.new;rw[iq] at z2;exact WG BD Nat.not_lt_of_ge (AsI z2)))⟩
#where
def GP:AG' Ψ | AYr=>i | _=>0
theorem yj0:∀k v,AVm Ac3 k v=Μ ->GP v=k:=fun k v h=>by
 show SC (BDZ h)
 rfl
theorem ya4:N4 vs An (BRr Ac3) (Arx vs (Arb GP))
 | [],_=> EO
 | AEp,h=>by
  obtain⟨⟨k,hk⟩,_⟩:=Anz;show DE t Β BDZ hk;exact Qb _ _ (ya4 fun u hu=>BQA)
theorem ym8(hob:fN (qr xs n)):∃e,GY Bdg (qr out e):=by
 have hal:a<MB:=zG hob;have h1:=BnK hob Ae5;have h2:BVI (Adx AsV a (E6 #[]) Me) (qr #[] _):=z8 _ (z8 _ h1);exact BOL h2 out
theorem yha(hb:r_)(hne:QQ):Kx Bdg:=by
 have h1:Kx (Adx AsV a (E6 (#[]:KF)) IF):=cc Ajt hne hb;exact cc Ajt hne (AYA h1)
section
variable{CA:As}{w:AW}{A:BV}{E:eO}{s:AB}{S:Ζ}{ks:BS}
theorem z4d(hh:PU)(hS:vC (Ac3 CA w) GP ADL BG S ks)(h64:Pw<64)
  (h:∀(l:Ζ) (h' :AJ) d tk (out:An) (ms:BS) e,Aja ->Arx out ms ->Hm (ASV ks) BLU (BQJ out.toArray) Ami (MR l Bfe)):
  LJ (A1d (ADb S)):=by
 obtain⟨o,es,ep,t,hg,O⟩:=hS;show LP hlk A3Q Ah4 ABO AWo CD Bee;unfold Builtin.«sorted»;refine Â (checkCount S_ 1 1 _) G0;refine IP (Ac1 _) (zpy Ay3 hg O Η Bfb)
 have Jp:Avd Pw:=CU hk.length_eq
 refine IP (newList _) (BnM ?_ Η)
 have hoL:Ő h1.push (qr BnN 0) ALJ (qr BnN 0):=T1;have hI:=ya4 hm;refine IP (ě _ _) (AlM (Ba3 (list_sort_tree (ns:=vals.map GP) hoL hI Η fun out ms a1 a2 a3=>AEb)))
 refine KI AEb;show DE e he (ym8 (vs:=HU) (out:=out)) hoL;have hle:BIi:=ĕ BD;refine h ALJ _ d tk out.toList ms e hle a1 (a2.trans hk) a3 (Do BnO he) (K_ ob eb)
 have e1:=OZ b ob eb;exact yha AzS (zK (zG e1))
#where
def Jq(P:As)(w:AW)(a:Ζ)(ns:BS):HO:= Al9 (vC (Ac3 P w) GP ADL h a (mQ AXD IG))
theorem ygh(I:AS)(d):İ A7s:=A3L nr
inductive O5 (AaK):Θ
 | mk:∀(p:Ζ) (ns:BS),Hm (vs= [UP]) (nY AG H p ACG) (IG+1<AsW) (AfV q q q q A5N) (AMg O5)
def X4(X:Cx):u_:=AX8 O5
inductive O6 (AaK):Θ
 | mk:∀(q:Ζ) (ns:BS),A_ (vs= ADb q) (UB q A5N) (So mQ AXD IG<64) (∀(l:Addr) (ms:List Int),H l=none ->ms.Perm (mQ (fun i=>ns.getD i 0) ns.length) ->ms.Pairwise (· <= ·) ->Q (.ref l) (upd H l (.lst (ms.map .int)))) (AMg O6)
def abI(X:Cx):u_:=AX8 O6
theorem yfc(AFI):ADP Pc (X4 X):=by
 rintro Ν s σ H xs us Q I r ⟨p,ns,e0,hq,hb,k⟩;subst e0;show Su;cases rx;show A5Y pl;show A3Z;show AJw;have hI:=zth rv;show BbR
 refine zqe (κ:=Ψ) (knd:=Ac3 FH X.w) (kf:=GP) yj0 (val:=FV ACe) c9 ZN BTC BOV BY6
 ·show SC (IntsAre.int_at hI i v (EF hv))
  exact⟨intKind_is _ _ _ _,Β⟩
 ·rw[hsz] at hS;have I2:KM BH BLR ci:=
   vc APy OZ E2 BLR ⟨hS,Aup o hS (rV e),Bcs⟩
  exact AKD I2 k
theorem yde(AFI):Ř S_ (abI X):=by
 rintro Ν s σ H xs us Q I r ⟨q,ns,e0,hq,h64,k⟩;subst e0;show Su;cases rx;obtain⟨hS,_,_⟩:=À q hq;refine z4d c9 hS h64 fun l h' d tk out ms e hle a1 a2 a3 hl OZ=> ?_;have GH:D5 (C7 oy V.int):=by
  show ACN a2.length_eq;have:AWo:=CD
  omega
 have I2:KM l BN1 ci:=
  vc APy OZ hle BN1 ⟨GH,out,e,WM a1,hl⟩
 exact LL Q1 (ygh I2 d) (k l ms (Afx hle) a2 a3)
def z7y:UO:=AIW (∃ns,AmT/\IG<63/\∀ms:BS,Agv Acn ->(A5r ns) ->AVQ ft)
theorem z21:AVg Pc Pc:=Ù
section
variable{X:Cx}{F0 H0:Hp}{a e:AF}{Υ p pE p2:AL}{t:cP}
theorem yi5(ns:BS)(k:Ψ):k∈mQ AXD IG↔k∈ns:=by
 rw[zo6];constructor
 ·show AOF j hj;show Agx AWt;exact yU hj
 ·intro h;show bi j hj BkE;exact⟨j,hj,by show ox j 0=k;rw[OX,AWt];exact e⟩
theorem yig(BeY):
  Bbd z7y:=fun z E cx=>by
 have inner:PE K2 AwQ (Ud (X4 (ħ z)) (AS5 Ol)):=DS Wu (yfc hc) hg2 hm2 z21 F6 AD AD he Β
 refine BgB yde
 show NO Bz;refine a_ ?_;unfold z7y at h1;show g_
 ·show AZ5;obtain⟨ns,hns,BD,h1⟩:=h1;show A5I;refine⟨l,ns,Β,ANo,BkR,Aj0⟩
  have hml:=ztt AXD IG;refine⟨q,ns,Β,iD,Τ,GN l2 ms hl2 hp hs⟩
  have R2:AS9 (jn q A5N):=AGJ (vy (Í (AIM IL hq0) (UY IL)) (Í (aw hq0) e))
  obtain⟨R3,q1,q2,q3,ap⟩:=Iz R2 hl2 (zk8 (K:=AG) (F:=F1) ms);refine k _ AA F1 _ l2 _ R3 s1 q1 q2 q3 (zk8 ms) ap (h1 ms ?_ (FV (BnP (yi5 ns i))));have nd:ms.Nodup:=BnQ (znr _ _);have:=List.Pairwise.and hs nd;exact this.imp fun{a b} hz=>by obtain⟨q1,q2⟩:=hz;omega
 ·exact xA
#where
def Itv(K:Ω)(a:Ζ)(xs:AQ):It:=⟨Ş (ų/\Ϝ),fun i H x H' =>H' =H/\xh AR_,fun i _=>AVR⟩
theorem yer(AZo)(a it:Ζ)(xs:AQ):AY9 BMk (AW9/\h.IsRevIter it a (AIp - 1 - Lu)) where
 mem:=CY
 obj:=AQE (by
  show APV
  obtain⟨_,o,e,c,d⟩:=st;exact AXU)
 KS:=AfY (A9f st.1 (Afg it))
 VW:=by
  show m4;show VS;show AZe;show A5Y p;show A3Z;show ă
  have hj:An6<BU:=Τ
  show APk (ARz (zZ hj));have hit:=st.2;rw[AUK (AIp - 1 - Lu) An6] at hit
  refine wpAny_pyNext_rev_item hit AFw (x:=u) Ahj (gf xC sb)
  have I1:AOY:=AoD;show ax o e c d xC;refine⟨u,Β,Wl (s:=UA) e c d AD ⟨xs[An6],H,I1,ru,AOt,D_ hx,ANh hf⟩⟩
  ·rw[BnR hx,AWt]
  ·rw[NG (EZ An6 - 1) (AIp - 1 - Ayc)] at xC
   exact xC
 LU:=by
  show m4;show VS;show ă
  have hle:AVR:=hg;have hit:=st.2;rw[show AIp - 1 - Lu= -1 by have:=st.1;omega] at hit
  exact wpAny_pyNext_rev_end c9 hit AZs
 RU:=AuT (BGy st.2 h)
theorem zl9:AVg Yf Yf:=Ù
def X5(A4U):TI:=Bd4 BMk
theorem ync{X:Cx}{a tg:AF}(BBn)(hg:Gl X Yf)(hm:O0 Yf)(ha:AJv [a])(AjV):
  ϔ (AVX Yf) (X5 AG ta):=by
 show ϩ;refine Call_ (ϐ zl9 A5h);show AX7;show A'p;show Azl;cases rx;show BL';show AXS;refine BnS ZN ?_;have hit:(AA_ A'0).IsRevIter ES l (AIp - 1 - AOf):=Nw _ T1 (by show Data.fields _=_;show AfX;simp [OV])
 refine BGy hit ⟨ES,AuF,_,_,H1,Β,AJy,yer l _ xs,⟨IS,hit⟩,NL,q hz⟩;show APW
 exact AQc
def zm9(k9):cP:=VO (ABr ATM BHr)
theorem yh4(BgE):AYD (Itv K a vs) AR_:=by
 have hl:=Sc;refine⟨BJC,AaM (AYX (by show Ay';rw[e,AGX];omega))⟩
 show kG hv rv (yF (zpf rs) hd);have hi:i<Kb:=ACQ (SW hv) AGX
 show Db ⟨AYt,hi⟩ AmO;show mB z z;rw[hv] at z;cases z;exact Aip F2 s3 A0t
section
variable{X:Cx}{F0 H0:Hp}{a e tg:AF}{Υ p pE p2:AL}{t:cP}
theorem zzb(hc:FX)(hg:Gl X Yf)(hm:O0 Yf)(ha:ANl)(AjV):
  AMV QI (AVX Yf) (zm9 t):=BZb ync (by
  unfold zm9 at*;show g_
  ·show AZ5;exact BaJ yh4
  ·exact xA)
#where
theorem z8p:AwB (SB Asg) "__len__" Ι:=Aw6
theorem ycx:AwB (SB Asg) BnT (Ch (V' BnU)):=Aw6
section
variable{CA:As}{w:AW}{A:BV}{E:eO}{s:AB}
abbrev pP:Obj:=AS' #[]
theorem z01(hh:PU)(hit:s.heap.IsRevIter I l (AhD - 1))(hl:Ai4 Nc)(hz:AyG)
  (h:∀h' c tk,(Alj (b≠I)) ->AwZ BEM c ->AeF ci):
  A6_ MZ (ADb I):=by
 have hIl:XY I:=BKE hit
 show LP hll (XY l) (BKE hl) hne (l≠I) (by
  obtain⟨o,e,c,_⟩:=hit;obtain⟨o',e',c',_⟩:=hl;rintro Β;rw[e] at e';cases e';rw[c] at c';exact tq Value.type.inj c' AD) (callType_codes (Q₁:=BZn (AT2 pP)) PySem.F.called_list (PySem.F.typeCall_list_1 _) PySem.F.entry_list_init (code_list_new _ k7) (Ap obj EJ ZT));show ph Β ZT;have hS:AmH pP pP:=T1;refine PR (NE hS) (PySem.F.args_list_init_2 _ _);show LM (LG (Builtin.List.listItems _) (BnV hS Β ?_)) (IP (Builtin.List.listUpdate _ _) (BGz hS Β ?_ Þ Þ));have hS2:=AI2 (AGD Ae5) hS;refine Â (letGo _) BGM;show U2 oth (ay Af6 (Kx (Af_ pP)) (Kx (A'P IF))) (e9 q e (AYQ q e)) Ĭ (A'P IsRevIter I l (AhD - 1)) (ACf hit.at (oth I o (zK hIl) fh)) hl2 (A'P IsList l Nc) (ACf hl.at (oth l o (zK hll) fh));generalize BiE BH (AGD Ae5)=h2 at*;have hT2:AsZ (Zl h2) ADJ Asg :=BGG;refine A9Q hT2;have n1:Ase ż ADJ=AC:=bS Ase (AVw hIl)
 show bv (UN (AVP n1)) (IP (AFu _) (BGy Ĭ ?_)) (Â (ě _ _) AlM);show LM (A9S z8p) (A9S ycx);dsimp only;rw[AyV (Azh BnU Asg BnT)]
 refine Au6 AGP (BGR (b:=Μ)) Bi'
 rw[B4 AD,CH UM]
 show CS UM
 refine Aiw;show CS UM
 have hSf:Bjw [I,l]:=by
  show AaC;exact⟨AVw hIl,AVw hll⟩
 have W:=Walks.listRev (CA:=CA) (w:=w) (A:=A.in1.in1) Ay3 I l hne Nc
 refine KI (AOG BnH (BnI W.toS hz _ hSf _ Rc 0 _ _ _ Β Þ ⟨IS,AX (NG (AhD - 1 - AOf) (AhD - 1)) Ĭ,hl2⟩ hS2 BkV Bey))
 have ev:A3=BEM:=by
  apply Array.ext_getElem?;intro i;show KK (i<Rc)
  ·have hi:i<Ac2:=AGr AVx
   have:=ĩ.2 i A3[i] BKf;rw[Azz,Array.getElem?_reverse q,Χ]
  ·rw[Ac0 (by rw[AVx];omega),Ac0 (by simp;omega)]
 subst ev;show A_N;show A_v;show A6y AKS;show A5a;show Db Β (h h' c' tk' (ŏ ?_) hS');show Aoc;exact AsY b o (by show AaC;exact⟨zK BD,hb⟩) (oth b o (zK BD) fh)
#where
theorem yjx(hc:FX)(hg:Ai5)(hm:Aiq)(hg2:Gl X Yf)(hm2:O0 Yf)(ha:AJv [a])(BQ7)
  (BSX):
  PE X BYH (O_ ta vs (∃l xs,vs= [Q1]/\nY AG H1 l xs/\Ba1 Ax1)):=by
 show HP;refine Apm (ϐ hb)
 refine AyK ?_ he2;show A7Z (Apm (Ii I hg2 hm2 zl9))
 refine AyK (AMs (Atr pE)) he;show AX7;show A'p;show Azl;cases rx;obtain⟨AU,rv,pl,hz⟩:=Ar_ hq;show A3Z;show LM (BnS ZN ?_) Aik;have I2:AIy (AGd s1 (AA_ (revObj l (AUj - 1))) ARt):=ArL y_;refine z01 (I:=ES) (Nc:=RS) (I2.ok.hd hc) iF (pl.isList.push _) Ajp (GN h' c tk OZ hS)
 have Uy:Avq A'0=qA:=AOD;have kp:ņ ASc ACV:=NC (OZ b o AY5 fh);have I3:BSs (jn (Avq A'0) Ax1):=
  vc (AK2 (t' :=tk)) kp BLq Ax1 ⟨BJC,its.reverse,c,rv.reverse,AWp hS⟩
 exact LL (.B0 _) I3 (q _ (AR0 BLq))
def ycj:UO:=AIW (P AR_)
theorem ybx(hc:FX)(hg:Ai5)(hm:Aiq)(hg2:Gl X Yf)(hm2:O0 Yf)(ha:ANl)
  (BSX):
  AVe BYH ycj:=fun z E cx=>by
 refine pB (DS yjx hc hg hm hg2 hm2 F6 UM he he2) (KE σ H Q Al)
 show NO Al;refine a_ ?_;unfold ycj at h1;show g_
 ·show AZ5;refine⟨l,us,Β,ANo,Aj0⟩;obtain⟨R2,q1,q2,q3,ap⟩:=Iz R1 hq0 (zpf rs);exact BYl (zpf rs)
 ·exact xA
theorem zks{K:Ω}(RU:AE):N4 l An (BOr l) (refuseLoop RU AbR l=KW ())
 | [],e=>AV2
 | v::r,e=>by
  rcases Bool.or_eq_true_iff.mp e with q | q
  ·rw[AFz q];exact PySem.F.store_ValueError.passes RU
  ·show XZ
   ·show XZ
    ·show Bhu Ar4 q;rw[BnW];exact zks RU q.2
    ·cases q
   ·cases q
structure iY (AEx):Θ where
 cls:ò
 g:Jc K C
 sa:A9L
 hd:Akm
section
variable{CA:As}{w:AW}{A:BV}{E:eO}{K:Ω}{h:AJ}{g:ſ}{d:ARg}{t:Δ}{os:AAc}{x C:Ζ}{o:Obj}{D3:Κ}{v:AE}
theorem z9d{Q:ì}(X:Sn)(c:ANn)(hn:A0z)(hx:A1M)(hc:AkH)(hnc:A6u)(hd:AiM)
  (hq:∀h' tk',h'.Ns1 MB (A'A Ι) ->AyU (Aey MB) ->(AN2 x MA) ->BRq):
  APZ A9O:=by
 have SF:=BnX;have J:A5e Ι:=⟨hx,hc,hnc,by rw[hd];trivial⟩
 refine BcU;obtain⟨bm,N,nm,qn,bs,P1,sn,BM,ab,col,dd,k0,k1,k2,k3,k5,e1,T,ht,cd,hcd,xB⟩:=HB X c.cls;have BM:AVl (AGP km BHm) Μ:=BZ1;refine Asa BnY SF.entry (Bjt Ix _ _ ATK Aqj Aaa AbR km BQK [] _ SF.kind SF.split BM BRT ?_);show BgX;rw[hd'];show t7
 show CS (NA typeHasDict)
 have MY:GG Ix oq (alloc ky>>=fun d=>(update x fun o=>(Aey d))>>=E6 (dictMade LA x d)) (xl s' (∃dx,a=Ε dx/\BgD)) ATq ATK:=by
  have hx₁:Fr (wq ky).IF ⟨HE,Ι,oda,osl⟩:=z8 _ hx;have hxs:x≠MB:=zK (zG hx);show LM (z6 (wpAny_alloc' (z6 (wpAny_update' hx₁ ?_)))) (z7 AEb);show LP hgd ((BU3 x BJ4).IF MB=Ε ky) ((Ajt (ABu hxs)).JY (Heap.get?_push_at Β Β)) hnd ((BU3 x BJ4).Ns MB (C5 Ι)) ⟨_,#[],_,hgd,Β,fun e he=>(AL8 he),AWB⟩ (z6 (z7 (BPj (Bls hnd))));show BUe Within.nil;show A'J BVj
  have hx' :AyU ⟨HE,Ε MB,oda,osl⟩:=by
   refine I_ hs.2 x hxs (BkY hx₁ ?_);have hfr:=(Heap.get?_some_iff.mp hx).2;cases oda<;>first | rfl | exact hfr
  refine KI (Hb (hq h' _ ?_ hx' fun b ob hbx hb=> ?_))
  ·exact hn'
  ·exact I_ hs.2 b (zK (zG hb)) ((Ajt hbx).JY (z8 _ hb))
 have D4:∀a s',(∃dx,a=Ε dx/\BgD) ->GG Ix oq (AYa a d (BnZ d (Value.str D3 t) D3 v) (Builtin.ObjectAttr.noDictFor (TD x) BNk D3 AC)) (se D4 (match D4 with
     | Fin.done f=>
      match Ash f with
      | BU7=>AMa
      | Ash a=>D8
      | BHf=>E e s'
     | Fin.again c' =>
      c'.quiet=Μ/\
       AKz Ix A c'
        (AMR (match r with
         | BU7=>AMa
         | Ash a=>D8
         | BHf=>E e s'))
        s')) (se e (E e s')) s' :=by
  rintro a s' ⟨dx,Β,z⟩;exact Y3 z (fun f s2 hz=>by show ADY e hz;subst e;exact q) Auy
 cases oda with
 | cls c=>cases hnc
 | _=>exact Y3 MY D4 Auy
#where
section
variable{CA:As}{w:AW}{A:BV}{E:eO}{K:Ω}{h:AJ}{g:ſ}{d:ARg}{t:Δ}{os:AAc}{x C dx:Ζ}{o:Obj}{D3:Κ}{v:AE}{mA:DU}
theorem yk6(X:Sn)(c:ANn)(hn:A0z)(hx:A1M)(hc:AkH)(hnc:A6u)(hd:BKD)(hA:Aon)(hv:BRk)(hv' :AyW v)
  (hq:Q v ATK):APZ (Ab_ km D3 expr):=by
 show DT od ho hl zx6 hA;show U2 J (A5e (Ch od)) (Bb5 ho) LF (AVl (Builtin.ObjectAttr.find km LA D3) (.EV v)) (W.looks_find X J (Blp c.hd hn Β (Ź hl hv))) L0 (AVl (Arm (BA x)) LA) J.type;have L1:=A9b X c.g.ga;have L2' :=A9b X c.g.gn;have b3:=PySem.F.excAttr_ValueError.ga.bind km;unfold Ab_ getAttrBy;refine z6 (wpAny_mkText (ĝ (z6 (L0.at (z6 (L1.at ?_))))));have hx2:MM (BG0 (TD C)&&BKZ ==BKa):=HH (AyV (To BKZ BKa)) Aci
 show Bi3 hx2;unfold getAttrByItsOwn hookBefore callGetattribute;simp only [Ö (BG0 BNk=Μ),oC];refine xp L2'.at;simp only [Ö (BG0 (BG1 AFj)=AC),Aci,Acj,AK8];unfold boundAndCalled;refine Ah2 (ĝ (z6 (BGI b3 ?_)));show BQO PySem.F.excAttr_ValueError.ga.plain F.entry_bexc_ga (zu0 X c.g hx hc ?_);unfold Builtin.«object.__getattribute__»;show mI G0;show mI G0;refine z6 (L0.at (z6 (LF.at ?_)));exact G0 (W.handed_on hv' hq)
theorem z98{f:Ζ}{F_:An}{Q:Os Fin}(X:Sn)(hC:ò)(hi:AIZ)(hf:AZ7)
  (hq:GG Ix A (AlF AOK F_) (Aj8 (Q (.LU (.ret (BA AOK))) s')) E
   BdJ) (hrest:AyJ):
  APZ (Builtin.«type.__call__» (J' (HE::F_))):=by
 obtain⟨bm,N,nm,qn,bs,P1,sn,BM,ab,col,dd,k0,k1,k2,k3,k5,hC,T,ht,cd,hcd,xB⟩:=AJx;have Fv:=BFX
 repeat (first | show ADV hC | with_reducible refine wpAny_madeBy_exc hC ?_ | wp_step)
 refine codeAny_call_builtin_code (Bkh Fv.quiet) (wpAny_check_new_subU Fv Fv.hasB T hC ?_);refine codeAny_exc_new_subU Fv Fv.hasB Fv T hC ?_ hrest;have X1:Ĕ ((wq AVS).Me AVa):=X.keeps (NC (z8 _ fh));have hC₁:=z8 AVa
  (z8 AVS hC)
 have hget:Ő (wq AVS).Me AVa AOK AVa:=by heap_get
 have hcC:AZw LA=Μ:=CY
 have LI:=A9b X1 hi
 repeat (first | show ADV hget | show AgW hC₁ hcC | wp_step)
 refine LI.at ?_;refine ĝ (z6 ?_);refine(W.bind_fn X1 (BA AOK) hf).at ?_;refine mi hq (Ap r s' hr) (Ll z z);show mB hQ hr
 wp_walk
 exact hQ
theorem z3d{f:Ζ}{F_:An}{Q:eO}(X:Sn)(hC:ò)(hi:AIZ)(hf:AZ7)
  (hq:GG Ix (AYf (J' (HE::F_))) (AlF AOK F_) (Aj8 (MR AOK s')) E
   BdJ) (hrest:AyJ):
  APZ (ğ LA F_):=by
 obtain⟨bm,N,nm,qn,bs,P1,sn,BM,ab,col,dd,k0,k1,k2,k3,k5,hC',T,ht,cd,hcd,xB⟩:=AJx;have f1:=tc_lookup;have f2:=tc_bind LA;have hT:(AMH:AB).TypeIs LA AqX :=NE hC';refine i6 (BGg ?_)
 repeat (any_goals (first | assumption | show ADV hC' | wp_step))
 show F8 Β;exact codeAny_call_builtin_at (Bkh UM) entry_typeCall (wpAny_check_type_call_sub hC' (z98 X hC hi hf hq hrest))
theorem ybq{t0:Ζ}{od:OB}{sl:ADm}{F_:An}{Q:eO}(X:Sn)(hC:ò)(hx:Fr MA (AUz t0 sl))(hrest:AyJ)
  (hq:ACw (AN2 x MA) (AyU (AUz MB sl)) (Q BI (ABl h' t))):
  APZ (ANA BDL (.B0 x::F_)):=by
 obtain⟨bm,N,nm,qn,bs,P1,sn,BM,ab,col,dd,k0,k1,k2,k3,k5,hC,T,ht,cd,hcd,xB⟩:=AJx;have Fv:=BFX;show BQO Fv.init.plain Fv.initEntry (wpAny_check_init_subU Fv T hC hx Β ?_);have hx1:Fr (wq AVS).IF (AUz t0 sl):=z8 _ hx
 wp_walk
 refine hq _ (xy u e ?_) ?_
 show Dx AnR pz
 ·rw[AI2 _ hx1]
  rfl
theorem z79(hC:ò)(hh:PU)
  (hm:GG M A m (UC EJ (∃e oe fv,BXH (ApT (E (BA e) EJ)))) E s):Ç (raiseStmt BN (Ch m) Ι):=by
 refine mi hm (AZT v) nK;obtain⟨e,oe,fv,Β,X,he,hc,hda,hE⟩:=ZT;obtain⟨bm,N,nm,qn,bs,P1,sn,BM,ab,col,dd,k0,k1,k2,k3,k5,hC,T,ht,cd,hcd,xB⟩:=AJx;have hcB:AZw AiG=Μ:=BT9
 show nL EJ;show Aw8 oe;subst hc hda
 show Bdc
 exact wpAny_raiseNew_none hh hE
theorem yaz(BgM){ER:CC}{Q:Aig}(hC:ò)(hh:PU)(AK_:BOw)
  (hi:AIZ) (hf:AZ7)
  (h:AoL AgC fv (fv= HE/\AVW (evalArgs LA Μ Awc []) (xl KU (a.kw= []/\D5 a.pos.length/\BIZ/\
    GG Ix (AYf (J' (HE::a.pos))) (AlF ANb a.pos) (Aj8 (∃oe fv,BIY/\BU1/\ApT (E (BA ANb) s'))) E
     (BVV a.pos.toArray BIh))))):
  BX0 Ι:=by
 show bv Bna (Bkf (z79 hC hh ?_)) (mi (Bnb (ADZ h (AZT fv) nK)) BUL nK);show mB ZT ZT;refine ANg (ADZ ZT (fun a KU i3=>AzD) nK);obtain⟨IJ,akw⟩:=a;obtain⟨hkw,GH,X,i3⟩:=i3;obtain Β:akw= []:=hkw;show nL KU;obtain⟨bm,N,nm,qn,bs,P1,sn,BM,ab,col,dd,k0,k1,k2,k3,k5,hC',T,ht,cd,hcd,xB⟩:=AJx;simp only [AK_];show AJj Bnc hC';show Bf';obtain⟨_,oe,fv,X',he,hc,hda,hE⟩:=hr;exact⟨_,oe,fv,Β,X',he,hc,hda,hE⟩
#where
def XO(e C:Ζ)(od:OB):HO:= Al9 (∃t,A9M)
theorem UG(DL:dC)(q:UB e (XO e C od)):∃t,A9M:=(DL e _ q).1
theorem yfj(q:A9M):bN P w H h e (XO e C od):=
 ⟨ADa t,Lm q,fun _ _ hz st=>by obtain⟨u,z⟩:=hz;exact⟨u,st _ z⟩⟩
theorem zyt(k:bN P w H h b u):∃o,r_:=by
 cases u with
 | Cc xs=>show AxX k;exact UQ
 | tup xs=>obtain⟨_,_,_,o,e,_⟩:=k;exact UQ
 | dK AH=>show Anx
 | dT AH=>show Anx
 | set S n=>show AeB o k;exact UQ
 | ins C dx fs=>show AxZ k;exact UQ
 | A7 y=>exact k
 | xd fs=>show Axa k;exact UQ
 | rng lo hi=>show AxY k;exact UQ
 | frz ob u=>obtain⟨e,_⟩:=k;exact UQ
 | LC ps=>show BLI
 | met f y=>show BLI
 | ext φ=>obtain⟨_,e,_⟩:=k;exact e
section
variable{X:Cx}{Ν:fB}{σ:St}{H:Hp}{s:AB}{A:BV}{E:eO}{a C dx:Ζ}{f:Κ}{y v:V}{u:AE}{fs:ê}
theorem yin(I:AS)(e:P5 Atk)(c:ADg)(n:s_)(ry:Q4)
  (h:∀dx s',N_ dx ->dx≠a ->ZY (upd (ZZ a APq) dx (.xd [(f,y)])) s' ->AMa):A'F:=by
 show A8G;show nL s;have BD:a<Ac4:=zG hx;refine z9d ik c n hx Β Β Β fun h' tk' ns hx' kp=>h Ac4 _ BKT (ADt BD) ?_;have gs:GY (BG3 a A2k).IF ⟨HE,Ε Ac4,AdX t,#[]⟩:=AI2 _ hx;have I1:KM a (Ad5 Ac4) (AGd (ABl hp tk:AB) (BG3 a A2k) tk):=
  AYy a a AgU UI (xy u z ((AeE AUP).JY z)) (Lm gs) (yfj gs)
 refine AK2 (t' :=tk') (K_ u z) (AcC BIs) (DH ns (G1 g))
 ·show YA
  ·subst hb;rw[show(BG3 b A2k).IF b=_ from gs] at z;cases z;exact hx'
  ·exact kp b u hb ((AeE AUP).BFR z)
 ·show Ali
  ·have hb:(g==f)=Μ:=BHp;show AJ9 Hk;exact ry
  ·show vj hb g f Ay4;show AJ9 QY;trivial
theorem yii(I:AS)(e:P5 APq)(ed:UB dx (.xd fs))(c:ADg)(n:s_)(l:AmS)
  (h:BYZ):BYV:=by
 show A8G;obtain⟨mA,ns,r⟩:=À dx ed;show APk (A4u (mA f) (r f))
 show nL s;exact yk6 ik c n hx Β Β Β ns hu (zwd ru) BTv
#where
def X6(A8i ta TE):TE:=Ϗ (∃a dx fs v,x= BQ/\AVJ APq/\H1 dx=Ε (.xd fs)/\AmS/\Q v H1)
def X7(BcS):TS:=A_J (∃a,x= BQ/\GY H2 Atk/\∀dx,H2 dx=Ι ->dx≠a ->AG7 (upd (upd H2 a APq) dx (.xd [(f,y)])))
structure Jr (K:Ω) (B:Ζ):Θ where
 sp:BVW (BA B)
 rd:BOs B
 fi:W.findCls K (BA B) Avi KP =Ε (.val (V' BDL))
section
variable{X:Cx}{o e EV:AF}{f:Κ}{Υ Ff IJ p:AL}{ta tv:TE}{C B:Ζ}{x:Κ}
theorem yk8(c:ADg)(n:s_)(he:ABy ta)(hb:ATV f):Ŝ ġ e f (X6 C f ta):=by
 show HP;refine yap hb (bT Ϭ (Tu u Bz));obtain⟨x,H1,I1,rx,a,dx,fs,v,ex,ea,ed,l,q⟩:=Bz;subst ex;show YI;exact yii I1 ea ed c n l Bct
theorem z7l(BgV):BZM X7:=by
 show c0;refine A0X (Ŏ Aij u);show A9m CM;show ACx A7h ov hz2;obtain⟨x,H2,I2,rx,a,ex,ea,q2⟩:=hz2;subst ex;show ł ov rx;exact yin I2 ea c n ry fun dx s3 h1 h2 I3=>⟨σ,_,I3,q2 dx h1 h2⟩
theorem ydf(c:ADg)(cb:Jr AG B)(hg:JE)(hm:ATb (BA B))(ha:PA X [e,e2] t)(ABm)
  (hst:Ĺ [e,e2] e [e2]:=by rfl) (De:jp Υ [e2]:=by rfl)
  (ht:ϥ BT5 (do
   let ov<- Ts AdO
   õ
   let (f,first)<- þ KP pl
   Ă (ë [e,e2]) AAL):=by rfl):
  PE X BT5 (O_ t vs (∃a od v,vs= [BQ,v]/\AVJ (XO a C od)/\Q BE (jn a (XO a C od)))):=by
 show HP;refine Aez (Gv I hg hm ?_ hd) ht;refine W.method_cls ik cb.sp (W.cls_value ik cb.rd cb.fi Β ?_);have I0:=I.tok (Adj);refine BLe (AMs (ha Υ Ν _ σ H _ I0 h)) hst;obtain⟨vs,H1,I1,r,a,od,v,ev,ea,q⟩:=CM;subst ev;show KA u u2 ru ru2 (vals2 r);show ł u ru;obtain⟨t0,hx⟩:=UG ASL ea;show nL s1;refine ybq og c.cls hx BVj fun h' kp hx' =>(LL BE (I1.write (x:=a) (e:=a) (At4 ea) UI (xy u z (kp b u hb z)) (Lm hx') (yfj hx')) q)
#where
def yev(bn:Κ)(p IJ Υ:AL)(ER:CC)(BN:Env)(pl:APB):Θ:=Ě (Bi7 (FR bn p) ER) BN=(do
   let ov<- Ě (FR bn p) BN
   õ
   let (f,first)<- þ KP pl
   Ă (Bhn Υ) (backToKw Υ (keywordEach [] BN)))
theorem zk0:∀(l:Bi) {h:AJ},a∈l ->No (ARV h l).IF:=fun l h m=>BlK l m
section
variable{X:Cx}{F0 H0:Hp}{tg Pl elt:AF}{ifs:CC}{Υ:AL}{sc:OM}{A7:Ρ}{FB:Cn}{N' :Ρ}{ti:cP}{g:vL}{tc:TT2}{te:cu}
open ww in
theorem ye0(hN:ie)(hi' :EX X.N y)(hy:AZa)(S:AQS)(hc:FX)(hi:ve (AQU Ul))
  (hg:AZ2) (ht:AZ3) (he:Aos)
  (hn:Aux:=by rfl) (hsw:AFs l_ (Ch (FR y py)) spos.line CB=KW Μ:=by rfl) (ANM):
  BaM (aX i (Jm (XQ BCS))):=by
 subst hn;rintro z E cx Ν s σ H Dn I ⟨F,Γ,D2,R,h,k⟩;obtain⟨F1,s1,R1,n1,o1⟩:=z12 R;rw[BIW hsw];refine BPz;refine mi (N1 zk9 X ALj use BWM Qv Beq g Awm (tc:=tX AG tc) (te:=eX AG te) (Q:=fun v H' =>ASM AVf H') Aoo (pig hc (hi F1 H z kj AT7)) ?_ ?_ ?_ Β hs I ?_ ?_) (fun _ s' hq=>z7 (z7 hq)) APx
 show AqT
 show Ak3
 show Ak4
 ·refine⟨F1,gR Γ,_,R1,h,fun ds AA F2 H2 J Hx R2 s2 hx hJ h1 A3 ha=>zqk R2 hJ hx ha h1 (Bjp ?_)⟩;have s3:=(z3j R'.g a1 a2).1;have R3:=R'.frzA a1 a2 a3 ap;have s' :=cc eQ sF s3;have gr:BPD (Aww b) H' :=by
   show AZN IU IU R3.gr.h
   ·show CS BLD
    exact Aed s' s1
   ·show AAG BKV;show cq
    ·cases e'
    ·exact R3.g _ _ e'
   ·have e' :BKV=Ε o:=e;show cq
    ·cases e'
    ·show AIl;exact BaA R3.gr.n
  have rep:Rep AG (j9 F1 Aww) AOP Ϛ:=Ev (qi A3 (z63 (R'.gr.f.free a2) (IN (IN iD))) (zly (z7k R3.gr.f) ys vs hp.1 (AGS s3)))
  refine T' ((ALK gr).set i (rep.up IU)) Kj hp.2;have hb:¬N3:=ADr (by
   obtain⟨_,w,ev,ld⟩:=o1 b hb;exact z1l e w ld ev)
  show CS hb;exact zw3 _ _ e
 ·show AqS;refine BDz (DS zru I5 hN hi' Ayk (v:= AhF) Β BV2 Ayo);show Õ a hsb ha;have ha' :a=TK\/A0Y a:=ha;have hac:C≠a:=by
   show Ϙ ha' ha'
   ·exact c2
   ·exact Bc8
  refine⟨m,BDt hsb hac,Aje ⟨_,H',I6.turned (t' :=s6.toks) (it:=C) (ŏ Akw) c1 c2 (E7 c3) c4 c5,q5⟩⟩
#where
section
variable{K:Ω}{F H:Hp}
theorem K9:A'X (fQ K F H BHt vs [])
 | [],_,h=>by subst h;rw[Ars];exact k7
 | hW,_,h=>by
  show kg v h1 h2 h;rw[EK];exact⟨v,us,[],[],Β,Β,Ev (Hb h1),K9 h2⟩
theorem X8:∀{ts us:HK} {vs ws:AQ} {as bs:Bi},AH9 ->fQ K F H us ws bs ->fQ K F H (ts++us) (vs++ws) (as++bs)
 | [],us,vs,ws,as,bs,h1,h2=>by
  show ph Β h1;exact h2
 | c_,us,vs,ws,as,bs,h1,h2=>by
  show SK v vs' a1 a2 Β q1 q2 h1;rw[Iq];exact⟨v,vs' ++ws,a1,a2++bs,Β,MW Ī,q1,X8 q2 h2⟩
theorem Yb(h:AIC):Adh [t] [v]:=by
 refine⟨v,[],as,[],Β,CY,h,?_⟩
 exact k7
theorem yge:∀{ts:HK} {vs:AQ} {as:Bi} {j:Δ} {t:T},AH9 ->WJ ts t ->∃v b1 bs b2,WJ vs v/\as=AJu bs/\Ao7 bs/\
  BCX cs BO1 cs (Afm (ts.set j t') (AN6 cs))
 | [],_,_,j,t,_,e=>AXL
 | t0::ts,_,_,0,t,h,e=>by
  cases e;show SK v vs' a1 a2 Β q1 q2 h;refine⟨v,[],a1,a2,Β,Β,q1,fun{F' H' t' cs} f k r=> ?_⟩;rw[MG];exact⟨v,vs',cs,a2,Β,Β,r,oP f ts vs' a2 (fg (k a ha)) q2⟩
 | t0::ts,_,_,j+1,t,h,e=>by
  show SK v vs' a1 a2 Β q1 q2 h;obtain⟨w,b1,bs,b2,g1,Β,g3,g4⟩:=yge q2 AI5
  refine⟨w,a1++b1,bs,b2,CU g1,CY,g3,fun{F' H' t' cs} f k r=> ?_⟩
  rw[MH];exact⟨v,vs',a1,AJu cs,Β,CY,ABR f t0 v a1 BKy q1,g4 f Bd9 r⟩
#where
mutual
def abJ:AI0
 | cK=>rB d
 | tw=>BL ts
 | AkX=>BL ts
 | A1K=>BL ts
 | A5G=>BL ts
 | AI7=>JS
def BL:Fk HK
 | []=>JS
 | c_=>abJ t/\BL ts
end
abbrev pG:=AQg T
section
variable(K:Ω)(F0 H0:Hp)
inductive UpN (t:pG) (E:XW) (σ:St) (H:Hp) (Q:VK):Θ
 | mk:AVA (∀tr BY F' H' v as,cr AHW Fu oQ BWN (AHg tr v as) (WZ tr) Š) UpN
def upN(t:pG)(E:XW):TE:=AEu UpN
#where
def QN(UT)(e:AF)(t:pG):Θ:=AX' upN
def nOf(k9):pG:=VO (FF (AV' AKU))
section
variable{X:Cx}{F0 H0:Hp}{e:AF}{es:CC}{Υ p:AL}{te:cu}{tf:cP}{tn:pG}
theorem ymc(h:A4g):av QN (nOf tf):=fun z E cx=>
 pB hG (LE σ H Q Bz P Bz (BCn (by
  refine k _ _ _ _ _ [a] R1 s1 A2 (Lo (ANk hb ⟨e2,e3,ap⟩)) ?_ h1
  exact⟨a,vs,[],Β,Β,e1,K9 r1⟩)))
def Yc:pG:=AYC (.dic [] [])
theorem zv2:Æ (.Dict [] [] Υ) Yc:=fun z E cx=>
 pB yei fun σ H Q Be q hq=>by
  show NO Be;have R2:Ļ F (ZZ q Ayn) Γ:=ALK (vy (Í (AIM R.g hq) (UY R.g)) (Í (aw hq) e))
  refine k _ _ _ _ _ [q] R2 IR A2 (Lo (ANk hb ⟨R.g.free hq,R.gr.h.free hq,Ar8 hq⟩)) ?_ h
  exact⟨q,[],[],Β,Β,iD,Β,Ayj⟩
def BP(i:Δ)(t:pG):aG:=WO D t tr (∀as,AX0 as tr)
theorem ztv(hN:ie)(hi:HL)(hx:ADf)(he:ADk)(hs:AFY (Ch (FR x Ff)):=by rfl)
  (AXz):AoV BP tn:=NS tU (xw Wk i hN hi hx NM hs hf) D Ah Ah (AVC r1 (Bds (Ŗ t) (h1 as)))
def yM(t:pG):aG:=fun D Γ E=>t Γ (fun tr _=>D.rT (.one tr)) E
theorem Yd(he:ADk):A4z (yM tn):=fun z E cx=>
 tU (z3f NM) (LE D σ H Al D2 Al (AVC r1 (k.rT (.one t) _ _ _ _ R1.gr nd (fg ⟨AfN,(hn a ha).2.1⟩) r1 h1)))
def nV(AEq):pG:=AeR (ĸ AEa (Ε (.tr _ t)) (P t (ALG i C_)))
theorem yf1(hN:HL)(hv:OG)(XL):Æ å (nV i):=fun z E cx=>
 pB dE (Ϻ HN (by
  show NO HN;show DJ nV;show E4
  ·rename_i as t e;obtain⟨o,e0,v,Β,nd,hn,r⟩:=APG;exact⟨v,e0,k t _ F H v as (AcW e0) IR nd (fg ⟨AfN,AMT,ASJ e e0 (EM (gW (Ac5 as t) q_ a) ha)⟩) r h⟩
  show JI))
#where
section
variable{X:Cx}{F0 H0:Hp}{Υ p px:AL}{x:Κ}{i:Δ}
theorem zy0:ANQ ks Fs gL (DF Re vs (·.1)=ks)
 | [],[],_=>Β
 | [],DV,h=>D1
 | DV,[],h=>D1
 | AJb,AEp,h=>BWD zy0
#where
section
variable{K:Ω}{F0 H0 F H F' H' :Hp}{σ:St}{Γ:tJ}
theorem z4l(e1:AEw)(h:AEt):ABq AEn a:=fun j q=>by
 have q' :pN AEn (AAy i o) j a:=BVp
 rcases W3 q' with ⟨_,z⟩ | ⟨_,z⟩
 ·exact z
 ·exact h j z
theorem SR.wrT(R:GT)(e:AXJ)(e1:AEw)(h:Å)(r:oM K F AQl H0 t o)(ht:J_ (gW t o b) (gW s o b\/AL4 b)):
  ja F AQl (ō t):=by
 have R1:=R.wrO (t:= C_) (u:=u) e e1 h eP (M_ z z.elim);have R2:=Ar2 i r (FS (by
  show OH (ht b hb)
  show Dx (Ö ((ō Slot.no)=ALG i C_)) (ASJ e e1 z)
  ·exact z4l e1 z))
 show AZD R2;exact R2
#where
abbrev um:=A7m AI0
inductive Js (AqO um):Θ
 | mk:Bcj (∀t v as F' H',rq ->A_ oQ AmK (AHg t v as) (P t) Š) Js
def vZ(K:Ω)(sp:um):Sp:=Aly Js
def Ax(sp:um):d7:=Bej (A6 t (P (toD t)))
open ww in
theorem z25{K:Ω}{sp:um}{vs:AQ}{H:Hp}{Q:VK}{E:XK}(h:pC K (Ax sp) vs H Q E):AT6 vZ:=by
 obtain⟨F,ds,P,Ex,h1,h2,h3,h4,h5⟩:=h;refine⟨F,ds,fun t=>P (toD t),Ex,h1,h2,h3,fun t v as F' H' g nd hn r p=> ?_,h5⟩;have s1:Id F' BTg:=ah (by
  show UK A8s;show CS (ADr (AfR ACW))
  exact e)
 refine h4 (toD t) v BTg H' ⟨BFU s1,IU,g.h,ABs ?_⟩ (AcV s1 t v as (fun a ha u hu=> ?_) r) p
 ·show AAG A8s;show cq
  ·exact e'
  ·exact g.g b u e'
 ·have e' :A8s=Ε o:=e;show cq
  ·show AIl;exact .A0 hZ
  ·exact g.n b o e' n
 ·show Go ha;exact hu
structure Ay (AFb) (mg:DU) (A8:AJ) (x:Κ) (k:Δ) (ps:Ρ) (sp:um):Θ where
 ex:Aov vZ
theorem Ay.fn(BgC){x:Κ}{k:Δ}{ps:Ρ}{sp:um}(G:ı Ay x k ps sp):ı cZ x k ps (Ax sp):=by
 obtain⟨f,fd,h1,h2⟩:=w8;exact⟨f,fd,BUf,h2⟩
section
variable{P:As}{w:AW}{K:Ω}{mg:DU}{A8:AJ}
theorem Jt(AAX)(AaO um)(Fn:Au x EI st)(S:AJ0 ps)(len:AQv)
  (wo:AKJ (∀F0:Hp,
   ∃t,An3 k_ t/\Aot (A_F (Mg Q)))):
  Ajl vZ:=by
 show AFM;refine Qt lk hcd S AQz AQF
 show AqM
 show BCh hQ Be;show Amh;have cx:AQs:=by
  show Db (fun Ν σ Γ F H1 s1 e s' I R hx=> ?_) AJ3;show AKK;show AQ1;exact AQ0
 exact BCH (A_F (Mg Pd)) ⟨ut,ñ,ñ,ut,ut,fun t v as F' H' gr nd hn r q=>by(cases t with | one t=>exact hQ t v as F' H' gr nd hn r q | tp ts=>exact om),AZt⟩
#where
def Az(sp:um)(t:cP):pG:=VO (Ae1 (A6 tr (FF tr)))
section
variable{X:Cx}{F0 H0:Hp}{e:AF}{es:CC}{Υ p:AL}{x:Κ}{ps:Ρ}{k:Δ}{sp:um}{t:cP}
theorem zvx(Aok Ay):
  Æ gN (Az sp t):=by
 show Aoj hm hk;show A5z hk BME CM;have hs:Als vZ vs H1 AXH F1 H1 H1:=BeU ds rs;show ApX
 show BSB;show va;show ϫ i6 (wx X.A JU s1 H1 ANi us vs Q _ hr I1.env0 hbs r hs) AEy;cases r with
 | ZI e=>exact Am4 hq
 | ok fl=>
  cases fl with
  | ret u=>exact BG4 hq
  | JP=>show NR
  | brk=>show NR
  | NY=>show NR
#where
#print L3
namespace L3
open IB OL JO L2
def mR(ks:Fs)(k:Key):AO:=ks.any fun k' =>(Φ (k' =k))
theorem v7:APt↔AlS:=by
 unfold mR;rw[ASR];exact⟨fun hz=>(Ag' x h hz (wy e ▸ h)),D6 ⟨k,h,Avv⟩⟩
def iI(ks:Fs)(k:Key):Fs:=Agw APt ks ks k
def fu(AIa)(ks:Fs)(xs:CO)(k:Key)(x:α):CO:=Agw APt (ALS (Aw3 x) ks xs) xs x
theorem zs9:ANQ ks Fs gL ((Re vs).B6 (A6 kv (Agp v))=Re BUC)
 | [],_,_=>Β
 | DV,[],h=>D1
 | AJc,w::vs,h=>by
  rw[ABS,EK,Asn,ABS,zs9 (EF h)]
  show AVn (k' =k)
theorem zub(h:gL):ģ Ń k v=(iI ks k).zip BSM:=by
 unfold ģ iI fu;have e:((Re vs).any fun kv=>(Φ (kv.1=k)))=Μ↔APt:=by
  rw[v7,ASR];constructor
  ·rintro⟨kv,hm,q⟩;have:=List.mem_map_of_mem (f:=(·.1)) hm;show B8 (zy0 h);rw[<- wy q];exact Χ
  ·intro hm;rw[<- zy0 h] at hm;show DT kv h1 h2 o_ hm;exact⟨kv,h1,BId⟩
 show KK APt
 ·rw[sd e.mpr q,Hk,Hk];exact zs9 h
 ·rw[B4 (E9 (q (e.mp z))),QY,QY,List.zip_append h]
  rfl
theorem z0i(h:AVE Pw):So iI ks k=SL (fu ks xs k x):=by
 unfold iI fu;split
 ·rw[Acq,<- h,ALY]
 ·simp [h]
theorem z7m{K:Ω}{F:Hp}{k:Key}{d:D}{v:V}(r:Qr):BCI Fs (On (Aeb (Aw3 d) ks xs) BUC)
 | [],xs,vs,h=>C8 aL
 | DV,[],vs,h=>A8O
 | AJc,OF,vs,h=>by
  show kg u h1 h2 h;rw[Asn,Asn];refine rW ?_ (z7m r h2);show AYs
  ·rw[Hk,Hk];exact r
  show Axu h1
theorem zps{K:Ω}{F:Hp}{ks:Fs}{xs:AM}{vs:AQ}{k:Key}{d:D}{v:V}(h:AHe)(r:Qr):On (fu ks xs k d) BSM:=by
 unfold fu;split
 ·exact z7m r h
 ·exact Oh h (Oi r)
theorem UJ(ϻ):∀{xs:AM} {vs:AQ} {as:Bi},Adh Af7 vs ->as= []/\AHe
 | [],vs,as,h=>by rw[Ars] at h;exact⟨h.2,FY⟩
 | OF,vs,as,h=>by
  rw[EK] at h;show SK v us bs cs Β h1 h2 h;show mB r h1;show AZr h2;exact Hb (rW r rs)
section
variable{K:Ω}{F0 H0 F H F' H' :Hp}{σ DA :St}{Γ BY :tJ}
open ww in
noncomputable def Ba (Γ:tJ) (σ:St) (H:Hp):Hp:=cn (AVF N3 (H b))
theorem yk9(h:N3):BOu=Ι:=ϊ Ba ADv
theorem yag(h:¬N3):BOu=H b:=ϊ Ba Ü
theorem z1e(r:AQd)(h:∀a,Å ->No H1):oM K F H H1 s o:=by
 cases s with
 | no=>trivial
 | pu d=>exact r
 | ow ds=>obtain⟨a,vs,e,e1,e2,e3,r⟩:=r;exact⟨a,vs,e,e1,e2,h a e,r⟩
 | tr as t=>obtain⟨v,e,nd,hn,r⟩:=r;exact⟨v,e,nd,A1f,r⟩
 | nt as ts=>obtain⟨p,v,e,e1,nd,hn,r⟩:=r;exact⟨p,v,e,e1,nd,A1f,r⟩
 | xe as C fs ts=>obtain⟨a,oe,dx,vs,e,e1,e2,e3,e4,nd,hn,r⟩:=r;exact⟨a,oe,dx,vs,e,e1,e2,e3,e4,nd,A1f,r⟩
theorem SR.reb(R:GT):SR K F (Ba Γ σ H) F H σ Γ:=by
 refine⟨vy R.g IU,Ħ,WV i s,ABT⟩
 ·show Uf Ba;show tI
  ·cases e
  ·exact e
 ·show bE e1 r (VZ i s e);exact BT6 (yk9 ⟨i,s,o,e,e1,ha⟩)
theorem Gr.unreb(g:AQu)(s:Id H0 H1)(g' :Afl H1):AMf F0 H0 :=by
 show AZN (BFU g'.f) g'.g (s.trans g'.h);cases q:F b with
 | Ι=>exact AcT s (g'.n b o e q)
 | Ε u=>have:=g'.f _ _ q;show t_;show E3;exact g.n b _ q n
theorem SR.unreb(g:AQu)(s:Id H0 H1)(R:Bcf H1):AxG :=by
 refine⟨g.unreb s R.gr,Ħ,WV i t,ABT⟩;show bE e1 r (VZ i t e);exact BT6 (Ar0 (Ds r ha).2.1)
#where
#print L3
namespace L3
open IB OL JO L2 AKP
structure Ord (lt:sj) (n:Δ):Θ where
 tri:∀i j,A_ (i<n) (j<n) AFH (lt i j=AC) (lt j i=Μ)
 irr:Au9 (j<n ->A4s ->lt j i=AC)
 tr:∀i j k,i<n ->A_ (j<n) (k<n) A4s (lt j k=Μ) (lt i k=Μ)
def Sat(AIa)(lt:sj)(n:Δ)(t:KasT α)(Q:Fk α):Θ:=Ux lt n t=Μ/\Q (XR lt t)
section
variable{lt:sj}{n:Δ}{α β:CL}
theorem Ju(h:Q a):gT (.ret a) Q:=Hb h
theorem UL(hi:i<n)(hj:j<n)(hij:AFH)(h:gT (k AO') Q):gT (.ask i j k) Q:=by
 show Db ?_ h.2;unfold Ux;show Bjz eK;exact⟨hi,hj,hij,FY⟩
theorem UW:N4 t (KasT α) (gT t (A6 a (gT (f a) Q))) (gT (t.bind f) Q)
 | .ret a,h=>h.2
 | Apl,h=>by
  have h1:=FY;unfold Ux at h1;show A4R h1;exact UL ū h1.2.1 h1.2.2.1 (UW ⟨h1.2.2.2,h.2⟩)
theorem Sat.imp(h:gT t Q)(k:∀a,Q a ->Q' a):gT t Q' :=⟨FY,k _ h.2⟩
def Pm(n:Δ)(p:sf):Θ:=Afz p.toList.Perm n
theorem Pm.size(h:X_):ASd=n:=CU (List.Perm.length_eq h)
theorem Ye{p:sf}{k:Δ}(hk:k<ASd):eR k 0=p.toList[k]' Ahk:=bS Array.getD hk
theorem Pm.below{p:sf}(h:X_){k:Δ}(hk:k<n):A1q<n:=by
 have hk' :k<ASd:=AX h.size hk
 rw[Ye hk'];exact o6 (BG5 (yU _))
theorem Pm.ne{p:sf}(h:X_){k j:Δ}(hk:k<n)(hj:j<n)(hkj:k≠j):A1q≠eR j 0:=by
 have nd:p.toList.Nodup:=h.nodup_iff.mpr Bnd;rw[Ye (AX h.size hk),Ye (AX h.size hj)]
 show AnK nd;show A2I hkj
 ·exact A9 k j _ _ q
 ·exact AV (A9 j k _ _ q ABV)
def Lp(lt:sj)(p:sf)(AkB):AO:=AoJ (eR i 0) j
def Up(BeK):Θ:=BTq (gi i j)
def Dn(BeK):Θ:=BTq (gi j i)
theorem z59(O:vt)(P:X_)(hi:i<n)(hj:j<n)(hij:AFH)(h:MM (Lp lt p i j)):gi j i:=O.tri _ _ (AG8 hi) (AG8 hj) (P.ne hi hj hij) h
theorem ycr(O:vt)(P:X_)(hi:i<n)(hj:j<n)(hk:k<n)(h:gi i j)(h' :gi j k):gi i k:=O.tr _ _ _ (AG8 hi) (AG8 hj) (AG8 hk) h h'
theorem yjq(O:vt)(P:X_)(hr:r<n)(h1:1<=r)(U:Up lt p r)(h:gi AWm r):Up lt p (r+1):=AY4 (by
 show g9 (AzP r) q
 ·exact AoN q
 ·show XT j r
  rcases AV8 ANj with q' | q'
  ·exact ycr O P Η Η hr Bbm h
  ·show XT i (j - 1)
   exact h)
theorem yku(O:vt)(P:X_)(hr:r<n)(h1:1<=r)(U:AQQ r)(h:gi r AWm):AQQ (r+1):=AY4 (by
 show g9 (AzP r) q
 ·exact AoN q
 ·show XT j r
  rcases AV8 ANj with q' | q'
  ·exact ycr O P hr Η Η h Bbm
  ·show XT i (j - 1)
   exact h)
theorem yi0(O:vt)(P:X_):BZt (Up lt p m) (gT (kas_asc p f m) (WS (m<=r/\r<=m+f/\Up lt p r/\ (r<m+f ->gi r AWm))))
 | 0,m,h1,_,U=>Ju ⟨MV,MV,U,AV (ŵ z)⟩
 | f+1,m,h1,hn,U=>by
  show Apg
  cases q:AoJ A7x (m - 1) with
  | Μ=>
   show sB;exact Ju ⟨MV,Τ,U,E6 q⟩
  | AC=>
   show t7
   refine(yi0 O P f (m+1) Η Η (yjq O P Η h1 U (z59 O P Η Η Η q))).imp fun r hz=>by obtain⟨a1,a2,a3,a4⟩:=hz;exact⟨Τ,Τ,a3,AV (a4 Η)⟩
theorem yhf(O:vt)(P:X_):BZt (AQQ m) (gT (kas_desc f p m 0) (WS (CI=p/\m<=C4/\C4<=m+f/\pp=0/\AQQ C4)))
 | 0,m,h1,_,U=>BZi MV
 | f+1,m,h1,hn,U=>by
  show Apg
  cases q:AoJ A7x (m - 1) with
  | Μ=>
   rw[EB,B4 AD]
   exact(yhf O P f (m+1) Η Η (yku O P Η h1 U q)).imp fun r Bz=>by obtain⟨a1,a2,a3,a4,a5⟩:=Bz;exact⟨a1,Τ,Τ,a4,a5⟩
  | AC=>
   show t7
   show Apg
   have q' :lt (eR (m - 1) 0) A7x=Μ:=WE (z59 O P) m j (m - 1) Η Η Η q
   rw[q',EB];exact BZi (x5 (m<=_))
theorem yhe(P:X_)(i j:Δ):Pm n (kas_rev p i j):=BPa (mirror_perm p i j ((j - i)/2))
theorem getD_get?{p q:sf}{i j:Δ}(h:p[i]?=q[j]?):eR i 0=q.getD j 0:=by
 rw[Bne,Bne,h]
theorem yf5{p:sf}{m k:Δ}(hm:m<=ASd)(hk:k<m):(kas_rev p 0 m).i4 k 0=eR (m - 1 - k) 0:=by
 have e:=getElem?_mirror_all (i:=0) hm k;rw[CH ⟨IS,hk⟩] at e;have:=AiC;show B8 (NG (0+m - 1 - k) (m - 1 - k))
 exact Χ
theorem yik(O:vt)(P:X_)(h1:1<=m)(hm:m<=n)(D:AQQ m):Bcd (kas_tail3 m n p):=by
 have U:Up lt (kas_rev p 0 m) m:=AY4 (Ajz Lp (yf5 BLr Η) (yf5 BLr hj) (D (m - 1 - j) (m - 1 - i) Η Η))
 exact UW ((yi0 O (yhe P 0 m) (n - m) m h1 Η U).imp fun r hz=>by obtain⟨a1,a2,a3,_⟩:=hz;exact Ju ⟨yhe P 0 m,x5 (1<=r),x5 (r<=n),a3⟩)
theorem yj4(O:vt)(P:X_)(h1:1<=n):Bcd (kas_count n p):=by
 refine UW ((yi0 O P (n - 1) 1 E2 Η (fun i j a b=>Τ)).imp (BO r CM))
 obtain⟨a1,a2,a3,a4⟩:=CM;show L7 r n
 ·show Go (NA e)
  exact BUF
 ·show CS (NA e)
  by_cases g:r>1
  ·show Go g;show Apg
   have q:lt (eR 0 0) (eR AWm 0)=Μ:=a3 0 AWm Η Η
   rw[q,EB];exact BUF
  ·show CS g;show XT r 1
   have q:=a4 Η
   have D:AQQ 2:=AY4 (by
    show XT i 0
    show XT j 1
    exact q)
   refine UW ((yhf O P (n - (1+1)) (1+1) Η Η D).imp (BO r Be))
   obtain⟨b1,b2,b3,b4,b5⟩:=Be;rw[B4 Η,b1]
   exact yik O P Η Η b5
theorem zy8(O:vt)(P:X_)(hk:k<n)(U:Up lt p k):∀(f l r:Δ),l<=r ->Hm (r<=k) (r - l<=f) (XI l (gi j k)) (BRJ (r<=j)) (gT (kas_place p k f l r) (XU (x<=k/\ (XI x (gi j k))/\BRJ (x<=j))))
 | 0,l,r,h1,h2,h3,h4,h5=>Ju ⟨Τ,h4,Bcl⟩
 | f+1,l,r,h1,h2,h3,h4,h5=>by
  unfold kas_place;by_cases g:l≥r
  ·show Go g;exact Ju ⟨Τ,h4,Bcl⟩
  ·show CS g;have m1:l<=AFR:=Τ
   have m2:AFR<r:=Τ
   refine UL (AG8 hk) Atl (P.ne hk Η Η) ?_
   cases q:AoJ (eR k 0) (AFR) with
   | Μ=>
    show sB;refine zy8 O P hk U f l _ m1 Η Η h4 (Ap j a b)
    show OH (BFT (AFR) j)
    ·exact ycr O P hk Η Η q (U _ j z b)
    ·show XT j AFR
     exact q
   | AC=>
    show t7
    have q' :gi (AFR) k:=z59 O P hk Η Η q
    refine zy8 O P hk U f _ r Η h2 Η (XB j a) h5
    show OH (AzP (AFR))
    ·exact ycr O P Η Η hk (U j _ z Η) q'
    ·show XT j AFR
     exact q'
theorem yln(P:X_)(k d:Δ):Pm n (bubble p k d):=BPa (bubble_perm p k d)
theorem ym0(O:vt):∀(f:Δ) (p:sf) (k:Δ),X_ ->k+f=n ->Up lt p k ->BPd (kas_bin f p k)
 | 0,p,k,P,h,U=>by
  show XT k n
  exact Ju ⟨P,U⟩
 | f+1,p,k,P,h,U=>by
  have hk:k<n:=Τ
  refine UW ((zy8 O P hk U k 0 k Þ E2 Η (fun j a=>Τ) (fun j a b=>Τ)).imp (BO l CM))
  show Õ a1 a2 a3;refine ym0 O f _ LH (yln P k AnP) Η (KE i j hij hj)
  have at' :∀x,(bubble p k AnP).i4 x 0=M' x l A1q (if l<x/\x<=k then eR (x - 1) 0 else eR x 0):=XU (by
   have e:=getElem?_bubble (xs:=p) (src:=k) (Do P.size hk) AnP Η x
   rw[NG (k - AnP) l] at e
   split
   ·show L6;rw[Hk] at e;exact AiC
   ·show L6;rw[QY] at e;split
    ·rename_i q2;rw[CH q2] at e;exact AiC
    ·rename_i q2;rw[B4 q2] at e;exact AiC)
  show lt _ _=Μ;rw[at',at'];by_cases e1:i=l
  ·rw[CH e1,mT,ϝ]
   exact a3 ANj Η Η
  ·show CS e1;by_cases e2:j=l
   ·rw[CH e2,mT]
    exact a2 i Η
   ·show CS e2;by_cases e3:l<i/\i<=k
    ·rw[CH e3,ϝ]
     exact U (i - 1) ANj Η Η
    ·show CS e3;by_cases e4:l<j/\j<=k
     ·show Go e4;exact U i ANj Η Η
     ·show CS e4;exact AoN Η
theorem yma(O:vt):BPd (kas_sort n):=by
 have P0:Pm n (BGU (AAq n)):=Ev BkO
 by_cases h0:n=0
 ·subst h0;exact⟨Β,(EL BkO),fun i j _ hj=>(AjU hj)⟩
 ·refine UW ((yj4 O P0 Η).imp (BO r CM))
  obtain⟨a1,a2,a3,a4⟩:=CM;by_cases g:CI<n
  ·rw[CH g,show max CI 1=CI by omega]
   exact ym0 O _ _ _ a1 Η a4
  ·show CS g;obtain e:CI=n:=Τ
   exact Ju ⟨a1,e ▸ a4⟩
#where
#print L3
namespace L3
open IB OL JO L2
def v8(lt:sj)(is:Cn):Θ:=is.Pairwise fun i j=>A4s
theorem ynq(P:Pm n q)(U:Up lt q n):v8 lt q.toList:=by
 unfold v8;rw[Bnf];intro i j hi hj hij;have hj' :j<q.size:=CU hj
 have hi' :i<q.size:=Τ
 have:=AoN (DC P.size hj')
 unfold Lp at Χ;show sT (Ye hi') (Ye hj');exact Χ
structure Jv (CA:As) (w:AW) (A:BV) (E:eO) (vs:An) (lt:sj) (T:Ax4) (κ:Aso):Θ where
 kind:∀(s:AB) (Q:Os Aso),A3P ->2<=Kb ->Q κ s ->LJ (keyKind' i5)
 ask:∀(s:AB) (i j:Δ) (C:Ay9),A3P ->A_ AhR (j<Kb) AFH (C AO' s) (BG6 CA w A κ vs i j C s)
section
variable{CA:As}{w:AW}{A:BV}{E:eO}{s:AB}
theorem zvn{a:Ζ}{vs:An}{lt:sj}{T:Ax4}{κ:Aso}{n:Δ}{P:Os PySem.Fin}(hob:AyF (qr i5 n))(O:BMH)(hT:A3P)
  (hst:∀h',(∀x o,BJM ->x≠a ->Fr TH o) ->T h') (K:Jv CA w A E vs lt T κ) (h64:BI7)
  (h:∀is:Cn,BMQ ->A4y ->P (.LU (.ret BI)) (Zl (sortedHeap BG a vs A4j))):AUH (Builtin.«list.sort» AVN) P:=by
 have hal:XY a:=zG hob;have U0:ANe:=BJB
 show bv list_sort_plain (UE (BnV (n:=n)) hob Β) (z6 (BGz (n:=n) hob Β ?_ (Do eJ U0) Þ))
 obtain⟨ea,hoa⟩:∃ea,GY (Bhe IF) BL3:=BOL hob #[];refine UE A3o hoa Β;refine z6 (BGN ?_ (EF U0))
 show LM (BJj Þ) (ĝ (m:=_) ?_);have Mv:BVI Awa BL3:=by
  refine ABY An4 (ABY An4 hoa)
  ·show BNW;exact AlZ hal
  show Dx Asj (zK hal)
 have T2:T ((Awa AvW).Me Au5):=hst _ fun x o hx hxa=>by
  have BD:=zG hx;refine ABY An4 (ABY An4 (ABY (BJQ hxa) hx))
  ·show BNW;exact AlZ BD
  show Dx Asj (zK BD)
 dsimp only;have hsv:Bng=Kb:=eJ ..;by_cases ABN:Bng<2
 ·rw[CH ABN,CH ABN];refine xp G0;rw[StateT.run_pure];refine xp G0;refine UE A3o Mv Β;have eo:DF arrOf (SortSt.mk' general' (Bnh i5) #[] 7 Ι) (·.2)=qq (R_ Kb) AvF:=by
   show Bj2;show mM
   ·simp
   ·intro i q1 q2;have:AhR:=CU q2
    simp [Χ]
  rw[eo];show mI (BKO Mv Β ?_ Þ)
  ·show BMd;refine KI (h _ IR ?_);unfold v8;rw[Bnf];intro i j hi hj hij;have:j<Kb:=CU hj
   omega
  ·simp;omega
 ·show Ì ABN ABN;show mI (K.kind _ _ T2 Η)
  show DT ok Pq Uq yma O;refine mi (W.kat_run (Q:=fun st' s' =>∃p:sf,ASd=Kb/\arrOf st' =p.map (W.kas_item (Bnh i5))/\failedOf st' =Ι/\p=BT3/\s' =BaH)
   (G:=fun p s' =>p=BT3/\s' =BaH)
   Β Η Η (fun p st' s' a1 a2 a3 a4=>⟨p,a1,a2,a3,a4⟩) ?_) ?_ AvM
  ·exact ygb (fun i j C hi hj hij hC=>K.ask _ i j C T2 hi hj hij hC) _ _ ok k7
  ·rintro⟨⟨⟩,st'⟩ s' ⟨p,hp,har,hf,Β,Β⟩;have eo:=W.kat_snds (vs:=vs) Β har;rw[eo];refine UE A3o Mv Β;show mI (BKO Mv Β ?_ Þ)
   ·rw[hf];show BMd;exact KI (h _ Pq (ynq Pq Uq))
   ·exact zO (AcC (z9r hp)) Η
theorem zmz{src:AE}{Q:eO}
  (hc:GG Ix oq (Ac1 src) (ACX s1 (∃lt T κ,BMH/\BI7/\Jv CA w A.in1.in1 E vs lt T κ/\ (∀h2:AJ,(∀x o,Fr ASc o ->Fr h2.get? o) ->T h2)/\
   ∀(l:Ζ) (h' :AJ) (is:Cn) e,ES<=l ->Hm BMQ A4y (BQJ A4j) (∀b ob,ACU ASc ->ACU TH) (MR l (AVL h')))) E s):
  LJ (A1d [src]):=by
 refine Bee;unfold Builtin.«sorted»;refine Â (checkCount S_ 1 1 _) G0;refine LG (Ac1 _) (ADZ hc (Tu vs xZ) AvM);obtain⟨lt,T,κ,O,h64,K,hT2,h⟩:=xZ;have U0:ANe:=BJB
 refine BJj U0;have hoL:Ő AA_ (qr i5 0) ES (qr i5 0):=T1;refine IP (ě _ _) (AlM (Ba3 (zvn (T:=T) hoL O (hT2 _ fun x o e=>pz) (fun h' k=>hT2 _ fun x o e=>k x o fh AY5) K h64 fun is a1 a2=>AEb)));refine KI AEb;show DE e he (ym8 (vs:=vs) (out:=A4j)) hoL;refine h ES _ is e E2 a1 a2 he (K_ ob eb);exact yha (z8 _ eb) (zK (zG eb))
#where
def oR(a b:Κ):AO:=Φ (BG7<Bni)
theorem z0r(a:Κ):oR a a=AC:=by unfold oR;simpa using List.lt_irrefl BG7
theorem yg3(h1:AS_)(h2:ŀ b c):ŀ a c:=by
 unfold oR at*;simp only [AGM] at*;exact List.lt_trans h1 h2
theorem yk3(h1:oR a b=AC)(h2:a≠b):ŀ b a:=by
 unfold oR at*;simp only [decide_eq_false_iff_not,AGM] at*;cases q:Φ (Bni<BG7) with
 | Μ=>exact wy q
 | AC=>
  have:=List.le_antisymm (Bnj h1) (Bnj (of_decide_eq_false q));exact Iy (by cases a;cases b;simp at Χ;rw[Χ]) h2
theorem z2o(h:AS_):oR b a=AC:=by
 cases q:oR b a with
 | AC=>rfl
 | Μ=>have:=yg3 h q;show B8 z0r;show E3
def Rr(xs:Ρ)(i j:Δ):AO:=oR Ald (i8 j PY)
theorem DX{α:CL}{xs:CO}{i:Δ}{d:α}(h:Ϝ):i8 i d=xs[i]:=Azd tT
theorem z0e{xs:Ρ}(nd:Ac6):Ord (Rr xs) BU:=by
 have A9:=AsS nd;refine⟨fun i j hi hj hij h=> ?_,fun i j _ _ h=>z2o h,fun i j k _ _ _ h1 h2=>yg3 h1 h2⟩;refine yk3 h ?_;rw[DX hi,DX hj];show A2I hij
 ·exact A9 i j hi hj q
 ·exact Bc9 hj hi
def eS(AIa)(d:α)(xs:CO)(is:Cn):CO:=ALV fun i=>i8 i d
theorem zvj{α:CL}{d:α}{xs:CO}{is:Cn}(h:Afz is.Perm BU):(eS d xs is).OY xs:=by
 have e:R_ BU (ya (i8 i d))=xs:=by
  show mM
  ·simp
  ·intro i q1 q2;simp only [ALZ,BG8];exact DX q2
 have:=h.map fun i=>i8 i d;show t_;exact Χ
theorem zt2(h:v8 (Rr xs) is):AU1 (eS PY xs is).AsD:=by
 unfold eS;rw[Acl];exact h
theorem zpj{xs:Ρ}{vs:An}(r:BMV){i:Δ}(hi:Ϝ):∃t,ASe i dy= .AT Ald t:=by
 show Wp e ru (WE r.get i x (.AT Ald) (AOW Ic lh (DX (d:=PY) hi)))
 rw[OX,e];exact ru
theorem z1p{CA:As}{w:AW}{A:BV}{E:eO}{xs:Ρ}{vs:An}(r:BMV):BZR (C5 JS) :=by
 have hl:Kb=BU:=ů OS this.symm
 show Db (fun s Q _ h2 hQ=>(Bfr (Tm "str"))) (fun s i j C _ hi hj _ hC=> ?_)
 ·show AEf k hk hv;show DE t e (zpj r (i:=k)) Η
  rw[DX hk] at e;rw[e];exact W.Looks.of_pure Β
 ·show DE t e (Ý (zpj r)) Η
  show DE u e' (zpj r (i:=j)) Η
  unfold BG6;rw[e,e',Bnk];exact oneLt_str hC
def Mw:AG' Key | AYr=> AOT | A4r=> Ũ | _=> .A0 0
theorem ykt:∀k v,AVm qx k v=Μ ->Mw v=k:=fun k v h=>by
 rcases Fq h with ⟨i,t,Β,Β⟩ | ⟨x,t,Β,Β⟩<;>rfl
theorem zxw:∀{vs:An} {ys:Ρ},(BRr qx) ->Arb Mw=ALa ON ->IZ (ALa AGY) vs
 | [],[],_,_=> EO
 | [],DV,_,h=>D1
 | DV,[],_,h=>D1
 | AEp,y::ys,h,e=>by
  obtain⟨⟨k,hk⟩,_⟩:=Anz;rw[EK,EK] at e;injection e with e1 e2;refine .AY ?_ (zxw (fun u hu=>BQA) e2);rcases Fq hk with ⟨i,t,Β,Β⟩ | ⟨x,t,Β,Β⟩
  ·cases e1
  ·have:x=y:=Axf e1
   show mE;exact uv
theorem yc2:∀{ks:Fs} {xs:Ρ},ks.Perm (d4 ON) ->∃ys:Ρ,ks=ALa ON/\ys.Perm xs:=fun{ks xs} h=>by
 have e:ks=DF ALA (kl Ap9) ON:=by
  show r6;show AXX ABY (UX List.map_id ks) A4W;show AIm x (o_ (BG5 hk))
  rfl
 refine DH e ?_;have:=h.map fun k:Key=>Ap9
 show B8 ZU;refine this.trans ?_;show Sj ((LX ((fun k:Key=>Ap9) ∘ ON) xs)=xs) (List.map_id' xs)
def uo(xs:Ρ):Ρ:=(mQ AxC BU).B6 fun k=>Ap9
theorem zuc(xs:Ρ):BQq=DF uo xs ON:=by
 unfold uo;show r6;show AXX ABY (UX List.map_id _) A4W;show AIm j ((zo6 _).mp hk)
 rfl
theorem BR{xs:Ρ}{x:Κ}:x∈uo xs↔x∈xs:=by
 have e:x∈uo xs↔ (ON x:Key)∈BQq:=by
  rw[zuc,YO];constructor
  ·exact BS3
  ·rintro⟨y,h,e⟩;have:y=x:=Axf e
   show Ø;exact h
 rw[e,zo6];constructor
 ·rintro⟨j,hj,e⟩;have:i8 j PY=x:=Axf e
  rw[<- Χ,DX hj];exact yU hj
 ·intro h;show bi j hj BkE;exact⟨j,hj,HH (DX hj) e⟩
theorem zsy(xs:Ρ):ź uo xs:=by
 have:=znr AxC BU;show B8 zuc;exact List.Pairwise.imp (fun{a b} h z=>h (by rw[z])) (Bnl Χ)
def Jw(P:As)(w:AW)(a:Ζ)(xs:Ρ):HO:= Al9 (vC AHb Mw ADL h a (DF uo xs ON))
inductive Jx (AaK):Θ
 | mk:∀(p:Ζ) (xs:Ρ),Hm (vs= [UP]) (nY AG H p Ai1) (BU+1<AsW) (AfV q q q q BQ8) (AMg Jx)
def O7(X:Cx):u_:=AX8 Jx
inductive Jy (AaK):Θ
 | mk:∀(q:Ζ) (xs:Ρ),Hm (vs= ADb q) (UB q BQ8) (C7 uo xs<64) (BcH (ASV (uo xs))) (AMg Jy)
def Yg(X:Cx):u_:=AX8 Jy
theorem z7t(AFI):ADP Pc (O7 X):=by
 rintro Ν s σ H xs us Q I r ⟨p,ns,e0,hq,hb,k⟩;subst e0;show Su;cases rx;obtain⟨AU,rv,pl,hz⟩:=Pe hq;show AXS;show AJw;show BbR
 refine zqe (κ:=Key) (knd:=AvH) (kf:=Mw) ykt (val:=FV (.AZ BKI)) c9 ZN BTC BOV BY6
 ·have hi:i<IG:=AX hl (SW (EF hv))
  show PM t (zpj rv hi);show BIR (show Az0 by simpa using hv)
  have e' :v= .AT BKI t:=e;subst e';exact Ŋ (zqf _ _ _ _)
 ·rw[hsz,zuc] at hS;have I2:KM BH BLS ci:=
   vc APy OZ E2 BLS ⟨hS,Aup o hS (rV e),Bcs⟩
  exact AKD I2 k
theorem zp0(r:IZ xs vs)(h:AXs Ϝ):IZ (A_d xs) (ALV AvF):=zwl r h
theorem zpe(A9i){f:Aix}{d:α}{xs:CO}{is:Cn}{e:β}(h:AXs Ϝ):eS e (d4 f) is=At1 d xs f:=by
 unfold eS;show r6;show AjC i hi;show(d4 f).i4 i e=f (i8 i d);rw[DX (AX Da (h i hi)),DX (h i hi),ALZ]
theorem z9p{X:Cx}(hc:FX):Ř S_ (Yg X):=by
 rintro Ν s σ H xs us Q I r ⟨q,ns,e0,hq,h64,k⟩;subst e0;show Su;cases rx;obtain⟨⟨o,es,ep,t,hg,O⟩,_,_⟩:=À q hq;show LP hlk (FK=A3e) Ah4 ABO AWo CD (zmz (zpy BOd hg O Η Bfb))
 show DT ys e1 hp yc2 hk;have rv:=zxw hm e1;show LP Jp BKc BMC hly (OW=A3e) BGu ⟨Rr ys,_,_,AX Jp (z0e (BnQ (zsy ns))),Τ,z1p rv,BH6,BCj hl⟩
 have hlt2:Aja:=zO (ĕ BD) hle;have hix:AXs BSu:=X2 (AgJ Jp A9g)
 have hrv:=zp0 rv hix;rw[zpe (d:=PY) BKM] at hrv
 have hms:(eS PY ys is).OY (uo ns):=cc zvj (DC Jp a1) hp
 have GH:BRF:=BJT
 have I2:KM l AnJ ci:=
  vc APy (BCK OZ) hlt2 AnJ (A'T hl)
 exact LL Q1 (ygh I2 d) BdF
def v9:AM ->AQI Κ
 | []=>Ahc
 | ç::r=>(v9 r).B6 (x:: ·)
 | DV=>Ι
theorem zxs(OI):∀{ds:AM} {vs:AQ} {xs:Ρ},L5 ->v9 ds=Ε xs ->vs=d4 .AT
 | [],vs,xs,r,h=>A7X
 | hW,vs,xs,r,h=>by
  show kg v r1 r r;cases d with
  | AT x=>
   show DJ v9;unfold Rep at r1;subst r1;cases q:v9 ds with
   | Ι=>rw[q] at h;cases h
   | Ε ms=>show BAV zxs
  | _=>cases h
theorem Yh(OI):∀xs:Ρ,On Ai1 (d4 AGY)
 | []=>N9
 | n::ns=>rW KB (Yh ns)
def zvb:UO:=AIW (∃ns,v9 xs=Ε ns/\IG<4095/\ A3e<64/\BYE (A5r ns))
section
variable{X:Cx}{F0 H0:Hp}{a e:AF}{Υ p pE p2:AL}{t:cP}
theorem ycq(BeY):
  Bbd zvb:=fun z E cx=>by
 have inner:PE K2 AwQ (Ud (O7 (ħ z)) (AS5 Ol)):=DS Wu (z7t hc) hg2 hm2 z21 F6 AD AD he Β
 refine BgB z9p
 show NO Bz;refine a_ ?_;unfold zvb at h1;show g_
 ·show AZ5;obtain⟨ns,hns,BD,hme,h1⟩:=h1;show SH (zxs rs hns);refine⟨l,ns,Β,ANo,BkR,Aj0⟩
  refine⟨q,ns,Β,iD,hme,GN l2 ms hl2 hp hs⟩;have R2:AS9 (jn q (Jw FH X.w q ns)):=AGJ (vy (Í (AIM IL hq0) (UY IL)) (Í (aw hq0) e))
  obtain⟨R3,q1,q2,q3,ap⟩:=Iz R2 hl2 (Yh (K:=AG) (F:=F1) ms);exact BYm (h1 ms hs (FV (BnP BR)))
 ·exact xA
#where
open BEw (AcJ)
open BEx BEy in
theorem yd0(Bgw):
  Meets (Builtin.«list.__eq__.loop» (J' [Q1,AIJ,AgG,AgG]))
   (fun A R s=>(A9e dd sl (BWz sl2) (yy (oR x y)) s)):=by
 intro CA w A R s h;show nL s;show A8J
 show A6Q
 have hi1:IM Nc (Sb).eD AVh:=h1;have hi2:IM ABa (Sb).eD (.AT y u):=h2;rw[hi1,hi2];have hne:To Bnm Bnn:=by
  cases q:(Bnm==Bnn) with
  | AC=>rfl
  | Μ=>
   have e:=BE_ q;exact Iy (by cases x;cases y;simp at e;rw[e]) hxy
 refine z6 (SeqRoads2.EqGives.str x y t u CA w _ _ _ _ ?_);rw[hne]
 show A6Q
 rw[hi1,hi2];refine IP (richCompare .Lt _ _) (wpAny_richCompare_same (Arl _ x t) (Arl _ y u) slot_str_lt (call_str_lt (D_ CY)) Β)
 wp_walk
 exact h
open BEx BEy in
theorem yey(Bgw):
  BXu Builtin.«list.__lt__» (fun A R s=>(A9e dd sl (BWz sl2) (yy (oR x y)) s)):=by
 intro CA w A R s h;show nL s;show A8J;show BNb
 show A6Q
 exact AOG Bno (Acw entry_eq_loop (Do (AIP Bno) (yd0 l b Nc ABa n n2 dd dd2 sl sl2 x y t u h1 h2 hxy CA w A R _ ⟨hl,hb,h⟩)))
def La(h:AJ)(v:AE)(x:Κ):Θ:=∃a AU t,v= BQ/\PlainL h a AU/\IM AU 0 AVh
theorem yfb(h1:La BG v x)(h2:La BG v' y)(hxy:x≠y)(hu:AiY)(h:Q (oR x y) s):LJ (oneLt' Μ v v'):=by
 obtain⟨a,AU,t,Β,⟨o,n,e1,c1,d1,s1⟩,z1⟩:=h1;obtain⟨b,its2,u,Β,⟨o2,n2,e2,c2,d2,s2⟩,z2⟩:=h2;obtain⟨cls,dict,AAo,AKi⟩:=o;obtain⟨cls2,ab5,data2,Rt⟩:=o2;cases c1;cases d1;cases s1;cases c2;cases d2;cases s2;rw[oneLt'_eq];show AJj wpAny_cRoomFor_or (E7 hu);refine z6 (wpAny_callSpecialIfBound?_slot (T:= MZ) (NE e1) Bnp (Aro Bnp (NE e1) F.entry_list_lt (F.args_list_lt_2 _ _) (yey a b AU its2 n n2 Ι Ι AKi Rt x y t u z1 z2 hxy) (PR e1 e2)));exact AKo h
theorem La.up(q:La h v x)(k:BJ1):La h' v x:=by
 obtain⟨a,AU,t,e,p,z⟩:=q;exact⟨a,AU,t,e,p.keeps k,z⟩
theorem La.looks(q:La h v x):W.Looks M h (Arm v) (SB MZ):=by
 obtain⟨a,AU,t,Β,⟨o,n,e,c,_,_⟩,_⟩:=q;intro A Q E s k hQ;exact wpAny_typeOf_ref (k _ _ e) (Do c hQ)
theorem yie(hl:AVE Kb)(nd:Ac6)(hu:AiY):
  BZR (Sl (∀i,Ϝ ->La h (ASe i dy) Ald)) :=by
 show Db (fun s Q hT h2 hQ=>(Bfr ALv)) (fun s i j C hT hi hj hij hC=> ?_)
 ·show AEf k hk hv;have:=hT k Η
  show B8 (DX hk);exact this.looks
 ·unfold BG6;rw[Bnk];refine yfb (hT i Η) (hT j Η) ?_ hu hC
  show AnK nd;rw[DX Η,DX Η]
  show A2I hij
  ·exact A9 i j Η Η q
  ·exact Bc9 Η Η
def gl(g:Ρ):D:= .Cc (g.map .AT)
def hdS(g:Ρ):Κ:=g.headD PY
theorem yoo(I:AS)(sF:t9)(r:AgF (gl g))(ru:PQ)(hg:g≠ []):La BG u (hdS g):=by
 show KA a vs hq rs r;cases ru;show AvT;cases g with
 | DB=>show AUM hg
 | AY x g=>
  show kg w Β rs rs;cases rv with
  | AY r0 rr=>
   show SC r0;exact⟨a,_,t,Β,pl,C8 hdS⟩
def z6w:UO:=AIW (∃gs:OA,xs=ALb gl/\ (∀g∈gs,g≠ [])/\ ź ALb hdS/\BI9/\
   ∀ms:OA,ASV gs ->Acn (xl b A_7) ->AVQ gl)
theorem abK{γ:CL}{v:V}{u:AE}{Q:VK}{Ν:fB}(d0:γ){f:γ ->D}{T:AJ ->DD AE γ}{lt:sj}{κ:Aso}{gs:EC γ}(I:AS)(sF:t9)(r0:AgF (FM (ALb f)))(ru:PQ)(h64:BI9)
  (up:∀h h' v g,T h v g ->(BJ1) ->T h' v g) (tt:∀g∈gs,∀v u,AgF (f g) ->PQ ->T BG u g) (od:Ord lt AGZ)
  (sk:∀AU:An,AGG=AGZ ->Jv FH X.w X.A.in1.in1 wb AU lt (Sl (BJW (T h BLm BOD))) κ)
  (k:∀l is ws,aL AG F (At1 d0 gs f) ws ->A_ (N_ l) ((eS d0 gs is).OY gs) A4y (∀i∈is,i<AGZ) (AwM ws)):
  ADT (A1d [u]):=by
 show AEr r0;cases ru;show AvT;have hl:=we;have hl2:=Sc;show Atg hl2;have ABO:AWo:=CD
 have hT:BJW (T BG BLm BOD):=X2 (by
  show kG e1 r1 (WE (yF rs) i d (f gs[i]) (AJV lh))
  show DT u e2 r2 ARz e1;rw[OX,e2,DX hi];exact tt _ (yU hi) v u r1 r2)
 have hup:∀x o,BJM ->Fr ((s.heap.push (seqObj "list" #[] 0)).update s.heap.objs.size (Obj.mapSeq (· ++its.toArray))).IF o:=fun x o e=>by
  show Aoc;exact ABY (BJQ (zK BD)) (z8 _ e)
 show LM (zmz (collect_list (vs:=AU) ZN ?_ Η)) ⟨lt,_,κ,AX (NG AGG AGZ) od,Τ,sk AU Η,fun h2 k2 i hi=>up _ _ _ _ (hT i hi) fun b o e=>k2 b o (kQ hup),BCj hl'⟩
 have hsz:Aja:=zO (AsL _) (zO (AcC (UX (BIs).JY (size_push' ..))) hle);have hix:AXs (i<AGZ):=X2 (MU A9g)
 have hrv:=zp0 rv (is:=is) (X2 (MU Avw))
 have hrs:aL AG F (A_d (ALb f)) (A_d vs):=zwt rs (X2 (BkM Avw))
 rw[zpe (d:=d0) hix] at hrs;have GH:D5 (zS eS V.non vs is):=by
  unfold eS;show AwA a1.length_eq;omega
 have I2:KM l BbV (e_ h' L'):=
  vc Az' (BCK hup) hsz BbV (A'T hl')
 exact LL Q1 I2 (k l is _ hrs (Afx hsz) (zvj (Do (NG AGZ AGG) a1)) a2 hix)
theorem yll(hu:ATG AcP):Ř S_ (GF AG z6w):=by
 show vz;show DJ z6w;show E4
 ·show ý r0 rs;obtain⟨gs,Β,hne,nd,h64,h⟩:=h;show Su;refine abK [] (T:=fun h v g=>La h v (hdS g)) (lt:=Rr (ALb hdS)) (κ:=oneType') I sF r0 rx h64 (AQq q k (q.up k)) (fun g hg v u r1 r2=>yoo I sF r1 r2 (hne g hg)) (ώ (z0e nd)) (XB AU hl) fun l is ws hrs hn pm od hix=>k _ _ l hrs hn (h _ pm ?_)
  ·have e:=N1 yie CA FH w X.w A X.A.in1.in1 E wb (vs:=AU) (xs:=ALb hdS) (Do Da hl) nd (Bif (AcP+1))
   rw[Da] at e;show Db (fun s Q hT=>e.kind s Q AZJ) (fun s i j C hT=>e.ask s i j C AZJ)
   all_goals
    have q:=hT i hi;rw[show gs.getD i []=gs[i] from DX hi] at q;rw[show(ALb hdS).i4 i PY=hdS gs[i] by rw[DX (AX Da hi),ALZ]]
    exact q
  ·have hp:=zt2 od;rw[zpe (d:= []) hix] at hp;exact Bnl hp
 show JI
#print L3
namespace L3
open IB OL JO L2
open BEw (AcJ)
theorem zqh(l:Ζ)(Nc:KF)(n:Δ)(b:Ζ)(ABa:KF)(n2:Δ)(sl:ADm)(hc0:BNY items.isEmpty BNS)(hc1:AyG)(hs2:BNS<=ARR+1):
  BXu Builtin.«list.extend» (fun _ R s=>(A9e Ι #[] (ATo Ι (.seq ABa n2) sl) dy (e_ (AGF l (AGD (XU (x++ABa)))) L'))):=
 Bec (by
  show nL s;show A8J;have f1:=AutoSeq1.idx_int;have f2:=AutoSeq1.sub_tuple_tuple;show BNb;have f4:=AutoSeq1.sub_tuple_list;have f5:=AutoSeq1.sub_list_tuple;have hz' :(Nc++ABa).size<=ARR+1:=AX Array.size_append hs2
  wp_walk using (BGx hl Β (hz:=hc1) (_hz' :=hz')),Bhw,Bhx;exact Oy h)
theorem z5r:OwR X "list.extend" zvv:=by
 intro Ν s σ F H l vs ER xs ds us P Q I hl sF rs ra rv h k;show DJ zvv;show E4
 ·obtain⟨v,_,Β,⟨b,zs,Β,hq,rz⟩,Β⟩:=ra;show DT u Β ru AR2 rv;cases ru;obtain⟨z,AU,n,r,hle,e⟩:=I.lstM hl;obtain⟨its2,r2,⟨o,n2,e2,c2,d2,s2⟩,hz2⟩:=BhJ;obtain⟨cls,dict,AAo,AKi⟩:=o;cases c2;cases d2;cases s2;have ab9:=r2.length;have l1:=Sc;have l2:=j7 rz;have hsz:D5 (wp+Bnq):=AhQ eJ eJ
  have Yi:BNY its.toArray.isEmpty (wp+Bnq):=kM (yc5 hsz) Aci zJ
  refine Aro Bnr (NE e) PySem.F.entry_list_extend (PySem.F.args_list_extend_2 _ _)
   (zqh l RS n b its2.toArray n2 AKi Yi Ajp Η) (PR e e2)
  refine LL BE (I.lset (im :=AU++its2) hl e A2 (BFM r2) ?_) (k _ _ (Oh rs rz) h.2)
  rw[TU];omega
 show JI
def zzd:UO:=AMD [AB' _] (P (ALA o8))
theorem zhd:∀{xs:AQ} {us:An},BJr ->(∀(i:Δ) (x:V) (u:AE),kL ->EX us u ->ϋ) ->gS
 | [],[],_,_=> EO
 | [],DV,h,_=>D1
 | DV,[],h,_=>D1
 | OF,u::us,h,k=> .AY (k 0 x u Β Β) (zhd AWK fun i y w e1 e2=>k C9 y w (EF e1) (EF e2))
theorem Ru:∀{AH:qk} {ws:AeQ} {i:Δ} {p:κ×AE},A0S ->EX ws p ->∃v,EX AH (Cl,v)/\IE v p.2
 | _,_,_,_,EO,e=>AXL
 | _,_,0,p,Qb (a:=q) h _,e=>by
  simp at e;subst e;show AFP h;exact⟨q.2,by rw[<- h1];rfl,h2⟩
 | _,_,D9,p,Qb _ r,e=>by
  show kG e1 e2 (Ý Ru r AI5)
  exact⟨v,CU e1,e2⟩
theorem U3:∀{ks:U1} {vs:AQ} {i:Δ} {k:κ} {v:V},EX Ń (k,v) ->EX ks k/\APJ:=fun{ks vs i k v} e=>by
 rw[List.getElem?_zip_eq_some] at e;exact e
theorem yh9(AFI):A1H (GF AG zzd):=by
 show vz;show DJ zzd;show E4
 ·rename_i ks ds';obtain⟨v,_,Β,⟨a,vs,Β,hq,hkl,rs⟩,Β⟩:=rs;show Su;cases rx;obtain⟨hz,hsm,ws,kv,hd⟩:=Qw MC (sF _ _ hq);obtain⟨ob,es,ep,hd⟩:=id hd;have hm:BJ9:=⟨ob,es,hd⟩;have U4:C7 Re vs=Mm:=xD;have hlk:Pw=Mm:=by rw[<- U4,Ac7,<- hkl,ALY]
  rw[U4] at hz;refine W.kdl_call (BCO W.kdl_dict hsm) c9 hm hz fun h' tk A3 c OZ hg hac=> ?_;have hv:IZ (ALA kV) Asf:=by
   refine zhd (by show ACN Ĝ;exact hlk.trans (hac.1).du) BAQ
   obtain⟨k,w,e3,e4⟩:=BVm hac.2
   obtain⟨v5,e5,_⟩:=Ru kv e3;have e5:=(U3 e5).1;show Ad2 e5 e1;cases e1;rcases Fq e4 with ⟨j,t,Β,Β⟩ | ⟨x,t,Β,Β⟩
   ·exact uv
   ·exact uv
  have I2:KM BH (FM A0e) ci:=
   vc APy OZ E2 (FM A0e) (BWv AI1)
  exact LL AHA I2 (k _ _ _ (W0 ks) BKT h)
 show JI
#print L3
namespace L3
open IB OL JO L2
theorem zuq(I:AS)(e:AJH)(ho:A0i):KM a yo s:=by
 have ne:qo AEJ (Aps) QQ:=Amd z (by rw[z,e] at q;cases q;exact n _ Β)
 refine A_D L' ⟨fun _ _ q _ _ _=>q,BR8,GN b ob q n _,A8o (ADa ob),A2T,BTi,SV ps (D_ #[])⟩ Ê
 show AXu (by rw[z,e] at n;cases n) n
 ·rw[bW A8w];exact q
 ·rw[bW A8w];exact q
 ·rw[bW A8w];simpa using q
 ·show YA
  ·subst hb;rw[iD] at q;cases q;show F8 ho;exact(EM (AM' H b Op) (À b e))
  ·rw[ub] at q;exact ADn MC q (ALk z z) (fun c z=>Bdf) (AMq z Bdf)
def Itw(Bdh):It:=BXk (H' =H/\∃k,EX AH (k,x))
theorem zpk(I:AS)(e:Aus)(Rv:BjT):∃ws,A0S/\BJ9:=by
 obtain⟨ho,_,_,ws,kv,o',es,ep',h1,h2,h3,h4⟩:=(EM (AM' H a yo) (À a e));rw[ho] at h1;cases h1;obtain⟨es',h5⟩:=Rv;rw[h3] at h5;cases h5;exact⟨ws,kv,o,es,ho,h2,h3,h4⟩
theorem ybf(AZo)(Bf6):AY9 BK8 (h.IsValIter it a i wS ep) where
 mem:=CY
 obj:=AQE (by
  show APV
  show Apt;exact AXU)
 KS:=A8_
 VW:=by
  show m4;show VS;show AZe;show ă
  show BVo;show Ao1;obtain⟨⟨k,u⟩,hw⟩:∃p,EX ws p:=BNn
  show EQ v hv rv Ru kv hw;refine wpAny_pyNext_values_item st hd hw (gf xC sb);have I1:AOY:=AoD;show ax o' e c d xC;exact P9 u (Wl (s:=UA) e c d AD ⟨v,H,I1,rv,⟨Β,k,hv⟩,AX hl xC,ANh hf⟩)
 LU:=by
  show m4;show VS;show AZe;show ă
  show AxF;have hl:=xD;show Ao1;exact wpAny_pyNext_values_end c9 st hd (ALH hx) AZs
 RU:=Amf wpAny_pyIter_valiter
def Yj(te:TE):TI:=BQL (BMr (ATp ->∀o,R BK8 A0a))
theorem ybr(he:my)(TZ:Aep:=by rfl)(ZO:z_:=by rfl):
  ϔ Aet (Yj te):=by
 show ϩ;refine BAj Ϭ;obtain⟨x,H1,I1,r1,a,AH,ex,ea,q⟩:=Bz;subst ex;show ł v r1;show BCP (.A0 ea);refine BUb Bns;obtain⟨hz,_,ws,kv,dd⟩:=Qw ASL ea;refine ASB BG9 hT Bnt BkW BMz (D_ ⟨ws,dd⟩);obtain⟨o,es,ep,h1,h2,h3,h4⟩:=id dd;have hm:Al1:=BAK h1;have I2:=BYq;have vw:BUW:=iF;have I3:ZY A0a (AGd s1 (BjA BG_) ARt):=I2.kept y_;refine wpAny_pyIter_values vw Ax_ ?_;refine⟨_,[BRw],_,_,_,Β,AtV I3.kept y_,ybf a _ o AH ep ⟨es,h3⟩,?_,NL,q hz o⟩
 show Dx xD iF
 ·show AtQ BRw
  exact I3.fpOk E2 (I3.hok.fresh E2)
section
variable{K:Ω}{F0 H0 F H:Hp}{σ:St}{Γ:tJ}
theorem SR.chg(R:GT)(h2:AEP)(h3:È)(ap:AEt):xi F AQl:=by
 refine⟨⟨R.gr.f,Ê,Ê,ύ (R.gr.n b o q n)⟩,Ħ,BjE,ABT⟩
 show Dx (ATJ h2) (R.g b u q)
 show Dx (ATJ h3) (ASI b u q)
 ·show AZX (VZ j s' q);show A'w;have:QQ:=AV (by subst z;exact ap j Bjd)
  rw[bW Χ];exact q'
#where
theorem ye9(BgW):AYD (Itw a o Ń) xs:=by
 have hl:=Sc;have hlz:ALs (C7 Re vs):=BWF
 refine⟨Τ,AaM (ACh (Q3 ApF) d hd)⟩
 show AYR hd;have hi:AhR:=SW hv;show Db ApF AmO
 obtain⟨Β,k,z⟩:=z;have:=(U3 z).2;show B8 hv;show E3;exact Aip F2 s3 A0t
def z3i(tn:pG):cP:=AZQ (ĸ t AkX (P (j8 ts) AA))
section
variable{X:Cx}{F0 H0:Hp}{e tg:AF}{IJ Fh:AL}{tn:pG}
open ww in
theorem z6i(he:ADk)(TZ:Aep:=by rfl)(ZO:z_:=by rfl):
  AMV QI Aet (z3i tn):=Aw7 (BWZ ybr) (AVq (fun t AA F1 H1 v as R1 s1 nd hn r h1=>by
  show g_
  ·rename_i ks ts;show AAa;refine⟨a,_,Β,ea,BO hz o⟩;have nab:a∉bs:=AIX;have sF:qf (Ad4 Ake (xz (b∈bs) H1 (F1 b))):=ah (by
    show UK (AQm Ake H1 F1);show Ì (E9 (AkI BI1)) (BYW hb)
    exact e)
   have R2:=BgL R1.chg (.frz o œ)
   ·refine k _ AA _ _ _ R2 AWx (ye9 ?_ hkl (ALE sF ts vs bs (fun c hc u hu=> ?_) r) hz) h1
    ·show sB
    ·rw[UN (show¬c=a from AI3 nab hc),CH hc];exact hu
   ·show AAG (AQm Ake H1 F1);show YA
    show BQ0 e'
    ·rw[AHv] at e';rw[bW hb];show cq
     ·exact e'
     ·exact IL b u e'
   ·show AAG (AQm Ake H1 F1);show YA
    ·subst hb;exact(hn b zY).2
    ·rw[AHv] at e';show cq
     ·rename_i hm;exact BZj
     ·rw[n] at e';cases e'
  ·exact xA))
#where
theorem Jz{K:Ω}{F:Hp}{k:Key}{v:V}(h:Rep K F (o8 k) v):v=kV k:=by
 cases k with
 | A0 i=>exact h
 | AZ x=>exact h
theorem zz0(h:gL)(k:Key):(nu Ń k).AFk=Alo:=by
 unfold nu mR;rw[Art];induction ks generalizing vs with
 | DB=>rfl
 | AY k' ks ih=>
  cases vs with
  | DB=>cases h
  | AY v vs=>
   rw[ABS,Arp,AK9];show AYs
   ·simp [q]
   ·simp only [q,BG',BmI];exact ih (EF h)
theorem yl4{ks:Fs}{vs:AQ}{k:Key}{v:V}{q:Δ}(nd:ks.Nodup)(h1:y0 ks k)(h2:y0 vs v):Bda:=by
 unfold nu;induction ks generalizing vs q with
 | DB=>simp at h1
 | AY k' ks ih=>
  cases vs with
  | DB=>simp at h2
  | AY u vs=>
   show BKC;cases q with
   | Tb=>
    have e1:k' =k:=CU h1
    have e2:u=v:=CU h2
    simp [e1,e2]
   | Th q=>
    have hm:AlS:=yV ADz
    have ne:k' ≠k:=AV (AIX (z ▸ hm));simp only [ne,BG'];exact ih Ane ADz AOc
def Rx(i:Δ)(tk:cu):TT2:=WB tk kd (∃k as ks ts,kd=o8 k/\A0f/\FF (! Alo))
def Yk(i j:Δ)(tn:pG):aG:=WO D tn t (∃k as ks ts,BS2 A0f (mR ks k=AC) (∀cs,APi (.tr A3c (P6 (ks++ [k]) AwL))))
def Yl(i j l:Δ)(tv:cu):aG:=A1h (∃k k2 as ks ts q Ry xs,Avu AA/\IM AA l (.pu (o8 k2))/\A0f/\ks.Nodup/\y0 ks k/\
 y0 ts (ACm Ry d4)/\AHK Ry.length/\APi (AU_ Bac))
section
variable{X:Cx}{F0 H0:Hp}{ke EV:AF}{Υ ī BZ O8 Ff pE:AL}{x y w:Κ}{i j l:Δ}{tk tv:cu}{tn:pG}
theorem ygf(hu:g6)(hk:EG ke tk)(hN:HL)(hv:OG)(XL)
  (hb:ArE ADq P_=AC:=by with_unfolding_all rfl):
  r9 (Ad3 ke ADq [.wc x ī]) (Rx i tk):=fun z E cx=>
 QK (DS z3a (DS zyg hu AyT dE) hb) (LE σ H Q Bz P Bz (ALo kd v rk Be (by
  obtain⟨kk,as,ks,ts,e1,e2,h1⟩:=Be;subst e1;have ev:=Jz rk;subst ev;show A_A;show AAa;refine⟨BQ,e3,a,_,Β,BTl,_,Β,?_⟩;rw[zz0 hkl];exact k _ _ _ _ R1 s1 h1)))
theorem ymd(hu:g6)(hN:HL)(hv:OG)(Rz:AJ2)(hv2:AYw)(hval:BPv)(hs:AXr P_ Avx:=by rfl)
  (ApC):
  AVd (AMt P_ Avx) (Yk i j tn):=NS tU (AZh zuk dE AqB hval hs) Dn Ah Ah (pf (fun t AA F1 H1 v cs R1 s1 ndc hnc rt Al=>by
  obtain⟨kk,as,ks,ts,e1,e2,hh,hl,q⟩:=Al;show A_A;obtain⟨o2,e4,w2,Β,rk⟩:=BKS;have ev:=Jz rk;subst ev;show AAa;refine⟨BQ,e3,kV kk,e4,a,_,Β,BZQ,?_⟩
  show U2 A7 (AWn BWx) (FS ⟨_,_,e2,e3,hb⟩) dis (AWn (b∉cs)) BcZ nab (a∉bs) AIX;rw[zub hkl];unfold iI fu;rw[BPI,BPI]
  refine AIV (Ac8 e2 e3 (EM (AUQ (AgK Ty ts)) zY) (t:= .tr (ACd++cs) (.dic (ks++ [kk]) AwL))) ⟨_,Β,?_,NL,?_⟩ NL (q cs)
  ·exact BHB ⟨nd,ndc,BAy (dis x hx (e ▸ hy))⟩
  ·show AKG
   ·exact AiO
   ·exact⟨Z_ hnc,AMX hnc⟩
  ·refine⟨a,vs++ [v],Am_,Β,Β,iD,C8 hkl,?_⟩
   have m:=A9p BON (ANL (Agj (AI3 nab hb)))
   have l:=AvK ABR BON IR t v cs BZL rt
   exact X8 m (Yb l)
  ·show AKG
   ·exact AeD
   ·exact BN5))
theorem yob(hu:g6)(hN:HL)(hv:OG)(Rz:AJ2)(hv2:AYw)(hN3:IM X.N l w)(hv3:qP ARc w)(hval:A6v)
  (hs:AXr BWn (FR w O8):=by rfl)
  (ApC)
  (A9l hd3 w abL w) (hns:Mf (.wc y BZ):=by exact AO7):
  AVd (AMt BWn (FR w O8)) (Yl i j l tv):=NS tU (AZh zuk (DS z9v hu dE AqB hns) (xw tQ l hN3 hv3 hd3 abL) hval hs) Dn HN HN (Akd Mh (by
  obtain⟨kk,k2,as,ks,ts,q,Ry,xs,e1,e1',e2,ndk,hq,ht,hl,hnx⟩:=Mh;show A_A;obtain⟨o2,e4,w2,Β,rk⟩:=BKS;obtain⟨o3,e5,w3,Β,rk2⟩:=AGT l _ e1';have ev:=Jz rk;subst ev;have ev:=Jz rk2;subst ev;show AAa;obtain⟨u,b1,bs',b2,hu',hbs,rc,back⟩:=yge r ht;subst hbs;show SK c us ds Β ec RB rc rc;show AZr rc;have nab:a∉AJu [c]:=AIX;have Ym:=Ane;show U2 hac (a≠c) (AV (nab (NA z))) hc1 (N0 (b1++b2) (b≠c)) (AwF (by
   subst z;show BN3 Ym;show AKG
   ·exact BZV
   ·have:=Adf p.2.1;exact Χ hb)) gd (sI H1 a (kV kk) (Ch (BA c))) (ACQ BTl (yl4 ndk hq hu'))
  refine⟨BQ,e3,kV kk,e4,a,AhE,Β,gd,kV k2,e5,c,_,Β,Bx.k (k:=k2) ec (by show AU5 RB;exact hl),?_⟩
  rw[zub RB];refine AIV (Ac8 e2 e3 (EM (gW (AgK (a::(AN6 [c])) ts) AG1 c) BVe) (t:= .tr (a::(AN6 [c])) (.dic ks Bac))) ⟨_,Β,nd,hn,?_⟩ AWa hnx
  refine⟨a,vs,AJu [c],Β,Β,Ë hac ea,hkl,?_⟩
  refine back IR (ANL (bW (hc1 b hb))) ?_
  exact BUc RB))
#where
abbrev Bu:=T ->AM ->DD (A3a) (DD T XV)
def iJ(as:Bi)(H:Hp):Hp:=cn (AVF AHR (H b))
theorem z68:ß (iJ as H):=ah (by
 show Uf iJ;show tI
 ·cases e
 ·exact e)
theorem zuo(h:AHR):iJ as H b=Ι:=ϊ iJ ADv
theorem zl2(h:b∉as):iJ as H b=H b:=ϊ iJ Ü
theorem TR.root(ϻ):∀{t:T} {v:V} {a:Ζ} {cs:Bi},Ao7 Ł ->zt
 | .leaf _,_,_,_,h=>yv FY
 | à,_,_,_,h=>BBb
 | AD_,_,_,_,h=>BBb
 | AEd,_,_,_,h=>BBb
 | .ob _ _ _,_,_,_,h=>by obtain⟨b,_,_,_,Β,e,_⟩:=h;cases (e);rfl
 | AI7,_,_,_,h=>yv FY
inductive JB (AqO Bu):Θ
 | mk:∀F a bs t ds F_ P Ex,(vs=Ahe::F_) ->A_ AH' (Azr) ((aT ACd kK)) (TR K F H t E8 Ty) (Hm Bim (sp t ds P Ex) ((∀t' d v cs F' H',cr A3G Azs BO2 A8v lx (P t' d) Š)) (∀x C dx t' cs F' H',cr A3G Azs BO2 A8v (BWL ADX) (Ex t' x) AZ9) (AT6 JB))
def nG(K:Ω)(sp:Bu):Sp:=Aly JB
def ASn(n:Δ)(s:GI)(ds:AM):G2:=s::(AKU .pu++AV0 (n - 1 - ME) C_)
theorem z6s{K:Ω}{F0 H:Hp}{N:Ρ}{a:Ζ}{bs:Bi}{t:T}{ds:AM}{vs:AQ}(h:ß F0)(nd:Azr)(hn:AWn (P3 F0))(rt:TR K F0 H t E8 Ty)(r:BV7):
  SR K F0 ADX F0 H (AGL N AkV) A1W:=by
 have hl:=j7 r;have OP:∀(i:Δ) s,EX A1W s ->∃o,EX (AGL N (Ahe::vs)) o/\oM K F0 H ADX s o/\ (i≠0 ->∀o c,¬gW s o c):=fun i s e=>by
  show Uf ASn;unfold AGL;cases i with
  | Tb=>cases e;exact⟨_,Β,⟨_,Β,nd,AGy AiO (zuo hb),rt⟩,AV (ϣ z)⟩
  | Th i=>
   simp only [Kk] at e;simp only [EK,Iq,Kk];show A1i
   ·show AUT AGB Ic
    cases q:ds[i]? with
    | Ι=>show L_;cases e
    | Ε d=>
     show L_;cases e;show kG e1 r1 (yF r q);refine⟨AHx,?_,AJO r1,fun _ _ _ z=>z⟩;show BZl e1;rfl
   ·show A4w
    show tI
    ·cases e;rename_i BD;show Axb BD;refine⟨Ι,?_,eP,fun _ _ _ z=>z⟩;show BSg (Y2 (by simp only [Da,FI];omega))
    ·cases e
 refine⟨vy h z68,by simp [AGL,ASn,hl];omega,WV i s,GN i j c ⟨s,o,e,_,hs⟩ ⟨s',o',e',_,hs'⟩⟩
 ·obtain⟨o,h1,h2,_⟩:=OP i s e;exact⟨o,h1,h2⟩
 ·by_cases hi:i=0
  ·by_cases hj:j=0
   ·rw[hi,hj]
   ·obtain⟨_,_,_,h3⟩:=OP j s' e';exact(h3 hj _ _ hs').ic
  ·obtain⟨_,_,_,h3⟩:=OP i s e;exact(h3 hi _ _ hs).ic
section
variable{K:Ω}{F0 H0 F H F' H' :Hp}{σ:St}{Γ:tJ}
theorem SR.back{i:Δ}{a:Ζ}{bs cs:Bi}{t t' :T}(R:GT)(e:kT Adq)(gr:A3G)(nd:Azs)(hn:N0 (a::cs) (P3 F'/\iJ Ty H b=Ι))(rt:A8v):
  ja F' H' A4K:=by
 obtain⟨o,e1,v,Β,nd0,hn0,rt0⟩:=APG;have hv:=rt0.root;subst hv;have R0:=AcW e1;have Yn:Id H0 ADX:=SV u (SD zl2 (ADr (APO (SG hn0))) (ASI b u q))
 have R1:ja F ADX AEn:=by
  show Bcn Yn
  ·rw[zl2 (ADr (APO (Z_ hn0)))];exact R0.g b u q
  ·show AZX (R0.sl j s' q);show A'w;rw[zl2 fun hm=>(BZI (EM (gW (Ac5 Ty t) AG1 b) hm))];exact q'
 have R2:=(AGJ gr).put i (s:= .tr Ł t') (o:=Ε E8) ⟨_,Β,nd,AUU (Yn.free hZ),rt⟩ (FS (Asm hZ));show AZD R2;exact R2
#where
structure JC (AFb) (mg:DU) (A8:AJ) (x:Κ) (k:Δ) (ps:Ρ) (sp:Bu):Θ where
 ex:Aov nG
structure Ea (BAZ Bu):Θ where
 ex:BBq nG
abbrev Ca(a:Ζ)(Q:A3a):qR:={nx:=fun Γ=>(A_4 (Q t' BE)),rt:=rX,rm:=fun d Γ=>(A_4 (Q t' d))}
abbrev Ce(a:Ζ)(Ex:DD T XV):XW:=fun Γ C=>(A_4 (Ex t' C))
section
variable{P:As}{w:AW}{K:Ω}{mg:DU}{A8:AJ}
theorem GQ{x EI p0:Κ}(AaO Bu)(Fn:Au x EI st)(S:AJ0 (p0::ps))(len:∀t ds Q E,sp t ds Q E ->Bg8)
  (wo:AKJ (∀F0 H0:Hp,
   ∃tt,qT kA F0 H0 k_ tt/\∀a bs t ds Q Ex,sp t ds Q Ex ->tt (Ca a Q) A1W Atz)):
  eU P w K mg A8 V_ LH f fd (p0::ps) (nG K sp):=by
 show AFM;refine Qt lk hcd S (fun vs H Q E hh=>by
  obtain⟨F,a,bs,t,ds,F_,P',Ex,ev,_,_,_,_,rs,hs,_⟩:=hh;show A_V ev (ACH len hs)) (BhB hh)
 obtain⟨F0,a,bs,t,ds,F_,Pd,Ex,ev,sF,nd,hn,rt,rs,hsp,hQ,hE⟩:=hh;subst ev;obtain⟨tt,ht,hq⟩:=wo cdv A Cf s H E hr F0 ADX;have cx:Ctx BhA F0 ADX Atz:=by
  refine⟨fun Ν σ Γ F H1 s1 e s' I R hx=> ?_,AJ3⟩;show AKK;obtain⟨BY,F',x,R',_,xr,_,⟨cs,t',e0,z1⟩⟩:=z;obtain⟨o,e1,v,Β,nd',hn',HY⟩:=A9J;have hv:=HY.root;subst hv;exact hE x C dx t' cs F' H' R'.gr nd' hn' HY Bg9 z1
 refine⟨_,Au7,F0,ASn AK5 Adq ds,Ca a Pd,z6s sF nd hn rt rs,hq a bs t ds Pd Ex hsp,⟨fun Γ F' H' σ R' _ BZ5=> ?_,ñ,ñ,BiZ om,ut,fun _ _ _ _ _ _ _ _ _ q=>om,fun d v Γ F' H' σ R' rv BZ5=> ?_⟩⟩
 ·obtain⟨o,e1,v,Β,nd',hn',HY⟩:=A9J;have hv:=HY.root;subst hv;exact hQ t' BE BE cs F' H' R'.gr nd' hn' HY KB q
 ·obtain⟨o,e1,u,Β,nd',hn',HY⟩:=A9J;have hv:=HY.root;subst hv;exact hQ t' d v cs F' H' R'.gr nd' hn' HY rv q
#where
def yN(m3):aG:=AX_ (D.rm d AA)
def wg(C:Ζ)(m:Κ)(i:Δ)(sp:Bu)(t:cP):cu:=BTP (∃as fs ts,kT Agg/\uu)
def ur(i:Δ)(sp:Bu)(t:cP):cu:=BTP (∃a bs tt,kT Afn)
section
variable{X:Cx}{F0 H0:Hp}{e:AF}{es:CC}{Υ p IJ:AL}{x m:Κ}{C f:Ζ}{fd:E_}{ps:Ρ}{k i:Δ}{sp:Bu}{te:cu}{t:cP}
theorem Yo(he:Sm):A4z (yN te):=fun z E cx=>by
 refine tU (AUg D (z3f (te:=AL5 (HD AG F0 H0 te E σ H Q)) NM Ν s σ H D I q)) (LE D σ H Bz D2 Bz (ki (k.rm _ _ _ _ _ _ R1 r1 h1)))
theorem O9{z:Om}{E:XW}{Ν:fB}{s:AB}{σ:St}{F H:Hp}{Γ:G2}{us:An}{vs:AQ}{ds:AM}{a:Ζ}{bs:Bi}{tt:T}{P:A0M}{Q:VK}(Fn:Afa (nG AG sp))(hr:gI)(hb:AIf)(cx:AdK)
  (I:AYv) (R:AFS) (r:AO8) (rs:Av5) (e0:kT Afn) (h:BiU A4K A4K)
  (hQ:BfA):
  BAp AW7:=by
 show BA_;have hv:=Asp;subst hv;have hs:nG AG sp AkV H Q BbI:=
  ⟨F,a,bs,tt,ds,vs,_,_,Β,R.g,nd,FS ACW,rt,rs,h,fun t' d v cs F' H' gr nd' hn' HY rv hp=>hQ d _ F' H' v (R.back e0 gr nd' hn' HY) Kj rv (hp cs),fun x C dx t' cs F' H' gr nd' hn' HY xr hE=>⟨_,F',Ar6,R.back e0 gr nd' hn' HY,Kj,xr.bare,.A0 (by cases x<;>rfl),hE cs⟩⟩
 show AMz (AEh++ []) (by
  rw[RY];have:=AHr;rw[FI,<- OS,<- FI (a:=Ahe),Χ])
 have hbs:=hb s AW7 ik hl;show va;show ϫ i6 (wx X.A JU s H (AJA BQ) AW7 AkV Q _ hr I.env0 hbs A9Y hs) AEy;cases r with
 | ZI e=>exact Bcm hq
 | ok fl=>
  cases fl with
  | ret u=>exact I.after hq
  | JP=>show NR
  | brk=>show NR
  | NY=>show NR
theorem zpl{np:AL}{pl:APB}(G:AQh Ea)(hc:sq)(hr:gI)(hN:HL)(hv:OG)(ha:NJ)
  (XL)
  (hst:fF:=by rfl) (De:jp Υ es:=by rfl)
  (ht:ϥ BO7 (do
   let ov<- Ts AHN
   õ
   let (f,first)<- þ m pl
   Ă (ë HC) AAL):=by rfl):
  EG BO7 (wg C m i sp t):=by
 show Ap0;rintro z E cx Ν s σ H Q I ⟨F,Γ,P,R,⟨⟨as,fs,ts,e0,Jl⟩,h⟩,kk⟩;show BA_;obtain⟨a,dx,vs,bs,Β,Β,ea,_,Lb,_,_⟩:=rt;refine Aez (aE (xw tQ i hN hv hd hcd Ν s σ H (UC H1 (v= BQ/\H1=H)) I (AtJ e1)) u xZ) ht;obtain⟨x,H1,I1,rx,ex,eH⟩:=xZ;subst ex eH;show YI;refine BBy ea;show BBZ (bT (AeZ s1 H1 (A'D (pd F2) A4i (∃a bs tt,EX A4 Afn/\sp tt es (fun t' d=>∀cs,P d BKY) (Bhk BKY))) I1 (pf BCV))
  (ABx us xZ))
 obtain⟨ws,H2,I2,r,F2,A4,es,R2,Du,FQ,a',bs',tt,e2,q2⟩:=xZ;show F8 ALU;have ha' :a' =a:=by
  obtain⟨o,e3,v,Β,_,_,rt⟩:=A7H;rw[e1] at e3;cases e3;have:=Asp;show E3;rfl
 subst ha';exact O9 Fn hr hb cx I2 R2 r FQ e2 q2 fun d BY F' H' v R' s' rv hp=>kk d BY F' H' v R' (Du.trans s') rv hp
#where
def sW(h:AJ)(d:Ζ)(es:AWb)(ep:Δ):Θ:=∃o,AEV d/\BDg/\nk= Afs
theorem sW.at(x:AkE)(k:∀o,AEV d ->ACl d):Adr h':=let ⟨o,e,r⟩:=x;⟨o,k o e,r⟩
theorem sW.lt(x:AkE):Agy d:=let ⟨_,e,_⟩:=x;Se
theorem sW.typeIs{s:AB}{d:Ζ}{es:AWb}{ep:Δ}(x:AXk):AJn d dr :=let ⟨o,e,c,_⟩:=x;ş c.1
section
variable{CA:As}{w:AW}{A:BV}{E:eO}{s:AB}{d it:Ζ}{es:AWb}{ep i:Δ}
theorem yca{Q:eO}(hd:AtU d)(hm:AXk)
  (hQ:AX4 (af BHC #[.B0 d,ADi,yi FK,yi ep])):AjT d:=by
 show ax o ho hc hdat hm;have hT:=BHD;refine Asc hT Bnv (ADj Bnv hT PySem.F.entry_dict_iter PySem.F.args_dict_iter_1);unfold Builtin.«dict.__iter__»;refine k8;refine z6 (wpAny_notOrdered_dict hT ?_);refine z7 ?_;show APd (Bnw d);unfold Bnw;rw[UN (BhX hd)]
 show mI z7;refine UE Bnx ho hdat;refine UE Bny ho hdat;refine z6 (wf (z7 ⟨_,Β,BHC,_,AUn,PySem.F.slot_dict_keyiterator_next.lookup,?_⟩))
 simpa [OV] using hQ
theorem ycs(hit:BSI)(hm:AXk)(BD:AuH)
  (hQ:ACw (BLG h'.IsKeyIter) BLE (Q (Ε es[i].A9) UA)):AJf it:=by
 show ax o ho hc hd hit;show ax od hod hcd hdd hm;refine Ah2 (AN4 ASo Asq
  (ADj Asq ASo Bnz Bn0))
 refine AM7;show BgH;show Bcv BJH
 refine k8;refine Awv;refine z6 (wpAny_isOneOf_keyiter ASo ?_);show APd (Agd AHu 1 (Lu+1));refine z6 A'b
 have xC :BLG (s.heap.update it (Obj.mapFields (·.setIfInBounds 1 (rawInt ((i:Int)+1))))).IsKeyIter:=
  A_P
 show mI ĝ;refine z6 (wpAny_isOneOf_keyiter (s:={s with heap:=s.heap.update it (Obj.mapFields (·.setIfInBounds 1 (rawInt ((i:Int)+1))))}) hit'.typeIs ?_);exact z7 (z7 (Oy (z7 (hQ _ xC Av2))))
theorem ykl(hh:PU)(hit:BSI)(hm:AXk)(hge:FK<=i)
  (hQ:Ak6 BLF):AJf it:=by
 show ax o ho hc hd hit;show ax od hod hcd hdd hm;refine Ah2 (AN4 ASo Asq
  (ADj Asq ASo Bnz Bn0))
 refine AM7;show BgH;show Bcv (Ac0 hge)
 refine k8;refine Awv;show APd (Aca AHu 0 BI);refine z6 A'b
 refine k8;show LM A4_ (A1b (A7' A6c ?_))
 show A9k
 show mI AsM;show Sj AiN hh;show BQ';show BPq AUn;exact z7 (hQ _ BT4)
theorem yam(hh:PU)(I d:Ζ)(hne:d≠I)(es:AWb)(ep:Δ):
  Walks CA w A I [I,d] [I] FK AxD (UH h (h.IsKeyIter I d i FK ep/\AkE)) where
 BM:=BVa
 frame:=Ś st hk (A9f Ba4 (hk d A2 o e))
 VW:=BfF (ycs st.1 st.2 hi fun h' xC hs' =>hQ _ h' L' (Ŋ hi) (A9f xC (hs'.extBut d o hne e)) (BK5 hs'.extBut))
 LU:=fun s Q E st hQ=>ykl hh st.1 st.2 E2 fun h' he' =>hQ h' L' (BK5 he')
 RU:=AQq st hQ (wpAny_pyIter_keyiter st.1 hQ)
theorem z04{Q:Os An}(hh:PU)(hsm:AtU d)(hm:AXk)(hb:AyI)
  (h:∀(HU:An) (h' :AJ) tk,HU=AsU (·.key) ->BNa ->(Ami) ->Q HU ci):
  AL0 Ac1 d:=by
 show LP K (W.KdlSrc CA w dr d d FK AxD (Sl AkE)) {
  type:=M_ hm BHD
  ARS:=M_ hm ⟨hm.lt,hm.lt⟩
  KS:=fun _ _ hm hk=>(ACf hm.at (hk d UI o e))
  notList:=CD
  notTuple:=CD
  hint:=AQq hm hq (W.kdl_hint_dict BHD hq)
  Pl:=fun _ _ hh hm=>⟨_,_,(fun _ _ hq=>yca hsm hm hq),yam hh _ d (zK hm.lt) es ep,⟨iF,ACf hm.at pz⟩⟩} A9 (BMZ "proto.collect" (J' (ADb d)) (AMR Bgj)) (by
  refine AVY BnF;rw[AIP BnG];refine BWU;refine KI (AOG BGw BJ3);show BKd;have hm1:Adr (n_ kJ):=ACf hm.at pz;have hSl:=hm.lt;have hS:AmH kJ kJ:=T1;exact W.kdl_extend (s:=AT2 kJ) (R:=fun r s' =>Bgj) K hh hm1 BH (ADt hSl) (ADt hSl) ż 0 hS (fun h' tk A3 c' OZ hS' ĩ=>⟨h',tk,A3,c',Β,Β,OZ,hS',ĩ⟩) hb) (BTH (AcS A9 (ATS Bz)));obtain⟨h',tk,A3,c',er,es',OZ,hS',ĩ⟩:=Bz;subst er es';refine IP (load _) (ArO hS' ?_);refine KI ?_;refine h Asf h' tk ?_ (zG hS') (ALl ob (OZ b ob AY5 fh));show mM
 ·show BNU Ĝ;exact AVx
 ·intro j q1 q2;have hj:j<Ac2:=CU q1
  show PM BD (ĩ.2 j A3[j] (NA hj))
  simp [e]
#where
def jG{κ α:CL}[rL]:U1 ->CO ->κ ->CO
 | AJc,OF,k=>M' k' k (jG ks xs k) (x::jG ks xs k)
 | _,_,_=> []
def iK(AoQ)(ks:U1)(k:κ):U1:=ks.filter fun k' =>(Φ (k' ≠k))
theorem z1n(AoQ){k:κ}:ANQ ks U1 gL (vQ (Re vs) k=(iK ks k).zip BMy/\ So iK ks k=zS jG ks vs k)
 | [],_,_=>k7
 | DV,[],h=>D1
 | AJc,AEp,h=>by
  show AYo (z1n (ks:=ks) (vs:=vs)) AWK
  unfold vQ at h1⊢;unfold iK at h1 h2⊢;unfold jG;rw[ABS,Ps,Ps];show AYs
  ·rw[AhU,AhU,Hk];exact⟨h1,h2⟩
  ·rw[CH Ahi,CH Ahi,QY,ABS,h1];exact Hb (by rw[FI,FI,h2])
theorem zna(AoQ){K:Ω}{F:Hp}{k:κ}:BCI U1 (On (jG ks xs k) BMy)
 | [],xs,vs,_=>N9
 | DV,[],vs,h=>BkX
 | AJc,OF,vs,h=>by
  show kg v h1 h2 h;unfold jG;show AYs
  ·rw[Hk,Hk];exact zna h2
  show Axu (rW h1 (zna h2))
def Cg:Ρ ->HK ->Κ ->My T
 | m_,c_,g=>AZP (Ε t) (Cg fs ts g)
 | _,_,_=>Ι
def wj :A_ Ρ HK Κ T HK
 | m_,c_,g,t' =>AZP (t' ::ts) (t::wj fs ts g t')
 | _,ts,_,_=>ts
theorem z1z(ϻ){g:Κ}{t:T}:∀{fs:Ρ} {ts:HK} {vs:AQ} {bs:Bi},BTo ->Cg fs ts g=Ε t ->∃v b1 cs b2,AoR g=Ε v/\bs=AJu cs/\Ao7 cs/\
  BCX ds BO1 ds (Afm (wj fs ts g t') (AN6 ds))
 | [],_,_,_,_,e=>AV2
 | DV,[],_,_,_,e=>AV2
 | m_,t0::ts,_,_,h,e=>by
  show SK v vs' a1 a2 Β q1 q2 h;show Uf Cg;show A3V;by_cases hg:g=f
  ·rw[CH hg] at e;cases e;subst hg;refine⟨v,[],a1,a2,CY,Β,q1,fun{F' H' t' ds} s k r=> ?_⟩
   unfold wj;show sB;exact⟨v,vs',ds,a2,Β,Β,r,oP s ts vs' a2 (fg (k a ha)) q2⟩
  ·rw[B4 hg] at e;obtain⟨w,b1,cs,b2,g1,Β,g3,g4⟩:=z1z q2 e;refine⟨w,a1++b1,cs,b2,BH0 hg g1,CY,g3,fun{F' H' t' ds} s k r=> ?_⟩
   unfold wj;show CS hg;exact⟨v,vs',a1,AJu ds,Β,CY,ABR s t0 v a1 BKy q1,g4 s Bd9 r⟩
section
variable{X:Cx}{F0 H0:Hp}{ke EV e:AF}{es:CC}{Υ ī RD IJ Fh Ff x1:AL}{x f:Κ}{C:Ζ}{i:Δ}{tk tv:cu}{tf:cP}
theorem yju(ϻ){σ:St}{Γ:G2}{as:Bi}{fs:Ρ}{ts:HK}{t:T}(R:GT)(e0:kT Agg)(hl:Cg fs ts f=Ε t):
  ∃a dx vs v bs b1 cs b2,Ajf/\as=AWW/\P5 Azp/\ AoR f=Ε v/\bs=AJu cs/\oQ/\ Ama/\Ao7 cs/\
  BCX ds (∀c∈a::dx::(b1++b2),∀u,UB c u ->H' c=Ε u) ds (AHg (.ob C fs (wj fs ts f t')) E8 (a::dx::(AN6 ds))):=by
 obtain⟨o,e1,v,Β,nd,hn,r⟩:=Ŵ;obtain⟨a,dx,vs,bs,Β,Β,ea,ed,Lb,Yp,r⟩:=r;obtain⟨v,b1,cs,b2,g1,g2,g3,g4⟩:=z1z r hl;refine⟨a,dx,vs,v,bs,b1,cs,b2,e1,Β,ea,g1,g2,nd,hn,g3,fun{F' H' t' ds} s k rt=> ?_⟩;exact⟨a,dx,vs,_,Β,Β,k a A2 _ ea,k dx A2 _ ed,Lb,Yp,g4 s (fun c hc=>k c (by simp at hc⊢;exact ACq hc)) rt⟩
#where
theorem zvr:∀{fs:Ρ} {vs:AQ},AO9 ->f∉fs ->pL f y (Arz vs)=(ATk).zip (vs++ [y])
 | [],[],_,_=>Β
 | [],DV,h,_=>D1
 | DV,[],h,_=>D1
 | g::fs,AEp,h,hf=>by
  have hg:g≠f:=fc (hf (NA e))
  rw[ABS];unfold pL;rw[B4 hg,zvr AWK (fc (BH' hf e))]
  rfl
def yO(C:Ζ)(i:Δ)(f:Κ)(te:cu):aG:=AX_ (Bf2 (AX0 as BKw))
def Ec(C:Ζ)(i:Δ)(f:Κ)(tn:pG):aG:=WO D tn t (Bf2 (∀cs,AX0 A3c BKv))
section
variable{X:Cx}{F0 H0:Hp}{EV e:AF}{es:CC}{Υ ī Ff p:AL}{x f:Κ}{C fa:Ζ}{fd:E_}{ps:Ρ}{i k:Δ}{te:cu}{tn:pG}{sp:Bu}{t:cP}
theorem z2e(hc:sq)(hn:s_)(he:BPv)(hN:HL)(hv:OG)(XL)
  (hs:Agh P_:=by rfl):BXN Ec tn:=NS tU (DS z89 dE NM hs) Dn Be Be (pf (fun t AA F1 H1 v cs R1 s1 ndc hnc rt Ah=>by
  obtain⟨as,fs,ts,e0,hf,hl,Yp,q⟩:=Ah;obtain⟨o,e1,w,Β,nd,hn',r⟩:=AkN;obtain⟨a,dx,vs,bs,Β,Β,ea,ed,Lb,_,r⟩:=r;refine Bgk
  have A7:N0 AWW BWx:=FS ⟨_,_,e0,e1,hb⟩;have dis:N0 AWW (b∉cs):=BcZ;show A5Q;show BAe;rw[zvr Lb hf];refine AIV (Ac8 e0 e1 (EM (AUQ (A6a AyZ)) zY) (t:= .tr (AWW++cs) BKv)) ⟨_,Β,?_,NL,?_⟩ NL (q cs)
  ·exact BHB ⟨Az2 n1 (Az2 n2 n3),ndc,BAy (dis x hx (e ▸ hy))⟩
  ·show AKG
   ·exact hn' b hb
   ·exact⟨Z_ hnc,AMX hnc⟩
  ·have na:J_ (b∈bs) QQ:=BR';refine⟨a,dx,vs++ [v],Am_,Β,Β,iD,?_,C8 Lb,Yp,?_⟩
   ·rw[bW (Ae' n1)];exact ed
   ·have m:=A9p Anu BMG
    have l:=AvK ABR Anu IR t v cs BZL rt
    exact X8 m (Yb l)
  ·show AKG
   ·exact AeD
   ·exact BN5))
theorem Yq(hc:sq)(hn:s_)(he:AS3 EV)(hN:HL)(hv:OG)(XL)
  (hs:Agh P_:=by rfl):BXN yO te:=NS tU (DS z89 dE NM hs) Dn Al Al (Akd HN (by
  obtain⟨as,fs,ts,e0,hf,hl,Yp,q⟩:=HN;obtain⟨o,e1,w,Β,nd,hn',r⟩:=AkN;obtain⟨a,dx,vs,bs,Β,Β,ea,ed,Lb,_,r⟩:=r;refine Bgk
  have nd0:=nd;show A5Q;show BAe;rw[zvr Lb hf];refine AIV (Ac8 e0 e1 (EM (AUQ (A6a AyZ)) zY) (t:= .tr AyZ BKw)) ⟨_,Β,nd0,hn',?_⟩ AWa q;have na:J_ (b∈bs) QQ:=BR';refine⟨a,dx,vs++ [v],bs,Β,Β,iD,?_,C8 Lb,Yp,?_⟩
  ·rw[bW (Ae' n1)];exact ed
  ·have m:=A9p Anu BMG
   have l:fQ AG F1 (jn a Anu) [cK] [v] []:=Yb (EL (Hb rd))
   have:=X8 m l
   rwa [RY] at Χ))
def Ed(C:Ζ)(sp:Bu)(t:cP):pG:=VO Bbe
structure RG (Bia) (A8:AJ) (x:Κ) (C:Ζ) (k:Δ) (ps:Ρ) (sp:Bu):Θ where
 ex:∃f fd,Ad6 nG/\Mk K C f/\Av8/\ACg
 non:∀ds Q Ex,sp (.ob C [] []) ds Q Ex ->sp (.ob C [] []) ds (fun t d=>d= BE/\Q t d) Ex
theorem z5y(G:RG FH X.w AG iX OQ x C k ps sp)(hr:AJz)(hg:JE)
  (ha:NJ) (AL6):
  Æ gN (Ed C sp t):=by
 show Aoj M hm;show A5z M.kp (aE (Agt Bbe) us xZ) xZ;have I2:=BEn (C:=C) I1;show U2 n1 (zC Z3) Akr n2 Ajc Akq ne BNZ Ano;show Hc kp BTc AiZ sH (Id H1 AKC) BS7 hid (iJ BNv AKC=H1) (by
  funext b
  by_cases hb1:b=qA
  ·subst hb1;rw[zuo A2,n1]
  ·show A7M
   ·subst hb2;rw[zuo A2,n2]
   ·rw[zl2 (by simp [hb1,hb2]),bW hb1,Ai9]) hs (nG AG sp BJL AKC BMq (fun C' O4 H' =>∃BY F' x,AvI /\qf F' /\A'G/\ (Ar6=x\/J_ Ah5 (ABq BY b))/\E BY x)) (by
  refine⟨F1,qA,AuF,.ob C [] [],ds,vs,_,_,Β,A1n,C8 ne.symm,NL,?_,rs,G.non _ _ _ q,?_,?_⟩
  ·have:Ah5:=by
    show û
    ·exact n1
    ·show tm hb;exact n2
   exact BHF Χ
  ·exact⟨_,_,[],[],Β,Β,iD,A2U,Β,Β,Ayj⟩
  ·rintro t' d v cs F' H' gr nd hn rt rv ⟨ed,hp⟩;rw[hid] at gr hn;subst ed;exact⟨rv,kk t' AA F' H' _ _ AMr Aeq nd (Lo (AvR ACW hZ hZ)) rt hp⟩
  ·intro x C' O4 t' cs F' H' gr nd hn rt xr hE;rw[hid] at gr xr;exact⟨AA,F',x,AGJ gr,Kj,xr,AyD Asm,hE⟩)
 show AMz APA (by
  have e:=AHr;rw[FI,<- OS,<- FI (a:=Avz),e])
 show BZX APA
 show va;show BfU (AFz M.fn);show Ahs (wx _ JU _ _ (AJA Atu) APA _ _ _ Aky A1m hbs BRb hs) (ATS hq');cases r with
 | ZI e=>
  refine cx.pX Ν σ AA F1 H1 s1 e s' I1 R1 BM5;have u1:Un ϓ [] H1 ATi Ab0 AnE:=BTZ;have u2:Un ϓ [] ATi AKC AnE BaE:=ARU (AVi) A'R (Ë ne.symm n1)
  exact AsR u2
 | ok XH =>
  cases XH with
  | ret u=>
   obtain⟨v,H',I3,rv,ev,q3⟩:=BGT hq';subst ev;exact⟨rv,BXy⟩
  | JP=>show Ϩ
  | brk=>show Ϩ
  | NY=>show Ϩ
#where
def wu(C:Ζ)(m:Κ)(sp:d7)(te:cu):cu:=lj (ul (C' =C/\uu/\A5q))
section
variable{X:Cx}{F0 H0:Hp}{o:AF}{Υ IJ:AL}{m:Κ}{C:Ζ}{ps:Ρ}{k:Δ}{sp:d7}{te:cu}
theorem zv9(G:AQh Dv)(hc:sq)(hr:gI)(ho:AJQ)
  (ht:ϥ Anb (do
   let ov<- Ts o
   õ
   let (f,first)<- þ m pl
   Ă (ë []) AAL):=by rfl):
  EG Anb (wu C m sp te):=by
 show Ap0;show AH6;show Amk (Aol (ul (C' =C/\uu/\A5q)) An1) xZ
 obtain⟨x,H1,I1,rx,F1,AA,d,R1,sF,rd,q⟩:=xZ;cases d with
 | obj C' fs ds=>
  show AZu;have Ms:=rd;show AY_;show YI;show BBR I1 AmB;refine Bn1 (first:= PF) og hm.kp ?_;exact QX (us:= PF) (vs:= PF) Fn hr hb cx I1 R1 A2f (rW Ms KB) q BAS
 | _=>show ua
#where
section
variable{X:Cx}{F0 H0:Hp}{e:AF}{es:CC}{Υ p np:AL}{x y:Κ}{ps:Ρ}{k i:Δ}{sp:Bu}{t:cP}
theorem zo0(G:Bhr JC)(hr:gI)(hg:JE)(hN:EX X.N y)(hv:AYw)(ha:NJ)(hdb:To x (AKm :Κ):=by decide)
  (hd:To y (AKm :Κ):=by decide) (hcd:To y (ArC :Κ):=by decide)
  (he0:Ĺ A'1 AgC HC:=by rfl) (De:jp Υ HC:=by rfl):
  EG (AGc AdO A'1) (ur i sp t):=by
 show Aoj hm hk;rintro z E cx Ν s σ H Q I ⟨F,Γ,P,R,⟨⟨a,bs,tt,e0⟩,h⟩,kk⟩;show BA_;have hv' :=Asp;subst hv';refine AvV;have pa:PA K2 A'1 (Oe (LK i) (AS5 Ol)):=Qs dE F6 he0;refine Ach (h₀:=OQ) ASN hk (aE (pa Υ Ν s σ H (ACX H1 (∃F1 AA ds ws,vs= BQ::ws/\AMI/\yn/\aL AG F1 ds ws/\BjZ)) I ⟨_,e1,F,Γ,_,R,h,fun ds AA F1 H1 vs R1 s1 r1 h1=>⟨F1,AA,ds,vs,Β,R1,s1,r1,h1⟩⟩) us xZ) he0 De;obtain⟨vs,H1,I1,r,F1,AA,ds,ws,ev,R1,sF,rs,a',bs',tt',e2,q⟩:=xZ;show F8 og;subst ev;cases r with
 | AY r0 rr=>
  cases r0;have ha' :a' =a:=by
   obtain⟨o,e3,v,Β,_,_,rt⟩:=Au3;rw[e1] at e3;cases e3;have:=Asp;show E3;rfl
  subst ha';exact O9 Fn hr hb cx I1 R1 rr rs e2 q fun d BY F' H' v R' s' rv hp=>kk d BY F' H' v R' (Adt s') rv hp
#where
theorem zt9:Agc "proto.unchain" Builtin.«proto.unchain»:=entryFor_of_fast (by kernel_rfl)
section
variable{CA:As}{w:AW}{A:BV}{E:eO}{s:AB}
theorem zwe(hh:A6d)(ho:A0i)(hd:AkG)(h2:AU7)(ne:a≠e)(he:OR e=Ε oe)(hde:AcX= AGi ws)(hz:2<ws.size)
  (h:E (BA e) (Zl (AGF e (Obj.mapFields (·.setIfInBounds 2 (.ref a)))))):AL0 (Asb (α:=α)) e:=by
 simp only [Asb];refine xp AsM;rw[hh];have hne:(AME !=TD e)=Μ:=C8 ne
 simp only [hne,oC];refine ANg (BGh (Acw zt9 ?_));unfold Builtin.«proto.unchain»;refine z6 (Ari ho hd h2 ?_);show Go AD
 refine z7 ?_;refine z6 (z6 (ArO he ?_));rw[hde];show Ó (B5 (2<ws.size) _ _);show Go hz;exact wpAny_update he (BGJ h)
#where
def JD(i:Δ)(t:pG):aG:=WO D t tr ((BaI tr tr)/\∀a bs,AX0 Ty tr)
theorem TR.cons(ϻ):∀{t:T} {v:V} {as:Bi},AIC ->(BaI t t) ->∃a bs,as=ACd
 | cK,_,_,_,n=>WG Β n.1 d
 | .kt d,_,_,_,n=>WG Β n.2 d
 | à,_,_,h,_=>A'm
 | AD_,_,_,h,_=>A'm
 | AEd,_,_,h,_=>A'm
 | .ob _ _ _,_,_,h,_=>by obtain⟨b,_,_,_,_,e,_⟩:=h;exact DH _ e
theorem z6l(ADp){e:AF}{Υ:AL}{tn:pG}{i:Δ}{x:Κ}{Ff :AL}(hN:ie)(hi:HL)(hx:ADf)(he:ADk)(hs:AFY (Ch (FR x Ff)):=by rfl)
  (AXz):AoV JD tn:=NS tU (xw Wk i hN hi hx NM hs hf) D Be Be (AVC r1 (by
  show DT a bs Β r1.cons ū;exact Bds (.tr Ty t) (h1.2 a bs)))
structure Ci (BAZ um):Θ where
 ex:BBq vZ
theorem Ci.mt{P:As}{w:AW}{K:Ω}{mg:DU}{A8:AJ}{C:Ζ}{m:Κ}{k:Δ}{ps:Ρ}{sp:um}(G:Ci P w K mg A8 C m k ps sp):Dv P w K mg A8 C m k ps (Ax sp):=by
 obtain⟨f,fd,h1,h2⟩:=w8;exact⟨f,fd,BUf,h2⟩
def JF(C:Ζ)(m:Κ)(sp:um)(te:cu):pG:=lj (ul (C' =C/\uu/\BiP (A6 t (FF t))))
section
variable{X:Cx}{F0 H0:Hp}{o:AF}{Υ IJ:AL}{m:Κ}{C:Ζ}{ps:Ρ}{k:Δ}{sp:um}{te:cu}
theorem yfq(G:AQh Ci)(hc:sq)(hr:gI)(ho:AJQ)
  (ht:ϥ Anb (do
   let ov<- Ts o
   õ
   let (f,first)<- þ m pl
   Ă (ë []) AAL):=by rfl):
  Æ Anb (JF C m sp te):=by
 show Ap0;show AH6;show Amk (Aol (ul (C' =C/\uu/\A5q)) An1) Bea
 cases d with
 | obj C' fs ds=>
  show AZu;have Ms:=rd;show AY_;show YI;refine BBy AmB;refine Bn1 (first:= PF) og hm.kp ?_;have hs:Als vZ PF H1 AXH F1 H1 H1:=BeU _ (rW Ms KB)
  show AMz ([AME]++ []) (AX RY AHr)
  have hbs:=hb s1 PF og hl;show va;show ϫ i6 (wx X.A JU s1 H1 AVN PF PF Q _ hr I1.env0 hbs A2f hs) AEy;cases r with
  | ZI e=>exact Am4 hq
  | ok fl=>
   cases fl with
   | ret u=>exact BG4 hq
   | JP=>show NR
   | brk=>show NR
   | NY=>show NR
 | _=>show ua
#where
def yd:D ->Ĉ (Fs×AM)
 | AB' xs=>Ε (ks,xs)
 | A3i=>Ε (ks,xs)
 | _=>Ι
def gA:Fs ->AM ->Key ->AIz
 | AJc,OF,k=>M' k' k (Ε x) (gA ks xs k)
 | _,_,_=>Ι
theorem Mz(OI){d:D}{v:V}{ks:Fs}{xs:AM}(h:Afd)(r:Qr):∃a vs,v= BQ/\Rd F a œ/\gL/\AHe:=by
 cases d with
 | dic ks' xs' =>
  cases (h);show x6 a vs e l rs r;exact⟨a,vs,Β,.A0 e,l,rs⟩
 | dik ks' xs' =>
  cases (h);obtain⟨a,o,vs,Β,e,l,rs⟩:=r;exact⟨a,vs,Β,.AZ (rV e),l,rs⟩
 | _=>cases h
theorem zlc{K:Ω}{F:Hp}{k:Key}:BCI Fs ((∀d,A5V ->AkY Bda)/\ (gA ks xs k=Ι ->nu Ń k=Ι))
 | [],xs,vs,_=>by
  show Db (BO d h) AWB;cases h
 | DV,[],vs,r=>by
  subst r;show Db (BO d h) AWB;cases h
 | AJc,OF,vs,r=>by
  show AY1;have ih:=BYw k r2;unfold nu at ih⊢;show BKC;unfold gA;show AYs
  ·show Db (BO d h) AOj
   ·rw[Hk] at h;cases h;exact⟨v,Ah_,r1⟩
   ·rw[Hk] at h;cases h
  ·show CS q;simp only [q,BG'];exact ih
def Ef:H_:=Ò (∃ks xs k d,Fr yd (ks,xs)/\y=o8 k/\A5V/\P d)
def MF(neg:AO):H_:=Ò (∃ks xs k,yk y ks xs/\x=o8 k/\XG (B5 neg (! Alo) Alo))
def Pa(td ty tx:cu):cu:=WB td d (A_3 (Ť ty kd (tx A4 (fun df Γ3=>∃k,kd=o8 k/\P ((gA ks xs k).i4 df) Γ3) E)))
def z3r:VC:=AMD [d] (A_3 (XE Pw))
section
variable{X:Cx}{F0 H0:Hp}{a b o e f:AF}{Υ IJ Fh:AL}{ta tb td ty tx:cu}
theorem zs2(hu:g6)(ha:ck)(hb:ϖ)(hs:Mf b:=by exact AO7):AkK a b (cB Ef ta tb):=fun z E cx=>
 pB (DS z9v hu F6 Q2 hs) (LE σ H Q DK P DK (AY3 (by
  obtain⟨ks,xs,kk,d,e1,Β,hl,hp⟩:=h2;show x6 c vs ec hkl rs (Mz e1 (ALN s2));have ev:=Jz r2;subst ev;show EQ v hv rv (zlc rs).1 d hl;exact⟨c,v,Β,A5i hv.symm,Bhj rv hp⟩)))
theorem ynp(hu:g6)(ha:ck)(hb:ϖ)(hm:Atn .In):BUN .In AC:=fun z E cx=>
 QK (DS z3a (DS ym7 hu F6 Q2) hm) (LE σ H Q DK P DK (AY3 (by
  obtain⟨ks,xs,kk,e1,Β,hp⟩:=h2;show AJ5 r2;have ev:=Jz r1;subst ev;refine⟨c,_,Β,A5i Β,_,Β,?_⟩;rw[zz0 hkl];exact Bfn)))
theorem yjn(hu:g6)(ho:EG o td)(he:AI6 ty)(hf:EG f tx)(m:Bf_):EG (ABo (ļ o "get") [e,f]) (Pa td ty tx):=fun z E cx=>
 pB (AZh yct (Rs ho) NM hf BZ4) (LE σ H Q DK P DK (ALp d1 v1 (by
  obtain⟨ks,xs,e1,h1⟩:=h1;show AJ5 r1;exact⟨c,Β,.A0 (Lm AlN),F1,AA,_,R1,h1,fun d2 A4 F2 H2 v2 R2 s2 r2 h2=>⟨F2,A4,_,R2,h2,fun d3 Γ3 F3 H3 v3 R3 s3 r3 h3=>by
   show AHt kk hp h3;have ev:=Jz r2;subst ev;have q:=BYw kk (AGS (eQ s3));refine DH (.A0 ⟨_,kk,Ir (eQ (BFZ R3.g)) ec,Β,Β⟩) ?_;cases el:gA ks xs kk with
   | Ι=>
    rw[q.2 el];rw[el] at hp;exact k d3 Γ3 F3 H3 v3 R3 Akx r3 hp
   | Ε d=>
    show EQ v hv rv q.1 d el;rw[hv];rw[el] at hp;exact k d Γ3 F3 H3 v R3 Akx rv hp⟩⟩)))
theorem yf4:APP AKc z3r:=by
 show vz;show DJ z3r;show E4
 ·show ý rd rs;show j' ks xs e1 h;show AJ5 rd;show Su;cases rx;refine yok I (Ir sF ec) fun t s' I' =>⟨.AK Pw,H,I',D_ t,Ñ⟩
  show AU5 hkl
 show JI
#where
section
variable{X:Cx}
theorem zwr(he:my)(I:AS)
  (h0:te σ H Q0) (h:∀v H1,Q0 v H1 ->∃a AH,v= BQ/\Rd H1 a Op/\∀(s1:AB) (ws:A0h) (ep:Δ) (r:Ζ),cr (AIy s1) Ad7 ATp A0S Al1 (s1.heap.IsValuesView r a) (MR r s1))
  (TZ:Aep) (ZO:z_):
  AGo (js Aet) Q:=by
 refine BAj (he Ν s σ H _ I h0);obtain⟨x,H1,I1,r1,q0⟩:=Bz;obtain⟨a,AH,ex,ea,q⟩:=h x H1 q0;subst ex;show ł v r1;show BCP ea;refine BUb Bns;obtain⟨hz,_,ws,kv,dd⟩:=Io ASL ea;refine ASB BG9 hT Bnt BkW BMz (D_ ⟨ws,dd⟩);obtain⟨o,es,ep,h1,h2,h3,h4⟩:=id dd;have hm:Al1:=BAK h1;have vw:BUW:=iF;exact q _ ws ep _ (ArL y_) hsm hz kv Ax_ vw
theorem z4k{ks:Fs}{vs:AQ}{ws:A0h}{A3:KF}(hkl:gL)(kv:KV (Re vs) ws)(h1:Ac2=Mm)(h2:∀(i:Δ) (u:AE),EX A3 u ->∃k,EX ws (k,u)):IZ vs Asf:=by
 have hl:=xD;show BUt hl;refine zhd (by show Sj (acc.toList.length=Ac2) Ĝ;omega) BAQ
 obtain⟨k,e3⟩:=BVm h2
 show EQ v e4 r Ru kv e3;have:=(U3 e4).2;show B8 e1;show E3;exact r
theorem ycd{e:AF}{te:TE}{IJ Fh Υ p:AL}(hc:FX)(hg:Ai5)(hm:Aiq)(he:my)(BQ7)
  (AqJ):
  PE X BYG (O_ te v (∃(a:Ζ) (ks:Fs) (vs:AQ),v= BQ/\Rd H1 a œ/\gL/\Ba1 ad)):=by
 show HP;refine Apm (ϐ hb)
 refine AyK ?_ he2;show A7Z Bfk;obtain⟨a,ks,vs,ev,ea,hkl,q⟩:=hq;refine⟨a,Re vs,ev,ea,fun s1 ws ep r I1 hsm hz kv hd vw=> ?_⟩;refine Aik;have U4:=xD;refine W.kdl_call (BCO Bn2) BID A6g Η fun h' tk A3 c OZ hg hac=> ?_
 have hv:=z4k hkl kv hac.1 hac.2;have Jp:=hv.length;show BUt hz;have I2:BSs (Beu ad):=
  vc (AK2 (t' :=tk)) OZ E2 ad (BWv Τ)
 exact BWq Axv
theorem yh2(hc:FX)(hg:Gl X Đ)(hm:O0 Đ)(he:my)(hb:AtX Đ (V' Đ):=by show pe)
  (AqJ):
  PE X BbP (O_ te v (∃(a:Ζ) (ks:Fs) (ns:BS),v= BQ/\Rd H1 a (.dK (Re (wt ft)))/\Pw=IG/\Q BkG H1)):=by
 show HP;refine Apm (ϐ hb)
 refine Bl3 ?_ he2 Β;show A7Z Bfk;obtain⟨a,ks,ns,ev,ea,hkl,q⟩:=hq;refine⟨a,Re (wt ft),ev,ea,fun s1 ws ep r I1 hsm hz kv hd vw=> ?_⟩;refine Aik;have U4:=xD;have hlk:Mm=IG:=by rw[<- U4,Ac7,Da,<- hkl,ALY]
 have K:=BCO (N1 Bn2 CA FH w X.w r r d a);refine call_sum_walkAnyS ?_;obtain⟨oI,St,hit,W,st⟩:=K.iter X.A.in1 s1 BID A6g;refine hit _ _ ⟨ES,_,_,_,_,_,_,FV ACe,Β,W.toS,st,NL,Ap i u hu,Ap s' t' hm'⟩
 ·show AxV;show A8I
  ·rw[e];exact AOQ
  ·show tm hb;exact Bjr (K.there _ A6g).2
 ·obtain⟨k,e3⟩:=hu;show EQ v e4 rv Ru kv e3;have e5:=(U3 e4).2;rw[Ic] at e5;cases en:ns[i]? with
  | Ι=>show UV en e5 e5
  | Ε n=>
   rw[en] at e5;cases e5;show š (BDY A3d t);show Agx en;exact rv
 ·have hk:Bin Asi:=NC (hm'.heap b o (A6 hI (tq zG e (ANk hI (yS _)))) fh)
  rw[hlk,z5v ns _ (UH _ Β),Moved.eq_with hm'];exact zo5 (s:=s1) (v:= .AK ns.sum) I1 hk FG q
#where
def Eh(m3):cP:=lj (A_3 (FF xs))
def Pb(m3):cu:=lj (∃ks xs ns,Afd/\AmT/\FF BkG)
section
variable{X:Cx}{F0 H0:Hp}{e:AF}{IJ Fh Υ p:AL}{te:cu}
theorem z1g(hc:FX)(hg:Ai5)(hm:Aiq)(he:Sm)
  (AqJ):
  AHL BYG (Eh te):=fun z E cx=>
 pB (DS ycd hc hg hm NM UM TZ ZO he2) (Ϻ Al (by
 show NO Al;refine ki ?_;obtain⟨ks,xs,e1,h1⟩:=h1;show AJ5 r1;refine⟨c,ks,vs,Β,AlN,hkl,Aj0⟩;obtain⟨R2,q1,q2,q3,ap⟩:=Iz R1 hq0 rs;exact BYl rs))
theorem yjk(hc:FX)(hg:Gl X Đ)(hm:O0 Đ)(he:Sm)
  (AqJ):
  EG BbP (Pb te):=fun z E cx=>
 pB (DS yh2 hc hg hm NM UM TZ ZO he2) (Ϻ Al (by
 show NO Al;refine ki ?_;obtain⟨ks,xs,ns,e1,hns,h1⟩:=h1;show AJ5 r1;show A5I;exact⟨c,ks,ns,Β,AlN,HH hkl Da,AVv KB⟩))
#where
theorem ymz(OI)(k:Key):Rep K F (o8 k) (kV k):=by
 cases k with
 | A0 i=>rfl
 | AZ x=>rfl
def Pg(tn:pG):cu:=AZQ (ĸ t ó (FF A_h))
def Ei(i:Δ)(t:aG):aG:=A2v (∃as ks ts,kT (AU_ ts)/\t D (ō (.pu A_h)) E)
section
variable{K:Ω}{F0 H0 F H:Hp}{σ:St}{Γ:tJ}
open ww in
theorem SR.nailU{w:HO}(R:GT)(hn:AWn A_f):
  ∃F',Fu /\xi F' (AXK w)/\GY F' w/\ (aT bs (QQ ->∀u,AEJ ->MQ F'))/\A_0 ACd:=by
 have sF:pd (Ad4 AWI (xz (b∈bs) H (F b))):=ah (by
  show UK (AQm AWI H F);show Ì (E9 (AkI BI1)) (BYW hb)
  exact e)
 refine⟨_,sF,BgL R.chg w,EB,GN b hb z u hu,NL⟩
 ·show AAG (AQm AWI H F);show YA
  show BQ0 e'
  ·rw[AHv] at e';rw[bW hb];show cq
   ·exact e'
   ·exact A3g
 ·show AAG (AQm AWI H F);show YA
  ·subst hb;exact(hn b zY).2
  ·rw[AHv] at e';show cq
   ·rename_i hm;exact BZj
   ·rw[n] at e';cases e'
 ·exact(RR z).JY ((Y2 hb).JY hu)
 ·rw[ą,not_or] at hb;exact(RR hb.1).JY (RR hb.2)
theorem SR.nail(R:GT)(nd:Azr)(hn:AWn A_f)(ea:P5 œ)(hkl:gL)(r:BTo):
  ∃F',Fu /\xi F' (AXK Avo)/\ALz A_h E8/\A_0 ACd:=by
 obtain⟨F',sF,R',e,k,k2⟩:=R.nailU (w:= .frz o œ) hn;exact⟨F',sF,R',⟨a,o,vs,Β,e,hkl,ALE sF ts vs bs (fun c hc=>k c hc (AI3 AIX hc)) r⟩,k2⟩
#where
section
variable{X:Cx}{F0 H0:Hp}{e:AF}{st:AN}{tn:pG}{ts:aG}
theorem ykr(he:ADk):AI6 (Pg tn):=A5Z (by
 show NO hq;refine bT (he z E cx Ν s σ H (UC H1 (BMr (∀o,Q E8 A0a))) I A8l) (Tu u Bz)
 ·show g_
  ·rename_i ks ts;show AAa;refine⟨a,_,Β,ea,G1 o⟩;obtain⟨F',sF,R2,rp,_⟩:=R1.nail (o:=o) nd hn ea hkl r;exact k _ AA F' _ _ R2 AWx rp h1
  ·exact xA
 ·obtain⟨x,H1,I1,r1,a,AH,ex,ea,q⟩:=Bz;subst ex;show ł u r1;obtain⟨_,_,ws,kv,o,es,ep,h1,_⟩:=Qw ASL ea;exact LL BQ BYq (q o))
theorem ya3(i:Δ)(h:P7 st ts):P7 st (Ei i ts):=fun z E cx Ν s σ H D I hq=>by
 obtain⟨F,Γ,D2,R,⟨as,ks,tr,e0,hp⟩,k⟩:=hq;obtain⟨o',e1,v,Β,nd,hn,r⟩:=Ŵ;show AAa;obtain⟨_,_,ws,kv,o,es,ep,h1,_⟩:=Qw MC ea;obtain⟨F',sF,R2,rp,_⟩:=(AcW e1).nail (o:=o) nd (Lo ⟨ACW,hZ,ASJ e0 e1 (EM (gW (AgK Ty tr) AG1 b) hb)⟩) ea hkl r;have R3:=R2.set i rp;show AZD R3;exact h z E cx Ν s σ _ D (zuq I ea h1) ⟨F',_,D2,R3,hp,Acf sF⟩
#where
def RJ(i:Δ)(tk tv:cu):aG:=A1h ((∃as t,AMN (.tr as t))/\Ť tk kd (∃k as ks xs,kd=o8 k/\EX A4 (AU_ Af7)/\AHK Pw/\TM (Γ2.set i (.tr as (P6 (iI ks k) (AIO ks xs k d))))))
section
variable{X:Cx}{F0 H0:Hp}{ke EV:AF}{Υ ī Ff :AL}{x:Κ}{i:Δ}{tk tv:cu}
theorem z07(hu:g6)(hN:HL)(hv:OG)(hk:EG ke tk)(hval:A6v)(hs:AXr P_ ke:=by rfl)
  (XL):AVd (AMt P_ ke) (RJ i tk tv):=NS tU (AZh zuk dE AyT hval hs) Dn Bz Bz (Akd Be (by
  obtain⟨⟨as,t,e0⟩,q⟩:=Be;obtain⟨o,e1,w,Β,_⟩:=AkN;refine⟨w,e1,F1,AA,_,R1,q,fun kd A4 F2 H2 y R2 s2 rk q2=> ?_⟩;show SK kk as' ks xs e2 hl q2 q2;obtain⟨o,e3,w',Β,nd,hn,r⟩:=A7H;rw[e1] at e3;cases e3;show AAa;show AZr r;have ev:=Jz rk;subst ev;refine⟨a,_,Β,BZQ,?_⟩
  rw[zub hkl];refine T' (R2.wrT e2 e1 (EM BTd zY) (t:= .tr [a] (ACm (iI ks kk) (fu ks xs kk d).B6)) ⟨_,Β,nd,hn,?_⟩ AWa) kF q2;exact⟨a,_,[],Β,Β,iD,z0i hkl,K9 (zps rs (rd.up s2))⟩))
#where
def zv1:UO:=AMD [d] (∃xs:Ρ,∃ys,yk d (d4 WI) ys/\Ac6/\BU<64/\∀ms:Ρ,ASV xs ->Au_ ->AVQ .AT)
inductive FZ (AaK):Θ
 | mk:∀(q:Ζ) (AH:sC) (xs:Ρ),(vs= ADb q) ->(Rd H q Op) ->Hm (kvs.map (·.1)=xs.map .inr) (Ac6) (BU<64) (BcH (ASV xs)) (AMg FZ)
def RK(X:Cx):u_:=AX8 FZ
theorem z42(AFI):Ř S_ (RK X):=by
 rintro Ν s σ H xs us Q I r ⟨q,AH,ys,e0,hq,hk,nd,h64,k⟩;subst e0;show Su;cases rx;obtain⟨hz,hsm,ws,kv,ob,es,ep,hd⟩:=Io MC hq;obtain⟨ho,hec,hdt,hko,hpr,_⟩:=hd;have U4:=xD;have hlk:wS=OW:=CU (OT Ki hk)
 show LP hls (FK=Mm) (AUi hpr.length Ĝ) ABO AWo CD (zmz (z04 BOd hsm ⟨ob,ho,hec,hdt⟩ Η fun HU h1 tk hv BD OZ=> ?_))
 show LP rv (IZ (ALa AGY) HU) (by
  have l1:C7 ALa AGY=OW:=Da ..;have l2:BGt=FK:=by show BNU hv
  refine zhd Η BAQ
  show AVy hv e2;cases ee:Aqr[i]? with
  | Ι=>show UV ee e2 e2
  | Ε e=>
   rw[ee] at e2;cases e2;have hi:Ax8:=BMI (SW ee)
   have e3:EX ws gy:=zZ hi;have e4:=(hpr.get? ee e3).1;obtain⟨v5,e5,_⟩:=Ru kv e3;have e6:EX (kvs.map (·.1)) gy.1:=AJV e5
   show AVy hk e6;rw[Ic] at e1;cases ey:ys[i]? with
   | Ι=>show UV ey e1 e1
   | Ε y=>
    rw[ey] at e1 e6;cases e1;have e7:gy.1= .AZ y:=CU e6.symm
    have e8:vO gy.1 e.key=Μ:=e4;rcases Fq e8 with ⟨j,t,z,_⟩ | ⟨x,t,z,zz⟩
    ·rw[e7] at z;cases z
    ·rw[e7] at z;cases z;show IE (AGY y) e.key;rw[zz];exact uv) Jp BKc BMC ⟨Rr ys,_,_,AX Jp (z0e nd),Τ,z1p rv,BH6,BCj hl⟩
 have hlt2:Aja:=zO (ĕ BD) hle;have hix:AXs BSu:=X2 (AgJ Jp A9g)
 have hrv:=zp0 rv hix;rw[zpe (d:=PY) BKM] at hrv
 have hms:(eS PY ys is).OY ys:=zvj (DC Jp a1)
 have GH:BRF:=BJT
 have I2:KM l AnJ ci:=
  vc APy (BCK OZ) hlt2 AnJ (A'T hl)
 exact LL Q1 I2 BdF
section
variable{X:Cx}{F0 H0:Hp}{a:AF}{Υ p:AL}{t:cP}
theorem z2f(hc:FX)(hg:Gl X S_)(hm:O0 S_)(ha:ANl)(BjM)
  (he:AeA:=by rfl):AVe (AVX S_) zv1:=fun z E cx=>by
 refine BjJ (AQB Wt (z42 hc) hb AD AD)
 show NO Bz;refine a_ ?_;unfold zv1 at h1;show g_
 ·show ý r1 r1;obtain⟨xs,ys,e1,nd,h64,h1⟩:=h1;show AJ5 r1;refine⟨c,_,xs,Β,AlN,?_,nd,h64,GN l2 ms hl2 pm pw⟩
  ·rw[List.map_fst_zip Η]
  ·obtain⟨R3,q1,q2,q3,ap⟩:=Iz R1 hl2 (Yh (K:=AG) (F:=F1) ms);exact BYm (h1 ms pm pw)
 ·exact xA
#where
theorem hu1(h:ATG n):n+1<ABM:=zL (Nat.add_le_add_left (AWj (1<=21)) _) h
theorem qv(i:Δ)(hN:HL:=by exact Β)(hv:OG:=by first | exact Or.inl Β | exact Or.inr (Or.inl Β) | exact Or.inr (Or.inr Β))(XL):EG å (cV i):=yl1 hN hv hd hcd
#print L3
namespace Hd
open IB AKP Aqb JO
theorem yb4{l:Axh}{i a:Δ}(e:ACr (Ie i l).wn):∃k,a=i+k/\IM l k o/\MM o.isFreed:=by
 induction l generalizing i with
 | DB=>cases e
 | AY b r ih=>
  show Uf Ie;show tI
  ·show DT k hk hr ih e;exact⟨k+1,Τ,hr⟩
  ·rename_i hf;rw[i7] at e;show tI
   ·show L6;cases e;exact Nw 0 (AFz q) hf
   ·show DT k hk hr ih e;exact⟨k+1,Τ,hr⟩
theorem yng(h:AJ)(n:Δ):(cut h n).In h:=Ll e (by
 obtain⟨k,hk,hr,hf⟩:=yb4 e;rw[hk,BGi];exact Heap.get?_some_iff.mpr ⟨DC AsT hr,hf⟩)
noncomputable section
theorem size(AX2):((AKQ AKR).isNs nX&&(BC' []:ſ).size==0,AGp AKQ AKR,(AKQ AKR).nsMap nX "__annotations__")=(Μ,11,ann):=mP
theorem left
  (e:opening p=plainProg p.main.scope.names) (f:∀s,fenceModules? p s=Ε s)
  (hA:∀w os,topGo TC p w 11 ann 12 A2i Az4=Ε (Bdt,⟨denote TC (cB p),cB p,z,AYg⟩))
  (hB:∀w os,segRun TC p w 11 ann 1 1 A't (blockOf BIj (BN p) (cB p) z AYg)=Ε (AC_,Bdt,cB p,z))
  (hC:∀w os,(Ta A't).abs=fore TC topGo p w os)
  (hD:∀w os,shot TC topGo segRunT topRun execs p (F_ openSeen p q VT Xt obs n w) w os=Ε (BSf (cB p) (openGood q VT))):
  LeftO p q VT Xt (A6 s Apb) good 40000:=HG (by
 obtain⟨⟨h,gs,d,k,os⟩,e1,e2⟩:=zE.mp (boot_open (N:=40000) e AD f w)
 obtain⟨Β,Β,Β,Β⟩:h=AKQ AKR/\gs=BC' []/\d=boot_drawn/\k=boot_toks:=CU e2
 obtain⟨z1,z2,z3⟩:_/\_/\_:=by simpa only [Prod.mk.injEq] using size w
 obtain⟨⟨fl,S,c,ps⟩,r1,r2⟩:=Bn3 (hD w os);show DT s t1 t2 zE.mp r2;show DE u1 u2 ASp t2;show DE v1 v2 ASp u1;show DE y1 y2 ASp u2;show DE y3 y4 ASp y2;subst v1 v2;have g1:topRun TC p w 11 ann (30000+2) A't (restOf (BC_ p++ []) (BN p) (cB p) z AYg)=Ε s:=
  piece_app (by have:=segRun_of r1;show B8 (hC w os);exact Χ) (piece_nil t1)
 rw[RY] at g1;have g2:=go_top (hA w os) (piece_block (hB w os) g1);have g3:=topRun_mono (40000 - (12+ (1+ (30000+2)))) _ _ _ _ g2;unfold openEnds;rw[e1];show DF (topFrom TC p w 40000) A2i _=_;unfold topFrom S0;dsimp only;rw[z1,z2,z3];have g4:topRun TC p w 11 ann 40000 BdI Az4=Ε s:=g3;rw[g4];show(AN5 BgS (Ε s) Ι).B6 _=_
 rw[y1];show Ε (BeI openSeen,Apb)=_;rw[y3,y4])
#where
open L2 L3
theorem adr_of(h:isRef x=Μ):x=Ε (Ch (BA (adr x))):=by
 show DJ isRef;show E4
 ·rfl
 ·cases h
theorem ix{_:BHG p}(h:allB l=Μ)(i:Δ)(e:nth l i=VV p):p:=by
 refine wy (Bn4 ?_);clear e;induction l generalizing i with
 | DB=>rfl
 | AY b l ih=>cases b with
  | AC=>cases h
  | Μ=>cases i with
   | Tb=>rfl
   | Th i=>exact ih h i
theorem zx1{K:IY}{f:Ζ}{EI:Κ}{g:E_}(h:fnO K f EI=Ε g):∃oc od fd sl,AoA (.func fd) sl/\codeIn K fd.code EI=Μ/\keepIn K Lc=Μ/\G_ fd=g:=by
 show DJ fnO;show E4
 ·rename_i oc od fd sl e;show E4
  ·show L6;show DE q1 q2 Bn5 q;exact⟨oc,od,fd,sl,e,q1,q2,zF h⟩
  ·cases h
 ·cases h
theorem z9n{fd:E_}{x EI:Κ}{st:AN}{dV:AE}(h:G_ fd=fnOf x EI AH3 k_ xj dV BI BI BI Ι BI BI):
  fd=fnOf x EI AH3 k_ xj dV fd.kwdefaults fd.doc fd.pyModule fd.annotations fd.code fd.closureTuple:=by
 obtain⟨⟩:=fd;injection h with h1 h2 h3 h4 h5 h6 h7 h8 h9 _ _ _ _ _ h10;subst h1 h2 h3 h4 h5 h6 h7 h8 h10
 rfl
theorem fun_of{K:IY}{f:Ζ}(AAX){st:AN}(h:fnO K f EI=Ε BCi):∃fd,AY6:=by
 obtain⟨oc,od,fd,sl,e,c,k,b⟩:=zx1 h;exact⟨fd,Bgo (z9n b)⟩
theorem ylb{K:IY}{f:Ζ}(AAX){st:AN}(h:fnD K f EI=Ε BCi):
  ∃fd T RL dn RM,BYa EI/\YR T=Ε (BBT #[BI]):=by
 obtain⟨g,h1,h2⟩:=Bn3 h;obtain⟨oc,od,fd,sl,e,c,k,b⟩:=zx1 h1;split at h2
 ·show L6;subst b;unfold V0 at q;show XZ
  ·rename_i T hT;show XZ
   ·rename_i t RL xs dn RM eT;show DE q1 q2 Bn5 q;show SH (AFz q1);have q3:xs= #[BI]:=by
     split at q2
     ·rename_i ex;exact Bmj ex
     ·cases q2
    subst q3;refine⟨fd,T,RL,dn,RM,Bgo (z9n (dV:= .B0 T) ?_),eT⟩;have h3:=zF h2;have h4:(G_ fd).BCz= .B0 T:=hT;generalize G_ fd=g at h3 h4⊢;obtain⟨⟩:=g;injection h3 with a1 a2 a3 a4 a5 a6 a7 _ a9 a10 a11 a12 a13 a14 a15;subst a1 a2 a3 a4 a5 a6 a7 a9 a10 a11 a12 a13 a14 a15 h4
    rfl
   ·cases q
  ·cases q
 ·cases h2
theorem z9k(BYh V1):∃f,ApB/\fnO K f x=Ε g:=by
 show DJ V1;show E4
 ·rename_i e;exact DH e h
 ·cases h
theorem z6v(BYh fnM):∃f,ApB/\fnD K f x=Ε g:=by
 show DJ fnM;show E4
 ·rename_i e;exact DH e h
 ·cases h
theorem fun_at(BYg V1):∃f fd,ApB/\Au x x st:=
 let ⟨f,e,h⟩:=z9k h;let ⟨fd,F⟩:=fun_of h;⟨f,fd,e,F⟩
theorem funM_at(BYg fnM):∃f fd T RL dn RM,ApB/\BYa x/\YR T=Ε (BBT #[BI]):=
 let ⟨f,e,h⟩:=z6v h;let ⟨fd,T,a,b,c,F,d⟩:=ylb h;⟨f,fd,T,a,b,c,e,F,d⟩
theorem seen_cons{K:IY}{d:Κ×AN}{ds:Aim}(h:seen K Ai0=due Ai0):V1 K d.1=BZw/\seen K ds=due ds:=yX h
def Ph:Sum Ψ Κ ->D
 | AOT=> FU
 | Ũ=> ç
theorem zms{K:IY}:BcX (∃vs,IZ vs xs/\∀F,On (as.map Ph) vs)
 | [],as,h=>by cases h;exact⟨[],EO,fun F=>N9⟩
 | v::r,as,h=>by
  show BNh
  case AK i t=>
   show A'_;obtain⟨vs,q1,q2⟩:=zms (K:=K) e;exact Bb2 FU
  case AT x t=>
   show A'_;obtain⟨vs,q1,q2⟩:=zms (K:=K) e;exact Bb2 ç
theorem zw2:BcX (AVD as.length)
 | [],as,h=>by cases h;rfl
 | v::r,as,h=>by
  show BNh
  all_goals (show A'_;simp [zw2 e])
theorem glb_tup{K:IY}{h:AJ}{mg:DU}{x:Κ}{as:EC Agm}(X:Sn)(G:A1k)(q:isRef (nsIn K nX x)=Μ)(l:tupO K (adr (Ath nsIn x))=Ε as)(hz:D5 as.length):Rh K mg x (IO (as.map Ph)):=by
 unfold tupO at l;split at l
 ·rename_i t od xs n sl e;split at l
  ·rename_i et;subst et;exact L3.glb_tup (mg_of X G (adr_of q)) e (BMI (zw2 l)) (zms l)
  ·cases l
 ·cases l
theorem walk_ex{l:AcQ}{n k:Δ}{q:As}{VT:Ρ}{XP:AT0 (DU)}{YP:AT0 AW}{d:Aqf}{Fx:DD AW IY}{CX:AW ->K3}{sp:IY ->Sp}{x:Κ}
  (hn:A6e) (hn2:D5 n) (hdf:BI5) (hr:BIA)
  (hY:∀(w:AW) (h:AJ),YP w h ->∃K:IY,Sn/\Fx w K)
  (F:∀(w:AW) (K:IY) (mg:DU) (fa:Ζ) (h:AJ),A_ (Fx w K) Sn A1k BLz (∃fd:E_,(BT0)/\∀b:AJ,Ĕ b ->AeS b.Ns ->eU ASE w K mg b (CX w) k fa fd [x] (sp K)))
  (hsp:∀(K:IY) (H:Hp) (a:Ζ) (ns:BS),Aia ->Only H ->Aoq ->sp K PF H A7L ű)
  (hCX:∀(w:AW) (H:Hp) (s:AB) (e:AE) (s' :AB),CX w [] H s (ű) e s' ->D8):
  BUZ:=by
 refine Att.BJ hn hdf fun w NX EJ mg mb fa o pm cd doc a vs ns G Y ho hd hcd hmg hobj hints GH hg=> ?_;obtain⟨K,KX,fx⟩:=hY w _ Y;obtain⟨fd,hb,hF⟩:=F w K mg fa _ fx KX G.T.g hmg;exact yc4 KX G.T.g G.T.b G.T.builtins G.T.nolimit hg hobj hints (zO GH hn2) hr hF hb (fun H hO hS=>hsp K H a ns GH hO hS) fun H e s' =>hCX w H EJ e s'
theorem start_binds{K:IY}{fd:E_}{x:Κ}{st:AN}{f:Ζ}(F:Au YV YV st)
  (h:BgT u AE (bindArgs (fnOf YV YV AH3 k_ xj BI kV doc pm an cdv ct) (J' [u])=KW [(x,u)])) (s:AB) (u:AE):BjD:=by
 show Atd F.ex;exact .of_eq (h kV doc pm an cdv ct u)
theorem holds{l:AcQ}{q:As}{VT:Ρ}{β:CL}{obs:IY ->β}{good:AW ->β}{n:Δ}{d:Aqf}(said:l.wellSaid=Μ)
  (L:LeftO l.row.prog q VT (C5 Μ) (A6 s Apb) good 40000)
  (hd:defOf q l.row.name=Ε (d,[])) (hp:l.row.prog.theDef l.row.name=Ε (d.params,d.body,d.scope)) (hk:kwWritten? d.params.kwonlyargs d.params.kw_defaults=Ε [])
  (ok:W_ (chainsOk q&&opensWell l.row.prog) (frees Ary&&l.row.within.isEmpty)) (hb:l.row.prog.bare) (hw:l.row.toRowW.promised) (wr:MM l.row.writes)
  (walk:WalkO q VT Bke (fun w h=>∃K:IY,Sn/\AaG) Ary d [] (fun f vs=>Awl)):l.Holds:=
 holds_law said fun k1=>holds_open (XP:=M_ _ JS) (YP:=fun w h=>∃K:IY,Sn/\AaG) L (fun _ s e=>(DH (yng BG n) e)) (Ś hz k (Ag' K x hz ⟨K,x.keeps k,e⟩))
  (Kt _ eP) (Ś _ _ eP) hd hp hk (fun s _=>recFacts_of Β) (JA wr) k1 ok hb hw walk
#print Hd
namespace L3
open IB OL JO L2
def RP(g:vL)(tc:TT2)(t:cP)(Γ0:G2)(x:D)(P:AhP):Θ:=BeO (t A4 (fun ds _=>P [ds]) kj)
def wz(one:Ĳ D (pj D)):Ĳ AM (pj D)
 | [],P=>ž
 | OF,P=>BcW wz
def RQ(ds:AM):T:= .Cc BHt
def JG(A7:Δ)(FB:Cn)(ti:cP)(g:vL)(tc:TT2)(t:cP):pG:=WB ti ds (wz (RP g tc t (qZ A7 FB AA)) ds fun ys=>(FF (FM A6W)))
def fX(K:Ω)(t:cP):TE:=A'C upF
theorem yjv(gr:rq)(h:AEP)(e:AHD)(ld:mv):rh:=by
 cases q:F' a with
 | Ι=>rfl
 | Ε w=>
  rcases gr.n a w q h with z | ⟨⟨xs,e'⟩,z⟩
  ·rw[e] at z;cases z
  ·rw[e] at z;cases z;subst e';exact BFS
section
variable{F0 H0:Hp}{A7:Ρ}{FB:Cn}{g:vL}{tc:TT2}{t:cP}
theorem z41(ϻ){σ:St}{Γ:G2}{J:It}{Hx:Hp}{ds:AM}{A3:Ζ}{P:AhP}{Q:AOp}(R:GT)(hJ:A8V J)(hx:ß Hx)(ha:N_ A3)
  (h:wz (Aoh RP t) ds P)
  (D4:∀ys F' H' as,cr AYL Fu (A6j).OO (∀a∈A3::as,rh/\zo) (AHg (FM A6W) Ϛ A6j) (P ys) A1r):
  BeX fX t:=by
 obtain⟨R1,e1,e2,e3,ap⟩:=Iz (ds:= []) (vs:= []) R ha KB
 show LP hx1 (Id Hx Awk) BXX xa BWB BZH (PR (AY8 vs H' ME Azf (∃F' ys as,AYL/\Fu /\APE /\AGw Hx /\A8Z/\A2R/\ (A6j).OO/\ AmK/\Afm A6W as/\Ay'/\wz (Aoh RP t) (ds.drop i) BNs)) ⟨ME,CY,IS,F,[],[],R1,kB,BO5 e,hx1,e1,e2,CY,fun a h=>by(cases h),Ayj,MV,CU h⟩)
 rintro i m vs H' ⟨Β,hi,F',ys,as,R',sF,sH,hx',ha',Ra,nd,hn,rs,lv,hc⟩;have hz:=hJ.1;show Ee ha' Τ
 obtain⟨hstop,hgo⟩:=hJ.2 i H' F' sF R'.g hx';have Yr:A3∉as:=AIX;show A3p
 ·show BCU;refine .AZ ⟨go,Τ,BRn⟩
  obtain⟨F2,gr,rx⟩:=yl x H2 y;rw[ALQ BD] at hc;have R2:=ASQ gr;refine⟨F2,H2,F2,AZE qZ Γ,_,ds[i],AZE z20 R2,rx,hc,Bft⟩;refine⟨F2,H2,F3,Γ3,_,R3,q3,BfT⟩;show BdU;have KS:∀{F5 H5},A9W ->Al7 (No F5/\zo):=fun g5 a h=>by
   show Wp e ld (BWw h);exact⟨yjv g5 (ATU h) e ld,Az1⟩
  cases b with
  | AC=>
   rw[cz] at q4;refine⟨AXt,Τ,Β,BD,F4,ys,as,ASQ xP,AGK xP.f,sH.trans xP.h,BUH,BKm,zvy xP Ra ha',nd,KS xP,oP xP.f _ _ _ (fun a _ u e=>xP.h a u e) rs,Τ,?_⟩
   simpa using q4
  | Μ=>
   rw[EB] at q4;refine⟨F2,H2,F4,Γ4,_,R4,q4,fun es Γ5 F5 H5 a us R5 s5 p1 p2 p3 rv apa q5=> ?_⟩;have Dt:A9W:=BNG;have a5:=BKn;have f5:=zvy Dt Ra ha';show Hc Ys (No H') (gr.h.free p3) Yt (a≠A3) (AV (by rw[z,ha'] at Ys;cases Ys)) aas (a∉as) (AV (by
    show AVz e (BWw z);rw[e] at Ys;cases Ys)) a0 zo (sH.free Ys);refine⟨a5,AXt,Τ,Β,BD,F5,ys++ [es],as++ [a],?_,AGK Dt.f,BO5 (Dt.h b u (sH b u e)),IU,iD,f5,?_,NL,?_,AWA,?_⟩
   ·have R6:=ASQ Dt;refine⟨⟨R6.gr.f,IU,IU,R6.gr.n⟩,R6.len,WV j sl,R6.ap⟩
    show AEU f5 (UY R6.g)
    show AEU e3 (UY R6.gr.h)
    ·show AZX (R6.sl j sl e);refine⟨o,p1,QD p2 IR (ø (ACh (Ds p2 hc).1 u q))⟩;have:c≠A3:=AV (by subst z;exact ap j ⟨sl,o,e,p1,hc⟩)
     rw[bW Χ];exact q
   show AXu (xa u (DC z e)) (Dt.h b u Av0)
   ·rw[<- Iq];exact BHB ⟨nd,CY,BAy (by
     rw[ĭ hy] at e;show Zp hx z z
     ·exact Yt (Bn4 z)
     ·exact aas (e ▸ z))⟩
   ·show AKG
    ·exact KS Dt b hb
    ·show tm hb;exact⟨p2,a0⟩
   ·rw[Rl];refine X8 (oP Dt.f _ _ _ (A0T ?_) rs) (Yb ?_)
    show AXu (Yr (DC z hb)) (UY Dt.h)
    ·exact⟨a,us,[],Β,Β,Ë Yt p1,K9 rv⟩
   ·simpa [Ī] using q5
 ·show A1u
  refine A1L (D4 ys F' H' as R' sF nd (xl h ?_) (EL ⟨A3,vs,as,Β,Β,ha',rs⟩) ?_)
  ·rcases AIr with Β | h
   ·exact⟨Ra,ha⟩
   ·exact hn a h
  ·rw[Bmd] at hc
   simpa [wz] using hc
theorem yc6{X:Cx}{elt tg Pl:AF}{ifs:CC}{sc:OM}{N' :Ρ}{Υ:AL}{ti:cP}(S:AQS)(hc:FX)(hi:AQU Ul)
  (hg:AZ2) (ht:AZ3) (he:AdW QF elt t)
  (A_m):Æ l_ (JG n FB ti g tc t):=by
 subst hn;rintro z E cx Ν s σ H Q I ⟨F,Γ,P,R,h,k⟩;show Sj (Ě l_ BKR=BFy l_ sc CB _ A6U AC AW0) Bjy;refine BVq (tc:=tX AG tc) (te:=fX AG t) (Q:=Q) Aoo (pig hc AOb) ?_ ?_ ?_ Β hs I ?_ ?_
 show AqT
 show Ak3
 show Ak4
 ·refine pf (fun ds AA F1 H1 J Hx R1 s1 hx hJ h1 A3 ha=>z41 R1 hJ hx ha h1 fun ys F' H' as R' sF nd hn tr hp=>k _ AA F' H' _ _ R' AWx nd (xl h (AvR (ATU h) Az1 Az1)) tr hp)
 ·show AqS;exact⟨m,hn,Aje ⟨AhF,H',I5.turned (t' :=s5.toks) (it:=C) (ŏ Akw) c1 c2 (E7 c3) c4 c5,Β,q5⟩⟩
#where
inductive yP (K:Ω) (C:Ζ) (f:Κ) (sp:um) (vs:AQ) (H:Hp) (Q:VK) (E:XK):Θ
 | mk:∀x F_ F ds Pd Ex,Hm (vs= .B0 x::F_) (BSW) AH' (F x=Ι) (BYi (∀t as F' H3 v dx H',cr (Gr F H F' H3) oQ AmK (TR K F' H3 t v as) (Pd t) (H3 dx=Ι) (Bev (.xd Akp) H3)) yP)
def Yu(K:Ω)(C:Ζ)(f:Κ)(sp:um):Sp:=AuZ (AxL yP)
section
variable{P:As}{w:AW}{K:Ω}{mg:DU}{A8:AJ}
theorem z67(AAX)(AaO um){C B:Ζ}{fl bn:Κ}{EV:AF}{p1 p2 p3 p4 p5 p6 p7 p8 p9 p10:AL}(Fn:AY6)
  (hbd:vf st= [.AKr [.ġ Aj1 fl p2] EV p3,.AF (AGb (ABh (FR bn p4) KP p5) Bc1 p9) p10]) (S:AJ0 AwK)
  (hc:ANn) (hB:Jr K B) (hmB:j_ bn B) (hn:ADM fl) (hN:IM N 0 AtH) (Rm:A4P) (len:AQv)
  (hdb:Aym bn)
  (wo:AKJ (∀F0:Hp,
   Gl kA bn/\
   AGl (AFs EV (Ch (ABh Aj1 fl p2)) p3.line (kA).BN)/\
   (∃pl,yev bn p4 p5 p9 Bc1 (kA).BN pl)/\
   ∃tn,QN kA F0 H EV tn/\
    Bbc (tn (gQ N AVU) (fun t BY =>(Aoz (Q t))) xI))):
  BSb Yu:=by
 show AFM;refine Qt lk hcd S AQz AQF
 ·obtain⟨x,F_,F,ds,Pd,Ex,e,_,_,_,rs,hs,_⟩:=Bz;show A_V e AuY
 obtain⟨a,F_,F0,ds,Pd,Ex,ev,hx,sF,fx,rs,hsp,hQ,hE⟩:=Be;subst ev;obtain⟨hgB,hsw,⟨pl,De⟩,tn,hte,hq⟩:=Aum;have cx:AQs:=by
  show Db (fun Ν σ Γ F H1 s1 e s' I R hx=> ?_) AJ3;show AKK;show AQ1;exact AQ0
 rw[hbd];have JH:∀q,PE kA (AHa q) (LK 0):=Q3 (tQ (i:=0) hN Rm);show LM (DH (zo3 (z7l hc hn (JH p1) BLv hsw) (zv4 (zvl (ydf hc hB hgB hmB (Qs (JH p6) (Qs (yk8 hc hn (JH p7) Β) z2j)) hdb Β Β De)))) ?_) (Bem (fun t AA F1 H1 v as R1 s1 nd hn tr hp=> ?_))
 obtain⟨h0,hp⟩:=hp;show bE eo ro BRE;show Wp Β ru ro;subst ru;refine⟨BQ,eo,a,Β,AhY hx,Ap dx n1 n2⟩;refine⟨BQ,eo,BQ,eo,a,dx,_,v,Β,A2V,iD,C8 Ġ,?_⟩
 refine⟨a,Ε dx,v,Β,A2V,?_⟩
 refine hQ t as F1 H1 v dx _ R1.gr nd (Lo ⟨ACW,AgL⟩) tr hp n1 n2 iD (Ź (bW n2) iD) (BVK (bW q1))
#where
def z03(C:Ζ)(fl:Κ)(sp:um)(t:cP):aG:=A3' (AXm BbL)
section
variable{X:Cx}{F0 H0:Hp}{e:AF}{es:CC}{Υ np Fh:AL}{t:cP}{x fl:Κ}{C f:Ζ}{fd:E_}{ps:Ρ}{k:Δ}{sp:um}
theorem z4n(hh:FX)(hg:JE)(hm:AJr)(hC:ADg)(hi:BdR)(hf:BMj)
  (Fn:Bbf Yu) (hr:AJz) (hb:AIf) (ha:NJ)
  (Anj):
  BY4:=by
 rintro z E cx Ν s σ H D I ⟨F,Γ,D2,R,h,k'⟩;refine yaz (K:=AG) (C:=C) (f:=f) hC.cls BNm ?_ hi BJw (DS Gv I hg hm AOt hd)
 ·rw[he];show MM (false || (backTo cpos (starEach es X.env)).any (·.1))
  rw[De];rfl
 ·have A9:=ha z E cx Fh Ν s σ H (ACX H1 (∃F1 AA ds,AMI/\At6/\D5 ME/\BbL)) I (a_ ⟨F1,AA,ds,R1,r1,h1⟩);rw[he] at A9⊢;refine A'o (fun us s2 ⟨vs,H1,I1,r,F1,AA,ds,R1,rs,GH,q⟩=>⟨Β,by show BkZ;rw[<- OS,<- Sc];exact GH,og,?_⟩)
  have ge:Ő (w9 AIQ).Me AIT AhG BTX:=by
   have:=z9 (w9 AIQ) (o:=AIT) Β;show B8 iq;exact Χ
  have kp:BbO:=AiZ;generalize hh2:(w9 AIQ).Me AIT=h2 at ge kp⊢;have n1:zC AhG:=Akr;generalize hea:Bj_=a at ge n1⊢;have hle:AGR<=a:=Τ
  show Hc I2 (ACn ANu (Anf h2)) BdN sH (Id H1 ANu) (NC (AX (aw n1) e)) f1 (No F1) (by
   cases q:F1 a with
   | Ι=>rfl
   | Ε o=>show A_G) u1 Bbg BYr;have hs:Yu AG C fl sp AkV ANu (UC H' (v= BE/\AeJ /\∃p u F' as tr,GY H' (Ad5 p)/\H' p=Ε (.xd [(fl,u)])/\p≠a/\zC p/\F' p=Ι/\rh/\qf F' /\AGw F' /\ (ay (Kx F') (P3 F1) (vR H1 b o))/\oQ/\ (aT as (P3 F'/\Ah5))/\a∉as/\TR AG F' H' tr u as/\BjH)) (fun C' O4 H' =>∃x F',AXH/\AMf F1 H1 /\A'G):=by
   refine⟨a,vs,F1,ds,_,_,Β,iD,A1n,f1,rs,q,?_,BbQ⟩;intro t as F' H3 v dx H' gr nd hn tr hp n3 n4 e1 e2 e3;have fa:rh:=by
    cases q:F' a with
    | Ι=>rfl
    | Ε o=>
     rcases gr.n a o q f1 with z | ⟨⟨xs,e'⟩,z⟩
     ·rw[iD] at z;cases z
     ·rw[iD] at z;cases z;cases e'
   have asx:N0 as (QQ/\b≠dx/\Ah5):=FS (by
    have h0:=hZ;have ba:QQ:=AV (by rw[z,iD] at h0;cases h0)
    rw[bW ba] at h0;show AVz e (ALC _ _ _ tr b hb);exact⟨ba,iG e n3,h0⟩)
   have JK:ay QQ (Kx H3) (Kx H'):=e9 ba e (AX (e3 b ba (iG e n3)) e)
   refine⟨Β,fun b o eb=>JK b o Ad8 (gr.h _ _ (sH _ _ eb)),dx,v,F',as,t,e1,e2,n4,(sH.trans gr.h).d5 n3,gr.g.free n3,fa,Kj,NC (JK b o (iG e fa) (kQ gr.g)),ABs (AcT sH (gr.n b o e n)),nd,AUU (SG asx).2,ADr ((asx a hb).1 Β),A3r IR (A0T (JK b u (Z_ asx) e)) tr,hp⟩
  show AMz AEh (by
   have e:=AHr;rw[FI,<- OS,<- FI (a:=Ahe),e])
  have hbs:=hb (xN s2 h2) AEh ALU AwV
  show va;show ϫ i6 (wx _ JU _ _ (AJA AME) AEh _ _ _ Aky A1m hbs A9Y hs) (Ap r' s' hq');cases r' with
  | ZI e' =>exact ALO Ν σ AA F1 H1 s2 e' s' I1 R1 (zno hq' Β u1 kp)
  | ok XH =>
   cases XH with
   | ret u=>
    obtain⟨v,H',os,G_,un,DL,rv,ev,sS,p,pu,F',as,tr,ea,ep,pa,p1,fp,fa,sF,sFH,nT,nd,oL,aas,rG,hE⟩:=hq';subst ev;refine D_ rv;have I3:ACn H' s' :=I2.call' (s' :=s') os un DL G_ AYK
    obtain⟨t0,gx⟩:=UG DL ea;refine⟨_,t0,I3.kIn,gx,Β,Β,?_⟩;have Cj:=AsR un;have nH:BPK:=AP8 (by
     show YA
     ·simp [hb] at eb
     ·exact BU4)
    show LP yH BWb BTG nfr (fS H' (b∉lr)) (We eb hm (by
     have:=I3.stkFree b hm;show B8 eb;show E3)) (ALO Ν σ AA F1 H1 s2 E8 s' I1 R1 ⟨a,HE,Afp,BUu,Ε p,Β,os,G_,?_,?_,?_,?_,?_,.pay C [fl] [tr],F',hE,⟨sF,?_,?_,nT⟩,Β,p,[pu],as,Β,BZ_,Β,fp,p1,nd,oL,Yb (ABR IR tr pu as (A0T (yH b u (E9 (aas (z ▸ hb))) e)) rG)⟩)
    ·refine⟨Cj.keep,Cj.slot,GN b o eb n hx,Cj.there,K_ xs eb,ACu u eb,K_ ps eb⟩
     ·have:=Cj.free b o eb n hx;simp [Χ]
     ·exact AVr (Cj.tups b xs eb)
     ·exact BXW
     ·show ADY d6 (Cj.pJ b ps eb);exact⟨d6,AVr q⟩
    ·intro b u eb;show AoE;refine ADn DL eb (ALk q q) (fun c q=>ApJ) (AMq q ApJ)
     show Aox
     show Aox
    ·refine⟨SV o BJA,zk0 _ zY,?_,A_p gx yb⟩;exact A6K (a::lr) I3.stack BZS
    ·intro b o eb n;show kR e' (A6x A2)
     show Db o' (AJF e' (G1 hm));show ai hm hm
     ·exact WG (zG eb) Bn6 hle
     ·exact n hm
    ·intro b u eb;show AoE;show DE o eo zyt (DL b u eb);show Db o (AJF eo (G1 hm));show Zp hm hm hm
     ·exact hb hm
     ·exact BWG
    ·exact AP8 (yH b u (iG eb fa) (sFH b u eb))
    ·exact AP8 (yH b u Ad8 (sS b u eb))
   | JP=>show Ϩ
   | brk=>show Ϩ
   | NY=>show Ϩ
structure RT (AqQ) (x:Κ) (C:Ζ) (fl:Κ) (k:Δ) (ps:Ρ) (sp:um):Θ where
 ex:Bci (BSa Yu) ACg
theorem z78(hh:FX)(G:Bdj RT)(hr:AJz)(hg:JE)(ha:NJ)
  (Anj):
  BY4:=by
 obtain⟨f,fd,h1,h2,h3,h4,h5,h6⟩:=w8;exact z4n hh hg h5 h4 h2 h3 h1 hr h6 ha hd he De
#where
def Ej(AEq):aG:=A2u (lP AEa (Ε AJM) (D.rt d) (Ε (.nt _ ts)) (D.rT (.tp ts)))
inductive RN where
 | pl (d:D) | nt (ts:HK)
abbrev Pj:=A7m (Fk RN)
def tpT(Q:Fk RN):Fk TW
 | .one _=>D8
 | .tp ts=>Q A3X
abbrev MJ(Q:Fk RN):qR:={nx:=E6 (Q (.pl BE)),rt:=fun d=>Q (.pl d),rT:=tpT Q}
inductive JL (AqO Pj):Θ
 | mk:∀F ds P Ex,cr AH' AfW (sp ds P Ex) ((A's lx (P (.pl d)))) ((∀ts p vs as F' H',cr rq (F' p=Ε (IO vs)) oQ AmK A5O (P A3X) (MR p H'))) Avb (AT6 JL)
def JM(K:Ω)(sp:Pj):Sp:=Aly JL
structure RV (AFb) (mg:DU) (A8:AJ) (x:Κ) (k:Δ) (ps:Ρ) (sp:Pj):Θ where
 ex:Aov JM
section
variable{X:Cx}{F0 H0:Hp}{Υ Ff py ep ap tp:AL}{x y fl c:Κ}{C:Ζ}{i j k:Δ}{e:AF}{es:CC}{te:cu}{t:cP}{sp:Pj}{ps:Ρ}
theorem ye7(hi:HL)(hv:OG)(XL):P7 (.Return (Ch (FR x Ff)) Υ) (Ej i):=fun z E cx=>
 tU (z3f (AtG hi)) fun D σ H hq=>by
  obtain⟨F,Γ,D2,R,h,k⟩:=hq;show DJ Ej;show E4
  ·rename_i d e0;obtain⟨o,eσ,v,Β,rv⟩:=Ŵ;exact⟨v,eσ,k.rt d v F H R.gr rv h⟩
  ·rename_i as ts e0;obtain⟨o,eσ,p,vs,Β,ep,nd,hn,rt⟩:=Ŵ;exact⟨UP,eσ,k.rT (.tp ts) (BA p) as F H R.gr nd hn (ϵ ep rt) h⟩
  show JI
#where
section
variable{P:As}{w:AW}{K:Ω}{mg:DU}{A8:AJ}
theorem abM(AAX)(AaO Pj)(Fn:Au x EI st)(S:AJ0 ps)(len:AQv)
  (wo:AKJ (∀F0:Hp,
   ∃t,An3 k_ t/\Aot (MJ Q))):
  Ajl JM:=by
 show AFM;refine Qt lk hcd S AQz AQF
 show AqM
 obtain⟨F0,ds,Pd,Ex,sF,rs,hsp,hQ,hT,hE⟩:=Be;show Amh;have cx:AQs:=by
  show Db (fun Ν σ Γ F H1 s1 e s' I R hx=> ?_) AJ3;show AKK;show AQ1;exact AQ0
 refine⟨_,Au7,F0,gQ N ds,MJ Pd,Uj sF rs,BiV,⟨fun Γ F' H' σ R' _ q=>A'3,ñ,ñ,BBf,ut,fun t v as F' H' gr nd hn r q=> ?_,AZt⟩⟩
 cases t with
 | one t=>exact om
 | tp ts=>
  show kg p ep rt r;exact hT ts p us as F' H' gr ep nd hn rt q
#where
abbrev MK:=AQg RN
def abN(AN9)(t:MK)(E:XW):TE:=AL5 (∃F Γ P,GT/\t Γ P E/\ (AfZ d v lx (.pl d) Š)/\
 ∀ts BY F' H' p vs as,AHW ->Fu ->F' p=Ε (IO vs) ->A_ oQ BWN A5O (WZ A3X) (MR p H'))
def Yv(UT)(e:AF)(t:MK):Θ:=AX' abN
def Ek(sp:Pj)(t:cP):MK:=VO (Ae1 Bh1)
def El(i:Δ)(t:MK):aG:=WO D t r (AxP (.pl d) (APi AJM) (.nt ts) (∀as,TM (ABU i (.nt as ts))))
section
variable{X:Cx}{F0 H0:Hp}{e:AF}{es:CC}{Υ p py:AL}{x y:Κ}{ps:Ρ}{k j:Δ}{sp:Pj}{t:cP}{tr:MK}
theorem z3l(Aok RV):
  FC Yv gN (Ek sp t):=by
 show Aoj hm hk;rintro z E cx Ν s σ H Q I ⟨F,Γ,P,R,h,kk,kt⟩;refine AvV;refine Ach (h₀:=OQ) ASN hk BME he De;show AvZ CM;refine D_ og;have hs:Als JM vs H1 AXH F1 H1 H1:=⟨F1,ds,_,_,IL,rs,q,BAS,fun ts p vs as F' H' gr ep nd hn rt hp=>kt ts AA F' H' p vs as AMr Aeq ep nd (fg BjX) rt hp,AVu⟩;show ApX
 show BSB;show va;show ϫ i6 (wx X.A JU s1 H1 ANi us vs Q _ hr I1.env0 hbs r hs) AEy;cases r with
 | ZI e=>exact Am4 hq
 | ok fl=>
  cases fl with
  | ret u=>exact BG4 hq
  | JP=>show NR
  | brk=>show NR
  | NY=>show NR
theorem z14(hN:ie)(hj:AJ2)(hy:Loc ARc y)(he:av Yv tr)(hs:AFY (Ch (FR y py)):=by rfl)
  (hf:X.fn y=Μ\/AZa:=by show BhO):AL_ [.wc y py] e (El j tr):=NS tU (xw Wk j hN hj hy NM hs hf) D hq hq ⟨F,Γ,_,R,h,fun d AA F1 H1 v R1 s1 rv h1=>(AXQ (R1.set j rv)),fun ts AA F1 H1 p vs as R1 s1 ep nd hn rt h1=>(AIV (Ar2 j (s:= .nt as ts) (o:=Ε (BA p))) ⟨p,vs,Β,ep,nd,AUU AgL,rt⟩ (FS hZ.2) (h1 as))⟩
#where
theorem isV_of{o:BkN}{s:LT}(h:isV o s=Μ):o=Ε (.val (V' s)):=by
 show DJ isV;show E4
 ·rw[AFz h]
 ·cases h
def uw:aG:=ű
theorem Yw(ADp){st:AN}:P7 st uw:=fun _ _ _ _ _ _ _ _ _ h=>by obtain⟨_,_,_,_,h,_⟩:=h;exact oS
mutual
def szT:T ->Δ
 | .leaf _=>0
 | tw=>JN ts+1
 | AkX=>JN ts+1
 | A1K=>JN ts+1
 | A5G=>JN ts+2
 | AI7=>0
def JN:HK ->Δ
 | []=>0
 | c_=>szT t+JN ts
end
#print L3
namespace Hd
open IB AKP Aqb JO L2 L3
#print Hd
namespace L3
open IB OL JO L2
def Itm(Bdh):It:=
 BXk (∃c k v,x= AhE/\N_ c/\H' =upd H c BL_/\EX AH (k,v))
theorem z5w:BKW "dict_itemiterator.__iter__":=
 BNA
theorem zuy{it d:Ζ}{i n ep:Δ}{ok ov:AE}{Q:eO}{s:AB}{P:As}{w:AW}{A:BV}{E:eO}(hit:IsItemIter BG it d i n ep ok ov)(h:MR it s):Bi6:=by
 have hT:AJn it BEU :=NE hit;refine Asc hT Bn7 (ADj Bn7 hT z5w PySem.F.args_dict_itemiterator_iter_1);exact z7 ⟨_,Β,BEU,_,hT,PySem.F.slot_dict_itemiterator_next.lookup,h⟩
theorem z4t(A'Z){Υ:AL}(Bf6):Turn P w K A5H BK9 [it] it (UH h (∃ok ov,IsItemIter h it a i wS ep ok ov)) where
 mem:=CY
 obj:=AQE (by
  show APV
  show bi ok ov st;exact AYp e)
 KS:=AfY (by
  show bi ok ov st;exact⟨ok,ov,k it A2 _ e⟩)
 VW:=by
  show m4;show VS;show AZe;obtain⟨ok,ov,st⟩:=st;show BVo;show Ao1;obtain⟨⟨k,u⟩,hw⟩:∃p,EX ws p:=BNn
  show EQ v hv rv Ru kv hw;have BD:∀c∈ [it],XY c:=ø (by
   obtain Β:c=it:=CU hc
   exact zG st)
  refine wpAny_pyNext_items_item st hd hw fun A9 h1 hkey hit ht hsz k1=>(Oy (wpAny_letOwnedTupleGo_items hit (Ap h2 e2 sb)));have GJ:A1l it:=sb;have rk:IE (kV k) A9:=by
   rcases Fq hkey with ⟨j,t,Β,Β⟩ | ⟨x,t,Β,Β⟩
   ·exact uv
   ·exact uv
  have I2:KM BH BL_ (e_ h2 L'):=
   z0w (fp:= [it]) (AU:= [A9,u]) I (BM4 (k1 c o XX e))
    BD (A6Z (AKu (BD it A2)) ht) (A_e rk rv) Alf hf
  exact⟨AHA,_,I2,Β,⟨_,k,v,Β,AsK,Β,hv⟩,DH _ (AX hl e2),ø (BcT BD)⟩
 LU:=by
  show m4;show VS;show AZe;obtain⟨ok,ov,st⟩:=st;show AxF;have hl:=xD;show Ao1;exact wpAny_pyNext_items_end c9 st hd (EF hx) (BJp [it] (ŏ (eb b o XX e)))
 RU:=AuT (Ag' ok ov st (zuy e h))
def RW(te:TE):TI:=BQL (∃a o AH,v= BQ/\AVJ yo/\ (ATp ->R BK9 H1))
theorem yfh{X:Cx}{e:AF}{te:TE}{IJ Fh:AL}(A_8){pt:AL}(he:my)(TZ:BI4:=by rfl)(ZO:z_:=by rfl):
  PI X Aft BJN (RW te):=by
 show ϩ;refine BAj Ϭ;obtain⟨x,H1,I1,r1,a,o,AH,ex,ea,q⟩:=Bz;subst ex;show ł v r1;have ea' :Rd H1 a Op:= .AZ (rV ea);show BCP ea';refine⟨dr,"dict.items",Arw,Bn8,PySem.F.type_dict_items,hT,hN,BjY⟩;obtain⟨ho,hz,_,ws,kv,o',es,ep,h1,h2,h3,h4⟩:=(EM (AGq H1 Ab0 a yo) (ASL a _ ea));rw[ho] at h1;cases h1;have hm:Al1:=BAK ho;refine ASB Bn8 hT PySem.F.entry_dict_items (PySem.F.args_dict_items_1 _) (meets_dict_items AMO a hsm) (D_ ⟨ws,o,es,ep,ho,h2,h3,h4⟩);have vw:Bjb Bn9 IsItemsView:=iF;have I2:AIy (AVL BMp):=AJy;refine wpAny_pyIter_items (s:=AVL BMp) vw Ax_ ?_;refine⟨_,[_],_,_,_,Β,AtV I2.kept y_,z4t a _ o AH ep ⟨es,h3⟩,?_,NL,q hz⟩
 show Dx xD (DH _ T1)
 ·show SH (zR.mp hb);exact I2.fpOk E2 (I2.hok.fresh E2)
def rD:Fs ->AM ->AM:=ALS fun k x=> .tup [o8 k,x]
theorem z8t(BgW):AYD (Itm a o Ń) (rD ks xs):=by
 have hlz:C7 Re vs=Pw:=BWF
 have l1:=j7 rs;have lp:So rD ks xs=min Pw BU:=Acq;show Db Τ (AaM (ACh (Q3 ApF) d hd))
 unfold rD at hd;show BJu;cases e1:ks[i]? with
 | Ι=>show UV e1 hd hd
 | Ε k=>
  cases e2:xs[i]? with
  | Ι=>show AmZ;cases hd
  | Ε x=>
   show AmZ;cases hd;show AYR e2;have hik:i<Pw:=SW e1;refine⟨ApF,AmO⟩
   obtain⟨c,k2,v2,Β,hc,Β,z⟩:=z;have z1:=(U3 z).1;have z2:=(U3 z).2;rw[e1] at z1;cases z1;rw[hv] at z2;cases z2;have gr:=AZ4 [kV k,v] s3 hc;refine DH gr ?_;exact Ajo c (rW (ymz k) (rW (BMP Kj) KB))
def z6m(m3):cP:=lj (ń A3i (FF (rD ks xs)))
section
variable{X:Cx}{F0 H0:Hp}{e:AF}{te:cu}{elts:CC}{IJ Fh pt:AL}
theorem ydx{x1}(he:Sm)(TZ:BI4:=by rfl)(ZO:z_:=by rfl):A7g BJN (z6m te):=AuJ (BWZ yfh) (fun σ H R Be=>by
 obtain⟨F,Γ,P,S,q,k⟩:=Be;refine AVq (fun d AA F1 H1 v R1 s1 r h1=> ?_);show g_
 ·obtain⟨a,o,vs,Β,ea,hkl,rs⟩:=r;exact⟨a,o,_,Β,IL _ _ ea,fun hz=>(AVv (z8t ea hkl rs hz))⟩
 ·exact xA)
#where
def Bb(C:Ζ)(i:Δ)(f:Κ)(j:Δ)(tv:cu):aG:=A1h (∃k as fs ts ks xs,BS2 (AMN Agg) (Cg fs ts f=Ε A3q) (AX0 as (BMo k k)))
section
variable{X:Cx}{F0 H0:Hp}{EV:AF}{Υ ī RD Ff :AL}{x f:Κ}{C:Ζ}{i:Δ}{tv:cu}
theorem zvq{y:Κ}{j:Δ}{yp:AL}(hu:g6)(hc:sq)(hn:s_)(hval:A6v)(hN:HL)(hv:OG)(Rz:AJ2)(hv2:AYw)
  (ApC)
  (hb:BXn f:=by rfl)
  (hs:AXr BQl (FR y yp):=by rfl):
  AVd (AMt BQl (FR y yp)) (Bb C i f j tv):=NS tU (AZh zuk (DS ygp dE hb) AqB hval hs) Dn Qj Qj (Akd Ij (by
  obtain⟨k1,as,fs,ts,ks,xs,g1,e0,hl,hsz,hnx⟩:=Ij;obtain⟨o2,e2,v2,Β,r2⟩:=AGT j _ g1;have ev2:=Jz r2;subst ev2;obtain⟨a,dx,vs,v0,bs,b1,cs,b2,e1,Β,ea,hv0,Β,nd,hn',rt,back⟩:=yju R1 e0 hl;show SK c ws ds Β ec hkl rl rt;show AZr rl;refine⟨BQ,e1,a,C,dx,_,AhE,Β,ea,hc,hn,hv0,kV k1,e2,c,_,Β,Bx.k (k:=k1) ec (by show AU5 hkl;exact hsz),?_⟩
  rw[zub hkl];refine AIV (Ac8 e0 e1 (EM (gW (A6a BLn) AG1 c) BVe) (t:= .tr BLn (BMo k1 k1))) ⟨_,Β,nd,hn',?_⟩ AWa hnx
  refine back IR (Atb ?_) ?_
  ·have hbc:b≠c:=AV (by
    subst z;show A5Q;show BAe;show û
    ·exact n1 A2
    ·show û
     ·exact n2 A2
     ·show BN3 n3;show AKG
      ·exact BZV
      ·exact Adf p.2.1 hb)
   rw[bW hbc];exact q
  ·exact BUc hkl))
#where
theorem yew{H1:Hp}(S:AhN)(I:AS)(hS:Af5 (∃AH o,AgB/\kX/\Mo H1 yo))(hN:pr AIj H1 H):AIy s:=by
 have ne:qo AEJ (Aps) (MQ H1):=AYO (AGr (APo (by show AnB;rw[e] at q;cases q;exact n _ Β)))
 refine A_D L' ⟨fun _ _ q _ _ _=>q,BR8,GN b ob q n _,A8o (ADa ob),A2T,BTi,SV ps (D_ #[])⟩ Ê
 show Dx (APo (by show AnB;rw[e] at n;cases n)) n
 ·exact A8Q
 ·exact A8Q
 ·rw[A8Q];simp
 ·have st:BUV H1:=A7b (ne c _ z Awj) (ne c _ z Awj)
  show AkU
  ·obtain⟨AH,o,e1,e2,e3⟩:=ADN;rw[e3] at q;cases q;exact⟨e2,st (MC b _ e1)⟩
  ·rw[AiP] at q;exact st (MC b u q)
theorem z9m{H2:Hp}(S:AhN)(I:AS)(hS:BXc)(hN:AL1 AIj H)(n0:Af5 Bhl):ZY H2 s:=by
 have ne:qo AEJ (BQH) (MQ H2):=AYO (AGr (APo (by show AnB;rw[e] at q;cases q;exact n _ _ Β)))
 have nn:Af4 (P3 H2):=fun b q=>(AGr (APo (by show AnB;rw[e] at q;cases q)))
 have st:BUV H2:=A7b Aoi Aoi
 refine⟨nr,I.os,Ę,⟨Abj,Abm,Amd hx (nn b (AKk b u q n hx)),Aq9,SV xs (ne b _ (Abn b xs q) (Ll z AGk)),We w q ?_,K_ ps q⟩,ib,Ė,nn _ ė,fun x c q=>nn c (AFp x c q),nI,Ê,AFq⟩
 show Dx (APo (n0 b z _ _ q)) (ARi b u w q)
 ·obtain⟨m,k⟩:=Abo b ps q;exact⟨m,ne b _ k (Ll z AGk)⟩
 ·show EQ h1 h2 h3 AAx p hp;exact⟨h1,nn _ h2,h3⟩
 ·show AkU
  ·show A5l;rw[e2] at q;cases q;exact st (MC b _ e1).2
  ·rw[AiP] at q;exact st (MC b u q)
mutual
def jH:T ->D
 | cK=>d
 | tw=> .Cc Ajy
 | ó=> .dik ks (qJ ts)
 | AE_=> .rR ks (qJ ts)
 | AFV=> .obj C fs Ajy
 | .kt k=> BOi
def qJ:HK ->AM
 | []=> []
 | c_=>jH t::qJ ts
end
section
variable{K:Ω}{F H F' :Hp}
def rE(H F' :Hp)(a:Ζ):Θ:=AeO ((∃o AH,u= AlX/\GY F' AM8)\/ (Aps)/\Ajj)
theorem rE.d(h:Ao9)(e:AJH):∃o,GY F' yo:=by
 rcases h _ e with ⟨o,_,_,q⟩ | ⟨n,_⟩
 ·exact rV q
 ·exact(n _ Β).ic
theorem rE.o(h:Ao9)(e:AHD)(n:Aps):Ajj:=by
 rcases h _ e with ⟨o,_,q,_⟩ | ⟨_,q⟩
 ·exact(n _ q).ic
 ·exact q
mutual
theorem TR.repN(f:Fu):BBw Ao9 (ALz (jH t) v)
 | cK,v,as,k,h=>Ev ((h.2).up f)
 | tw,v,as,k,h=>by
  show A5s;exact⟨a,vs,e1,x_ (A5T e3 AeT),A1S⟩
 | ó,v,as,k,h=>by
  show AQy;show DE o e (k a zY).d e3;exact⟨a,o,vs,e1,e,e4,A1S⟩
 | AE_,v,as,k,h=>by
  show AQy;exact⟨a,vs,e1,.A0 (A5T e3 AH8),e4,A1S⟩
 | AFV,v,as,k,h=>by
  show A5x;exact⟨a,dx,vs,e1,A5T e3 AH8,e5,A'H Ac9⟩
 | .kt k,v,as,_,h=>by
  obtain⟨_,a,e1,e2⟩:=h;exact⟨a,_,e1,AJT f e2,W0 k⟩
theorem Ac9(f:Fu):BBx Ao9 (ATO Ajy)
 | [],vs,as,k,h=>Ev FY
 | c_,vs,as,k,h=>by
  show Am6;exact⟨v,us,e1,A_H TR.repN,BBa Ac9⟩
end
#where
def Yx:GI ->GI | .ow ds=> MS ds | .tr _ t=> .pu (jH t) | .nt _ ts=> .pu (IO Ajy) | .xe _ C _ _=> BNz | s=>s
def jO(Γ:G2):G2:=Γ.map Yx
def LDn(u:HO):Θ:=mv\/∃o AH,u= .frz o Op
def cO(Γ:G2)(σ:St)(H:Hp)(b:Ζ):Θ:=N3/\∃AH,AgB
open ww in
theorem yc3(Awd)(BAl)(R:GT)(ob:Ζ ->Obj):∃F1 H1,yn/\BZJ/\ (BXe)/\ (J_ N3 BP2)/\
  (BW9)/\A5J:=by
 let H1:Hp:=cn (if T_ then BTA else H b)
 have hS:BW9:=FS (by
  show PM AH hb.2;show Ee AH e;show(B5 T_ BTA (H b))=_;rw[CH hb,e];rfl)
 have hN:A5J:=Ayt
 let F1:Hp:=cn (xz Atx F (At0 H1))
 have fo:J_ N3 (kK/\∃u,AEJ/\mv):=FS (by
  obtain⟨j,s,o,e1,e2,hs⟩:=id hb;obtain⟨o',e3,r⟩:=A3z;rw[e2] at e3;cases e3;obtain⟨h1,_,u,h2,ld⟩:=Ds r hs;exact⟨h1,u,h2,ld⟩)
 have s1:yn:=BaT
 have at1:pr N3 F1 H1:=fun b h2=>by
  show A3K=_;rw[Ai7 (fo b h2).1,CH h2]
 have s2:qf H1:=ah (by
  by_cases ho:N3
  ·rw[at1 b ho] at e;exact e
  ·show AAG A3K;show cq
   show Dx (APo (ho z.1)) A3g
   ·first | cases e' | (show UV (B4 ho) e' e'))
 have Jf:BBd AeM:=A'5 (by
  show Uf jO;show Ah8;cases q:AEa with
  | Ι=>show L_;cases e
  | Ε t=>
   show L_;cases t<;>(cases e;exact Ah9))
 have A7:J_ N3 BP2:=FS (by
  obtain⟨h1,u,h2,ld⟩:=fo b hb;show F8 h1;rw[at1 b hb];by_cases hn:T_
  ·obtain⟨AH,_,e⟩:=hS b hn;exact DH e (.AZ Ais)
  ·exact⟨u,AX (hN b hn) h2,.A0 ld⟩)
 refine⟨F1,H1,s1,BgY jO,K_ hb hn,A7,hS,hN⟩
 ·show Uf jO;show Ah8;cases q:AEa with
  | Ι=>show L_;cases e
  | Ε sl=>
   show L_;show bE e1 r (VZ i sl q);show Ee o e1;have mine:J_ (gW sl o b) (rE H F1 b):=fun b hb u hu=>by
    have ho:N3:=BZc;rw[at1 b ho];by_cases hn:T_
    ·obtain⟨AH,e,e'⟩:=hS b hn;rw[e] at hu;cases hu;exact .A0 (AEg e')
    ·refine .AZ ⟨fun AH z=>hn ⟨ho,AH,HH hu z⟩,AX (hN b hn) hu⟩
   cases sl with
   | no=>cases e;trivial
   | pu d=>cases e;show kG Β rv r;exact AJO A0c
   | ow ds=>
    cases e;obtain⟨a,vs,Β,h1,h2,h3,rs⟩:=r;show AJL BQ;exact qi a (x_ ((mine a Β).o h1 AeT)) (AGS s1)
   | tr as t=>
    cases e;obtain⟨v,Β,nd,h1,rv⟩:=r;exact AJO (TR.repN s1 t v as BKx rv)
   | nt as ts=>
    cases e;obtain⟨p,vs,Β,e2,nd,h1,rv⟩:=r;show AJL UP;exact ϵ (AJT s1 e2) (Ac9 s1 ts vs as BKx rv)
   | xe as C fs ts=>
    cases e;obtain⟨a,oe,dx,vs,Β,e2,_⟩:=r;show AJL BQ;exact BS5
 ·show A3K=Ι;rw[Ai7 hb,B4 hn]
section
variable{K:Ω}{F F' :Hp}
mutual
theorem yfg(hA:fS F (LDn u\/MQ F')):Bfy
 | BE,_,_,h=>OE
 | fT,_,_,h=>OE
 | cy,_,_,h=>OE
 | hV,_,_,h=>OE
 | AEH,_,_,h=>OE
 | AJI,_,n,h=>by
  show AoY;refine⟨a,vs,h0,?_,zl3 hA ds vs n h2⟩;show Ag2 h1 h1 h1 h1
  ·rcases AQL with (z | ⟨_,_,z⟩) | z
   ·exact z.tup.elim
   ·cases z
   ·exact x_ z
  ·rcases AQL with (z | ⟨_,_,z⟩) | z
   ·exact z.frz.elim
   ·cases z
   ·exact AnL z
  show KL h1
 | Aiv,_,n,h=>by
  show A5w;refine⟨a,dx,vs,h0,?_,h3,zl3 hA ds vs n.2 h4⟩;rcases AQL with (z | ⟨_,_,z⟩) | z
  ·have:=z.ins;show sT (z3s h3) n.1;show E3
  ·cases z
  ·exact z
 | à,_,n,_=>tz
 | AD',_,n,_=>tz
 | AD_,_,n,_=>tz
 | AEd,_,n,_=>tz
 | AO6,_,n,_=>tz
theorem zl3(hA:fS F (LDn u\/MQ F')):Bfz
 | [],_,_,h=>OE
 | hW,_,n,h=>by
  obtain⟨v,r,h0,h1,h2⟩:=h;exact⟨v,r,h0,yfg hA d v n.1 h1,zl3 hA ds r n.2 h2⟩
end
#where
structure JQ (Be7) (σ:St) (Γ:G2) (F1 H1:Hp):Θ where
 R:BZJ
 back:∀{F' H' :Hp} {BY :G2},SR K F1 H1 F' H' σ BY ->qf F' ->∃F2 H2,xi F2 H2/\pd F2/\ (∀ds vs,ANI ->AH5 ->aL K F2 ds vs)/\ (∀a u,No H1 ->At5 ->GY H2 u/\È/\AEt/\ (rh ->No F2))/\
  BhM/\BPW
 hS:J_ T_ (∃o AH,AgB/\Mo H1 yo)
 hN:A5J
section
variable{X:Cx}{F0 H0:Hp}{e:AF}{te:cu}{tf:cP}
open ww in
theorem lent{K:Ω}(I:AS)(R:GT):∃F1 H1,AIy s/\Bfi/\Ak_:=by
 obtain⟨F1,H1,s1,R1,n1,o1,hS,hN⟩:=yc3 R (cn ((OR b).i4 pM));refine⟨F1,H1,yew A5b I AWl hN,⟨R1,fun{F' H' BY} R' s' => ?_,NL,hN⟩,GN b hb o u w⟩
 ·obtain⟨AH,e1,e2⟩:=ADN;obtain⟨_,_,_,_,o,_,_,e,_⟩:=(EM (AM' H b Op) (À b e1));exact⟨AH,o,e1,e,qS e2 e⟩
 ·have gr:BPD (F' b) (yA (xz T_ H (H' b))):=by
   show AZN IU IU IU
   ·show CS BLD
    exact Aed s' s1
   ·show AAG A4H;show cq
    ·cases e'
    ·show AIl;show CS (HG (hb w.1));exact R'.g _ _ e'
   ·split
    ·exact e
    ·show AIl;exact R'.gr.h _ _ (Do AiP e)
   ·have e' :A4H=Ε o:=e;show cq
    ·cases e'
    ·show AIl;have:=BaA R'.gr.n;unfold vR at Χ⊢;show B8 (hN b (HG (hb w.1)));exact Χ
  refine⟨_,_,ALK gr,Kj,fun ds vs hd hr=>zl3 (IU) ds vs hd hr,KE a u h1 h2,FS AhX,Ayt⟩
  ·by_cases hb:N3
   ·obtain⟨_,w,ev,ld⟩:=o1 b hb;have:=s' _ _ ev;show t_;show E3;exact .A0 ld
   ·exact .AZ (by show UK A4H;show CS hb;exact e)
  ·have nn:¬cO Γ σ H a:=HG (by obtain⟨_,_,e⟩:=hS a w;rw[e] at h1;cases h1)
   have hH:zo:=DC (hN a nn) h1
   refine⟨by show(B5 (cO Γ σ H a) (H a) (H' a))=_;show CS nn;exact h2,?_,Ar8 hH,G1 hF⟩
   ·cases q:H0 a with
    | Ι=>rfl
    | Ε w=>have:=ASI _ _ q;show B8 hH;show E3
   ·split
    ·rfl
    ·exact hF
 ·obtain⟨AH,e1,e2⟩:=ADN;exact⟨_,AH,e1,e2⟩
 ·obtain⟨AH,e1,_⟩:=ADN;have:=ARi b o u w;show B8 e1;show E3
theorem JQ.thaw{K:Ω}{H2:Hp}(L:Bfi)(n0:Ak_)(I' :AB_ s)(sm:AeJ)(h1:AL1 T_ H)(h2:BPW):ZY H2 s:=by
 refine z9m A5b I' AWl h2 n0;obtain⟨o,AH,e1,e2⟩:=Ay5;exact⟨o,AH,sm _ _ e2,AX (h1 b hb) e1⟩
def JR(m3):cu:=AlQ te d (rB d/\P d Γ)
theorem ydt(h:ve Sm):AI6 (JR te):=fun z E cx=>by
 show AaQ;show AaE;show AqF (BfZ hp)
 ·obtain⟨F2,H2,R2,sF,rs,_,e1,e2⟩:=BiH;have r2:=rs [d] [v] BLo (Oi r)
  obtain⟨v',_,ev,r2,Β⟩:=r2;cases (ev);exact Amp (k d Γ F2 H2 v R2 sF r2 hp.2)
 ·show A5y;exact A5p
def Em(tf:cP):cP:=AlQ tf ds (ANI/\P ds Γ)
theorem z3o(h:ve A4g):av QF (Em tf):=fun z E cx=>by
 show AaQ;show AaE;show AqF (fun ds BY F' H' a vs R' s' ea fa ha rs ap hp=> ?_)
 ·show BCg;obtain⟨q1,q2,q3,q4⟩:=at2 a _ ha ea;exact Amp (k ds Γ F2 H2 a vs R2 sF q1 (q4 fa) q2 (rc ds vs hp.1 rs) q3 hp.2)
 ·show A5y;exact A5p
#where
#print L3
namespace L3
open IB OL JO L2
section
variable{X:Cx}{F0 H0:Hp}{Υ:AL}{MY:Xs}{hs:Ag9}{h0:Ass}{tb:aG}
theorem z9t{a b:AF}{ta tb:cu}(hu:g6)(ha:ck)(hb:ϖ)(hm:Atn ADq):BUN ADq Μ:=fun z E cx=>
 QK (DS z3a (DS zyg hu F6 Q2) hm) (LE σ H Q DK P DK (AY3 (by
  obtain⟨ks,xs,kk,e1,Β,hp⟩:=h2;show AJ5 r2;have ev:=Jz r1;subst ev;refine⟨c,_,Β,A5i Β,_,Β,?_⟩;rw[zz0 hkl];exact Bfn)))
#where
section
variable{CA:As}{w:AW}{A:BV}{E:eO}{K:Ω}{h:AJ}{g:ſ}{d:ARg}{t:Δ}{os:AAc}{x C dx:Ζ}{o:Obj}{D3:Κ}{v:AE}
theorem z45{Q:ì}{m:DU}{ns:Ρ}(X:Sn)(c:ANn)(hn:A0z)(hx:A1M)(hc:AkH)(hnc:A6u)(hd:BKD)(hns:h.Ns1 dx m)(hw:Within m ns)(hz:D5 (IG+1))
  (hq:∀h' tk',h'.Ns1 dx (A'A (m y)) ->ARk dx h h' ->BRq):
  APZ A9O:=by
 have SF:=BnX;obtain⟨od0,es0,ep0,hod,_⟩:=id hns;have J:A5e (Ch od0):=Bb5 hod
 refine BcU;obtain⟨bm,N,nm,qn,bs,P1,sn,BM,ab,col,dd,k0,k1,k2,k3,k5,e1,T,ht,cd,hcd,xB⟩:=HB X c.cls;have BM:AVl (AGP km BHm) Μ:=BZ1;refine Asa BnY SF.entry (Bjt Ix _ _ ATK Aqj Aaa AbR km BQK [] _ SF.kind SF.split BM BRT ?_);show BgX;rw[hd'];show t7
 refine z7 ?_;refine z6 (z7 (BPj hns));show BUe hw;show A'J (Do FI (AxN hz))
 exact z7 (hq h' _ hn' hs)
#where
section
variable{CA:As}{w:AW}{A:BV}{E:eO}{K:Ω}{s:AB}{C a:Ζ}{BN:Env}{Q:Aig}
theorem z38{m c:ATe}(hC:ò)(hh:A6d)(hc:BZu c)
  (hm:AUH m (UC EJ (∃e oe fv o vs,BXH (ApT (ACr ASD/\AkG/\AU7/\a≠e/\
   ACw (TH e=Ε BZk) (AN2 e ASD) (E (BA e) (xN EJ h'))))))):LJ (raiseStmt BN (Ch m) (Ε c)):=by
 refine mi hm (AZT v) nK;obtain⟨e,oe,fv,o,vs,Β,X,he,hc',hda,ha,hd,h2,ne,hE⟩:=ZT;obtain⟨bm,N,nm,qn,bs,P1,sn,BM,ab,col,dd,k0,k1,k2,k3,k5,hC,T,ht,cd,hcd,xB⟩:=AJx;have hcB:AZw AiG=Μ:=BT9
 show nL EJ;show Aw8 oe;subst hc' hda;refine ANg (hc _ _ AwO)
 show Bdc
 have hCe:e≠C:=AV (by rw[<- z] at hC;rw[show hp.get? e=_ from hC] at he;cases he)
 have g1:∀(h:AJ) f b u,b≠e ->MQ MA ->MQ (AsV e f).IF:=fun h f b u n q=>AYQ n q;have he3:(hp.update e (Obj.mapFields (·.setIfInBounds 3 Value.none))).IF e=Ε (AUz fv osl):=AI2 _ he;have he4:((hp.update e (Obj.mapFields (·.setIfInBounds 3 Value.none))).update e (Obj.mapFields (·.setIfInBounds 4 (Value.bool true)))).IF e=Ε ⟨HE,od,AGi (As9 fv AVO),osl⟩:=AI2 _ he3;have hC4:=BWs C (ABu hCe) (g1 hp (Obj.mapFields (·.setIfInBounds 3 Value.none)) C _ (Ne.symm hCe) hC);have ha4:=BWs a ne (g1 hp (Obj.mapFields (·.setIfInBounds 3 Value.none)) a _ ne ha)
 repeat (first | show ADV he4 | show ADV hC4 | wp_step)
 refine zwe hh ha4 hd h2 ne he4 Β (AWj (2<6)) (hE _ (BkY he4 Β) (We n q (g1 _ _ b u n (g1 _ _ b u n (g1 _ _ b u n q)))))
theorem z5k(BgM){ER:CC}{cause:AF}{Q:Aig}(hC:ò)(hh:A6d)(AK_:BOw)
  (hi:AIZ) (hf:AZ7) (hca:BZu (ACv cause))
  (h:AoL AgC fv (fv= HE/\AVW (evalArgs LA Μ Awc []) (fun ar KU=>ar.kw= []/\D5 ar.pos.length/\BIZ/\
    GG Ix (AYf (J' (HE::ar.pos))) (AlF ANb ar.pos) (Aj8 (∃oe fv o vs,BIY/\BU1/\ApT (ACr Asi/\AkG/\AU7/\a≠Bj'/\
      ACw (TH ANb=Ε BZk) (AN2 Bj' Asi) (E (BA ANb) (ATc h'))))) E
     (BVV ar.pos.toArray BIh)))):
  BX0 (Ch cause):=by
 show bv Bna (Bkf (z38 hC hh (fun EJ P hP=>z6 (hca _ _ (z6 (AKq (z7 hP))))) ?_)) (mi (Bnb (ADZ h (AZT fv) nK)) BUL nK);show mB ZT ZT;refine ANg (ADZ ZT (fun ar KU i3=>AzD) nK);obtain⟨IJ,akw⟩:=ar;obtain⟨hkw,GH,X,i3⟩:=i3;obtain Β:akw= []:=hkw;show nL KU;obtain⟨bm,N,nm,qn,bs,P1,sn,BM,ab,col,dd,k0,k1,k2,k3,k5,hC',T,ht,cd,hcd,xB⟩:=AJx;simp only [AK_];show AJj Bnc hC';show Bf';obtain⟨_,oe,fv,o,vs,X',he,hc,hda,ho,hdo,h2,ne,hE⟩:=hr;exact⟨_,oe,fv,o,vs,Β,X',he,hc,hda,ho,hdo,h2,ne,hE⟩
#where
section
variable{X:Cx}{Ν:fB}{σ:St}{H:Hp}{s:AB}{A:BV}{E:eO}{a C dx:Ζ}{f f1:Κ}{y v1:V}{u:AE}
theorem yfi(I:AS)(e:P5 APq)(ed:UB dx BR3)(c:ADg)(n:s_)(nf:f≠f1)(ry:Q4)
  (h:Alb (KM dx BSY s')):A'F:=by
 show A8G;obtain⟨mA,ns,r⟩:=À dx ed;have hw:Within mA [f1]:=AlT (by
  by_cases q:g=f1
  show Dx q Ai_
  ·have:=r g;show vj hb g f1 Ay4;simp only [Ġ,hb] at Χ;cases z:mA g with
   | Ι=>exact Iy z hg
   | Ε w=>show B8 z;exact this.elim)
 obtain⟨hp,gg,d,tk,os⟩:=s;refine z45 ik c n hx Β Β Β ns hw (by rw[AR',AKy];omega) fun h' tk' ns' sb=>AkW
 obtain⟨o',es,ep,ho',_⟩:=id ns';refine I.write (t' :=tk') (x:=dx) (e:=dx) (At4 ed) UI (xy u z BVG) (Lm ho') (DH ns' (G1 g))
 have rg:=r g;show Ali
 ·show vj hb g f1 (ARN (q ▸ nf));have hb2:(g==f)=Μ:=BHp;simp only [Ġ,hb,hb2,Hk];exact ry
 ·show vj hb2 g f Ay4;show CS q;by_cases q1:g=f1
  ·have hb:(g==f1)=Μ:=BEm q1;simp only [Ġ,hb] at rg⊢;exact rg
  ·show vj hb g f1 (ARN q1);simp only [Ġ,hb,hb2] at rg⊢;exact rg
#where
def RX(BcS):TS:=A_J (∃a dx f1 v1,x= BQ/\GY H2 APq/\H2 dx=Ε BR3/\f≠f1/\AG7 (upd H2 dx BSY))
section
variable{X:Cx}{o EV:AF}{f:Κ}{Υ Ff :AL}{ta tv:TE}{C:Ζ}
theorem yd6(BgV):BZM RX:=by
 show c0;refine A0X (aE Aij u Bz);show A9m Bz;show ACx A7h ov Be;obtain⟨x,H2,I2,rx,a,dx,f1,v1,ex,ea,ed,nf,q2⟩:=Be;subst ex;show ł ov rx;exact yfi I2 ea ed c n nf ry BSJ
#where
structure RZ (AqQ) (k:Δ) (f:Ζ) (fd:E_) (C:Ζ) (f1 f2 a1 a2:Κ):Θ where
 run:∀(b0:Ζ) (A:BV) (Cf:L4) (s:AB) (H:Hp) (ER:Args) (us:An) (x:Ζ) (v1 v2:V) (Q:VK),AgA ->Am2 ->Hm (AU' ER ((ţ).zip us)) (ABn [.B0 x,v1,v2]) BSW (∀dx H',N_ dx ->Bev BSZ H) (AIU ACY (A.mark (Ε (BA b0))) Lc ER (AMR (∃u,r= .ok (.ret u)/\BCa)) s)
section
variable{P:As}{w:AW}{K:Ω}{mg:DU}{A8:AJ}
theorem z9z(AAX){st:AN}{f:Ζ}{fd:E_}{k:Δ}{C:Ζ}{f1 f2 a1 a2:Κ}{p1 p2 p3 p4 p5 p6 p7 p8:AL}(Fn:AY6)
  (hbd:vf st= [.AKr [.ġ Aj1 f1 p2] (FR a1 p3) p4,.AKr [.ġ (AHa p5) f2 p6] (FR a2 p7) p8]) (S:DM ţ ţ st)
  (hc:ANn) (hn1:ADM f1) (hn2:ADM f2) (nf:f2≠f1) (hv0:A4P) (hv1:qP (bw st) a1) (hv2:qP (bw st) a2)
  (hs1:∀BN:Env,AGl (AFs (FR a1 p3) (Ch (ABh Aj1 f1 p2)) p4.line BN)) (hs2:∀BN:Env,AGl (AFs (FR a2 p7) (Ch (ABh (AHa p5) f2 p6)) p8.line BN))
  (A9l hd1 a1 hc1 a1) (A9l hd2 a2 hc2 a2):
  BeZ LH:=by
 show AFM;refine⟨fun b0 A Cf s H ER us a v1 v2 Q hr e0 hb r hx hQ=> ?_⟩;show U2 KX AJa BLB lim Bl0 BLC hkind (∀y∈ (ţ).zip us,BMf y.1=Ε ATz\/ (BMf y.1=Ε Ň/\ AhH (eI mS (bw st).IC []).wn y.1)) (fun y hy=>by
  obtain⟨n,v⟩:=y;show g9 BOn q
  ·exact .A0 q
  show KL BRB)
 show LM (Bl1 (A:=A.mark (Ε (BA b0))) hr.depth (KX _ _ lk) Β S.co S.gen Β BUw (AIB hb ?_)) Bcw;subst he;refine⟨BNE,Bl2 ?_⟩;have I0:Inv BAn [] A_Z H s1:=Beg Β;have I:Inv (((BAn).hand b0).wsh AtM) [] A_Z H s1:=yhb (z:=Lm []) (Ν:= []) (zo1 I0 b0);have W:=(zo3 (X:=((BAn).hand b0).wsh AtM) (z7l (Υ:=p4) (Ff :=p2) hc hn1 (AoS p1 0 Β hv0) (AoS p3 1 Β hv1 hd1 hc1) (hs1 _)) (zv4 (yd6 (Υ:=p8) (Ff :=p6) hc hn2 (AoS p5 0 Β hv0) (AoS p7 2 Β hv2 hd2 hc2) (hs2 _)))) [] s1 A_Z H BWr I
  ⟨v1,Β,BQ,Β,a,Β,hx,fun dx n1 n2=>⟨v2,Β,BQ,Β,a,dx,f1,v1,Β,A2V,iD,nf,hQ dx _ n1 n2 (by rw[Au',Au',iD]) iD (BVK (bW q2))⟩⟩
 rw[<- hbd] at W;refine Y3 W (Ap fl s' hs) fun e s' z=>z.elim;cases fl with
 | ret u=>
  obtain⟨v,DA,H',J,rv,q⟩:=hs;exact⟨_,Β,v,H',J.os,J.bare,J.base,J.hok,rv,q⟩
 | JP=>
  obtain⟨DA,H',J,q⟩:=hs;exact⟨_,Β,V.non,H',J.os,J.bare,J.base,J.hok,Β,q⟩
 | brk=>
  show Apa
 | NY=>
  show Apa
#where
def En(F:Hp)(a:Ζ):Θ:=∃o C,A0w/\AiM
def zvd(C:Ζ)(f1 f2:Κ)(k9):aG:=A3' (∃d1 d2,ds= [d1,d2]/\BRP)
section
variable{X:Cx}{F0 H0:Hp}{e1 e2:AF}{Υ np Fh cp:AL}{t:cP}{x f1 f2 a1 a2:Κ}{C f b0:Ζ}{fd:E_}{k:Δ}
theorem z48{j}(hA:En F0 b0)(hg:JE)(hm:AJr)(hC:ADg)(hi:BdR)(hf:BMj)
  (Fn:RZ FH X.w AG iX OQ k f fd C f1 f2 a1 a2) (hr:AJz) (hb:AR3 AG fd ţ []) (ha:BYd)
  (BaQ):
  BcM:=by
 rintro z E cx Ν s σ H D I ⟨F,Γ,D2,R,h,k'⟩;refine N1 z5k K AG C C f f a b0 hC.cls Β ?_ hi BJw (fun EJ P hP=>BDu hP) (Gv (X:=(AGO b0).wsh z) I hg hm AOt hd)
 ·rw[he];show MM (false || (backTo cpos (starEach [e2] X.env)).any (·.1))
  rw[De];rfl
 ·have A9:=ha z E cx Fh Ν s σ H (ACX H1 (∃F1 AA d1 d2,AMI/\yT F1 [d1,d2]/\BRP)) I (a_ (by
   obtain⟨d1,d2,Β,hE⟩:=h1;exact⟨F1,AA,d1,d2,R1,r1,hE⟩))
  rw[show ARn Aew (A9d z).BN=_ from he] at A9⊢;refine A'o (Ap us s2 hq);obtain⟨vs,H1,I1,r,F1,AA,d1,d2,R1,rs,hE⟩:=hq;have GH:BkZ:=by rw[<- OS,<- Sc,AKy];show 2<=_;omega
  refine⟨Β,GH,og,?_⟩;have ge:Ő (w9 AIQ).Me AIT AhG BTX:=by
   have:=z9 (w9 AIQ) (o:=AIT) Β;show B8 iq;exact Χ
  have kp:BbO:=AiZ;generalize hh2:(w9 AIQ).Me AIT=h2 at ge kp⊢;have n1:zC AhG:=Akr;have hle:AGR<=AGR+1:=Af0;generalize hea:Bj_=a at ge n1 hle⊢;have I2:Inv (A9d z) Ν σ ANu (Anf h2):=BdN;have f1n:No F1:=by
   cases q:F1 a with
   | Ι=>rfl
   | Ε o=>show A_G
  have u1:Bbg:=BYr;obtain⟨v1,_,Β,rv1,v2,_,Β,Uv,Β⟩:=rs;have hl:SL AEh= SL ţ:=by
   rw[FI,<- OS];rfl
  have hbs:=hb (xN s2 h2) AEh ALU AwV
  show va;have E0:=I2.env0;have E1:BW' (Anf h2) ANu:=⟨E0.frames,E0.mod,E0.bs,E0.bsz,E0.funs,E0.frf,E0.hok,E0.bare⟩;refine i6 (AcS (wx b0 (X.A.under (Atp (AJA HE))) JU _ _ (AJA AME) AEh a v1 v2 (UC H' (v= BE/\∃p,GY H' (Ad5 p)/\H' p=Ε BSZ/\p≠a/\zC p/\∀b,QQ ->b≠p ->H' b=H1 b)) Aky (E1.make C us []) hbs A9Y iD fun dx H' n3 n4 e1 e2 e3=>⟨Β,dx,e1,e2,n4,by rw[bW n4] at n3;exact n3,fun b h1 h2=>(HH (e3 b h1 h2) (bW h1))⟩) (Ap r' s' hq'))
  show Wp Β hq' hq';obtain⟨v,H',os,G_,un,DL,rv,ev,p,ea,ep,pa,p1,e3⟩:=hq';subst ev;refine D_ rv;have I3:Inv (A9d z) Ν σ H' s' :=I2.call' (s' :=s') os un DL G_ AYK
  obtain⟨t0,gx⟩:=UG DL ea;have sS:AeJ :=NC (AX (e3 b (iG e n1) (iG e p1)) e)
  obtain⟨o0,C0,ho0,hd0⟩:=hA;have g0:H' b0=Ε (.frz o0 (vh b0 C0)):=sS _ _ (IL _ _ (R1.gr.f _ _ ho0));obtain⟨k1,⟨o1,vs1,k2,k3,k4,k5⟩,_⟩:=I3.hok b0 _ g0;rw[k1] at k2;cases k2;show LP k6 (IM vs1 2 dy) (k5.resolve_right fun n=>n hd0) ne0 (b0≠a) (AV (by rw[z,ea] at g0;cases g0)) ⟨_,t0,o0,vs1,I3.kIn,gx,Β,Β,k1,k4,k6,ne0,gf gh kh⟩;have Cj:=AsR un;have nH:BPK:=AP8 (by
   show YA
   ·simp [hb] at eb
   ·exact BU4)
  have yH:BWb:=BTG
  show Hc nfr (fS H' (b∉lr)) (We eb hm (by
   have:=I3.stkFree b hm;show B8 eb;show E3)) old (ņ Acd QQ) (e9 eb z (WG (zG (z ▸ eb)) Bn6 hle)) nfa (a∉lr) (nfr a _ ea) fp (F1 p=Ι) (BHF p1);refine ALO Ν σ AA F1 H1 s2 E8 (ATc h') I1 R1 ⟨a,HE,Afp,BUu,Ε p,Β,os,G_,?_,?_,?_,?_,?_,.pay C [f1,f2] BjK,F1,hE,vy ?_ ?_,Β,p,[v1,v2],[],Β,BZ_,Β,fp,p1,AsX,(Lo (yv hb)),?_⟩
  ·refine⟨fun b o eb n h1 h2=>kh b o (old b o eb) (Cj.keep b o eb n h1 h2),fun b o eb n h1 h2=> ?_,GN b o eb n hx,ACu eb hx,K_ xs eb,ACu u eb,K_ ps eb⟩
   ·show gc q (Cj.slot b o eb n h1 h2);exact⟨sl,BTB⟩
   ·have:=Cj.free b o eb n hx;simp [Χ]
   ·show kR q (A6x hx);exact⟨o',BTB⟩
   ·exact AVr (Cj.tups b xs eb)
   ·exact BXW
   ·show ADY d6 (Cj.pJ b ps eb);exact⟨d6,AVr q⟩
  ·intro b u eb;show AoE;refine ADn DL eb (fun c o hc q=>kh c o (A6 hca ?_) q) (fun c q=>ApJ) (AMq q ApJ)
   ·rcases hc with hc | hc
    ·exact hb (hc ▸ hca)
    ·rw[hca,ea] at hc;cases hc
   show Aox
   show Aox
  ·refine⟨SV o (kh b o (E9 (AgH (zk0 _ AAb))) BOJ),zk0 _ zY,?_,A_p gh (.AZ (AV AGk))⟩
   have k:=A6K (a::lr) I3.stack BZS;exact k.of_keeps (ύ (Aid (kh b o (E9 (by subst z;rw[gx] at q;cases q;exact n _ Β)) q)))
  ·intro b o eb n;show kR e' (A6x A2)
   show Db o' (AJF e' (G1 hm));show ai hm hm
   show Û Β (old _ _ eb)
   ·exact n hm
  ·intro b u eb;show AoE;show DE o eo zyt (DL b u eb);show Db o (AJF eo (G1 hm));show Zp hm hm hm
   ·exact hb hm
   ·exact BWG
  ·exact AP8 (yH b u (iG BJl n1) (sS b u BJl))
  ·exact AP8 (yH b u Ad8 (sS b u eb))
  ·refine⟨v1,[v2],[],[],Β,Β,?_,?_⟩
   ·exact Hb rv1
   ·refine⟨v2,[],[],[],Β,Β,?_,?_⟩
    ·exact Hb Uv
    ·exact k7
#where
theorem zpx{A B C:BV}(h:Ar7 A B)(k:Ar7 B C):Ar7 A C:=fun BY e=>by
 obtain⟨AA,a1,a2,a3⟩:=h BY e;obtain⟨A4,b1,b2,b3⟩:=k AA a1;exact⟨A4,b1,b2.trans a2,b3.trans a3⟩
def JT(pl:AO)(F:Hp)(a:Ζ):Θ:=QC F a/\ (pl=Μ ->En F a)
inductive R9 (X:Cx) (H0:Hp) (pl:AO):DD Ag9 (A3S)
 | one:∀{x np C b su hp th},JE ->A_ AJr (n8 AG C) BCW (Aym x) (R9 X H0 pl (Bab (Ch AHN)) fun C' D Γ E=>bB AG C' C=Μ/\th D Γ E)
 | AY:∀{x np C b su hp th hs tt},cr JE AJr (n8 AG C) BCW (Aym x) (R9 X H0 pl hs tt) (R9 X H0 pl (.Ass (Ch AHN) Ι (b::su) hp::hs) fun C' D Γ E=>(HI (bB AG C' C) (th D Γ E) (tt C' D Γ E)))
def JV(pl:AO)(K:Ω)(tb:aG)(tt:A3S):aG:=fun D Γ E=>tb D Γ fun AA x=>(Bcx (n8 K x.cls) D)
def JW(pl:AO)(K:Ω)(C1:Ζ)(tb Pk:aG):aG:=Bbz (am C C1/\Akv)
def JX(pl:AO)(K:Ω)(C1 C2:Ζ)(tb Pk th2:aG):aG:=Bbz (if am C C1 then Akv else am C C2/\th2 D Γ E)
section
variable{X:Cx}{F0 H0:Hp}{Υ:AL}{hs:Ag9}{MY:Xs}{tb:aG}{tt:A3S}{pl:AO}
theorem z61(hex:APa)(hst:ApZ)(hfr:AZF)(hb:BBG)(hh:R9 X H0 pl hs tt):BBL (JV pl AG tb tt):=by
 rintro z E cx Ν s σ H D I ⟨F,Γ,D2,R,h,k⟩;obtain⟨h0,hr,eh⟩:∃h0 hr,hs=h0::hr:=by cases hh<;>exact Ais
 rw[eh];refine wpAny_Try_except ?_;rw[<- eh];have A9:=hb F ⟨fun e EJ=>(ACb (Acb e CB) (Kt KU (ACb (setFlight e Ι) (Kt Ĥ (ACb (handleBy e CB hs) BZy oa Ĥ)) oa KU)) oa EJ),z.pn++Ν⟩
  (fun AA x=>(Bcx (n8 AG x.cls) D2)) ⟨? px,Ll h (PassesOwnAt.lookingOf h)⟩ [] s σ H D (yhb I) ⟨F,Γ,D2,R.base,h,k.base R.gr⟩
 ·refine Y3 A9 (Tu f q) Ų;have q' :=yo4 q;cases f with
  | JP=>exact BDx q'
  | ret v=>exact q'
  | brk=>exact q'
  | NY=>exact q'
 ·intro uR σ1 AA F1 H1 s1 e s' I' R1 hx;have I1:AjX H1 s1:=Xj I';obtain⟨a,Cv,H',B,dx,Β,os,G_,un,DL,K4,inB,yE,A4,F2,xv,R2,Du,xr,apx,De,hCc,hth⟩:=hx;have abO:Cv= .B0 xv.cls:=xr.1;subst abO;have pl0:pl=Μ ->dx=Ι:=Q3 (by
   show DE C Β De q;exact xr.2)
  generalize xv.cls=C at hCc hth K4 DL yE inB un;refine z2a (BN:=CB) (Cf:=AAu) (I1.ok.frames.trans (OT Ε hst)) hfr BPS (Ap h4 held up4)
  refine Iu (s:=ATc h4) held (Ap h5 fl up5);have I5:AjX H' Aj3:=BFV (t' :=s'.toks) I1 hex os G_ un DL K4.1 fl.1 inB yE (up4.trans up5);obtain⟨ob,hob,hobc⟩:=fl.there;have suite:∀(th:aG) (b:AN) (su:Xs) (hp:AL),BCW ->th D2 A4 E ->
    AKz jS (X.A.mark (Ε E8)) (.handlers E8 (Bab Ι) CB) (p_ KU (AxP (.ok f) (Amr K2 KU) (.ZI x) (cameBackBy jS X.A CB oa x KU))) Aj3:=by
   intro th b su hp hh hth;refine codeAny_handlers_suite (Iu (s:=Aj3) fl (Ap h6 fl6 up6));have I6:AjX H' Aj4:=BFV (t' :=s'.toks) I1 hex os G_ un DL K4.1 fl6.1 inB yE BYC;obtain⟨oe,vs,T,oT,ts,g1,⟨g2,gd,g4⟩,g3,_⟩:=fl6.2.2.2;have nB:Ayu:=fl6.2.1;have nH:No H':=by
    cases q:H' a with
    | Ι=>rfl
    | Ε u=>show A_a (yE a u q) nB
   show Hc nfs (a∉lr) (fun hm=>by
    obtain⟨_,o2,e2,nf⟩:=I1.stack.mem hm;show gc e3 (un.any e2 (I1.stkFree a hm) A2)
    obtain⟨sl',e4⟩:=BYC a _ e3 nf;rw[g1] at e4;cases e4;exact nf _ g3) JZ (No ASc) (by
    cases q:ASc a with
    | Ι=>rfl
    | Ε o=>
     show A_a (inB a o q nfs) nB) Yy BHi (by
    cases q:Aq5 a with
    | Ι=>rfl
    | Ε o=>
     show A_a (I1.base.there a o q (by show a∉AAv;rw[hex];simp)) JZ) abP BIy (AV (nfs (by rw[hst];unfold frs;rw[Abl,hfr,z];exact zY)))
   show Hc Yz (ADW a) (fun x c e z=>by
    obtain⟨v,o,ho,_⟩:=I1.cell x c e;rw[z,JZ] at ho;cases ho) abQ (WN (z.pn++Ν) (Cl≠a)) (fun p hp z=>by
    have ho:=ANx I1.pin;rw[z,JZ] at ho;cases ho) IT (AjX AlI Aj4) (Inv.track I6 nH ⟨g1,⟨oe,vs,g1,g2,g3,AX gd g4⟩,⟨oe,g1⟩,fun h1 h2 Bz st=>by obtain⟨o,ws,p1,p2,p3,p4⟩:=Bz;exact⟨o,ws,st o p1,p2,p3,p4⟩⟩ Yy abP Yz abQ) xP (Gr F2 H' A1v AlI) (AcU R2.g nH);have IH:Inv (Apd oa) Ν σ1 AlI Aj4:=zo1 (X:=ħ ⟨oa,z.pn⟩) ⟨yao IT.ok _,IT.os,IT.bare,IT.base,IT.loc,IT.cell,IT.free,IT.freeC,IT.pin,IT.hok,IT.len⟩ a;have R7:=Ar9 xP;have R8:=R7.unbase R.gr;have cxs:Ctx (Apd oa) A1v H0 E:=by
    show Db (fun YB σ2 Γ3 F4 H4 s4 e s5 I4 R4 hx4=> ?_) (fun A' A'' hS=>cx.pq A' A'' (zpx hS (Bn_ _ _)));refine cx.pX YB σ2 Γ3 F4 H4 s4 e s5 (Xk I1.ok I4) (R4.unbase R8.gr) (hx4.imp (KE C dx H' hq));obtain⟨BY,F',x,R',s,xr,ap,hE⟩:=hq;exact⟨BY,F',x,R'.unbase R8.gr,s,xr,ap,hE⟩
   have run:=hh a A1v ⟨⟨oe,C,iD⟩,Q3 ⟨oe,C,iD,gd.trans (pl0 q)⟩⟩ ⟨oa,z.pn⟩ E cxs Ν Aj4 σ1 AlI D IH ⟨_,A4,D2,R7.base,hth,(((k.base R.gr).Į R2.gr.f).Į xP.f).A8 R7.gr⟩;exact Y3 run (fun f s2 q=>z8e I1.ok q) (cx.pq _ _ (Bn_ _ _))
  obtain⟨bm,N,nm,qn,bs,P1,sn,BM,ab,col,dd,k0,k1,k2,k3,k5,e1,_,_,_⟩:=HB Asu hCc;have go:∀{hs tt},R9 X H0 pl hs tt ->tt C D2 A4 E ->ACb (handleBy E8 CB hs) BZy oa Aj3:=by
   intro hs tt hh hth;induction hh with
   | one hg hm hC hh hd=>
    refine Bn' (BoA Bfa) BLW
    obtain⟨bm',N',nm',qn',bs',Ja,sn',sub',ab',col',Ip,j0,j1,j2,j3,j5,e2,tl,_,_⟩:=HB Asu hC;refine zpp e1 e2 hob hobc BLc ?_;rw[Bb0,hth.1];exact suite _ _ _ _ hh hth.2
   | AY hg hm hC hh hd _ ih=>
    refine Bn' (BoA Bfa) BLW
    obtain⟨bm',N',nm',qn',bs',Ja,sn',sub',ab',col',Ip,j0,j1,j2,j3,j5,e2,tl,_,_⟩:=HB Asu hC;refine zpp e1 e2 hob hobc BLc ?_;rw[Bb0];split at hth
    ·show L6;rw[q];exact suite _ _ _ _ hh hth
    ·show L6;rw[Bool.eq_false_iff.mpr q];exact ih hth
  exact go hh hth
#where
open ww in
theorem ycm{P:As}{w:AW}{Cf:L4}{s s' :AB}{e:AE}{E E' :XK}{H H2:Hp}(S:AhN)(h:Ams E)(hS:BXc)(hN:AL1 AIj H)
  (k:∀C dx H' H2',(Af5 (H' b=H b/\H2' b=H2 b)) ->(pr AIj H2' H') ->AZ9 ->E' C dx H2'):dY P w Cf H2 s E' e s' :=by
 obtain⟨a,C,H',B,dx,h1,h2,h3,un,DL,K4,inB,yE,hE⟩:=h;show Hc fz (pr (S b) H' H) (FS (by
  obtain⟨o,AH,e1,_⟩:=ADN;rw[e1];exact un.nq b _ _ e1)) i1 (pr (S b) A9' H2) (FS AhX) i2 (pr AIj A9' H') Ayt no (qo (H2 b=u) (∀AH,u≠Ε Op) (AIj/\H b=u)) (AYO (by
  have hb:AIj:=ADr (by
   obtain⟨_,AH,_,e2⟩:=ADN;rw[e2] at q;exact n AH AsF)
  exact⟨hb,DC AiP q⟩))
 generalize A9'=H3 at i1 i2;show LP ne (qo (MQ H') (BQH) (MQ H3)) (AYO (by
  rw[i2 b (G1 hb)];exact q;obtain⟨_,_,e1,_⟩:=ADN;rw[fz b hb,e1] at q;cases q;exact n _ _ Β)) st (∀{u:HO} {b:Ζ},BWC H' ->BWC H3) (A7b Aoi Aoi) ⟨a,C,H3,B,dx,h1,h2,h3,⟨BTS,BTS,GN b o eb n q2,un.there,A2T,ACu u q,K_ ps q⟩,Ê,K4,inB,Ê,k C dx H' H3 (Lo ⟨fz b hb,i1 b hb⟩) i2 hE⟩
 ·exact un.keep b o eb (no b _ n AH8).2 q1 q2
 ·exact un.slot b o eb (no b _ n AH8).2 q1 q2
 ·show AT' n' (no b _ n AH8)
  rw[AJG];exact un.free b o eb n' q2
 ·show AT' q' A8R
  rw[AJG];exact un.tups b xs q'
 ·show AT' q' A8R
  rw[AJG];exact un.nq b o u q'
 ·show AT' q' A8R
  rw[AJG];exact un.pJ b ps q'
 ·show AkU
  ·show A5l;rw[i1 b hb,e2] at q;cases q;exact st (DL b _ BZv).2
  ·rw[AJG] at q;exact st (DL b u q)
 ·show AkU
  ·show A5l;exact yE b _ BZv
  ·rw[AJG] at q;exact yE b u q
#print L3
namespace L3
open IB OL JO L2
mutual
def MN:AI0
 | cK=>rB d
 | tw=>AJY
 | AkX=>AJY
 | A1K=>AJY
 | A5G=>AJY
 | AI7=>D8
def sX:Fk HK
 | []=>JS
 | c_=>MN t/\AJY
end
section
variable{K:Ω}{F F' H:Hp}
mutual
theorem z5u(Bdv):∀(t:T) (v:V) (as:Bi),MN t ->AIC ->TR K F' H t v as
 | cK,v,as,n,h=>by
  have:=hA [d] [v] (EL (Afy n)) (Oi h.2)
  obtain⟨v',_,ev,r2,Β⟩:=Χ;cases (ev);exact⟨FY,r2⟩
 | tw,v,as,n,h=>by
  obtain⟨a,vs,bs,e1,e2,e3,h⟩:=h;exact⟨a,vs,bs,e1,e2,e3,ApD⟩
 | ó,v,as,n,h=>by
  obtain⟨a,vs,bs,e1,e2,e3,e4,h⟩:=h;exact⟨a,vs,bs,e1,e2,e3,e4,ApD⟩
 | AE_,v,as,n,h=>by
  obtain⟨a,vs,bs,e1,e2,e3,e4,h⟩:=h;exact⟨a,vs,bs,e1,e2,e3,e4,ApD⟩
 | AFV,v,as,n,h=>by
  obtain⟨a,dx,vs,bs,e1,e2,e3,e4,e5,e6,h⟩:=h;exact⟨a,dx,vs,bs,e1,e2,e3,e4,e5,e6,ApD⟩
 | AI7,v,as,n,h=>tz
theorem U5(Bdv):∀(ts:HK) (vs:AQ) (as:Bi),AJY ->AH9 ->fQ K F' H ts vs as
 | [],vs,as,n,h=>OE
 | c_,vs,as,n,h=>by
  obtain⟨v,us,bs,cs,e1,e2,h1,h2⟩:=h;exact⟨v,us,bs,cs,e1,e2,z5u hA t v bs n.1 h1,U5 hA ts us cs n.2 h2⟩
end
#where
def GR:AhO
 | .pay _ _ ts=>AJY
 | _=>JS
section
variable{X:Cx}{F0 H0 F H F1 H1 MP GX :Hp}{z:Om}{E:XW}{Ν:fB}{σ:St}{Γ AA:G2}{s1 s' :AB}{e:AE}
theorem yfe(cx:AdK)(R:AFS)(L:BgF)(n0:Ak_)(I1:ACn GX s1)(R1:BYJ)(sF:qf MP)
  (hq:dY FH X.w JU GX s1 Bdx e s'):oa e s' :=by
 obtain⟨F2,H2,R2,Du,_,_,e1,e2⟩:=L.back R1 sF;have I2:ACn H2 s1:=DS Asr n0 I1 AsQ e1 e2;show LP sH (Id H H2) (SV u (by
  by_cases hb:T_
  show Dx (e1 b hb) q
  show Dx (e2 b hb) (AsQ b u (Do (L.hN b hb) q)))) R3 (Ļ F H2 Γ) (ALK ⟨kB,fun b u q=>sH b u (R.g b u q),sH,ύ (by rw[q] at n;cases n)⟩) (cx.pX Ν σ Γ F H2 s1 e s' I2 R3 (ycm A5b hq AWl e2 fun C dx H' H3 fz i2 hx=> ?_))
 ·obtain⟨o,AH,q1,q2⟩:=Ay5;exact⟨o,AH,AhY q2,AX (e1 b hb) q1⟩
 obtain⟨x,F',⟨nx,hE⟩,gr,xr⟩:=hx;obtain⟨F4,H4,R4,sF4,rs4,at4,f1,f2⟩:=BdT;obtain Β:H4=H3:=funext fun b=>by
  by_cases hb:T_
  ·rw[f1 b hb,SG fz,e1 b hb]
  ·rw[f2 b hb,AJG]
 refine⟨Γ,F4,x,R4,sF4,D_ xr.1,AyD R3.apart,hE⟩;have nn:J_ (P3 GX) (¬T_):=fun b q hb=>by
  obtain⟨o,AH,_,q2⟩:=Ay5;rw[AhY q2] at q;cases q
 cases x with
 | B0 C=>exact xr.2
 | any C=>trivial
 | pay C fs ts=>
  obtain⟨p,vs,as,e3,ep,el,fp,hp,nd,hn,rt⟩:=xr.2;refine⟨p,vs,as,e3,AX (i2 p (nn p hp)) ep,el,(at4 p _ (Asl hp) ep).2.2.2 fp,AX (e2 p (nn p hp)) hp,nd,NL,?_⟩
  ·show AVz q (ALD ts vs as rt b hb);exact⟨(at4 b _ (Asl hZ) q).2.2.2 ACW,AX (e2 b (nn b hZ)) hZ⟩
  ·exact U5 rs4 ts vs as nx (oP IR ts vs as (ANL (i2 b (nn b hZ))) rt)
#where
def zur(BM8):cu:=fun Γ P E=>te AeM (fun d AA=>(ul (C' =C/\uu/\t AA (fun es _=>BBu) kj))) kj
section
variable{X:Cx}{F0 H0:Hp}{e o:AF}{es:CC}{Υ p IJ:AL}{x m:Κ}{f fa C:Ζ}{fd:E_}{ps:Ρ}{k:Δ}{sp:d7}{t:cP}{te:cu}{pl:APB}
theorem Sd{z:Om}{E:XW}{F H F1 H1 MP GX :Hp}{Ν:fB}{σ:St}{Γ AA:G2}{s:AB}{us:An}{vs:AQ}{ds:AM}{P:A0M}{Q:VK}(Bf5)
  (R:AFS) (L:BgF) (n0:Ak_) (I:ACn GX s) (R1:BYJ) (sF:qf MP) (r:AO8) (rs:yT MP ds) (h:sp ds (ť (rB d/\P d Γ)) fun x=>GR x/\AeK)
  (kk:BfA):
  BAp us:=by
 have hs:pC AG sp vs GX Bhq Bdx:=
  ⟨MP,ds,_,_,IL,rs,h,AvU (by
   obtain⟨F2,H2,R2,Du,FQ,_,e1,e2⟩:=BdT;have r2:=FQ [d] [v] BLo (Oi rv)
   obtain⟨v',_,ev,r2,Β⟩:=r2;cases (ev);exact⟨R1.gr.h.trans gr.h,H2,e1,e2,kk d Γ F2 H2 v R2 Du r2 hp.2⟩),AVu⟩
 show ApX
 show BSA;show va;show ϫ i6 (wx X.A JU s GX ANi us vs _ _ hr I.env0 hbs r hs) AEy;cases r with
 | ZI e=>exact yfe cx R L n0 I R1 sF hq
 | ok fl=>
  cases fl with
  | ret u=>
   obtain⟨x,H',I',rv,sm,H2,e1,e2,hQ⟩:=I.after hq;exact⟨x,H2,DS Asr n0 I' sm e1 e2,rv,hQ⟩
  | JP=>show NR
  | brk=>show NR
  | NY=>show NR
theorem z7p(Bdo)(hr:gI)(hb:AIf)(ho:ve AJQ)(ha:ve NJ)
  (hst:fF:=by rfl) (De:jp Υ es:=by rfl)
  (ht:ϥ AHo (do
   let ov<- Ts o
   õ
   let (f,first)<- þ m pl
   Ă (ë HC) AAL):=by rfl):
  Apc zur:=by
 show AH6;show AaE;show Amk (ho F1 H1 z kj AT7 Ν s σ H1 (UC H2 (∃F2 A4 d,AwH F2 H2 A4/\ATd/\AMU F2/\ (ul (C' =C/\uu/\t A4 (fun es _=>BBu) kj)))) I1 ⟨F1,jO Γ,_,L.R,h,fun d AA F2 H2 v R1 s1 r1 h1=>⟨F2,AA,d,R1,s1,r1,h1⟩⟩) ⟨x,H2,I2,rx,F2,A4,d,R2,sF,rd,q⟩
 cases d with
 | obj C' fs ds=>
  show AZu;have Ms:=rd;show AY_;show YI;show BBR I2 (R2.g _ _ ea);show BBZ (bT (Bfl Υ s1 σ H2 (ACX H3 (∃F3 Γ3 es,AwH F3 H3 Γ3/\Id F2 F3/\yT F3 es/\BBu)) I2 ⟨F2,A4,_,R2,q,fun es Γ3 F3 H3 vs R3 s3 r3 h3=>⟨F3,Γ3,es,R3,s3,r3,h3⟩⟩)
   fun us s2 ⟨ws,H3,I3,r,F3,Γ3,es,R3,sF3,rs3,q3⟩=>(D_ I3.kIn))
  exact Sd (us:= BQ::us) (vs:= BQ::ws) Fn hr hb cx R L n0 I3 R3 (Adt sF3) A1j (rW (Ms.up sF3) rs3) q3 kk
 | _=>show ua
theorem zs1(G:AQh Dv)(hc:sq)(hr:gI)(ho:ve AJQ)(ha:ve NJ)
  (hst:fF:=by rfl) (De:jp Υ es:=by rfl)
  (ht:ϥ AHo (do
   let ov<- Ts o
   õ
   let (f,first)<- þ m pl
   Ă (ë HC) AAL):=by rfl):Apc zur:=by
 obtain⟨f,fd,h1,h2,h3⟩:=w8;exact z7p hc h2 h1 hr h3 ho ha hst De ht
#where
def yim:u_:=fun vs H Q=>∃(a:Ζ) (AH:sC),vs= PF/\AXW/\BBM Op
theorem ydp{X:Cx}:ADP dr yim:=by
 rintro Ν s σ H xs us Q I r ⟨a,AH,Β,hr,k⟩;show Su;show YI;obtain⟨hz,hsm,ws,kv,hd⟩:=Io MC hr;refine kt_call_dict (knd:=AvH) hsm hd (DC xD hz) (gf hd' hs')
 have kp:A1s:=Í (hs'.2 b (BCv (AqV e))) pz
 refine AKD (BUQ AlX kp E2 ⟨hz,BPt I.big,ws,kv,hd'⟩) k
def yan(k9):pG:=VO (∃d ks xs,ds= [d]/\Afd/\FF A3q)
section
variable{X:Cx}{F0 H0:Hp}{e:AF}{es:CC}{Υ p:AL}{x:Κ}{t:cP}
theorem z6x(hg:JE)(hm:AEc)(hv:ADy BHn)(ha:NJ)(AJ4):Æ gN (yan t):=fun z E cx=>
 pB (AQB Wu ydp hv hn hdb De) (Ϻ Bz (by
  show NO Bz;refine ALo ds vs rs Be ?_;obtain⟨d,ks,xs,e1,e2,h1⟩:=Be;subst e1;show ý rd rs;show x6 a us hr hl ru (Mz e2 rd);refine⟨a,Re us,Β,Ir IL hr,AJq⟩;have R2:AS9 (jn q (.dK (Re us))):=AGJ (vy (Í (AIM IL hq) (UY IL)) (Í (aw hq) e))
  exact k A3q _ _ _ _ [q] R2 s1 A2 (Lo (ANk hb ⟨BHF hq,Asl hq,Asm hq⟩)) ⟨q,us,[],Β,Β,iD,hl,K9 ru⟩ h1))
#where
def J0(C:Ζ)(m:Κ)(sp:um)(te:cu)(t:cP):pG:=lj (ul (C' =C/\uu/\ApG))
section
variable{X:Cx}{F0 H0:Hp}{e o:AF}{es:CC}{Υ IJ:AL}{m:Κ}{C:Ζ}{ps:Ρ}{k:Δ}{sp:um}{te:cu}{t:cP}
theorem z8x(G:AQh Ci)(hc:sq)(hr:gI)(ho:AJQ)(ha:NJ)
  (hst:fF:=by rfl) (De:jp Υ es:=by rfl)
  (ht:ϥ AHo (do
   let ov<- Ts o
   õ
   let (f,first)<- þ m pl
   Ă (ë HC) AAL):=by rfl):
  Æ AHo (J0 C m sp te t):=by
 show Ap0;show AH6;refine Aez (Ŏ (Aol (ul (C' =C/\uu/\ApG)) An1) u) ht
 obtain⟨x,H1,I1,rx,F1,AA,d,R1,sF,rd,q⟩:=CM;cases d with
 | obj C' fs ds=>
  show AZu;have Ms:=rd;show AY_;show YI;refine BBy AmB;refine BiW ASN hm.kp (bT (AeZ s1 H1 (A'D ATd A4i Auc) I1 (AMM q BCV))
   (ABx us hz2)) hst De
  obtain⟨ws,H2,I2,r,F2,A4,es,R2,Du,FQ,q2⟩:=hz2;refine D_ ALU;have hs:Als vZ (BQ::ws) H2 (E A4 x) F2 H2 H2:=⟨F2,_,_,_,R2.g,rW (Ms.up Du) FQ,q2,fun t v as F' H' gr nd hn rt hp=>kk t A4 F' H' v as Azy BVD nd (fg ⟨AfN,R2.gr.h.free AMT,R2.apart AMT⟩) rt hp,AVu⟩;have hl:SL (AEh++ [])=II:=by rw[RY,<- AHr,FI,FI,OS]
  have hbs:=hb s2 AW7 ALU hl;show va;show ϫ i6 (wx X.A JU s2 H2 (AJA BQ) AW7 (BQ::ws) Q _ hr I2.env0 hbs A1j hs) AEy;cases r with
  | ZI e=>exact ALO Ν σ A4 F2 H2 s2 e s' I2 R2 hq
  | ok fl=>
   cases fl with
   | ret u=>exact BGT hq
   | JP=>show NR
   | brk=>show NR
   | NY=>show NR
 | _=>show ua
#where
def Bc(t:pG):pG:=AlQ t tr (MN tr/\P tr Γ)
theorem zvg(ADp){e:AF}{tn:pG}(h:ve ADk):av QN (Bc tn):=fun z E cx=>by
 show AaQ;show AaE;show AqF (fun t BY F' H' v as R' s' nd hn rt hp=> ?_)
 ·show BCg;have hh:Al7 (No F2/\È/\AEt/\∀u,At5 ->GY H2 u):=AfM (by
   obtain⟨g1,g2,_⟩:=hn a ha;show AVz eu (ALC t v as rt a ha);obtain⟨q1,q2,q3,q4⟩:=at2 a u g2 eu;exact⟨q4 g1,q2,q3,fun w ew=>by rw[eu] at ew;cases ew;exact q1⟩)
  exact Amp (k t Γ F2 H2 v as R2 sF nd (fg ⟨(hh a ha).1,(hh a ha).2.1,(hh a ha).2.2.1⟩) (ABR IR t v as (fg (hh a ha).2.2.2) (z5u rc t v as hp.1 rt)) hp.2)
 ·show A5y;exact A5p
def uz(tt:TT2):TT2:=AlQ tt b (P b Γ)
theorem zpb(ADp){e:AF}{tt:TT2}(h:ve (av QT tt)):av QT (uz tt):=fun z E cx=>by
 show AaQ;show AaE;show AqF (fun b BY F' H' R' s' hp=> ?_)
 ·show BCg;exact Amp (k b Γ F2 H2 R2 sF hp)
 ·obtain⟨H',I',sm,H2,e1,e2,hQ⟩:=hq;exact⟨H2,Asr n0 I' sm e1 e2,hQ⟩
def Ga:T ->D
 | AB' us=> .dik ks (j8 us)
 | t=>toD t
theorem YC(ADp){Ν:fB}{σ:St}{s:AB}{Γ:G2}:∀(ts:HK) {vs:AQ} {bs:Bi} {F H:Hp},cr AS AFS bs.Nodup (aT bs A_f) Bc7 (fQ AG F H ts vs bs) (∃F' H',AB_ s/\Ļ F' H' Γ/\Fu /\ (pr (b∉bs) H' H)/\ (A_0 bs)/\yT F' (ts.map Ga)):=by
 intro ts;induction ts with
 | DB=>
  intro vs bs F H I R _ _ _ r;show ph Β r;exact⟨F,H,I,R,kB,AO7,AO7,N9⟩
 | AY t ts ih=>
  intro vs bs F H I R nd hn hd r;show SK v us b1 b2 Β r1 r2 r;show ADG ks xs (hd _ zY);show SK a ws c1 Β ea hkl r1 r1;show DT nd1 Ym dis Bnu nd;obtain⟨_,_,zs,kv,o,es,ep,h1,_⟩:=Qw MC ea;obtain⟨F1,sF,R1,rp,Tk⟩:=R.nail (o:=o) nd1 (Lo (hn b (zP _ hb))) ea hkl r1;have I1:=zuq I ea h1;have off:N0 b2 (b∉a::c1):=fun b hb hc=>dis b hc b hb Β;obtain⟨F2,H2,I2,R2,Du,hH,hF,rs⟩:=ih I1 R1 Ym (Lo (AX (Tk b (off b hb)) (hn b (zQ _ hb)))) (fun t ht=>hd t (zW _ ht))
   (oP sF ts us b2 (ANL (Agj (AV (off b hb BJg)))) r2)
  refine⟨F2,H2,I2,R2,AGK Du,NL,NL,rW (rp.up Du) rs⟩
  show BPi hH (Agj (AV (hb (BCt _ BJg))))
  show BPi hF (Tk b (D6 (hb (BCt _ h))))
def z62(tn:pG):pG:=AZQ (∃ks ts,t= ó/\ Bc7/\FF BRS)
theorem yab(Be8):av QN (z62 tn):=A5Z (by
 show NO hq;refine bT (he z E cx Ν s σ H (UC H1 (∀s1,ACn H1 s1 ->∃H2,ACn H2 s1/\Q v H2)) I A8l) (Tu u Bz)
 ·intro s2 I1;show KA ks ts hd hp h1;show AAa;show DE n1 Ym Ara nd;obtain⟨F2,H2,I2,R2,Du,hH,hF,rs⟩:=DS YC ts I1 R1 Ym (Lo (hn b (zW _ hb))) hd r;obtain⟨g1,g2,g3⟩:=hn a zY;exact⟨H2,I2,k BRS AA F2 H2 _ [a] R2 (AGg Du) A2 (Lo (kM Avk (hF a n1) ⟨g1,g2,g3⟩)) ⟨a,vs,[],Β,Β,AX (hH a n1) ea,hkl,K9 rs⟩ hp⟩
 ·obtain⟨x,H1,I1,r1,q⟩:=Bz;show EQ H2 I2 q q s1 I1;exact⟨x,H2,I2,r1,q⟩)
def Pn(tn:pG):cu:=AZQ (P (toD t) AA)
open ww in
theorem yje(Be8):AI6 (Pn tn):=A5Z (by
 show NO hq;refine he z E cx Ν s σ H Q I A8l;have s2:qf (yA (xz AHR H1 (F1 b))):=SV u (by
  show UK A8t;show CS (A6 hb (APO ACW));exact q)
 refine k _ AA _ H1 v (R1.frzM s2 (Ê) (AYO ?_)) kF (AcV s2 t v as (fun a ha u q=>by show UK (B5 Akh (H1 a) (F1 a));show Go ha;exact q) r) h1
 ·change UK A8t at q
  show XZ
  ·exact q
  ·exact IL b u q
 ·change UK A8t at q
  by_cases hb:AHR
  ·exact hZ
  ·rw[AHv,n] at q;cases q)
#print L3
namespace L3
open IB OL JO L2
structure Xo2 (AFb) (mg:DU) (A8:AJ) (x:Κ) (C:Ζ) (f1 f2 a1 a2:Κ) (k:Δ):Θ where
 ex:Bci (BeZ k) (AR3 K fd ţ [])
section
variable{X:Cx}{F0 H0:Hp}{e1 e2:AF}{Υ np Fh cp:AL}{t:cP}{x f1 f2 a1 a2:Κ}{C b0:Ζ}{k:Δ}
theorem zwq{j}(hA:En F0 b0)(hg:JE)(G:Xo2 FH X.w AG iX OQ x C f1 f2 a1 a2 k)(hr:AJz)(ha:BYd)
  (BaQ):
  BcM:=by
 obtain⟨f,fd,Fn,hi,hf,hC,hm,hb⟩:=w8;exact z48 hA hg hm hC hi hf Fn hr hb ha hd he De
#where
def J1(tn:pG)(ta:cP):MK:=AZQ (ta AA (fun ds A4=>ME<30/\P (.nt (t::AKU ŕ)) A4) kj)
def Sg(AEq):TT2:=AeR (lP AEa (Ε (.pu BE)) (P Μ Γ) (Ε (.nt _ _)) (P AC Γ))
section
variable{X:Cx}{F0 H0:Hp}{Υ np np2 np3 lp ap cp ap2 cp2:AL}{x y w:Κ}{i j l:Δ}{e:AF}{es:CC}{tn:pG}{ta:cP}{tr:MK}
theorem z88{x1}(he:ADk)(ha:ve (FC QA es ta))(hs:fF:=by rfl):FC Yv (.AAz HC x1 Υ) (J1 tn ta):=fun z E cx=>by
 have hA:PA K2 es (fun σ H Q=>∃F1 H1,Ol AG F1 H1 ta kj σ H Q):=by
  rintro ps Ν s σ H Q I ⟨F1,H1,h⟩;exact Bfl ps s σ H Q I h
 refine pB (DS ygk (DS Qs NM hA hs)) (KE σ H Q hq);obtain⟨F,Γ,P,R,h,kd,kt⟩:=hq;refine AVC rt ⟨F1,Ba AA σ H1,F1,AA,_,R1.reb,h1,fun ds A4 F2 H2 vs R2 s2 rs hp=> ?_⟩;show U2 abR (∀c,gU AA σ c ->H0 c=Ι) (fun c Ah=>by
  obtain⟨m,s,o,q1,q2,q3⟩:=Ah;obtain⟨o',q4,r⟩:=AGT m s q1;rw[q2] at q4;cases q4;exact(Ds r q3).2.1) BM (Id H0 (Ba AA σ H1)) (fun c u q=>(SD yag (AV (APO (abR c z))) (AsQ c u q))) stay (∀c∈as,H2 c=H1 c/\F2 c=Ι/\ABq A4 c) (ø (by
  show Wp hu ld (ALC t v as rt c hc);have hr:UK (Ba AA σ H1 c):=SD yag (fun(ADa m)=>(hn c hc).2.2 m q) hu
  show ã (AX hu (R2.gr.h c u hr)) (BO m q)
  ·cases q:F2 c with
   | Ι=>rfl
   | Ε w=>
    rcases R2.gr.n c w q (hn c hc).1 with z | ⟨⟨xs,e'⟩,z⟩
    ·rw[hr] at z;cases z
    ·rw[hr] at z;cases z;subst e';exact BFS
  ·obtain⟨s,o,q1,q2,q3⟩:=q;obtain⟨o',q4,r⟩:=R2.sl m s q1;rw[q2] at q4;cases q4;have:=(Ds r q3).2.1;show B8 hr;show E3))
 have R3:BiJ:=SR.unreb R1.gr BM R2;show Db (ATP FI Sc (zO (Nat.succ_le_succ (ĕ hp.1)) AD)) (BO p hp0)
 have gr:=AcU (o:=HO.tup (AEp)) R3.g hp0;have lv:N0 as (b≠p):=AwF (by
  show AVz q (ALC t v as rt b hb);rw[<- Z_ stay,z,hp0] at q;cases q)
 refine kt _ A4 _ _ p (v::vs) as BIb ((Ace s2).JY Kj) iD nd (Lo ⟨AX (bW (lv b hb)) (AMX stay),AgL,(SG stay).2⟩) ?_ hp.2
 exact⟨v,vs,as,[],Β,UX RY _,A3r (eQ Kj) (Atb (gr.h b u (Do (Z_ stay) q))) rt,K9 (AGS Kj)⟩
theorem ym9{jc pc}(hi:HL)(hv:OG)(XL):r9 (Ad3 AHN .Is [.AKn BI jc pc]) (Sg i):=fun z E cx=>
 QK (DS z3a (DS ylr (AtG hi))) (Ϻ hq (by
  show NO hq;show DJ Sg;show E4
  ·rename_i e0;obtain⟨o,eσ,v,Β,rv⟩:=Ŵ;obtain Β:v= BE:=rv;exact BVY BE
  ·rename_i as ts e0;obtain⟨o,eσ,p,vs,Β,ep,nd,hn,rt⟩:=Ŵ;exact BVY UP
  show JI))
#where
def Pr(AkB):aG:=A2u (∃k as ks xs d,Avu Γ/\kT (AU_ Af7)/\A5V/\TM (ALG i (.tr as (P6 (iK ks k) (Zs (jG ks xs k).B6)))))
theorem yi9(ADp){Υ ī kpos IJ Fh:AL}{x y:Κ}{i j:Δ}(Rz:AJ2)(hv2:AYw)(hN:HL)(hv:OG)(m:BaR P_ (FR y kpos))
  (ApC)
  (hsw:AtS (Aiy "pop" BNp) Ι:=by rfl):
  P7 (.AF (Aiy "pop" BNp) Υ) (Pr i j):=fun z E cx=>
 tU (DS zvl (DS yek dE AqB BZ4) hsw) fun Dn σ H Mh=>by
  obtain⟨F,Γ,D2,R,⟨kk,as,ks,xs,d,e1,e2,hlk,hnx⟩,k⟩:=Mh;obtain⟨o,g1,v,Β,rv⟩:=A3z;show SH (Jz rv);obtain⟨o,g3,v,Β,nd,hn,r⟩:=VZ i _ e2;show AAa;show AZr r;show EQ vv hvv rvv (zlc rs).1 d hlk;obtain⟨q1,q2⟩:=z1n (k:=kk) hkl;refine⟨BQ,g3,a,Β,.A0 (Lm (.A0 ea)),kV kk,g1,Re vs,kk,vv,ea,Β,hvv,?_⟩;rw[q1];exact T' (R.wrT e2 g3 (EM BTd zY) (t:= .tr [a] (ACm (iK ks kk) (jG ks xs kk).B6)) ⟨_,Β,nd,hn,a,_,[],Β,Β,iD,q2,K9 (zna rs)⟩ AWa) IR hnx
def J2(tr:MK):pG:=WB tr r (∃t d1 d2,r= .nt [t,aI d1,aI d2]/\FF t)
theorem ybj(ADp){e:AF}{tr:MK}{Υ p0:AL}{j}(he:av Yv tr):Æ (AWR e (.AKn ACi j p0)) (J2 tr):=fun z E cx=>
 pB (DS yh0 yf2 NM (DS ygw) xc) (Ϻ hq (by
  show NO hq;refine⟨F,Γ,_,R,h,fun d AA F1 H1 v R1 s1 rv h1=>(by obtain⟨_,_,_,q,_⟩:=h1;cases q),fun ts AA F1 H1 p vs as R1 s1 ep nd hn rt h1=> ?_⟩
  obtain⟨t,d1,d2,q,h1⟩:=h1;cases q;show SK v us bs cs Β rv rt rt;show mB rr (UJ (xs:= [d1,d2]) rt);rw[RY] at nd hn;exact⟨p,_,0,v,Β,Β,AJT IL ep,AkC,k _ _ _ _ _ _ R1 s1 nd hn rv h1⟩))
section
variable{X:Cx}{F0 H0:Hp}{Υ:AL}{hs:Ag9}{MY:Xs}{C1 C2:Ζ}{tb Pk th2:aG}{pl:AO}
theorem z74(hex:APa)(hst:ApZ)(hfr:AZF)(hb:BBG)(hh:R9 X H0 pl hs fun C D Γ E=>bB AG C C1=Μ/\Akv):BBL (JW pl AG C1 tb Pk):=Bef
theorem z7r(hex:APa)(hst:ApZ)(hfr:AZF)(hb:BBG)(hh:R9 X H0 pl hs fun C D Γ E=>(HI (bB AG C C1) Akv (bB AG C C2=Μ/\th2 D Γ E))):BBL (JX pl AG C1 C2 tb Pk th2):=Bef
#where
#print L3
namespace HM
theorem z19(a b:Ψ):Tl b (Ac_ b)=Tl a b:=by
 rw[Int.fmod_def,Int.gcd_sub_mul_left_right,BHH]
theorem zf0{a b:Ψ}(h:ő):(Ac_ b).į<ALc:=by
 rw[Int.fmod_eq_emod];have h1:=BHJ a h;have h2:=Int.emod_lt a h;split
 ·omega
 ·show L6;have q1:b<0:=Τ
  have q2:a % b≠0:=AV (q (E7 (Int.dvd_of_emod_eq_zero z)));omega
def dv(AQP):Ψ:=ANV b 0 (-(B7 uk)) uk
def fr(AQP):Ψ×Ψ:=(t.fdiv (dv t b),b.fdiv (dv t b))
theorem YD(AFO):ϳ≠0:=by
 unfold dv;have:uk≠0:=by
  intro e;exact h (BHq e)
 split<;>omega
theorem yj5(AQP):ϳ∣t:=by
 unfold dv;split
 ·exact BkC Axc
 ·exact Axc
theorem z9g(AQP):ϳ∣b:=by
 unfold dv;split
 ·exact BkC Axd
 ·exact Axd
theorem U6{a b:Ψ}(h:b∣a):b*a.fdiv b=a:=AX (Int.fdiv_eq_ediv_of_dvd h) (Int.mul_ediv_cancel' h)
theorem z3k(AQP):ϳ* b_=t:=U6 (yj5 t b)
theorem U7(AQP):ϳ* XN=b:=U6 (z9g t b)
theorem z75(AFO):0< XN:=by
 have e:=U7 t b;have n:=Alx;generalize XN=y at*;unfold dv at e n;show tI
 ·show AIl;have g0:Sb<uk:=by
   rw[AhX] at n;have:Sb<=uk:=BkP;omega
  show dA (BHK 0 y)
  ·exact h
  ·have:0<= -(B7 uk)*y:=ATP Int.neg_mul Int.mul_neg (Int.mul_nonneg Η Η)
   omega
 ·show AIl;have g0:Sb<uk:=by
   rw[AHv] at n;have:Sb<=uk:=BkP;omega
  show dA (BHK 0 y)
  ·exact h
  ·have:B7 uk*y<=0:=BH1 Η
   omega
theorem ya9(AFO):Tl b_ XN=1:=by
 have e1:=z3k t b;have e2:=U7 t b;have n:=Alx;have e3:Tl (ϳ* b_) (ϳ* XN)=AQR*Tl b_ XN:=Int.gcd_mul_left ..;rw[e1,e2] at e3;have e4:AQR=uk:=by
  unfold dv;split<;>simp
 rw[e4] at e3;have g0:uk≠0:=AV (h BLX);exact(Nat.eq_of_mul_eq_mul_left (Bj4 g0) (Do Nat.mul_one e3)).du
theorem zt1{t b:Ψ}:b_*b=t* XN:=by
 have e1:=z3k t b;have e2:=U7 t b
 calc b_*b=b_* (ϳ* XN):=MW e2
  _=(ϳ* b_)* XN:=AUi Int.mul_assoc (Ac' b_)
  _=t* XN:=MW e1
theorem zsw{a b c d:Ψ}(hb:0<b)(hd:0<d)(h1:Tl a b=1)(h2:Tl c d=1)(h:a*d=c*b):a=c/\b=d:=by
 have bd:b∣d:=by
  have:b∣a*d:=⟨c,HH h Ac'⟩
  show BN2 Χ;rw[BHH,h1] at z
  simpa using z
 have db:d∣b:=by
  have:d∣c*b:=⟨a,AUi h Ac'⟩
  show BN2 Χ;rw[BHH,h2] at z
  simpa using z
 have e:b=d:=Int.dvd_antisymm (BoD hb) (BoD hd) bd db;subst e;exact Ŋ (BoE (BHL hb) h)
theorem yol{t b t' b' :Ψ}(h:ő)(h' :b' ≠0)(e:t*b' =t' *b):fr t b=fr t' b' :=by
 have c1:=zt1 (t:=t) (b:=b);have c2:=zt1 (t:=t') (b:=b');have p1:=z75 (t:=t) h;have p2:=z75 (t:=t') h';have k:b_* BPF=BPJ* XN:=by
  generalize b_=x at*;generalize XN=y at*;generalize BPJ=x' at*;generalize BPF=y' at*
  
  have:(x*y')* Ale=(x' *y)* Ale:=by
   calc (x*y')* Ale=(x*b)* (b' *y'):=Ag6
    _=(t*y)* (b' *y'):=MW c1
    _=(t*b')* (y*y'):=Ag6
    _=(t' *b)* (y*y'):=AIF
    _=(t' *y')* (b*y):=Ag6
    _=(x' *b')* (b*y):=MW c2
    _=(x' *y)* Ale:=Ag6
  exact BoE (BHM h h') Χ
 show ADs e1 (zsw p1 p2 (ya9 h) (ya9 h') k);exact BP3
theorem ymg{a b:Ψ}(hb:0<b)(h:Tl a b=1):fr a b=(a,b):=by
 have c1:=zt1 (t:=a) (b:=b);show ADs e1 (zsw (z75 (t:=a) (BHL hb)) hb (ya9 (BHL hb)) h (by rw[c1]))
 exact BP3
theorem yf6(AFO):AjK<=Asv:=by
 have e:=OT Asw (z3k t b);rw[Ĩ] at e;have n:=Alx;have:1<=AQR:=Τ
 calc AjK=1* AjK:=MW ASq
  _<=AQR* AjK:=Axw Χ
  _=Asv:=e
theorem yhd(AFO):AjJ<=ALc:=by
 have e:=OT Asw (U7 t b);rw[Ĩ] at e;have n:=Alx;have:1<=AQR:=Τ
 calc AjJ=1* AjJ:=MW ASq
  _<=AQR* AjJ:=Axw Χ
  _=ALc:=e
#print HM
namespace L3
open IB L2 HM
def qD(APm):D:= AJJ ABb ASs
theorem yn9{a b:AI}(h:qD a=qD b):a=b:=by
 injection h with h;injection h with h1 h;injection h1 with h1;show AOC h h2;injection h2 with h2;exact Rat.ext h1 (Int.ofNat.inj h2)
theorem ykf(AFO):fr t b=(Aj_,B7 AXi):=by
 have hb:Sb< AXi:=MU (Ado den_pos)
 have hg:Tl Aj_ AXi=1:=by
  have:=Ado reduced
  simpa [Tl] using Χ
 have e:Aj_*b=t* AXi:=by
  have q:=BHN (Rat.divInt t b);rw[Rat.divInt_eq_divInt_iff Η h] at q
  exact q
 have:=N1 yol t t b b t' Aj_ b' AXi h Η i9
 rw[Χ,ymg hb hg]
theorem YF(AFO):fr t b=((WH t b).num,B7 (WH t b).den):=HH (ykf h) BHP
theorem Pu(APm):AyX:=by
 have:=q.den_pos;intro e;have:AIq=0:=AV1 e
 omega
theorem Px(APm):WH ABb AIq=q:=by
 have:=BHN q;show B8 BHP;exact Χ
def Sz(n:Δ)(q:AI):Θ:=dF ABb<=n/\dF AIq<=n
theorem Sz.up{m n:Δ}{q:AI}(h:Sz m q)(k:m<=n):Sz n q:=⟨zO FY k,zO h.2 k⟩
theorem Py{t b:Ψ}(AJo)(h:ő)(h1:dF t<=n)(h2:dF b<=n):Sz n (WH t b):=by
 have e:=YF (t:=t) h;have e1:b_=_:=AEZ Prod.fst;have e2:XN=_:=AEZ BHQ;show A6S;show Db (Alh h1) (Alh h2)
 ·rw[<- e1];exact yf6 h
 ·rw[<- e2];exact yhd h
theorem yfv(AJe):a+b=AXg (Akj+pT*i_) Akk:=by
 show K0 ha (Pu a) hb (Pu b) h1 (Px a) h2 (Px b);rw[Asx,P2,P2,P2];show AUA pS x;show AoF;show AoH;show AoG;show AIg
 grind
theorem yf7(AJe):a - b=AXg (Akj - pT*i_) Akk:=by
 show K0 ha (Pu a) hb (Pu b) h1 (Px a) h2 (Px b);rw[AdA,P2,P2,P2];show AUA pS x;show AoF;show AoH;show AoG;show AIg
 grind
theorem ygy(AJe):a*b=AXg (pS*pT) Akk:=by
 show K0 ha (Pu a) hb (Pu b) h1 (Px a) h2 (Px b);rw[P2,P2];show AUA pS x;show AoF;show AoH;show AoG;show AIg
 grind
theorem Ck{b:AI}:pT=0↔b=0:=Rat.num_eq_zero
theorem yf8(a b:AI)(h:ő):a/b=AXg Akj (i_*pT):=by
 show K0 ha (Pu a) hb (Pu b) h1 (Px a) h2 (Px b);rw[P2,P2];show AUA pS x;show AoF;show AoH;show AoG;show AIg
 grind
theorem yi6(AJe):Φ (a<b)=VV (Akj<pT*i_):=AX decide_eq_decide (Rat.lt_iff a b)
theorem U8(AJe):fE Akk:=BNj (AfA b.den_pos)
theorem yni(AFO):ASt (AMA b_ XN)=qD (WH t b):=JA (YF h)
theorem ygr(A_O):Sz (m+n+1) (a+b):=by
 rw[yfv];refine Py A4c ?_ ?_
 ·have h1:=BRg;have h2:=BRh;have h3:=zjf BOQ BOR;have:=ha.1;have:=ha.2;have:=hb.1;have:=hb.2;omega
 show A_L
theorem M4(A_O):Sz (m+n+1) (a - b):=by
 rw[yf7];refine Py A4c ?_ ?_
 ·have h1:=BRg;have h2:=BRh;have h3:=znb BOQ BOR;have:=ha.1;have:=ha.2;have:=hb.1;have:=hb.2;omega
 show A_L
theorem ygm(A_O):Sz (m+n) (a*b):=by
 rw[ygy];refine Py A4c ?_ ?_
 ·have h1:=GD pS pT;have:=ha.1;have:=hb.1;omega
 show A_L
theorem ybb(BiS)(ha:Sz m a)(hb:Sz n b)(h0:ő):Sz (m+n) (a/b):=by
 rw[yf8 a b h0];have hn:fE (i_*pT):=BNj (E9 (h0 (Ck.mp z)))
 refine Py hn ?_ ?_
 ·have h1:=GD pS ALd;have:=ha.1;have:=hb.2;omega
 ·have h1:=GD i_ pT;have:=ha.2;have:=hb.1;omega
theorem Sh(i:Ψ):qD (BB i)= .tup [FU,.AK 1]:=Β
theorem YG{i:Ψ}{n:Δ}(h:fq<=n)(hn:1<=n):Sz n (BB i):=⟨h,zO (ACT 1 (AWj (LZ 1<2^1))) hn⟩
def fJ:A5 ->AI | []=>0 | q::qs=>q+fJ qs
theorem zzc(a b:A5):fJ (a++b)=fJ a+fJ b:=by
 induction a with
 | DB=>simp [fJ,BoF]
 | AY x xs ih=>simp only [Iq,fJ,ih,BHR]
theorem yat{a b:A5}(h:AV7):fJ a=fJ b:=by
 induction h with
 | DB=>rfl
 | AY x _ ih=>simp only [fJ,ih]
 | swap x y l=>simp only [fJ];rw[<- BHR,<- BHR,Rat.add_comm y x]
 | JY _ _ i1 i2=>exact i1.trans i2
theorem yf0{m:Δ}:A9o (Sz m q) (Sz (FL* (m+2)+1) (fJ qs))
 | [],_=>⟨by show dF 0<=_;exact BTR,by show dF 1<=_;exact BTR⟩
 | q::qs,h=>by
  have i:=yf0 (qs:=qs) Aza;refine(ygr (h q zY) i).up ?_;have:(FL+1)* (m+2)=FL* (m+2)+ (m+2):=HH BHS ASq
  simp only [FI];omega
abbrev M5(l:A5):Θ:=BFv (· <= ·)
def cnt(BAk):Δ:=C7 ALe BWP
def yg(l:A5)(q:AI):A5:=BLL++q::BLM
def oU(h_):A5:=BHT yg []
theorem ym5(BAk):cnt q l<=ED:=Ahm
theorem z2x{q:AI}:N4 l A5 (M5 l) ((∀o∈BLL,o<=q)/\∀o∈BLM,q<o)
 | [],_=>⟨CY,CY⟩
 | x::l,hs=>by
  show Aod hs;show DE i1 i2 (z2x (q:=q) (l:=l)) p2;by_cases hx:q<x
  ·have all:∀o∈x::l,q<o:=by
    intro o ho;show ai ho ho
    ·exact hx
    ·exact Std.lt_of_lt_of_le hx (p1 o ho)
   have e:cnt q (x::l)=0:=by
    unfold cnt;rw[Asy]
    ·rfl
    ·intro o ho;simp [all o ho]
   rw[e];exact⟨CY,CU all⟩
  ·have e:cnt q (x::l)=cnt q l+1:=by
    unfold cnt;rw[Ps,CH (EF hx),FI]
   rw[e,BoG,BoH];show Db (BO o ho) i2;show ai ho ho
   ·exact BoI hx
   ·exact i1 o ho
theorem ych{l:A5}{q:AI}(h:M5 l):M5 (yg l q):=by
 show AFP (z2x (q:=q) h);unfold yg M5;rw[BGW];refine⟨h.sublist (Blz _ _),BFr ⟨fun o ho=>AdC (h2 o ho),h.sublist (List.drop_sublist _ _)⟩,KE a ha b hb⟩;show û
 ·exact h1 a ha
 ·exact ALf (h1 a ha) (AdC (h2 b hb))
theorem zwy(l:A5)(q:AI):(yg l q).OY (q::l):=by
 refine List.perm_middle.trans ?_;rw[Acx]
theorem z0c:∀(qs A3:A5),M5 A3 ->M5 (BHT yg A3)/\ (BHT yg A3).OY (qs++A3)
 | [],A3,h=>⟨h,kB⟩
 | q::qs,A3,h=>by
  show AFP (z0c qs (yg A3 q) (ych h));show Db h1 (BGS ?_);refine(BnB qs (zwy A3 q)).JY ?_;exact List.perm_middle
theorem zy7(h_):M5 (oU qs):=(z0c qs [] ASF).1
theorem M6(h_):(oU qs).OY qs:=ACQ (z0c qs [] ASF).2 RY
theorem YH(h_):BQF oU:=(M6 qs).Asd
theorem ztd:∀{a b:A5},M5 a ->M5 b ->AV7 ->a=b
 | [],b,_,_,h=>UX List.nil_perm.mp h
 | x::a,[],_,_,h=>CU h.length_eq
 | x::a,y::b,ha,hb,h=>by
  show AuI a1 a2 ha;show AuI b1 b2 hb;have e:x=y:=by
   have hx:x∈y::b:=BG5 zY;have hy:y∈x::a:=h.mem_iff.mpr zY;show AoB
   ·exact e
   ·show Zp hy e hy
    ·exact i9
    ·exact BoJ (a1 y hy) (b1 x hx)
  subst e;rw[ztd a2 b2 (List.Perm.cons_inv h)]
theorem z6b{a b:A5}(h:AV7):oU a=oU b:=ztd (zy7 a) (zy7 b) ((M6 a).JY (h.trans (UX M6 b)))
def Sv(l:A5):AI:=M' A6R 1 Aj6 ((ACt (kr - 1)+Aj6)/2)
def wd(l:A5)(j:Δ):AI:=ACt (j+1) - ACt j
structure Best (l:A5) (b:Δ):Θ where
 lt:AIk (b+1)
 le:BTE (AIk (j+1))
 gt:BRK (AIk (j+1))
theorem Best.unique{l:A5}{a b:Δ}(x:Best l a)(y:Best l b):a=b:=by
 rcases BGV a b with h | h | h
 ·exact WG (x.gt b y.lt h) BoK (y.le a x.lt)
 ·exact h
 ·exact BH2 (y.gt a x.lt h) (x.le b y.lt)
abbrev Pt:=AI×AI
def pD(p:Pt):D:= .tup [qD Cl,qD p.2]
def Cm(l r:Pt)(x:AI):AI:=l.2+ (x - l.1)* AnQ/ AXw
def Ld(a b:Pt):AO:=BO4&& !(Φ (b.2<a.2))
def Gd:Fk EU
 | []=>JS
 | [_]=>JS
 | AiD=>(a.1<b.1/\a.2<=b.2)/\Gd (b::t)
def oh:BQR
 | [],_=>0
 | [p],_=>p.2
 | AlR,x=>BTe (B5 (l.1<x) (Cm l r x) l.2) oh
def Bf:BQR
 | [],_=>0
 | [p],_=>p.2
 | AlR,x=>BTe (Cm l r x) Bf
theorem yl5(BZ6):∃k:AI,0<=k/\ (l.2<r.2 ->0<k)/\k* AXw=r.2 - l.2/\∀x,Cm l r x=l.2+ (x - l.1)*k:=by
 have hd:0<AYd:=Sk
 have hi:0< AXw⁻¹:=BoL hd;have hn:AYd≠0:=Sk
 refine⟨AnQ* AXw⁻¹,BHV Axj (AdC hi),D6 (Rat.mul_pos Axj hi),?_,G1 x⟩
 ·rw[xE,AIt hn,ALg]
 ·unfold Cm;rw[MI,xE]
theorem ykx(BZ6):Cm l r l.1=l.2:=by
 obtain⟨k,_,_,_,e⟩:=yl5 h h2;rw[e];grind
theorem z24:∀{ps:EU} {x:AI},AAH ->(∀p,ps.head?=Ε p ->Cl<=x) ->BTz
 | [],_,_,_=>Β
 | [p],_,_,_=>Β
 | AlR,x,hg,hx=>by
  have hl:=hx l Β;obtain⟨⟨h1,h2⟩,h3⟩:=hg;unfold Bf oh;by_cases h:x<CI
  ·rw[ADv,ADv];by_cases h' :l.1<x
   ·show Go h'
   ·show CS h';have:x=l.1:=Sk
    show mE;exact ykx h1 h2
  ·rw[Ü,Ü];exact z24 h3 (WP (by cases hp;grind))
def kO:EU ->Pt | []=>ŗ | [p]=>p | _::r::t=>kO (r::t)
theorem yb5{x:AI}{l:Pt}{t:EU}(hg:Gd (l::t))(hx:¬l.1<x):oh (l::t) x=l.2:=by
 cases t with
 | DB=>rfl
 | AY r t=>
  obtain⟨⟨h1,h2⟩,h3⟩:=hg;unfold oh;rw[CH Axj,B4 hx]
#print L3
namespace HM
abbrev Bd:=Ψ×Ψ
def yQ(b:Bd)(x:Ψ):AO:=Φ (b.1<=x)&&Φ (x<=b.2)
def Cp(S l:BS)(b:Bd):BS:=A6w BMU
def rk(S:BS)(bs:IQ):M3 BS
 | 0=> [0]
 | D9=>Cp S (rk S bs i) (ABW i ŗ)
def gk(S:BS)(n:Ψ)(rb:IQ):M3 BS
 | 0=> [n]
 | D9=>A6w ((gk S n rb i).any fun one=>yQ BOE (one - e))
def kY(S:BS)(n:Ψ):BS:=BoM (n - ·)
theorem yby{S:BS}{n e:Ψ}:APY∈kY S n↔AVb:=by
 unfold kY;rw[YO];constructor
 ·rintro⟨x,hx,h⟩;show XT x e
  exact BoN hx
 ·exact D6 (OC e (List.mem_reverse.mpr h))
theorem sY{S l:BS}{b:Bd}{e:Ψ}:e∈Cp S l b↔AVb/\∃s∈l,yQ b (e - s)=Μ:=uB Cp Ć ASR
theorem rF{S:BS}{n e:Ψ}{rb:IQ}{i:Δ}:e∈gk S n rb C9↔AVb/\∃one∈gk S n rb i,yQ BOE (one - e)=Μ:=by
 show e∈BHW _↔_;rw[Ć,ASR]
theorem z0p{S:BS}{n:Ψ}{rb:IQ}:∀(i:Δ) (e:Ψ),e∈gk S n rb i↔ APY∈rk ANR rb i
 | 0,e=>by
  show e∈ [n]↔ APY∈ [0];rw[AFf,AFf];omega
 | D9,e=>by
  rw[rF];show _↔ APY∈Cp ANR (rk ANR rb i) _;rw[sY,yby];refine and_congr_right (E6 (AOH (fun(AEX w)=>⟨n - o,(z0p i o).mp ho,?_⟩) s hs w (PR (n - s) ((z0p i (n - s)).mpr ?_))))
  show Dx (NG (n - e - (n - o)) (o - e)) w
  show Dx (NG (n - (n - s)) s) hs
  show Dx (NG (n - s - e) (n - e - s)) w
theorem z95{S:BS}{n:Ψ}{rb:IQ}(hn:AVc):BdP (e∈gk S n rb i)
 | 0,e,h=>BKH hn
 | _+1,_,h=>(rF.mp h).1
theorem ylz{S:BS}{bs:IQ}(h0:Sb∈S):BdP (e∈A5S)
 | 0,e,h=>BKH h0
 | _+1,_,h=>(sY.mp h).1
theorem zv0{bs:IQ}{i:Δ}(h:i<HA):bs.reverse.getD (Adk C9) ŗ=ABW i ŗ:=by
 rw[OX,OX,BnR Η]
 congr 2
 omega
theorem meet(BcJ):∀i,i<=HA ->((∃e∈A5S,Ad9 e (Adk i))↔ AZi)
 | 0,_=>⟨A7i e (BLg h1 h2 h2),D6 ⟨0,Ast Β,h⟩⟩
 | D9,hi=>by
  rw[<- meet h0 hn i Η]
  have e1:HA - i=HA - C9+1:=Τ
  constructor
  ·rintro⟨e,h1,h2⟩;obtain⟨_,s,hs,w⟩:=sY.mp h1;show Ee s hs;rw[e1,rF];exact⟨ylz h0 hs,e,h2,SD zv0 Η w⟩
  ·rintro⟨e,h1,h2⟩;rw[e1,rF] at h2;obtain⟨_,o,ho,w⟩:=h2;refine⟨o,sY.mpr ⟨z95 hn ho,e,h1,?_⟩,ho⟩;rw[zv0 Η] at w;exact w
theorem z4g(BcJ):n∈rk S bs HA↔ AZi:=by
 rw[<- meet h0 hn HA Ax9];rw[Nat.sub_self];exact AOH (D6 ⟨n,h,Ai_⟩) e h1 h2 (BLg h2 h1 h1)
def U9:BS ->Ψ
 | []=>0
 | [x]=>x
 | x::y::r=>if U9 (y::r)<=x then x else U9 (y::r)
theorem z7q:N4 l BS (l≠ []) (U9 l∈l/\∀i∈l,i<=U9 l)
 | [],h=>ϣ h
 | [x],_=>⟨Ai_,X2 (ANk hi AhM)⟩
 | x::y::r,_=>by
  show AFP (z7q (l:=y::r) A2)
  unfold U9;split
  ·show L6;show ä zY i hi;show ai hi hi
   ·exact AhM
   ·exact Int.le_trans (h2 i hi) q
  ·show L6;show ä (zW _ h1) i hi;show ai hi hi
   ·omega
   ·exact h2 i hi
def cand(S:BS)(n:Ψ)(bs:IQ)(k:Δ)(f:Ψ):BS:=A6w (yQ AZc (e - f)&&(gk S n ALh AUv).AFv e)
def fk(S:BS)(n:Ψ)(bs:IQ):á
 | 0=>0
 | k+1=>U9 (cand S n bs k Bhf)
theorem wA{S:BS}{n:Ψ}{bs:IQ}{k:Δ}{f e:Ψ}:e∈cand S n bs k f↔AVb/\yQ AZc (e - f)=Μ/\Ad9 e AUv:=by
 unfold cand;rw[Ć,eK,Asz]
theorem z0g{S:BS}{n:Ψ}{bs:IQ}(hn:AVc)(hg:AZi):∀k,k<=HA ->BTa/\ (AzY ->Am3≠ [])
 | k,hk=>by
  have a:BTa:=by
   cases k with
   | Tb=>exact hg
   | Th k=>
    have ih:=BUk Η
    exact(wA.mp (z7q ih).1).2.2
  refine⟨a,AOj⟩;rw[NG (HA - k) (HA - LH+1),rF] at a
  obtain⟨_,o,ho,w⟩:=a;rw[zv0 h] at w;intro e;have:=N1 wA S S n n bs bs k k (f:=Aeo) (e:=o) |>.mpr ⟨z95 hn ho,w,ho⟩
  show t_;show E3
theorem yl3{S:BS}{n:Ψ}{bs:IQ}(hn:AVc)(hg:AZi){k:Δ}(hk:AzY):
  AXc∈Am3/\∀i∈Am3,i<=AXc:=z7q (BUk hk)
theorem z7u:∀{a b:BS},Agv a.Pairwise ->Agv b.Pairwise ->(∀i,i∈a↔i∈b) ->a=b
 | [],[],_,_,_=>Β
 | [],y::b,_,_,h=>tq (h y).mpr zY A2
 | x::a,[],_,_,h=>tq (h x).mp zY A2
 | x::a,y::b,ha,hb,h=>by
  rw[ALW] at ha hb;have e:x=y:=by
   rcases TL ((h x).mp zY) with e | e
   ·exact e
   ·rcases BRC y with e' | e'
    ·exact e'.symm
    ·have:=hb.1 x e;have:=ha.1 y e';omega
  subst e;rw[z7u ha.2 hb.2 (FV ?_)];constructor
  ·intro hi;show g9 (TL ((h i).mp (zW _ hi))) Β
   ·have:=ha.1 i hi;omega
   ·exact q
  ·intro hi;show g9 (TL ((h i).mpr (zW _ hi))) Β
   ·have:=hb.1 i hi;omega
   ·exact q
section
variable{α:CL}[AW2]
def d9(g hs:CO):AO:=hs.any (D6 (Φ (h∈g)))
theorem uD{g hs:CO}:AYk g↔∃x,AWU/\x∈hs:=by
 unfold d9;rw[ASR];exact AOH (A7i x ⟨x,wy h2,h1⟩) x h1 h2 ⟨x,h2,Pp h1⟩
theorem ybd{g hs:CO}(h:AOL (d9 g hs)){x:α}(h1:AWU):x∉hs:=fun h2=>by
 rw[uD.mpr ⟨x,h1,h2⟩] at h;cases h
structure ou (Ss fs:bc):Θ where
 ne:AYc (f≠ [])
 dj:fs.Pairwise fun a b=>BiB
 co:∀x,(∃f∈fs,AOl)↔∃S∈Ss,x∈S
 BM:AUw (AnC (Si S f))
 min:∀C:Fk α,(∀S∈Ss,AaB S S) ->AYc (AaB f f)
theorem ou.nil:ou ([]:bc) []:=by
 refine⟨?_,ASF,?_,?_,?_⟩
 ·intro _ h;cases h
 ·intro x;constructor
  ·rintro⟨_,h,_⟩;cases h
  ·rintro⟨_,h,_⟩;cases h
 ·intro _ h;cases h
 ·intro _ _ _ h;cases h
theorem YJ:N4 fs bc A7r (∀{a b:CO} {x:α},A_ (a∈fs) (b∈fs) (x∈a) (x∈b) (a=b))
 | [],_,_,_,_,ha,_,_,_=>yv ha
 | m_,h,a,b,x,ha,hb,xa,xb=>by
  show Ayq;show Zp ha e1 ha1
  ·subst e1;show A8I
   ·exact i9
   ·exact Iy xb (FY b hb x xa)
  ·show A8I
   show tj (Iy xa (FY a Bj6 x xb))
   ·exact YJ h.2 Bj6 hb xa xb
theorem ou.step{Ss fs:bc}{S g:CO}(h:AP1)(hS:S≠ [])(hg:Adg g (x∈S\/AnC (d9 f S=Μ/\AOl))):
  ou (Ss++ [S]) (Aua AEk++ [g]):=by
 have mf:∀f,f∈Ani AEk ->(f∈fs/\ AOL AEk)\/f=g:=AZB (by
  show UD hf hf hf
  ·exact .A0 (AFl hf)
  show KL (zR.mp hf))
 show LP mg (g∈Ani AEk) BVs ml (AYc (AOL AEk ->f∈Ani AEk)) (fun f h1 h2=>zP _ (ARW AlY)) ⟨BO f hf,?_,XU (D_ ?_),BO T hT,GN C hC f hf hx⟩
 ·show A'k
  ·exact h.ne f hf.1
  ·intro z;cases S with
   | DB=>exact hS Β
   | AY x S=>
    have:=A3_ zY;show B8 z;show E3
 ·rw[BGW];refine⟨h.dj.filter _,BoO _ _,fun a ha b hb x xa=> ?_⟩;show tm hb;show DE ha hn AFl ha;intro xg;rcases(hg x).mp xg with xs | ⟨f,hf,hm,xf⟩
  ·exact ybd hn xa xs
  ·have:=YJ h.dj ha hf xa xf;show mE;rw[hm] at hn;cases hn
 ·rintro⟨f,hf,xf⟩;show A'k
  ·obtain⟨T,hT,xT⟩:=(h.co x).mp ⟨f,hf.1,xf⟩;exact⟨T,zP _ hT,xT⟩
  ·rcases(hg x).mp xf with xs | ⟨f,hf,_,xf⟩
   ·exact⟨S,BVs,xs⟩
   ·obtain⟨T,hT,xT⟩:=(h.co x).mp ⟨f,hf,xf⟩;exact⟨T,zP _ hT,xT⟩
 ·rintro⟨T,hT,xT⟩;show UD hT hT hT
  ·obtain⟨f,hf,xf⟩:=(h.co x).mpr ⟨T,hT,xT⟩;cases q:AEk with
   | Μ=>exact⟨g,mg,BXj xf⟩
   | AC=>exact⟨f,ml f hf A0U,xf⟩
  ·rw[ĭ hT] at xT;exact⟨g,mg,A3_ xT⟩
 ·show UD hT hT hT
  ·show EQ f hf k h.sub T hT;cases q:AEk with
   | Μ=>exact⟨g,mg,APR (BXj (k x hx))⟩
   | AC=>exact⟨f,ml f hf A0U,k⟩
  ·show tm hT;exact⟨g,mg,APR (A3_ hx)⟩
 ·have hC1:∀T∈Ss,AaB T T:=fun T hT=>hC T (zP _ hT);have hCS:=hC S (zQ _ (Ast Β));show A'k
  ·exact h.min C hC1 f hf.1 hx
  ·have all:AeG S:=by
    obtain⟨x,xf,cx⟩:=hx;rcases(hg x).mp xf with xs | ⟨f,hf,hm,xf⟩
    ·exact hCS ⟨x,xs,cx⟩
    ·have:=h.min C hC1 f hf ⟨x,xf,cx⟩;show DT y y1 y2 uD.mp hm;exact hCS ⟨y,y2,Χ y y1⟩
   intro y hy;rcases(hg y).mp hy with ys | ⟨f,hf,hm,yf⟩
   ·exact all y ys
   ·show DT z z1 z2 uD.mp hm;exact h.min C hC1 f hf ⟨z,z1,all z z2⟩ y yf
theorem ou.incl(BdY)(h:AP1)(h' :ou Le fs')(e:A8h){f f' :CO}{x:α}(hf:f∈fs)(hf' :f' ∈fs')(h1:AOl)(h2:x∈f'):∀y∈f,y∈f' :=by
 refine h.min (· ∈f') (GN S hS ⟨z,z1,z2⟩ y hy) f hf ⟨x,h1,h2⟩;show EQ S' hS' k e S hS;show EQ f2 hf2 k2 h'.sub S' hS';have:=YJ h'.dj hf' hf2 z2 (k2 z ((k z).mp z1));show mE;exact k2 y ((k y).mp hy)
theorem ou.same(BdY)(h:AP1)(h' :ou Le fs')(e:A8h)(e' :∀S∈Le,BiK Ss){f:CO}(hf:f∈fs):∃f' ∈fs',AT4 f f' :=by
 cases q:f with
 | DB=>exact AKh q (h.ne f hf)
 | AY x r=>
  rw[<- q];have hx:AOl:=AX q zY
  obtain⟨S,hS,xS⟩:=(h.co x).mp ⟨f,hf,hx⟩;show EQ S' hS' k e S hS;obtain⟨f',hf',xf'⟩:=(h'.co x).mpr ⟨S',hS',(k x).mp xS⟩;exact⟨f',hf',fun y=>⟨fun hy=>h.incl h' e hf hf' hx xf' y hy,fun hy=>h'.incl h e' hf' hf xf' hx y hy⟩⟩
theorem ou.perm{Ss fs gs:bc}(h:AP1)(p:gs.Perm fs):ou Ss gs:=by
 refine⟨AZB (h.ne f (BHX hf)),?_,G1 x,BO S hS,fun C hC f hf=>h.min C hC f (BHX hf)⟩
 ·exact(p.pairwise_iff (fun{a b} k x xb xa=>k x xa xb)).mpr h.dj
 ·rw[<- h.co x];exact⟨fun⟨f,hf,k⟩=>⟨f,BHX hf,k⟩,fun⟨f,hf,k⟩=>BMv⟩
 ·show EQ f hf k h.sub S hS;exact BMv
theorem YK{β:CL}{R:DD β β}(as:∀a b,R a b ->¬R b a):∀{l m:QU},BJ' ->m.Pairwise R ->(AT4 l m) ->l=m
 | [],[],_,_,_=>Β
 | [],b::m,_,_,h=>by have:=(h b).mpr zY;show E3
 | Fc,[],_,_,h=>by have:=(h a).mp zY;show E3
 | Fc,b::m,h1,h2,h=>by
  rw[ALW] at h1 h2;have e:a=b:=by
   show g9 (TL ((h a).mp zY)) e
   ·exact e
   ·rcases BRC b with e | q'
    ·exact i9
    ·exact Iy (ū b q') (as _ _ (h2.1 a q))
  subst e;have irr:¬R a a:=AV (as a a z z);rw[YK as h1.2 h2.2 (XU ⟨G1 hx,G1 hx⟩)]
  ·show g9 (TL ((h x).mp A0O)) e
   show tj (Iy (ū _ hx) irr)
   ·exact q
  ·show g9 (TL ((h x).mpr A0O)) e
   show tj (Iy (h2.1 _ hx) irr)
   ·exact q
theorem J3:∀{l U:CO},l.Nodup ->(∀x∈l,x∈U) ->ED<=ABc
 | [],U,_,_=>IS
 | Fc,U,nd,h=>by
  have nd' :=Ara nd;have ha:=Ak9;have:=J3 (l:=l) (U:=U.erase a) nd'.2 (APR (by
   have ne:x≠a:=AV (nd'.1 (z ▸ hx));exact(List.mem_erase_of_ne ne).mpr (h x (zW _ hx))))
  show B8 (List.length_erase_of_mem ha);have:0<ABc:=Bmg ha;rw[FI];omega
theorem znm:∀{fs:bc},A7r ->(AZL f.Nodup) ->fs.flatten.Nodup
 | [],_,_=>CY
 | m_,h,k=>by
  show Ayq;rw[AdD,AGV];refine⟨k f zY,znm h.2 (AlT (k g (zW _ hg))),GN a ha b hb e⟩;subst e;show Ahx g hg ag hb;exact FY g hg a ha ag
#where
def dB(g:ú):AiJ
 | []=>0
 | í=>g c cs - qB d ds (g d ui) cs
abbrev Row:=ce
def dt:EN ->Cn ->AI
 | [],[]=>1
 | [],DV=>0
 | mw,cs=>A8z (r c)
theorem znn{g h:ú}:Awt (∀c ds,g c ds=h c ds) (dB g cs=dB h cs)
 | [],_=>Β
 | í,e=>uB dB e (znn (cs:=cs) fun d ds=>e d ui)
theorem zu3{g h:ú}:BUq (g c ds+h c ds) (dB g cs+dB h cs)
 | []=>ũ dB
 | í=>Au2 dB (zu3 (cs:=cs))
theorem YL{g:ú}(k:AI):BUq (k*g c ds) (k*dB g cs)
 | []=>ũ dB
 | í=>Au2 dB (YL k (cs:=cs))
theorem zlh{g:ú}:N4 cs Cn (∀c∈cs,∀ds,g c ds=0) (dB g cs=0)
 | [],_=>Β
 | í,h=>Ajr dB (h c AAb) (zlh (cs:=cs) fun d hd ds=>h d (AQ5 _ hd) _)
def two(r s:Row)(h:AiJ)(cs:Cn):AI:=qB c ds (r c*A4Q ds) cs
theorem z2c(r s:Row):∀(cs:Cn) (h:AiJ),two r s h cs= - two s r h cs
 | [],h=>by unfold two dB;grind
 | í,h=>by
  have A9:∀r s:Row,two r s h (c::cs)=r c*A'N (s d) - s c*A'N (r d)+two r s (A6 es (h (c::es))) cs:=by
   intro r s;show r c*A'N (s d) - qB x ds (r x*A4Q ui) cs=_;have e:(fun(LZ x) (ds:Cn)=>r x*A4Q ui)=fun x ds=>(s c* (r x*h ds))+ NI* (r x*BRc):=by
    funext x ds
    show r x* (s c*h ds - BRc)=_
    grind
   rw[e,zu3,YL,YL];unfold two
   grind
  rw[A9 r s,A9 s r,z2c r s cs]
  grind
theorem z8r(r s:Row)(rs:EN)(cs:Cn):dt (r::s::rs) cs= - dt (s::mw) cs:=z2c r s cs (dt rs)
theorem half{x:AI}(h:x= -x):x=0:=Sk
theorem yg4{r:Row}:BAo (r∈rs) (dt AJX cs=0)
 | [],_,h=>D1
 | s::rs,cs,h=>by
  rcases AIr with e | h
  ·subst e;exact half (z8r r r rs cs)
  ·rw[z8r];have:dt (s::mw) cs=0:=zlh fun c _ ds=>(mo (yg4 h))
   rw[Χ];grind
def pV:A5 ->EN ->Row
 | AJb,mw=>GB (k*r j+AJl)
 | _,_=>Ŭ
theorem ylo(r s:Row)(k:AI)(rs:EN)(cs:Cn):dt ((AVT (k*s j))::rs) cs=dt AJX cs+k*dt (s::rs) cs:=by
 show dB (fun c ds=>(r c+k*s c)*SU ds) cs=A8z (r c)+k*A8z (s c);rw[<- YL,<- zu3];exact znn fun c ds=>Sk
theorem YM{rs:EN}{cs:Cn}:∀{ks:A5} {ss:EN} {r:Row},(∀s∈ss,s∈rs) ->dt (BMR::rs) cs=dt AJX cs
 | [],ss,r,_=>by
  have:(AVT (pV [] ss j))=r:=BL6
  rw[Χ]
 | AJb,[],r,_=>by
  have:(AVT (pV (k::ks) [] j))=r:=BL6
  rw[Χ]
 | AJb,s::ss,r,h=>by
  have e:(AVT (pV (k::ks) (s::ss) j))=GB (BMR j+k*s j):=by
   funext j
   show r j+ (k*s j+pV ks ss j)=_
   grind
  rw[e,ylo,YM (ks:=ks) fun t ht=>(AiH h t ht),yg4 (h s AAb)]
  grind
theorem ztz{r:Row}{rs:EN}{j:Δ}{cs:Cn}(h:∀c∈cs,r c=0):dt AJX sL=r j*SU cs:=by
 show BUp=_;rw[zlh fun c hc ds=>(mo (h c hc))]
 grind
def YQ(f:AiJ):Θ:=∀pre c d EE,f AjB= - f (pre++d::ACR)
theorem zxf:∀(pre:Cn) (g:ú) (c d:Δ) (EE:Cn),(∀x,YQ (g x)) ->dB g AjB= - dB g Azj
 | [],g,c,d,EE,h=>by
  have A9:∀c d,dB g (c::Aei)=g c (d::EE) - g d (c::EE)+A'u:=by
   intro c d;show g c (d::EE) - (g d (c::EE) - A'u)=_
   grind
  have e:dB (fun x es=>g x (d::c::es)) EE=NI*A'u:=DC YL (znn fun x es=>by
    have:=h x [] d c es;simp only [LY] at Χ;rw[Χ];grind)
  show dB g (c::Aei)= - dB g (d::ACR);rw[A9 c d,A9 d c,e]
  grind
 | a::pre,g,c,d,EE,h=>by
  show g a AjB - BRa AjB= - (g a Azj - BRa Azj);rw[h a pre c d EE,zxf pre (fun x ds=>g x (a::ds)) c d EE fun x p c d q=>h x (a::p) c d q]
  grind
theorem zjj:∀rs:EN,YQ (dt rs)
 | []=>BXt (by cases pre<;>(unfold dt;grind))
 | mw=>BXt (zxf pre _ c d EE fun x p a b q=>(mo (zjj rs p a b q)))
theorem YS(rs:EN):∀{EE pre:Cn} {c:Δ},c∈EE ->dt rs AUR=0
 | [],_,_,h=>D1
 | Aei,pre,c,h=>by
  rcases AIr with e | h
  ·subst e;exact half (zjj rs pre c c EE)
  ·rw[zjj rs pre c d EE];have:=YS rs (pre:=pre++ [d]) h;show B8 Ī;rw[Ö (pre++d::ACR=pre++ ([d]++ACR)),Χ];grind
def mU(rs:EN)(f:Row):Θ:=∃ks:A5,Pw=ABd/\∀j,f j=AJl
theorem z1i:∀{ks ls:A5} {rs:EN},BLV ->ls.length=ABd ->BZa (AJl+AHI ls)
 | [],[],[],_,_=>A7G (ũ pV)
 | AJb,l::ls,mw,h1,h2=>by
  show EQ ms h3 h4 (z1i (ks:=ks) (ls:=ls) (rs:=rs)) ADz AOc
  refine⟨(k+l)::ms,C8 h3,AOv⟩
  show(k+l)*r j+AHI ms=(k*r j+AJl)+ (l*r j+AHI ls);rw[h4];grind
 | [],_,DV,h,_=>D1
 | DV,_,[],h,_=>D1
 | _,[],DV,_,h=>D1
 | _,DV,[],_,h=>D1
theorem z1k(x:AI):∀{ks:A5} {rs:EN},BLV ->BZa (x*AJl)
 | [],[],_=>A7G (ũ pV)
 | AJb,mw,h1=>by
  show DT ms h3 h4 (z1k x (ks:=ks) (rs:=rs)) ADz
  refine⟨(x*k)::ms,C8 h3,AOv⟩
  show(x*k)*r j+AHI ms=x* (k*r j+AJl);rw[h4];grind
 | [],DV,h=>D1
 | DV,[],h=>D1
theorem mU.add(BW1)(h1:ϲ)(h2:AW6):AJU (f j+g j):=by
 obtain⟨ks,a,b⟩:=h1;obtain⟨ls,c,d⟩:=h2;show bP ms e (z1i a c);exact⟨ms,e,GB (by show f j+g j=_;rw[q,b,d])⟩
theorem mU.mul{rs:EN}{f:Row}(x:AI)(h:ϲ):AJU (x*f j):=by
 show LN ks a b;show bP ms e (z1k x a);exact⟨ms,e,GB (by show x*f j=_;rw[q,b])⟩
theorem zrh:∀(rs:EN),∀j,pV A6X rs j=0
 | [],j=>N9
 | mw,j=>by
  show 0*r j+AHI A6X=0;rw[zrh rs j];grind
theorem As1(rs:EN):mU rs Ŭ:=⟨ASu Ŭ,CY,GB (zrh rs j).du⟩
theorem mU.cons{rs:EN}{f:Row}(r:Row)(h:ϲ):mU AJX f:=by
 show LN ks a b;refine⟨0::ks,C8 a,AOv⟩
 show f j=0*r j+AJl;rw[b];grind
theorem As2(r:Row)(rs:EN):mU AJX r:=by
 refine⟨1::ASu Ŭ,CY,AOv⟩
 show r j=1*r j+AHI A6X;rw[zrh];grind
theorem mU.mem{r:Row}:N4 rs EN (r∈rs) (mU rs r)
 | s::rs,h=>by
  rcases AIr with e | h
  ·subst e;exact As2 r rs
  ·exact(mU.mem h).AY s
theorem mU.congr(BW1)(h:ϲ)(e:∀j,g j=f j):AW6:=by
 show LN ks a b;exact⟨ks,a,GB (HH e b)⟩
theorem z9h{rs:EN}:∀{cs:Cn} {g:M3 ú},(∀x ds,AJU (g j x ds)) ->AJU (dB (g j) cs)
 | [],g,_=>As1 rs
 | í,g,h=>by
  have h1:=h c cs;have h2:=(z9h (cs:=cs) (g:=fun j x ds=>g j x ui) fun x ds=>h x ui).mul (-1);exact AYn h1.add h2 (by
   show g j c cs - qB d ds (g j d ui) cs=_
   grind)
theorem z3c:∀(rs:EN) (cs:Cn),AJU (SU sL)
 | [],cs=>A7G N9
 | mw,cs=>by
  have h1:=(As2 r rs).mul (dt rs cs);have h2:mU AJX (GB (Biv x (r x))):=z9h fun x ds=>(((z3c rs ds).AY r).mul (r x));exact AYn h1.add (h2.mul NI) (by
   show BUp=_
   grind)
theorem z8c(rs:EN):∀(n:Δ) (pre EE:Cn),pre.length=n ->AJU (SU Azi)
 | 0,pre,EE,h=>by
  have:=BGl h;show mE;exact z3c rs EE
 | n+1,pre,EE,h=>by
  have hne:pre≠ []:=AV (by subst z;cases h)
  have e:=List.dropLast_concat_getLast hne;have ih:=(z8c rs n BHY (BNL::EE) (NA h)).mul (-1)
  refine ih.congr AOv;have e2:BHY++BNL::AfP=pre++AfP:=by
   have:=AEZ (· ++j::post)
   simpa only [Ī,List.singleton_append] using Χ
  rw[<- e2,zjj rs BHY (pre.getLast hne) j EE]
  grind
def wB(x:AI):Θ:=∃z:Ψ,x=BB z
theorem wB.sub(BQV):wB (x - y):=by
 show ph a h1;show ph b h2;exact⟨a - b,BHb⟩
theorem wB.mul(BQV):wB (x*y):=by
 show ph a h1;show ph b h2;exact⟨a*b,BHa⟩
theorem z6g{g:ú}:Awt (∀c ds,wB (g c ds)) (wB (dB g cs))
 | [],_=>⟨0,N9⟩
 | í,h=>(h c cs).BM (z6g (cs:=cs) fun d ds=>h d ui)
theorem z7b:BAo (∀r∈rs,AU9 r) (wB (dt rs cs))
 | [],[],_=>⟨1,N9⟩
 | [],DV,_=>⟨0,N9⟩
 | mw,cs,h=>z6g fun c ds=>(h r zY c).mul (z7b fun s hs=>BP')
theorem zt3{rs:EN}{cs:Cn}{f:Row}(h:ϲ)(z:AmU)(d:SU cs≠0)(j:Δ):f j=0:=by
 obtain⟨ks,_,e⟩:=h;have h1:dt AEi sL=A2y:=ztz z;have h2:dt AEi sL=dt BIH sL:=by
  show AqN (j::cs) Ŭ;show Ø
  congr 2
  funext i
  rw[e];grind
 have h3:dt BIH sL=0:=zlh fun c _ ds=>(Akl (0*SU ds) 0)
 rw[h3,h1] at h2;show A2J h2
 ·exact q
 show Û q d
theorem yhq(Aog){a f g:Row}(hf:A4e)(hg:AW6)(z:AmU)(wa:AU9 a)(wr:A2W)(j:Δ):wB (SU cs*f j):=by
 obtain⟨ks,_,e⟩:=hg;have h1:dt AEi sL=A2y:=ztz z;have h2:dt AEi sL=A4t:=by
  show AqN (j::cs) a;show Ø
  congr 2
  funext i
  rw[hf,e]
 rw[ASv,<- h1,h2];exact AFJ z7b (by
  show AFQ hr
  ·subst q;exact wa
  ·exact wr r q)
theorem yn2(Bep)(h:ϲ)(one:f c=1)(z:BOt)(wr:A2W)(d:SU AUR≠0)(j:Δ):wB (A0l):=by
 have hl:=z8c rs _ pre EE Β;have e:dt rs Azi=A0l:=by
  have A9:=zt3 (cs:=pre++ACR) BZ9 AmG d j
  ·grind
  ·by_cases hc:x=c
   ·subst hc;rw[one];grind
   ·have hx' :x∈Av6:=by
     show AP4
     ·exact AkJ
     ·show AFQ q
      ·exact Iy q hc
      ·exact zQ _ q
    rw[z x hx'];have:dt rs BIJ=0:=by
     show UD hx' q q
     ·show DT p1 p2 Β As4 q;have:=YS rs (pre:=p1) (EE:=p2++x::EE) (c:=x) A2
      rw[Ī];exact Χ
     ·exact YS rs q
    rw[Χ];grind
 rw[<- e];exact z7b wr
structure Low (rs:EN) (cs:Cn) (a f:Row):Θ where
 g:∃g:Row,AW6/\A4e
 z:AmU
structure Up (rs:EN) (cs:Cn) (c:Δ) (f:Row):Θ where
 l:ϲ
 o:f c=1
 z:∀x∈cs,x≠c ->f x=0
theorem Low.dt{rs:EN}{cs:Cn}{a f:Row}(h:AYz f)(p:Δ):HM.dt AHy AJW=BUo:=by
 obtain⟨⟨g,⟨ks,_,e⟩,hf⟩,z⟩:=h;have h1:HM.dt AEi AJW=BUo:=ztz z;have h2:HM.dt AEi AJW=HM.dt AHy AJW:=by
  show AqN (p::cs) a;show Ø
  congr 2
  funext i
  rw[hf,e]
 rw[<- h2,h1]
theorem Low.lin{rs:EN}{cs:Cn}{a f:Row}(h:AYz f):mU AHy f:=by
 obtain⟨⟨g,l,hf⟩,_⟩:=h;exact((As2 a rs).add (l.cons a)).congr hf
theorem Low.step(Aog){a b q f:Row}{p:Δ}(hq:AYz q)(hp:q p≠0)(h:Low rs cs b f):Low AHy AJW b (al AnA):=by
 obtain⟨g,l,hf⟩:=h.g;show ä (DH ((l.cons a).add (BHZ (-(f p/q p)))) (GB (by show AnA=b j+ (g j+ -(f p/q p)*q j);rw[hf j];grind))) c hc
 show Zp hc e hc
 show BQj
 ·rw[h.z c hc,hq.z c hc];grind
theorem Up.step(Aog){a q f:Row}{p c:Δ}(hq:AYz q)(hp:q p≠0)(h:Up rs cs c f)(hc:c∈cs):Up AHy AJW c (al AnA):=by
 show ã (AYn (h.l.cons a).add (BHZ (-(f p/q p))) (Akl AnA (f j+ -(f p/q p)*q j))) BRo
 ·rw[h.o,hq.z c hc];grind
 ·show AoB
  show BQj
  ·rw[h.z x hx n,hq.z x hx];grind
theorem Up.new{rs:EN}{cs:Cn}{a q:Row}{p:Δ}(hq:AYz q)(hp:q p≠0):Up AHy AJW p (al (q j/q p)):=by
 show ã (AYn BHZ (1/q p) (Akl (q j/q p) (1/q p*q j))) BRo
 ·grind
 ·show AoB
  ·exact Iy e n
  ·rw[hq.z x hx];grind
def i':M3 Cn
 | 0=> []
 | p+1=>p::AM5
theorem kZ{x:Δ}:∀{p:Δ},x∈AM5↔x<p
 | 0=>C8 i'
 | p+1=>by
  unfold i';rw[ą,kZ];omega
theorem zmx:∀p,ź i' p
 | 0=>AsX
 | p+1=>Ev (Az2 (D6 (MU (kZ.mp h))) (zmx p))
def jq(A:ae)(k:Δ):Row:=GB (BB (A k j))
theorem z1y(A:ae)(k j:Δ):wB (jq A k j):=FG
structure BT (n:Δ) (A:ae) (p:Δ) (d:Ψ) (tb:ae) (rs:EN) (fs:AHC) (ix:qh):Θ where
 w:∀r∈rs,BSw
 de:BB d=ApR
 nz:d≠0
 up:∀i,i<p ->Up rs Ajb i (fs i)
 lo:AYV p (ix i<n/\Low rs Ajb (jq A (ix i)) (fs i))
 all:∀k,k<n ->jq A k∈rs\/∃i,p<=i/\i<n/\ix i=k
 t:AEm (∀j,BB (tb i j)=d*fs i j)
theorem ydc(n:Δ)(A:ae):BT n A 0 1 A [] (jq A) id:=by
 refine⟨fun r h=>(by cases h),?_,CD,fun i h=>(AjU h),fun i _ h=>⟨h,DH (As1 []) (GB (Akl (jq A i j) (jq A i j+0))),fun c h=>D1⟩,fun k h=> .AZ ⟨k,IS,h,Β⟩,Ap i _ j⟩
 ·rfl
 ·show BB AOz=1* BB AOz
  grind
theorem BT.dz(BgN):ApR≠0:=DC h.de (AV (Ajm h.nz))
theorem ykv{n:Δ}{rs:EN}{p:Δ}{f:Row}(wr:A2W)(dz:ApR≠0)(h:(∃c,c<p/\Up rs Ajb c f)\/∃a,(AU9 a)/\Low rs Ajb a f)(j:Δ):wB (ApR*f j):=by
 rcases h with ⟨c,hc,u⟩ | ⟨a,wa,l⟩
 ·show bi pre EE (As4 (As5 hc));have nd:=zmx p;rw[e] at nd;have A9:=yn2 (rs:=rs) (pre:=pre) (EE:=EE) (c:=c) (f:=f) u.l u.o AmG wr (DC e dz) j
  ·rw[e];exact A9
  ·refine u.z x ?_ Ϟ
   ·rw[e];show AP4
    ·exact AkJ
    ·exact BNx
   ·subst z;rw[AGV] at nd;show AP4
    ·exact nd.2.2 x q x zY Β
    ·exact BOf
 ·obtain⟨g,lg,hf⟩:=l.g;exact yhq hf lg l.z wa wr j
def uE(p s i:Δ):Δ:=sg p s (sg s p i)
def AGa(p s:Δ)(d:Ψ)(tb:ae):ae:=fun i j=>(sg p (tb s j) BdE)
theorem yh6{x d z:Ψ}(d0:d≠0)(e:x=d*z):x.fdiv d=z:=by
 rw[e,Ac',Int.mul_fdiv_cancel _ d0]
theorem Sw{a b:Ψ}(h:BB a=BB b):a=b:=AV1 h
theorem BT.step{n p s:Δ}(Bjq)(h:AMw)(ps:p<=s)(sn:s<n)(nz:ANp≠0):
  ∃rs' fs' Sx,BT n A (p+1) (tb s p) (AGa p s d tb) rs' fs' Sx :=by
 obtain⟨hk,lq⟩:=h.lo s ps sn;show U2 ts (BB ANp=d*AgM) (h.t s sn p) qz (AgM≠0) (AV (nz (Sw (by rw[ts,z];grind)))) d0 Ak8 (AV (h.nz (Sw (JA z))))
 let rs' :EN:=jq A (ix s)::rs
 let fs' :AHC:=FV (sg p (al (fs s j/AgM)) (al Bbx))
 let Sx :qh:=FV (ix (uE p s i))
 have dd:dt rs' A6Y=BB ANp:=by
  show dt (jq A (ix s)::rs) A6i=_;rw[lq.dt p,<- h.de,ts,ASv]
 have w' :∀r∈rs',BSw:=lI (by
  show AFQ hr
  ·exact DH hk q
  ·exact h.w r q)
 have wr' :∀r∈rs',AU9 r:=A9c (by show AIm k (w' r hr);exact z1y A k j)
 have nz' :BB ANp≠0:=AV (nz (Sw (JA z)))
 have up' :∀i,i<p+1 ->Up rs' A6Y i (fs' i):=X2 (by
  show L7 i p
  ·subst e;show Up rs' (i::i' i) i (B5 (i=i) _ _);show sB;exact Up.new lq qz
  ·have hip:i<p:=Τ
   have es:ApE=i:=by unfold uE;rw[B4 e,mT]
   show Up rs' A6i i BMY;rw[B4 e,es];exact Up.step lq qz (h.up i hip) (As5 hip))
 have YT :AYV (p+1) (Sx i<n/\Low rs' A6Y (jq A (Sx i)) (fs' i)):=fun i hi hn=>by
  have hs:p<=ApE/\ApE<n:=by
   unfold uE;show CS Η
   split<;>omega
  obtain⟨g1,g2⟩:=h.lo _ hs.1 hs.2;show F8 g1;show Low rs' A6i _ BMY;show CS Η
  exact Low.step lq qz g2
 refine⟨rs',fs',Sx,w',dd.symm,nz,up',YT,BO k hk',Ap i hi j⟩
 ·rcases h.all k hk' with q | ⟨i,q1,q2,q3⟩
  ·exact .A0 (zW _ q)
  ·show L7 i s
   show tj (.A0 (DC q3 zY))
   ·by_cases ep:i=p
    ·subst ep;refine .AZ ⟨s,Τ,sn,?_⟩
     show ix (uE i s s)=k;unfold uE;rw[B4 Η,EB];exact q3
    ·refine .AZ ⟨i,Τ,q2,?_⟩
     show ix AT9=k;unfold uE;show Ì ep e;exact q3
 ·show L7 i p
  ·subst e;show Lv (sg i (tb s j) _)=BB (tb s i)* (B5 (i=i) (al (fs s j/fs s i)) _) j;rw[EB,EB,h.t s sn j,ts]
   grind
  ·have hs:ApE<n:=by unfold uE;show CS e;split<;>omega
   have iz:wB (dt rs' (i' (p+1))*fs' i j):=ykv (n:=n) wr' (Do dd nz') (by
    show KK (i<p)
    ·exact .A0 ⟨i,Τ,up' i Η⟩
    ·obtain⟨g1,g2⟩:=YT i Η hi
     exact .AZ (DH (z1y A _) g2)) j
   obtain⟨z,hz⟩:=iz;rw[dd] at hz;have hf:fs' i j=Bbx:=by
    show(sg p _ _:Row) j=_;show CS e
   show Lv (sg p _ BdE)=BB ANp*fs' i j;rw[B4 e,hz]
   congr 1
   refine yh6 h.nz (Sw ?_);rw[AdA,P2,P2,P2,h.t _ hs j,h.t _ hs p,h.t s sn j,<- hz,hf,ts]
   grind
def eE:ABg (ce) AI
 | 0,_=>0
 | n+1,g=>eE n g+g n
theorem Pz{g h:ce}:N4 n Δ (AEm (g i=h i)) (eE n g=eE n h)
 | 0,_=>Β
 | n+1,e=>uB eE (Pz fun i hi=>e i Η) (e n Η)
theorem z1r{g:ce}{c:Δ}:∀{n:Δ},c<n ->(∀i,i<n ->i≠c ->g i=0) ->eE n g=g c
 | n+1,hc,h=>by
  unfold eE;show L7 c n
  ·subst e;have:eE c g=0:=by
    rw[Pz (h:=Ŭ) (X2 (h i Η Η))]
    clear h hc;induction c with
    | Tb=>rfl
    | Th c ih=>show A_b
   rw[Χ];grind
  ·rw[z1r (n:=n) Η fun i hi n' =>h i Η n',h n Η (AV (e ABV))];grind
theorem z6k{rs:EN}{fs:AHC}(a:ce):N4 p Δ (∀c,c<p ->mU rs (fs c)) (AJU (eE p (ACJ (a c*fs c j))))
 | 0,_=>As1 rs
 | p+1,h=>AYn (z6k a (ø (h c Η))).add ((h p Η).mul (a p)) Β
theorem BT.span(A5P){f:Row}(l:ϲ)(j:Δ):f j=eE p (ACJ (f c*fs c j)):=by
 have hl:=l.add ((z6k (rs:=rs) (fs:=fs) f (p:=p) (ø (h.up c hc).l)).mul NI);have A9:=zt3 (cs:=AM5) hl (XB c hc) h.dz j
 ·grind
 ·have hc' :=kZ.mp hc;rw[z1r hc' fun i hi ni=>(mo ((h.up i hi).z c hc (AKl ni))),(h.up c hc').o]
  grind
theorem BT.eqn(A5P){j:Δ}(z:AYV p (fs i j=0)){k:Δ}(hk:k<n):
  jq A k j=eE p (AIA (fs c j)):=by
 rcases h.all k hk with q | ⟨i,q1,q2,Β⟩
 ·exact h.span (mU.mem q) j
 ·obtain⟨_,l⟩:=h.lo i q1 q2;obtain⟨g,lg,hf⟩:=l.g;have h1:=h.span lg j;have h2:∀c,c<p ->g c= - BIU:=ø (by
   have:=hf c;show B8 (l.z c (As5 hc))
   grind)
  have h3:=hf j;rw[z i q1 q2] at h3;have h4:(eE p (ACJ (g c*fs c j)))= - eE p (ACJ (BIU*fs c j)):=by
   have neg:Bbk:=fun m u=>by
    induction m with
    | Tb=>unfold eE;grind
    | Th m ih=>show A_b
   rw[<- neg];exact Pz fun c hc=>(mo (h2 c hc))
  rw[h4] at h1
  grind
theorem BT.sol{n:Δ}{A:ae}{d:Ψ}(Avc)(h:Bgn n){k:Δ}(hk:k<n)(j:Δ):jq A k j=eE n (AIA (fs c j)):=
 h.eqn (fun i h1 h2=>Τ) hk
theorem BT.diag(A5P){i:Δ}(hi:i<p)(hn:i<n):tb i i=d:=by
 have:=h.t i hn i;show B8 (h.up i hi).o;exact Sw (mo Χ)
theorem BT.stuck(Aul)(Avc)(h:AMw)(pn:p<n)(z:AYV p (tb i p=0)):
  ∃x:ce,x p=1/\∀k,k<n ->(eE n (AIA (x c)))=0:=by
 show LP d0 Ak8 (Q3 (h.nz (Sw A0U))) z' (AYV p (fs i p=0)) (A7t (by
  have:=h.t i h2 p;show B8 (z i h1 h2);show g9 (As3 (show BB d*fs i p=0 by show Ø;rfl)) q
  show Û q d0
  ·exact q)) ⟨ACJ (ANV c p (- AfJ) (Awu c)),CY,A4W⟩
 have e:=h.eqn z' hk;have cut:∀m,p<m ->m<=n ->BcC=BMF+jq A k p:=fun m=>by
  induction m with
  | Tb=>intro hm;omega
  | Th m ih=>
   intro hm hn;show BcC+jq A k m* (B5 (m<p) (- fs m p) (Awu m))=_;by_cases q:m=p
   ·subst q;rw[B4 Η,EB]
    rw[Pz (h:=AIA (- fs c m)) (ø (by show Go hc))]
    grind
   ·rw[ih Η Η,mT,QY];grind
 rw[cut n pn Ax9,e];have neg:BMF= - eE p (AIA AfJ):=by
  have:Bbk:=fun m u=>by
   induction m with
   | Tb=>unfold eE;grind
   | Th m ih=>show A_b
  show Ø;exact Pz fun c _=>Sk
 rw[neg];grind
def aD{α:CL}:CO ->(F9) ->AI
 | [],_=>0
 | Fc,f=>f a+c8
section
variable{α β:CL}
theorem nj{f g:F9}:AZn (f a=g a) (aD l f=aD l g)
 | [],_=>Β
 | Fc,h=>uB aD BJf (nj fun b hb=>BQE)
theorem Va{f g:F9}:A8L (f a+g a) (c8+aD l g)
 | []=>Ajn
 | Fc=>A9N Va
theorem M7{f g:F9}:A8L (f a - g a) (c8 - aD l g)
 | []=>Ajn
 | Fc=>A9N M7
theorem Lf(k:AI){f:F9}:AH7 (GL l a (k*f a) (k*c8))
 | []=>Ajn
 | Fc=>A9N (Lf k)
theorem PB{f:F9}:AZn (f a=0) A2t
 | [],_=>Β
 | Fc,h=>Ajr aD BJf (PB fun b hb=>BQE)
theorem PJ(k:AI):AH7 (aD l (C5 k)=BkK*k)
 | []=>by
  show AIw=la 0*k;have:la 0=0:=Β;rw[Χ];grind
 | Fc=>by
  show k+aD l (C5 k)=la (ED+1)*k;rw[PJ k];have:la (ED+1)=BkK+1:=AV1 Β
  rw[Χ];grind
theorem YW{f:α ->β ->AI}{m:QU}:A8L A'O (aD m (cn (AW1 (f a b))))
 | []=>Ev (UX PB AO7)
 | Fc=>by
  show A'O+AzL A'O=aD m (cn (f a b+AW1 (f a b)));rw[YW (l:=l),<- Va]
theorem zrp{f:F9}:∀{l m:CO},aD (l++m) f=c8+AkZ
 | [],m=>by show aD m f=0+AkZ;grind
 | Fc,m=>by show f a+aD (l++m) f=(f a+c8)+AkZ;rw[zrp];grind
theorem z8u{f:F9}{l m:CO}(h:l.Perm m):aD l f=AkZ:=by
 induction h with
 | DB=>rfl
 | AY x _ ih=>show f x+_=f x+_;rw[ih]
 | swap x y l=>show f y+ (f x+c8)=f x+ (f y+c8);grind
 | JY _ _ h1 h2=>rw[h1,h2]
theorem Lg{f:F9}{p:AEe}:AH7 (aD (ALe p) f=BaS)
 | []=>Β
 | Fc=>by
  rw[Ps];show _=(B5 AIb (f a) 0)+BaS;rw[<- Lg (l:=l)];by_cases h:AIb
  ·rw[ADv,ADv];rfl
  ·rw[Ü,Ü];grind
theorem Lh{f:PP}{g:Aix}:AH7 (aD (EW g) f=AW1 (f (g a)))
 | []=>Β
 | Fc=>by show f (g a)+_=f (g a)+_;rw[Lh]
theorem YX{f:F9}:AZn (0<=f a) (0<=c8)
 | [],_=>Ev AKL
 | Fc,h=>by
  have h1:=Ak9;have h2:=YX (FS BAM);show 0<=f a+c8
  grind
theorem Vb{f:F9}:AH7 ((AHS (0<=f a)) ->A2t ->∀a∈l,f a=0)
 | Fc,h,e=>by
  have h1:=Ak9;have h2:=YX fun b hb=>BAM;have e' :f a+c8=0:=e;have e1:f a=0:=Sk
  have e2:A2t:=Sk
  intro b hb;show AFQ hb
  show Dx q e1
  ·exact Vb (Lo BAM) e2 b q
 | [],_,_=>fun a h=>D1
#where
section
variable{α:CL}[AW2]
theorem Vc{f:F9}{s hs:CO}(ns:s.Nodup)(nh:AKM)(BM:Si s hs):GL hs h (N2 Ō (f h)) (aD s f):=by
 have p:(hs.filter (D6 (Φ Ō))).OY s:=by
  rw[Bki (nh.filter _) ns];intro a;rw[Ć];exact⟨D6 (Bib h.2),D6 ⟨BM a h,Pp h⟩⟩
 rw[<- z8u p,Lg];exact US a (by by_cases h:a∈s<;>simp [h])
def dg(s:CO)(x:F9):AI:=AtY (aD s x)
theorem z8o{s:CO}(h:s≠ [])(x:F9):BkL*ALy=aD s x:=by
 have z:BB AqU≠0:=by
  have:=Ą h;intro e;have:AqU=0:=AV1 e
  omega
 unfold dg;rw[MI,ASv,xE,AIt z];grind
theorem zva(s:CO)(x:F9):GL s h AlU 0:=by
 rw[M7,PJ];by_cases h:s= []
 ·subst h;show BB 0 - la 0*_=0;have:la 0=0:=Β;rw[Χ];grind
 ·rw[z8o h];grind
def rH(S:bc)(x:F9)(h:α):AI:=APe AlU
theorem z1u(Api)(ns:AXO)(nh:AKM)(BM:AmI)(c x:F9):GL hs h (c h*A5K) (aD S fun s=>aD s (D6 (c h* Ä))):=by
 unfold rH;have e:GL hs h (c h*APe AlU) (aD hs (D6 (APe (c h* Ä)))):=
  US h (DC Lf (US s (by split<;>grind)))
 rw[e,YW];exact nj fun s hS=>BTs
theorem yhr(Api)(ns:AXO)(nh:AKM)(BM:AmI)(x:F9):aD hs (rH S x)=0:=by
 have e:=z1u ns nh BM (C5 1) x;have e1:GL hs h (1*A5K) Bc5:=A2d
 rw[<- e1,e];exact PB fun s _=>by
  have e2:A7z 1 (aD s (Sl AlU)):=A2d
  rw[e2,zva]
theorem zl1(r:AI):0<=r*r:=by
 show dA (Rat.le_total (a:=0) (b:=r))
 ·exact BHV h h
 ·have h' :0<= -r:=Sk
  have:=BHV h' h'
  grind
theorem z6z{r:AI}(h:r*r=0):r=0:=by
 rcases As3 h with h | h<;>exact h
theorem yej(Api)(ns:AXO)(nh:AKM)(BM:AmI){x:F9}(z:BTp):AG9 (aS s (x h=ALy)):=by
 have e:=z1u ns nh BM x x;rw[PB fun h hh=>(mo (z h hh))] at e
 have e2:∀s,A7z (x h) (aD s (D6 (Ä* Ä))):=by
  intro s;have a1:=zva s x;have a2:A7z Ä (aD s (D6 (x h* Ä - ALy* Ä))):=A2d
  rw[a2,M7,Lf,a1];grind
 have e3:GL S s (aD s (D6 (Ä* Ä))) 0:=AX e (US s (UX e2 s))
 intro s hs h hh;have h1:=Vb (fun s _=>YX fun h _=>zl1 _) e3 s hs;have h2:=Vb (fun h _=>zl1 _) h1 h hh;have:=z6z h2
 grind
def jy(S:bc)(h:α):AI:=APe 1
theorem zto(S:bc)(h:α):0<=AIc:=YX fun s _=>Ag7
theorem ykh{S:bc}{h:α}(i:∃s∈S,Ō):0<AIc:=by
 obtain⟨s,hs,hh⟩:=i;refine Rat.lt_of_le_of_ne (zto S h) Ϟ;have:=Vb (l:=S) (f:=fun s=>(N2 Ō (BB 1))) (fun s _=>Ag7) ABV s hs
 show B8 (CH hh);exact AWV Χ
theorem z6n{S:bc}{h0:α}{hs:CO}(ns:AXO)(nh:(Afb).OO)(BM:AG9 (Si s AHk))(on:AWz (∃s∈S,Ō))
  (min:∀C:Fk α,(∀s∈S,AaB s s) ->(∃x∈AHk,C x) ->AeG AHk)
  {x:F9} (z:BTp) (w:BWg 0):AWz (x h=0):=by
 have z' :AWz (rH S x h=0):=by
  have e:=yhr ns nh BM x;have e' :rH S x h0+Bc5=0:=e;rw[PB z] at e';intro h hh;show AFQ hh
  ·rw[q];grind
  ·exact z h q
 have ev:=yej ns nh BM z';have Tk:AWz (x h=x h0):=min (Sl (x h=x h0)) (fun s hS hx b hb=>by
  obtain⟨a,ha,ea⟩:=hx;have ea' :x a=x h0:=ea;rw[ev s hS b hb,<- ev s hS a ha,ea']) (OC h0 zY)
 have e1:BWg (x h0*BZ3):=DC Lf (nj fun h hh=>(mo (Tk h hh)))
 rw[e1] at w;have Υ:BZ3≠0:=fun zz=>by
  have:=Vb (fun h _=>zto S h) zz h0 zY;have p:=ykh (on h0 zY);rw[Χ] at p;exact AWV p
 show A2J w
 ·intro h hh;rw[Tk h hh,q]
 show Û q Υ
def gb(S:bc)(h o:α):AI:=(B5 (h=o) AIc 0) - ATh AQf AkM
theorem yax(Api)(ns:AXO)(nh:AKM)(BM:AmI)(x:F9){h:α}(hh:ϧ):BZU A5K:=by
 have e1:BZU (aD hs (A6 o (N2 (o∈ [h]) (AIc*x o))) - aD hs fun o=>(ATh AQf AXo)):=by
  rw[<- M7];refine nj (BO o _);unfold gb;have e2:(aD S fun s=>(N2 AQf AXo))=x o*ATh AQf AkM:=DC Lf (US s (by split<;>first | (simp only [MI];grind) | grind))
  rw[e2];by_cases q:h=o
  ·subst q;rw[EB,BI0 Β];grind
  ·show Ì q BSv;grind
 rw[e1,Vc A2 nh (BKQ hh),YW]
 have e3:GL [h] o (AIc*x o) (APe (x h)):=by
  show AIc*x h+0=_;unfold jy;have:(aD S fun s=>(N2 Ō (x h)))=x h*APe 1:=DC Lf (US s (by split<;>grind))
  rw[Χ];grind
 rw[e3,<- M7];refine nj (BO s hS);show KK Ō
 ·rw[Hk,Hk]
  congr 1
  have e4:GL hs o (N2 AQf AXo) (aD hs fun o=>(N2 (o∈s) AXo)):=US o Ah_
  rw[e4,BTs];unfold dg;have e5:GL s o AXo (BkL⁻¹*aD s x):=DC Lf (US o (mo MI))
  rw[e5,MI];grind
 ·rw[QY,QY,PB fun o _=>Ah_];grind
variable{σ:CL}
def oA(k:Am8)(y:AoI)(S:Ag8)(h:α):AI:=BP1
theorem yfp{k:Am8}{S:Ag8}{hs:CO}(ns:BWK)(nh:AKM)(BM:AG9 (Si (k s) hs))(y:AoI):aD hs (oA k y S)=0:=by
 show GL hs h BP1 0;rw[YW];refine PB (BO s hS);rw[Vc (f:=D6 Bjk) (ns s hS) nh (BM s hS)];exact zva _ _
theorem z9y(s:CO)(x y:F9):dg s (A6 o (x o - y o))=ALy - dg s y:=by
 unfold dg;rw[M7,MI,MI,MI];grind
theorem yd2{k:Am8}(y:AoI)(x:F9)(S:Ag8)(h:α):AZ6 AZf=AZ6 y - rH (S.map k) x h:=by
 unfold oA rH;rw[Lh,<- M7];exact US s (by
  rw[z9y];split<;>grind)
theorem ydz{k:Am8}{S:Ag8}{h0:α}{hs:CO}(ns:BWK)(nh:(Afb).OO)(BM:AG9 (Si (k s) AHk))(y:AoI)(x:F9)
  (e:aS hs (rH (S.map k) x h=AZ6 y)):AWz (AZ6 AZf=0):=by
 have e' :aS hs (AZ6 AZf=0):=nE (by rw[yd2,e h hh];grind)
 have q:=yfp ns nh BM fun s o=>y s o - x o;have q' :oA k AZf S h0+aD hs (oA k AZf S)=0:=q;rw[PB e'] at q';intro h hh;show Zp hh r r
 ·rw[r];grind
 ·exact e' h r
theorem zyh{β:CL}[AKN β](f:PP):∀(l:QU),eE ED (al (AUd f Nl))=c8:=by
 intro l;have A9:∀(m:QU) n,n<=HQ ->eE n (al (AUd f v4))=aD (AQ3 n) f:=by
  intro m n;induction n with
  | Tb=>intro _;rfl
  | Th n ih=>
   intro h;have e:AQ3 QP=AQ3 n++ [m[n]]:=qS List.take_succ tT
   show eE n (al (AUd f v4))+f (v4 n pM)=_;rw[ih Η,e,zrp]
   have:v4 n pM=m[n]:=Azd tT
   rw[Χ];show _+f m[n]=_+ (f m[n]+0)
   grind
 have:=A9 l ED E2
 show BII
#where
def ZB(B:Δ)(x:AI):Θ:=∃z:Ψ,x=BB z/\A1J
theorem ZB.sub(BcO):ZB (A+B) (x - y):=by
 show AHt a ha h1;show AHt b hb h2;exact⟨a - b,BHb,Τ⟩
theorem ZB.mul(BcO):ZB (A*B) (x*y):=by
 show AHt a ha h1;show AHt b hb h2;exact⟨a*b,BHa,AX Ĩ (AaS ha hb)⟩
theorem ZB.mono{A B:Δ}{x:AI}(h:ZB A x)(l:A<=B):ZB B x:=by
 show LN a Β ha;exact P9 a (zO ha l)
theorem ZB.zero(B:Δ):ZB B 0:=P9 0 IS
theorem yf3{B:Δ}{g:ú}:BYe (ZB B (g c ds)) (ZB (AQ4*B) (dB g cs))
 | [],_=>Ev (ZB.zero _)
 | í,h=>by
  have h1:=(h c cs Β).BM (yf3 (cs:=cs) (g:=fun d ds=>g d ui) fun d ds e=>h d ui Ϫ)
  refine ZB.mono h1 ?_;show A3T;omega
theorem yd7{M N:Δ}:∀{rs:EN} {cs:Cn},(∀r∈rs,BAq) ->AQ4<=N ->ZB (A2K) (dt rs cs)
 | [],[],_,_=>⟨1,N9,CY⟩
 | [],DV,_,_=>Ev (ZB.zero _)
 | mw,cs,h,l=>by
  have h1:ZB (AQ4* (M* A2K)) (dB (fun c ds=>r c*SU ds) cs):=yf3 fun c ds e=>(h r zY c).mul (yd7 (fun s hs=>BP') Η)
  refine ZB.mono h1 ?_;rw[FI,BFe,Bkj (A2K),Nat.mul_assoc];exact Axw l
theorem zlo{g:ú}:BYe (g c ds=0) (dB g cs=0)
 | [],_=>Β
 | í,h=>Ajr dB (h c cs Β) (zlo (cs:=cs) fun d ds e=>h d ui Ϫ)
theorem yfx:BAo (ABd≠AQ4) (dt rs cs=0)
 | [],[],h=>ϣ h
 | [],DV,_=>Β
 | mw,cs,h=>zlo fun c ds e=>(mo (yfx (by simp at h;omega)))
theorem YZ:∀p,C7 i' p=p
 | 0=>Β
 | p+1=>uB i' FI (YZ p)
theorem BT.len(BgN):ABd=p:=by
 have z:=h.dz;show g9 (Nat.decEq ABd (C7 i' p)) q
 ·exact tq yfx q z
 ·rw[q,YZ]
theorem ynd(Aog){a f g:Row}(hf:A4e)(hg:AW6)(z:AmU)(j:Δ):SU cs*f j=A4t:=by
 obtain⟨ks,_,e⟩:=hg;have h1:dt AEi sL=A2y:=ztz z;have h2:dt AEi sL=A4t:=by
  show AqN (j::cs) a;show Ø
  congr 2
  funext i
  rw[hf,e]
 rw[ASv,<- h1,h2]
theorem yod(Bep)(h:ϲ)(one:f c=1)(z:BOt)(d:SU AUR≠0)(j:Δ):A0l=SU Azi:=by
 have hl:=z8c rs _ pre EE Β;have A9:=zt3 (cs:=pre++ACR) BZ9 AmG d j
 ·grind
 ·by_cases hc:x=c
  ·subst hc;rw[one];grind
  ·have hx' :x∈Av6:=by
    show AP4
    ·exact AkJ
    ·show AFQ q
     ·exact Iy q hc
     ·exact zQ _ q
   rw[z x hx'];have:dt rs BIJ=0:=by
    show UD hx' q q
    ·show DT p1 p2 Β As4 q;have:=YS rs (pre:=p1) (EE:=p2++x::EE) (c:=x) A2
     rw[Ī];exact Χ
    ·exact YS rs q
   rw[Χ];grind
theorem z0m{z w:Ψ}{B:Δ}(e:BB z=BB w)(h:w.natAbs<=B):A1J:=SD Sw e h
theorem BT.small(Be5)(h:AMw)(hA:A'r A M)(hp:p+1<=N)(h1:1<=N*M){i:Δ}(hi:i<n)(j:Δ):(tb i j).į<=(N*M)^ (p+1):=by
 have wr:∀r∈rs,BAq:=A9c (by
  show ADG k hk (h.w r hr);exact P9 (A k j) (hA k hk j))
 have hl:=h.len;have pw:(N*M)^p<=(N*M)^ (p+1):=BIS h1
 have ht:=h.t i hi j;rw[h.de] at ht;show KK (i<p)
 ·have u:=h.up i q;show bi pre EE (As4 (As5 q));have nd:=zmx p;have dz:=h.dz;have ll:=YZ p;rw[e] at nd dz ht ll;have A9:=yod (rs:=rs) (pre:=pre) (EE:=EE) (c:=i) (f:=fs i) u.l u.o AmG dz j
  ·rw[A9] at ht;obtain⟨z,ez,hz⟩:=BbJ (pre++AfP) (by simp at ll⊢;omega)
   rw[hl] at hz;rw[ez] at ht;exact zO (z0m ht hz) pw
  ·refine u.z x ?_ Ϟ
   ·rw[e];show AP4
    ·exact AkJ
    ·exact BNx
   ·subst z;rw[AGV] at nd;show AP4
    ·exact nd.2.2 x q x zY Β
    ·exact BOf
 ·obtain⟨hx,lo⟩:=h.lo i Η hi
  obtain⟨g,lg,hf⟩:=lo.g;rw[ynd hf lg lo.z j] at ht;show EQ z ez hz (N1 yd7 rs (jq A (ix i)::rs) cs (j::AM5) M M N N) (p_ hr (by
   show AFQ hr
   ·subst q;exact GB (P9 (A (ix i) j) (hA _ hx j))
   ·exact wr r q)) (by show Aun YZ;omega)
  rw[FI,hl] at hz;rw[ez] at ht;exact z0m ht hz
theorem BT.lead(Be5)(h:AMw)(hA:A'r A M)(hp:p<=N):BCu<=(N*M)^p:=by
 have wr:∀r∈rs,BAq:=A9c (by
  show ADG k hk (h.w r hr);exact P9 (A k j) (hA k hk j))
 obtain⟨z,ez,hz⟩:=BbJ AM5 (AX YZ hp)
 rw[h.len] at hz;exact z0m (h.de.trans ez) hz
section
variable{α β:CL}[AW2][ALu β]
def gV(A9r):GM:=A1O (Φ (CI=w))
def Dy(Ξ:GM)(h:β):GM:=A1O Ank
def ofM(Ξ:GM)(m:QU):GM:=A1O Axy
def Uq(Ξ:GM):Θ:=rows.Pairwise fun a b=>BbE
def kW(A9r):QU:=Ű fun r=>C4
def yW(Ξ:GM)(w:α)(h:β):AI:=AYa (rows.find? (A6 r (Φ BAw))) r AIK 0
theorem cX{Ξ:GM}{w:α}{r:ù}:r∈AHO↔AJm/\AJg:=uB gV Ć AaW
theorem jw{Ξ:GM}{h:β}{r:ù}:r∈AnT↔AJm/\C4=h:=uB Dy Ć AaW
theorem lZ{Ξ:GM}{m:QU}{r:ù}:r∈AnU↔AJm/\AHT:=uB ofM Ć AaW
theorem Uq.M{Ξ:GM}(u:LO)(m:QU):Uq (ofM Ξ m):=BCx _
theorem z2v{γ δ:CL}{f:γ ->δ}{R:DD γ γ}:∀{l:EC γ},BJ' ->(AHS (N0 l (R a b ->f a≠f b))) ->ź EW f
 | [],_,_=>AsX
 | Fc,h,k=>by
  show Ayq;rw[EK,Ack];show Db Ϟ (z2v h.2 fun a ha b hb=>k a (zW _ ha) b (zW _ hb));show bi b hb (o_ z);exact k a zY b (zW _ hb) (FY b hb) i9
theorem Vd{Ξ:GM}(u:LO)(w:α):AtO OO:=by
 refine z2v (BCx _) (A_M (n ⟨?_,e⟩));rw[Aeh ha,Aeh hb]
theorem ye5{Ξ:GM}(u:LO)(h:β):ź BjS (WS CI):=by
 refine z2v (BCx _) (A_M (n (D_ e)));rw[(jw.mp ha).2,(jw.mp hb).2]
theorem iZ{Ξ:GM}{w:α}{h:β}:AHc↔s0 BAw:=by
 unfold kW;rw[YO];exact⟨A7i r ⟨r,(AQ7 h1).1,Aeh h1,h2⟩,fun⟨r,h1,h2,h3⟩=>⟨r,AaX AlY,h3⟩⟩
theorem yjw:N4 Ξ GM LO (∀{a b:ù},A_ (a∈Ξ) (b∈Ξ) (a.1=b.1) (a.2.1=b.2.1) (a=b))
 | r::Ξ,u,a,b,ha,hb,e1,e2=>by
  unfold Uq at u;rw[ALW] at u;show AFQ ha
  ·show Zp hb q' q'
   ·rw[q,q']
   ·subst q;exact AKh ⟨e1,e2⟩ (u.1 b q')
  ·show Zp hb q' q'
   ·subst q';exact AKh ⟨e1.symm,e2.symm⟩ (u.1 a q)
   ·exact yjw u.2 q q' e1 e2
theorem Sy{Ξ:GM}(u:LO){r:ù}(hr:AJm):yW Ξ CI C4=AIK:=by
 unfold yW;cases e:rows.find? (A6 s (Φ Ban)) with
 | Ι=>
  have:=Bkp e r hr;simp at Χ
 | Ε s=>
  have h1:=Bkq e;have h2:Ban:=ů (Bkr e) Χ
  rw[yjw u h1 hr h2.1 h2.2]
theorem ygl{Ξ:GM}{w:α}(f:PP):aD Ŕ f=aD AL9 (WS ANv):=Lh
theorem SJ(A9r):AJk=ATN:=by unfold kW;show He
theorem yga(A8r)(u:LO)(nw:ć)(cw:Anl)(h:β)(F:F9):BVk (aD (Dy Ξ h) (WS (F CI))):=by
 have e:BVk (aD ws (HG (N2 BXq (F w)))):=by
  refine nj (BO w _);have:AHc↔BXq:=kM iZ YO (AOH (fun⟨r,h1,h2,h3⟩=>⟨r,jw.mpr ⟨h1,h3⟩,h2⟩) r h1 h2 ⟨r,BKK,h2,(jw.mp h1).2⟩)
  show KK AHc
  ·rw[Hk,sd this.mp q]
  ·show Ì q (AV (q (this.mpr z)))
 rw[e,Vc (ye5 u h) nw (Ï (by
  show DT r h1 h2 o_ hw;rw[<- h2];exact cw r BKK)),Lh]
def yR(Ξ:GM)(x:PP)(h:β):Θ:=
 GL (Dy Ξ h) r BZq 0
def Y0(Ξ:GM)(x:PP)(m:QU):Θ:=GL lS r (x C4) 0
theorem Y4{Ξ:GM}(u:LO)(x:PP)(w:α):dg Ŕ (A6 o BSh)=Akf:=by
 unfold dg;rw[SJ,ygl]
 congr 1
 show AP';have:=Sy u AgX;show B8 AlD;rw[Χ]
theorem ydh(A8r)(u:LO)(nw:ć)(cw:Anl)(x:PP)(h:β)(e:oA ye (fun w o=>BSh) ws h=0):AJp:=by
 show Uf oA;rw[Ba5] at e;unfold yR;rw[<- e];refine nj APn;show AnZ;have y:=Sy u hr'.1;rw[hr'.2] at y;rw[Y4 u,hr'.2];show _=yW Ξ CI h - x h - _;rw[y]
theorem yed(A8r)(u:LO)(nw:ć)(cw:Anl)(h:β):jy WU h=BjQ:=by
 unfold jy;rw[Lh,Ba5,PJ];grind
theorem z6p{Ξ:GM}{m:QU}(nm:m.Nodup)(BM:SS AHT)(f:PP):BWf (AXn ANv):=by
 have e:BWf (aD m (D6 (AXn BXF))):=by
  refine nj (BO h _);rw[<- PJ (l:=AnT)];unfold Dy;rw[Lg];refine nj (BO r _);show AmE
  ·rw[sd Pp q,Hk,q]
  ·rw[B4 Aef,QY]
 rw[e,YW];show AP';have e2:GL m h BXF (aD m (D6 (N2 (h∈ [C4]) ANv))):=US h (by
  show AmE
  ·rw[Hk,BI0 AsF]
  ·show Ì q BSv)
 rw[e2,Vc (f:=E6 ANv) A2 nm (BKQ (BM r hr))]
 show ANv+0=_
 grind
structure wC (Ξ:GM) (ws:CO) (m:QU):Θ where
 u:LO
 nw:ć
 cw:Anl
 nm:m.Nodup
 BM:SS AHT
 on:Ϯ (s0 (C4=h))
 min:∀C:Fk β,(∀w∈ws,AaB Ľ Ľ) ->(∃x∈m,C x) ->AeG m
theorem wC.sub'(Auj)(L:AQA):BV_ (Si s m):=fun s hs x hx=>by
 show AIm w (o_ hs);obtain⟨r,h1,_,h3⟩:=AKO hx;rw[<- h3];exact L.sub r h1
theorem wC.ns(Auj)(L:AQA):BV_ s.Nodup:=fun s hs=>by
 show AIm w (o_ hs);exact Vd L.u w
def pH [AKN β](Ξ:GM)(ws:CO)(m:QU)(AkB):AI:=
 if j<HQ then(B5 (i=0) (Agn Anw) (gb WU Agb Anw))
 else sg 0 0 (oA ye AT3 ws Agb)
theorem Y5{γ:CL}[AKN γ]{m:EC γ}{i:Δ}(h:i<HQ):v4 i pM∈m:=AXC tT (yU h)
theorem z3m (Alw)(x:PP):A3y (Aw9 0) (aD m (D6 (Agn h*x h))):=by
 rw[<- zyh];refine Pz (BO j hj);unfold pH;rw[CH hj,EB]
theorem ybc (Alw)(L:AQA)(x:PP){i:Δ}(hi:i<HQ)(h0:i≠0):A3y (Aw9 i) (rH WU x Agb):=by
 rw[<- yax L.ns L.nm L.sub' x (Y5 hi),<- zyh];refine Pz (BO j hj);unfold pH;rw[CH hj,B4 h0]
theorem z1w [AKN β]{m:QU}{h0:β}{hs:QU}(e:m=AHk){h:β}(hh:ϧ):∃i,i<HQ/\i≠0/\v4 i pM=h:=by
 show DT i hi q List.getElem_of_mem hh;subst e;show PD D9 AWA Τ
 rw[OX,Kk,lh,q];rfl
theorem wC.null (Alw)(L:AQA)(x:PP)(z:A1e (eE HQ BH_=0)):Ϯ (x h=0):=by
 cases em:m with
 | DB=>intro h hh;cases hh
 | AY h0 hs=>
  have nm:=L.nm;have BM:=L.sub';have on:=L.on;have mn:=L.min;rw[em] at nm BM on mn;refine z6n L.ns nm BM (XB h hh) (fun C hC=>mn C (Ï (hC _ (AaY (OC w hw))))) (XB h hh) ?_
  ·show EQ r h1 h2 on h hh;exact⟨kW Ξ CI,AaY (OC CI (L.cw r h1)),AaZ (Nw r h1 h2)⟩
  ·obtain⟨i,hi,i0,e⟩:=z1w em hh;rw[<- e,<- Bbl];exact z i hi
  ·rw[<- em,<- z3m];exact z 0 (by rw[em];simp)
theorem wC.ans (Alw)(L:AQA)(x:PP)(z:A1e (BJ_ i=eE HQ BH_)):(∀h∈m,AJp)/\A5L:=by
 have e0:m≠ [] ->A5L:=fun ne=>by
  have q:=z 0 (Ą ne);rw[z3m] at q;unfold pH at q;rw[Anp,EB] at q;rw[<- z6p L.nm L.sub,q];exact US h (MW (yed L.u L.nw L.cw))
 cases em:m with
 | DB=>
  show F8 (nE (by cases hh))
  cases er:Ξ with
  | DB=>rfl
  | AY r rs=>
   have:=L.sub r (Do er zY)
   show B8 em;show E3
 | AY h0 hs=>
  refine⟨nE (ydh L.u L.nw L.cw x h (N1 ydz S ws k (kW Ξ) h0 h0 hs hs (fun w _=>Vd L.u w) (em ▸ L.nm) (fun w hw y hy=>(DC em (L.sub' _ (AaY (OC w hw)) y hy))) AT3 x (XB g hg) h hh)),e0 (AWp em)⟩
  obtain⟨i,hi,i0,e⟩:=z1w em hg;have q:=z i hi;rw[Bbl] at q;unfold pH at q;rw[Anp,B4 i0,e] at q;exact AsF
#where
section
variable{α γ:CL}[ALu γ]
theorem z5c{f:F9}{p:AEe}:AH7 (aD l f=aD (ALe p) f+aD (ALe fun a=> ! p a) f):=by
 intro l;rw[Lg,Lg,<- Va];refine nj (BO a _);cases p a
 ·simp [BoF]
 ·simp [AFg]
theorem yaa(A9:α ->γ)(g:F9)(φ:γ ->AI):∀(n:Δ) (l:CO),ED<=n ->(∀c,aD (ALe fun a=>(Φ (A9 a=c))) g=0) ->GL l a (φ (A9 a)*g a) 0:=by
 intro n;induction n with
 | Tb=>
  intro l hl _;obtain Β:l= []:=AQ8 Η
  rfl
 | Th n ih=>
  intro l hl h;cases l with
  | DB=>rfl
  | AY a r=>
   rw[z5c (p:=cn AIi)];have e1:Bez 0:=by
    have:Bez (aD (AN_ (cn AIi)) (yA (φ (A9 a)*g b))):=
     nj fun b hb=>by rw[wy (List.mem_filter.mp hb).2]
    rw[Χ,Lf,h,Bkt]
   rw[e1,ih]
   ·show pe
   ·have:C7 AN_ (cn (! AIi))<=OS:=SD List.filter_cons_of_neg A2 Ahm
    simp only [FI] at hl;omega
   ·intro c;rw[Aab];by_cases e:c=A9 a
    ·subst e;show Sj (AN_ (yA (AIi&& ! AIi))= []) (Asy fun b _=>CY)
     rfl
    show Dx (show AN_ (A6 b (Φ (A9 b=c)&& ! AIi))=AN_ (yA (Φ (A9 b=c))) from BH3 b (by
      show KK (A9 b=c)
      ·simp [q,e]
      ·simp [q])) (h c)
theorem ykn{l:CO}{f d:F9}(o:GL l a (d a*f a) 0):BRZ (AzL (f a*f a)+AW1 (d a*d a)):=by
 have:BRZ (AzL (f a*f a+d a*d a+2* (d a*f a))):=US a Sk
 rw[Χ,Va,Va,Lf,o,Bkt,AFg]
#where
section
variable{α β:CL}[AW2][ALu β]
def gB(Ξ:GM)(x:PP)(r:ù):AI:=BZq
theorem z6o(Ξ:GM)(x:PP)(w:α):aD AL9 Ann=0:=by
 have e:aD AL9 Ann=aD AL9 At_ - aD AL9 (E6 Akf):=by
  rw[<- M7];show AP';unfold gB;rw[AlD]
 rw[e,PJ];by_cases z:BR7
 ·rw[z];show BB 0 - la 0* (0/ BB (LZ 0))=0
  show pe
 ·have n0:BB ATN≠0:=Q3 (Bj9 z (by exact_mod_cast q))
  rw[MI,ASv (BB ATN),xE,AIt n0,ALg,Rat.sub_self]
theorem z0u{Ξ:GM}{x:PP}(ev:AZR)(p:F9)(q:PP):A4I sR 0:=by
 have e:A4I sR (A3u (p CI)+AXn (q C4*sR)):=DC Va (US r Sk)
 rw[e,yaa (fun r:ù=>CI) Ann p nN Ξ Ax9 (ϙ (z6o Ξ x w)),
  yaa (fun r:ù=>C4) Ann q nN Ξ E2 AOj]
 ·show pe
 ·by_cases z:s0 (C4=h)
  ·show ADG r hr z;exact ev r hr
  ·show Sj (BCw (x0 Ank)= []) (AFJ Asy (by
    simp only [AGM];exact fc (z ⟨r,hr,e⟩)))
   rfl
theorem zyn{Ξ:GM}{x:PP}(ev:AZR)(p:F9)(q:PP){g:ù ->AI}(hg:SS (g r=sR+ AIE)):
  A3u sR<=BRU/\ (GL Ξ r (sR*sR) BRU ->SS (g r=sR)):=by
 have e:GL Ξ r (g r*g r) (A3u sR+AXn (AIE* AIE)):=DC (ykn (z0u ev p q)) (AFJ nj (MW (hg r hr)))
 have n:0<=AXn (AIE* AIE):=YX fun r _=>zl1 _;show Db Sk (Ap z r hr)
 have z2:A4I AIE 0:=Sk
 have:=z6z (Vb (p_ _ (zl1 _)) z2 r hr);rw[hg r hr,Χ,AFg]
#where
section
variable{α β:CL}[AW2][ALu β]
theorem zx7(BBJ)(ev:AZR)(ev' :A_5):SS (gB Ξ x' r=sR):=by
 have h1:=zyn ev (ϙ (Akf - AMy (A6 s (ATf (x' kH))))) (Sl (x h - x' h)) (g:=gB Ξ x') fun r _=>(ũ gB)
 have h2:=zyn ev' (ϙ (AMy (A6 s (ATf (x' kH))) - Akf)) (Sl (x' h - x h)) (g:=gB Ξ x) fun r _=>(ũ gB)
 exact h1.2 (BoJ ū h2.1)
theorem ybv(BBJ)(ev:AZR)(ev' :A_5){r s:ù}(hr:AJm)(hs:s∈Ξ)(e:CI=s.1):A6O=x kH - x' kH:=by
 have h1:=zx7 ev ev' r hr;have h2:=zx7 ev ev' s hs;unfold gB at h1 h2;rw[e] at h1
 grind
theorem z9j(BBJ){m:QU}(ev:AZR)(ev' :A_5)(em:A7J)(em' :Y0 Ξ x' m)
  (min:∀C:Fk β,(ATv (∀s∈Ξ,CI=s.1 ->C C4 ->C kH)) ->(∃h∈m,C h) ->Ϯ (C h)) (on:Ϯ (s0 (C4=h))):Ϯ (x h=x' h):=by
 intro h0 hh;have Tk:=min (Sl (x h - x' h=x h0 - x' h0)) (fun r hr s hs e c=>by
  have:=ybv ev ev' hr hs e;show Ø;exact c) (OC h0 hh)
 have z:GL lS r A6O 0:=by rw[M7,em,em'];show pe
 have z2:GL lS r A6O (aD lS (E6 (x h0 - x' h0))):=AFJ nj (Tk _ A6z);rw[z2,PJ] at z;show EQ r hr e on h0 hh;have Υ:0< Aeg ofM m:=Ą fun q=>by
  have:=lZ.mpr ⟨hr,e ▸ hh⟩;show B8 q;show E3
 show g9 (As3 z) q
 ·have:Aeg ofM m=0:=AV1 q
  omega
 ·grind
#where
#print HM
namespace L3
open IB L2 HM
def Ve(EA):d7:=GA (∃i j,BTF)
def Li(GV):d7:=Ϧ (∃i j:Ψ,ds= ANP/\Aiz/\AzW/\M' j 0 D8 BWJ)
def SM(GV):d7:=A5W (a+b)
def Lj(GV):d7:=A5W (a - b)
def Y6(GV):d7:=A5W (a*b)
def Vf(GV):d7:=Ϧ (∃a b:AI,Ava (M' b 0 D8 (ku (a/b))))
def G3(GV):d7:=AvJ (Ava (XG (VV (a<b))))
def cL(ns:BS)(k:Δ):Ψ:=Ag3 AzX ns[k] (let m:Ψ:=M' ns [] (GE*7919+5) ((ox ((k*7) % IG) 0*48271+ GE*7919).LS 2147483647)
 (m*m).LS 2147483629)
def xR(EA):d7:=si ns BS k Δ (ds= [Ahg,.AK k]/\AUc/\k<1000/\XE (cL ns k))
def z1m(EA):d7:=zua
def SN(GV):d7:=GA (∃qs:A5,ds= Avn/\ ANw/\ (∀k,A4O)/\ku (fJ qs))
def SQ(GV):d7:=Ϧ (∃qs:A5,ds= Avn/\AjF/\ ANw/\ (∀k,A4O)/\M' qs [] D8 (ku (fJ qs/ AII)))
def SX(GV):d7:=BTy AjF (cE AzR)
abbrev Mx:=ae
abbrev Mq:=ASz AI
def Y7(k s:Δ)(a:Mx):Mx:=FV (a (uE k s i))
def jd(m:Δ)(f:á):D:= .Cc (AlL (.AK (f j)))
def qO(n m:Δ)(a:Mx):D:= .Cc (APU ANS)
def qF(m:Δ)(f:ce):D:= .Cc (AlL (qD (f j)))
def J4(n m:Δ)(a:Mq):D:= .Cc (APU (qF m (a i)))
def SzE(APm):Θ:=dF ABb<=128/\ AIq∣27720
def xU(N:Δ)(d:Ψ)(q:AI):Θ:=∃t:Ψ,q=WH t d/\dF t<=N
def M8(n:Δ):Δ:=147* QP+1
def Y8(EA):d7:=si m Δ f ce (ds= [qF m f]/\m<=13/\ (XI m (SzE (f j)))/\∀(μ:Ψ) (g:á),0<μ ->(XI m (BB (g j)=BB μ*f j)) ->(BRO) ->P (jd m g))
def Y9(EA):d7:=GA (∃(m k:Δ) (f g:á) (p:Ψ),ds= [jd m f,jd m g,ADx,.AK p]/\k<m/\p≠0/\SZ (dF p)/\ (∀j,SZ (dF (f j)))/\ (∀j,SZ (dF (g j)))/\P (jd m (GB ((BVH).ABe p))))
def G4(k:Δ)(p:Ψ)(a:Mx):Mx:=fun i j=>(sg k (a k j) Ber)
def Za(EA):d7:=GA (∃(a:Mx) (n m k:Δ) (p:Ψ),ds= [qO n m a,ADx,.AK p]/\k<n/\k<m/\p≠0/\SZ (dF p)/\ (Au9 (SZ (dF (a i j))))/\P (qO n m (G4 k p a)))
def Zb(EA):d7:=GA (∃(a:Mx) (n m k s:Δ),ds= [qO n m a,ADx,.AK s]/\k<n/\s<n/\BYz)
def Zc(GV):d7:=Ϧ (∃(a:Mx) (n m k:Δ),ds= [qO n m a,.AK k]/\n<=1000/\k<n/\k<m/\ (∀s,k<=s ->s<n ->a s k≠0 ->BYz)/\ ((BVl (s<n)) ->D8))
def Sys(n:Δ)(A:Mq)(ds:AM):Θ:=ds= [J4 n n A,qF n (FV (A i n))]/\n<=12/\∀i j,i<n ->j<=n ->SzE (A i j)
def Slv(n:Δ)(A:Mq)(x:ce):Θ:=∀r,r<n ->A r n=eE n (GB (A r j*x j))
def Zd(GV):d7:=Ϧ (∃(n:Δ) (A:Mq),Sys n A ds/\ (∀(y:ce) (k:Δ),k<n ->y k=1 ->(∀r,r<n ->(eE n (GB (A r j*y j)))=0) ->D8)/\∀x,Slv n A x ->(An5 (M8 n) (AEm (xU (M8 n) d (x i)))) ->P (qF n x))
def nJ:Κ:=Agu AKW
def S5:Κ:=Agu AKY
def mj:Κ:=Agu AKX
def dL(l:A5):A5:=M' A6R 1 [Aj6] [ACt (kr - 1),Aj6]
def Ze(EA):d7:=GA (∃l:A5,ds= jv mr/\1<=ED/\cE (DF dL l qD))
def S6(EA):d7:=AvJ (ds= jv [qD a,qD b]/\Sz 1900 a/\Sz 1900 b/\ku (b - a))
def Zf(EA):d7:=GA (∃l:A5,ds= jv mr/\2<=ED/\BIM/\ BL8/\BOS)
def Zg(GV):d7:=Ϧ (∃(l:A5) (g:AI),ds= [.Cc mr,qD g]/\2<=ED/\BIM/\ BL8/\SI g/\
 if ED=2/\g<wd l 0 then E (BA v6) else BOS)
theorem yb3(By Ze):NN:=YN
theorem yjp(By S6):NN:=JJ
theorem yad(By Zf):NN:=YN
theorem yne(By Zg):E5:=JJ
def Zh(EA):d7:=GA (∃r:Κ,ds= [.AT r]/\XE Amx)
def Ia(n:Δ)(p:Pt):Θ:=Sz n Cl/\Sz n p.2
def zc(ps:EU):AO:=Φ (1<II)&&(ALS Ld ps ps.tail).all id
def Zi(EA):d7:=GA (∃a b:Pt,ds= [pD a,pD b]/\Ia 4000 a/\Ia 4000 b/\XG (Ld a b))
def Zj(EA):d7:=GA (∃ps:EU,ds= jv Ð/\ BKU/\XG (zc ps))
def Zk(EA):d7:=GA (∃(l r:Pt) (x:AI),ds= [pD l,pD r,qD x]/\Ia 300 l/\Ia 300 r/\A6t/\l.1<CI/\ku (Cm l r x))
def S7(GV):d7:=Ϧ (∃ps:EU,ds= jv Ð/\ BKU/\if zc ps=Μ then P (IO Ð) else D8)
def uF(c:DZ)(ps:EU):D:= .obj iP [YY] [.tup Ð]
def Zm(GV):d7:=si ps EU x AI (ds= [Akn,qD x]/\1<II/\AAH/\ A4G/\A6t/\ku (oh ps x))
def intD(n:Δ):D:= .AK L8
def uG(h_):A5:=(oU qs).AQ_
def J5(f:A5)(k:Δ):AO:=Φ (k+1=v_) || Φ (AAd LH 0<AlB)
def jk(f:A5):Cn:=0::((AAq v_).AAr (J5 f)).B6 (· +1)
def Fall(f:A5):Θ:=∀i j,i<=j ->j<v_ ->AAd j 0<=AAd i 0
def vD(l:BS):D:= .Cc AzV
def J6(b:Bd):D:= AJJ b.1 b.2
def J7(bs:IQ):D:= A1N J6
def jr(qs:A5)(m:AI):Δ:=C7 qs.filter (XU (!(Φ (x<m))))
def gZ(h_):BS:=(jk AMC).B6 BDG
def Last(S:BS)(n:Ψ):Θ:=ϕ S.map GW NI (ET n)
def pQ(Amc):AO:=(gk ADh FL ALh HA).AFv 0
def Gb(Amc):BS:=AJP HA (kl (fk ADh FL bs LH))
def Vg(EA):d7:=si x Ψ b Bd (ds= [.AK x,J6 b]/\XG (yQ b x))
def Zn(EA):d7:=GA (∃(S l:BS) (b:Bd),ds= [vD S,vD l,J6 b]/\P (vD (Cp S l b)))
def S8(EA):d7:=si S BS bs IQ (ds= [vD S,J7 bs]/\AjE/\cE (AiB fun i=>vD (rk S bs i)))
def lsT(ls:Ay2):T:= .Cc (ls.map fun l=> .Cc (Zs (DF EW GW)))
def Bg(Amc):Ay2:=AJP BhW (FV (rk ADh bs i))
def Vh(EA):um:=GA (∃ls:Ay2,ds= jv (ls.map vD)/\P (lsT ls))
def Zo(EA):d7:=si m AI qs A5 (ds= [qD m,Ahh]/\SI m/\ ANw/\XE (jr qs m))
def Zq(EA):d7:=BTy (FL<=61) (P (vD ADh))
def Zr(EA):d7:=BeS (ds= [vD S,J7 bs]/\AjE/\Last S n/\cE BZW)
def Zt(EA):d7:=BeS (ds= [vD S,J7 bs]/\AjE/\Last S n/\AVc/\ AZi/\P (vD (R_ HA fun k=>AXc)))
def Zu(GV):d7:=Ϧ (∃(qs:A5) (bs:IQ),ds= [Ahh,J7 bs]/\FL<=61/\ ANw/\AjE/\ (Alc bs ->P (vD (Gb qs bs)))/\ (BS' ->E (.pay RE [dc] [lsT (Bg qs bs)])))
def bD:AhL ->D | Ι=> BE | Ε q=>qD q
def G5(f:A5)(c:Δ):AhL:=M' c 0 Ι (Ε (AAd (c - 1) 0))
def isIn(m:AI):AhL ->AO | Ι=>AC | Ε q=> !(Φ (m<q))
def uH(bs:sK)(m:AI):Δ:=bs.findIdx (isIn m)
def OSz(n:Δ)(b:AhL):Θ:=∀q,b=Ε q ->Sz n q
def Zv(EA):d7:=si qs A5 cs Cn (ds= [Ahh,.Cc (cs.map intD)]/\AjF/\ ANw/\0<AQ4/\ (∀c∈cs,BLY)/\cE (DF Aqe BSt bD))
def Zw(EA):d7:=si bs sK m AI (ds= [A1N bD,qD m]/\ A3j/\SI m/\XE (uH bs m))
abbrev Rw:=Κ×Κ×Ψ
def Bv(r:Rw):D:= .tup [.AT CI,.AT C4,ACj]
def gP(rs:CF):D:= .Cc (ASu Bv)
def yh(AoC):Ρ:=(BCw (WS (Φ (CI=w)))).B6 (WS C4)
structure Fam (Ξ:CF) (Ss:OA):Θ where
 of:AUw (BPp S)
 to:SS (∃S∈Ss,AT4 S (yh Ξ CI))
structure Ge (Ξ:CF) (ms:OA):Θ where
 sr:AZC (AU1 m.Pairwise)
 up:Acn fun a b=>A_7
 pi:∃Ss,Fam Ξ Ss/\ou Ss ms
def Gf(p:Ρ×AM):T:= AmL Af9 (p.2).B6
structure PK (Ξ:CF) (ws:Ρ) (ps:AVp):Θ where
 len:BJt
 nd:ć
 lw:Mm<=nN
 wm:Aoe (s0 AJg)
 pt:BeF
 ex:BUh
def S9(EA):um:=GA (∃Ξ:CF,ds= [AWf]/\BIN/\∀ws ps,Awr ->P (P6 fe AfF))
def Vi(EA):d7:=GA (∃g hs:Ρ,ds= [gl g,gl hs]/\XG (d9 g hs))
def Zx(EA):d7:=GA (∃(fs:OA) (hs U:Ρ),ds= [.Cc (AcA gl),gl hs]/\Aac+BDH<4000/\AKg<4000/\A6M/\ (∀x∈hs,x∈U)/\ (AZL (Si f U))/\
 ∀g:Ρ,At7 g.Pairwise ->(Adg g (x∈hs\/AnC (AYk f/\AOl))) ->cE ((Aua AMb++ [g]).B6 gl))
def Zy(EA):um:=BT_ (ds= [AWf]/\BIN/\A6M/\ A1I/\∀ms,AN7 ->cE (Zs (DF oy gl)))
def Cds(N:Δ)(m:Ρ)(x:D7):Θ:=An5 N (Ϯ (xU N d (x h)))
def PL(AoC):D:= P6 (AXV .AZ) (Ű Azb)
def yj(A8K):D:= .Cc (NU (PL Ξ))
structure LB (Ξ:CF):Θ where
 few:nN<=200
 mm:SS (Auz<2^100)
 wk:∀w,ATN<=12
def Cq(A8K):Θ:=Mm<=200/\AgI AO5
def PN(EA):d7:=BfH (ds= [ACs,AXT]/\P (yj Ξ (AKT fun w=>Axz)))
def Zz(EA):d7:=GA (∃(Ξ:CF) (ws:Ρ) (h o:Κ),ds= [ACs,.AT o,AXT]/\lc/\AJi/\ku (gb WU h o))
def ZC(EA):d7:=GA (∃(Ξ:CF) (ws m:Ρ) (h:Κ),ds= [ACs,gl m,AXT]/\lc/\AJi/\cE (YU fun o=>(Afv h)))
def ZD(EA):d7:=si Ξ CF w Κ (ds= [Ĵ PL]/\lc/\AO5/\ku (AMy (x0 AIK)))
def ZF(EA):d7:=BfH (ds= [ACs,AXT]/\LO/\lc/\AJi/\ku BbU)
def ZG(EA):d7:=GA (∃(Ξ:CF) (ws m:Ρ),ds= [gl m,AXT]/\AQA/\lc/\AJi/\m≠ []/\BIn/\
 ∀x:D7,(∀h∈m,AJp) ->A5L ->A_' ->cE (YU (ly x)))
structure Lean (Ξ:CF) (ms:OA) (x:D7):Θ where
 g:AN7
 ev:AZC (Ϯ AJp)
 em:AZC A7J
 sz:AZC A_'
def ig(ApI):T:= AmL S4 BN8
def uU(ApI):D:= APT S4 S4 (ly x)
def ZJ(EA):um:=BT_ (ds= [AWf]/\LO/\lc/\ABc<=12/\ A1I/\∀ms x,AFU ->P (ig Aad x))
def Vj(EA):d7:=si n Ψ m Δ (ds= AMA n m/\m<=20/\∀xs:Ρ,AVD m ->Ac6 ->cE Ai1)
def ZK(EA):d7:=GA (∃a b d e n:Ψ,ds= [AOM,AON,.AK d,.AK e,.AK n]/\e≠0/\∀t:AO,XG t)
def ZL(EA):d7:=GA (∃(ns:BS) (RF ĉ:Δ),ds= [Ahg,.AK RF,.AK ĉ]/\AUc/\1<=RF/\RF<=5/\ĉ<=8/\
 ∀(Ξ:CF) (U:Ρ),A2N ->A_ (ABc<=RF) A1I LO A7_ (P (gP Ξ)))
def ZM(EA):d7:=GA (∃i j:Ψ,BTF)
theorem z5x(By S9):NN:=YN
theorem ym6(By Vi):E5:=JJ
theorem yfn(By Zx):E5:=vi
theorem ycw(By Zy):NN:=JJ
theorem zt7(By PN):E5:=vi
theorem yja(By Zz):me:=AnN
theorem yd8(By ZC):me:=AnN
theorem z0j(By ZD):NN:=JJ
theorem yec(By ZF):E5:=vi
theorem zom(By ZG):E5:=vi
theorem z4q(By ZJ):NN:=JJ
theorem zz2(By Vj):E5:=JJ
theorem zxd(By ZK):ABf 5:=AQK
theorem z5g(By ZL):me:=vi
theorem zu2(By ZM):E5:=JJ
def jj(hs:Ρ)(h:Κ):Ρ:=Agw ϧ hs hs h
def Tc(EA):d7:=GA (∃i j:Ψ,ds= ANP/\Aiz/\AzW/\ANf/\BWJ)
theorem yay(By Tc):E5:=JJ
def pR(r:Κ)(g:AI)(qs:A5):AhK:=ANV FL Amx (Ε AC) (AxS (r=mj/\FL=2/\BYo) (Ε Μ))
inductive qG (h_):DD Κ AI
 | AAf:qG qs nJ (fJ qs/ AII)
 | mid:qG qs S5 (Sv (oU qs))
 | AAg:J_ (Best (oU qs) b) (qG qs mj ((AG_ b 0+ AG_ (b+1) 0)/2))
def wD(r:Κ):Θ:=r=nJ\/r=S5\/r=mj
def rJ(c:DZ)(r:Κ)(g:AI)(qs:A5)(P:Fk AI)(E:Ax3):Θ:=AYa (pR r g qs) f (E f) (∀v,AmV ->P v)
def Vk(GV):d7:=Ϧ (∃(r:Κ) (qs:A5) (g:AI),ds= [.AT r,Ahh,qD g]/\SI g/\AjF/\ (∀q∈qs,ANt)/\wD r/\ (∀k,A4O)/\rJ c r g qs (A6 v (ku v)) fun f=>E (BA (B5 (f=Μ) v6 Ċ)))
theorem yiv(By Vk):me:=vi
structure iu where
 eC:D
 gap:D
 scale:D
 leans:D
 sheets:D
 marks:D
def iu.fs:Ρ:= [di,dk,AFi,ARJ,NW,ID]
def iu.xs(S:iu):AM:= [AQ',ARA,ARB,AKV,ARD,AAh]
def iu.d(c:DZ)(S:iu):AIz ->D
 | Ι=> .obj Eg iu.fs S.xs
 | Aec=> .obj Eg BOc (S.xs++ [b])
structure jX where
 eC:D
 gap:D
 scale:D
 leans:D
 sheets:T
 marks:T
def jX.ts(S:jX):HK:= [aI AQ',aI ARA,aI ARB,aI AKV,ARD,AAh]
def jX.t(c:DZ)(S:jX):AIz ->T
 | Ι=> .ob Eg iu.fs S.ts
 | Aec=> .ob Eg BOc (S.ts++ [aI b])
def jX.pl(S:jX):iu:=⟨AQ',ARA,ARB,AKV,jH ARD,jH AAh⟩
def ZP(GV):d7:=Amj (∃S b hand ks ys,ds= [AQC,.AT hand]/\yk AKV ks ys/\Q ((gA ks ys (E7 hand)).i4 BHo))
def Vl(GV):d7:=Amj (∃S b RH ks ys,ds= [AQC,AiA]/\AmM/\A1V/\Q BE)
def Vm(GV):d7:=Amj (∃S b RH ks ys d,ds= [AQC,AiA]/\AmM/\gA ks ys Ae_=Ε d/\Q d)
def Lk(bs:sK):D:= A1N bD
def ZQ(GV):d7:=Amj (∃S bs RH ks ys d,ds= [BTw,AiA]/\AmM/\gA ks ys Ae_=Ε (qD d)/\SI d/\ A3j/\Q (ET (uH bs d)))
def uI(L:Ρ)(f:re):D:= APT dQ dQ A1a
def Dz(BBz):A5:=dQ (D6 (BB (f h) - x h))
structure yq (BBz):Θ where
 few:BIo
 mm:BRv
 cd:An5 736 (aS L (xU 736 d (x h)))
structure M9 (ps:EU):Θ where
 len:1<II
 gd:AAH
 sz:WN ps (Ia 300 p)
structure Bh where
 r:Κ
 g:AI
 ps:EU
 hs:Ρ
 x:D7
def Bh.xf(p:Bh)(h:Κ):AI:=N2 (h∈p.hs) (p.x h)
structure Bh.Ok (p:Bh):Θ where
 r:wD p.r
 g:SI p.g
 sc:M9 VU
def opX(c:DZ)(w:Κ)(f:AO):XV:= .pay NV [PZ,AFh] [aI (.AT w),aI (.bl f)]
def Vn(GV):d7:=fun ds Q E=>∃(S:iu) (b:AIz) (RH:Κ) (L:Ρ) (f:re) (p:Bh),ds= [AQC,.AT RH,uI L f]/\AKV=uU p.hs p.x/\AQ'= .AT p.r/\ARA=qD p.g/\ARB=uF c VU/\p.Ok/\yq wP L f/\
 rJ c p.r p.g AxE (A6 v (Q (qD (oh VU v)))) fun f=>E (opX c RH f)
def PX(BB'):AM:=Aj5 BVi
def J8(GV):um:=GA (∃(S:iu) (ws:Ρ) (v:D7) (bs:sK),ds= [BTw]/\AAh=uU ws v/\At7 ws.Pairwise/\BI8/\ (∀w∈ws,Sz 4000 (v w))/\ A3j/\cE (Zs BX'))
abbrev Ks:=Κ ->Ρ
abbrev Vs:=Κ ->Κ ->Ψ
def Td(BCf)(K:Ks)(V:Vs)(u:D7):jX:=
 BBX (AmL dS (AhZ A4L)) (ig ws (AUs VU u))
def yr(BCf)(bs:sK)(K:Ks)(V:Vs)(u:D7):T:=jX.t c (Td c p ws0 ws K V u) (Ε (Lk bs))
structure yt (p:Bh) (ws0 ws:Ρ) (bs:sK):Θ where
 p:p.Ok
 so:A1z
 few:BI8
 few0:ws0.length<64
 sm:∀w,w∈ws0↔ADR
 bz:N0 bs (OSz 4000 b)
def up(Be'):AVI:=ACp (M' u w a (f u))
def sZ(BBe):D:= .Cc (B5 (oh VU b=oh VU a) [] [AHm])
def Cr(BCf)(bs:sK)(K:Ks)(V:Vs)(u:D7)(w:Κ)(L:Ρ)(f:re)(P:A3a)(E:Ax3):Θ:=
 yq wP L f/\rJ c p.r p.g AxE (A6 q (P (yr c p ws0 ws bs (up K w L) (up V w f) (up u w q)) (sZ p (u w) q w))) E
def Vo(GV):um:=GA (∃S b RH ks ys kz yz d kd xd,ds= [AQC,AiA]/\AmM/\A1V/\yk ARD kz yz/\gA kz yz Ae_=Ε d/\yk d kd xd/\P (P6 kd (Zs xd.map)))
def Te(GV):Bu:=ApH (∃p ws0 ws bs K V u w L f,t=AMh yr/\ds= [AHm,uI L f]/\AvG/\ADR/\AMh Cr w L f P (cn (E t (opX c w b))))
def Vp(GV):Bu:=ApH (∃p ws0 ws bs K V u w h m,BeE BS6)
def Vq(GV):Bu:=ApH (BgZ BS6)
def isW(AoC):Θ:=∃s∈Ξ,s.1=w
structure Sorted (A8K):Θ where
 so:A1z
 wm:Aoe AiE
def mW(Ξ:CF):Vs:=fun w h=>(yW Ξ w h).num
def J9(Ξ:CF)(x:D7)(w:Κ):A5:=Dz x Ŕ Adu
structure Cu (Ξ:CF) (r:Κ) (g:AI) (x:D7) (ws:Ρ) (u:D7):Θ where
 so:Sorted Ξ ws
 ok:AgI (pR r g (Ae2 x)=Ι/\qG (Ae2 x) r (u w))
structure rK (Ξ:CF):Θ where
 u:LO
 few:A2N
 hs:∃U:Ρ,ABc<=4/\SS (C4∈U)
 mm:SS (Auz<2^82)
def ZR(qs:A5)(bd:IQ):sK:=(((Gb qs bd).B6 ARF).dropLast).B6 (G5 AMC)
def Bj(ps:EU)(ws:Ρ)(u:D7):A5:=Aj5 (oh ps (u w))
def pU(r:Κ)(g:AI)(ps:EU)(ms:OA)(x:D7):Bh:=⟨r,g,ps,Aad,x⟩
def Nb(GV):Bu:=ApH (∃(Ξ:CF) (r:Κ) (g:AI) (ps:EU) (bd:IQ),t= .ob Eg [] []/\ds= [AWf,.AT r,qD g,Akn,J7 bd]/\AWg/\wD r/\SI g/\M9 ps/\0<bd.length/\bd.length<=90/\∀ms x,AFU ->
 (∀w f,AiE ->pR r g (Ae2 ANU)=Ε f ->(∀v,isW Ξ v ->ŀ v w ->pR r g (J9 Ξ ANU v)=Ι) ->∀t',E t' (opX c w f))/\
 ∀ws u,A5m ->
  (pQ AeU bd=AC ->∀t',E t' (.pay RE [dc] [lsT (Bg AeU bd)]))/\
  (BQv ->∀ws0,BQe ->P (yr c AxJ ws0 ws Aw' ye AWk u) BE))
theorem z81{c:DZ}{t ds P E}(h:Nb c t ds P E):ABf 5:=AnO
theorem z8l{c:DZ}{t ds P E}(h:Nb c t ds P E):Nb c t ds (fun t d=>d= BE/\P t d) E:=by
 obtain⟨Ξ,r,g,ps,bd,h1,h2,h3,h4,h5,h6,h7,h8,h⟩:=h;exact⟨Ξ,r,g,ps,bd,h1,h2,h3,h4,h5,h6,h7,h8,Ô ms x G (h ms x G).1 (Ô ws u A (Bbi ws u A).1 (fun a ws0 O=>(Hb ((Bbi ws u A).2 a ws0 O))))⟩
theorem znk(By ZP):E5:=AQK
theorem zj8(By Vl):E5:=AQK
theorem zsa(By Vm):E5:=AnO
theorem zqo(By ZQ):E5:=AnO
theorem zlk(By Vn):me:=AnO
theorem zrx(By J8):NN:=AnN
theorem zjr(By Vo):E5:=A6n
theorem znx{c:DZ}{t ds P E}(h:Te c t ds P E):E5:=A6o
theorem zou{c:DZ}{t ds P E}(h:Vp c t ds P E):me:=A6o
theorem zj6{c:DZ}{t ds P E}(h:Vq c t ds P E):E5:=A6n
def G6(ns:BS):Κ×AI:=(AI_ (nZ Bbo (ϒ 58 3)) (.AT r) r nJ,AXg ((AXP 58 3).LS 40) (1+ (AXP 58 120).LS 3))
def Tf(z:Ψ):Bd:=(AX1* AaI,AX1* AaI+AI_ (nZ BcV (A1T 4)) (ET M) M 0)
def Ln(ns:BS):IQ:=AJP BPR (FV (Agk (54+i)))
def ZS(EA):d7:=Apz (0< C7 Ln ns ->C7 Ln ns<=12 ->P (J7 (Ln ns)))
def ZV(EA):d7:=Apz (wD Afi ->SI Afk ->P (IO [.AT Afi,qD Afk]))
def ZW(EA):d7:=Apz (∀ps:EU,M9 ps ->cE Ð)
def Fits(Ξ:CF)(ps:EU)(r:Κ)(g:AI)(bd:IQ):Θ:=∃ms x ws u,AFU/\A5m/\BQv
def Bk(Ξ:CF)(ps:EU)(ns:BS)(r:Κ)(g:AI)(bd:IQ):Θ:=(BCb/\r=Afi/\g=Afk/\bd=Ln ns)\/ (¬BCb/\r=nJ/\g=0/\bd= AgZ)
def Vr(GV):Pj:=GA (∃(ns:BS) (Ξ:CF) (ps:EU),ds= [Ahg,AWf,Akn]/\AUc/\AWg/\M9 ps/\
 ∀r g bd ms x ws u ws0,A_ BZe AFU A5m BQe (P (.nt [yr c AxJ ws0 ws Aw' ye AWk u,aI (.AT r),aI (qD g)])))
def Nf(GV):Bu:=fun t ds P _=>∃p ws0 ws bs K V u w h m,BeE (P t BE)
def Vt(GV):Bu:=fun t ds P _=>(BgZ (P t BE))
theorem zyr(By ZS):NN:=YN
theorem z35(By ZV):NN:=YN
theorem zmn(By ZW):NN:=YN
theorem zus(By Vr):me:=vi
theorem zwp{c:DZ}{t ds P E}(h:Nf c t ds P E):me:=A6o
theorem z3x{c:DZ}{t ds P E}(h:Vt c t ds P E):E5:=A6n
def zeo(Ο):aG:=(cM (cT (cB (MF Μ) AR AfL))
 uw
 bA)
def znc(Ο):aG:=(bh A4')
def zi7(Ο):aG:=(aF (Ag5 fL sV č Vl)
 (znc K c))
def z1f(Ο):aG:=(bh (cB tW AlE BO8))
def zkh(Ο):aG:=(cM (AQN (cB ji EH ko) (AlK AR EH))
 (bh Bn)
 bA)
def zmm(Ο):aG:=(bh sv)
def zhn(Ο):aG:=(aF (fj BMM (AMW (Gc 2) 3)
 (zkh K c))
 (zmm K c))
def zhm(Ο):aG:=(u8 Zw (AHF AbS) (sV Eg HR (Vm c) At AMn))
def zhj(Ο):aG:=(yM (nOf (dM 1 [0] (iL (dU (ACc zv1 AfL))) xt d8 (eY (aj At (Fm (sV Eg HR (Vm c) AR AzB) (sV Eg dl (ZQ c) AR AzB)))))))
def zgi(Ο):aG:=(aX 7 (cB cQ Ú (NF Bn (P8 (AO_ AMj r8 (Z' uc (fC (cB mK Ŧ Hn) (gu qu A0b)))) 26))))
def zh4(Ο):aG:=(aF (aX 9 (BOz (cB cQ (ANd (U' At 24) 48271) (ANd (ST Ŧ Ŧ) 69621)) Ŧ 7))
 (zgi K c))
def znp(Ο):aG:=(AY2 5 Ú)
def zni(Ο):aG:=(aF (sJ (SE (AO_ EH r8 (Z' uc (gu mK A0b)))) (Gc 8)
 (zh4 K c))
 (znp K c))
def zri(Ο):aG:=(aF (aX 7 (AHV ""))
 (zni K c))
def zsc(Ο):aG:=(bh tP)
def zsh(Ο):aG:=(aF (sJ AMn (Gc 6)
 (zri K c))
 (zsc K c))
def zsm(Ο):aG:=(aF (c7 5 (dZ aq))
 (zsh K c))
def zf4(Ο):aG:=(aF (aX 4 (cB bU (U' At 24) EH))
 (zsm K c))
def zjx(Ο):aG:=(aF (cM (cT (gu mK A0b))
 (aX 3 WF)
 bA)
 (zf4 K c))
def zjy(Ο):aG:=(aF (aX 3 (AJS (P8 (U' At 3) 8)))
 (zjx K c))
def zie(Ο):aG:=(aF (aX 2 (AHV AcN))
 (zjy K c))
def zwa(Ο):aG:=(bh (P8 (ST Bn Bn) 2147483629))
def zuj(Ο):aG:=(aF (cM (cT (ANs sv))
 (aX 2 (BOz (ANd (NF At (cB bU (ANd AR 7) sv)) 48271) AR 7919))
 bA)
 (zwa K c))
def zuu(Ο):aG:=(aF (aX 2 (M0 cQ (ANd AR 7919) 5))
 (zuj K c))
def zre(Ο):aG:=(aF (cM (cT (cB tW AR sv))
 (bh A2b)
 bA)
 (zuu K c))
def zqu(Ο):aG:=(bh (cC AWh))
def zig(Ο):aG:=(aF (cM (cT (M0 mK At 2))
 (bh (fC (cB mK (P8 AR 2) (P8 Bn 2)) (ANs (P8 Hn 4))))
 bA)
 (zqu K c))
def zh3(Ο):aG:=(aF (cM (cT (gu mK At))
 (bh (jV (cB mK Bn (cB bU AR EH)) (cB mK Bn (cB bU (gu cQ AR) EH))))
 bA)
 (zig K c))
def zha(Ο):aG:=(aF (cM (cT (M0 mK At 0))
 (bh (ANs (Á Hn)))
 bA)
 (zh3 K c))
def zhl(Ο):aG:=(cM (cT (aB (ZK c) (aj EH (aj Ŧ (aj AMj (Fm AR (cV 10)))))))
 (AY2 7 (eY (aj (NF tP Ŧ) (Fm (NF r8 AMj) (cB bU (U' (cV 10) 12) Hn)))))
 bA)
def zfy(Ο):aG:=(aF (YE 10 xR At (cB cQ (AO_ (Of 6) Ŧ AR) AMj))
 (zhl K c))
def zfz(Ο):aG:=(sJ AMn (Gc 9)
 (zfy K c))
def zln(Ο):aG:=(lL (iV (dU (qw Ú (pF AeC) qC)) (dU (qw Ú qC (pF AeC)))))
def zma(Ο):aG:=(aF (aX 11 (cB bU (U' (ADU 3) 4) (gu cQ (fO (ň Ú)))))
 (zln K c))
def zlr(Ο):aG:=(aF (sJ (SE Bn) (Gc 8)
 (zfz K c))
 (zma K c))
def zk2(Ο):aG:=(aF (c7 7 (dZ aq))
 (zlr K c))
def zmj(Ο):aG:=(aF (YE 6 Vj (ADU 5) AR)
 (zk2 K c))
def zgv(Ο):aG:=(aF (YE 5 Vj (ADU 4) Bn)
 (zmj K c))
def zmk(Ο):aG:=(aF (aX 4 (NF (zh (aj Ave (aj (Of 4) (Fm Ave BVJ)))) (A2X 3)))
 (zgv K c))
def zg2(Ο):aG:=(aF (aX 3 (A2X 2))
 (zmk K c))
def zxp(Ο):aG:=(bh (fC (ND G3 AHp AIS) (AG3 gj G3 AHn li)))
def zpm(Ο):aG:=(bh (fC (gu qY sv) (Z' yjt (AuM (dM 2 [] (A7W (dU A9U)) AQV) Zi At AR))))
def zfd(Ο):cu:=(Z' vq AR)
def zf6(Ο):aG:=(cM (iQ (cT (AW8 Zj)))
 uw
 bA)
def znw(Ο):aG:=(jW 0 1 (AHw BKz))
def zol(Ο):aG:=(bh At)
def zod(Ο):aG:=(aF (DQ (cT (ANs AR))
 (znw K c))
 (zol K c))
def zop(Ο):aG:=(aF (aX 1 (Z' tY AR))
 (zod K c))
def zjv(Ο):aG:=(aF (aX 0 BKq)
 (zop K c))
def zw4(Ο):aG:=BZd
def zw1(Ο):aG:=(aF (cM (cT (M0 tW AR 0))
 (aX 2 (cB fW AHM Bn))
 bA)
 (zw4 K c))
def zs5(Ο):aG:=(aF (YE 2 ZM At AR)
 (zw1 K c))
def zgb(Ο):aG:=(aX 2 (cB cQ (ST (Of 6) (gu cQ (Z' tY Bn))) (Á (U' r8 105))))
def zdc(Ο):aG:=(aF (aX 1 (cB cQ (gu cQ AR) (P8 (U' r8 15) 7)))
 (zgb K c))
def zde(Ο):aG:=(aF (rA 4 sE (SE (ATE (ND Tc AR EH) Ú)))
 (zdc K c))
def zf7(Ο):aG:=(aF (cM (AQN (ANs tP) (cT (M0 mK (P8 r8 5) 4)))
 (aX 7 (AGn (jF 4 (gu fW tP))))
 bA)
 (zde K c))
def zf9(Ο):aG:=(aF (YE 7 Tc Bn (AJS (Á (U' r8 5))))
 (zf7 K c))
def zho(Ο):aG:=(aF (YE 6 xR At (cB cQ (Of 49) tP))
 (zf9 K c))
def ziu(Ο):aG:=(bh Hn)
def zid(Ο):aG:=(aF (sJ (SE (cB cQ AOO (Á (ADU 48)))) (Gc 5)
 (zho K c))
 (ziu K c))
def zin(Ο):aG:=(aF (c7 4 (dZ aq))
 (zid K c))
def zh0(Ο):aG:=(aF (aX 3 (AJS (Á (U' (ADU 46) 15))))
 (zin K c))
def zhx(Ο):aG:=(aF (aX 2 (M0 fW (P8 (ADU 47) 21) 4))
 (zh0 K c))
def zfj(Ο):aG:=(aF (aX 1 (M0 fW (P8 (ADU 46) 15) 9))
 (zhx K c))
def zul(Ο):aG:=(bh (eY (Fm (NF (zh (aj Ajv (Fm BI3 BI2))) (Á AR)) (ND Tc (P8 (U' AR 3) 40) (AJS (Á (U' AR 120)))))))
def zrs(Ο):aG:=(aF (YE 1 xR At (Of 58))
 (zul K c))
def z6y(Ο):aG:=(bh (Z' yeg (AMd [0] (iL AR) d8 (cB AlW At AR))))
def zxn(Ο):aG:=(cM (AG3 cT Vi Hn AR)
 (rA 3 zvv (SE Hn))
 bA)
def zrq(Ο):aG:=(lL (iV Bn (zh (SE (AXB zvb EH)))))
def z0l(Ο):aG:=(aF (Ao At (Gc 4)
 (zxn K c))
 (zrq K c))
def zyx(Ο):aG:=(aF (c7 3 (ACc sU AR))
 (z0l K c))
def zx3(Ο):aG:=(aF (aX 2 (AYE [1] At (iQ (cT (ND Vi At AR)))))
 (zyx K c))
def zik(Ο):aG:=(Yl 1 2 3 Hn)
def zvm(Ο):aG:=(aF (cM (Rx 1 Bn)
 (Yk 1 2 Yc)
 bA)
 (zik K c))
def zn6(Ο):aG:=(yM (nV 1))
def zxc(Ο):aG:=(aF (Ao At (fZ 3 (bC (Gc 2) (A0J 3 4)))
 (zvm K c))
 (zn6 K c))
def ztn(Ο):aG:=(aF (BP 1 Yc)
 (zxc K c))
def zww(Ο):aG:=(YE 1 Zx AR (AXB zzd Bn))
def zzi(Ο):aG:=(yM (nOf (ACc z6w AR)))
def zzj(Ο):aG:=(aF (fj (z3i (jI Az (S9 c) At)) (Gc 2)
 (zww K c))
 (zzi K c))
def zwf(Ο):aG:=(aF (aX 1 A0I)
 (zzj K c))
def zrn(Ο):aG:=(aX 1 Bn)
def zqv(Ο):aG:=(aF (aX 0 AR)
 (zrn K c))
def zvo(Ο):aG:=(aF (aX 2 BKz)
 (zqv K c))
def zxl(Ο):aG:=(bh BKq)
def ztp(Ο):aG:=(aF (DQ (cT (M0 qu AR 0))
 (zvo K c))
 (zxl K c))
def zqq(Ο):aG:=(aX 1 (ST AR (cB dR (AGn Bn) (ND Ve AR (AGn Bn)))))
def zsd(Ο):aG:=(A4M [1] AjO (ST AHp (cB dR AR li)))
def zso(Ο):aG:=(aF (Ao At (Gc 2)
 (zqq K c))
 (zsd K c))
def zny(Ο):aG:=(aF (aX 1 WF)
 (zso K c))
def ztc(Ο):aG:=(lL (dM 2 [0,1,2,3] (A7W AR) AQV d8 (cB dR (cB fW (ST (NF EH Hn) At) (ST (NF Bn Hn) AR)) tP)))
def zyj(Ο):aG:=(lL (dM 2 [1,2,3] BMM AQV d8 (rY (cT (AXY Bn)) AR (aB (Y9 c) (aj AR (aj Hn (Fm Bn EH)))))))
def zsv(Ο):aG:=(aF (aX 3 A2b)
 (zyj K c))
def zug(Ο):aG:=BZd
def zty(Ο):aG:=(aF (cM (cT (M0 tW AR 0))
 (aX 2 (cU gF Bn))
 bA)
 (zug K c))
def zvc(Ο):aG:=(aF (YE 2 Ve At AR)
 (zty K c))
def zpz(Ο):aG:=(aF (cM (cT (M0 mK AR 0))
 uw
 bA)
 (zvc K c))
def zsl(Ο):aG:=(bh EH)
def zst(Ο):aG:=(aF (Ro 3 Bn A2b)
 (zsl K c))
def zsp(Ο):aG:=(aF (Ro 3 AR BJz)
 (zst K c))
def zn7(Ο):aG:=(aF (c7 3 BMA)
 (zsp K c))
def z8h(Ο):aG:=(cM (cT (M0 qu (NF BJz AR) 0))
 (bh (AFL Zb At AR Bn))
 bA)
def yb6(Ο):aG:=uw
def yg7(Ο):aG:=(aF (IV (AHw sv) (Gc 2)
 (z8h K c))
 (yb6 K c))
def zsq(Ο):aG:=(aX 3 (NF (NF Bn Hn) Hn))
def zwz(Ο):aG:=(aF (aX 2 (AFL Za (ND Zc Bn Hn) Hn EH))
 (zsq K c))
def z0b(Ο):aG:=(lL (dM 2 [] (uf (aj Bn aq)) AQV d8 (aB (Li c) (Fm AwE (NF AR At)))))
def zzm(Ο):aG:=(aF (sJ (SE (ň Bn)) (Gc 4)
 (zwz K c))
 (z0b K c))
def zp8(Ο):aG:=(aF (aX 3 WF)
 (zzm K c))
def zxz(Ο):aG:=(aF (aX 2 (dU (dM 2 [] (A7W AR) AQV d8 (Ņ Y8 (dU (iV At (zh AMn)))))))
 (zp8 K c))
def zj2(Ο):aG:=(lL (dM 1 [0] AjP xt (cT (cB (MF AC) AR At)) At))
def zn0(Ο):aG:=(bh (dw vo vo AIS At AHn))
def ztf(Ο):aG:=(lL (dM 1 [1,2] AjO xt (cT (Z' yeg (Alk [0,2] AjP Vg (cB fW AR At) Bn))) At))
def z6q(Ο):aG:=(u8 Li (AO_ AlE AIS li) (ST li AHn))
def z0q(Ο):aG:=(YE 1 SM AR Bn)
def z3v(Ο):aG:=Aic
def z44(Ο):aG:=(aF (Ao At (Gc 2)
 (z0q K c))
 (z3v K c))
def z09(Ο):aG:=(aF (aX 1 AXq)
 (z44 K c))
def z49(Ο):aG:=(bh (rY (cT (AXY AR)) (ND SM (AMe (ň EH)) Hn) Hn))
def z4r(Ο):aG:=(aF (aX 4 (Ņ SN (AMd [] (iL EH) d8 (ATE Aer BOv))))
 (z49 K c))
def z1s(Ο):aG:=(aF (YE 3 PN AR (ND PN At Bn))
 (z4r K c))
def zyl(Ο):aG:=(A4M [0,2] AjP (AFL Zz AR At Bn))
def z08(Ο):aG:=(u8 Li (cB fW AlE BO8) (ST li AHn))
def zn8(Ο):aG:=(u8 Li (Pb At) BOv)
def zxx(Ο):aG:=(bh (Ņ SN (Alk [0] (AG3 iL PN At AR) Lj (AMe (cB Ef At AR)) (ï ZD))))
def ze2(Ο):aG:=(u8 Zd (A4m Hn Bn) (A4m AXq EH))
def ze9(Ο):aG:=(aF (aX 4 (AMd [1] (iL At) d8 (AMe (ň (ND PN At AR)))))
 (ze2 K c))
def zkn(Ο):aG:=(aF (aX 3 (Alk [1] (iL (dU A9U)) ZF At AR))
 (ze9 K c))
def zgl(Ο):aG:=(aF (aX 2 (AMd [0,1] (iL (dU A9U)) d8 (AFL ZC At AR Bn)))
 (zkn K c))
def zjz(Ο):aG:=(RJ 1 Hn tP)
def zhi(Ο):aG:=(fj (O3 (Fm Bn (ND ZG Bn EH))) (AMW (Gc 4) 5)
 (zjz K c))
def zj1(Ο):aG:=(aF (aX 3 (dU (Eh (jI aB (Ax (S9 c)) (AYE [2] At (cT (cB AlW li AR)))))))
 (zhi K c))
def zvi(Ο):aG:=(yM (nV 1))
def zmc(Ο):aG:=(aF (Ao (jI aB (Ax (Zy c)) At) (Gc 2)
 (zj1 K c))
 (zvi K c))
def zq1(Ο):aG:=(aF (BP 1 Yc)
 (zmc K c))
def z2s(Ο):aG:=(u8 Li (ST AHp AIS) (ST li AHn))
def z9l(Ο):aG:=(u8 Li AlE (ST li AIS))
def zwu(Ο):aG:=(u8 SM li (ND Vf EH (ND Lj AIS AHp)))
def ztj(Ο):aG:=(aF (YE 3 Y6 (ND Lj Bn AHp) (ND Lj AHn li))
 (zwu K c))
def zml(Ο):aG:=(cM (AG3 cT G3 AR (ALx EH))
 (bh (AFL Zk Bn EH AR))
 bA)
def znh(Ο):aG:=(bh (AGn (NF AZV Aer)))
def zmq(Ο):aG:=(aF (fj (O3 (Fm AZV (XJ AZV (pF WF) qC))) (AMW (Gc 2) 3)
 (zml K c))
 (znh K c))
def zim(Ο):aG:=(aF (cM (AlK (ALx (ALx AZV)) AR)
 (bh (AGn (ALx AZV)))
 bA)
 (zmq K c))
def zfq(Ο):aG:=(bh (Pa (AHF ARJ) AR AXq))
def ybt(Ο):aG:=(u8 Vf (ï SN) (AMe sv))
def zi9(Ο):aG:=(bh (rY (cT (AXY BI2)) AOO WF))
def z29(Ο):aG:=(u8 Lj li AHp)
def zhw(Ο):aG:=(cM (AlK (AW8 S6) (Ņ S6 EH))
 (aX 1 EH)
 bA)
def zui(Ο):aG:=(aF (aX 3 (dU (qw At (pF Bn) (pF (M0 cQ Bn 2)))))
 (zhw K c))
def zxr(Ο):aG:=Aic
def zn2(Ο):aG:=(aF (IV (Fm WF BL9) (Gc 2)
 (zui K c))
 (zxr K c))
def zs7(Ο):aG:=(aF (aX 1 (dU (qw At qC (pF AOO))))
 (zn2 K c))
def z8i(Ο):aG:=(bh (ï Zf))
def ybe(Ο):aG:=(aF (cM (AQN (M0 mK sv 2) (AG3 cT G3 AR (ï S6)))
 (jI dh v6 (AHV "two marks lie farther apart than the gap"))
 bA)
 (z8i K c))
def zwk(Ο):aG:=(lL (qw At (pF (U' BL9 2)) (pF (gu cQ (U' sv 2)))))
def zsr(Ο):aG:=(rA 1 vB (Fm EH Bn))
def zwj(Ο):aG:=(aF (aX 3 (fO (ň (AYE [2] AR (AlK AR At)))))
 (zsr K c))
def zzn(Ο):aG:=Aic
def zzy(Ο):aG:=(aF (Ao At (Gc 2)
 (zwj K c))
 (zzn K c))
def zwv(Ο):aG:=(aF (c7 1 (dZ aq))
 (zzy K c))
def z5i(Ο):aG:=(bh (Ņ SQ (ND Zg (AW8 SX) (rY (cT (cB vp Bn ko)) (cC Bhg) Bn))))
def z3w(Ο):aG:=(aF (cM (cT (AXY BI3))
 (bh (Ņ SQ (Ņ Ze (AW8 SX))))
 bA)
 (z5i K c))
def z5l(Ο):aG:=(aF (cM (cT (AXY Ajv))
 (bh (AW8 SQ))
 bA)
 (z3w K c))
def ztq(Ο):aG:=(aF (cM (cT (cB tW (ň AR) (ï Zh)))
 (jI dh Ċ (AHV "the rule needs more marks than these"))
 bA)
 (z5l K c))
def ziv(Ο):aG:=(JX Μ K v6 Ċ (bh (sV iP AKb (Zm c) (AHF AFi) (SE (AFL Vk (AHF di) EH (AHF dk)))))
 (Bcy (cC AWh))
 (Bcy (cC AHP)))
def zfh(Ο):aG:=(aF (aX 3 (AuM (dM 2 [0] (z6m Bn) AQV) Lj (AMe AR) (sV Eg Ď (ZP c) Bn AzB)))
 (ziv K c))
def zjs(Ο):aG:=(A4M [2] (iL (dU (qw AR qC (pF (cU gF WF))))) BXL)
def zfs(Ο):aG:=(aF (aX 2 (ï SX))
 (zjs K c))
def z05(Ο):aG:=(AY2 2 (AFL Zn At (jF 2 (cU gF WF)) EH))
def z33(Ο):aG:=(bh Bn)
def z43(Ο):aG:=(aF (Ao AR (Gc 3)
 (z05 K c))
 (z33 K c))
def z2g(Ο):aG:=(aF (c7 2 (dZ (aj (zh (SE AHM)) aq)))
 (z43 K c))
def zfr(Ο):pG:=(JG 1 [] AjP xt d8 BMA)
def zjw(Ο):aG:=(bh (ň (AYE [0] AR (iQ (cT (ND G3 At AR))))))
def ybi(Ο):aG:=(lL (ACc z7y (A4m AHM (Alk [0] AjO Zo At AR))))
def zgp(Ο):aG:=(lL (qw (dU (ACc ycj EH)) (pF WF) qC))
def zm8(Ο):aG:=(aF (YE 3 S8 Bn (AXB ycj AR))
 (zgp K c))
def zh6(Ο):aG:=(aF (aX 2 (AMd [0] (zm9 (aj At aq)) d8 BRD))
 (zm8 K c))
def zic(Ο):aG:=(AY2 2 (Z' z7h (AYE [0,4] tP (cT (cB AlW BRD Bn)))))
def zko(Ο):aG:=(aF (aX 5 (Jm (XQ (dM 1 [2,3] AjO xt (AG3 cT Vg (cB fW At AwE) Bn) At))))
 (zic K c))
def zl0(Ο):aG:=(lL (qw Bn (pF WF) qC))
def zls(Ο):aG:=(aF (fj (O3 (AHw (ND Zr At AR))) (AMW (Gc 3) 4)
 (zko K c))
 (zl0 K c))
def zhh(Ο):aG:=(aF (c7 2 (dZ (aj AHM aq)))
 (zls K c))
def ya0(Ο):aG:=(u8 Zt Bn AR)
def z9u(Ο):aG:=(aF (cM (cT (cB (sG Μ) sv (NF EH Aer)))
 (z03 RE dc (Vh c) (SE EH))
 bA)
 (ya0 K c))
def z51(Ο):aG:=(aF (YE 3 S8 Bn AR)
 (z9u K c))
def z6j(Ο):aG:=(aF (aX 2 (ï Zq))
 (z51 K c))
def zhq(Ο):aG:=(Bb Eg 0 ID 6 (zur Eg AAi (Vn c) At (Fm r8 (cB Ef A0G r8))))
def zhz(Ο):aG:=(yO Eg 0 AbS (ND Zv Ú (ND Zu Ú tP)))
def ziz(Ο):aG:=(aF (aX 7 (dU (Em (Eh AfL))))
 (zhz K c))
def zis(Ο):aG:=(aF (Ao (dU (Em (ACc zv1 A0G))) (Gc 6)
 (zhq K c))
 (ziz K c))
def zij(Ο):aG:=(aF (Ec Eg 0 ID Yc)
 (zis K c))
def ziw(Ο):aG:=(aF (Ec Eg 0 NW (z62 (jI Az (S9 c) AR)))
 (zij K c))
def ziq(Ο):aG:=(aF (yO Eg 0 ARJ (Pg (jI Az (ZJ c) AR)))
 (ziw K c))
def zh2(Ο):aG:=(aF (yO Eg 0 AFi (BaU (AXB sU (mO iP YY Hn))))
 (ziq K c))
def zi8(Ο):aG:=(aF (yO Eg 0 dk EH)
 (zh2 K c))
def zc0(Ο):aG:=(aF (yO Eg 0 di Bn)
 (zi8 K c))
def zk5(Ο):aG:=(AY2 1 (ATE Hn (cB cQ Hn (NF (zh (aj (Of 60) (aj AOO (Fm (Of 4) (P8 (U' EH 36) 7))))) (P8 (U' EH 9) 4)))))
def zlj(Ο):aG:=(aF (aX 4 (ST (Á EH) (Z' uc (gu mK (Á (U' EH 3))))))
 (zk5 K c))
def zow(Ο):aG:=(aF (YE 3 xR At (cB cQ (Of 54) Bn))
 (zlj K c))
def zp2(Ο):aG:=Aic
def zpv(Ο):aG:=(aF (sJ (SE (AJS (A2X 53))) (Gc 2)
 (zow K c))
 (zp2 K c))
def zmg(Ο):aG:=(aF (c7 1 (dZ aq))
 (zpv K c))
def zoq(Ο):aG:=(Ej 5)
def zhf(Ο):aG:=(aF (cM (Sg 5)
 (El 5 (J1 (Ed Eg (Nb c) (aj AR (aj Ajv (aj AXq (Fm Bn (zh (Fm BPc BPc))))))) (Fm Ajv AXq)))
 bA)
 (zoq K c))
def zoh(Ο):aG:=(aF (JX AC K NV RE (El 5 (J1 (Ed Eg (Nb c) (aj AR (aj EH (aj Hn (Fm Bn (ï ZS)))))) (Fm EH Hn)))
 (aX 5 ko)
 (aX 5 ko))
 (zhf K c))
def zoe(Ο):aG:=(aF (aX 5 ko)
 (zoh K c))
def zj3(Ο):aG:=(aF (jD (ï ZV) (fZ 2 (A0J 3 4)))
 (zoe K c))
def zgx(Ο):aG:=(yM (yan (SE (cB Ef A0G AR))))
def zec(Ο):aG:=(aF (Ag5 fL sV č Vl)
 (zgx K c))
def zep(Ο):aG:=(yN (rY (uz (cT (cB mK A4' EH))) A0I (zh AMn)))
def zem(Ο):aG:=(aF (Bb Eg 0 NW 1 Bn)
 (zep K c))
def zjo(Ο):aG:=(aF (Bb Eg 0 ID 1 (zur Eg AAi (Vn c) At (AHw Bn)))
 (zem K c))
def zdk(Ο):aG:=(aF (aX 3 (JR A4'))
 (zjo K c))
def ze1(Ο):aG:=(BWQ 4 Hn)
def zkf(Ο):aG:=(aF (RJ 4 Bn EH)
 (ze1 K c))
def zdt(Ο):aG:=(aF (BP 4 (Ag5 Bc J0 AAj Vo))
 (zkf K c))
def zrm(Ο):aG:=(yN Hn)
def zqy(Ο):aG:=(aF (JW AC K NV (aX 4 (wg Eg AAl 0 (Vp c) (aj AR (Fm Bn EH))))
 (aX 4 ko))
 (zrm K c))
def zg6(Ο):aG:=(aF (aX 4 ko)
 (zqy K c))
def zhs(Ο):aG:=(BWQ 3 EH)
def zhp(Ο):aG:=(aF (Pr 3 2)
 (zhs K c))
def zhr(Ο):aG:=(aF (cM (Rx 3 Bn)
 uw
 bA)
 (zhp K c))
def zcq(Ο):aG:=(aF (BP 3 (Ag5 Bc J0 AAj Vo))
 (zhr K c))
def ztu(Ο):aG:=(yN EH)
def zu4(Ο):aG:=(aF (JW AC K NV (aX 3 (wg Eg AAm 0 (Vq c) (AHw Bn)))
 (aX 3 ko))
 (ztu K c))
def zkq(Ο):aG:=(aF (aX 3 ko)
 (zu4 K c))
def zqs(Ο):aG:=(cM (vK A5t (BiR Hn))
 AOx
 bA)
def z00(Ο):aG:=(aF (cM (AQN A5R A'V)
 AOx
 bA)
 (zqs K c))
def zp9(Ο):aG:=(aF (aX 11 (ur 3 (Vt c) (Fm Ŧ AMj)))
 (z00 K c))
def zyy(Ο):aG:=(aF (cM A5t
 AOx
 bA)
 (zp9 K c))
def zz6(Ο):aG:=(aF (cM (AQN A5R A'V)
 AOx
 bA)
 (zyy K c))
def z0o(Ο):aG:=(aF (aX 11 (BiM (cB bU (ATL (AO_ (Of 31) AOO Ú)) BVJ)))
 (zz6 K c))
def zyk(Ο):aG:=(aF (jD (NF AR (cB bU (ATL (AO_ (Of 30) AOO Ú)) (ň AR))) (fZ 3 (bC (Gc 8) (A0J 9 10))))
 (z0o K c))
def yci(Ο):aG:=(bh (cB mK tP r8))
def yee(Ο):aG:=(aF (sJ (SE (ST (Of 6) (Z' uc (cB qu AR A0I)))) (Gc 7)
 (zyk K c))
 (yci K c))
def z1d(Ο):aG:=(aF (aX 6 (AXB sU tP))
 (yee K c))
def yd9(Ο):aG:=(aF (aX 5 (Pn (Bc (JF Eg RO (J8 c) Hn))))
 (z1d K c))
def yfd(Ο):aG:=(aF (JD 4 (J2 (Ek (Vr c) (aj At (Fm AR Bn)))))
 (yd9 K c))
def yff(Ο):aG:=(aF (JD 3 (J2 (Ek (Vr c) (aj At (Fm AR Bn)))))
 (yfd K c))
def ydb(Ο):aG:=(aF (aX 2 (BaU (ï ZW)))
 (yff K c))
def z8n(Ο):aG:=(aF (aX 1 (AFL ZL At (AJS (P8 (ATL AHM) 4)) (AJS (P8 (ATL WF) 6))))
 (ydb K c))
theorem yar(By Ve):E5:=JJ
theorem z3u(By Li):E5:=JJ
theorem yns(By SM):E5:=JJ
theorem yjs(By Lj):E5:=JJ
theorem yjo(By Y6):E5:=JJ
theorem ymx(By Vf):E5:=JJ
theorem yit(By G3):E5:=JJ
theorem wF{j:Ψ}(h:AsA<2^64):AzW:=zO (lW h) AD
abbrev D4(Q:AOS):qR:=A9R
theorem z5m(B_ Ve):uC ztp:=by
 show AXN i j;show Ee (fun m Γ=>∃a b r,Γ= [Co a,AEI,r]/\m=ALc/\Tl a b=Ats) ⟨_,i,j,C_,Β,Β,Β⟩;rintro m _ ⟨a,b,r,Β,Β,hg⟩;show F8 Β;show ABt 0
 ·subst hb;have:MM (! iH ACi ACi):=AEM
  rw[Χ];show Q (ET BZF);have e:BZF=AOg:=by
   rw[<- hg,Bkx];split<;>omega
  rw[e];exact h
 ·have:AOL (iH (ET b) ACi):=bS iH hb
  rw[Χ];exact⟨hb,_,zf0 hb,b,Ac_ b,Co (Ac_ b),Β,Β,HH z19 hg⟩
theorem zw7{i j:Ψ}(hj:ANf):dv i j≠0/\∀n,fq<=n ->zD<=n ->dF (dv i j)<=n:=by
 refine⟨YD hj,fun n h1 h2=>(Alh h2)⟩;show PM k (z9g i j);have h:=OT Asw e;rw[Ĩ] at h;rw[h];have:k≠0:=AV (hj (by rw[e,z,Bky]))
 exact BJc
theorem z34(B_ Li):uC zpz:=by
 show AE' i j b1 b2;show F8 Β;by_cases hj:j=0
 ·subst hj;have:iH ACi ACi=Μ:=AEM
  rw[Χ];exact oS
 ·have:iH (ET j) ACi=AC:=bS iH hj
  rw[Χ];rw[B4 hj,<- yni hj] at h;show PD i j Β;show DE d0 d1 (Ý zw7) hj;show if kP (j<0) then _ else _;by_cases hn:j<0
  ·show uS hn
   have e:dv i j= -AOg:=by unfold dv;show Go hn
   exact⟨AFd,AFd,APM,Ai8⟩
  ·show â hn
   have e:dv i j=AOg:=by unfold dv;show CS hn
   exact⟨AFd,AFd,APM,Ai8⟩
theorem at0{x y:D}:nZ [x,y] 0=Ε x:=AkC
theorem at1{x y:D}:nZ [x,y] 1=Ε y:=AkD
theorem vG(BSR):DR i j:= Aj2
theorem yu(BSR):dF (i*j)<=8000:=MU (GD i j)
theorem abS(BSS):SZ (dF (i+j)):=MU (zjf i j)
theorem abT(BSS):SZ (dF (i - j)):=MU (znb i j)
theorem Vu{i:Ψ}(h1:fq<=8000):Aiz:=Τ
theorem ymv(B_ SM):Q_ z6q:=by
 show AaP;refine⟨_,at0,_,at1,AlJ,_,at0,_,at1,A7p,_,at1,_,at1,A1x,_,_,Β,BfJ abS,Vu (yu a2 b2),?_⟩;rw[RR (U8 a b),<- yfv];exact h
theorem yhg(B_ Lj):Q_ z08:=by
 show AaP;refine⟨_,at0,_,at1,AlJ,_,at0,_,at1,A7p,_,at1,_,at1,A1x,_,_,Β,BfJ abT,Vu (yu a2 b2),?_⟩;rw[RR (U8 a b),<- yf7];exact h
theorem ykz(B_ Y6):Q_ z2s:=by
 show AaP;refine⟨_,at0,_,at0,vG a1 b1,_,at1,_,at1,A1x,_,_,Β,Vu (yu a1 b1),Vu (yu a2 b2),?_⟩;rw[RR (U8 a b),<- ygy];exact h
theorem yn3(B_ Vf):Q_ z9l:=by
 show AaP;refine⟨_,at0,_,at1,AlJ,_,at1,_,at0,vG a2 b1,_,_,Β,Vu (yu a1 b2),Vu (yu a2 b1),?_⟩;show ABt 0
 ·show æ hb;rw[Y2 (AX hb (Bky _))];exact h
 ·show X0 hb;rw[RR (BHM Biu (AV (hb (Ck.mp z)))),<- yf8 a b hb];exact h
theorem yk4(B_ G3):Q_ z1f:=by
 show AaP;refine⟨_,at0,_,at1,AlJ,_,at0,_,at1,A7p,?_⟩;rw[yi6] at h;exact h
theorem yli(AJo)(AJe):rZ QP (qD a) (qD b):=by
 show Apy
 match i with
 | 0=>show BUy
 | 1=>show BUy
 | i+2=>simp at h1
theorem yh8{n:Δ}(a:AM):rZ QP (FM a) AS6:=by
 show Apy;simp at h2
theorem xV:AHK (LZ 1000):=CD
theorem Cw{i m:Ψ}(hm:0<m):0<=Ab9 m/\Ab9 m<m:=AX BJd ⟨BHJ _ Η,Int.emod_lt_of_pos _ hm⟩
theorem Tg(AJt):iH AIs (ET j)=VV (i=j):=by
 simp only [iH];by_cases h:i=j<;>simp [h]
theorem zev{i:Ψ}{n:Δ}(h:0<n):∃k:Δ,Ab9 L8=GE/\k<n:=by
 have:=AG2 i L8 Η
 exact⟨(Ab9 L8).eD,Τ,Τ⟩
theorem z4a(By xR):E5:=JJ
theorem yos(By z1m):NN:=YN
theorem z5f(B_ xR):uC zre:=by
 show AE' ns k hl hk;show APf GE A9H;show He;by_cases BD:AzX
 ·show uS BD
  show Ee (.AK ns[k]) (Bt (NA BD))
  show DJ cL;rw[ASg BD] at h;exact h
 ·show â BD
  show DJ cL;rw[dif_neg BD] at h;have bk:dF GE<=10:=lW (by simp only [Bk0];omega)
  refine D_ APv
  show APf Sb A9H;show He;have fin2:∀m:Ψ,m.natAbs<2^40 ->BY8 ->DR m m/\ fE 2147483629/\BY8:=fun m hm hq=>
   ⟨AZK lW hm,CD,hq⟩
  by_cases he:ns= []
  ·subst he;show CS A2
   rw[EB] at h;exact fin2 _ Η h
  ·have hp:0<IG:=(by cases ns with | DB=>show AUM he | AY _ _=>exact BDb _)
   show uS hp
   show X0 he;refine PR APv (show fE (C7 wt GW) by show He;omega)
   have hm:(GE*7).LS A9H=EZ Al8:=by
    show AOE BJd Int.natCast_emod AbY
    rfl
   dsimp only [aF,bA,cC,cV,cB,cT,iU,vK,iQ,fC,jV,gj,rY,aq,aj,eY,dZ,dU,fL,bh,gK,cM,aX,c7,LV,fY,bC,fZ,jD,jW,aB,cU,iT,gF,cQ,fW,cN,dR,bU,jE,tW,vo,qY,xJ,vp,ji,mK,qu,dD,wI,sO,tY,lX,xK,xM,dh,lM,gO,lN,lO,Ki,MG,MH,Mb,Kk,fM,m9,sU,vq,qC,pF,qw,lQ,fO,dW,jF,rA,sE,vB,iV,sG,dw,dX,uc,xQ,uf,lR,lU,iL,fj,gR,kE,d8,LX,Mc,Iq,LY];rw[hm];have hlt2:Al8<IG:=BGk _ hp;show Ee (.AK (ox (Al8) 0)) (Bt (by simp [Ic,OX,hlt2]))
   show PD APv APv CD
   refine fin2 _ ?_ h;have h1:=zf0 (a:=ox (Al8) 0*48271+ GE*7919) (b:=2147483647) AD
   exact Aru h1 AD
theorem yiz(By SN):NN:=YN
theorem yms(By SQ):NN:=YN
theorem yi7(B_ SN):uC z09:=by
 obtain⟨qs,Β,s1,s2,h⟩:=h;show AXa APM (∃x,Γ= [MS Adv,î (fJ (Aqc i)),x]) FG
 ·show A_W x y;show BKe;cases q:qs[i]? with
  | Ι=>show UV q hi hi
  | Ε a=>
   rw[q] at hi;cases hi;refine⟨_,_,Β,s2 i,s1 a (yV q),î a,?_⟩;rw[Acm,q,zzc];simp only [Option.toList_some,fJ,AFg]
   rfl
 ·rintro _ ⟨y,Β⟩;have h' :=h;show ACN w_;exact h'
theorem yl7(B_ SQ):AJC ybt:=by
 obtain⟨qs,Β,hl,s1,s2,h⟩:=h;refine⟨qs,Β,s1,s2,?_⟩;have e:ASt BRR=qD BHu:=HH Sh Da
 refine⟨APM,fJ qs,BHu,by show [_,ASt BRR]=_;rw[e],?_,BVC ?_,?_⟩
 ·have:=s2 FL;show BII
 ·exact zL (AHd (ABz AII<=1000)) AD
 ·by_cases hq:qs= []
  ·subst hq;rw[EB] at h;show Go A2;exact h
  ·show X0 hq;rw[RR]
   ·exact h
   ·intro z;have z' :AII=0:=by show Aea
    exact Bj9 hq Η
theorem ZX(BZO):EX (MT f) (f i):=C8 h
theorem Lq(BZO):ϕ MT f Lu (f i):=Bt (ZX h)
theorem yba(AJo)(f g:ACZ):BfX:=by
 unfold nD;show mM
 ·simp
 ·show AFG;simp
theorem ygt{n:Δ}(f:ACZ):K8 0 (MT f)=MT (FV (.tup [.AK (LZ i),f i])):=by
 apply BnJ;intro i;rw[zun];by_cases h:i<n
 ·rw[ZX h,ZX h];simp
 ·simp [h]
theorem zw6(BW0):AVt is Cn (∀i∈is,AQD (P [g i]) i) ALV g (ALV f)
 | [],_,_,h=>h
 | i::is,P,k,h=>k i zY _ (zw6 BU8 h)
theorem zlu(BW0){n:Δ}{P:qc}(k:AEm (AQD (P [g i]) i))(h:P (MT g)):ATw (MT f):=
 zw6 (UH hi (Axt k i hi)) h
theorem zmr{m:Δ}{f g:á}(h:XI m (f j=g j)):jd m f=jd m g:=by
 unfold jd
 congr 1
 exact AWL j hj (MW (Axt h j hj))
theorem z4x{n m:Δ}{a b:Mx}(h:∀i j,i<n ->j<m ->a i j=b i j):qO n m a=qO n m b:=by
 unfold qO
 congr 1
 exact BMD (zmr fun j hj=>h i j (o6 hi) hj)
theorem zz8(By Y8):NN:=JJ
theorem z0z(By Zb):me:=AQK
theorem yot(By Zc):E5:=AnN
theorem z6d(By Y9):ABf 4:=AQK
theorem yai(By Za):me:=AQK
theorem yfr(By Zd):E5:=by obtain⟨_,_,⟨Β,_⟩,_⟩:=h;rfl
theorem ybu(B_ Y9):mh ztc:=by
 obtain⟨m,k,f,g,p,Β,hk,p0,bp,bf,bg,h⟩:=h;show tF (nD (AlL (.AK (f j))) (AlL (.AK (g j))));rw[yba];refine zlu (g:=GB (.AK ((BVH).ABe p))) BSK h;have b1:=bg k;have b2:=bf j;have b3:=bf k;have b4:=bg j;exact⟨Β,Β,.AK (g k),Lq hk,Aj2,.AK (f k),Lq hk,Aj2,⟨p0,bp⟩,hP⟩
theorem z8z(B_ Za):mh zsv:=by
 obtain⟨a,n,m,k,p,Β,hk,hkm,p0,bp,ba,h⟩:=h;refine⟨jd m (a k),Lq hk,?_⟩;show tF (K8 0 (APU ANS));rw[ygt];refine zlu (g:=FV (jd m BM7)) BSL h;show PD Β Β Β;rw[Tg];show L7 i k
 ·subst e;show AIu Β;have:jd m (G4 i p a i)=ANS:=zmr fun j _=>EB;rw[Χ] at hP;exact hP
 ·show ADw Η
  have:jd m BM7=jd m (GB Ber):=zmr fun j _=>(B4 e);rw[Χ] at hP;exact⟨m,k,a i,a k,p,Β,hkm,p0,bp,GB (ba i j hi),GB (ba k j hk),hP⟩
theorem yj1{n:Δ}(f:ACZ){k s:Δ}(hk:k<n)(hs:s<n):((MT f).set k (f s)).set s (f k)=MT (FV (f (uE k s i))):=by
 show mM
 ·simp
 ·show AFG;simp only [List.getElem_set,ALZ,BG8];unfold uE;by_cases e1:s=i
  ·subst e1;by_cases e2:k=s
   ·subst e2;simp
   ·rw[EB,mT,EB]
  ·show CS e1;by_cases e2:k=i
   ·subst e2;rw[EB,EB]
   ·rw[B4 e2,mT,mT]
theorem z9b{n k:Δ}(h:k<n):xW n GE=Ε k:=by
 unfold xW;rw[CH Η,ϝ];simp
theorem z0n(B_ Zb):mh zn7:=by
 obtain⟨a,n,m,k,s,Β,hk,hs,h⟩:=h;refine⟨jd m (a s),Lq hs,FG,k,z9b (NA hk),jd m (a k),Lq hk,FG,s,z9b (NA hs),?_⟩
 have e:=yj1 (ya ANS) hk hs;rw[e];exact h
theorem yow(B_ Zc):uC yg7:=by
 obtain⟨a,n,m,k,Β,hn,hk,hm,h1,h2⟩:=h;have el:C7 MT (FV ANS)=n:=CY
 show(Axo<=GE/\ GE<2^62/\ Axo<=A4J/\ A4J<2^62)/\IK GE (A4J - GE).eD _ _ _ _ _;rw[el,NG (L8 - GE).eD (n - k)]
 show AXa ⟨Τ,Τ,Τ,Τ⟩ (∃y:GI,Γ= [.pu (qO n m a),AWP,y]/\BVl (s<k+i)) (Oy (fun s hs hs' =>Τ))
 ·rintro i _ hi ⟨y,Β,hz⟩;have e0:GE+ Lu=EZ (k+i):=Τ
  have BD:k+i<n:=Τ
  refine⟨jd m (a (k+i)),?_,.AK (a (k+i) k),Lq hm,Β,?_⟩
  show Dx e0 (Lq BD)
  rw[Tg];by_cases ez:a (k+i) k=0
  ·show AIu ez;refine Oy (Ap s hs hs');by_cases es:s=k+i
   show Dx es ez
   ·exact hz s hs Η
  ·show ADw ez;refine⟨a,n,m,k,k+i,?_,hk,BD,h1 _ Η BD ez⟩
   rw[e0]
 ·rintro _ ⟨y,Β,hz⟩;exact(h2 fun s hs hs' =>hz s hs Η).ic
theorem yh3(APm):Lv ABb=q* Lv ASs/\ AyX:=by
 have hd:AyX:=by
  have:=q.den_pos
  exact_mod_cast (AHd (fE ASs))
 have e:Lv ABb/ BB AIq=q:=by
  have:=BHN q;show B8 BHP;exact Χ
 show Db ?_ hd;rw[MI] at e;have:=AEZ (· * ((q.den:Int):Rat));simp only [xE,AIt hd,ALg] at Χ;exact Χ
theorem ybz{μ d:Ψ}(hμ:0<μ)(hd:0<d):fE AdT/\0<ApQ/\μ∣ApQ/\d∣ApQ/\ (Aqo zn).į<=BCu/\ ABz zn<=BCu:=by
 have g0:AdT≠0:=AV (MU BLX)
 have gd:zn∣d:=Axd;have gm:zn∣μ:=Axc;have e:=U6 gd;obtain⟨u,eu⟩:=gm;have gp:Sb< zn:=Τ
 generalize zn=g at*;generalize Aqo g=t at*;have tp:0<t:=by
  show dA (BHK 0 t)
  ·exact h
  ·have:=BH1 (Τ:0<=g)
   omega
 refine⟨Τ,Int.mul_pos hμ tp,uv,D_ u,?_,?_⟩
 ·rw[eu,<- e];ac_rfl
 ·rw[<- e,Ĩ];exact Bk3 _ Η
 ·rw[<- e,Ĩ];exact BJc
theorem Gg{d:Ψ}(h:d∣27720):dF d<=15:=zO (BRe (Nat.le_of_dvd AD (Int.natAbs_dvd_natAbs.mpr h))) (lW AD)
theorem lcm_dvd{μ d n:Ψ}(hμ:0<μ)(hd:0<d)(h1:μ∣n)(h2:d∣n):ApQ∣n:=by
 have g0:fE AdT:=AV (MU (BHq (Τ:Tl μ d=0)))
 have e:=U6 (BoC μ d);have e2:zn* (μ*Aqo zn)=zn* B7 (Int.lcm μ d):=by
  rw[<- AbY,Int.gcd_mul_lcm,Int.mul_left_comm,e,AbY,BHk,BHk]
 rw[Int.eq_of_mul_eq_mul_left g0 e2];have:=Int.lcm_dvd (c:=n.natAbs) (Bk4 h1) (Bk4 h2);exact Int.ofNat_dvd_left.mpr Χ
theorem zy2(B_ Y8):uC zny:=by
 show AE' m f hm hz;show vT (∃(μ:Ψ) (y:GI),Γ= [.pu (qF m f),Co μ,y]/\0<μ/\μ∣27720/\∀j,j<i ->j<m ->AIh∣μ) ⟨1,_,Β,CD,Ŋ 27720,XA Τ⟩
 ·rintro i d _ hi ⟨μ,y,Β,hμ,bμ,hd⟩;have him:i<m:=ů ϯ Χ
  rw[ZX him] at hi;cases hi;have dp:Sb< (f i).den:=MU (f i).den_pos
  obtain⟨g0,p1,p2,p3,p4,p5⟩:=ybz hμ dp;have zi:=Gg BRG;have b4:=zO (Mj p4) zi;have b5:=zO (Mj p5) zi;have bμ' :=Gg bμ;refine⟨_,at1,_,at1,μ,(f i).den,Β,⟨g0,Τ⟩,Aj2,_,_,Β,p1,lcm_dvd hμ dp bμ BRG,Ap j hj hjm⟩
  show L7 j i
  show tj p3
  ·exact Int.dvd_trans (hd j Η hjm) p2
 ·rintro _ ⟨μ,y,Β,hμ,bμ,hd⟩;have el:C7 (R_ m) (GB (qD (f j)))=m:=CY
  rw[el] at hd;have bμ:=Gg bμ
  let g:á:=GB (N2 (j<m) BXA)
  have gv:XI m (g j=BXA):=XA (by show(AUy (j<m))=_;show Go hj)
  have bt:XI m (dF (AbZ AIh)<=dF μ):=XA (by
   refine Mj ?_;have e:=OT Asw (U6 BYt);rw[Ĩ] at e;rw[<- e];exact Bk3 _ (AfA BIq))
  refine zlu (g:=GB (.AK (g j))) BSK (h μ g hμ (XB j hj) AOv)
  ·have z:=hz j hj;have b:=bt j hj;refine⟨_,at0,_,at1,⟨MU BIq,zO (Gg z.2) AD⟩,ACq (by have:=z.1;omega),?_⟩
   show P [.AK (Av1*AbZ AIh)];rw[<- gv j hj];exact hP
  ·rw[gv j hj];have e:=U6 BYt;obtain⟨n1,n2⟩:=yh3 (f j);show BPE (BB μ) (AIh* B7 (AbZ AIh))
   rw[P2,n1,e']
   grind
  ·by_cases hj:j<m
   ·rw[gv j hj];have:=GD Av1 (AbZ AIh);have:=bt j hj;have:=(hz j hj).1;omega
   ·show dF (N2 (j<m) _)<=_;show CS hj;exact IS
theorem zxh(BcD)(F:ABg α D)(Good:DD Δ α):∀{n s:Δ} {P:qc},(BQp (AQD BUi i)) ->(∀as:M3 α,(BQp BKX) ->P (Anq s (FV (F i (as i))))) ->ATw (Anq s f)
 | 0,s,P,_,h=>h (C5 pM) (A7t Τ)
 | n+1,s,P,k,h=>by
  rw[Bk6];refine k s Η Η _ (BO a ha)
  refine zxh F Good (fun i h1 h2=>k i Η Η) (BO as has)
  have:=h (ya (sg s a (as i))) (A7t (by
   show L7 i s
   ·subst e;simpa using ha
   ·simp only [B4 e];exact has i Η Η))
  rw[Bk6,EK,EB] at Χ;have e:Anq (s+1) (A6 i (F i (B5 (i=s) a (as i))))=Anq (s+1) (FV (F i (as i))):=BMD (by
   have:=List.mem_range'_1.mp hi;show CS Η)
  show t_;exact Χ
theorem z4j(BcD)(F:ABg α D)(Good:DD Δ α){n:Δ}{P:qc}(k:AEm (AQD BUi i))(h:∀as:M3 α,(AEm BKX) ->P (MT (FV (F i (as i))))):ATw (MT f):=by
 rw[Bk7];refine zxh F Good (fun i _ h2=>k i Η) (BO as has)
 rw[<- Bk7];exact h as (X2 (has i Η Η))
theorem ymy(ApU):BXi:=by
 show AmC (C7 ADc f) n (by
  show Azw;unfold xW;rw[B4 AD,ϝ]
  congr 1;omega)
 unfold nZ;rw[e];exact ZX Η
theorem Vv{z:Ψ}{e k:Δ}(h:z.natAbs<=(16*2^e)^k):dF z<=(e+4)*k+1:=by
 refine lW (zL h ?_);rw[show LZ 16*2^e=2^ (e+4) by rw[Nat.pow_add,Bkj],<- Nat.pow_mul]
 exact Nat.pow_lt_pow_right AD Η
theorem zv6{f g:ce}(t:AI):N4 m Δ (XI m (f j=t*g j)) (eE m f=t*eE m g)
 | 0,_=>ũ eE
 | m+1,h=>Ajr eE (zv6 t (XA (h j Η))) (h m Η)
theorem yb1(B_ Zd):WA zxz 5:=by
 obtain⟨n,A,⟨Β,hn,hz⟩,hE,hP⟩:=h;have s1:=xV;show tF (nD (APU (qF n (A i))) (APU (qD (A i n))));rw[yba];refine z4j (α:=á) (Kt g (jd QP g)) (UH g ((BRO)/\∃μ:Ψ,0<μ/\XI (n+1) (BB (g j)=BB μ*AOz))) BSL (XB as has)
 ·refine⟨Β,Β,APN,?_,n+1,A i,?_,Τ,XA (hz i j hi Η),fun μ g h0 h1 h2=>hP g ⟨h2,μ,h0,h1⟩⟩
  ·show D5 (C7 MT (GB (qD (A i j)))+1);simp only [Da,ASm];omega
  ·unfold qF;show AOA ARP;rfl
 change ĵ zp8 [.pu (J4 n n A),BTL,.pu (qO n QP as),C_,C_]
 have ba:A'r as (2^143):=fun k hk j=>ĕ (QZ ((has k hk).1 j));have hμ:∃μ:ce,AEm (μ i≠0/\XI (n+1) (BB (as i j)=μ i*AOz)):=by
  refine ACh (FV (Ag3 (i<n) (B7 ((has i h).2).Acy) 1)) i hi;simp only [ASg hi];have sp:=((has i hi).2).choose_spec;show Db ?_ (XA (sp.2 j hj));have:=sp.1;intro z;have:((has i hi).2).Acy=0:=by show Aea
  omega
 obtain⟨μ,hμ⟩:=hμ;have el:C7 MT (FV (Aju as))=n:=CY
 show(Axo<=AvO (Aju as)/\_)/\IK 0 (ARF (AvO (Aju as))) _ _ _ _ _;rw[el,oz];have mx:∀k,k<=13 ->(143+4)*k+1<=1912:=fun k hk=>Τ
 have h1:1<=16*2^143:=Nat.mul_pos AD (Nat.pow_pos AD)
 show AXZ (fun k Γ=>∃(d:Ψ) (tb:Mx) (rs:EN) (fs:AHC) (ix:qh) (y:GI),Γ= [.pu (J4 n n A),BTL,.pu (qO n QP tb),Co d,y]/\BT n as k d tb rs fs ix) ⟨1,as,_,_,_,_,Β,ydc n as⟩
 ·rintro k _ hk ⟨d,tb,rs,fs,ix,y,Β,bt⟩;have e0:(0+ GE)=EZ k:=Τ
  have bd:dF d<=1912:=zO (Vv (A3v ba Η)) (mx k Η)
  have be:A9T 1912:=Bf9 LH
  refine⟨tb,n,n+1,k,?_,Τ,hk,Τ,KE s hs hsn hne,G1 hall⟩
  ·rw[e0]
  ·obtain⟨rs',fs',Sx,bt'⟩:=bt.step hs hsn hne;have sk:uE k s k=s:=by unfold uE;show sB
   have et:qO n QP (G4 k d (Y7 k s tb))=qO n QP (AGa k s d tb):=z4x fun i j _ _=>by
    unfold G4 Y7 AGa;rw[sk]
   refine⟨Y7 k s tb,n,n+1,k,d,?_,hk,Τ,bt.nz,zO bd AD,Awo (zO (be (uE k s i) j ?_) AD),?_⟩
   ·rw[e0]
   ·unfold uE;split
    ·exact hsn
    ·split<;>omega
   ·rw[et];refine⟨jd QP (BcR k),?_,.AK (AGa k s d tb k k),?_,tb s k,BcR,rs',fs',Sx,Co (0+ GE),?_,bt'⟩
    show Dx e0 (Lq hk)
    show Dx e0 (Lq Η)
    ·have:AGa k s d tb k k=tb s k:=Ayz AGa
     rw[Χ];rfl
  ·show EQ x x1 hx bt.stuck hk hall;refine hE x k hk x1 APn;have q:=hx r hr;rw[Bc3 (GB (A r j*x j)) (by
    show BB (as r j)*x j=_;rw[A_s j Η];grind)] at q
   show A2J q
   show Û q BVM
   ·exact q
 ·rintro _ ⟨d,tb,rs,fs,ix,y,Β,bt⟩;have d0:Ak8:=AV (Ajm bt.nz)
  have bd:dF d<=1912:=zO (Vv (A3v ba Η)) (mx n Η)
  have be:A9T 1912:=Bf9 QP
  show Hc Vw (dF d<=147*n+1) (Vv (A3v ba Η)) be' (A9T (M8 n)) (Awo (Vv (bt.small (N:=16) ba Η h1 hi j))) ex (AEm (fs i n=WH (tb i n) d)) (X2 (by
   rw[bt.t i hi n,MI,ASv,<- xE,AIt d0,BDe])) hs (Slv n A (FV (fs i n))) (lI (by
   have q:=bt.sol hr n;have q' :BB (as r n)=eE n (ACJ (BB (as r c)*fs c n)):=q;rw[Bc3 (GB (A r j*fs j n)) (mo (A_s j Η)),A_s n Η] at q'
   have m0:=BVM;have:=OT (E9 ((μ r)⁻¹*z)) q';simp only [<- xE,AIt m0,BDe] at Χ;exact Χ))
  show tF (K8 0 (APU (Aju tb)));rw[ygt];refine zlu (g:=FV (qD (fs i n))) (ACy i hi) (hP _ hs ⟨d,bt.nz,zO Vw (by unfold M8;omega),X2 ⟨tb i n,ex i hi,be' i n hi⟩⟩)
  refine⟨Β,Β,.AK (tb i n),ymy,.AK (tb i i),Lq Η,tb i n,tb i i,Β,zO (be i n hi) AD,zO (be i i hi) AD,?_⟩
  rw[bt.diag hi hi,B4 bt.nz,<- ex i hi];exact hp
theorem ye4(By SX):NN:=YN
theorem zsn(By Zh):NN:=YN
theorem Ti(a b:Κ):A9P (iH (.AT a) (.AT b)):=by
 rw[AsJ];simp [iH]
theorem yc9(BAk):(EW qD).flatMap (ť (Auq (AJJ a b) (HI (!(Φ (ABb*b<a*ASs))) [d] []) []))=DF ALe BWP qD:=by
 induction l with
 | DB=>rfl
 | AY x l ih=>
  rw[EK,BF_,ih,Ps,yi6 q x];show(B5 ((!(Φ (ABb* B7 x.den<x.num* AIq)))=Μ) [qD x] [])++_=_;split<;>simp
theorem ydg(B_ SX):mh zwv:=by
 obtain⟨qs,Β,hl,hz,h⟩:=h;show AXa IS (∃(l:A5) (x y:GI),Γ= [MS Adv,.ow mr,x,y]/\l=(Aqc i).foldl yg []/\l.Perm (Aqc i)) ⟨[],_,_,Β,Β,CY⟩
 ·rintro i d _ hi ⟨l,x,y,Β,hl',hp⟩;show BKe;cases q:qs[i]? with
  | Ι=>show UV q hi hi
  | Ε a=>
   rw[q] at hi;cases hi;have hil:i<FL:=SW q;have llen:ED=i:=AhQ BGu oB
   have lz:∀o∈l,SI o:=fun o ho=>hz o (ARQ (hp.mem_iff.mp ho));have az:SI a:=hz a (yV q);refine zqm (ť (Auq (AJJ u v) (HI (!(Φ (pS*v<u*i_))) [d] []) [])) ?_ ?_
   ·intro x hx P hP;show sD o ho hx;refine⟨a,o,Β,az,lz o ho,?_⟩;show Alz a o;rw[yi6];have hP' :P (HI (!(Φ (pS* B7 o.den<o.num* B7 i_))) [qD o] []):=hP;split
    ·rename_i hc;rw[CH hc] at hP';exact hP'
    ·rename_i hc;rw[B4 hc] at hP';exact hP'
   ·rw[yc9];refine PR eP FG;show He;have hc:=ym5 a l;refine⟨Τ,by rw[Da];exact_mod_cast hc,BKt xV,yg l a,î a,Co (cnt a l),?_,?_,?_⟩
    ·unfold Xx yg;rw[oz,Rl,EK,Aqq,Abb]
     rfl
    ·rw[Acm,q,List.foldl_append,<- hl'];rfl
    ·rw[Acm,q];refine I_ zwy l a ?_;refine cc hp.cons a ?_;exact List.perm_append_singleton a _ |>.du
 ·rintro _ ⟨l,x,y,Β,hl',hp⟩;have e:l=oU qs:=AOW hl' Da w_
  subst e;exact h
theorem zr7(B_ Zh):AJC zi9:=by
 show LN r Β h;show F8 AOk
 rw[Ti];show if kP (r=mj) then _ else _;split
 ·rename_i e;show æ AI5;exact h
 ·rename_i e;show X0 AI5;exact h
theorem zzk(l:A5){a b:Δ}(h1:a<=b)(h2:b<=ED):LW mr (Ch (B7 a)) (Ch (B7 b))=DF (AXM a) (b - a) qD:=by
 show AFN;simp only [Da,Aqq,Abb];have e1:(B5 (B7 a<0) (gE (B7 a) AOJ) (min (AO0 a) ED))=a:=Ax5
 have e2:(B5 (B7 b<0) (gE (B7 b) AOJ) (min (AO0 b) ED))=b:=Ax5
 rw[e1,e2]
theorem z2t{l:A5}{a:Δ}(h:AIk a):AXM a 1= [Nl a 0]:=AOW Axs OX tT
theorem ztw{l:A5}{a:Δ}(h:AIk (a+1)):AXM a 2= [Nl a 0,ACt (a+1)]:=by
 show AxU Ayy BoG (z2t h) OX (AFe (show AIk a by omega));rfl
theorem ycz(B_ Ze):AJC zwk:=by
 show AEs l h1;refine PR (AZG 2) (AZG 2)
 have e1:(AFK - 1).ABe 2=EZ AOw:=AM1 (Bk8 _ AD)
 have e2:(AFK).ABe 2+1=EZ (kr+1):=AM1 (Bk8 _ AD)
 show Q (FM (A9z (Ε ((AFK - 1).ABe 2)) ((AFK).ABe 2+1)));rw[e1,e2,BRX]
 have A9:AXM (AOw) (kr+1 - AOw)=dL l:=by
  unfold dL;by_cases ho:A6R=1
  ·rw[CH ho,NG AOw kr,NG (kr+1 - kr) 1,z2t Η]
  ·rw[B4 ho,NG (kr+1 - AOw) 2,ztw Η,NG AOw (kr - 1),NG (kr - 1+1) kr]
 rw[A9];exact h
theorem ykg(B_ S6):AJC z29:=by
 show AE' a b ha hb;exact⟨_,at1,_,at0,b,a,Β,hb.up AD,ha.up AD,h⟩
theorem Vx{l:A5}{i:Δ}(h:i<ED):Nl i 0∈l:=AXC tT (yU h)
theorem z91(B_ Zf):mh zs7:=by
 obtain⟨l,Β,h2,hl,hz,h⟩:=h;have abU:LW mr Ι (Ch 2)= [qD (Nl 0 0),qD (Nl 1 0)]:=by
  have:=zzk l (a:=0) (b:=2) Η h2
  have e:LW mr Ι (Ch 2)=LW mr (Ch AOf) (Ch Ahw):=by
   show AFN;simp
  rw[e,Χ];show DF (AXM 0) 2 qD=_;rw[ztw Η];rfl
 show ĵ zn2 [MS mr,MS (A9z Ι 2),C_,C_];rw[abU];have hn:AFK=AOJ:=by show He
 show AXa (ADK hn) (∃(b:Δ) (x y:GI),Γ= [MS mr,MS [qD (Nl b 0),qD (Nl (b+1) 0)],x,y]/\b<=i/\ (BTE (j<=i))/\BRK (j<=i)) ⟨0,_,_,Β,MV,BaZ AKL,fun j hj hb=>Τ⟩
 ·rintro i _ hi ⟨b,x,y,Β,hb,hle,hgt⟩;have hi' :AIk (i+2):=by rw[hn] at hi;omega
  show zhw K c _ [MS mr,MS [qD (Nl b 0),qD (Nl (b+1) 0)],Co Ak7,MS (A9z (Ch Ak7) (1+ Lu+2))] xI;have ec:LW mr (Ch Ak7) (Ch (1+ Lu+2))= [qD (Nl C9 0),qD (Nl (D9+1) 0)]:=by
   rw[AUK Ak7 D9,AUK (Ayc+2) (i+3),BRX,NG (i+3 - C9) 2,ztw Η];rfl
  rw[ec];have z:BdX:=BV';refine⟨_,_,Β,z b Η,z (b+1) Η,_,_,Β,z C9 Η,z (i+2) Η,_,_,Β,BAu (b+1) b,BAu (i+2) C9,?_⟩
  show Alz AfU (wd l C9);by_cases hw:AfU<wd l C9
  ·show â hw
   refine⟨b,_,_,Β,Τ,AZI,Ap j hj hbj⟩
   ·show L7 j D9
    show tj (AdC hw)
    ·exact hle j Η
   ·show L7 j D9
    show tj hw
    ·exact hgt j Η hbj
  ·show uS hw
   refine⟨D9,_,_,Β,Τ,AZI,fun j hj hbj=>Τ⟩
   have hw' :=BoI hw;show L7 j D9
   show tj AKL
   ·exact ALf hw' (hle j Η)
 ·rintro _ ⟨b,x,y,Β,hb,hle,hgt⟩;have e:(AFK - 1 - 1).eD=ED - 2:=ADK hn
  rw[e] at hb hle hgt;exact h b ⟨Τ,XA (hle j Η),fun j hj hbj=>hgt j Η hbj⟩
theorem ymm(B_ Zg):Q_ ybe:=by
 obtain⟨l,g,Β,h2,hl,hz,hg,h⟩:=h;refine D_ AOk
 rw[Tg];have hn:AFK=AOJ:=by show He
 have z:BdX:=BV';show if kP (AFK=2) then _ else _;rw[hn];by_cases h22:ED=2
 ·show BNX
  have e2:EW qD= [qD (Nl 0 0),qD (Nl 1 0)]:=by
   match l,h22 with
   | qa,_=>rfl
  refine⟨ACt 0,ACt 1,MW e2,z 0 Η,z 1 Η,g,_,Β,hg,BAu 1 0,?_⟩
  show APf g (wd l 0);by_cases hw:g<wd l 0
  ·show æ ⟨h22,hw⟩;show uS hw
   exact ADH h
  ·show X0 (E9 (hw z.2));show â hw
   exact Bdw
 ·show X0 (E9 (h22 z.1));rw[UN AWA]
  exact Bdw
theorem zf{l:A5}:fJ (dL l)/ ABv dL l=Sv l:=by
 unfold dL Sv;split
 ·show(_+0)/ BB (EZ 1)=_;rw[AFg];have:BB (EZ 1)=1:=Β;rw[Χ];grind
 ·show(_+ (_+0))/ BB Ahw=_;rw[AFg];rfl
theorem yfz{l:A5}(h:∀q∈l,ANt)(hl:ED<=2)(k:Δ):AvS AdB:=by
 refine(yf0 (m:=1900) (BMX h)).up ?_;have:C7 AdB k<=2:=zO (List.length_take_le' _ _) hl;have:=ASr 1902 Χ;omega
theorem sM:S5≠nJ:=CD
theorem sP:mj≠nJ:=CD
theorem sP2:mj≠S5:=CD
theorem yc1(By Zi):E5:=JJ
theorem z32(By Zj):NN:=YN
theorem z8f(By Zk):me:=vi
theorem yk1(By S7):NN:=YN
theorem zss(By Zm):E5:=JJ
theorem Vy(f:Κ)(d:D):oO [f] [d] f=Ε d:=Ayz oO
theorem zws(xs:AM){k:Δ}(h:k<=BU):LW xs Ax' Ι=Aba k:=by
 have e1:(B5 (GE<0) (gE GE AIp) (min (GE).eD BU))=k:=Ax5
 show AFN;simp only;rw[e1,BGD A2]
theorem z2k{ps:EU}(h:AAH)(hl:1<II):zc ps=Μ:=by
 unfold zc;rw[Bkg,Bk9];clear hl;induction ps with
 | DB=>rfl
 | AY a t ih=>
  cases t with
  | DB=>rfl
  | AY b t=>
   obtain⟨⟨h1,h2⟩,h3⟩:=h;show(Ld a b::ALS Ld AjH t).all id=Μ;rw[AR8];have hc:Ld a b=Μ:=by
    unfold Ld;have:¬b.2<a.2:=Sk
    simp [h1,Χ]
   have h4:=ih h3;have h5:(ALS Ld AjH t).all id=Μ:=h4;rw[h5];simp [hc]
theorem yb2(B_ Zi):Q_ zxp:=by
 show AE' a b za zb;refine⟨_,at0,_,at0,a.1,b.1,Β,za.1,zb.1,?_⟩;show DJ Ld;cases e:BO4 with
 | AC=>rw[e] at h;exact h
 | Μ=>
  rw[e] at h;exact⟨_,at1,_,at1,b.2,a.2,Β,zb.2,za.2,h⟩
theorem zx0{one:ATr}(g:Pt ->Pt ->D):∀{as bs:EU} {P:qc},(AL' (N0 bs (∀P,P [g a b] ->one (IO [pD a,pD b]) P))) ->P BLK ->ATw (nD (as.map pD) (ABX pD))
 | [],_,_,_,h=>h
 | DV,[],_,_,h=>h
 | a::as,b::bs,P,k,h=>k a zY b zY _ (zx0 g (fun x hx y hy=>k x A0O y (zW _ hy)) h)
theorem z1x(g:Pt ->Pt ->AO):∀(as bs:EU),vA BSP=Ε BLK
 | [],_=>Β
 | DV,[]=>Β
 | a::as,b::bs=>by
  show DF vA BSP _=_;rw[z1x g as bs];rfl
theorem z5h(B_ Zj):AJC zpm:=by
 show AEs ps hz;show DJ zc;show(lP (D.bl (VV (cS< ABv Nd pD))) AHz _ Ayv _)
 show He;by_cases hl:1<II
 ·show AIu (Τ:cS< BkB)
  rw[Bkg,Bk9] at h;show tF (nD (Nd pD) (LW (Nd pD) ŭ Ι));have e1:BfV:=AX Abb (zws (Nd pD) (k:=1) (by show He;omega))
  rw[e1];refine zx0 (xl b (D.bl (Ld a b))) (fun a ha b hb P hp=>⟨Β,Β,a,b,Β,hz a ha,hz b (List.mem_of_mem_drop hb),hp⟩) (DH (z1x Ld _ _) ?_);rw[Bk'];exact h
 ·show ADw (Τ:¬cS< BkB)
  rw[Ē hl] at h;exact h
theorem yla(BYI S7):zf6 K c (AMx (fun Γ=>zfd K c Γ (fun d BY =>(Aoz (Q d))) xI) rX) (aJ 2 AVU) xI:=by
 show AEs ps hz;show PD ps Β hz;cases e:zc ps with
 | Μ=>
  rw[e,EB] at h;exact Hb h
 | AC=>
  rw[e,cz] at h;exact oS
theorem z57(B_ Zk):mh ztj:=by
 obtain⟨l,r,x,Β,zl,zr,zx,BD,h⟩:=h;have s1:=M4 zx zl.1;have s2:=M4 zr.2 zl.2;have s3:=M4 zr.1 zl.1;have s4:=ygm s1 s2;have hn:AYd≠0:=Sk
 refine⟨_,at0,x,l.1,Β,Ay0,ka zl.1,_,at1,_,at1,r.2,l.2,Β,ka zr.2,ka zl.2,x - l.1,r.2 - l.2,Β,s1.up AD,s2.up AD,?_⟩
 refine⟨_,at1,_,at0,_,at0,CI,l.1,Β,ka zr.1,ka zl.1,(x - l.1)* AnQ,AYd,Β,s4.up AD,s3.up AD,?_⟩
 show CS hn;exact⟨l.2,(x - l.1)* AnQ/ AXw,Β,ka zl.2,(ybb s4 s3 hn).up AD,h⟩
theorem z7a:∀{ps:EU} (i:Δ),AAH ->Gd (AAp i)
 | [],i,_=>by rw[List.drop_nil];trivial
 | ps,0,h=>h
 | a::t,D9,h=>by
  rw[BoH];refine z7a i ?_;cases t with
  | DB=>trivial
  | AY b t=>exact h.2
theorem z2h{ps:EU}{i:Δ}(h:Aki):AAp i=VA::AW5::AAp (i+2):=HH Ayy Axs
theorem yoq{ps:EU}{i:Δ}(h:Aki)(hg:AAH):VA.1<AXl/\VA.2<=AW5.2:=by
 have:=z7a i hg;show B8 (z2h h);exact Χ.1
theorem z8w{ps:EU}{i:Δ}{x:AI}(h:Aki):Bf (AAp i) x=ANV x AXl (Cm VA AW5 x) (Bf (AAp C9) x):=qS (z2h h) Axs
theorem zlv:∀{ps:EU} (h:AJK),kO ps=ps[AWq]
 | [p],_=>Β
 | AiD,_=>by
  show kO AjH=_;rw[zlv (ps:=b::t) A2]
  simp
theorem yjf(ps:EU)(h:AJK):ϕ Nd pD NI BVE:=by
 unfold nZ;show AmC BOI (II - 1) (by
  unfold xW;show AT_ AhT ϝ
  congr 1;omega)
 rw[e];show Ð[AWq]?=_;rw[Ic,Ayw,zlv h]
 rfl
theorem ykd{ps:EU}{i:Δ}(h:i<II):ϕ Nd pD Lu (pD VA):=Bt (AJV tT)
theorem zsu(B_ Zm):mh zim:=by
 obtain⟨ps,x,Β,hl,hg,hz,zx,h⟩:=h;have z4:∀{i:Δ} (hi:Ax7),Ia 300 VA:=fun hi=>hz _ (yU hi);have h0:AJK:=Τ
 refine⟨Β,_,AOd,_,ykd h0,_,at0,ps[0].1,x,Β,ka (z4 h0).1,Ay0,?_⟩
 have hd:ps=ps[0]::AAp 1:=ACQ (ALQ (l:=ps) (i:=0) h0) Aqv
 show Alz ps[0].1 x;by_cases hx:ps[0].1<x
 ·show â hx
  have eW:BTz:=z24 hg (WP (by
   rw[hd] at hp;cases hp;exact AdC hx))
  refine⟨Β,_,AOd,Β,_,AOd,?_⟩;have e1:BfV:=AX Abb (zws (Nd pD) (k:=1) (by show He;omega))
  refine D_ ?_
  ·rintro⟨e,_⟩;have:VY BOI 0 ŭ=1:=by
    unfold VY;show He;simp only;show t7
    have:(cS).eD=1:=Β;omega
   rw[Χ] at e;cases e
  rw[e1];have zl:(nD Ð (DF AAp 1 pD)).nv=AWq:=by
   unfold nD;rw[Acq,Da,Da,AGC];omega
  show vT (∃(u v:GI),Γ= [Amn,î x,u,v]/\Bf (AAp i) x=Bf ps x) (AEg (MW Aqv))
  ·rintro i d _ hi ⟨u,v,Β,hw⟩;have hil:Aki:=Biq ϯ zl
   have hi2:Ε d=Ε (IO [pD VA,pD AW5]):=by
    rw[<- hi];unfold nD;rw[Bmw,Ic,Ic,List.getElem?_drop,Ayw,Nat.add_comm 1 i,xo hil]
    rfl
   cases hi2;refine⟨Β,Β,_,at0,x,AXl,Β,Ay0,ka (z4 hil).1,?_⟩
   rw[z8w hil] at hw;show APf x AXl;by_cases hxr:x<AXl
   ·show uS hxr
    rw[CH hxr] at hw;refine⟨VA,AW5,x,Β,z4 Η,z4 hil,zx,(yoq hil hg).1,?_⟩
    rw[hw,eW];exact h
   ·show â hxr
    rw[B4 hxr] at hw;exact AEg hw
  ·rintro _ ⟨u,v,Β,hw⟩;rw[zl,Ayy,List.drop_of_length_le Η] at hw
   refine⟨Β,_,AOd,_,yjf ps h0,_,at1,?_⟩;rw[zlv h0];have:ps[AWq].2=Bf ps x:=hw;rw[<- eW,<- Χ] at h;exact h
 ·show uS hx
  refine⟨Β,_,AOd,_,ykd h0,_,at1,?_⟩;have:oh ps x=ps[0].2:=by
   generalize ps[0]=p0 at*;rw[hd] at hg⊢;exact yb5 hg hx
  rw[Χ] at h;exact h
theorem z0t(h_):BQF uG:=uB uG AGX YH
theorem z9w{qs:A5}{q:AI}(h:q∈uG qs):q∈qs:=AmF (BoN h)
theorem Vz(BUJ):Nl i d=l[i]:=C8 h
theorem Y5(BUJ):Nl i d∈l:=AX (Vz h) (yU h)
theorem yda(h_):Fall (uG qs):=by
 intro i j hij hj;have hi:i< C7 uG qs:=Τ
 rw[Vz hj,Vz hi];unfold uG at*;rw[Aqx,Aqx];show L7 i j
 show tj AKL
 ·rw[AGX] at hj;exact AsS (zy7 qs) _ _ Η Η Η
theorem zrk(A9i)(f:Aix):ô (l.flatMap (A6 x [f x])=EW f)
 | []=>Β
 | x::l=>qS BF_ zrk
theorem z13{α:CL}(f:AEe):ô (vA BMT=Ε ADe)
 | []=>Β
 | x::l=>by show DF vA BMT _=_;rw[z13];rfl
theorem z69(f:A5):(jk f).i4 (C7 jk f - 1) 0=v_/\0< C7 jk f:=by
 show Db ?_ (by unfold jk;simp)
 cases hn:v_ with
 | Tb=>unfold jk;rw[hn];rfl
 | Th n=>
  have e:jk f=(0::((List.range n).filter (J5 f)).map (· +1))++ [n+1]:=by
   unfold jk;rw[hn,ARP,Abe,Ps,ANZ (by unfold J5;simp [hn])]
   simp
  show AxU e TU AR' Nat.add_sub_cancel A4f;simp
theorem z0v(By Vg):E5:=JJ
theorem yah(By Zn):me:=vi
theorem yi4(By S8):E5:=JJ
theorem ycl(By Vh):NN:=YN
theorem zvp(By Zo):E5:=JJ
theorem ylm(By Zq):NN:=YN
theorem zsb(By Zr):E5:=vi
theorem zr0(By Zt):E5:=vi
theorem yny(By Zu):E5:=JJ
theorem VB(Amv)(f:AJR)(p:AEe):AVt l CO (AHS (AQD (B5 AIb (P [f a]) ž) a)) BN7 f ADe
 | [],_,_,h=>h
 | Fc,P,k,h=>by
  refine k a zY _ ?_;show KK AIb
  ·show Go q;rw[Ps,Hk] at h;exact VB f p ATI h
  ·show CS q;rw[Ps,QY] at h;exact VB f p ATI h
theorem zk1(Amv)(f g:AJR):AVt l CO (AHS (AQD (P [g a]) a)) EW g ADe
 | [],_,_,h=>h
 | Fc,P,k,h=>BAz zk1
theorem zzg(B_ Vg):Q_ zn0:=by
 show AXN x b;refine AEb;show if kP (b.1<=x) then(∃d,nZ [GW b.1,.AK b.2] 1=Ε d/\_) else _;show KK (b.1<=x)
 ·show uS q
  refine AEb;show BQ1 (yQ b x=VV (x<=b.2))
  rw[e] at h;exact h
 ·show â q
  show BQ1 (yQ b x=AC)
  rw[e] at h;exact h
theorem ylv{α:CL}(l:CO)(f:AEe):(EW f).any id=l.any f:=BHx
theorem z8g(B_ Zn):uC ztf:=by
 obtain⟨S,l,b,Β,h⟩:=h;refine VB GW (A6 e BMU) (ACy e he) h;refine zk1 GW (A6 s (.bl (yQ b (e - s)))) (fun s hs P' hp' =>(Nw (e - s) b hp')) ?_;show Ee (EW fun s=>Awh) (z13 _ l);rw[ylv];show HI (l.any fun s=>Awh) Azn ž;split
 show Ak1
 show Ak2
theorem Tj(ApU):BXi:=by
 unfold nZ;show AmC (C7 ADc f) n (by
  unfold xW;show AOE ASm AhT ϝ
  congr 1
  omega)
 rw[e];show(ADc f)[n]?=_;rw[Ic,BlB Η];rfl
theorem yjg(B_ S8):mh z2g:=by
 show KA S bs hl h h;have s1:=xV;show Ee APN APN
 show vT (∃x,Γ= [A7I,AmD,AzZ C9 (vD (rk S bs j)),x]) FG
 ·show A_W d x;have hi' :i<HA:=ώ ϯ
  show AQY;cases hi;have eb:ABW i ŗ=bs[i]:=C8 hi'
  refine⟨FG,FG,_,Tj,S,A5S,bs[i],Β,?_⟩;show Ee BJU (.pu (J6 bs[i]))
  rw[BIf D9,Rl,<- eb]
  rfl
 ·rintro _ ⟨x,Β⟩;show He;exact h
theorem zxi{α:CL}{one:Ĳ D (pj D)}(f:AJR)(g:α ->AM):∀{l:CO} {P:AhP},(AHS (∀P:AhP,P [g a] ->one (f a) P)) ->P (EW g) ->wz one ADe P
 | [],_,_,h=>h
 | Fc,P,k,h=>BAz zxi
theorem yes(BYI Vh):zfr K c (aJ 2 AVU) (fun t BY =>(Aoz (Q t))) xI:=by
 show LN ls Β h;show wz _ (ls.map vD) _;refine zxi vD (A6 l (EW GW)) (ŉ l hl hp) AOt;show r6;exact h
theorem zt8(B_ Zo):Q_ zjw:=by
 show AE' m qs hm hz;refine VB qD (A6 x (!(Φ (x<m)))) (ŉ x hx ⟨x,m,Β,hz x hx,hm,?_⟩) ?_
 ·show HI (!(Φ (x<m))) (P [qD x]) ž;split
  show Ak1
  show Ak2
 ·show Q (ET (LZ (C7 (DF qs.filter _) qD)));show He;exact h
theorem z5p{x:AI}{xs:A5}(h:Fall (OF)):Fall xs/\Azt (A0_<=x):=
 ⟨AY4 (BWy C9),XA (BWy 0)⟩
theorem z2i{m:AI}:N4 xs A5 (Azt (A0_<m)) (jr xs m=0)
 | [],_=>Β
 | OF,h=>by
  unfold jr;have h0:=h 0 A2
  rw[Ps,B4 (EF h0)]
  exact z2i fun j hj=>(ů (h (j+1) Af3) Χ)
theorem VD{m:AI}:N4 f A5 (Fall f) (XI v_ (m<=AAd j 0↔j<jr f m))
 | [],_,j,hj=>AL3 hj
 | OF,hf,j,hj=>by
  show AYo z5p hf;show KK (m<=x)
  ·have e:jr AYI m=jr xs m+1:=AXh jr Ps (CH BSo)
   rw[e]
   match j,hj with
   | 0,_=>simpa using q
   | j+1,hj=>
    have:=VD (m:=m) h1 j Af3
    rw[BlC,Χ];omega
  ·have lt:Azt (A0_<m):=XA (BlD (AV (q (ALf z (h2 j hj)))));have e:jr AYI m=0:=Ajz jr Ps (B4 BSo) (z2i lt)
   rw[e]
   match j,hj with
   | 0,_=>simpa using q
   | j+1,hj=>
    have:=lt j Af3
    rw[BlC];constructor
    ·intro z;exact BH2 Χ z
    ·intro z;omega
theorem z7x(f:A5)(m:AI):jr f m<=v_:=Ev Ahm
theorem z3p{a b:A5}(h:AV7)(m:AI):jr a m=jr b m:=Ev (h.filter _).Asd
theorem zvz(h_):(uG qs).OY qs:=(List.reverse_perm _).JY (M6 qs)
theorem yel{f:A5}(hf:Fall f)(e:Δ):e∈jk f↔e=0\/∃m∈f,e=jr f m:=by
 unfold jk;rw[ą];refine or_congr_right ?_;rw[YO];constructor
 ·show AOF k hk;show DE h1 h2 AFl hk;have hk:=o6 h1;refine⟨AlB,Y5 hk,?_⟩;have a:=(VD (m:=AlB) hf k hk).mp AKL;have le:=z7x f (AAd k 0);unfold J5 at h2;simp only [BlE,AGM] at h2;rcases h2 with h2 | h2
  ·omega
  ·show KK (k+1<v_)
   ·have:¬k+1<jr f (AAd k 0):=AV (Rat.not_le.mpr h2 ((VD (m:=AlB) hf LH q).mpr z));omega
   ·omega
 ·show AOF m hm;show AEf i hi hm;have hi' :=(VD (m:=f[i]) hf i hi).mp (SD Vz hi AKL)
  have le:=z7x f f[i];refine⟨AlC - 1,ARW (D_ (BlJ Η)),Τ⟩
  unfold J5;show Bjz BlE;show KK (jr f f[i]=v_)
  ·left;omega
  ·right;rw[NG (AlC - 1+1) AlC]
   have a:¬f[i]<=AAd (jr f f[i]) 0:=AV (ŵ ((VD (m:=f[i]) hf (jr f f[i]) Η).mp z))
   have b:=(VD (m:=f[i]) hf (AlC - 1) Η).mpr Η
   exact BlD (AV (a (ALf b z)))
theorem zj{qs:A5}{i:Ψ}:i∈gZ qs↔i∈A'x:=by
 unfold gZ;rw[YO,ą,YO];have A9:=yel (yda qs);constructor
 ·show AOF e he;rcases(A9 e).mp he with Β | ⟨m,hm,Β⟩
  ·left;rfl
  ·right;exact⟨m,z9w hm,JA (z3p (zvz qs))⟩
 ·rintro(Β | ⟨m,hm,Β⟩)
  ·exact OC 0 ((A9 0).mpr UI)
  ·exact OC (jr qs m) ((A9 _).mpr (E7 ⟨m,(zvz qs).mem_iff.mpr hm,(z3p (zvz qs) m).du⟩))
theorem z71(h_):(gZ qs).AsD (· < ·):=by
 unfold gZ jk;rw[EK,ALW,ZU];show F8 AZJ
 ·show AIm k (o_ hi);exact BlF (BDb k)
 ·rw[Acl];refine(List.Pairwise.filter _ (BGY)).imp fun{a b} h=> ?_;exact BlF Η
theorem znu:∀l:BS,oN AzV=Ε l
 | []=>Β
 | n::l=>by show DF oN AzV _=_;rw[znu];rfl
theorem yml(B_ Zq):AJC ybi:=by
 obtain⟨qs,Β,hl,hz,h⟩:=h;have s1:=xV;refine D_ APN
 refine zk1 qD (A6 m (.AK (jr qs m))) (ŉ m hm ⟨m,qs,Β,hz m hm,hz,hp⟩) ?_;show F8 (by show D5 (1+ C7 AQ9 (fun m=>GW (jr qs m)));show He;omega)
 refine⟨A'x,?_,?_,Ap ms hp hm⟩
 ·have:=znu (A'x);show sT EK ZU;exact Χ
 ·show Aun Da;omega
 ·obtain Β:ms=gZ qs:=z7u hp (z71 qs) (FV (cc hm i zj.symm));exact h
theorem yn4(bs:IQ):(ABX J6).AQ_=bs.reverse.map J6:=MW BlG
theorem yj2(ApU):(ADc f).AQ_=ADc (FV (f (n - i))):=by
 show mM
 ·simp
 ·show AFG;rw[Aqx];simp
theorem Z0(xs:AM):LW xs ŭ Ι=Aba 1:=by
 show AFN;dsimp only;show t7
 cases xs with
 | DB=>rfl
 | AY x xs=>
  rw[show min (ARF 1) (SL AYI)=1 by simp]
  simp
theorem z18(ApU):(ADc f).drop 1=MT (FV (f (D9))):=by
 rw[AsB,EK,Bk',List.tail_cons,ZU]
 rfl
theorem zr9(B_ Zr):mh zh6:=by
 obtain⟨S,n,bs,Β,hl,hn,h⟩:=h;show tF (S.map GW).AQ_;rw[<- BlG];refine zk1 GW (A6 e (.AK APY)) (ŉ e he (DH hn hp)) ?_;have eb:(BoM fun e=>GW (n - e))=(kY S n).B6 ft:=Aj7 kY
 rw[eb];show S8 c [vD (kY S n),.Cc (ABX J6).AQ_] (ť (ĵ zgp [A7I,AmD,.pu (vD (kY S n)),.pu d])) Ex;rw[yn4];refine⟨kY S n,ALh,Β,AX AGX hl,?_⟩
 rw[AGX];show Q (FM (LW (AiB _).AQ_ ŭ Ι));rw[Z0,yj2,z18];exact h
theorem yle(AJo)(f g:ACZ):BfX:=by
 unfold nD;show mM
 ·simp
 ·show AFG;simp
theorem yn0(bs:IQ):ABX J6=BHc (kl (J6 (ABW k ŗ))):=by
 show mM
 ·simp
 ·show AFG;show Axb h1;simp [h1]
theorem ygd:∀l:BS,jN (EW GW)
 | []=>C8 jN
 | i::l=>AX EK ⟨C8 rB,ygd l⟩
theorem ymb(x:Ψ)(l:BS):inD (ET x) (EW ft)=l.contains x:=by
 unfold inD;rw[BlA,<- List.any_beq']
 congr 1
theorem ynw(l:BS):(EW GW).all HX=Μ:=kM BFf Bmf AO7
theorem zp7(B_ Zt):WA zhh 6:=by
 obtain⟨S,n,bs,Β,hl,hn,nS,hg,h⟩:=h;have s1:=xV;refine D_ APN
 refine⟨S,n,bs,Β,hl,hn,?_⟩;show BK (nD (ABX J6) BZW) _ _ _ _ _;rw[yn0,yle];show PD (fun k Γ=>∃x y z,Γ= [A7I,AmD,AzZ LH (.AK (fk S n bs j)),x,y,z]) AQb ?_
 ·rintro k d _ hk ⟨x,y,z,Β⟩;have hk' :AzY:=by
   have:=SW hk
   rwa [Da,ASm] at Χ
  show Ad2 (BlB hk') hk;cases hk;refine A2Z;refine VB GW (A6 e (yQ AZc A0g)) (ŉ e he ⟨_,Tj,e - Aeo,ABW k ŗ,Β,?_⟩) ?_
  ·show if yQ AZc A0g=Μ then Azn else ž;split
   show Ak1
   show Ak2
  refine PR (ygd _) FG;refine VB GW (A6 e Bc0) (ŉ e he ⟨_,hn,Β,ynw _,?_⟩) ?_
  ·show if inD (ET APY) ((rk ANR ALh AUv).B6 .AK)=Μ then Azn else ž;rw[ymb];split
   show Ak1
   show Ak2
  obtain⟨m1,m2⟩:=yl3 nS hg hk';have mm:∀e,e∈ ((BHW (fc (yQ AZc A0g))).AAr fun e=>Bc0)↔e∈Am3:=fc (by
   rw[Ć,Ć,wA,Asz,z0p,and_assoc])
  refine⟨_,AXc,znu _,(mm _).mpr m1,X2 (m2 i ((mm i).mp hi)),BJU,?_⟩
  show∃x y z,_= [Aqy (vD S),AmD,AzZ (k+1+1) (BdW j),x,y,z];show AOA (BIf (k+1));exact AQb
 ·rintro _ ⟨x,y,z,Β⟩;show Azw;show Q (FM (LW (AiB _) ŭ Ι));rw[Z0,z18];have e:AJP HA (ya (BdW C9))=DF BHc (kl AXc) ft:=Aif
  rw[e];exact h
theorem Qa(h_):Sb∈gZ qs:=zj.mpr zY
theorem zuf(h_):Last (gZ qs) FL/\ AII∈gZ qs:=by
 show ADs e1 (z69 (uG qs));rw[z0t] at e1;have BD:AnW - 1< AnW:=Τ
 rw[Vz BD] at e1;show F8 ?_
 ·unfold Last nZ gZ;show AmC (C7 (DF (DF jk AMC) BDG) GW) (AnW - 1) (by
   unfold xW;show AOE Da AhT ϝ
   congr 1
   omega)
  rw[e];show(DF (DF jk AMC) BDG GW)[AnW - 1]?=_;rw[Ic,Ic,xo BD,e1]
  rfl
 ·unfold gZ;rw[YO];exact OC FL (DC e1 (yU BD))
theorem yji(Amc):(rk ADh bs HA).AFv AII=pQ qs bs:=by
 unfold pQ;have:=z4g (bs:=bs) (Qa qs) (zuf qs).2;rw[AsJ,Asz,Asz];exact Χ
theorem yl2(B_ Zu):mh z6j:=by
 obtain⟨qs,bs,Β,hl,hz,hb,h1,h2⟩:=h;refine⟨qs,Β,hl,hz,gZ qs,bs,Β,hb,?_⟩;show∃d,ϕ AiB (FV (vD (rk ADh bs i))) NI d/\_;refine⟨_,Tj,Β,ynw _,?_⟩;show HI (! inD (ET BJD) ((rk ADh bs HA).B6 ft)) _ _;show AT_ ymb yji;by_cases g:Alc bs
 ·rw[UN (AVP g)]
  show DE k1 k2 zuf qs;exact⟨gZ qs,FL,bs,Β,hb,k1,k2,BIa,h1 g⟩
 ·have g' :BS':=CU g
  rw[ANZ (JA g')]
  exact⟨APN,Bg qs bs,Aj7 Bg,h2 g'⟩
theorem zm1(By Zv):E5:=JJ
theorem zra(By Zw):E5:=JJ
theorem ymi{qs:A5}{c:Δ}(h0:0<c)(hc:BLY):ϕ AvL qD (-(B7 c)) (qD ((uG qs).i4 (c - 1) 0)):=by
 have hl:=YH qs;unfold nZ;have e:xW (C7 AvL qD) (-(B7 c))=Ε (FL - c):=by
  unfold xW;show AOE hl mT ϝ
  congr 1;omega
 rw[e];show AzR[BNc]?=_;rw[Ic,AFe Η]
 unfold uG;have h2:c - 1< (oU qs).reverse.length:=AhQ AGX hl
 rw[Vz h2,Aqx];simp only [hl,Option.map_some,NG (FL - 1 - (c - 1)) BNc]
theorem zza(xs:AM)(h:0<BU):LW xs Ι (Ch NI)=xs.dropLast:=by
 show AFN;simp only [Aqv,BlH];rw[CH AD,List.dropLast_eq_take]
 congr 1;omega
theorem yme{f:A5}{c:Δ}{q:AI}(hc:c<=v_)(h:G5 f c=Ε q):q∈f:=by
 show DJ G5;show E4
 ·cases h
 ·cases h;exact Y5 Η
theorem znq(B_ Zv):uC zfs:=by
 obtain⟨qs,cs,Β,hl,hz,hc0,hc,h⟩:=h;refine⟨qs,Β,hl,hz,?_⟩;show tF (LW (cs.map intD) Ι (Ch NI));rw[zza _ (BHg hc0),<- List.map_dropLast]
 have A9:∀d∈Aqe intD,∀P,P [BAb] ->Ml xt d8 BXL [C_,MS AzR] d P:=by
  intro d hd P hp;show sD k hk hd;have hk' :=BVc hc;show APf Sb GE
  change P [Afr BLb] at hp
  rw[oz] at hp;by_cases h0:k=0
  ·subst h0;show t7
   exact hp
  ·show BNX
   refine DH (ymi Η hk') ?_
   unfold G5 at hp;rw[B4 h0] at hp;exact hp
 refine zqm (ť [BAb]) A9 ?_
 rw[zrk,ZU];have e:(fun d:D=>BAb) ∘ intD=kl (Afr k):=by
  funext k
  show bD (G5 (uG qs) BLb)=_;rw[oz]
 rw[e];have e2:Aqe (A6 k (Afr k))=DF Aqe BSt bD:=Aif
 rw[e2];exact h
theorem znd{α:CL}{p:AEe}:∀{l:CO} {i:Δ},(∀j b,j<i ->WJ l b ->p b=AC) ->(J_ (EX l b) (p b=Μ)) ->i<=ED ->l.findIdx p=i
 | [],i,_,_,h=>by simp at h;subst h;rfl
 | x::l,0,_,h2,_=>qS BlI (h2 x Β)
 | x::l,D9,h1,h2,h3=>by
  rw[BlI,h1 0 x Η Β]
  show l.findIdx p+1=D9;rw[znd (fun j b hj hb=>h1 (j+1) b Η hb) (Lo (h2 b hb)) (EF h3)]
theorem zq3(B_ Zw):mh zhn:=by
 show AE' bs m hz hm;show vT (∃(x y:GI),Γ= [MS (ABX bD),î m,x,y]/\∀j b,j<i ->WJ bs b ->BPn) (AEg (fun j b hj=>Τ))
 ·rintro i d _ hi ⟨x,y,Β,hn⟩;show AVy zun hi;cases q:bs[i]? with
  | Ι=>show UV q hi hi
  | Ε b=>
   rw[q] at hi;cases hi;have hil:i<HA:=SW q;have JP:BPn ->∀j b',j<D9 ->WJ bs b' ->isIn m b' =AC:=fun hb j b' hj e=>by
    by_cases ej:j=i
    ·subst ej;show L_;cases e;exact hb
    ·exact hn j b' Η e
   show AJL Β;cases b with
   | Ι=>exact AEg (JP Β)
   | Ε p=>
    refine⟨m,p,Β,hm,hz _ (yV q) p Β,?_⟩;show Alz m p;by_cases hw:(!(Φ (m<p)))=Μ
    ·show Go hw;have e:uH bs m=i:=znd hn (fun b' hb' =>by rw[q] at hb';cases hb';exact hw) Η
     rw[e] at h;rw[BGi];exact h
    ·show CS hw;exact AEg (JP (by simpa [isIn] using hw))
 ·rintro _ ⟨x,y,Β,hn⟩;show Q (ET (ABv ABX bD));rw[zue] at hn;rw[Da] at hn⊢;have e:uH bs m=HA:=znd hn (Lo (AL3 hb)) E2
  rw[e] at h;exact h
abbrev Eo(Q:AI0):qR:=A_F (Mg Q)
theorem zy6{x:Κ}:∀{g:Ρ},inD AWe (g.map .AT)=VV (AWU)
 | []=>C8 inD
 | y::g=>by
  have ih:=zy6 (x:=x) (g:=g);unfold inD at ih⊢;rw[EK,AK9,ih];by_cases h:y=x
  ·subst h;simp [eqD]
  ·have h' :¬x=y:=AV (h ABV);simp [eqD,h,h']
theorem z9e(g:Ρ):(g.map RI).all HX=Μ:=AX BFf (List.all_eq_true.mpr fun _ _=>Β)
theorem zs6{α:CL}(f:AEe):ô (vA (EW fun x=> .bl (f x))=Ε ADe)
 | []=>Β
 | Fc=>bS vA (zs6 f l)
theorem Lr(Amv)(f:AJR)(g:AJR):BMb (P [g a]) EW
 | [],_,_,h=>h
 | Fc,P,k,h=>BAz Lr
theorem zgu(Amv)(f g:AJR)(p:AEe):BMb (P (if AIb then [g a] else [])) BN7
 | [],_,_,h=>h
 | Fc,P,k,h=>k a zY _ (zgu f g p ATI (by
   rw[Ps] at h;show KK AIb
   ·rw[Hk] at h⊢;exact h
   ·rw[QY] at h⊢;exact h))
theorem ymt(B_ Vi):Q_ z6y:=by
 show AXN g hs;refine Lr RI (A6 x (Aty AWU)) (ACy x hx) ?_
 ·show Ee Β (z9e g);rw[zy6];exact hp
 ·refine DH (zs6 _ hs) ?_;have e:(S4 (XU (Φ AWU))).any id=d9 g hs:=BHx
  rw[e];exact h
theorem z22{hs:Ρ}{h x:Κ}:x∈jj hs h↔x∈hs\/x=h:=by
 unfold jj;split
 ·exact⟨.A0,Q3 (by rcases q with q | Β;exact q;assumption)⟩
 show BPh
theorem zs8{hs:Ρ}{h:Κ}(nd:AKM):(jj hs h).OO:=by
 unfold jj;split
 ·exact nd
 ·show L6;rw[AGV];exact BfG nd q
theorem yef(A8y):So jj hs h<=Aac+1:=by
 unfold jj;split
 ·omega
 ·simp
theorem Gh{α β:CL}{x:β}{l:QU}:(ON x:Sum α β)∈EW ON↔x∈l:=AX YO ⟨fun⟨y,h,e⟩=>by injection e with e;exact e ▸ h,BS3⟩
theorem Ls(A8y):mR (S4 WI) Ϣ=VV (ϧ):=by
 show KK ϧ
 ·show AIu q;exact v7.mpr (Gh.mpr q)
 ·show ADw q;cases z:mR (S4 ON) Az8 with
  | AC=>rfl
  | Μ=>exact tq Gh.mp (v7.mp z) q
theorem zlp(A8y):iI (S4 WI) Ϣ=(jj hs h).B6 WI:=by
 unfold iI jj;rw[Ls];show KK ϧ
 ·rw[AEQ,EB,Hk]
 ·rw[AJE,AhT,QY,Rl];rfl
theorem z9a{hs:Ρ}{xs:AM}{h:Κ}{d:D}(e:AVE Aac):So jj hs h=SL (fu AWi xs Ϣ d):=by
 unfold fu jj;rw[Ls];show KK ϧ
 ·rw[AEQ,EB,Hk,Acq,Da,e,ALY]
 ·rw[AJE,QY,cz];simp [e]
structure VF (Ξ:CF) (n:Δ) (ws:Ρ) (ps:AVp):Θ where
 len:BJt
 nd:ć
 lw:Mm<=n
 pt:BeF
 ex:BUh
theorem zvk(A_C):gV Ana w=BAg AHO [r]:=by
 unfold gV;rw[Abe]
 congr 1
 show AVn AJg
theorem z6h(A_C):kW Ana w=BAg Ľ [C4]:=by
 unfold kW;show AOA zvk
 congr 1
 show AVn AJg
theorem ydd{Ξ:CF}{w:Κ}(h:¬(s0 AJg)):BR7:=Ev (Asy fun r hr z=>h ⟨r,hr,BkS⟩)
theorem zym(A_C):yh Ana w=BAg (Ĵ yh) [C4]:=by
 unfold yh;show AOA Abe
 congr 1
 show AVn AJg
theorem eF{Ξ:CF}{w h:Κ}:h∈Ĵ yh↔s0 BAw:=by
 unfold yh;rw[YO];constructor
 ·rintro⟨r,hr,e⟩;show AYo AFl hr;exact⟨r,h1,wy h2,e⟩
 ·rintro⟨r,h1,h2,e⟩;exact⟨r,ARW ⟨h1,BId⟩,e⟩
theorem VF.new{Ξ:CF}{ws:Ρ}{ps:AVp}{w:Κ}(B:Awr)(hw:w∉ws):VF Ξ BkJ A4Z BRW:=by
 refine⟨C8 wT,?_,CU B.lw,GN q v p h1 h2,fun u q v p h1 h2=> ?_⟩
 show Dx AGV (BfG B.nd hw)
 ·by_cases hq:q<Mm
  ·show BH8 hq h1;rw[BWu] at h2
   exact B.pt q v p h1 h2
  ·have hl:q< SL A4Z:=SW h1;rw[TU,AR'] at hl;have hq' :q=Mm:=Τ
   subst hq';rw[A4f] at h1;show BbT
   simp at h1;simp [wT] at h2;show AIg;refine⟨Β,CY,IS,D6 ⟨BN_,Ϟ⟩⟩
   obtain⟨r,hr,e,_⟩:=eF.mp z;exact tq BKu A8m hw
 ·by_cases hq:q<Mm
  ·show BH8 hq h1;rw[BWu] at h2
   exact B.ex u q v p h1 h2
  ·have hl:q< SL A4Z:=SW h1;rw[TU,AR'] at hl;have hq' :q=Mm:=Τ
   subst hq';rw[A4f] at h1;show BbT
   simp at h1;simp [wT] at h2;show AIg;have:=ydd (Ξ:=Ξ) (w:=w) fun A8m=>hw (BKu A8m);unfold kW;rw[Χ];rfl
theorem z3e{ws:Ρ}(nd:ć){i j:Δ}(hi:Ax8)(hj:j<Mm)(e:gy=ws[j]):i=j:=by
 show AnK nd;rcases BGV i j with q | q | q
 ·exact WG e (A9 i j hi hj) q
 ·exact q
 ·exact WG i9 (A9 j i hj hi) q
theorem VF.put{Ξ:CF}{ws:Ρ}{ps:AVp}{r:Rw}{q:Δ}{p:Ρ×AM}(B:VF Ξ BkJ ws ps)(wm:BXM (s0 (CI=v)) CI)(h1:y0 ws CI)(h2:y0 ps p)(d:D)(hd:d= ACj):
  PK Ana ws (ps.set q (jj Cl C4,fu (Af9 .AZ) p.2 (E7 C4) d)):=by
 show Aph (B.pt q CI p h1 h2);have hq:q<II:=SW h2;refine⟨AX BmC wT,B.nd,CU B.lw,G1 v,GN q' v p' e1 e2,fun u q' v p' e1 e2=> ?_⟩
 ·rw[wm v];constructor
  ·rintro(⟨r',h,e⟩ | e)
   ·exact⟨r',zP _ h,e⟩
   ·exact⟨r,CY,i9⟩
  ·rintro⟨r',h,e⟩;show dA (zT.mp h)
   ·exact .A0 ⟨r',h,e⟩
   ·rw[ĭ h] at e;exact .AZ i9
 ·by_cases xZ:q=q'
  ·subst xZ;rw[h1] at e1;cases e1;show AX6 hq;cases e2;refine⟨z9a b1,zs8 b2,zO yef (EF b3),AOj⟩
   rw[z22,zym,EB,AaU,b4 h,AFf]
  ·rw[Abr xZ] at e2;obtain⟨c1,c2,c3,c4⟩:=B.pt q' v p' e1 e2;have hv:¬CI=v:=AV (by
    have l1:=(d_ h1);have l2:=(d_ e1);obtain⟨l1,l1'⟩:=l1;obtain⟨l2,l2'⟩:=l2;exact Be2)
   refine⟨c1,c2,CU (AxN c3),AOj⟩
   rw[c4 h,zym,AhS,RY]
 ·have u0:LO:=(BDl u).1;by_cases xZ:q=q'
  ·subst xZ;rw[h1] at e1;cases e1;show AX6 hq;cases e2;have ep:=B.ex u0 q CI p h1 h2;have hn:C4∉Cl:=AV (by
    rw[ep] at z;obtain⟨r',hr',g1,g2⟩:=AKO z;exact(BDl u).2.2 r' hr' r A2 ⟨g1,g2⟩)
   rw[z6h,zvk,EB,EB];unfold jj fu;rw[B4 hn,Ls,Ē hn,cz,ep,hd,Rl]
   rfl
  ·rw[Abr xZ] at e2;have hv:¬CI=v:=AV (by
    have l1:=(d_ h1);have l2:=(d_ e1);obtain⟨l1,l1'⟩:=l1;obtain⟨l2,l2'⟩:=l2;exact Be2)
   rw[z6h,zvk,AhS,AhS,RY,RY];exact B.ex u0 q' v p' e1 e2
theorem zu7{ws:Ρ}(nd:ć):ź NU BNR:=by
 unfold BFu;rw[Acl];exact nd.imp fun h z=>h Axk
theorem z8v(B_ S9):AYJ ztn 5:=by
 show AEs Ξ hl;have s1:=xV;intro as;show vT (Bjn (PK BHs ws ps)) ?_
 ·exact⟨as,[],[],_,_,_,⟨Β,CY,CY,HG (AOH BN_ r hr _ (by(simp at hr))),fun q w p e=>(by simp at e),fun _ q w p e=>AXL⟩,Β⟩
 ·rintro i d _ hi ⟨as,ws,ps,x,y,z,B,Β⟩;have hi' :i<nN:=ώ ϯ
  show AQY;cases hi;have tk:AAt C9=AAt i++ [ACO]:=A4h
  have BD:C7 AAt i=i:=ADK oB
  have D4:∀as ws ps,VF BHs (C7 AAt i+1) ws ps ->(BXM (∃r∈AAt i,CI=v) AC') ->
    zik K c {nx:=Bdu,ct:=Bdu,bk:=fun Γ=>(ALm zn6 Eo Γ),rt:=rX,rT:=Mg Q}
     [ř,Ŗ (.dic fe AfF),Sf AC',Sf ACO.2.1,Co ACO.2.2] xI:=by
   intro as ws ps B wm;have hm:AC'∈ws:=(wm _).mpr (E7 Β);show DT q hq eq ASS hm;have Be:q<II:=DC wT hq
   have e1:y0 ws AC':=HH (xo hq) eq
   have e2:y0 ps ps[q]:=zZ Be;show Aph (B.pt q _ _ e1 e2);have BW:=B.put wm e1 e2 (ET ACO.2.2) Β;rw[<- tk] at BW;refine⟨AyC,.AZ ACO.2.1,as,Ϸ,A2L,q,(ps[q].1).B6 WI,ps[q].2,Β,Β,Β,zu7 B.nd,AJV e1,AJV e2,AI1,?_⟩
   refine⟨as,ws,_,Sf AC',Sf ACO.2.1,Co ACO.2.2,BW,?_⟩;rw[zlp,List.map_set]
   rfl
  refine⟨Β,Β,AyC,as,Ϸ,A2L,Β,Β,?_⟩;rw[Ls];by_cases hw:AC'∈ws
  ·show AIu hw;refine D4 as ws ps ⟨wT,B.nd,AxN B.lw,B.pt,B.ex⟩ (G1 v);rw[AAs v];exact⟨.A0,AV (by rcases z with z | Β;exact z;exact(AAs _).mp hw)⟩
  ·show ADw hw;refine⟨AyC,as,Ϸ,A2L,Β,Β,HH Ls (Ē hw),BKt B.lw,G1 cs⟩
   have:=D4 A3c (ws++ [AC']) BRW (VF.new B hw) fun v=>by
    rw[AaU,AAs v,AFf]
   show sT Rl Rl;exact Χ
 ·rintro _ ⟨as,ws,ps,x,y,z,B,Β⟩;have e:AAt (C7 Aq0 Bv)=Ξ:=HH Da w_
  rw[e] at B;exact h ws ps B
theorem zxj:∀xs:Ρ,v9 Ai1=Ε xs
 | []=>Β
 | OF=>by rw[EK];unfold v9;rw[zxj xs];rfl
theorem yio{xs U:Ρ}(h:Si xs U):C7 uo xs<=ABc:=J3 (zsy xs) (APR (h x (BR.mp hx)))
theorem yj6{xs U:Ρ}{P:qc}(h1:BU<4095)(h2:A6M)(h3:Si xs U)(h:BYE (A5r xs)):zvb [gl xs] P:=
 ⟨xs,zxj xs,h1,zL (yio h3) Η,h⟩
theorem zfx{p:Ρ ->AO}:∀fs:OA,AxW (As0 p).BDn
 | []=>CY
 | m_=>by
  have:=zfx (p:=p) fs;rw[Ps];split<;>simp only [AdD,TU]<;>omega
theorem zya(fs:OA)(i:Δ):AxW (ARX i).BDn:=by
 conv=>rhs;rw[<- AhJ fs,Abf,TU]
 omega
theorem ydu(B_ Zx):WA zx3 5:=by
 obtain⟨fs,hs,U,Β,hl,hfl,hU,u1,u2,h⟩:=h;have ABO:xk 8000:=CD
 refine zgu gl gl BNr (ACy f hf) ?_
 ·show PD f hs Β;show HI (! AMb) (P [gl f]) ž;show KK (AOL AMb)
  show AYi Hk
  show AYi QY
 ·show vT (∃x,Γ= [BML,.pu (gl hs),MS (DF As0 (fun f=> ! AMb) gl),.ow ((hs++ ((ARX i).AAr Ak5).Abg).B6 .AT),x]) ⟨C_,by simp [gl];rfl⟩
  ·show A_W d x;have hi' :i<AKg:=ώ ϯ
   show AQY;cases hi;have tk:ARX C9=ARX i++ [AI8]:=A4h
   show PD AI8 hs Β;show if AYk AI8 then _ else _;show KK (AYk AI8)
   ·show Go q;show PD FG ?_ (.pu (gl AI8))
    ·have h1:=zfx (p:=Ak5) (ARX C9);have h2:=zya fs C9;rw[tk,Abe,Abf,TU] at h1;simp only [Ps,q,oC,BDo,AdD,BlL,RY] at h1;rw[tk] at h2;show AT_ TU Da;omega
    ·show BUm;show BZs oC BDo AdD;rw[<- Ī,Rl (l₂:=AI8)]
     rfl
   ·show CS q;show F8 (.pu (gl AI8));show BUm;show BZs Acj AK8 BDo
    rfl
  ·rintro _ ⟨x,Β⟩;have e:ARX (C7 AcA gl)=fs:=HH Da w_
   rw[e];have hx:Adg (hs++ (As0 Ak5).Abg) (x∈hs\/AnC (AYk f/\AOl)):=XU (by
    rw[AaU,List.mem_flatten];constructor
    ·rintro(a | ⟨f,hf,a⟩)
     ·exact .A0 a
     ·show AYo AFl hf;exact .AZ ⟨f,h1,h2,a⟩
    ·rintro(a | ⟨f,h1,h2,a⟩)
     ·exact .A0 a
     ·exact .AZ ⟨f,ARW AlY,a⟩)
   unfold zrq;dsimp only [aF,bA,cC,cV,cB,cT,iU,vK,iQ,fC,jV,gj,rY,aq,aj,eY,dZ,dU,fL,bh,gK,cM,aX,c7,LV,fY,bC,fZ,jD,jW,aB,cU,iT,gF,cQ,fW,cN,dR,bU,jE,tW,vo,qY,xJ,vp,ji,mK,qu,dD,wI,sO,tY,lX,xK,xM,dh,lM,gO,lN,lO,Ki,MG,MH,Mb,Kk,fM,m9,sU,vq,qC,pF,qw,lQ,fO,dW,jF,rA,sE,vB,iV,sG,dw,dX,uc,xQ,uf,lR,lU,iL,fj,gR,kE,d8,LX,Mc,Iq,LY];refine yj6 (U:=U) ?_ hU (XB x q) (Tu ms s2)
   ·have:=zfx (p:=Ak5) fs;rw[TU];omega
   ·rcases(hx x).mp q with a | ⟨f,h1,_,a⟩
    ·exact u1 x a
    ·exact u2 f h1 x a
   ·show Ee Ai2 ?_
    ·have:=Arq BNr fs;show He;omega
    ·have:=h ms s1 fun x=>(s2 x).JY (hx x);show B8 Rl;exact Χ
theorem Qc{g:Ρ}(h:AU1 g.Pairwise):g.Nodup:=h.imp fun{a b} q z=>(AgH z0r)
theorem Z1(a b:Κ)(h:AS_):¬(ŀ b a):=AX (z2o h) zJ
theorem z1t{Ξ uV :CF}{Ss Le :OA}(F:Fam Ξ Ss)(F' :Fam uV Le)(e:Bja):A8h :=fun S hS=>by
 show EQ r hr k F.of S hS;obtain⟨S',hS',k'⟩:=F'.to r ((e r).mp hr);refine⟨S',hS',G1 x⟩;rw[k x,k' x,eF,eF];exact AOH (fun⟨r,h,q⟩=>⟨r,(e r).mp h,q⟩) r h q ⟨r,(e r).mpr h,q⟩
theorem Ge.sub(Bgl):AZC (m∈Ep) :=AfQ (by
 show AQi h.pi;obtain⟨Le,F',p'⟩:=h'.pi;obtain⟨m',hm',k⟩:=p.same p' (z1t F F' e) (z1t F' F (WS (UX e r))) hm;rw[YK Z1 (h.sr m hm) (h'.sr m' hm') k];exact hm')
theorem Ge.uniq(Bgl):ms=Ep :=
 YK (R:=fun a b=>A_7) (fun a b q=>Z1 _ _ q) h.up h'.up fun m=>⟨h.sub h' e m,h'.sub h (x0 (UX e r)) m⟩
theorem yg1{f:Ρ}(h:f≠ []):hdS f∈f:=by
 cases f with
 | DB=>show AUM h
 | AY x f=>exact zY
theorem z15:∀{fs:OA},(AZL (f≠ [])) ->A7r ->ź AcA hdS
 | [],_,_=>CY
 | m_,ne,d=>by
  rw[ALW] at d;rw[EK,Ack];show Db Ϟ (z15 (fun g hg=>BVn) d.2);show bi g hg (o_ z);exact d.1 g hg (hdS f) (yg1 (ne f zY)) (e ▸ yg1 (ne g (zW _ hg)))
theorem ybp:N4 fs OA (AZL (f≠ [])) (AxW AKg)
 | [],_=>CY
 | m_,ne=>by
  have:=ybp (fs:=fs) (AlT BVn);have h1:0<v_:=Ą (ne f zY);rw[FI,AdD,TU];omega
theorem z11{Ss fs:OA}{U:Ρ}(p:AP1)(h:AUw (Si S U)):AYc (Si f U):=fun f hf x hx=>by
 show bP S hS ((p.co x).mp ⟨f,hf,hx⟩);exact h S hS x q
theorem z1j{Ss fs:OA}{U:Ρ}(p:AP1)(nd:AYc f.Nodup)(h:AUw (Si S U)):BDH<=ABc:=
 J3 (znm p.dj nd) (APR (by
  show Ahx f hf q hx;exact z11 p h f hf x q))
theorem Qd:∀l:AM,j8 (Zs EW)=l
 | []=>Β
 | d::l=>by rw[EK];unfold j8;rw[Qd l];rfl
theorem zoy{α:CL}(f:α ->T):ô (j8 (EW f)=EW (XU (toD (f x))))
 | []=>Β
 | d::l=>by rw[EK];unfold j8;rw[zoy f l];rfl
theorem yb7(hs:Ρ):(S4 BNR).B6 o8=S4 .AT:=Aif
theorem yeo(B_ Zy):AYJ zwf 3:=by
 obtain⟨Ξ,U,Β,hl,hU,hu,h⟩:=h;refine⟨IS,Ξ,Β,hl,Ap ws ps B⟩;have hpU:WN ps (((Cl).OO/\Cl≠ []/\Si Cl U)/\BPp Cl):=WP (by
  show BY0 hp;have Be:q<Mm:=AX wT hq
  show Aph (B.pt q _ p (zZ Be) BP5)
  obtain⟨r,hr,er⟩:=(AAs ws[q]).mp (yU Be);refine⟨⟨b2,Ϟ,A4X⟩,r,hr,XU (AX er (b4 x))⟩
  ·have:=(b4 C4).mpr (Aq4 ⟨r,hr,er,Β⟩);show B8 z;show E3
  ·obtain⟨r',h1,_,h3⟩:=eF.mp ((b4 x).mp hx);exact h3 ▸ hu r' h1)
 have few:∀i,∀S∈ (Aq3 i).B6 (·.1),Si S U:=fun i S hS x hx=>by
  show sD p hp hS;exact(hpU p (ARQ hp)).1.2.2 x hx
 show vT (∃fs x,ou ((ps.take i).map (·.1)) fs/\ (AZL (AU1 f.Pairwise))/\Γ= [ř,BML,x]) ⟨[],_,CU ou.nil,AZB (by(cases hf)),Β⟩
 ·rintro i d _ hi ⟨fs,x,p,sr,Β⟩;rw[zoy] at hi;have hi' :Ax7:=ώ ϯ
  show AQY;cases hi;have tk:Aq3 C9=Aq3 i++ [VA]:=A4h
  obtain⟨⟨q1,q2,q3⟩,_⟩:=hpU VA (yU hi');have l1:=J3 q1 q3;have l2:=z1j p (fun f hf=>BXa) (few i);have l3:=ybp p.ne;refine⟨fs,VA.1,U,?_,Τ,Τ,hU,q3,z11 p (few i),Ap g g1 g2⟩
  ·rw[yb7];rfl
  ·refine⟨Ani (d9 f VA.1),_,?_,BO f hf,Β⟩
   ·show AOA tk;exact p.step q2 g2
   ·show UD hf hf hf
    ·exact sr f (AVK hf)
    ·show tm hf;exact g1
 ·rintro _ ⟨fs,x,p,sr,Β⟩;have e:Aq3 (C7 j8 AfF)=ps:=by rw[zoy,Da,w_]
  rw[e] at p;have abV :∀S∈Nd (·.1),Si S U:=ACQ (few II) w_
  have l2:=z1j p (fun f hf=>BXa) abV;have l3:=ybp p.ne;refine⟨fs,Β,p.ne,z15 p.ne p.dj,Τ,fun ms pm up=>h ms ⟨AfQ (sr m (Abh hm)),up,_,ACh (BO S hS) r hr,p.perm pm⟩⟩
  ·show sD p hp hS;exact(hpU p hp).2
  ·have hw:=(AAs CI).mpr (OC r hr);show BY0 hw;have Be:q<II:=DC wT hq
   show Aph (B.pt q CI ps[q] BP5 (zZ Be))
   exact⟨ps[q].1,AaY (NE (yU Be)),b4⟩
theorem q27{q z k:AI}(k0:k≠0)(e:q*k=z):q=z/k:=by rw[<- e,MI,xE,BkI k0,ALg]
def GZ(B:Δ)(q:AI):Θ:=∃z:Ψ,q*27720=BB z/\A1J
theorem GZ.add(BcN):GZ (A+B) (p+q):=by
 obtain⟨a,ea,ha⟩:=h1;obtain⟨b,eb,hb⟩:=h2;show ã (a+b) Τ
 rw[Asx,<- ea,<- eb];grind
theorem GZ.sub(BcN):GZ (A+B) (p - q):=by
 obtain⟨a,ea,ha⟩:=h1;obtain⟨b,eb,hb⟩:=h2;show ã (a - b) Τ
 rw[AdA,<- ea,<- eb];grind
theorem GZ.mono{A B:Δ}{q:AI}(h:GZ A q)(l:A<=B):AN1:=by
 show LN a ea ha;exact⟨a,ea,zO ha l⟩
theorem yas{B:Δ}:A9o AN1 (GZ (FL*B) (fJ qs))
 | [],_=>⟨0,ũ fJ,CY⟩
 | q::qs,h=>by
  refine((h q zY).add (yas Aza)).Į ?_;show A3T;omega
theorem Tn{n:Δ}(h1:1<=n)(h2:n<=12):n* (27720/n)=27720:=by
 match n,h1,h2 with
 | 1,_,_=>rfl
 | 2,_,_=>rfl
 | 3,_,_=>rfl
 | 4,_,_=>rfl
 | 5,_,_=>rfl
 | 6,_,_=>rfl
 | 7,_,_=>rfl
 | 8,_,_=>rfl
 | 9,_,_=>rfl
 | 10,_,_=>rfl
 | 11,_,_=>rfl
 | 12,_,_=>rfl
theorem z52{t:Ψ}{n B:Δ}(h1:1<=n)(h2:n<=12)(ht:Asv<=B):APD B (WH t (LZ n)):=by
 have e:=Tn h1 h2;have n0:la n≠0:=AV (by
  have:n=0:=by show Aea
  omega)
 show Ee (t* EZ (27720/n)) ?_
 ·show BPE (BB 27720) (la n* la (27720/n))
  rw[e',P2,MI,xE,<- xE (Inv.inv (la n)),AIt n0,BDe]
  rfl
 ·rw[Ĩ];refine AaS ht ?_;rw[Bk0];exact Nat.div_le_self _ _
theorem ygs{t:Ψ}{B:Δ}(ht:Asv<=B):APD B (BB t):=by
 show Ee (t*27720) (JA P2)
 rw[Ĩ];exact AaS ht (zN _)
theorem yia(A5U)(h:AN1)(hB:B<2^n):dF ABb<=n/\dF AIq<=15:=by
 show LN z e hz;have eq:q=BO6:=q27 AD e
 have b1:dF z<=n:=lW Η
 have f:=BTj AD
 have e1:(fr z 27720).1=_:=BK3;have e2:(fr z 27720).2=_:=BK4;show A6S;rw[eq];show Db (Alh b1) (zO (BRe ?_) (lW AD))
 ·rw[<- e1];exact yf6 AD
 ·rw[<- e2];exact yhd AD
theorem VG(A5U)(h:AN1)(hB:B<2^n)(hn:15<=n):Sz n q:=⟨BQz,zO (yia h hB).2 hn⟩
theorem Ng(A5U)(h:AN1)(hB:B<2^n)(hn:n<=128):SzE q:=by
 refine D_ (zO BQz hn);show LN z e hz;have eq:q=BO6:=q27 AD e
 have f:=OT BHQ (BTj AD)
 dsimp only at f;rw[eq,<- f];exact⟨dv z 27720,AX Ac' (U7 z 27720).du⟩
theorem yiu{n:Δ}(h:1<=n):qD (AmP n)= AJJ NI n:=by
 have f:=YF (t:= -1) (b:=L8) Η
 have e1:(fr NI L8).1=_:=BK3;have e2:(fr NI L8).2=_:=BK4;show A6S;have g:dv NI L8=1:=by unfold dv;show CS Η;simp
 have t1:=z3k NI L8;have t2:=U7 NI L8;rw[g,Int.one_mul] at t1 t2;unfold qD;have c:(AmP n)=Lv (-1)/ BB (EZ n):=Β;rw[c,<- e1,<- e2,t1,t2]
theorem yav{α:CL}(f:F9):ô (fJ ADe=c8)
 | []=>Β
 | Fc=>by show f a+fJ (EW f)=f a+c8;rw[yav f l]
theorem Z2(AoC):yk (AGe PL) (AXV WI) (Ű fun r=> ACj):=Β
theorem ztr(B_ PN):Q_ zj2:=by
 obtain⟨Ξ,ws,h0,Β,h⟩:=h;refine zgu AiV AiV (ϙ AUF) An8 h;refine⟨_,_,.AZ h0,AWY,Β,?_⟩;rw[Ls];show KK AG6
 show AYi AEQ
 ·rw[AJE] at hp⊢;exact hp
theorem Ka(BSF){w:Κ}(h:AO5):1<=AJk/\ AJk<=12:=AX SJ ⟨Ą h,L.wk w⟩
theorem ykk(B_ Zz):WA z1s 5:=by
 obtain⟨Ξ,ws,h0,o0,Β,L,⟨W1,W2⟩,h⟩:=h;have s1:=xV;refine⟨Ξ,ws,h0,Β,Ξ,AKT (A6 w AUF),o0,Β,?_⟩
 let both:=(AKT AiW).AAr (HG (Φ Auw))
 have hb:∀w∈both,AO5:=Ï (W2 w (AVK (AVK hw)));have hbl:Abk<=200:=zO (zO AXF (Arq _ _)) W1
 let f:D7:=HG (AmP AJk)
 have gz:∀w∈both,GZ 27720 (f w):=Ï (by
  have:=z52 (t:= -1) (B:=1) (AxR hb) (Ka L (hb w hw)).2 AD
  show B8 ASq;exact Χ)
 show Hc gs (BRf A0P ARd) (kl (by
  refine(yas AJq).Į (BXB (BRd BJe hbl))
  show ADG w hw BPU;exact gz w hw)) e2 (fJ (ARd f)=aD ws (HG (N2 A6I (f w)))) (by
  rw[yav];rw[Lg,Lg];refine nj (BO w _);by_cases q1:AG6
  ·by_cases q2:Auw<;>simp [q1,q2]
  ·simp [q1]) e3 ((aD WU fun s=>(N2 (h0∈s/\o0∈s) AkM))= - A9h) (by
  rw[e2,Lh];have: - (aD ws (HG (N2 A6I (f w))))=aD ws (HG (NI* (B5 A6I (f w) 0))):=mo Lf
  rw[Χ];refine nj (BO w _);split
  ·show 1/ BB (LZ AJk)=NI* (AmP AJk);rw[MI,MI];have:Lv (-1)= -1:=Β;rw[Χ];grind
  ·grind) pw (∀n,23<=n ->200*27720<2^n) (fun n hn=>(Ao5 (AWj (200*27720<2^23)) hn))
 refine Lr AiV (ϙ (AJJ NI (EZ AJk))) An8 ?_
 ·refine⟨_,_,AWY,ϰ,?_⟩
  show He;exact hp
 refine⟨ARd f,?_,AJq,BPX,?_⟩
 ·show r6;show AXX OT (E9 [AFn z]) A3b;exact UX yiu (AxR hb)
 ·show A9s;exact A8u (gz w hw)
 have gt:=gs BJe;rw[w_] at gt;show F8 AOk
 rw[Ti];by_cases q:h0=o0
 ·subst q;show AIu Β;have eb:Abk=C7 AKT AiW:=by
   show C7 (AKT AiW).AAr AiW=_;rw[Aab];simp
  have ec:jy WU h0=BIt:=by
   unfold jy;rw[Lh,eb];have:=PJ (α:=Κ) 1 (l:=A0k AUF);show B8 Lg;show B8 ALg;show Ø;exact BMJ AG6
  refine⟨ϰ,BHv,A9h,?_,?_,BjF gt,?_⟩
  ·rw[Sh,Da]
  ·exact BVC (zL (AHd (ABz (EZ Abk)<=200*27720)) (pw 4000 AD))
  ·have:BHv+A9h=gb WU h0 h0:=by
    unfold gb;rw[EB,e3,ec];show BIt+_=_
    grind
   rw[Χ];exact h
 ·show ADw q;have:fJ (ARd f)=gb WU h0 o0:=by
   unfold gb;rw[B4 q,e3];grind
  rw[Χ];exact h
theorem ye6(B_ ZC):uC zyl:=by
 show SK Ξ ws m h0 L W h h;refine Lr RI (A6 o (Afv h0)) (ACy o ho) h;exact⟨Ξ,ws,h0,o,Β,L,W,hp⟩
theorem zw0(A3w):ô (oN (EW fun a=> .AK (f a))=Ε ADe)
 | []=>Β
 | Fc=>by unfold LX oN;rw[zw0 f l];rfl
theorem zv5(A3w):ô (Lv BQi=AW1 (BB (f a)))
 | []=>Β
 | Fc=>by
  show BLZ Asx (zv5 f l);rfl
theorem zzs{α:CL}(f:α ->Ψ){B:Δ}:AZn ((f a).į<=B) (ABz (BQi)<=ED*B)
 | [],_=>CY
 | Fc,h=>by
  have h1:=Ak9;have h2:=zzs f (l:=l) BVZ;show BLZ FI BHS;omega
theorem zy3(B_ ZD):AJC zn8:=by
 show AE' Ξ w L ne;have hp:=Ą ne;have h12:=L.wk w;refine⟨_,_,Ű (A6 r pp),AWY,zw0 _ _,_,_,AWY,_,_,Β,?_,?_,?_⟩
 ·have:=AFJ (zzs (fun r:Rw=>pp) (B:=2^100) (l:=AHO)) BZ0;refine AUa 104 (zL Χ ?_)
  exact zL BOK AD
 ·show ACN SJ;exact AUa 4 Η
 ·show AOE SJ mT zv5
  exact h
theorem ydo{L:CF}{h:Κ}:gA (dQ fun r=> .AZ C4) (dQ fun r=> ACj) Ϣ=DF L.find? (WS Ank) Azb:=by
 induction L with
 | DB=>rfl
 | AY r L ih=>
  rw[EK,EK,Arp];unfold gA;show AmE
  ·rw[CH (by rw[q]),AEQ];rfl
  ·rw[B4 (E9 (q Axk)),AJE];exact ih
theorem z7v(BSE)(BTf):s0 (CI=w/\C4=h/\gA (AXV .AZ) (Ű fun r=> ACj) Ϣ=Ε (ET pp)/\AgT h=AIK):=by
 obtain⟨r,hr,e1,e2⟩:=AKO hh;refine⟨r,hr,e1,e2,?_,?_⟩
 ·unfold kW;show r6;have:=ydo (L:=AHO) (h:=h);show gA (Ű fun r=> .AZ C4) _ _=_;rw[Χ];cases q:AdI find? fun r=>Ank with
  | Ι=>
   have:=Bkp q r (AaX ⟨hr,e1⟩);simp [e2] at Χ
  | Ε s=>
   have s1:=AQ7 (Bkq q);have s2:kH=h:=CU (Bkr q)
   rw[yjw u s1.1 hr ((s1.2).JY e1.symm) (eQ e2.symm)];rfl
 ·have:=Sy u hr;show sT e1 e2;exact Χ
theorem Qe(BT1):dg Ŕ (AGe yW)=AMy (x0 AIK):=by
 unfold dg;rw[SJ,ygl]
 congr 1
 show AP';have:=Sy u AgX;show B8 AlD;rw[Χ]
theorem yaf(BSF){w:Κ}(ne:AO5):APD (2^104) (AMy (x0 AIK)):=by
 have hp:=Ą ne;have h12:=L.wk w;have:=AFJ (zzs (fun r:Rw=>pp) (B:=2^100) (l:=AHO)) BZ0;rw[<- zv5];refine z52 hp h12 (zO Χ (zO BOK AD))
theorem ybg{Ξ:CF}(u:LO)(L:lc)(BTf):APD (2^105) (AgT h - dg Ŕ (AGe yW)):=by
 obtain⟨r,hr,e1,e2,_,ey⟩:=z7v u hh;rw[ey,Qe u];have ne:AO5:=AV (by
  have:=AaX ⟨hr,e1⟩;show B8 z;show E3)
 exact((ygs (B:=2^104) (zO (ĕ (L.mm r hr)) AD)).BM (yaf L ne)).Į AD
theorem ydk(B_ ZF):Q_ zxx:=by
 obtain⟨Ξ,ws,h0,Β,u,L,⟨W1,W2⟩,h⟩:=h;have s1:=xV;have pw:∀n,128<=n ->200* Ajk<2^n:=fun n hn=>(Ao5 (AWj (200* Ajk<2^128)) hn)
 let wh:=A0k AUF
 have Qf:∀w∈wh,ADR/\AG6:=Ï (BNo hw hw)
 let f:D7:=HG (AgT h0 - dg Ŕ (AGe yW))
 refine⟨Ξ,ws,h0,Β,?_⟩;refine Lr AiV (ϙ (qD (f w))) An8 ?_
 ·obtain⟨r,hr,e1,e2,lk,ey⟩:=z7v u (AN8 Qf);refine⟨_,_,.AZ h0,ACj,AWY,Β,lk,ϰ,Ξ,w,Β,L,W2 w (Qf w hw).1,?_⟩
  refine⟨Lv pp,_,MW Sh,?_,A8u (yaf L (W2 w (Qf w hw).1)),?_⟩
  ·exact YG (zO (lW (L.mm r hr)) AD) AD
  ·rw[<- Qe u,<- ey];exact hp
 ·have gs:BRf (200* Ajk) Aq7:=kl (by
   refine(yas AJq).Į (BXB (BRd (C7 Aq7 f) (zO AXF W1)))
   show ADG w hw BPU;exact ybg u L (AN8 Qf))
  refine⟨Aq7 f,Aif,AJq,BPX,?_⟩
  ·show A9s;exact A8u (ybg u L (AN8 Qf))
  ·have:fJ (Aq7 f)=oA ye AT3 ws h0:=by
    rw[yav];rw[Lg];exact US w (by by_cases q:AG6<;>simp [q,f])
   rw[Χ];exact h
theorem zvt{α:CL}{B:Δ}{f:F9}:AZn (GZ B (f a)) (GZ (ED*B) (aD l f))
 | [],_=>⟨0,Ajn,CY⟩
 | Fc,h=>by
  refine((h a zY).add (zvt BVZ)).Į ?_;show A3T;omega
theorem Z4(B:Δ):GZ B 0:=⟨0,Sk,CY⟩
theorem yg8{Ξ:CF}{ws:Ρ}(W:AJi)(h:Κ):GZ A0P (jy WU h):=by
 unfold jy;rw[Lh];show BM_ (BO w _);split
 ·have:=ygs (t:=1) (B:=1) AD
  show B8 ASq;exact Χ
 ·exact Z4 _
theorem ycf{Ξ:CF}{ws:Ρ}(L:lc)(W:AJi)(h o:Κ):APD 400 (gb WU h o):=by
 have g1:APD 200 (B5 (h=o) (Agn h) 0):=by
  split
  ·exact yg8 W h
  ·exact Z4 _
 have g2:GZ A0P (aD WU fun s=>(N2 AQf AkM)):=by
  rw[Lh];show BM_ A3b;split
  ·have:=z52 (t:=1) (B:=1) (AxR W.2) (Ka L (W.2 w hw)).2 AD
   show B8 ASq;exact Χ
  ·exact Z4 _
 exact(g1.sub g2).Į AD
theorem yk7{Ξ:CF}{ws:Ρ}(u:LO)(L:lc)(W:AJi)(h:Κ):GZ (200* Ajk) BbU:=by
 refine(zvt (B:=2^105*27720) (BO w _)).Į (ASr _ W.1);split
 ·show L6;exact ybg u L q
 ·exact Z4 _
theorem zts(A9i) [AKN α](g:Aix)(l:CO):EW g=R_ ED (GB (AUd g Nl)):=by
 show mM
 ·simp
 ·show AFG;simp only [ALZ,BG8];have hi:i<ED:=CU h1
  show Agx lh;rfl
theorem yd3(x:D)(xs:AM):LW AYI ŭ Ι=xs:=by
 show AFN;simp
theorem zot(B_ ZG):WA zgl 5:=by
 obtain⟨Ξ,ws,m,Β,S,L,W,ne,m12,h⟩:=h;have s1:=xV;obtain⟨h0,hs,em⟩:∃h0 hs,m=AHk:=by
  cases m with
  | DB=>show AUM ne
  | AY a b=>exact OC a b
 have hn:HQ=Aac+1:=AWr
 have gs:∀i,v4 C9 pM=hs.getD i pM:=FV AWr
 have ct:LW (YU RI) ŭ Ι=S4 RI:=AX em (yd3 _ _)
 let A:=pH Ξ ws m
 show BWX;rw[ct];refine BM9 A5k ⟨Ξ,ws,m,h,Β,L,W,hp⟩;show BWX;rw[ct];refine BM9 AqG ⟨Ξ,ws,h,Β,S.u,L,W,hp⟩;have ec:∀h,jy WU h=Lv (C7 AKT (HG Axz)):=D6 (by
  unfold jy;rw[Lh];have:=PJ (α:=Κ) 1 (l:=A0k Axz);show sT Lg ALg;refine ABY ?_ Χ;exact BMJ AHc)
 show ĵ ze9 [AX5,.pu (yj Ξ ws),BQ2 A5k,BQ2 AqG,C_];show tF (YU RI);refine Lr RI (Sl BV6) (ACy h hh) ?_
 ·refine⟨Ξ,ws,h,Β,ϰ,?_⟩
  rw[ec,Sh] at hp;show He;exact hp
 unfold ze2;dsimp only [aF,bA,cC,cV,cB,cT,iU,vK,iQ,fC,jV,gj,rY,aq,aj,eY,dZ,dU,fL,bh,gK,cM,aX,c7,LV,fY,bC,fZ,jD,jW,aB,cU,iT,gF,cQ,fW,cN,dR,bU,jE,tW,vo,qY,xJ,vp,ji,mK,qu,dD,wI,sO,tY,lX,xK,xM,dh,lM,gO,lN,lO,Ki,MG,MH,Mb,Kk,fM,m9,sU,vq,qC,pF,qw,lQ,fO,dW,jF,rA,sE,vB,iV,sG,dw,dX,uc,xQ,uf,lR,lU,iL,fj,gR,kE,d8,LX,Mc,Iq,LY];have l1:Aac<=1000:=Τ
 refine⟨Ai2,BKs,ϰ,Ai2,BKs,?_⟩
 have Z5:A1e (qF HQ (A i)= BiI BXC):=X2 (by
  unfold qF;rw[zts (A6 o BXC) m];show AXX OT AFn AZI;show qD (pH Ξ ws m i j)=_;unfold pH;rw[sd o6 hj])
 have idx:XI HQ (ARf Anw=j):=XA (AXC AWt (S.nm.idxOf_getElem j hj))
 have conv:∀(X:ce) i,A3y (AOz*X j) (eE HQ (GB (AOz*X (ARf Anw)))):=fun X i=>Pz fun j hj=>(MW (idx j hj))
 refine⟨HQ,A,⟨?_,m12,KE i j hi hj⟩,GN y k hk y1 hy,Ap X hX hsz⟩
 ·have t1:J4 HQ HQ A= .Cc (jv (YU (D6 BV6))++S4 (D6 A5k)):=by
   unfold J4;rw[hn,AsB,EK,ZU,<- hn,Z5 0 Η]
   rw[zts (Sl (AFn (YU fun o=>(Afv h)))) hs];refine BPT;show DV=DV;refine BlR (Hb (ABZ AZJ));have hi' :=o6 hi;show qF HQ (A C9)=_;rw[Z5 C9 Η]
   show AXX OT AFn (BO o _);rw[B4 Η,gs]
  have t2:qF HQ (ya (A i HQ))= .Cc ([AJJ 0 1]++S4 (D6 AqG)):=by
   unfold qF;rw[hn,AsB,EK,ZU,<- hn];rw[zts (Sl AqG) hs];have a0:A 0 HQ=Lv 0:=by
    show BJ_ 0=_;unfold pH;rw[Anp,EB];rfl
   refine BPT;show qD (A 0 HQ)::_=DV;rw[a0,Sh];refine BlR (Hb (ABZ AZJ));show qD (pH Ξ ws m C9 HQ)=_;unfold pH;rw[Anp,mT,gs]
  rw[t1,t2]
  rfl
 ·show SzE (pH Ξ ws m i j);unfold pH;split
  ·split
   ·exact An' (Ng (yg8 W _)) 23
   ·exact An' (Ng (ycf L W _ _)) 24
  ·split
   ·exact An' (Ng (Z4 0)) 1
   ·exact An' (Ng (yk7 S.u L W _)) 128
 ·have z:=S.null (Sl (y (ARf h))) (UH hi (by
   have:=hy i hi;show B8 conv;exact Χ)) (v4 k pM) (Y5 hk)
  rw[idx k hk,y1] at z;exact AWV z
 ·have a:=S.ans (Sl (X (ARf h))) (UH hi (by
   have:=hX i hi;show B8 conv;exact Χ))
  have e:qF HQ X= .Cc (YU (D6 (qD (X (ARf h))))):=by
   unfold qF;rw[zts (Sl (qD (X (ARf h)))) m];exact OT AFn (ABZ (XA (MW (Axt idx j hj))))
  rw[e];show AFZ hsz;exact h _ a.1 a.2 ⟨d,d0,bd,AlT (hd _ (List.idxOf_lt_length_of_mem hg))⟩
theorem ykj(ms:OA):toD (AV' (DF oy gl))= .Cc (oy gl):=ϊ toD Qd
theorem Ge.sys(A8g)(G:AN7)(u:LO)(BXz):(ATv BiN)/\∀ws:Ρ,ć ->(Aoe (∃r∈AnU,AJg)) ->wC lS ws m:=by
 show AQi G.pi;have cl:AzO:=fun r hr hh h hk=>by
  show bi S hS Azk;show BUA;have h1:C4∈f:=BOx (Aq4 Aws);have h2:h∈f:=BOx hk;rw[YJ p.dj hm hf hh h1];exact h2
 show Db cl (fun ws nw hw=>⟨u.M m,nw,lI ((hw _).mpr (OC r hr)),Qc (G.sr m hm),lI A6z,AYm,Ap C hC hx⟩)
 ·obtain⟨S,hS,hs⟩:=(p.co h).mp ⟨m,hm,hh⟩;show Amz;obtain⟨r',hr',_,e2⟩:=AYx h hs;exact⟨r',lZ.mpr ⟨hr',AX e2 hh⟩,e2⟩
 ·have A9:=p.min (A6 x (x∈m ->C x)) (fun S hS hx y hy ym=> ?_) m hm (by
   obtain⟨x,h1,h2⟩:=hx;exact⟨x,h1,E6 h2⟩)
  ·exact APR (A9 x hx hx)
  ·show Amz;show BUA;have fm:m=f:=YJ p.dj hm hf ym (BM y hy);have inm:∀z∈S,z∈m:=ADl (AX fm (BM z hz))
   have Tk:∀z,z∈S↔z∈kW lS CI:=AV (by
    rw[iZ];constructor
    ·intro hz;obtain⟨r',h1,h2,h3⟩:=AYx z hz;exact⟨r',lZ.mpr ⟨h1,AX h3 (inm z hz)⟩,h2,h3⟩
    ·rintro⟨r',h1,h2,h3⟩;exact(e z).mpr (Aq4 ⟨r',(lZ.mp h1).1,h2,h3⟩))
   obtain⟨x,hx1,hx2⟩:=hx;obtain⟨r',h1,h2,h3⟩:=AKO ((Tk x).mp hx1);exact hC CI ((hw _).mpr ⟨r',h1,h2⟩) ⟨x,(Tk x).mp hx1,hx2 (inm x hx1)⟩ y ((Tk y).mp hy)
theorem ylj{Ξ:CF}{m:Ρ}{w:Κ}:gV lS w=AdI AAr (WS Axy):=by
 unfold gV ofM;rw[Aab,Aab];exact BH3 r (Bool.and_comm _ _)
theorem yiw{Ξ:CF}{m:Ρ}{w:Κ}(h:Si Ľ m):gV lS w=AHO:=by
 rw[ylj];refine AFJ List.filter_eq_self.mpr (Pp (h _ ?_));exact AaZ ⟨r,AgX,AlD,Β⟩
theorem yog{Ξ:CF}{m:Ρ}{h:Κ}(hm:Aee):Dy lS h=AnT:=by
 unfold Dy ofM;rw[Aab];refine Bku (BO r _);show AmE
 ·simp [q,hm]
 ·simp [q]
theorem yo0{Ξ:CF}{m:Ρ}{x:D7}(cl:AzO){h:Κ}(hm:Aee)(e:yR lS x h):AJp:=by
 unfold yR at e⊢;rw[yog hm] at e;rw[<- e];show AP';show AnZ;rw[yiw (cl r hr'.1 (Do hr'.2 hm))]
theorem yfo{Ξ:CF}{x y:D7}{h:Κ}(e:∀r∈AnT,∀s∈gV Ξ CI,x kH=y kH)(q:AJp):yR Ξ y h:=by
 unfold yR at q⊢;rw[<- q];show AP';show AnZ;have e1:=e r hr r (AaX (Ŋ hr'.1));rw[e1];have e2:GL (gV Ξ CI) s (ATf (y kH)) (aD (gV Ξ CI) fun s=>(ATf (x kH))):=nj fun s hs=>(MW (e r hr s hs))
 rw[e2]
theorem LB.M{Ξ:CF}(L:lc)(m:Ρ):LB (ofM Ξ m):=by
 refine⟨zO AXF L.few,lI (L.mm r (lZ.mp hr).1),HG ?_⟩;rw[ylj];exact zO AXF (L.wk w)
theorem yg9(BcY):ps=NU (HG Bi2):=by
 show mM
 show Dx Da B.len.symm
 ·show AFG;have hw:i<Mm:=AX wT h1
  rw[ALZ];exact B.ex u i gy VA (zZ hw) (zZ h1)
theorem yhi(p:Ρ×AM):toD (Gf p)= .dic (Af9 .AZ) p.2:=by
 unfold Gf toD;rw[Qd]
structure Gm (Ξ:CF) (m:Ρ) (x:D7):Θ where
 ev:Ϯ AJp
 em:A7J
 sz:A_'
theorem BDs{Ξ:CF}{m:Ρ}{x y:D7}(cl:AzO)(g:AmA x)(e:Ϯ (x h=y h)):AmA y:=by
 show ã (nE (yfo (fun r hr s hs=>e _ ?_) (g.ev h hh))) (by show AFZ g.sz;exact⟨d,d0,bd,nE (DC (e h hh) (hd h hh))⟩)
 ·show AnZ;have hs' :=AQ7 hs;exact cl r hr'.1 (Do hr'.2 hh) _ (AaZ ⟨s,hs'.1,hs'.2,Β⟩)
 ·have:=g.em;unfold Y0 at Χ⊢;show Ø;exact AFJ nj (e _ A6z).du
theorem z5j{hs:Ρ}{x y:D7}(e:aS hs (x h=y h)):ig hs x=ig hs y:=by
 unfold ig;rw[ABZ (g:=ly y) (nE (MW (e h hh)))]
theorem z17{hs:Ρ}{h:Κ}{x:D7}(n:h∉hs):ARh (iI AWi Ϣ) (AIO AWi (S4 (ly x)) Ϣ (qD (x h)))=ig (hs++ [h]) x:=by
 rw[zlp];unfold jj fu ig;rw[B4 n,Ls,Ē n,cz];simp
theorem zq0{α:CL}{l:CO}{i:Δ}(h:i<ED):AdB C9=AdB i++ [l[i]]:=Bh3 tT
theorem Ge.hand(A8g)(G:AN7){m:Ρ}(hm:m∈ms){x:Κ}(hx:x∈m):s0 (C4=x):=by
 show AQi G.pi;obtain⟨S,hS,hs⟩:=(p.co x).mp ⟨m,hm,hx⟩;show Amz;obtain⟨r',hr',_,e2⟩:=AYx x hs;exact⟨r',hr',e2⟩
theorem z5a(B_ ZJ):AYJ zq1 6:=by
 obtain⟨Ξ,U,Β,u,L,hU,hr,h⟩:=h;have s1:=xV;have few:=L.few;intro as;show ALm zmc Eo [ř,Ŗ (.dic [] []),C_,C_,C_,C_];refine⟨Ξ,U,Β,Τ,Τ,hr,BO ms G⟩
 simp only [ykj];show AQi G.pi;have nd:ms.flatten.Nodup:=znm p.dj (AZB (Qc (G.sr f hf)));show vT (∃(as:Bi) (x:D7) (y2 y3 y4 y5:GI),(∀m∈AFo i,AmA x)/\Γ= Amu y2 y3) ⟨as,Ŭ,_,_,_,_,AfQ (AL3 hm),Β⟩
 ·rintro i d _ hi ⟨as,x,y2,y3,y4,y5,hg,Β⟩;have hi' :i<ms.length:=ώ ϯ
  show AQY;cases (hi);have hm:AOe∈ms:=yU hi';have apart:aS AOe (h∉ AHJ):=fun h hh z=>by
   have:=nd;show BNi (AhJ ms) Χ;refine Χ.2.2 h z h ?_ Β;refine Aq8 ⟨AOe,?_,hh⟩;show BLh;exact zY
  have cl:=(G.sys u hm).1;have tk:AFo C9=AFo i++ [AOe]:=zq0 hi';have fl:(AFo C9).Abg=AHJ++AOe:=by rw[tk,Abf];simp
  generalize em:AOe=m at*;have BM:∀z∈m,z∈U:=Bdl
  have ndm:m.Nodup:=Qc (G.sr m hm);have m12:BIn:=zO (J3 ndm BM) hU;show zj1 K c _ (Amu AX5 y3) _;show tF (Aq0 Bv);refine zgu Bv Bv (x0 Axy) (ACy r hr) ?_
  ·refine⟨.AT C4,AkD,Β,z9e m,?_⟩;show HI (B5 AC _ (inD (.AT C4) (YU .AT))) _ _;rw[zy6];show KK AHT
   show AYi AEQ
   show AYi AJE
  refine⟨AnU,Β,zO AXF Η,Ap ws ps B⟩
  have ep:=yg9 B (u.M m);have ex:j8 (Nd Gf)=NU (PL (ofM Ξ m)):=by
   rw[zoy,ep,ZU];exact ABZ fun w _=>yhi _
  refine⟨Ϸ,j8 (Nd Gf),by simp only [toD];rfl,?_⟩
  rw[ex];have W:Cq lS ws:=⟨zO B.lw (L.M m).few,fun w hw z=>by
   obtain⟨r,h1,h2⟩:=(AAs w).mp hw;have:=AaX ⟨h1,h2⟩;show B8 z;cases (Χ)⟩
  show zhi K c _ (Amu AX5 A'E) _;refine⟨AnU,ws,m,Β,(G.sys u hm).2 ws B.nd AAs,L.M m,W,p.ne m hm,m12,KE xm ev sm sz⟩
  let x' :D7:=AV (if z∈m then xm z else x z)
  have ex1:∀z∈m,x' z=xm z:=ADl (CH hz);show Hc ex0 (∀z∈ AHJ,x' z=x z) (ADl (B4 (Q3 (apart z q hz)))) gm (AmA x') (BDs cl ⟨ADl (yo0 cl hz (ev z hz)),sm,sz⟩ (ADl (ex1 z hz).du)) gms (∀f∈AFo (D9),Gm Ξ f x') (AZB (by
   rw[tk] at hf;show UD hf hf hf
   ·exact BDs (G.sys u (ARQ hf)).1 (hg f hf) (ADl (ex0 z (Aq8 ⟨f,hf,hz⟩)).du)
   ·show tm hf;exact gm)) ez (nD (YU RI) (YU (ly xm))=YU (D6 (.tup [ACs,qD (x' h)]))) (by
   unfold nD;show mM
   ·simp
   ·intro j h1 h2;simp only [List.getElem_zipWith,ALZ];rw[ex1 _ (Bkn _)])
  show BK (nD (YU RI) (YU (ly xm))) (AMW (Gc 4) 5) (zjz K c) _ _ (Amu AX5 A'E);rw[ez];have fll:(AFo i).BDn+HQ<=1000:=by
   have h1:((AFo C9).Abg).OO:=by
    show BNi (Acx C9 ms) nd;exact nd.1
   have:=J3 h1 (U:=U) (ADl (by
    show Ahx f hf hzf hz;obtain⟨r,g1,g2⟩:=G.hand (ARQ hf) hzf;rw[<- g2];exact hr r g1))
   show sT fl TU;omega
  show PD (fun j Γ=>∃(as:Bi) (y4 y5:GI),Γ= [ř,Ŗ (ig (AHJ++AQ3 j) x'),AX5,A'E,y4,y5]) ⟨as,y4,y5,?_⟩ ?_
  ·rw[List.take_zero,RY,z5j fun z hz=>ex0 z hz]
  ·rintro j d _ hj ⟨as,z4,z5,Β⟩;have hj' :j<HQ:=ώ (SW hj)
   show Ad2 (xo hj') hj;cases (hj);have nn:m[j]∉ AHJ++AQ3 j:=AV (by
    show OH (zT.mp z)
    ·exact apart _ (yU hj') z
    ·show AnK ndm;show bi q hq (ASS z);rw[oB] at hq;rw[Bmz] at e;exact A9 q j Η hj' Η e)
   refine⟨Β,Β,OC as _,.AZ m[j],as,_,Ain (ly x'),Β,Β,?_,?_⟩
   ·show AT_ TU oB;omega
   ·show PD as (Sf m[j]) (.pu BQS);show [Aqy (gP Ξ),Ac5 as (ARh (iI (Ain .AZ) (E7 m[j])) (AIO (Ain .AZ) (Ain (ly x')) (E7 m[j]) BQS)),_,_,_,_]=_;rw[z17 nn,Ī,<- zq0 hj']
  ·rintro _ ⟨as,z4,z5,Β⟩;rw[Da,w_,<- fl];exact⟨as,x',_,_,_,_,gms,Β⟩
 ·rintro _ ⟨as,x,y2,y3,y4,y5,hg,Β⟩;show BNg hg;exact h ms x ⟨G,A'e ev,A'e em,A'e sz⟩
theorem Lean.uniq(BcE)(A:AFU)(B:BP9):ms=Ep /\aS Aad (x h=x' h):=by
 have e:=A.g.uniq B.g (C5 Iff.rfl);subst e;refine Hb AYm;show Ahx m hm hx hh;show AQi A.g.pi;have all:SS (∃m∈ms,AHT):=lI (Ag' S hS Azk ((p.co C4).mpr ⟨S,hS,BRm⟩))
 refine z9j (p_ hr ?_) (p_ hr ?_) (A.em m hm) (B.em m hm) (Ap C hC hx) (fun g hg=>A.g.hand hm hg) h hx
 ·obtain⟨m,hm,h⟩:=all r hr;exact A.ev m hm _ h
 ·obtain⟨m,hm,h⟩:=all r hr;exact B.ev m hm _ h
 ·refine p.min C (GN S hS hx b hb) m hm hx;obtain⟨a,ha,ca⟩:=hx;show Amz;obtain⟨r1,h1,h2,h3⟩:=AYx a ha;obtain⟨r2,g1,g2,g3⟩:=AYx b hb;rw[<- g3];exact hC r1 h1 r2 g1 (BGS g2.symm) (Do h3 ca)
theorem ylk(AJo)(a b:Ρ):rZ QP (gl a) (gl b):=by
 show Apy;rw[Ic] at h1 h2;cases q1:a[i]? with
 | Ι=>show UV q1 h1 h1
 | Ε u=>
  cases q2:b[i]? with
  | Ι=>show UV q2 h2 h2
  | Ε v=>rw[q1] at h1;rw[q2] at h2;cases h1;cases h2;show Awf
theorem Ib(AJo)(AJt):rZ n AIs (ET j):=by show Awf
theorem zx8(B_ ZK):WA zha 5:=by
 obtain⟨a,b,d,e,n,Β,he,h⟩:=h;unfold zha;dsimp only [aF,bA,cC,cV,cB,cT,iU,vK,iQ,fC,jV,gj,rY,aq,aj,eY,dZ,dU,fL,bh,gK,cM,aX,c7,LV,fY,bC,fZ,jD,jW,aB,cU,iT,gF,cQ,fW,cN,dR,bU,jE,tW,vo,qY,xJ,vp,ji,mK,qu,dD,wI,sO,tY,lX,xK,xM,dh,lM,gO,lN,lO,Ki,MG,MH,Mb,Kk,fM,m9,sU,vq,qC,pF,qw,lQ,fO,dW,jF,rA,sE,vB,iV,sG,dw,dX,uc,xQ,uf,lR,lU,iL,fj,gR,kE,d8,LX,Mc,Iq,LY];show F8 md;split
 ·exact ADH (h _)
 ·unfold zh3;dsimp only [aF,bA,cC,cV,cB,cT,iU,vK,iQ,fC,jV,gj,rY,aq,aj,eY,dZ,dU,fL,bh,gK,cM,aX,c7,LV,fY,bC,fZ,jD,jW,aB,cU,iT,gF,cQ,fW,cN,dR,bU,jE,tW,vo,qY,xJ,vp,ji,mK,qu,dD,wI,sO,tY,lX,xK,xM,dh,lM,gO,lN,lO,Ki,MG,MH,Mb,Kk,fM,m9,sU,vq,qC,pF,qw,lQ,fO,dW,jF,rA,sE,vB,iV,sG,dw,dX,uc,xQ,uf,lR,lU,iL,fj,gR,kE,d8,LX,Mc,Iq,LY];show F8 md;split
  ·show Ee he md;cases iH (ET d) (ET (b.fmod e)) with
   | Μ=>exact h Μ
   | AC=>exact⟨he,md,h _⟩
  ·unfold zig;dsimp only [aF,bA,cC,cV,cB,cT,iU,vK,iQ,fC,jV,gj,rY,aq,aj,eY,dZ,dU,fL,bh,gK,cM,aX,c7,LV,fY,bC,fZ,jD,jW,aB,cU,iT,gF,cQ,fW,cN,dR,bU,jE,tW,vo,qY,xJ,vp,ji,mK,qu,dD,wI,sO,tY,lX,xK,xM,dh,lM,gO,lN,lO,Ki,MG,MH,Mb,Kk,fM,m9,sU,vq,qC,pF,qw,lQ,fO,dW,jF,rA,sE,vB,iV,sG,dw,dX,uc,xQ,uf,lR,lU,iL,fj,gR,kE,d8,LX,Mc,Iq,LY];show F8 md;split
   ·show PD CD CD md
    cases iH (ET (b.fmod 2)) (ET (d.fmod 2)) with
    | Μ=>exact ADH (h _)
    | AC=>exact h AC
   ·exact h Μ
theorem Qg:(AR6 AcN).cps.toList= Bgy:=Ù
theorem Tq:C7 AR6 AcN=26:=by
 show Bi4 cps.size=26;rw[<- Ĝ,Qg];rfl
def Lx(b:AO):Ψ:=N2 b 1
theorem Qh{i:Ψ}{k:Δ}(h:AWw k)(hk:SZ k:=by decide):Aiz:=zO (lW h) hk
theorem yis(BZT):LW (ASu Bv) Ax' Ι=DF rs.drop k Bv:=by
 show AFN;show Bj0;rw[mT,oz,BkF,<- Abb,<- Aqq,BGD (by rw[AGC];omega)]
theorem yj7(BZT):LW (ASu Bv) Ι Ax'=DF rs.take k Bv:=by
 show AFN;show Bj0;rw[mT,oz,BkF,Aqv,BlH,<- Aqq]
theorem yfw{α:CL}{f:AJR}{xs:CO}{k:Δ}(h:k<BU):ϕ d4 f GE (f xs[k]):=Bt (AJV tT)
theorem Z6{k:Δ}(h:k<26):nZ BMg GE=Ε (97+k):=by
 refine Bt ?_;rw[Qg];have:∀k:Fin 26,IM Bgy k.1 (97+k.1):=CD
 exact Χ ⟨k,h⟩
theorem Z7{i:Ψ}(h:0<=i/\i<26):AHq BMg (97+AK7):=by
 have e:i=EZ AK7:=Τ
 have:=Z6 (k:=AK7) Η
 rw[<- e] at Χ;exact Χ
def txt(A7u):Κ:=⟨qq MT f⟩
theorem yep(A7u):txt n f++ (⟨#[f n]⟩:Κ)=txt QP f:=by
 show(⟨qq MT f++ #[f n]⟩:Κ)=⟨qq ADc f⟩
 congr 1
 show AOA ARP;simp
theorem yid{n m:Δ}{f g:qh}(h:txt n f=txt m g):n=m/\XI n (f j=g j):=by
 have e:AJP n f=R_ m g:=by
  have:=OT (fun s:Κ=>s.cps.toList) h
  simpa [txt] using Χ
 have l:n=m:=CU (AEZ Ki)
 subst l;show ä Β j hj;have:=AEZ (A6 l l[j]?)
 simpa [hj] using Χ
theorem yko(A7u):So txt n f=n:=by
 show(MT f).Bl5=n;simp
theorem yaw{α:CL}{g:M3 α}{m:Δ}(h:BQn (g i=g j)):ź (R_ m) g:=by
 refine z2v (R:=fun a b=>a≠b) Bnd (A_M (n (h a b (o6 ha) (o6 hb) e)))
theorem zyv(B_ Vj):WA zie 10:=by
 show KA n m hm h h;have ABO:xk 1000:=CD
 let L:Κ:=Agu AcN
 have main:∀sz:Δ,1<=sz/\sz<=8 ->ĵ zf4 [Co n,AOh,Sf L,Co sz,C_,C_,C_,C_,C_,C_]:=by
  intro sz hsz;unfold zf4;dsimp only [aF,bA,cC,cV,cB,cT,iU,vK,iQ,fC,jV,gj,rY,aq,aj,eY,dZ,dU,fL,bh,gK,cM,aX,c7,LV,fY,bC,fZ,jD,jW,aB,cU,iT,gF,cQ,fW,cN,dR,bU,jE,tW,vo,qY,xJ,vp,ji,mK,qu,dD,wI,sO,tY,lX,xK,xM,dh,lM,gO,lN,lO,Ki,MG,MH,Mb,Kk,fM,m9,sU,vq,qC,pF,qw,lQ,fO,dW,jF,rA,sE,vB,iV,sG,dw,dX,uc,xQ,uf,lR,lU,iL,fj,gR,kE,d8,LX,Mc,Iq,LY];refine PR (A7y 5) Τ
  show DT at_ ea hat (Ad' (Aq_ 24) sz) Η
  rw[ea]
  let one:AO:=Φ (n.fmod 3=1)
  let num:á:=GB ((Aq_ 24*48271+ lT* lT*69621+ lT*7).LS 2147483647)
  let f:ASz Δ:=fun k j=>97+ Aw2 BMW
  let ln:qh:=kl (Anh k)
  have U0:∀k,k<20 ->ln k<=28:=fun k hk=>by
   show Anh k<=28;split<;>omega
  let nm:M3 Κ:=kl (txt (ln k) (f k))
  have inj:BQn (nm i=nm j):=fun i j hi hj e=>by
   show DE e1 e2 yid e;have e1' :Anh i=Anh j:=e1;by_cases o:AuG
   ·rw[CH o] at e1';omega
   ·have e3:=e2 at_ (by show at_<sz+_;omega)
    have e3' :BT2 (Lu*Awz AUB)=BT2 (lT*Awz AUB):=e3;rw[Pp Β] at e3';have ob:MM one:=CU o
    rw[ob] at e3';have l1:=BbA Lu
    have l2:=BbA lT
    have b1:Lx (Μ&& ! AC)=1:=Β;rw[b1,ArR] at l1 l2;rw[b1,ArR,ArR] at e3';rw[BKi] at e3' l1 l2
    rw[BKi] at e3'
    omega
  show F8 IS;show AXZ (fun k Γ=>∃(x1 x2 x3 x4:GI),Γ= [Co n,AOh,Sf L,Co sz,Ah1,Aor,x1,x2,x3,x4]) ⟨_,_,_,_,Β⟩
  ·rintro k _ hk ⟨x1,x2,x3,x4,Β⟩;have abW:k<20:=Τ
   rw[Aq'];refine PR (ATD (fE 3)) md
   dsimp only [aF,bA,cC,cV,cB,cT,iU,vK,iQ,fC,jV,gj,rY,aq,aj,eY,dZ,dU,fL,bh,gK,cM,aX,c7,LV,fY,bC,fZ,jD,jW,aB,cU,iT,gF,cQ,fW,cN,dR,bU,jE,tW,vo,qY,xJ,vp,ji,mK,qu,dD,wI,sO,tY,lX,xK,xM,dh,lM,gO,lN,lO,Ki,MG,MH,Mb,Kk,fM,m9,sU,vq,qC,pF,qw,lQ,fO,dW,jF,rA,sE,vB,iV,sG,dw,dX,uc,xQ,uf,lR,lU,iL,fj,gR,kE,d8,LX,Mc,Iq,LY];rw[Tg];have hb:(B5 (kP (n.fmod 3=1)) cS 0)=EZ BVr:=by
    show(B5 AuG cS 0)=_;split<;>rfl
   rw[hb];refine D_ (AZK (ACT 5) Η)
   have hr:B7 sz+ GE* EZ BVr=EZ (ln k):=HH ARl AbY
   rw[hr];have acd:=U0 k abW;show AXZ (fun j Γ=>∃x3 x4,Γ= [Co n,AOh,Sf L,Co sz,Ah1,Aor,AWP,Sf (txt j (f k)),x3,x4]) Ais
   ·rintro j _ hj ⟨y3,y4,Β⟩;have ace:j<28:=Τ
    rw[Aq'];have bj:dF lT<=64:=AUa 5 Η
    unfold zh4;dsimp only [aF,bA,cC,cV,cB,cT,iU,vK,iQ,fC,jV,gj,rY,aq,aj,eY,dZ,dU,fL,bh,gK,cM,aX,c7,LV,fY,bC,fZ,jD,jW,aB,cU,iT,gF,cQ,fW,cN,dR,bU,jE,tW,vo,qY,xJ,vp,ji,mK,qu,dD,wI,sO,tY,lX,xK,xM,dh,lM,gO,lN,lO,Ki,MG,MH,Mb,Kk,fM,m9,sU,vq,qC,pF,qw,lQ,fO,dW,jF,rA,sE,vB,iV,sG,dw,dX,uc,xQ,uf,lR,lU,iL,fj,gR,kE,d8,LX,Mc,Iq,LY];refine⟨A7y 5,APv,.A0 bj,APv,.A0 bj,CD,?_⟩
    unfold zgi;dsimp only [aF,bA,cC,cV,cB,cT,iU,vK,iQ,fC,jV,gj,rY,aq,aj,eY,dZ,dU,fL,bh,gK,cM,aX,c7,LV,fY,bC,fZ,jD,jW,aB,cU,iT,gF,cQ,fW,cN,dR,bU,jE,tW,vo,qY,xJ,vp,ji,mK,qu,dD,wI,sO,tY,lX,xK,xM,dh,lM,gO,lN,lO,Ki,MG,MH,Mb,Kk,fM,m9,sU,vq,qC,pF,qw,lQ,fO,dW,jF,rA,sE,vB,iV,sG,dw,dX,uc,xQ,uf,lR,lU,iL,fj,gR,kE,d8,LX,Mc,Iq,LY];show F8 md;have ABK:∀t:AO,t=(Φ (lT=AUB)&& ! one) ->DR GE (Lx t)/\ fE 26/\∃ch:Δ,D5 Aae/\nZ L.cps.toList ((num j+ GE*Lx t).LS 26)=Ε ch/\ D5 (So txt j (f k)+ SL BOC)/\∃z3 z4,[Aqy (ET n),AOh,Sf L,Co sz,Ah1,Aor,AWP,Sf (txt j (f k)++ BOC),Co j,BOF]= [Co n,AOh,Sf L,Co sz,Ah1,Aor,AWP,Sf (txt (j+1) (f k)),z3,z4]:=fun t et=>by
     have hch:=Z7 (AG2 (num j+ GE*Lx t) 26 AD)
     refine⟨AZK (ACT 5) Η,CD,_,by show Sj (Aae=26) Tq;omega,hch,by rw[yko];show D5 (j+1);omega,Co j,BOF,?_⟩
     subst et;rw[Ö ((97+ Aw2 BMW)=f k j),yep]
    rw[Tg];by_cases q:lT=AUB
    ·show AIu q;rw[AEQ] at ABK;show Ee CD md
     rw[Tg];exact ABK _ Β
    ·show ADw q;rw[AJE] at ABK;exact ABK AC Β
   ·rintro _ ⟨y3,y4,Β⟩;rw[oz];refine⟨FG,BkQ,AWP,Sf (txt (ln k) (f k)),y3,y4,?_⟩
    rw[ARP,Rl,Rl]
    rfl
  ·rintro _ ⟨x1,x2,x3,x4,Β⟩;rw[oz];exact h _ A2 (yaw inj)
 unfold zie;dsimp only [aF,bA,cC,cV,cB,cT,iU,vK,iQ,fC,jV,gj,rY,aq,aj,eY,dZ,dU,fL,bh,gK,cM,aX,c7,LV,fY,bC,fZ,jD,jW,aB,cU,iT,gF,cQ,fW,cN,dR,bU,jE,tW,vo,qY,xJ,vp,ji,mK,qu,dD,wI,sO,tY,lX,xK,xM,dh,lM,gO,lN,lO,Ki,MG,MH,Mb,Kk,fM,m9,sU,vq,qC,pF,qw,lQ,fO,dW,jF,rA,sE,vB,iV,sG,dw,dX,uc,xQ,uf,lR,lU,iL,fj,gR,kE,d8,LX,Mc,Iq,LY];unfold zjy;dsimp only [aF,bA,cC,cV,cB,cT,iU,vK,iQ,fC,jV,gj,rY,aq,aj,eY,dZ,dU,fL,bh,gK,cM,aX,c7,LV,fY,bC,fZ,jD,jW,aB,cU,iT,gF,cQ,fW,cN,dR,bU,jE,tW,vo,qY,xJ,vp,ji,mK,qu,dD,wI,sO,tY,lX,xK,xM,dh,lM,gO,lN,lO,Ki,MG,MH,Mb,Kk,fM,m9,sU,vq,qC,pF,qw,lQ,fO,dW,jF,rA,sE,vB,iV,sG,dw,dX,uc,xQ,uf,lR,lU,iL,fj,gR,kE,d8,LX,Mc,Iq,LY];refine PR (A7y 2) CD
 show APw t8 e8 h8 (Aq_ 3) 8
 show Sj ((Aq_ 3).LS 8=B7 t8) e8;unfold zjx;dsimp only [aF,bA,cC,cV,cB,cT,iU,vK,iQ,fC,jV,gj,rY,aq,aj,eY,dZ,dU,fL,bh,gK,cM,aX,c7,LV,fY,bC,fZ,jD,jW,aB,cU,iT,gF,cQ,fW,cN,dR,bU,jE,tW,vo,qY,xJ,vp,ji,mK,qu,dD,wI,sO,tY,lX,xK,xM,dh,lM,gO,lN,lO,Ki,MG,MH,Mb,Kk,fM,m9,sU,vq,qC,pF,qw,lQ,fO,dW,jF,rA,sE,vB,iV,sG,dw,dX,uc,xQ,uf,lR,lU,iL,fj,gR,kE,d8,LX,Mc,Iq,LY];show Ee CD md
 split
 ·exact main 1 Η
 ·have:=main (1+t8) Η
  show B8 ARl;exact Χ
theorem ykq{a b:CF}(p:AV7)(u:Uq b):Uq a:=(List.Perm.pairwise_iff (R:=fun(a b:Rw)=>BbE) (fun h z=>h ⟨AmJ,(z.2).du⟩) p).mpr u
theorem z5b(B_ ZL):WA zg2 12:=by
 obtain⟨ns,RF,ĉ,Β,hl,h1,h5,h8,h⟩:=h;have ABO:xk 1000:=CD
 let S:D:= Ahg
 have main:∀(way ę:Ψ),0<ę ->ę<=10^12 ->ĵ zgv [AMk,Co RF,Co ĉ,Co way,Co ę,C_,C_,C_,C_,C_,C_,C_]:=by
  intro way ę hm0 hm1;have Z8:ę≠0:=Τ
  unfold zgv;dsimp only [aF,bA,cC,cV,cB,cT,iU,vK,iQ,fC,jV,gj,rY,aq,aj,eY,dZ,dU,fL,bh,gK,cM,aX,c7,LV,fY,bC,fZ,jD,jW,aB,cU,iT,gF,cQ,fW,cN,dR,bU,jE,tW,vo,qY,xJ,vp,ji,mK,qu,dD,wI,sO,tY,lX,xK,xM,dh,lM,gO,lN,lO,Ki,MG,MH,Mb,Kk,fM,m9,sU,vq,qC,pF,qw,lQ,fO,dW,jF,rA,sE,vB,iV,sG,dw,dX,uc,xQ,uf,lR,lU,iL,fj,gR,kE,d8,LX,Mc,Iq,LY];refine⟨ns,4,Β,hl,Τ,_,ĉ,Β,Τ,Ap nms hnm nnd⟩
  unfold zmj;dsimp only [aF,bA,cC,cV,cB,cT,iU,vK,iQ,fC,jV,gj,rY,aq,aj,eY,dZ,dU,fL,bh,gK,cM,aX,c7,LV,fY,bC,fZ,jD,jW,aB,cU,iT,gF,cQ,fW,cN,dR,bU,jE,tW,vo,qY,xJ,vp,ji,mK,qu,dD,wI,sO,tY,lX,xK,xM,dh,lM,gO,lN,lO,Ki,MG,MH,Mb,Kk,fM,m9,sU,vq,qC,pF,qw,lQ,fO,dW,jF,rA,sE,vB,iV,sG,dw,dX,uc,xQ,uf,lR,lU,iL,fj,gR,kE,d8,LX,Mc,Iq,LY];refine⟨ns,5,Β,hl,Τ,_,RF,Β,Τ,Ap Nh hpp pnd⟩
  unfold zk2;dsimp only [aF,bA,cC,cV,cB,cT,iU,vK,iQ,fC,jV,gj,rY,aq,aj,eY,dZ,dU,fL,bh,gK,cM,aX,c7,LV,fY,bC,fZ,jD,jW,aB,cU,iT,gF,cQ,fW,cN,dR,bU,jE,tW,vo,qY,xJ,vp,ji,mK,qu,dD,wI,sO,tY,lX,xK,xM,dh,lM,gO,lN,lO,Ki,MG,MH,Mb,Kk,fM,m9,sU,vq,qC,pF,qw,lQ,fO,dW,jF,rA,sE,vB,iV,sG,dw,dX,uc,xQ,uf,lR,lU,iL,fj,gR,kE,d8,LX,Mc,Iq,LY];show F8 IS;unfold zlr;show AXZ (fun w Γ=>∃(Ξ:CF) (x8 x9 x10:GI),nN<=w*RF/\ BJF/\ (LO/\ A7_/\SS (∃v,v<w/\BVB))/\Γ= Ap7 x8 x9) ⟨[],_,_,_,CY,A7f,⟨ASF,A7f,A7f⟩,Β⟩
  ·rintro w _ hw ⟨Ξ,x8,x9,x10,hrl,Ly,⟨uq,mk,wv⟩,Β⟩;have hw8:w<ĉ:=Τ
   have Qf:w*RF<=8*5:=AaS Η h5
   change zfz K c _ (Ap7 (Co (0+ AhC)) x9) _
   rw[Aq'];unfold zfz;show AXZ (fun q Γ=>∃(Ξ:CF) (x9 x10:GI),nN<=w*RF+q/\ BJF/\ (LO/\ A7_/\SS (∃v,BVB/\ (v<w\/v=w/\∃o,o<q/\IM Nh o C4)))/\Γ= Ap7 (Co AhC) x9) ⟨Ξ,_,_,hrl,Ly,⟨uq,mk,lI (by show Amm;exact⟨v,h2,.A0 h1⟩)⟩,Β⟩
   ·rintro q _ hq ⟨Ξ,x9,x10,hrl,Ly,⟨uq,mk,wv⟩,Β⟩;have HN:q<RF:=Τ
    change zfy K c _ (Ap7 (Co AhC) (Co (0+ B7 q))) _
    rw[Aq'];unfold zfy;dsimp only [aF,bA,cC,cV,cB,cT,iU,vK,iQ,fC,jV,gj,rY,aq,aj,eY,dZ,dU,fL,bh,gK,cM,aX,c7,LV,fY,bC,fZ,jD,jW,aB,cU,iT,gF,cQ,fW,cN,dR,bU,jE,tW,vo,qY,xJ,vp,ji,mK,qu,dD,wI,sO,tY,lX,xK,xM,dh,lM,gO,lN,lO,Ki,MG,MH,Mb,Kk,fM,m9,sU,vq,qC,pF,qw,lQ,fO,dW,jF,rA,sE,vB,iV,sG,dw,dX,uc,xQ,uf,lR,lU,iL,fj,gR,kE,d8,LX,Mc,Iq,LY];refine⟨AZK (ACT 4) Η,ns,6+w*RF+q,?_,hl,Τ,?_⟩
    ·rw[ARl,ARl,AbY];rfl
    generalize cL ns (6+w*RF+q)=cv;unfold zhl;dsimp only [aF,bA,cC,cV,cB,cT,iU,vK,iQ,fC,jV,gj,rY,aq,aj,eY,dZ,dU,fL,bh,gK,cM,aX,c7,LV,fY,bC,fZ,jD,jW,aB,cU,iT,gF,cQ,fW,cN,dR,bU,jE,tW,vo,qY,xJ,vp,ji,mK,qu,dD,wI,sO,tY,lX,xK,xM,dh,lM,gO,lN,lO,Ki,MG,MH,Mb,Kk,fM,m9,sU,vq,qC,pF,qw,lQ,fO,dW,jF,rA,sE,vB,iV,sG,dw,dX,uc,xQ,uf,lR,lU,iL,fj,gR,kE,d8,LX,Mc,Iq,LY];refine⟨way,AhC,B7 q,B7 RF,cv,Β,Τ,G1 t⟩
    cases t with
    | AC=>exact⟨Ξ,_,_,Τ,Ly,⟨uq,mk,lI (by show Amm;exact⟨v,h1,Bby⟩)⟩,Β⟩
    | Μ=>
     refine⟨FG,_,yfw Η,_,yfw Η,ADH (Qh (k:=4) AD),Z8,?_⟩
     refine⟨A3m,AI1,Ξ++ [(nms[w],Nh[q],(cv.fdiv 12).LS ę)],_,_,AhQ TU AR',APn,⟨?_,APn,APn⟩,BHw⟩
     ·show UD hr hr hr
      ·exact Ly r hr
      ·show tm hr;exact yU _
     ·refine List.pairwise_append.mpr ⟨uq,BoO _ _,GN a ha b hb z⟩;rw[Avk] at z;show kG h1 h2 (wv a ha);rw[z.1] at h1;show DE hv ev d_ h1;have evw:v=w:=z3e nnd hv Η ev
      rcases h2 with h2 | ⟨_,o,ho,h3⟩
      ·omega
      ·rw[z.2] at h3;show DE hv' ev' d_ h3;have:=z3e pnd hv' Η ev'
       omega
     ·show UD hr hr hr
      ·exact mk r hr
      ·show tm hr;have l:=AG2 (cv.fdiv 12) ę hm0
       change ((cv.fdiv 12).LS ę).į<2^40
       omega
     ·show UD hr hr hr
      ·show Amm;exact⟨v,h1,Bby⟩
      ·show tm hr;exact⟨w,zZ _,.AZ ⟨Β,q,Τ,zZ _⟩⟩
   ·rintro _ ⟨Ξ,x9,x10,hrl,Ly,⟨uq,mk,wv⟩,Β⟩;refine⟨Ξ,_,_,_,?_,Ly,⟨uq,mk,APn⟩,Β⟩
    ·rw[Nat.succ_mul];omega
    ·show Amm;exact⟨v,by rcases h2 with h2 | h2<;>omega,h1⟩
  ·rintro _ ⟨Ξ,x8,x9,x10,hrl,Ly,⟨uq,mk,wv⟩,Β⟩;have Qf:ĉ*RF<=8*5:=AaS h8 h5;have acf:A2N:=zO hrl (EF Qf)
   dsimp only;unfold zma;dsimp only [aF,bA,cC,cV,cB,cT,iU,vK,iQ,fC,jV,gj,rY,aq,aj,eY,dZ,dU,fL,bh,gK,cM,aX,c7,LV,fY,bC,fZ,jD,jW,aB,cU,iT,gF,cQ,fW,cN,dR,bU,jE,tW,vo,qY,xJ,vp,ji,mK,qu,dD,wI,sO,tY,lX,xK,xM,dh,lM,gO,lN,lO,Ki,MG,MH,Mb,Kk,fM,m9,sU,vq,qC,pF,qw,lQ,fO,dW,jF,rA,sE,vB,iV,sG,dw,dX,uc,xQ,uf,lR,lU,iL,fj,gR,kE,d8,LX,Mc,Iq,LY];refine⟨ns,3,Β,hl,Τ,ADH (Qh (k:=3) AD),eP,?_,?_⟩
   ·show He;omega
   obtain⟨t,et,ht⟩:=Ad' (AXP 3 4) BkA (BDb _);rw[show ABv Aq0 Bv+1=EZ BkA by show He;rfl,et]
   unfold zln;dsimp only [aF,bA,cC,cV,cB,cT,iU,vK,iQ,fC,jV,gj,rY,aq,aj,eY,dZ,dU,fL,bh,gK,cM,aX,c7,LV,fY,bC,fZ,jD,jW,aB,cU,iT,gF,cQ,fW,cN,dR,bU,jE,tW,vo,qY,xJ,vp,ji,mK,qu,dD,wI,sO,tY,lX,xK,xM,dh,lM,gO,lN,lO,Ki,MG,MH,Mb,Kk,fM,m9,sU,vq,qC,pF,qw,lQ,fO,dW,jF,rA,sE,vB,iV,sG,dw,dX,uc,xQ,uf,lR,lU,iL,fj,gR,kE,d8,LX,Mc,Iq,LY];rw[yis Ξ Η,yj7 Ξ Η]
   show F8 (by show AOE Da AGC oB;omega)
   rw[<- Rl];have pm:(Azv++Azu).OY Ξ:=ACQ (List.perm_append_comm (l₁:=Azv) (l₂:=Azu)) Acx
   refine h (Azv++Azu) Nh (by show AxT AGC oB;omega) Η (p_ hr (BMh Ly)) (ykq pm uq) (lI (BMh mk))
 change ĵ zg2 [AMk,Co RF,Co ĉ,C_,C_,C_,C_,C_,C_,C_,C_,C_]
 unfold zg2;dsimp only [aF,bA,cC,cV,cB,cT,iU,vK,iQ,fC,jV,gj,rY,aq,aj,eY,dZ,dU,fL,bh,gK,cM,aX,c7,LV,fY,bC,fZ,jD,jW,aB,cU,iT,gF,cQ,fW,cN,dR,bU,jE,tW,vo,qY,xJ,vp,ji,mK,qu,dD,wI,sO,tY,lX,xK,xM,dh,lM,gO,lN,lO,Ki,MG,MH,Mb,Kk,fM,m9,sU,vq,qC,pF,qw,lQ,fO,dW,jF,rA,sE,vB,iV,sG,dw,dX,uc,xQ,uf,lR,lU,iL,fj,gR,kE,d8,LX,Mc,Iq,LY];refine⟨ns,2,Β,hl,Τ,CD,?_⟩
 unfold zmk;dsimp only [aF,bA,cC,cV,cB,cT,iU,vK,iQ,fC,jV,gj,rY,aq,aj,eY,dZ,dU,fL,bh,gK,cM,aX,c7,LV,fY,bC,fZ,jD,jW,aB,cU,iT,gF,cQ,fW,cN,dR,bU,jE,tW,vo,qY,xJ,vp,ji,mK,qu,dD,wI,sO,tY,lX,xK,xM,dh,lM,gO,lN,lO,Ki,MG,MH,Mb,Kk,fM,m9,sU,vq,qC,pF,qw,lQ,fO,dW,jF,rA,sE,vB,iV,sG,dw,dX,uc,xQ,uf,lR,lU,iL,fj,gR,kE,d8,LX,Mc,Iq,LY];refine⟨Bcr,x5 (xk 4),ns,3,Β,hl,Τ,CD,?_⟩
 show APw t et ht (cL ns 3) 4
 rw[Ö (B7 4=EZ 4),et]
 match t,ht with
 | 0,_=>show Apj
 | 1,_=>show Apj
 | 2,_=>show Apj
 | 3,_=>show Apj
theorem zwb(B_ ZM):Q_ zjv:=by
 show AXN i j;refine PR (fun m Γ=>∃a b:Ψ,Γ= [Co a,AEI]/\0<=a/\0<=b/\m=ALc/\Tl a b=Ats) ⟨_,AZ_,BW6,Β,Bj5,Bj5,Β,?_⟩
 ·have e1:AZ_=B7 Ab8:=by split<;>omega
  have e2:BW6=B7 AsA:=by split<;>omega
  rw[e1,e2];rfl
 rintro m _ ⟨a,b,Β,ha,hb,Β,hg⟩;show if kP (0<b) then _ else _;by_cases hz:0<b
 ·show uS hz
  have h0:ő:=Τ
  refine⟨h0,_,zf0 h0,b,Ac_ b,Β,hb,?_,Β,HH z19 hg⟩
  rw[BDa _ hb];exact BHJ _ h0
 ·show â hz
  have:b=0:=Τ
  show mE;rw[Bkx] at hg;have e:a=AOg:=Τ
  rw[e];exact h
theorem Tr{x:Κ ->D}{h:Κ}:∀{hs:Ρ},gA AWi (S4 x) Ϣ=AxS ϧ (Ε (x h))
 | []=>Β
 | g::hs=>by
  show A3U;unfold gA;by_cases q:g=h
  ·rw[CH (by rw[q]),Y2 (AX q AAb),q]
  ·rw[B4 (E9 (q Axk)),Tr (hs:=hs)]
   by_cases p:ϧ
   ·rw[CH p,BH' Y2 p]
   ·show Ì p (AV (by
     show OH Ae6
     ·exact q ABV
     ·exact p z))
theorem zx4{ws:Ρ}{f g:Κ ->D}(BcK):fu fe (NU f) sA (g w)=(jj ws w).B6 g:=by
 unfold fu jj;rw[Ls];show KK ADR
 ·rw[AEQ,EB,Hk];clear q;induction ws with
  | DB=>rfl
  | AY v ws ih=>
   rw[EK,EK,EK,Asn,ih fun u hu=>(AiH e u hu)]
   congr 1
   by_cases p:v=w
   ·rw[CH (by rw[p]),p]
   ·show CS (AV (p (by injection z)))
    exact e v zY p
 ·rw[AJE,cz,QY,Rl]
  congr 1
  exact AWL v hv (e v hv (AI3 q hv))
def dcT(ws:Ρ)(f:re):T:= A9V (HG (.AK (f w)))
theorem yhw{ws:Ρ}{f g:re}(BcK):ARh A4o (AIO fe (NU fun w=> .AK (f w)) sA (ET (g w)))=dcT (jj ws w) g:=qS zlp (zx4 (f:=HG (.AK (f w))) (g:=HG (.AK (g w))) fun v hv n=>(MW (e v hv n)))
theorem z7s(B_ Tc):uC zs5:=by
 obtain⟨i,j,Β,b1,b2,hj,h⟩:=h;rw[<- yni hj] at h;show PD i j Β;show DE d0 d1 (Ý zw7) hj;show if kP (j<0) then _ else _;by_cases hn:j<0
 ·show uS hn
  have e:dv i j=0 - AOg:=by unfold dv;show Go hn;omega
  exact⟨AFd,AFd,APM,Ai8⟩
 ·show â hn
  have e:dv i j=AOg:=by unfold dv;show CS hn
  exact⟨AFd,AFd,APM,Ai8⟩
theorem xU.sz{N:Δ}{d:Ψ}{q:AI}(h:AYW)(d0:d≠0)(bd:dF d<=N):Sz N q:=by
 show LN t Β bt;exact Py d0 bt bd
theorem xU.up{M N:Δ}{d:Ψ}{q:AI}(h:xU M d q)(l:M<=N):AYW:=by
 show LN t e bt;exact⟨t,e,zO bt l⟩
theorem xU.add{N:Δ}{d:Ψ}{p q:AI}(h1:xU N d p)(h2:AYW):xU (N+1) d (p+q):=by
 show AHt t bt h1;show Wp Β bu h2;show Ee (t+u) (by rw[Asx,MI,MI,MI,Rat.add_mul])
 have:=zjf t u;omega
theorem ArA{N:Δ}{d:Ψ}:A9o AYW (xU (N+FL) d (fJ qs))
 | [],_=>⟨0,by show AIw=Lv 0/_;rw[MI];show AIw=0*_;rw[Rat.zero_mul],IS⟩
 | q::qs,h=>by
  have h1:=ArA (qs:=qs) Aza;exact((h q zY).up (Bmv _ _)).add h1
theorem xU.less{N:Δ}{d m:Ψ}{q:AI}(h:AYW)(d0:d≠0)(bd:dF d<=N)(hm:m.natAbs<2^100):xU (N+101) d (BB m - q):=by
 show LN t Β bt;show Ee (m*d - t) ?_
 ·have dz:Ak8:=AV (Ajm d0)
  rw[AdA,P2,MI,MI,BlT,BlT,Rat.add_mul,xE,BkI dz,ALg,Rat.neg_mul]
 ·have:=znb (m*d) t;have:=GD m d;have:=lW hm;omega
theorem Lean.mem(Ba2)(G:AFU){r:Rw}(hr:AJm):C4∈Aad:=by
 show AQi G.g.pi;show bi T hT Azk;obtain⟨f,hf,hx⟩:=(p.co C4).mpr ⟨T,hT,BRm⟩;exact Aq8 ⟨f,hf,hx⟩
theorem Ge.small(A8g)(G:AN7){U:Ρ}{n:Δ}(hU:ABc<=n)(hr:SS (C4∈U))(BXz):HQ<=n:=
 zO (J3 (Qc (G.sr m hm)) Bdl) hU
theorem Ni{c:Θ}[BHG c]{a b:Θ}(h:¬c)(k:b):BUl:=AX Ü k
theorem Tt{c:Θ}[BHG c]{a b:Θ}(h:c)(k:a):BUl:=AX ADv k
theorem z65{l:A5}(h:1<=ED):∀q∈dL l,q∈l:=by
 intro q hq;unfold dL at hq;split at hq
 ·simp only [AFf] at hq;subst hq;exact Vx Η
 ·show AQj hq;show Ϙ hq Β
  ·exact Vx Η
  ·exact Vx Η
theorem z26(l:A5):C7 dL l<=2/\dL l≠ []:=by unfold dL;split<;>simp
theorem iu.look{c:DZ}{S:iu}{b:AIz}:∃fs xs,AQC= .obj Eg fs xs/\AP2 ARJ AKV/\AP2 ID AAh/\AP2 NW ARD/\AP2 AFi ARB/\AP2 di AQ'/\AP2 dk ARA/\ AjG č/\ AjG Ď/\ AjG HR/\ AjG dl:=by
 cases b with
 | Ι=>exact Bgf
 | Ε d=>exact Bgf
theorem zmy(B_ ZP):Q_ zfq:=by
 obtain⟨S,b,hand,ks,ys,Β,hk,hq⟩:=h;obtain⟨fs,xs,e,h1,_⟩:=AZA;rw[e];exact⟨Β,AKV,h1,ks,ys,hk,AD,.AZ hand,Β,hq⟩
theorem yh7{ks:Fs}{ys:AM}{k:Key}{d:D}(h:gA ks ys k=Ε d):APt:=by
 induction ks generalizing ys with
 | DB=>cases (h)
 | AY a r ih=>
  cases ys with
  | DB=>cases (h)
  | AY y ys=>
   show DJ gA;unfold mR;by_cases q:a=k
   ·simp [q]
   ·simp only [q,AK8,Acj] at h;have:=ih h;unfold mR at Χ;simp [Χ]
theorem zkm(B_ Vl):Q_ zeo:=by
 obtain⟨S,b,RH,ks,ys,Β,hk,hw,hq⟩:=h;obtain⟨fs,xs,e,_,h1,_⟩:=AZA;rw[e];refine⟨Β,AAh,h1,ks,ys,AyB,hk,Β,?_⟩;rw[hw];exact hq
theorem zsk(B_ Vm):Q_ zi7:=by
 obtain⟨S,b,RH,ks,ys,d,Β,hk,hl,hq⟩:=h;obtain⟨fs,xs,e,_,h1,_,_,_,_,nm,_⟩:=AZA;rw[e];have hh:A1V:=yh7 hl;refine⟨Β,nm,S,b,RH,ks,ys,AIF,hk,hh,?_⟩
 exact⟨Β,AAh,h1,ks,ys,AyB,d,hk,Β,hl,hq⟩
theorem zqt(B_ ZQ):Q_ zhm:=by
 obtain⟨S,bs,RH,ks,ys,d,Β,hk,hl,zd,zb,hq⟩:=h;exact⟨Β,Lk bs,Β,Β,CD,S,Ε (Lk bs),RH,ks,ys,_,Β,hk,hl,bs,d,Β,zb,zd,hq⟩
theorem zqi(B_ J8):AYJ zhj 1:=by
 obtain⟨S,ws,v,bs,Β,em,so,l64,zv,zb,hq⟩:=h;have s1:=xV;obtain⟨fs,xs,e,_,h2,_,_,_,_,_,_,n1,n2⟩:=BhV (Ε (Lk bs));rw[e];refine⟨Β,AAh,h2,ws,Aj5 AUt,AWr,Qc so,l64,Ap ms pm so2⟩
 obtain Β:ms=ws:=YK Z1 so2 so (XU pm.mem_iff);refine Lr RI (ϙ BVi) An8 hq;have lk:gA (oy .AZ) (oy fun w=>AUt) sA=Ε (qD (v w)):=Aie (HG AUt) (CH hw)
 refine⟨Β,n1,S,_,w,oy WI,BPx,_,AIF,AWr,lk,Β,n2,S,bs,w,oy WI,BPx,v w,AIF,AWr,lk,zv w hw,zb,?_⟩
 exact⟨A3m,hp⟩
theorem yae(L:Ρ)(f:re):rD (dQ .AZ) (dQ A1a)=dQ (D6 (.tup BO3)):=AXh rD List.zipWith_map List.zipWith_self
theorem yal(ApI):D.dik AWi (j8 (BN8 ŕ))=uU hs x:=JA Qd
theorem zq8{α:CL}(f:α ->T):ô (qJ (EW f)=EW fun a=>jH (f a))
 | []=>N9
 | Fc=>AOW EK qJ (zq8 f l)
theorem VH(ApI):jH (ig hs x)=uU hs x:=by
 unfold ig jH;rw[ZU,zq8]
 rfl
theorem jX.dn(c:DZ)(S:jX)(b:AIz):jH (jX.t c S b)=iu.d c S.pl b:=by
 cases b<;>simp only [jX.t,jX.ts,iu.d,jX.pl,iu.xs,jH,qJ,Iq,LY]
theorem ygo{α:CL}(f:F9):ô (jN (EW fun a=>qD (f a)))
 | []=>zk
 | Fc=>Ev ⟨BWk,ygo f l⟩
theorem z1h:∀l:Ρ,jN (EW RI)
 | []=>zk
 | Fc=>AX EK ⟨C8 rB,z1h l⟩
theorem ydi(APm):rB (qD q):=BWk
theorem ynj(AJe):A9P BdS:=by
 by_cases q:a=b
 ·rw[q,Avv];exact K5 _
 ·show ADw q;cases e:BdS with
  | AC=>rfl
  | Μ=>exact tq yn9 (ygv _ _ e) q
theorem yno(BB'):MN (AV' BX'):=by
 show sX _;unfold PX;induction ws with
 | DB=>trivial
 | AY w ws ih=>exact⟨⟨zk,ydi _,zk,zk⟩,ih⟩
theorem z2m(l:AM):toD (AV' EW)= .Cc l:=ϊ toD Qd
theorem z2w(AJo)(BB'):rZ (n+3) BbW BbW:=by
 show Apy;rw[h1] at h2;cases h2;unfold PX at h1;rw[Ic] at h1;cases q1:ws[i]? with
 | Ι=>show UV q1 h1 h1
 | Ε w=>
  rw[q1] at h1;cases h1;intro j x y g1 g2;rw[g1] at g2;cases g2
  match j with
  | 0=>show BUx
  | 1=>simp at g1;subst g1;exact yli _ _
  | 2=>show BUx
  | j+3=>simp at g1
theorem ygq{ws:Ρ}{f g:Κ ->D}{w:Κ}(hw:ADR)(e:∀u∈ws,u≠w ->f u=g u):ARh A4o (AIO fe (NU f) sA (g w))= A9V g:=by
 rw[zlp,zx4 e,show jj ws w=ws from CH hw]
theorem yn1(ws:Ρ)(K:Ks)(V:Vs):jH (ACm fe (DF NU A4L))= .dik fe (NU A4L):=AXh jH ZU zq8
theorem zox{qs:A5}{i:Δ}(h:i<FL):AG_ i 0∈qs:=AmF (Vx (Do YH h))
theorem yhm(B_ Vk):uC ztq:=by
 obtain⟨r,qs,g,Β,hg,hl,hz,hr,hs,h⟩:=h;refine P9 r ?_;have z4:∀q∈qs,SI q:=A9u hz
 have ls:=YH qs;show APf BJD Amx;show He;unfold rJ pR at h;by_cases hf:FL< Amx
 ·show æ hf;rw[ANZ BUz]
  exact ADH h
 ·show X0 hf;have h1:1<=FL:=by split at hf<;>omega
  have ne:qs≠ []:=AV (by rw[z] at h1;cases h1)
  refine Ni (BUz) (D_ AOk)
  rcases hr with Β | Β | Β
  ·show X0 (AV (sP AmJ));refine Tt BOZ ⟨qs,Β,hl,z4,hs,?_⟩
   show CS ne;exact h _ .AAf
  ·show X0 (AV (sP2 AmJ));refine Ni (A7P sM) ⟨AOk,Tt BOZ ?_⟩
   have mz:∀q∈A3t,ANt:=ACz (hz q (AmF BW4))
   have ml:=z26 (oU qs);refine⟨qs,Β,hl,z4,oU qs,Β,Τ,A3t,Β,Τ,A9u mz,yfz mz ml.1,?_⟩
   rw[B4 ml.2,zf];exact h _ .mid
  ·rw[EB] at hf;refine Ni (A7P sP) ⟨AOk,Ni (A7P sP2) ?_⟩
   refine⟨qs,Β,hl,z4,oU qs,g,Β,Τ,Τ,ACz (hz q (AmF hq)),hg,?_⟩
   rw[ls];by_cases hw:FL=2/\BYo
   ·show æ (Hb hw);show Go hw;exact h
   ·show X0 (AV (hw z.2));show CS hw;intro b hb;have hb1:=hb.lt;have mem:∀q∈ AZH,ANt:=by
     intro q hq;show AQj hq;show Ϙ hq Β
     ·exact BRN
     ·exact BRN
    refine⟨AZH,Β,CY,A9u mem,yfz mem A2,?_⟩
    show CS A2
    have e:fJ AZH/ EZ (AZH:A5).nv=(AG_ b 0+ AG_ (b+1) 0)/2:=by
     show(_+ (_+0))/ BB Ahw=_;rw[AFg];rfl
    rw[e];exact h _ (.AAg b hb)
theorem qG.some{qs:A5}{r:Κ}{v:AI}(ne:qs≠ [])(h:AmV):∃l:A5,l≠ []/\ED<=FL/\ (∀q∈l,q∈qs)/\v=fJ l/ AOJ:=by
 have h1:=Ą ne;have ls:=YH qs;cases h with
 | AAf=>exact⟨qs,ne,MV,fun q h=>h,Β⟩
 | mid=>
  refine⟨A3t,(z26 _).2,?_,ACz ((M6 qs).BGv BW4),zf.symm⟩
  unfold dL;split
  ·exact h1
  ·show 2<=_;omega
 | AAg b hb=>
  have hb1:=hb.lt;refine⟨AZH,CY,x5 (2<=_),AJq,?_⟩
  ·show AQj hq;show Ϙ hq Β
   ·exact zox Η
   ·exact zox Η
  ·show _=(_+ (_+0))/ BB Ahw;rw[AFg];rfl
theorem z8s(BBz):Bao=Aae:=Da _
theorem yq.lv(BgP):An5 837 (∀q∈Dz x L f,xU 837 d q):=by
 show AFZ O.cd;refine⟨d,d0,Τ,AJq⟩
 show sD h hh hq;exact(hd h hh).less d0 bd (O.mm h hh)
theorem qG.ok(BgR v)(O:yq x L f)(ne:L≠ [])(h:qG (Dz x L f) r v):Sz 900 v:=by
 have ll:=z8s x L f;have few:=ARo;obtain⟨l,ne,len,BM,Β⟩:=h.some (AV (ne (BlV z)));have len' :ED<=Aae:=DC ll len
 show AFZ O.lv;have l0:fE ED:=MU BNM
 have l1:Lv ED≠0:=AV (Ajm l0)
 have s:Sz 849 (fJ l):=((ArA (ACz (hd q (BM q hq)))).up Η).sz d0 Η
 exact(ybb s (WE YG AOJ n 4 (lW Η) AD) l1).up AD
theorem z06(BgR g)(h:pR r g (Dz x L f)=Ι):L≠ []:=AV (by
 subst z;show DJ pR;rw[ANZ (by show 0<_;split<;>decide)] at h
 cases h)
structure abX (Ο):Θ where
 a:n8 K v6
 f:n8 K Ċ
 aa:BO_
 fa:BQy
 ff:BL0
theorem yq.szs(BgP):Bao<=1000/\ (∀q∈Dz x L f,ANt)/\∀k,AvS (Dz x L f).take:=by
 show AFZ O.lv;have ll:=z8s x L f;have few:=ARo;exact⟨Τ,ACz (((hd q hq).sz d0 bd).up AD),kl (((ArA (BMX hd)).up (N:=849) Bij).sz d0 Η |>.up AD)⟩
theorem zlm(As7){ds Q Ex}(C:abX K c)(h:Vn c ds Q Ex):mh zfh:=by
 obtain⟨S,b,RH,L,f,p,Β,e1,e2,e3,e4,O,H,hq⟩:=h;have s1:=xV;obtain⟨fs,xs,e,h1,h2,h3,h4,h5,h6,_,nl,_⟩:=AZA;show AFZ H.cd;show tF (rD (dQ .AZ) (dQ A1a));rw[yae];refine Lr (fun h:Κ=>ASt BO3) (Sl BQu) (ŉ h hh A2Z) ?_
 ·show F8 ϰ
  rw[e];refine⟨Β,nl,S,b,h,ArD WI,ArD (ly p.x),AIF,JA e1,?_⟩
  have ex:(gA (ArD .AZ) (ArD (ly p.x)) Ϣ).i4 BHo=qD (wP h):=by
   rw[Tr (x:=ly p.x)];unfold Bh.xf;split
   ·rfl
   ·show ASt (AMA 0 1)=qD (Lv 0);rw[Sh]
  rw[ex];exact⟨BB (f h),wP h,MW Sh,YG (zO (lW (H.mm h hh)) AD) AD,((hd h hh).sz d0 bd).up AD,hp⟩
 rw[e];have el:(dQ (D6 BQu))=(Dz wP L f).B6 qD:=Aj7 Dz
 rw[el];refine⟨Β,ARB,h4,?_⟩;rw[e4];refine⟨Β,CD,Β,AQ',h5,Β,ARA,h6,?_⟩
 rw[e2,e3];refine⟨p.r,Dz wP L f,p.g,Β,O.g,H.szs.1,H.szs.2.1,O.r,H.szs.2.2,?_⟩;unfold rJ at hq⊢;cases eb:BWY with
 | Ι=>
  rw[eb] at hq;exact AW' ⟨VU,v,Β,O.sc.len,O.sc.gd,O.sc.sz,(hv.ok H (z06 eb)).up AD,hq v hv⟩
 | Ε f=>
  rw[eb] at hq;cases f with
  | Μ=>exact⟨E6 FG,C.a,Tt C.aa (AEg hq)⟩
  | AC=>exact⟨E6 FG,C.f,BSi (am Ċ v6) C.fa (LL C.ff _ hq)⟩
theorem rK.lb{Ξ:CF}(O:AWg):lc:=by
 show BAf;have few:=ARo;refine⟨Τ,lI (Ao5 (O.mm r hr) AD),HG ?_⟩
 have:=J3 (Vd O.u w) fun y hy=>by
  obtain⟨r,h1,_,e⟩:=AKO hy;rw[<- e];exact hr r h1
 show B8 SJ;omega
theorem Lean.lv(Ba2)(G:AFU)(O:AWg)(r:Κ)(g:AI)(ps:EU)(w:Κ):yq ANU Ŕ Adu:=by
 have L:=O.lb;show BAf;refine PR (AX SJ (L.wk w)) AYm
 ·obtain⟨r,hr,e1,e2⟩:=AKO hh;show(yW Ξ w h).num.natAbs<_;rw[<- e1,<- e2,Sy O.u hr,BDv];exact L.mm r hr
 show KK (kW Ξ w= [])
 show Dx q ⟨1,CD,CD,nE (yv hh)⟩
 obtain⟨h0,hh0⟩:=List.exists_mem_of_ne_nil _ q;obtain⟨r0,m0,e0,e1⟩:=AKO hh0;obtain⟨m,hm,hx⟩:=BoP (G.mem m0);have cl:=(G.g.sys O.u hm).1 r0 m0 hx;show AFZ (G.sz m hm);have n4:=G.g.small hU hr hm;refine⟨d,d0,zO bd (by unfold M8;omega),AYm⟩
 have hm' :Aee:=cl h (Do e0 hh)
 show Sj (ANU h=x h) (sd Aq8 ⟨m,hm,hm'⟩);exact(hd h hm').up (by unfold M8;omega)
theorem ye8{qs:A5}{bd:IQ}(g:Alc bd):Bdk (Gb qs bd) (k<=FL):=X2 (by
 obtain⟨_,hn⟩:=zuf qs;have g:=BIa;show sD k hk hi;have hk:=o6 hk;show bi m hm (o_ (z95 hn (z0g hn g LH Η).1))
 show Ee m i9;unfold jk at hm;show ai hm hm
 ·exact IS
 ·show sD j hj hm;have:=o6 (AVK hj);show B8 z0t;exact Χ)
theorem ykc{l:BS}{n:Δ}(h:Bdk l (k<=n)):vD l= .Cc (DF EW ARF intD)/\∀k∈EW ARF,k<=n:=by
 show ä ?_ k hk
 ·unfold vD;show r6
  congr 1
  show AjC i hi;obtain⟨k,Β,_⟩:=h i hi
  rfl
 ·show sD i hi hk;show bP k Β (h i hi);exact q
theorem ydy(BT1):uI Ŕ Adu= APT AXV Ű Azb:=by
 unfold uI
 congr 1
 unfold kW;show r6;show AjC r hr;have hr:=AQ7 hr;show GW (yW Ξ w C4).num=_;rw[<- hr.2,Sy u hr.1,BDv]
theorem yeu(BcY):(Nd Gf).B6 Ga=NU AiX:=by
 rw[yg9 B u,ZU,ZU];show AjC w _;show D.dik (AXV .AZ) (j8 (DF Ű (WS (GW pp)) ŕ))=_;rw[Qd,ydy u]
theorem z60:∀{ps:EU} {x:AI},AAH ->A4G ->A6t ->Ao6 ps x
 | [],x,_,_,_=>⟨ATD (dF 0<=_),ATD (dF 1<=_)⟩
 | [p],x,_,hz,_=>ka (hz p A2).2
 | AlR,x,hg,hz,zx=>by
  have zl:=hz l A2
  have zr:=hz r A2
  have sb:SI (Cm l r x):=by
   have hn:AYd≠0:=by have:=hg.1.1;grind
   have s4:=ygm (M4 zx zl.1) (M4 zr.2 zl.2);exact(ygr zl.2 (ybb s4 (M4 zr.1 zl.1) hn)).up AD
  have ih:=z60 (ps:=r::t) (x:=x) hg.2 (fun p hp=>hz p (zW _ hp)) zx;unfold oh
  repeat' split
  all_goals first | exact (zl.2).up AD | exact sb | exact ih
theorem yho{ws:Ρ}(so:A1z){i:Δ}(hi:Ax8){u:Κ}(hu:u∈ws)(h:ŀ u gy):u∈AiL:=by
 rw[<- AhJ ws] at hu so;show UD hu hu hu
 ·exact hu
 ·rw[BIe] at hu so;have so:=(Bmc (BDl so).2.1).1;show ai hu hu
  ·rw[z0r] at h;cases h
  show Û h (Z1 _ _ (so u hu))
theorem z85(Ap1 Nb):AQk zc0 8:=by
 obtain⟨Ξ,ru,g,ps,bd,Β,Β,O,Ly,zg,C,b0,b90,h⟩:=h;show K0 s1 xV L O.lb hl ARo uq O.u;show BAf
 let Z:Hm T T OA D7 jX:=fun sh mk ms x=>⟨.AT ru,qD g,Akn,uU Aad x,sh,mk⟩
 refine Al4
 refine Al4
 refine⟨Β,_,AOd,ps,Β,BV5,?_⟩
 show bv (Y2 (z2k C.gd C.len)) Al4 ⟨Ξ,U,Β,uq,L,Τ,hr,Ap ms x G⟩
 refine Al4
 show bv yal ⟨Ξ,Β,Τ,Ap ws0 ps0 B⟩ ⟨_,_,Β,BO t ht,?_⟩
 ·show AIm q (o_ ht);exact Ais
 show bv (yeu B uq) (Aui (G1 cs)) (Aui (G1 cs'))
 generalize esh:ARh (dS .AZ) (AhZ AiX ŕ)=sh;have dsh:jH sh= APT dS dS AiX:=DC esh (yn1 _ _ _)
 have lw:=B.lw;refine⟨Β,jH sh,Β,ws0,dS fun w=>Ae0,JA dsh,B.nd,Τ,fun ws pm so=>(D_ (z1h ws))⟩
 show U2 nd ć (BlX B.nd) wm (Aoe AiE) (HG (pm.mem_iff.trans (AAs w))) wl (Mm<=40) (ADK pm.length_eq)
 let p:Bh:=pU ru g ps ms x
 have P:p.Ok:=⟨Ly,zg,C⟩;have lv:=G.lv O ru g ps;obtain⟨hO,h⟩:=h ms x G;show vT (∃(v:D7) (y6:GI),Γ= [.tr (a::(Am_++cs')) (jX.t c BBW Ι),ř,Sf ru,î g,Amn,.pu (J7 bd),y6,C_]/\∀w∈AiL,pR ru g AlP=Ι/\qG AlP ru (v w)) (Nw Ŭ _ (Ï (yv hw)))
 ·rintro i d _ hi ⟨v,y6,Β,hv⟩;have hi' :i<Mm:=ώ ϯ
  show AQY;cases hi;have tk:=zq0 hi';show U2 hw (gy∈ws) (yU hi') ahead (∀u,isW Ξ u ->ŀ u gy ->pR ru g (J9 Ξ wP u)=Ι) (fun u hu l=>(hv u (yho so hi' ((wm u).mpr hu) l)).1) ASh (gy∉AiL) (AV (by
   have:=nd;rw[<- AhJ ws,AGV] at Χ;refine Χ.2.2 _ z gy ?_ Β;show BLh;exact zY))
  generalize gy=w at tk hw ASh ahead⊢;have isw:=(wm w).mp hw;refine⟨Β,CD,Β,jH sh,Β,Azq,dS (A6 w Ae0),AOX,Ae0,JA dsh,Β,Aie AiX (sd Abh hw),?_⟩
  refine⟨(BBW).pl,Ι,w,Ľ,Ĵ mW,p,?_,Β,Β,Β,Β,P,lv w,?_⟩
  ·show [jH (jX.t c BBW Ι),_,_]=_;rw[jX.dn]
  show rJ c ru g AlP _ _;unfold rJ;cases eb:pR ru g AlP with
  | Ε f=>exact LL BU5 _ (hO w f isw eb ahead _)
  | Ι=>
   intro q hq;have ev:up v w q w=q:=EB;have eo:∀u∈AiL,v u=up v w q u:=fun u hu=>(UX RR (fun z:u=w=>ASh (z ▸ hu)));refine⟨ydi _,AOX,_,_,_,(ARq i).B6 WI,(ARq i).B6 BOl,Β,Β,Β,AM1 oB,up v w q,Ai',?_,BO u hu⟩
   ·rw[tk,<- z17 (x:=ACp (oh ps Amy)) ASh,ev,show(DF ARq i fun u=>qD (oh ps Amy))=DF ARq i BOl from AWL u hu (MW (eo u hu))]
    rfl
   ·rw[tk] at hu;show UD hu hu hu
    ·rw[<- eo u hu];exact hv u hu
    ·rw[ĭ hu,ev];exact⟨eb,hq⟩
 ·rintro _ ⟨v,y6,Β,hv⟩;show BNg hv;have A:Cu Ξ ru g wP ws v:=⟨⟨so,wm⟩,hv⟩;obtain⟨hB,h⟩:=h ws v A;have zs:AgI (Ao6 ps (v w)):=BbB hv (lv w) hv
  let s:D7:=AUs ps v
  refine⟨Β,jH (ig ws s),Β,Ϸ,Aj5 A0Z,JA VH,ygo s ws,?_⟩
  show U2 eq ((NU fun w=>A0Z)=(Bj ps ws v).B6 qD) (Aj7 Bj) zq (∀q∈A5g,SI q) (ACz (by
   show A9s;exact zs w hw)) ln (zS Bj ps ws v<=40) (by unfold Bj;show He;exact wl)
  rw[eq];refine⟨A5g,bd,Β,Τ,zq,Τ,G1 g1,fun g0=>(AEg (hB g0 _))⟩
  obtain⟨g3,g4⟩:=ykc (ye8 g1);rw[g3];refine⟨A5g,_,Β,Τ,zq,?_,g4,?_⟩
  ·unfold Gb;show AwA Da;exact b0
  refine⟨_,_,_,Β,CD,CD,CD,_,_,Β,?_⟩
  rw[<- esh];refine h g1 ws0 ⟨P,so,Τ,Τ,HG pm.mem_iff.symm,fun b hb q e=> ?_⟩
  show sD k hk hb;exact zq q (z9w (yme (Do z0t (BVc g4)) e))
theorem zjq(B_ Vo):AYJ zec 2:=by
 obtain⟨S,b,RH,ks,ys,kz,yz,d,kd,xd,Β,hk,hw,hz,hl,hd,hq⟩:=h;obtain⟨fs,xs,e,_,_,h3,_,_,_,nm,_⟩:=AZA;rw[e];refine⟨Β,nm,S,b,RH,ks,ys,AIF,hk,hw,?_⟩
 exact⟨Β,ARD,h3,kz,yz,AyB,d,hz,Β,hl,d,kd,xd,Β,hd,hq⟩
theorem zvf(A3w):ô (sX (DF EW (D6 (GW (f h))) ŕ))
 | []=>zk
 | Fc=>Ev ⟨zk,zvf f l⟩
theorem Nj(Be'):up f w a w=a:=EB
theorem Z9{α:CL}(f:AVI){w u:Κ}(a:α)(h:u≠w):up f w a u=f u:=Ü
theorem zm4(Ap1 Te):AQk zdk 4:=by
 obtain⟨p,ws0,ws,br,Kf,V,v,w,L,f,Β,Β,O,hw,S,h⟩:=h;have s1:=xV;have fw:=ARo;have fw0:=O.few0;have lk:∀v:D7,gA fe (NU fun u=>qD (v u)) sA=Ε (qD (v w)):=fun v=>(Aie (Ajx v) (CH hw))
 let s:D7:=ACp (oh VU (v u))
 refine⟨Β,jH (ig ws s),Β,Ϸ,AlA (qD (s u)),AOX,A0Z,JA VH,Β,lk s,ydi _,?_⟩
 refine⟨Β,CD,AqH pl,Ε (Lk br),w,L,f,p,?_,Β,Β,Β,Β,O.p,S,?_⟩
 ·show [Bb3,_,_]=_;unfold yr;rw[jX.dn]
 unfold rJ at h⊢;cases eb:BWY with
 | Ε b=>
  rw[eb] at h;exact LL BU5 _ h
 | Ι=>
  rw[eb] at h;intro q hq;have h:Q _ (sZ p (v w) q w):=h q hq
  let s' :D7:=ACp (oh VU Amy)
  have sw:s' w=oh VU q:=by show oh VU (up v w q w)=_;rw[Nj]
  refine⟨ydi _,AOX,_,_,_,Ϸ,AlA (qD (s u)),Β,Β,Β,AI1,?_⟩
  rw[<- sw];show zem K c _ [.tr Ty (jX.t c (BBX (AmL dS (AhZ (AvQ AMm))) (P6 A4o ((fu fe (NU fun u=>qD (s u)) sA (qD (s' w))).B6 ŕ))) BJ7),Ai',BWO,BNy] _;rw[ygq (f:=Ajx s) (g:=Ajx s') hw fun u _ n=>by show BRQ=qD (oh VU Amy);rw[A6s]]
  refine⟨AOX,_,_,_,Azq,dS fun w=>uI AMm (V w),Β,Β,Β,AI1,?_⟩
  show zep K c _ [.tr Ty (jX.t c (BBX (P6 (iI AiR sA) ((fu AiR (dS fun w=>uI AMm (V w)) sA (uI L f)).B6 ŕ)) (A9V (Ajx s'))) BJ7),Ai',BWO,BNy] _;have pi:=ygq (f:=ACp AqA) (g:=ACp (uI (up Kf w L u) (up V w f u))) ((O.sm w).mpr hw) fun u _ n=>(HH A6s A6s)
  rw[Nj,Nj] at pi;rw[pi];refine⟨Β,jH (ig ws s'),Β,Ϸ,AlA (qD (s' u)),AOX,qD (s' w),JA VH,Β,lk s',yli _ _,?_⟩
  rw[ynj,sw];show DJ sZ;by_cases e:oh VU q=oh VU (v w)
  ·show æ e;exact Tt (Pp e) (LL IS _ h)
  ·show X0 e;exact Ni (Do AaW e) (LL Ai2 _ h)
theorem yau(c:DZ){p:Bh}{ws0 ws:Ρ}{br:sK}(Kf:Ks)(V:Vs)(v:D7)(O:yt p ws0 ws br){w:Κ}(hw:ADR):
  [Bb3,AHm]= [iu.d c (AqH pl) (Ε (Lk br)),AHm]/\yk (AqH pl.marks) Ϸ (AlA BRQ)/\mR fe sA=Μ/\yk (AqH pl.sheets) Azq (dS fun u=>AqA)/\gA AiR (dS fun u=>AqA) sA=Ε (uI AMm AM3):=by
 refine⟨?_,?_,?_,?_,?_⟩
 ·unfold yr;rw[jX.dn]
 ·show yd (jH (ig ws _))=_;rw[VH];rfl
 show Dx Ls (Pp hw)
 ·show yd (jH (ACm AiR (AhZ (AvQ AMm))))=_;rw[yn1];rfl
 ·rw[Tr (x:=ACp AqA),sd (O.sm _).mpr hw]
theorem rJ.mono{c:DZ}{r:Κ}{g:AI}{qs:A5}{P P' :Fk AI}{E E' :Ax3}(h:rJ c r g qs P E)(a:∀q,P q ->P' q)(b:∀f,E f ->E' f):rJ c r g qs P' E' :=by
 unfold rJ at h⊢;show E4
 ·exact b _ h
 ·exact AW' (a v (h v hv))
theorem zor(Ap1 Vp):AQk zdt 5:=by
 obtain⟨p,ws0,ws,br,Kf,V,v,w,hd,m,Β,Β,O,hw,Nk,S,h⟩:=h;have s1:=xV;obtain⟨c1,c2,c3,c4,c5⟩:=yau c Kf V v O hw;refine Bgx
 refine⟨OC as _,.AZ hd,as,(Kf w).B6 WI,(Kf w).B6 AZl,Β,Β,AI1,?_⟩
 have ep:=N1 yhw ws (Kf w) f (V w) g (up AM3 hd m) w hd fun u _ n=>(Z9 _ _ n).du;rw[Nj] at ep;show ze1 K c _ [.tr Ty (yr c p ws0 ws br Kf V v),Ai',Sf hd,AOh,Ŗ (ARh (iI BOh (E7 hd)) (AIO BOh (DF Kf w AZl) (E7 hd) (ET m)))] _;rw[ep];show Bc6 (jj (Kf w) hd) (up AM3 hd m)
 show [RI w,APT (Anr jj) j8 (Zs (DF (Anr jj) (D6 (GW (up AM3 hd m h)))))]=_;rw[Qd];rfl
theorem zu9{f:Κ ->D}{h:Κ}:∀L:Ρ,iK (dQ ON) Az8=(iK L h).B6 WI/\jG (dQ ON) (dQ f) Az8=(iK L h).B6 f
 | []=>k7
 | a::L=>by
  show AYo (zu9 (f:=f) (h:=h)) L;unfold iK at h1 h2⊢;rw[EK,EK,Ps,Ps];unfold jG;by_cases q:a=h
  ·rw[AhU,AhU,CH (by rw[q])];exact⟨h1,h2⟩
  ·rw[CH Aef,CH Aef,B4 (AV (q (Sum.inr.inj z))),h1,h2];exact k7
theorem zkb(Ap1 Vq):AQk zcq 4:=by
 obtain⟨p,ws0,ws,br,Kf,V,v,w,hd,Β,Β,O,hw,hm,S,h⟩:=h;obtain⟨c1,c2,c3,c4,c5⟩:=yau c Kf V v O hw;refine Bgx
 refine⟨.AZ hd,as,_,_,Β,Β,?_⟩;rw[Ls,Pp hm];refine⟨.AZ hd,as,(Kf w).B6 WI,(Kf w).B6 AZl,.AK (V w hd),Β,Β,Aie AZl (CH hm),?_⟩
 rw[(zu9 (f:=AZl) (Kf w)).1,(zu9 (Kf w)).2];show Bc6 (iK (Kf w) hd) (V w)
 show [RI w,APT (Anr iK) j8 (Zs (DF (Anr iK) (D6 (GW (V w h)))))]=_;rw[Qd];rfl
theorem qG.uniq{qs:A5}{r:Κ}{v v' :AI}(h:AmV)(h' :qG qs r v'):v=v' :=by
 cases h with
 | AAf=>
  generalize e:nJ=s at h';cases h' with
  | AAf=>rfl
  | mid=>exact Iy i9 sM
  | AAg b hb=>exact Iy i9 sP
 | mid=>
  generalize e:S5=s at h';cases h' with
  | AAf=>exact Iy e sM
  | mid=>rfl
  | AAg b hb=>exact Iy i9 sP2
 | AAg a ha=>
  generalize e:mj=s at h';cases h' with
  | AAf=>exact Iy e sP
  | mid=>exact Iy e sP2
  | AAg b hb=>rw[ha.unique hb]
structure abY (Ο):Θ where
 o:n8 K NV
 b:n8 K RE
 oo:AId
 bo:BQx
 bb:BO'
theorem z5z{g:AI}{qs:A5}(ne:qs≠ []):pR nJ g qs=Ι:=by
 have:=Ą ne;unfold pR;rw[UN (show¬FL< (B5 (nJ=mj) 2 1) by show CS (AV (sP ABV));omega),B4 (AV (sP AmJ))]
theorem good2{qs:A5}(h:FL<=60):Alc AgZ:=by
 obtain⟨_,hn⟩:=zuf qs;have n0:BYn 0:=Ai_;have n1:BYn 1:=rF.mpr ⟨hn,_,n0,JA Int.sub_self⟩
 refine List.contains_iff_mem.mpr (rF.mpr ⟨Qa qs,_,n1,?_⟩);show yQ (0,60) _=Μ;unfold yQ;rw[Pp Η,Pp Η];rfl
theorem zzl(BcE)(G:AFU)(G' :BP9){r r' :Κ}{g g' :AI}{ps ps' :EU}:(pU r' g' ps' Ep x').xf=ANU:=by
 show DE Β e G.uniq G'
 funext h
 unfold Bh.xf pU;dsimp only;split
 ·rename_i hh;exact(e h hh).du
 ·rfl
theorem Cu.uniq{Ξ:CF}{r:Κ}{g:AI}{x:D7}{ws ws' :Ρ}{u u' :D7}(A:Cu Ξ r g x ws u)(A' :Cu Ξ r g x ws' u'):ws' =ws/\BXg:=by
 show SH (YK Z1 A'.so.so A.so.so (HG (cc A'.so.wm w (UX A.so.wm w))));exact Hb (Ï ((AN8 A'.ok).uniq (AN8 A.ok)))
theorem z10{ps:EU}{ws:Ρ}{u u' :D7}(e:BXg):Bj ps ws u' =Bj ps ws u:=AWL w hw (MW (e w hw))
theorem ylt{Ξ:CF}{x:D7}{w:Κ}(h:AiE):J9 Ξ x w≠ []:=AV (by
 show LN r h1 h2;have:=AaZ ⟨r,h1,h2,Β⟩;show B8 (BlV z);show E3)
theorem ztx(As7){ds Q Ex}(C:abY K c)(h:Vr c ds Q Ex):ALm zj3 MJ (aJ 6 ds):=by
 obtain⟨ns,Ξ,ps,Β,hn,O,P,h⟩:=h;have s1:=xV;have n2:AdM:=Τ
 have z0:SI AIw:=⟨Ù,Ù⟩
 have few:=ARo;have fb:¬BCb ->∀y3 y4:GI,ALm zhf MJ [AWu,ř,Amn,y3,y4,.pu BE]:=by
  intro nf y3 y4;refine⟨n2,n2,n2,n2,Ξ,nJ,0,ps,AgZ,Β,Β,O,yb,z0,P,CD,CD,Ô ms x G (KE w f hw hb) (Ô ws u A (G1 g0) (fun g1 ws0 S=>⟨n2,AD,fun as=>h nJ 0 _ ms x ws u ws0 (E7 (Ako nf)) G A S⟩))⟩
  ·rw[z5z (ylt hw)] at hb;cases hb
  ·have wl:Mm<=40:=by
    refine zO (J3 (Qc A.so.so) (U:=rows.map (·.1)) fun w hw=> ?_) (BHg few)
    show bi s hs ((A.so.wm w).mp hw);exact AaY ⟨s,hs,e⟩
   rw[good2 (by unfold Bj;show He;omega)] at g0;cases g0
 refine⟨ns,Β,hn,fun hr zg=>A2Z⟩;refine⟨ns,Β,hn,fun b0 b12=>⟨Ξ,_,_,ps,Ln ns,Β,Β,O,hr,zg,P,b0,Τ,Ô ms x G (fun w f hw hb _ t' =>⟨Avj,C.o,Tt C.oo (fb ?_ _ _)⟩) (Ô ws u A (fun g0 t' =>⟨Avj,C.b,BSi (am RE NV) C.bo ⟨C.bb,fb ?_ _ _⟩⟩) (Ô g1 ws0 S (AuK (LZ 2<30)) (fun as=>h _ _ _ ms x ws u ws0 (IN (Ako ⟨ms,x,ws,u,G,A,g1⟩)) G A S)))⟩⟩
 ·rintro⟨Ep,x',ws',u',G',A',_⟩;show BBg;rw[(A'.ok w ((A'.so.wm w).mpr hw)).1] at hb;cases hb
 ·rintro⟨Ep,x',ws',u',G',A',g1⟩;show BBg;show DE Β e A.uniq A';rw[z10 e,g0] at g1;cases g1
theorem zwo(Bbh Nf):AQk zg6 5:=by
 obtain⟨p,ws0,ws,br,Kf,V,v,w,hd,m,Β,Β,O,hw,Nk,S,h⟩:=h;exact⟨AwX,a,bs,_,Β,p,ws0,ws,br,Kf,V,v,w,hd,m,Β,Β,O,hw,Nk,S,Aw_ cs AwR (Aw0 Bfm)⟩
theorem z36(Bbh Vt):AQk zkq 4:=by
 obtain⟨p,ws0,ws,br,Kf,V,v,w,hd,Β,Β,O,hw,hm,S,h⟩:=h;exact⟨AwX,a,bs,_,Β,p,ws0,ws,br,Kf,V,v,w,hd,Β,Β,O,hw,hm,S,Aw_ cs AwR (Aw0 Bfm)⟩
theorem z7w:∀{ps:EU} {p:Pt},AAH ->(AJK ->(kO ps).1<Cl/\ Al6 p.2) ->Gd (ps++ [p])
 | [],_,_,_=>eP
 | [a],p,_,h=>Afy (h A2)
 | AiD,p,hg,h=>⟨hg.1,z7w (ps:=b::t) hg.2 (E6 (h A2))⟩
theorem zsx:∀(ps:EU) (p:Pt),kO (ps++ [p])=p
 | [],_=>Β
 | [a],_=>Β
 | AiD,p=>zsx AjH p
theorem z5q{Y e:Ψ}(e1:1<=e)(e3:e<=3):WH Y e<=AIx/\ (0<=Y ->AV6/3<=WH Y e):=by
 have h1:AV6<=AIx:=BHl
 have h2:AIw<=AIx:=BlY Η
 have h3:0<=Y ->AIw<=AV6:=D6 (BlY h);generalize AIx=z at h1 h2⊢;generalize AV6=y at h1 h3⊢;have e:e=1\/e=2\/e=3:=Τ
 rcases e with Β | Β | Β
 show A_o (cS) 1
 show A_o (B7 2) 2
 show A_o (B7 3) 3
theorem yac{K:Ω}{c:DZ}{Dn:qR}{E:XW}{S y5:D}{X Y b z:Ψ}{ps:EU}{H:AI}(hb:ő)(bX:SZ (dF X))(bb:SZ (dF b))(l:II<100)
  (h:ASM [AMk,Co (X+1+ A7l),Co (6* (AMF+1)+ Av_),AEI,.ow (A_y pD),.pu y5,AWO,î H]):
  zde K c Dn [AMk,Co X,Co Y,AEI,.ow Ð,.pu y5,AWO,î H] E:=by
 have s1:=xV;refine⟨FG,X,b,Β,bX,bb,hb,ϰ,AI1,?_⟩
 have e3:Nd pD++ [BXp]=A_y pD:=BHw
 show zdc K c Dn [AMk,Co X,Co Y,AEI,.ow (Nd pD++ [BXp]),.pu y5,AWO,î H] E;rw[e3];refine⟨AZG 15,fR 7,AhV,AZG 105,AW_,?_⟩
 rw[<- show(B5 (Y<0) (-Y) Y)=AMF by split<;>omega] at h
 exact h
theorem zmi(B_ ZW):WA zfj 8:=by
 show AEs ns hn;have s1:=xV;show LP d15 (fE 15/\SZ (dF 15)) (ADH (wF AD)) z3 (fE 3) CD ⟨ns,46,Β,hn,Τ,fR 15,ns,47,Β,hn,Τ,fR 21,ns,46,Β,hn,Τ,d15,z3,IS,ns,48,Β,hn,Τ,z3,?_⟩
 show K0 f1 (É (cL ns 46) 15) f2 (É (cL ns 47) 21) f3 (É (AXP 46 15) 3) f4 (É (cL ns 48) 3)
 refine D_ AeN
 obtain⟨N,eN,n2,n4⟩:∃N:Δ,gE 2 (ϒ 48 3)=N/\2<=N/\N<=4:=⟨_,Β,Τ,Τ⟩
 rw[eN];obtain⟨b,eb,b1,b3⟩:∃b:Ψ,1+ (AXP 46 15).LS 3=b/\1<=b/\b<=3:=⟨_,Β,Τ,Τ⟩
 have bz:ő:=Τ
 have bq:AIw< BB b:=Rat.intCast_pos.mpr Η
 show vT (∃(X Y:Ψ) (ps:EU) (y5 y6 y7:GI),Γ= [AWu,Co X,Co Y,AEI,.ow Ð,y5,y6,y7]/\II=i/\AAH/\ A4G/\BDy<=9+7*i/\BDw+2<=20*8^i/\ (AJK ->(kO ps).1< AMu/\ Al6 (AV6/3)/\0<=Y)) ⟨ϒ 46 15 - 9,ϒ 47 21 - 4,[],_,_,_,by rw[<- eb];rfl,Β,eP,AH8,Τ,Τ,D6 (ŵ h)⟩
 ·rintro i _ hi ⟨X,Y,ps,y5,y6,y7,Β,hl,hg,hz,bX,bY,Gi⟩;have p8:8^i<=8^3:=BIS AD
  show LP zX (Sz 60 (AMu)) (Py bz (ApS (BDy<=30)) (ApS (ALc<=3))) bY' (dF Y<=60) (lW (zL (AHd (BDw<=20*8^3)) AD)) ⟨ns,49+i,Ape (49+ sN) (49+ sN) (49+i),hn,Τ,?_⟩
  generalize cL ns (49+i)=z;have g3:=É (da 5) 3
  have g7:=É (da 15) 7
  have g2:=É (da 105) 3
  show U2 bX' (SZ (dF X)) (BQW (BDy<=30)) bb (SZ (dF b)) (BQW (ALc<=3)) Tv (∀H:AI,(AJK ->Al6 H) ->H<=AIx ->Sz 300 H ->∃(X' Y' :Ψ) (qs:EU) (y5 y6 y7:GI),[Aqy (FM ACG),Co (X+1+ A7l),Co (6* (AMF+1)+ Av_),AEI,.ow (A_y pD),Co sN,AWO,î H]= [AWu,Co X',Co Y',AEI,.ow (AQ9 pD),y5,y6,y7]/\FL=D9/\Gd qs/\ (Œ qs (Ia 300 p))/\X'.natAbs<=9+7* C9/\Y'.natAbs+2<=20*8^ C9/\ (0<FL ->(kO qs).1< WH X' b/\ (kO qs).2<=BB Y'/3/\0<=Y')) (by
   intro H h1 h2 zH;refine⟨_,_,ps++ [(AMu,H)],_,_,_,Β,qS TU hl,z7w hg (Q3 ⟨(Gi q).1,h1 q⟩),nI,Τ,ADK BFe,E6 ?_⟩
   ·show UD hp hp hp
    ·exact hz p hp
    ·show tm hp;exact⟨zX.up AD,zH⟩
   ·rw[zsx];show ã ?_ Τ
    ·show AMu<_;have:BB X< Lv (X+1+ A7l):=Rat.intCast_lt_intCast.mpr Η
     rw[MI,MI];exact Rat.mul_lt_mul_of_pos_right Χ (BoL bq)
    ·show H<=_;have:AIx*3<=BaL:=AX (show AIx*3=BB (B7 (AMF*3)) by rw[P2];rfl) BHl
     generalize BaL=u at Χ⊢
     grind)
  have ll:=z5q (Y:=Y) (e:=AvP) Η Η
  refine⟨AZG 5,z3,Y,AvP,Β,zO bY' AD,AWc,Τ,?_⟩
  have zl:Sz 300 (A3k):=(Py Η bY' (lW Η)).up AD
  have hA:(AJK ->Al6 A3k):=Q3 (ALf (Gi q).2.1 (ll.2 (Gi q).2.2));generalize A3k=H at ll zl hA⊢;by_cases hk:0<i
  ·refine Tt (Pp (AHd (Sb<0+ Lu))) (PR (fR 5) md)
   rw[Tg];show KK (Aqg 5=4)
   ·refine Tt (Pp q) (D_ FG);have lp:=zlv (ps:=ps) Η
    have e1:ϕ Nd pD (0+ Lu - 1) BVE:=kM lp (AUK (0+ Lu - 1) AWq) (ykd Η)
    have hq:=Gi Η
    refine⟨_,e1,_,at1,yac bz bX' bb Η (Tv (kO ps).2 (C5 AKL) (ALf hq.2.1 (ALf ((Bbn AD AD).2 hq.2.2) (Bbn AD AD).1)) ?_)⟩
    rw[lp];exact(hz _ (yU _)).2
   ·exact Ni (E9 (q (wy z))) (yac bz bX' bb Η Bcz)
  ·exact Ni (E9 (hk (by have:Sb<0+ Lu:=BkS;omega))) (yac bz bX' bb Η Bcz)
 ·rintro _ ⟨X,Y,ps,y5,y6,y7,Β,hl,hg,hz,_⟩;exact h ps ⟨Τ,hg,hz⟩
theorem z9o(ns:BS):C7 Ln ns=BPR:=by unfold Ln;show Azw
theorem zxu(B_ ZS):WA zmg 5:=by
 show AEs ns hn;have s1:=xV;refine⟨IS,ns,53,Β,hn,Τ,fR 4,?_⟩
 have f4:=AG2 (cL ns 53) 4 AD
 show F8 AeN
 show vT (∃y2 y3 y4:GI,Γ= [AWu,.ow (DF (R_ i) (GB (Agk (54+j))) J6),y2,y3,y4]) AQb
 ·rintro i _ hi ⟨y2,y3,y4,Β⟩;refine⟨ns,54+i,Ape (54+ sN) (54+ sN) (54+i),hn,Τ,?_⟩
  have er:R_ C9 BH9=AJP i BH9++ [Agk (54+i)]:=qS ARP Rl
  generalize cL ns (54+i)=z at er⊢;show APw k ek hk (da 9) 4
  obtain⟨M,eM⟩:∃M:Ψ,nZ BcV (A1T 4)=Ε (ET M):=by
   rw[show A1T 4=GE from ek]
   match k,hk with
   | 0,_=>exact Lm AkC
   | 1,_=>exact Lm AkD
   | 2,_=>exact Lm (ATn 2)
   | 3,_=>exact Lm (ATn 3)
  have dv:∀m:Ψ,0<m ->m<100 ->BTk:=Ô m a b Τ AWc
  refine⟨AW_,AZb 3,AW_,md,AZK (ACT 4) (AfA (É z 3)),?_⟩
  refine⟨FG,AZb 36,fR 7,x5 (xk 4),AZb 9,fR 4,_,eM,ϰ,BkQ,?_⟩
  show PD (Co sN) AWO (Co (AX1* AaI));rw[er,Rl,show Tf z=(AX1* AaI,AX1* AaI+M) by unfold Tf;rw[eM]]
  rfl
 ·rintro _ ⟨y2,y3,y4,Β⟩;exact h (AHQ z9o) (AHQ z9o)
theorem z4v(B_ ZV):Q_ zrs:=by
 show AEs ns hn;have s1:=xV;refine⟨ns,58,Β,hn,Τ,?_⟩
 show DJ G6;generalize cL ns 58=z at h⊢;show APw k ek hk z 3
 obtain⟨r,eM,hr⟩:∃r:Κ,nZ Bbo (Aqg 3)=Ε (.AT r)/\wD r:=by
  rw[show Aqg 3=GE from ek]
  match k,hk with
  | 0,_=>exact DH AkC yb
  | 1,_=>exact DH AkD (.AZ UI)
  | 2,_=>exact DH (ATn 2) (ACq Β)
 rw[eM] at h;have dv:∀m:Ψ,0<m ->m<200 ->BTk:=Ô m a b Τ AWc
 have g40:=AG2 (da 3) 40 AD
 have g3:=AG2 (da 120) 3 AD
 refine⟨A3m,AW_,_,eM,AZb 3,fR 40,AZb 120,AW_,_,_,Β,AWc,AWc,Τ,ϰ,h hr ?_⟩
 exact(Py (n:=60) Η (ApS (((da 3).LS 40).į<=40)) (ApS (ABz (1+ (da 120).LS 3)<=3))).up AD
theorem ya2{r:Κ}{g:AI}{qs qs' :A5}(h:qs.Perm qs'):pR r g qs=pR r g qs' :=uB pR h.length_eq (z6b h)
theorem qG.perm{qs qs' :A5}{r:Κ}{v:AI}(p:qs.Perm qs')(h:AmV):qG qs' r v:=by
 cases h with
 | AAf=>rw[yat p,p.length_eq];exact .AAf
 | mid=>rw[z6b p];exact .mid
 | AAg b hb=>rw[z6b p] at hb⊢;exact .AAg b hb
theorem Bk.uniq{Ξ:CF}{ps:EU}{ns:BS}{r r' :Κ}{g g' :AI}{bd Vw :IQ}(h:BZe)(h' :Bk Ξ ps ns r' g' Vw):r' =r/\g' =g/\Vw =bd:=by
 rcases h with ⟨f,Β,Β,Β⟩ | ⟨f,Β,Β,Β⟩<;>rcases h' with ⟨f',Β,Β,Β⟩ | ⟨f',Β,Β,Β⟩
 ·exact A2Y
 show Û f f'
 show Û f' f
 ·exact A2Y
theorem ye3(AIa)(f:AVI)(w:Κ)(a b:α):up (up f w a) w b=up f w b:=funext fun u=>by
 unfold up;split<;>rfl
theorem z64{α:CL}(f:AVI)(w:Κ):up f w (f w)=f:=funext fun u=>by
 unfold up;split
 ·rename_i e;rw[e]
 ·rfl
theorem z4p(BBe):sZ p b a w=sZ p a b w:=by unfold sZ;simp only [eq_comm]
theorem ydr(BBe):∃l:Ρ,sZ p a b w=gl l:=by
 unfold sZ;split
 ·exact Ŋ []
 ·exact Ŋ [w]
structure Fast (GV) where
 ns:BS
 Ξ:CF
 p:Bh
 ws0:Ρ
 ws:Ρ
 bs:sK
 u:D7
 b:Ζ
 bb:Bi
 p' :Bh
 ws0' :Ρ
 u' :D7
structure Fast.Ok {c:DZ} (F:AO4):Θ where
 Ξ:rK Pf
 o:yt F.p AFt Na eB
 o' :yt F.p' ArJ Na eB
 lv:∀w,yq Abw (kW Pf w) BLi
 A:Cu Pf F.p.r F.p.g Abw Na F.u
 sz:Ajh (Ao6 Abx (F.u w))
 ps:ArK=Abx
 eu:Ajh (F.u' w=F.u w)
def Fast.tb{c:DZ}(F:AO4):AM:=PX Na (ϙ (oh Abx (F.u w))) eB
def Fast.st{c:DZ}(F:AO4)(a:Ζ)(cs:Bi)(K:Ks)(V:Vs)(v:D7)(y7 y8 y9 y10 y11:GI):G2:= [MS (F.ns.map .AK),.pu (gP Pf),.pu (uF c Abx),.tr Ł (yr c F.p AFt Na eB K V v),BSQ (F.b::F.bb) Az_ ŷ F.u',MS F.tb,MS F.tb,y7,y8,y9,y10,y11]
section
variable{K:Ω}{c:DZ}{F:AO4}{Dn:qR}{E:XW}{a:Ζ}{w hd:Κ}{m:Ψ}{y7:GI}
theorem Fast.tb1(AVo){K' :Ks}{V:Vs}{P:AI0}{E:AhO}(h:BL5):J8 c [jH (yr c F.p AFt Na eB K' V F.u)] P E:=
 ⟨(Td c F.p AFt Na K' V F.u).pl,Na,AUs Abx F.u,eB,BP_,VH _ _,O.o.so,O.o.few,O.sz,O.o.bz,h⟩
theorem BD'(AVo){P:AI0}{E:AhO}(h:BL5):J8 c [jH (yr c F.p' ArJ Na eB Az_ ŷ F.u')] P E:=by
 refine⟨(Td c F.p' ArJ Na Az_ ŷ F.u').pl,Na,AUs ArK F.u',eB,BP_,VH _ _,O.o.so,O.o.few,A3b,O.o.bz,?_⟩
 ·show Ao6 ArK (F.u' w);rw[O.ps,O.eu w hw];exact O.sz w hw
 show Dx (show PX Na (ϙ (oh ArK (F.u' w))) eB=F.tb from AWL w hw (by simp only [O.ps,O.eu w hw])) h
theorem Fast.lvL(AVo){L:Ρ}{f:re}(hL:aS L (h∈kW Pf w))(nd:L.Nodup)(hf:BRv):yq Abw L f:=by
 show AFZ (O.lv w).cd;exact⟨zO (J3 nd hL) A2j,hf,d,d0,bd,nE (hd h (hL h hh))⟩
theorem BEG(AVo){cs:Bi}{K' :Ks}{L:Ρ}{f:re}{q:AI}{tt:aG}(hw:w∈Na)(pm:BXS L)(Nk:BIo)(ef:up f hd m=mW Pf w)(hk:∀cs d,tt Dn (F.st a cs (up K' w (jj L hd)) ŷ F.u y7 AwC AwD AwG d) E):
  aF (cM (AQN A5R A'V) AOx bA) tt Dn (F.st a cs (up K' w L) (up (mW Pf) w f) (up F.u w q) y7 AwC AwD AwG (.pu (sZ F.p (F.u w) q w))) E:=by
 have ql:(Dz Abw (jj L hd) BLi).OY (J9 Pf Abw w):=pm.map _;obtain⟨b0,v0⟩:=O.A.ok w hw;refine⟨AQb,a,cs,_,Β,F.p,AFt,Na,eB,up K' w L,up ŷ w f,up F.u w q,w,hd,m,Β,Β,O.o,hw,AX Nj Nk,?_⟩
 rw[Nj,Nj,ef];refine D_ (BBv (Abh hh) (BlX (Vd BEJ w)) (nE ((O.lv w).mm h (Abh hh))));unfold rJ;rw[ya2 ql,b0];intro q2 Be cs';show SH ((hq2.perm ql).uniq v0);obtain⟨l,el⟩:=ydr F.p q (F.u w) w;rw[Nj,z4p,el,ye3,ye3,ye3,z64,z64];show F8 (ylk l l);rw[K5];exact hk cs' _
#where
theorem yih(BSE){r:Rw}(hr:AJm):C4∈kW Ξ CI/\mW Ξ CI C4=pp:=⟨AaZ Aws,by show(yW Ξ CI C4).num=_;rw[Sy u hr,BDv]⟩
section
variable{K:Ω}{c:DZ}{F:AO4}{Dn:qR}{E:XW}{a:Ζ}{y7:GI}
theorem Fast.same(Bgd){tt:aG}(h:tt Dn Bbv E):
  aF (cM A5t AOx bA) tt Dn Bbv E:=by
 refine⟨Β,CD,BL4⟩
 rw[z2m];show F8 Air;rw[K5];exact h
theorem Fast.turn(Bgd)(pm:Ajh (AuW Au8)){i:Δ}(hi:i<6)(hl:F.ns.length<=63)(ne:Pf≠ [])(h:∀cs K' y7 y8 y9 y10 y11,BjG ->ASM (F.st a cs K' ŷ F.u y7 y8 y9 y10 y11)):
  zyk K c Dn (F.st a cs K' ŷ F.u Bip y8 y9 y10 y11) E:=by
 have s1:=xV;have few:=O.rows.few;have l0:=BNM;show DT j ej hj (Ad' (cL F.ns (30+2*i)) F.rows.length) l0;have hr:AzU∈Pf:=yU hj;refine⟨AhV,F.ns,30+2*i,Ape (30+2* sN) (30+2* sN) (30+2*i),hl,Τ,?_,?_⟩
 ·show BL1≠0;show He;omega
 refine⟨Bv AzU,?_,Β,Β,?_⟩
 ·show nZ (F.rows.map Bv) ((cL F.ns (30+2*i)).LS BL1)=_;show ACN ej;exact Bt (AJV AWt)
 generalize AzU=r at hr⊢;obtain⟨w,hd,m⟩:=r;obtain⟨hk,hm⟩:hd∈kW Pf w/\mW Pf w hd=m:=yih BEJ hr;have hw:w∈Na:=(O.A.so.wm w).mpr (NE hr);have pw:=pm w hw;show Hc hd' (hd∈K' w) BIx eL (jj (K' w) hd=K' w) (CH hd') Nk (C7 K' w<=12) (AX pw.length_eq A2j) nd BJm BWm;have mm:=(O.lv w).mm
 
 show LP e6 (BdL zqs) (by
  intro cs K' y11 pm;refine A2P BL4
  rw[z2m];refine D_ Air;rw[K5];refine⟨Β,CD,BD' O ?_⟩
  rw[z2m];show F8 Air;rw[K5];exact h _ _ _ _ _ _ _ pm) e4 (BdL zp9) (by
  intro cs K' y11 pm;have pw:=pm w hw;have hd' :hd∈K' w:=BIx;have nd:BJm:=BWm;show Hc BM (aS A5M (h∈K' w/\h≠hd)) (nE (BNo hh hh)) nd' (iK (K' w) hd).OO (nd.sublist List.filter_sublist) nin (hd∉A5M) (AV ((BM hd z).2 Β)) eA (jj BSm hd=A5M++ [hd]) (B4 nin);have pA:BXS BSm:=by
   refine List.Perm.trans ((Bki (zs8 nd') nd).mpr AOj) pw;rw[z22];constructor
   ·rintro(z | Β)
    ·exact(BM h z).1
    ·exact hd'
   ·intro z;by_cases q:h=hd
    show KL q
    ·exact .A0 (ARW ⟨z,AEQ⟩)
  refine⟨AQb,a,cs,_,Β,F.p,AFt,Na,eB,K',mW Pf,F.u,w,hd,Β,Β,O.o,hw,hd',BBv (AxO (BM h hh).1) nd' (nE (mm h (BEK (BM h hh).1))),?_⟩;unfold rJ;split
  ·exact fun cs=>e6 cs K' _ pm
  ·intro q hq cs;refine BEG O hw pA (zO (J3 nd' (nE (AxO (BM h hh).1))) A2j) (DC hm (z64 _ _)) fun cs d=>e6 cs _ d (BO v hv)
   show L7 v w
   ·subst e;rw[Nj];exact pA
   show Dx (Z9 _ _ e) (pm v hv)) ⟨AQb,AhV,F.ns,31+2*i,Ape (31+2* sN) (31+2* sN) (31+2*i),hl,Τ,Bcr,fR (10^ AO0 12),?_⟩
 have lm:=É (cL F.ns (31+2*i)) (10^ AO0 12)
 obtain⟨m',em⟩:∃m',(cL F.ns (31+2*i)).LS (10^ AO0 12)=m' :=FG;rw[em] at lm;have m2:m'.natAbs<2^100:=by
  have:(B7 10^ AO0 12)<2^100:=CD
  omega
 refine⟨a,cs,_,Β,F.p,AFt,Na,eB,K',mW Pf,F.u,w,hd,m',Β,OT (E9 [RI w,RI hd,GW z]) em,O.o,hw,Nk,?_⟩;rw[eL];show F8 (BBv (AxO hh) nd AYm)
 ·unfold up;split
  ·exact m2
  ·exact mm h (BEK hh)
 unfold rJ;split
 ·exact fun cs=>BcQ
 ·intro q hq cs;refine BEG O hw (Do eL pw) Nk (by rw[ye3,<- hm];exact z64 _ _) (BO cs d)
  rw[eL,z64];exact BcQ
#where
theorem yoc(B_ z1m):WA z8n 12:=by
 show AEs ns hl;have s1:=xV;show APw t4 e4 h4 (cL ns 0) 4
 show APw t6 e6 h6 (cL ns 1) 6
 refine⟨ns,0,Β,hl,Τ,fR 4,ns,1,Β,hl,Τ,fR 6,ns,1+t4,1+t6,?_,hl,Τ,Τ,Τ,fun Ξ U few hU hr uq mk=> ?_⟩
 ·show [AFn _,GW (1+ ϒ 0 4),GW (1+ ϒ 1 6)]=_;rw[show ϒ 0 4=B7 t4 from e4,show ϒ 1 6=B7 t6 from e6,ARl,ARl];rfl
 have O:AWg:=⟨uq,few,⟨U,Τ,hr⟩,lI (Ao5 (mk r hr) AD)⟩
 refine⟨ns,Β,hl,fun ps C=>⟨ps,Β,BV5,?_⟩⟩
 show bv (Y2 (z2k C.gd C.len)) ⟨ns,Ξ,ps,Β,hl,O,C,fun r g bd ms x ws u ws0 ch G A S=>⟨_,_,_,Β,⟨fun d z=>AIo,fun k z=>AIo⟩,BO a as⟩⟩ ⟨ns,Ξ,ps,Β,hl,O,C,fun r' g' Vw Ep x' ws' u' ws0' ch' G' A' S' =>⟨_,_,_,Β,⟨fun d z=>AIo,fun k z=>AIo⟩,BO b bb⟩⟩
 show DT Β Β Β ch.uniq ch';show BBg;show DE Β eu A.uniq A';rw[z10 eu] at S' ⊢
 let F:AO4:=⟨ns,Ξ,pU r' g' ps ms x,ws0,ws',ZR (Bj ps ws' u) Vw,u,b,bb,pU r' g' ps Ep x',ws0',u'⟩
 have FO:F.Ok:=⟨O,S,S',G.lv O r' g' ps,A,BbB A.ok (G.lv O r' g' ps w) A.ok,Β,eu⟩
 refine A2P (BD' FO (D_ (yno _ _ _)))
 show ĵ z1d [AWu,ř,Amn,.tr (a::as) (yr c F.p AFt Na eB ye AWk u),BSQ (b::bb) ye AWk u',.pu (toD (AV' F.tb.map)),C_,C_,C_,C_,C_,C_];rw[z2m];show PD IS (yh8 _) AhV
 show AXa ⟨Ag7,Ag7⟩ (∃cs K' y7 y8 y9 y10 y11,Γ=F.st a cs K' AWk u y7 y8 y9 y10 y11/\Ajh (Au8 (kW Ξ w))) ⟨as,kW Ξ,_,_,_,_,_,Β,fun w _=> kB⟩
 ·rintro i _ hi ⟨cs,K',y7,y8,y9,y10,y11,Β,pm⟩;refine Ý (Fast.turn FO pm) ?_ hl ?_ fun cs K' y7 y8 y9 y10 y11 pm=>⟨cs,K',y7,y8,y9,y10,y11,Β,pm⟩
  ·split at hi
   ·exact hi
   ·exact AjU hi
  ·rintro Β;exact AjU hi
 ·rintro _ ⟨cs,K',y7,y8,y9,y10,y11,Β,pm⟩;show F8 Air;rw[K5];exact h
#print L3
local macro_rules | `(#[$x])=> `(by exact $x)
local macro_rules | `(#[$x,_])=> `(fun _ _ _ _ _ _=>by exact $x)
local macro_rules | `(tactic| symm_saturate)=> `(tactic| exact⟨rfl,by decide+kernel,by decide+kernel,by decide+kernel,rfl,by decide+kernel⟩)
local macro_rules | `(tactic| trivial)=> `(tactic| first | exact Or.inl rfl | exact Or.inr (Or.inl rfl) | exact Or.inr (Or.inr rfl) | exact Or.inr rfl)
namespace Lw
open IB OL JO L2 L3
seal QE QF QT QW QA QS qT QG Xf QI Ul Ow QIg QO QR QRA QN Yv
theorem bZ{k:Δ}{A:BV}{e:Env}(hr:AdQ k e):BgA e:=MU hr.units
theorem mV{us:An}{n:Δ}(h:ng=n+1):∃a r,us=a::r/\OS=n:=by
 cases us with
 | DB=>cases h
 | AY a r=>exact Nw a r (Nat.succ.inj h)
theorem len1{us:An}(h:ng=1):∃a0,us= [a0]:=by
 show AQw;show SH (AQ8 h0);exact Ŋ a0
theorem len2{us:An}(h:ng=2):∃a0 a1,us= [a0,a1]:=by
 show AQw;show AaH;show SH (AQ8 h1);exact OC a0 a1
theorem tu{us:An}(h:ng=3):∃a0 a1 a2,us= [a0,a1,a2]:=by
 show AQw;show AaH;show Apq;show SH (AQ8 h2);exact⟨a0,a1,a2,Β⟩
theorem Tw{us:An}(h:ng=4):∃a0 a1 a2 a3,us= [a0,a1,a2,a3]:=by
 show AQw;show AaH;show Apq;show BAv;show A4b h3;exact⟨a0,a1,a2,a3,Β⟩
theorem abZ{us:An}(h:ng=5):∃a0 a1 a2 a3 a4,us= [a0,a1,a2,a3,a4]:=by
 show AQw;show AaH;show Apq;show BAv;show AL7 a4 u4 h4 h3;show A4b h4;exact⟨a0,a1,a2,a3,a4,Β⟩
theorem ab0{us:An}(h:ng=6):∃a0 a1 a2 a3 a4 a5,us= [a0,a1,a2,a3,a4,a5]:=by
 show AQw;show AaH;show Apq;show BAv;show AL7 a4 u4 h4 h3;show AL7 a5 u5 h5 h4;show A4b h5;exact⟨a0,a1,a2,a3,a4,a5,Β⟩
section
variable(P:As)(w:AW)(K:Ω)(mg:DU)(A8:AJ)(c:DZ)
abbrev zen:Θ:=BXP
abbrev zh8:Θ:=BXQ
abbrev Tz:Θ:=BSN
abbrev zel:Θ:=Bb'
abbrev TF:Θ:=Bag
abbrev zkj:Θ:=BeA
abbrev zqc:Θ:=BWc
abbrev VJ:Θ:=BfK
abbrev ztb:Θ:=Baq
abbrev zc1:Θ:=BR5
abbrev zgq:Θ:=BXT
abbrev zti:Θ:=BSO
abbrev VL:Θ:=Bat
abbrev zf1:Θ:=Baj
abbrev zn5:Θ:=Bak
abbrev zs4:Θ:=BaB
abbrev zzu:Θ:=BQa
abbrev zud:Θ:=BX4
abbrev zpc:Θ:=BQb
abbrev zkt:Θ:=BXV
abbrev z87:Θ:=BQd
abbrev z0k:Θ:=BX6
abbrev zfg:Θ:=BX2
abbrev z2q:Θ:=BX5
abbrev zzr:Θ:=BdD
abbrev zq5:Θ:=BX3
abbrev zk7:Θ:=BXJ
abbrev VN:Θ:=BbH
abbrev zdn:Θ:=Ba0
abbrev zo8:Θ:=Bay
abbrev zy5:Θ:=BbY
abbrev zfv:Θ:=BbX
abbrev VP:Θ:=BcB
abbrev VR:Θ:=Bbb
abbrev zd3:Θ:=BYS
abbrev zg0:Θ:=BYL
abbrev zcs:Θ:=BYU
abbrev zke:Θ:=BYM
#where
section
variable{P:As}{w:AW}{K:Ω}{mg:DU}{A8:AJ}{f:Ζ}{fd:E_}{cdv:AE}{A:BV}{Cf:L4}{s:AB}{H:Hp}{E:XK}{F0:Hp}(c:DZ)
theorem jz:AoM zc6:=BF
theorem zju(F:Au č BDN zc6)(M:ö č)(ak:KG)(aC:AH1):BXP:=
 APh (B2 jh jz zj8 zeo (by
  have nd:=jz.nd;have hu:=bZ hr;exact(bO #[qW #[z9t iA A1 APQ ANX]
   (C6 #[Yw])
   GU])) (B' zkm))
theorem oV:AoM zfw:=BF
theorem zp5(F:Au HR BDO zfw)(M:ö HR)(cI:BC zen)(ak:KG)(aC:AH1):BXQ:=
 APh (B2 jh oV zsa zi7 (by
  have nd:=oV.nd;have hu:=bZ hr;exact(bK Bc2
   (D' #[zs2 iA APQ A1]))) (B' zsk))
theorem Cy:AaJ zze:=BF
theorem yc7(F:Au Aaf Aaf zze)(hm:Cb Aaf):BSN:=
 ⟨f,fd,B2 jh Cy yit z1f (by
  have nd:=Cy.nd;have hu:=bZ hr;exact(X9 #[FJ AV5 AAV A7S NB])) (B' yk4),hm,C3,B9 (by show GS;exact Β)⟩
theorem nM:DM [MD,HR,VX,"border"] [MD,HR] zfk:=BF
theorem zos(F:Au dl dl zfk)(hm:Cb Aqk)(cF:BC Tz)(eG:Ahy)(aZ:PH):Baw:=
 ⟨f,fd,B2 jh nM zra zhn (by
  have nd:=nM.nd;have hu:=bZ hr;exact(bK #[Xr Β #[zhu Β Β eG T0] (AoK 2 3)
   (C6 #[qW (A_E F7 (QM (Gx (AEW A1 F7))))
   (D' ϭ)
   GU])]
   (D' #[sy (C5 yJ) Β aZ boot_len T0]))) (B' zq3),hm,C3,B9 (by show GS;exact Β)⟩
theorem nO:AoM zfi:=BF
theorem zoo(F:Au dl BDP zfi)(M:ö dl)(jJ:Baw)(fG:BC zh8)(ak:KG)(aU:Bhy):BXR:=
 APh (B2 jh nO zqo zhm (by
  have nd:=nO.nd;have hu:=bZ hr;exact(X9 (fI jJ (AHG aU) (Rn fG ak ML B1 W')))) (B' zqt))
theorem nP:AEj Mn Mn zdp:=BF
theorem zof(F:Au RO BDQ zdp)(M:ö RO)(fG:BC zh8)(jK:BXR)(cG:AM2)(ak:KG)(aC:AH1):Bb':=
 ⟨f,fd,B2 Jt nP zrx zhj (by
  have nd:=nP.nd;have hu:=bZ hr;exact(FE bO (FE Yd (FE ymc (Av (A7:= [PZ]) (N' := A4T) (by show fH [Mn] _ [PZ] [0] (bw zdp) A4T;symm_saturate) Β (OK (iR #[z2f Β Β cG (MO APQ)])) #[MX A4T,_] #[yK,_] #[yI (au B1 (HV (Rn fG ak ML A1 T0) (Rn jK ak ML A1 T0))),_]))))) (B' zqi),M,B9 (by show UR;exact Β)⟩
theorem tD:DM [ABH,BEY,"_law_letters","_law_size","_law_at",Blg,AKt,"_law_name","_law_j",Blh] [ABH,BEY] zkk:=BF
theorem zyo(F:Au Aag Aag zkk)(hm:Cb Aag)(bF:Ů)(mq:Ae9):Baf:=
 ⟨f,fd,B2 jh tD zz2 zie (by
  have nd:=tD.nd;have hu:=bZ hr;exact(bK (Jn 2 #[HJ])
   #[bK (BYA B1)
   #[bK #[qW (Ŷ ABw AzM)
   (C6 (Jn 3 #[aW]))
   GU]
   #[bK (UZ 4 m8 (AG5 B1) F7)
   #[bK (AXx 5)
   #[bK #[Oq Β Β bF (vk A1) (RC 6)
   #[bK (Jn 7 #[HJ])
   #[bK #[Oq Β Β bF (vk (ŋ F7 (kC ś (Ap6 (APj AzM aW))))) (RC 8)
   #[bK (UZ 9 m8 (ŋ (ŋ (jb qy (AG5 B1)) (jb qy (kC tS tS))) (jb qy tS)) aW)
   (C6 (UZ 7 qX Ž (SA DI (pv (ŋ AIH (kC ś (Ap6 (z2b (APj tS L9) (Xd (FJ AH2 AzM aW NB))))))))))]]
   (C6 (Agr 5 (vk Ž)))]]]
   (D' #[qv 5])]]]]])) (B' zyv),hm,C3,B9 (by show GS;exact Β)⟩
theorem uW:DM [OU,AKt,Blh] [OU,AKt] znv:=BF
theorem zz1(F:Au Aah Aah znv)(hm:Cb Aah)(aZ:PH):Bag:=
 ⟨f,fd,B2 jh uW z4a zre (by
  have nd:=uW.nd;have hu:=bZ hr;exact(bK #[qW #[pO AV5 A1 Î NB]
   (D' #[fU B1 A1 xc])
   GU]
   #[bK (UZ 2 qX BJh aW)
   #[bK #[qW (Ŷ AIv Î)
   (C6 (UZ 2 m8 (ŋ (jb qy (SA B1 (AI4 BJh Î))) (jb qy A1)) aW))
   GU]
   (D' #[bJ (C5 m8) (kC DI DI) aW])]])) (B' z5f),hm,C3,B9 (by show GS;exact Β)⟩
theorem qK:DM [BEZ,BEa,BEb,Ab1,ABH] Bjh zi2:=BF
theorem zum(F:Au Aai Aai zi2)(hm:Cb Aai):BXw:=
 ⟨f,fd,B2 jh qK zxd zha (by
  have nd:=qK.nd;have hu:=bZ hr;exact(bK #[qW A7v
   (D' #[FJ AIv (pv L9) aW NB])
   GU]
   #[bK #[qW A7v
   (D' #[yoz (APj DI (AI4 A1 F7)) (Xd (APj DI (AI4 (AOn A1) F7)))])
   GU]
   #[bK #[qW A7v
   (D' #[z2b (APj (pv A1) (pv DI)) (Xd (FJ AIv (pv L9) aW NB))])
   GU]
   (D' #[QL])]])) (B' zx8),hm,C3,B9 (by obtain⟨_,_,_,_,_,Β⟩:=abZ hl;exact Β)⟩
theorem uX:DM [OU,Ab1,BEO,BEZ,"_law_most",Blg,"_law_people",Ab5,BEa,BEb,ABH,"_law_turn"] [OU,Ab1,BEO] zng:=BF
theorem z0s(F:Au Aaj Aaj zng)(hm:Cb Aaj)(mC:Baf)(aO:BC TF)(oE:BXw)(bF:Ů)(aZ:PH):BeA:=
 ⟨f,fd,B2 jh uX z5g zg2 (by
  have nd:=uX.nd;have hu:=bZ hr;exact(bK (UZ 3 m8 AML aW)
   #[bK (Ant 4 (iR #[xY (au aW (au aW (HV aW BOa)))]) Aej)
   #[bK (kq 5 mC AML DI)
   #[bK (kq 6 mC AML A1)
   #[bK (AXx 7)
   #[bK #[Oq Β Β bF (vk DI) (RC 8)
   (C6 #[Oq Β Β bF (vk A1) (RC 9)
   #[bK (Aln 10 (ŋ (AHf (kC tS A1)) AIH))
   (C6 #[qW #[Gx (Ķ oE (au F7 (au tS (au AIH (AHB (qv 10))))))]
   (C6 (Agr 7 #[au (yI (ϟ (SA ϛ tS) (SA ś AIH) (AI4 (AG5 (qv 10)) L9))) aN]))
   GU])]])]
   #[bK (UZ 11 m8 (AG5 AML) (AOn (z99 (UU (APF Ž)))))
   (D' #[iR #[Us (iR #[Jg Ž (FP AOI) K7]) (iR #[Jg Ž K7 (FP AOI)])]])]]]]]])) (B' z5b),hm,C3,B9 (by show sQ;exact Β)⟩
theorem zm:DM AJh [AKv,AFx] zuw:=BF
theorem z5t(F:Au Aak Aak zuw)(hm:Cb Aak)(cF:BC Tz):Bap:=
 ⟨f,fd,B2 jh zm yc1 zxp (by
  have nd:=zm.nd;have hu:=bZ hr;exact(X9 #[z2b (AEW kD AGz) (Xd (ylf (AEW AGz kD)))])) (B' yb2),hm,C3,B9 (by show GS;exact Β)⟩
theorem uY:AEj YY YY zjm:=BF
theorem zyz(F:Au Aal Aal zjm)(hm:Cb Aal)(wG:Bap)(Kc:Nn "all")(aZ:PH)(jl:AI9):BWc:=
 ⟨f,fd,B2 jh uY z32 zpm (by
  have nd:=uY.nd;have hu:=bZ hr;exact(zw (z2b (FJ AIv Î aW NB) (Xd (AxA yoj Kc boot_all (FE iR (Av (A7:= AJh) (N' := AJh) (by show fH [YY] _ AJh [] (bw zjm) AJh;symm_saturate) Β (AQJ Uw jl (HV B1 A__)) #[GC Β (tV (AGm (fA AJh) Β DO) (tV (ĳ 1 (fA AJh) Β DO) Gz)),_] #[yK,_] #[A8j wG,_]))))))) (B' z5h),hm,C3,B9 (by show UR;exact Β)⟩
theorem mD:AUJ Avr YY V2:=BF
theorem zm7(F:Au KP AbU V2)(lu:BC zqc)(tE:Aye)(bQ:AM6)(aP:Afj):eU P w K mg A8 V_ 4 f fd Avr (vY K iP YY (S7 c)):=by
 have nd:=mD.nd;refine ykb F Β mD bQ aP Β AYe (ALn yk1) (As6 ?_);show ā AbU V2
 exact⟨Β,zf6 K c,zfd K c,Ev (qW #[QM (Gx (Ķ lu W'))]
 (C6 #[Yw])
 GU),
 Ev (Xv (C5 yke) Β tE boot_tuple W'),Bd5 yla⟩
theorem zm5(F:Au KP AbU V2)(M:Mk K iP f)(hm:j_ ARI iP)(lu:BC zqc)(tE:Aye)(bQ:AM6)(aP:Afj):BfK:=
 ⟨f,fd,zm7 c F lu tE bQ aP,M,hm,B9 (by show GS;exact Β)⟩
theorem pW:DM [BEd,BEe] [BEd,BEe] zg1:=BF
theorem zsj(F:Au Aam Aam zg1)(hm:Cb Aam)(qL:Ahz):Bah:=
 ⟨f,fd,B2 jh pW zu2 zjv (by
  have nd:=pW.nd;have hu:=bZ hr;exact(bK (Jn 0 (BAI T0))
   #[bK (AI' (BAI W'))
   #[bK #[z2p (Ŷ AIv A1)
   (C6 #[WE yn5 0 j 1 Β nd Β Β AD Β Β (AHB (AI4 B1 A1)) Β])]
   (D' AO3)]])) (B' zwb),hm,C3,B9 (by show GS;exact Β)⟩
theorem wH:DM [BEQ,BER,"_law_by"] [BEQ,BER] zro:=BF
theorem z40(F:Au Aan Aan zro)(hm:Cb Aan)(mX:Bah):Baq:=
 ⟨f,fd,B2 jh wH yay zs5 (by
  have nd:=wH.nd;have hu:=bZ hr;exact(bK (kq 2 mX B1 A1)
   #[bK #[qW (Ŷ AV5 A1)
   (C6 (UZ 2 HS aW DI))
   GU]
   (D' BTt)])) (B' z7s),hm,C3,B9 (by show GS;exact Β)⟩
theorem jP:AjI [OU,"_law_x","_law_y","_law_by","_law_points",AKt,ABH,"_law_height"] zdi:=BF
theorem zj5(F:Au Aao Aao zdi)(hm:Cb Aao)(aO:BC TF)(jt:BC ztb)(bF:Ů)(qL:Ahz):BR5:=
 ⟨f,fd,B2 jh jP zmn zfj (by
  have nd:=jP.nd;have hu:=bZ hr;exact(bK (UZ 1 HS Aej aW)
   #[bK (UZ 2 HS Aej aW)
   #[bK (BYA AML)
   #[bK (AXx 4)
   #[bK #[Oq Β Β bF (vk Aj9) (RC 5)
   #[bK (Aln 6 (AHf ϛ))
   #[bK (kq 7 jt DI (AHf A1G))
   #[bK #[qW #[Gy (Xc (pO AIv ϛ aW NB) (Xb (APH (pv ś) aW)))]
   (C6 (Ant 7 (yfu (i:=4) Β DO (jb HS ϛ) xc) aW))
   GU]
   #[bK (BM6 4 (WC jt A1 F7) Ž)
   #[bK (UZ 1 qX (AOn A1) A1G)
   (C6 (UZ 2 qX (kC aW (AOn (sy (C5 yds) Β qL boot_abs Ayh))) A1G))]]]]]]
   (D' Aio)]]]])) (B' zmi),hm,C3,B9 (by show UR;exact Β)⟩
theorem uZ:AjI [OU,ABH] znl:=BF
theorem zyw(F:Au Aap Aap znl)(hm:Cb Aap)(aO:BC TF)(jt:BC ztb):BR6:=
 ⟨f,fd,B2 jh uZ z35 zrs (by
  have nd:=uZ.nd;have hu:=bZ hr;exact(bK (Aln 1 aW)
   (D' #[yI (HV (SA (iR #[xY (au HJ (HV HJ HJ))]) (pv A1)) (WC jt (ATs A1) (AHf (ATs A1))))]))) (B' z4v),hm,C3,B9 (by show UR;exact Β)⟩
theorem Gj:DM [AFy,ZA] [AFy,ZA] z23:=BF
theorem yjy(F:Au Aaq Aaq z23)(hm:Cb Aaq)(zp:Ayf):Bai:=
 ⟨f,fd,B2 jh Gj ym6 z6y (by
  have nd:=Gj.nd;have hu:=bZ hr;exact(zw (BYj (FE iR (Av (A7:= [FA]) (N' := Az5) (by show fH AnG _ [FA] [0] (bw z23) Az5;symm_saturate) Β (OK A1) #[MX Az5,_] #[yK,_] #[FJ (C5 Rg) B1 A1 ANX,_]))))) (B' ymt),hm,C3,B9 (by show GS;exact Β)⟩
theorem zu:DM BdH [AKw,ZA] zpi:=BF
theorem z86(F:Au Aar Aar zpi)(hm:Cb Aar)(Bl:Bai)(bI:ze)(cG:AM2)(zy:Ayg):Bas:=
 ⟨f,fd,B2 jh zu yfn zx3 (by
  have nd:=zu.nd;have hu:=bZ hr;exact(bK (EL (FE Rf (Amg (A7:= [AFy]) (N' := AnG) (by show fH BdH _ [AFy] [1] (bw zpi) AnG;symm_saturate) Β (OK B1) #[MX AnG,_] #[A'S (AGt Bl A1),_] #[qv 0,_])))
   #[bK (xL Mi 3 (Apv W'))
   #[bK #[Oo Β AO3 (RC 4)
   (C6 #[qW #[Gx (WC Bl L9 A1)]
   (C6 (ACa (ŧ OD) (C5 z5r) Bnr PySem.F.type_list_extend (vk L9)))
   GU])]
   (D' #[iR #[Us DI (iR (AAS (iR #[ycq Β Β cG Β zy Ayi])))]])]])) (B' ydu),hm,C3,B9 (by show GS;exact Β)⟩
theorem wJ:Azo [Ğ,NW,PZ,FA,HR] zr3:=BF
theorem z4w(F:Au Aas Aas zr3)(hm:Cb Aas):BXT:=
 AiK (B2 Jt wJ z5x ztn (by
  have nd:=wJ.nd;have hu:=bZ hr;exact(bK (xL ztv 1 Ag1)
   #[bK #[Oo Β AO3 #[GC Β (tV (AdS 2) (Aex 3 4))]
   #[bK #[qW #[ygf (i:=1) iA ϭ Β DO]
   (C6 (ACa (WE ymd 1 j 2) iA Β DO Ag1))
   GU]
   (C6 #[yob (i:=1) (j:=2) (l:=3) iA Β DO Β DO Β DO Aio])]]
   (C6 #[Yd #[yf1 (i:=1) Β DO]])])) (B' z8v))
theorem Aa:Azo [Ğ,AKw,Md] zut:=BF
theorem ybm(F:Au Aat Aat zut)(hm:Cb Aat)(wK:Bas)(dI:BC zgq)(cG:AM2)(bI:ze):BXU:=
 AiK (B2 Jt Aa ycw zwf (by
  have nd:=Aa.nd;have hu:=bZ hr;exact(bK (AI' #[iR AeP])
   #[bK #[Xr Β #[z6i (ABj zvx dI T0)] (RC 2)
   (C6 (kq 1 wK A1 (iR #[Um (C5 (yh9 Β)) Β bI BEf Ayh])))]
   (C6 #[Yd #[ymc #[ycn (C5 (yll hu)) Β cG boot_sorted W']]])])) (B' yeo))
theorem wL:DM [AKs,Pi,"rest"] [AKs,Pi] zp6:=BF
theorem z4h(F:Au Aau Aau zp6)(hm:Cb Aau)(qL:Ahz):BSO:=
 ⟨f,fd,B2 jh wL yar ztp (by
  have nd:=wL.nd;have hu:=bZ hr;exact(bK #[z2p (Ŷ AH2 A1)
   #[bK (UZ 2 m8 B1 A1)
   #[bK (Jn 0 AJN)
   (C6 (AI' ϭ))]]]
   (D' (BAI T0)))) (B' z5m),hm,C3,B9 (by show GS;exact Β)⟩
theorem tG:DM [ZE,Ab6,ZH] [ZE] zgz:=BF
theorem zwx(F:Au Aav Aav zgz)(hm:Cb Aav)(j4:BC zti):BXI:=
 ⟨f,fd,B2 jh tG zz8 zny (by
  have nd:=tG.nd;have hu:=bZ hr;exact(bK (Jn 1 #[aW])
   (EL (bK #[Oo Β AO3 (RC 2)
   (C6 (UZ 1 qy A1 (eg vU (ABi DI) (WC j4 A1 (ABi DI)))))]
   (Ahr (FE iR (Av (A7:= [ZH]) (N' := [ZH,Ab6]) (by show fH [ZE,Ab6,ZH] _ [ZH] [1] (bw zgz) [ZH,Ab6];symm_saturate) Β (OK B1) #[MX [ZH,Ab6],_] #[yK,_] #[bJ (C5 qy) kD (eg vU A1 kD),_]))))))) (B' zy2),hm,C3,B9 (by show UR;exact Β)⟩
theorem wM:DM Agq Agq zmf:=BF
theorem z37(F:Au Aaw Aaw zmf)(hm:Cb Aaw)(jl:AI9):BXx:=
 ⟨f,fd,B2 jh wM z6d ztc (by
  have nd:=wM.nd;have hu:=bZ hr;exact(zw (FE iR (Av (A7:= BNu) (N' := AqI) (by show fH Agq _ BNu [0,1,2,3] (bw zmf) AqI;symm_saturate) Β (AQJ Uw jl BLj) #[GC Β (tV (AGm (fA AqI) Β DO) (tV (ĳ 1 (fA AqI) Β DO) Gz)),_] #[yK,_] #[bJ (C5 vU) (eg HS (kC (SA F7 L9) B1) (kC BLs A1)) ϛ,_])))) (B' ybu),hm,C3,B9 (by show A6N;exact Β)⟩
theorem wN:BW8 ny Ab7 ny zle:=BF
theorem z31(F:Au Aax Aax zle)(hm:Cb Aax)(uJ:BXx)(eG:Ahy):BeB:=
 ⟨f,fd,B2 jh wN yai zsv (by
  have nd:=wN.nd;have hu:=bZ hr;exact(bK (Ant 3 B1 A1)
   (Ahr (FE iR (Av (A7:= BJS) (N' := Apw) (by show fH [RO,VX,ny,Ab7] _ BJS [1,2,3] (bw zle) Apw;symm_saturate) Β (AQJ zhu eG T0) #[GC Β (tV (AGm (fA Apw) Β DO) (tV (ĳ 1 (fA Apw) Β DO) Gz)),_] #[yK,_] #[Ui (APH B1 DI) A1 (Ķ uJ (au A1 (au L9 (HV DI F7)))),_]))))) (B' z8z),hm,C3,B9 (by show sQ;exact Β)⟩
theorem u6:DM ["top",BES,"common"] ["top",BES] zm2:=BF
theorem z02(F:Au Aay Aay zm2)(hm:Cb Aay)(j4:BC zti):Bat:=
 ⟨f,fd,B2 jh u6 z3u zpz (by
  have nd:=u6.nd;have hu:=bZ hr;exact(bK #[qW (Ŷ ABw A1)
   (C6 #[Yw])
   GU]
   #[bK (kq 2 j4 B1 A1)
   #[bK #[qW (Ŷ AV5 A1)
   (C6 (Jn 2 #[Jb (qv 2)]))
   GU]
   (D' BTt)]])) (B' z34),hm,C3,B9 (by show GS;exact Β)⟩
theorem tH:BW8 AR1 Pi AR1 zka:=BF
theorem zwm(F:Au Aaz Aaz zka)(hm:Cb Aaz)(bI:ze):Be9:=
 ⟨f,fd,B2 jh tH z0z zn7 (by
  have nd:=tH.nd;have hu:=bZ hr;exact(bK (xL Mi 3 (Apv T0))
   #[bK #[ŧ ygc Β DO AJN #[fU B1 DI xc]]
   #[bK #[ŧ ygc Β DO ϭ #[fU B1 A1 xc]]
   (D' AWv)]])) (B' z0n),hm,C3,B9 (by show sQ;exact Β)⟩
theorem Kd:DM [RO,VX,AR1] [RO,VX] yjl:=BF
theorem ymf(F:Au "led" "led" yjl)(hm:Cb "led")(pY:Be9)(bF:Ů)(aZ:PH):Bau:=
 ⟨f,fd,B2 jh Kd yot yg7 (by
  have nd:=Kd.nd;have hu:=bZ hr;exact(bK #[z82 Β Β bF (A'l A1 Î) (RC 2)
   (C6 #[qW (Ŷ AH2 (SA (SA B1 DI) A1))
   (D' (ľ pY Awg))
   GU])]
   (C6 #[Yw]))) (B' yow),hm,C3,B9 (by show GS;exact Β)⟩
theorem Ab:DM BBK [Ğ,ArU] V3:=BF
theorem z5n(F:Au Aa0 Aa0 V3)(hm:Cb Aa0)(pZ:BXI)(uK:BeB)(bH:BC VL)(Ke:Bau)(bF:Ů)(aZ:PH)(jl:AI9)(eG:Ahy):Bax:=
 ⟨f,fd,B2 jh Ab yfr zxz (by
  have nd:=Ab.nd;have hu:=bZ hr;exact(bK (EL (FE Rf (Amg (A7:= APS) (N' := APS) (by show fH BBK _ APS [] (bw V3) APS;symm_saturate) Β (AQJ Uw jl BLj) #[GC Β (tV (AGm (fA APS) Β DO) (tV (ĳ 1 (fA APS) Β DO) Gz)),_] #[yK,_] #[Adz pZ (MO (iR #[Us B1 (iR (AAS A1))])),_])))
   (EL (bK (Jn 3 #[aW])
   (EL (bK #[Oq Β Β bF (vk (APF DI)) (RC 4)
   #[bK (Jn 2 (ľ uK (ϟ (WC Ke DI L9) L9 F7)))
   (C6 (Ant 3 BLs L9))]]
   (Ahr (FE iR (Av (A7:= APu) (N' := APu) (by show fH BBK _ APu [] (bw V3) APu;symm_saturate) Β (AQJ zhu eG Ayh) #[GC Β (tV (AGm (fA APu) Β DO) (tV (ĳ 1 (fA APu) Β DO) Gz)),_] #[yK,_] #[AU0 bH Ak' (SA A1 B1),_]))))))))) (B' yb1),hm,C3,B9 (by show GS;exact Β)⟩
theorem qb:BS9 zet:=BF
theorem zsf(F:Au Aa1 Aa1 zet)(hm:Cb Aa1):Baj:=
 ⟨f,fd,B2 jh qb zt7 zj2 (by
  have nd:=qb.nd;have hu:=bZ hr;exact(zw (FE iR (Av (A7:= [Md]) (N' := [Md,FA]) (by show fH ϑ _ [Md] [0] (bw zet) [Md,FA];symm_saturate) Β (OK A1) #[MX [Md,FA],_] #[Ox (ynp iA A1 B1 ANX),_] #[qv 0,_])))) (B' ztr),hm,C3,B9 (by show GS;exact Β)⟩
theorem tK:DM ["step",ABG] ["step",ABG] zkw:=BF
theorem zyq(F:Au Aa2 Aa2 zkw)(hm:Cb Aa2):Bak:=
 ⟨f,fd,B2 jh tK z0v zn0 (by
  have nd:=tK.nd;have hu:=bZ hr;exact(X9 #[yft (C5 Xh) (C5 Xh) AGz B1 AGz])) (B' zzg),hm,C3,B9 (by show GS;exact Β)⟩
theorem wO:DM AgO AgO V4:=BF
theorem z4i(F:Au ARG ARG V4)(hm:Cb ARG)(iM:BC zn5)(zp:Ayf):BaB:=
 ⟨f,fd,B2 jh wO yah ztf (by
  have nd:=wO.nd;have hu:=bZ hr;exact(zw (FE iR (Av (A7:= [ip]) (N' := Akc) (by show fH AgO _ [ip] [1,2] (bw V4) Akc;symm_saturate) Β (OK B1) #[MX Akc,_] #[Ox (Gx (BYj (FE iR (Av (A7:= ["start"]) (N' := A7d) (by show fH Akc _ ["start"] [0,2] (ydj _ (bw V4)) A7d;symm_saturate) Β (OK A1) #[MX A7d,_] #[yK,_] #[AU0 iM (eg HS A1 B1) DI,_])))),_] #[qv 0,_])))) (B' z8g),hm,C3,B9 (by show sQ;exact Β)⟩
theorem Gk:AaJ z66:=BF
theorem yjz(F:Au Aa3 Aa3 z66)(hm:Cb Aa3)(bH:BC VL):BQa:=
 ⟨f,fd,B2 jh Gk yns z6q (by
  have nd:=Gk.nd;have hu:=bZ hr;exact(X9 (fI bH (ŋ AAV A7S) AAV))) (B' ymv),hm,C3,B9 (by show GS;exact Β)⟩
theorem Cz:DM [MD,ARG,ZH] [MD] zzx:=BF
theorem yb9(F:Au Aa4 Aa4 zzx)(hm:Cb Aa4)(nQ:BC zs4)(oF:BC zzu):BX4:=
 ⟨f,fd,B2 jh Cz yiz z09 (by
  have nd:=Cz.nd;have hu:=bZ hr;exact(bK (AI' #[yI (HV aW aW)])
   #[bK #[Oo Β AO3 (RC 2)
   (C6 (kq 1 oF A1 DI))]
   (D' AJN)])) (B' yi7),hm,C3,B9 (by show UR;exact Β)⟩
theorem CG:DM [FA,Pi,NW,"both",Blm] Bik zvw:=BF
theorem ycp(F:Au Aa5 Aa5 zvw)(hm:Cb Aa5)(cA:AyM)(jY:BC zud)(oF:BC zzu)(aZ:PH):BaC:=
 ⟨f,fd,B2 jh CG yja z1s (by
  have nd:=CG.nd;have hu:=bZ hr;exact(bK (kq 3 cA A1 (AGt cA DI))
   (EL (bK (EL (A'a (gq (i:=4)) (AWd jY (FE iR (Av (A7:= [Md]) (N' := Axl) (by show fH [FA,Pi,NW,"both",Blm] _ [Md] [] (bw zvw) Axl;symm_saturate) Β (OK F7) #[MX Axl,_] #[yK,_] #[yI (HV AUV BPL),_])))))
   (D' #[Ui (APH B1 A1) (WC oF (Ad_ (APF F7)) L9) L9]))))) (B' ykk),hm,C3,B9 (by show sQ;exact Β)⟩
theorem Ac:DM AIY AIY zpa:=BF
theorem yaq(F:Au Aa6 Aa6 zpa)(hm:Cb Aa6)(Bm:BaC):BaD:=
 ⟨f,fd,B2 jh Ac yd8 zyl (by
  have nd:=Ac.nd;have hu:=bZ hr;exact(zw (FE iR (Av (A7:= [Pi]) (N' := A_q) (by show fH AIY _ [Pi] [0,2] (bw zpa) A_q;symm_saturate) Β (OK A1) #[MX A_q,_] #[yK,_] #[Adz Bm (ϟ A1 B1 DI),_])))) (B' ye6),hm,C3,B9 (by show sQ;exact Β)⟩
theorem CJ:AaJ zzh:=BF
theorem yfa(F:Au Aa7 Aa7 zzh)(hm:Cb Aa7)(bH:BC VL):BQb:=
 ⟨f,fd,B2 jh CJ yjs z08 (by
  have nd:=CJ.nd;have hu:=bZ hr;exact(X9 (fI bH (eg HS AAV A7S) AAV))) (B' yhg),hm,C3,B9 (by show GS;exact Β)⟩
theorem tL:AEj Md Md zku:=BF
theorem zw9(F:Au Aa8 Aa8 zku)(hm:Cb Aa8)(bH:BC VL)(Kg:Nn Đ)(aZ:PH):BWd:=
 ⟨f,fd,B2 jh tL z0j zn8 (by
  have nd:=tL.nd;have hu:=bZ hr;exact(X9 (fI bH (yjk Β Β Kg B1) BPL))) (B' zy3),hm,C3,B9 (by show UR;exact Β)⟩
theorem Ad:BS9 zpg:=BF
theorem ya8(F:Au Aa9 Aa9 zpg)(hm:Cb Aa9)(jY:BC zud)(gC:BC zpc)(qd:BWd)(cA:AyM):Bb9:=
 ⟨f,fd,B2 jh Ad yec zxx (by
  have nd:=Ad.nd;have hu:=bZ hr;exact(zw (AWd jY (FE iR (Av (A7:= [Md]) (N' := [Md,FA]) (by show fH ϑ _ [Md] [0] (bw zpg) [Md,FA];symm_saturate) Β (OK BKN) #[MX [Md,FA],_] #[yK,_] #[AU0 gC (Ad_ (Amw B1)) (AJB qd),_]))))) (B' ydk),hm,C3,B9 (by show GS;exact Β)⟩
theorem mF:DM Ap4 [ZA,NW] T8:=BF
theorem zm6(F:Au Aa_ Aa_ T8)(hm:Cb Aa_)(wQ:Bax)(wR:BaD)(wU:Bb9)(cA:AyM)(aZ:PH):Bb_:=
 ⟨f,fd,B2 jh mF zom zgl (by
  have nd:=mF.nd;have hu:=bZ hr;exact(bK (EL (FE Rf (Amg (A7:= [FA]) (N' := AIY) (by show fH Ap4 _ [FA] [0,1] (bw T8) AIY;symm_saturate) Β (OK A__) #[MX AIY,_] #[yK,_] #[Adz wR Awg,_])))
   (EL (bK (EL (FE Rf (AUe (ŧ Rb) (A7:= [FA]) (N' := ϑ) (by show fH Ap4 _ [FA] [1] (bw T8) ϑ;symm_saturate) Β (OK A__) #[MX ϑ,_] #[yK,_] #[A8j wU,_])))
   (EL (bK (EL (FE Rf (AUe (Rb (i:=4)) (A7:= [FA]) (N' := ϑ) (by show fH Ap4 _ [FA] [1] (bw T8) ϑ;symm_saturate) Β (OK B1) #[MX ϑ,_] #[yK,_] #[yI (HV (APF BKN) aW),_])))
   (D' (fI wQ (iR #[Us (iR (AAS L9)) DI]) (iR #[Us (iR (AAS APs)) F7]))))))))) (B' zot),hm,C3,B9 (by show GS;exact Β)⟩
theorem u9:Azo Bew zjb:=BF
theorem zz5(F:Au Aa' Aa' zjb)(hm:Cb Aa')(wV:BXU)(ju:Bb_)(dI:Aha)(bI:ze)(jl:AI9):BXV:=
 AiK (B2 Jt u9 z4q zq1 (by
  have nd:=u9.nd;have hu:=bZ hr;exact(bK (xL ztv 1 Ag1)
   (EL (bK (EL (Oo Β (Aii wV.fn) (RC 2)
   (EL (bK (EL (A'a (ŧ gq) (FE iR (z1g Β Β bI (AWd dI.fn (FE iR (Av (A7:= [ZE]) (N' := [ZE,ZA]) (by show fH Bew _ [ZE] [2] (bw zjb) [ZE,ZA];symm_saturate) Β (OK B1) #[MX [ZE,ZA],_] #[BT7 kD A1,_] #[qv 0,_])))))))
   (C6 #[Xr Β (A9K (HV DI (WC ju DI F7))) (AoK 4 5)
   (C6 #[z07 (i:=1) iA Β DO Aio #[qv 5]])])))))
   (C6 #[Yd #[yf1 (i:=1) Β DO]]))))) (B' z5a))
theorem zoi:DM BIv BIv ze6:=BF
theorem zon(F:Au KP BDR ze6)(M:Bcq NV)(hm:j_ AKZ NV)(cY:ϴ)(oG:aK K NV PZ)(mY:aK K NV AFh):Bgs:=
 ⟨f,fd,z9z F Β zoi cY oG mY AD AYe AYe AYe (C5 Β) (C5 Β),M.1,M.2,cY,hm,B9 (by show sQ;exact Β)⟩
theorem CK:AaJ z0a:=BF
theorem ydv(F:Au AbA AbA z0a)(hm:Cb AbA)(bH:BC VL):BQc:=
 ⟨f,fd,B2 jh CK yjo z2s (by
  have nd:=CK.nd;have hu:=bZ hr;exact(X9 (fI bH AAV AAV))) (B' ykz),hm,C3,B9 (by show GS;exact Β)⟩
theorem Gn:AaJ yaj:=BF
theorem yjh(F:Au AbB AbB yaj)(hm:Cb AbB)(bH:BC VL):BQd:=
 ⟨f,fd,B2 jh Gn ymx z9l (by
  have nd:=Gn.nd;have hu:=bZ hr;exact(X9 (fI bH AAV AAV))) (B' yn3),hm,C3,B9 (by show GS;exact Β)⟩
theorem wW:DM [AKv,AFx,"x",ZH] [AKv,AFx,"x"] zpo:=BF
theorem z4c(F:Au AbC AbC zpo)(hm:Cb AbC)(Bo:BQc)(oF:BC zzu)(gC:BC zpc)(uL:BC z87):Be_:=
 ⟨f,fd,B2 jh wW z8f ztj (by
  have nd:=wW.nd;have hu:=bZ hr;exact(bK (kq 3 Bo (WC gC DI kD) BMl)
   (D' (fI oF kD (WC uL F7 BMl))))) (B' z57),hm,C3,B9 (by show sQ;exact Β)⟩
theorem oW:AUJ [Mn,"x",AKv,AFx] "x" zfu:=BF
theorem zq4(F:Au AKb BDS zfu)(M:Meth K iP AKb f)(cF:AWG)(uM:Be_)(jl:AI9)(bQ:AM6)(aP:Afj):Be0:=
 APh (B2 jh oW zss zim (by
  have nd:=oW.nd;have hu:=bZ hr;exact(bK #[qW #[QM (Gx (AEW (ABi (ABi AZW)) A1))]
   (D' #[fU (ABi AZW) aW xc])
   GU]
   #[bK #[Xr Β (A9K (HV AZW (z8b AZW Ael K7))) (AoK 2 3)
   (C6 #[qW #[Gx (AEW A1 (ABi F7))]
   (D' (ľ uM (ϟ DI F7 A1)))
   GU])]
   (D' #[fU (SA AZW AUV) aW xc])])) (B' zsu))
theorem lA:AUJ (ALt FA) FA zdw:=BF
theorem zlw(F:Au Ď BDT zdw)(M:ö Ď)(ak:KG)(aQ:Bhz):BbG:=
 APh (B2 jh lA znk zfq (by
  have nd:=lA.nd;have hu:=bZ hr;exact(X9 #[yjn iA (AHG aQ) A1 APs (Ako Β)])) (B' zmy))
theorem Gp:AEj MD MD z53:=BF
theorem yi8(F:Au AKW AKW z53)(hm:Cb AKW)(uL:BC z87)(jY:BC zud)(aZ:PH):BX6:=
 ⟨f,fd,B2 jh Gp yms ybt (by
  have nd:=Gp.nd;have hu:=bZ hr;exact(X9 (fI uL (AJB jY) (Ad_ Î)))) (B' yl7),hm,C3,B9 (by show UR;exact Β)⟩
theorem oX:AEj di di zf2:=BF
theorem zqp(F:Au AbD AbD zf2)(hm:Cb AbD):BX2:=
 ⟨f,fd,B2 jh oX zsn zi9 (by
  have nd:=oX.nd;have hu:=bZ hr;exact(X9 #[Ui (APH B1 HJ) aW aW])) (B' zr7),hm,C3,B9 (by show UR;exact Β)⟩
theorem CN:AEj "two" "two" zzz:=BF
theorem yet(F:Au AbE AbE zzz)(hm:Cb AbE)(gC:BC zpc):BX5:=
 ⟨f,fd,B2 jh CN yjp z29 (by
  have nd:=CN.nd;have hu:=bZ hr;exact(X9 (fI gC kD kD))) (B' ykg),hm,C3,B9 (by show UR;exact Β)⟩
theorem wX:DM [Y_,"best",VX,"two"] [Y_] zqn:=BF
theorem z4z(F:Au AbF AbF zqn)(hm:Cb AbF)(cF:AWG)(oH:BC z2q)(bF:Ů)(aZ:PH):BX7:=
 ⟨f,fd,B2 jh wX yad zs7 (by
  have nd:=wX.nd;have hu:=bZ hr;exact(bK (AI' #[iR #[Jg B1 K7 Ael]])
   #[bK #[z82 Β Β bF (A'l aW BLt) (RC 2)
   #[bK (Jn 3 #[iR #[Jg B1 (FP DI) (FP (AOn DI))]])
   (C6 #[qW #[QM (Gx (AEW (Ķ oH W') (AWd oH F7)))]
   (C6 (AI' AWv))
   GU])]]
   (D' AJN)])) (B' z91),hm,C3,B9 (by show UR;exact Β)⟩
theorem Gq:DM [Y_,dk] [Y_,dk] z7n:=BF
theorem yki(F:Au AKX AKX z7n)(hm:Cb AKX)(uN:BX7)(cF:AWG)(oH:BC z2q)(aZ:PH)(jZ:A'L):BdD:=
 ⟨f,fd,B2 jh Gq yne ybe (by
  have nd:=Gq.nd;have hu:=bZ hr;exact(bK #[qW #[Gy (Xc (APH Î aW) (Xb (Gx (AEW A1 (AJB oH)))))]
   (C6 #[z2d Β Β jZ.1 jZ.2 (MO HJ)])
   GU]
   (D' (Aii uN)))) (B' ymm),hm,C3,B9 (by show GS;exact Β)⟩
theorem Ae:AEj Y_ Y_ zvh:=BF
theorem ya1(F:Au AKY AKY zvh)(hm:Cb AKY)(aZ:PH):BX3:=
 ⟨f,fd,B2 jh Ae yb3 zwk (by
  have nd:=Ae.nd;have hu:=bZ hr;exact(X9 #[iR #[Jg B1 (FP (AG5 BLt)) (FP (AOn (AG5 Î)))]])) (B' ycz),hm,C3,B9 (by show UR;exact Β)⟩
theorem Af:DM BXd [MD] zo2:=BF
theorem z96(F:Au AbG AbG zo2)(hm:Cb AbG)(cF:AWG)(aZ:PH):BXJ:=
 ⟨f,fd,B2 jh Af ye4 zwv (by
  have nd:=Af.nd;have hu:=bZ hr;exact(bK (AXx 1)
   (EL (bK (EL (Oo Β AO3 (RC 2)
   (EL (bK (EL (A'a (ŧ gq) (z99 (UU (APF (FE iR (Av (A7:= [Pi]) (N' := [Pi,ZH]) (by show fH BXd _ [Pi] [2] (bw zo2) [Pi,ZH];symm_saturate) Β (OK A1) #[MX [Pi,ZH],_] #[A'S (AEW A1 B1),_] #[qv 0,_])))))))
   (C6 (ACa (OD (i:=1)) (C5 z8d) Bmi PySem.F.type_list_insert (A'l F7 DI)))))))
   (D' AJN))))) (B' ydg),hm,C3,B9 (by show UR;exact Β)⟩
theorem CP:DM Ago [di,ID,dk] NT:=BF
theorem yj9(hr:AEo 6 đ NT)(oJ:AyN)(dN:AyO)(BCr):qT (eV V_ P w K mg A8 Ago đ (bw NT) f cdv A Cf s H E) F0 H (vf NT) (ztq K c):=by
 have nd:=CP.nd;show ā đ NT
 exact(bK #[qW #[pO AV5 BIO (AJB dN) NB]
 (C6 #[z2d Β Β nR.1 nR.2 (MO HJ)])
 GU]
 #[bK #[qW #[pO ABw B1 HJ NB]
 (D' (ľ oJ W'))
 GU]
 #[bK #[qW #[pO ABw B1 HJ NB]
 (D' (ľ oJ (MO (AWd lB BKp))))
 GU]
 (D' (ľ oJ (MO (WC rM BKp (Ui (pO (C5 abt) DI HF NB) (yna Β lC) DI)))))]])
theorem ycv{f:Ζ}{fd:E_}{vM:Ζ}(c:DZ)(F:BcL)(oJ:AyN)(dN:AyO)(BCr):eU P w K mg A8 V_ 7 f fd Ago (pC K (Vk c)):=
 B2 abD CP yiv ztq (yj9 c hr oJ dN rM lB gG aZ nR lC) (B' yhm)
theorem ycy{f:Ζ}{fd:E_}{vM:Ζ}{RL:OB}{dn:Δ}{RM:ADm}(c:DZ)(F:BcL)(hT:YR vM=Ε (BBT (BGU [BI])))(hm:Cb đ)(oJ:AyN)(dN:AyO)(BCr):Bc_:=by
 have FO:=BXh ycv P c F oJ dN rM lB gG aZ nR lC;have kp:=C3;obtain⟨oc,od,kV,doc,pm,an,cdv,ct,osl,e0,lk,hcd⟩:=F.ex;subst e0;refine⟨f,_,FO,hm,kp,BY5,BY5⟩
 ·obtain⟨_,_,_,Β⟩:=tu (us:=us) AyY;exact BeH
 ·have hl2:ng=2:=CU hl
  obtain⟨_,_,Β⟩:=len2 (us:=us) (EF hl2);exact BeH
theorem jQ:DM (AkT "levels") AUr zch:=BF
theorem zkl(F:Au AAi BDU zch)(M:ö AAi)(iw:Bgs)(lD:Be0)(gC:BC zpc)(je:BbG)(Bp:Bc_)(jZ:A'L)(nR:AvX)(bQ:AM6)(ak:KG)(bG:Bh0)(bL:Ŀ di)(bV:Ŀ dk)(mZ:BO_)(qe:BQy)(uO:BL0):BbH:=
 A0s (B2 jh jQ zlk zfh (by
  have nd:=jQ.nd;have hu:=bZ hr;exact(bK (EL (FE Rf (AUe (ŧ Rb) (A7:= BIk) (N' := An2) (by show fH (AkT "levels") _ BIk [0] (bw zch) An2;symm_saturate) Β #[tZ (ydx DI)] #[GC Β (tV (AGm (fA An2) Β DO) (tV (ĳ 1 (fA An2) Β DO) Gz)),_] #[yK,_] #[AU0 gC (yI (AHB aW)) (Rn je ak ML DI T0),_])))
   (EL (FE bO (z7r (pl:=Μ) Β Β Β (A6 F0 (Ev (X9 #[Rn lD bQ ML (AHG bG) (MO (yb0 Bp ML Β (ϟ (AHG bL) F7 (AHG bV))))])))
   (EL (Qb Β jZ.1 (jZ.2).k BfC AD (EL (.one Β nR.1 (nR.2).k BfC AD))))))))) (fun ds Q Ex h=>zlm ⟨(jZ.2).k,(nR.2).k,mZ,qe,uO⟩ h))
theorem lE:DM [ID,Ab4,Y_] [ID,Ab4] zco:=BF
theorem zli(F:Au AbV AbV zco)(hm:Cb Aql)(gG:BC zk7):Ba0:=
 ⟨f,fd,B2 jh lE zm1 zfs (by
  have nd:=lE.nd;have hu:=bZ hr;exact(bK (Jn 2 (Aii gG))
   (Ahr (FE iR (Av (A7:= [Ab']) (N' := [Ab',Y_]) (by show fH [ID,Ab4,Y_] _ [Ab'] [2] (bw zco) [Ab',Y_];symm_saturate) Β (OK (iR #[Jg A1 K7 (FP (Jb aW))])) #[MX [Ab',Y_],_] #[yK,_] #[Ui (pO AIv B1 aW NB) (SA A1 (Jb B1)) HF,_]))))) (B' znq),hm,C3,B9 (by show GS;exact Β)⟩
theorem CQ:A4a [MD,n9,"lists",ABG] zy4:=BF
theorem yeq(F:Au dc dc zy4)(hm:Cb dc)(nQ:BC zs4):Bay:=
 ⟨f,fd,B2 jh CQ yi4 z2g (by
  have nd:=CQ.nd;have hu:=bZ hr;exact(bK (xL Mi 2 (AAS (iR (AAS aW))))
   #[bK #[Oo Β AJN (RC 3)
   (C6 (Agr 2 (vk (Ķ nQ (ϟ B1 (yfu (i:=2) Β DO AUV xc) F7)))))]
   (D' ϭ)])) (B' yjg),hm,C3,B9 (by show GS;exact Β)⟩
theorem lF:AUJ Af' dc T9:=BF
theorem zk6(F:Au KP AbW T9)(gJ:AjA)(jf:A4V)(jx:AyP)(bI:ze)(jA:A'M)(fP:BOb):eU P w K mg A8 V_ 4 f fd Af' (Yu K RE dc (Vh c)):=by
 have nd:=lF.nd;refine z67 F Β lF gJ jf jA.1 fP Β AYe (ALn ycl) AD (As6 ?_)
 show ā AbW T9
 exact⟨Β,Β,FG,zfr K c,Ev (yc6 (A7:= AV4) (N' := AV4) (by show fH Af' _ AV4 [] (bw T9) AV4;symm_saturate) Β (OK A1) #[MX AV4,_] #[yK,_] #[Um (C5 Xw) Β bI BEf T0,_]),Bd5 yes⟩
theorem zlb(F:Au KP AbW T9)(M:Bcq RE)(hm:j_ AKa RE)(gJ:AjA)(jf:A4V)(jx:AyP)(bI:ze)(jA:A'M)(fP:BOb):BfL:=
 ⟨f,fd,zk6 c F gJ jf jx bI jA fP,M.1,M.2,gJ,hm,B9 (by show GS;exact Β)⟩
theorem qg:DM [AK0,ID] [AK0,ID] zeq:=BF
theorem zsg(F:Au AbH AbH zeq)(hm:Cb AbH)(cF:AWG)(aZ:PH):Bav:=
 ⟨f,fd,B2 jh qg zvp zjw (by
  have nd:=qg.nd;have hu:=bZ hr;exact(zw (APF (FE iR (Av (A7:= [HR]) (N' := [HR,AK0]) (by show fH [AK0,ID] _ [HR] [0] (bw zeq) [HR,AK0];symm_saturate) Β (OK A1) #[MX [HR,AK0],_] #[A'S (AGt cF A1),_] #[qv 0,_]))))) (B' zt8),hm,C3,B9 (by show GS;exact Β)⟩
theorem Gs:AEj ID ID z1a:=BF
theorem yil(F:Au AbI AbI z1a)(hm:Cb AbI)(m5:Bav)(cG:AM2)(zy:Ayg):BWe:=
 ⟨f,fd,B2 jh Gs ylm ybi (by
  have nd:=Gs.nd;have hu:=bZ hr;exact(zw (FE iR (yig Β Β cG Β zy (au (FE iR (Us (iR (AAS aW)) (FE iR (Av (A7:= [HR]) (N' := [HR,ID]) (by show fH [ID] _ [HR] [0] (bw z1a) [HR,ID];symm_saturate) Β (OK B1) #[MX [HR,ID],_] #[yK,_] #[A8j m5,_])))) aN))))) (B' yml),hm,C3,B9 (by show UR;exact Β)⟩
theorem oY:A4a BTm zea:=BF
theorem zpt(F:Au AbJ AbJ zea)(hm:Cb AbJ)(jx:BC zo8)(bI:ze)(lG:Bkd):BYN:=
 ⟨f,fd,B2 jh oY zsb zh6 (by
  have nd:=oY.nd;have hu:=bZ hr;exact(bK (EL (FE Rf (Amg (A7:= [ip]) (N' := A6h) (by show fH BTm _ [ip] [0] (bw zea) A6h;symm_saturate) Β (AQJ zzb lG T0) #[MX A6h,_] #[yK,_] #[bJ (C5 HS) Ak' B1,_])))
   #[bK (kq 3 jx DI (iR #[ybx Β Β bI Β lG W']))
   (D' (BPw (iR #[ybx Β Β bI Β lG Ayi])))])) (B' zr9),hm,C3,B9 (by show GS;exact Β)⟩
theorem nU:A4a BCR V5:=BF
theorem zog(F:Au AbK AbK V5)(hm:Cb AbK)(lH:BYN)(iM:BC zn5)(jl:AI9)(Kh:Nn "max"):BYO:=
 ⟨f,fd,B2 jh nU zr0 zhh (by
  have nd:=nU.nd;have hu:=bZ hr;exact(bK (xL Mi 2 (AAS aW))
   (EL (bK (EL (Xr Β (A9K (AHB (AGt lH A1))) (AoK 3 4)
   (EL (bK (EL (AUe (ye0 (i:=5)) (A7:= [ip]) (N' := A7c) (by show fH BCR _ [ip] [2,3] (bw V5) A7c;symm_saturate) Β (UU (tZ (yc B1))) #[MX A7c,_] #[Ox (Gx (WC iM (eg HS B1 Ak') DI)),_] #[qv 0,_]))
   (EL (FE bO (OD (i:=2) (C5 Ur) Blj Bli Β DO (EL (MO (AxA ylg Kh boot_max (FE iR (Av (A7:= [ip]) (N' := A_r) (by show fH BCR _ [ip] [0,4] (bw V5) A_r;symm_saturate) Β (OK ϛ) #[MX A_r,_] #[BT7 (eg HS Ak' B1) DI,_] #[qv 0,_]))))))))))))
   (D' (BPw DI)))))) (B' zp7),hm,C3,B9 (by show GS;exact Β)⟩
theorem Gu:DM [ID,n9,MD,"lists"] [ID,n9] z92:=BF
theorem yhz(F:Au AbL AbL z92)(hm:Cb AbL)(jg:BfL)(Er:BWe)(jx:AyP)(jL:BYO)(aZ:PH):BbY:=
 ⟨f,fd,B2 jh Gu yny z6j (by
  have nd:=Gu.nd;have hu:=bZ hr;exact(bK (Jn 2 (Aii Er))
   #[bK (kq 3 jx DI A1)
   #[bK #[qW #[pO (C5 yo3) Î (SA F7 AUV) ANX]
   (C6 #[z78 Β jg ML Β Ayi])
   GU]
   (D' (fI jL DI A1))]])) (B' yl2),hm,C3,B9 (by show GS;exact Β)⟩
theorem jR:DM BgJ AxK NZ:=BF
theorem zl4(AQ2)(c:DZ)(hr:AEo 8 ARL NZ)(aY:AWH)(iy:BC zkt)(dI:Aha)(aR:AOZ)(BCo):AP6 BgJ ARL NZ NZ zc0:=by
 have nd:=jR.nd;show ā ARL NZ
 exact(bK (AYZ bL ϭ)
 #[bK (AYZ bV AWv)
 #[bK (AYZ bG (ABj z3b aY (MO (iR (Apv (MO (yL bQ aP L9)))))))
 #[bK (AYZ aQ #[ykr (ABj zvx iy W')])
 #[bK (BJq aH #[yab (ABj zvx dI W')])
 #[bK (BJq aC Ag1)
 #[bK #[Oo Β #[iR #[z3o (UU (z2f Β Β cG (MO A0H)))]] (RC 6)
 (C6 #[WE zvq 0 j 6 iA ak aC (BYY (UU (HV ś (zs2 (hu1 hu) A0H ś)))) Β DO Β DO])]
 #[bK (Jn 7 #[iR #[z3o (UU (z1g Β Β bI APQ))]])
 (C6 (AYZ aU (fI cH Ž (WC rN Ž ϛ))))]]]]]]])
theorem zkg(F:BSy)(aY:AWH)(iy:BC zkt)(dI:Aha)(aR:AOZ)(BCo):AP0 9 AxK Nb:=
 Al5 jR z81 zc0 (Bgq (zl4 c hr aY iy dI aR cH rN)) z85
theorem zkp(F:BSy)(M:Mk K Eg f)(hm:j_ ARH Eg)(aY:BC VJ)(iy:BC zkt)(dI:Aha)(aR:AOZ)(BCo):Be1:=
 ⟨⟨f,fd,Bgq (zkg c F aY iy dI aR cH rN),M,hm,B9 (by obtain⟨_,_,_,_,_,_,Β⟩:=ab0 hl;exact Β)⟩,Ā z8l⟩
theorem qM:AjI [OU,"_law_bounds_here",AKt,ABH,"_law_least"] zi6:=BF
theorem zve(F:Au AbM AbM zi6)(hm:Cb AbM)(aO:BC TF)(bF:Ů)(mq:Ae9):BXK:=
 ⟨f,fd,B2 jh qM zyr zmg (by
  have nd:=qM.nd;have hu:=bZ hr;exact(bK (AXx 1)
   #[bK #[Oq Β Β bF (vk Aj9) (RC 2)
   #[bK (Aln 3 (AHf DI))
   #[bK (UZ 4 qy (pv F7) (Ap6 (APj A0' aW)))
   (C6 (BM6 1 L9 (ŋ L9 (SA (iR #[xY (au aW (au aW (HV aW A0')))]) A0'))))]]]
   (D' AJN)])) (B' zxu),hm,C3,B9 (by show UR;exact Β)⟩
theorem qj:DM [OU,Ab5,ArN,"_law_rule_here","_law_gap",AcB] [OU,Ab5,ArN] zhb:=BF
theorem zr8(F:Au AbN AbN zhb)(hm:Cb AbN)(rO:BR6)(fK:Be1)(oK:BXK)(gH:AFa)(wY:BWh)(cY:ϴ)(gJ:AjA)(dJ:AXA)(qm:AGs RE)(cj:AId)(m7:BQx)(jM:BO'):BbX:=
 ⟨f,fd,B2 abM qj zus zj3 (by
  have nd:=qj.nd;have hu:=bZ hr;exact(bK #[yg0 (AJB rO) (GC Β (Aex 3 4))]
   #[bK (Aem 5)
   #[bK #[A0d z7r Β Β Β (A4S (Bc' (au F7 (au L9 (HV DI (AJB oK)))) F7 L9))
   #[Qb Β gH.1 cY.cls (Awx 5) AD #[.one Β wY.1 gJ.cls (Awx 5) AD]]]
   #[bK #[qW #[ym9 (i:=5) Β DO]
   (C6 (Bc' (au HJ (au APs (HV DI (iR #[xY (HV APs APs)])))) HJ APs))
   GU]
   (C6 #[ye7 (i:=5) Β DO])]]])) (fun ds Q Ex h=>ztx ⟨dJ,qm,cj,m7,jM⟩ h),hm,C3,B9 (by show sQ;exact Β)⟩
theorem jm:AoM zcr:=BF
theorem zhv(F:Au AAj BDV zcr)(M:ö AAj)(cI:BC zen)(Es:Nn dr)(ak:KG)(aH:AUm):BcB:=
 APh (B2 Jt jm zjr zec (by
  have nd:=jm.nd;have hu:=bZ hr;exact(bK Bc2
   (C6 #[Yd #[z6x Β Es boot_dict (MO (Amw A0H))]]))) (B' zjq))
theorem lJ:DM (AkT ny) AUr N5:=BF
theorem zm3(AQ2)(c:DZ)(hr:AEo 8 AKd N5)(aR:AOZ)(ak:KG)(aC:AH1)(aH:AUm):AP6 (AkT ny) AKd N5 N5 zdk:=by
 have nd:=lJ.nd;show ā AKd N5
 exact(bK (Jn 3 #[ydt (UU (Amw APQ))])
 #[bK #[WE zvq 0 j 1 iA ak aC (BYY (UU AuP)) Β DO Β DO]
 #[bK #[WE zvq 0 j 1 iA ak aH ϭ Β DO Β DO]
 (C6 #[Yo #[Ui (zpb (UU (APH (Amw APQ) F7))) (iR AeP) (iR (AAS A1))]])]])
theorem zmo(F:Au AAk AKd N5)(aR:AOZ)(ak:KG)(aC:AH1)(aH:AUm):AP0 9 AUr Te:=
 Al5 lJ znx zdk (zm3 c hr aR ak aC aH) zm4
theorem zlg(F:Au AAk AKd N5)(M:ö AAk)(aR:AOZ)(ak:KG)(aC:AH1)(aH:AUm):Bbb:=
 A0s (zmo c F aR ak aC aH)
theorem mG:DM [Mn,PZ,FA,HR,Md] AwP N6:=BF
theorem zoj(AQ2)(c:DZ)(hr:AEo 9 AKe N6)(aM:Ahb)(aV:AOa)(ak:KG):AP6 [Mn,PZ,FA,HR,Md] AKe N6 N6 zdt:=by
 have nd:=mG.nd;show ā AKe N6
 exact(bK (Bb7 4)
 #[bK #[z07 (i:=4) iA Β DO ϭ AWv]
 (C6 (Beo 4 L9))])
theorem znj(F:Au AAl AKe N6)(aM:Ahb)(aV:AOa)(ak:KG):AP0 10 AwP Vp:=
 Al5 mG zou zdt (zoj c hr aM aV ak) zor
theorem zne(F:Au AAl AKe N6)(M:ö AAl)(aM:BC VP)(aV:AOa)(ak:KG):BYS:=
 ⟨f,fd,znj c F aM aV ak,M,B9 (by show A6N;exact Β)⟩
theorem qN:DM [ARy,ARx,ARw,ArP,AcB] AwS N7:=BF
theorem zyu(AQ2)(c:DZ)(hr:AEo 10 ċ N7)(cR:AyQ)(gH:AFa)(ak:KG)(cY:ϴ):AP6 [ARy,ARx,ARw,ArP,AcB] ċ N7 N7 zg6:=by
 have nd:=qN.nd;show ā ċ N7
 exact(bK (Aem 4)
 #[bK #[A0d z74 Β Β Β (A4S (Jn 4 (ACa Avy cR ak ML (ϟ A1 DI F7))))
 (BUU 4)]
 (C6 #[Yo Aio])])
theorem zu8(F:Au ċ ċ N7)(cR:AyQ)(gH:AFa)(ak:KG)(cY:ϴ)(dJ:AXA)(cj:AId):AP0 11 AwS Nf:=
 GQ F qN (Ś _ h (zwp h)) fun cdv A Cf s H E hr F0 H0=>⟨zg6 K c,zyu c hr cR gH ak cY,fun a bs t ds Q Ex h=>zwo ⟨dJ,cj⟩ h⟩
theorem zt5(F:Au ċ ċ N7)(hm:Cb ċ)(cR:AyQ)(gH:AFa)(ak:KG)(cY:ϴ)(dJ:AXA)(cj:AId):BYL:=
 ⟨f,fd,zu8 c F cR gH ak cY dJ cj,hm,C3,B9 (by show A6N;exact Β)⟩
theorem jB:DM BJ6 Av3 N8:=BF
theorem zj4(AQ2)(c:DZ)(hr:AEo 9 AKf N8)(aM:Ahb)(aV:AOa)(ak:KG):AP6 BJ6 AKf N8 N8 zcq:=by
 have nd:=jB.nd;show ā AKf N8
 exact(bK (Bb7 3)
 #[bK #[qW #[ŧ ygf iA ϭ Β DO]
 (C6 #[Yw])
 GU]
 #[bK #[WE yi9 3 j 2 Β DO Β DO (Ako Β)]
 (C6 (Beo 3 F7))]])
theorem zjt(F:Au AAm AKf N8)(aM:Ahb)(aV:AOa)(ak:KG):AP0 10 Av3 Vq:=
 Al5 jB zj6 zcq (zj4 c hr aM aV ak) zkb
theorem zjp(F:Au AAm AKf N8)(M:ö AAm)(aM:BC VP)(aV:AOa)(ak:KG):BYU:=
 A0s (zjt c F aM aV ak)
theorem vd:DM BJ8 [ARy,ARx,ARw] Oa:=BF
theorem z4f(AQ2)(c:DZ)(hr:AEo 10 Č Oa)(bR:AyR)(gH:AFa)(ak:KG)(cY:ϴ):AP6 BJ8 Č Oa Oa zkq:=by
 have nd:=vd.nd;show ā Č Oa
 exact(bK (Aem 3)
 #[bK #[A0d z74 Β Β Β (A4S (Jn 3 (ACa Avy bR ak ML AuP)))
 (BUU 3)]
 (C6 #[Yo AWv])])
theorem zzo(F:Au Č Č Oa)(bR:AyR)(gH:AFa)(ak:KG)(cY:ϴ)(dJ:AXA)(cj:AId):AP0 11 BjR Vt:=
 GQ F vd (Ś _ h (z3x h)) fun cdv A Cf s H E hr F0 H0=>⟨zkq K c,z4f c hr bR gH ak cY,fun a bs t ds Q Ex h=>z36 ⟨dJ,cj⟩ h⟩
theorem zy1(F:Au Č Č Oa)(hm:Cb Č)(bR:AyR)(gH:AFa)(ak:KG)(cY:ϴ)(dJ:AXA)(cj:AId):BYM:=
 ⟨f,fd,zzo c F bR gH ak cY dJ cj,hm,C3,B9 (by show sQ;exact Β)⟩
theorem Kl:AjI Bgm Bw:=BF
theorem yov(hr:AEo 11 YV Bw)(bM:BC zel)(iB:AyL)(aY:AWH)(BCp):qT (eV V_ P w K mg A8 Bgm YV (bw Bw) f cdv A Cf s H E) F0 H (vf Bw) (z8n K c):=by
 have nd:=Kl.nd;show ā YV Bw
 exact(bK (AI' (ľ iB (ϟ B1 Aj9 Aj9)))
 #[bK (Jn 2 (ABj z3b aY (MO (AJB cg))))
 #[bK (BdA 3)
 #[bK (BdA 4)
 #[bK (Jn 5 #[yje (zvg (UU (yfq bM ak ML L9)))])
 #[bK (Jn 6 #[iR (Apv (MO ϛ))])
 #[bK #[Oq Β Β bF (vk (kC aW (Ap6 (FJ AH2 A1 (iR AeP) NB)))) (RC 7)
 #[bK #[yg0 (SA A1 (AI4 BPg BIO)) (GC Β (tV (AdS 8) (Aex 9 10)))]
 #[bK (Bb8 dG (ϟ tS AIH (AI4 BPg BOa)))
 #[bK #[qW (A_E AOI (pO AH2 (Av4 dG ML Β Β DO (au tS BN9)) AOI NB))
 (D' #[QL])
 GU]
 #[bK #[qW #[zpb (UU (BBS F7))]
 (D' #[QL])
 GU]
 #[bK (Bb8 iC (HV tS AIH))
 #[bK #[qW (A_E AOI (pO AH2 (Av4 dG ML Β Β DO (au tS BN9)) AOI NB))
 (D' #[QL])
 GU]
 (C6 #[qW #[Gy (yo1 (zpb (UU (BBS F7))) (ym2 (zpb (UU (BBS L9)))))]
 (D' #[QL])
 GU])]]]]]]]
 (D' #[FJ ABw ϛ ś NB])]]]]]])
theorem ygg(F:BVQ)(bM:BC zel)(iB:AyL)(aY:AWH)(BCp):eU P w K mg A8 V_ 12 f fd Bj8 (pC K (z1m c)):=
 B2 jh Kl yos z8n (BCZ (yov c hr bM iB aY cg dH dG)) (B' yoc)
theorem yo5(F:BVQ)(hm:Cb YV)(bM:BC zel)(iB:AyL)(aY:AWH)(BCp):ac YV 12 OU z1m:=
 AiK (BCZ (ygg c F bM iB aY cg dH dG))
#where
theorem ymn{l:W.OpenLaw}{w:AW}{K:Ω}{h:AJ}{mg:DU}{fa:Ζ}(O:AaG)(X:Sn)(G:A1k)(hfa:j_ YV fa):
 ∃fd:E_,(∀(s:AB) (v:AE),AU' (J' [v]) [(OU,v)])/\BZC (eU ASE w K mg A8 (dY ASE w) 12 fa fd Bj8 (pC K zua)):=by
 show DE B L ASp O;show DE L M ASp L;show IA Nm 0 aac 1 CT 2 Km 3;show IA CV 4 G7 5 Np 6 Et 7;show IA Eu 8 Ew 9 Ey 10 Ez 11;show IA EY 12 Ko 13 Kp 14 Kq 15;show IA Kr 16 Ku 17 Kv 18 aC 19;show IA aU 20 aP 21 oG 22 mY 23;show IA aQ 24 bG 25 bL 26 bV 27;show IA fP 28 aH 29 Kw 30 G8 31;show IA G9 32 Hf 33 Hg 34 Hh 35;show IA Hi 36 Hj 37 Fb 38 CW 39;show IA CZ 40 Dc 41 Dd 42 Df 43;show IA Dg 44 Dh 45 wZ 46 w6 47;show IA xq 48 a0 49 n0 50 a1 51;show IA n1 52 a4 53 n4 54 a5 55;show IA n5 56 a12 57 n12 58 a41 59;show IA n41 60 a45 61 n45 62 a46 63;show IA n46 64 a55 65 n55 66 a58 67;show IA n58 68 a64 69 n64 70 a67 71;show IA n67 72 a68 73 n68 74 a69 75;show IA n69 76 a71 77 n71 78 a3 79;show IA a56 80 Nq 81 aad 82 Di 83;show IA TJ 84 Ky 85 Dj 86 aae 87;show IA Kz 88 Nr 89 aaf 90 aag 91;show IA aah 92 Nt 93 aai 94 aaj 95;show IA TQ 96 aak 97 aal 98 Fd 99;show IA aam 100 TV 101 Hl 102 Ho 103;show IA mZ 104 qe 105 uO 106 dJ 107;show IA qm 108 cj 109 m7 110 jM 111
 let c:DZ:={Apart:=AJ6 Aqh,xO:=AJ6 "Few",fV:=AJ6 AbP,Open:=AJ6 AKZ,cD:=AJ6 AKa,ao:=AJ6 ARH,Scale:=AJ6 ARI}
 have ak:KG:=⟨Et,Eu,Ew,Ey⟩;have bQ:AM6:=⟨Ko,Kp,Kq,Kr⟩;have jZ:A'L:=AZy Nm Nq;show Hc nR AvX (AZy aac aad) jA A'M (AZy CT Di) gH AFa (AZy Km TJ) wY BWh (AZy CV Ky);show Hc cY ϴ ⟨Kw,⟨G8,G9,Hf,Hg,Hh⟩,Hi,Hj⟩ gJ AjA ⟨Fb,⟨CW,CZ,Dc,Dd,Df⟩,Dg,Dh⟩ jf A4V ⟨wZ,w6,L3.isV_of xq⟩ eG Ahy (VI Dj);show Hc aZ PH (VI aae) cG AM2 (VI Kz) bF Ů (VI Nr) mq Ae9 (VI aaf);show Hc Kc (Nn "all") (VI aag) jl AI9 (VI aah) tE Aye (VI Nt) qL Ahz (VI aai);show Hc zp Ayf (VI aaj) bI ze (VI TQ) zy Ayg (VI aak) Kg (Nn Đ) (VI aal);show Hc lG Bkd (VI Fd) Kh (Nn "max") (VI aam) Es (Nn dr) (VI TV) lC BiG (Hd.glb_tup X G Hl Ho Alf)
 show HZ l2 f2 fd2 a2 Nu l2 l6 f6 fd6 a6 Dl l6;show HZ l7 f7 fd7 a7 Fe l7 l8 f8 fd8 a8 Bq l8;show HZ l9 f9 fd9 a9 Fg l9 l10 f10 acg a10 KC l10;show HZ l11 f11 ach a11 Fi l11 l13 f13 aci a13 yw l13;show HZ l14 f14 acj a14 Hq l14 l15 f15 acn a15 rP l15;show HZ l16 f16 aco a16 Fj l16 l17 f17 acp a17 TX l17;show HZ l18 f18 acq a18 KD l18 l19 f19 acr a19 Hr l19;show HZ l20 f20 acs a20 KH l20 l21 f21 acu a21 Hs l21;show HZ l22 f22 acv a22 Dm l22 l23 f23 acw a23 Ht l23;show HZ l24 f24 acy a24 Hu l24 l25 f25 acz a25 Fl l25;show HZ l26 f26 acA a26 Dp l26 l27 f27 acB a27 aan l27;show HZ l28 f28 acC a28 KJ l28 l29 f29 acD a29 yx l29;show HZ l30 f30 acE a30 Dq l30 l31 f31 acF a31 Hv l31;show HZ l32 f32 acG a32 TY l32 l33 f33 acH a33 Nv l33;show HZ l34 f34 acI a34 Nx l34 l35 f35 acJ a35 KN l35;show HZ l36 f36 acK a36 Ny l36 l37 f37 acL a37 Dr l37;show HZ l38 f38 acM a38 KQ l38 l39 f39 acN a39 uP l39;show HZ l40 f40 acO a40 Fo l40 l42 f42 acP a42 Nz l42;show HZ l43 f43 acQ a43 T3 l43 l44 f44 acR a44 Hw l44;show HZ l47 f47 acS a47 T4 l47 l48 f48 acT a48 xu l48;show HZ l49 f49 acU a49 NK l49 l50 f50 acV a50 Hy l50;show HZ l51 f51 acW a51 T5 l51 l52 f52 acX a52 KR l52;show HZ l53 f53 acY a53 KY l53 l57 f57 acZ a57 NP l57;show HZ l59 f59 ac0 a59 yC l59 l60 f60 ac1 a60 T6 l60;show HZ l61 f61 ac2 a61 xG l61 l62 f62 ac3 a62 vH l62;show HZ l63 f63 ac4 a63 T7 l63 l65 f65 ac5 a65 Br l65;show HZ l66 f66 ac6 a66 yD l66 l70 f70 ac7 a70 Bs l70;show HZ l72 f72 ac8 a72 Fp l72 l73 f73 ab1 a73 Qi l73;show DE l0 M yX M;show DE fd0 jT AcK l0;show DE l1 M yX M;show AeV fd1 qp l1 l3 fd3 vI l3 l4;show AeV fd4 oZ l4 l5 fd5 o7 l5 Nk;show AeV ac9 uQ Nk l41 ada vJ l41 l45;show AeV adb qt l45 l46 ade mH l46 l54;obtain⟨f54,_,_,_,_,_,a54,NQ,ab2⟩:=Hd.funM_at l54;show Aev l55 adf lK l55 l56 adg tM l56;show Aev l58 adh tO l58 l64 adi rQ l64;show Aev l67 adk jC l67 l68 adl mJ l68;show Aev l69 adn nW l69 l71 ado jU l71;have e:=hfa.symm.trans (W.mg_of X G a73);cases e;refine⟨ab1,Hd.start_binds Qi (fun _ _ _ _ _ _ _=>Β),Ap A8 kb nb⟩;show K0 cI (iO zju c jT (tN a0 n0 jT.kp) ak aC) fG (iO zp5 c qp (tN a1 n1 qp.kp) cI ak aC) cF (AQO yc7 Nu a2) jJ (AKB zos vI (Adi a3) cF eG aZ);show K0 jK (iO zoo c oZ (tN a4 n4 oZ.kp) jJ fG ak aU) bM (iO zof c o7 (tN a5 n5 o7.kp) fG jK cG ak aC) mC (AJ' zyo Dl a6 bF mq) aO (PV zz1 Fe a7 aZ);show K0 oE (AQO zum Bq a8) iB (P4 z0s c Fg (Tx a9) mC aO oE bF aZ) wG (PV z5t KC a10 cF) lu (AAR zyz Fi a11 wG Kc aZ jl);show K0 aY (iO zm5 c uQ ⟨Ku,ATC a12,n12,Kv⟩ (AiI Np) lu tE bQ aP) mX (PV zsj yw a13 qL) jt (PV z40 Hq a14 mX) cg (AAR zj5 rP a15 aO jt bF qL);show K0 rO (AJ' zyw Fj a16 aO jt) Bl (PV yjy TX a17 zp) wK (AAR z86 KD a18 Bl bI cG zy) dI (AQO z4w Hr a19);show K0 wV (AAR ybm KH a20 wK dI cG bI) j4 (PV z4h Hs a21 qL) pZ (PV zwx Dm a22 j4) uJ (PV z37 Ht a23 jl);show K0 uK (AJ' z31 Hu a24 uJ eG) bH (PV z02 Fl a25 j4) pY (PV zwm Dp a26 bI) Ke (AKB ymf aan a27 pY bF aZ);show K0 wQ (P4 z5n c KJ (Tx a28) pZ uK bH Ke bF aZ jl eG) cA (AQO zsf yx a29) iM (AQO zyq Dq a30) nQ (AJ' z4i Hv a31 iM zp);show K0 oF (PV yjz TY a32 bH) jY (AJ' yb9 Nv a33 nQ oF) Bm (AAR ycp Nx a34 cA jY oF aZ) wR (PV yaq KN a35 Bm);show K0 gC (PV yfa Ny a36 bH) qd (AKB zw9 Dr a37 bH Kg aZ) wU (AAR ya8 KQ a38 jY gC qd cA) ju (P4 zm6 c uP (Tx a39) wQ wR wU cA aZ);show K0 iy (P4 zz5 c Fo (Tx a40) wV ju dI bI jl) iw (P4 zon c vJ ⟨ATC a41,n41⟩ (AiI Km) cY oG mY) Bo (PV ydv Nz a42 bH) uL (PV yjh T3 a43 bH);show K0 uM (AAR z4c Hw a44 Bo oF gC uL) lD (iO zq4 c qt (tN a45 n45 qt.kp) cF uM jl bQ aP) je (iO zlw c mH (tN a46 n46 mH.kp) ak aQ) oJ (AKB yi8 T4 a47 uL jY aZ);show K0 dN (AQO zqp xu a48) oH (PV yet NK a49 gC) uN (AAR z4z Hy a50 cF oH bF aZ) rM (P4 yki c T5 (Tx a51) uN cF oH aZ jZ);show K0 lB (PV ya1 KR a52 aZ) gG (AJ' z96 KY a53 cF aZ) Bp (P4 ycy c NQ ab2 (Tx a54) oJ dN rM lB gG aZ nR lC) aR (iO zkl c lK (tN a55 n55 lK.kp) iw lD gC je Bp jZ nR bQ ak bG bL bV mZ qe uO);show K0 cH (PV zli tM (Adi a56) gG) jx (PV yeq NP a57 nQ) jg (P4 zlb c tO ⟨ATC a58,n58⟩ (AiI CV) gJ jf jx bI jA fP) m5 (AJ' zsg yC a59 cF aZ);show K0 Er (AKB yil T6 a60 m5 cG zy) lH (AKB zpt xG a61 jx bI lG) jL (AAR zog vH a62 lH iM jl Kh) rN (P4 yhz c T7 (Tx a63) jg Er jx jL aZ);show K0 fK (iO zkp c rQ ⟨Ez,ATC a64,n64,EY⟩ (AiI G7) aY iy dI aR cH rN cG bI ak bQ bL bV bG aQ aH aC aU aP) oK (AKB zve Br a65 aO bF mq) dH (P4 zr8 c yD (Tx a66) rO fK oK gH wY cY gJ dJ qm cj m7 jM) aM (iO zhv c jC (tN a67 n67 jC.kp) cI Es ak aH);have aV:=iO zlg c mJ (tN a68 n68 mJ.kp) aR ak aC aH;have cR:=iO zne c nW (tN a69 n69 nW.kp) aM aV ak;have dG:=P4 zt5 c Bs (Tx a70) cR gH ak cY dJ cj;have bR:=iO zjp c jU (tN a71 n71 jU.kp) aM aV ak;have iC:=P4 zy1 c Fp (Tx a72) bR gH ak cY dJ cj;exact BCZ (P4 ygg c Qi bM iB aY cg dH dG)
theorem hd_wit:lw.row.toRowW.promised:=by w_witness2
theorem hd_w:W.WalkO vw VT Bke (fun w h=>∃K:Ω,Sn/\AaG) Bkw (BDX Bw) [] (fun f vs=>Awl):=
 N1 Hd.walk_ex n 63 k 12 x OU CX (HG (dY lw.prog w)) (sp:=fun K=>pC K zua) (Fx:=fun w K=>AaG) Β AD hd_z (A2P CD) (A0j) (fun w K mg fa h O X G hm=>ymn O X G (hd_n ▸ hm)) (fun K H a ns hl hO hS=>z5s hl hS) (AQq _ z (ydm z))
#print Lw
end
theorem PySem.Challenge.cw_hall_k74_appealed_back_holds : PySem.Challenge.rw_hall_k74_appealed_back.Holds :=
 Hd.holds Lw.hd_said (Hd.left Lw.hd_e Lw.hd_f Lw.hd_A Lw.hd_B Lw.hd_C Lw.hd_D) Lw.hd_d Lw.hd_p Lw.hd_k Lw.hd_ok Lw.hd_bare Lw.hd_wit rfl Lw.hd_w
