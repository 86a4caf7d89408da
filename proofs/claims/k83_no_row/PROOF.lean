import PyProof.Rows.All
import Wide.All
import OpenK.AllK
import Wide.FinOn
import Lean
import PyProof.EqAt
import PyProof.EqKinds
import PyProof.TupleCall
import PyProof.NeKinds
import PySem.Challenge.RW_hall_k83_no_row
set_option Elab.async false
set_option linter.all false
set_option maxRecDepth 100000
set_option maxHeartbeats 4000000
set_option compiler.extract_closed false
set_option genSizeOf false
set_option genInjectivity false
set_option bootstrap.genMatcherCode false
open Lean in
local macro_rules|`(command|mutual $cs* end)=>do
 let cs:=cs.map fun c=>c.raw
 unless cs[0]!.isOfKind ``Parser.Command.where do Macro.throwUnsupported
 let ps:Array Name:=#[`δ,`ε,`ζ,`η,`θ,`ι,`μ,`ν,`ξ,`ο,`π,`τ,`υ,`χ,`ψ,`ω]
 let ap:= ``Parser.Term.app
 let un:=fun(s:Syntax)=>if s.isOfKind `par then s[0] else s
 let more:=fun(f:Syntax)(as:Array Syntax)=>if as.isEmpty then f else if f.isOfKind ap then .node .none ap #[f[0],mkNullNode (f[1].getArgs++as)] else .node .none ap #[f,mkNullNode as]
 let put:=fun(b:Syntax)(as:Array Syntax)=>b.rewriteBottomUp fun s=>match s with
  |.ident _ _ n _=>match ps.idxOf? n with
   |some i=>.node .none `par #[as.getD i s]
   |none=>s
  |.node i k l=>
   if k==ap&&s[0].isOfKind `par then
    let f:=s[0][0]
    more (if f.isOfKind ``Parser.Term.paren then f[1] else f) (s[1].getArgs.map un)
   else .node i k (l.map un)
  |s=>s
 let ex:=fun(tb:Std.HashMap Name (Nat×Syntax))(c:Syntax)=>c.rewriteBottomUp fun s=>
  let spl:=fun(l:Array Syntax)(k:SyntaxNodeKind)=>if l.any (·.isOfKind `spl) then l.flatMap fun x=>if x.isOfKind `spl then if k==nullKind then x.getArgs else #[x[0]] else #[x] else l
  match s with
  |.ident _ _ n _=>match tb[n]? with
   |some (0,b)=>b
   |_=>s
  |.node i k l=>
   if k==ap then match s[0] with
    |.ident _ _ n _=>match tb[n]? with
     |some (m,b)=>let as:=s[1].getArgs;more (put b (as.extract 0 m)) (as.extract m as.size)
     |_=>s
    |f=>if f.isOfKind ap then more f s[1].getArgs else s
   else if k== ``Parser.Tactic.show&&s[1].isOfKind ``Parser.Term.byTactic then .node .none `spl s[1][1][0][0].getArgs
   else if k== ``Parser.Term.explicitBinder&&s[2].getNumArgs==0 then
    let as:=s[1].getArgs
    match s[1][0] with
    |.ident _ _ n _=>match tb[n]? with
     |some (_,b)=>.node .none `spl (put b (as.extract 1 as.size))[1].getArgs
     |_=>s
    |b=>if b.isOfKind ``Parser.Term.forall then .node .none `spl b[1].getArgs else s
   else if k== ``Parser.Term.paren&&s[1].isOfKind ``Parser.Term.typeAscription then s[1]
   else .node i k (spl l k)
  |s=>s
 let mut tb:Std.HashMap Name (Nat×Syntax):={}
 for a in cs[1]![1][3][0][0][0].getArgs do
  let b:=ex tb a[3]
  let b:=if b.isOfKind ``Parser.Term.paren&&b[1].isOfKind ``Parser.Term.byTactic then b[1] else b
  let mut n:=0
  for x in b.topDown do
   if ps.contains x.getId then n:=n+1
  tb:=tb.insert a[1][0][0].getId (n,b)
 let mut au:Array Syntax:=#[]
 let mut o:=#[]
 for c in cs.extract 2 cs.size do
  if c.isOfKind ``Parser.Command.print then o:=o.push (<-`(command|end $(⟨c[1]⟩):ident)).raw
  else if c.isOfKind ``Parser.Command.where then o:=o.push (<-`(command|end)).raw
  else
   let c:=ex tb c
   for b in c.topDown do
    if b.isOfKind ``Parser.Term.binderTactic&& !au.contains b[2] then
     au:=au.push b[2]
     o:=o.push (<-`(command|theorem $(mkIdent (.str (.mkSimple "_root_") s!"_a{au.size}")) (h:True:=by $(⟨b[2]⟩)):True:=h)).raw
   let v:=au
   o:=o.push (c.rewriteBottomUp fun d=>match d with
    |.atom _ v=>.atom .none v
    |.ident _ r n p=>.ident .none r n p
    |.node _ k l=>
     let d:=Syntax.node .none k l
     if k== ``Parser.Command.declaration&&(d[1].isOfKind ``Parser.Command.definition||d[1].isOfKind ``Parser.Command.abbrev||d[1].isOfKind ``Parser.Command.instance)&&d[1][1][0].getId != `lw then d.setArg 0 (d[0].setArg 4 (mkNullNode #[.node .none ``Parser.Command.noncomputable #[mkAtom "noncomputable"]]))
     else if k== ``Parser.Term.explicitBinder&&d[3][0].isOfKind ``Parser.Term.binderTactic then
      match v.idxOf? d[3][0][2] with
      |some i=>(d.setArg 3 (mkNullNode #[])).setArg 2 (mkNullNode #[d[2][0],.node .none ap #[mkIdent ``autoParam,mkNullNode #[d[2][1],mkIdent (.str (.str (.mkSimple "_root_") s!"_a{i+1}") "_auto_1")]]])
      |none=>d
     else d
    |s=>s)
 return mkNullNode o
mutual
#where
def q
|Z=>rfl|Β=>some|Ε=>none|Ζ=>Nat|Η=>Addr|Θ=>true|Ι=>Prop|Μ=>pins|Ξ=>Str|Τ=>false|Υ=>kvs|Φ=>W.Frag|Ψ=>str|Ω=>Γ1|AB=>pos|AC=>Shared|AD=>Value|AE=>X.K|AF=>int|AG=>Expr|AH=>its|AM=>Stmt|AN=>Heap|AO=>Bool|AR=>Pos|AT=>ref|AU=>cons|AV=>inl|AZ=>World|Ap=>acc|At=>this|A4=>Γ'|A6=>Program|A7=>s.heap|A8=>lst|A_=>Γ2|BA=>prog|BI=>Int|BM=>tup|Be=>X.env|Bz=>top|B2=>s.heap.objs.size|B5=>xs.length|B6=>Around|B9=>base|B_=>map|CA=>Hd.d|CB=>inr|CF=>outer|CL=>env|CM=>F.kp|CS=>σ'|Cb=>hz1|Cc=>hlt|Cf=>h.elim|Ch=>hq1|C4=>own|C5=>h1.elim|C8=>fin|C_=>key|DJ=>obj|DL=>hq2|DM=>ret|DU=>nil|DV=>Cls|DZ=>s1.heap.objs.size|D6=>False|D9=>List|D_=>qual|D'=>Str.empty|EA=>X.prog|ER=>c.aV|ES=>c.bh|ET=>FuncData|EU=>"mark"|E1=>es.size|E6=>Vals|FD=>c.aJ|FE=>"list"|FF=>value|FR=>Frag|FS=>"rows"|FU=>"row"|FV=>caps|Fc=>args|Ff=>String|Fh=>c.bG|Fk=>c.bC|Fm=>name|Fr=>hlen|GG=>Type|GH=>s₁|G1=>cpos|HH=>scope|HI=>"marks"|HK=>RelV|HL=>List.length_map|HM=>vals|HP=>R1.g|H_=>PySem|IA=>keep|IB=>I.hok|IC=>pure|IR=>PyProof.Rows|IS=>True|IU=>pos'|IY=>List.length_cons|IZ=>List.map_cons|Ic=>apos|JP=>names|JS=>bare|JU=>"rule"|JY=>xs.map|Jn=>s₀|J_=>ns.length|J'=>hbase|KA=>gr.f|Ki=>c.aA|Kj=>its.toArray|Kk=>trans|Kt=>Same|Kx=>ds.length|LV=>c.dF|LW=>"__init__"|LX=>s.toks|LY=>get?|LZ=>D.nx|Lc=>items|ME=>Scope|MG=>next|MH=>"tuple"|MI=>"hand"|ML=>"some"|MM=>X.stack|MO=>zV.mp|MQ=>done|MR=>vs.length|M1=>if_pos|M3=>slot|M_=>List.getElem?_map|Nl=>PySem.Spec|Nn=>rest|No=>cont|Nw=>iter|N0=>rawInt|N1=>items.size|N2=>trivial|N3=>ns.map|N4=>"self"|OT=>body|OU=>"grade"|OV=>"scale"|OW=>sc.names|OX=>ys.length|OY=>Slot|OZ=>ks.zip|Of=>pick|Pl=>"str"|Po=>"other"|Pp=>Value.ref|Ps=>if_neg|Pt=>item|Pw=>getD|P1=>ks.length|RS=>loose|RU=>"NoWork"|RY=>"NoSitting"|Rc=>"Book"|Re=>"Scale"|Rl=>"set"|R_=>H₀|SA=>X.base|SB=>elim|SD=>List.size_toArray|SE=>leaf|Su=>"law"|Sz=>"NoRow"|S4=>"NoMark"|S_=>"bounds"|TC=>"sheets"|TD=>"say"|TH=>"work"|TK=>s.heap.get?|TL=>self|TM=>toNat|TN=>Bool.and_eq_true|TU=>hold|UX=>dict|UY=>"put"|UZ=>"gap"|Uf=>treeTable|U1=>c.eV|U2=>Sum.inr|U_=>X.env.locals|U'=>s₂|VA=>I.kIn|VC=>fs.zip|VI=>back|VM=>List.lookup_cons|XI=>c.Scale|XL=>"hands"|XN=>"leaning"|XO=>"_law_say"|XT=>"Desk"|XU=>"Sitting"|XX=>"points"|XY=>"sorted"|XZ=>"reversed"|Xs=>Hd.ex|X9=>c.Open|X_=>h.get?|YA=>h'.get?|YE=>X.mg|YI=>Heap.size_push|YN=>error|YO=>ps.length|YR=>hfew|YU=>R.sl|YV=>List.getD_eq_getElem?_getD|YY=>xs.getD|av=>XB.x|aw=>"zip"|ax=>Nodup|ay=>h.objs.size|az=>slots|a_=>"word"|bE=>X.fs|bP=>"place"|bS=>Name|bX=>its'|ba=>slice|bb=>hline|bc=>X.wsh|bd=>G.ex|eM=>Xp.x|eP=>"ValueError"|eQ=>mainGlobals|eR=>"sitting"|eS=>c.jz|eW=>Value.none|ef=>data|eg=>free|eh=>s'.heap|ei=>Ends|ej=>X.xe|ek=>r.length|e9=>congrArg|e_=>zero|fA=>succ|fE=>hit2|fF=>hit'|fI=>hval|fN=>XA.x|i3=>K.lookup|i4=>o.data|i5=>xs.toList|i6=>"dict"|i7=>"most"|i8=>"range"|i9=>symm|i_=>D.str|i'=>"sheet"|jI=>I.free|jS=>Ne.symm|jn=>eval|jp=>wpAny_mono|js=>bool|jv=>Array.length_toList|j_=>I.tuple|j'=>turn|kA=>call|kB=>if_true|kC=>z.length|kD=>vs.toArray|kF=>List.zip_cons_cons|kG=>hdct
|kH=>s2.trans|kK=>npos|kL=>IsPair|kM=>SetTable|kN=>pos2|kP=>p.getD|kQ=>x.length|o5=>"bound"|o6=>"grades"|o_=>Str.ofString|pE=>c.fj|pM=>c.gq|pS=>c.Missing|pV=>decide_eq_false|pb=>us.length|pd=>absurd|pe=>I.loc|pf=>I.ok|ph=>zU.mp|pi=>X.N.Nodup|pj=>"part"|pk=>I.list|pp=>rule|pr=>lookup|pv=>Attribute|pz=>hbody|p5=>HT.sIx|p6=>its.toArray.size|p9=>fO.move|p_=>r1.up|qA=>decide_eq_true_eq|qB=>sF.seq|qE=>size|qS=>cutD|qV=>ns.getD|qf=>Perm|qh=>h2.elim|qi=>Str.join|xc=>List.getElem?_eq_getElem|xf=>"ok"|xh=>"Twice"|xi=>"int"|xj=>"enumerate"|xk=>"sum"|xl=>"BaseException.__getattribute__"|xm=>"worth"|xn=>c.aW|xp=>kvs.length|xt=>h1.get?|xw=>"said"|xx=>"_law_desk"|xy=>List.range|xz=>X.outer|x6=>I.cell|x8=>"end"|x9=>"_law_x"|x_=>wpAny_holding|yA=>j.toNat|yB=>Call|yT=>beq_iff_eq.mp|yY=>List.append_nil|yi=>kindOf|yk=>cellsFrom|yl=>wpAny_newObj_type|ym=>xs.reverse|yn=>putK|yo=>ks.map|yv=>Classical|yy=>R2.g|yz=>Γ1.set|y0=>ws.length|y3=>elts|y4=>kv.length|y5=>XA.go|į=>List.mem_cons|İ=>builtin|ı=>"table"|Ĳ=>"mean"|ĳ=>"Open"|Ĵ=>"Barred"|ĵ=>"NoName"|Ķ=>"Missing"|ķ=>"NoScale"|ĸ=>"answer"|Ĺ=>"lay"|ĺ=>"isinstance"|Ļ=>Array|ļ=>there|Ľ=>"_law_script"|ľ=>"ahead"|Ŀ=>isSome|ŀ=>X.ex|Ł=>I.bare|ł=>"group"|Ń=>model|ń=>"__debug__"|Ņ=>I.tok|ņ=>holding|Ň=>stop|ň=>Nat.ne_of_gt|ŉ=>pyIter|Ŋ=>s.heap.push|ŋ=>push|Ō=>cLine|ō=>scope.names|Ŏ=>List.length_append|ŏ=>s3.heap.objs.size|Ő=>s.heap.update|ő=>zH.mp|Œ=>s₃|œ=>s₁.heap|Ŕ=>as.Nodup|ŕ=>R.len|Ŗ=>Γ.set|ŗ=>noteFrame|Ř=>q.elim|ř=>A.in1|Ś=>Slot.tr|ś=>items2|Ŝ=>startM|ŝ=>n.toNat|ACN=>XA.goS|ACO=>w.params|ACP=>w.params.followText|ACQ=>"_law_class"|ACR=>"must_have"|ACS=>"scaled"|ACT=>"reckoned"|ACU=>"__class__"|ACV=>"object.__class__"|ACW=>"Desk.say"|ACX=>Value.bool|ACY=>fields|ACZ=>W.hideAll|ACa=>"_law_row"|ACb=>I.freeC|ACc=>I.len|ACd=>Heap.SameBut|ACe=>wpAny|ACf=>"found"|ACg=>I.turned|ACh=>W.emptyDict|ACi=>A.units|ACj=>A.deeper|ACk=>List.getElem?_append_left|ACl=>its.length|ACm=>codeAny_mono|ACn=>L2.upd|ACo=>R.less|ACp=>B.get?|ACq=>wpAny_setField|ACr=>R.grow|ACs=>is1.toArray.size|ACt=>mem_of_lookup|ACu=>bs.length|ACv=>bs.map|ACw=>R1.sl|ACx=>Int.toNat_natCast|ACy=>hs3.extBut|ACz=>ps.map|AC_=>Nat.min_self|AC'=>gs.map|AHx=>Bool.false_ne_true|AHy=>PySem.W|AHz=>Option|AH0=>OsState|AH1=>boot_heap|AH2=>s.drawn|AH3=>ds.map|AH4=>"name"|AH5=>decide|AH6=>"HallError"|AH7=>"len"|AH8=>"__getattribute__"|AH9=>"Book.__init__"|AH_=>"Desk.__init__"|AH'=>"Book.put"|AIA=>"Sitting.__init__"|AIB=>"Desk.lay"|AIC=>PySem.W.Fast.te14364793385576792824|AIE=>Value.isStrOf|AIF=>Sum.inl|AIH=>Value.type|AII=>"one"|AIJ=>"right"|AIK=>sc.names.lookup|AIL=>X.env.kindOf|AIM=>X.H₀|AIO=>I.base.free|AIP=>I.ok.above|AIQ=>I.ok.kind|AIS=>I.base.nF|AIT=>I.pin|AIU=>Model|AIV=>I.ok.hd|AIW=>pyNext|AIX=>again|AIY=>vals1|AIZ=>codeAny|AIa=>I.laid|AIb=>s1.toks|AIc=>bindL|AId=>bindC|AIe=>List.replicate|AIf=>N.length|AIg=>List.getElem?_append_right|AIh=>List.getElem?_replicate|AIi=>Prod.ext|AIj=>typeIs|AIk=>List.any_cons|AIl=>List.replicate_succ|AIm=>l.prog|AIn=>Gr.laid|AIo=>TR.move|AIp=>fO.rep
|AIq=>R.gr.h|AIr=>h1.objs.size|AIs=>D2.nx|AIt=>"mark ab"|AIu=>HO.tup|AIv=>I1.kIn|AIw=>L2.start|AIx=>isInstance|AIy=>Nat.lt_succ_of_lt|AIz=>own.length|AI0=>first|AI1=>rs.up|AI2=>I.fresh|AI3=>ms.map|AI4=>field|AI5=>Heap.SameBut.update|AI6=>hs1.extBut|AI7=>vs.getD|AI8=>is.map|AI9=>Array.getElem?_eq_getElem|AI_=>seqObj|AI'=>List.mem_singleton.mp|AJA=>Eq.trans|AJB=>Txt.upper|AJC=>h.len|AOc=>"object"|AOd=>l.length|AOe=>W.nsIn|AOf=>kvs.map|AOg=>"reached"|AOh=>"book"|AOi=>"bool"|AOj=>"borders"|AOk=>W.topGo|AOl=>Hd.cB|AOm=>Paired|AOn=>tupleKind|AOo=>c0.aV|AOp=>"sign"|AOq=>Un.kept|AOr=>"left"|AOs=>env.kindOf|AOt=>env.cells.lookup|AOu=>Nat.le_of_lt|AOv=>zW.mp|AOw=>"__classdict__"|AOx=>assign|AOy=>Tuple|AOz=>contains|AO0=>I1.hok.fresh|AO1=>i.fmod|AO2=>List.lookup|AO3=>Hd.fun_of|AO4=>Nat.le_of_eq|AO5=>W.kitOne|AO6=>getItem|AO7=>wpAny_call_entry|AO8=>typeIs_str|AO9=>Obj.mapSeq|AO_=>h'.objs.size|AO'=>List.flatten_cons|APA=>decide_eq_true|APB=>valueAt|APD=>atKey|APE=>k.map|APF=>Option.isSome_map|APG=>fO.there|APH=>B.StaysIn|APJ=>setField|APK=>x.bare|APM=>R1.grow|APN=>Fn.ex|APO=>is2.toArray.size|APP=>pushCells|APQ=>postC|APR=>wpAny_rule|APS=>R'.grow|APT=>rv.length|APU=>Iw.extBut|APV=>ms.Perm|APW=>Heap.ExtBut|APX=>hs2.extBut|APY=>List.zipWith|APZ=>s1.heap.get?|APa=>s1.heap.push|APb=>p.size|APc=>Array.getElem?_toList|APd=>t.place|APe=>es1.size|APf=>"set_iterator"|APg=>vals.length|APh=>List.map_map|APi=>V.str|APj=>gs.length|APk=>List.length_zip|APl=>hit.typeIs|APm=>signs|APn=>Prod.mk.inj|APo=>Txt.split|APp=>Builtin.Str.occurrences|APq=>a.length|APr=>PySem.F.plainAttrs_str|APs=>Bool.noConfusion|AWy=>Type _|AWz=>XA.go0|AW0=>X1.set|AW1=>s1.set|AW2=>List.mem_append|AW3=>"BaseException"|AW4=>es.toList|AW5=>"settle"|AW6=>"appeal"|AW7=>"back"|AW8=>"under"|AW9=>"climbs"|AW_=>"is_scale"|AW'=>"form"|AXA=>"read_whole"|AXB=>"read_rule"|AXC=>"divisor"|AXD=>"fraction"|AXF=>"read_top"|AXG=>"written"|AXH=>"read_fraction"|AXI=>"read_gap"|AXJ=>"two_parts"|AXK=>"read_point"|AXL=>"read_bound"|AXM=>"read_word"|AXN=>"read_row"|AXO=>"_law_look"|AXP=>"_law_odd"|AXQ=>"_law_cell"|AXR=>"is_mark"|AXS=>"is_name"|AXT=>"meet"|AXU=>"joined"|AXV=>"by_work"|AXW=>"groups"|AXX=>"whole_row"|AXY=>"without"|AXZ=>"cleared"|AXa=>"exchanged"|AXb=>"solved"|AXc=>"sheets_with"|AXd=>"is_within"|AXe=>"plus"|AXf=>"total"|AXg=>"share"|AXh=>"shares"|AXi=>"minus"|AXj=>"mean_mark"|AXk=>"excess"|AXl=>"group_leanings"|AXm=>"leanings"|AXn=>"times"|AXo=>"over"|AXp=>"between"|AXq=>"least_number"|AXr=>"rising"|AXs=>"number_from"|AXt=>"ends"|AXu=>"reach"|AXv=>"rests_behind"|AXw=>"greatest_cuts"|AXx=>"cuts"|AXy=>"_law_stream"|AXz=>"_law_good"|AX0=>"_law_numbered"|AX1=>"_law_other_word"|AX2=>"_law_bad"|AX3=>"_law_spoiled"|AX4=>"kept_borders"|AX5=>"Scale.__init__"|AX6=>x.fmod|AX7=>PIECES|AX8=>PySem.W.Fast.te15667345088766844465|AX9=>"scale -999999999999/1000000007,0 5,1"|AX_=>"mark nowork"|AX'=>"put ab cf 999999999999"|AYA=>Value.str|AYC=>"grades 0-999999999999"|AYD=>DecidableEq|AYE=>fs.length|AYF=>"_law_e"|AYG=>"_law_k"
|AYH=>Un.laid|AYI=>"_law_xs"|AYJ=>X.s₀.heap.get?|AYK=>σ.length|AYL=>List.filterMap_cons|AYM=>I.base.tups|AYO=>I.hok.fresh|AYP=>σ.set|AYQ=>List.getElem?_set_self|AYR=>"lead"|AYS=>compareOp|AYT=>wpAny_truthy_bool|AYU=>"least"|AYV=>swapsWith|AYW=>target|AYX=>assignEach|AYY=>Subscript|AYZ=>J.stop|AYa=>I.list_inj|AYb=>sizeLine_eq|AYc=>A.under|AYd=>True.intro|AYe=>ps.zip|AYf=>NameKind|AYg=>List.length|AYh=>List.length_replicate|AYi=>False.elim|AYj=>wpAny_Call_Name_kw|AYk=>wpAny_loadPart'|AYl=>toArray|AYm=>Heap.get?_update_self|AYn=>k.toNat|AYo=>if_false|AYp=>List.all_cons|AYq=>List.append_assoc|AYr=>List.find?_cons|AYs=>o.isSome|AYt=>X.A.units|AYu=>h.push|AYv=>OpenLaw|AYw=>callerA|AYx=>Gr.refl|AYy=>TR.there|AYz=>TR.rep|AY0=>oe.dict|AY1=>Γ.length|AY2=>List.getElem?_eq_none|AY3=>R.dropAt|AY4=>env.frame|AY5=>Obj.data_mapFields|AY6=>I1.hok|AY7=>R.apart|AY8=>sF.trans|AY9=>of_decide_eq_true|AY_=>beq_false_of_ne|AY'=>X.hand|AZA=>wpAny_attempt|AZB=>List.nodup_cons|AZC=>List.pairwise_map|AZD=>notedBy|AZE=>comprehension|AZF=>newList|AZG=>List.mem_iff_getElem.mp|AZH=>R'.gr.h|AZI=>wpAny_throw|AZJ=>g5.objs.size|AZK=>Rn.extBut|AZL=>xr.back|AZM=>xs.toList.length|AZN=>SetTable.below|AZO=>dif_pos|AZP=>knd.is|AZQ=>List.mem_map|AZR=>"set-order"|AZS=>Array.getElem?_eq_none|AZT=>acc.size|AZV=>PySem.intKind|AZW=>xs.Nodup|AZX=>ys.map|AZY=>List.nodup_append.mp|AZZ=>Option.bind_eq_some_iff.mp|AZa=>Decidable|AZb=>b.length|AZc=>sep.length|AZd=>TR.len|AZe=>fO.repN|AZf=>h3.elim|AlV=>List.mem_cons_self|AlW=>List.mem_cons_of_mem|AlX=>Heap.lt_size|AlY=>FunctionDef|AlZ=>W.clsIn|Ala=>cd.mro|Alb=>PySem.Calls|Alc=>s.gens|Ald=>DefRec|Ale=>params|Alf=>"withdraw"|Alh=>W.keepIn|Ali=>"kept_leanings"|Alj=>"grade_borders"|Alk=>"borders_borders"|Alm=>"FORMS"|Aln=>",2/4"|Alo=>"3/1,"|Alp=>sy.getD|Alq=>PySem.W.Fast.te10110043849684766642|Alr=>PySem.W.Fast.te14082659384304107361|Als=>PySem.W.Fast.te12563942051412417395|Alu=>"rule pair 999999999999/1000000007"|Alv=>beq_eq_false_iff_ne.mpr|Alw=>xs.set|Alx=>Vals.append|Aly=>x.fdiv|Alz=>sizeLine|Al0=>W.instObj|Al1=>fs.lookup|Al2=>Paired.mapP|Al3=>"bottom"|Al4=>"told"|Al5=>"counts"|Al6=>objs.size|Al7=>builtinsNs|Al8=>X.env.scope.kind|Al9=>X.env.cells.lookup|Al_=>"parts"|Al'=>AllBare|AmA=>X.env.scope|AmB=>"kind"|AmC=>I.base.keep|AmD=>I.base.slot|AmE=>"_law_some"|AmF=>I.base.pR|AmG=>"spot"|AmH=>"rights"|AmI=>isTrue|AmJ=>"order"|AmK=>standAt|AmL=>UnaryOp|AmM=>"_law_pieces"|AmN=>wpAny_execs_nil|AmO=>I.kept|AmP=>wpAny_standAt|AmQ=>Assign|AmR=>s2.heap|AmS=>isList|AmT=>I1.kept|AmU=>PyProof.Rows.callWith_type1|AmV=>W.mg_of|AmW=>Nat.zero_le|AmX=>i.natAbs|AmY=>I.write|AmZ=>I1.laid|Ama=>A.depth|Amb=>Calls.spliced_cons|Amc=>vs.map|Amd=>List.length_take|Ame=>S.kind|Amf=>scope.names.lookup|Amg=>W.fnOf|Amh=>Builtin.Slice.slicePlaces|Ami=>IsPart|Amj=>List.length_drop|Amk=>eq_of_beq|Aml=>subscripted|Amm=>sliceBounds|Amn=>xs.all|Amo=>its.toArray.any|Amp=>its.any|Amq=>typeOf|Amr=>isEmpty|Ams=>List.reverse_cons|Amt=>List.foldl|Amu=>call_meets|Amv=>append|Amw=>Bool.false_or
|Amx=>List.map_nil|Amy=>Nat.lt_trans|Amz=>call_meetsIn|Am0=>IntsAre|Am1=>l.row.toRowW|Am2=>symm.trans|Am3=>Bw.back|Am4=>List.set_set|Am5=>g.unbase|Am6=>oe.cls|Am7=>List.eq_nil_of_length_eq_zero|Am8=>excClassObj|Am9=>hm.keeps|Am_=>R2.grow|Am'=>s1.trans|AnA=>k.mono|AnB=>I1.list|AnC=>wpAny_pyIter_list|AnD=>wpAny_call|AnE=>Fn.run|AnF=>I.env0|AnG=>I.after|AnH=>W.callWith_K|AnI=>I.ok.mod.G9|AnJ=>Bool.and_false|AnK=>codeAny_builtin|AnL=>wpAny_of_eq|AnM=>beq_self_eq_true|AnN=>NameKind.cell|AnO=>Pairwise|AnP=>NameKind.free|AnQ=>Nat.le_of_succ_le|AnR=>s2.heap.push|AnS=>bs.any|AnT=>bs.all|AnU=>rv.get|AnV=>R2.g.seq|AnW=>Nat.le_succ|AnX=>Rk.extBut|AnY=>F.slot_zip_next|AnZ=>R1.gr.h|Ana=>s1.heap|Anb=>Γ2.set|Anc=>List.toArray|Ane=>List.pairwise_iff_getElem.mp|Anf=>relayAll|Ang=>es.toList.map|Anh=>hm.heap|Ani=>raiseNew|Anj=>w.params.setOrder|Ank=>List.mem_map.mp|Anl=>collect|Anm=>acc.toList|Ann=>p.isList|Ano=>List.cons_append|Anp=>R1.gr.h.free|Anq=>R1.apart|Anr=>List.zipWith_cons_cons|Ans=>P.size|Ant=>SortKind|Anu=>W.kas_ask|Anv=>Heap.size_update|Anw=>a.cps.toList|Anx=>items.isEmpty|Anz=>decide_false|An0=>PySem.F.slot_dict_keyiterator_next|An1=>Bool.or_eq_true|An2=>Bool.or_eq_false_iff|An3=>ps.getD|An4=>vals.getD|An5=>as.length|An6=>ts.map|An7=>wpAny_getItem_str_slice|A5v=>List.mem_append_left|A5w=>Nat.le_refl|A5x=>ClassData|A5y=>"ValueError.__new__"|A5z=>W.tailIn|A5_=>cd.mro.contains|A5'=>Array.mk|A6G=>"special-get-raises"|A6H=>"NoFraction"|A6I=>"NoAnswer"|A6J=>W.findIn|A6K=>"__setattr__"|A6L=>"object.__setattr__"|A6M=>"OF_THE_SITTING"|A6N=>sysModules|A6O=>"__getattr__"|A6P=>"leaning cd"|A6Q=>"grade ab"|A6R=>"Sitting.must_have"|A6S=>"Sitting.mark"|A6T=>"Sitting.grade"|A6U=>"Sitting.leaning"|A6V=>"Desk.answer"|A6W=>"Book.rows"|A6X=>"Scale.scaled"|A6Y=>"Sitting.reckoned"|A6Z=>p.length|A6a=>Hd.recOf|A6b=>Value.int|A6c=>Value.isInt_shape|A6d=>"put ab cd "|A6e=>Value.float|A6f=>o.ExactDict|A6g=>qY.length|A6h=>ob.slots|A6i=>"_law_many"|A6j=>"_law_cell_here"|A6k=>W.of_hideAll|A6l=>filterMap|A6m=>bootBuiltins|A6n=>boot_len|A6o=>"number"|A6p=>boot_max|A6q=>I.ok.frf|A6r=>I.base.there|A6s=>"_law_number"|A6t=>X.env.scope.names.lookup|A6u=>List.getElem?_set_ne|A6v=>"multiple"|A6w=>starEach|A6x=>Constant|A6y=>its.toList|A6z=>"_law_word"|A6_=>"_law_piece"|A6'=>pos.line|A7G=>wpAny_assign_Name|A7H=>swapsWithSole|A7I=>swappedStores|A7J=>"dict_itemiterator"|A7K=>wpAny_load|A7L=>Bool.false_and|A7M=>I.tuple_inj|A7N=>Hd.adr_of|A7O=>binaryOp|A7P=>getMethod|A7Q=>Nat.lt_succ_self|A7R=>attributeBase|A7S=>W.kia_one|A7T=>W.kitx_list|A7U=>W.kitx_dict|A7V=>Around.under|A7W=>Code.isFrame|A7X=>I.stkFree|A7Y=>List.nodup_cons.mp|A7Z=>W.cellsFrom_some|A7a=>PySem.mem_of_lookup|A7b=>ps.Nodup|A7c=>PySem.AutoSeq1|A7d=>PySem.MeetsSeq|A7e=>PySem.MeetsSeq3|A7f=>s.TypeIs|A7g=>ht.typeIs|A7h=>Builtin.Tuple.tupleExact|A7i=>Subscript_|A7j=>s3.heap.push|A7k=>seqIndex_of|A7l=>seqIndex_neg|A7m=>z.cps.toList|A7n=>Heap.get?_update_other|A7o=>List.length_set|A7p=>Option.getD_none|A7q=>SeqAt.EqAt|A7r=>typeIs_int
|A7s=>Calls.callWith_builtin|A7t=>Calls.evalArgs_plain|A7u=>Builtin.List.listTooLong|A7v=>"list.append"|A7w=>Option.isSome_some|A7x=>PySem.F.slot_dict_getitem.lookup|A7y=>PySem.F.slot_dict_get|A7z=>PySem.F.plainAttrs_dict|A7_=>s₁.heap.get?|A7'=>PySem.call|A8G=>s₁.heap.Ns|A8H=>Nat.lt_or_ge|A8I=>setFlight|A8J=>Inv.landed|A8K=>s2.heap.get?|A8L=>R.g.free|A8M=>Builtin.Int.intBits|A8N=>Nat.log2_lt|A8O=>int_tuple|A8P=>int_list|A8Q=>str_tuple|A8R=>str_list|A8S=>tuple_int|A8T=>tuple_str|A8U=>list_int|A8V=>list_str|A8W=>boot_isinstance|A8X=>Option.bind_some|A8Y=>codeAny_call_builtin|A8Z=>KF.type_class|A8a=>checkBuiltinCall|A8b=>pushCells_keeps|A8c=>names.lookup|A8d=>newFunctionEnv|A8e=>List.Nodup|A8f=>ListComp|A8g=>s4.trans|A8h=>Zx.names.lookup|A8i=>PySem.preSum|A8j=>"list_iterator"|A8k=>List.any_eq_true|A8l=>PySem.argBest|A8m=>ws.toArray|A8n=>"__next__"|A8o=>hit2.typeIs|A8p=>wpAny_seqItems|A8q=>"StopIteration"|A8r=>wpAny_handled|A8s=>wpAny_setField_rec|A8t=>wpAny_updateSeq_pair|A8u=>wpAny_letGo|A8v=>wpAny_newTuple|A8w=>D.TOz.symm|A8x=>D.i1z.symm|A8y=>wpAny_isInstance|A8z=>List.not_mem_nil|A8_=>List.length_zipWith|A8'=>t.dummies|A9G=>SetTable.has|A9H=>h.update|A9I=>Obj.putSet|A9J=>storeSet|A9K=>List.mem_singleton|A9L=>"set.__new__"|A9M=>wpAny_askSetting|A9N=>wpAny_runValue|A9O=>"set_iterator.__next__"|A9P=>Nat.mod_lt|A9Q=>setNextDrawn|A9R=>wpAny_fieldsOf|A9S=>setsByText|A9T=>pickOrder|A9U=>pickOrder.go|A9V=>"set_iterator.__iter__"|A9W=>t.place.toList.length|A9X=>length_eq|A9Y=>List.mem_range.mp|A9Z=>newFields|A9a=>PySem.F.plain_list_iadd|A9b=>wpAny_updateSeq|A9c=>get?_update_seq|A9d=>wpAny_pyIter_revIter|A9e=>List.length_reverse|A9f=>"list_reverseiterator"|A9g=>listUpdate_at|A9h=>I1.after|A9i=>b.cps.toList|A9j=>List.getElem_map|A9k=>SeqRoads2.EqGives.str|A9l=>"values"|A9m=>ks.Nodup|A9n=>List.nodup_append.mpr|A9o=>List.getElem?_cons_succ|A9p=>"dict_keyiterator"|A9q=>hm.typeIs|A9r=>resolve_left|A9s=>x.cps.size|A9t=>strValues|A9u=>Txt.isdigit|A9v=>Txt.startswith|A9w=>y.length|A9x=>PySem.Str.length_append|A9y=>intText?|A9z=>"tuple.__mul__"|A9_=>kvs.lookup|A9'=>PySem.strKind|A_A=>ExceptHandler|A_B=>Txt.partition|A_C=>X.length|A_D=>List.all_eq_true.mp|BaI=>List.getElem?_eq_some_iff|BaJ=>List.mem_append_right|BaK=>Nat.lt_of_lt_of_le|BaL=>Nat.ne_of_lt|BaM=>Option.some.inj|BaN=>behindTheImports|BaO=>importedModules|BaP=>"MOST_WORKS"|BaQ=>"MOST_FIGURES"|BaR=>"LONGEST_NAME"|BaS=>"put ab cd 5"|BaT=>"drop ab cd"|BaU=>"rule pair 1/2"|BaV=>"scale 0,0 9/2,7"|BaW=>"grades 0-1 0-60"|BaX=>"appeal ab cd 5"|BaY=>"back ab cd"|BaZ=>"withdraw ab"|Baa=>"rule mean 0"|Bab=>"1234567890123"|Bac=>"1/1234567890123"|Bae=>PySem.W.Fast.te4187177175401517315|Baf=>lw.row.toRowW|Bag=>"put ab ce 4"|Bah=>"put abc cd 9"|Bai=>"put abc ce 3"|Baj=>"grades 1-2 0-5"|Bak=>SeqAt.EqAt.int_str|Bal=>SeqAt.EqAt.str_int|Bam=>Int.emod_nonneg|Ban=>Paired.length|Bao=>PySem.Within|Bap=>Array.append_assoc|Baq=>W.hideAll_get|Bas=>List.mem_filter.mp|Bat=>W.hideAll_none|Bau=>X.env.globals|Bav=>X.s₀.heap.objs.size
|Baw=>X.base.objs.size|Bax=>X.s₀.heap.FunFrames|Bay=>I.ok.funs.mem|Ba0=>s.heap.FunFrames|Ba1=>"_law_odd_here"|Ba2=>I.mod.glob.keeps|Ba3=>behindInMarks|Ba4=>BindsTo.of_defaults|Ba5=>wpAny_isTrue_Compare1|Ba6=>PySem.F.slot_list_append|Ba7=>PySem.F.type_list_append|Ba8=>wpAny_execs_cons|Ba9=>letOwnedTupleGo|Ba_=>h.IsListIter|Ba'=>wpAny_pyNext_list_item|BbA=>h.IsTupleIter|BbB=>s.heap.IsTuple|BbC=>foldedSetIterable|BbD=>es.toList.any|BbE=>W.plainGet_of|BbF=>wpAny_loadPart|BbG=>"getset_descriptor.__get__"|BbH=>W.kitx_tuple|BbI=>recursionLimit|BbJ=>Calls.spliced_nil|BbK=>Option.isSome_iff_exists.mp|BbL=>e0.hok.fresh|BbM=>name_of_addr|BbN=>s.heap.NoLimit|BbO=>codeAny_call_function|BbP=>W.codeRec_of|BbQ=>PyProof.Rows.callWith_builtin1|BbR=>slicePart_none|BbS=>"__getitem__"|BbT=>PyProof.Rows.slot_tuple_getitem|BbU=>wpAny_typeOf|BbV=>evalPart_none|BbW=>slot_list_getitem.lookup|BbX=>Bool.or_false|BbY=>its'.toArray|BbZ=>isList.typeIs|Bba=>call_list_seq|Bbb=>PySem.evalArgs_none|Bbc=>List.foldl_cons|Bbd=>flatten.length|Bbe=>h1.symm.trans|Bbf=>wpAny_getItem_of|Bbg=>tupleKind_room_in1|Bbh=>wpAny_in_heap|Bbi=>wpAny_notIn_of|Bbj=>wpAny_notIn_heap|Bbk=>wpAny_specialOf|Bbl=>List.nodup_nil|Bbm=>wpAny_Dict_empty|Bbn=>PySem.F.entry_dict_get|Bbo=>List.Pairwise.nil|Bbp=>R.gr.f.trans|Bbq=>Obj.mapFields|Bbr=>Obj.isFreed_of_fields|Bbs=>Obj.cls_mapFields|Bbt=>List.cons.inj|Bbu=>wpAny_pyIter_tuple|Bbv=>Int.natAbs_eq_zero.mp|Bbw=>SeqAt.RcNeAt|Bbx=>s.heap.IsList|Bby=>wpAny_loadPart_at|Bbz=>wpAny_isSubtype_exc|Bb0=>Value.builtin|Bb1=>Bool.false_eq_true|Bb2=>Bool.true_and|Bb3=>beq_eq_false_iff_ne|Bb4=>List.pairwise_cons.mpr|Bb5=>List.forIn_cons|Bb6=>List.pairwise_cons.mp|Bb7=>Comprehension|Bb8=>wpAny_comp_letGo|Bb9=>List.drop_eq_getElem_cons|Bb_=>List.drop_length|Bb'=>exec_Assign_Name_used|BcA=>A.in1.handled|BcB=>Bool.eq_iff_iff|BcC=>List.mem_range|BcD=>Builtin.List.listFitsIndex|BcE=>PySem.F.slot_list_insert|BcF=>Array.toList_inj.mp|BcG=>PySem.F.plainAttrs_list|BcH=>wpAny_pyIter_enum|BcI=>"tuple_iterator"|BcJ=>F.slot_tuple_iterator_next|BcK=>firstArgMember|BcL=>Builtin.SmallTypes.ownedTupleIsFree|BcM=>wpAny_onRaise|BcN=>F.entry_zip_next|BcO=>F.args_zip_next_1|BcP=>isSubtype_stop|BcQ=>wpAny_pyIter_zip|BcR=>List.getElem?_zipWith|BcS=>SetTable.below.go|BcT=>List.pairwise_cons|BcU=>List.getElem_drop|BcV=>t.place.toList|BcW=>List.pairwise_lt_range|BcX=>SetTable.probe.go|BcY=>key.length_eq|BcZ=>wpAny_setState_of|Bca=>Array.toList_push|Bcb=>List.map_append|Bcc=>SetTable.grown|Bcd=>wpAny_storeSet_of|Bce=>PyProof.Rows.F.plain_set_update_loop|Bcf=>codeAny_of_tree|Bcg=>PySem.F.plain_set_new|Bch=>sub_set_self|Bci=>Shared.TypeIs|Bcj=>Nat.zero_add|Bck=>List.length_eq_zero_iff.mp|Bcl=>wpAny_setEntries_of|Bcm=>wpAny_pyIter_slot|Bcn=>PySem.F.slot_set_iter|Bco=>wpAny_setEpoch_of|Bcp=>PySem.F.entry_proto_collect|Bcq=>Builtin.List.listSameRef|Bcr=>PySem.F.plain_extend_loop|Bcs=>codeAny_extend_loopS|Bct=>Heap.get?_update_ne|Bcu=>wpAny_newList|Bcv=>vals.toArray|Bcw=>slot_list_sort|Bcx=>entry_list_sort
|Bcy=>args_list_sort|Bcz=>Array.toArray_toList|Bc0=>hp.mem_iff.trans|Bc1=>"__length_hint__"|Bc2=>"list_reverseiterator.__length_hint__"|Bc3=>items.reverse|Bc4=>listItems_at|Bc5=>List.set_cons_zero|Bc6=>List.set_cons_succ|Bc7=>h.mem_iff.mp|Bc8=>Array.perm_iff_toList_perm.mp|Bc9=>Array.getD_eq_getD_getElem?|Bc_=>vs.toArray.size|Bc'=>vs.toArray.zip|BdA=>decide_eq_false_iff_not|BdB=>List.not_lt.mp|BdC=>keyLt'_oneType|BdD=>List.map_congr_left|BdE=>List.pairwise_map.mp|BdF=>hms.length_eq|BdG=>x.cps.toList|BdH=>y.cps.toList|BdI=>AutoSeq1.sub_list_list|BdJ=>plain_eq_loop|BdK=>F.slot_list_lt|BdL=>a1.length_eq|BdM=>List.length_range|BdN=>its2.toArray.size|BdO=>PySem.F.slot_list_extend|BdP=>PySem.F.slot_dict_values|BdQ=>"dict_values"|BdR=>PySem.F.slot_dict_iter|BdS=>Builtin.Dict.showsAll|BdT=>PySem.F.entry_dict_keyiterator_next|BdU=>PySem.F.args_dict_keyiterator_next_1|BdV=>List.nodup_cons.mpr|BdW=>W.callWith_K0|BdX=>List.map_fst_zip|BdY=>"list.index"|BdZ=>PySem.F.slot_list_index|Bda=>W.kdl_values|Bdb=>Builtin.Str.partsBetween|Bdc=>StrLaws.partsFrom|Bdd=>Builtin.Str.strKind|Bde=>PySem.F.slot_str_split|Bdf=>numbered_texts|Bdg=>ne_true_of_eq_false|Bdh=>"str.startswith"|Bdi=>"startswith"|Bdj=>PySem.F.slot_str_join|Bdk=>Builtin.Str.tooLong|Bdl=>i.natAbs.log2|Bdm=>"tuple.__rmul__"|Bdn=>PySem.F.slot_tuple_mul.lookup|Bdo=>PySem.F.slot_tuple_rmul.lookup|Bdp=>PySem.seqSlot_of|Bdq=>wpAny_ite_false|Bdr=>PySem.F.slot_int_rmul|Bds=>List.nil_append|Bdt=>Int.natCast_mul|Bdu=>PySem.F.slot_dict_itemiterator_iter|Bdv=>PySem.F.slot_dict_items|Bdw=>"dict_items"|Bdx=>PassesOwnAt.lookingOf|Bdy=>"str.partition"|Bdz=>PySem.F.slot_str_partition|Bd0=>slot_listiter_next|Bd1=>PySem.F.slot_str_upper|Bd2=>List.mem_cons.mp|Α=>∀(c:DV),_|B0=>.AT δ|Id=>fun _=>δ|Do=>δ ->ε ->Ι|FG=>δ X F0 H0 ε ζ|Ν=>y.1|A0=>fun δ ε ζ=> ?_|Κ=>AH5 (δ)|Iq=>δ[ε]?=Β ζ|Cn=>Id δ|On=>.Ψ (o_ δ)|fR=>δ ε (aj ζ ak)|BF=>(by decide)|K0=>δ b=Β ε|K2=>Hd.adr (AOe K eQ δ)|AJ=>D9 D|ADG=>Hd.ix B δ Z|AA=>D9 Ξ|M'=>cC (.AF δ)|G_=>AHz δ|Ο=>by unfold δ;infer_instance|Ρ=>XB (δ c)|N9=>Inv X Μ σ δ ε|EZ=>(by trivial)|AQ=>by obtain⟨δ,ε⟩:=ζ|D7=>Iq δ i ε|CO=>y.2.2|KB=>(δ:BI)|Χ=>by cases (h)|KE=>fun _ δ=>ε|AL=>D9 V|A1=>(qv 0)|A9=>(qv 1)|AY=>(cV 0)|KG=>cC (On δ)|GI=>δ ->Ι|EE=>δ=Τ|A5=>(cV 1)|BQ=>δ ->ε ->ζ ->η ->θ|BC=>.non|B1=>by rw[δ];exact ε|VO=>.bS δ ε|AK=>p.1|bg=>N9 H δ|Ll=>by have δ:=ε;have ζ:=η;have θ:=ι;have μ:=ν|D4=>δ<=Alz|AI=>y.2|Dx=>FG QE δ ε|ID=>(hr.mono BF)|GN=>#[bK δ]|GS=>δ a=Β ε|MS=>ACe (Ń δ ε) ζ η θ ι μ|y6=>δ P w K mg B9 ε ζ η θ|MT=>(match δ with | ε=>ζ | _=>Ε)|As=>δ P w K mg B9 c|GT=>δ.2.2.2.2|CU=>by exact δ|bi=>bc z|BN=>(by simp)|N_=>δ z E cx|Ya=>mg δ=Β (B0 ε)|HQ=>fR aj δ ε|Ş=>(KE _ Z)|MU=>ao δ (ao ε aL)|AW=>bg s|E2=>Β (.δ ε)|GU=>A6w δ Be|OA=>Β (.δ ε ζ)|IE=>y6 cR δ ε ζ (η c)|ş=>D9 (δ×ε)|Cl=>(δ).length|TZ=>fun b δ=>ε|G'=>.type δ|EV=>⟨_,δ,ε⟩|qk=>δ K F0 H0 ε|An=>D9 AD|VQ=>EE (δ==ε)|KI=>ao δ aL|ADH=>by decide+kernel|EW=>jn δ Be|MV=>mg δ =Ε|A2=>(by omega)|AS=>h.1|HA=>by obtain⟨δ,ε,ζ,η⟩:=θ|BS=>p.2|A3=>y.2.1|AX=>dW K δ ε ζ f fd
|Š=>qk SR δ|Au=>h.2|BH=>D9 Η|MW=>K0 δ o|VS=>cB δ ε (M' ζ)|y7=>Kx=δ|Tb=>(δ:Ζ)|DA=>by simpa using δ|FH=>(e::es)|EB=>TZ hb δ|Yf=>δ (fN ε ζ) fun η θ=>ι|HR=>δ x=Β ε|bj=>Kt F δ|bn=>VO x δ|kR=>cO δ ε Ş|P3=>.type δ
|BV=>by
 refine δ
 refine ε
|Y1=>fun _ _ _ h=>δ h|Ee=>δ _ _ _ _|Fs=>M1 δ|DB=>fun z=>δ|bo=>δ K ε=Θ|y8=>Id Ex|EJ=>Ps δ|kT=>Do δ (GI ε)|GV=>if δ then ε else ζ|BE=>w.1|BG=>by omega|Da=>au δ ε (bJ ζ)|VT=>⟨F,Γ,_,R,h,δ⟩|Ix=>aq K δ ε=AH5 (ζ=η)|K_=>show δ from ε|CI=>.Ε|C9=>by simpa using δ|BD=>by unfold δ at h|y9=>fun δ Ω X1 s1 h1=>ε|BB=>by nofun|P4=>δ b=Ε|Db=>δ.2.2.1|Lm=>o_ δ|APt=>B0 (K2 δ)|VU=>VQ δ (ε :Ξ)|B7=>F.binds fun _ _ _ _ _ _ us hl=>δ|DC=>fun δ ε=> ?_|DO=>by obtain⟨δ,ε⟩:=ζ;exact η|Op=>fun b o δ ε=> ζ|bp=>VS cD δ ε|DH=>δ (X:=bi)|qo=>Š δ ε σ ζ|š=>kR δ bx|qq=>{cls:= δ,ef:= ε}|MX=>fun _ _ δ=>ε|C3=>.no|Fu=>by exact δ|D8=>.AT a|kU=>#[δ (i:=ε) nd Z EZ ζ]|BO=>∀{c:DV}{ds P E}(h:δ c ds P E),_|IF=>Β δ|BUd=>fun cdv A CF s H E hr F0=>δ|P5=>δ ->G_ ε|DI=>D9 Key|An8=>δ K c ε (aG ζ ds) y8|AZg=>(match δ with | Ε=>ε | Β ζ=>η)|AZh=>∀{K:Φ}{c:DV},_|BU=>δ F ε (Y1 ζ) (BUd ⟨η K c,θ,ι⟩)|y_=>{δ with heap:=ε}|E7=>by obtain Z:δ:=ε|VV=>⟨δ,Z⟩|B3=>GN #[dX δ]|BY=>∀(_:Φ)(c:DV),_|Lo=>aM K F δ ε|AJD=>fun b δ e=>ε|APu=>{nx:=δ,rt:=ε}|By=>Ya δ f|NA=>∀b,δ ->ε|Bi=>∀(AZh){ds Q Ex}(h:δ c ds Q Ex),_|Bn=>fun ds Q Ex h=>δ h|CC=>g.1|MY=>fun _ δ=>ε|bq=>(match δ with | ε=>ζ | _=>D6)|ADJ=>by show HA δ ε ζ η θ;show HA ι μ ν ξ ο|LA=>AZg δ Ε ε ζ|HE=>∀b∈δ,ε|IG=>hName δ|BUi=>δ (P:=ε) (w:=w) (B9:=B9)|B4=>Xp (δ c)|kX=>BUi δ AIm|EF=>o_ δ|LB=>OA ok δ ε|EH=>_::_|ka=>kU gG δ ε|B8=>by exact C5|GW=>(M' 1)|AJE=>VT (fun δ Ω F1 H1 ε R1 s1 ζ η=>θ)
|D1=>by
 have δ:ε:=ζ
 have η:θ:=ι
 have μ:ν:=ξ
 have ο:π:=τ
|APv=>APu (Id (Q BC)) Q|Ţ=>AmV X G δ|C6=>by obtain⟨δ,y⟩:=ε|CD=>#[iw]|II=>(by rfl)|P6=>A0 δ ε e|VW=>δ Μ s σ H|Lu=>δ (ε:=ζ) (η:= θ) (ι :=μ) (ν :=ξ)|EC=>(aQ _)|Lv=>MT δ ε (ζ)|CH=>∀(K:Φ)(c:DV),_|P7=>z6 (m:=δ)|DS=>by simp [δ]|kg=>D7 δ x|zC=>An8 δ APv ε|L4=>Xp (cW δ ε (ζ c))|CY=>D9 AG|HU=>by simp [δ]|EK=>[d]|IJ=>by obtain⟨δ,ε,Z,ζ,η⟩:=θ|ADK=>ş Ξ δ|DD=>q.1|zD=>by simp only [e2] at δ|HG=>⟨δ,[]⟩|E8=>δ.2.2.2.1|VX=>y_ s δ|C7=>.DU|P8=>by obtain⟨δ,ε,ζ⟩:=η θ|D3=>(qv 2)|DE=>(cV 2)|zI=>Do δ Hp|ţ=>A0 δ s1 ε|NB=>(Τ,EW δ)::GU ε|APw=>by obtain⟨F,Γ,δ,R,h,k⟩:=ε;exact ζ|VY=>K0 δ u|ki=>A6J K δ ε =Β ζ|qr=>by exact AYi δ|Ť=>fun Γ P E=>δ Γ (fun ε Ω=>ζ) E|E9=>⟨δ,?_⟩|Th=>GS H δ|SF=>y5 δ s h (y9 ε ζ)|DT=>P5 Ξ AD|fS=>(δ ε ζ).Kk|EL=>by rw[Ps δ]|Co=>by simp only [e] at h|fT=>qo δ ε Γ|Ct=>by show Ll δ (ADG ε) ζ (ADG η) θ (ADG ι) μ (ADG ν)|ADL=>.yB δ ε [] AB|AJF=>AJE δ ε r1 h1 ζ|zS=>(bc z)|kl=>[N4,δ]|fb=>Yf bnd δ X ε X1 ζ|DF=>(by simp_all)|E3=>⟨δ,ε,?_⟩|EX=>(B0 a)|Y2=>fun σ H Q δ=>ε|APx=>L2.Cls K δ|OB=>.A8 (δ ε)|Tk=>(δ ε).length|F6=>bj F'|ADM=>{δ with heap:=ε,toks:=ζ}|AZi=>dU δ ID Z ε|Iy=>pd δ ε|Eg=>by intro Μ s σ H δ I h|zd=>⟨fun δ=>ε,ζ⟩|E_=>P δ Ω|OC=>(a::bs)|F7=>(bn kK)|APy=>Lo δ vs|SG=>(.dK Υ)|ADN=>(gC P w)|ED=>CO.1|D5=>w.2|fc=>fun δ H1=>ε|FI=>by rw[δ] at At|ť=>by obtain⟨δ,Z⟩:=ε|De=>by decide|q_=>.İ δ|EM=>w.2.1|OE=>Q (B0 δ) ε|ADP=>bp δ 0|AZj=>δ (ε K eQ ζ)|An9=>MS δ w A ε Q E s|rL=>.pv δ ε Ic|E4=>by obtain⟨_,_,Z⟩:=len2 hl|Ev=>D9 T|SH=>q.2.1|Y3=>δ a=Ε|AZk=>backTo δ (A6w ε Be)|F8=>B1 δ ε|Ŧ=>‹_›|fe=>fR j8 δ ε|km=>SR AE F0 H0 δ ε σ ζ|KK=>(N_ ha)|ko=>cT (cB δ ε (ζ η))|ŧ=>ADM s δ ε|EG=>by obtain y:=δ|HV=>X.calm=Θ|E5=>.AF i|AJG=>Β (.AT δ)|IL=>.A8 xs|APz=>#[dU δ ID Z ε]|ze=>δ (ao ε aL)|KL=>δ.2.2.2|HZ=>by rw[M1 δ]|AP0=>show δ by show ADH|NC=>An9 BA δ|Y_=>δ i (.tr ε ζ)|EN=>v.1|Os=>if δ=Θ then ε else ζ|IM=>(i+1)|LE=>D4 (Tb δ)|VZ=>IE δ ε [ζ] η|Ũ=>aB K ER δ|ff=>Ya δ ε/\dJ K ζ|AZl=>by obtain⟨_,Z⟩:=δ|EO=>by split at h|ũ=>FG δ ε t|LF=>KB (Tb δ)|EI=>y7 2
|OF=>(by
 rcases δ with ε | ζ
 ·exact η
 ·exact θ)
|Tl=>AJD o δ|br=>upd δ ε (.A8 ζ)|P9=>z9 _ Z|Y'=>δ (X:=bi) (ε:=ζ)|AZm=>Ix (K2 δ) (K2 ε) ζ η|EQ=>by cases h|AP1=>kT D D|ADQ=>eO (Cn δ) ε ζ|FA=>by simp|AJH=>AHz (δ ε)|OG=>YE δ=Ε|P_=>fun z=>δ|Oy=>(a::cs)|rS=>MY _ δ|MZ=>fS δ.2 ε ζ|ADR=>ao bA (ao bA δ)|ZA=>aj (KG δ) (aj (KG ε) ζ)|FK=>t.1|I_=>D9 Env|Tm=>⟨δ.1,ε⟩|LG=>VV _|ADS=>P6 b δ|Hb=>Ļ AD|kq=>fun δ σ H ε=>ζ|Ū=>jn δ Be|V_=>z6 (m:=δ) ε|QP=>fun x=>δ|ND=>by obtain Z:=δ|rV=>Am' δ|O0=>.CB δ|kr=>(DZ+1)|ū=>(iy k)|FB=>fT F H|zg=>VW δ _ I h|OH=>Ps (δ)|Mb=>(š A1)|FC=>D ->AP1|LH=>z7 (α:=_)|KM=>iB ρ Γ X|LI=>(GT δ).1|FL=>q.2|KO=>∀{δ:ε} {ζ:η},θ ->ι|O_=>by obtain⟨δ,ε,y⟩:=ζ|FM=>by show ADH|bt=>FG QS δ ε|zh=>Dx e δ|ADT=>HR δ c|JA=>(š A9)|ku=>cW 2 δ (ε c)|Hc=>(Cn (gV hu))|V'=>fun b hb=>δ|ZB=>h1 _ s1|zi=>δ (bc z) ε ζ|SI=>.eg|To=>.cell|F9=>D9 BI|NE=>⟨Z,δ⟩|QQ=>Do δ AC|rX=>δ (i:=0)|OI=>G_ BI|Ŭ=>D7 δ (.tr ε ζ)|ADU=>KB a|rb=>Rep K F δ ε|Mc=>EV δ Z|F_=>by rw[e] at h|FX=>y7 1|WA=>cB δ ε (cV ζ)|AJI=>ũ QA δ|Ts=>fR aF (δ c) ε|FY=>by show ADJ δ ε ζ η (Hd.fun_ix L θ Z) ι μ ν ξ (Hd.fun_ix L ο Z)|zk=>k _ _ F H (AYx sF) δ ε|AJJ=>blk X sc N' δ|ADV=>δ=MR|GA=>by simp only [δ] at h1|GY=>(cV 3)|GB=>by simp only [e] at h1|re=>Op δ n ε|fg=>NA δ (ε b=ζ b)|WB=>bq d δ ε|SK=>HE fp δ|GE=>δ (CU (ε ζ η))|PD=>VX h'|ADW=>bV EA X.w δ ε ζ η|Tu=>dG Γ σ H b|Gc=>(.refl _)|BVC=>Hd.adr (A6J K (APt δ) ε)|AZn=>envOfC δ ε B2 f|LJ=>fun δ ε ζ η θ=> ?_|LL=>by obtain⟨δ,ε,Z,ζ⟩:=η|He=>D9 Ζ|SL=>H δ=Β ε|OK=>(B0 C)|bu=>H δ=Ε
|GL=>by
 have δ:ε:=ζ
 have η:θ:=ι
 refine μ
|IN=>MV AH7|fh=>Β (.İ δ)|Hk=>kg X.N|ZE=>Ť δ d ε|Hm=>Y2 δ (APw P ε ζ)|LM=>APy ds|bv=>by show ť t δ|GM=>δ (C4:= ε) (N' := ζ)|fi=>.AF|Go=>D9 α|Md=>(by show ADH)|Me=>⟨δ,Z,ε⟩|JE=>(qv 3)|JI=>(zP _)|QU=>AJD u δ|KP=>LB δ X1|SO=>Ee k.nx δ ε ζ|AP2=>ŧ h' δ|AP3=>δ P w K mg B9 ε ζ η θ (ι c)|G0=>by show fP δ _ ε ζ (bJ η) θ;symm_saturate|QY=>eO (Cn δ) ε (ζ η)|bz=>by obtain⟨δ,ε,ζ,η,Z,θ,ι,μ⟩:=ν|ZH=>by cases (he)|Mm=>MT d δ ε|WC=>EV Z δ|L5=>_::EH|IO=>EB ?_|PF=>⟨δ,_,ε,Z,ζ⟩|NF=>LA δ ε (ζ)|ZI=>z6 (δ ε ζ ?_)|b9=>fun σ H Q=>δ σ H (fc ε ζ)|ZN=>.DJ C' fs ds|SS=>jk Γ σ b|b_=>.local|KS=>by refine δ;exact ε|LN=>(δ&&ε)=Θ|ky=>Id D6|Hn=>#[sZ δ]|ST=>.bl _|cE=>GS X_ δ|OL=>fun b δ q=>ε|rg=>aB K Ki δ|IP=>by rw[q] at e|NG=>P4 H|rh=>z8 _ e|WE=>AZi δ (MU ε ζ)|Tx=>Op hb e δ|Qb=>AJF d v δ|AZo=>W.mroIn K δ (P3 ε)=Β Θ|AP4=>(AZk δ ε).any (·.1)=Τ|ZO=>by cases At|PH=>show δ=ε from ζ|NH=>fun δ ε ζ η=> ?_|L6=>by obtain⟨δ,Z,ε⟩:=ζ|L7=>by simp_all|ADX=>q.2.2|SU=>#[dM δ]|fk=>DZ+1|zn=>A0 b δ ε|kz=>(bJ st)|JJ=>BQ δ ε ζ (η) θ|ŭ=>OA er δ ε|AJK=>bo δ (K2 ε)|L8=>Da δ [ε] ζ|ZT=>qq (G' δ) (.ACY ε)|ADY=>Lv ds δ ε|AJL=>rW AE δ|ADZ=>∀b o,δ ->ε|LO=>.BM xs|Ů=>(AJG a)|NI=>v= .AT a|NJ=>by show AZl (len1 hl)|L9=>ADS u|zo=>MS EA X.w X.A δ ε ej s|IQ=>kX δ c ε (Ţ ζ) η|ADa=>by omega (splitDisjunctions:=Θ)|KU=>Gl X x|SV=>.Ψ|OM=>by rw[δ,ε]|SW=>by rfl|SY=>[D8]|AJM=>Do δ G2|SZ=>Iq δ j ε|An_=>(Cn vI)|ZU=>K0 H δ|k6=>(M' 0)|KW=>∀[XA te],_|JO=>by show DO δ ε ζ ⟨η,θ⟩|ů=>bq ds δ ε|k7=>IE δ 1 [ε,ζ] η|rq=>fe sY δ|AP5=>∀(hd:VU x ń:=by decide),_|fm=>aj δ ak|r6=>if δ then ε b else ζ|WF=>∀p∈δ,ε|AP6=>by cases z|zr=>δ=Β u|Kb=>w.2.2|fq=>fun v δ=>ε|ADb=>(δ ε).Al6|LP=>(N_ he)|ADc=>Apart σ δ ε|Qr=>P7 (δ _)|Sb=>zI St|ft=>z6 (δ ?_)|Ű=>δ (cV 0)|ZY=>(GT δ).2|LS=>by exact Cf|Q1=>CO.2.1|Mn=>zP _|fw=>K_ (ADW δ ε ζ η) θ|cK=>C9 hb|LT=>by show zD h1|AZp=>δ=IC Τ|Q3=>APz δ (MU ε ζ)|L_=>lY rs|Ty=>(rV s2)|ű=>.yB δ ε [] G1|Ų=>#[δ ε Z ζ η (KI θ)]|NL=>rb d v|ų=>fY P w K mg B9 ADN δ f fd ε ζ|LU=>AZj Hd.isRef AOe δ=Θ|zt=>b1++ (δ++b2)|BVD=>ze (pO δ Z aP A6n) ε|cS=>z7 (α:=_) δ|AJN=>by with_unfolding_all rfl|AZq=>(match δ with | ε=>ζ | η=>θ | _=>ι)|f_=>(match δ with | ε=>ζ | _=>Τ)|NM=>G_ Η|r7=>E2 nx δ|Sc=>MW TK|MA=>∀[XA tf],_|AJO=>fun δ Γ E=>ε Γ (fun ζ Ω=>η) E|cc=>(hn b hb)|PM=>ka 2 δ|MB=>by show zD h|r8=>.eN ks δ|zv=>rS D6|AP7=>zk II δ|NN=>rP AmA x|f'=>fun o e=>δ|ADd=>wA δ ε (qv 0)|Q4=>kT AJ AJ|MC=>∀{K:Φ}{F:Hp},_|AP8=>jD δ ε (cV 0)|ci=>dN 1 δ ε (IG 0)|AP9=>Ctx zS F0 H0 E|MD=>gU (i:=0) (AP0 (δ:AA).ax) Z EZ|NO=>CO.2|NR=>by unfold δ at e|Mo=>by subst δ;exact ε|Q_=>by rw[<- δ];exact ε|k8=>by rw[δ ε];exact ζ|NS=>p.2.1|NU=>g.2.1|ON=>(qv 4)|ck=>.BM (δ ε)|NV=>⟨δ,ε,Z,ζ⟩|OO=>by cases (e)|PP=>.AT l|NW=>by show AQ δ ε ζ;have η :=θ|ADe=>B1 δ q|zw=>GN #[δ]|My=>Fs Z|AZr=>show δ by decide|gE=>Yf jm δ X ε X1 ζ|ADf=>by show AQ δ ε (ζ η);show AQ θ ι (μ ν)|ZZ=>kg xs|WG=>ţ δ Cb|AP_=>ADL (VO δ p) ε|OP=>(ADP A5)|Ŵ=>dj (lX e δ)|AZs=>(.ob C fs ts)|M0=>zh te|ADg=>ADT Al9|gI=>cT (cB δ ε ζ)|z0=>AP3 δ ε ζ η (kl θ) ι|NX=>∀{α:GG},_|AP'=>u=Pp a|r9=>BVD An_ δ|NY=>.SE d|WH=>by show Os δ _ _
|BVE=>fun _ _ _ _ _ _ q=>δ|AJP=>δ<Alz|Na=>by exact ZB|Zl=>.AF (δ ε)|PQ=>by obtain⟨δ,ε⟩:=ζ;refine η|gL=>FG δ e ε|r_=>.refl _|k9=>fun b δ ε q=>ζ|ADh=>Ņ _|k_=>Ŗ i δ|Nc=>Fu h|Se=>by obtain⟨F,Γ,P,R,h,k⟩:=δ|AZt=>.pu (OB δ ε)|sA=>(.AV Z)|Nd=>zC δ 2|AJQ=>ADQ δ ε bx|AZu=>ADY EK δ|cn=>nW k r|AJR=>cZ (fU (aj δ ε))|T0=>by show IJ δ vs hq rs ε|T_=>by obtain⟨δ,ε,ζ⟩:=η;exact θ|T'=>(δ ε ζ).length|OQ=>(k+1)|lI=>.AV (.AV δ)|WI=>(N_ hb)|sB=>P4 F|PR=>z6 ?_|PU=>HK y u|OR=>HK v u|UA=>AZi δ (KI ε)|gN=>δ b o e|z5=>z6 (δ ε ?_)|WJ=>δ IB e|AZv=>hb (HU δ)|RA=>AJI FH|AJS=>ki (APt δ) ε Ε|sC=>ŭ δ v|Zp=>[a,b]|AZw=>(apos.endLine==cpos.line)=Θ|OS=>by subst hP hw hK|sD=>#[rX δ ε ζ η Z EZ]|AQA=>by intro X hP hw hK hc i Μ s σ H E I hf δ hg|z_=>if δ= ε then ζ else η|PV=>if δ ε ζ=Θ then η else θ|PY=>δ<B2|sK=>Kt F1 δ|Zs=>E2 ok δ|PZ=>bj H|Z3=>ka 1 δ|Pc=>kT AJ D|gS=>b≠a|lL=>⟨δ,vs,Z,ε,ζ⟩|Pe=>AZj Hd.adr AOe δ|ADi=>δ (t' :=LX)|Pf=>W.mg_none_of X G δ|AZx=>D9 (D9 δ)|UB=>dB k X.A|Sf=>SF te d δ|UC=>AYt+1<Ō|gT=>fb te d δ|ADj=>zn δ q|UD=>Dx a ta|cp=>AZr (KB δ≠0)|gc=>ACN δ s h (y9 d ε)|Si=>by show P8 u Z rx AIY r|An'=>δ AE F0 H0 t E|UE=>∀(X:Cx) (F0 H0:Hp),_|Pi=>AOe K eQ δ =Β Ε|sL=>fun _ _ _ δ ε=>ζ|ADk=>Hd.nthM M δ Z Z|Sj=>(Y' uD i i hN hv hd hcd)|AoA=>Ŋ δ|UF=>p.2.2|Sk=>v.2.2|cq=>G_ AD|sM=>N9 H' δ|cr=>KB n|RC=>X1[i]?|RE=>by show qr hq|sN=>.jA ks δ|AJT=>by have:=δ;omega|Z_=>(.BM xs)|sP=>Tl rh|ŵ=>cZ (lO δ ε)|RF=>ku 2 δ|RH=>L4 2 2 δ|Z'=>ADV P1|AJU=>lE X (AYS .δ) ε|Ŷ=>ADZ (MW δ) ε|RI=>t::ts|UH=>(mq h1).1|RO=>e _ _ ?_|AJV=>gd (δ) (Β ε)|sQ=>AJO D δ ε ζ|RR=>ko pN δ cC (On ε)|sR=>fun p hp=>δ|sT=>m=δ\/m=ε\/ζ|AQB=>br δ Ap []|aE=>aF (δ c) (HQ ε ζ)|AQC=>δ ε Ε (Β ζ)|ŷ=>δ C dx x|AoB=>∀z E,AP9 ->δ|À=>.ob C fs (eE fs ts f δ)|AZy=>(AJJ C Jn R_ fp)|Á=>[.AT δ]|Â=>(δ ε).AYl|Sl=>K.In h|AJW=>by show AQ δ Z ε|WN=>D4 B5|Ã=>MT e δ ε|aI=>.CB ⟨δ,ε⟩|aS=>AmW _|sd=>.AF j|se=>MW YA|WO=>Fs q|Sm=>A.handled=Ε|Ä=>(.A8 vs)|AJX=>(Cn (qg hu))|AQD=>TK δ=Β o|AJY=>NC (δ (.AT ε))|AZz=>(P_ (nomatch z))|sf=>(.frz o SG)|sg=>Rep AE F δ ε|AZ0=>gU (i:=δ) nd Z EZ|ge=>∀b o,δ ->ε ->ζ|lP=>fun a ha=>δ|AJZ=>qq (G' FE) (.seq δ)|gf=>gd δ (Β (.ε ζ))|AQE=>d9 X (q_ δ) ε|sh=>zr (GV δ ε ζ)|AQF=>aq K δ xn=Θ|lS=>δ _ _ _ _ ε|UI=>L2.Cls AE C|AoC=>wpAny_field δ ε (x:=ζ)|Sn=>x::xs|aT=>(z8 _ e)|si=>fun ds P=>(ů δ ε)|So=>d::ds|AJa=>⟨δ,H,I,Z,ε⟩|Å=>Inv zS Μ δ ε ζ|lT=>∀b u,VY δ ->ε|sj=>(nW k r)|Sr=>zd ds (AZu δ) (fun{ds P r} h hp=>ε)|AQG=>HQ (KG δ) (KG ε)|ADl=>AJF ds vs δ|AQH=>A7N δ|ADm=>AD ->δ|Ÿ=>.function|gg=>.MG|ADn=>fun hb=>δ|ADo=>(δ b hb).1|lc=>B2<=δ|UK=>by obtain⟨δ,ε,ζ,y⟩:=η|AQI=>by simp only [e1] at δ|gi=>δ=Β v|BVF=>D9 Keyword|WP=>(by show AJN)|UM=>(cV 4)|AoD=>(Ŋ δ).ε|Ź=>LX+1|aa=>FG QT δ ε|AJb=>by cases (show δ from ε)|ź=>K0 δ ob|ADp=>D7 δ v|UN=>.AF _|gm=>bj F1|WS=>P (.AF δ)|cv=>(IF v)|so=>X[i]?|cw=>.pu (.AF δ)|UO=>MO hb|Æ=>APx ER|cy=>(ADP AY)|AJc=>APz δ (KI ε)|ADq=>by rw[δ];rfl|ADr=>Ŭ δ ε AZs|sq=>aM AE F δ ε|BVG=>gU (i:=δ) (AP0 (ε:AA).ax) Z EZ|AJd=>fg δ H2 ε|sr=>AP2 tk|cz=>E6 xs us|UP=>zx (qv δ)|AoE=>⟨_,δ,Z,Z⟩|ADs=>ADc Γ δ|AQJ=>gk (HQ δ ε)|UQ=>∀(te:bO),_
|AJe=>.BoolOp .δ ε AB|gp=>AZt δ fi|UR=>∀(I:AW),_|US=>by show AQA st|AQK=>bo W.isFn (B0 (BVC δ ε))|UT=>by show Χ;exact hp|ADt=>Hd.fnO K (BVC δ ε) ζ|c8=>(fun y=>(AZv y))|UU=>Ť t ds δ|AoF=>bK (CU (δ (CU ε)))|AJf=>δ+21<Ō|Ç=>(.dK (OZ vs))|È=>(match δ with | Θ=>ε | Τ=>ζ)|ADu=>Ew (Bz δ) ε|É=>#[cO δ ε Ş]|AZ1=>zd X δ (fun s h=>ε)|AoG=>δ ->Do Hp VK|gt=>δ Ω (fun ε A_=>ζ) E|ac=>A7R δ ε Be (Ū ζ)|AoH=>δ A1 Z aX Z|AZ2=>{δ with nx:=ε,ct:=ζ,bk:=η}|AQL=>MS EA X.w X.A δ ε ζ η|BVH=>backToKw δ (keywordEach [] Be)|BVI=>(gW p (Lm δ)).Pw|AQM=>Hd.isRef (A6J K (APt δ) ε)=Θ|UV=>Lu δ mg mg P AIm w w B9 B9|gu=>fun h=>δ|WU=>by rename_i q|Ê=>P.below δ|lf=>by simp [δ,ε]|AZ3=>by simp at δ|Ë=>.js δ|ad=>(by show ADa)|WV=>by exact qh|ss=>by rw[δ,ε];exact ζ|lh=>(mq δ).2 _ ε|Ż=>FG QF δ ε|Ì=>Iq δ 0 ε|AZ4=>(AIe δ ε).ζ|WZ=>G_ V|We=>.Ψ _|AJg=>Kt δ H'|ż=>fun b u δ ε=>ζ|AQN=>HR δ b_|c9=>EJ q|Wp=>.A8 ts|Í=>.AYY δ ε AB|Ž=>(.dT Υ)|sv=>APx LV|gv=>⟨δ,_,Z,ε,ζ⟩|AJh=>dj (lX q δ)|c_=>by rw[<- δ];exact ε|dA=>ş DI V|gx=>AJH D9 δ|AJi=>D9 (AHz δ)|AZ5=>bt (.AmQ [δ] ε AB) ζ|ž=>b9 δ x ε|ADv=>fun σ H Q=>δ|W1=>(AIV hc)|W_=>Pm n p|li=>AP7 h|W'=>by obtain⟨x,H1,I1,r1,q1⟩:=δ|AJj=>p7 (MU δ ε)|AZ6=>(rL e A9l)|AoI=>⟨tg,Nw,ifs,0⟩|Î=>δ (aj ε ak)|ae=>DC p hp|AJk=>Meth K δ ε f|lj=>#[eO (Cn δ) ε ζ]|AoJ=>(MU bA bA)|dC=>fb tf ds δ|AJl=>aM K F' δ vs|dE=>Sat lt n δ ε|Ï=>fun x y P=>δ|XE=>∀(AP5) (hcd:VU x AOw:=by decide),_|AZ7=>∀x c,ADg ->δ|AQO=>AZp (δ ε ζ A6' Be)|AQP=>IsZip δ z TI TO ε|AoK=>∀C Jn R_ fp F0 H0,δ AZy F0 H0 ε ζ|lm=>δ ->AO|ln=>fun e=>δ|Ð=>by obtain⟨u,δ,ε⟩:=ζ|dL=>D9 AM|dP=>by show O_ δ ε ζ;exact η|gy=>Lp lt p δ ε=Θ|gz=>fun δ s' =>ε|Ñ=>KB i|ADw=>.AV Z|sw=>fun b=>δ|lr=>.CB x|AJm=>E2 ow δ|AQQ=>VQ δ A6N|dQ=>zK e|dS=>.Ψ x|da=>ka 3 δ|AJn=>z8 _ q|lx=>ADK AYf|sx=>(.A8 xs)|s_=>P7 δ (ε ?_)|g0=>by rw[δ];rfl|tF=>APy xs|g6=>x= .AT a|tJ=>ş κ V|ADx=>VZ δ ε a_ ζ|ſ=>Q v H'|db=>SO δ s1 ε|af=>cE o|Ò=>(bp AY 1)|ADy=>(ADL (bn p) FH)|AZ8=>fO K F H δ ε as|Ó=>(v9 st)|ag=>kq D δ (APw D2 ε ζ)|AQR=>m∉fs|dc=>MX _ D6|ah=>(hu1 hu)|AJo=>AJQ xg δ|Ô=>cM δ (A0 ε s2 ζ)|ly=>TR K F' H' δ ε ζ|ai=>bK #[dX δ]|l_=>δ σ H1 fun ε H2=>ζ|g9=>.tr δ (.eN ε ζ)|Õ=>a::dx::(zt δ)|al=>AZx Key|Ö=>∃t,u=δ|tN=>⟨δ,H,ADh,LG,ε⟩|g_=>E2 er v|hG=>AoE P9|Ø=>AoF dX δ|AoL=>qo F' H' δ|mB=>SF tf ds δ
|hU=>∀(hdb:VU x ń:=by decide)
 (he:GU FH=NB e es:=by rfl) (hpl:AP4 AB es:=by rfl),_
|am=>dO SH ADX f|Ù=>hf it BN|mE=>Bg X1 i C|tP=>A7S δ VA ε e AZz h|ar=>by rintro Μ s σ H xs us Q I r ⟨F,ds,P,sF,rs,h,k⟩|mI=>.NotIn|ϊ=>fun cs=>δ|mM=>h1.1|de=>hc.1|di=>st.2|ADz=>by obtain⟨δ,ε,ζ⟩:=h|dl=>(by grind)|Ú=>⟨_,δ⟩|ϋ=>⟨o,δ⟩|tS=>A0 h' δ ε|tT=>.AT C|AQS=>.AT B2|tj=>by show AQ δ ε ζ;show AQ η θ ι|AD_=>D7 Γ δ|ό=>(Ņ _)|dq=>.A8 _|tm=>.CB (O0 δ)|tq=>by rw[EJ δ] at h|tw=>MW X_|Û=>(bn np)|mP=>(P3 T)|dr=>(AOv δ).1|AQT=>bo fW δ|du=>zC δ 3|AoM=>HG zv|tz=>ţ v δ|dv=>by show qr h1|Ü=>fun i H=>δ|AJp=>Th u|dy=>.BM ds|d4=>.bl b|d5=>by show Eg Q|ύ=>a::bs|mS=>ş Key V|mT=>∀(t:dH),_|hV=>#[o9 (KI δ)]|d6=>XA (δ tf)|ώ=>h _ s|hW=>by show bv rx|AD'=>fun a b=>δ|t8=>AJK fW δ|AQU=>δ C4 FV ε|d_=>cZ (fU δ)|AoN=>(ADR (ADR AoJ))|Ϗ=>ZA δ ε (ZA ζ η (AQG θ ι))|eB=>r8 ts|eD=>zw Fe|eI=>bR δ (aF (ε c) (HQ ζ η))|ma=>MX q q|hZ=>fun x y H Q=>δ|t9=>ZE te (WB δ ε)|md=>ADj u|AJq=>#[CN A9 δ ε]|eJ=>PE X e te|me=>AJV δ (.ok ε ζ)|AQV=>(AQB H2)|t_=>pW (j:=δ) Z|Ý=>cB fZ δ (cC (On ε))|mf=>(match δ with | Ε=>Ε | ε=>ζ | η=>θ)|Þ=>GV neg (! δ) ε|eK=>pQ P w H h|uA=>by show E7 AP' rx|AEH=>ADQ qe δ bA|h_=>Rep K F' d v|ß=>AoB (zi δ ε (An' ζ))|à=>Gr F H F' H'|mh=>(tI m 6)|á=>δ Μ s1 σ H1 _ I1 q1|ϐ=>∀z,zi δ ε ζ|uB=>∀k<14,δ|AoO=>Do Hp VK|eL=>fR gY δ (KG ε)|uC=>(Ń EA X.w)|AEI=>MS EA X.w A δ Q E s|AoP=>AQC qS ū δ|â=>(.A8f elt [AoI] sc AB)|BVJ=>upd δ DZ (.C4 kr)|ϑ=>#[gU (i:=δ) nd Z EZ]|AZ9=>(Š F H σ Γ)|AoQ=>ACe M A δ ε E s|AZ_=>GN (Ų Ip Z δ.1 ε.2 bA)|AEJ=>δ=YO|iA=>nomatch e|AoR=>by obtain⟨_,Z,_,δ⟩:=ε|AZ'=>AO9 δ|iE=>by kernel_rfl|AJr=>by cases δ|uS=>CO.2.2|AoS=>A6m δ =Β ε|iF=>⟨AQH δ,ε,ζ⟩|ã=>AHz (δ)|iN=>Β []|AEM=>N9 (upd H δ ε) ζ|iO=>GI XV|AEO=>BQ δ F6 ε ζ η|mi=>(B2+1)|ϒ=>GS δ o|iP=>GT g|iS=>i<B5|ϓ=>by rw[Fs δ] at h|ml=>.Ψ z|iX=>Db g|AEP=>(Lm AH4)|AoT=>(IF ADU)|mm=>VV t|mn=>Ļ Ζ|ia=>zC δ 4|AEQ=>ACn H δ ε|AEU=>ţ u δ|ä=>(.A8 ds)|ib=>fun i hi=>δ|ua=>zj d|AEV=>k _ _ sA δ|ub=>HK x u|mo=>Tk o_ δ|ic=>.eN _ _|mr=>b∈as|ϔ=>YA δ=Β o|AaA=>(AJG f)|å=>ACw i _ δ|æ=>(δ.2.1).AmS|AEW=>ki (APt δ) ε (fh ζ)|ç=>∀b u,δ ->ε ->ζ|ie=>xc hi|AJs=>QU (B1 δ ε)|ϕ=>qq (G' MH) (.seq δ)|AJt=>AZo (K2 δ) ε|AJu=>Sem AD|mv=>Ű (tK K δ)|AEX=>fun i h=>δ|AEZ=>gF AJX δ ε EC|ϖ=>BVE Ř|ii=>fun i j=> .AF δ|AQW=>dU δ ID Z ε|ue=>Nat.not_lt.mp Ŧ|ϗ=>(hn a ha)|AEa=>(wM bx)|AJv=>.CB (.AV δ)|ij=>AJT hr.units|mw=>Ζ ->Ζ ->AO|ik=>by show AJW t δ|Ϙ=>t σ H Q|è=>AJa ST δ|im=>by show AQI h|AJw=>AQJ δ GW|AQX=>AoH JH|AJx=>f_ b δ ε|ui=>AZ4 δ ε flatten|uj=>AZ7 (c≠δ)|io=>∀(hc:HV),_|AJy=>aM AE δ ε vs|mx=>AoL A4|ip=>by show ACe _ _ δ _ _ s|AEb=>∀{K:Φ},_|é=>Dx b tb|ê=>qV i 0|ë=>K_ (gR δ Ů ε) ζ|iq=>by show P8 δ ε ζ (HD (i:=η) (m:=θ)) BF|ir=>aB AE C f|AQY=>Binds K fd ps []|my=>EP X Μ σ Q δ ε|ϙ=>Iz led δ|AQZ=>BI ->BI ->δ|i0=>HK x v|uk=>jy xs ys|AoU=>jh ADN P w K mg B9 N D_ δ f cdv A CF s H E|AaB=>z5 (AoC δ ε ζ) Z|BVK=>pK 2 (dI δ (dI (IG ε) pJ))|AJz=>fun A4 =>δ (Γ'.set i C3)|AJ0=>δ f ts vs bs (V' (k b ε)) h|ul=>by obtain⟨hc,he⟩:=wN h|m4=>fun F0 H0=>(Fu δ)|AaC=>.ins C dx (δ ε)|AQa=>k _ Ω F1 H1 _ R1 s1 δ ε|m_=>ACe _ _ δ _ _ _|AEc=>Ez δ I ε ζ S n ep|AQb=>rY knd kf δ o ks es ep t
|AaD=>ms.Pairwise δ|ì=>fun q=>δ|AEd=>((Lm δ),ε)|í=>Ν.1|ut=>h1.2|Ϛ=>by obtain⟨δ,e⟩:=ε|ϛ=>Bav<=δ|nE=>by obtain⟨δ,ε,ζ,Z,η⟩:=θ|AEe=>-(2^62)|uu=>by rw[δ] at e⊢|AJ1=>jS δ|î=>by show EL δ;exact ε|nI=>D9 AO|nK=>D9 κ|ï=>(B0 f)|nL=>v.2.1|nN=>fR Ad δ ε|uv=>δ (i:=i)|u8=>KB 1|nS=>GI D|u_=>F' b|nX=>.kt _|Ϝ=>fun i=>δ|ng=>GT E|AaE=>δ i D'|AEf=>MV Pl|ϝ=>EB (Tm δ ε)|nh=>(bn AB)|AoV=>(A7Y δ).1|nk=>.A8 ys|AJ2=>P4 H'|nr=>Db w|AEg=>Db CO|nv=>Fu n.elim|Ϟ=>P (.bl δ)|ð=>dj hb|nw=>zC δ 1|ñ=>ADK Η|ny=>ADK AA|nz=>(δ ε).Kk ζ|AQc=>Iy δ BN|AEh=>(q_ id)|n_=>.jA _ _|vE=>Y3 H0|AEi=>KL CO|AQd=>Y_ AW0 δ ε|oB=>XA (δ te)|oP=>WA cD δ ε|AQe=>cM (zg δ) ε|AQf=>lE X (A7O .δ) ε|AEj=>fun vs H Q=>δ|ò=>AZq δ ε ζ η θ D6|AoW=>(AO0 (zP _))|oQ=>gI δ ε k6|ó=>(.ow ds)|ϟ=>AJR δ ak|BVL=>x≠ "__name__"|AEk=>z6 (δ (ε ?_))|ô=>nG K H a xs|AJ3=>(rA EA X.w)|AaF=>by rw[δ,EJ AHx]|AJ4=>EE (Ba3 δ ε)|AoX=>X.fn x=Θ|oa=>AJU δ (AJL ε)|og=>(.pu d)|om=>δ Z Z ε ζ|AEl=>.eN δ (ε .SE)|AoY=>(.tr OC t)|oo=>AoG AL|AQg=>∀δ,bu ε ->OE ζ η|AoZ=>(EP X Μ σ Q)|AJ5=>{s with toks:=δ}|AEm=>b1++ (δ++b2)|vF=>PI X tg δ ε|oq=>Ord lt n|õ=>gR s o a|AQh=>{cls:= G' FE,UX:=δ,ef:= ε,az:= ζ}|Aoa=>AmT (t' :=AIb) δ|AEn=>(AoP ADU)|AQi=>(BVJ H1)|vS=>AoQ δ Q|AaG=>∃m',m' <m/\δ|ö=>PE X a ta|AEo=>ų δ ps (ε K sp)|Ϡ=>AZ8 ts vs|Aob=>⟨F1,Ω,_,R1,h1,δ⟩|AaH=>∀x,BbC δ Be x=IC x|vT=>(.Ψ (qw k))|ϡ=>∀(bb:AZw:=by rfl),_|Ϣ=>by show DO t Z δ ε|ox=>bB (cZ (δ ε ζ))|AQj=>by show AZl b;exact⟨δ,ε,ζ⟩|oy=>by show ND b;exact⟨δ,ε,ζ⟩|oz=>(lo+hi)/2|Aoc=>∃o',K0 δ o'|AJ6=>by obtain⟨v,_,Z,δ,Z⟩:=ε|AaI=>.ins C dx δ|AQk=>(.Ak _ _)|AEp=>G2 ->Do (AJM δ) XW|AQl=>A7R e δ Be (Ū e)|BVM=>AQO AYV FF (Β (.δ ε ζ IU))|o0=>⟨AmV X G (A7N δ),ε⟩|va=>Ļ (AHz AD)|ϣ=>qq (G' i6) (.UX #[])|Ϥ=>TR K F H t v as|AaJ=>tL δ d es ep|o4=>AJf (ACj (AZn δ (bJ ε) cdv)).units|Aod=>δ C Jn R_ fp Aa Ab AoM lF|AJ7=>AYx δ|ø=>δ=B5|vb=>fun b=>δ|vc=>yb.1|ve=>ya.2|AaK=>by rw[HL] at δ|ϥ=>g.2.2|Ϧ=>X_ δ=Β ε|AEq=>δ B2=Β ε|vi=>⟨?_,δ⟩|ϧ=>(B0 I)|Aoe=>(APa δ).ε|AJ8=>H1 δ=Ε|vj=>by cases (hs)|Ϩ=>pd (δ ε) ζ|vk=>G_ Rt|vn=>.AT c|AEr=>(KG " ")|vt=>GI AJ|vv=>.exc _|AQm=>D4 xp|ù=>.AV ⟨δ,ε⟩|AEs=>HQ δ A5|vx=>aq K C δ|vy=>.AF k|ϩ=>AYP i δ|vz=>EB (ADo δ)|AJ9=>HR δ To|v4=>by simp only [e] at h2|Ϫ=>PE X (.δ ε ζ AB) η|AJ_=>bo rO δ|v6=>∀[XA tn],_|ϫ=>VV Z|AaL=>VW h|v_=>ADK V|wE=>E8 g|wP=>VY H|Aof=>VY YA|AQn=>AO7 δ ε ζ ?_ (η _)|ú=>by show E7 (δ=ε) BG|Ϭ=>APx Ki|ϭ=>R1.g.seq hq|wS=>d::r|wT=>by show HZ Z|AQo=>#[o9 (ao δ ε)]|AQp=>(zg ha)|we=>id hit|Ϯ=>(.frz o u)|wf=>Ts δ A5|wl=>#[qv 2]|AQq=>d9 X (P3 δ) ε|AaM=>SU #[Ag δ (dM ε)]|ϯ=>(bp A5 1)|wm=>(rq AY)|AQr=>fun σ2 H2=>δ|AJ'=>.Compare δ [ε] ζ AB|û=>x= .Ψ δ|AQs=>kq Dn δ (APw D2 ε ζ)|ϰ=>AZq δ ε ζ η θ Ε|ϱ=>ADd aH δ|AEt=>AP8 Ki δ|AKB=>BVE q|ü=>Do T D|ý=>Do T XV|AEu=>(k_ C3)|AEv=>(n,k)|AEw=>lI j4|wn=>z_ δ ε (Β ζ) η|AaN=>sK F2|þ=>fun ds P _=>δ|wo=>cW 1 1 (δ c)|wq=>L4 1 1 δ|wt=>.AYY δ ε IU|ϲ=>by show AQ AH δ (pk ε)|wv=>frs MM|ww=>dB δ (ACj (AZn ε (bJ ζ) cdv))|ÿ=>[MI,TC]|Aog=>D7 ys y|AaO=>AJh hn|AaP=>AJi ET|AQt=>sIx N1 0 lo|AQu=>AJj δ bx|wx=>fun v s1 δ=>ε|AaQ=>(zK e)|AQv=>AQQ a|AaR=>LZ σ H|AKC=>by rw[e2] at he
|AaS=>fun _ _ _ δ=>ε|AaT=>by rw[APk,<- δ,AC_]|AQw=>∀a∈as,δ|AKD=>km F1 H1 Ω|wy=>(AoU kz)|w4=>by rintro z E cx Μ s σ H Q I ⟨F,Γ,P,R,h,kk⟩|AaU=>k9 hb u (ADe δ)|w8=>f::fs|AaV=>δ eQ mg|AEx=>Amu δ ε ζ (η _ _) θ ι|AaW=>sE c0 δ=Θ|ϳ=>wg K H δ (P3 ε)|Aoh=>fun h' eb=>(NE δ)|AaX=>ACn δ ε (.A8 vs)|w9=>⟨h,g,d,t,os⟩|Aoi=>fun b o e n δ hx=> ?_|w_=>∀F0 H0,δ|Ā=>by subst r1 r2|xA=>Ix C δ j ε|ϴ=>δ K c0 (C8 Q) ε y8|xB=>AZm Sz δ 9 ε|xC=>AZm RU δ 7 ε|xD=>AZm RY δ 8 ε|xE=>AZm S4 δ 1 ε|xF=>kX δ c ε (Ţ ζ) η θ|xI=>kX δ c ε (Ţ ζ)|AKE=>δ X vs H Q|ϵ=>K9 ρ δ D E|AEy=>⟨r_,δ,ε,re e (by rw[e] at n;cases n)⟩|AQx=>AZ2 D δ ε LZ|AQy=>Yf bnd δ X1 ε X2 ζ|xL=>AZ_ bD bD|Ϸ=>JC I hg hm δ|Aoj=>upd δ kr (.ins C DZ ε)|ϸ=>dO fs ts f=Β δ|AaY=>Le δ (Alp ε D')|xN=>δ (ε z E cx)|AEz=>by show AoR k2 b;exact⟨δ,ε,ζ⟩|xS=>ff Sz ES ES|AKF=>fw H A7 δ ε (IB ζ _ η)|Aok=>pU X Μ H b|BVN=>⟨⟨_,_,_,Z⟩,_,_,_,Z,δ⟩|AQz=>by obtain⟨hc,he⟩:=wN h;show ZH;exact δ|Ϲ=>(Fg (tI m 6))|AaZ=>∀F Γ P,AZ9 ->(t Γ P E) ->(δ) ->ε|ā=>cc.2|Ă=>by obtain⟨δ,w⟩:=ε|ă=>by obtain⟨δ,e1⟩:=ε|Ą=>by obtain⟨o,δ,ε⟩:=ζ|AE_=>by obtain⟨δ,ε,p⟩:=ζ|ą=>by obtain⟨δ,ε,ζ,η,Z,θ⟩:=ι|Ϻ=>by split at e'|Aaa=>AY8 δ|AKG=>by grind|Ć=>D9 OY|ć=>D9 P2|AQ0=>i3 δ=Β ε|AE'=>[DZ]|ϻ=>(B0 B2)|AFG=>by show C6 δ ε;refine ζ|Ĉ=>APs h|AQ1=>Do δ AN|AKH=>FG QN δ ε|ĉ=>by cases (e2)|Ċ=>δ (i:=3)|AFH=>KB m|Aab=>(zB _)|AAG=>(AmW _)|ċ=>.pu _|Č=>.ptr _|č=>Kt δ H|Aac=>.AV hb|AAH=>GS F δ|AAL=>MT δ (Β ε) ζ|Ď=>.CB (Lm δ)|ď=>Cl Ν|AFI=>MV FE|AQ2=>(ZN::es)|AQ3=>O8 _ _|Đ=>y7 3|đ=>HR A6m δ|AQ4=>K_ δ Z|Aol=>(hnc b hb)|Ē=>An8 δ (C8 Q) ε|AFJ=>(rA P w)|AQ5=>VX (AoA δ)|ē=>by show qr q|AQ6=>b≠U_|AKI=>#[δ ε ID Z (KI ζ)]|BVO=>by simp only [δ];omega|AKJ=>dj (lX (δ b u e) ε)|Ĕ=>ko δ ε cV ζ|ĕ=>OG x|AQ7=>δ (HU z)|Ė=>LI g|ė=>ADV AYE|AAP=>Loc AmA x|AAQ=>PF AQS δ ε|Ę=>Qb ?_|AKK=>δ (DA h)|AFK=>zo δ AoZ|AFL=>qj ds|ę=>ft z7|AKL=>δ AK=Β BS|Aad=>a::dx::(b1++b2)|Ě=>Cl δ<=1000|AQ8=>Pv (i+1)|AFM=>[.Ψ row]|AAR=>.AF 0 0|AQ9=>fun Γ P _=>δ|ě=>sN ts|Aae=>BP K mg δ (.AF ε)|AQ_=>ŷ (wj AE F' δ H')|Ĝ=>AQD S|AQ'=>(jR Γ)|Aaf=>BVI ","|ĝ=>qv 0|Aag=>by rw[δ] at q;cases q|AKM=>AZ5 δ FF ε|AFN=>AJl ds|AFO=>(uG ts)|Ğ=>(g i j)|BVP=>δ K F0 H0 t E σ H Q|Aah=>(match δ,ε with | ζ,η=>θ | _,_=>D6)|Aom=>(uR a Ex)|Aai=>z6 (wpAny_field δ ε ζ ?_)|AFP=>Tk iy k|AKN=>br H l δ|AKO=>(KE z AP6)|ğ=>by show ť t' ry|Ġ=>∀(K:Φ)(C:Η),_|AFQ=>(gD OC H)|AFR=>(cU qT GW)|ġ=>⟨f,fd,δ,M,B7 (by show E4;exact Z)⟩|Aaj=>(δ ε k).Ŀ|Aak=>(fs++ [f])|Ģ=>.ob C fs ts|AFS=>Aoa sP|AAS=>AIZ (Ń δ w) ε (.kA ζ η) θ ι|Aon=>(.frz oe (wW a C))|ģ=>by rw[yY] at hbs|AFT=>MY z AP6|ARA=>(vs++ [v])|Ĥ=>kX δ c ε (Ţ ζ) η θ ι μ ν|ĥ=>by show IJ v us r1 r2 δ|AFU=>jl t δ it l i|AFV=>bB (aF (δ c) (HQ ε ζ))|Ħ=>(match δ with | Β ε=>ζ | Ε=>η)|ARB=>(ks,xs)|BVQ=>AoX\/AQN A6t|AFW=>(MJ st)|BVR=>by rw[δ] at z;cases z|ħ=>Ļ (BI×AD)|AAT=>(CL::CF)|AFX=>ş DI (Η×AD)|ARD=>⟨F,Γ,_,S,q,δ⟩|Ĩ=>∀(hn:BVL :=by decide),_|ĩ=>by show OF δ z z ε ζ|Aoo=>(Jf k).Pw|AFY=>OD ρ δ P E|BVS=>([]:An).AYl|Ī=>km F H Γ|ARF=>KV Υ vs|AAV=>(BK AIz FV σ)|ī=>bV P w H h a δ|Ĭ=>(QY yX Mb (cO A9 bx) Ş)|Aal=>I1.fpOk (zP _) AoW|ĭ=>∀(w:AZ)(os:AH0),_
|BVT=>wpAny_callSpecial?_slot (Fm:=EF δ)|AFZ=>(AJJ ŏ s3 AQV fp)|Aam=>V_ (δ S) (ε ζ O.dat O.fit ?_)|Į=>by obtain⟨v,_,Z,⟨p,vs,Z,hq,rs⟩,Z⟩:=rs|AFa=>V_ (APJ _ _ _) (ACq δ ε BN ?_)|Aan=>∀(Μ:fB) (s:AC) (σ:St) (H:Hp) (δ:ε),AW ->ζ ->zo η θ|AFb=>B5=δ|Aao=>δ==AnP|AKP=>(δ b hb).2|AAX=>by obtain⟨δ,p⟩:=ε|ARG=>show δ from Z|AFc=>by obtain⟨δ,ε,Z,ζ,_⟩:=η|AKQ=>AIe δ ε|ARH=>by simpa [δ] using ε|AAZ=>by cases e|AAa=>by rename_i δ;exact ε|AAb=>by rw[δ] at h;exact ε|AAc=>by cases rx;exact δ|BVU=>(by size_fits)|ARI=>v.scannable=Θ|AAd=>⟨δ,ε,Z⟩|AFd=>fun δ ε=> ?_|AFe=>(B0 Ap)|AFf=>n.2.1|ARJ=>K0 H' δ|AAe=>(M' 2)|AFg=>.AT b|AAf=>by show AQ δ ε hg|AKR=>KB cn|Aap=>bg s'|AAg=>.AV z|AAh=>(KE _ D6)|AAi=>.CB (.AV δ)|AFh=>A7Q _|AKS=>HQ A5 δ|AFi=>E2 AF δ|AAj=>Cl (qS ū δ Ε)|AFj=>δ i eW|AAk=>EV δ ?_|AAl=>MV aw|AKT=>MV XY|AAm=>by rw[e1] at h|AFk=>by rw[Ŵ δ];exact ε|ARK=>EJ hb|AAn=>by rw[Fs δ] at e|AAo=>.A8 ds|AAp=>P (.Ψ δ)|AKU=>zI It|AFl=>(qw k)|AKV=>APx XI|AAq=>pk hq|Aaq=>OE B2 δ|AAr=>.vH _ _|AAs=>X_ δ=Β o|AFm=>Y3 F'|AKW=>ŧ (AoA δ) ε|AKX=>ds[i]|AAt=>ps[i]|AFn=>z7 ?_|AKY=>AnK δ ?_|AAu=>QQ Unit|AAv=>WA fZ δ ε|AKZ=>AJI [a]|AAw=>vK ts|AAx=>re q δ|Aar=>SL δ (.C4 ε)|AAy=>#[qv 1]|AKa=>SF ta d δ|ARL=>fb ta d δ|AAz=>Me v δ|AKb=>AP2 t'|AFo=>Q (.bl δ) H|AFp=>WE δ A1 ε|AFq=>PH δ ε Z|AKc=>Around.under_plainId δ _|AKd=>E6 xs AH|AA_=>rR K C|ARN=>(ADL (rL o m) FH)|ARO=>ű (rL o δ) ε|AFr=>k8 dj δ ε|AFs=>(AYO (zP _))|Aas=>AP_ δ [.yB ε ζ [] η]|AA'=>(r9 A1)|ABG=>AJP P1|Aat=>fun x vs H Q=>δ|ARP=>AOu Ŧ|ABH=>Κ ((K2 δ)=ε)|AKe=>sC X|Aop=>fun i=>δ i eW|AKf=>∀cs,P d δ|ARQ=>by rw[δ (DA hi),ε] at e|ABJ=>lL p δ ε|ABK=>ur K H a xs|Aoq=>Pp (fk)|ABL=>D7 σ o|ARR=>Lv d δ (Ã ε ζ)|Aor=>BP K mg δ (.BM ε)|ARS=>(À t')|ABM=>(AZk G1 δ).ε (QP ζ)|ABN=>AJY AIW δ|ART=>AJZ BVS|AFt=>si [IL] δ|ABO=>ADm κ|ABP=>by rw[δ] at ε;cases ζ;exact η|AFu=>AoD δ LY|AKg=>XB.ok (t:=δ) ε ζ|AFv=>AJc δ A9|ABQ=>.eN _ ts|ABR=>ADs a|ABS=>È b δ ε|ABT=>AZ1 δ (gc ε ζ)|AKh=>c::bs|Aau=>∀u,AJp ->δ|AKi=>YU i _ e0|ABU=>ADv (BVP δ)|ARU=>pA a b=Θ|AKj=>(APM gr)|ARV=>W.plainGet K δ ε=Θ|Aos=>(VO Rl p2)|ARW=>AJH Rs β
|ABV=>by
 ·exact δ
 ·exact ε
 ·exact ζ
 ·exact η
|ABW=>Pv i σ H|ARX=>Un δ ε H ζ A7 η|ABX=>∀{K:Φ}{F H:Hp},_|ABY=>k' ::ks|ARZ=>TK l=Β δ|ABZ=>⟨_,Z,δ,ε,?_⟩|AKk=>Al' s'.gens|ABa=>AmK apos.atName|ABb=>(frs MM)|Aav=>(AYS op)|Aaw=>Q v H2|ARa=>Da (kl δ) (kl ε) ζ|ABc=>by have e' :sh δ ε ζ:=e
|Aot=>by
 show E7 (b=DZ) cK
 exact δ
|AFw=>AQa δ h1|ABd=>AQb led|AFx=>(n6 w)|ABe=>(Fp x)|ABf=>Dx o te|ABg=>AoV nd|ARb=>by show OF (MO δ) Z ε ζ η|AFy=>E6 vs us|AFz=>gL QN tn|ABh=>MS BA w A δ Q E ε|AF_=>[MI,XL,TC]|ARc=>Aoc ACp|Aax=>(AaI fs)|ABi=>(Di Τ)|ABj=>jn δ CL|AKl=>jp δ (ε) ζ|ARd=>Am' (kH δ)|BVV=>Iq vs δ eW|ABk=>∀Γ,KM ->δ|ARe=>AIa (t' :=tk)|Aay=>fun _ _ _ _ _ st h=>δ|Aaz=>y5 δ s1 h1 fun ε A_ X2 s2 h2=>ζ|BVW=>BS= SI ->∃c,δ AK=Β c|ARf=>fun i h h' st k=>δ|AKm=>Aoi hb|AF'=>∀(hs:AaH Nw:=by intro _;rfl),_|ABl=>BVN (Sg δ fun ε=>ζ)|AKn=>PE X b tb|AGA=>BVO A9x|AKo=>bo Alh (B0 f)|Aa0=>x= .AF i|ARg=>(F b).Ŀ|ABm=>∀{x D_:Ξ},_|ARh=>f' (δ ε BN o e)|AKp=>WF (X.pn++Μ) (AK≠δ)|Aou=>(Of δ ε is).B_|ABn=>fun i h st b hb=>δ|Aov=>BVT A8n|AKq=>fun s3 I3=>δ|ABo=>by subst e1 e2|AKr=>[k1,k2]|ABp=>δ nd Z Z|Aow=>δ (ACm ε (A0 r s' hq))|ARi=>lN (δ ε) (Y2 ζ ?_)|ARj=>o.cls= .type δ|ABq=>by show WH (! δ);show AaF (ne ε).2;refine ζ|ABr=>Ix ES δ 9 ε|ABs=>⟨o,δ,fun v z=>(BVR ε)⟩|AGB=>∀(K:Φ) (F0 H0:Hp),_|ABt=>(l+r)/2|BVX=>(hi _ _ _ q)|AGC=>HB X1 j|AKs=>zQ Ŧ Ŧ|Aa1=>IE δ 3 [AII,Po] ε|ABu=>m7 X.N sc C4 FV Be N'|AKt=>fun t' Cx=>∀cs,E δ Cx.bare|ABv=>Xm.x sp δ ds|BVY=>(BVK (IG 0) 1)|Aox=>Inv X Μ CS H' s'|ABw=>KT H Υ xs|Aa2=>sIx N1 N1 hi|ABx=>Fw Z (qR (BVG 0 δ) (qR (BVG 1 ε) Fv))|ABy=>AQX (Tm δ (Q9 ε.2))|Aa3=>#[Ag (dM δ) ε]|Aoy=>fun k' y=>if k' =k then δ else y|Aoz=>cZ (Ae δ (uK GW) uJ)|ABz=>KeyKind BA w κ|AB_=>C' =C/\AQR/\δ|Aa4=>∀(i:Ζ) x y,ZZ ->Aog ->δ|AB'=>ņ [ov] (A7P ov m δ)|Aa5=>{nx:=ky,rt:=ky,rT:=Dc δ}|ACG=>by intro Μ s σ H x y v u Q I rx ry h|BVZ=>δ (qS ū AoT Ε)|AGD=>Binds AE fd ps []|AGF=>∀{X:Cx}{F0 H0:Hp},_|ACH=>(BVH G1).all (QP (x.1).Ŀ)|Ao0=>fun Μ s σ H δ I q=>ε|ACI=>Κ (Cl δ+ Cl ([]:BVF)+ (GV ([]:BVF).Amr 0 1)<ε)|BVa=>⟨F1,Ω,δ,R1,s1,r1,h1⟩|ACJ=>callWith AB f AI0 (AZk AB δ) (BVH AB)|Aa6=>cM (ha z E cx AB Μ δ σ ε (fun vs ζ=>η) θ ι) μ|BVb=>∀{f:Η}{cdv:AD}{A:B6}{CF:I_}{s:AC},_|AGG=>(δ).AYl|AKu=>fun hz=>δ|AGH=>by rw[HL,δ]|AGI=>¬S b|AGJ=>by obtain⟨_,_,_,_,o,_,_,δ⟩:=ε|AKv=>δ=Β EX|AGK=>D9 L3.D|BVc=>by obtain⟨F,Γ,P,S,q,k⟩:=δ;exact ε|AGL=>∀(_:DV),_|Aa7=>(B0 it)|AGM=>m.2.1|AGN=>B2+1|AGO=>by unfold δ;rw[ε]|AGP=>G_ Rm|AGQ=>N9 H1 δ|AKw=>D7 ws δ|ARk=>KB k|ARl=>KB p6|AGR=>ao δ (ao ε (MU ζ η))|ARm=>GI AL|AGS=>bg PD|AKx=>D4 MR|AGT=>D4 (Cl δ)|ARn=>Dx (Í δ ε) ζ|AGU=>MT so δ ε|AGV=>As Pb|AKy=>fun h=>δ|AGW=>ao δ (MU ε ζ)|AGX=>(N_ h)|AGY=>Cl (δ++ [])|AKz=>i<YO|AGZ=>i<Kx|AK0=>MV i8|AGa=>by rw[e2] at h|AGb=>_::L5|AK1=>.Ψ a|BVd=>A7n _ _|ARo=>y7 n|Ao1=>y7 YO|ARp=>kR A9 δ|ARq=>by rw[dj (DB δ)];exact ε|AGc=>DB ?_|AGd=>DB (δ (z ▸ ε))|AGe=>EJ AHx|AK2=>(IF 1)|AGf=>y_ s' δ|AGg=>⟨f,fd,δ,hm,CM,B7 (by show NJ;exact Z)⟩|AK3=>Ļ GenState|AK4=>ADK AD|AK5=>HG us|AGh=>zI AO|ARr=>fun z E cx=>Od δ ε|AGi=>Th SG|AGj=>by show EL BN|AGk=>hS b hb|AGl=>E3 δ Z|AGm=>aj δ (aj ε (HQ ζ η))|AGn=>(.bl Τ)|AGo=>OE l δ|AGp=>Y3 H|AGq=>Y3 F|AK6=>fe Nj δ|Ao2=>(δ==eW)=Θ|AGr=>ku 3 δ|AGs=>L4 2 3 δ|ARs=>Mc P9|AGt=>Ts δ AY|AGu=>Dy ts|AGv=>ACi+1<Ō|AGw=>δ (ε (aj ζ ak))|Ao3=>plainId_quiet δ _|AK7=>(j - 1)|AGx=>wz K C|AGy=>∀(i:Ζ),_|AGz=>∀(m:Ζ),_|ARt=>ADb Ŋ δ|AG0=>(Ű iL)|AG1=>cS ?_
|AG2=>P d Γ|AK8=>gF Hc δ ε EC|AG3=>ADe AaO|Aa8=>MX _ SW|AK9=>AP_ δ [a]|Ao4=>p5 δ 0 lo|Ao5=>(Bbg hu)|AG4=>a::dx::bs|AG5=>AJS XU δ|ARu=>(Im bx)|AG6=>∃u,δ/\LD u|ARv=>(lo+i)|ARw=>.CB (.CB δ)|AG7=>sM s'|AG8=>D7 σ Ů|AG9=>AQE δ (tH AE ε)|ARx=>(uL Γ)|AK_=>AQL δ ε ej ζ|ARy=>BVI "-"|AK'=>A7f (B0 δ) ε|Ao6=>(Ê A2)|ALA=>Ż δ (Ad ε t)|Ao7=>(ACZ δ ε).LY|AG_=>z6 (jp δ ε ζ)|AG'=>qW ks k|AHA=>YU i _ e|ALB=>ž ta δ|ALC=>(EM).AmS|AHB=>[AOr,AIJ]|Ao8=>GS H' u|AHC=>E2 pu d|AHD=>aB K LV HI|AHE=>(iL (cV 1))|AHF=>K.In A7|ARz=>fun a b=>δ|AHG=>cZ (δ j9 (aF (ε c) (HQ ζ η)))|ALD=>AoS δ (P3 ε)|Aa9=>Ni (i:=1)|AHI=>AIT p hp|Aa_=>(ű AZ6 [])|Aa'=>AZP k v=Θ|AbA=>AaD (AD' δ)|AR0=>(c::bs)|AR1=>PE X o td|AHJ=>.AU r t|AHK=>AQf δ (AJL ε)|AbB=>MZ sb b hb e|Ao9=>AaG (W IM m' δ ε)|BVe=>Aob (fun δ A_ F2 H2 v2 R2 s2 r2 h2=>ε)|AHL=>by show AaK hl|AbC=>ş κ AD|BVf=>cB j7 δ (cB cD A5 GW)|AHM=>AaW row|ALE=>(b,o)|AbD=>x_ (vs:= δ)|AHN=>i≠j|AHO=>fN δ X1|Ao_=>Al0 C δ|AHP=>(cC (.bl Τ))|AbE=>(MU A1 A9)|ALG=>GV δ _ _|AHQ=>B3 #[QM]|ALH=>ADb (δ t1 t2 A7 l1) l2|AHR=>ų δ ε (lH K (ζ c))|AR2=>(Kt F H)|ALJ=>tE δ a y o|AHS=>sX (jh ADN P w K mg B9 δ ε (bJ ζ) f cdv A CF s H E) F0 H1 (v9 η) (θ K c)|Ao'=>AaY (Aoo δ D') i|ALK=>zd e δ (DC d hd)|ALN=>kj δ (CQ c) (fm (KG ε))|AHT=>by obtain⟨_,_,_,Z⟩:=DR hl|AHU=>∀i∈is,δ|AHV=>by rw[AZB,AZB] at δ|AHW=>∀(K:Φ),_|AHX=>∀(w:AZ),_|AR3=>Bv xs i|AbF=>dM (AJq δ wL)|AR4=>fun i j=> .bl (AH5 (δ))|AbG=>δ (cM ε (WG ζ)) hs|AR5=>s3.seq (s2.seq hq)|AbH=>δ fun kv=>(Κ (kv.1=k))|AHY=>kX δ c ε (Ţ ζ) η θ ι|AHZ=>∀(hd:VU x ń:=by decide),_|ApA=>LZ (Y_ yz δ ε)|AR6=>BVV 2|ALO=>qq (G' FE) (.seq Kj n)|ApB=>BVW AOt|AHa=>by have y:=Gq h1|ApC=>km F' H' A4|AbI=>QK e ds vs δ|ALP=>δ K sp vs H Q E|AbJ=>BVZ xU|AHb=>AYD κ|ApD=>rP AmA δ|AbK=>δ EA X.w|AHc=>(Rg cx)|ALQ=>AI_ FE δ ε|AHd=>eqB (DP δ (Lm ε)) (ζ η)=Θ|AHe=>(A6a CT).δ|AHf=>aF (δ c) (aj ε ζ)|AHg=>(KE q q)|AHh=>rD II (δ ε)|AbL=>Dx ADy (δ ε t)|AbM=>(BI×Ξ×AA)|ALR=>(An3 i Fd)|ALS=>∀(bb:AZw:=by rfl),_|AR7=>δ (ε) (fun c ζ=>η) fun c xs θ=>ι|ALU=>(ze p7 bA)|AHi=>dN 2 δ ε BVY|ApE=>dB k (ACj (AZn D_ δ cdv))|BVg=>(AYX δ Be).B_|ALV=>[(Τ,EW δ)]|ALW=>pk (qB hq)|ApF=>qR (AZ0 δ) (qR (AZ0 ε) Fv)|AHj=>by exact fun A_ s2=>δ|AR8=>∀{P:A6}{w:AZ}{K:Φ}{tg:AG},_|AHk=>(Aoj AQi [])|ALX=>AaZ δ (ε t E σ H Q)|AHl=>(ha AB Μ s σ H _ I h)|AHm=>AD ->AD ->AJu|AHn=>(zA).mp δ|AHo=>wpAny_passesOwn hp (cM δ ε)|BVh=>∃F2 A_,km F2 H A_/\AaN/\δ|BVi=>relabel HH CL|BVj=>AYj (δ I hg ε ?_ hdb)|AHp=>(aM K F ds)|AbN=>AYm _ δ (Bbr (AY5 ε _))|AHq=>AZp (AYV e δ A6' Be)|AbO=>(.AOy y3 x1 pt)|AHr=>δ K c (uQ a Q) (Ŝ ε AoY ds) Aom|AHs=>∀(P:A6) (w:AZ) (K:Φ),_|AHt=>⟨δ,ε,ζ,k.rt,k.rf,k.rT,k.rm⟩|AbP=>by show P8 r hr hp Uz δ|BVk=>∀{K:Φ}{c:DV}{a:Η}{bs:BH},_|AHu=>by show bz a vs bs Z ea hkl r r|AHv=>∀(BVb){H H1:Hp}{E:XK}{F0:Hp},_|ApG=>[(On EU),(On OU),(On XN),(On AW6),(On AW7),(On Alf)]|AHw=>by obtain⟨oc,od,kV,doc,pm,an,cdv,ct,osl,Z,δ⟩:=ε|ALY=>ň δ|ALZ=>AZY δ|ALa=>fun hm=>δ|ALb=>Ν.2|AbQ=>{δ with az:=ε}|ALc=>by rw[HL]|ALd=>by obtain⟨δ,t⟩:=ε|ALe=>by simpa using At|ALf=>δ<scanBound|ALg=>by obtain⟨_,δ,y⟩:=ε
|ALh=>(match δ with | ε=>ζ | η=>θ | ι=>μ | _=>ν)|ALi=>YI ..|ALj=>ň δ|BVl=>(by kernel_rfl)|ALk=>(by assumption)|AbR=>by refine δ;show Aot Aal|ALl=>(JN c)|ALm=>[MI]|ALn=>t.2.1|AbS=>Ν.2.1|AR9=>Β u|AR_=>δ (jS ε)|ALo=>(Cn Ε)|ApH=>(Cn qe)|ALp=>(Cn Ij)|ALq=>(Cn Ik)|ApI=>(Cn (#[]:Hb))|ALr=>G_ AG|ALs=>KB B5|AbT=>MO z|ApJ=>B1 δ AHx|ALt=>D4 kC|ALu=>.AV i|ALv=>.CB h|ALw=>.CB (AJv δ)|ALx=>CU (Ø δ)|ALy=>E2 δ X2|ALz=>i<J_|AL0=>i<MR|ApK=>i<E1|AL1=>(KI D3)|AR'=>.Ψ b|AL2=>MW (δ ε ζ).LY|AL3=>(DA e)|AL4=>EB Aac|AL5=>HR δ SI|ApL=>(P3 A8q)|AL6=>(Array.getElem?_eq_some_iff.mp δ).1|AL7=>C9 h|AL8=>Db p|AbU=>DH VD|AL9=>(š D3)|AbV=>(IF e)|AbW=>NA NG δ|AL_=>by show bv r;rfl|AL'=>DS jw|AMA=>B2+δ|AMC=>by show zD h2|ASA=>HG SY|ASB=>E8 n|AMD=>zI V|AME=>zI AL|ASD=>VY F1|AMF=>by show qr h2|AMG=>by show qr hq'|AMH=>E9 k|AMI=>E9 AIv|AMJ=>Th Ä|BVm=>(A7Y δ).2|AbX=>j<2^62|AMK=>by show Χ;rfl|AML=>Iy Z δ|ASE=>by show LE δ;omega|AMM=>#[gF δ ε ζ EC]|AbY=>by simp only [δ];exact ε|AMN=>by show HZ hk|AMO=>LE 64|AMP=>LF 0|AMQ=>cM (zg δ) ε|AMR=>APn δ.2|AMS=>V_ (δ _ _) ε|ASF=>OH (DB δ)|ApM=>by rw[δ];simp_all|ASG=>Mc ho|ASI=>h _ ό|AMT=>#[qv 0]|ASJ=>B5<=i|AMU=>dM #[o9 δ]|AMV=>WE fC δ ε|AMW=>AZo δ AOc|AMX=>p++EF δ|ApN=>k7 δ ε x9 ζ|AMY=>Sem AO|AMZ=>t0::ts|ASK=>AYE<1000|AMa=>Q3 bN δ ε|AMb=>Oi (HQ δ ε)|AMc=>r7 X|AMd=>r7 X2|AMe=>X[j]?|ASL=>by show δ;simp_all|AMf=>δ (cM AQp ε)|ApO=>Ζ ->κ|AbZ=>(n,AnN)|ApP=>(hn a zY)|AMg=>AJS XT δ|AMh=>MZ hs b δ e1|ASM=>Zs d|AMi=>ŵ AY δ|AMj=>AJ ->Q4|ASN=>Á p|Aba=>.jA δ (ε .SE)|AMk=>(Aoq::us)|ApQ=>.seq Lc n|AMl=>w::vs|AMm=>v::vs|ASO=>ADn (Aag δ)|ApR=>ź TK|AMn=>ADp vs|ASP=>tn i A7|ApS=>.pv δ ε IU|Abb=>(ADq he2)|AMo=>.jA _ ts|AMp=>AQK XU δ|AMq=>ADt XU δ ε|AMr=>ADu 81 δ|AMs=>É δ (AJo ε)|AMt=>AQM XU δ|AMu=>AZ3 e|AMv=>AZ3 h|Abd=>Aj ks k|AMw=>AQP δ .ellipsis|BVn=>dj (show gS from δ)|Abe=>E6 (δ APi) ε|ApT=>(VO XZ p2)|ASQ=>AJH Rs α|ApU=>by rw[δ];decide|AMx=>[FU,AIJ]|AMy=>aB K LV i7|ApV=>∀[Xh g] [XB b],_|AMz=>ϑ 2|ASR=>AEJ MR|Abf=>(SK AJ2)|BVo=>by rw[δ] at e;cases e|ASS=>AEM δ ε sr|AM0=>pA b a|ApW=>K_ (Ö δ) r|AM1=>(JY .Ψ)|AM2=>AEV e|AM3=>cZ (ci δ ε j9 ζ)|AM4=>cZ (ci δ ε ζ AY)|ASU=>OL u AJn|AM5=>gE te d δ|AM6=>Up lt p δ|AM7=>QI X F0 H0 tg δ ε|Abg=>by rw[SD,<- hl]|AM8=>o.cls= .AT C|ApX=>.DM (.AT δ)
|AM9=>by
 have e:δ=ε:=ζ
 subst e;exact η
|ASV=>AQe ho δ|AM_=>NF δ q (LA ε ζ η)|ASW=>nG AE H p δ|BVp=>(Y_ yz Oy t')|ASX=>ADr Ω as|AM'=>BVM AYY δ ε|ANA=>qS (iy k) Ε δ|Abh=>δ (t' :=LX) (ε:= ζ)|Abi=>P (AI3 δ)|ANB=>(IF (ADU+1))|ASY=>MS BA w δ ε ζ E s|Abj=>(AO8 _ _ _)|ANC=>Ŭ Γ δ t|ANE=>ZI A8p δ Z|ANI=>DH δ hu ε ζ (N_ η)|ANJ=>sQ te d δ|ASa=>(AEQ a u)|BVq=>env.scope.kind== Ÿ|Abk=>(Aaa KA)|ANK=>(AY' a)|ANL=>PA X δ ta|ANM=>lS Fn.len hs|ANP=>z8 _ (z8 _ δ)|ANQ=>by exact Iy (K_ (Τ=Θ) δ) zL|ANR=>AEc δ fst i|BVr=>AOs n==Β To|ANS=>pZ (cT (aF δ ε))|BVs=>(δ (AI_ ε kD 0)).ζ|Abl=>by simp [δ,AYr,ε]|ANU=>[bP,FU]|ANV=>[i',MI]|ANW=>#[p7 (MU δ ε)]|ANX=>hN b (DB δ)|ANZ=>av b X1|ANa=>(N3 .AF)|ASb=>MX e e|ANb=>P6 x c|ANc=>.ob _ _ ts|ANd=>AJR (KG δ) (Ϗ ε ζ η θ ι μ)|Abm=>Aop AI7|ANe=>Lv d IL (LA δ ε ζ)|ASc=>(.Ψ x t)|ApY=>z0 Ba Ki δ ε TH ζ|Abn=>AJ4 op b|ASd=>by show AJ6 Z rs|ApZ=>y6 xH δ ε [FS] (ζ c)|ANf=>AQo bA AoN|ANg=>by intro Μ s σ H xs us Q I r h|ANh=>⟨#[c]⟩|ANi=>Xh.x g δ X|ASe=>by show OF (ph hb) hb hb δ ε|ASf=>(δ BA w).is|Apa=>∀(J':AQl A9l=EW e:=by rfl),_|ANj=>by obtain⟨n1,n2,n3⟩:=nd|Abo=>by show ADf δ ε AO3 (ADk ζ) η θ AO3 (ADk ι);show ADf μ ν AO3 (ADk ξ) ο π AO3 (ADk τ)|ANk=>∀(ds:AJ),_|ANl=>by exact(K_ D6 r).SB|Abp=>[.AF 9]|ANm=>(xy δ).all|Apb=>(b::Nn)|Abq=>PE X i ty|Apc=>∀x H',δ i H x H' ->ε|ANn=>by show AJb AP' rx|ASg=>⟨δ,ε,[],Z,Z,j4,ζ,η⟩|ANo=>AZ1 (LB δ X) ώ|Abr=>(.AF i t)|BVt=>(AZ' (Id #[]))|ANp=>Å σ H s|ANq=>zM (zO AaQ δ)|ANr=>DH δ ε hg hm ζ KK η θ he|ASh=>V ->AL ->AoO|Apd=>fun σ H R DL=>(BVc DL δ)|ANs=>∀(ta tb:bO),_|ANt=>AJF d1 v1 (BVe d2 δ)|ANu=>Turn P w K tg δ [it] it (AEX ε)|ANv=>BVj (DH MK) δ|ANw=>δ ε KK (hb z E cx)|ANx=>by show bz v δ a1 a2 Z q1 q2 h|ANy=>FT F δ (sL _ h (ε h)) fun cdv A CF s H E hr F0 H0=>⟨ζ K c,η,fun a bs t ds Q Ex h=>θ h⟩|ANz=>Hy kd|Abs=>(Τ,EW δ)|Ape=>δ (H' :=upd H1 a ε)|ASi=>J_<=63|ASj=>by simp only [į,AW2] at δ⊢|Abt=>AQm/\ AQv/\δ|AN0=>[AmB,a_]|AN1=>by have l1:=δ;have l2:=ε|AN2=>.AV (.AV (δ _ _ ε))|ASk=>hA _ _ h1|Apf=>YE x=Β (B0 δ)|AN3=>(z9 _ Z)|Apg=>(a::b::Nn)|ASl=>Nb (Cn δ) Z ε ζ|Abu=>aB K XI XX|AN4=>GV δ 1 0|AN5=>(h2 a h)|ASm=>(.ob C [] [])|Abv=>KO δ ε vs AL ζ η|Abw=>Ŭ δ OC tt|Abx=>Gr F δ F' H'|AN6=>Dn lt p δ|AN7=>fun _ _ _ H _ I h=>δ|AN8=>∀[XA ta] [XA tb],_|ASn=>fP X.N sc C4 FV AmA N'|Aph=>Ee k R1 s1 δ|AN9=>AaB hz Z δ|BVu=>(AJd Tu H)|Api=>pU X Μ δ b|Aby=>Aoe ACh ŋ|AN_=>AQs δ ε (AJE d v rd ζ η)|AN'=>jC t1 A7 l1 xs|Abz=>AaS z z|AOA=>by show AQz ⟨hc,hp⟩|AOB=>⟨X,s,h⟩|Apj=>fun σ H=>δ (AYP i Ε) H|BVv=>Κ (E1>1)|AOC=>P (d i j)|ASo=>[N4,TH,MI,EU]|BVw=>Aou D' ys|AOD=>∃W:Ζ ->Ζ ->δ,(∃m,W 0 m ε ζ)/\η|AOE=>by show Ð e1 e2 (h.get i _ e)|AOF=>(MN lo n).δ|Ab0=>(.ob AOo [] [])|ASp=>.ob C SH (eE SH ADX f δ)|AOG=>by show AJb (u=Pp b) ry|AOH=>k a zY _ e3|AOI=>Aow AnD (δ _ hr ε hbs ζ η)|AOJ=>AmV X G (A7N δ)|BVx=>fun _ _ _ _ _ _ _ _ q=>Ř|BVy=>fun d v F' H' gr rv hp=>δ|BVz=>δ z TI TO i1 i2 l1 l2|ASq=>{cenv with HH:=BVi}|AOK=>ACe M A δ ε E ζ|ASr=>[JU,HI,UZ]|AOL=>MS EA X.w X.A δ Q E s|ASs=>ff S4 Fk Fk|Apk=>fun xs H Q=>δ|Ab1=>.tr (a2::DQ) iT|AOM=>W i m δ H|Ab2=>∃f fd,δ/\ε/\ζ/\AQY
|Ab3=>∀(AP5)(hcd:VU x AOw:=by decide),_|Ab4=>∃CS H',Aox /\δ|BV0=>if kv.1=k then(kv.1,δ) else kv|AON=>jC t2 A7 l2 ys|ASt=>Ï (Aah x y δ ε ζ)|AOO=>Un fs ex H δ h ε|BV1=>∃N:Sb,(∀CS H',N CS H' ->δ)/\ε|AOP=>V ->OI ->OI ->AoO|AOQ=>⟨F,Γ,P,R,h,k⟩|Ab5=>Ao0 δ (AaL ε I BVX)|AOS=>∀(hst:GU FH=NB e es:=by rfl) (hpl:AP4 AB es:=by rfl),_|AOT=>fun _ _ _ _ δ ε=>ζ|AOV=>E3 (fun i m δ ε=>m=ζ - i/\i<=η/\θ) ι|Apl=>(jj sc B2 Be).δ|Ab6=>ZT i8 #[.AF lo t,.AF hi u,.AF 1 v]|Ab7=>δ EA X.w AE YE SA x k ps sp|AOW=>∀(BVk){t ds Q Ex}(h:δ c t ds Q Ex),_|AOX=>W.methodCall_KW (pl:=pl) (cM δ (AEU ε)) ht|AOY=>Wc hit hg O Z ?_|ASu=>fun i H2 F2 s2 s3 _=>δ|AOZ=>by show bz a vs bs e1 e3 e4 h h|Apm=>⟨δ,I.os,Ł,I.base,pe,x6,jI,ACb,ε,IB,ACc⟩|Apn=>fun Γ4 F4 H4 σ4 R4 s4 q=>δ|AOa=>by obtain⟨f0,f1,f2,f3,f4,f5⟩:=Ù|AOb=>by rintro Μ s σ H δ I ⟨F,Γ,P,ε,q,k⟩|Ab8=>∀(aU:Ũ AOh)(bU:Ũ JU)(cF:Ũ UZ)(bM:Ũ OV)(bI:Ũ S_)(aO:Ũ eR),_|ASv=>Nat.lt_or_gt_of_ne δ|Ab9=>if δ then Ε else ε|ASw=>by rw[YV,δ]|Ab_=>by obtain⟨o,_,_,_,δ⟩:=ε|Ab'=>AYO δ|ASx=>by show ADa|ASy=>by obtain⟨_,_,δ⟩:=ε;exact ζ|ASz=>[i']|AS0=>["_law_one"]|AS1=>⟨δ,P6 ε ζ⟩|Apo=>by rw[δ,<- ε];exact ζ|AS2=>(δ ε).Ŀ=Θ|AcA=>(B0 c)|AcB=>Id Ε|AS3=>(GT δ).2.1|AcC=>δ (xy ε)|AS4=>by obtain⟨δ,H1,I1,ε,q1⟩:=Cb;refine ζ|Apq=>(Cn Θ)|AcD=>(Cn D6)|AS5=>(Cn J8)|AcE=>AOx δ Be|AS6=>G_ α|AS7=>G_ ET|AS8=>KB 0|AS9=>(KG "-")|AS_=>GI T|AS'=>.BM _|ATA=>D4 OX|BV2=>A7n _ _ δ|ATB=>A8H i δ|ATC=>(N_ hi)|ATD=>(N_ hc)|Aps=>Nat.succ_pos _|AcF=>Cl CC|ATE=>.AF a|ATF=>.AF b|ATG=>MV ĺ|ATI=>.Ψ row|AcG=>(DA h1)|AcH=>(DA h2)|AcI=>(P3 S)|ATJ=>(.AF i)|ATK=>(hf b hb)|ATL=>An8 δ (Aa5 Q) ε|ATM=>VV t'|AcJ=>NA (S b) δ|ATN=>HE ύ δ|ATO=>z6 (AZA (Aov δ ε ζ))|AcK=>(ho z)|ATP=>Ļ DictEntry|ATQ=>DS aM|ATR=>DS jy|ATS=>(knd.hash k)|AcL=>(.A8 qY)|ATU=>fun i _=>δ|AcM=>b≠B2|Apt=>Th sf|ATV=>Th Aax|ATW=>.BM ys|ATY=>δ (LH ?_)|ATZ=>by intro Μ s σ H Q I δ|ATa=>j<B5|BV3=>by rw[M_,δ,ε];rfl|AcN=>(.bl Θ)|ATb=>(.bl b)|ATc=>j_ hq|Apu=>fT F' H|ATd=>KL w|ATe=>LE 1000|ATf=>Pp a|ATg=>ADS o|ATh=>(Ū Nw)|AcO=>b∉ch|ATi=>ADT AOt|ATj=>L4 2 4 δ|AcP=>(V' ?_)|AcQ=>(.frz o Ç)|ATk=>SK Aok|AcR=>(.Ψ row)|ATl=>bu l|ATm=>Q (.AF δ) H|AcS=>WC h|ATn=>WC ?_|Apv=>rg HI|ATo=>AZo δ eP|ATp=>AZo δ AW3|ATq=>(r - 1)|ATr=>AJM D|Apw=>SZ δ (.pu (j6 ε))|AcT=>ZU SG|ATs=>(rq A5)|ATt=>(mq h2).1|ATu=>ZY j|ATv=>ZY d|ATw=>(toD t)|ATx=>AP7 Au|AcU=>ko Ay δ cC (On ε)|AcV=>(r9 A9)|ATy=>AJP B5|ATz=>by show Se Ch|AcW=>(mq h1).2|AT0=>(a::dx::bs)|AT1=>aE δ AY ε|AT2=>(.SE d)|AcX=>AJZ kD|AT3=>ADl ?_|AcY=>ADn (BVo δ)|Apx=>z.pn++Μ|AT4=>lc l|AcZ=>P ds A4|AT5=>⟨δ,ε,ζ,re e ?_⟩|AT6=>AQK XT δ|Aca=>ADt XT δ ε|AT7=>ADu 101 δ|AT8=>AQM XT δ|Acb=>N0 0|AT9=>AJg H|Acd=>LB a X|BV4=>.bS x IU|Ace=>Î (nZ Ki δ (ε c) ζ) η|AT_=>AJk Ki δ|AT'=>(xQ ts)|Acf=>AJm xs|AUA=>AJm ds|AUB=>tN (.AF δ) ε|AUC=>Rd H a Ž|AUD=>tP δ AYd|Acg=>(A3).AmS|AUF=>h.FunFrames δ l|AUG=>Ú e1|AUH=>by show C6 δ hz;exact ε|AUI=>AD_ s|Ach=>(VO y Dm)|Apy=>ki OK δ (fh ε)|AUJ=>Ý AY δ|AUK=>(AEH A1)|AUL=>show δ=ε by simp_all|AUM=>AQW δ (MU ε ζ)|AUN=>(AJw k6)|AUO=>AJx δ (a==b)|AUP=>ϙ t|AUQ=>AQZ D|AUR=>∀(t:dH)(E:XW),_|AUS=>pV A2
|AUT=>(x,c)∈δ|AUU=>by rw[Fs δ] at h⊢|AUV=>by rw[EJ δ] at h⊢|Apz=>by rw[HL,<- hl]|AUW=>.js Θ|Aci=>by have:=δ;rwa [ε] at At|AUY=>by show ND (Am7 δ)|AUZ=>AEj (AKE δ)|AUa=>sD Ky aN δ ε|AUb=>sD Ky aH δ ε|AUc=>ADr Γ as|AUd=>AEm cs|Acj=>AEp α|AUe=>AaJ A7|AUf=>ph hm|AUg=>by exact rS h2|AUh=>AJ9 AIK|AUi=>(ji N ds)|AUj=>(bB (cV 2))|BV5=>(ck APE kV)|AUk=>by show T0 a r1|AUl=>gT (Mm δ (KP ε))|AUm=>by have:=δ;show FI ε;show ZO;exact ζ|AUn=>by have:=δ;show FI e;show ZO;exact ε|Ack=>AaU (BVn δ)|AUo=>AaV h.Ns|AUp=>Kx - IM|AUq=>[E5,sd]|AUr=>AQ1 Ζ|AUs=>∀h',δ ->Q Ε PD|AUt=>(by simp;simp_all)|Acl=>FN d=Θ|AUu=>AQ9 (P δ Γ)|AUv=>ż q n δ|Acm=>[ML,ľ,o5]|AUw=>Xp.ok (sp:=δ) ?_|AUx=>s'.os=s.os|Ap0=>(δ b u e).stay|Ap1=>Bbx l δ|AUy=>Aaq (AQ5 δ)|AUz=>LZ (yz i δ)|BV6=>z6 (yl ?_ δ)|AU0=>kq v Q δ|AU1=>(upd H a o)|Acn=>Aau Ao8|AU2=>XA.ok s1 h1|AU3=>by have:=δ;show FI ε;show ZO|AU4=>ß PE e δ|Aco=>i4= .ACY vs|AU5=>M9 K F Oc δ ε|Acp=>Op e hx ?_|AU6=>(.pv F7 f xO)|AU7=>by obtain⟨hp,g,d,tk,os⟩:=s|AU8=>show δ by omega|Acq=>fun kv=>(BV0 δ)|AU9=>by exact AYi h|AU_=>by rw[δ] at z;cases z;exact ε|Acr=>S5 X δ (Aat ε)|AU'=>ka 0 (AaM A1 δ)|Ap2=>(pL AE sp)|AVA=>by show P8 δ ε Z AZG ζ|Acs=>fT F' H'|Acu=>(ts++ [t])|AVB=>qk Ig δ E|Ap3=>by obtain⟨vs,H1,I1,r1,q1⟩:=Cb|BV7=>Ao4 B5|Acv=>sq ds vs|Ap4=>AQL δ (KE ε ζ) z.xe η|AVC=>.Ψ x _|AVD=>lj xg δ bx|Ap5=>ϐ lE δ (AJL g)|AVE=>(ACb x c e)|AVF=>Aaj jx Υ|AVG=>by show L6 u ru rs.one|AVH=>ApA as δ|AVI=>ApD y|AVJ=>s1.pu (UL e1)|Acw=>∀(hn:AIz=n:=by rfl),_|Ap6=>(aM K F ds vs)|AVK=>(AJ' a op [b])|Acx=>fun c hc=>δ|AVL=>.ow ds|AVM=>BVg δ (·.2)=ε|AVN=>Do AL BH|AVO=>N9 (upd H B2 (.BM δ)) ε|AVP=>(xs++ys)|AVQ=>A6b i t|AVR=>EV δ (fun v z=>AP6)|AVS=>BVm nd|AVT=>.AF i _|AVU=>AJH Ro β|Acy=>cS ⟨Ao3 δ,ε⟩|AVV=>(.pu (.A8 ds))|BV8=>AI _ (AW1 (δ _))|BV9=>(AaC VC vs)|Ap7=>zj d=Β ARB|AVW=>⟨δ,A0 y H' z⟩|AVX=>o8 Γ σ δ a|AVY=>bB (cB cD δ (cB jP ε ζ))|AVZ=>Jh k hk δ A2|AVa=>E C dx H'|Acz=>Aay (δ st h)|AVb=>Ao7 B [C]|AVc=>δ EA X.w AE YE SA C m k ps sp|AVd=>Ee k _ R1 s1 II δ|AVe=>AKF a δ a ea|Ap8=>BVy (kk d δ F' H' v ε ζ rv hp)|AVf=>BVz ZipApart|Ap9=>∀d A4 F' H' v,AEO δ ε (P d A4) ſ|AVg=>δ z E cx Μ s σ H (fq H1 ε)|Ap_=>⟨δ,ε,ζ,η,ϖ,fun _ _ _ _ _ _ _ _ _ q=>Ř,BVx⟩|AVh=>dJ K δ/\AQF ε|Ac0=>fun q hq=>δ|AVi=>δ++qS (iy k) ε Ε|AVj=>∀q∈Aad,δ|AVk=>by cases δ<;>try (cases h)|BV_=>(N3 V.int)|AVl=>δ AIz FV ε|AVm=>X.env.frame=Β U_|AVn=>[topFrame z]|AVo=>Do BI BI|Ac1=>∃b,δ= .AT b/\ε|Ac2=>Cl (Ao' sj)|Ac3=>fun _ H Q=>δ|AVp=>MX h' h'.elim|Ac4=>NA SS (sB/\δ)|AVq=>Xp (xT 1 δ (ε c))|Ac5=>(Aa2 - AQt)|Ac6=>E3 one (ne δ).1|AVr=>upd H δ (.BM ε)|AVs=>Wr ts h|AVt=>.AU h r|AVu=>gd (Kx=n) δ|AVv=>Am0 vs ns|Ap'=>(A9_ k).Ŀ|AVw=>(ADd cJ aR)|AVx=>(AP8 XI XX)|AVy=>cB cD δ (cB jP ε ζ)|AVz=>gE tf ds δ|Ac7=>by rw[δ] at ha;cases ha|AV0=>XC c C|AV1=>D4 (B5+OX)|AV2=>A6r b o e hx|Ac8=>entryFor table δ =Β ε|Ac9=>#[CN δ AEa wL]|AV3=>sR (δ p (zX _ hp))|AV4=>by rintro z E cx Μ s σ H δ I ⟨F,Γ,D2,R,h,k⟩|AqA=>⟨_,δ,cp ε,AQ3,?_⟩|Ac_=>fun _ R s=>δ|AV5=>BVM pv δ f|Ac'=>fun σ H R=>ta σ H (fc vs δ)|AV6=>FG sX OT tb|AV7=>(! t.plain&&BVv)
|AV8=>∀(hs:GU [e]=NB e []:=by rfl),_|AV9=>∀(hf:BVQ:=by first | exact ADw | exact .CB Z),_|AV_=>Aan Q δ Ϙ ε ζ|AV'=>T' δ ε D'<=20|AWA=>by show BD Hz;unfold uw;exact δ|AdA=>ko Ay δ gk (fm (KG ε))|BV'=>Aor A6M ApG|AWB=>Aam setState BcZ hg|BWB=>show¬(Ao2 δ) from AHx|AWD=>yn Υ k δ|AWF=>FG QG tg g|AWG=>(BVd (jS δ)).Kk|BWC=>p5 B5 B5 hi|AWH=>R (δ K a) H1|AWI=>rE K F H H0 s o|AWJ=>(by rcases δ with z | ⟨⟨xs,ε⟩,z⟩)|BWD=>.İ "type.__call__" ⟨δ,kw⟩|AWK=>by show E7 (b=it) cK|AWL=>by show ϓ hp;exact⟨hp,h⟩|AWM=>(fO K F H ts)|AdB=>sp vs H Q E|AWN=>∀(ha:Dx o ta)(hb:zh tb),_|BWF=>ho Μ s2 σ H2 x y v u|AdC=>(Sum BI Ξ)|AWO=>δ (K:=AE) (F:=ε)|AdD=>Hd.allB (Yg K)|AWP=>Bg X i C|AWR=>j_ (sW sF δ)|AdE=>∀{α β:GG},_|AWS=>.CB (.AV (QZ BF))|AWT=>fun z E cx=>δ (ε z E cx)|AWU=>δ fun _ _ _ _ _ _ _ q=>ε q|AWV=>by obtain⟨a,_,Z,_⟩:=r;rfl|AWW=>nsIn K eQ x=Β AaA|AqB=>by (with_reducible refine δ ε ?_;rw[ζ])|BWG=>Â ACz (fun(Tb δ)=>N0 ε)|AWY=>(zX _ (zX _ hb))|AWa=>AoK QE elt te|AWb=>AoK QG tg g|AWc=>AoK Rb ifs tc|AdF=>by obtain⟨v,_,Z,⟨l,us,Z,hq,rs⟩,Z⟩:=r1|AdG=>by show ADz h1 h2 h3|AdH=>(AaE (ini m).Pw)|BWH=>∀o u,AIM b≠OA frz o u|BWJ=>by have hb:δ:=ε h;simp only [AO2,hb,ζ]|AWd=>qi (o_ " ") δ=xU ε
|AWe=>by
 show AKC;show ZH;refine δ;rw[ε]
 exact hp
|BWK=>kL δ TI (B0 i1) (B0 i2)|AWf=>(V7 t1 t2 A7 l1 l2).LY δ=Β _|AqC=>pW (j:=0) (z94 k hk)|AWg=>by obtain⟨F1,H1,δ⟩:=lent I R|AqD=>k d A_ F2 H2 v R2 Ty δ ε|AWh=>(δ i H/\AaR)\/ (ε i H/\BV1 (Ao9 CS H') ζ)|AWi=>by simp only [į,A8z,or_false,not_or]|AWj=>by obtain⟨⟨old,q⟩,st⟩:=q|AdI=>y6 CW δ CF s H|AWk=>DB (C_ j δ ε ζ q z.symm)|AqE=>(AI5 A7 I _).δ|AdJ=>[FU,AYR,bP,ľ]|AWl=>by show LL a0 u0 h0 (qZ h)|AWm=>obs K=good w|AWn=>Da [AII,Po] [AII,Po] δ|AWo=>∀ds Q E,sp ds Q E ->Ao1|AWp=>fun Γ3 F3 H3 σ3 R3 s3 δ=>ε|AWq=>(fq H' (AJg H1 /\∃H2,BVu/\ (AJd (¬Tu) H')/\Aaw))|BWL=>BVs (δ a BVt).ŋ MH ŋ|AWr=>∀(X:Cx) (vs:AL) (H:Hp) (Q:VK),_|AWs=>VT (fun c Ω F1 H1 R1 s1 q=>δ)|BWM=>⟨δ,F1,Ω,_,R1,h1,fun y A_ F2 H2 w R2 s2 r2 h2=> ?_⟩|AWt=>Aoh (ADi ACg (Tx (eb b o hb e)) Ν A3 Q1 AEg AEi)|BWN=>∀c o,c≠z ->BQ (c≠TO) (c≠i1) (c≠i2) (AQD c) δ|AdK=>.of_wp fun BA w A R s h=>δ|AWu=>AnH (h₀:=SA) AnI δ (Aa6 s H H1 (∃F1 Ω ds,AKD/\gm/\AJy F1 ds/\ε) I (ADl (BVa ds)) ζ) he hpl|AqF=>∀(P:A6) (w:AZ) (K:Φ) (mg:DT),_|AdL=>fY EA X.w AE YE SA (gC EA X.w) k f fd ps δ|BWO=>∀{z TI TO i1 i2 l1 l2:Η},_|AWv=>YB δ ε S (ζ) fun A CF s H vs Q E hr η=> ?_|AWw=>∀(cdv:AD) (A:B6) (CF:I_) (s:AC) (H:Hp) (E:XK),ApE kz ->δ|AWx=>VG (X:=bi) (T:= δ) (id:= ε) ζ η θ ι KK (CV WI JD hs) J' YR bb hs Z|BWP=>ACP δ|AdM=>hacc.1|AdN=>{δ with defaults:= ε}|AdO=>by rw[δ,M_] at ε|AqG=>by simp only [jv] at δ|AdP=>#[zyl]|AdQ=>(by rcases δ with (ε | ⟨o,ζ⟩) | η)|BWQ=>by simp only [δ,qA] at ε|AdR=>by apply List.ext_getElem|BWR=>let ⟨o,ho,r⟩:=δ;⟨o,ε,r⟩|AdS=>Ba0 δ ε|AdT=>by show tq hp;exact δ|AdU=>A.frames=Β δ|AdV=>st.2.2|AdW=>hc.2.2|AdX=>(AJB c)|AdY=>[x8]|AdZ=>(B0 b)|Ada=>(B0 D)|AqH=>(B0 fa)|Adb=>(B0 l1)|Adc=>Id Z|Ade=>st.2.1|Adf=>hc.2.1|Adg=>Β w|Adh=>Β v|Adi=>Β d|Adj=>(cV i)|Adk=>xc h|Adl=>Do δ AD|Adm=>Κ ((δ a:Key)=ε b)|Adn=>.AT p|Ado=>KB N1|Adp=>(cC BC)|Adq=>GI Η|Adr=>.SE _|Ads=>.AV q|Adt=>GN (Z3 δ)|Adu=>As Vk|Adv=>As zi0|Adw=>(CU ARP)|Adx=>(N_ hk)|AqI=>AnW _|AqJ=>Cl BE|Ady=>i<APj|AqK=>AlW _ δ|Adz=>(KI A1)|Ad0=>AZd _ _ _ δ|Ad1=>MV xi|Ad2=>MV xj|Ad3=>getD_get? e|Ad4=>.Ψ k|Ad5=>Nat.le_add_right _ _|AqL=>MW AYJ|Ad6=>(DA h)|Ad7=>(DA hv)|Ad8=>(DA hl)|AqM=>(DA hk)|AqN=>(bn pt)|BWT=>AYk hl|AqO=>Ee setNext|Ad9=>Fs hb|Ad_=>(List.of_mem_zip δ).1|Ad'=>by rw[M_] at e|AeA=>DH z3a|AeB=>(.AF 0)|AeC=>(f3 b hb)
|AeD=>by
 split
 ·exact δ
 ·exact ε
|AeE=>X2[i]?|AeF=>dM (CU δ)|AeG=>.pu ä|AeH=>(hc z)|BWU=>AYk hb|AeI=>BcA=Ε|AeJ=>δ (fk)=Ε|AeK=>(HU hx)|AeL=>ADK AM|AqP=>P5 Ξ AYf|AeM=>E8 l|AeN=>E8 w|AeO=>fun z E cx=>δ ε (Hm ζ η θ)|AeP=>E9 Z|AeQ=>E9 (ne δ).1|AeR=>Th o|AeS=>Th Ž|AeT=>Th BV9|AqQ=>Pp d|AeU=>⟨o,δ,Z⟩|AeV=>ACi<Ō|AeW=>.bl Θ|AeX=>.bl Τ|AeY=>kl i7|AeZ=>hn b hb|Aea=>by simp [jw];omega|Aeb=>E_ ds|Aec=>(ADP DE)|Aed=>(.BM ys)|AqR=>x.cps[i]|Aee=>KL p|AqS=>fR aF (Ah (δ c)) ε|Aef=>LF (sIx n 0 lo)|Aeg=>OG FE|Aeh=>(ADR AoN)|Aei=>i3 a|Aej=>BbJ ?_|AqT=>(rV sF)|Aek=>(zg he)|Ael=>A9_ k|Aem=>b∉bE|Aen=>OH (ApJ δ)|Aeo=>OH (ApU δ)|Aep=>id pe|Aeq=>id fF|Aer=>pO (Cn (δ Z)) Z ε ζ|Aes=>QQ cq|Aet=>.DJ C fs ds|AqU=>Q CS H'|Aeu=>vals2 r|Aev=>#[qv 3]|Aew=>bu p|Aex=>AP2 Ź|Aey=>WC (z7 h)|Aez=>Gl X FE|Ae0=>by show KS δ (gv ε AEw ζ)|Ae1=>∀{β:GG},_|BWV=>rg OV|BWW=>rg Ali|Ae2=>AJK W.hasDictIn δ|Ae3=>AJK W.plainOver δ|Ae4=>AJK W.makesIn δ|Ae5=>DV K C|Ae6=>AJM α|Ae7=>AJM Ζ|Ae8=>ZU BV5|BWX=>(VO i8 p)|Ae9=>ADL (rL δ m) FH|Ae_=>ADb APa δ|Ae'=>.AU _ _ δ|AfA=>Baq _ δ ε|AfB=>(BS).dat|AfC=>(TD :Ξ)∉fs|AfD=>AJP xp|AfE=>by have:=δ;simp_all|AfF=>δ (cM (VW ε ζ I h) η)|BWY=>MX q Ř|AfG=>Ζ ->Sb|AfH=>AJS δ A6O|AfI=>sC t|AfJ=>δ j D'|AfK=>Xs LW δ ε|AfL=>[.Ψ z]|AfM=>.AF i 0|AfN=>ADi AIa|AqV=>V.ref (fk)
|AfO=>by
 dsimp only;rw[δ]
 refine ε
|AfP=>ŵ (ϟ δ) ε|AfQ=>Ŷ X_ δ|AfR=>Ŷ X.base.get? δ|AqW=>Ŷ APZ δ|AqX=>AYT ⟨δ,ε,ζ⟩|AfS=>A9n ⟨δ,ε,ζ⟩|AfT=>AJ ->gx δ|AfU=>fun h' hs' =>δ|AfV=>J_<=n|AfW=>J_<64|AfX=>AJY ŉ δ|AfY=>AQE δ (Apk ε)|AqY=>AoD ACh δ|AfZ=>(Ń BA w)|Afa=>P7 (ņ _ _)|Afb=>AJc δ A1|Afc=>k b u q|AqZ=>AIq b u q|Aqa=>AIg (DA hi)|Afd=>ACk (DA hi)|Afe=>AoG V|Afg=>(Ë Θ)|Aqb=>by rw[z,δ] at q;cases q|Afh=>.pay δ fs ts|Afi=>Ca a b=Θ|Afj=>AJk ER δ|Aqc=>lm AC|Aqd=>is1.toArray[j]|Aqe=>is2.toArray[j]|Aqf=>(AJo Mb)|Afk=>(Õ [c])|Afl=>Rd H a SG|Afm=>dj hb2|Afn=>B5 - 1 - i|Afo=>by rw[δ];simp|Afp=>GS F' u|Aqg=>tz Ch|Afq=>ki OK δ Ε|Aqh=>ki OK δ AaA|Afr=>(bB (cV 1))|Afs=>t9 ZN δ|Aqi=>AEI (kA (q_ δ) ε)|Aft=>(SK Aok)|BWZ=>(AYS op')|Aqj=>(AZ' ApI)|Afu=>(CL p)|Aqk=>by rw[z,δ] at e;cases e|Aql=>ϒ TK|Afv=>æ g|Afw=>ϕ Kj|Afx=>AJt δ eP|Afy=>AJt δ AW3|Afz=>AQW δ AbE|Af0=>sW s hq|Af1=>sW HP hq|Aqm=>è li|Af2=>AQZ V|Af3=>BVK (IG δ) ε|Af4=>zM Cc|Af5=>k∈ks|Aqn=>(x,AnP)∈δ|Af6=>AEd δ [AEP]|Af7=>.js Τ|Aqo=>AZn D_ HH|Af8=>Å σ δ s1|Af9=>AaJ h|Aqp=>(N0 L)|Af_=>AJ8 DZ|Af'=>PS X (.AmQ [δ] ε AB) ζ|Aqq=>hix i hi|AgA=>(AEs AY)|Aqr=>typeLookup δ ε =IC ζ|AgB=>AQq δ (tH AE ε)|AgC=>sQ tv d δ|AgD=>(AJe And Apb)|AgE=>(AJe And Apg)|AgF=>(AQu bx)|AgG=>Xq.x tf X|AgH=>ŀ= []|AgI=>.exc C|AgJ=>GN #[zw8 δ]|AgK=>OA tr Θ δ|AgL=>(by simp;omega)|AgM=>qo F δ AEu|BWa=>AKL TK|AgN=>av t (xst N ds)|Aqs=>s.heap.IsCell c v|AgO=>[x8,ľ,o5]|AgP=>(AKN ws)|Aqt=>Xm.ok (sp:=δ) ?_|AgQ=>OA frz o Ç|AgR=>Kl i5|AgS=>D4 Kx/\δ|AgT=>by simp only [e3] at h2|AgU=>by simp only [e4] at h2|AgV=>Ti (i:=2)|AgW=>(hh a ha)|AgX=>cW 3 4 (δ c)|AgY=>L4 3 4 δ|AgZ=>.vH ks xs|Aga=>PA X es t|Agb=>PA X FH t|BWb=>by show ARQ δ AIh|Agc=>(BW xs ys)|Agd=>(start N vs)|Age=>(AIw N vs)|Agf=>s1.tD (Nm e)|Agg=>x6 x c e|Agh=>(ARd s3)|Agi=>Lh (δ m) (Lm ε)|Agj=>(ACn H' a Aon)|Agk=>(ACn F2 a Aon)|Agl=>pQ EA X.w H' h'|Agm=>pQ EA X.w H' eh|Agn=>(Aoz A5)|Ago=>by simp only [VM,hx]|Agp=>[ł,XL]|Aqu=>(VC δ).pr|Agq=>(.ptr a::ds)|Agr=>TZ q ?_|Ags=>NA Tu BWH|Agt=>(OB BVw SV)|Agu=>.tr _ t|Agv=>fun Γ P E=>δ|Aqv=>(AP8 ER eR)|BWc=>AmC b o e n|Agw=>(n,k)::r|Agx=>su F0 a|Agy=>AO0 (zP _)|Agz=>Aaf 0 D'|Aqw=>α ->XG ->ARW|Ag0=>AbA ARU|Ag1=>(BVf cy)|Ag2=>AbD [_]|Ag3=>AbG AmU δ ε|Ag4=>(AbH kvs.any)|Ag5=>AbI h4|Aqx=>[ı,bP,AmG]|Aqy=>BVh (I i A_)|Ag6=>fun Γ P _=>δ AQ' (fun ε _=>ζ) lF|Ag7=>by rw[δ b hb] at q;exact ε|Aqz=>(.YN x)|Ag8=>by exact ϊ (h1 _ (AW1 AQk))|Ag9=>A6t n=Β δ|Ag_=>IC (ForInStep.yield δ)|Aq0=>δ (Al0 C ε)|Ag'=>∃m,m<n/\δ|AhA=>len _ _ _ hs|Aq1=>x= .AT p|AhB=>(ApM SD)|Aq2=>qV j 0|AhC=>qp sepS.length xs<1000|AhD=>zm rs hd|AhE=>sg d x|AhF=>ge δ Sc se|AhG=>lT X_ Aof|AhH=>(AQU qU Γ)|Aq3=>gf (δ) nx (AQd DD ε)|AhI=>Dh d d' =Θ|AhJ=>∀{sp:dD} [Xp sp],_|Aq4=>(.yB Aos [a] [] kN)|AhK=>AEZ (Aa9 dh ID Z Z EZ (ao bA aL)) δ|AhL=>kL A7 TO a b|AhM=>Aai he hd h1|AhN=>Ape p9 δ|AhO=>(zM (zK e))|AhP=>Apf C|AhQ=>Da N ps st|AhR=>Aph q|AhS=>Api H'|AhT=>hn0 b (δ b hb)|Aq5=>s1.heap.DictAt AJ3 a ws ep|Aq6=>AQg p p p (upd H p δ)|AhU=>(by rcases G8 δ with ⟨i,t,Z,Z⟩ | ⟨x,t,Z,Z⟩)|BWd=>Apl cells.lookup
|BWe=>Hd.shot Uf AOk W.segRunT W.topRun execs pg δ (Hd.setF ε w) os=Β ((gg,AOl pg),ζ)|AhV=>a∈as|AhW=>by rw[δ,HL,jv]|AhX=>fun Γ s=>δ|AhY=>k*7 % J_|AhZ=>(DH fP.cs S)|Aha=>.any C|Ahb=>A6k _ q|Ahc=>BV2 (AJ1 hb)|Ahd=>bo Alh (APt δ)|Ahe=>Wv k ks|Ahf=>kP k 0|Ahg=>ţ us Bx|Ahh=>(ADL (rL o m) [])|Ahi=>BV3 YV δ|Ahj=>Tk uP ns|Ahk=>AYA x t|Ahl=>Y' z3s i i|Aq7=>ZT BdQ #[D8]|Ahm=>SZ X.N y|Ahn=>fO K F' H' δ vs ε|Aq8=>D.rt v H|Aho=>AQE XY (δ X)|Ahp=>AQP A7 CI|Ahq=>(AQd Θ t')|Ahr=>m8 xs=Β ns|Ahs=>fun b hb z=>δ (z ▸ zX _ hb)|Aht=>r6 (b∈bs) H1 (F1 b)|Ahu=>BV6 BVU|Ahv=>ARV (K2 δ) D'|Ahw=>fun Γ P E=>t Γ (fun c A4 =>δ) E|Ahx=>xM ER 0 δ|Ahy=>#[Fw Z (ApF δ ε)]|Ahz=>⟨y,H2,I2,δ,q2⟩|Aq9=>(lG ks xs k d)|Ah0=>ARX δ [] H' eh|Ah1=>pd (zO δ ε) Aab|Ah2=>fun b u q n δ=>ε|Ah3=>BV8 k|Ah4=>.CB ⟨k,c,e,δ⟩|Ah5=>∀(n N:Ζ)(t:aC),_|Ah6=>∀b ob,ApR ->ź YA|Ah7=>sp ds (fun d=>(E_ δ)) fun C=>E Ω C|Ah8=>by rw[QL e1,Am4] at R2|Aq_=>Xp.ok (Wu s1 δ)|Aq'=>nG K F a vs|Ah9=>(.AmL .Not a AB)|Ah_=>(HE as (sB/\P4 H0))|Ah'=>gC P w CF H s δ e s'|AiA=>by obtain⟨z,hd,xs,v⟩:=WJ M5|ArA=>obs (cut A7 n)|AiB=>(BWD (tT::us))|AiC=>Apc δ (g x σ H' ε)|AiD=>rX zt5 aN δ Z EZ|AiE=>BWK A7|ArB=>∀(AEb){F0 H0 F H:Hp},_|AiF=>zq K F0 H0 δ D2 D|AiG=>by rw[δ] at q⊢;exact⟨F1,Ω,ε,R1,q,ζ⟩|AiH=>cx.px Μ σ Ω F1 δ s1 e s' I1 R1 ε|ArC=>BWL Ő|AiI=>BWM Z|AiJ=>BWN (ϔ c)|AiK=>by obtain⟨v,us,bs,cs,e1,Z,h1,h2⟩:=h|AiL=>by intro wh Μ s σ H Q I h|AiM=>ts.all T.isLeaf|AiN=>St ->Do Hp (δ)|AiO=>(match δ with | Τ=>ε | Θ=>ζ)|BWf=>by rw[typeLookup_type,builtinLookup_eq_fast]|ArD=>δ++caps.map fun j=>ε|AiP=>by obtain⟨_,_,δ⟩:=hS b z|ArE=>by simp only [δ,Bb1,AYo]|AiQ=>ElemsOf knd δ|AiR=>(APa ACh)|AiS=>kH (s3.trans δ)|AiT=>AY4=Β L|AiU=>Nr (δ m) (Lm ε)=Θ|AiV=>zM (AIy δ)|AiW=>(q::qs)|AiX=>MO (I.stkSub δ ε)|AiY=>(i++j)|AiZ=>.AV (O0 (ϋ δ))|Aia=>.AV (qB hq)|Aib=>Dx FF tv|Aic=>.CB (sW sF hq)|Aid=>E2 BM xs|Aie=>∀{K:Φ}{C:Η},_|Aif=>GV ARg (F b) δ|Aig=>Ix Fh δ 7 ε|Aih=>Ix FD δ 8 ε|Aii=>Ix Fk δ 1 ε|ArF=>DC q hq0|Aij=>MX x x|Aik=>MX y y|ArG=>Fu (bK (PM δ))|ArH=>MY w (AJr w)|Ail=>(k - l)|Aim=>ţ f q|Ain=>Ť tn t δ|Aio=>(Xd (Ii _))|ArI=>iB ρ A4 X'|BWg=>Tk N3 D.int|Aip=>∀[AZa p],_|Aiq=>gX AE g|Air=>tX AE tc|BWh=>QP (Gi x/\E Γ x)|ArJ=>(v.2.1).Kk|Ais=>.bS eP pt|ArK=>AP4 G1 es|Ait=>(gd p r)|ArL=>A_B p (Lm δ)|Aiu=>aq K (K2 δ) (K2 AH6)=Θ|ArM=>T.keep _ _ _ δ fun b hb o e=>ε|Aiv=>Ka d T|Aiw=>ACd a A7 δ|BWi=>(b∈ŀ\/ϛ b)|Aix=>(Zl x1.fmod 5)|Aiy=>fun i=>bs.getD i Τ|Aiz=>R J H'|Ai0=>δ K F0 H0 t E σ H R|Ai1=>bB (qt AEr δ)|Ai2=>wj K F H H'|ArN=>AoD ql update|Ai3=>XA (δ ta tb)|Ai4=>(zG _ _ _ ?_)|Ai5=>QI X F0 H0 AbO δ ε|Ai6=>lf jw (Td xs)|Ai7=>[MI,EU,N4]|Ai8=>ln (kf e.2)|Ai9=>zM (A7Q _)|Ai_=>HB X1 l|Ai'=>α ->α ->AO|BWj=>(qU AIz FV Γ)|AjA=>δ ++EF " " ++AbJ|AjB=>ki (B0 δ) A6O Ε|AjC=>AEW δ ACU ACV|ArO=>ç δ (VY ε) Aof|AjD=>AaB Ν CO δ|AjE=>(AaC (Aak).zip ARA)|AjF=>fun x y=>x.2≠AI|ArP=>eM sp ds|ArQ=>∃o,δ/\∀v,i4≠ .cell v|AjG=>∀m:Ζ,m<10 ->δ|AjH=>AEk z6 BcM|AjI=>jC t A7 l xs|AjJ=>AJE d v r q δ|AjK=>(AaX F a)|AjL=>(AaX F' Ap)|AjM=>(Ro (D9 D))|AjN=>AQ0 f ⟨oc,od,δ,ε⟩|ArR=>H' Ap=Β Ä
|AjO=>by subst h;simp [aM]|BWk=>M1 (ARG (jw (.AF δ) ε=Θ))|AjP=>(VS jP Ò 5)|AjQ=>r6 SS H Ε|AjR=>r6 (b∈bs) H (F b)|AjS=>r6 SS H1 Ε|AjT=>∀(hs:GU [a]=NB a []:=by rfl),_|AjU=>Aae BaP 60|ArS=>ż e n ?_|AjV=>AKM (ApS F7 f) δ|AjW=>uw n d d'|AjX=>fun D σ H=>δ|AjY=>ARH BaI (AOv δ).2|AjZ=>(GV (i<0) (-i) i)|Aja=>Lv δ ε (LA (JM us) xs ζ)|Ajb=>ARR E5 sd δ|Ajc=>fun i j hij hj=>δ|Ajd=>ki (B0 δ) AH8 (fh xl)|Aje=>ARf (st.at (ARh k it))|Ajf=>ARi δ Z Ch|Ajg=>Aa4 (uw n x y)|Ajh=>z.sameBut hs (cne y c e)|Aji=>e (h1.trans z)|Ajj=>Dx (.A6x δ j AB) ε|Ajk=>[TH,MI,N4]|Ajl=>jl t1 A7 i1 l1 k1|Ajm=>jl t2 A7 i2 l2 k2|Ajn=>by obtain⟨a,vs,h0,h1,h2⟩:=h|Ajo=>AQr (tb (AQx N N) σ2 H2)|ArT=>newExc ApL []|Ajp=>A9Y (a1.mem_iff.mp hi)|Ajq=>∃c,x= .bl c/\δ|ArU=>δ Ao5 ε hd v.2 ?_|Ajr=>AZ5 BV4 e (δ i ε)|Ajs=>fO K F H ts vs bs|Ajt=>AmD b o e n hb hx|Aju=>(neC b o e hx)|Ajv=>z6 (wpAny_typeNameOfWhole_keyiter APl (z7 ?_))|BWl=>⟨_,Z,APf,_,δ,uN.lookup,ε⟩|Ajw=>ne c _ z (MX w (AJr w))|ArV=>(APY (Aoy v) ks vs)|ArW=>(es.getD p (0,CI)).2|Ajx=>Za (Cn δ) (Id SW)|Ajy=>⟨F2,AJ7 s3,δ⟩|BWm=>(fun t d=>d= BC/\P t d)
|ArX=>by
 have:δ:=DB (by subst z;exact ε)
 rw[dj At];exact ζ
|Ajz=>Dx (ARO δ [e]) (ε ta tb)|Aj0=>jy xs ys=Θ|Aj1=>∀(i j:BI),_|ArY=>g δ Γ (fun A4 =>ε) E|Aj2=>rZ H F' a|Aj3=>TR K F H t v δ|Aj4=>nG K H a BV_|Aj5=>U i j hij δ|Aj6=>V4 X F0 H0 tg Nw ti|ArZ=>AEq YA (AQh Ε (.seq δ ε) #[])|Aj7=>Ô (á ho) u hz2|Ara=>∀h',δ ->s.heap.UpToSlots h' ->Q () PD|BWn=>(by repeat (any_goals (first | assumption | wp_step)))|Aj8=>Uk R e0 hl|Aj9=>∀[AYD κ](val:ApO),_|BWo=>∀(hb:AoS XY (q_ XY):=by show ADH),_|BWp=>(Θ,W.openGood vw RS,δ)|Arb=>δ it d ε E1 ep|Aj_=>t Γ (fun ds Ω=>δ) E|Aj'=>∀{K:Φ}{F:Hp}{d:D}{v:V},_|AkA=>Apd (ARD (fun ds Ω F1 H1 vs R1 s1 r1 h1=>δ))|AkB=>jx (OZ vs) k|AkC=>(k (lt i j))|AkD=>bnd (fN tt X) (TZ X1 δ)|Arc=>dN n FV ti g|Ard=>LN (Aao k0&&BVq) BVr|AkE=>Xh.ok (g:=g) s δ fun Ω s1=>ε|AkF=>δ Μ s1 σ H1 ε Ν AI|Arf=>P4 F'/\gD δ H b=Ε|AkG=>by rw[e1,e2] at hd|AkH=>by rw[hl] at st hx|Arh=>yl ?_ BVU|AkI=>(VJ IB eb)|AkJ=>(zwu F hC)|AkK=>wpAny_Call_method0_late J' bb δ|AkL=>zr1 δ (Y1 z4g) Aa8|AkM=>(fun x1 x2=>x1++x2)|Ari=>(δ (p5 B5 0 lo)).take (BWC - BV7)|AkN=>Iq (JY D.int) δ (.AF ε)|Arj=>SR AE F1 H1 δ ε σ ζ|AkO=>δ H2 (kH s3)|AkP=>by obtain⟨a,dx,vs,Z,ea,hl,rs⟩:=rd;show uA;refine δ|BWq=>wj AE F' H0 H'|AkQ=>.AU δ (.AU ε C7)|BWr=>⟨_,AbN δ ε,(Bbs ..).Kk ζ,η⟩|AkR=>wV.k (k:=δ) ε (by show AaT ζ;exact η)|AkS=>ff RU Fh Fh|AkT=>(Ŋ (Om w)).δ|AkU=>zoy I S e|AkV=>T.obj _ _ δ b hb|AkW=>(.Ψ ((O7 (qw k)).Pw r D'))|Ark=>MS EA X.w X.A δ (EP zS Μ σ Q) z.xe s|AkX=>δ ε es1 (Bcc APe)|AkY=>⟨0,0,0,0⟩|BWs=>by (obtain⟨_,_,z,_⟩:=r';cases z)|AkZ=>zru I hq T8|Aka=>by show Ϛ t (ApW δ);cases e;rfl|BWt=>Rep AE F' d v|Akb=>Wm hA ts vs bs n h|BWu=>#[Ut bA (dM (Aa3 δ (AbF ε)))]|Akc=>AaP×AaP×D9 (AHz (D9 AbM))|Akd=>by show IJ δ r h1 h2 h|Arl=>(U2 (YY i D'):Key)|Ake=>by show AQj (Ee .δ) (Ee .ε) (Ee .ζ)|Akf=>by show AQj (.δ _ _ k1 hu0) (.ε _ _ k1 hu0) (.ζ _ _ k1 hu0)|Akg=>δ Μ s σ H _ _ u w Q I rx ry ε|Akh=>by show AEz (.δ _ _ k2 hu0) (.ε _ _ k2 hu0) (.ζ _ _ k2 hu0)|Aki=>gC EA X.w MM H s δ e s'|Akj=>MM=Be::xz|Akk=>by show Ϣ rx (δ a t' b t)|Akl=>(.Compare a [op,op'] [b,c] AB)|Akm=>fS far b (M8 hT hdT q n)|Arm=>(fun i v=>∃h:ApK,v=es[i].C_)|Akn=>R1.wrT e0 e1 (ë (Ś δ AZs) a zY)|BWv=>∀{Υ:tJ}{vs:AbC},_|Ako=>pI.some_of (v:=v) (o:=δ)|BWw=>∀{t1 t2:AO}(BWO),_|Akp=>∃t,sX δ F0 H Ó t/\ε|Akq=>LJ δ A_ X2 s2 h2|Akr=>∀{H:Hp}{a b:Η},_|Aks=>fun D Γ _=>tb D Γ δ|Akt=>dO fs ts g=Β t|Aku=>Dx ARN (δ C m sp te t)|BWx=>δ ▸ (Looks.ld ε).andThen .now|Arn=>⟨s3 _ _ (s2 _ _ e),L7⟩|Aro=>XB.ok (ρ:=δ) (t:=t)|Akv=>.ask i j k|Akw=>fun x e n=>δ x fun o ho=>e _ o n ho|Akx=>Gr F0 H0 F H|Aky=>∀Υ,u≠ .dK Υ|Akz=>(P7 (BcK _ _) (AnL (a:=eW) (by first | rfl | (simp only [BcK];rfl)) ?_))|BWy=>(Jg k sj i j)|Ak0=>.CB ⟨δ,ε,fun CS H' p' =>⟨ζ,AKG,Z,Cc,p'⟩,A0 x H' y⟩|Ak1=>MS P w X.A (AIW (.AT it)) (fun r s1=>δ) E s|Ak2=>DH z3t cx.po hc δ (N_ hg)|Ak3=>∀(hf:BVQ:=by first | exact ADw | exact .CB Z | assumption),_|Arp=>fO.len ts vs bs h|Ak4=>[AmG,FU,bP,ľ,AYR]|Ak5=>by show LL a1 u1 h1 (qZ h0)|Ak6=>bt (.For tg δ OT [] AB) (ε ζ g tb)|Ak7=>δ ε ζ (x:=u) (DA η) (tS θ sb)|Ak8=>Apn ⟨F4,Γ4,R4,kH (s3.trans s4),q⟩
|BWz=>A8y (T:= A8q) (b:=Θ)|Ak9=>[XL,TC,"lefts",AmH,"numbers"]|Ak_=>pA (hdS a) (hdS b)|Ak'=>by obtain⟨o,e1,w,Z,nd,hn',r⟩:=å e0|AlA=>fun x C dx F' H' hE gr xr=>⟨x,F',hE,gr,xr⟩|AlB=>(match k with | lr=>x | .AV _=>D')|Arq=>(.Slice lo hi Ε p2)|AlC=>LJ vs H Q E Ch|AlD=>[z,TI,TO,i1,i2]|AlE=>(Y' uD i j Uc hv2 hd2 FQ)|AlF=>by subst r;cases hS;exact zou I rx δ e h|AlG=>lt (kP δ 0) (kP ε 0)
|AlH=>∀(Apa) (ϡ)
 (he2:GU [.yB AZ6 [] [] G1]=NB Aa_ []:=by rfl),_
|AlI=>∀(t1 t2:AO)(h:AN)(l1 l2:Η),_|AlJ=>by obtain⟨q1,q2,⟨u,v,q3⟩,δ⟩:=q|BW0=>fun d v F' H' gr rv q=>δ|Ars=>[a,b,c,d,e,f]|Art=>[N4,FS,JU,UZ,OV,S_]|AlK=>[pj,"head",FU,AYR,bP,ľ]|AlL=>by show ARb ha ha δ (APG ts vs bs h a ha)|Aru=>(match xs[j]?,ys[j]? with | Β a,Β b=>jw a b | _,_=>Τ)|AlM=>fun l h' is e hle a1 a2 δ xK=> ?_|AlN=>pz cdv A CF s H E hr F0|AlO=>∀(X:Cx),BQ (EA=P) (X.w=w) (AE=K) δ (∀(i:Ζ) (Μ:fB) (s:AC) (σ:St) (H:Hp) (E:fu),ε)|AlP=>by obtain⟨x,H',I',rv,sm,H2,e1,e2,hQ⟩:=δ;exact⟨x,H2,ε ζ I' sm e1 e2,rv,hQ⟩|AlQ=>⟨D8,e1,a,C,dx,_,Z,ea,hc,hn,by show AaT Fb;exact hl,?_⟩|AlR=>∀(fM:AEf)(aP:IN)(bW:BV')(aN:Æ)(bH:sv)(aU:Ũ AOh),_|AlS=>by ·rintro C Jn R_ fp Μ s σ H Q I ⟨Aa,Ab,q⟩;exact Aod ht Il Μ s σ H Q I q|AlT=>by ·rintro C Jn R_ fp Μ s σ H v u Q I r ⟨Aa,Ab,q⟩;exact Aod hg Il Μ s σ H v u Q I r q|AlU=>Lu (Lu (Lu zox P P w w mg mg B9 B9) N N D_ D_ sc (bJ st) f f) cdv cdv A A CF CF s s (E:=E) hE|Arv=>DZ+δ|Arw=>if δ then ε else Ε|Arx=>by rw[Ŏ]|Ary=>by rw[kF]|Arz=>by rw[IZ] at δ|Ar0=>(by rcases δ with ε | ⟨ζ,h2⟩)|Ar1=>(by rcases δ with ⟨ε,ζ⟩ | ⟨η,c,θ,ι⟩)|Ar2=>by simp only [VM,δ] at ε|Ar3=>if h:δ then ε else ζ|Ar4=>by injection δ|Ar5=>D9 Obj|Ar6=>D9 L2.Key|Ar7=>(by simp only [SD]<;>simp_all)|Ar8=>Amf δ=Β ε|Ar9=>[AOp]|Ar_=>by subst h;exact δ|Ar'=>lt i j=Θ|AsA=>δ (yT ε)|AsB=>Alz+1|AsC=>Ps h|AsD=>pk h|AsE=>AmU δ ε Z|AsF=>AYm δ ε Z|AsG=>(Cn Q5)|AsH=>(Cn yX)|AsI=>(M' 12)|AsJ=>G_ AO|AsK=>KB BWg|AsL=>(KG ",")|AsM=>GI AN|AsN=>GI Ev|AsO=>(hm.push _)|AsP=>.none_bool _|AsQ=>.bool_none _|AsR=>B1 HL δ|AsS=>bg AKb|AsT=>D4 its.size|AsU=>D4 N1|AsV=>D4 Kx|AsW=>D4 E1|AsX=>GN (sD zxu aN δ ε)|AsY=>GS TK δ|AsZ=>AnZ _ _ δ|Asa=>As zg9|Asb=>As zpu|Asc=>As zpw|Asd=>As zp6|Ase=>As znr|Asf=>As zj2|Asg=>As zi9|Ash=>As zhu|Asi=>As z10|Asj=>As zd7|Asl=>As zn0|Asm=>As zn8|Asn=>.CB Aol.2.2|Aso=>(CU Aps)|Asp=>(N_ hl)|Asq=>SeqAt.EqAt.same _|Asr=>Cl DD|Ass=>i<AY1|Ast=>i<A9s|Asu=>(KI A9)|Asv=>(KI JE)|Asw=>MV eP|Asx=>MV MH|Asy=>MV "all"|Asz=>MV "max"|As0=>MV "any"|As1=>MV Rl|As2=>by rw[IZ] at h|As3=>M1 e|As4=>Ps e|As5=>.Ψ (qi sep δ)|As6=>IsTup.new _ _|As7=>EB ARK|As8=>Y1 ydn|As9=>Ee Bct|As_=>by rw[APh];exact δ|As'=>DB (by cases z)|AtA=>C9 O.key.length_eq|AtB=>(Y1 yiu)|AtC=>Fu ϫ|AtD=>(.AF ns.sum)|AtE=>(.AF ARv)|AtF=>(IF CL)|AtG=>(.AV hk)|AtH=>by (exact Iy δ zL)|AtI=>x_ (δ (ε ζ η))|AtJ=>o.dict=Ε|AtK=>ADK Tok|AtL=>E8 (GT p)|AtM=>zI OI|AtN=>(.A8 ys)|AtO=>AZN xs δ|AtP=>E9 I2.kIn|AtQ=>AnD (δ ?_)|AtR=>by subst r;rfl|BW1=>kl XX|AtS=>L.hS b hb|AtT=>iB ρ δ (X.map ε)|AtU=>Tk AJB δ|AtV=>(q_ ACV)|AtW=>.none_int _ _|AtX=>.none_str _ _|AtY=>.bool_bool _ _|AtZ=>.int_none _ _|Ata=>.str_none _ _|Atb=>b∈bE|Atc=>Y3 ACp|Atd=>F8 YI δ|Ate=>by show Abg;exact δ|Atf=>D ->AO|Atg=>LF A6g|Ath=>LF (i+1)|Ati=>#[o9 aL]|Atj=>OG ĺ|Atk=>AYT ?_|BW2=>AnC δ ?_|Atl=>ADT BWd|Atm=>k<J_|Atn=>A8H j δ|Ato=>NE (fun ys hy=>(B1 δ ε))|Atp=>QQ AO|Atq=>QQ Result|Atr=>(.Ψ x)|Ats=>AI9 hi|BW3=>MR<=i|Atu=>Gl X ĺ|Atv=>ze (pO (Cn (δ Z)) Z ε ζ) η|Atw=>zo δ (KE s' ε)|Atx=>OM YI δ|Aty=>(JY .SE)|Atz=>(rq DE)|At0=>ft LH|At1=>e _ _ h1|At2=>(ADR (ADR AoN))
|At3=>r7 (AW0 i δ)|At4=>DV AE C|At5=>(.ow xs)|At6=>(.ow ys)|At7=>MX q AJn|At8=>(gN old)|At9=>WJ zx4|At_=>i<=B5|At'=>AZx Ξ|AuA=>bo W.isFn (B0 f)|AuB=>(An' Tc)|AuC=>D7 σ cv|AuD=>rB x=Θ|AuE=>ŵ (cZ (Ae A5 uJ δ)) ε|AuF=>List.mem_filterMap.mpr ⟨δ,ε,ζ⟩|AuG=>aI δ (EB (ε hb))|AuH=>.seq AH n|AuI=>ADp AH|BW4=>tn i eh|AuJ=>R0.g b u q|AuK=>AQK Rc δ|AuL=>AoH z82|AuM=>AQM Rc δ|AuN=>(δ _ z).2.1 Z|AuO=>s1.Ak e2|AuP=>[MI,ł]|AuQ=>LB d X|AuR=>lt a b=Θ|AuS=>xc hj|AuT=>A6u hj|AuU=>(Am_ gr)|AuV=>(Õ (c::cs))|AuW=>APH h'|AuX=>δ (AnC ε ?_)|AuY=>AD_ ó|AuZ=>(VO y yp)|Aua=>E2 rt d|Aub=>T A7|Auc=>(OC).ax|Aud=>(Oy).ax|Aue=>(frs CF)|Auf=>(BaN p)|Auh=>(topStub p)|Aui=>ã (ADm (Sem Unit))|Auj=>(gD AR0 H)|Auk=>(AJw A5)|Aul=>by show î AHx δ|BW5=>by have:=δ;simpa using this.symm|Aum=>(Ϝ ê)|Aun=>(AaE YY)|Auo=>PE X o to|Aup=>Cv= .AT C|Auq=>NF mE q δ|Aur=>.DJ _ _ _|Aus=>.bool_str _ _ _|Aut=>.str_bool _ _ _|Auu=>(Y_ Ŗ Oy t')|Auv=>sL _ h Cf|BW6=>[MI,Po,TC]|Auw=>AJ5 Ź|Aux=>Aob (fun δ A_ F2 H2 R2 s2 ε=>ζ)|Auy=>(qS ū AoT Ε)|Auz=>AmN ⟨δ,ε,ζ,η⟩|BW7=>δ=B2+1|Au0=>Al9 y=Β δ|Au1=>ş Key AD|Au2=>bo Nt C|Au3=>bo W.hasDictIn C|Au4=>(IF (AKR+1))|Au5=>AQn δ APl ε ζ|Au6=>(uK (cV 2))|Au7=>AQq FE δ|Au8=>(ϱ bf)|Au9=>(AEt HI)|Au_=>(AQu A9)|Au'=>(Ŝ AIf AoY ds)|BW8=>AaV base.Ns|AvA=>∀(ha:aa a tA),_|AvB=>∀(ha:PT X a tA),_|AvC=>((k,x)::r)|AvD=>(D8::vs)|AvE=>VS jP δ 2147483647|AvF=>AKK AY2|AvG=>(hc p hp)|AvH=>h'.IsCell c v|AvI=>AJ0 p9 (zX _ hb)|AvJ=>AJ0 AIp (zX _ hb)|AvK=>AJ0 AZe (zX _ hb)|AvL=>Ane nd|AvM=>(AKS DE)|AvN=>LB t d|AvO=>LB t BC|AvP=>AIs (yz i δ)|AvQ=>AKW δ LX|AvR=>ARL (AQy tb e δ)|AvS=>by unfold δ;rw[ε,ζ];rfl|AvT=>kA (q_ XY) δ|AvU=>z9k s1 h1|AvV=>oe.data= .ACY vs|AvW=>ARj MH|AvX=>(.pv Û f xO)|AvY=>AIn (o:=δ) ε hp|AvZ=>(Aoz AY)|Ava=>(O7 (qw k)).B_|Avb=>i4= .UX es ep|Avc=>C≠U_|Avd=>by (show BWn)|Ave=>by simp only [ACx,hx]|Avf=>[FU,XL]|Avg=>PW X (AJe Or δ) ε|Avh=>(vs= Á q)|Avi=>(ARp ARu)|Avj=>MX h h|Avk=>⟨o,δ,O.ex.1⟩|Avl=>(F8 z (zB _))|Avm=>.DJ _ fs xs|Avn=>.AU _ t|Avo=>ARt Ab6|BW9=>(AP8 ER AOh)|Avp=>k b o hc e|BW_=>ZE ta (WB (.exc C0) δ)|Avq=>R (.ok (ApX δ)) ε|Avr=>AIO b o e n|Avs=>(A_B x y)|Avt=>ARy 0 D'|Avu=>(Ao_ dx)
|Avv=>(by
 rcases δ with z | z
 ·rw[ε];exact ζ
 ·exact η)
|Avw=>jl t1 δ i1 l1 (k1+1)|Avx=>jl t2 δ i2 l2 (k2+1)|BW'=>[ı,bP,ľ]|Avy=>sc.kind= Ÿ|Avz=>by rw[kF,AYr]|Av0=>by rw[kF,VM]|Av1=>a<ay|Av2=>AW1 (.δ _)|Av3=>[EU,HI]|Av4=>[EU,AYU]|Av5=>AIy (zK δ)|Av6=>FG QW (AJe Or δ) ε|Av7=>SL p sx|Av8=>((v.1).val k).lR|Av9=>(UA cj JA)|Av_=>(k,x)::r|Av'=>Abe JY δ|AwA=>(.AU Z C7)|AwB=>.none_tuple k2 hu0|AwC=>.none_list k2 hu0|AwD=>.tuple_none k1 hu0|AwE=>.list_none k1 hu0|AwF=>.bool_tuple _ k2 hu0|AwG=>.bool_list _ k2 hu0|AwH=>.tuple_bool _ k1 hu0|AwI=>.list_bool _ k1 hu0|AwJ=>s1h b o q|AwK=>(.ob C' JL Nk)|AwL=>(.ob C2 JL Nk)|AwM=>ZI wpAny_dictEntries Ν CO|AwN=>ZI wpAny_dictEpoch Ν CO|AwO=>(U0 N (.tr Θ tt) ds)|AwP=>Abx AFQ|AwQ=>.tuple_list k1 k2 hu0|AwR=>.list_tuple k1 k2 hu0|AwS=>by show T_ CS H' δ h ⟨CS,H',Zk ε,ζ⟩|AwT=>by show T_ CS H' δ h ⟨CS,H',zm9 ok ε,ζ⟩|AwU=>Ab4 (δ CS H')|AwV=>VT (fun t Ω F1 H1 v as R1 s1 nd hn r1 h1=>δ)|AwW=>Apm δ AIT|AwX=>W.KasT α|BXA=>A8'= #[]|AwY=>FR ->β|AwZ=>(OZ vs)|Awa=>(APE j6)|Awb=>A8s δ BN ε|Awc=>⟨zv,z.pn⟩|Awd=>[pj,A6v]|Awe=>(KE j (j≠0))|Awf=>Kt H H1|BXB=>VQ A9w 0|Awg=>(δ).B_ o_|Awh=>(bp AY 3)|Awi=>LA ua q δ|Awj=>⟨o,ho,hd⟩|Awk=>∀[XA tf] (ApV),_|Awl=>(fun b z=>(AQc z))|Awm=>R.g b u e'|Awn=>(by show LE 2;decide)|Awo=>ADZ Sc se|Awp=>nG K H p xs|BXC=>Q_ ek z|Awq=>ϊ (AI _ (AW1 AQk))|Awr=>uV ρ u s|Aws=>(oh ks k)|Awt=>JF HP BE|Awu=>AFV JQ δ (BVf Ò)|Awv=>Ap0 IB|Aww=>Ap1 Lc|Awx=>AbL aF sp|Awy=>(bc z).Ok|Awz=>(Bu xs lo hi)|Aw0=>AYj (Ϸ hb ?_ δ ε)|Aw1=>Aaf 2 D'|Aw2=>(cB g ta tb)|Aw3=>AX x D_ st|Aw4=>APW it A7 h'|Aw5=>by show AqB Bby δ ε|Aw6=>by obtain⟨vs,H1,I1,r,F1,Ω,ds,R1,sF,rs,q⟩:=Bx|Aw7=>DI×Η×AD|Aw8=>ARk*7919|Aw9=>by show BWQ TN δ|Aw_=>subscriptTail_builtinR (x:= δ) ε ζ η hs|Aw'=>Bci δ ε Rl|BXD=>[xx,ACa]|AxA=>δ (cT (cB pN ε (cC (On ζ)))) η|AxB=>D7 ds d|AxC=>D7 Ω (g9 as ks ts)|AxD=>(vs++ws)|AxE=>(Ap++AH)|AxF=>X _ _ ho|AxG=>aB K C f|AxH=>DC c hc|AxI=>Pa BWy=Θ|AxJ=>by show E7 (v=Pp a) r1|AxK=>Lo es us|AxL=>a=U_\/δ|AxM=>R2.sl i _ e2|AxN=>Da δ [ML,S_] ε|AxO=>SL l sx|AxP=>∀(K:Φ)(ta:TA),_|AxQ=>(wM (qv 2))|AxR=>WF r ApB|AxS=>xJ lt is|AxT=>(AP_ aw Zp)|AxU=>ej e s'|AxV=>gL QF tf|AxW=>(An3 j Fd)|AxX=>IB p _ hk|AxY=>(TP X Μ σ Q)|AxZ=>AJ ->kT (GI δ) XV|Axa=>Â AI8 Abm|Axb=>lT H' ARc|Axc=>by rw[AYQ hiσ] at e2|Axd=>É A1 A9|Axe=>tm (ARw z)|Axf=>AJy F2 es|Axg=>fun es A_ F2 H2 vs R2 s2 r2 h2=>δ|BXE=>eqB d e=Θ|Axh=>nG AE H a xs|Axi=>(∀p∈JP,ApB)|Axj=>∃v,gi δ/\NL|Axk=>∀ds Q Ex,sp ds Q Ex ->δ|Axl=>(GV (j>i) j i)|Axm=>∀(sp:dD)(t:dH),_|Axn=>Aar dx a|BXF=>by show BWb AIg|Axo=>cZ (Ae A5 (uK (cB fZ δ GW)) uJ)|BXH=>⟨δ d UH,lh h1 s⟩|Axp=>Q (.AF δ LX) (AJ5 Ź)|BXI=>(cB cD A5 AFR)|Axq=>ly t' EX Oy|Axr=>fg (¬Tu) H1 H|Axs=>(Km EA X.w q ns)|Axt=>qW ks k=Θ|Axu=>LA (δ r) l (Β (ε))|Axv=>by show O_ f fd bd|Axw=>Ba_ it a i|Axx=>Apw Ω k|Axy=>(upd H1 a sf)|Axz=>R0.sl j s' q|Ax0=>∀(hd2:VU y ń:=by decide) (FQ:VU y AOw:=by decide),_|BXJ=>Š F' H' CS A4|Ax1=>ARe TU JI (fw _ _ _ δ ε)|Ax2=>AqA (t_ 1) 5|Ax3=>Fo A7 x dx C mA|Ax4=>VB I1 (HP _ _ ea) hc δ (TJ ε) ?_|Ax5=>YL I1 (.AV ⟨Υ,δ⟩)|Ax6=>T7 kv e3|Ax7=>(S0 w os)|BXK=>.AV ⟨_,kk,δ,Z,Z⟩
|Ax8=>(k,x)::nJ f v r|Ax9=>xU AEn++D'|Ax_=>zr2 (s:=s) (v:= δ)|Ax'=>Ϫ A6x δ j (tC (.ε ζ))|AyA=>(AaU (dj (na b hb)))|AyB=>XB (δ tf g b)|AyC=>by show EG (Ih δ ε (ζ η));exact k _ Ω F1 _ θ _ Ν s1 A3 ED Q1 ι uS μ|AyD=>looks_findIn (M:=Ń BA w) X δ|AyE=>Steps BA w A I S E1 ep o δ ε ζ|AyF=>(jj sc C Be)|BXL=>BWu δ (wM (eO ApH ε bx))|AyG=>δ ks xs k=Β d|AyH=>⟨s',o,q,Ν,hb⟩|AyI=>by obtain⟨o,e1,v,Z,nd,hn,rt⟩:=AKi|AyJ=>SP δ Μ D f s|AyK=>cx.pX Μ σ Γ F H s e s' I R δ|AyL=>AnH (AI0:= SY) (h₀:=SA) AnI δ ε hst hpl|AyM=>fun z E cx Μ s σ H Q I hq=>δ|BXM=>Ϧ C (Am8 nm qn C N bs bm kG sn sub ab col dd k0 k1 k2 k3 k5 δ)|AyN=>r.inj r'|AyO=>APH eh|AyP=>Aly 12|AyQ=>OY ->OY|AyR=>j≠0/\Ey j<=9000|AyS=>AQN AIK\/δ|AyT=>by wp_walk using BWT,BWU|AyU=>o_ (toString δ)|AyV=>l.most=Β n|AyW=>⟨vw,hd⟩|AyX=>[Po,pj]|AyY=>[ACa,xx]|AyZ=>[x8,ML]|Aya=>["count",AmJ]|BXN=>(b₀::suite)|Ayb=>∀H1,bj H1 ->δ|Ayc=>Dx ke tk|Ayd=>Dx (AP_ ĺ δ) ε|Aye=>DC i hi|Ayf=>APu (fun Γ=>δ) ky|Ayg=>NA (b∈bs) gS|BXO=>by show ul;show ZH;exact δ|Ayh=>Au a bs|Ayi=>by obtain⟨_,Z,_⟩:=h;rfl|Ayj=>by obtain⟨_,_,Z,_⟩:=h;rfl|Ayk=>Tk OZ vs|Ayl=>Tk AZX APi|Aym=>J2 B5 k|BXP=>An9 P (ŉ (.AT it))|Ayn=>(F8 e AYd)|Ayo=>eX AE te|Ayp=>NC (kA (P3 δ) ε)|Ayq=>Tl (ss (Ŵ δ) (Ŵ ε) e)|Ayr=>(VW h _ I hw)|BXQ=>by show δ+1<Ō;omega|Ays=>(k==AnP)=Θ|Ayt=>Bdq (ADq δ) ?_|Ayu=>cZ (uU AY δ)|BXR=>(by rw[isSubtype_type];kernel_rfl)|Ayv=>(Amq (.AT a))|Ayw=>ZI BWz δ BcP|Ayx=>by rw[TN] at h';exact⟨δ,ε⟩|Ayy=>Qb (BVa d)|Ayz=>OM (dj ne) j4|Ay0=>(fq _ (v= .bl Θ))|Ay1=>ADb AnR ART|Ay2=>PS X st t|Ay3=>aq K C Cd=Θ|Ay4=>gd (δ) ((K7 ε ns).B_ fun ms=>AI3 ζ)|Ay5=>by cases h;subst r;rfl|BXS=>by have p:=AZY δ|BXT=>Q_ (lY r1) mM|Ay6=>ACN tf s h (y9 ds δ)|Ay7=>AR6\/δ≠Ε|BXU=>δ+kQ+AZc|Ay8=>δ c t ds BWm E|Ay9=>R (.ok (.DM δ)) ε|Ay_=>∀(x:AJH AHz AD),_|Ay'=>by rw[he2];refine Amb ?_|AzA=>D4 (i.length+j.length)|AzB=>Z3 (AaM A9 δ)|AzC=>(y,k)::r|AzD=>AJU δ (QC (AR4 ε))|AzE=>Â ACv ACX|AzF=>t Γ P E|BXV=>(lP (k a ha).2)|AzG=>lfr (i:=δ) (m:=2147483647)|AzH=>AoC Ν CO δ|AzI=>(match r with | Ε=>D6 | δ=>ε | ζ=>η)|AzJ=>(GV neg mI .In)|AzK=>XA.ok (t:=δ) ε ?_|BXW=>Aoe δ ε DZ a|AzL=>[x8,ACf,o5]|AzM=>["start",x8,o5]|BXX=>(c_ hst Hh)|AzN=>{s with drawn:=d}|AzO=>s_ A9S zpd|AzP=>mB ⟨δ,lh h1 s1⟩|AzQ=>(σ[j]?).join|AzR=>fN tt X|AzS=>(AQU BK σ)|AzT=>AEW δ A6K A6L|AzU=>kL δ TO x y|AzV=>(QY yX JA (cO A1 bx) Ş)|AzW=>⟨G' "type",δ,.cls cd,ε⟩|AzX=>Inv X Μ (ϩ δ) H s'|AzY=>k b ob q|AzZ=>HG [G' Rl,v]|Aza=>∀k:Ζ,k<14 ->δ|Azb=>L8 [a_] a_ δ|BXY=>(v+ cr).TM|Azc=>(Ñ+ AFH*1).TM|Azd=>sIx n n hi|Aze=>(AW1 (.tr _ _))|Azf=>(AbU Sj hb)|Azg=>fS far a (AJ1 hne)|Azh=>∃a Υ,NI/\δ/\ ε|Azi=>fun σ H R=>te σ H (fc v δ)|Azj=>ZI (seqEpoch_at (n:=ea)) δ Z|Azk=>(cB j7 OP (cB cD AY GW))|Azl=>fun k=>(AR7 k.stay Abz z δ z ε)|Azm=>by rw[OH (BWB (Pp l))]|Azn=>by show c∈_;simp|Azo=>by rw[AY5 δ];simp [N0]|Azp=>⟨u,C9 Ν,AI⟩|Azq=>AKH FF tn|Azr=>(Au).up f|Azs=>AKI zya aK δ|Azt=>∀[XA te] [XA tl] [XA th],_|Azu=>AFK (kA AEh (δ::us))|Azv=>wX F H b|Azw=>(z8 _ (z9 _ Z))|Azx=>(δ (AI_ FE ε 0)).LY|Azy=>AFa Ν CO|BXZ=>APa (ZT δ #[D8])|Azz=>bB (gk (HQ δ ε))
|Az0=>Yh (H x)|Az1=>(j.1).get BS|Az2=>∀(h:AN)(H:Hp),_|Az3=>by rw[z,Bat [C] BN] at q|Az4=>ARa TH TH δ|Az5=>fun Γ P E=>ta Γ (fun d A4 =>δ) E|Az6=>LA (RP X) t δ|Az7=>Ami vl lo|Az8=>Ami vu hi|BXa=>[N4,TH,i']|Az9=>[Po,MI,TC]|Az_=>by show ARq (AQ7 n1) ed|Az'=>e=x\/Aar e x|A0G=>k b o (P_ (AQ7 hc)) e|A0H=>ne b _ q AFT|A0I=>no b _ q AKO|A0J=>uB (∀a< AFP,δ)|A0K=>eM (JR c0) []|A0L=>∀(K:FR)(a:Η),_|A0M=>∀s',Aap ->Q (Ë δ) s'|A0N=>∀(AR8)(a it:Η),_|BXb=>min v.toNat n|A0O=>(zsa I S)|A0P=>NC (δ (B0 x) Fm ε)|A0Q=>L8 [a_,δ] a_ ε|A0R=>(j - i).TM|A0S=>(hi - lo).TM|A0T=>Qr Amq (BbU δ ?_)|A0U=>(hm b _ q (DB z))|A0V=>AQc (K_ (b∈ ([]:BH)) δ)|A0W=>ϰ d IL δ LO ε|A0X=>cT (cB (Di δ) ε (cC (.BM ζ)))|A0Y=>AKg b s1 ?_|A0Z=>[oS UY,oS AW6]|A0a=>[oS OV,oS o6]|A0b=>(K8 g tc te (AQU OJ X1))|A0c=>Ab5 Q Q|A0d=>VT (fun t Ω F1 H1 v as R1 s1 nd hn r h1=> ?_)|A0e=>by obtain⟨h1,h2⟩:=h|A0f=>zO Ŧ Ŧ|A0g=>(a.free c ob q n hx)|A0h=>Apo yY ek δ|A0i=>(.vH ks AFO)|A0j=>A0 ms hp' hs|A0k=>(.AOy y3 x1 AB)|A0l=>z6 (x_ (cM δ ε))|A0m=>(yk δ ε []).pr|A0n=>bt (.Return AbV AB) δ|A0o=>xU AEn++EF " "|A0p=>∀(t:T)(row:Ξ),_|A0q=>E6 (N3 fi) AH|A0r=>(AEl ks (An6 Hu).B_)|BXc=>(kS hl1 AI6 D.l1z)|A0s=>P7 (specialOf _ _) (Bbk hT2 δ ?_)|A0t=>RM g b ds X1|A0u=>Ap9 ApC BWt|A0v=>EV (pW (O9 hj)) (h j hj)|A0w=>AZ2 D2 (I (i+1)) (I (i+1)) AIs|A0x=>∀k v,Aa' ->kf v=k|A0y=>ze (Nf δ aH ID (ADd aN aO)) JA|A0z=>BWG p p|A0_=>by show BWJ ((g==δ)=Θ) beq_iff_eq.mpr ε|A0'=>∀(G:Ab7 δ)(hr:UB)(hg:KU)(ha:RA)(hU),_|A1G=>BWR x (δ o ho)|A1H=>KV Υ ws|A1I=>h.Ns1 dx mA|A1J=>ds=JY SV|A1K=>(Pp C::bm)|A1L=>δ AKX (zZ Cc)|A1M=>fun b ob q _=>δ|A1N=>(yz i (.pu (.exc C)))|BXd=>by subst z;rw[δ] at mu;exact mu|BXe=>ys[k2]?=Ε|BXf=>(AqE Kk (AI5 _ I _))|A1O=>km F2 H2 A_|A1P=>Tm Aol Aol.2.1|A1Q=>∀(as:BH) (t:T),_|A1R=>Og (Hi (yW δ))|A1S=>Rh 2 Tq (fm δ)|A1T=>W.codeIn K cdv D_=Θ|A1U=>by show ADz hl hb h|A1V=>ϝ (k b hb) (AKP h)|A1W=>(tM ks vs k v)|A1X=>fun j hj=>δ j (zX _ hj)|A1Y=>(bc ⟨xe,Apx⟩)|A1Z=>(vals.map kf).qf ks|BXg=>.AU (AQ4 (HK δ (Pp ε))) r|A1a=>Ab2 (AEo k δ) (By x) AKo|A1b=>fun xs ds P=>(ů δ ε)|A1c=>BQ NI δ Z' (R vs) (ε F ks R v)|A1d=>⟨_,P9,Z,_,Z⟩|A1e=>Yf Dz δ (X.map xfn) d _ (me (ε d=Θ) d X)|BXh=>UF b hb b BN Z|A1f=>∃a bs tt,Abw Ω/\sp tt ds (fun t' d=>(AKf BVp)) (AKt BVp)|A1g=>Bcm hT δ (AQn ε hT ζ η)|A1h=>δ Uf p w 11 ann ε ζ η=Β θ|A1i=>Hd.intO (AOe K eQ δ)=Β ε|BXi=>A7s Z (Bbb ?_)|BXj=>∀u,SL q u ->H' q=Β u|A1j=>BWk (LF δ) (.AF ε)|A1k=>Wf Ao6 Ao6 (P.ne A2 A2 δ) ?_|BXk=>BindsTo s fd (HG [u]) [(x,u)]|A1l=>∀w' s',Aap ->δ ->Q w' s'|A1m=>sp [ZN] (fun r=>(E_ r)) fun Cx=>E Ω Cx|A1n=>BWx hc hx|BXl=>fun d A4 F' H' v R' s' rv hp=>kk d A4 F' H' v R' δ rv hp|A1o=>δ=operate ε (AO6 ζ η)|A1p=>(Tl (kp b o (P_ ?_) aT))|A1q=>fun w hw q=>δ|A1r=>∀{xs ys:AJ},δ|BXm=>(l.Pairwise (ARz (a.1≠b.1)))|A1s=>(revObj l (ARl - 1))|A1t=>(s3.seq (s2.seq hq))|A1u=>sB/\P4 H0/\ADs b|A1v=>ARZ (AQh δ ApQ ε)/\K0 TK ζ/\η|A1w=>(.bS y np::e::es)|A1x=>Do (GI G2) XW|A1y=>⟨δ,FA,aS,h0⟩|A1z=>A0 p hp z|A1_=>R'.sl 0 _ e0|A1'=>Inv X δ σ H s|A2G=>∃X,KM/\ϵ δ|A2H=>by rw[δ] at ε;injection ζ with η;injection θ
|BXn=>[AOr,AIJ,"x"]|A2I=>[x8,ML,"rests"]|BXo=>[(On Ĳ),(On "middle"),(On "pair")]|A2J=>GV (k=f) ((k,v)::r) δ|A2K=>APu (Id (Pd BC)) Pd|A2L=>VX (Ŋ (Om w))|A2M=>(δ t1 t2 h l1 l2).ŋ ε|A2N=>{s with heap:=δ,drawn:=d}|A2O=>g δ σ H (AQr (tb (AQx AQ8 AQ8) σ2 H2))|A2P=>ff RY FD FD|BXp=>ff ĵ pM pM|A2Q=>ff Ķ pS pS|A2R=>ff ķ pE pE|A2S=>Hd.glb_int (h:=h) X G δ|A2T=>pO An_ Z aP A6n|A2U=>fg (b∉δ) F' F|BXq=>(NK K F H Ex E)|A2V=>(AJJ B2 s H fp)|A2W=>WC (δ ε (A0 h2 e2 sb))|A2X=>ZI A8p hol hdl|BXr=>b9 ty y (l_ td x δ)|A2Y=>Vh c C s|A2Z=>∃ks xs,Ap7/\δ|A2a=>∃cs t',Ì Γ (.tr Oy t')/\δ|BXs=>∃es,i4= .UX es ep|A2b=>Bd AE H y k|A2c=>sR (AQc (K_ (p∈ ([]:fB)) hp))|A2d=>(fs.any fun f=>(Κ (f=(TD :Ξ))))|A2e=>δ nd Z EZ (CU ε)|A2f=>lZ F0 F b|A2g=>t (uQ a δ) (Ŝ N (.tr OC tt) ds) (uR a E)|A2h=>∀k,δ≠ .kt k|A2i=>(dG Γ σ H)|A2j=>XA (δ te tl th)|A2k=>AJx (.δ ks' ys) (Κ (ks=ks')&&uk)|A2l=>∀(AEb){F H:Hp},_|BXt=>(kI h1 AI6 D.i1z)|A2m=>(Ba9 tg Aa7 u)|A2n=>by exact fun A4 s' =>k a A4 δ ε ζ|A2o=>AQg l l l δ|A2p=>⟨fun xs ds=>δ,fun{xs ds P r} h hp=>ε⟩|A2q=>∀{P:A6}{w:AZ}{K:Φ}{y3:CY}{x1}{AB:AR},_|A2r=>by show AE_ xs x hg|BXu=>Gr F0 H0 F' H|A2s=>o8 Ω σ i b|A2t=>fun σ H=>(BVh (I IM A_))|A2u=>ACr (AEy (AJs (AKJ R.g δ) (R.g b u e)) (AJs (Ŵ ε) e))|A2v=>AKa (Aaz tb e δ)|A2w=>AKq ⟨δ,H2,I3,Z,q2⟩|A2x=>(items.toList.drop (sIx N1 0 lo)).take|A2y=>by have δ:YO=E1:=C9 hps.length_eq|A2z=>∃(AH:An) (n:Ζ),δ|A2_=>(yl (LH (BWl ARs ?_)))|A2'=>fun d A4 =>Ì A4 (.pu (.ptr a))/\δ|BXv=>Ya ĳ X9/\AJ_ X9|BXw=>Ya Ĵ U1/\AJ_ U1|A3G=>∀ms:δ,APV ε ->ζ ->Abi η|A3H=>∀{K:Φ}{h:AN}{C:Η},_|A3I=>Sq t1 K H a xs|A3J=>Sq t2 K H b ys|A3K=>Abt (∃vs,ARF/\h.DictOf AFJ a vs)|A3L=>∀(K:Φ)(F H:Hp),_|A3M=>Abv ds AJ LM δ|A3N=>⟨F1,Ω,R1,r_,δ⟩|A3O=>MZ hs b δ (BWc hb hx)|A3P=>⟨cs,t,e1,h⟩|A3Q=>(Option.any_eq_true _ _).mp|A3R=>(relabel sc Be).A8c|A3S=>#[V9 Z Z iz (MU δ ε)]|A3T=>NH x c e z|A3U=>(sw (r6 (S b) H2 (H' b)))|A3V=>∀x y c,δ ->ε ->x=y|A3W=>by rw[q] at h;cases h;rw[δ r q];rfl
|A3X=>by
 by_cases hb:b=a
 ·subst hb;rw[j4] at e;cases e;exact δ
 ·rw[ð] at e;exact ε
|A3Y=>AEx Bde Abj PySem.F.entry_str_split PySem.F.args_str_split_2 δ ε|A3Z=>∀d v F' H',à ->δ ->ε ->ſ|A3a=>Ap8 Ω AKj Abk|BXx=>by show AbP h1;exact Xu.ok hr (hp _ s1)|A3b=>P (BW xs ys) Ω|A3c=>(by rcases δ with z | ⟨z1,z2,z3⟩)|A3d=>∀(f:Ξ)(v:V),_|A3e=>zQ (AOu Cc) hle|A3f=>δ (a:=ε) (o:= ζ) (t' :=LX)|A3g=>Ctx X F0 H0 E|A3h=>Amq AEh=IC (P3 "method_descriptor")|A3i=>Sf (Aaz tl l (y5 th s2 h2 fun u Γ3 X3 s3 h3=>δ))|A3j=>gT (AQy tl l (Yf bnd th X2 u X3 δ))|BXy=>∃AH:An,AKd/\δ/\WN|A3k=>δ f t v bs (V' (k b (zR _ hb))) h1|A3l=>by obtain⟨bs,e,Z⟩:=ő h|A3m=>Ų Nb (Cn Uu) fM Uv δ|BXz=>DM (Xu.x g d) X1|A3n=>∀b xs,ZU Z_ ->ARJ Z_|A3o=>⟨F2,A_,_,R2,h2,fun u Γ3 F3 δ R3 s3 ε=>ζ⟩|A3p=>by obtain⟨b,_,_,_,e,_⟩:=h;exact EV _ e|A3q=>AnE X.A MM s H δ ε ζ Q|A3r=>∃i j,Aa0/\y= .AF j/\C i j/\δ|A3s=>BWr Ν CO A3 δ|A3t=>Hl ds g tb D0 E Ω|A3u=>(by simp only [Rep] at r;subst r;cases d' <;>simp only [Rep] at r' <;>first | (cases hf;done) | (cases r';done) | (cases r';exact zr0 _) | show BWs)|A3v=>by obtain⟨ol,hol,_,nl,hdl⟩:=δ|A3w=>by simp only [į,A8z,or_false] at hc|A3x=>Itz K t1 t2 a|A3y=>∀σ H,Pv δ σ H ->AaR|A3z=>HE ch (BWi/\AQ6/\ (uj b)/\AKp b)|A3_=>∃i j,Aa0/\y= .AF j/\δ|A3'=>(zH1 t1 δ l1).Al6|A4G=>fun i s o a e=>δ|BX0=>[xx,ACa,"_law_told",AYF]|A4H=>APJ δ 1 (N0 (Ñ+1))|A4I=>(jh CX P w K mg B9 N D_ HH f cdv A CF s H E)|A4J=>δ (qu FU) (qu FU)|A4K=>PassesOwn uC X.A Be ej|A4L=>∀(UE)(tg e:AG)(mT),_|A4M=>AoB (δ zS tg e (An' ε))|BX1=>BindsTo s fd δ (AYe ε)
|A4N=>(by
 rcases AbT with Z | z
 ·exact Ϩ zK e Aab
 ·cases z)
|A4O=>(CV KK (CV pT JD Abb) he)|BX2=>sp AQ2 (fun r=>xu r/\P r Γ) BWh|A4P=>Sq t AE H a δ|A4Q=>wB knd kf led δ a ε|A4R=>AEI (AYS δ u (.AT a))|A4S=>(VC vs).pr δ=Β v|BX3=>∀(hs:GU Zp=NB a [b]:=by rfl)(hpl:AP4 AB [b]:=by rfl),_|A4T=>fun x lo hi H Q=>δ|A4U=>k _ _ F H (AYx sF) II δ|A4V=>Ų zr8 (Cn ybo) d8 boot_list δ|A4W=>SQ ha hb I h|A4X=>[FS,AmH,ı,ľ,bP]|A4Y=>⟨δ,_,_,e1,í,AbS,Ν.2.2,ε⟩|A4Z=>by show Ap3;show HA l xs Z δ q1|A4a=>∀{tb:TS}{D:ei}{σ:St}{H:Hp},_|A4b=>∀(AqF) (B9:AN) (C:Η) (m:Ξ) (k:Ζ) (ps:AA) (sp:δ),_|A4c=>∃u,YA e=Β u|A4d=>(I.ok.cab x c hfn hc)|A4e=>(Amm lo hi Ε n)|A4f=>O6 c (.DJ ER fs xs) row|A4g=>by obtain⟨b,_,_,Z,e,_⟩:=h;show OO;rfl|A4h=>∀(hb:ac F7 f F7=EW F7:=by rfl),_|A4i=>δ f ts us cs (V' (k b (zT _ hb))) h2|A4j=>fun b hb hc=>(hnc b hc).2.2 i (C4 b hb)|A4k=>k _ A_ F2 H2 _ R2 Ty II δ|A4l=>∀(i:Ζ) s o a,D7 δ s ->¬õ|A4m=>zks δ fun i x u e1 e2=> ?_|A4n=>⟨⟨R0.gr.f,md,δ,re q (R0.gr.n b o q n)⟩,R0.len,A0 j s' q,R0.ap⟩|A4o=>s.heap.IsSliceOf sl vl vu CI|A4p=>∀(hN:Hk)(hv:NN)(Ab3),_|A4q=>(Anf t2 es1 (Bcc APe))|A4r=>AEe<=i/\i<2^62/\ AEe<=j/\AbX|A4s=>Xm.x (CP c0) Ab0 Abp|A4t=>(f Abr (.AF j u))|A4u=>∃f fd,AEo k δ/\AJk C m/\AQY|A4v=>fR aF (Az XI XX (O2 c)) δ|A4w=>∀(te:bO)(tl th:JK),_|A4x=>pI (Al1 f) (mA f)|A4y=>fun d A_ F2 H2 v R2 s2 r p=>(AqD r p)|A4z=>fun Μ s σ H Q I h=>δ|A4_=>(AQ4 (gR (Slot.ow ds) Ů a))|A4'=>(fun C dx H' =>∃A4 F' x,ApC /\F6 /\ŷ BWq/\ (APK=x\/AQ_ H/\AbW (ADc A4 b))/\E A4 x)|A5G=>δ j y v' e1 e2 e3|A5H=>Aoh (ADi ACg (Tx (eb b o hb e)) f0 f1 f3 f4 f5)|BX4=>(gz r (r= .ok (.DM (.js Θ))/\OldK œ eh/\s'.os=s₁.os/\AKk))|A5I=>⟨G' t,_,.seq xs _,_⟩|A5J=>∀(t:T) (v:V) (as:BH),(AQw δ) ->Ϥ ->ε|A5K=>∀(ts:Ev) (vs:AL) (as:BH),(AQw δ) ->Ϡ ->ε|A5L=>(APY (Hz n) xs ys).all id|A5M=>ADi ACg (Tx AbB) f0 f1 f3 f4 f5|A5N=>∀Γ F' H σ,Apu ->F6 ->δ Γ ->ε|BX5=>I.step (g' :=Alc) (d' :=AH2) (ch:= δ)|BX6=>entryFor_alias (id' := δ) BVl Z Md BVl|A5O=>⟨_,AK _ _ cx,F0,ji N ds,δ,Zh sF rs,BS ds Pd Ex hsp,ε⟩|A5P=>(by rcases hc with Z | Z | Z | Z | Z)|A5Q=>δ aU bU cF bM bI aO|A5R=>δ (knd:=AbK rA) (Υ:=ws) (ep:=ep)|A5S=>∀{H:Hp}{Υ:dA}{xs:AFX},_|BX7=>fun Γ5 F5 H5 σ5 R5 s5 q=>δ|A5T=>fun d v F' H' gr r h=>δ|A5U=>[ML,S_,ACf,o5,"rests","steps"]|BX8=>fun j y v' e1 e2 e3=> ?_|A5V=>by obtain⟨h',g',d',tk',os'⟩:=s';show E7 (g' =Alc) hm.gens;show E7 (d' =δ) hm.drawn;show E7 (os' =s.os) hm.os;refine ε|BX9=>sp AQ2 (fun r=>P r A_) fun Cx=>E A_ Cx|A5W=>Walks.list (toI (AIV hc)) B2 p (zM V5) Kj|A5X=>ZE te (gt tl l (th A_ (fun u Γ3=>(WB δ ε)) E))|A5Y=>fun Γ F1 H σ R s1 h=>δ Γ F1 H σ R (s.trans s1) h|A5Z=>AKl (z1s (I:=I) hh hQ δ) BWY ma|A5a=>∀{ks:δ} {xs:AJ} {vs:AL},tF ->ε|A5b=>Al n N t tt ds δ E|A5c=>∀(cQ:As zeu)(bT:As Vk)(bH:sv)(aN:Æ)(Ab8),_|A5d=>by rintro σ H ⟨F2,A_,R2,s2,hI⟩|A5e=>fun A4 F' H' CS R' s h=>Ee δ (R'.drop i Ε) ((zy.f).Kk s) h|A5f=>CE CF P w H s Q u s'|A5g=>fun Γ F' H' σ R s h=>δ Γ F' H' σ (R.unbase g) s h|BX_=>fY EA X.w AE YE SA (gC EA X.w) k fa fd ps δ|A5h=>cM (BWF _ I2 r1 r2 q2) (A0 δ s3 ⟨z,H3,I3,r3,k,e,q3⟩)|A5i=>(fnOf x D_ AFW Ó kz CI CI CI CI Ε CI CI)
|A5j=>⟨δ,fun s i j C ε hi hj ζ hC=> ?_⟩|A5k=>by obtain⟨F0,ds,Pd,Ex,sF,rs,hsp,hQ,hE⟩:=DL|BX'=>fun v u s2 x y H2 I2 rx ry q=>δ|A5l=>Ap_ (fun Γ F' H' σ R' _ q=>Ee hQ R'.gr II q) AKB AKB (BW0 (hQ d v F' H' gr rv q))|A5m=>∀(K:Φ) (sp:δ) (vs:AL) (H:Hp) (Q:VK) (E:XK),_|A5n=>VT (fun ds Ω F1 H1 a vs R1 s1 e1 e2 e3 r1 ap h1=>δ)|A5o=>∀(i j:BI) (t u:Tok) (s:AC) (Q:fu) (E:fu),δ|A5p=>∀(dw:ff AH6 xn xn)(aN:Æ)(iV:AQT Fk)(cG:AQF Fk)(iW:AQT Fh)(cH:AQF Fh)(fG:AQT FD)(bQ:AQF FD)(jV:AQT ES)(cL:AQF ES),_|A5q=>∀(dg:As zfm)(sS:As z1l)(c7:AKT)(d8:AFI)(aH:Ϭ)(cJ:AKV)(cI:rg JU)(cN:rg UZ)(bY:BWV)(aY:BWW)(cu:rg TC)(bf:Apv)(aZ:rg AX4)(aR:Abu),_|A5r=>by intro FF ba Μ s σ H x y v u Q I rx ry h hs|A5s=>⟨ok.mod,ok.kind,ok.glob,ok.blt,ok.above,ok.inj,ok.has,ok.cab,δ,ok.frames,ok.stk,ok.Yj,ok.bs,ok.bsz,ok.Ia,ok.Ib,ok.funs,ok.frf⟩|A5t=>by ·rintro C Jn R_ fp _ Μ s σ H Q I ⟨Aa,Ab,q⟩;exact Aod he Il Μ s σ H Q I q|A5u=>by obtain⟨v,_,Z,⟨l,us,Z,hq,rs⟩,⟨v2,_,Z,⟨l2,ZR,Z,DL,Hq⟩,Z⟩⟩:=r1|BYA=>by rw[AX8,δ,ε]|BYB=>by rw[AX8,δ,ε,ζ,η]|BYC=>by unfold Builtin.«sorted»|BYD=>by unfold Bdk|BYE=>by rw[List.pairwise_iff_getElem]|BYF=>δ<DZ|BYG=>by obtain⟨_,⟨_,_,_,e,_⟩,_⟩:=δ|BYH=>eval_ListComp ..|BYI=>(by rcases zr5 hc with δ | ⟨_,_,_,ε,_⟩ | ⟨_,_,_,ζ,_⟩)|BYJ=>by apply BcF|BYK=>A7a δ|BYL=>δ PySem.F.excBase_ValueError.hasBase|BYM=>D9 DictEntry|BYN=>(by cases (z))|BYO=>(by rw[SD]<;>simp_all)|BYQ=>δ DZ=Β ε|BYS=>[Ľ]|BYU=>[ACa]|BYV=>pV h|BYW=>AYT h|BYY=>Nat.succ.inj h|BYZ=>List.zip_append h|BYa=>δ DZ=Ε|BYb=>(match δ with | Β ε=>ζ | _=>η)|BYc=>(K2 Alm)|BYd=>EE xs.isEmpty|BYe=>Bbv z|BYf=>(hr.deeper _)|BYg=>(AnW _)|BYh=>(ItemsOf.nil _)|BYi=>B1 Bb3 δ|BYj=>(kQ+1)|BYk=>(APq+1)|BYl=>D4 J_|BYm=>.AV x.bare_bare|BYn=>(KE _ IS)|BYo=>Int.le_refl _|BYp=>List.Perm.refl _|BYq=>MV XZ|BYr=>by rw[TN] at h|BYs=>Bbe e|BYt=>Bbs _ _|BYu=>MW A7_|BYv=>MW A8K|BYw=>(P3 AW3)|BYx=>(P3 MH)|BYy=>(P3 A9f)|BYz=>(Lm Alu)|BY0=>(š (qv 8))|BY1=>EF o6|BY2=>⟨f,fd,δ,hm,CM,B7 (by show E4;exact Z)⟩|BY3=>Bay hb|BY4=>AZG hb|BY5=>AI' hb|BY6=>j<ACs|BY7=>j<APO|BY8=>by rw[M_,δ];rfl|BY9=>E_ ym|BY_=>by show FI jv|BY'=>R.gr.h.free hq|BZA=>AmX≠0|BZB=>OG i8|BZC=>rS N2|BZD=>wpAny_Try_except ?_|BZE=>dB k AYw|BZF=>Ban r|BZG=>AYQ hi|BZH=>Bb9 hi|BZI=>A9s<=i|BZJ=>Gl X i8|BZK=>(p6 - 1)|BZL=>E6 xs A6y|BZM=>OM δ HL|BZN=>Qr Anl|BZO=>ft APR|BZP=>(I1.ok.hd hc)|BZQ=>k8 AY_ δ ε|BZR=>AIK x|BZS=>AJP I9.length|BZT=>AYi h1|BZU=>(gN I.ok.bs)|BZV=>(gN I.ok.Ia)|BZW=>i<=A9W|BZX=>by rw[YV,δ] at e|BZY=>cp 2147483647|BZZ=>z6 (x_ δ)|BZa=>z6 (AmP δ)|BZb=>B5<64|BZc=>MR<64|BZd=>YO<64|BZe=>APj<64|BZf=>AIE k δ=Θ|BZg=>lc AIr|BZh=>ADp Kj|BZi=>WS B5|BZj=>APA Z|BZk=>W.Looks.of_pure Z|BZl=>lf Bcq δ|BZm=>[MI,EU]|BZn=>.bS x kK|BZo=>AoB (zi δ ε (ζ AE F0 H0 g E))|BZp=>Ord lt MR|BZq=>s'.heap.UpToSlots h'|BZr=>(s.heap.update it (Obj.mapFields (·.setIfInBounds 0 Value.none))).LY|BZs=>by rw[δ,HL,ε]|BZt=>t8 Sz|BZu=>t8 RY|BZv=>t8 S4|BZw=>Al' Alc|BZx=>(sc.names.map (·.1)).ax|BZy=>by show NR dO;cases e|BZz=>AYQ (B1 δ ε)|BZ0=>(KE z (AZ3 z))|BZ1=>ϒ i3|BZ2=>IntMulOk i j|BZ3=>(l.map .Ψ)|BZ4=>(mv X9)
|BZ5=>(ű (rL e "items") [])|BZ6=>AaD (· <= ·)|BZ7=>Bb9 Cc|BZ8=>AI9 Cc|BZ9=>x∈ō|BZ_=>(x,AnN)∈δ|BZ'=>by show uu M_|BaA=>(AaE qV)|BaB=>(Y_ Anb Oy t')|BaC=>MS BA w A δ ε E GH|BaD=>Aoc YA|BaE=>a≠U_|BaF=>AYE<=1000|BaG=>A7s Z δ|BaH=>Amf y=Β δ|A_E=>bo W.plainOver C|A_F=>bo W.makesIn C|A_G=>(PySem.F.args_dict_get_3 _ _ _)|A_H=>AmZ (t' :=tk)|A_I=>(AEt TC)|A_J=>(ck yo kV)|A_K=>fun _ _ _ _ _ q h=>δ|A_L=>Aoh (Abh zyp fp δ I ε hf)|A_M=>BdV ⟨δ,ε⟩|A_N=>d.params.defaults= []|A_O=>Al8== Ÿ|A_P=>by show BWf;kernel_rfl|A_Q=>(.AT kr::vs)|A_R=>AIL n==Β To|A_S=>Kl BcV|A_T=>AFb pb|A_U=>[AmG,FU]|A_V=>[TH,MI]|A_W=>AFi B5|A_X=>(JY .AF)|A_Y=>z6 (Bcu ?_ δ)|A_Z=>AKY PyProof.Rows.F.entry_set_update_loop|A_a=>qp AZc xs|A_b=>(gN I.ok.bs).1|A_c=>(F8 z AlV)|A_d=>.DJ ER fs xs|A_e=>(AK9 xj)|A_f=>(Ao_ B2)|A_g=>AbK A9'|A_h=>(aM K F ds Nn)|A_j=>by rw[AKc Bce]|A_l=>by rw[AKc PySem.F.plain_proto_collect]|A_m=>by rw[BcR] at hd|A_o=>i5[k]|A_p=>by cases δ<;>exact let ⟨o,e,_⟩:=ε;dQ|A_q=>AR_ A6u δ|A_r=>by rw[xc hi]|A_s=>by rw[List.length_eraseIdx_of_lt hi]|A_t=>HR TK o|A_u=>qp AZc xs<1000|A_v=>(fun i v=>(ADp HM))|A_w=>(UA d7 JA)|A_x=>(Y_ Ŗ Oy ARS)|A_y=>(Y_ yz Oy ARS)|A_z=>(Y_ Anb Oy ARS)|A_0=>lT TK Aof|A_3=>(AQU qU Ω)|A_4=>ASS B2 δ|A_5=>(ASV (WG u))|A_6=>AEZ (Ni (i:=5) dh ID Z Z EZ (ao bA aL)) δ|A_7=>Aai he3 hd h1|A_8=>s.heap.DictAt AJ3 a ws ep|A_9=>R1.g.seq DL|A__=>s₁.gens= #[]|A_'=>(Ŋ ϣ)|A'A=>[pj,"head"]|A'B=>((Aq9).B_ .SE)|A'C=>(ck JY SV)|A'D=>(ck (gW x y).B_ SV)|A'E=>(.pu (.ptr ρ))|A'F=>∀{K:Φ}{F F' :Hp}(e:F6),_|A'G=>ϳ EX i6|A'H=>ϳ EX FE|A'I=>(AFp cY A9)|A'J=>Acz wpAny_pyIter_listiter|A'K=>by show AbP δ;exact Xd.ok hr (hp _ ε)|A'L=>Ac8 δ Builtin.«dict_keyiterator.__iter__»|A'M=>s.heap.IsTupleIter it l i|A'N=>ACd it A7 h'|A'O=>BWP A6G|A'P=>BWP AZR|A'Q=>AY8 zy.f|A'R=>AY8 Iu.f|A'S=>Bb0 xl|A'T=>Bb0 "object.__getattribute__"|A'U=>hc.keeps IA|A'V=>R1.g.trans sH|A'W=>P1=y0|A'X=>k<=B5|A'Y=>J_<4095|A'Z=>by rw[M_,M_,δ] at ε|A'a=>zy.h _ _ ha'|A'b=>Iu.h _ _ ha'|A'c=>(.ob C Aak Acu)|A'd=>(.ob C Aak (ts++ [NY]))|A'e=>(fe zz6 AY)|A'f=>(Ts La ϯ)|A'g=>(upd H x o')|A'h=>(AJQ yX A9)|A'i=>Cl (ArL δ).2.2<=20|A'j=>(UA gh.fn A9)|A'k=>(FK).Kk R4.gr|A'l=>(FK).Kk R5.gr|A'm=>Aqh LW|A'n=>(AQe he Aqg)|A'o=>fun b ob q _ _ _=>δ|A'p=>MX h (PassesOwnAt.leavingOf h)|A'q=>Abl APB e'|A'r=>Abl APD e'|A's=>AWz te s.fn h (y9 d δ)|A't=>AWz te s.fz h (y9 d δ)|A'u=>Meets (δ (HG [PP,AFg])) ε|A'v=>e0.mod.G9.keeps (Tl (gN e0.bs).1)|A'w=>e0.mod.nolimit.keeps (Tl (gN e0.bs).1)|A'x=>by show ArE bne_self_eq_false|A'y=>(zx (dM (Ac9 A1)))|A'z=>K_ (BbB a Kj) δ|A'0=>(hr.make C us [])|A'1=>(I2.env0.make C us [])|A'2=>Ari xs.drop|A'3=>∀(k:Ζ) (h:k<B5),δ ->ε|A'4=>∀(k:Ζ) (h:k<AZM),δ ->ε|A'5=>(zT _ (zm7 hb FK))|A'6=>(Km EA X.w B2 ns)|A'7=>(Kr EA X.w B2 ns)|A'8=>z0d Μ s σ H x _ v u Q I rx ry ⟨p,vs,Z,δ,Ke h1 r1,ZK rs h2,zk (ADq (Kf h1 r1 rs h2)) h3⟩|A'9=>zqw Μ s σ H x _ v u Q I rx ry ⟨p,vs,Z,δ,Ke h1 r1,ZK rs h2,zk (ADq (Kf h1 r1 rs h2)) h3⟩|A'_=>y0=ms.length|BAI=>APg=OX|BAJ=>ALH δ=B2+ε|BAK=>by simp only [q,Anz]|BAM=>(A7O op)|BAO=>(kH s3)
|BAQ=>PySem.Slot APf δ ε|BAS=>by rw[<- hs3]|BAV=>seqIndex? i δ=Β j|BAW=>Int.fmod_eq_emod_of_nonneg _ A2|BAY=>(KE v (E Γo v))|BAZ=>(Θ==Θ)|BAa=>Ya d.name fa|BAb=>E2 İ A5y|BAc=>(kR D3 ON)|BAd=>(OB AI3 fi)|BAe=>g5.get? c=Β o|BAf=>(F8 Wb AqI)|BAg=>Ts RQ (Ace δ ε Aqv ϯ)|BAh=>by rw[A9e];simp_all|BAi=>(Î Tz AY)|BAj=>ui AYn xs|BAk=>BW5 APT|BAl=>x6 y c e|BAm=>BW7 AO_|BAn=>B5*k<=1000|BAo=>(∀p∈ex,BWa)
|BAp=>by
 split at h1
 ·show AdF;exact δ
 ·exact C5
|BAq=>s.heap.Ns U_ m|BAr=>(AK8 Aqf bx)|BAs=>(ALQ #[] ea)|BAt=>List.set_eq_of_length_le (CU ue)|BAu=>(LH (LH h))|BAv=>(.dT (OZ vs))|BAw=>(Oe g tc te BWj)|BAx=>AcC is.Perm MR|BAy=>(WE ju JA Mb)|BAz=>Ny AY6 ea|BA_=>by with_reducible refine L1.at ?_|BA'=>(fun p q=>by cases q)|BBG=>(WA uE BXI 0)|BBH=>VA a o hk|BBJ=>(AQC qX AFl 1)|BBK=>AIn (o:=AIu δ) s3 hc|BBL=>ARn a b (cB δ ta tb)|BBM=>z7 (hQ _ δ (AI5 ..))|BBN=>ArO (b≠e) X_|BBP=>∀(t:dH)(g:tG)(tb:aC),_|BBQ=>BXM A5y|BBR=>fun c o hb e=>APU c o c8 δ|BBS=>(match δ with | r7 X1=>ε | r=>r)|BBT=>⟨⟨f,fd,δ,M,hm,B7 (by show E4;exact Z)⟩,Y1 ε⟩|BBV=>⟨R6.gr.f,L9,L9,δ⟩|BBW=>A0 k hk hle|BBX=>δ b (gu (hb (BaJ _ h)))|BBZ=>AZg (jQ ds) Τ xs δ|BBa=>(BXQ (ACi+1+n))|BBb=>fg (b≠T) (δ).LY TK|BBc=>(Itv K a xs)|BBd=>(Aoj (BVJ F') [(fl,v)])|BBe=>by have hl:=ek;have hn:=rQ|BBf=>(.BinOp a op b AB)|BBg=>fun ds P E=>ARo/\t δ (aG N ds) (Id E)|BBh=>(PIE X Μ σ tg R)|BBi=>gd (C' =C/\AQR) (bnd (fN tf δ) ε)|BBj=>(.IfExp c a b AB)|BBk=>(fun i σ H=>Aqy)|BBl=>(((D5).up s2).up KA)|BBm=>jw vT (oS JU)|BBn=>⟨l,us,Z,ϭ,AKu (AFw (δ ε rs hz))⟩|BBo=>fun D σ H=>te σ H δ|BBp=>⟨⟨vs,v,AR5,δ⟩,A0 x H' y⟩|BBq=>(ze (ASl Uu fM Uv) Mb)|BBr=>BXy (δ A7 a Kj)|BBt=>ARe (fun b ob eb=>xK b ob (TU b ob eb)) hlt2 (fw _ _ _ δ ⟨ε,_,e,ζ,hl⟩)|BBu=>(eE fs ts g t')|BBv=>(zuj (Anj S ep) es).δ|BBw=>fun s Q E hit hg _ hQ=>δ|BBx=>BX6 "dict_keyiterator.__iter__"|BBy=>(ts.set q (.eN (oh I9 k2) ((lG I9 xs k2 d).B_ .SE)))|BBz=>∀(F:Hp) (ks:DI) (R:ARm) (v:V),_|BB_=>fun i s Q E hi hit hg _ hQ=>δ|BB'=>Bay hf|BCG=>AYT hQ|BCH=>pp "set.scan.the-table-gave-way"|BCI=>AYi BS|BCK=>PlainAttrs T|BCL=>Bb6 hpw|BCM=>AnR ART|BCN=>I2.after hq'|BCO=>Ani (<- ArT)|BCP=>unsupported "internal:set_iterator"|BCQ=>ztl O.tok.ris|BCR=>AYE=vs'.length|BCS=>ks'.length=ws'.length|BCT=>by rw[Ŏ,List.length_singleton]|BCU=>by rw[Anr,Anr]|BCV=>DZ≠fk|BCW=>kC<=640|BCX=>B2<AO_|BCY=>by simp only [Option.some.injEq] at At|BCZ=>by rw[AIk,AIk,δ,ε]|BCa=>by replace δ:AQP ε (N0 AZJ):=ζ|BCb=>by rw[APk,<- δ,AC_] at ε|BCc=>AI8 fun i=>δ i BC|BCd=>by simp [Amm,p5]|BCe=>by show IP;cases t<;>(cases e;exact gu h)|BCf=>by injection e with e1 _;rw[e1]|BCg=>by simp only [z1,z2]|BCh=>by exact z6 (Qr A7h δ)|BCi=>[W.topFrame Hd.z]|BCj=>⟨hx,fF⟩|BCk=>⟨ws[i],DS hx⟩|BCl=>⟨? px,MX h (Bdx h)⟩|BCm=>by rw[sz] at z1;exact δ|BCn=>by simp;show ADa|BCo=>by show LE δ;decide|BCp=>AZj isRef nsIn x=Θ|BCq=>pV (ì (nomatch q))|BCr=>by show cD (OB δ i_) (Zl AX6 ε) _;rw[e];exact ζ|BCs=>[AYF,AmE]|BCt=>[fk,DZ]|BCu=>Code.quiet_builtin _ Md|BCv=>dj (BaL δ)|BCw=>.AT (ADb (δ t1 t2 h l1) l2)|BCx=>(Anw==A9i)|BCy=>(VO eP pt)|BCz=>(VO N4 px)|BC_=>hA b (by rw[q];simp)|BC'=>GS A7_ AcX|BDG=>(Ś _ t)|BDH=>(qV i 0)|BDI=>(bs.getD i Τ)|BDJ=>(gs.getD i d0)|BDK=>EV e1 (fun t' => .δ _ t')|BDL=>by show cD (OB δ i_) (Zl AX6 ε) _;rw[e];refine ζ|BDM=>(a::(zt [c]))|BDN=>.Ψ ⟨#[AqR]⟩|BDO=>Tb (APd[i]+1)|BDP=>PE X FF tv|BDQ=>(BbE hg).1|BDR=>K_ (BbB l xs) δ|BDS=>Db (hch c z)|BDT=>(AH3 .pu)|BDU=>(ACv .bl)|BDV=>ACP AZR =Θ|BDW=>Lo xs' ws'|BDX=>NA (P b) (AFo b)|BDY=>(jn a Be)
|BDZ=>((Vi k hk).2 a A2)|BDa=>VX (APP (Ŋ ϣ) δ)|BDb=>by obtain⟨_,_,_,_,Z,_⟩:=h;rfl|BDc=>by obtain⟨_,_,_,Z,_⟩:=h;rfl|BDd=>(OB AH3 .SE)|BDe=>(OB yo kV)|BDf=>(F8 hk (EV I' ϥ))|BDg=>(F8 I.ok.glob (Ba2 I.bk))|BDh=>(F8 hsz hb)|BDi=>(F8 yY hl)|BDj=>km F (upd H q (.δ [])) ε|BDk=>W.tail_of_in X ht|BDl=>by rw[size_push',Anv];exact δ|BDm=>ACP AZR =Τ|BDn=>Builtin.Dict_items.ownsTuple A9p =Τ|BDo=>AYi g.2|BDp=>AmZ (t' :=AIb)|BDq=>OH (BWB AqQ)|BDr=>call_reversed_list Acg ?_|BDs=>h.DictOfH (AOn (rA P δ)) a ε|BDt=>NE (B1 e li)|BDu=>QQ (AD×An)|BDv=>(upd H l (OB AI3 SV))|BDw=>SF tf d BXx|BDx=>fb tf d BXz|BDy=>MZ hs c ?_ q|BDz=>cE (qq CI (.ACY ps))|BD_=>Tx (δ b o (AKy (AZv h)) e)|BD'=>AY5 hdT _|BEG=>SU #[z4i (m4 δ)]|BEJ=>SZ ys ys[j]|BEK=>SZ bs Θ|BEM=>∀(AP5) (he:GU FH=NB e es:=by rfl) (hpl:ArK:=by rfl),_|BEO=>(BVD (Cn ygw) A1)|BEQ=>(Bt œ H)|BER=>PM (AFv fK)|BES=>(.dK (yn Υ k v))|BEU=>∀(NX) [AYD α],_|BEV=>SeqAt.EqAt.of_refs e rc|BEW=>(.ow (Alw j d))|BEY=>(Zl x5.fmod 3)|BEZ=>(AJQ Q5 AcV)|BEa=>A7f v T|BEb=>fun i=>qV i 0|BEc=>Gr F H (sw (Ab9 SS δ)) ε|BEd=>Xs TD ACW δ|BEe=>IB b _ (sF _ _ eb)|BEf=>D4 (Tk qw k+ mo δ)|BEg=>EE (Bcq ϻ δ)|BEh=>AJT (uv lfr hm)|BEi=>Ŷ AYJ AQ6|BEj=>aI q (A7Z _ _ _ (.AV q))|BEk=>AmO (t' :=LX) δ|BEl=>AJY Builtin.SmallTypes.nextOf it|BEm=>lS EqD (jy xs ys)|BEn=>pW (j:=3) e3|BEo=>ADl ⟨BXT,sR δ⟩|BEp=>fun A4 =>(AaG (W m' A4))|BEr=>gi (δ yi (P.zip vs) m x)|BEs=>(PySem.strKind_is _ _ _ _)|BEt=>AJd (¬Tu) H'|BEu=>sL _ q (z4w q)|BEv=>qi sepS xs|BEw=>dC (AZu (Mm IL (KP δ)))|BEx=>dE δ (ì (Pm n q/\Up lt q n))|BEy=>(.A8f elt [⟨AYW,Nw,ifs,0⟩] HH AB)|BEz=>AO0 (AnW _)|BE_=>da (Q3 qQ D3 δ)|BE'=>mB (Aq_ h1)|BFG=>tn 0 AmR|BFH=>h w (AqK hw)|BFI=>YA l=Β (AI_ FE δ e)|BFJ=>(BVd (jS δ)).Kk ε|BFK=>(Þ Abd Abd)|BFL=>(AZN xs j)|BFM=>M1 (Bbe e)|BFN=>oT.data= .ACY ts|BFO=>(∀a∈b1++b2,Acn)|BFP=>BS= To ->AK≠x|BFQ=>ui ŝ vs|BFR=>cB j7 δ (cB cD A5 k6)|BFS=>(HE (a::cs) (Arf OC))|BFT=>by ·show T0 p r2;show AdG;exact δ|BFU=>AEk A8u z7|BFV=>(CV inner JD he2)|BFW=>vF Nw wi|BFX=>(putL ks AKr)|BFY=>Hd.tupO K (K2 δ)=Β ε|BFZ=>qq (G' FE) (.seq BbY n')|BFa=>ϸ (AEl ks JY)|BFb=>h (by rw[z])|BFc=>∀o w,u≠ .frz o w|BFd=>(.D9 es AB)|BFe=>by show AFG δ ε ζ;show η;rw[YV,YV,θ,ι];exact μ|BFf=>av t (U0 N .pt ds)|BFg=>Aae BaQ 12|BFh=>Aae BaR 8|BFi=>Aaj APD xs|BFj=>zd q Arn (DC d hd)|BFk=>(IB b ob e).stay|BFl=>tn IM AmR|BFm=>Am0 AH ns|BFn=>(.yB BWX [a] [] pc)|BFo=>ARL (Mm ml (AQy tb e (Ã (.Ψ y) δ)))|BFp=>Aor "RULES" BXo|BFq=>(lP (mine a ha))|BFr=>ã (AC×Thread)|BFs=>ARa i7 i7 δ|BFt=>AEZ (δ dh ID Z Z EZ (ao JE aL)) ALU|BFu=>[N4,TH,i',"levels"]|BFv=>Aam setEpoch Bco hg|BFw=>∀(h1:EE (δ a b))(h2:a≠b),_|BFx=>∀(J':AQl "items"=EW e:=by rfl)(ALS),_|BFy=>Aa1 AXe RZ|BFz=>Aa1 AXi Np|BF_=>Aa1 AXn Xg|BF'=>Aa1 AXo Vd|BGA=>IC (Ε:cq)|BGB=>(Ee hb ?_)|BGC=>TK p=Β ALO|BGD=>JB X OT tb|BGE=>#[ygb (i:=1) Z EZ]|BGF=>bB (cB Ds (Î gk (KG δ)) ε)|BGG=>(fq H' (v= BC/\OE kr H'))|BGH=>ur AE H a xs|BGI=>AK' z aw|BGJ=>ALB (l_ tb y (r x y H2 δ))|BGK=>(lG ks vs k v)|BGL=>fS far b (DB (Aqb hB))|BGM=>ARD (fun d Ω F1 H1 v R1 s1 r1 h1=>δ)
|BGN=>eM (Lb c0) AFM|BGO=>eM (Je c0) [Gh t]|BGP=>s' _ _ (j.1 _ _ e)|BGQ=>∀(hb:ALD FE FE:=by show ADH),_|BGR=>SlO K F H H0 ds o|BGS=>h u (zX _ hu)|BGT=>release [v,ov,iv] []|BGU=>(AIe n C3)|BGV=>(fun d _=>P EK)|BGW=>(s.set (.pu _))|BGX=>(.dT (yn Υ k v))|BGY=>IC (Β Θ)|BGZ=>by rw[IZ,IZ];refine δ|BGa=>ASF (Aqk (hn a AlV).1)|BGb=>wpAny_getItem_heap Ao5 δ ε DD ?_|BGc=>sg (.exc C0) x|BGd=>Qr load (A7K δ ?_)|BGe=>a.there c ob q hx|BGf=>(Kr EA X.w q xs)|BGg=>AWz δ s.fn h (y9 d (BXH ε))|BGh=>(hn b (ins b hb))|BGi=>A0 ms hs hm|BGj=>hs8.extBut _ _ δ (hs7.extBut _ _ ε ζ)|BGk=>D4 (Tk BVw APi)|BGl=>.CB ⟨δ,z2,zX _ z3⟩|BGm=>(.AOy es k AB)|BGn=>y_ s1 (BXZ Bdw)|BGo=>⟨_,AqC,DS uw,?_⟩|BGp=>(eO ApH bA (qv 0))|BGq=>AcU (ALN 1 δ) xf|BGr=>Aca TD ACW|BGs=>Apy A6K A6L|BGt=>Apy ACU ACV|BGu=>by show ϲ v hq;have Fr:=Cl EN|BGv=>by show ϲ g hq;have hl:=AcF|BGw=>ge AqL (b∉bE) ARc|BGx=>Acy A9a (AKY PySem.F.entry_list_iadd)|BGy=>ASY A δ (fun o GH=>ε)|BGz=>(Of Fd ps is)|BG0=>Ac1 (An4 i eW) δ|BG1=>EV (pW (O9 hr)) (h _ ?_)|BG2=>Ac3 (AQg p p p (upd H p (.δ [])))|BG3=>Ac4 (∃u,ASD/\LDn u)|BG4=>AZ2 D0 (I (i+1)) (I (i+1)) D0.nx|BG5=>AdA (kj δ (CQ c) (fm GY)) FU|BG6=>∀(AdE)(r:ASQ)(f:Aqw),_|BG7=>by show BWJ (VQ g δ) Alv ε|BG8=>VW zpg _ us Q I r (NV p vs δ)|BG9=>hm.at (f' rh)|BG_=>by rw[Aqa,M_,AYh] at δ|BG'=>Rj δ (f' (APU _ o ε e))|BHB=>(Builtin.«zip.__next__» (HG (Á z)))|BHC=>by show F_;show Χ;rw[IZ,δ e]|BHD=>A9_ k=Β xs|BHF=>BXB/\kQ<1000/\δ|BHG=>Nr δ (o_ ε)=Θ|BHH=>Hd.glb_tup X G δ ε (by show ζ;decide)|BHJ=>FG Zf es gs|BHK=>A0 us s2 Bx|BHL=>Iq X.N l w|BHM=>Iq Ω l (.pu (j6 k2))|BHN=>(GV (v<0) BXY BXb)|BHP=>NA (P4 ACp) (P4 δ)|BHQ=>AmF b ps e|BHR=>∀v∈vs,(∃k,ASf δ k v=Θ)/\ARI|BHS=>(∀v∈HM,(∃k,Aa')/\ARI)|BHT=>(AqS Je A5)|BHV=>OL ps ⟨#[],by rw[δ,q];simp⟩|BHW=>∀{t:T}(h:dk t=Θ),_|BHX=>(ű (rL F7 Fm) FH)|BHY=>A9J a es1 t2|BHZ=>⟨AZH,H2,LI w,ZY w,δ⟩|BHa=>ADx AXI 4 WK|BHb=>ADx AXK 4 WL|BHc=>ADx AXA 1 La|BHd=>ADx AXB 1 Wz|BHe=>ADx AXF 2 WD|BHf=>ADx AXL 2 WM|BHg=>Aqi ĺ [u,c]|BHh=>gE tv d (NF AGC k1 δ)|BHi=>k1 c o c8 c8|BHj=>by show AFk (E8 yb) (R6.gr.h b u e)|BHk=>fun _ ob q _ _ _=>⟨A6h,q⟩|BHl=>(QY qe (AEH D3) qv 6)|BHm=>(QY qe (AEH ON) qv 2)|BHn=>Gr F' H' F4 H4|BHo=>Gr F' H' F5 H5|BHp=>fun{F' H' t' ds} s k r=> ?_|BHq=>fun{F' H' t' cs} f k r=> ?_|BHr=>(.AYY F7 k IU)|BHs=>(.AYY F7 Ach kN)|BHt=>k7 AW8 AII Po JN|BHu=>k7 AXC AII Po U4|BHv=>Arb s.heap.IsKeyIter i|BHw=>Ark (kA ï us)|BHx=>(tM ks xs AKr d).B_|BHy=>∀(he:GU [a]=NB a []:=by rfl) (he2:GU [.yB ApT [a] [] kN]=NB (.yB ApT [a] [] kN) []:=by rfl),_|BHz=>SlT K F H H0 as t o|BH0=>SlN K F H H0 as ts o|BH1=>∀(C:Η)(i:Ζ)(f:Ξ)(te:bO),_|BH2=>∀(C:Η)(i:Ζ)(f:Ξ)(tn:pP),_|BH3=>∀{M:AIU}{A:B6}{E:fu}{s:AC},_|BH4=>I5.turned (t' :=s5.toks) (it:=C) (Tx (MZ hs' b hb e)) c1 c2 (O0 c3) c4 c5|BH5=>I6.turned (t' :=s6.toks) (it:=C) (Tx (MZ hs' b hb e)) c1 c2 (O0 c3) c4 c5|BH6=>(∃o,ϔ e/\ARj A8q)|BH7=>fun m=>xs[i+m]?|BH8=>r=Ε/\bg s1|BH9=>A7f EX i6|BH_=>(AIe AYn Lc)|BH'=>D ->D ->AO|BIA=>Al1 f=Β v|BIC=>[Expr.Name w wp]|BID=>(fun Ap x=>(BXU Ap))|BIF=>M1 (APA A2)|BIH=>(OZ vs).any
|BII=>UnR X δ (rU fun i=> .AF ε)|BIJ=>Ord (δ xs) B5|BIK=>wpAny_Name (δ C8) hd|BIL=>∀j,j<δ ->gy j k|BIM=>∀q,q∈AKh ->q∈a::dx::(zt AKh)|BIN=>(δ hb).Am2 z|BIO=>by show BV Arh (ft A8r)|BIQ=>C9 (e9 Array.toList d1)|BIR=>inB b o q1 hb|BIS=>(.bl (Þ Ap' Ap'))|BIU=>(∀q∈Aad,BXj)|BIV=>by have δ:ε=min ζ η:=A8_;refine⟨θ,ASu ι⟩|BIW=>(by rw[hj];simpa using CC)|BIY=>Da ÿ [MI,TC] δ|BIZ=>APJ ϧ 0 (N0 δ)|BIa=>cS (WC (hQ _ _ (HU δ) ε BXf))|BIb=>z_ t MH δ Ε|BIc=>z6 (APR (z6 (ACq δ ε BN ?_)))|BId=>(À (AEl ks' xs'.map))|BIe=>(À (Aba ks' xs'.map))|BIf=>(ACz fun p=>ArW)|BIg=>zyo (t:=tI m 6) L.2.1 δ|BIh=>(A0 i v hv)|BIi=>Ż â (Arc tc te)|BIj=>AYH (ASU) JI n2|BIk=>Ô (á hi) iv hz2|BIl=>AO×AA×Ev|BIm=>∀(UE)(es:CY)(t:dH),_|BIn=>by cases e3;have:=rt.root;show ZO;rfl|BIo=>bindArgs δ AK5=IC (AYe us)|BIp=>sp ds (fun d=>(E_ d)) ky|BIq=>∀a vs,NI ->δ ->R vs ->ε|BIr=>qo F ASa (k_ t)|BIs=>AKI zw6 dz bx|BIt=>fun r s' =>r=w/\my r s'|BIu=>∀i,AKz ->Ja A7 (AFj δ) ALR|BIv=>z9f r _ _ hr|BIw=>fun Γ P _=>te ARx (fun d _=>δ) lF|BIx=>⟨AqV,H',I3,Z,q3⟩|BIy=>[ML,S_,"backward","lists"]|BIz=>fun h' QJ hs=>h _ ?_|BI0=>nM (Ϝ Arl) B5|BI1=>δ AIQ hk hc hcell|BI2=>(∀x∈xs,0<=x/\x<2147483647)|BI3=>cM δ fun us s2 ε=>by obtain⟨ζ,H2,I2,r2,q2⟩:=η;exact θ|BI4=>KO ns F9 AH An δ ε|BI5=>(Ack (DB (dis a AlV (z ▸ hb))))|BI6=>Ac0 (by show ASj hq;exact tm (AJv hq))|BI7=>Lh (tI m i) AdH|BI8=>[gp N3,.tr Oy mh,cw m,s3,.pu Ϲ,Ab1,.pu AcL,cw v,s8]|BI9=>{D with nx:=u D}|BI_=>(uI CL ō [])|BI'=>(ztm f y fs)|BJA=>Rep K (lZ F0 F') d v|BJB=>xwh c b n X2|BJC=>⟨_,_,e0,e1,hb⟩|BJD=>(lP ⟨ϗ.1,Anp ϗ.2,Anq ϗ.2⟩)|BJE=>uB (∀r<2,0<cn ->∀i<12,∀j< Ac2,δ)|BJF=>∀(s:AC) (u:AD),BXk|BJG=>⟨_,AqC,l2,Z,Z,?_⟩|BJH=>BXL (Aa3 (AJq wL δ) (dM (hV ε))) ζ|BJI=>qX w AK2 Ε|BJJ=>(zlu A1 AEa wL)|BJK=>[Abs a,Abs b]|BJL=>(((AI5 ..).extBut.push _).ŋ _)|BJM=>by show BXS n3;show ASe BXh (AoV NS hb)|BJN=>fun ds P=>(ò ds [IL] δ [LO] ε)|BJO=>Bv A7m i=Β c|BJP=>∃sl,K0 YA (AbQ o sl)|BJQ=>BXW Aq7 IsValuesView|BJR=>((AY' a).wsh ⟨xe,z.pn⟩)|BJS=>Og (gF (Cn BL) δ ε WP)|BJT=>∀{yi:AqP}{x:Ξ},_|BJU=>∃d,AR3=Β d/\P d|BJV=>∀(C:Η) (fs:AA) (ts:Ev),_|BJW=>k b u (hb b n) q|BJX=>fun b u e=>zy.h b u (hx' b u e)|BJY=>Kq ⟨P,a1,ASL (r<=n),a3⟩|BJZ=>∀{x y:V}{u:AD},_|BJa=>ZE ta (WB dS (gt tb d' (bq d' (.Ψ y) δ)))|BJb=>(BXg (B0 kr) kr)|BJc=>∀vs H Q E,AdB ->ASR|BJd=>Ara (Av B AAT a δ ε Aqp h')|BJe=>BXl (Rq.trans s')|BJf=>fun h1 h2 q st=>q.stay st|BJg=>(Du g tc te BWj (E Γ))|BJh=>((GV Ard AbZ (n,k0))::_)|BJi=>∀b o u,ZU Ϯ ->ARJ Ϯ|BJj=>dC (RL (eM sp ds) X1)|BJk=>(Gn AY (uK GW) uJ)|BJl=>∀(JP:lx) (n:Ζ) (Ap:ñ),δ|BJm=>KO u HO b Η (ADW H A7 b u) (ADW δ A7 b u)|BJn=>ED EK [v] (CU (Tm hp N2)) (M7 δ)|BJo=>⟨Ü (∃xs x,ô/\ZZ),fun i H x H' =>δ,Ü (∃xs,ô/\ASJ)⟩|BJp=>WalkO q RS XP YP Am1 d [] (fun f vs=>A7' f vs)|BJq=>AQ0 T ⟨G' MH,Uq,.seq #[CI] dn,Ur⟩|BJr=>∀(tt:Acj) [XA tt](s:KM)(h:AFY (δ (fN tt X) f))(k:∀a A4 X',ArI ->AFY (f a X') ->Q a A4),_|BJs=>ϴ δ [gp [x0,x1,x2,x3,x4,x5].B_,AZt iy k,ε,C3,C3]|BJt=>BdV (zd hm ?_ δ)|BJu=>N' =ArD C4 (N.getD j "")|BJv=>AcE e::BVg es (·.2)|BJw=>(∀m,m<j ->Iq bs m Τ)
|BJx=>if r== A6G then δ else ACP r|BJy=>xs[k1]?=Ε\/BXe|BJz=>∀tk,Q (Ë b) (AJ5 tk)|BJ0=>∀{d e:δ},BXE ->uw 20 d e/\ EE (! jw d e)|BJ1=>by case δ=>subst r;show bv rv;exact mm|BJ2=>nx k % AOd|BJ3=>Bao mA (fs.map (·.1))|BJ4=>AZN APd M3|BJ5=>(s1.cap C4 FV)|BJ6=>(wM (Im bx))|BJ7=>yk mi ō δ|BJ8=>dL ->Env ->Sem Flow|BJ9=>by refine ArU δ hb;rw[<- q];exact ASI|BJ_=>⟨fun ds X=>δ,fun{ds ρ Γ X X' Q E} s e k=>ε⟩|BJ'=>⟨lim.keeps x.toInCall.keep,codeAny_func ?_⟩|BKB=>FN x=Θ/\Amn FN=Θ/\Ϟ (Þ (inD x xs) (inD x xs))|BKC=>by show Ab_ y hS;exact ϋ Ν|BKD=>Β (AOx (VO y py) Be)|BKE=>(.xd (VC vs))|BKF=>t.slot j= .empty|BKG=>onTheHeap (Pp C)|BKH=>Qr runValue (A9N δ)|BKI=>ArJ (kH s3)|BKJ=>A0 x H2 y|BKK=>A0 u _ eu|BKL=>(ArN B2 Aqj).δ|BKM=>Bdq (pV δ) ?_|BKN=>by show ASd;show Si;show hW;exact δ|BKO=>∀ds Q,sp ds Q AcD ->δ|BKP=>AJA δ (BdD (DC k hk))|BKQ=>∃l,v= .AT l/\∃is,δ|BKR=>∃w,LD w/\K0 F0 w|BKS=>Aqu vs f=Β (B0 c)|BKT=>aM K F0 ds vs|BKU=>W.takerIn K C δ=Β Ε|BKV=>EB (by simp at hb;simp [hb])|BKW=>PE X ADy (VF r t)|BKX=>au N ps HH|BKY=>δ ->sg d v ->sg d' v ->jw d d' =Θ|BKZ=>Q (Zl (m*m).fmod 2147483629)
|BKa=>(by
 rcases ASk with (z | ⟨_,_,z⟩) | z
 ·exact δ
 ·cases z
 ·exact ε)
|BKb=>(Xd.x g d e)|BKc=>VX (Aq0 (AqY ŋ) B2)|BKd=>(xy ay).δ fun a=>ε|BKe=>(.While c OT [] AB)|BKf=>(∀t∈ts,∃ks us,t= r8 us)|BKg=>(Y_ X.set Θ (ASp t'))|BKh=>ff xh eS eS|BKi=>ff AH6 xn xn|BKj=>Tl (zM (zO AaQ AIP))|BKk=>Inv AFZ ([]++uF fp s7.heap) δ ε ζ|BKl=>Da BX0 [xx,ACa] δ|BKm=>(.yB BWX Zp [] pc)|BKn=>δ tf s1 AcW fun es A_ X2 s2 h2=>ε|BKo=>δ (VH ry) hd (BS).mapOf ?_|BKp=>Me b (z90 HP eb)|BKq=>∀A' :B6,A'.handled=Ε ->δ|BKr=>PF aS P9 Z|BKs=>cE (W.methodObj ï (B0 δ))|BKt=>ADZ AQ6 (BQ δ AcO Sc NG ε)|BKu=>by show P8 u Z rx AIY r1;cases rx;show AQ AH y (AnB δ)|BKv=>fun x hx z=>by subst z;exact as _ _ δ ε|BKw=>fY P w K mg B9 CX k f fd ps δ|BKx=>ft (A9g (n:=ea) Oo Z ?_ AAG)|BKy=>(fun i j=>(Κ (ê>Aq2)))|BKz=>(fun i hi=>(Aci Aqq HL))|BK0=>k8 QL e1 q|BK1=>(.dK ((ks++ [kk]).zip ARA))|BK2=>L.back (APM δ) (AY8 ε)|BK3=>(r9 (z3y bT.mt bH ID (ADd aN aU)))|BK4=>by have z' :δ:=z;cases z'|BK5=>k9 ob u ?_|BK6=>∀u,Hx Ap≠AR9|BK7=>ks.any fun k' =>(Κ (k' =k))|BK8=>(APP δ ε).IsCell c Ε|BK9=>dis x hx (e ▸ hy)|BK_=>.AF (rG t i) 0|BK'=>bV P w H (AYu ϣ) ay δ|BLB=>bV P w δ eh b u|BLC=>gt t es BX9|BLD=>(A0 v H1 hq)|BLE=>(A0 s6 I6 Cb)|BLF=>gu ⟨(Sh h).1,g0 (Sh h).2⟩|BLG=>ADv (∃F0 H0,δ K F0 H0 t lF σ H Q)|BLH=>fun c δ r z=>(BXd r)|BLI=>zQ (zuo xs lo hi) CO|BLJ=>(qS xs l u)|BLK=>A5z K JT bm=Θ|BLL=>s_ (AZF []) yl|BLM=>ADx AXH 3 RT|BLN=>Ô h1 itv h2|BLO=>ly tt' AcA (c::cs)|BLP=>by rw[kF,IZ,AKK δ]|BLQ=>AEI (AO6 EX u)|BLR=>fun b o eb n q1 q2=> ?_|BLS=>fun w=>hb BE|BLT=>ϕ (BWG i i)|BLU=>OL u (k8 Nh (ASO δ) AqZ)|BLV=>VF (δ K g) (qk Tc t E) σ H Q|BLW=>km F1 (upd H1 q δ) Ω|BLX=>AEd δ [AEP,AEP,(Lm "whole")]|BLY=>(no b _ n AKO)|BLZ=>vS (storeName Be x u)|BLa=>AH3 .pu++AKQ δ C3|BLb=>⟨δ,_,c,hv,B1 Bcz hg⟩|BLc=>closureFor HH CL=IC δ|BLd=>fun σ H R=>tl σ H (fc x (∃a,g6/\ (δ\/ ε)))|BLe=>⟨z,H,I,g.2,m.2.2⟩|BLf=>pQ P w H' eh|BLg=>(AQw (AFm/\vE/\ADc A4 a))|BLh=>ϸ (Aba ks JY)|BLi=>∀{is:He},(∀i∈is,δ) ->ε|BLj=>AKH (.Dict [] [] AB) δ|BLk=>δ c o (I.cne x c e) hc|BLl=>∀h',AQP h' (N0 B2) ->δ|BLm=>Aai hT hdT h3|BLn=>A7q A s u v δ|BLo=>δ (ZT (ZQ t1) #[.AT l1,AAR])|BLp=>by simp [el1,el2,hl]|BLq=>V ->V ->V ->kT Hp Hp|BLr=>VZ AXG 1 Al4 RQ|BLs=>VZ AXS 1 AH4 U9|BLt=>VZ AXq 1 JU Xk|BLu=>VZ AXz 1 x9 zhm|BLv=>AFt (∃bs,Af xs=Β bs/\P (.bl (δ id)))|BLw=>AQh dd2 (.seq ś n2) δ|BLx=>⟨F,Γ,D2,R.base,h,k.base R.gr⟩|BLy=>∀(AGB) (t:dH) (E:XW) (σ:St) (H:Hp) (R:AKU),_|BLz=>∀{k:Ζ}{A:B6},_|BL0=>Te b _ (inC b _ q' q2)|BL1=>ARn e Arq (δ te tl th)|BL2=>ARr (DH δ LP J' bb) ε|BL3=>(Ps (Bdg h1)).Kk|BL4=>R (.ok (.DM (.js (pA x y)))) s|BL5=>ALX (∀ds A4 F' H' vs,AEO mx δ AcZ (Q vs H')) ε|BL6=>⟨Z,_,DS hx,Z⟩|BL7=>(fR Gf (XD c) GY)|BL8=>IE AXP 1 [] JR|BL9=>IE AXY 1 AdJ W3|BL_=>IE AXa 1 Aqx W5|BL'=>∀b ps,ZU (.Qw ps) ->∃more,K0 H' (.Qw (ps++more))|BMA=>VZ AXX 2 FU W2|BMB=>VZ AXr 2 ML Xo|BMC=>VZ AX3 2 AYI zd2|BMD=>VZ AW_ 3 XX Wx|BME=>VZ AXj 3 i' Xb|BMF=>VZ AXt 3 HI Xw|BMG=>[ML,AmJ,pj,bP]|BMH=>bt (.Try OT δ [] [] AB) ε|BMI=>ApN AX0 AmM zdc|BMJ=>ApN AX1 A6z zcg|BMK=>ApN AX2 A6_ zkb|BML=>ApY EU 2 U6|BMM=>ApY OU 3 WW|BMN=>ApY ACR 1 WR|BMO=>ApZ AXV 1 RW
|BMP=>ApZ AXW 3 W0|BMQ=>ApZ AXm 8 Xf|BMR=>(fun C dx H' =>∃x F',E Γ x/\à /\AQ_ H)|BMS=>ASt AK1 AR' (Ϟ (! δ))|BMT=>Apm (yam pf _) (sR (AIT p δ))|BMU=>(APD xs k).B_ (·.2)|BMV=>Ey i+Ey j<=100000000|BMW=>Calls.Name_function_global AIQ hg δ hd|BMX=>(by cases op<;>first | rfl | exact Iy Z δ)|BMY=>zs7 (k:=δ) (ks:=ks)|BMZ=>⟨cs,t',e0,q⟩|BMa=>W.item i s _ _|BMb=>AcJ (∃o Υ,ZU sf/\K0 H2 SG)|BMc=>gd (δ/\ ε) ((K7 pA ns).B_ fun ms=>AI3 SV)|BMd=>PF PP (yge I2 d) δ|BMe=>fun v hv=>scn v (δ hv)|BMf=>C (lt i j) s|BMg=>∀(X:Cx)(id:Ff)(r:ASh),_|BMh=>(sw (r6 mr H' u_))|BMi=>AbL aF (Az C fl sp)|BMj=>⟨Ü (Apt/\i<xp),fun i H x H' =>δ,Ü (Apt/\xp<=i)⟩|BMk=>∀{P:A6}{w:AZ}{H:Hp}(h:AN)(hb:A6N<ay),_|BMl=>Ac' (∃a xs,vs= SY/\nG K H1 a xs/\ δ)|BMm=>EqD A s v u (jw d d')|BMn=>[gp N3,.tr Oy mh,cw m,.pu AcR,.pu Ϲ,Ab1,s6,s7,s8]
|BMo=>by
 rw[ARK] at e';rw[dj hb];show Ϻ
 ·exact δ
 ·exact ε
|BMp=>∃q,GS YA q|BMq=>∀i j F,sg (d i j) (v i j)|BMr=>AO5 [] AcI mP|BMs=>(OZ vs).B_ (Acq v)|BMt=>∀{i m:BI}(hm:0<m),_|BMu=>∀i h,tn i h ->SK (ArQ tw)|BMv=>IE AXZ 2 BW' W4|BMw=>IE AOg 2 Acm W8|BMx=>(GV (v<0) (max (v+ cr) 0) (min v cr))|BMy=>(by rw[lY rs];exact hI)|BMz=>VZ AXf 4 ML R8|BM0=>VZ Ĳ 5 ML Xl|BM1=>NH h' tk hS TU|BM2=>z20 I S hk e|BM3=>AqX H1 I1 q|BM4=>fun us s1 ⟨xs,H1,I1,r,z,q⟩=>(E9 BXC)|BM5=>⟨q,ns,Z,j4,δ,LJ l2 ms hl2 hp hs⟩|BM6=>∀(hd3:VU w ń:=by decide) (Ue:VU w AOw:=by decide),_|BM7=>(Aas FE AZ6 [] G1)|BM8=>(Aas FE ApT [a] kN)|BM9=>(AbY Rep (lL l1 h1 q1))|BM_=>fore Uf topGo p w|BM'=>Hd.fore Uf AOk pg w|BNA=>Meets (Builtin.«tuple.__mul__» (HG [PP,.AF δ t])) (Ac_ (ARZ {cls:= G' MH,UX:=d,ef:= ApQ,az:=sl}/\ε))|BNB=>SR K F1 H F1 H σ ARx|BNC=>SR K F1 H1 F1 H1 σ AQ'|BND=>Kg K x δ st f fd (B0 T)|BNE=>(k a zY _ e3)|BNF=>∀(K:Φ) (x D_:Ξ),_|BNG=>ArM δ (ε ALE (zT _ (zT _ (zm7 hb e)))).1|BNH=>∀(ho:Ap5 Aav)(ha:UD)(hb:é)(hm:Abn),_|BNI=>∀{K:FR}{x:Ξ}{g:ET}(h:δ K x=Β g),_|BNJ=>Arj Oz Jd Ω|BNK=>∀(BWv)(r:ARF)(k:κ),_|BNL=>∀(BWv)(r:ARF)(k:κ){y:V}{u:AD}(ry:PU),_|BNM=>AFU h ->APW c h h' ->it≠c ->AFU h'|BNN=>#[rX z4f δ aN ID Z EZ ε]|BNO=>Mod AE YE SA|BNP=>z1a I1 ea Ν|BNQ=>APY (Aoy x) ks xs|BNR=>∀(sc:ME)(x:Ξ),_|BNS=>Nh (out q hq)|BNT=>yf4 (z8 _ δ) (zM (zK ε))|BNU=>hq H1 (Am' s2)|BNV=>TZ z (pd z (Yz b))|BNW=>y_ s3 (A7j (ZT "slice" #[vl,vu,CI]))|BNX=>∃p ys,xs= ASN/\ (ASW ys\/ur AE H p ys)/\δ|BNY=>by refine δ;rw[ACk (by show Apz;exact hi),M_,ε];rfl|BNZ=>WF OW (BS= SI ->δ AK=Β To\/ε AK=Β SI)|BNa=>kL h' B2 x y|BNb=>(ck (qS xs l) u)|BNc=>(xq K C fl sp)|BNd=>(yk n JP Ap).δ ε|BNe=>(zv0 hq' Z ?_ kp)|BNf=>z6 (ACq EN Sk BN ?_)|BNg=>Da [N4,FU,xw] (kl FU) δ|BNh=>(H b).B_ (.frz (ob b))|BNi=>f' (Anh S o hw e)|BNj=>(qm ER (CP c) (fm (M' 9)))|BNk=>AEx PySem.F.slot_tuple_mul ASG PySem.F.entry_tuple_mul PySem.F.args_tuple_mul_2 δ ε|BNl=>∃a r,δ=a::r/\ek=n|BNm=>fun u e=>(Ac7 (hx Ap u e))|BNn=>BW_ ((rR K C0/\wz K C0)/\E_ (.bl (δ ε)))|BNo=>∀{x:V}{u:AD}(r:ub),_|BNp=>aan P w K mg B9 δ f fd ps sp|BNq=>AqW (MW (Aby (Ao_ DZ)).LY)|BNr=>Aqr mP BbS (fh id)|BNs=>IW BA w A E vs (T5 xs) δ oneType'|BNt=>fun w' s3 I3 M6 =>⟨v,H2,I3,M6,q2⟩|BNu=>∀(g:tG)(b:aC)(ApV),_|BNv=>J3 (AI1 Iu.f) (M7 rv)|BNw=>Ï (ò y BC δ (.bl d) (bq x (.bl c) (Ϟ ε)))|BNx=>fun h' _ _ hs' =>z7 (δ h' hs')|BNy=>þ (∃(k:Ζ) (x:BI),k<14/\δ/\ε)|BNz=>∀(hm:m<10)(hl:ASi)(h:Q AcN),_|BN0=>fun c ob q n hc hx=>δ|BN1=>CQ c0 t AFM P E|BN2=>∀{op:CmpOp}{r:R2}(ho:lE X Aav r)(ha:ö)(hb:AKn)(hm:Abn),_|BN3=>(fore Uf topGo p w os)|BN4=>BXr (∃a o,g6/\ALJ H2/\Q (.bl δ) H2)|BN5=>(names.map fun AEv=>if (Aao k&&BVq&&BVr) then AbZ else AEv).pr|BN6=>(fun a ha u hu=>mine a u ha hu)|BN7=>nJ g y (VC vs)=VC vs'|BN8=>∀{ds:AJ} {vs:AL} {ns:δ},LM ->ε ds=Β ns ->vs=N3 ζ|BN9=>BX' (BWF Q I2 rx ry q)|BN_=>⟨pf,I.os,Ł,⟨AKm,AKm,AIO,Acp,AYM,AIS,AmF⟩,EV hn' BX8,P6 y c,jI,ACb,ae,δ,C9 ACc⟩|BN'=>Kq ⟨Z,Mn,δ,Z,U⟩|BOB=>s::(AH3 .pu++AKQ (δ - 1 - Kx) C3)|BOC=>{o with ef:= .set es' (ep+1) t'}|BOD=>fun l hl=>k _ _ l rs hl h|BOE=>fun DJ GH=>DJ= .AT B2/\GH=δ|BOF=>∀(JP:lx) (cs:ñ),δ
|BOG=>by simp only [List.zipIdx_cons,List.zipIdx_nil,Bb5,List.forIn_nil]|BOH=>∀(f m:Ζ),1<=m ->m+f<=n ->δ ->ε|BOI=>δ AcK (ho' z) KK WI|BOJ=>δ yb.2.1 ya.2.1 hu0 at_|BOK=>E OK Ε H1|BOL=>hh AEv zY AqM|BON=>OY T Fm id|BOQ=>APJ ϧ 2 CI|BOR=>putSet_of es' t' hd|BOS=>δ ε (by simp only [SD]<;>omega) ⟨.AF OX,H,ADh,⟨Ź,OM SD Fr⟩,q⟩
|BOU=>by
 refine⟨A6y,r,δ,?_⟩
 have e:=ek;show AqG e
 simp_all
|BOV=>⟨X2,s2,ss hk' el h⟩|BOZ=>⟨z.1,ht _ _ z.2.1,z.2.2⟩|BOa=>(AYu (ZT A8j #[.AT p,Acb])).δ|BOb=>(.Ψ (qX z l u))|BOc=>(adr (nsIn K eQ x))|BOd=>δ _ _ e' (Db j b n hb)|BOe=>(δ.1).pinned (stat ε) (T.obj _ _ ζ)|BOf=>(Aby (Al0 C DZ))|BOg=>fun σ H Q h=>δ (ycq h)|BOh=>ZV lt (W.kas_sort MR)|BOi=>zwt m (z1k l)
|BOj=>by
 show EO
 ·show Ā;cases rx;cases ry;exact δ Aqm
 ·exact Cf
|BOk=>Inv.made (C:=C) I1|BOl=>tE.k (k:=kk) ea|BOm=>zqq (K:=K) e|BOn=>IE AXg 5 BW6 W9|BOo=>IE AXh 6 AF_ Xa|BOp=>IE AXp 4 BXn Xi|BOq=>∀(lo hi:OI)(n:Ζ),_|BOr=>(δ*48271+ ε).fmod 2147483647|BOs=>(.Raise (IF (ű Û FH)) Ε AB)|BOt=>Lo (APY (Aoy d) ks xs) ArV|BOu=>APu (MY H' (Q BC H')) Q|BOv=>bq Ω[i]? Acf (g xs ds fun ys=>δ)|BOw=>PIg X tg Nw wi|BOx=>∀i j,i<j ->j<r ->δ|BOy=>(OB (Of BC vs) is)|BOz=>NC (setNext S M3 given δ)|BO0=>VZ AXN 6 FU Lb|BO1=>A8b _ _ b o aT|BO2=>[G' eP,G' "Exception",G' AW3,G' AOc]|BO3=>OH (AcY (hn b (AlW _ δ)).1)|BO4=>bt (.AmQ [.bS y py] â spos) δ|BO5=>∀x:Ξ,BVL ->mb x=A6m x|BO6=>AK=DD/\SL SH (ck (AK).B_ kV)/\HK BS ADX|BO7=>PH (LF (rG t δ)).TM (rG t ε) (ACx _)|BO8=>NH s us X hl|BO9=>hacc.2 i Ap[i] (AI9 δ)|BO_=>k7 AW' "first" A6o Wy|BO'=>k7 AXJ a_ AOp U5|BPA=>k7 AXQ Ľ AYG XH|BPB=>k7 AXR EU i7 WX|BPC=>k7 AXT ł XL Vb|BPD=>k7 AXc MI TC O4|BPE=>k7 AXd "step" o5 Vc|BPF=>k7 AXy A6j A6i zfl|BPG=>⟨_,bs,t,e3,Aqt sp⟩|BPI=>⟨_,es',ep',hL,AI⟩|BPJ=>fun v H' =>Dn.nx (AYP i cv) H'|BPK=>rE K F' H' H0 s o|BPL=>far b _ (M8 he hd q n) k|BPM=>Ť ti ds (rF δ ds fun ys=>(E_ ys))|BPN=>Alv (jS (zM hb))|BPO=>∀j,δ<=j ->j<k ->gy k j|BPP=>Fw Z (qR (AZ0 4) (ApF δ 6))|BPQ=>LN (LF AQt==0&&u8==1) (Ac5==N1)|BPR=>t δ (fun es _=>BX2) lF|BPS=>dP o n EM (zK Ν)|BPT=>IE AXb 3 [FS,AmH] W7|BPU=>IE AXu 3 [ML,S_] Vf|BPV=>IE Alk 3 [HI,Al5] Xr|BPW=>oN g g' ta tb
|BPX=>by
 have:=S.snd;rw[A8e,AZC] at At;have d:∀(l:lx),BXm ->Aqn l ->δ ->D6:=ε
 exact ζ
|BPY=>(ACn H p (.BM C_))|BPZ=>dB k A ->BQ (AdI A) (BX1 Fc us) AFy δ ε|BPa=>AO5 AE δ c=Β b|BPb=>IE AW9 2 [AOr,AIJ] Ww|BPc=>IE AXD 2 ["top",Al3] JQ|BPd=>IE AXU 2 [ACf,XL] WY|BPe=>IE "led" 2 [ı,bP] W6|BPf=>IE AXs 2 [AYU,HI] Xv|BPg=>IE Alj 2 [ML,EU] WT|BPh=>∀F ds P,JJ AR2 Ap6 (g ds P) δ (ε K g vs H Q)|BPi=>∀(i:Ζ) w p,AKw w ->D7 ms p ->δ|BPj=>(AaC (nJ f y) fs)|BPk=>((up4.trans up5).Kk up6)|BPl=>zr7 e r _ δ (DC c' q)|BPm=>(bJ st).A8c Ν=Β δ|BPn=>⟨fun e GH=>(Ap4 (ŗ e Be) U' δ ε),ζ⟩|BPo=>∀(i:Ζ) x Γ,kg ds ->I i Γ ->ArY x (tb δ A4 E)|BPp=>ņ [v,ov,iv] (setItem ov iv v)|BPq=>BVN (yai δ.1 hb fun ε=>(Ac6 er))|BPr=>∀{H' :Hp},Abf ->SK δ|BPs=>yad δ h (kn I sF r rv) (kn I sF r' ru)|BPt=>by show AFG AH (I1.tuple hq) (Bbu (K_ (s1.heap.IsTuple a Kj) A3) ?_);show AbR ⟨DZ,AE',_,_,H1,Z,AFS,zvp a _,hG,IO,δ⟩|BPu=>(.AOy [.bS y yp,.bS w wp] ctx x1)|BPv=>Aan D ei (t D σ H) δ (SP X Μ D)|BPw=>(Aas xk AZ6 [] G1)|BPx=>z0 Ba Ki XN 1 MI U7|BPy=>y6 xH AXO 9 [xx] (Je c)|BPz=>sp ASm ds (fun t' _=>(E_ t')) (MY Cx (E Ω Cx))|BP0=>(ACZ B [C]).StaysIn δ|BP1=>i4= .set es ep t|BP2=>∀{t:kM}(hd:BXA),_|BP3=>∀{C4:Ζ} {FV:He} [XA tf] [Xh g] [XA tc] (KW),_|BP4=>NA Tu (∃Υ,AcT/\K0 H1 (.frz (ob b) SG))|BP5=>ARr (DH δ hg hm KK hs) ε|BP6=>by show PQ AH w (AnB hq) (BW2 ALC);show AbR ⟨DZ,AE',_,_,H1,Z,AFS,zyz a _,hG,IO,δ⟩|BP7=>ALA (Aas XY Aos [a] kN) δ|BP8=>fun b o _ hb _ e n=>δ b o e n hb BN|BP9=>∀F,sX X F H0 OT tb|BP_=>Builtin.Slice.sliceAdjust lo hi 1 cr|BP'=>IE AXM 5 [AmB,a_] WQ|BQA=>IE AXk 5 [MI,TC] Xc|BQB=>IE AXw 5 [ML,S_] Xy|BQC=>fun b o e=>k2 b o (gN δ)|BQD=>p9 f ts vs as BXV r|BQE=>((lP (k a (by rcases ph ha with z | z<;>simp [z]))))|BQF=>z6 (AoC hz Z CI Z (z7 ?_))|BQG=>ASg c ws' hl' (T4 rs')|BQH=>{nx:=Apj LZ,rt:=D.rt,bk:=Apj D.bk,ct:=Apj D.ct}|BQI=>(st.1).at (f' (hk I BN o e))|BQJ=>gf (Acl/\Amn FN=Θ) bl (Þ (inD d xs) (inD d xs))|BQK=>∀{K:Φ}{F F' :Hp}{d:D}{v:V},_|BQL=>∀x c v,ADg ->Aqs ->δ|BQM=>⟨fun d e=>(gf (Hz 20 d e=Θ) bl δ),fun{d e P r} h hp=>(BXO ⟨z4v 20 hc,hp⟩)⟩|BQN=>∀d v F' H,BXu ->δ ->ε d ->Aq8|BQO=>ϴ δ [gp JY,AZt iy k,s2,s3,s4]|BQP=>∀{X:Cx}{Μ:fB}{σ:St}{H:Hp},_|BQQ=>fun tt ds P E=>ARo/\δ|BQR=>∀i h h',tn i h ->(SK (∀o,tw ->se)) ->tn i h'|BQS=>zzy δ e2 hs (QP hp'.mem_iff)|BQT=>⟨AGA,yc,qc,jc,?_⟩|BQU=>∃od,δ/\∀Fm,W.lookIn Fm od=Β (mA Fm)|BQV=>IE AXv 4 [ML,S_] Xx|BQW=>IE AXx 6 [HI,S_] Xz|BQX=>Qr seqItems? (A8p (hx (Tp,ot) BN) hm ?_)
|BQY=>by
 by_cases q:k' =k
 ·rw[WO,WO];exact r
 ·rw[c9,c9];exact h1
|BQZ=>fq GH (AK_ (jn b Be) (fun u U'=>δ) GH)|BQa=>⟨l,ns,Z,ϭ,by unfold scanBound;show ADa,ArF⟩|BQb=>z0 Ba ER ĸ 4 xw U8|BQc=>z0 Ba ER TD 7 FU O3|BQd=>mf ArP ASM (Β (.ok (δ ε))) g_ g_|BQe=>(AbY Rep ⟨l2,us,by rw[e],h2,q2⟩)
|BQf=>∀(hc:HV)(hg:Gl X XY)(hm:OG XY)(ha:AKZ)(BWo)
 (he:GU [a]=NB a []:=by rfl),_
|BQg=>BWe (fun s=>JX (Hd.cut A7 1500)) δ (good2 (Hd.setF ε w))|BQh=>Kg K xm xm Qp f fd (B0 wQ)|BQi=>z0 Dp ER TD 12 FU Nq|BQj=>z0 Dp ER Ĺ 11 xw Vg|BQk=>z0 FW Rc LV 1 i7 O1|BQl=>z0 FW XT ER 6 i7 CP|BQm=>aau (K:=K) hk e3 h|BQn=>{nx:=AJz LZ,rt:=D.rt,bk:=AJz D.bk,ct:=AJz D.ct}|BQo=>{nx:=AJz AIs,rt:=D2.rt,bk:=AJz D2.bk,ct:=AJz D2.ct}|BQp=>wB knd kf AFx h' B2 (nM val N1)|BQq=>APM (AEy (AJs (AKJ HP hq0) (HP b u e)) (AJs (Ŵ hq0) e))|BQr=>(U i AK7 q' ad)|BQs=>by have:=zui Υ k v;exact AKs|BQt=>⟨n,AFh,X2,s2,h1⟩|BQu=>∃F' ys,Acs/\F6 /\AJg Hx /\δ|BQv=>∀(K:FR)(f:Η)(D_:Ξ),_|BQw=>by show ND (zxk rs DD);show Si;cases rx;show NW AH w ALW hl AqJ|BQx=>∀(K:Φ)(H:Hp)(a:Η)(xs:AL),_|BQy=>∀q,AJ8 q ->OE q (br H1 q δ)|BQz=>dE δ (fun r=>Pm n r.2/\1<=r.1/\r.1<=n/\Up lt r.2 r.1)|BQ0=>¬(p5 B5 0 l=0/\ø (p5 B5 B5 u))|BQ1=>zw (ZJ (i:=2) (Cn ztt) Ba6 Ba7 Z EZ #[ao δ aL])
|BQ2=>by
 show BXF
 split at e
 ·cases e;rename_i Cc;simp only [HL] at Cc;refine δ;rw[AIg (by show Apz;exact ue),AIh,M1 (ε)]
 ·cases e
|BQ3=>∀F ds P Ex,AR2 ->BQ Ap6 (sp ds P Ex) ((δ)) BXq (ALP ε)|BQ4=>∀{ds:AJ} {vs:AL},LM ->ds.all FN=Θ ->δ|BQ5=>k l _ (Ab' hlt2) hms (zw7 a2)|BQ6=>KO xs An as (D9 AdC) (wR xs=Β as) δ|BQ7=>zm4 (zty (HU (AIV hc)) hsm δ ε fun HM h1 tk hv Cc TU=> ?_)|BQ8=>z6 (A8s hz BN (A0 g1 Cb hs1))|BQ9=>Kc Ap J AAV (gX K g) (tX K tc) δ Q (AQB H)|BQ_=>∀{h:AN}{H:Hp}{b:Η}{o:Obj},_|BQ'=>∀(C:Η)(m:Ξ)(sp:dD)(te:bO)(t:dH),_|BRB=>⟨AJ7 s2,ss δ HL ŕ,P6 i s,fun i j a hz=>by obtain⟨s,o,e,_,h⟩:=hz;exact pd h (Kd i s o a e)⟩|BRC=>BX7 ⟨F5,Γ5,R5,kH ((BE).f.trans (A8g s5)),q⟩|BRD=>(∀b,sB ->¬SS ->P4 F1)|BRE=>(zsf (hf c hc) δ).1|BRF=>∀j∈FV,j<AIf/\AIK (N.getD j "")=Β SI
|BRG=>by
 have:x≠n:=by rintro Z;exact h v zY
 simp [At]
|BRH=>wpAny_newFunctionEnv_cells Ame hkind (NH CL he s1 x)|BRJ=>⟨Id δ,fun s h hp=>by show Χ;exact hp⟩|BRK=>(sortedHeap h a vs out)|BRL=>(x.above y c (A7a h))|BRM=>uM (nM val i) (val i)|BRN=>⟨BG,ASE 2,_,t_ 3,cp 2,?_⟩|BRO=>y6 Tt xm 6 ASr (Ve c)|BRP=>y6 Uh XO 13 BXD (CQ c)|BRQ=>DB (c4 y a ha' z.symm)|BRR=>fun i j k _ _ _ h1 h2=>δ|BRS=>BWa/\bu AK/\AK≠U_/\AK∉bE/\∀v,(BS).ef≠ .cell v|BRT=>ArR/\F' Ap=Ε/\AJl ys/\BW3/\rF δ (ds.drop i) (fun zs=>P (ys++zs))|BRU=>IE XO 8 [xx,ACa] XF|BRV=>IE AXl 7 [XL,TC] Xe|BRW=>δ a _ o Υ ep ⟨es,ED⟩|BRX=>∀(hh:AKv A.handled)(ho:Aql)(δ:Aco),_|BRY=>Tab EA X.w AE YE x Υ|BRZ=>QU (by show(ALG _)=_;rw[M1 (by rw[e];rfl)];exact e)|BRa=>[MI,Po,TC,"both","through_works"]|BRb=>(jh ADN P w K mg B9 N D_ kz f cdv A CF s H dc)|BRc=>yf6 R1 ut (AnA s1)
|BRd=>∀(AP5)
 (he:GU [a,.bS x pt]=NB a [.bS x pt]:=by rfl) (he2:GU [.bS x pt]= ALV AqN:=by rfl),_
|BRe=>(Y' uD i l hN3 hv3 hd3 Ue)|BRf=>V_ AqO (zzz hbt hg O ?_)|BRg=>AIo δ t0 v a1 (lP (k a (HU ha))) q1|BRh=>∀{xs:AL}{us:An}(h:cz),_|BRi=>[.A_A (IF Û) (IF n) BXN hp]|BRj=>⟨AH1 ACO,A5' [],boot_drawn,boot_toks,os⟩|BRk=>z6 (Aov A8o BcJ (AQn BcJ A8o F.entry_tuple_iterator_next F.args_tuple_iterator_next_1))|BRl=>ž to (tyV K T x H1/\δ)|BRm=>(.fresh 0 0 (n6 w))|BRn=>z0 Ba XI ACS 5 "x" Xj|BRo=>mf r Acd (f a X) AKe AKe|BRp=>∀(he:∀whole,AmI e Be whole=(do let v<- whole;AmK e.pos;ņ [v] (truthy v)):=by intro _;rfl),_|BRq=>A7q ř s Aqd Aqe ((fun j=>Aru) j)|BRr=>∀(a:Η)(o:Obj)(Υ:mS),_|BRs=>Y6 P w CF H s E e s'|BRt=>y6 K5 ACQ 1 [AYF] (XD c)|BRu=>∀{k:Ζ}{A:B6}(r:dB k A),_|BRv=>∀{x1}(hc:HV)(hg:Gl X aw)(hm:OG aw)(ha:AJI Zp)(BX3),_|BRw=>AAL (nsIn K eQ x) AaA (δ K f x)|BRx=>∀(hc:UI)(hm:Meth AE C m fa)(Fn:BX_ Ap2),_|BRy=>AFr (ne c _ z ArH) z|BRz=>∀(K:Φ) (F0 H0 F H:Hp),_|BR0=>envOfC D_ HH B2 f cd|BR1=>(AK6 (rq (BZ LV FS (Ah (RV c)) BW9)))|BR2=>fun A_ F2 H2 σ2 R2 s2 p=>δ|BR3=>Y7 K F H H' dx fs ts|BR4=>fore Uf topGo p w os|BR5=>∀(hA:∀ds vs,AFL ->LM ->AFN),_|BR6=>∀B9:AN,K.In B9 ->BW8 ->δ|BR7=>tc A_ (fun w Γ3=>g' y w fun d=>P d Γ3) E|BR8=>APX _ _ D.TOi1 (AI6 _ _ D.TOz hTO)|BR9=>∀(K:Φ) (F:Hp) (R:ARm) (v:V),_|BR_=>ADi ACg (Tx AbB) n.1 AFf ASB (LI n) (ZY n)|BR'=>⟨_,_,_,Z,Z,Z,hc⟩|BSA=>Ap4 (A8I e Ε) Œ (AQL (handleBy e Be δ) (SP zS Μ D) z.xe Œ) ε|BSB=>s' =VX (ArC (AI_ FE #[] 0))|BSC=>∃x H',sM s2/\ub/\J.yld i H x H' /\δ/\ε|BSE=>AZK _ _ δ (ε _ _ c4 (ACy _ _ c2 (APX _ _ c3 (AI6 _ _ c1 ζ))))|BSF=>(oN g g' ta tb tc)|BSG=>AP3 Dp LV UY 2 ASo Va|BSH=>AP3 KC LV FS 1 [N4] RV|BSI=>s_ (checkCount XY 1 1 _) LH|BSJ=>∀(t:T) (v:V) (as:BH),Ϥ ->δ|BSK=>∀(ts:Ev) (vs:AL) (as:BH),Ϡ ->δ|BSL=>gT (Mm ZN (gd (C' =C/\AQR) (RL (eM sp [ZN]) X1)))|BSM=>AAQ (Abh AIa o δ (OL ob AJn) JI ?_) (q _ AFs)|BSN=>AAS P AYw AqH ASA BX4 GH|BSO=>(fun C dx H' =>∃x F',(Gi x/\E Γ x)/\Gr Oz Jd F' H' /\AQ_ Jd)|BSP=>SlX K F H H0 as C fs ts o|BSQ=>fun i a b h1 h2=>δ IM a b AcG AcH|BSR=>ygv (K:=K) hm δ fun cs3 cs4=>h cs3 cs4 _ _|BSS=>∀(BWw){k1 k2:Ζ}{xs ys:Hb}{a b:AD},_
|BSU=>∀(ho:Ap5 Aav)(ho' :ϐ lE BWZ (AJL g'))(ha:UD)(hb:é)(hc:Dx c tc)
 (hm:EE (lastMarks [op,op'] [b,c]):=by show AJN),_
|BSV=>∀b o,BQ tw NG δ (b∉ex) ε|BSW=>UW g b n (lo+1) X2
|BSX=>by
 simp only [show¬(Ñ<0) from L7,AYo,ACx,δ]
 refine PR
|BSY=>⟨F1,Ω,P,R1,q,fun b A_ F2 H2 R2 s2 p=>k b A_ F2 H2 R2 Ty p⟩|BSZ=>∀(Υ:tJ)(k:κ)(v:V),_|BSa=>∀(lt:mw)(p:mn)(r:Ζ),_|BSb=>(hc j _ _ e1 e2)|BSc=>∀(hN:pi)(hi:Hk)(hx:AAP),_|BSd=>∃m xs ys,n=m+1/\d= .δ xs/\ε/\Aa4 (uw m x y)|BSe=>BdW (AI0:= SY) AIv (p.2.1).kp ?_|BSf=>fun b Γ4 F4 H4 R4 s4 δ=> ?_|BSg=>g x Γ0 (fun Ω=>tc Ω (fun b A_=>(Os b δ (P []))) lF) lF|BSh=>hs i x σ _ (y xs q) p|BSi=>(fun x s'' =>APQ uC X.A ej Be use Qv Ap C Aqz s'')
|BSj=>∀(hc:HV)(hg:Gl X XY)(hm:OG XY)(hg2:Gl X Rl)(hm2:OG Rl)(ha:AKZ)(BWo)
 (he:GU [a]=NB a []:=by rfl) (he2:GU [.yB Aos [a] [] kN]=NB Aq4 []:=by rfl),_
|BSk=>fun s k r=>VI s k r|BSl=>hb wh Μ s1 σ H1 Q Ν AI|BSm=>⟨i6,"dict.values",A7z,BdP,PySem.F.type_dict_values,CC,NU,BXi⟩|BSn=>Acr δ (∃a b:Ξ,û a/\vs= [.Ψ b]/\ VQ AZb 0/\APq<1000/\Aq6 ε)|BSo=>∀(A:B6) (i:Ζ) (s:AC) (Q:fu) (E:fu),ASP ->OE it s ->BXP|BSp=>⟨x,H1,I1,rx,F1,Ω,d,R1,sF,rd,q⟩|BSq=>∀(C4:Ζ)(FV:He)(ti:dH)(g:tG)(tc:TT2)(te:bO),_|BSr=>Hd.fore Uf AOk pg w os|BSs=>Calls.call_function_entry kind_sorted plain_sorted entry_sorted (args_sorted1 _) (K_ (m_ (Builtin.«sorted» _)) ?_)|BSt=>δ q RS (BaO p.main.body) Xt Θ s|BSu=>Zb K g x y H Q|BSv=>∀(hu:UC)(hi:Abq)(ho:AR1),_|BSw=>fun ds P E=>sp ds δ E|BSx=>LeftO δ q RS ε (fun s=>ArA) good 40000|BSy=>Aro a (ya6 N AQk _) (z8w δ a)|BSz=>(fun a F0 hA=>(ArG #[zyq eF hA ID Z (KI JE)]))|BS2=>∀(X:Cx)(tg Nw:AG)(wi:TI),_|BS3=>[FS,ACf,XL,TC,MI,XN]|BS4=>ok.has x (S.free (x,SI) (ACt hk) Z)|BS5=>fun s' Ap c' hm hS' hacc=> ?_|BS6=>AP3 Ba Ki ACT 7 BXa Xn|BS7=>AP3 FW XU Ki 9 Art O5|BS8=>(jh CX P w K mg B9 N D_ HH f cd A CF s H E)|BS9=>flat d d' v h r r'|BS_=>(nJ f v fs).B_ (·.1)|BS'=>Kq ⟨Fu AKs,h4,fun j a b=>h5 j δ b⟩|BTA=>ADl ⟨F1,ds,_,HP,r1,h1,δ⟩|BTB=>fun z E cx=>Od (DH ygf hg hm KK hs hpl) δ|BTC=>∀{xs:AL} {us:An},cz ->Amn rB=Θ ->δ|BTD=>(δ gr).put i (s:= .tr ε t') (o:=Β EX)|BTE=>qk KR F H σ Γ F1 H1|BTF=>zyw S hr.hd e0 hl r x|BTG=>W.kas_kind (T:= δ) h2 (fq hv ?_) BF BF hQ|BTH=>k d Γ F H v R Gc δ h|BTI=>δ (Aqo cd).yi (AYe us) AcB|BTJ=>db (R1.put i (s:= .tr δ t) ⟨v,Z,nd,ϝ cc cc.2.1,r1⟩ fun a ha=>ϗ.2.2) ε|BTK=>∀(AGF){e:AG}{tn:pP}(he:AFz),_|BTL=>∀i v,δ ->AZP (val i) v=Θ/\ARI|BTM=>∀d z F' H',à ->Rep K F' d z ->P d ->Q z H'|BTN=>∀{P:AA} {vs:An} {i:Ζ} {m:DT},δ|BTO=>by cases h;show IJ l1 vs h1 q1 r;show IJ l2 us h2 q2 r';cases rv;cases ru|BTP=>zlz (HH:=sc) (CL:=Be) OW δ|BTQ=>(by simp only [Rep] at r;show AFc a vs h1 r;cases d' <;>simp only [Rep] at r' <;>first | (cases hf;done) | (cases r';done) | (obtain⟨_,_,z,h2,_⟩:=r';cases z;exact(z0g I δ ε).SB))|BTR=>fun i s Q E hi st hQ=>δ|BTS=>LA mE q (Aq3 (f∉SH/\Cl SH<1000/\zp (SH++ [f])=Θ) (.ob C (SH++ [f]) (ADX++ [δ])))|BTT=>∀(Acw) (hsw:AYV â (IF (VO y py)) spos.line Be=IC Θ:=by rfl) (AF'),_|BTU=>∀A4 F' H' CS,BXJ ->F6 ->P A4 ->AqU|BTV=>∀{xs:AL} {us:An} (n:Ζ),cz ->E6 (δ n) (ε n)|BTX=>∀{ds:AJ} {vs:AL} (n:Ζ),LM ->Lo (δ n) (ε n)|BTY=>∀{x:Ξ}{v:V}{u:AD}{AB:AR},_|BTZ=>fun d A4 F' H' v R' s' r δ=> ?_|BTa=>∀(ArB){σ:St}{Γ:G2}(R:FB),_|BTb=>fun c o c1 c2 c3 c4 e=>δ|BTc=>∃a b c d e f,xs= Ars|BTd=>TrY h B e cls dd fl
|BTe=>(by
 have hcls:EE (Al8== .class || (Al8== .module&&U_ !=Bau)):=g0 AIQ
 have hiσ:i<AYK:=δ)
|BTf=>⟨⟨iV,cG⟩,⟨iW,cH⟩,⟨fG,bQ⟩,⟨jV,cL⟩⟩|BTg=>⟨F2,A_,es,R2,s2,r2,h2⟩|BTh=>fun vs q=>by rw[AFq (AbQ oC sl:Obj).ef oC.data,hdC] at q;cases q|BTi=>by obtain⟨a,vs,bs,_,Z,_,_,h⟩:=h;rw[IY,Arp];rfl|BTj=>fun HM h1 d tk hk hm Cc TU=> ?_|BTk=>∀{P:A6}{w:AZ}{K:Φ}{mg:DT}{B9:AN}{δ:ε},_|BTl=>z6 (zpo BXt BXc hx fun g2 q1 hs2=>AFn)|BTm=>{s with heap:=h',drawn:=d,toks:=tk}|BTn=>(by rcases h with ⟨_,z⟩ | ⟨_,z⟩ | ⟨_,z⟩ | ⟨_,_,_,z,_⟩ | ⟨_,z⟩<;>cases z)|BTo=>yn (OZ vs) k v=(δ ks k).zip ε|BTp=>Du g tc te Γ0 δ d P|BTq=>(Y' zxz v D8 hg n.1 Z hd)|BTr=>fun δ Μ s σ H Q I q=>h ε Μ s σ H Q I BVX|BTs=>∀(K:Φ)(Cd:Η)(i:Ζ)(tb th:aC),_|BTt=>∀(hu:UC)(ha:UD)(hb:é)(hs:Ie b:=by exact rS Z),_
|BTu=>∀{op op' :CmpOp}{r r' :R2}(ho:lE X Aav r)(ho' :lE X BWZ r')(ha:ö)(hb:AKn)(hc:PE X c tc)
 (hm:EE (lastMarks [op,op'] [b,c]):=by show AJN),_
|BTv=>fun i v s' Q' E' hv hQ=> ?_|BTw=>fun Γ3 F3 H3 σ3 R3 s3 q3=> ?_|BTx=>∃as fs ts,ASX/\f∉fs/\ASK/\zp (fs++ [f])=Θ/\δ|BTy=>∃i vs CS H',Inv AFZ [] CS H' s' /\BW4/\ Abf/\δ|BTz=>hZ (∃p xs i v,Aq1/\y= .AF i/\δ/\gi AR3/\Q v H)|BT0=>ho' Μ s4 σ H4 y z' u w'|BT1=>∀(d:D) (v:V),xu d ->NL ->h_|BT2=>∀(ds:AJ) (vs:AL),AFL ->LM ->AFN|BT3=>(kS (kS (kS hl2 AI6 D.l2z) APX D.l2i1) ACy D.l2TO)|BT4=>A6 ->AA ->BQ AA (Aqc) AO AC α|BT5=>∀{g' :AK3}{t' :Ζ}{d' :Drawn}{ch:BH},_|BT6=>∀(Fn:AdL Ap2)(hr:UB)(hb:AGD)(cx:AP9),_|BT7=>∀(a it:Η)(o:Obj)(Υ:mS)(ep:Ζ)(T8:BXs),_|BT8=>AdK (by obtain⟨hp,g,dd,tk,os⟩:=s;obtain⟨hl,h⟩:=h;wp_walk;exact AcS)|BT9=>[xj,aw,A7J,"dict_reverseitemiterator","odict_iterator","itertools.zip_longest","itertools.pairwise"]|BT_=>z3r I S δ i x v h1 h2|BT'=>P7 (richCompare .Lt _ _) (wpAny_richCompare_same (AO8 _ δ t) (AO8 _ ε u) slot_str_lt (call_str_lt (E9 FA)) Z)|BUA=>∀a vs bs,NI ->BQ (as=ύ) δ Z' (R vs bs) ε|BUB=>fun d Γ5 F5 H5 v R5 s5 rv q5=> ?_|BUC=>∀{K:Φ}{F:Hp}{a:Η}{vs:AL}{xs:AJ}(hq:Aq')(rs:tF)(hz:AKx),_|BUE=>∀(BWw){k1 k2:Ζ}{xs ys:Hb}{x y a b:AD},_|BUF=>∀{fs:AA} {ts:Ev} {vs:AL} {bs:BH},δ|BUH=>by subst ev;refine⟨c,_,Z,BXK (JF yy Ν),_,Z,?_⟩;rw[z2g A3];exact k _ A_ F2 H2 R2 Ty hp|BUI=>∀{t:T}{row:Ξ}{P:ü}{E:ý},_|BUJ=>M2 X o "get" Ic e f G1|BUK=>by show PQ o w (R6.sl j sl e) ⟨o,BE,Nz D5 Gc (Acx (Tm (Fq D5 hc) (DC u q)))⟩;show ArX (c≠Ap) (GT yb j ⟨sl,o,e,BE,hc⟩) q|BUL=>∀{P:A6}{w:AZ}{K:Φ}{mg:DT}{B9:AN},_|BUM=>KR AE F0 H0 F H σ Γ F1 H1|BUN=>∃l xs ws F Pd ds,v= .AT l/\H2 l=Β (.A8 ws)/\bj H2/\sq xs ws/\Acv/\g xs ds Pd/\∀ys us,sq ys us ->Pd ys ->Q BC (br H2 l us)|BUQ=>∀(qC:BXv)(jU:BXw)(oJ:BXp)(eY:ASs),_|BUU=>∀(hu:UC)(ho:AR1)(hi:Abq)(hs:Ie i),_|BUV=>.δ â 0 Aa7 AFe (jj sc ε Be)|BUW=>z6 (x_ (Bb8 (cenv:=ASq) hk _ s' m (lk _ sub) hm δ))|BUY=>(kI (kI (kI h2 AI6 D.i2z) APX D.i12.symm) ACy D.TOi2.symm)|BUZ=>KO binds AK4 m DT (∀v,(x,v)∉binds) (δ yi binds m x=m x)|BUa=>(δ (u:= ε) ApP.1 ApP.2.1 ApP.2.2).frzM sF (L9) (ArS)|BUb=>Hr K C f sp vs H Q E|BUc=>BQ TB A6 AZ Ζ (BQ cq Ζ AC Thread δ)|BUe=>zxp (CL:=Be) (CF:=xz) (δ (e9 Β hst)) hfr BXX ε|BUf=>[N4,FS,JU,UZ,OV,S_,TH,"dealt"]|BUg=>∀{K:Φ}{F:Hp}{a:Η}{o:Obj}{ks:DI}{vs:AL}{xs:AJ}(e:AAH AcQ)(hkl:Z')(rs:tF)(hz:D4 (Tk OZ vs)),_|BUh=>∀(kV doc pm:AD) (an:NM) (cdv ct:AD) (δ:ε),ζ|BUj=>by obtain⟨hz,_,ws,p⟩:=δ;refine Amz BdP CC PySem.F.entry_dict_values (PySem.F.args_dict_values_1 _) (meets_dict_values AJ3 a ϥ) (E9 ⟨ws,BS⟩);show HA o es ep y (id BS);have hm:Aq5:=⟨o,es,Ν,A3,ED,NO⟩|BUk=>sM {s with heap:=h',gens:=g',drawn:=d',toks:=t'}|BUl=>[b,EF "2/4",EF "1/0",EF "1/1",EF "1/",EF "/2",EF "0/5",EF "1/-2",EF Bac]|BUm=>[Ľ,xx,"_law_mark",ACa,"_law_kept","_law_fresh",Ba1,AYG,AYI]|BUn=>∃h' tk Ap c',r= .ok (ApX B2)/\s' =sr/\ (ge AcM (MW (AFu mj)) se)/\ArZ Ap c'/\ItemsOf Arm Ap E1
|BUo=>∀(gO:As zn3)(dh:As zqd)(gj:As zkv)(fL:As zji)(fQ:AK0)(fM:AEf)(aP:IN)(jW:ES=205)(jd:Fh=181)(fH:FD=193)(nq:X9=169)(je:U1=150)(jf:pM=49)(jg:Fk=61)(jX:eS=73)(gJ:pS=85)(gK:pE=133)(fJ:xn=24)(nA:LV=265)(jY:XI=380)(nC:ER=830)(gM:Ki=678)(eG:c.jB=37)(fX:c.nY=97)(qM:c.V3=109)(jZ:c.Apart=121),_|BUp=>∀(hN:pi)(hi' :D7 X.N y)(hy:A6t y=Β b_)(S:ASn)(hc:HV),_|BUq=>∀{z:NP}{E:XW}{Μ:fB}{s:AC}{σ:St}{F H:Hp},_|BUr=>BWe (Hd.rest W.openSeen pg vw RS Apq (fun K=>AdD) 1500 (Hd.setF δ w)) ε (BWp Θ)|BUs=>⟨k8 lY rs hz,fun i H2 F2 s2 s3 s4=>(ALK ⟨vs,AR5,ss e L_ Mn⟩)⟩|BUt=>staticsOk (BaO p.main.body) (AH1 ACO) A7&&namesBound p A7&&gensDone s&&laidKept (AH1 ACO) A7|BUu=>(.of (owner:= APf) (n:= δ) (by show BWf;kernel_rfl) Md Md Md (by first | exact .AV Md | exact .CB Md) BXR)|BUv=>∀(P:A6) (w:AZ) (K:Φ) (mg:DT) (B9:AN),_|BUw=>∀{X:Cx}{Μ:fB}{σ:St}{H:Hp}{s:AC}{δ:ε},_|BUx=>fun Μ s σ H v u Q I r q=>AaL v u Q I r (Ee hi q)|BUy=>shot tb GO RUN TOP X6 p (Nn SEEN p q RS Xt δ n w) w os=Β (x,(b,a,ε))|BUz=>Hd.shot Uf AOk W.segRunT W.topRun execs pg (Hd.rest W.openSeen pg vw RS Apq obs 1500 w) w os=Β ((gg,AOl pg),BWp (good w))|BU0=>∀{t:AO} {h h' :AN} {l c:Η} {ws:Hb},jC t h l ws ->APW c h h' ->l≠c ->jC t h' l ws|BU1=>∀{E:fu}{Μ:fB}{s:AC}{σ:St}{H:Hp}{x:Ξ}{u:AD}{AB:AR}{Q:fu},_|BU2=>Mk2 P w K mg B9 Re XI XX 4 BW1 (O2 c)|BU3=>δ c7 d8 aH cJ cI cN bY aY cu bf aZ aR|BU4=>cM (zvx (E:=fun C dx H' =>E C dx H') I Z Z Z (hx.imp (NH C dx H' z))) fun _ s'' z=>z|BU5=>(Amg Fm D_ Ale OT HH dV kV doc pm an cdv ct)|BU6=>⟨fun _ _ _ _ _ _ _ _ _ _ h=>by obtain⟨_,_,_,_,_,_,_,_,_,_,_,_,_,_,_,_,_,_,_,_,h⟩:=h;exact Cf,δ⟩|BU7=>BX5 δ AcP (fun b o _ _ hc e _=>ε) (fun b o _ _ hc e _=>⟨o.slots,ζ⟩) (sL _ n n) (Op hc e (ϋ η)) (ASb) (AaS e e) (AJD ps ⟨#[],by rw[e];simp⟩) (AFd m hm) (L9) Ł|BU8=>k ys Ω F' H' Ap vs R' AqT a1 a2 a3 rs ap hp|BU9=>∀(X:Cx)(Μ:fB)(σ:St)(tg:AG)(R:AKU)(itv:AD)(s2:AC),_|BU_=>∀(l b:Η)(Lc ś:Hb)(n n2:Ζ)(dd dd2:NM)(sl sl2:va)(x y:Ξ)(t u:Tok)(h1:Ì Lc ASc)(h2:Ì ś (.Ψ y u))(hxy:x≠y),_
|BU'=>by
 show ú i Kx
 refine ù (ya.1 Z) (C8 ys F' H' vs R' sF ha' Tg (E8 yb) rs (GT yb) ?_);rw[Bb_] at hc
 simpa [rF] using hc
|BVA=>fun ds Q Ex h=>δ (yf7 jW jd fH nq je jf jg jX gJ gK fJ nA jY nC gM eG fX qM jZ) h|BVB=>δ fL fQ fM aP jW jd fH nq je jf jg jX gJ gK fJ nA jY nC gM eG fX qM jZ
theorem aaI{α:AWy}{a:α}{P:Ι}(e:Ε=Β a):P:=iA
theorem aaJ{α:AWy}{a:α}{P:Ι}(e:Β a=Ε):P:=iA
theorem aaK{P:Ι}(e:EE Θ):P:=iA
theorem aaL{P:Ι}(e:Τ=Θ):P:=iA
theorem aaM{α:AWy}{a:α}{l:Go}{P:Ι}(e: []=a::l):P:=iA
theorem aaN{α:AWy}{a:α}{l:Go}{P:Ι}(e:a::l= []):P:=iA
theorem aaO{α:AWy}{a:α}{P:Ι}(e:a∈ ([]:Go)):P:=iA
local macro_rules|`(tactic|omega)=>`(tactic|first|lia|omega (splitDisjunctions:=true))
local macro_rules|`(tactic|cases $e:ident)=>`(tactic|first|subst $e|exact aaI $e|exact aaJ $e|exact aaL $e|exact aaK $e|exact aaN $e|exact aaM $e|exact aaO $e|exact False.elim $e|(have hx:=Option.some.inj $e;subst hx)|(have hx:=List.cons.inj $e;obtain⟨rfl,rfl⟩:=hx)|(have hx:=Prod.mk.inj $e;obtain⟨rfl,rfl⟩:=hx)|(have hx:=Prod.mk.inj (Option.some.inj $e);obtain⟨rfl,rfl⟩:=hx)|cases ($e))
local macro_rules|`(tactic|show $t)=>`(tactic|refine(?_: $t))
abbrev fu:=Do PySem.Value PySem.Shared
abbrev fB:=ş PySem.Addr PySem.Obj
section
open H_ Nl IR
abbrev z6:= @wpAny_bind
abbrev z7:= @wpAny_pure
abbrev z8:= @Heap.get?_push_of_some
abbrev z9:= @Heap.get?_push_size
abbrev zZ:= @xc
abbrev zY:= @AlV
abbrev zX:= @AlW
abbrev zW:= @BaI
abbrev zV:= @į
abbrev zU:= @AW2
abbrev zT:= @BaJ
abbrev zR:= @A5v
abbrev zQ:= @Nat.le_trans
abbrev zP:= @A5w
abbrev zO:= @BaK
abbrev zN:= @Nat.lt_of_le_of_lt
abbrev zM:= @BaL
abbrev zL:= @AHx
abbrev zK:= @AlX
abbrev zJ:= @BaM
abbrev zH:= @Option.map_eq_some_iff
abbrev zG:= @Heap.get?_push_ne
abbrev zF:= @List.mem_of_getElem?
abbrev zE:= @List.getElem_mem
abbrev zB:= @Nat.lt_irrefl
abbrev zA:= @Bool.and_eq_true_iff
#where
namespace L2
open H_ Nl IR
def Ew(s:AM)(j:Ζ):AM:=match s with
 | .ClassDef _ _ _ OT _ _ _ _ _ _ _=>body.getD j (.Pass AkY)
 | _=> .Pass AkY
def MJ(s:AM):Arguments:=match s with
 | .AlY _ a _ _ _ _ _ _ _ _=>a
 | _=>{posonlyargs:= [],Fc:= [],vararg:=Ε,kwonlyargs:= [],kw_defaults:= [],kwarg:=Ε,defaults:= []}
def v9(s:AM):dL:=match s with
 | .AlY _ _ b _ _ _ _ _ _ _=>b
 | _=> []
def bJ(s:AM):ME:=match s with
 | Ee .AlY _ _ sc _ _ _=>sc
 | _=>{kind:= Ÿ,JP:= [],isGenerator:=Τ,isCoroutine:=Τ}
#print L2
namespace L3
open H_ AHy IR L2
abbrev JT:An:= BO2
def XM:P5 Data A5x | .cls cd=>Β cd | _=>Ε
def XQ(l:AJi AD):AO:=(AOd==6)&&(l[4]?==Β (fh A5y))
def aaP(K:Φ)(C:Η)(cd:A5x):AO:=(cd.mro.head?==Β OK)&&(! cd.hasDel&&A5z K JT cd.mro.tail)
def Nt(Ġ):AO:=(i3 C).any fun o=>((o.cls== G' "type")&&XQ o.slots.toList)&&(XM i4).any (aaP K C)
def fW(Ġ):AO:=Nt K C&&(AlZ K C).any fun cd=>W.nsOkIn K cd.ns&&(AOe K cd.ns LW ==Β Ε)
def aq(K:Φ)(C D:Η):AO:=f_ (i3 C) (Β ⟨_,_,.cls cd,_⟩) (A5_ (B0 D))
def rO(Ġ):AO:=f_ (i3 C) (Β (AzW _ _)) (f_ Ala (.AT C' ::_) (C' ==C))
#print L3
namespace Hd
open H_ AHy Alb IR L2 L3
noncomputable section
def JV:Ζ ->Ar5 ->FR
 | _,[]=> []
 | i,o::r=>È o.isFreed (JV IM r) ((i,o)::JV IM r)
def cut(h:AN)(_:Ζ):FR:=JV 0 h.objs.toList
def treeOf:Ar5 ->Ζ ->BT ->BT
 | [],_,t=>t
 | o::r,i,t=>treeOf r IM (t.ins i o)
abbrev ann:cq:=Β (B0 6)
abbrev z:AR:=AkY
def CL(p:A6):Env:={HH:=p.main.scope,locals:=mainNs,globals:=mainNs,cells:= [],code:= .AT 13,frame:=Β 14}
def cB(p:A6):Code:= .OT Auf Afu
def S0(ĭ):AC:=BRj
def Sa(x:BFr)(w:AZ)(os:AH0):AC:=Ħ x y Ν (S0 w os)
def Ta(s:AC):SharedT:=⟨treeOf s.heap.objs.toList 0 C7,15,s.heap.life,Alc,AH2,LX,s.os⟩
abbrev TB:=P5 Ff Builtin
abbrev GoT:=BUc BFr
abbrev XR:=TB ->BQ A6 AZ Ζ cq (BQ Ζ Ζ SharedT Thread (ã (Flow×SharedT×Code×AR)))
abbrev X5:=BUc (G_ AC)
def fore(tb:TB)(GO:GoT)(p:A6)(w:AZ)(os:AH0):AC:=Sa (GO tb p w 11 ann 12 Ax7 Auh) w os
def shot(NX)(tb:TB)(GO:GoT)(RUN:XR)(TOP:X5)(X6:BJ8)(p:A6)(obs:AC ->α)(w:AZ)(os:AH0):ã ((Flow×Code)×α):=
 (RUN tb p w 11 ann 1 30000 (Ta (fore tb GO p w os)) ⟨(X6 Auf Afu).wrap doneF deadEnd id id,cB p,z,AVn⟩).bind (QP ((TOP tb p w 11 ann 2 (x.2.1).abs ⟨doneF gg,Db x,KL x,AVn⟩).B_ fun s=>((x.1,Db x),obs s)))
def Nn(NX)(SEEN:BT4)(p q:A6)(RS:AA)(Xt:Aqc)(Ae1)(obs:AwY)(n:Ζ)(w:AZ)(s:AC):AO×α×β:=
 (BUt,BSt SEEN,ArA)
def adr(Ay_):Η:=BYb x AaA f 0
def isRef(Ay_):AO:=f_ x (Β (AJG _)) Θ
def allB:lm nI
 | []=>Θ
 | b::l=>ABS (allB l) Τ
def nth(l:nI)(i:Ζ):AO:=match l,i with
 | [],_=>Θ
 | b::_,0=>b
 | _::l,i+1=>nth l i
def JS(fd:ET):ET:={fd with kwdefaults:= CI,doc:= CI,pyModule:= CI,annotations:=Ε,code:= CI,closureTuple:= CI}
def fnO(BQv):AS7:=Lv (i3 f) (Β ⟨_,_,.func fd,_⟩) (È (codeIn K fd.code D_&&keepIn K ï) (Β (JS fd)) Ε)
def X7(K:FR)(v:AD):AO:=f_ v (.AT T) (f_ (i3 T) (Β A5I) (t== MH &&(f_ i5 [CI] Θ)))
def fnD(BQv):AS7:=(fnO K f D_).bind fun fd=>(È (X7 K fd.defaults) (Β (AdN fd CI)) Ε)
def fnN(K:FR)(x:Ξ):AS7:=BRw fnO
def fnM(K:FR)(x:Ξ):AS7:=BRw fnD
abbrev ex(x D_:Ξ)(st:AM):AS7:=Β A5i
abbrev d(x:Ξ)(s:AM):Ξ×AM:=(x,s)
def seen(K:FR)(ds:AeL):AaP:=AH3 fun d=>fnN K d.1
def due(ds:AeL):AaP:=AH3 fun d=>ex d.1 d.1 d.2
def recOf(s:AM):Ald:=match s with
 | .AlY n a b _ _ _ sc _ _ ps=>⟨n,a,b,sc,ps⟩
 | _=>⟨D',MJ s,[],bJ s,z⟩
def intO(Ay_):OI:=AAL x (IF (.AF i _)) (Β i)
def wR:An ->gx AdC
 | []=>iN
 | AVT::r=>(wR r).B_ (.inl i:: ·)
 | AVC::r=>(wR r).B_ (.inr x:: ·)
 | _=>Ε
def tupO(A0L):gx AdC:=AAL Aei A5I (BIb (wR i5))
def setF(b:AO)(w:AZ):AZ:={w with Ale:={ACO with followText:=fun r=>(BJx b)}}
def JW:An ->gx Ξ
 | []=>iN
 | AVC::r=>(JW r).B_ (x:: ·)
 | _=>Ε
def tupS(A0L):gx Ξ:=AAL Aei A5I (BIb (JW i5))
def Sv(K:FR):BYM ->gx AbM
 | []=>iN
 | ⟨h,AVC,AFg⟩::r=>(tupS K b).bind fun t=>(Sv K r).B_ ((h,x,t):: ·)
 | _=>Ε
def tabO(A0L):gx AbM:=AAL Aei ⟨G' t,Ε,.UX es _,sl⟩ (Arw (t= i6 &&sl.isEmpty) (Sv K AW4))
def tabD(w:AZ)(Υ:ny):gx AbM:=Β (AOf fun p=>(hashStr w AK,AK,BS))
#where
#print Hd
namespace L3
open H_ L2
def X8:ny:= [BLX UY,AEd "drop" [AEP,AEP],AEd JU [(Lm JU),(Lm UZ)],AEd AW5 [],AEd FS [],Af6 EU,Af6 OU,Af6 XN,BLX AW6,AEd AW7 [AEP,AEP],Af6 Alf]
#print L3
local macro_rules | `(tactic| nofun)=> `(tactic| exact ⟨rfl,rfl,rfl,by decide+kernel,rfl,by decide+kernel,by decide+kernel⟩)
namespace Lw
open H_ Nl IR L2 L3
def Bz(AGy):AM:=PySem.Challenge.pw_hall_k83_no_row.main.body.getD i (.Pass AkY)
abbrev Ql:AM:=ADu 20 0
abbrev z2z:AM:=Bz 28
abbrev zx9:AM:=Bz 34
abbrev zm2:AM:=Bz 33
abbrev Yb:AM:=ADu 36 0
abbrev Qm:AM:=AT7 0
abbrev z74:AM:=Bz 88
abbrev zl7:AM:=Bz 90
abbrev znl:AM:=Bz 93
abbrev zt4:AM:=Bz 22
abbrev zql:AM:=Bz 23
abbrev zp5:AM:=Bz 92
abbrev zum:AM:=Bz 86
abbrev zim:AM:=Bz 91
abbrev zqb:AM:=Bz 94
abbrev znm:AM:=Bz 97
abbrev zmv:AM:=Bz 95
abbrev zlv:AM:=Bz 96
abbrev zno:AM:=Bz 89
abbrev zm8:AM:=Bz 87
abbrev zeg:AM:=AMr 3
abbrev zjg:AM:=AMr 4
abbrev zhw:AM:=Bz 40
abbrev zit:AM:=AMr 5
abbrev zf1:AM:=AMr 6
abbrev zkz:AM:=AT7 3
abbrev zkw:AM:=ADu 20 3
abbrev zn9:AM:=AT7 1
abbrev Qn:AM:=Bz 105
abbrev zpn:AM:=Bz 106
abbrev zm1:AM:=Bz 113
abbrev zsy:AM:=Bz 112
abbrev zp8:AM:=Bz 103
abbrev zte:AM:=Bz 19
abbrev zpb:AM:=Bz 18
abbrev Qo:AM:=ADu 20 1
abbrev z43:AM:=Bz 47
abbrev zsj:AM:=Bz 46
abbrev zs2:AM:=Bz 43
abbrev zxy:AM:=Bz 45
abbrev zkm:AM:=Bz 50
abbrev zo5:AM:=Bz 54
abbrev zo3:AM:=Bz 53
abbrev znk:AM:=Bz 52
abbrev yix:AM:=Bz 51
abbrev Yc:AM:=Bz 49
abbrev zg8:AM:=Bz 58
abbrev zof:AM:=Bz 76
abbrev Yd:AM:=Bz 75
abbrev z88:AM:=Bz 24
abbrev z1i:AM:=Bz 29
abbrev zxr:AM:=Bz 60
abbrev zsb:AM:=Bz 59
abbrev z1m:AM:=Bz 25
abbrev zn2:AM:=Bz 62
abbrev zr6:AM:=Bz 61
abbrev Vz:AM:=Bz 57
abbrev zm3:AM:=Bz 56
abbrev z2x:AM:=Bz 26
abbrev ybs:AM:=Bz 27
abbrev ztp:AM:=Bz 35
abbrev zjh:AM:=ADu 36 1
abbrev zju:AM:=Bz 66
abbrev z8g:AM:=Bz 30
abbrev Qp:AM:=Bz 65
abbrev zc7:AM:=AMr 1
abbrev zr3:AM:=Bz 31
abbrev zdm:AM:=Bz 38
abbrev zg7:AM:=Bz 73
abbrev z3l:AM:=Bz 72
abbrev z28:AM:=Bz 74
abbrev zgd:AM:=Bz 79
abbrev Ye:AM:=Bz 78
abbrev ybx:AM:=Bz 77
abbrev Qq:AM:=AMr 0
abbrev Qs:AM:=AT7 2
abbrev Qt:AM:=AT7 1
abbrev Qu:AM:=Bz 106
abbrev zl5:AM:=Bz 104
abbrev zpy:AM:=Bz 107
abbrev zjk:AM:=Bz 110
abbrev zg4:AM:=Bz 108
abbrev zsw:AM:=Bz 109
abbrev zlb:AM:=Bz 111
abbrev CT:AM:=Bz 114
def ds:AeL:= [CA AW8 z2z,CA AW9 zx9,CA AW_ zm2,CA AW' z74,CA AXA zl7,CA AXB znl,CA AXC zt4,CA AXD zql,CA AXF zp5,CA AXG zum,CA AXH zim,CA AXI zqb,CA AXJ znm,CA AXK zmv,CA AXL zlv,CA AXM zno,CA AXN zm8,CA ACQ Qn,CA XO zpn,CA AXO zm1,CA AXP zsy,CA AXQ zp8,CA AXR zte,CA AXS zpb,CA AXT z43,CA AXU zsj,CA AXV zs2,CA AXW zxy,CA AXX zkm,CA AXY zo5,CA AXZ zo3,CA AXa znk,CA "led" yix,CA AXb Yc,CA AXc zg8,CA AXd zof,CA AOg Yd,CA AXe z88,CA AXf z1i,CA AXg zxr,CA AXh zsb,CA AXi z1m,CA AXj zn2,CA AXk zr6,CA AXl Vz,CA AXm zm3,CA AXn z2x,CA AXo ybs,CA AXp ztp,CA AXq zju,CA Ĳ z8g,CA AXr zr3,CA AXs zg7,CA AXt z3l,CA AXu z28,CA AXv zgd,CA AXw Ye,CA AXx ybx,CA XO Qu,CA AXy zl5,CA AXz zpy,CA AX0 zjk,CA AX1 zg4,CA AX2 zsw,CA AX3 zlb,CA Su CT]
def Yg(AHW):nI:= [
 Κ (LU Sz),
 Κ (LU RU),
 Κ (LU RY),
 Κ (LU ĳ),
 Κ (LU Ĵ),
 Κ (LU ĵ),
 Κ (LU S4),
 Κ (LU xh),
 Κ (LU Ķ),
 Κ (LU ķ),
 Κ (LU AH6),
 Κ (LU Rc),
 Κ (LU Re),
 Κ (LU XT),
 Κ (LU XU),
 Κ (LU A6H),
 Κ (LU A6I),
 Κ (LU "Few"),
 Κ (LU "Apart"),
 Κ (Ahv Rc),
 Κ (Ae2 Rc),
 Κ (Ae3 Rc),
 Κ (AzT Rc),
 Κ (Ae4 Rc),
 Κ (Ahd Rc),
 Κ (Ahv Re),
 Κ (Ae2 Re),
 Κ (Ae3 Re),
 Κ (AEW Re A6K A6L),
 Κ (Ae4 Re),
 Κ (Ahd Re),
 Κ (Ahv XT),
 Κ (Ae2 XT),
 Κ (Ae3 XT),
 Κ (AzT XT),
 Κ (Ae4 XT),
 Κ (Ahd XT),
 Κ (Ahv XU),
 Κ (Ae2 XU),
 Κ (Ae3 XU),
 Κ (AzT XU),
 Κ (Ae4 XU),
 Κ (Ahd XU),
 Κ (AJS Rc i7),
 Κ (AJS Rc HI),
 Κ (AJS Re XX),
 Κ (AMg AOh),
 Κ (AMg JU),
 Κ (AMg UZ),
 Κ (AMg OV),
 Κ (AMg S_),
 Κ (AMg eR),
 Κ (AG5 HI),
 Κ (AG5 AX4),
 Κ (AG5 Ali),
 Κ (AG5 OV),
 Κ (AG5 JU),
 Κ (AG5 UZ),
 Κ (AG5 TC),
 Κ (AuM LW),
 Κ (AuK LW),
 Κ (AQM Re LW),
 Κ (AQK Re LW),
 Κ (AT8 LW),
 Κ (AT6 LW),
 Κ (AMt ACR),
 Κ (AMp ACR),
 Κ (AMt EU),
 Κ (AMp EU),
 Κ (AMt OU),
 Κ (AMp OU),
 Κ (AMt XN),
 Κ (AMp XN),
 Κ (AT8 ĸ),
 Κ (AT6 ĸ),
 Κ (AuM FS),
 Κ (AuK FS),
 Κ (AT8 TD),
 Κ (AT6 TD),
 Κ (AuM UY),
 Κ (AuK UY),
 Κ (AQM Re ACS),
 Κ (AQK Re ACS),
 Κ (AMt ACT),
 Κ (AMp ACT),
 Κ (AMt LW),
 Κ (AMp LW),
 Κ (AT8 Ĺ),
 Κ (AT6 Ĺ),
 Κ (AT8 TD),
 Κ (AT6 TD),
 Κ (LU Alj),
 Κ (LU Alk),
 Κ BZt,
 Κ (t8 RU),
 Κ BZu,
 Κ (AJK rO ĳ),
 Κ (AJK rO Ĵ),
 Κ (t8 ĵ),
 Κ BZv,
 Κ (t8 xh),
 Κ (t8 Ķ),
 Κ (t8 ķ),
 Κ (t8 AH6),
 Κ (Pi "all"),
 Κ (Pi AH7),
 Κ (Pi aw),
 Κ (Pi MH),
 Κ (Pi "max"),
 Κ (Pi xi),
 Κ (Pi "abs"),
 Κ (Pi Pl),
 Κ (Pi xj),
 Κ (Pi XY),
 Κ (Pi ĺ),
 Κ (Pi eP),
 Κ (Pi AOi),
 Κ (Pi "any"),
 Κ (Pi FE),
 Κ (Pi Rl),
 Κ (Pi i8),
 Κ (Pi xk),
 Κ (Pi XZ),
 Κ (A1i BaP 60),
 Κ (A1i BaQ 12),
 Κ (A1i BaR 8),
 Κ (LU "RULES"),
 Κ (BFY "RULES" [Ď Ĳ,Ď "middle",Ď "pair"]),
 Κ (LU A6M),
 Κ (BFY A6M [Ď EU,Ď OU,Ď XN,Ď AW6,Ď AW7,Ď Alf]),
 Κ (LU Alm),
 Κ (AQQ BYc),
 Κ (AEW S4 AH8 xl),
 Κ (AfH S4),
 Κ (AjC S4),
 Κ (AJt S4 AOc),
 Κ (Afy S4),
 Κ (Afx S4),
 Κ (xE ĵ 0),
 Κ (xE S4 1),
 Κ (xE xh 2),
 Κ (xE Ķ 3),
 Κ (xE ķ 4),
 Κ (xE Ĵ 5),
 Κ (xE ĳ 6),
 Κ (xE RU 7),
 Κ (xE RY 8),
 Κ (xE Sz 9),
 Κ (AEW RU AH8 xl),
 Κ (AfH RU),
 Κ (AjC RU),
 Κ (AJt RU AOc),
 Κ (Afy RU),
 Κ (Afx RU),
 Κ (xC ĵ 0),
 Κ (xC S4 1),
 Κ (xC xh 2),
 Κ (xC Ķ 3),
 Κ (xC ķ 4),
 Κ (xC Ĵ 5),
 Κ (xC ĳ 6),
 Κ (xC RU 7),
 Κ (xC RY 8),
 Κ (xC Sz 9),
 Κ (AEW RY AH8 xl),
 Κ (AfH RY),
 Κ (AjC RY),
 Κ (AJt RY AOc),
 Κ (Afy RY),
 Κ (Afx RY),
 Κ (xD ĵ 0),
 Κ (xD S4 1),
 Κ (xD xh 2),
 Κ (xD Ķ 3),
 Κ (xD ķ 4),
 Κ (xD Ĵ 5),
 Κ (xD ĳ 6),
 Κ (xD RU 7),
 Κ (xD RY 8),
 Κ (xD Sz 9),
 Κ (AEW Sz AH8 xl),
 Κ (AfH Sz),
 Κ (AjC Sz),
 Κ (AJt Sz AOc),
 Κ (Afy Sz),
 Κ (Afx Sz),
 Κ (xB ĵ 0),
 Κ (xB S4 1),
 Κ (xB xh 2),
 Κ (xB Ķ 3),
 Κ (xB ķ 4),
 Κ (xB Ĵ 5),
 Κ (xB ĳ 6),
 Κ (xB RU 7),
 Κ (xB RY 8),
 Κ (xB Sz 9),
 Κ BZv,
 Κ (Aiu S4),
 Κ (t8 RU),
 Κ (Aiu RU),
 Κ BZu,
 Κ (Aiu RY),
 Κ BZt,
 Κ (Aiu Sz),
 Κ ((K2 Sz)=205),
 Κ ((K2 RU)=181),
 Κ ((K2 RY)=193),
 Κ ((K2 ĳ)=169),
 Κ ((K2 Ĵ)=150),
 Κ ((K2 ĵ)=49),
 Κ ((K2 S4)=61),
 Κ ((K2 xh)=73),
 Κ ((K2 Ķ)=85),
 Κ ((K2 ķ)=133),
 Κ ((K2 AH6)=24),
 ABH Rc 265,
 ABH Re 380,
 ABH XT 830,
 ABH XU 678,
 ABH A6H 37,
 ABH A6I 97,
 ABH "Few" 109,
 ABH "Apart" 121]
def JX(AHW):Akc:=(
 Hd.seen K ds,[ADt Rc LW AH9,
  ADt Re LW AX5,
  Aca LW AH_,
  AMq ACR A6R,
  AMq EU A6S,
  Hd.fnO K (K2 Alj) OU,
  AMq OU A6T,
  AMq XN A6U,
  Aca ĸ A6V,
  ADt Rc FS A6W,
  BGr,
  ADt Rc UY AH',
  ADt Re ACS A6X,
  Hd.fnM K xm,
  AMq ACT A6Y,
  Hd.fnO K (K2 Alk) AOj,
  AMq LW AIA,
  Aca Ĺ AIB,
  BGr],[Hd.tabO K BYc])
def obs(AHW):AO×Akc:=(AdD,JX K)
def good2(AHX):Akc:=(Hd.due ds,
 [AfK AH9 Ql,
  AfK AX5 Yb,
  AfK AH_ Qm,
  Xs ACR A6R zeg,
  Xs EU A6S zjg,
  Xs OU OU zhw,
  Xs OU A6T zit,
  Xs XN A6U zf1,
  Xs ĸ A6V zkz,
  Xs FS A6W zkw,
  BEd zn9,
  Xs UY AH' Qo,
  Xs ACS A6X zjh,
  Xs xm xm Qp,
  Xs ACT A6Y zc7,
  Xs AOj AOj zdm,
  AfK AIA Qq,
  Xs Ĺ AIB Qs,
  BEd Qt],[Hd.tabD w X8])
def good(AHX):AO×Akc:=(Θ,good2 w)
abbrev pg:A6:=PySem.Challenge.pw_hall_k83_no_row
abbrev lw:W.OpenLaw:=PySem.Challenge.rw_hall_k83_no_row
abbrev vw:A6:=W.view pg [114]
def RS:AA:=pg.boundNames.filter (QP (x != Su))
theorem hd_e:W.opening pg=W.plainProg pg.main.scope.names:=iE
theorem hd_f(s:AC):PySem.fenceModules? pg s=Β s:=iE
theorem hd_A(ĭ):AOk Uf pg w 11 Hd.ann 12 (Hd.S0 w os) (W.topStub pg)=Β (BSr,⟨denote Uf (AOl pg),AOl pg,Hd.z,BCi⟩):=by
 show BYA PySem.W.Fast.te11892475500146522536 AIC;kernel_rfl
theorem hd_B(ĭ):W.segRun Uf pg w 11 Hd.ann 1 1 (Hd.fore Uf AOk pg w os) (W.blockOf (W.behindTheImports pg) (Hd.env pg) (AOl pg) Hd.z BCi)=Β (gg,BSr,AOl pg,Hd.z):=by
 show BYA PySem.W.Fast.te14374325043358763698 AIC;kernel_rfl
theorem hd_C(ĭ):(Hd.Ta (BM' os)).abs=BM' os:=by
 rw[AX8,AIC];kernel_rfl
theorem ynq(ĭ):BUr Θ Θ:=by
 rw[AX8,Alq,Alr,Als,Bae,AIC];kernel_rfl
theorem yoa(ĭ):BQg Θ Θ:=by
 show BYB Alq Alr Als AIC;kernel_rfl
theorem ynw(ĭ):BUr Τ Τ:=by
 rw[AX8,Alq,Alr,Als,Bae,AIC];kernel_rfl
theorem yn8(ĭ):BQg Τ Τ:=by
 show BYB Alq Alr Als AIC;kernel_rfl
theorem hd_s:lw.row.wellSaid=Θ:=iE
theorem hd_said:lw.wellSaid=Θ:=by
 unfold W.OpenLaw.wellSaid;rw[hd_s]
 kernel_rfl
theorem hd_ok:LN (W.chainsOk vw&&W.opensWell lw.row.prog) (W.frees Baf&&lw.row.within.isEmpty):=iE
theorem hd_bare:lw.row.prog.bare:=⟨Z,Z,Z,Z,Z,FM⟩
theorem hd_d:W.defOf vw lw.row.name=Β (A6a CT,[]):=iE
theorem hd_p:lw.row.prog.theDef lw.row.name=Β (AHe Ale,AHe OT,AHe HH):=iE
theorem hd_k:W.kwWritten? (AHe params.kwonlyargs) (AHe params.kw_defaults)=Β []:=iE
theorem hd_n:AHe Fm= Su :=iE
theorem hd_z:AHe params.defaults= []:=iE
#print Lw
namespace L2
open H_ Nl IR
abbrev Key:=Sum BI Ξ
def wU:Key ->AD ->AO
 | .AV k,v=>Value.isInt k v
 | lr,v=>AIE x v
def aaQ(AHX):Key ->BI
 | .AV k=>hashInt k
 | lr=>hashStr w x
theorem G8:KO k Key v AD (wU k v=Θ) ((∃i t,k=AIF i/\v=AVQ)\/ (∃x t,k=U2 x/\v=Ahk))
 | ALu,v,h=>by
  show Ϛ t (A6c (k:=i) (v:=v) h);exact .AV (NV i t e)
 | lr,v,h=>by
  show Ϛ t (Value.isStrOf_shape (x:=x) (v:=v) h);exact .CB (NV x t e)
theorem z7o(i:BI)(t:Tok):wU (.AV i) Abr=Θ:=lf wU Value.isInt
theorem z83(x:Ξ)(t:Tok):wU (O0 x) ASc=Θ:=lf wU AIE
theorem ymh(a b:BI):Adm AIF AIF=(a==b):=by
 by_cases e:a=b
 ·subst e;simp
 ·have h:¬(AIF a:Key)=AIF b:=ì (e (Sum.inl.inj q));rw[BYV];exact(Alv e).i9
theorem ylr(a b:Ξ):Adm U2 U2=AH5 (a=b):=by
 by_cases e:a=b
 ·subst e;simp
 ·have h:¬(U2 a:Key)=U2 b:=ì (e (Sum.inr.inj q));rw[BYV,pV e]
theorem ylg(a:BI)(b:Ξ):EE (Adm AIF U2):=BCq
theorem ylt(a:Ξ)(b:BI):EE (Adm U2 AIF):=BCq
def rA(BA:A6)(w:AZ):PySem.KeyKind BA w Key where
 is:=wU
 hash:=aaQ w
 inj:=fun v a b ha hb=>by
  show AhU ha
  ·rcases G8 hb with ⟨j,u,Z,e⟩ | ⟨y,u,Z,e⟩
   ·show BCf
   ·exact iA
  ·rcases G8 hb with ⟨j,u,Z,e⟩ | ⟨y,u,Z,e⟩
   ·exact iA
   ·show BCf
 byValue:=fun k v h=>by
  rcases G8 h with ⟨i,t,Z,Z⟩ | ⟨x,t,Z,Z⟩<;>rfl
 pyHash:=fun hv h=>by
  show AhU hv
  ·exact wpAny_pyHash_int h
  ·exact wpAny_pyHash_str h
 eqBool:=fun hu hv h=>by
  show AhU hu
  ·rcases G8 hv with ⟨j,u,Z,Z⟩ | ⟨y,u,Z,Z⟩
   ·show AAb ymh (wpAny_eqBool_int h)
   ·show AAb ylg (Bak i t y u _ _ _ _ h)
  ·rcases G8 hv with ⟨j,u,Z,Z⟩ | ⟨y,u,Z,Z⟩
   ·show AAb ylt (Bal x t j u _ _ _ _ h)
   ·show AAb ylr (wpAny_eqBool_str h)
 «strs»:=fun k x t v h=>by
  rcases G8 h with ⟨i,u,Z,e⟩ | ⟨y,u,Z,e⟩
  ·exact iA
  ·injection e with e1 _;subst e1;cases v<;>rfl
theorem z23(BA:A6)(w:AZ)(i:BI)(t:Tok):ASf rA (.AV i) Abr=Θ:=z7o i t
theorem zto(BA:A6)(w:AZ)(x:Ξ)(t:Tok):ASf rA (O0 x) ASc=Θ:=z83 x t
inductive V where
 | non | bl (b:AO) | AF (i:BI) | Ψ (x:Ξ) | byt (b:Ļ UInt8) | flt (b:UInt64) | AT (a:Η) | ty (n:Ff)
 deriving AYD
def HK:Adl V
 | BC,u=>u=eW
 | d4,u=>u=ACX b
 | E5,u=>Ö AVQ
 | dS,u=>Ö Ahk
 | .byt b,u=>Ö (Value.bytes b t)
 | .flt b,u=>Ö (A6e b t)
 | D8,u=>AP'
 | .ty n,u=>u=AIH n
abbrev E6:Do AL An:=AOm HK
theorem Vals.length{xs:AL}{us:An}(r:cz):A_T:=BZF
theorem Vals.get:∀{xs:AL} {us:An} {i:Ζ} {x:V},cz ->ZZ ->∃u,D7 us u/\ub
 | _,_,_,_,C7,e=>AMu
 | _,_,0,_,.AU r _,e=>by simp at e;subst e;exact WC r
 | _,_,i+1,x,Avn,e=>by
  show C6 u (Vals.get (i:=i) (x:=x) t AL3)
  exact Azp
theorem Vals.set(BNo):∀{xs:AL} {us:An} (i:Ζ),cz ->E6 (Alw i x) (us.set i u)
 | _,_,_,C7=> C7
 | _,_,0,Avn=> AHJ
 | _,_,i+1,.AU q t=> .AU q (Vals.set r i t)
theorem Alx:∀{xs ys:AL} {us ws:An},cz ->E6 ys ws ->E6 AVP (us++ws)
 | _,_,_,_,C7,s=>s
 | _,_,_,_,AHJ,s=> .AU r (Alx t s)
theorem Vals.take:BTV xs.take us.take
 | _,_,0,_=> C7
 | _,_,_+1,C7=> C7
 | _,_,n+1,AHJ=> .AU r (Vals.take n t)
theorem Vals.drop:BTV xs.drop us.drop
 | _,_,0,r=>r
 | _,_,_+1,C7=> C7
 | _,_,n+1,Avn=>Vals.drop n t
def pI:Do WZ cq
 | Adh,AR9=>OR
 | Ε,Ε=>IS
 | _,_=>D6
def KV{κ:GG}:Do tJ AbC:=AOm fun(p:κ×V) (q:κ×AD)=>AK=DD/\HK BS FL
def kV:Key ->V
 | ALu=> E5
 | lr=> dS
inductive HO where
 | A8 (xs:AL)
 | BM (xs:AL)
 | dK (Υ:mS) | dT (Υ:dA)
 | set (S:lm BI) (n:Ζ)
 | ins (C dx:Η) (fs:v_)
 | C4 (x:Η)
 | xd (fs:v_)
 | met (f x:Η)
 | rng (lo hi:BI)
 | frz (o:Obj) (u:HO)
 | Qw (ps:Hb)
 | ext (φ:AsM)
abbrev Hp:=P5 Η HO
def upd(H:Hp)(a:Η)(o:HO):Hp:=vb (wn b a o (H b))
theorem j4{H:Hp}{a:Η}{o:HO}:upd H a o a=Β o:=by unfold upd;show wT
theorem dj(Akr){o:HO}(h:gS):upd H a o b=H b:=AGO upd AsC
theorem ynu(Akr){o u:HO}(h:AeR)(h' :wP)(d:o≠u):a≠b:=by
 intro e;subst e;rw[h] at h';exact d (zJ h')
theorem lX(Akr){o:HO}(h:AeR)(h' :NG):a≠b:=by
 intro e;subst e;rw[h] at h';cases h'
section
variable(P:A6)(w:AZ)
def bV(H:Hp)(h:AN)(a:Η):GI HO
 | IL=>WN/\A2z (AKd/\cE ALO)
 | LO=>WN/\∃AH:An,AKd/\IsTup h a Kj
 | .dK Υ=>A3K
 | .dT Υ=>Abt (∃xs:AFX,
   AOm (fun(p:DI×V) (q:Aw7)=>BO6) Υ xs/\
   ∃o es ep,af/\A6f/\Avb/\AW4=JY (entryOfKey (AOn AFJ))/\ (xs.map (·.1)).ax)
 | .set S n=>h.SetOf (intKind P w) a S n
 | .ins C dx fs=>Axn/\BaF/\dx≠a/\cE Avu/\
   ∃mA,A1I/\ (∀f,A4x)/\BJ3
 | .C4 _=>∃o,af
 | .xd fs=>∃mA,h.Ns1 a mA/\∀f,A4x
 | .rng lo hi=>∃t u v,cE Ab6
 | .frz o u=>af/\bV H h a u
 | .Qw ps=>BDz
 | .met f x=>BKs x
 | .ext φ=>φ h/\ (∃o,af)/\∀h1 h2:AN,φ h1 ->(∀o,ϒ xt ->ϒ h2.get?) ->φ h2
def pQ(H:Hp)(h:AN):Ι:=∀a o,AeR ->ī o
#where
section
variable{P:A6}{w:AZ}{H H' :Hp}{h h' :AN}{a:Η}{o:HO}
theorem bV.lt(x:ī o):Av1:=by
 cases o with
 | A8 xs=>obtain⟨_,_,_,p⟩:=x;exact zK BS
 | BM xs=>show ASy z x (z.2).lt
 | dK Υ=>show AGJ g x;exact zK CC
 | dT Υ=>show AGJ q x;exact zK DD
 | set S n=>show Ab_ v x;exact zK EN
 | ins C dx fs=>obtain⟨_,_,_,e,_⟩:=x;exact dQ
 | C4 y=>obtain⟨_,e⟩:=x;exact dQ
 | xd fs=>show BYG x;exact dQ
 | rng lo hi=>obtain⟨_,_,_,e⟩:=x;exact dQ
 | frz ob u=>obtain⟨e,_⟩:=x;exact dQ
 | Qw ps=>exact zK (show cE _ from x)
 | met f y=>exact zK (show cE _ from x)
 | ext φ=>obtain⟨_,⟨_,e⟩,_⟩:=x;exact dQ
theorem Al2(AdE){F G:Do α β}:∀{l₁:Go} {l₂:D9 β},AOm F l₁ l₂ ->(∀a b,F a b ->G a b) ->AOm G l₁ l₂
 | _,_,C7,_=> C7
 | _,_,AHJ,f=> .AU (f _ _ r) (Al2 t f)
theorem bV.stay(x:ī o)(k:ArO (b=a\/ZU (.C4 a)) X_)
  (ho:NA (ZU (.C4 a)) (ARJ (.C4 a))) (ht:A3n):bV P w H' h' a o:=by
 induction o with
 | A8 xs=>obtain⟨z,AH,n,ya⟩:=x;exact⟨z,AH,n,ya.1,AEV ve⟩
 | BM xs=>obtain⟨z,AH,r,ob,l⟩:=x;exact⟨z,AH,r,ob,AEV l.1,l.2⟩
 | dK Υ=>obtain⟨z,y,vs,r,ob,es,ep,j⟩:=x;exact⟨z,y,vs,r,ob,es,ep,AEV j.1,j.2⟩
 | dT Υ=>
  obtain⟨z,y,xs,r,ob,es,ep,m⟩:=x;exact⟨z,y,xs,Al2 r fun p q z=>BOZ,ob,es,ep,AEV m.1,m.2⟩
 | set S n=>obtain⟨ob,es,ep,t,g⟩:=x;exact⟨ob,es,ep,t,AEV CC,g.2⟩
 | ins C dx fs=>
  obtain⟨d,z,ne,e,mA,⟨od,es,ep,e2,c⟩,r⟩:=x;exact⟨ho _ d,z,ne,AM2,mA,⟨od,es,ep,k _ _ (O0 d) e2,c⟩,r⟩
 | C4 y=>show JO ob e x ob AM2
 | xd fs=>obtain⟨mA,⟨od,es,ep,e,c⟩,r⟩:=x;exact⟨mA,⟨od,es,ep,AM2,c⟩,r⟩
 | rng lo hi=>obtain⟨t,u,v,e⟩:=x;exact⟨t,u,v,AM2⟩
 | frz ob u ih=>show JO e q x AM2 (ih q)
 | Qw ps=>
  have e:BDz:=x;exact k a _ sA e
 | met f y=>
  have e:BKs y:=x;exact k a _ sA e
 | ext φ=>obtain⟨p,⟨o,e⟩,st⟩:=x;exact⟨st _ _ p fun o q=>(AEV q),ϋ AM2,st⟩
theorem pQ.lt(x:eK)(e:AeR):Av1:=(x a o e).lt
theorem pQ.fresh(x:eK)(e:ay<=a):AGp:=by
 cases q:H a with
 | Ε=>rfl
 | Β u=>exact Ah1 (x.lt q) e
theorem pQ.kept(x:eK)(k:AhG):pQ P w H h' :=fun a o e=>
 (x a o e).stay (k9 u _ Afc) AHg ma
theorem pQ.laid(x:eK)(k:AhG)(hp:ay<=a)(new:bV P w AU1 h' a o):pQ P w AU1 h' :=QU (by
 have hn:=x.fresh hp;show A3X new (AR7 (Ap0 x) (fun c v _ q=>k c v q) q AG3 q AG3))
#where
def Rd(H:Hp)(a:Η)(u:HO):Ι:=AJp\/∃o,Th Ϯ
theorem Rd.ok{P:A6}{w:AZ}{H:Hp}{h:AN}{a:Η}{u:HO}(r:Rd H a u)(x:eK):ī u:=by
 rcases r with r | ⟨o,r⟩
 ·exact x a u r
 ·show EG (x a _ r);exact AI
def Yh:GI (G_ HO)
 | E2 A8 _=>IS
 | E2 dK _=>IS
 | E2 dT _=>IS
 | OA set _ _=>IS
 | Β (.ins _ _ _)=>IS
 | E2 ext _=>IS
 | E2 xd _=>IS
 | _=>D6
section
variable{P:A6}{w:AZ}{H:Hp}{h h' :AN}{x e:Η}{o' :HO}
theorem pQ.write(ok:eK)(mu:Az0)(he:Az')(k:BBN)(heo:A4c)
  (new:bV P w A'g h' x o'):pQ P w A'g h' :=OL u (by
 have Yi:∀c y,Aar c y ->c≠x:=BLH y
 have aaR:∀c xs,SL c Z_ ->c≠x:=BLH xs
 by_cases hb:b=x
 ·subst hb;rw[j4] at q;cases q;exact new
 ·rw[ð] at q;by_cases hbe:b=e
  ·have q' :ZU (.C4 x):=by
    rcases he with z | z
    ·exact Ϩ hbe.trans z hb
    ·rw[hbe];exact z
   rw[q] at q';cases q';obtain⟨v,hv⟩:=heo;exact⟨v,B1 hbe hv⟩
  ·refine AR7 (ok b u q).stay (fun c v hc r=>k c v ?_ r) r (B1 (dj (Yi c b r)) r) r (B1 (dj (aaR c xs r)) r)
   rcases hc with Z | hc
   ·exact hbe
   ·rintro Z;rcases he with z | z
    ·exact Yi c b hc z
    ·show AU_ hc (hb Z))
#where
structure Un (fs ex:BH) (H H' :Hp) (h h' :AN):Ι where
 IA:BSV (b∉fs) se
 M3:BSV (b∈fs) BJP
 eg:AfQ (NG ->b∉ex ->AJ2)
 ļ:ge tw (b∉ex) BaD
 tups:A3n
 nF:BJi
 pR:BL'
section
variable{fs fs' ex ex' :BH}{H H1 H2:Hp}{h h1 h2 h' :AN}{a x e:Η}{o:HO}
theorem Un.any(u:AOO H1 h1){b:Η}{ob:Obj}(q:ź X_)(n:NG)(hx:b∉ex):∃sl,K0 xt (AbQ ob sl):=by
 by_cases hb:b∈fs
 ·exact u.slot b ob q n hb hx
 ·exact⟨A6h,u.keep b ob q n hb hx⟩
theorem Un.trans(a:AOO H1 h1)(b:Un fs ex H1 H2 h1 h2):AOO H2 h2 where
 IA:=BN0 (b.keep c ob (a.keep c ob q n hc hx) A0g hc hx)
 M3:=BN0 (by
  obtain⟨sl,e1⟩:=a.slot c ob q n hc hx;show JO sl' e2 (b.slot c _ e1 A0g hc hx) sl' e2)
 eg:=fun c ob q n hx=>by
  show ă o' BGe;exact b.free c o' e1 A0g hx
 ļ:=fun c ob q hx=>by
  show ă o' BGe;exact b.there c o' e1 hx
 tups:=fun c xs q=>b.tups c xs (a.tups c xs q)
 nF:=fun c ob xs q=>b.nF c ob xs (a.nF c ob xs q)
 pR:=fun c ps q=>by
  obtain⟨m1,e1⟩:=a.pR c ps q;show JO m2 e2 (b.pR c _ e1) (m1++m2) (OM e2 Bap)
theorem AOq(k:AhG):AOO H h' :=
 ⟨A'o AzY,A'o ⟨A6h,AzY⟩,sL n _ n,A1M ⟨ob,AzY⟩,ma,AaS q q,fun _ ps q=>⟨#[],Afo q⟩⟩
theorem Un.refl:Un fs ex H H h h:=AOq ma
theorem AYH(k:AhG)(hp:ay<=a)(hn:AGp):AOO AU1 h' where
 IA:=fun b u q _ _ _=>Afc
 M3:=fun b u q _ _ _=>⟨u.slots,Afc⟩
 eg:=Ah2 _ (B1 (BCv (BaK (AlX q) hp)) n)
 ļ:=ż q _ ⟨u,Afc⟩
 tups:=OL xs AG3
 nF:=k9 u xs AG3
 pR:=BHV AaO
theorem Un.write(mu:Az0)(he:Az')(k:BBN)(heo:A4c):AOO (upd H x o) h' :=by
 have hx:AbW (b≠x):=fun b n z=>(BXd n)
 show GL hb (AbW (b≠e)) (fun b n z=>by
  subst z;rcases he with r | r
  ·exact hx b n r
  ·rw[n] at r;cases r) hm (ç wP (¬Yh (Β u)) (b≠x)) (fun b u q nm z=>by subst z;rw[q] at mu;exact nm mu) ⟨fun b u q n _ _=>BJW,fun b u q n _ _=>⟨u.slots,BJW⟩,Ah2 _ (B1 (dj (hx b n)) n),ż q _ ?_,
  OL xs (AFr A0U q),k9 u xs (AFr A0U q),BHV (dj A0U)⟩
 by_cases hbe:b=e
 ·show Mo hbe heo
 ·exact⟨u,k b u hbe q⟩
#where
def tD(Az2):BH:=BKd filter (H a).Ŀ
def Bt(Az2):AN:=ACZ h (tD h H)
theorem z9j(Az2):(Bt h H).Al6=ay:=W.hideAll_size _ _
theorem ye3(BQ_)(e:tw)(n:NG):AL2 Bt h H:=
 Baq _ e fun hm=>by
  have q:(H b).Ŀ=Θ:=(Bas hm).2;rw[n] at q;simp at q
theorem yjv(BQ_)(e:AL2 Bt h H):tw/\NG:=by
 have e' :tw:=A6k (tD h H) e;refine E9 e';cases q:H b with
 | Ε=>rfl
 | Β x=>
  have hm:b∈tD h H:=List.mem_filter.mpr ⟨List.mem_range.mpr (zK e'),DS q⟩
  have z:P4 (Bt h H).LY:=Bat (tD h H) hm;rw[z] at e;cases e
def yhi(g h:AN)(L:Η):fB:=BKd A6l (Ab9 (a=L\/ AS2 g.get? a) ((X_ a).B_ fun o=>(a,o)))
def Nn(g h:AN)(L d:Η):fB:=(yhi g h L).filter fun p=>(Κ (AK≠d))
structure Mod (K:Φ) (mg:DT) (B9:AN):Ι where
 G9:K.In B9
 glob:BW8
 blt:∃mb,base.Ns Al7 mb/\BO5
 nolimit:base.NoLimit
structure Cx where
 BA:A6
 w:AZ
 K:Φ
 mg:DT
 B9:AN
 A:B6
 N:AA
 Jn:AC
 R_:Hp
 CL:Env
 CF:I_
 stack:I_
 ex:BH
 fn:lm Ξ
 calm:AO
 pn:fB
 xe:fu
def frs(l:I_):BH:=l.filterMap (·.frame)
abbrev Cx.fs(X:Cx):BH:=frs xz
def rP(BNR):Ι:=AyS (AUh\/AL5 AIK)
def Loc(BNR):Ι:=AyS AUh
def Look(CL:Env)(h:AN)(m:DT)(x:Ξ)(u:AD):Ι:=
 (AQN AOs/\HR m u)\/ ((AJ9 AOs\/AL5 AOs)/\∃c,ATi/\h.IsCell c (Β u))
structure Cx.Ok (X:Cx):Ι where
 mod:BNO
 kind:Al8= Ÿ
 glob:Bau=eQ
 blt:X.env.builtins=Al7
 above:ϛ U_
 inj:A3V ADg (Au0 c)
 has:∀x,(AJ9 AIL\/AL5 AIL) ->∃c,ADg
 cab:∀x c,AoX ->ADg ->ϛ c
 hd:HV ->X.A.handled=Ε
 frames:X.A.frames=Β MM
 stk:MM=xz\/ (MM=Be::xz/\AVm)
 Yj:HE ŀ (AQ6/\uj b)
 bs:AfR (AqL/\P4 AIM)
 bsz:Baw<=Bav
 Ia:AfR (b∉ŀ)
 Ib:HE ŀ Aem
 funs:Bax SA xz
 frf:HE bE (P4 AIM)
structure Inv (X:Cx) (Μ:fB) (σ:AJi V) (H:Hp) (s:AC):Ι where
 ok:X.Ok
 os:s.os=X.s₀.os
 JS:BZw
 B9:Un bE ŀ AIM H X.s₀.heap A7
 loc:∃m,BAq/\∀(i:Ζ) (x:Ξ) (v:V),Hk ->AuC ->NN ->∃u,OR/\Look Be A7 m x u
 cell:AZ7 (∃v,Aqs)
 eg:bu U_
 freeC:AZ7 (bu c)
 pin:WF (X.pn++Μ) BRS
 hok:pQ EA X.w H A7
 len:AYK=X.N.length
section
variable{X:Cx}{Μ:fB}{σ:AJi V}{H H' :Hp}{s:AC}{h' :AN}
theorem Cx.Ok.nofr(ok:X.Ok){b:Η}{o:Obj}(e:MW X.base.get?):Aem:=ADn (by
 have:=(ok.funs.mem hb).1;show FI e;show ZO)
theorem Inv.bs(UR):AfR (Sc/\NG):=Tl ⟨AmC b o A_b BZU.2 (I.ok.nofr e) BZV,AIO b o A_b BZU.2 BZV⟩
theorem Inv.bk(UR):AfR Sc:=Tl (gN I.bs).1
theorem Inv.mod(UR):BNO:=I.ok.mod
theorem Inv.kIn(UR):X.K.In A7:=I.ok.mod.G9.keeps I.bk
theorem Inv.lt(UR):PY U_:=let ⟨_,hn,_⟩:=pe;hn.lt
theorem Inv.sz(UR):ϛ B2:=zQ AIP (AOu I.lt)
theorem Inv.nofs(I:AW){a:Η}(h:lc a):a∉bE:=ADn (by
 show ALg o BY3;exact Iy (zO (zK Ν) (zQ I.sz h)) Aab)
theorem Inv.cne(UR):uj U_:=fun x c e z=>by
 obtain⟨v,o,ho,hd⟩:=Agg;obtain⟨m,⟨o',es,ep,ho',hd',_⟩,_⟩:=pe;rw[z,ho'] at ho;cases ho;rw[hd'] at hd;cases hd
theorem Inv.funs(UR):AdS SA xz:=by
 have all:∀(l:I_),(HE (frs l) Atb) ->Bax SA l ->Ba0 SA l:=by
  intro l;induction l with
  | DU=>intro _ _;trivial
  | AU CL r ih=>
   intro hs hl;obtain⟨hk,⟨L,o,hf,hn,ho,hd⟩,hr⟩:=hl;have hL:L∈bE:=hs L (by unfold frs;rw[AYL,hf];exact zY)
   show DO sl e (AmD L o ho (A6q L hL) hL (DB (I.ok.Ib L z hL))) ⟨hk,⟨L,_,hf,hn,e,hd⟩,ih (V' (hs b (by unfold frs;rw[AYL,hf];exact zX _ hb))) hr⟩
 exact all xz (KE hb hb) I.ok.funs
theorem Inv.stack(UR):AdS SA MM:=by
 rcases I.ok.stk with e | ⟨e,hf⟩
 ·rw[e];exact I.funs
 ·rw[e];show C6 m pe;refine .AU (by rw[AIQ];decide) hf Ν ?_ I.funs
  exact Heap.get?_none_of_le (zQ I.ok.bsz AIP)
theorem Inv.stkSub(UR):HE wv (b∈U_::bE):=EB (by
 rcases I.ok.stk with e | ⟨e,hf⟩
 ·rw[e] at hb;exact zX _ hb
 ·rw[e] at hb;unfold frs at hb;rw[AYL,hf] at hb;exact hb)
theorem Inv.stkFree(UR):HE wv NG:=EB (by
 rcases AiX b hb with e | hb
 ·rw[e];exact jI
 ·show ALg o BY3;exact AIO b o Ν (A6q b hb) (DB (I.ok.Ib b z hb)))
theorem Inv.step(BT5)(I:AW)
  (hch:A3z)
  (IA:BKt Aem se)
  (M3:BKt Atb BJP) (eg:ADZ AcO (Sc ->NG ->AJ2))
  (ļ:ge AcO Sc BaD)
  (tups:A3n) (nF:BJi) (pR:BL')
  (ns:∀m,BAq ->h'.Ns U_ m) (hok:Agl) (hg:Al' g'):
  BUk:=by
 have neL:BEi:=BKj;show GL neC (ge AqL (b∉ŀ) AcO) (fun b o e hx hb=>by
  show ĩ (ADo hch) (hx z) (Ah1 AaQ z)) cellK (AZ7 (∀v,Aqs ->AvH)) (fun x c e v Awj=>by
  have Yk:c∉ch:=DB (BDS x c e Z);by_cases hc:c∈bE
  ·show DO sl q (BLk M3 Yk ho AVE) (EV q hd)
  ·exact⟨o,BLk IA Yk ho AVE,hd⟩) ⟨pf,I.os,hg,⟨AKm,AKm,LJ b o e n hx,Acp,fun b xs e=>tups b xs (AYM b xs e),Op xs e (nF b o xs (AIS b o xs e)),ADS ps⟩,?_,ANb,?_,ANb,ae,hok,ACc⟩
 ·exact IA b o (gN neL) hb Aju (BWc hb hx) (Avr hx)
 ·obtain⟨sl,e1⟩:=Ajt;obtain⟨sl',e2⟩:=M3 b _ (gN neL) hb Aju e1 (Avr hx);exact⟨sl',e2⟩
 ·show DO o' e1 AV2 (eg b o' Aju e1 (Avr hx))
 ·show DO o' e1 AV2 (ļ b o' Aju e1)
 ·obtain⟨m1,e1⟩:=BHQ;obtain⟨m2,e2⟩:=pR b _ e1;exact⟨m1++m2,OM e2 Bap⟩
 ·show ALd m pe;refine⟨m,ns m FK,fun i x v e1 e2 e3=> ?_⟩;show Ð r l (t.2 i x v e1 e2 e3);refine E3 u r;rcases l with l | ⟨k,c,e,z⟩
  ·exact .AV l
  ·exact Ah4 (cellK x c e _ z)
 ·show JO v z Agg v (cellK x c e v z)
 ·obtain⟨m,⟨o,_,_,ho,_⟩,_⟩:=pe;exact eg _ o (P_ (AuN hch)) ho jI
 ·show T_ v o g Agg (eg c o (P_ (BDS x c e Z)) CC AVE)
 ·show EG AHI;have Yk:AK∉ch:=DB (KL (hch AK z) p hp Z);exact⟨IA AK BS ED Q1 Yk Ν A3,eg AK BS Yk Ν A3,ED,Q1,uS⟩
theorem Inv.un{t' :Ζ}(I:AW)(u:ARX bE [] H' h')(hok:Agl):sM AKb:=by
 obtain⟨m,⟨o,es,ep,ho,r⟩,_⟩:=Aep;show DO sl hL (u.any ho jI BN) (BX5 [] (KE z (nomatch z)) (BP8 u.keep) (BP8 u.slot) (fun b o _ e n=>u.free b o e n BN) (Op _ e (u.there b o e BN)) u.tups u.nF u.pR (fun m' hm=>by
  show UK o' es' ep' hm;have ho' :=Ν;show ABP ho ho' ho' BPI) hok Ł)
theorem Inv.call(BT5)(I:AW)(u:ARX ABb ch H' h')(hok:Agl)(hg:Al' g')
  (hch:A3z):
  BUk:=by
 obtain⟨m,⟨o,es,ep,ho,r⟩,_⟩:=Aep;show DO sl hL (u.any ho jI (DB (AuN hch))) (I.step (ch:=ch) hch (fun b o hL hb hc e n=>u.keep b o e n (P_ ((MO (I.stkSub b z)).SB hL hb)) hc) (fun b o _ _ hc e n=>u.any e n hc) (fun b o hc e n=>u.free b o e n hc) (Op hc e (u.there b o e hc)) u.tups u.nF u.pR (fun m' hm=>by
  show UK o' es' ep' hm;have ho' :=Ν;show ABP ho ho' ho' BPI) hok hg)
theorem Inv.turned{t' :Ζ}{it:Η}(I:AW)(k:AhF (b≠it))(hn:bu it)(hL:it≠U_)
  (h1:it∈ŀ\/ϛ it) (h2:uj it) (h3:AKp it):AsS:=by
 have Yl:lT H (b≠it):=ż e z (Aqk hn)
 refine BU7 [it] A0G A0G A0G
 ·show AM9 b it cK ⟨h1,hL,h2,h3⟩
 ·show UK o es ep hm;exact⟨o,es,ep,k _ o (AJ1 hL) Ν,AI⟩
 ·refine Awv (fun c v hc q=>k c v ?_ q) AHg ma;show Avv hc z (Yl b u e) (Yl c _ z)
theorem Inv.tok(I:AW)(t:Ζ):bg (AJ5 t):=I.un (h' :=A7) (t' :=t) Un.refl IB
theorem Inv.kept{t' :Ζ}(I:AW)(k:A_0):AsS:=I.un (AOq k) (I.hok.kept k)
theorem Inv.laid{a:Η}{o:HO}{t' :Ζ}(I:AW)(k:A_0)(hp:lc a)(new:ADW AU1 h' a o):
  AEM a o AKb:=I.un (AYH k hp (AYO hp)) (I.hok.laid k hp new)
theorem Inv.write{x e:Η}{o:HO}{t' :Ζ}(I:AW)(mu:Az0)(he:Az')(k:ArO (b≠e) TK)(heo:A4c)
  (new:ADW (upd H x o) h' x o):AEM x o AKb:=I.un (Un.write mu he k heo) (I.hok.write mu he k heo new)
theorem Inv.pins_of{m5 :fB}(I:AW)(h:WF m5 BRS):A1' m5:=
 Apm pf (sR ((ph hp).SB (P_ (AIT p (zR _ z))) (h p)))
theorem zyd{N:AA}(hN:N.Nodup){i j:Ζ}{x:Ξ}(a:kg N)(b:SZ N x):i=j:=by
 obtain⟨h1,e1⟩:=AOv a;show DO h2 e2 (AOv b) ((List.getElem_inj hN).mp (e1.trans e2.symm))
theorem zua{M:AIU}{A:B6}{E:fu}{i:Ζ}{x:Ξ}{v:V}{u:AD}{Q:AAu}(I:AW)(hN:pi)(hi:Hk)(hx:AAP)(r:OR)
  (h:∀s',AzX cv ->(∃a,Aiw eh/\ (AxL (HR Al9 a))) ->Q () s') (Ak3):BLZ:=by
 obtain⟨m,yb⟩:=Aep;show BTe (B1 ACc (dr hi))
 have cne:=I.cne;have tracked:∀{a:Η} {h' :AN},(∃o,Aql/\AGp) ->Aiw h' ->pQ EA X.w H h' :=fun{a h'} ha hs b ob e=>by
  obtain⟨_,ya⟩:=ha;refine BFk (fun c w' hc q=>BDy) AHg ma;rintro Z;rcases hc with Z | hc
  ·rw[ve] at e;cases e
  ·rw[ve] at hc;cases hc
 rcases hx with hk | hk
 ·refine wpAny_storeName_local hk vc (A0 h' hn' hs) hcls;obtain⟨oL,_,_,f⟩:=id vc;refine h _ (BN_ (tracked ⟨oL,f.1,jI⟩ hs)) (EV hs ADw)
  ·exact A3O (ANq AIP)
  ·show JO sl e1 Ajt sl (AMh (ANq AIP))
  ·show JO o' e1 AV2 o' (AMh (ANq AIP))
  ·by_cases hj:j=i
   ·subst hj;rw[hi] at e1;cases e1;show Axc;cases e2;exact⟨u,r,ù hk FA⟩
   ·rw[A_q hj] at e2;obtain⟨u',d⟩:=A5G yb.2;refine E3 u' d.1;show Ar1 d.2 k e k e z
    ·refine .AV AMH;have:y≠x:=ln (hj (zyd hN e1 (e ▸ hi)));simp [At,e]
    ·exact Ah4 Ajh
  ·show JO w' z BAl w' Ajh
  ·obtain l:=AHI;exact⟨MZ hs AK (Db l) l.1,l.2.1,Db l,AeM,GT l⟩
 ·have hfn:AoX:=by
   rcases hf with z | z
   ·exact z
   ·rw[z] at hk;cases hk
  show AQ c hc (I.ok.has x AtG);obtain⟨w',z⟩:=x6 x c hc;refine wpAny_storeName_cell AIQ hk hc z (A0 h' hc' hs);show ALd oc (id z);refine h PD ⟨pf,I.os,Ł,⟨AKm,AKm,AIO,Acp,AYM,AIS,AmF⟩,⟨m,(yb.1).sameBut hs (jS (cne x c hc)),BX8⟩,P6 y c',jI,ACb,ae,tracked ⟨oc,FK,ACb x c hc⟩ hs,C9 ACc⟩ ⟨c,hs,.CB hc⟩
  ·exact A3O (ANq A4d)
  ·show JO sl e1 Ajt sl (AMh (ANq A4d))
  ·show JO o' e1 AV2 o' (AMh (ANq A4d))
  ·by_cases hj:j=i
   ·subst hj;rw[hi] at e1;cases e1;show Axc;cases e2;exact⟨u,r,.CB ⟨.AV hk,c,hc,hc'⟩⟩
   ·rw[A_q hj] at e2;obtain⟨u',r',q⟩:=A5G yb.2;refine E3 u' r';rcases q with q | ⟨k,c',e,z'⟩
    ·exact Ads
    ·refine .CB ⟨k,c',e,z'.sameBut hs ?_⟩;rintro Z;exact hj (zyd hN e1 (I.ok.inj _ _ _ e hc ▸ hi))
  ·by_cases hcc:c' =c
   ·subst hcc;exact⟨_,hc'⟩
   ·show JO w2 z2 (x6 y c' e) w2 (z2.sameBut hs hcc)
  ·obtain g:=AHI;have e:=CC;refine⟨MZ hs AK ?_ e,NU,iX,wE,iP⟩;intro q;rw[q,FK] at e;have q' :oc=BS:=zJ e;exact iP w' (c_ q' t.2)
theorem zsh{M:AIU}{A:B6}{E:fu}{i:Ζ}{x:Ξ}{v:V}{u:AD}{Q:AAu}(I:AW)(hN:pi)(hi:Hk)(hx:AAP)(r:OR)
  (h:∀s',AzX cv ->Q () s') (Ak3):BLZ:=
 zua I hN hi hx r (fun s' I' _=>h s' I') hf
theorem Inv.call'{s' :AC}{ch:BH}(I:AW)(ho:AUx)(u:ARX ABb ch H' eh)(hok:Agm)(hg:AKk)
  (hch:A3z):AG7 :=by
 obtain⟨h',g',d',t',o'⟩:=s';show AM9 o' s.os ho (I.call (g' :=g') (t' :=t') (d' :=d') u hok hg hch)
#where
abbrev XK:=ADm (zI NM)
abbrev St:=AJi V
abbrev VK:=AMD
abbrev TE:=AoG St
abbrev TT:=AiN AGh
abbrev TA:=AiN AME
structure ei where
 nx:Sb
 rt:VK
 bk:Sb:=zv
 ct:Sb:=zv
abbrev TS:=ei ->Sb
inductive EP (X:Cx) (Μ:fB) (σ:St) (Q:VK) (u:AD) (s' :AC):Ι
 | mk:∀v H',(Inv X Μ σ H' s') ->(HK v u) ->(Q v H') ->my u s'
def TP(X:Cx)(Μ:fB)(σ:St)(Q:AGh)(b:AO)(s' :AC):Ι:=∃H',AG7 /\Q b H'
inductive AP (X:Cx) (Μ:fB) (σ:St) (Q:AME) (us:An) (s' :AC):Ι
 | mk:∀vs H',(Inv X Μ σ H' s') ->(E6 vs us) ->(Q vs H') ->AP X Μ σ Q us s'
def SP(X:Cx)(Μ:fB)(D:ei)(f:Flow)(s' :AC):Ι:=
 match f with
 | gg=>AwU LZ
 | .brk=>AwU D.bk
 | .No=>AwU D.ct
 | .DM u=>∃v CS H',Aox /\OR/\D.rt v H'
def PE(X:Cx)(e:AG)(t:TE):Ι:=
 AV_ VK (Ū e) AoZ
def PT(X:Cx)(e:AG)(t:TT):Ι:=
 AV_ AGh (AmI e Be (Ū e)) AxY
def PW(X:Cx)(e:AG)(t:TT):Ι:=
 ∀(whole:AJu) (Μ:fB) (s:AC) (σ:St) (H:Hp) (Q:AGh),AW ->Ϙ ->zo (AmI e Be whole) AxY
theorem PW.pt{X:Cx}{e:AG}{t:TT}(h:PW X e t):PT X e t:=h _
def PA(X:Cx)(es:CY)(t:TA):Ι:=
 ∀(AB:AR) (Μ:fB) (s:AC) (σ:St) (H:Hp) (Q:AME),AW ->Ϙ ->zo (spliced (AZk AB es)) (AP X Μ σ Q)
def PS(X:Cx)(st:AM)(t:TS):Ι:=
 BPv (exec st Be)
def JB(X:Cx)(st:dL)(t:TS):Ι:=
 BPv (execs st Be)
theorem cM{α:GG}{t:Sem α}{Q Q' :QQ α}(BH3)(h:vS t)(hQ:∀a s,Q a s ->Q' a s):AoQ t Q':=jp h hQ Aij
section
variable{X:Cx}
def Sw(AGy):TE:=ADv (∃v,AuC/\Q v H)
def tC(v:V):TE:=Ac3 (Q v H)
theorem uD{i:Ζ}{x:Ξ}{AB:AR}(A4p):PE X nh (Sw i):=by
 show d5;show AQ v p h;show tj m w pe u y (D5 i x v hN AK hv);have C8:my u s:=⟨v,H,I,Ν,BS⟩;show Ar1 AI hk hm hk hc hcell
 ·exact BIK (wpAny_loadName_local AIQ hk BE hm)
 ·show OF hk hk hk (BIK (BI1 wpAny_loadName_cell)) (wpAny_Name (BI1 wpAny_loadName_free C8 hcd) hd)
theorem yl2{i j AB}:Ax' ATJ AF i:=AN7 (wpAny_Constant_int (tN E5 h))
theorem ynx{b j AB}:Ax' (Ë b) bl b:=AN7 (Constant_bool (AJa d4 h))
theorem ymb{j AB}:Ϫ A6x CI j (tC BC):=AN7 (Constant_none (AJa BC h))
theorem yk7{x j AB}:Ax' Atr Ψ x:=AN7 (Calls.Constant_str (tN dS h))
def Gl(X:Cx)(x:Ξ):Ι:=HR AIL .globalImplicit
theorem MK(BU1)(I:AW)(hg:KU)(hm:HR YE u)(h:Q u s)
  (AHZ):AOL (Ū nh):=
 BMW (Calls.loadGlobal_global BDg hm h)
theorem JC(BU1)(I:AW)(hg:KU)(hm:ĕ)(hv:đ u)(h:Q u s)
  (Ĩ) (AHZ):AOL (Ū nh):=by
 show C6 mb I.mod.blt;exact BMW (Calls.loadGlobal_builtin BDg hm (F8 I.ok.blt ((Ν).keeps I.bk)) (fS AI x hn hv) h)
theorem zxz(BTY)(hg:KU)(hm:HR YE u)(r:OR)(AHZ):PE X nh (tC v):=
 AN7 (MK I hg hm ⟨v,H,I,r,h⟩ hd)
theorem z71(BTY)(hg:KU)(hm:ĕ)(hv:đ u)(r:OR)(Ĩ)(AHZ):PE X nh (tC v):=
 AN7 (JC I hg hm hv ⟨v,H,I,r,h⟩ hn hd)
variable{a b:AG}{ta tb:TE}{AB:AR}
def PC(X:Cx)(op:CmpOp)(a b:AG)(t:TE):Ι:=
 AV_ VK BDY (BQZ (AK_ (AYS op v u) AoZ U'))
def tB(t:TE):TT:=ž t (Ajq (Q c H1))
theorem z3a{op:CmpOp}{t:TE}(h:PC X op a b t)(h1:Abn:=by first | exact Ym _ BF BF | rfl):PT X AVK (tB t):=by
 show ATZ hw;refine Ba5 (cM Ayr (wx h1 (cM h1 fun u s2 h2=>cM h2 (A0 c s3 Cb)))) h1;show W' Cb;show L6 d q q1;cases r1;exact BM3
theorem yko{e:AG}{t:TE}(h:PE X e t)(BRp):PT X e (tB t):=by
 show ATZ hw;refine isTrue_plain (cM Ayr (WG v)) (he _);show W' Cb;show L6 d q q1;cases r1;exact BM3
variable{tA Nu :TT}{Nn:CY}
def aaS(t u:TT):TT:=b9 t c (Os c (u σ H1 Q) (Q Τ H1))
def tOr(t u:TT):TT:=b9 t c (Os c (Q Θ H1) (u σ H1 Q))
def aaT(t:TT):TT:=b9 t c (Q (! c) H1)
theorem yj9(AvB):PW X (AJe And [a]) tA:=by
 show AiL;refine AfF isTrue_and ha Q (P6 c s1);cases c with
 | Θ=>exact isTrue_and_nil e
 | Τ=>exact e
theorem ykm(AvB):Avg [a] tA:=by
 show AiL;refine AfF isTrue_or ha Q (P6 c s1);cases c with
 | Τ=>exact isTrue_or_nil e
 | Θ=>exact e
theorem ylj(ha:PT X a tA)(hb:PW X AgD Nu):PW X AgE (aaS tA Nu):=by
 show AiL;refine AMf isTrue_and (WG c);show C6 H1 Cb;cases c with
 | Θ=>exact BSl
 | Τ=>exact⟨H1,Ν,AI⟩
theorem yn2(ha:PT X a tA)(hb:Avg Apb Nu):Avg Apg (tOr tA Nu):=by
 show AiL;refine AMf isTrue_or (WG c);show C6 H1 Cb;cases c with
 | Θ=>exact⟨H1,Ν,AI⟩
 | Τ=>exact BSl
theorem ylw(AvB):PT X Ah9 (aaT tA):=by
 show d5;exact isTrue_not (VW ha (fun c H1=>Q (! c) H1) I h)
def Yn(ta tb:TE):TE:=ALB (Ajq (Os c (tb σ H1 Q) (Q AGn H1)))
def Yo(ta:TE):TE:=ALB (Ajq (Q (.bl (! c)) H1))
theorem ykv{op}{t:TE}(h:PE X a t):Ϫ BoolOp op [a] t:=fun Μ s σ H Q I hw=>BoolOp_one (AaL Q I hw)
theorem ym1(ha:ö)(hb:PE X AgD tb):PE X AgE (Yn ta tb):=by
 show Eg Q;refine AMf BoolOp_and (tz Fi);show W' Fi;show L6 c q1 q1;cases r1;refine Atk;cases c with
 | Θ=>exact hb Μ s1 σ H1 Q I1 q1
 | Τ=>exact⟨AeX,H1,I1,Z,q1⟩
theorem ylf(ha:ö):PE X Ah9 (Yo ta):=by
 show Eg Q;refine AMf UnaryOp_ (tz Sx);show W' Sx;show L6 c q1 q1;cases r1;exact not_of (AYT ⟨.bl (! c),H1,I1,Z,q1⟩)
def tIf(t:TT)(ta tb:TE):TE:=b9 t c (Os c (ta σ H1 Q) (tb σ H1 Q))
theorem yd9{c:AG}(hc:PT X c tA)(ha:ö)(hb:AKn):PE X BBj (tIf tA ta tb):=by
 show d5;refine wpAny_IfExp (cM (zg hc) (WG d));show C6 H1 Cb;cases d with
 | Θ=>exact AkF ha Q
 | Τ=>exact AkF hb Q
#where
def nG(BQx):Ι:=
 Rd H a sx\/
  ∃(o:Obj) (AH:Hb) (n:Ζ),BZ1/\ARj FE /\AtJ/\i4= AuH/\AsT/\BZL
def ur(BQx):Ι:=
 Rd H a Z_\/
  ∃(o:Obj) (AH:Hb) (n:Ζ),BZ1/\AvW /\i4= AuH/\AsT/\BZL
def aaU:P5 AD V
 | CI=>Β BC
 | .js b=>E2 bl b
 | AVT=>AFi i
 | AVC=>E2 Ψ x
 | .bytes b _=>E2 byt b
 | .float b _=>E2 flt b
 | D8=>Β EX
 | G' n=>E2 ty n
 | _=>Ε
theorem RelV.abs(BNo):aaU u=Β x:=by
 cases x with
 | non=>cases r;rfl
 | bl _=>cases r;rfl
 | AF _=>show AL_
 | Ψ _=>show AL_
 | byt _=>show AL_
 | flt _=>show AL_
 | AT _=>cases r;rfl
 | ty _=>cases r;rfl
theorem RelV.inj(BJZ)(r:ub)(q:PU):x=y:=zJ (r.abs.symm.trans q.abs)
theorem Vals.inj:∀{xs ys:AL} {us:An},cz ->E6 ys us ->xs=ys
 | _,_,_,C7,C7=>Z
 | _,_,_,AHJ,.AU r' t' =>OM AyN (Vals.inj t t')
section
variable{X:Cx}{Μ:fB}{σ:St}{H:Hp}{s:AC}{a:Η}{xs ys:AL}
theorem Inv.list(I:AW)(h:Axh):BBr PlainL:=by
 rcases h with h | ⟨o,AH,n,hk,hc,hd,hs,hz,r⟩
 ·show UK z AH n (h.ok IB);exact⟨AH,Ν,⟨_,n,AI,Z,Z,Z⟩,z⟩
 ·show BOU ⟨o,n,BBH,hc,hd,C9 hs⟩
theorem Inv.tuple(I:AW)(h:BGH):BBr IsTup:=by
 rcases h with h | ⟨o,AH,n,hk,hc,hs,hz,r⟩
 ·show P8 z AH y h.ok IB;exact⟨AH,Ν,AI,z⟩
 ·show BOU ⟨o,BBH,hc,n,C9 hs⟩
theorem Inv.list_inj(I:AW)(h:Axh)(h' :nG AE H a ys):xs=ys:=by
 obtain⟨AH,r,⟨o,n,e,_,_,d⟩,_⟩:=AsD;obtain⟨bX,r',⟨o',n',e',_,_,d'⟩,_⟩:=pk h';rw[e] at e';cases e';rw[d] at d';injection d' with d1 _;have:AH=bX :=BIQ
 subst At;exact AyN
theorem Inv.tuple_inj(I:AW)(h:BGH)(h' :ur AE H a ys):xs=ys:=by
 obtain⟨AH,r,⟨o,e,_,n,d⟩,_⟩:=j_ h;obtain⟨bX,r',⟨o',e',_,n',d'⟩,_⟩:=j_ h';rw[e] at e';cases e';rw[d] at d';injection d' with d1 _;have:AH=bX :=BIQ
 subst At;exact AyN
#where
section
variable{X:Cx}{st:AM}{Nn:dL}{t u:TS}{e:AG}{te:TE}{AB:AR}
def Yp:TS:=AjX AaR
def aaV(t u:TS):TS:=AjX (t BI9 σ H)
theorem yh1:JB X [] Yp:=fun _ _ σ H _ I h=>(Auz σ H I h)
theorem z42(h1:Ay2)(h2:JB X Nn u):JB X (st::Nn) (aaV t u):=by
 show Eg D;refine AfF Ba8 h1 BI9 Aim;cases f with
 | MG=>
  show O_ CS H' q;exact h2 Μ s1 CS H' D Ν AI
 | DM v=>exact q
 | brk=>exact q
 | No=>exact q
theorem z75(h1:Ay2):JB X [st] t:=by
 show Eg D;refine AfF Ba8 h1 D Aim;cases f with
 | MG=>exact AmN q
 | DM v=>exact q
 | brk=>exact q
 | No=>exact q
theorem Inv.quiet{Μ:fB}{σ:St}{H:Hp}{s:AC}(UR):interactive Be=Τ:=lf interactive AIQ
def Yq(te:TE):TS:=BBo (MY H1 (LZ σ H1))
theorem z8m(he:eJ)(hs:AHq Ε:=by rfl):PS X (.AG e AB) (Yq te):=by
 show Eg D;exact wpAny_Expr_any (AQe he (wx JZ (by show W' JZ;exact⟨σ,H1,I1,q1⟩))) I.quiet hs
def aaW(te:TE):TS:=BBo D.rt
theorem z8y(he:eJ):PS X (.Return AbV AB) (aaW te):=by
 show Eg D;exact wpAny_Return_some (cM Aek (wx Fj (by show W' Fj;exact⟨x,σ,H1,I1,r1,q1⟩)))
def aaX(c:TT)(t u:TS):TS:=fun D σ H=>c σ H (TZ H1 (Os b (t D σ H1) (u D σ H1)))
theorem yns{c:AG}{a b:dL}{tc:TT}(hc:PT X c tc)(ha:JB X a t)(hb:JB X b u):PS X (.If c a b AB) (aaX tc t u):=by
 show Eg D;refine wpAny_If (cM (zg hc) (WG d));show C6 H1 Cb;cases d with
 | Θ=>exact AkF ha D
 | Τ=>exact AkF hb D
#where
abbrev TG:=V ->St ->Do Hp (Sb)
abbrev Qx:=AL ->St ->Do Hp (Sb)
def PG(X:Cx)(AYW:AG)(t:TG):Ι:=
 ∀(Μ:fB) (s:AC) (σ:St) (H:Hp) (v:V) (u:AD) (Q:Sb),AW ->OR ->t v σ H Q ->
  Atw (AOx AYW Be u) (Ab4 AqU)
def Sy(X:Cx)(ts:CY)(t:Qx):Ι:=
 ∀(Μ:fB) (s:AC) (σ:St) (H:Hp) (vs:AL) (us:An) (Q:Sb),AW ->AFy ->t vs σ H Q ->
  Atw (assignInOrder ((assignEach ts X.env).map (·.2)) us) (Ab4 AqU)
abbrev SJ:=BLq
def Yr(X:Cx)(t:SJ):Ι:=
 ∀(Μ:fB) (s:AC) (σ:St) (H:Hp) (o i v:V) (ov iv u:AD) (Q:GI Hp),AW ->BQ (HK o ov) (HK i iv) OR (t o i v H Q) (Atw (setItem ov iv u) (∃H',AG7 /\Q H'))
section
variable{X:Cx}{AB:AR}
def Qy(AGy):TG:=AU0 (Q (AYP i cv) H)
theorem yhk{i:Ζ}{x:Ξ}(BSc)(Ak3):PG X nh (Qy i):=by
 intro Μ s σ H v u Q I r h;exact A7G (zsh I hN hi hx r (fun s' I' =>⟨_,H,I',h⟩) hf)
def aaY:Qx:=kq vs Q (vs= []/\Q σ H)
def Ys(t:TG)(u:Qx):Qx:=kq vs Q (∃v r,vs=v::r/\t v σ H fun CS H' =>u r CS H' Q)
theorem yi8:Sy X [] aaY:=by
 intro Μ s σ H vs us Q I r h;show AQ e h h;subst e;cases r;exact assignInOrder_nil ⟨σ,H,I,h⟩
theorem ycw{e:AG}{es:CY}{t:TG}{u:Qx}(h1:PG X e t)(h2:Sy X es u)
  (hs:AVM FH BJv:=by rfl):Sy X FH (Ys t u):=by
 intro Μ s σ H vs us Q I r h;show ADz v vr w;have e1:=BE;subst e1;cases r with
 | AU r rr=>
  rw[hs];refine assignInOrder_cons (cM (h1 Μ s σ H _ _ _ I r D5) (WG _));show O_ σ1 H1 Cb;exact h2 Μ s1 σ1 H1 _ _ Q Ν rr AI
def aaZ(K:Φ)(n:Ζ)(t:Qx):TG:=AU0 (∃a xs,NI/\ABK/\B5=n/\t xs σ H Q)
theorem ylp{es:CY}{k:Ζ}{t:Qx}{n:Ζ}(hc:HV)(h:Sy X es t)
  (hn:T' AYX es Be=n:=by rfl) (hst:(AYX es Be).findIdx? (·.1)=Ε:=by rfl):PG X BGm (aaZ AE n t):=by
 intro Μ s σ H v u Q I r hw;obtain⟨a,xs,w⟩:=hw;have e1:=BE;subst e1;cases r;show C6 AH (j_ EM);refine assign_Tuple_tuple W1 A3 (by simp [hn,<- nr,ď]) hst (DC h' hx)
 have I1:AGS:=BEk (Tl (hx b o AhO e));exact h Μ _ σ H xs _ Q I1 (DA Ν) ATd
def uE(to ti:TE)(t:SJ):TG:=AU0 (to σ H (fc o (ti σ H1 fun i H2=>t o i v H2 fun H3=>Q σ H3)))
theorem yl1{o i:AG}{to ti:TE}{t:SJ}(ho:Auo)(hi:PE X i ti)(hs:Yr X t)
  (ha:∀v,AOx (Í o i) Be v=(do
   let ov<- ņ [v] (jn o Be)
   let iv<- ņ [v,ov] (jn i Be)
   AmK AB
   BPp
   BGT):=by intro _;rfl):PG X (Í o i) (uE to ti t):=by
 intro Μ s σ H v u Q I r h;rw[ha];refine BZZ (ASV (ţ ov J0));show W' J0;refine BZZ (cM (á hi) (A0 iv s2 J1));obtain⟨y,H2,I2,r2,q2⟩:=J1;refine BZa (A0l (hs Μ s2 σ H2 x y v ov iv u _ I2 r1 r2 r q2) (A0 _ s3 Cb));show DO H3 w Cb (wpAny_release ⟨σ,H3,BE,D5⟩)
def Yt(te:TE)(g:TG):TS:=fun D σ H=>te σ H (fc x (g x σ H1 LZ))
theorem ygh{tg e:AG}{te:TE}{g:TG}(he:eJ)(hg:PG X tg g)(hs:AQO A7H [tg] e:=by rfl)(hw:A7I [tg] e Be=IC Ε:=by rfl)
  (h1:AVM [tg] [AcE tg]:=by rfl):Af' tg e (Yt te g):=by
 show Eg D;refine wpAny_Assign_stores (AQe he (WG v)) hs hw;show W' Cb;rw[h1];exact cM (hg Μ s1 σ H1 x v _ I1 r1 q1) fun _ s2 q=>q
theorem z3s{i:Ζ}{x:Ξ}{e:AG}{te:TE}{IU :AR}(hN:pi)(hi:Hk)(hx:AAP)(he:eJ)(hs:AHq (IF (bn IU)):=by rfl)(Ak3):
  Af' BV4 e (Yt te (Qy i)):=by
 show Eg D;refine AbG wpAny_Assign_Name Aek v;obtain⟨y,H1,I1,r1,q1⟩:=Cb;exact zsh I1 hN hi hx r1 (fun s2 I2=>⟨_,H1,I2,q1⟩) hf
#where
section
variable{X:Cx}{AB:AR}
def SM(c:TT)(tb:TS):TS:=AjX (∃W:AfG,(∃m,W m σ H)/\∀m σ H,W m σ H ->
 c σ H (TZ H1 (Os b (BV1 (AaG (W m' CS H')) (tb (AQx N N) σ H1)) (LZ σ H1))))
theorem yc8{c:AG}{OT:dL}{tc:TT}{tb:TS}(hp:A4K)(hc:PT X c tc)(hb:BGD):PS X BKe (SM tc tb):=by
 show Eg D;obtain⟨W,⟨m0,w0⟩,j'⟩:=h;refine wpAny_While (codeAny_whileLoop (gz n (Ab4 (W n CS H'))) ?_ m0 ⟨σ,H,I,w0⟩);rintro n s1 ⟨σ1,H1,I1,w1⟩;refine AHo (hc Μ s1 σ1 H1 _ I1 (j' n σ1 H1 w1)) (zn s2 Cb);show ALd H2 Cb;cases b with
 | Θ=>
  show AQ N z t.2;show wT;refine AHo (hb Μ s2 σ1 H2 _ FK z.2) (A0 f s3 q3);cases f with
  | MG=>
   obtain⟨σ3,H3,g⟩:=q3;obtain⟨m',q⟩:=z.1 σ3 H3 g.2;exact⟨m',DD,σ3,H3,CC,FL⟩
  | No=>
   show AE_ σ3 H3 q3;show C6 m' (z.1 σ3 H3 BS);exact⟨m',Ν,σ3,H3,AK,AI⟩
  | brk=>exact q3
  | DM v=>exact q3
 | Τ=>
  show Aul (Auz σ1 H2 FK t.2)
#where
structure It where
 go:zI Ζ
 yld:Ζ ->Hp ->AMD
 Ň:zI Ζ
def pU(X:Cx)(Μ:fB)(H:Hp)(b:Η):Ι:=
 NG/\AQ6/\Aem/\ BWi/\ (uj b)/\AKp b
theorem Inv.fpOk{X:Cx}{Μ:fB}{σ:St}{H H' :Hp}{s:AC}{b:Η}(I:AW)(hb:lc b)(hn:AJ2):AhS:=by
 refine⟨hn,ň (zO I.lt hb),I.nofs hb,.CB (zQ I.sz hb),A3T,A1z⟩
 ·show DO v q Agg (Ah1 q.lt (F8 z hb))
 ·exact Ah1 (zK (AIT p hp).1) (F8 z hb)
structure Turn (P:A6) (w:AZ) (K:Φ) (tg:AG) (J:It) (fp:BH) (it:Η) (tn:AUr):Ι where
 mem:it∈fp
 DJ:BMu
 IA:BQR
 Pt:AlO HV (BQ AW Aft ASP (J.go i H) (Ak1 (∃u,zr r/\
   MS P w X.A A2m (KE s2 (BSC BFl (SK AJ2))) E s1)))
 MQ:AlO HV (BQ AW Aft ASP (AYZ i H) (Ak1 BH8))
 TL:BSo
abbrev TI:=AiN AKU
def PIE(BU9):Ι:=
 ∃(it:Η) (fp:BH) (tn:AUr) (J:It) (H' :Hp),itv= .AT it/\sM s2/\Turn EA X.w AE tg J fp it tn/\BFG/\ (SK AhS)/\Aiz
def PI(BS2):Ι:=
 Aan R AKU (wi σ H R) ATh (fq s1 (AK_ (ŉ v) BBh s1))
theorem Qz{M:AIU}{A:B6}{E:fu}{s:AC}{tg:AG}{it:Η}{u:AD}{o:Obj}{n:Ff}{vs:Hb}{Q:AAu}(ho:AQD it)(hc:ARj n)(hd:Aco)
  (hn: (BT9).AOz n=Τ) (hQ:Q () s):vS A2m:=by
 cases tg<;>first
  | exact z7 hQ
  | (
    cases u<;>first
    | exact z7 hQ
    | (
      refine z5 A7K ho;rw[hc,hd];show ACe M A (ALG (LN ((BT9).AOz n) (vs[0]?==Β (N0 _)))) Q E s;rw[OH (by intro h;rw[hn,A7L] at h;cases h)]
      exact z7 hQ))
def QB(K:Φ)(a:Η):It:=
 BJo (H' =H/\∀xs,ô ->ZZ)
def SN(K:Φ)(a:Η):It:=
 ⟨Ü (∃xs x,ABK/\ZZ),fun i H x H' =>H' =H/\∀xs,ABK ->ZZ,Ü (∃xs,ABK/\ASJ)⟩
def MN(lo:BI)(n:Ζ):It:=⟨ATU (i<n),fun i H x H' =>H' =H/\x= .AF ARv,ATU (n<=i)⟩
theorem zyz(A0N):ANu (QB K a) Axw where
 mem:=FA
 DJ:=ABn (by
  have e:b=it:=cK
  subst e;obtain⟨o,l⟩:=st;exact ABs l.1 l.2.2)
 IA:=Aje
 Pt:=by
  show US;show OS;show A2r;show ϲ j AK;show AQ u m Az1;obtain n:=Ù
  refine Ak7 Ba' st (æ j) m.1 st'
  have I1:AGS:=BR_;show DO o t (id st') (Me u (Qz (s:=PD) FK ALn t.2.2 BF ⟨x,H,I1,m.2,Ato (AYa hy AK) BS,st',vz hf⟩))
 MQ:=by
  show US;show OS;show AAf xs g;show ϲ q CC;show EG Ù
  have hl:=Asr;exact wpAny_pyNext_list_end W1 st (SH).AmS AUt AWt
 TL:=A'J
theorem zvp(A0N):ANu (SN K a) (BbA it a i) where
 mem:=FA
 DJ:=ABn (by
  have e:b=it:=cK
  subst e;obtain⟨o,l⟩:=st;exact ABs l.1 l.2.2)
 IA:=Aje
 Pt:=by
  show US;show OS;show A2r;show AQ AH j (j_ AK);show AQ u m Az1;obtain n:=Ù
  refine Ak7 wpAny_pyNext_tuple_item st (A'z j.2.1) m.1 st'
  have I1:AGS:=BR_;show DO o t (id st') (Me u (Qz (s:=PD) FK ALn t.2.2 BF ⟨x,H,I1,m.2,Ato (A7M hy AK) BS,st',vz hf⟩))
 MQ:=by
  show US;show OS;show AAf xs g;show AQ AH q (j_ CC);show EG Ù
  have hl:=Asr;exact wpAny_pyNext_tuple_end W1 st (A'z SH) AUt AWt
 TL:=Acz wpAny_pyIter_tupleiter
theorem z5e(AR8)(it:Η)(lo:BI)(n:Ζ):ANu (MN lo n) (IsRangeIter h it (lo+ Tb i*1) (cr - Tb i) 1) where
 mem:=FA
 DJ:=ABn (by
  have e:b=it:=cK
  subst e;exact EV st (fun v z=>(BK4 (Data.fields _=Data.cell v))))
 IA:=ARf (k it BN _ st)
 Pt:=by
  show US;show OS;obtain p:=Ù
  have W:=Walks.range (BA:=EA) (w:=X.w) W1 it lo 1 n;refine BMa hg st fun v h' tk hv st' kk=> ?_;show ik hv;have I1:bg sr:=ACg (Tx (kk b o (DA hb) e)) AK NS (E8 p) (LI p) (ZY p)
  refine WC (Qz (s:=sr) (n:= "range_iterator") st' Z Z BF ⟨.AF ARv,H,I1,E9 t,ϫ,st',vz hf⟩)
  rw[Int.mul_one]
 MQ:=by
  show US;show OS;show EG Ù
  exact wpAny_pyNext_range_end W1 st (by have:n<=i:=hg;omega) AWt
 TL:=Acz wpAny_pyIter_rangeiter
section
variable{X:Cx}{tg:AG}
theorem z3h{Μ:fB}{σ:St}{H:Hp}{s:AC}{R:AKU}{E:fu}{lo hi:BI}{t u v:Tok}{tk:Ζ}(I:AW)(h1: AEe<=lo)(h2:lo<2^62)(h3: AEe<=hi)(h4:hi<2^62)
  (q:R (MN lo A0S) H):AQL (ŉ (.AT B2)) BBh E (AKW Ab6 tk):=by
 refine wpAny_pyIter_range (IsRange.new ..) (small_one h1 h2 h3 h4) ?_;have I1:bg (AKW Ab6 tk):=AmO sP;refine⟨Avo,[Avo],_,_,H,Z,
  AmT (t' :=tk) sP,z5e _ lo A0S,?_,IO,q⟩
 ·have e1:lo+ AMP*1=lo:=FA
  have e2:LF A0S - AMP=Builtin.Range.rangeSize lo hi 1:=by rw[rangeSize_one];split<;>grind
  rw[e1,e2];exact P9
 ·show AM9 b Avo cK Aal
def Yu(ta:TA):TI:=Ac' (∃j:BI,vs= [sd]/\ AEe<=j/\AbX/\R (MN 0 yA) H1)
def Yv(ta:TA):TI:=Ac' (∃i j:BI,vs= AUq/\ (A4r)/\R (MN i A0R) H1)
theorem z92{a:AG}{ta:TA}{p AB:AR}(hg:Gl X i8)(hm:OG i8)(ha:ANL [a])(hs:GU [a]= ALV a:=by rfl):vF (AK9 i8) (Yu ta):=by
 show Eg R;refine Call_ (Ϸ boot_range (Ag3 AHl us Z));show Ap3;show AQ j y q1;have e:=Ν;subst e;cases r1 with
 | AU r rr=>
  cases rr;show bv r;exact call_range_1 (z3h I1 DF DF A3 ED (DA NO))
theorem z9e{a b:AG}{ta:TA}{p AB:AR}(hg:Gl X i8)(hm:OG i8)(ha:ANL Zp)(hs:GU Zp= BJK:=by rfl)(hs2:GU [b]= ALV b:=by rfl):
  vF (AP_ i8 Zp) (Yv ta):=by
 show Eg R;refine Call_ (Ϸ boot_range (AmU (cM AHl (ţ us ⟨vs,H1,I1,r1,q1⟩)) (by rw[hs,hs2]) (ADq hs2)))
 obtain⟨i,j,e,⟨q1,q2,q3,q4⟩,q⟩:=q1;subst e;cases r1 with
 | AU r rr=>
  cases rr with
  | AU r' rr=>
   cases rr;show bv r;show ť t' r';exact call_range_2 (z3h I1 q1 q2 q3 q4 q)
def aa0(wi:TI)(g:TG)(tb:TS):TS:=fun D σ H=>wi σ H (fc J (AOD Sb σ H1 (∀i m σ H,AOM σ ->
 AWh AYZ J.go (AiC J.yld Ajo))))
def uF(fp:BH)(h:AN):fB:=fp.filterMap fun b=>(X_ b).B_ fun o=>ALE
theorem zm7{fp:BH}{h:AN}{b:Η}{o:Obj}(hb:b∈fp)(e:tw):ALE∈uF fp h:=AuF b hb (by rw[e];rfl)
theorem z8v{fp:BH}{h:AN}{p:Η×Obj}(hp:p∈uF fp h):AK∈fp/\AKL X_:=by
 show C6 b (List.mem_filterMap.mp hp);have e:=AI;cases q:X_ b with
 | Ε=>show IP;cases e
 | Β o=>
  show IP;have e' :ALE=p:=zJ e;subst e';exact⟨Ν,q⟩
theorem Inv.pinned{Μ:fB}{σ:St}{H:Hp}{s:AC}{fp:BH}(I:AW)(hf:ATk)(ho:SK (ArQ Sc)):A1' (Μ++uF fp A7):=
 I.pins_of (sR ((ph hp).SB (P_ (AIT p (zT _ z))) (DB (by
  obtain q:=z8v z;obtain w:=hf AK DD;show NW o y (ho AK DD) e' Ν;rw[FL] at e';cases e';exact⟨FL,BE,EM,nr,AI⟩))))
theorem Inv.unpinned{Μ pl:fB}{σ:St}{H:Hp}{s:AC}(I:A1' (Μ++pl)):AW:=I.pins_of (sR (AIT p (zT _ (zR _ hp))))
theorem z3t{Nw:AG}{OT:dL}{wi:TI}{g:TG}{tb:TS}{AB:AR}(hp:A4K)(hc:HV)(hi:BFW)(hg:PG X tg g)(hb:BGD)
  (AF'):PS X (.For tg Nw OT [] AB) (aa0 wi g tb):=by
 show Eg D;refine wpAny_For (cM (zg hi) (wx h1 BLN)) hs;obtain⟨it,fp,tn,J,H2,e,I2,T,st2,f2,W,⟨m0,w0⟩,j'⟩:=h2;subst e
 
 have stat:BPr AhS:=fun hn b hb=>⟨AeZ,AKP f2⟩;refine codeAny_forLoop_any (gz n (∃i CS H',Aox /\BW4/\ Abf/\W i n CS H')) ?_ m0 ⟨0,σ,H2,I2,st2,vz f2,w0⟩;rintro n s3 ⟨i,σ3,H3,I3,st3,fr3,w3⟩;rcases j' i n σ3 H3 w3 with ⟨Ň,qn⟩ | ⟨go,N,hN,step⟩
 ·refine AHo (T.done X Z Z Z hc i Μ s3 σ3 H3 ej I3 (stat fr3) st3 Ň) (A0 r s4 Cb);obtain⟨hr,I4⟩:=Cb;subst hr;exact Auz σ3 H3 I4 qn
 ·refine AHo (T.item X Z Z Z hc i Μ s3 σ3 H3 ej I3 (stat fr3) st3 go) (A0 r s4 Cb);show NW u ya Cb hr ya.1;subst hr;refine AHo ve (A0 _ s5 aa1);obtain⟨x,H5,l⟩:=aa1;have I5' :=BOe l (GT l) AeM;refine AHo (hg _ s5 σ3 H5 x u _ I5' l.2.1 (step x H5 (Db l))) (A0 _ s6 Cb);obtain⟨σ6,H6,d⟩:=Cb;refine AHo (hb _ s6 σ6 H6 _ d.1 d.2) (A0 f s7 q7);have AIX:∀{σ7:St} {H7:Hp},Inv X (Μ++uF fp s5.heap) σ7 H7 s7 ->N σ7 H7 ->Ag' (∃i CS H',Inv X Μ CS H' s7/\tn i s7.heap/\ Abf/\W i m CS H') :=fun{σ7 H7} I7 n7=>by
   obtain⟨m',j⟩:=hN σ7 H7 n7;refine⟨m',j.1,i+1,σ7,H7,I7.unpinned,BNG AeM I7.pin,IO,j.2⟩;show DO o t (AkV AeM) (I7.pin ALE (zT _ A'5)).2.1
  cases f with
  | MG=>show T_ σ7 H7 z q7 (AIX z.1 z.2)
  | No=>show T_ σ7 H7 q q7 (AIX DD FL)
  | brk=>show T_ σ7 H7 p q7 ⟨σ7,H7,(AK).unpinned,BS⟩
  | DM v=>show UK x7 σ7 H7 q7;exact⟨x7,σ7,H7,(Ν).unpinned,A3,CO⟩
#where
theorem ydc{K:Φ}{a:Η}{xs:AL}{g:TG}(A4a)(Pv:AfG)(h0:Pv 0 σ H)(hl:∀i σ H,At_ ->ABW ->ô)
  (hs:∀i x σ H,ZZ ->ABW ->A2O x) (hd:A3y B5):
  AOD Sb σ H (∀i m σ H,AOM σ ->
   AWh (QB K a).Ň (QB K a).go (AiC (QB K a).yld Ajo)):=by
 refine AOV σ H B5 B5 ABW (A1y B5)
 rintro i m σ H ⟨Z,hi,p⟩;have q:=hl i σ H hi p;by_cases Cc:iS
 ·refine Ak0 ⟨xs,xs[i],q,DS Cc⟩ AQ8 (B5 - IM)
  show C6 e y;subst e;exact BSh
 ·show AM9 i B5 BG (ù ⟨xs,q,Mn⟩ (hd σ H p))
theorem yi5{K:Φ}{a:Η}{xs:AL}{g:TG}(A4a)(Pv:AfG)(h0:Pv 0 σ H)(hl:∀i σ H,At_ ->ABW ->ABK)
  (hs:∀i x σ H,ZZ ->ABW ->A2O x) (hd:A3y B5):
  AOD Sb σ H (∀i m σ H,AOM σ ->
   AWh (SN K a).Ň (SN K a).go (AiC (SN K a).yld Ajo)):=by
 refine AOV σ H B5 B5 ABW (A1y B5)
 rintro i m σ H ⟨Z,hi,p⟩;have q:=hl i σ H hi p;by_cases Cc:iS
 ·refine Ak0 ⟨xs,xs[i],q,DS Cc⟩ AQ8 (B5 - IM)
  show C6 e y;subst e;exact BSh
 ·show AM9 i B5 BG (ù ⟨xs,q,Mn⟩ (hd σ H p))
theorem z91{lo:BI}{n:Ζ}{g:TG}(A4a)(Pv:AfG)(h0:Pv 0 σ H)
  (hs:∀i σ H,i<n ->ABW ->A2O AtE) (hd:A3y n):
  AOD Sb σ H (∀i m σ H,AOM σ ->
   AWh (AOF Ň) (AOF go) (AiC (AOF yld) Ajo)):=by
 refine AOV σ H n n ABW (A1y n)
 rintro i m σ H ⟨Z,hi,p⟩;by_cases Cc:i<n
 ·refine Ak0 Cc AQ8 (n - IM)
  show C6 e y;subst e y;exact hs i σ _ Cc p
 ·show AM9 i n BG (ù Mn (hd σ H p))
abbrev R2:=V ->V ->AoO
def lE(X:Cx)(f:AHm)(r:R2):Ι:=
 ∀(Μ:fB) (s:AC) (σ:St) (H:Hp) (x y:V) (v u:AD) (Q:VK),BQ AW i0 PU (r x y H Q) (AFK (f v u))
def UnR(X:Cx)(f:ADm AJu)(r:Afe):Ι:=
 ∀(Μ:fB) (s:AC) (σ:St) (H:Hp) (x:V) (v:AD) (Q:VK),AW ->i0 ->r x H Q ->
  AFK (f v)
def d9(X:Cx)(f:AD)(r:oo):Ι:=
 ∀(Μ:fB) (s:AC) (σ:St) (H:Hp) (xs:AL) (us:An) (Q:VK),AW ->cz ->r xs H Q ->
  AFK (kA f us)
def Yw(r:R2)(ta tb:TE):TE:=BGJ Q
def tUn(r:Afe)(ta:TE):TE:=ALB (r x H1 Q)
def rI(C:AVo)(g:Af2):R2:=hZ (A3r (Q (g i j) H))
def QC(g:Af2):R2:=hZ (A3_ (Q (g i j) H))
def rU(g:BI ->V):Afe:=fun x H Q=>∃i,Aa0/\Q (g i) H
section
variable{X:Cx}{a b c:AG}{ta tb tc:TE}{AB:AR}
theorem SQ(ha:ö)(hb:AKn){Μ:fB}{s:AC}{σ:St}{H:Hp}{R:V ->AMD}(I:AW)
  (h:ta σ H (fc x (l_ tb y (R x y H2)))) {Q:fu} {f:AHm}
  (hf:∀v u s2 x y H2,BQ (N9 H2 s2) i0 PU (R x y H2) (AK_ (f v u) Q s2)):
  zo BDY (BQZ (AK_ (f v u) Q U')):=by
 refine cM AQp (tz aa2);show W' aa2;refine Ô (á hb) u aa3;obtain⟨y,H2,I2,r2,q2⟩:=aa3;exact hf v u s2 x y H2 I2 r1 r2 q2
theorem yl0{op:Operator}{r:R2}(ho:lE X BAM r)(ha:ö)(hb:AKn):PE X BBf (Yw r ta tb):=by
 show d5;exact wpAny_BinOp (A4W BN9)
theorem yob{op:AmL}{r:Afe}(ho:UnR X (unaryOp op) r)(ha:ö):Ϫ AmL op a (tUn r ta):=by
 show d5;exact AMf UnaryOp_ (wx aa4 (by show W' aa4;exact ho Μ s1 σ H1 x v Q I1 r1 q1))
theorem opI{f:AHm}{C:AVo}{g:AQZ BI}
  (pp:A5o (C i j ->Axp Ğ ->AOL A4t)):
  lE X f (rI C (ii Ğ)):=by
 show ACG;show IJ i j Z p h;show hW;show ğ;exact pp i j t t' s _ _ AK (AUB Ğ BS)
theorem Yx{f:AHm}{g:AQZ BI}
  (pp:A5o (Axp Ğ ->AOL A4t)):
  lE X f (QC (ii Ğ)):=by
 show ACG;show IJ i j Z q h;show hW;show ğ;exact pp i j t t' s _ _ (AUB Ğ q)
theorem SX{f:AHm}{g:AQZ AO}
  (pp:A5o (Q (Ë Ğ) s ->AOL A4t)):
  lE X f (QC fun i j=> .bl Ğ):=by
 show ACG;show IJ i j Z q h;show hW;show ğ;exact pp i j t t' s _ _ (AJa (.bl Ğ) q)
def aa5(Aj1):Ι:=0<=j/\j<=1000000/\AmX<2^64
theorem yk0:AQf Add (QC (ii (i+j))):=AWU Yx add_int
theorem ymw:AQf Sub (QC (ii (i - j))):=AWU Yx sub_int
theorem yhn:AQf Mod (rI Awe (ii (AO1 j))):=opI fun _ _ _ _ _ _ _ hc q=>mod_int' hc q
theorem unI{f:ADm AJu}{g:BI ->BI}
  (pp:∀(i:BI) (t:Tok) (s:AC) (Q:fu) (E:fu),Axp (g i) ->AOL (f Abr)):
  BII f (g i):=by
 intro Μ s σ H x v Q I rx h;show L6 i q h;show hW;exact pp i t s _ _ (AUB (g i) q)
theorem ylm:BII (unaryOp .USub) (-i):=unI (AOT _ q (neg_int q))
#where
section
variable{X:Cx}{a b c:AG}{ta tb tc:TE}{AB:AR}
theorem yf0{Μ:fB}{σ:St}{H:Hp}{s:AC}{Q:VK}{k k' :AO}(I:AW)(q:AFo k)(e:k=k'):my (Ë k') s:=by
 subst e;exact AJa (.bl k) q
theorem yni:AzD Lt (i<j):=AWU SX lt_int
theorem ynm:AzD LtE (i<=j):=AWU SX le_int
theorem yoc:AzD Gt (j<i):=AWU SX gt_int
theorem ylv:AJU Is (hZ (y= BC/\Q (.bl (AH5 (x= BC))) H)):=by
 show ACG;show AQ Z q h;cases ry;refine is_none_gen (yf0 I q ?_);cases x<;>first
  | (cases rx;rfl)
  | (show hW;rfl)
theorem yhx:AJU IsNot (hZ (y= BC/\AFo (!(Κ (x= BC))))):=by
 show ACG;show AQ Z q h;cases ry;refine isnot_none_gen (yf0 I q ?_);cases x<;>first
  | (cases rx;rfl)
  | (show hW;rfl)
theorem aQ(b:AG){op:CmpOp}(h:op≠ .In:=by decide)(h2:op≠ mI:=by decide):Abn:=by
 have e1:VQ op CmpOp.In:=BMX h
 have e2:VQ op CmpOp.NotIn:=BMX h2
 cases b<;>simp [Ba3,e1,e2]
theorem yhf(BN2):PE X AVK (Yw r ta tb):=by
 show d5;exact wpAny_Compare1 (A4W BN9) hm
def QD(t:TE):TT:=fun σ H Q=>t σ H fun x H' =>∃k,x= .bl k/\Q k H'
theorem z8b(BN2):PT X AVK (QD (Yw r ta tb)):=by
 show Eg Q;refine Ba5 (cM AQp (wx ⟨x,H1,I1,r1,q1⟩ (cM (á hb) fun u s2 (Ahz r2)=>
  (A5h c)))) hm
 subst e;cases r3;exact AqX H3 I3 q3
def Fl(r r' :R2)(ta tb tc:TE):TE:=BGJ (fun z H3=>∃k,z= .bl k/\
 (GV (k=Θ) (tc σ H3 fun w' H4=>r' y w' H4 Q) (Q AGn H3)))
theorem yfw(BTu):PE X Akl (Fl r r' ta tb tc):=by
 show Eg Q;refine Compare_chain (cM AQp (wx ⟨x,H1,I1,r1,q1⟩ (chain_link (cM (á hb) fun u s2 (Ahz r2)=>
  (A5h d))))) hm
 subst e;cases r3;refine Atk;cases k with
 | Τ=>exact ite_ff ⟨AeX,H3,I3,Z,q3⟩
 | Θ=>exact ite_tt (chain_last (cM (hc Μ s3 σ H3 _ I3 q3) fun w' s4 aa6=>by obtain⟨z',H4,I4,r4,q4⟩:=aa6;exact BT0 Q I4 r2 r4 q4))
theorem yfg(BTu):PT X Akl (QD (Fl r r' ta tb tc)):=by
 show Eg Q;refine isTrue_chain (cM AQp (wx ⟨x,H1,I1,r1,q1⟩ (test_link (cM (á hb) fun u s2 (Ahz r2)=>
  (A5h d))))) hm
 subst e;cases r3;refine Atk;cases k with
 | Τ=>
  show NW k' w q3 e' BE;cases e';exact ite_ff ⟨H3,I3,D5⟩
 | Θ=>
  refine ite_tt (test_last (cM (hc Μ s3 σ H3 _ I3 q3) (A0 w' s4 Cb)));obtain⟨z',H4,I4,r4,q4⟩:=Cb;refine cM (BT0 _ I4 r2 r4 q4) (A0 d' s5 hz2);obtain⟨z2,H5,I5,r5,k2,e2,q5⟩:=hz2;subst e2;cases r5;exact AqX H5 I5 q5
theorem rQ:Tb Alz<2^63:=ApU AYb
theorem z62:AQf Add (hZ (∃i j,û i/\y= .Ψ j/\AzA/\Q (.Ψ AiY) H)):=by
 show ACG;show IJ i j Z w h;show hW;show ğ;exact add_str (fun t' tk=>(tN (.Ψ AiY) D5)) BE
theorem AIY{x:V}{us:An}(r:E6 [x] us):∃u,us= [u]/\ub:=by
 cases r with
 | AU r1 r2=>cases r2;exact WC r1
theorem vals2{x y:V}{us:An}(r:E6 [x,y] us):∃u w',us= [u,w']/\ub/\HK y w' :=by
 cases r with
 | AU r1 r2=>
  cases r2 with
  | AU r3 r4=>cases r4;exact gv _ r1 r3
theorem ycx:AfY "abs" (∃i,xs= [E5]/\ATm AjZ):=by
 show ANg;show L6 i q h;obtain⟨u,Z,t,Z⟩:=AIY r;exact call_abs_int fun u tk=>(AUB AjZ q)
theorem yb4(io):AfY "max" (∃i j,xs= AUq/\ATm Axl):=by
 show ANg;show LL i j q h;obtain⟨u,w',Z,⟨t,Z⟩,⟨t',Z⟩⟩:=Aeu;refine max_two_ints (AIV hc) fun h' tk k=>⟨_,H,AmO k,?_,q⟩;by_cases hj:j>i
 ·rw[Fs hj,Fs hj];exact LG
 ·rw[EJ hj,EJ hj];exact LG
#where
structure Fo (h:AN) (x dx C:Η) (mA:DT):Ι where
 DJ:HR X_ Avu
 ns:A1I
 ne:dx≠x
theorem z9i{h:AN}{dx:Η}{mA:DT}(n:A1I):BQU (Ϧ dx od):=by
 obtain⟨o,es,ep,w⟩:=n;refine⟨o,BE,fun Fm=> ?_⟩;have e:=GT w Fm;unfold nsFind findBy at e;rw[<- Array.find?_toList] at e;unfold W.lookIn;rw[EM];dsimp only;split
 ·rename_i y q;show IP;exact e9 Β e
 ·show WU;show IP;have a:BbD (·.refKey)=Τ:=by
   rw[List.any_eq_false];intro y hy;obtain⟨z,t,hkey⟩:=nr y (Array.mem_toList_iff.mp hy);simp [DictEntry.refKey,hkey]
  have a' :¬BbD (·.refKey)=Θ:=B1 a zL
  show î a' (e9 Β e)
theorem Fo.look{h:AN}{x dx C:Η}{mA:DT}(I:Fo h x dx C mA):BQU (W.InstAt h x Avu C (IF od)):=
 let ⟨od,ho,hl⟩:=z9i I.ns
 ⟨od,NV I.obj Z ho,hl⟩
section
variable{BA:A6}{w:AZ}{A:B6}{E:fu}{s:AC}{K:Φ}{x dx C f:Η}{mA:DT}{Fm:Ξ}{v:AD}
theorem yjl{expr:AO}{Q:fu}(X:AHF)(I:Ax3)(hg:ARV C Fm)(hh:Au3)
  (ha:Afq Fm) (hv:mA Fm=Β v) (hv' :W.handedIn v=Θ) (h:Q v (AJ5 Ź)):
  A0P getAttr expr:=by
 show C6 od I.look;exact W.get_value X Ν BDQ (W.findObj_own hh ha Z (by rw[AI,hv])) hv' h
theorem ye5{pl:AMY}{Q:BDu}(X:AHF)(I:Ax3)(hg:ARV C Fm)
  (hf:Aqh Fm) (ht:AuA) (hv:mA Fm=Ε) (h:Q (.AT f,Á x) s):
  A0P A7P pl:=by
 show C6 od I.look;exact W.method_fn X Ν BDQ (BbE hg).2 hf (yT ht) (by show(W.lookIn name od).map (·.isSome)=some false;rw[y.2,hv];rfl) h
theorem yg4{ns:AA}{Q:AAu}(X:AHF)(I:Ax3)
  (hs:BGs) (hp:A_E) (ht:BKU Fm) (hh:Au3)
  (hw:Bao mA ns) (hsz:BYl)
  (h:∀h',Fo h' x dx C (fun y=>(wn y Fm v (mA y))) ->ACd dx A7 h' ->Q () (AP2 (LX+2))):
  A0P setAttr v:=by
 obtain⟨od,g⟩:=I.look;refine W.set_plain X CC hs (W.osa_open (s:=Auw) (r:=Ε) X CC hp ht fun b=> ?_);show AQ cd q (W.any_some hh);have hx:HR TK ⟨tT,Β dx,.plain,#[]⟩:=I.obj;refine z6 (z7 (z6 (z6 (BbF hx (z6 (W.Looks.here (s:=Auw) (W.looks_clsIn X DD) ?_))))));rw[FL];refine z7 (a:=Β dx) (z6 (z7 (z6 ?_)));refine wpAny_nsSet1 (s:=Auw) I.ns (tS hn2 hs2);obtain⟨oD,esD,epD,p⟩:=hn2.count (PySem.Within.cons Fm v hw);refine ZI wpAny_lookBehind AK (F8 NS (pastItsLine_dict (zQ UF (ApM IY))))
 exact z7 (h _ ⟨MZ hs2 _ (AJ1 I.ne) I.obj,hn2,I.ne⟩ hs2)
theorem z3x{R:Atq}{vs:An}{kw:AK4}(X:AHF)(hm:A_F)
  (hi:A'm) (hf:W.typeIn K ï=Β (P3 "function"))
  (h:AAS BA (AYc (BWD (tT::vs))) ï ⟨.AT mi::vs,kw⟩ (W.InitBack mi R) BKc):
  AAS BA A OK ⟨vs,kw⟩ R s:=by
 obtain⟨hh,g,d,t,os⟩:=s;exact W.make_core (W.makes_of X hm) (W.looks_findIn X hi) (fun TL=>W.bind_fn X TL hf) sA h
#where
def nJ(A3d):v_ ->v_
 | []=> [(f,v)]
 | (g,x)::r=>z_ g f ((g,v)::r) ((g,x)::nJ f v r)
theorem zt3(f g:Ξ)(v:V):∀fs:v_,(nJ f v fs).pr g=wn g f v (Al1 g)
 | []=>by
  show AO2 g [(f,v)]=_;by_cases h:g=f
  ·show A0_ f (M1 h)
  ·show BG7 f AsC
 | Av_=>by
  have ih:=zt3 f g v r;rw[AFq (nJ f v AvC) (A2J Ax8)];by_cases hk:k=f
  ·show AMN;by_cases h:g=k
   ·show A0_ k (M1 (h.trans hk))
   ·show BG7 k (OH (fun e:g=f=>h (e.trans hk.symm)))
  ·show EL hk;by_cases h:g=k
   ·show A0_ k (OH (fun e:g=f=>hk (h.symm.trans e)))
   ·have hb:VQ g k:=Alv h;simp only [AO2,hb];exact ih
theorem ztm(A3d):∀fs:v_,f∈ BS_/\∀g,g∈fs.map (·.1) ->g∈ BS_
 | []=>⟨DS nJ,fun g h=>AMv⟩
 | Av_=>by
  show EG (ztm f v r);rw[AFq (nJ f v AvC) (A2J Ax8)];by_cases hk:k=f
  ·show AMN;subst hk;exact⟨FA,fun g h=>AL7⟩
  ·show EL hk;refine vi (DC g h)
   ·rw[IZ];exact zX _ Ν
   ·rw[IZ] at h⊢;rcases MO h with e | e
    ·exact zV.mpr (.AV e)
    ·exact zX _ (AI g e)
theorem zt1(A3d):∀fs:v_,Cl (nJ f v fs)<=AYE+1
 | []=>DS nJ
 | Av_=>by
  have ih:=zt1 f v r;rw[AFq (nJ f v AvC) (A2J Ax8)];by_cases hk:k=f
  ·rw[Fs hk,IY,IY];simp_all
  ·rw[EJ hk,IY,IY];simp_all
theorem pI.some_of{v:V}{o:cq}(r:pI (Β v) o):∃u,zr o/\OR:=by
 cases o with
 | Ε=>show ANl
 | Β u=>exact Me u r
theorem pI.none_of{o:cq}(r:pI Ε o):o=Ε:=by
 cases o with
 | Ε=>rfl
 | Β u=>show ANl
theorem yaa{v:V}{u:AD}(r:OR):W.handedIn u=Θ:=by
 cases v with
 | non=>cases (PH u eW r);rfl
 | bl b=>show AJb (u=ACX b) r;rfl
 | AF i=>show Aka AVQ
 | Ψ x=>show Aka Ahk
 | byt b=>show Aka (Value.bytes b t)
 | flt b=>show Aka (A6e b t)
 | AT a=>show AJb AP' r;rfl
 | ty n=>show AJb (u=AIH n) r;rfl
section
variable{P:A6}{w:AZ}{H H' :Hp}{h h' :AN}{a C dx:Η}{fs fs' :v_}
theorem zx4(hok:eK)(e:ATV):∃mA,Fo h a dx C mA/\ (∀f,A4x)/\BJ3/\BaF/\Axn:=by
 obtain⟨d,z,ne,ob,mA,y⟩:=(K_ (ī Aax) (hok a _ e));exact⟨mA,⟨ob,Ν,ne⟩,A3,CO,z,d⟩
#where
structure DV (Ġ):Ι where
 pg:ARV C D'
 hd:Au3
 po:A_E
 sa:BGs
theorem Cls.get(Aie)(c:Ae5)(f:Ξ):ARV C f:=c.pg
def aB(K:Φ)(C:Η)(f:Ξ):Ι:=Afq f
theorem aB.taker{K:Φ}{C:Η}{f:Ξ}(n:AxG):BKU f:=by
 unfold W.takerIn;rw[show Afq f from n]
 rfl
structure Meth (K:Φ) (C:Η) (m:Ξ) (f:Η):Ι where
 at_:Aqh m
 fn:AuA
 kp:AKo
section
variable{X:Cx}{Μ:fB}{σ:St}{H:Hp}{s:AC}{a C dx:Η}{fs:v_}{f:Ξ}{v:V}{A:B6}{E:fu}
theorem z7a{b:AO}{Q:fu}(I:AW)(e:ATV)(c:At4)(n:ir)(l:BIA)
  (h:∀u s',Aap ->OR ->Q u s'):AEI (getAttr EX f b):=by
 obtain⟨mA,p⟩:=At9;show DO u y (Ako (mA f) (Q_ l (NS f))) (yjl VA AK (c.get f) c.hd n Ν (yaa AI) (h u _ ό AI))
theorem VB{m:Ξ}{g:Η}{pl:AMY}{Q:BDu}(I:AW)(e:ATV)(c:At4)(k:Meth AE C m g)(l:Al1 m=Ε)
  (h:Q (.AT g,SY) s):AEI (A7P EX m pl):=by
 show C6 mA At9;have hn:mA m=Ε:=pI.none_of (Q_ l (A3 m))
 exact ye5 VA Ν (c.get m) k.at_ k.fn hn h
theorem z63{y:V}{u:AD}{Q:AAu}(I:AW)(e:ATV)(c:At4)(n:ir)(hl:ASK)(ry:PU)
  (h:∀s',AEM a BPj s' ->Q () s'):AEI (setAttr EX f u):=by
 obtain⟨mA,O,r,wi,_,ho⟩:=At9;have hz:AGT (fs.map (·.1)):=by show AGH AYb;omega
 refine yg4 VA O c.sa c.po n.taker c.hd wi hz fun h' O' sb=>h _ ?_;have hd:∃o,ϔ dx:=let ⟨o,_,_,e',_⟩:=O'.ns;ϋ e';show BV (AmY (x:=a) (e:=dx) Ayn (O0 ho) (fun b q hb z=>MZ sb b hb z) hd ?_) ⟨AFr O.ne ho,?_,O.ne,O'.obj,_,O'.ns,fun g=> ?_,DC g hg⟩
 ·have:=zt1 f y fs;exact AKs
 ·rw[zt3];by_cases q:g=f
  ·rw[WO,WO];exact ry
  ·rw[c9,c9];exact r g
 ·by_cases q:g=f
  ·rw[q];exact BI'.1
  ·refine BI'.2 g (wi g (DB (hg ?_)));show(GV (g=f) AR9 (mA g))=Ε;show EL q;exact z
theorem Inv.made(UR):N9 (upd (upd H B2 (.C4 mi)) mi (.ins C B2 [])) BKc:=by
 have e1:AEq (AFu ACh) ACh:=z9 A7 Z;have e2:(AqY ŋ A_f).LY mi=Β A_f:=Aci (z9 (Ŋ ACh) (o:=Al0 C B2) Z) YI
 have e3:AqY Ns B2 ALo:=⟨ACh,#[],_,e1,Z,(fun e he=>(AQc he)),Adc⟩
 have I1:=Lu AIa a B2 o (.C4 mi) h' (AoA ACh) t' LX (ASU) JI AUG;refine A3f AmZ AGN (.ins C B2 []) (ASU) (AO4 (YI _ _)) ?_;have ne:B2≠AGN:=Ai9;refine⟨Ayz,aS,ne,e2,AcB,(Heap.Ns1.of_empty e3).at fun o q=>AJn,Id AYd,fun y hy=>(AML hy)⟩
theorem yi6{BA:A6}{w:AZ}{CL:Env}{e:AG}{f:Ξ}{AB:AR}{s:AC}{Q:fu}(hb:A7R e f CL (ABj e)=jn e CL)
  (h:BGy (ABj e) (ABh (getAttr o f Θ) GH)):NC (ABj (.pv e f AB)):=
 Attribute_any_ h (by rw[arm_eval_Attribute,hb])
#where
def aa7(K:Φ)(ta:TE)(f:Ξ):TE:=ALB (∃a C dx fs v,g6/\GS H1 Aax/\Ae5/\AxG/\BIA/\Q v H1)
def aa8(K:Φ)(ta tv:TE)(f:Ξ):TS:=fun D σ H=>tv σ H (fc y (l_ ta x (∃a C dx fs,g6/\GS H2 Aax/\Ae5/\AxG/\ASK/\
 LZ σ (upd H2 a BPj))))
section
variable{X:Cx}{o e FF:AG}{f:Ξ}{AB IU tpos:AR}{ta tv:TE}
theorem VD(he:PE X e ta)(hb:AQl f=EW e):Ϫ pv e f (aa7 AE ta f):=by
 show Eg Q;refine yi6 hb (cM Aek (AEU aa9));obtain⟨x,H1,I1,rx,a,C,dx,fs,v,ex,ea,c,n,l,q⟩:=aa9;subst ex;show uA;exact z7a I1 ea c n l fun u' s2 I2 ru=>⟨v,H1,I2,ru,q⟩
theorem Yy(ha:PE X o ta)(hv:BDP)(hs:AV5 o):Af' (ApS o f) FF (aa8 AE ta tv f):=by
 show Eg D;refine AbG plainObj_wpAny_Assign_Attribute (zg hv) u;obtain⟨y,H1,I1,ry,q⟩:=Cb;refine Ô (ha Μ s1 σ H1 _ I1 q) ov hz2;obtain⟨x,H2,I2,rx,a,C,dx,fs,ex,ea,c,n,l,q2⟩:=hz2;subst ex;show E7 (ov=Pp a) rx;exact z63 I2 ea c n l ry (AKq ⟨σ,_,I3,q2⟩)
#where
section
variable{X:Cx}{Μ:fB}{σ:St}{H:Hp}{s:AC}{A:B6}{E:fu}{Q:fu}{c:AD}{b:AO}
inductive wg (K:Φ) (H:Hp):Adl V where
 | non:ϳ BC "NoneType"
 | bl (x:AO):ϳ (.bl x) AOi
 | AF (i:BI):ϳ ATJ xi
 | Ψ (x:Ξ):ϳ Atr Pl
 | flt (x:UInt64):ϳ (.flt x) "float"
 | A8 {a:Η} {xs:AL} (e:Th sx):A'H
 | frz {a:Η} {o:Obj} {xs:AL} (e:Th (.frz o sx)):A'H
 | BM {a:Η} {xs:AL} (e:Th Z_):ϳ EX MH
 | dK {a:Η} {Υ:mS} (e:AGi):A'G
 | dT {a:Η} {Υ:dA} (e:AeS):A'G
 | ins {a C dx:Η} {fs:v_} (e:ATV) (cl:Ae5) (ha:BGt)
   (hn:W.specialIn K AtV "__get__" =Β (fh BbG)) (htk:W.takesIn K AtV=Β Θ)
   (hm:AMW C):wg K H EX OK
theorem zou{x:V}{u t:AD}(I:AW)(rx:ub)(ty:wg AE H x t)(e:BPa t)(h:BJz):
  BHg:=by
 cases ty with
 | non=>cases (PH u eW rx);exact AUD W.kitx_none
 | bl y=>show AJb (u=ACX y) rx;exact AUD W.kitx_bool
 | AF i=>obtain⟨t,q⟩:=(K_ (Ö AVQ) rx);cases q;exact AUD W.kitx_int
 | Ψ y=>obtain⟨t,q⟩:=(K_ (Ö (AYA y t)) rx);cases q;exact AUD W.kitx_str
 | flt y=>obtain⟨t,q⟩:=(K_ (Ö (A6e y t)) rx);cases q;exact AUD W.kitx_float
 | @A8 a xs ea=>
  show ANn;obtain⟨_,_,n,ya⟩:=(AVe sx);exact tP A7T (Mc ve)
 | @frz a ob xs ea=>
  show ANn;obtain⟨_,_,_,n,p⟩:=(AVe (.frz ob sx));exact tP A7T (Mc BS)
 | @BM a xs ea=>
  show ANn;obtain⟨_,_,f⟩:=(AVe Z_);obtain⟨o,l⟩:=f.2;exact tP BbH ⟨o,l.1,l.2.1⟩
 | @dK a Υ ea=>
  show ANn;obtain⟨_,_,vs,d⟩:=(AVe SG);obtain⟨o,es,ep,j⟩:=d.2;exact tP A7U ⟨o,j.1,j.2.1.1⟩
 | @dT a Υ ea=>
  show ANn;obtain⟨_,_,xs,_,o,es,ep,m⟩:=(AVe Ž);exact tP A7U ⟨o,m.1,AGM.1⟩
 | @ins a C dx fs ea cl ha hn htk hm=>
  show ANn;obtain⟨mA,g⟩:=zx4 IB ea;obtain⟨od,v⟩:=(CC).look;exact tP (W.kitx_own (cl.get _) cl.hd ha hn htk hm) EN
#where
structure dB (k:Ζ) (A:B6):Ι where
 hd:Sm
 dp:Ama+3*k+5<BbI
 un:ACi+16*k+200<Ō
theorem dB.mono{j k:Ζ}{A:B6}(r:dB k A)(h:j<=k):dB j A:=⟨r.hd,AJT r.dp,AJT r.un⟩
theorem dB.deeper(BLz)(r:dB OQ A)(CL:Env):dB k (ACj CL):=
 ⟨r.hd,by have:=r.dp;show Ama+1+3*k+5<_;omega,by have:=r.un;show ACi+3+16*k+200<_;omega⟩
theorem z67{A:B6}{C:Η}{us:An}{kw:AK4}:(AYc AiB).depth=Ama+1:=by
 first | rfl | simp [A7V,Code.weight,Code.isCreation,Code.isGuard,Code.isCaller,Code.frames,A7W,guardIds]
theorem z6y{A:B6}{C:Η}{us:An}{kw:AK4}:(AYc AiB).units=ACi+1:=by
 first | rfl | simp [A7V,Code.cUnits,Code.frames,A7W]
theorem dB.make(BLz)(r:dB OQ A)(C:Η)(us:An)(kw:AK4):dB k (AYc AiB):=
 ⟨r.hd,by have:=r.dp;rw[z67];omega,by have:=r.un;rw[z6y];omega⟩
theorem dB.depth(BRu):Ama<BbI:=AJT r.dp
theorem dB.units(BRu):ACi+64<Ō:=AJT r.un
def abb:TA:=Ac3 (Q [] H)
def QH(ta:TE)(tr:TA):TA:=ALB (l_ tr xs (Q (x::xs) H2))
section
variable{X:Cx}{e:AG}{es:CY}{te:TE}{t:TA}{AB:AR}
theorem JD:PA X [] abb:=fun _ _ _ _ H Q I h=>BbJ ⟨[],H,I,C7,h⟩
theorem CV(ha:eJ)(hr:Aga)(hs:GU FH=NB e es:=by rfl):PA X FH (QH te t):=by
 intro AB Μ s σ H Q I h;rw[hs];refine AMf Amb (AEU abd);show W' abd;exact BI3 (hr AB Μ s1 σ H1 _ I1 q1) abe xs abe ⟨Sn,H2,I2,.AU r1 r2,q2⟩
def abf(t:TA):TE:=b9 t xs (WN/\∀p,AJ8 p ->OE p (upd H1 p (.BM xs)))
def abg(t:TA):TE:=b9 t xs (WN/\∀p,AJ8 p ->OE p (br H1 p xs))
theorem ygz{x1}(h:Aga):Ϫ AOy es x1 (abf t):=by
 show ATZ hq;refine wpAny_Tuple_spliced (cM (h AB Μ s σ H _ I hq) BM4)
 have hf:Af_:=Agy;show KS ⟨.AT DZ,upd H1 DZ Z_,BDp (QU rh) JI ?_,Z,q _ hf⟩ ⟨z,us,r,A1d⟩
theorem yms(h:Aga):PE X BFd (abg t):=by
 show ATZ hq;refine wpAny_List_spliced (cM (h AB Μ s σ H _ I hq) BM4)
 have hf:Af_:=Agy;show KS ⟨.AT DZ,upd H1 DZ sx,BDp (QU rh) JI ?_,Z,q _ hf⟩ ⟨z,us,0,r,P9⟩
#where
abbrev Sp:=AL ->Hp ->Do VK XK
abbrev MP:=BQ I_ Hp AC XK (QQ AD)
structure CW (AHs) (mg:DT) (B9:AN) (A:B6) (CF:I_) (s:AC) (H:Hp):Ι where
 frames:AdU CF
 mod:Mod K mg B9
 bs:Ŷ base.get? (Sc/\NG)
 bsz:base.objs.size<=B2
 funs:AdS B9 CF
 frf:HE (frs CF) NG
 hok:pQ P w H A7
 JS:BZw
def CE(CF:I_)(P:A6)(w:AZ)(H:Hp)(s:AC)(Q:VK)(u:AD)(s' :AC):Ι:=
 ∃v H',AUx/\AKk/\Ah0 Aue/\BLf/\OR/\ſ
def CR(CX:MP)(CF:I_)(P:A6)(w:AZ)(H:Hp)(s:AC)(Q:VK)(E:XK)(r:Result)(s' :AC):Ι:=
 match r with
 | .ok (.DM u)=>A5f
 | .ok _=>D6
 | .YN e=>CX CF H s E e s'
structure fY (BUv) (CX:MP) (k:Ζ) (f:Η) (fd:ET) (ps:AA) (sp:Sp):Ι where
 len:BJc
 run:∀(A:B6) (CF:I_) (s:AC) (H:Hp) (Fc:Args) (us:An) (vs:AL) (Q:VK) (E:XK),BPZ AdB (AAS P A ï Fc (CR CX CF P w H s Q E) s)
theorem fY.imp(BTk CX MP){k:Ζ}{f:Η}{fd:ET}{ps:AA}{sp sp' :Sp}(F:BKw sp)
  (h:∀vs H Q E,sp' vs H Q E ->AdB):BKw sp' :=
 ⟨fun vs H Q E q=>F.len vs H Q E (Ee h q),fun A CF s H Fc us vs Q E hr he hb hv hs=>F.run A CF s H Fc us vs Q E hr he hb hv (Ee h hs)⟩
theorem CW.make(BUL){A:B6}{CF:I_}{s:AC}{H:Hp}(e:AdI A)(C:Η)(us:An)(kw:AK4):
  AdI (AYc AiB):=⟨by first | exact e.frames | (simpa [A7V,Code.envs,A7W,pushEnvs] using e.frames),e.mod,e.bs,e.bsz,e.funs,e.frf,e.hok,e.bare⟩
section
variable{X:Cx}{Μ:fB}{σ:St}{H:Hp}{s s' :AC}
theorem Inv.env0(UR):CW EA X.w AE YE SA X.A MM s H:=
 ⟨I.ok.frames,I.ok.mod,I.bs,zQ I.ok.bsz I.sz,I.stack,A7X,IB,Ł⟩
theorem Inv.after{Q:VK}{u:AD}(I:AW)(h:CE MM EA X.w H s Q u s'):my u s' :=by
 show O_ v H' h;obtain⟨hh,g,d,t,os'⟩:=s';show E7 (os' =s.os) Ν;exact⟨v,H',I.call (h' :=hh) (g' :=g) (d' :=d) (t' :=t) (ch:= []) ED Q1 A3 Awl,AEg,AEi⟩
#where
def Binds(K:Φ)(fd:ET)(ps:AA)(ds:An):Ι:=
 ∀(s:AC) (us:An),AHF ->AEJ (Cl (us++ds)) ->BX1 AK5 (us++ds)
theorem Binds.all{K:Φ}{fd:ET}{ps:AA}(h:∀us:An,AEJ pb ->BIo fd):AQY:=fun s us _ hl=>by
 rw[yY] at hl⊢;exact .of_eq (h us hl)
section
variable{X:Cx}{CX:MP}{k:Ζ}{f C:Η}{fd:ET}{ps:AA}{sp:Sp}{dvs:AL}{ds:An}{E:XK}{x m:Ξ}{p AB Ic:AR}{e o:AG}{es:CY}{ta:TE}{t:TA}
structure Mk (K:Φ) (C f:Η):Ι where
 makes:A_F
 init:A'm
 fn:AuA
 kp:bo Alh OK
#where
structure au (N P:AA) (sc:ME):Ι where
 kind:Avy
 co:EE sc.isCoroutine
 gen:EE sc.isGenerator
 nd:N.Nodup
 pre:N.take P.length=P
 par:∀x∈P,AyS AUh
 nofree:∀y∈OW,AI≠ SI
theorem z0r(BJT):BUZ AIc
 | [],_,_=>Z
 | (n,v)::r,m,h=>by
  unfold AIc;rw[z0r fun w hw=>BFH];split
  ·show BRG
  ·rfl
theorem zzx(BJT):BUZ AId
 | [],_,_=>Z
 | (n,v)::r,m,h=>by
  unfold AId;rw[zzx fun w hw=>BFH];split
  ·rfl
  ·show BRG
theorem zy4{yi:AqP}{x:Ξ}{v:AD}:BTN (BQ P.Nodup (kg P) AMn (AQN yi) (BEr AIc))
 | [],_,_,_,_,h,_,_=>AMv
 | EH,[],_,_,_,_,h,_=>AMv
 | p::P,AMl,0,m,nd,h1,h2,hk=>by
  simp at h1 h2;subst h1;subst h2;show AIc yi ((p,w)::P.zip vs) m p=_;unfold AIc;rw[z0r fun v hv=>ABg (Ad_ hv),Fs hk];simp
 | p::P,AMl,i+1,m,nd,h1,h2,hk=>by
  unfold AIc;exact uv zy4 AVS AcG AcH hk
theorem zzr{yi:AqP}{x:Ξ}{v:AD}:BTN (BQ P.Nodup (kg P) AMn (yi x≠Β b_) (BEr AId))
 | [],_,_,_,_,h,_,_=>AMv
 | EH,[],_,_,_,_,h,_=>AMv
 | p::P,AMl,0,m,nd,h1,h2,hk=>by
  simp at h1 h2;subst h1;subst h2;show AId yi ((p,w)::P.zip vs) m p=_;unfold AId;rw[zzx fun v hv=>ABg (Ad_ hv),EJ hk];simp
 | p::P,AMl,i+1,m,nd,h1,h2,hk=>by
  unfold AId;exact uv zzr AVS AcG AcH hk
def start(N:AA)(vs:AL):St:=Amc Β++AKQ (AIf - MR) Ε
def jh(CX:MP)(P:A6)(w:AZ)(K:Φ)(mg:DT)(B9:AN)(N:AA)(D_:Ξ)(HH:ME)(f:Η)(cd:AD)(A:B6)(CF:I_)(s:AC)(H:Hp)(E:XK):Cx where
 BA:=P
 w:=w
 K:=K
 mg:=mg
 B9:=B9
 A:=ACj (Aqo cd)
 N:=N
 Jn:=s
 R_:=H
 CL:=BR0
 CF:=CF
 stack:=BR0::CF
 ex:= []
 calm:=Θ
 fn:=Id Θ
 pn:= []
 xe:=fun e s' =>(MS P w (ACj (Aqo cd)) (leaving (envOfC D_ HH B2 f cd) e) (KE s'' (CX CF H s E e s'')) (fun e' s'' =>CX CF H s E e' s'') s')
theorem z3f{sc:ME}{n:Ζ}{x:Ξ}(h:AUh):∃c,ADT (A0m n OW):=by
 have q:=A7Z OW n [] (.AV h);exact BbK q
theorem zyw{CX:MP}{P:A6}{w:AZ}{K:Φ}{mg:DT}{B9:AN}{N ps:AA}{D_:Ξ}{HH:ME}{f:Η}{cd:AD}{A:B6}{CF:I_}{s s1:AC}{H:Hp}{E:XK}{us:An}{vs:AL}
  (S:BKX) (hd:Sm) (e0:AdI A) (hl:ASR) (r:AFy)
  (x:InCallC s B2 (BTI AIc) (BJ7 []) (BTI AId) s1):
  Inv BS8 [] Agd H s1:=by
 have hpl:YO<=AIf:=by have:=e9 AYg S.pre;show FI Amd;omega
 show HA h1 tk Z hk x.done;have Yz:∀b:Η,b∉ (BS8).ex:=TZ z (A0V z)
 refine⟨⟨e0.mod,Ame,Z,Z,Mn,LJ y z c h1 h2,DC y hy,fun y c _ h=> ?_,Id hd,Around.frames_deeper e0.frames,.CB ϫ,BNV,e0.bs,e0.bsz,fun b _ _=>Yz b,BNV,e0.funs,e0.frf⟩,
  Z,e0.bare,AOq hk,EV x.toInCall.ns (fun i y v h1 h2 h3=> ?_),fun y c h=>(Ú (x.cell y c h)),BbL (zP _),A0 y c h,A2c,e0.hok.kept hk,?_⟩
 ·exact BbM x.apart (BYK h1) (A7a h2)
 ·have hy:BaH To\/BaH SI:=hy;rcases hy with hy | hy
  ·exact z3f hy
  ·exact AML (S.nofree _ (BYK hy))
 ·exact AOu BRL
 ·have hi:AL0:=by
   unfold start at h2;by_cases hi:AL0
   ·exact hi
   ·rw[Aqa] at h2
    rw[AIh] at h2;split at h2<;>cases h2
  have ha:AMn:=by
   unfold start at h2;show AdO Afd h2
   cases e:vs[i]? with
   | Ε=>rw[e] at h2;cases h2
   | Β a=>rw[e] at h2;cases h2;rfl
  show AQ u g (r.get ha);show GL hp (D7 ps y) (by
   rw[<- S.pre,List.getElem?_take_of_lt DF];exact h1) ndP A7b (Q_ S.pre (S.nd.sublist (List.take_sublist _ _))) (E3 u g.2);rcases S.par y (zF hp) with k | k
  ·exact ù k (zy4 ndP hp CC k)
  ·show PQ c e (z3f (n:=AGN) k) (.CB ⟨.AV k,c,e,?_⟩);have q:=x.cell y c e;rw[zzr ndP hp CC (by show Amf y≠_;rw[k];decide)] at q
   exact q
 ·exact BbL (AOu BRL)
 ·unfold start;show _=AIf;rw[Ŏ,HL,AYh]
  simp_all
theorem YB{CX:MP}{P:A6}{w:AZ}{K:Φ}{mg:DT}{B9:AN}{k:Ζ}{f:Η}{Fm D_:Ξ}{Ale:Arguments}{OT:dL}{HH:ME}{dV kV doc pm cdv ct oc:AD}{an od:NM}
  {osl:va} {N ps:AA} {sp:Sp} (lk:AjN (.func BU5) osl) (hcd:A1T) (S:BKX)
  (len:BJc)
  (pz:∀(A:B6) (CF:I_) (s:AC) (H:Hp) (vs:AL) (Q:VK) (E:XK),ApE HH ->AdB ->
   ∃t,JB A4I OT t/\t BOu Agd H):
  fY P w K mg B9 CX OQ f BU5 ps sp:=by
 refine⟨len,fun A CF s H Fc us vs Q E hr e0 hb r hsp=> ?_⟩;have hl:=lS len hsp;have KX:AHF:=A'v;have lim:BbN:=A'w;have hkind:∀y∈AYe us,Ar8 Ν b_\/ (Ar8 Ν To/\ AS2 (A0m mi ō) Ν):=fun⟨n,v⟩ hy=>by
  show OF (S.par n (Ad_ hy)) q q Ads BEj
 show BV (BbO hr.depth (KX _ _ lk) Z S.co S.gen Z (BbP KX hcd) BGB) BRH;subst he;refine BJ';show AQ t j (pz A CF s H vs Q E BYf hsp);have I:Inv A4I [] Agd H s1:=BTF;refine AKl (j.1 [] s1 Agd H _ I j.2) (A0 fl s' hs) (fun e s' hs=>hs);have C8:∀{CS :St} {H' :Hp} {v:V} {u:AD},Inv A4I [] CS H' s' ->OR ->ſ ->A5f :=
  fun{CS H' v u} J rv q=>⟨v,H',J.os,J.bare,J.base,J.hok,rv,q⟩
 cases fl with
 | DM u=>
  obtain⟨v,CS,H',m⟩:=hs;exact C8 m.1 AGM m.2.2
 | MG=>
  show T_ CS H' z hs (C8 (v:=V.non) (u:=eW) z.1 Z z.2)
 | brk=>
  show ASy g hs BDo
 | No=>
  show ASy p hs BCI
section
variable{X:Cx}{x:Ξ}{p AB:AR}{e:AG}{es:CY}{t:TA}{id T:Ff}{r:oo}
def VF(r:oo)(t:TA):TE:=b9 t vs (r vs H1 Q)
theorem Nv(hc:AQE id r)(hg:KU)(hm:ĕ)(hv:đ AEh)(ha:Agb)(Ĩ)(hU):BKW:=by
 show d5;refine AYj (Ϸ hv ?_ hn hdb);exact BbQ (cM AHl fun us s1 abh=>by obtain⟨vs,H1,I1,r1,q1⟩:=abh;exact hc Μ s1 σ H1 vs us Q I1 r1 q1) he hpl
theorem zom(hc:d9 X mP r)(hg:KU)(hm:ĕ)(hv:đ mP)(ha:Agb)(Ĩ)(hU):BKW:=by
 show d5;refine AYj (Ϸ hv ?_ hn hdb);exact AmU (cM AHl fun us s1 abj=>by obtain⟨vs,H1,I1,r1,q1⟩:=abj;exact hc Μ s1 σ H1 vs us Q I1 r1 q1) he hpl
#where
#print L2
namespace HT
open H_ IR
section
open PySem.SeqAt
open A7c (AYk)
open A7d PySem.MeetsSeq2 A7e
#where
section
variable{BA:A6}{w:AZ}{A:B6}{E:fu}{s:AC}
def sIx(n d:Ζ):OI ->Ζ
 | Ε=>d
 | Adh=>if v<0 then BXY else BXb
theorem ymk(n d:Ζ)(hd:d<=n)(o:OI):sIx n d o<=n:=by
 cases o with
 | Ε=>exact hd
 | Β v=>
  show BHN<=n;by_cases hv:v<0
  ·show HZ hv;omega
  ·show î hv (Nat.min_le_right _ _)
theorem ya5(v:BI)(n d:Ζ):BMx=LF (sIx n d cv):=by
 show BMx=LF BHN;by_cases hv:v<0
 ·simp only [Fs hv];simp_all
 ·simp only [EJ hv];grind
theorem z64(BOq):BP_=(Aef,LF Azd):=by
 have h1:¬(u8<0):=L7
 refine AIi ?_ ?_
 ·cases lo with
  | Ε=>rfl
  | Β v=>exact ya5 v n 0
 ·cases hi with
  | Ε=>rfl
  | Β v=>exact ya5 v n n
theorem z6s(i j:Ζ):Amh Ñ (KB j) 1=j - i:=by
 unfold Amh;have h1:u8>0:=BG
 simp only [h1,kB,Int.ediv_one];split<;>simp_all
theorem zv7{v:AD}{o:OI}{Q:QQ OI}(p:Ami v o)(h:Q o s):NC (Builtin.Slice.slicePartIndex v):=by
 cases p with
 | Ε=>exact BbR h
 | AF i t=>exact slicePart_int h
theorem zrs{sl:Η}{vl vu:AD}{lo hi:OI}{n:Ζ}{Q:QQ (BI×BI×Ζ)}(hs:A4o)(pl:Az7)(pu:Az8)
  (h:Q (Aef,1,Azd - sIx n 0 lo) s):NC (Builtin.Slice.sliceApplied (B0 sl) (IC cr)):=by
 show C6 os (id hs);show BV (z6 (z6 (AzH vl Z (z6 (AzH vu Z (z6 (AzH CI Z (z7 ?_)))))))) (ft BbR);show EL BF
 refine z6 (zv7 pl (z6 (zv7 pu (z6 (z7 ?_)))));show ip (match BP_ with | (lo,hi)=>IC (lo,u8,Amh lo hi 1))
 rw[z64 lo hi n];show ip (IC (Aef,u8,Amh Aef (LF Azd) 1));rw[z6s];exact z7 h
theorem ye8(xs:Hb)(i k:Ζ):Â (xy k).A6l (fun(Tb m)=>xs[Azc]?)=((xs.toList.drop i).take k).AYl:=by
 have e:(fun(Tb m)=>xs[Azc]?)=BH7:=by
  funext m
  have:Azc=i+m:=BG
  rw[At]
 rw[e];have:=pick_run xs i k;show FI List.filterMap_map;have e2:((fun x=>xs[x]?) ∘ QP (i+x))=BH7:=Z;show FI e2;rw[At]
theorem getItem_tuple_cut{t sl:Η}{Lc:Hb}{vl vu:AD}{lo hi:OI}{Q:fu}(ht:IsTup A7 t Lc)(hs:A4o)(pl:Az7)(pu:Az8)
  (hw:¬(AQt=0/\Aa2=N1))
  (h:AUy (ϕ (Â A2x Ac5)))
  (hsz:AsU):NC (AO6 (B0 t) (B0 sl)):=by
 have Hf:sizeOk (.seq (Â A2x Ac5)):=by
  show D4 (A2x Ac5).toArray.size;rw[SD,Amd,Amj,jv];show ADa
 have hj:Aa2<=N1:=ymk _ _ JI hi;show AQ os y (id hs);have hTs:AK' sl "slice" :=⟨os,Ν,A3⟩;unfold AO6
 try with_reducible refine x_ ?_
 first | refine ę | skip
 refine ZI wpAny_sequenceKey A7g BF
 refine z6 (BVT BbS A7g BbT
  (AO7 BbT A7g entry_tuple_getitem ?_ (args_tuple_getitem _ _)))
 show ip (Builtin.Tuple.tupleItemsOf (B0 t)>>=_);refine z5 tupleItemsOf_ ht;refine z5 BbU hTs;show HZ BF
 refine z6 (zrs hs pl pu ?_);have hno:¬(BPQ):=by
  intro q;rw[TN,TN] at q;have q1:LF AQt=0:=Amk DD.1;have q2:Aa2 - AQt=N1:=Amk q.2;exact hw ⟨L7,L7⟩
 show ip (ALG BPQ);rw[EJ hno,ye8]
 first
  | exact Qr A7h (yl (z7 Aey) Hf)
  | exact Qr A7h (yl (z6 (z7 (z7 Aey))) Hf)
  | show BCh (yl (z7 (z7 Aey)) Hf)
  | show BCh (yl (z7 Aey) Hf)
#where
#print HT
namespace L2
open H_ Nl IR
abbrev TO:=AiN AtM
def PO(X:Cx)(e:ALr)(t:TO):Ι:=
 AV_ AtM (evalPart e Be) (gz u (∃o H',AG7 /\Ami u o/\Q o H'))
def yja:TO:=Ac3 (Q Ε H)
def YC(t:TE):TO:=ž t (∃i,Aa0/\Q (Β i) H1)
section
variable{X:Cx}{e:AG}{te:TE}{lo hi:ALr}{tl th:TO}{AB p2:AR}
theorem yhz:PO X Ε yja:=by
 show d5;rw[BbV];exact z7 ⟨Ε,H,I,CI,h⟩
theorem yis(h:eJ):PO X AbV (YC te):=by
 show ATZ hw;rw[evalPart_some];refine cM Ayr (AEU abk);show W' abk;show L6 i q q1;show bv r1;exact⟨Β i,H1,I1,.AF i t,q⟩
def SlR(X:Cx)(r:AOP):Ι:=
 ∀(Μ:fB) (s:AC) (σ:St) (H:Hp) (x:V) (v vl vu:AD) (lo hi:OI) (sl:Η) (Q:VK),AW ->i0 ->BQ A4o Az7 Az8 (r x lo hi H Q) (∃T id,BNr/\BEa/\AFK (AO6 v (B0 sl)))
def tSl(r:AOP)(te:TE)(tl th:TO):TE:=ž te (l_ tl l (th σ H2 fun u H3=>r x l u H3 Q))
theorem zwr{r:AOP}(hr:SlR X r)(he:eJ)(hl:PO X lo tl)(hu:PO X hi th):PE X (Í e Arq) (tSl r te tl th):=by
 show Eg Q;refine A7i (cM Aek (tz abl));show W' abl;refine wpAny_Slice (cM (á hl) (A0 vl s2 Cb));show AE_ l H2 Cb;refine cM (hu Μ s2 σ H2 _ AK UF) (A0 vu s3 hz2);show Ð H3 w hz2;rw[BbV];refine AFn;have I4:N9 H3 BNW:=(BE).kept (t' :=s3.toks) (OL ob AJn);show O_ T id (hr Μ BNW σ H3 x v vl vu l u ŏ Q I4 r1 (Heap.IsSliceOf.new ..) NS EM Kb);exact tail_any (ops:= [.AT ŏ,v]) A3 Ν CO WP
def Bu(xs:AL)(lo hi:OI):AL:=A'2
theorem zuo(xs:AL)(lo hi:OI):Cl Awz<=B5:=by
 unfold Bu;rw[Amd,Amj];omega
def abm(AHW):AOP:=A4T (∃a xs,g6/\ABK/\
 ¬(BV7=0/\ø BWC)/\Aq6 (ck (Bu xs lo) hi))
theorem yli:SlR X (abm AE):=by
 intro Μ s σ H x v vl vu lo hi sl Q I rx hs pl pu h;obtain⟨a,xs,Z,hx,hw,q⟩:=h;cases rx;show AQ AH y (j_ hx);have Fr:p6=B5:=B1 SD (Ν).length.symm
 show BV ⟨MH,_,PyProof.Rows.slot_tuple_getitem.lookup,(A3).AIj,?_⟩ (HT.getItem_tuple_cut A3 hs pl pu (F8 Fr hw) ?_ (F8 Fr CO))
 rw[Fr];refine BSM (.BM Awz);exact⟨BLI,_,Ari (Ν).drop,As6⟩
#where
def J2(n:Ζ)(i:BI):G_ Ζ:=if 0<=i then(GV (i<n) (Β i.toNat) Ε) else Arw (-cr<=i) (Β (i+n).TM)
def Bv(NX)(xs:Go)(i:BI):AS6:=(J2 B5 i).bind fun j=>xs[j]?
theorem z9h{n:Ζ}{i:BI}{j:Ζ}(h:J2 n i=Β j):BAV n/\j<n/\ -cr<=i/\i<n:=by
 show BD J2;by_cases h0:0<=i
 ·show ϓ h0;by_cases h1:i<n
  ·show ϓ h1;have e:i.toNat=j:=zJ h;exact⟨OM (A7k h0 h1) e,BG,BG,h1⟩
  ·show tq h1;cases h
 ·show tq h0;by_cases h1: -cr<=i
  ·show ϓ h1;have e:(i+n).TM=j:=zJ h;exact⟨OM (A7l DF h1) e,BG,h1,BG⟩
  ·show tq h1;cases h
theorem z16{α:GG}{xs:Go}{i:BI}{v:α}(h:gi AR3):∃j,BAV B5/\SZ xs v/\ATa/\ -ALs<=i/\iS:=by
 show BD Bv;cases e:J2 B5 i with
 | Ε=>show F_;cases h
 | Β j=>
  show F_;show EG (z9h e);exact⟨j,Ν,h,A3,ED,NO⟩
theorem pW{α:GG}{xs:Go}{j:Ζ}{v:α}(h:SZ xs v):gi (Bv xs (KB j)):=by
 have hj:ATa:=dr h;have e:J2 B5 (KB j)=Β j:=by
  unfold J2;rw[Fs DF,Fs DF];simp
 unfold Bv;rw[e];exact h
def zxf(b:AG):Ι:=∀o i,A1o (Aml b Τ o i) [o,i] o i
def IxR(X:Cx)(r:R2):Ι:=
 ∀(FF ba:AG) (Μ:fB) (s:AC) (σ:St) (H:Hp) (x y:V) (v u:AD) (Q:VK),AW ->BQ i0 PU (r x y H Q) (A1o (Aml ba Τ v u) [v,u] v u) (AFK (subscriptTail FF ba v u))
def S5(BMg):Ι:=
 ∀(Μ:fB) (s:AC) (σ:St) (H:Hp) (x:V) (xs:AL) (v:AD) (us:An) (Q:VK),BQ AW i0 cz (r x xs H Q) (Azu v)
section
variable{X:Cx}{a b:AG}{ta tb:TE}{AB:AR}
theorem yjs{r:R2}(hr:IxR X r)(ha:ö)(hb:AKn)(hs:zxf b):PE X (Í a b) (Yw r ta tb):=by
 show d5;exact A7i (A4W (BX' (hr a b Μ s2 σ H2 x y v u Q I2 rx ry q (hs _ _))))
def abn(AHW):R2:=BTz Awp
def abo(AHW):R2:=BTz (ur K H p xs)
def abp:R2:=hZ (∃z i c,û z/\y= .AF i/\ALt/\BJO/\Q (.Ψ ANh) H)
theorem z8j:IxR X (abn AE):=by
 show A5r;obtain⟨p,xs,i,z,Z,Z,m⟩:=h;cases rx;show ik ry;show HA AH r pl hz (pk m.1);show AQ j n (z16 AGM);have h1:=n.1;show AQ w g (r.get AFf);show BBe;have C8:my w s:=BLe;by_cases h0:0<=i
 ·have hj:i.toNat=j:=by
   rw[A7k h0 (GT n)] at h1;exact zJ h1
  exact item_listR pl.isList h0 A2 BIW C8 hs
 ·have hj:(i+ ARl).TM=j:=by
   rw[A7l DF ASB] at h1
   show Abg;exact zJ h1
  exact Aw_ w pl.isList.typeIs BbW (wpAny_getItem_list_neg (Q:=BIt) pl.isList DF BYO A2 BIW (NE C8))
theorem ylq:IxR X (abo AE):=by
 show A5r;obtain⟨p,xs,i,z,Z,Z,m⟩:=h;cases rx;show ik ry;show HA AH r pl hz (j_ m.1);show ADf j n z16 AGM w g r.get AFf;show BBe;have C8:my w s:=BLe;exact Aw_ w pl.typeIs slot_tuple_getitem.lookup (getItem_tuple (j:=j) (Q:=BIt) pl A2 A2 (Ate n.1) (DA CC) (NE C8))
theorem ylx:IxR X abp:=by
 show A5r;show ą z i c Z w h;show ik rx;show AJW t' ry;obtain⟨j,h1,h2,h3,h4,h5⟩:=z16 EM;have hl:z.cps.toList.length=kC:=DS Str.length
 rw[hl] at h1 h4 h5;have hn:=rQ;exact tail_any (AO8 s z t) slot_str_getitem.lookup (getItem_str (c:=c) (by
  have e1:EE (Κ (i< -(KB (2^63)))):=AUS
  have e2:EE (Κ (i≥2^63)):=AUS
  rw[e1,e2,BbX]) (by rw[h1];simpa using h2) (tN (.Ψ ANh) Kb)) hs
theorem z6f(AH:An)(n j:Ζ)(u:AD):AO9 (·.setIfInBounds j u) ALO=qq (G' FE) (.seq (its.set j u).AYl n):=DS AO9
theorem Inv.lst{Μ:fB}{σ:St}{H:Hp}{s:AC}{p:Η}{xs:AL}(I:AW)(h:Av7):
  A2z (AKd/\BGC/\WN):=by
 show UK z AH n (IB p _ h);exact⟨AH,n,Ν,AI,z⟩
theorem Inv.lstUpd{Μ:fB}{σ:St}{H:Hp}{s:AC}{p:Η}{xs ys:AL}{AH bX :An}{n n' :Ζ}{f:Obj ->Obj}(I:AW)(h:Av7)
  (ho:BGC) (hf:f ALO=BFZ) (r:E6 ys bX) (hz:ATA) (t:Ζ):
  N9 (br H p ys) (ŧ (Ő p f) t):=by
 have e:(Ő p f).LY p=Β BFZ:=OM (AYm f ho (by rw[hf]<;>rfl)) hf
 show KS (AmY (x:=p) (e:=p) (by rw[h];trivial) sA (k9 u hb (BFJ hb q)) (Ú e) ?_) ⟨hz,bX,n',r,e⟩
def YD:BLq:=fun o i v H Q=>∃p xs k j,o= .AT p/\i= .AF k/\Av7/\J2 B5 k=Β j/\Q (br H p (Alw j v))
theorem yd4:Yr X YD:=by
 intro Μ s σ H o i v ov iv u Q I ro ri rv h;obtain⟨p,xs,k,j,Z,Z,g⟩:=h;cases ro;show ik ri;show P8 AH n w I.lst CC;show EG (z9h NU);have h1:=Ν;have hl:=AqJ;have hn:=rQ;have I' :N9 (br H p (Alw j v)) (VX (Ő p (Obj.mapSeq (·.setIfInBounds j u)))):=
  I.lstUpd CC EM (z6f AH n j u) ((BE).set rv j) (F8 A7o Kb) LX
 by_cases h0:0<=k
 ·have hk:AYn=j:=by
   rw[A7k h0 NO] at h1;exact zJ h1
  exact W.ki_setAt EM h0 A2 (Ate NO) BDf
 ·have hk:(k+ ARl).TM=j:=by
   rw[A7l DF ED] at h1
   show Abg;exact zJ h1
  exact W.ki_setBack EM DF (Ate ED) A2 BDf
theorem z0k(BOq):A4e.1=LF (Ao4 n)/\ A4e.2.1=LF (p5 n n hi)/\ A4e.2.2=1:=by
 refine AAd ?_ ?_
 ·cases lo with
  | Ε=>show BCd
  | Β i=>
   simp only [Amm,p5,A7p,AZr (u8>0),kB]
   by_cases h:i<0
   ·simp only [h,kB]<;>grind
   ·simp only [h,AYo]<;>grind
 ·cases hi with
  | Ε=>show BCd
  | Β i=>
   simp only [Amm,p5,A7p,AZr (u8>0),kB]
   by_cases h:i<0
   ·simp only [h,kB]<;>omega
   ·simp only [h,AYo]<;>omega
theorem zwg(AH:An)(lo hi:OI):slicePick Kj lo hi Ε=Â (its.drop (p5 ACl 0 lo)).take (p5 ACl ACl hi - Ao4 ACl):=by
 show EG (z0k lo hi p6);unfold slicePick;rw[Ν,A3,CO];simp only [sliceRange_one,pick_run,SD]<;>rfl
def abq(AHW):AOP:=A4T (∃a xs,g6/\ô/\Aq6 (OB (Bu xs lo) hi))
theorem yha:SlR X (abq AE):=by
 intro Μ s σ H x v vl vu lo hi sl Q I rx hs pl pu h;show IJ a xs hx q h;cases rx;show ϲ y hx;have Fr:=ď;show BV ⟨FE,_,BbW,(A3).BbZ,?_⟩ (wpAny_getItem_list_slice Acg hs pl pu CI BN ?_ BYO)
 rw[zwg,<- Fr];refine BSM (.A8 Awz);exact⟨BLI,_,0,Ari (Ν).drop,P9⟩
def rB:lm V
 | BC=>Θ
 | ST=>Θ
 | UN=>Θ
 | We=>Θ
 | _=>Τ
def Nx:V ->V ->AO
 | BC,BC=>Θ
 | .bl a,d4=>a==b
 | .bl a,ATF=>(AN4 a)==b
 | ATE,d4=>a==(AN4 b)
 | ATE,ATF=>a==b
 | AK1,AR'=>a==b
 | _,_=>Τ
theorem ym7{A:B6}{s:AC}{y x:V}{u v:AD}(ry:PU)(rx:i0)(fy:rB y=Θ)(fx:AuD):BLn (Nx y x):=by
 cases y with
 | non=>
  cases ry;cases x with
  | non=>show AAc Asq
  | bl b=>show AAc (SeqAt.EqAt.none_bool b)
  | AF b=>show Ϣ rx (SeqAt.EqAt.none_int b t)
  | Ψ b=>show Ϣ rx (SeqAt.EqAt.none_str b t)
  | _=>show ANQ fx
 | bl a=>
  cases ry;cases x with
  | non=>show AAc (SeqAt.EqAt.bool_none a)
  | bl b=>show AAc (SeqAt.EqAt.bool_bool a b)
  | AF b=>show Ϣ rx (SeqAt.EqAt.bool_int a b t)
  | Ψ b=>show Ϣ rx (SeqAt.EqAt.bool_str a b t)
  | _=>show ANQ fx
 | AF a=>
  show ğ;cases x with
  | non=>show AAc (SeqAt.EqAt.int_none a t')
  | bl b=>show AAc (SeqAt.EqAt.int_bool a t' b)
  | AF b=>show Akk SeqAt.EqAt.int_int
  | Ψ b=>show Akk Bak
  | _=>show ANQ fx
 | Ψ a=>
  show ğ;cases x with
  | non=>show AAc (SeqAt.EqAt.str_none a t')
  | bl b=>show AAc (SeqAt.EqAt.str_bool a t' b)
  | AF b=>show Akk Bal
  | Ψ b=>show Akk SeqAt.EqAt.str_str
  | _=>show ANQ fx
 | _=>show ANQ fy
def Fp(x:V)(u:AD):AO:=match u with
 | CI=>Nx BC x
 | .js b=>Nx ATb x
 | AVT=>Nx ATJ x
 | .Ψ z _=>Nx (.Ψ z) x
 | _=>Τ
theorem ygg(BJZ)(r:PU)(f:rB y=Θ):Fp x u=Nx y x:=by
 cases y with
 | non=>cases r;rfl
 | bl b=>cases r;rfl
 | AF i=>show AL_
 | Ψ z=>show AL_
 | _=>show ANQ f
theorem YF{x:V}:BTC (us.any (Fp x)=xs.any fun y=>Nx y x)
 | _,_,C7,_=>Z
 | y::xs,u::us,AHJ,f=>by
  rw[AYp,TN] at f;show BCZ (ygg r f.1) (YF t f.2)
theorem YG{A:B6}{s:AC}{x:V}{v:AD}(rx:i0)(fx:AuD):BTC (∀u∈us,BLn (Fp x u))
 | _,_,C7,_=>fun u hu=>(AJr hu)
 | y::xs,u::us,AHJ,f=>fun u' hu=>by
  rw[AYp,TN] at f;rcases MO hu with Z | hu
  ·rw[ygg r f.1];exact ym7 r rx f.1 fx
  ·exact YG rx fx t f.2 u' hu
def inV(x:V)(xs:AL):AO:=xs.any fun y=>Nx y x
def rIn(K:Φ)(neg:AO):R2:=hZ (∃p xs,y= .AT p/\ (Awp\/ur K H p xs)/\AuD/\Amn rB=Θ/\AFo (Þ (inV x xs) (inV x xs)))
theorem z0d:AJU In (rIn AE Τ):=by
 show ACG;obtain⟨p,xs,Z,hq,fx,fs,q⟩:=h;cases ry;rcases hq with hq | hq
 ·show PQ AH z AAq (SeqAt.in_listAt ABe (æ z) (fun w hw=>YG rx fx z.1 fs w (DA hw)) (è ?_))
  rw[show Amo (Fp x)=Amp ABe by simp,YF z.1 fs]
  exact q
 ·show PQ AH g ATc (SeqAt.in_tupleAt ABe NU (fun w hw=>YG rx fx CC fs w (DA hw)) (è ?_))
  rw[show Amo (Fp x)=Amp ABe by simp,YF CC fs]
  exact q
theorem zqw:AJU NotIn (rIn AE Θ):=by
 show ACG;obtain⟨p,xs,Z,hq,fx,fs,q⟩:=h;cases ry;rcases hq with hq | hq
 ·show PQ AH z AAq (SeqAt.notIn_listAt ABe (æ z) (fun w hw=>YG rx fx z.1 fs w (DA hw)) (è ?_))
  rw[show Amo (Fp x)=Amp ABe by simp,YF z.1 fs]
  exact q
 ·show PQ AH g ATc (SeqAt.notIn_tupleAt ABe NU (fun w hw=>YG rx fx CC fs w (DA hw)) (è ?_))
  rw[show Amo (Fp x)=Amp ABe by simp,YF CC fs]
  exact q
theorem zqv:AfY AH7 (BNX (ATm OX)):=by
 show ANg;show IJ p ys hq q h;show Si;cases rx;have hn:=rQ;rcases hq with hq | hq
 ·obtain⟨AH,w⟩:=AAq;have Fr:=AqJ;exact BOS Calls.call_len_list ALC
 ·show C6 AH ATc;have Fr:=ď;exact BOS len_tuple A3
theorem zzn:AfY AH7 (∃z,xs= AfL/\ALt/\ATm kC):=by
 show ANg;show O_ z Z h;obtain⟨u,Z,t,Z⟩:=AIY r;have hn:=rQ;exact len_str A2 (AUB kC AI)
theorem zqy:Au7 (Apk (BNX (A2o (AKN ys)))):=by
 show ANg;show IJ p ys hq q h;show Si;cases rx;have C8:∀(AH:An),E6 ys AH ->ATA ->∀(h' :AN) (c' :Ζ),(∀b o',K0 TK o' ->K0 YA o') ->
   ArZ Kj c' ->my ϻ PD:=fun AH r' hz h' c' kp e=>
  (AAQ (AfN kp JI (fw _ h' _ AtN ⟨hz,AH,c',r',e⟩)) (q _ AFs))
 rcases hq with hq | hq
 ·show BGu;obtain⟨o,ho,hc,n,hd⟩:=æ v;exact Bba p sA ho hc hd (fun h' c' kp e=>C8 AH EN Sk h' c' kp e) Ar7
 ·show AQ AH y (j_ hq);have Fr:=ď;obtain⟨o,ho,hc,n,hd⟩:=A3;exact Bba p (O0 Z) ho hc hd (fun h' c' kp e=>C8 AH Ν CO h' c' kp e) Ar7
theorem zpg:AQq MH (Apk (∃p ys,xs= ASN/\ ((ASW ys/\A2o (upd H l (.BM ys)))\/ (ur AE H p ys/\OE p H)))):=by
 show ANg;show LL p ys h h;show Si;cases rx;rcases h with ⟨hq,q⟩ | ⟨hq,q⟩
 ·show BGu;refine call_tuple_list (æ v) (AFd h' kp) Ar7
  have I1:AGS:=BEk kp;have I2:N9 (upd H AO_ (.BM ys)) (VX (h'.push Afw)):=
   ADi AmZ (sP) JI (fw _ _ _ Aed ⟨Sk,AH,EN,As6⟩)
  exact PF (.AT AO_) I2 (q _ AoW)
 ·show DO AH y ATc (call_tuple_same A3 (AJa Adn q))
def tyV(K:Φ)(T:Ff)(x:V)(H:Hp):Ι:=ALh x We (T= Pl) UN (T= xi) Adn ((T= FE /\∃xs,Awp)\/ (T= MH /\∃o,i3 p=Β o/\AvW /\AtJ)\/
   (T= i6 /\ ((∃Υ,SL p SG)\/∃Υ,SL p Ž))\/ (T= Rl /\∃S n,SL p (.set S n))) D6
theorem yf3{Μ:fB}{σ:St}{H:Hp}{s:AC}{T:Ff}{x:V}{v:AD}(I:AW)(r:i0)(ty:tyV AE T x H):
  BEa/\∀a,NI ->∃ob,AsY ob/\ob.dict=Ε:=by
 cases x with
 | Ψ z=>
  show bv r;cases (PH T Pl ty);exact⟨AO8 s z t,MY e iA⟩
 | AF i=>
  show bv r;cases (PH T xi ty);exact⟨A7r s i t,MY e iA⟩
 | AT p=>
  cases r;rcases ty with ⟨Z,xs,hq⟩ | ⟨Z,o,hk,hc,hd⟩ | ⟨Z,hk⟩ | ⟨Z,S,n,hk⟩
  ·show PQ AH m AAq ⟨(m.2.1).BbZ,DC a e⟩;cases e;show Ą n u AGM;exact⟨o,u.1,Db u⟩
  ·refine⟨⟨o,VA p o hk,hc⟩,DC a e⟩;cases e;exact⟨o,VA _ o hk,hd⟩
  ·have z:∃o,AQD p/\A6f:=by
    rcases hk with ⟨Υ,hk⟩ | ⟨Υ,hk⟩
    ·show AGJ g AxX;exact⟨o,CC,NU⟩
    ·show AGJ q AxX;exact⟨o,DD,SH⟩
   show PQ o w z ⟨⟨o,BE,EM⟩,DC a e2⟩;cases e2;exact⟨o,BE,nr⟩
  ·show Ab_ y AxX;refine⟨⟨o,Ν,A3.1⟩,DC a e2⟩;cases e2;exact⟨o,Ν,A3.2.1⟩
 | _=>show qr ty
def abr(K:Φ)(T:Ff)(r:ASh)(to:TE):TE:=BRl (r x [] H1 Q)
def tBM(K:Φ)(T:Ff)(r:ASh)(to:TE)(t:TA):TE:=BRl (l_ t xs (r x xs H2 Q))
variable{o e:AG}{es:CY}{to:TE}{t:TA}{Fm:Ξ}{Ic G1:AR}{T id:Ff}{r:ASh}
theorem yf2(pa:BCK)(M3:BON)(hty:A3h)(hm:S5 X id r)(ho:Auo)
  (J':ac o Fm o=EW o:=by rfl) (ALS):PE X (ű (rL o Fm) []) (abr AE T r to):=by
 show Eg Q;refine AkK (ASV (tz abt));obtain⟨x,H1,I1,r1,ty,q1⟩:=abt;show EG (yf3 I1 r1 ty);exact⟨T,id,pa,M3,hty,Ν,AI,BaG (Bbb (hm Μ s1 σ H1 x [] v [] Q I1 r1 C7 q1))⟩
theorem VG(pa:BCK)(M3:BON)(hty:A3h)(hm:S5 X id r)(ho:Auo)(ha:Agb)
  (J':ac o Fm o=EW o:=by rfl)
  (YR:LN (ABM FH all (! x.1)&&ACH) (ACI FH 30):=by rfl)
  (ϡ) (hs:GU FH=NB e es:=by rfl) (hplain:ArK:=by rfl):
  PE X (ARO Fm FH) (tBM AE T r to t):=by
 show Eg Q;refine wpAny_Call_method_late J' YR bb Z (ASV (tz abu));obtain⟨x,H1,I1,r1,ty,q1⟩:=abu;show EG (yf3 I1 r1 ty);refine⟨T,id,pa,M3,hty,Ν,AI,?_⟩;have hA:=ha G1 Μ s1 σ H1 _ I1 q1;rw[hs] at hA⊢;refine A7s (by show(false || (backTo cpos (starEach es X.env)).any (·.1))=false;rw[hplain]<;>rfl) (A7t ?_)
 exact BI3 hA abv vs abv (hm Μ s2 σ H2 x vs v us Q I2 r1 r2 q2)
#where
def MtM(BMg):Ι:=
 ∀(Μ:fB) (s:AC) (σ:St) (H:Hp) (x:V) (xs:AL) (v:AD) (us:An) (Q:VK),BQ AW i0 cz (r x xs H Q) (Azu v)
theorem Vals.one:KO x V us An (E6 [x] us) (∃u,us= [u]/\ub)
 | _,_,.AU r C7=>WC r
theorem Vals.reverse(BRh):E6 ym us.reverse:=by
 induction h with
 | DU=>exact C7
 | AU r t ih=>rw[Ams,Ams];exact Alx ih (.AU r C7)
theorem Vals.rep(BRh):∀k:Ζ,E6 (ui k xs) (ui k us)
 | 0=> C7
 | k+1=>by
  rw[AIl,AIl,AO',AO'];exact Alx h (Vals.rep h k)
theorem z0b(AH:An):∀(k:Ζ) (Ap:An),
  Amt AkM acc.toArray (AIe k Kj)=AGG (Ap++ ui k AH)
 | 0,Ap=>FA
 | k+1,Ap=>by
  have e:acc.toArray++Kj=AGG AxE:=FA
  have e2:AxE++ ui k AH=Ap++ ui OQ AH:=by
   rw[AIl,AO',AYq]
  rw[<- e2,<- z0b AH k AxE,<- e,AIl,Bbc]
section
variable{X:Cx}{Μ:fB}{σ:St}{H:Hp}{s:AC}{l b:Η}{xs ys zs:AL}
theorem Inv.lset{AH bX :An}{n:Ζ}{f:Hb ->Hb}{t' :Ζ}(I:AW)(hH:AxO)
  (e:ARZ ALO) (hf:f Kj=BbY) (hv:E6 ys bX) (hz:ATA):
  N9 (AKN ys) (ŧ (Ő l (AO9 f)) t'):=by
 have q:=PySem.IsL.update e f;rw[hf] at q;refine AmY (x:=l) (e:=l) (F8 hH N2) sA (fun b' u hb hu=>(A7n A7 (AZ' f) (jS hb)).Kk hu) (Ú q) ?_
 exact⟨hz,bX,_,hv,q⟩
theorem Inv.lnew{AH:An}{t' :Ζ}(I:AW)(hv:E6 ys AH)(hz:ATA):
  N9 (br H B2 ys) (AKW (AJZ Kj) t'):=
 AIa (At7) JI ⟨hz,AH,0,hv,P9⟩
theorem Inv.fresh(UR):bu B2:=AYO (zP _)
theorem Inv.lstM(I:AW)(hH:AxO):WN/\A2z (AKd/\AFb ACl/\ARZ ALO):=by
 show UK z AH n (IB l _ hH);exact⟨z,AH,n,Ν,ď,AI⟩
theorem yfo{n:Ζ}(h:D4 n):A7u n=Τ:=Fu (pV DF)
#where
section
variable{X:Cx}
def yjh:ASh:=Aat (∃l xs y,x= .AT l/\vs= [y]/\AxO/\ATy/\Q BC (AKN (xs++ [y])))
theorem zzv:MtM X A7v yjh:=by
 intro Μ s σ H x vs v us Q I rx rv h;show ą l xs y Z p h;cases rx;show L6 u ru rv.one;obtain⟨z,AH,n,w⟩:=I.lstM AK;refine AEx F.slot_list_append (Mc Kb) F.entry_list_append F.args_list_append_2 (PySem.list_append l Kj n u AhB) (E9 Kb)
 refine PF BC (I.lset (bX :=AH++ [u]) AK Kb BN ((BE).Amv (.AU ru C7)) ?_) UF
 show BCT;omega
theorem yi1(NX)(xs:Go)(k:Ζ):AZ4 k xs Bbd=k*B5:=by
 induction k with
 | e_=>simp
 | fA k ih=>rw[AIl,AO',Ŏ,ih,Nat.succ_mul,Nat.add_comm]
#where
section
variable{κ:GG}[AHb]
def jx(Υ:tJ)(k:κ):WZ:=(kvs.find? fun kv=>(Κ (kv.1=k))).B_ (·.2)
def yn(BSZ):tJ:=
 Os Ag4 (AOf (Acq v)) (Υ++ [(k,v)])
theorem zwl{p:κ×V}{r:tJ}{k:κ}(e:AK=k):jx (p::r) k=Β BS:=Abl jx e
theorem zyf{p:κ×V}{r:tJ}{k:κ}(e:¬AK=k):jx (p::r) k=jx r k:=Abl jx e
theorem zw1(k:κ):∀Υ:tJ,Ag4=AVF
 | []=>Z
 | p::r=>by
  rw[AIk];by_cases e:AK=k
  ·simp only [zwl e,APA e,Bool.true_or,A7w]
  ·rw[zyf e,pV e,Amw];exact zw1 k r
theorem zui(BSZ):Cl (AWD v)<=xp+1:=by
 unfold yn;split
 ·show ALc;simp_all
 ·rw[Ŏ,IY,List.length_nil];simp_all
theorem pI.lR{o:WZ}{u:cq}(r:pI o u):AYs=u.isSome:=by
 cases o with
 | Ε=>cases u with
  | Ε=>rfl
  | Β _=>show ANl
 | Β _=>cases u with
  | Ε=>show ANl
  | Β _=>rfl
theorem pI.getD{o:WZ}{u:cq}{d:V}{d' :AD}(r:pI o u)(rd:HK d d'):HK (o.getD d) (u.getD d'):=by
 cases o with
 | Ε=>cases u with
  | Ε=>exact rd
  | Β _=>show ANl
 | Β _=>cases u with
  | Ε=>show ANl
  | Β _=>exact r
theorem KV.val(BNK):pI (jx Υ k) (APB vs k):=by
 induction r with
 | DU=>exact AYd
 | @AU p q ps qs h t ih=>
  show A0e;by_cases e:AK=k
  ·have e' :DD=k:=BYs;have b:APB AiW k=Β FL:=A'q
   rw[zwl e,b];exact h2
  ·have e' :¬DD=k:=DB Aji;have b:APB AiW k=APB qs k:=A'q
   rw[zyf e,b];exact ih
theorem KV.any(BNK):Ag4=vs.any fun kv=>(Κ (kv.1=k)):=by
 induction r with
 | DU=>rfl
 | AU h t ih=>show BCZ ih AS
theorem KV.repl(BNL):
  KV (AOf (Acq y)) (Amc (Acq u)):=by
 induction r with
 | DU=>exact C7
 | @AU p q ps qs h t ih=>
  show BGZ (.AU ?_ ih);show A0e;by_cases e:AK=k
  ·rw[M1 e,BFM];exact⟨h1,ry⟩
  ·rw[Ps e,ASF Aji];exact⟨h1,h2⟩
theorem KV.put(BNL):KV (AWD y) (stored vs k u):=by
 unfold yn stored;rw[r.any k];by_cases e:(AbH vs.any)=Θ
 ·rw[M1 e,As3];exact r.repl k ry
 ·rw[Ps e,As4];exact Paired.snoc r (NE ry)
theorem KV.length{Υ:tJ}{vs:AbC}(r:ARF):ADV xp:=BZF
#where
theorem VH{P:A6}{w:AZ}{k:Key}{u:AD}(r:HK (kV k) u):(rA P w).is k u=Θ:=by
 cases k with
 | AV i=>obtain⟨t,e⟩:=(ApW AVQ);subst e;exact z23 P w i t
 | CB x=>obtain⟨t,e⟩:=(ApW Ahk);subst e;exact zto P w x t
theorem zuh{P:A6}{w:AZ}:KO ks DI us An (E6 (yo kV) us) (ItemsAre AFJ ks us)
 | [],_,r=>by rw[Amx] at r;cases r;exact C7
 | k::ks,_,r=>by
  show Arz r;cases r with
  | AU h t=>exact .AU (VH h) (zuh t)
abbrev KT(H:Hp):Do dA AFX:=AOm fun p q=>BO6
theorem KT.val(A5S)(r:ABw)(k:DI):pI (jx Υ k) ((atKey xs k).map (·.2)):=by
 induction r with
 | DU=>exact AYd
 | @AU p q ps qs h t ih=>
  obtain⟨h1,_,h2⟩:=h;by_cases e:AK=k
  ·have e' :DD=k:=BYs;have b:APD AiW k=Β FL:=A'r
   rw[zwl e,b];exact h2
  ·have e' :¬DD=k:=DB Aji;have b:APD AiW k=APD qs k:=A'r
   rw[zyf e,b];exact ih
theorem KT.repl(A5S)(r:ABw)(k:DI){y:V}{u:AD}(ry:PU):
  KT H (AOf fun kv=>(BV0 y)) (JY (putAt k u)):=by
 induction r with
 | DU=>exact C7
 | @AU p q ps qs h t ih=>
  show BGZ (.AU ?_ ih);show AdG;unfold putAt;by_cases e:AK=k
  ·rw[As3,BFM];exact⟨h1,h2,ry⟩
  ·rw[As4,ASF Aji];exact⟨h1,h2,h3⟩
theorem KT.put(A5S)(r:ABw)(k:DI){b:Η}{y:V}{u:AD}(hb:Ae8)(ry:PU):
  KT H (AWD y) (storedH xs k b u):=by
 have e:Ag4=BFi:=by
  rw[zw1,(r.val k).lR,APF]
 unfold yn storedH;rw[e];by_cases q:BFi=Θ
 ·rw[WO,WO];exact r.repl k ry
 ·rw[c9,c9];exact Paired.snoc r ⟨Z,hb,ry⟩
theorem KT.keeps{H H' :Hp}{Υ:dA}{xs:AFX}(r:ABw)(ht:∀b ys,ZU Aed ->ARJ Aed):KT H' Υ xs:=
 Al2 r (MX z BOZ)
section
variable{P:A6}{w:AZ}{H:Hp}{h:AN}{a:Η}
theorem yk5{u:HO}(ok:eK)(e:Rd H a u):ī u:=e.ok ok
theorem M4{Υ:mS}(ok:eK)(e:Afl):A3K:=
 show ī SG from yk5 ok e
theorem Ny{Υ:mS}(ok:eK)(e:AGi):A3K:=M4 ok (.AV e)
theorem VJ{ks:DI}(ok:eK)(e:Th A_J):(AOn AFJ).is h ks a:=by
 obtain⟨_,AH,r,o,h1,h2,n,h3⟩:=(K_ (ī A_J) (ok a _ e));exact⟨o,Kj,n,h1,h2,h3,C9 (zuh r)⟩
theorem M5{Υ:dA}(ok:eK)(e:AUC):Abt (∃xs,ABw/\BDs w xs):=by
 obtain⟨z,y,xs,r,o,es,ep,v⟩:=(K_ (ī Ž) (yk5 ok e));refine⟨z,y,xs,r,o,es,ep,EN,nL,Db v,E8 v,DC x hx,GT v⟩;have all:KO l dA m AFX (KT H l m) (∀x∈m,(AOn AFJ).is h x.1 x.2.1):=by
  intro l m q;induction q with
  | DU=>intro x hx;exact nomatch hx
  | @AU p q ps qs hq t ih=>
   intro x hx;rcases MO hx with e | hx
   ·subst e;exact VJ ok (c_ hq.1 hq.2.1)
   ·exact ih x hx
 exact all r x hx
theorem yn6{Υ:dA}(ok:eK)(e:AeS):Abt (∃xs,ABw/\BDs w xs):=M5 ok (.AV e)
#where
def tE(H:Hp)(a:Η)(y:V)(r:WZ):Ι:=
 (∃Υ k,Afl/\y=kV k/\r=jx Υ k)\/∃Υ k b,AUC/\y= .AT b/\Ae8/\r=jx Υ k
def wV(H:Hp)(a:Η)(y v:V)(H' :Hp):Ι:=
 (∃Υ k,AGi/\y=kV k/\AfD/\H' =upd H a BES)\/
 ∃Υ k b,AeS/\y= .AT b/\Ae8/\AfD/\H' =upd H a BGX
theorem tE.k{H:Hp}{a:Η}{Υ:mS}{k:Key}(e:AGi):tE H a (kV k) (jx Υ k):= .AV ⟨Υ,k,.AV e,Z,Z⟩
theorem wV.k{H:Hp}{a:Η}{Υ:mS}{k:Key}{v:V}(e:AGi)(hl:AfD):wV H a (kV k) v (upd H a BES):= .AV ⟨Υ,k,e,Z,hl,Z⟩
theorem wV.t(Akr){Υ:dA}{k:DI}{v:V}(e:AeS)(eb:Ae8)(hl:AfD):
  wV H a AdZ v (upd H a BGX):= .CB ⟨Υ,k,b,e,Z,eb,hl,Z⟩
section
variable{X:Cx}{Μ:fB}{σ:St}{H:Hp}{s:AC}{a:Η}{y v:V}{u r:AD}{o:WZ}{A:B6}{E:fu}
theorem Inv.big(UR):PY A6N:=by
 have h:PY eQ:=(Ba2 I.bk).lt;exact Amy BF h
theorem z7d{Q:fu}(hu:AGv)(I:AW)(g:tE H a y cv)(ry:PU)(h:A1l (HK v w')):
  BLQ:=by
 rcases g with ⟨Υ,k,e,ey,l⟩ | ⟨Υ,k,b,e,ey,eb,l⟩
 ·subst ey;obtain⟨z,hd,vs,j⟩:=WJ M4;obtain⟨w',m⟩:=Ako (APB vs k) (B1 l ((j.1).val k))
  exact Bbf (VH ry) (j.2).mapOf m.1 (h w' _ ό m.2)
 ·subst ey;show AOG;show HA z hd xs n (WJ M5);show AQ w' t (Ako BMU (B1 l ((n.1).val k)))
  show PQ p q (ő FK) (BGb AkI n.2);rw[FL];exact h w' _ ό t.2
theorem abw{Q:fu}(hu:AGv)(I:AW)(g:ALJ H)(ry:PU)(h:A0M AYs):
  A4R .In:=by
 rcases g with ⟨Υ,k,e,ey,l⟩ | ⟨Υ,k,b,e,ey,eb,l⟩
 ·subst ey;obtain⟨z,hd,vs,p⟩:=WJ M4;refine BKo wpAny_in_of;rw[<- ((AK).val k).lR,<- l];exact ASI
 ·subst ey;show AOG;show AiA;refine ArU Bbh AkI;have q:=Av8;rw[APF] at q;rw[<- q,<- l];exact ASI
theorem yjw{Q:fu}(hu:AGv)(I:AW)(g:ALJ H)(ry:PU)(h:A0M (! AYs)):
  A4R mI:=by
 rcases g with ⟨Υ,k,e,ey,l⟩ | ⟨Υ,k,b,e,ey,eb,l⟩
 ·subst ey;obtain⟨z,hd,vs,p⟩:=WJ M4;refine BKo Bbi;rw[<- ((AK).val k).lR,<- l];exact ASI
 ·subst ey;show AOG;show AiA;refine ArU Bbj AkI;have q:=Av8;rw[APF] at q;rw[<- q,<- l];exact ASI
theorem ya1{h' :AN}{t' :Ζ}{ob:HO}(I:AW)(mu:Yh (H a))(hs:Aiw h')(he:BMp)(new:ADW (upd H a ob) h' a ob):
  AEM a ob AKb:=
 AmY (x:=a) (e:=a) mu sA (fun b q hb z=>MZ hs b hb z) he new
theorem ynb{P:A6}{w:AZ}{H' :Hp}{h' :AN}{Υ:mS}{vs:Au1}(z:AQm)(hd:AQv)(rel:ARF)(dd:h'.DictOf AFJ a vs):
  bV P w H' h' a SG:=⟨z,hd,vs,rel,dd⟩
theorem yap{H' :Hp}{Q:AAu}(hu:AGv)(I:AW)(g:wV H a y v H')(ry:PU)(rv:HK v r)(h:∀s',AG7 ->Q () s'):
  AEI (setItem EX u r):=by
 rcases g with ⟨Υ,k,e,ey,l,eH⟩ | ⟨Υ,k,b,e,ey,eb,l,eH⟩
 ·subst ey eH;obtain⟨z,hd,vs,rel,dd⟩:=WJ Ny;show GL hz AKx (Q_ rel.length z) hl (AGT (AWD v)) BQs (wpAny_setItem_pairs (hsz:=hz) (VH ry) dd BIz);have he:BMp:=let ⟨q,_,_,hq,_⟩:=QJ;⟨q,hq⟩;exact ya1 I Ayn hs he (ynb hl hd (rel.put k rv) QJ)
 ·subst ey eH;show AOG;obtain⟨z,hd,xs,rel,dd⟩:=WJ yn6;have hz:WN:=Q_ (Ban rel) z
  have hl:AGT (AWD v):=BQs
  refine wpAny_setItem_heap (hsz:=hz) Ao5 AkI dd BIz;obtain⟨q,es,ep,hq,h2,h3,h4,_,h5⟩:=QJ;refine ya1 I Ayn hs ⟨q,hq⟩ ⟨hl,hd,_,(rel.put k eb rv).keeps (A0 c ys ec),q,es,ep,hq,h2,h3,h4,h5⟩
  rw[dj (ynu ec e AZz)];exact ec
#where
section
variable{X:Cx}{Μ:fB}{σ:St}{H:Hp}{s:AC}{a:Η}{Υ:mS}{k:Key}{u:AD}{A:B6}{E:fu}
theorem ynz{Q:fu}(I:AW)(e:Afl)(h:∀t s',Aap ->Q (.AF xp t) s'):Aqi AH7 SY:=by
 show UK z hd vs (WJ M4);refine call_len_dict hd AI (by rw[<- ď];rw[AYb] at z;omega) ?_
 rw[<- ď];exact h _ _ ό
#where
def Ie(i:AG):Ι:=∀ov iv,A1o (Aml i Τ ov iv) [ov,iv] ov iv
theorem yb6{BA:A6}{w:AZ}{A:B6}{E:fu}{s:AC}{CL:Env}{FF ba:AG}{AB:AR}{T id:Ff}{Q:fu}
  (hl:BNr) (hs:Ie ba)
  (h:BGy (ABj FF) (BaC (ABj ba) (fun i U'=>s₂.TypeIs o T/\ABh (AO6 o i) U'))):
  NC (ABj (Í FF ba)):=by
 refine A7i (jp h (fun o GH h₁=>jp h₁ (A0 i U' h₂) Aij) Aij);obtain⟨hT,h₂⟩:=h₂;refine PR;rw[getitemInPython_of_ne hT.not_modules];refine ZI Bbk hT hl;have C8:MS BA w A (Aml ba Τ o i) (fun r Œ=>(ABh (letTemporaryGo FF o r>>=Id (IC r)) Œ)) E U':=B1 (hs o i) (wpAny_operating (jp h₂ (fun r Œ h₃=>z6 (wpAny_letTemporaryGo (z7 h₃))) Aij))
 first
  | exact z7 (z6 C8)
  | exact z6 (z7 (z6 C8))
  | exact z6 C8
theorem z2q(BQP){s:AC}{a:Η}{y:V}{o:WZ}(I:AW)(g:ALJ H):BH9 :=by
 rcases g with ⟨Υ,k,e,_,_⟩ | ⟨Υ,k,b,e,_,_,_⟩
 ·obtain⟨_,_,vs,v⟩:=WJ M4;exact (v.2).AIj
 ·obtain⟨_,_,xs,w⟩:=WJ M5;exact (D5).AIj
def YH(td ty:TE):TE:=ž td (l_ ty y (∃a v,g6/\tE H2 a y cv/\Aaw))
def abx(ty td:TE):TE:=BN4 AYs
def yjm(ty td:TE):TE:=BN4 (! AYs)
def YJ(td ty tv:TE):TS:=fun D σ H=>tv σ H (fc v (l_ td x (ty σ H2 fun y H3=>∃a H4,g6/\wV H3 a y v H4/\LZ σ H4)))
section
variable{X:Cx}{o i e FF:AG}{AB IU tpos:AR}{td ty tv:TE}
theorem yaw(BUU):PE X (Í o i) (YH td ty):=by
 show Eg Q;refine yb6 A7x hs A_5;show AS4 x rx BIk;obtain⟨y,H2,I2,ry,a,v,ex,g,q2⟩:=hz2;subst ex;show uA;exact⟨z2q I2 g,z7d hu I2 g ry BNt⟩
theorem yki(BSv):PC X .In i o (abx ty td):=by
 show Eg Q;refine AMQ hi (WG iv);show AS4 y ry Aj7;obtain⟨x,H2,I2,rx,a,ov,ex,g,q2⟩:=hz2;subst ex;show uA;exact abw hu I2 g ry (A2w (.bl ov.isSome))
theorem zz8(BSv):PC X mI i o (yjm ty td):=by
 show Eg Q;refine AMQ hi (WG iv);show AS4 y ry Aj7;obtain⟨x,H2,I2,rx,a,ov,ex,g,q2⟩:=hz2;subst ex;show uA;exact yjw hu I2 g ry (A2w (.bl (! ov.isSome)))
theorem YK(hu:UC)(ho:AR1)(hi:Abq)(hv:BDP)(hs:AM' o i):
  Af' (wt o i) FF (YJ td ty tv):=by
 show Eg D;refine AbG wpAny_Assign_Subscript (zg hv) r;obtain⟨v,H1,I1,rv,q1⟩:=Cb;refine Aj7;obtain⟨x,H2,I2,rx,q2⟩:=hz2;refine cM (hi Μ s2 σ H2 _ I2 q2) (A0 iv s3 hz3);obtain⟨y,H3,I3,ry,a,H4,ex,g,q3⟩:=hz3;subst ex;show uA;exact yap hu I3 g ry rv fun s4 I4=>⟨σ,H4,I4,q3⟩
#where
theorem yfy(BMk):BK' (.dK []):=
 ⟨aS,BPN,[],C7,Heap.DictOf.new h⟩
theorem yd5(BMk):BK' (.dT []):=
 ⟨aS,BPN,[],C7,_,#[],0,P9,Me Z Z,Z,Z,Bbl⟩
def S6:TE:=BG2 dK
def S7:TE:=BG2 dT
section
variable{X:Cx}{AB:AR}
theorem ye6:Ϫ Dict [] [] S6:=A4z (Bbm (AAQ (A3f AIa B2 (.dK []) (At7) JI (yfy A7 I.big)) (h _ AFs)))
theorem yco:Ϫ Dict [] [] S7:=A4z (Bbm (AAQ (A3f AIa B2 (.dT []) (At7) JI (yd5 A7 I.big)) (h _ AFs)))
#where
structure M2 (X:Cx) (o:AG) (m:Ξ) (Ic:AR) (e f:AG) (G1:AR):Ι where
 B9:ac o m o=EW o
 few:LN (ABM [e,f] all (! x.1)&&ACH) (ACI ([e,f]:CY) 30)
 line:AZw
 trees:backTo G1 (A6w [e,f] Be)= [Abs e,Abs f]
def IsD(H:Hp)(a:Η):Ι:=(∃Υ,Afl)\/∃Υ,AUC
theorem YL(BUw a Η)(I:AW)(d:IsD H a):
  BH9 /\ (NA (ATf= .AT b) (∃ob,ApR/\ob.dict=Ε))/\ AQv:=by
 rcases d with ⟨Υ,e⟩ | ⟨Υ,e⟩
 ·obtain⟨_,hd,vs,p⟩:=WJ M4;refine⟨(BS).AIj,Agr,hd⟩;cases q;obtain⟨ob,_,_,v⟩:=BS;exact⟨ob,EN,nL.2.1⟩
 ·obtain⟨_,hd,xs,w⟩:=WJ M5;refine⟨(D5).AIj,Agr,hd⟩;cases q;obtain⟨ob,_,_,y⟩:=D5;exact⟨ob,Ν,A3.2.1⟩
section
variable{X:Cx}{Μ:fB}{σ:St}{H:Hp}{s:AC}{a:Η}{y d:V}{u r:AD}{o:WZ}{A:B6}{E:fu}
theorem ykt{Q:fu}(hu:AGv)(I:AW)(g:ALJ H)(ry:PU)(rd:HK d r)(h:A1l (HK (o.getD d) w')):
  Aqi "dict.get" [D8,u,r]:=by
 rcases g with ⟨Υ,k,e,ey,l⟩ | ⟨Υ,k,b,e,ey,eb,l⟩
 ·subst ey;obtain⟨z,hd,vs,p⟩:=WJ M4;refine Amz A7y (BS).AIj Bbn A_G (meets_dict_get_default AJ3 a (VH ry) hd r) (EV (BS).mapOf (h _ _ ό ?_));rw[l];exact((AK).val k).Pw rd
 ·subst ey;show AOG;show AiA;refine Amz A7y (v.2).AIj Bbn A_G (meetsH_dict_get_default (AOn (rA EA X.w)) a b hd r) ⟨Bbg hu,k,xs,VJ IB eb,v.2,h _ _ ό ?_⟩;rw[l];exact((v.1).val k).Pw rd
#where
def S8(td ty tx:TE):TE:=ž td (∃a,g6/\IsD H1 a/\l_ ty y (tx σ H2 fun z H3=>∃o,ALJ H3/\Q (o.getD z) H3))
section
variable{X:Cx}{o e f:AG}{Ic G1:AR}{td ty tx:TE}
theorem yc2(hu:UC)(ho:AR1)(he:PE X e ty)(hf:PE X f tx)(m:BUJ):PE X (ARO "get" [e,f]) (S8 td ty tx):=by
 show Eg Q;refine wpAny_Call_method m.base m.few m.line A7z A7y PySem.F.type_dict_get (ASV (AEU aby));obtain⟨x,H1,I1,rx,a,ex,d,q1⟩:=aby;subst ex;show uA;obtain w:=YL I1 d;refine E3 BE EM;rw[m.trees];refine BaG (A7t (Amb (cM (á he) fun iv s2 (Ahz ry)=>
  Amb (cM (hf Μ s2 σ H2 _ I2 q2) fun fv s3 ⟨z,H3,I3,rz,ov,g,q3⟩=>Aej))))
 exact ykt hu I3 g ry rz fun w' s4 I4 M6 =>⟨_,H3,I4,M6,q3⟩
#where
#print L2
namespace Att
open H_ AHy Alb IR
theorem ztk{P:Params}{h:AN}:∀(ns:F9) (vs:An),WellAll P h vs (N3 WData.int) ->AVv:=by
 intro ns;induction ns with
 | DU=>
  intro vs w;rw[Amx] at w;cases w;exact C7
 | AU n ns ih=>
  intro vs w;show Arz w;cases w with
  | AU a b=>
   cases a;exact Ae' (ih _ b)
theorem z8d{l:AYv}{n:Ζ}(hn:AyV){P:Params}{h:AN}{Fc:D9 WData}{HM:An}
  (hpre:l.row.toRowW.claim.pre Fc=Θ) (hwl:WellAll P h HM Fc):
  ∃a vs ns,HM= [ATf]/\Fc= [WData.list (N3 WData.int)]/\cE AcX/\AVv/\AfV:=by
 have hsh:WShape.hasAll [] Fc [.list fi]=Θ:=(pre_splitW hpre).1;have hc:l.pre.holds [] {Fc:=Fc}=Θ:=(pre_splitW hpre).2;show HA d r Z y (hasAllW_cons hsh);show ND (hasAllW_nil AI);show P8 xs Z h3 hasW_list Ν;show ť ns (items_int h3);have Fr:AfV:=by
  have h4:(WTm.not (.lt (.lit (.AF cr)) (.len (.arg 0)))).holds [] {Fc:= [.list ANa]}=Θ:=by
   have h4:=(holds_andW hc).1;rw[hn] at h4;exact h4
  have h5:=condW_of h4 (w_not (w_lt w_lit (w_len_list (w_arg Z))));show AaK h5;refine Nat.le_of_not_lt fun q=> ?_;have q' :cr< LF J_:=L7
  first
   | (rw[APA q'] at h5;exact Iy h5 BF)
   | (simp at h5;omega)
 cases hwl with
 | AU w1 w2=>
  cases w2;cases w1 with
  | list ho hall=>exact⟨_,_,ns,Z,Z,ho,ztk ns _ hall,Fr⟩
theorem z8z(l:AYv)(Fc:D9 WData):l.row.toRowW.claim.post Fc Afg Fc=Θ:=
 postW_of (r:=Am1) (X:=BAZ)
  (show WShape.has [] Afg .js=Θ by first | rfl | decide | simp [WShape.has,WShape.arms,WShape.armsAll])
  (K_ ((WTm.eq .res (.lit (.js Θ))).FF [] {Fc:=Fc,res:=E2 js Θ,after:=Fc}=Β (Ë BAZ)) (w_eq_bool (w_res Z) w_lit)) Z
theorem CZ{l:AYv}{n:Ζ}{q:A6}{RS:AA}{XP:AQ1 (DT)}{YP:AQ1 AZ}{d:Ald}
  (hn:AyV) (hdf:A_N)
  (kA:∀(w:AZ) (Jn GH:AC) (mg mb:DT) (fa:Η) (o:Obj) (pm cd doc:AD) (a:Η) (vs:An) (ns:F9),
   Ground q RS [] XP w Jn mg mb œ ->YP w œ ->
   BQ (A7_ fa=Β o) (i4= .func (docDef d.name d.params d.body d.scope pm cd doc)) (s₁.heap.CodeRec cd d.name) BAa (BQ BC' AVv AfV A__ (AAS AIm AYw AqH ASA BX4 GH))):
  BJp:=by
 intro w Jn GH mg mb G Y fa o pm cd doc dV kV ho hd hcd hD hmg hg Fc HM as hpre hlay hrd hwl hlo;show E7 (dV= CI) (Dflts.none hD hdf);show E7 (kV= CI) (Dflts.noKw hD);show ą a vs ns Z v (z8d hn hpre hwl);refine Aow enter_call (kA w Jn GH mg mb fa o pm cd doc a vs ns G Y ho (fd_plain hd) hcd hmg EN nL Sk hg);show DO Z y hq ⟨.AV ⟨AUW,AUW,[],Z,Adc,AUW,z8z l _,Id ⟨Bbo,MY hm (nomatch hm)⟩⟩,Ν,A3,CO⟩
section
variable{BA:A6}{w:AZ}{A:B6}{E:fu}{s:AC}{K:FR}
#where
#print Att
namespace L2
open H_ Nl IR
theorem YM:KO vs An ns F9 AVv (E6 (N3 V.int) vs)
 | _,_,C7=> C7
 | _,_,.AU n t h=> .AU mm (YM h)
def Only(H:Hp):Ι:=∀b,NG\/∃o xs,ZU (.frz o sx)
theorem yff{P:A6}{w:AZ}{K:Φ}{mg mb:DT}{CX:MP}{k:Ζ}{fa a:Η}{fd:ET}{x:Ξ}{sp:Sp}{GH:AC}{vs:An}{ns:F9}
  (KX:K.In œ) (hns:AaV A8G) (hb:A8G Al7 mb) (hbb:BO5) (hlim:s₁.heap.NoLimit) (hg:A__)
  (ha:BC') (hi:AVv) (hl:BYl) (hr:BZE)
  (F:BR6 (fY P w K mg B9 CX k fa fd [x] sp)) (hbind:BJF)
  (hsp:∀H:Hp,Only H ->Aj4 ->sp SY H Ay0 dc)
  (hCX:∀H e s',CX [] H GH (dc) e s' ->D6):
  BSN:=by
 have rv:=YM hi;have lenV:=hi.length
 
 have core:∀H:Hp,Only H ->JJ Aj4 (pQ P w H œ) (NA (H b≠Ε) (b=a)) (H a≠Ε ->Y3 i3) BSN:=by
  intro H hO hS hok hA hK;have Hg:∀{b:Η} {o:Obj},BYu ->NG ->AL2 Bt œ H:=fun e n=>ye3 e n;show D1 Yz (∀{b:Η} {o:Obj} {es:ATP} {ep:Ζ},BYu ->Avb ->NG) (fun{b o es ep} e d=>by
   cases q:H b with
   | Ε=>rfl
   | Β u=>
    have e' :b=a:=BC_
    subst e';rw[ha] at e;cases e;have d' :Data.seq kD _=Data.dict es ep:=d;cases d') nsK (KO b Η m DT (A8G b m) ((Bt œ H).Ns b m)) (fun{b m} YQ=>by obtain⟨o,es,ep,t⟩:=YQ;exact⟨o,es,ep,Hg FK (Yz FK ALn),ALn,t.2.2⟩) hKb (K.In (Bt œ H)) (Tl (Hg (gN KX) (by
   cases q:H b with
   | Ε=>rfl
   | Β u=>
    have e' :b=a:=BC_
    subst e';rw[hK (Afo q)] at e;cases e))) hM (Mod K mg BEQ) ⟨hKb,nsK hns,⟨mb,nsK hb,hbb⟩,let ⟨mc,h1,h2⟩:=hlim;⟨mc,nsK h1,h2⟩⟩;have e0:CW P w K mg BEQ AYw [] GH H:=⟨Z,hM,Tl (yjv e),AO4 (z9j _ _),N2,EB (A0V hb),hok,.of_eq hg⟩
  refine ACm ((F _ hKb (nsK hns)).run AYw [] GH H ASA SY SY _ _ hr e0 (hbind GH EX) AwA (hsp H hO hS)) (A0 r s' h);cases r with
  | YN e=>exact(hCX H e s' h).SB
  | ok fl=>
   cases fl with
   | MG=>show AU9
   | brk=>show AU9
   | No=>show AU9
   | DM u=>
    show ADz v H' g;have q:=ZY g;have q' :v= .bl Θ:=q;subst q';show E7 (u=ACX Θ) Ė;refine⟨Z,OldK.of_keep ATg,CC,NU⟩;cases q:H b with
    | Ε=>exact (iX).IA b o e q (by intro z;exact A0V z) BN
    | Β u=>
     rcases hO b with z | ⟨ob,xs,z⟩
     ·rw[q] at z;cases z
     ·have z2:=(iX).nF b ob _ z;obtain p:=hok b _ z;have e1:=AK;show EG (wE b _ z2);rw[e] at e1;cases e1;exact Ν
 cases hk:Aei with
 | Β o=>
  
  have e:=KX a o hk;rw[ha] at e;cases e;refine core ALo (Cn ADw) (O0 ⟨_,kD,_,hk,Z,Z,Z,ss SD lenV hl,C9 rv⟩) (fun b u z=>(BK4 (zr (Ε:G_ HO)))) (fun b z=>(AML z)) (DB (AML z))
 | Ε=>
  refine core (sw (z_ b a (OA frz AcX (OB N3 V.int)) Ε)) (sw ?_) (.AV (.CB ⟨AcX,My⟩)) (zn u z) (fun b z=> ?_) (Id hk)
  ·by_cases hb:b=a
   ·exact .CB (EV _ Ad9)
   ·exact .AV (Ps hb)
  ·by_cases hb:b=a
   ·have z' :=BIN M1;cases z';subst hb;exact⟨ha,AsR hl,vs,_,rv,ha⟩
   ·have z' :=BIN Ps;cases z'
  ·by_cases hb:b=a
   ·exact hb
   ·exact Ϩ Ps hb z
abbrev E0:XK:=dc
structure dW (BNF) (st:AM) (f:Η) (fd:ET):Ι where
 ex:∃(oc:AD) (od:NM) (kV doc pm:AD) (an:NM) (cdv ct:AD) (osl:va),
  fd=Amg x D_ AFW Ó kz CI kV doc pm an cdv ct/\AjN (.func fd) osl/\A1T
 kp:AKo
section
variable{P:A6}{w:AZ}{K:Φ}{mg:DT}{B9:AN}
theorem dW.binds(ABm){st:AM}{f:Η}{fd:ET}{ps:AA}(F:Aw3)
  (h:BUh us An (pb=YO ->BIo (Amg x D_ AFW Ó kz CI kV doc pm an cdv ct))):AQY:=by
 show AHw y F.ex;exact .all (h kV doc pm an cdv ct)
#where
def Kt(H H' :Hp):Ι:=Ŷ H (MW H')
theorem Same.refl(H:Hp):č H:=Avj
theorem Same.trans{H H1 H2:Hp}(a:Awf)(b:Kt H1 H2):Kt H H2:=fun c o h=>b c o (a c o h)
theorem Same.free{H H' :Hp}(e:AT9){l:Η}(h:H' l=Option.none):H l=Option.none:=by
 cases q:H l with
 | Ε=>rfl
 | Β o=>
  rw[e l o q] at h;cases h
theorem Same.seq{K:Φ}{H H' :Hp}{a:Η}{xs:AL}(e:AT9)(h:ô):nG K H' a xs:=by
 show AdQ h h h h
 ·exact AN2 e h
 ·exact AiZ (e _ _ h)
 ·exact ALv
#print L2
namespace L3
open H_ Nl IR L2
abbrev St:=L2.St
inductive D where
 | non | bl (b:AO) | AF (i:BI) | Ψ (x:Ξ) | BM (xs:AJ) | A8 (xs:AJ) | exc (C:Η) | ptr (a:Η)
 | DJ (C:Η) (fs:AA) (xs:AJ) | eN (ks:DI) (xs:AJ) | jA (ks:al) (xs:AJ) | vH (ks:DI) (xs:AJ)
def wW(a C:Η):HO:= .ext (gu (∃o vs,af/\AM8/\Aco/\ (Ay7 o.dict)))
inductive IsT (BR9):Ι
 | mk:BIq (ur K F a vs) (IsT K F R v)
inductive YS (BR9):Ι
 | mk:BIq Aq' (YS K F R v)
inductive YT (F:Hp) (C:Η) (fs:AA) (R:ARm) (v:V):Ι
 | mk:∀a dx vs,BQ NI (AAH BV9) ė (R vs) (YT F C fs R v)
inductive YW (BBz):Ι
 | mk:∀a vs,A1c (AAH Ç) YW
inductive YX (F:Hp) (ks:al) (R:ARm) (v:V):Ι
 | mk:∀a vs,A1c (Rd F a BAv) YX
inductive YZ (BBz):Ι
 | mk:∀a o vs,A1c (AAH AcQ) YZ
inductive IsC (P:GI V) (R:ARm) (vs:AL):Ι
 | mk:∀v r,vs=v::r ->P v ->R r ->IsC P R vs
mutual
def Rep(K:Φ)(F:Hp):Do D V
 | BC,v=>v= BC
 | d4,v=>v= .bl b
 | E5,v=>v= .AF i
 | dS,v=>v= .Ψ x
 | dy,v=>IsT K F AHp v
 | AAo,v=>YS K F AHp v
 | AgI,v=>∃a o,NI/\AAH (.frz o (wW a C))
 | .ptr a,v=>NI
 | Aet,v=>YT F C fs AHp v
 | r8 ds,v=>YW F ks AHp v
 | sN ds,v=>YX F ks AHp v
 | .vH ks ds,v=>YZ F ks AHp v
def aM(K:Φ)(F:Hp):Do AJ AL
 | [],vs=>vs= []
 | So,vs=>IsC (Rep K F d) AHp vs
end
theorem sW{K:Φ}{H H' :Hp}{a:Η}{xs:AL}(e:AT9)(h:ABK):ur K H' a xs:=by
 show AdQ h h h h
 ·exact AN2 e h
 ·exact AiZ (e _ _ h)
 ·exact ALv
theorem JF{F H:Hp}{a:Η}{u:HO}(s:PZ)(r:Rd F a u):Rd H a u:=by
 rcases r with r | ⟨o,r⟩
 ·exact .AV (s _ _ r)
 ·exact aI o (s _ _ r)
mutual
theorem zwy(A'F):∀(d:D) (v:V),NL ->h_
 | BC,_,h=>Nc
 | ST,_,h=>Nc
 | UN,_,h=>Nc
 | We,_,h=>Nc
 | dy,_,h=>by
  show Ajn;exact⟨a,vs,h0,sW e h1,AbI h2⟩
 | AAo,_,h=>by
  show Ajn;exact⟨a,vs,h0,e.seq h1,AbI h2⟩
 | Č,_,h=>Nc
 | AgI,_,h=>dP a o h ⟨a,o,Ν,e _ _ AI⟩
 | Aet,_,h=>by
  obtain⟨a,dx,vs,h0,h1,h3,h4⟩:=h;exact⟨a,dx,vs,h0,At1,h3,Ag5⟩
 | r8 ds,_,h=>by
  obtain⟨a,vs,h0,h1,h3,h4⟩:=h;exact⟨a,vs,h0,At1,h3,Ag5⟩
 | sN ds,_,h=>by
  obtain⟨a,vs,h0,h1,h3,h4⟩:=h;exact⟨a,vs,h0,JF e h1,h3,Ag5⟩
 | .vH ks ds,_,h=>by
  obtain⟨a,o,vs,h0,h1,h3,h4⟩:=h;exact⟨a,o,vs,h0,At1,h3,Ag5⟩
theorem QK(A'F):∀(ds:AJ) (vs:AL),LM ->AFN
 | [],_,h=>Nc
 | So,_,h=>by
  obtain⟨v,r,h0,h1,h2⟩:=h;exact⟨v,r,h0,zwy e d v h1,QK e ds r h2⟩
end
theorem Rep.up(BQK)(h:NL)(e:F6):h_:=zwy e d v h
theorem aM.up{K:Φ}{F F' :Hp}{ds:AJ}{vs:AL}(h:LM)(e:F6):AFN:=AbI h
theorem lY(MC):A3M (y7 MR)
 | [],_,h=>by show BD aM;subst h;rfl
 | EH,_,h=>by
  show BD aM;obtain⟨v,r,Z,_,h2⟩:=h;simp only [IY,lY h2]
theorem zm(MC):∀{ds:AJ} {vs:AL} {i:Ζ} {d:D},LM ->AxB ->∃v,AMn/\NL
 | [],_,_,_,_,e=>AMu
 | EH,_,0,_,h,e=>by
  show AFc v r h1 h;simp at e;subst e;exact AAz h1
 | EH,_,i+1,d,h,e=>by
  obtain⟨v,r,Z,_,h2⟩:=h;show DO u y (uv zm h2 AL3) Azp
theorem z0f(MC):∀{ds:AJ} {vs:AL} {i:Ζ} {v:V},LM ->AMn ->∃d,AxB/\NL
 | [],_,_,_,h,e=>by subst h;simp at e
 | d::_,_,0,_,h,e=>by
  show AFc v r h1 h;simp at e;subst e;exact Me d h1
 | EH,_,i+1,v,h,e=>by
  obtain⟨v',r,Z,_,h2⟩:=h;show DO u y (uv z0f h2 AL3) Azp
theorem J3(MC):∀{ds es:AJ} {vs us:AL},LM ->AxK ->Lo (ds++es) (vs++us)
 | [],_,_,_,h,k=>Ar_ k
 | EH,_,_,_,h,k=>by
  show Akd v;exact gv v h1 (J3 h2 k)
theorem M7(Aj')(h:NL):Lo EK [v]:=Fu ⟨v,[],Z,h,SW⟩
theorem rD(MC){d:D}{v:V}{ds:AJ}{vs:AL}(h:NL)(k:LM):Lo (d::ds) (v::vs):=Fu (lL v h k)
theorem zuk(MC):BTX ds.take vs.take
 | _,_,0,_=>ATQ
 | [],_,_+1,h=>AjO
 | EH,_,n+1,h=>by
  show Akd u;exact rD h1 (zuk n h2)
theorem zsr(MC):BTX ds.drop vs.drop
 | _,_,0,h=>h
 | [],_,_+1,h=>AjO
 | EH,_,n+1,h=>by
  show Akd u;exact zsr n h2
def Bw(H:Hp)(b:Η)(o:HO):Ι:=NG\/ (∃xs,o= .BM xs)/\MW H
theorem Am3(s:Awf)(h:Bw H1 b o):Bw H b o:=by
 rcases h with h | ⟨⟨xs,e⟩,h⟩
 ·exact .AV (s.free h)
 ·cases q:H b with
  | Ε=>exact Ads
  | Β u=>
   show AUm (s _ _ q) h (aI ⟨xs,e⟩ q)
structure Gr (F H F' H' :Hp):Ι where
 f:F6
 g:AJg F'
 h:AT9
 n:ge (MW F') sB (Bw H b o)
theorem AYx(h:PZ):Gr F H F H:=AEy h r_
theorem Gr.trans(a:Gr F H F1 H1)(b:Gr F1 H1 F2 H2):Gr F H F2 H2:=by
 refine⟨a.f.trans b.f,b.g,a.h.trans b.h,NH c o e n⟩;cases q:F1 c with
 | Ε=>exact Am3 a.h (b.n c o e q)
 | Β u=>show AUn (b.f _ _ q) (a.n c _ q n)
theorem AIn(h:PZ)(hp:Aew):Gr F H (ACn F p o) (AEQ p o):=by
 refine⟨L9,L9,L9,ArS⟩
 ·rw[AKJ h hp];exact e
 ·by_cases hb:b=p
  ·subst hb;show uu j4;exact e
  ·show uu ð;exact h b u e
 ·show AFk hp e
 ·by_cases hb:b=p
  ·show Mo hb (.AV hp)
  ·rw[ð,n] at e;cases e
inductive T where
 | SE (d:D) | A8 (ts:Ev) | eN (ks:Ar6) (ts:Ev) | jA (ks:AZx L2.Key) (ts:Ev) | ob (BJV) | kt (k:Ar6)
def j6:Key ->D | ALu=> E5 | lr=> dS
def zp(fs:AA):AO:= !(Κ (fs= [(XX :Ξ)]))
inductive TrL (H:Hp) (R:AVN) (v:V) (as:BH):Ι
 | mk:∀a vs bs,BQ NI (as=ύ) AMJ (R vs bs) (TrL H R v as)
inductive TrK (H:Hp) (ks:Ar6) (R:AVN) (v:V) (as:BH):Ι
 | mk:BUA (Th Ç) (TrK H ks R v as)
inductive TrT (H:Hp) (ks:AZx L2.Key) (R:AVN) (v:V) (as:BH):Ι
 | mk:BUA (Th BAv) (TrT H ks R v as)
inductive TrO (H:Hp) (C:Η) (fs:AA) (R:AVN) (v:V) (as:BH):Ι
 | mk:∀a dx vs bs,NI ->as=AG4 ->AeT ->BQ Axn ė (zp fs=Θ) (R vs bs) (TrO H C fs R v as)
inductive TrC (P:Do V BH) (R:AVN) (vs:AL) (as:BH):Ι
 | mk:∀v us bs cs,BQ (vs=v::us) (as=bs++cs) (P v bs) (R us cs) (TrC P R vs as)
mutual
def TR(A3L):T ->Do V BH
 | NY,v,as=>as= []/\NL
 | Wp,v,as=>TrL H AWM v as
 | eB,v,as=>TrK H ks AWM v as
 | ě,v,as=>TrT H ks AWM v as
 | Ģ,v,as=>TrO H C fs AWM v as
 | .kt k,v,as=>as= []/\∃a,NI/\AAH BV5
def fO(A3L):Ev ->Do AL BH
 | [],vs,as=>vs= []/\as= []
 | RI,vs,as=>TrC (TR K F H t) AWM vs as
end
section
variable{K:Φ}{F H F' H' :Hp}
mutual
theorem AIo(f:F6):A5J Acn (ly t v as)
 | NY,v,as,k,h=>Fu ⟨AS,Azr⟩
 | Wp,v,as,k,h=>by
  obtain⟨a,vs,bs,e1,Z,e3,h⟩:=h;exact⟨a,vs,bs,e1,Z,AOH,AvI⟩
 | eB,v,as,k,h=>by
  show AOZ;exact⟨a,vs,bs,e1,Z,AOH,e4,AvI⟩
 | ě,v,as,k,h=>by
  show AOZ;exact⟨a,vs,bs,e1,Z,AOH,e4,AvI⟩
 | Ģ,v,as,k,h=>by
  obtain⟨a,dx,vs,bs,e1,Z,e3,e4,e5,e6,h⟩:=h;exact⟨a,dx,vs,bs,e1,Z,AOH,k dx (zX _ zY) _ e4,e5,e6,AJ0 p9 AWY⟩
 | nX,v,as,k,h=>dP e a h ⟨e,a,Ν,f _ _ AI⟩
theorem p9(f:F6):A5K Acn (Ahn ts as)
 | [],vs,as,k,h=>Nc
 | RI,vs,as,k,h=>by
  show AiK;exact⟨v,us,bs,cs,e1,Z,A3k AIo,A4i p9⟩
end
def LD(u:HO):Ι:=(∃vs,u= .A8 vs)\/ (∃Υ,u= .dK Υ)\/ (∃Υ,u= .dT Υ)\/ (∃C dx kvs,u= .ins C dx kvs/\zp (kvs.map (·.1))=true)\/∃a,u= .C4 a
theorem z4n:Abv fs AA ė ((VC vs).B_ (·.1)=fs)
 | [],_,_=>Z
 | EH,[],h=>EQ
 | w8,AMm,h=>BLP z4n
theorem LD.tup(h:LD Z_):D6:=BTn
theorem LD.frz(h:LD Ϯ):D6:=BTn
theorem LD.ins(h:LD (AaI Υ)):zp (kvs.map (·.1))=Θ:=by
 rcases h with ⟨_,z⟩ | ⟨_,z⟩ | ⟨_,z⟩ | ⟨_,_,_,z,q⟩ | ⟨_,z⟩<;>cases z
 exact q
mutual
theorem AYy:BSJ (∀a∈as,AG6 AJp)
 | NY,v,as,h,a,ha=>Ac7 AS
 | Wp,v,as,h,a,ha=>by
  obtain⟨b,vs,bs,e1,Z,e3,h⟩:=h;show AlL (EV e3 (.AV LG))
 | eB,v,as,h,a,ha=>by
  obtain⟨b,vs,bs,e1,Z,e3,_,h⟩:=h;show AlL (EV e3 (AAi LG))
 | ě,v,as,h,a,ha=>by
  obtain⟨b,vs,bs,e1,Z,e3,_,h⟩:=h;show AlL (EV e3 (ALw LG))
 | Ģ,v,as,h,a,ha=>by
  obtain⟨b,dx,vs,bs,e1,Z,e3,e4,e5,e6,h⟩:=h;rcases MO ha with Z | ha
  ·exact EV e3 (tm (AJv (PF _ _ (k8 z4n e5 e6))))
  ·show AlL (EV e4 (tm (ARw LG)))
 | nX,v,as,h,a,ha=>Ac7 AS
theorem APG:BSK (∀a∈as,AG6 AJp)
 | [],vs,as,h,a,ha=>Ac7 Au
 | RI,vs,as,h,a,ha=>by
  show AiK;show OF (ph ha) ha ha (AYy t v bs h1 a ha) (APG ts us cs h2 a ha)
end
#where
mutual
def toD:T ->D
 | NY=>d
 | Wp=> .A8 AFO
 | eB=> r8 AFO
 | ě=> sN AFO
 | Ģ=> .DJ C fs AFO
 | .kt k=> .BM Awa
def uG:Ev ->AJ
 | []=> []
 | RI=>toD t::uG ts
end
theorem Y0(MC):∀ks:DI,Lo (yo j6) (yo kV)
 | []=>SW
 | ALu::ks=>AHh Y0 ks
 | lr::ks=>AHh Y0 ks
section
variable{K:Φ}{F H F' :Hp}
mutual
theorem AYz(f:F6):A5J (Aau Afp) (Rep K F' ATw v)
 | NY,v,as,k,h=>Fu Azr
 | Wp,v,as,k,h=>by
  obtain⟨a,vs,bs,e1,Z,e3,h⟩:=h;exact⟨a,vs,e1,lI BNE,AvJ⟩
 | eB,v,as,k,h=>by
  show AOZ;exact⟨a,vs,e1,AOH,e4,AvJ⟩
 | ě,v,as,k,h=>by
  show AOZ;exact⟨a,vs,e1,.AV BNE,e4,AvJ⟩
 | Ģ,v,as,k,h=>by
  obtain⟨a,dx,vs,bs,e1,Z,e3,e4,e5,e6,h⟩:=h;exact⟨a,dx,vs,e1,AOH,e5,AJ0 AIp AWY⟩
 | .kt k,v,as,_,h=>by
  show ALg a h;exact⟨a,_,Ν,AN2 f AI,Y0 k⟩
theorem AIp(f:F6):A5K (Aau Afp) (AJl AFO)
 | [],vs,as,k,h=>Fu AS
 | RI,vs,as,k,h=>by
  show AiK;exact⟨v,us,e1,A3k AYz,A4i AIp⟩
end
#where
inductive OY where
 | no | pu (d:D) | ow (ANk) | tr (A1Q) | nt (as:BH) (ts:Ev) | xe (as:BH) (C:Η) (fs:AA) (ts:Ev)
inductive SlO (K:Φ) (F H H0:Hp) (ds:AJ) (o:WZ):Ι
 | mk:∀a vs,AKv o ->BQ AMJ AGq vE LM BGR
inductive SlT (K:Φ) (F H H0:Hp) (as:BH) (t:T) (o:WZ):Ι
 | mk:∀v,BQ (gi o) Ŕ Ah_ Ϥ BHz
inductive SlN (K:Φ) (F H H0:Hp) (as:BH) (ts:Ev) (o:WZ):Ι
 | mk:∀p vs,o=Β (B0 p) ->BQ (F p=Β (.BM vs)) Ŕ Ah_ Ϡ BH0
inductive SlX (K:Φ) (F H H0:Hp) (as:BH) (C:Η) (fs:AA) (ts:Ev) (o:WZ):Ι
 | mk:∀a oe dx vs,BQ (AKv o) (AAH Aon) (AY0=Β dx) (F dx=Β BKE) (BQ ė Ŕ Ah_ Ϡ BSP)
def rE(K:Φ)(F H H0:Hp):Do OY WZ
 | C3,_=>IS
 | .pu d,o=>Axj o
 | AVL,o=>BGR
 | .tr as t,o=>BHz
 | .nt as ts,o=>BH0
 | .xe as C fs ts,o=>BSP
def gR:OY ->Do WZ Η
 | .ow _,o,a=>AKv o
 | .tr as _,_,a=>AhV
 | .nt as _,_,a=>AhV
 | .xe as _ _ _,_,a=>AhV
 | _,_,_=>D6
inductive o8 (Γ:Ć) (σ:St) (i:Ζ) (a:Η):Ι
 | mk:∀s o,AUI ->ABL ->õ ->AVX i
structure SR (BRz) (σ:St) (Γ:Ć):Ι where
 gr:Akx
 len:AYK=AY1
 sl:∀(i:Ζ) s,AUI ->∃o,ABL/\AWI
 ap:∀(i j:Ζ) a,AVX i ->AVX j ->i=j
section
variable{K:Φ}{F0 H0 F H F' H' :Hp}{σ:St}{Γ:Ć}
theorem SR.g(R:FB):PZ:=R.gr.g
theorem Fq(r:AWI)(h:õ):AGq/\vE/\AG6 AJp:=by
 cases s with
 | no=>show LS
 | pu d=>show LS
 | ow ds=>obtain⟨b,vs,Z,h1,h2,h3,_⟩:=r;cases h;exact⟨h2,h3,_,h1,.AV LG⟩
 | tr as t=>obtain⟨v,_,_,h2,h3⟩:=r;exact⟨AN5.1,AN5.2,AYy t v as h3 a h⟩
 | nt as ts=>obtain⟨p,vs,_,_,_,h2,h3⟩:=r;exact⟨AN5.1,AN5.2,APG ts vs as h3 a h⟩
 | xe as C fs ts=>obtain⟨_,_,_,vs,_,_,_,_,_,_,h2,h3⟩:=r;exact⟨AN5.1,AN5.2,APG ts vs as h3 a h⟩
theorem Nz(r:AWI)(f:F6)(k:∀a,õ ->AFm/\Acn):BPK:=by
 cases s with
 | no=>trivial
 | pu d=>
  show DO v w r ⟨v,BE,(D5).up f⟩
 | ow ds=>
  obtain⟨a,vs,e,e1,e2,e3,r⟩:=r;show EG (k a e);exact⟨a,vs,e,AI _ e1,Ν,e3,r.up f⟩
 | tr as t=>
  obtain⟨v,e,nd,h,r⟩:=r;exact⟨v,e,nd,A1V,AIo f t v as BXV r⟩
 | nt as ts=>
  obtain⟨p,vs,e,e1,nd,h,r⟩:=r;exact⟨p,vs,e,f _ _ e1,nd,A1V,BQD⟩
 | xe as C fs ts=>
  obtain⟨a,oe,dx,vs,e,e1,e2,e3,e4,nd,h,r⟩:=r;exact⟨a,oe,dx,vs,e,f _ _ e1,e2,f _ _ e3,e4,nd,A1V,BQD⟩
theorem z6e(r:AWI)(g:à):BPK:=
 Nz r g.f fun a ha=>by
  obtain⟨h1,_,u,y⟩:=Fq r ha;refine vi (fun u e=>g.h _ _ e);cases q:F' a with
  | Ε=>rfl
  | Β w=>
   show AWJ (g.n a w q h1) e
   ·rw[Ν] at z;cases z
   ·rw[Ν] at z;cases z;subst e;exact (AI).tup.elim
theorem SR.grow(R:FB)(g:à):Acs:=by
 refine⟨R.gr.trans g,ŕ,P6 i s,R.ap⟩;show DO o y (YU i s e) ⟨o,Ν,z6e AI g⟩
theorem Y4(h:o8 (k_ s) (ϩ o) j a):(j=i/\õ)\/ (j≠i/\AVX j):=by
 obtain⟨t,p,e1,e2,h⟩:=h;by_cases hj:i=j
 ·subst hj;have hi:Ass:=by
   rcases ATB AY1 with h | h
   ·exact h
   ·rw[AvF] at e1;cases e1
  have hi' :i<AYK:=by
   rcases ATB AYK with h | h
   ·exact h
   ·rw[AvF] at e2;cases e2
  rw[BZG] at e1;rw[AYQ hi'] at e2;cases e1;cases e2;exact .AV (NE h)
 ·rw[AuT] at e1 e2;exact .CB ⟨jS hj,t,p,e1,e2,h⟩
def Apart(σ:St)(Γ:Ć)(a:Η):Ι:=∀j,¬(AVX j)
theorem SR.apart(R:FB)(h:AGp):ABR:=fun j Ch=>by
 obtain⟨s,o,e1,e2,q⟩:=Ch;show NW o' w (YU j s e1) e3 BE;rw[e2] at e3;cases e3;obtain⟨_,_,u,y⟩:=Fq D5 q;have e:=Ν;rw[h] at e;cases e
theorem SR.put(R:FB)(i:Ζ)(r:AWI)(ha:∀a,õ ->ABR):Š F H (ϩ o) (k_ s):=by
 refine⟨R.gr,DS ŕ,P6 j t,LJ j k a e1 e2⟩
 ·by_cases hj:i=j
  ·subst hj;have hi:Ass:=by
    rcases ATB AY1 with h | h
    ·exact h
    ·rw[AvF] at e;cases e
   rw[BZG] at e;cases e;exact⟨o,BZz ŕ hi,r⟩
  ·rw[AuT] at e;rw[A6u hj];exact YU j t e
 ·rcases Y4 e1 with ⟨Z,q1⟩ | ⟨n1,q1⟩
  ·rcases Y4 e2 with ⟨Z,_⟩ | ⟨_,q2⟩
   ·rfl
   ·exact(ha a q1 _ q2).SB
  ·rcases Y4 e2 with ⟨Z,q2⟩ | ⟨_,q2⟩
   ·exact(ha a q2 _ q1).SB
   ·exact R.ap j k a q1 q2
theorem SR.set(R:FB)(i:Ζ)(r:NL):Š F H (ϩ cv) (k_ og):=R.put i (AAz r) (MY h Cf)
theorem SR.drop(R:FB)(i:Ζ)(o:WZ):Š F H (ϩ o) AEu:=R.put i N2 (MY h Cf)
theorem SR.setOw(R:FB)(i:Ζ)(h1:AMJ)(h2:AGq)(h3:vE)(r:LM)(ha:ABR):
  Š F H (ϩ Ů) (k_ ó):=R.put i ⟨a,vs,Z,h1,h2,h3,r⟩ (TZ h (by cases h;exact ha))
theorem z3v(g:PZ)(h1:AMJ)(h2:AGq):bj AjK/\č AjK:=by
 refine⟨L9,L9⟩
 ·show AFk h2 e
 ·show A3X h1 (g b u e)
theorem SR.frzM(R:FB)(s1:F6)(s2:č F')(n:ç (VY F') sB (P4 H0/\ADs b)):Apu:=by
 refine⟨⟨Bbp s1,s2,AIq,Op e q ?_⟩,ŕ,P6 j s,R.ap⟩
 ·cases z:F b with
  | Ε=>exact .AV (n b o e z).1
  | Β u=>show AUn (s1 _ _ z) (R.gr.n b _ z q)
 ·show AQ o w (YU j s e);refine⟨o,BE,Nz D5 s1 (EB (vi (MY q q)))⟩;show EG (Fq D5 hb);cases q:u_ with
  | Ε=>rfl
  | Β u=>exact((n b u q Ν).2 j ⟨s,o,e,BE,hb⟩).SB
def wX(F H:Hp):Hp:=vb (Ħ (F b) u AR9 (MT (H b) Aid Aid))
theorem zrw:bj (wX F H):=QU (by unfold wX;rw[e])
theorem yjt(g:PZ):Kt (wX F H) H:=QU (by
 show NR wX;cases q:F b with
 | Β w=>show IP;cases e;exact g _ _ q
 | Ε=>
  show IP;dsimp only at e;split at e
  ·rename_i z;cases e;exact z
  ·cases e)
theorem z90(g:PZ)(e:ZU Z_):Azv=Β Z_:=by
 unfold wX;cases q:F b with
 | Β w=>have:=g _ _ q;show FI e;show ZO;rfl
 | Ε=>rw[e]
theorem z3w(e:zr Azv)(n:sB):(∃xs,u= .BM xs)/\wP:=by
 show NR wX;rw[n] at e;dsimp only at e;split at e
 ·rename_i z;cases e;exact⟨LG,z⟩
 ·cases e
theorem SR.tups(R:FB):fT (wX F H) H:=by
 refine⟨⟨Bbp zrw,yjt R.g,AIq,Op e q ?_⟩,ŕ,P6 j s,R.ap⟩
 ·cases z:F b with
  | Ε=>exact Am3 AIq (O0 (z3w e z))
  | Β u=>show AUn (zrw (H:=H) _ _ z) (R.gr.n b _ z q)
 ·show AQ o v (YU j s e);refine⟨o,EN,Nz v.2 zrw (EB (vi (MY q q)))⟩;obtain⟨h1,_,u,y⟩:=Fq v.2 hb;cases q:Azv with
  | Ε=>rfl
  | Β w=>
   obtain⟨⟨xs,Z⟩,z⟩:=z3w q h1;rw[Ν] at z;cases z;exact (AI).tup.elim
theorem SR.frzA(R:FB)(h1:AMJ)(h2:AGq)(h3:vE)(ha:ABR):fT AjK H:=by
 show EG (z3v R.g h1 h2);refine R.frzM Ν AI ArS;by_cases hb:b=a
 ·subst hb;exact⟨h3,ha⟩
 ·rw[ð,n] at e;cases e
theorem QL(e1:ABL):AYP i o=σ:=by
 obtain⟨hl,e2⟩:=AOv e1;rw[<- e2];simp
theorem SR.less(R:FB)(e:AUI)(e1:ABL)(h:õ):ADc AEu a:=fun j q=>by
 have q' :o8 AEu (ϩ o) j a:=BK0
 rcases Y4 q' with ⟨_,z⟩ | ⟨n,z⟩
 ·exact z
 ·exact n (R.ap j i a z ⟨s,o,e,e1,h⟩)
theorem SR.dropAt(R:FB)(e1:ABL):AgM H:=by
 have q:=R.drop i o;rw[QL e1] at q;exact q
theorem SR.frz(R:FB)(e:AuY):∃a F',AG8/\F6 /\qo F' H (k_ AVV)/\Rep K F' ä EX:=by
 obtain⟨o,e1,a,vs,Z,h1,h2,h3,r⟩:=AHA;show EG (z3v R.g h1 h2);have rp:Rep K AjK ä EX:=Fu (lL a AEw (r.up Ν))
 have R2:=((AY3 e1).frzA h1 h2 h3 (ACo e e1 A4_)).set i rp;show Ah8;exact⟨a,_,e1,Ν,R2,rp⟩
theorem SR.wrO(R:FB)(e:AUI)(e1:ABL)(h:õ)(r:rE K F ASa H0 t o)(ht:NA (gR t o b) (gR s o b)):
  BIr:=by
 obtain⟨o',p⟩:=AHA;have e2:=AK;rw[e1] at e2;cases e2;show HA h2 h3 w v (Fq BS h);have hi:Ass:=dr e;have R1:AgM ASa:=by
  have R0:=AY3 e1;refine A4n md
  ·rw[AJh h2];exact AuJ
  ·rw[AJh h3];exact R0.gr.h b u q
  ·show AFG o Axz ⟨o,Ν,Nz AI Gc (ϝ (Fq AI hb) (DC u q'))⟩;show ArX gS (ACo e e1 h j AyH) q'
 have R2:=R1.put i r (EB (ACo e e1 (ht b hb)));show Ah8;exact R2
theorem SR.wr(R:FB)(e:AuY)(e1:AG8)(r:AxK):
  qo F (ACn H a (.A8 us)) (k_ (.ow es)):=by
 obtain⟨o,w⟩:=AHA;have e2:=BE;rw[e1] at e2;cases e2;show EG (Fq D5 A4_);exact R.wrO e e1 A4_ ⟨a,us,Z,j4,Ν,A3,r⟩ (EB hb)
theorem SR.base(R:FB):SR K F H0 F H σ Γ:=⟨AEy R.g AIq,ŕ,YU,R.ap⟩
theorem Gr.unbase(g:Akx)(g' :Abx H0):Gr F0 H0 F' H' :=by
 refine AT5 (g.f.trans g'.f) g'.g g'.h;cases q:F b with
 | Ε=>exact g'.n b o e q
 | Β u=>show AUn (g'.f _ _ q) (g.n b _ q n)
theorem SR.unbase(g:Akx)(R:SR K F H0 F' H' CS A4):BXJ :=⟨Am5 R.gr,ŕ,YU,R.ap⟩
#where
inductive TrY (h B:AN) (e:Η) (cls:AD) (dd:NM) (fl:AD):Ι
 | mk:∀oe vs T oT ts,Ϧ e oe ->BQ (Am6=cls/\AY0=dd/\ (Ay7 dd)) AvV (Iq vs 1 (B0 T)) (ACp T=Ε) (BQ (T≠e) (Ϧ T oT) BFN (Iq ts 3 fl) BTd)
def Y5(B:AN)(l:I_)(a:Η)(cls:AD)(dx:NM)(h:AN):Ι:=
 APH h/\Atc/\AUF B/\
  (TrY h B a cls dx CI\/ (∃CL r L,l=CL::r/\AiT/\TrY h B a cls dx Aqp)\/∃oe vs,cE oe/\Am6=cls/\AY0=dx/\AvV/\BVV 1/\ (Ay7 dx))
def Av(B:AN)(l:I_)(e:Η)(cls:AD)(dd:NM)(fl:AD)(h:AN):Ι:=APH h/\ACp e=Ε/\AUF B/\BTd
theorem Av.there(x:Av B l e cls dd fl h):∃ob,Ϧ e ob/\ob.cls=cls:=by
 obtain⟨_,_,_,oe,_,_,_,_,he,hc,_⟩:=x;exact⟨oe,he,de⟩
section
variable{M:AIU}{A:B6}{E:fu}{s:AC}{B:AN}{CL:Env}{CF:I_}{L a:Η}{cls fl:AD}{dd:NM}{Q:AAu}
theorem z8e(f:Hb ->Hb)(o:Obj):(Bbq f o).UX=o.dict:=by
 unfold Bbq;split<;>rfl
theorem M8{h:AN}{T b:Η}{oT o:Obj}{ts:Hb}(hT:Ϧ T oT)(hd:BFN)(hb:tw)(hn:∀vs,i4≠ .ACY vs):b≠T:=ì (by
 rw[q,hT] at hb;injection hb with hb;subst hb;exact hn ts hd)
theorem J4{l:I_}(x:Av B l a cls dd fl A7)(hQ:Ara (Av B l a cls dd CI h')):vS (A8I EX Ε):=by
 obtain⟨f1,f2,f3,oe,vs,T,oT,ts,he,hk,hd,h1,hB,hne,hT,hdT,h3⟩:=x;have far:BBb (s.heap.update T (Obj.mapFields (·.setIfInBounds 3 ((none:Option Addr).elim Value.none fun f=>rawInt f)))):=EB Ahc;have hz:3<ts.size:=AL6 h3;refine AhM;show HZ BN
 refine ACq hT hdT hz (hQ _ ⟨ADj o,f2,f3.of_keeps (AAx (AeU ?_)),oe,vs,T,_,_,Azg he,hk,hd,h1,hB,hne,AbN hT hdT,BD',DS hz⟩ (AAx (E9 o.slots)))
 ·exact BGL (f1 b o q)
 ·exact Akm q
 ·exact Akm q
theorem J5{oe:Obj}{vs:Hb}{head:AD}{more:AO}(hfr:AdU AAT)(hl:AdS B AAT)(hf:AiT)(he:AsY oe)(hkb:APH A7)(hen:Atc)
  (hd:AvV) (hz:1<vs.size) (h2:AR6\/AY0≠Ε) (hQ:BJd Am6 AY0):
  vS (do let x<- frameOf CL;let pl<- entryPlaceOf L more;let b<- EntryCells.newEntry head x CI Aqp CI pl;APJ EX 1 b):=by
 have nf:a∉ (AAT).A6l (·.frame):=ALa (by
  show ALg o (hl.mem hm);have ho:=Ν;rw[he] at ho;injection ho with ho;subst ho;exact AI vs hd)
 refine z6 (wpAny_frameOf_fun hfr hl hf (DC h1 k1));show BV (z6 (wpAny_entryPlaceOf (DC pl hp))) (BV6 (Ee hp.sizeOk5 _));show GL e1 (GS xt oe) (fS k1.2.1 a nf he) b1 (APH h1) (OL o (fS k1.2.1 b (ALa (Aag (hl.mem hm).1)) (hkb b o q))) (ACq (z8 _ e1) hd hz (hQ _ ?_ ?_))
 all_goals
  have ne:AIr≠a:=ň (zK e1);have d3:=AY5 hd (·.setIfInBounds 1 (Value.ref h1.objs.size));have far:ge gS (MW xt) (MW ((h1.push {cls:= .type "traceback",dict:=none,data:= .fields ([head,.ref L,.none,rawInt L,.none]++ (if pl.isEmpty then List.replicate 6 Value.none else pl)).toArray}).update a (Obj.mapFields (·.setIfInBounds 1 (Value.ref h1.objs.size)))).LY):=
   Op hb q (B1 Ahc AJn)
 ·refine⟨OL o (far b o (P_ (Aqb hen)) (b1 b o q)),hen,hl.of_keeps (AAx ?_),?_⟩
  ·show DO sl k (k1.2.2 b o q) (Mc BPL)
  ·exact⟨_,_,AIr,_,_,AYm _ (z8 _ e1) (Bbr d3),⟨BYt,z8e _ _,h2.imp (P_ (k8 Array.getElem?_setIfInBounds_ne BF z)) id⟩,d3,DS hz,b1.fresh,ne,
    AWG ne (z9 h1 Z),Z,by first | (simp;done) | (rcases hp with Z | ⟨_,_,_,_,_,_,_,Z⟩<;>simp)⟩
 ·intro b o q n;obtain⟨sl,k⟩:=k1.2.2 b o q;exact⟨sl,BPL⟩
theorem zxp(hfr:AdU AAT)(hf:AiT)(x:Y5 B AAT a cls dx A7)
  (hQ:BJd cls dx):vS (ŗ EX CL):=by
 obtain⟨f1,f2,f3,⟨oe,vs,T,oT,ts,he,⟨Z,Z,h2⟩,hd,h1,hB,hne,hT,hdT,h3⟩ | ⟨_,_,L',el,hf',tr⟩ | ⟨oe,vs,he,Z,Z,hd,h1,h2⟩⟩:=x
 ·unfold ŗ;simp only [hf];refine AhM;show HZ BN
  refine BLm;show EL (HU N0)
  refine z6 (ACq hT hdT (AL6 h3) ?_);have far:BBb (s.heap.update T (Obj.mapFields (·.setIfInBounds 3 Value.none))):=EB Ahc;show KS (J5 (s:=VX (Ő T (Obj.mapFields (·.setIfInBounds 3 Value.none)))) hfr (f3.of_keeps (AAx (AeU (Akm q)))) hf (Azg he) (OL o (BGL (f1 b o q))) f2 hd (AL6 h1) h2 (tS w up)) (hQ h' w (AAx (up b o (Akm q) n)))
 ·show AQ Z Z (Bbt el);show E7 (L' =L) (zJ (hf'.symm.trans hf));obtain⟨oe,vs,T,oT,ts,he,hk,hd,h1,hB,hne,hT,hdT,h3⟩:=id tr;unfold ŗ;simp only [hf];refine AhM;show HZ BN
  refine BLm;show HZ (HU N0)
  exact z7 (hQ _ ⟨f1,f2,f3,tr⟩ (AAx ⟨o.slots,q⟩))
 ·unfold ŗ;simp only [hf];refine AhM;show î BF (J5 hfr f3 hf he f1 f2 hd (AL6 h1) h2 fun h' w up=>hQ h' w up)
theorem z93(hfr:AdU AAT)(hf:AiT)(x:Y5 B AAT a cls dx A7)
  (hQ:Ara (Y5 B CF a cls dx h')):vS (leaving CL EX):=by
 refine z6 (zxp hfr hf x fun h1 w up=>J4 (s:=VX h1) w (A0 h2 w2 up2));obtain⟨k1,k2,⟨_,_,k3⟩,k4⟩:=w2;exact hQ h2 ⟨k1,k2,k3,.AV k4⟩ (up.trans up2)
#where
inductive Y6 (P:A6) (w:AZ) (CF:I_) (H:Hp) (s:AC) (E:XK) (e:AD) (s' :AC):Ι
 | mk:∀a C H' B dx,e= .AT a ->BQ AUx AKk (Ah0 Aue) BLf (BQ (Y5 B CF a C dx eh) (ge Sc (b∉frs CF) ARc) (Axb) AVa BRs)
def gC(P:A6)(w:AZ):MP:=fun CF H s E e s' =>BRs
theorem gC.imp(h:Ah' E)(k:∀C dx H',AVa ->E' C dx H'):Ah' E' :=by
 obtain⟨a,C,H',B,dx,h1,h2,h3,h4,h5,h6,h7,h8,h9⟩:=h;exact⟨a,C,H',B,dx,h1,h2,h3,h4,h5,h6,h7,h8,k _ _ _ h9⟩
section
variable{X:Cx}{Μ:fB}{σ:St}{H H' :Hp}{s s' :AC}{B:AN}{h' :AN}
theorem z2v(hok:Agm)(b1:AyO)(b2:AuW)(tD:Axb):Agl :=fun b u e=>
 Ap0 hok (fun c v hc q=>by
  have:∃o',ACp c=Β o' :=by
   show OF hc Z hc (tD _ _ e) (tD _ _ hc)
  show NW o' e' At z (b1 c o' e');show AU_ q (b2 c _ e')) AHg ma
theorem yg1(I:AW)(hex:AgH)(os:AUx)(JS:AKk)(un:Ah0 ABb)(hok:Agm)(b1:AyO)(b2:AuW)
  (inB:ge Sc (b∉wv) ARc) (up:BZq):
  Un bE [] AIM H' X.s₀.heap h' /\BGw :=by
 have I' :AG7 :=I.call' os un hok JS Awl
 have hb:=I'.base;rw[hex] at hb;have hb0:=I.base;rw[hex] at hb0;have in0:BGw :=re e (by
  show ă o1 (hb0.there b o e BN)
  refine inB b o1 e1 AGc;show ĩ (AiX b z) (pd (zO AaQ AIP) Avl) (n z))
 refine⟨⟨Aoi hf,Aoi hf,fun b o e n hx=>hb.free b o e n hx,Acp,hb.tups,hb.nF,hb.pR⟩,in0⟩
 ·have e1:=hb.keep b o e n hf BN
  show NW o' e' (in0 b o e hf) z (b1 b o' e');show AU_ e1 (b2 b _ e')
 ·show AQ sl e1 (hb.slot b o e n hf BN)
  obtain⟨_,o2,v⟩:=BB';have e2:=EN;rw[e] at e2;cases e2;obtain⟨sl',e3⟩:=up b _ e1 v.2;exact⟨sl',e3⟩
 ·by_cases hf:Atb
  ·show AQ sl e1 (hb.slot b o e (A6q b hf) hf BN)
   show ALg o2 BB';have e2:=Ν;rw[e] at e2;cases e2;obtain⟨sl',e3⟩:=up b _ e1 AI;exact Ú e3
  ·show JO o' e' (in0 b o e hf) o' (b2 b o' e')
theorem zvx(I:AW)(hex:AgH)(hst:Akj)(hfr:AVm)
  (h:Aki E):AQL (leaving Be e) (KE s'' (gC EA X.w xz AIM X.s₀ E e s'')) Eb s' :=by
 obtain⟨a,C,H',B,dx,Z,os,JS,un,hok,Hh,inB,tD,hE⟩:=h;refine z93 (by rw[I.ok.frames,hst]) hfr BXX (tS S9 up)
 show EG (yg1 I hex os JS un hok Hh.1 S9.1 inB up);exact⟨a,C,H',B,dx,Z,os.trans I.os,JS,Ν,z2v hok Hh.1 S9.1 tD,S9,AI,tD,hE⟩
theorem A8J(I:AW)(hex:AgH)(os:AUx)(JS:AKk)(un:Ah0 ABb)(hok:Agm)(b1:AyO)(b2:AuW)
  (inB:ge Sc (b∉wv) ARc) (tD:Axb) (up:BZq):sM (ADM s' h' t'):=by
 have I' :AG7 :=I.call' os un hok JS Awl
 obtain n:=yg1 I hex os JS un hok b1 b2 inB up;have cl:∀{c v},s'.heap.IsCell c v ->AvH:=fun{c v} Awj=>by
  show Ϛ sl (up c o ho (fun vs z=>(BVR hd)))
  exact EV e hd
 refine⟨pf,I'.os,JS,B1 hex n.1,?_,ANb,I'.free,I'.freeC,ae,z2v hok b1 b2 tD,ACc⟩
 ·show ALd m I'.loc;refine⟨m,up.ns FK,fun i x v e1 e2 e3=> ?_⟩;show Ð r l (t.2 i x v e1 e2 e3);refine E3 u r;rcases l with l | ⟨k,c,e,z⟩
  ·exact .AV l
  ·exact Ah4 (cl z)
 ·show JO v z (I'.cell x c e) v (cl z)
 ·obtain g:=AHI;show EG (I'.pin p hp);refine⟨?_,A3,iX,wE,iP⟩;show NW o' q (inB AK BS CC (DB (by
   show ĩ (AiX AK z) (iX z) (wE z)))) z (b1 AK o' q);show AU_ Ν (b2 AK _ q)
#where
theorem yje{d:Data}{cd:A5x}(h:XM d=Β cd):d= .cls cd:=by
 cases d with
 | cls c=>cases h;rfl
 | _=>cases h
def dJ(Ġ):Ι:=AQT C
inductive ExP (Ġ):Ι
 | mk:∀dd cd bm k0 k1 k2 k3 k5,BQ (AQ0 C (AzW dd #[k0,k1,k2,k3,BAb,k5])) (Ala= tT::bm) (EE cd.hasDel) BLK (ExP K C)
theorem VL{α:GG}{xs:Go}{n:Ζ}(h:AFb (n+1)):BNl xs:=by
 cases xs with
 | DU=>cases h
 | AU a r=>exact NV a r BYY
theorem yj5{l:AJi AD}(q:XQ l=Θ):∃k0 k1 k2 k3 k5,l= [k0,k1,k2,k3,BAb,k5]:=by
 have q:=AHn q;show ADJ k0 r0 Z l0 (AsA VL DD) k1 r1 Z l1 (VL l0);show ADJ k2 r2 Z l2 (VL l1) k3 r3 Z l3 (VL l2);show LL k4 r4 l4 (VL l3);show LL k5 r5 l5 (VL l4);show AUY l5;exact⟨k0,k1,k2,k3,k5,by rw[PH k4 _ (AsA BaM FL)]⟩
theorem z35(Aie)(q:Au2):ExP K C:=by
 obtain⟨⟨cl,dd,dt,⟨sl⟩⟩,ho,p0⟩:=A3Q q;have p0:=AHn p0;have p1:=AHn p0.1;show AQ cd y (A3Q p0.2);have p3:=AHn AI;have p4:=AHn p3.2;obtain⟨k0,k1,k2,k3,k5,e⟩:=yj5 p1.2;obtain⟨bm,hm⟩:=AsA List.head?_eq_some_iff.mp p3.1;refine⟨dd,cd,bm,k0,k1,k2,k3,k5,ho.trans ?_,hm,(Bool.not_eq_true' _).mp p4.1,(e9 (fun l=>A5z K JT l.tail) hm).Am2 p4.2⟩;rw[<- e,<- yje Ν,PH cl _ (yT p1.1)]
inductive ExN (h:AN) (C:Η):Ι
 | mk:∀bm N nm qn bs kG sn sub ab col dd k0 k1 k2 k3 k5 mN,BQ BBQ (h.Ns N mN) (mN LW =Ε) (OwnTail h BO2 bm) (ExN h C)
inductive ExO (K:Φ) (h:AN) (C:Η):Ι
 | mk:∀bm N nm qn bs kG sn sub ab col dd k0 k1 k2 k3 k5,BBQ ->OwnTail h JT bm ->BLK ->∀cd,AlZ K C=Β cd ->Ala= tT::bm ->ExO K h C
theorem zxg(A3H)(X:Sl)(q:Au2):ExO K h C:=by
 obtain⟨dd,⟨nm,bs,mro,ns,qn,hd,sn,sub,ab,col,del⟩,bm,k0,k1,k2,k3,k5,ho,hm,hdel,ht⟩:=z35 q;have hm0:=hm;subst hm hdel;exact⟨bm,ns,nm,qn,bs,hd,sn,sub,ab,col,dd,k0,k1,k2,k3,k5,AxF,BDk,ht,_,AGO AlZ ho,hm0⟩
theorem z4y(A3H)(X:Sl)(q:dJ K C):ExN h C:=by
 obtain v:=AHn q;obtain⟨dd,⟨nm,bs,mro,ns,qn,hd,sn,sub,ab,col,del⟩,bm,k0,k1,k2,k3,k5,ho,hm,hdel,ht⟩:=z35 EN;show AQ cd w (A3Q v.2);have e:=BE;show NR AlZ;rw[ho] at e;show ND (zJ e);show EG (AHn D5);subst hm hdel;exact⟨bm,ns,nm,qn,bs,hd,sn,sub,ab,col,dd,k0,k1,k2,k3,k5,_,AxF,.of_isNs (W.isNs_of_in X Ν),W.nsMap_none_of_in X Ν (yT AI),BDk⟩
def rR(Ġ):Ι:=Au2
theorem dJ.k(Aie)(q:dJ K C):AA_:=((zA).mp q).1
section
variable{X:Cx}{Μ:fB}{σ:St}{H:Hp}{s:AC}
theorem yin(hl:AUF B9)(hm:Heap.MadeExcOf h h1 a OK vs):Y5 (ACZ h (frs l)) l a OK Ε h1:=by
 obtain⟨t,he,_,_⟩:=hm.there;refine⟨fun b o q=>Am9 b o (A6k _ q),?_,?_,tm ⟨_,_,he,Z,Z,Z,Z,ADw⟩⟩
 ·cases q:Ao7 h (frs l) a with
  | Ε=>rfl
  | Β o=>
   have z:=Ahb;rw[hm.new] at z;cases z
 ·have k:=W.funFrames_hide (as:=frs l) hl fun CL he a ha=>(AuF CL he ha);exact k.of_keeps (Op e _ (AeU (Am9 b o e)))
theorem yeq{x:Ξ}{C:Η}{np G1 AB:AR}{e:AG}{es:CY}{t:TA}{Q:QQ Flow}{E:XK}(hg:KU)(hm:AhP)(hC:dJ AE C)(ha:Agb)(hh:HV)
  (I:AW) (h:t σ H (fc vs (D4 MR/\BOK)))
  (px:∀H1 s1 e s',AGQ s1 ->gC EA X.w MM H1 s1 (fun C' dx H' =>C' = .AT C/\dx=Ε/\H' =H1/\BOK) e s' ->AxU)
  (BEM):
  zo (exec BOs Be) Q:=by
 obtain⟨bm,N,nm,qn,bs,kG,sn,sub,ab,col,dd,k0,k1,k2,k3,k5,mN,e1,e2,e3,e4⟩:=z4y I.mod.G9 hC;refine Lu (Lu (Lu (Lu wpAny_Raise_call_subT C C nm nm q qn N N) bs bs bm bm kG kG sn sn) sub sub ab ab col col dd dd) k0 k0 k1 k1 k2 k2 k3 k3 (k5:=k5)
  PySem.F.excBase_ValueError (mN:=mN) (BYL e4.hasType) (AIV hh) ?_ e3 (MK I hg hm AeP hd)
 ·rw[he];show EE (false || (backTo cpos (starEach es X.env)).any (·.1))
  rw[hpl];rfl
 ·have C_:=ha G1 Μ s σ H _ I h;rw[he] at C_⊢;refine A7t (jp C_ (fun us s2 ⟨vs,H1,I1,r,z,q⟩=>⟨Z,BXC,I1.bk _ _ e1,e2.keeps I1.bk,e4.keeps I1.bk,tS a hm⟩) Aik)
  refine px H1 s2 _ _ I1 ⟨a,tT,H1,ACZ AmR (frs MM),Ε,Z,Z,I1.bare,AOq Am9,I1.hok.kept Am9,yin I1.stack hm,re e (ϋ (AfA e n)),L9,Z,Z,Z,q⟩;obtain⟨o,eo⟩:∃o,BYv:=by
   have k:=AY6 b u e;cases u with
   | A8 xs=>obtain⟨_,_,_,j⟩:=k;exact⟨_,j.2⟩
   | BM xs=>obtain⟨_,_,_,o,m⟩:=k;exact⟨_,m.1⟩
   | dK Υ=>show AGJ g k;exact⟨_,CC⟩
   | dT Υ=>show AGJ p k;exact⟨_,AK⟩
   | set S n=>show Ab_ v k;exact⟨_,EN⟩
   | ins C dx fs=>obtain⟨_,_,_,e,_⟩:=k;exact⟨_,e⟩
   | C4 y=>exact k
   | xd fs=>show BYG k;exact⟨_,e⟩
   | rng lo hi=>obtain⟨_,_,_,e⟩:=k;exact⟨_,e⟩
   | frz ob u=>obtain⟨e,_⟩:=k;exact⟨_,e⟩
   | Qw ps=>exact⟨_,(K_ (K0 A8K _) k)⟩
   | met f y=>exact⟨_,(K_ (K0 A8K _) k)⟩
   | ext φ=>obtain⟨_,e,_⟩:=k;exact e
  refine ϋ (AfA eo AGc);have:=I1.stkFree b z;show FI e;show ZO
#where
abbrev G2:=Ć
inductive XV where
 | AT (C:Η) | any (C:Η) | pay (BJV)
def XV.cls:XV ->Η
 | tT=>C
 | Aha=>C
 | .pay C _ _=>C
inductive Y7 (K:Φ) (F H H' :Hp) (dx:NM) (fs:AA) (ts:Ev):Ι
 | mk:∀p vs as,BQ (dx=Β p) (H' p=Β BKE) ė (F p=Ε) (BQ Aew Ŕ (HE as (sB/\NG)) (fO K F H' ts vs as) BR3)
def wj(K:Φ)(F H H' :Hp)(C:AD)(dx:NM)(x:XV):Ι:=C= .AT x.cls/\match x with
 | .AT _=>dx=Ε
 | .any _=>IS
 | Afh _=>BR3
theorem Gr.low(s:Awf)(g:Abx H1):à :=⟨g.f,g.g,s.trans g.h,re e (Am3 s (g.n b o e n))⟩
def _root_.L3.T.isLeaf:lm T
 | Adr=>Θ
 | _=>Τ
def XV.bare:XV ->XV
 | tT=> tT
 | Aha=> Aha
 | Afh C=>bif AiM then Afh C else Aha
theorem wj.bare{K:Φ}(h:ŷ Ai2):Ai2 C dx APK:=by
 cases x with
 | AT _=>exact h
 | any _=>exact⟨AS,N2⟩
 | pay C1 fs ts=>
  show Ai2 C dx (bif AiM then Afh C1 else .any C1);cases AiM with
  | Θ=>exact h
  | Τ=>exact⟨AS,N2⟩
theorem XV.bare_bare(x:XV):x.bare.bare=APK:=by
 cases x with
 | AT _=>rfl
 | any _=>rfl
 | pay C fs ts=>
  cases e:AiM with
  | Θ=>simp only [XV.bare,e,cond_true]
  | Τ=>simp only [XV.bare,e,cond_false]
def NK(K:Φ)(F H:Hp)(Ex:iO)(E:XK):Ι:=∀x C dx F' H',Ex x ->à ->ŷ (wj K F' H H') ->AVa
theorem wj.back(AEb)(s:č H1)(h:ŷ Ai2):ŷ (wj K F H1 H'):=by
 refine E9 AS;have h:=Au;cases x with
 | AT _=>exact h
 | any _=>trivial
 | pay c fs ds=>
  obtain⟨p,vs,as,e1,e2,e3,e4,e5,nd,e6,e7⟩:=h;exact⟨p,vs,as,e1,e2,e3,e4,s.free e5,nd,ϝ (e6 b hb) (s.free (e6 b hb).2),e7⟩
abbrev XW:=Do G2 XV
abbrev bO:=AEp D
abbrev dH:=AEp AJ
abbrev TT2:=AEp AO
inductive TW where
 | one (t:T) | tp (ts:Ev)
def TRR(A3L):TW ->Do V BH
 | .one t,v,as=>Ϥ
 | .tp ts,v,as=>∃p us,v= .AT p/\F p=Β (.BM us)/\AZ8 ts us
def Dc(Q:AS_):GI TW
 | .one t=>Q t
 | .tp _=>D6
structure pY where
 nx:GI G2
 rt:nS
 bk:GI G2:=ky
 ct:GI G2:=ky
 rf:nS:=ky
 rT:GI TW:=ky
 rm:ATr:=zv
abbrev aC:=pY ->Do G2 XW
open yv in
noncomputable def lZ (F0 F:Hp):Hp:=vb (Ab9 BKR (F b))
theorem z0c:Kt (lZ F0 F) F:=QU (by
 show NR lZ;split at e
 ·cases e
 ·exact e)
theorem zti(h:∀u,LD u ->F0 b≠AR9):A2f=F b:=by
 unfold lZ;show EL (AKu (AUH w (h w Ν AI)))
theorem z3q(e:zr A2f):∀w,LD w ->F0 b≠Adg:=A1q (by
 show NR lZ;show AAn ⟨w,hw,q⟩;cases e)
theorem z58(s:Kt F0 F1):Kt (lZ F1 F) (lZ F0 F):=QU (k8 zti (A1q (z3q e w hw (s _ _ q))) (z0c _ _ e))
theorem ybv(s:Kt F0 F):lT F (LD u\/zr A2f):=QU (by
 by_cases h:BKR
 ·show AQ w y h;show AUn (s _ _ AI) (.AV Ν)
 ·exact .CB (by rw[zti (A1q (h ⟨w,hw,q⟩))];exact e))
section
variable(K:Φ)(F0 H0:Hp)
inductive UpE (t:bO) (E:XW) (σ:St) (H:Hp) (Q:VK):Ι
 | mk:ALX (Ap9 mx h_) UpE
def Ig(t:bO)(E:XW):TE:=ABU UpE
inductive UpT (t:TT2) (E:XW) (σ:St) (H:Hp) (Q:AGh):Ι
 | mk:ALX (∀b A4 F' H',mx ->F6 ->P b A4 ->Q b H') UpT
def Y8(t:TT2)(E:XW):TT:=ABU UpT
inductive UpA (t:dH) (E:XW) (σ:St) (H:Hp) (Q:AME):Ι
 | mk:BL5 AFN UpA
def Tc(AUR):TA:=ABU UpA
inductive UpF (t:dH) (E:XW) (σ:St) (H:Hp) (Q:VK):Ι
 | mk:ALX (∀ds A4 F' H' a vs,AEO mx (GS H' Ä) AFm (BQ vE AFN (ADc A4 a) AcZ (Q EX H'))) UpF
def upF(AUR):TE:=ABU UpF
structure zq (F:Hp) (D2:pY) (D:ei):Ι where
 nx:A5N AIs AaR
 bk:A5N D2.bk (D.bk σ H)
 ct:A5N D2.ct (D.ct σ H)
 rt:BQN h_ D2.rt
 rf:BQN BJA D2.rf
 rT:∀t v as F' H,BXu ->BQ Ŕ (AQw (AFm/\vE)) (TRR K F' H t v as) (D2.rT t) Aq8
 rm:∀d v Γ F' H σ,Apu ->h_ ->D2.rm d Γ ->Aq8
inductive UpS (t:aC) (E:XW) (D:ei) (σ:St) (H:Hp):Ι
 | mk:∀F Γ D2,AZ9 ->(t D2 Γ E) ->(qk zq F D2 D) ->UpS t E D σ H
def upS(t:aC)(E:XW):TS:=AjX (UpS K F0 H0 t E D σ H)
#where
theorem zq.mono(AEb){F0 H0 F F' :Hp}{D2:pY}{D:ei}(k:AiF F)(s:F6):AiF F':=
 AHt (A5Y k.nx) (A5Y k.bk) (A5Y k.ct)
structure NP where
 xe:fu
 pn:fB
abbrev _root_.L2.Cx.wsh(X:Cx)(z:NP):Cx:={X with xe:=z.xe,pn:=z.pn}
structure Ctx (UE) (E:XW):Ι where
 pX:∀Μ σ Γ F H s e s',AW ->Ī ->Aki A4' ->AxU
 pq:∀A' A'',SameStack A' X.A ->PassesOwnAt uC A' A'' Be ej
theorem Ctx.po(cx:A3g):A4K:=cx.pq _ _ (SameStack.refl _)
theorem Ctx.px(cx:A3g)(Μ:fB)(σ:St)(Γ:G2)(F H:Hp)(s:AC)(e:AD)(s' :AC)(I:AW)(R:Ī)(hx:Aki BMR):AxU :=
 AyK (hx.imp fun _ _ H' hz=>(dP x F' hz ⟨Γ,F',x,ACr A3,(A3).f,(CO).VI AIq,AuG CO AY7,Ν⟩))
def QE(UE)(e:AG)(t:bO):Ι:=AU4 Ig
def QF(UE)(e:AG)(t:dH):Ι:=AU4 upF
def QT(UE)(e:AG)(t:TT2):Ι:=ß PT e Y8
def QW(UE)(e:AG)(t:TT2):Ι:=ß PW e Y8
def QA(BIm):Ι:=ß PA es Tc
def QS(UE)(st:AM)(t:aC):Ι:=ß PS st upS
def sX(UE)(st:dL)(t:aC):Ι:=ß JB st upS
section
variable{X:Cx}{e:AG}{es:CY}{st:AM}{sts:dL}
theorem lN(h:PE X e t)(hi:∀σ H Q,t' σ H Q ->Ϙ):PE X e t' :=A0c
theorem NQ(h:PT X e t)(hi:∀σ H Q,t' σ H Q ->Ϙ):PT X e t' :=A0c
theorem pwC(h:PW X e t)(hi:∀σ H Q,t' σ H Q ->Ϙ):PW X e t' :=BTr w w
theorem paC(h:Aga)(hi:∀σ H Q,t' σ H Q ->Ϙ):PA X es t' :=BTr p p
theorem uH(h:Ay2)(hi:∀D σ H,t' D σ H ->t D σ H):PS X st t' :=Ab5 D D
theorem Y9(h:JB X sts t)(hi:∀D σ H,t' D σ H ->t D σ H):JB X sts t' :=Ab5 D D
#where
section
variable{X:Cx}{F0 H0:Hp}{a b c e:AG}{es:CY}{AB:AR}{ta tb tc te:bO}
def cC(d:D):bO:=AQ9 AG2
theorem Za(h:ϐ PE e (tC v))(r:∀F,sg d v):zh (cC d):=fun z E cx=>
 lN (h z) (Hm Ch Ch (Ee k _ R Gc (r F) h))
theorem bx{i j AB}:Ajj ATJ (M' i):=Ajx yl2
theorem QM{i j AB}:Ajj (Ë i) (cC (.bl i)):=Ajx ynx
theorem VN{j AB}:Ajj CI Adp:=Ajx ymb
theorem bA{x j AB}:Ajj Atr (cC (.Ψ x)):=Ajx yk7
def cV(AGy):bO:=AQ9 (ò Γ[i]? AHC AG2 AUA (P ä (k_ AVV)))
theorem ymz(A4p):Dx nh Adj:=fun z E cx=>
 lN Sj (Y2 DL (by
  show Se DL;show BD cV;show EO
  ·rename_i d e;show nE o e1 v r AHA;exact⟨v,e1,BTH r⟩
  ·rename_i ds e;obtain⟨a,F',w⟩:=R.frz e;exact⟨D8,BE,k _ _ F' H _ nr EM ATd h⟩
  ·exact Cf))
inductive Zb (K:Φ) (g:FC) (x:V) (y:V) (H:Hp) (Q:VK):Ι
 | mk:∀F d1 d2 P,AR2 ->JJ (Rep K F d1 x) (Rep K F d2 y) (g d1 d2 P) BTM BSu
def rW(K:Φ)(g:FC):R2:=hZ BSu
def cB(g:FC)(ta tb:bO):bO:=Ť ta d1 (gt tb d2 (g d1 d2 fun d=>P d A_))
theorem ydn{K:Φ}{g:FC}{E:XW}{σ:St}{H:Hp}{Q:VK}(h:Ig K F0 H0 Aw2 E σ H Q):Yw (rW K g) (AVB ta) (AVB tb) σ H Q:=by
 show Se h;refine ANt ⟨F2,d1,d2,_,yy,p_ s2,r2,h2,fun d z F' H' gr rz hp=> ?_⟩;exact k d A_ F' H' z AuU (ARd KA) rz hp
theorem eO(ho:Ap5 BAM)(ha:UD)(hb:é):Dx BBf Aw2:=fun z E cx=>
 lN (ANw yl0 AcK) As8
theorem VP(BNH):Dx AVK Aw2:=fun z E cx=>
 lN (yhf AcK KK WI hm) As8
def cT(t:bO):TT2:=fun Γ P E=>t Γ (fun d A4 =>(WB (.bl c) (P c A4))) E
theorem ycq{K:Φ}{E:XW}{σ:St}{H:Hp}{Q:AGh}(h:Y8 K F0 H0 (cT te) E σ H Q):Ig K F0 H0 te E σ H fun x H' =>(Ajq (Q c H')) :=by
 show Se h;refine VT (BTZ q);cases d with
 | bl c=>
  exact⟨c,r,k c A4 F' H' R' s' q⟩
 | _=>show ē
theorem gF(BNH):aa AVK (gI g ta tb):=fun z E cx=>
 NQ (z8b AcK KK WI hm) (BOg ydn)
theorem yW(h:M0)(BRp):gL QT (cT te):=fun z E cx=>
 NQ (DH yko AGX he) (Y1 ycq)
def Ft(t u:TT2):TT2:=Ahw (Os c (u A4 P E) (P Τ A4))
def JG(t u:TT2):TT2:=Ahw (Os c (P Θ A4) (u A4 P E))
def pZ(t:TT2):TT2:=Ahw (P (! c) A4)
variable{Nn:CY}{tA Nu :TT2}
theorem zyk(AvA):FG QW (AJe And [a]) tA:=AWT yj9 ha
theorem QV(AvA):Av6 [a] tA:=AWT ykm ha
theorem z49(ha:aa a tA)(hb:FG QW AgD Nu):FG QW AgE (Ft tA Nu):=fun z E cx=>
 pwC (ylj KK WI) (Hm Dd Dd (AWs (by
  cases c with
  | Θ=>
   exact BSY
  | Τ=>
   exact AhR)))
theorem NT(ha:aa a tA)(hb:Av6 Apb Nu):Av6 Apg (JG tA Nu):=fun z E cx=>
 pwC (yn2 KK WI) (Hm wY wY (AWs (by
  cases c with
  | Θ=>
   exact AhR
  | Τ=>
   exact BSY)))
theorem wu(h:gL QW tA):gL QT tA:=fun z E cx=>(AGX).pt
theorem Hi(AvA):aa Ah9 (pZ tA):=AeO NQ (xN ylw ha) wZ wZ (AWs AhR)
def Aw(ANs):bO:=Az5 (ò d AeW (tb A4 P E) AeX (P AGn A4))
def abz(ANs):bO:=Az5 (ò d AeX (tb A4 P E) AeW (P AcN A4))
def Hj(ta:bO):bO:=Az5 (WB (.bl c) (P (.bl (! c)) A4))
theorem z9o{op}(h:UD):Dx (.BoolOp op [a] AB) ta:=AWT ykv h
theorem z8r(ha:UD)(hb:Dx AgD tb):Dx AgE (Aw ta tb):=fun z E cx=>
 lN (ym1 KK WI) (Hm Zc Zc (AjJ (by
  cases d with
  | bl c=>
   refine E3 c r;cases c with
   | Θ=>show wT;exact⟨F1,Ω,P,R1,q,A4y⟩
   | Τ=>show Aul (AVd q)
  | _=>show ē)))
theorem ym6(ha:UD):Dx Ah9 (Hj ta):=fun z E cx=>
 lN (xN ylf ha) (Hm hq8 hq8 (AjJ (by
  cases d with
  | bl c=>
   exact⟨c,r,AVd q⟩
  | _=>show ē)))
def NZ(t:TT2)(ta tb:bO):bO:=Ahw (Os c (ta A4 P E) (tb A4 P E))
theorem VR(hc:aa c tA)(ha:UD)(hb:é):Dx BBj (NZ tA ta tb):=fun z E cx=>
 lN (ANw yd9 ATD) (Hm Sx Sx (AWs (by
  cases c with
  | Θ=>show AiG My P A4y
  | Τ=>show AiG AGe P A4y)))
def ak:dH:=AUu []
def aj(t:bO)(u:dH):dH:=ZE t (gt u ds (P (d::ds) A_))
theorem aL:FG QA [] ak:=AeO paC JD J6 J6 (Ee k _ R Gc II h)
theorem ao(ha:M0)(hr:FG QA es tr)(hs:GU FH=NB e es:=by rfl):FG QA FH (aj te tr):=fun z E cx=>
 paC (DH CV KK (N_ hr) hs) (Y2 AOQ (AJF d v1 (Aob (fun ds A_ F2 H2 vs R2 s2 r2 h2=>Ee k _ R2 Ty (rD (p_ s2) r2) h2))))
def gk(mT):bO:=UU (AgS (E_ (.BM ds)))
theorem p7{x1}(h:AJI es):Dx (.AOy es x1 AB) (gk t):=fun z E cx=>
 lN (xN ygz h) (Hm Fj Fj (BEo (by
  have gr:=AvY (AIu vs) HP;refine Ee k _ AKj (rV KA) ?_ ut;exact ABJ AEw (p_ KA))))
def fU(mT):dH:=UU (AgS Aeb)
theorem Ih(ABX){σ:St}{Γ:G2}{p:Η}{vs:AL}{ds:AJ}(R:FB)(hp:Aew)(r:LM):
  fT F (AaX H p)/\ (AaX H p) p=Β Ä/\F p=Ε/\H0 p=Ε/\ADs p:=by
 refine⟨?_,j4,A8L hp,R.gr.h.free hp,AY7 hp⟩;refine ACr (AEy L9 L9)
 ·rw[AKJ R.g hp];exact R.g b u e
 ·show AFk hp e
theorem o9{t:dH}(h:AJI es):Ż BFd (fU t):=fun z E cx=>
 lN (xN yms h) (Hm J0 J0 (BEo (by
  show EG (Ih R1 hp r1);exact k ds Ω F1 _ p vs Ν s1 A3 ED Q1 r1 uS ut)))
def cZ(mT):bO:=UU (E_ ä)
theorem dM(h:ũ QF e):zh (cZ t):=fun z E cx=>
 lN AGX (Hm J1 J1 (A5n (by
  show EG (z3v HP e1 e2);refine Ee k _ (R1.frzA e1 e2 e3 ap) (rV Ν) ?_ h1;exact lL a AEw (p_ Ν))))
variable{st:AM}{sts:dL}{t u:aC}
def bF:aC:=fun D Γ _=>LZ Γ
def aD(t u:aC):aC:=fun D Γ E=>t {D with nx:=fun A4 =>u D A4 E} Γ E
theorem iw:FG sX [] bF:=fun z E cx=>Y9 yh1 (ag abA abA (SO R Gc h))
theorem bL(h1:ũ QS st)(h2:FG sX sts u):FG sX (st::sts) (aD t u):=fun z E cx=>
 Y9 (z42 (N_ h1) (N_ h2)) (ag abB abB (VT (AHt (fun A4 F' H' CS R' s' q=>⟨F',A4,D2,R',q,AnA s'⟩) k.bk k.ct)))
theorem bK(h1:ũ QS st):ũ sX [st]:=AWT z75 h1
def w6(UQ):aC:=fun D Γ E=>te Γ (KE Ω (LZ Ω)) E
theorem zyi(he:M0)(hs:AHq Ε:=by rfl):bt (.AG e AB) (w6 te):=fun z E cx=>
 uH (DH z8m LP hs) (ag abC abC (Qb (db R1 h1)))
def bB(UQ):aC:=fun D Γ E=>te Γ (fun d _=>D.rt d) E
theorem dX(he:M0):A0n (bB te):=fun z E cx=>
 uH (xN z8y he) (ag abD abD (Qb (Ee k.rt R1.gr r1 h1)))
def Zd:aC:=fun D _ _=>D.rt BC
def cA(c:TT2)(t u:aC):aC:=sQ c b (Os b (t D Ω E) (u D Ω E))
theorem gP(hc:aa c tA)(ha:ũ sX x)(hb:FG sX y u):bt (.If c x y AB) (cA tA t u):=fun z E cx=>
 uH (ANw yns ATD) (ag abE abE (AWs (by
  cases c with
  | Θ=>show AiG My D2 (AnA s1)
  | Τ=>show AiG AGe D2 (AnA s1))))
def bR(i:Ζ)(te:bO):aC:=ANJ (AUz og)
theorem gG(hN:pi)(hi:Hk)(hx:AAP)(he:M0)(hs:AHq (IF (bn IU)):=by rfl)
  (AV9):Ajr bR te:=fun z E cx=>
 uH (Ahl hN hi hx LP hs hf) (ag abF abF (Qb (db (R1.set i r1) h1)))
def p8(i:Ζ)(t:dH):aC:=sQ t ds (AUz ó)
theorem V0(hN:pi)(hi:Hk)(hx:AAP)(he:AxV)(hs:AHq (IF (bn IU)):=by rfl)
  (AV9):Ajr p8 tf:=fun z E cx=>
 uH (Ahl hN hi hx LP hs hf) (ag abG abG (A5n (db (R1.setOw i e1 e2 e3 r1 ap) h1)))
#where
#print L3
namespace L3
open H_ Nl IR L2
abbrev tG:=D ->G2 ->A1x
abbrev zu:=AJ ->G2 ->A1x
section
variable(K:Φ)(F0 H0:Hp)
inductive UpG (g:tG) (E:XW) (v:V) (σ:St) (H:Hp) (Q:Sb):Ι
 | mk:∀F Γ P d,JJ AZ9 (Rep K F d v) (g d Γ P E) BTU (UpG g E v σ H Q)
def upG(g:tG)(E:XW):TG:=AU0 (qk UpG g E v σ H Q)
inductive Ze (g:zu) (E:XW) (vs:AL) (σ:St) (H:Hp) (Q:Sb):Ι
 | mk:∀F Γ P ds,JJ AZ9 Ap6 (g ds Γ P E) BTU (Ze g E vs σ H Q)
def abH(g:zu)(E:XW):Qx:=kq vs Q (qk Ze g E vs σ H Q)
#where
def QG(UE)(e:AG)(g:tG):Ι:=BZo PG e upG
def Zf(UE)(es:CY)(g:zu):Ι:=BZo Sy es abH
section
variable{X:Cx}{F0 H0:Hp}{e tg:AG}{es:CY}{AB:AR}{te:bO}{g:tG}{gs:zu}
theorem pgC(h:PG X e t)(hi:∀v σ H Q,t' v σ H Q ->t v σ H Q):PG X e t' :=BUx
theorem Zg(h:Sy X es t)(hi:∀v σ H Q,t' v σ H Q ->t v σ H Q):Sy X es t' :=BUx
def hName(AGy):tG:=fun d Γ Q _=>Q (Ŗ i og)
theorem gU(BSc)(AV9):FG QG nh (IG i):=fun z E cx=>
 pgC (Y' yhk i i hN hi hx hf) fun v σ H Q Ch=>by obtain⟨F,Γ,P,d,R,r,h,k⟩:=Ch;exact Ee k (R.set i r) Gc h
def pJ:zu:=fun ds Γ Q _=>ds= []/\Q Γ
def dI(g:tG)(gs:zu):zu:=fun ds Γ Q E=>match ds with | wS=>ArY d (gs r A4 Q E) | []=>D6
theorem Fv:FG Zf [] pJ:=fun z E cx=>Zg yi8 fun vs σ H Q DL=>by
 obtain⟨F,Γ,P,ds,R,r,h,k⟩:=DL;show JO Z h h r (Ee k R Gc h)
theorem qR(h1:gL QG g)(h2:BHJ)(hs:AVM FH BJv:=by rfl):FG Zf FH (dI g gs):=fun z E cx=>
 Zg (DH ycw (N_ h1) (N_ h2) hs) fun vs σ H Q Dd=>by
  obtain⟨F,Γ,P,ds,R,r,h,k⟩:=Dd;cases ds with
  | DU=>show AU9
  | AU d ds=>
   show ĥ r;exact⟨v,us,Z,F,Γ,_,d,R,r1,h,fun Ω F1 H1 σ1 R1 s1 q=>⟨F1,Ω,P,ds,R1,r2.up s1,q,BR2 (Ee k R2 Ty p)⟩⟩
def pK(n:Ζ)(gs:zu):tG:=fun d Γ Q E=>(WB dy (ARo/\gs ds Γ Q E))
theorem Fw(hc:HV)(h:BHJ)(hn:T' AYX es Be=n:=by rfl)(hst:(AYX es Be).findIdx? (·.1)=Ε:=by rfl):FG QG BGm (pK n gs):=fun z E cx=>
 pgC (Y' ylp n n hc AGX hn hst) fun v σ H Q wY=>by
  obtain⟨F,Γ,P,d,R,r,h,k⟩:=wY;cases d with
  | BM ds=>
   show T0 a r;exact⟨a,vs,Z,sW R.g hq,Q_ L_ AS,F,Γ,P,ds,R,rs,Au,k⟩
  | _=>show AU9
def N5(te:bO)(g:tG):aC:=ANJ (g d Ω LZ E)
theorem yf1(he:M0)(hg:AWF)(hs:AQO A7H [tg] e:=by rfl)(hw:A7I [tg] e Be=IC Ε:=by rfl)
  (h1:AVM [tg] [AcE tg]:=by rfl):AZ5 tg e (N5 te g):=fun z E cx=>
 uH (DH ygh LP (N_ hg) hs hw h1) (ag wZ wZ (Qb ⟨F1,Ω,_,d,R1,r1,h1,BR2 (SO R2 Ty p)⟩))
def abI(i j:Ζ)(mT):aC:=sQ t ds (ů [x,y] (LZ ((yz i (.pu x)).set j (.pu y))))
def Fy(c:TT2)(tb:aC):aC:=fun D Γ E=>∃W:Ae7,(∃m,W m Γ)/\∀m Γ,W m Γ ->
 c Γ (fun b Ω=>(Os b (tb (AQx BEp BEp) Ω E) (LZ Ω))) E
theorem yej(hc:aa c tc)(hb:AV6):bt BKe (Fy tc tb):=fun z E cx=>
 uH (yc8 cx.po ATD (hb z E cx)) (kq D Fi (by
  obtain⟨F,Γ,D2,R,⟨W,⟨m,w0⟩,j'⟩,k⟩:=Fi;refine⟨fun m σ H=>∃F1 Ω,km F1 H Ω/\gm/\W m Ω,⟨m,F,Γ,R,r_,w0⟩,kq m Cb ?_⟩;obtain⟨F1,Ω,v⟩:=Cb;refine⟨F1,Ω,_,EN,j' m Ω Sk,fun b A_ F2 H2 R2 s2 q=> ?_⟩;cases b with
  | Θ=>
   rw[My] at q⊢;refine⟨fun CS H' =>(AaG (∃F3 Γ3,SR AE F0 H0 F3 H' CS Γ3/\bj F3/\W m' Γ3)),fun CS H' z=>z,F2,A_,_,R2,q,AHt (AWp hz (by show Ă m' hz;exact⟨m',BE,F3,Γ3,R3,BKI,D5⟩)) (AWp p (SO R3 (ArJ (kH s3)) p)) (AWp hz (AUH m' ⟨m',Ν,F3,Γ3,R3,BKI,AI⟩))⟩
  | Τ=>
   rw[AGe] at q⊢;exact SO R2 (ArJ s2) q))
def abJ(K:Φ)(tl:TE):TI:=BLd ((∃xs,nG K H1 a xs)/\AWH QB) ((∃xs,ur K H1 a xs)/\AWH SN)
theorem yk1(hl:PE X l tl):vF l (abJ AE tl):=by
 show Eg R;refine AMQ hl (tz Sx);show W' Sx;obtain⟨a,e,q⟩:=q1;subst e;cases r1;rcases q with ⟨⟨xs,hq⟩,q⟩ | ⟨⟨xs,hq⟩,q⟩
 ·show BP6 q
 ·show BPt q
def Hl(ds:AJ)(g:tG)(tb:aC)(D0:pY)(E:XW)(Γ:G2):Ι:=∃I:Ae7,I 0 Γ/\
 (BPo BG4)/\∀Γ,I Kx Γ ->D0.nx Γ
def w7(te:bO)(g:tG)(tb:aC):aC:=AJO D0 te d (ò d AAo A3t dy A3t)
theorem N6(hc:HV)(hi:Dx Nw te)(hg:AWF)(hb:AV6)(AF'):
  Ak6 Nw w7 te:=fun z E cx=>
 uH (Ak2 (xN yk1 hi) WI hs) (AQs J6 J6 (Qb (by
  have OT:∀(ds:AGK) (vs:AL),AJy F1 ds ->∀I:Ae7,(BPo A0w) ->
    ∀(i:Ζ) x σ H,kg vs ->(Aqy) ->upG AE F0 H0 g E x σ H (AQr (upS AE F0 H0 tb E (AZ2 Dn A2t A2t Dn.nx) σ2 H2)):=by
   rintro ds vs rs I j' i x σ H hx ⟨F2,A_,R2,s2,hI⟩;show DO d m (z0f rs hx) ⟨F2,A_,_,d,R2,(m.2).up s2,j' i d A_ m.1 hI,AWp p ⟨F3,Γ3,A0w,R3,p,AHt Ak8 (Apn (SO R4 (rV (AiS s4)) q)) Ak8⟩⟩
  cases d with
  | A8 ds=>
   show AUk;obtain⟨I,u⟩:=h1;refine Me a (ù ⟨vs,ϭ⟩ (ydc (xs:=vs) BBk (A3N u.1) (fun i σ H _ hz=>by obtain⟨F2,A_,t⟩:=hz;exact (t.1).g.seq ((t.2.1).seq hq)) (OT ds vs rs I u.2.1) ?_))
   show A5d;exact SO R2 Ty (u.2.2 _ BMy)
  | BM ds=>
   show AUk;show Ă I h1;refine Me a (aI ⟨vs,Af1⟩ (yi5 (xs:=vs) BBk (A3N BE) (fun i σ H _ hz=>(dP F2 A_ hz (sW (Ν).g (sW A3 hq)))) (OT ds vs rs I EM) ?_))
   show A5d;exact SO R2 Ty (Kb _ BMy)
  | _=>show dv)))
def N7(lo:BI)(n:Ζ)(g:tG)(tb:aC)(D0:pY)(E:XW)(Γ:G2):Ι:=∃I:Ae7,I 0 Γ/\
 (∀(i:Ζ) Γ,i<n ->I i Γ ->ArY AtE (tb BG4 A4 E))/\∀Γ,I n Γ ->D0.nx Γ
theorem yf6{K:Φ}{F1 H1:Hp}{Ω:G2}{σ:St}{lo:BI}{n:Ζ}{tb:aC}{D2:pY}{D:ei}{E:XW}(R1:qo F1 H1 Ω)(h:N7 lo n g tb D2 E Ω)(k:AiF F1):
  AOD Sb σ H1 (∀i m σ H,AOM σ ->AWh (AOF Ň) (AOF go) (Apc (AOF yld) (qk upG g E x σ H' (AQr (upS K F0 H0 tb E (AQx N N) σ2 H2))))):=by
 show C6 I h;refine z91 (lo:=lo) (n:=n) (fun i σ H=>∃F2 A_,qo F2 H A_/\AaN/\I i A_) (A3N Ν) ?_ ?_
 ·rintro i σ H hi ⟨F2,A_,R2,s2,hI⟩;exact⟨F2,A_,_,.AF ARv,R2,SW,A3 i A_ hi hI,AWp p ⟨F3,Γ3,_,R3,p,AHt Ak8 (Apn (SO R4 (AiS s4) q)) Ak8⟩⟩
 ·show A5d;exact SO R2 s2 (CO _ hI)
def Df(BBP):aC:=AJO D0 t ds (ů [sd] ((AEe<=j/\AbX)/\N7 0 yA g tb D0 E Ω))
theorem z1w(hc:HV)(hgl:BZJ)(hm:BZB)(ha:AKZ)(hg:AWF)(hb:AV6)
  (hst:GU [a]= ALV a:=by rfl) (hs:AaH BFn:=by intro _;rfl):Ak6 BFn Df t:=fun z E cx=>
 uH (Ak2 (z92 hgl hm KK hst) WI hs) (ag J0 J0 (ADl (by
  split at h1
  ·rename_i j;show AJ6 Z r1;exact⟨j,Z,mM.1,mM.2,BRc⟩
  ·exact BZT)))
def J7(BBP):aC:=AJO D0 t ds (ů AUq ((A4r)/\N7 i A0R g tb D0 E Ω))
theorem yjr(hc:HV)(hgl:BZJ)(hm:BZB)(ha:AJI Zp)(hg:AWF)(hb:AV6)
  (hst:GU Zp= BJK:=by rfl) (hst2:GU [b]= ALV b:=by rfl) (hs:AaH BKm:=by intro _;rfl):Ak6 BKm J7 t:=fun z E cx=>
 uH (Ak2 (z9e hgl hm KK hst hst2) WI hs) (ag J1 J1 (ADl (by
  split at h1
  ·rename_i i j;obtain⟨v,_,Z,Z,v2,_,Z,Z,Z⟩:=r1;exact⟨i,j,Z,mM,BRc⟩
  ·exact BZT)))
#where
abbrev dD:=AJ ->kT (nS) XV
inductive QX (A5m dD):Ι
 | mk:BQ3 (A3Z h_ (P d)) QX
def pL(K:Φ)(sp:dD):Sp:=fun vs H Q E=>(ALP QX)
def aF(Axm):bO:=UU (Ah7 d)
section
variable{X:Cx}{F0 H0:Hp}{e:AG}{es:CY}{AB p:AR}{x:Ξ}{f:Η}{fd:ET}{ps:AA}{k:Ζ}{sp:dD}{t:dH}
theorem N8(BT6)
  (I:ANp) (R:Ī) (r:AFy) (rs:Acv) (h:sp ds P fun C=>E Γ C) (hQ:A3Z BWt (P d)):
  BHw:=by
 have hs:pL AE sp vs H Q BMR:=⟨F,ds,P,_,R.g,rs,h,hQ,AlA⟩;have hl:AGY us=YO:=A0h ANM
 have hbs:=hb s us VA hl;show ģ;refine AOI (A3q AK5 us vs) AnF r hs;cases r with
 | YN e=>exact cx.px Μ σ Γ F H s e s' I R hq
 | ok fl=>
  cases fl with
  | DM u=>exact AnG hq
  | MG=>show RE
  | brk=>show RE
  | No=>show RE
theorem z8s(Fn:AdL Ap2)(hr:UB)(hg:KU)(hm:Apf f)(hk:Alh AE ï=Θ)(hb:AGD)
  (ha:RA) (hU):
  Awx:=by
 show w4;show BV (ANv hm) (AWu hk (Ah7 d) Ahg);show Aw6;refine AMI;exact N8 Fn hr hb cx I1 R1 r rs q A3a
#where
def aG(n:Ζ)(ds:AJ):G2:=BLa (n - Kx)
abbrev ji(N:AA)(ds:AJ):G2:=aG AIf ds
theorem Zh{K:Φ}{F0 H:Hp}{N:AA}{ds:AJ}{vs:AL}(h:č F0)(r:BKT):SR K F0 H F0 H Age AUi:=by
 have hl:=lY r;refine⟨AYx h,by simp [AIw,ji,aG,hl],P6 i s,fun i j a e _=> ?_⟩
 ·unfold ji aG at e;unfold AIw;by_cases hi:AGZ
  ·show ARQ ACk M_
   cases q:ds[i]? with
   | Ε=>show IP;cases e
   | Β d=>
    show IP;cases e;show AQ v y (zm r q);show BNY ⟨Adh,?_,v,Z,AI⟩ Ν
  ·show BQ2 ⟨Ε,?_,N2⟩ (by show Apz;exact Cc)
 ·exfalso
  obtain⟨s,o,e,_,hs⟩:=e;unfold ji aG at e;by_cases hi:AGZ
  ·show ARQ ACk M_
   cases q:ds[i]? with
   | Ε=>show IP;cases e
   | Β d=>show IP;cases e;exact hs
  ·show BXF
   split at e
   ·cases e;exact hs
   ·cases e
section
variable{P:A6}{w:AZ}{K:Φ}{mg:DT}{B9:AN}
theorem zox{N:AA}{D_:Ξ}{sc:ME}{f:Η}{cdv:AD}{A:B6}{CF:I_}{s:AC}{F0 H:Hp}{E:XK}{Ex:iO}(hE:NK K F0 H Ex E):Ctx ((AoU sc).wsh (HG (AoU sc).xe)) F0 H (Cn Ex):=by
  show BV ⟨fun Μ σ Γ F H1 s1 e s' I R hx=> ?_,A'p⟩ BU4;show UK A4 F' x z;exact hE x C dx F' H' uS (Ν).gr ED
#where
section
variable{P:A6}{w:AZ}{K:Φ}{mg:DT}{B9:AN}
theorem gQ(ABm){st:AM}{f:Η}{fd:ET}{N ps:AA}{k:Ζ}{sp:dD}(Fn:AX x D_ st)(S:AhQ)(len:AWo)
  (pz:AWw (∀F0:Hp,
   Akp wy (Axk (t APv AUi y8)))):
  AEo OQ pL:=by
 show AHw g APN;refine AWv CC g.2 AlC DL
 ·obtain⟨F,ds,P',Ex,_,rs,hs,_⟩:=Ch;rw[<- L_];exact AhA
 show A5k;show AAX t AlN;have cx:=AlU;exact A5O A2K A5l
#where
def Ey(i:BI):Ζ:=A8M i
theorem ykc(h:BMV):BZ2:=by
 show BD Ey;unfold IntMulOk;intro z;show Aw9 z;have z2:=z.2;unfold Builtin.Int.intTooBig at z2;have hb:bitsLine=134217728:=SW
 rw[hb] at z2;have:=AY9 z2;omega
theorem QZ(h:AmX<2^k):Ey i<=k:=by
 unfold Ey A8M;split
 ·exact aS
 ·show WU;have n0:BZA:=DB (by
   have:i=0:=BYe;subst At;exact q Z)
  have:=(A8N n0).mpr h
  assumption
theorem yna(h:Ey i<=k):AmX<2^k:=by
 unfold Ey A8M at h;show EO
 ·show WU;have:i=0:=C9 q
  subst At;exact Nat.two_pow_pos k
 ·show WU;have n0:BZA:=DB (by
   have:i=0:=BYe;subst At;exact q Z)
  exact(A8N n0).mp ALk
section
variable{X:Cx}
theorem z27{f:AHm}{C:AVo}{v:Af2}{d:AUQ}{g:FC}(ho:lE X f (rI C v))(hg:∀x y P,g x y P ->A3r AOC)(hd:BMq):lE X f (AJL g):=by
 rintro Μ s σ H x y u w Q I rx ry ⟨F,d1,d2,P,sF,r1,r2,h,k⟩;show IJ i j Z p (hg _ _ _ h);show Ā;exact Akg ho ⟨i,j,Z,Z,AK,zk (hd i j F) BS⟩
theorem zr1{f:AHm}{v:Af2}{d:AUQ}{g:FC}(ho:lE X f (QC v))(hg:∀x y P,g x y P ->A3_ AOC)(hd:BMq):lE X f (AJL g):=by
 rintro Μ s σ H x y u w Q I rx ry ⟨F,d1,d2,P,sF,r1,r2,h,k⟩;show IJ i j Z hp (hg _ _ _ h);show Ā;exact Akg ho ⟨i,j,Z,Z,zk (hd i j F) hp⟩
def wI(C:AVo)(d:AUQ):FC:=ASt E5 sd (C i j/\AOC)
theorem yiu(h:wI C d x y P):A3r AOC:=by
 show BD wI;show EO
 ·exact PF _ Z h
 ·exact Cf
def Ii(d:AUQ):FC:=ASt E5 sd AOC
theorem z4g(h:Ii d x y P):A3_ AOC:=by
 show BD Ii;show EO
 ·exact PF _ Z h
 ·exact Cf
def fZ:FC:=Ï (match x,y with
 | E5,sd=>WS (i+j)
 | .Ψ i,.Ψ j=>AzA/\AAp AiY
 | _,_=>D6)
theorem qe:AHK Add fZ:=by
 rintro Μ s σ H x y u w Q I rx ry ⟨F,d1,d2,P,sF,r1,r2,h,k⟩;show BD fZ;show EO
 ·show Ā;exact Akg yk0 (PF _ Z li)
 ·show Ā;exact Akg z62 ⟨_,_,Z,Z,AS,ATx⟩
 ·exact Cf
def uE:FC:=Ii (ii (i - j))
theorem Q5:AHK Sub uE:=AkL ymw
def Dg(Aj1):Ι:=Ey i<=64\/Ey j<=64\/BMV
theorem Dg.ok(h:Dg i j):BZ2:=by
 rcases h with h | h | h
 ·exact .of_left h
 ·exact .of_right h
 ·exact ykc h
def j7:FC:=wI Dg (ii (i*j))
theorem yX:AHK Mult j7:=z27 (C:=Dg) (v:=ii (i*j)) (opI fun i j _ _ _ _ _ hc q=>mul_int q hc.ok) AtB Aa8
def BJ:FC:=wI (KE j AyR) (ii (i.fdiv j))
theorem V1:AHK FloorDiv BJ:=z27 (C:=MY j AyR) (v:=ii (i.fdiv j)) (opI fun i j _ _ _ _ _ hc q=>floordiv_int de q (.AV (PyProof.noPylong_of_log2 (by
 have:=yna hc.2;exact(A8N (P_ (de (Bbv z)))).mpr At)))) AtB Aa8
def jP:FC:=wI Awe (ii (AO1 j))
theorem xg:AHK Mod jP:=z27 (C:=MY j (j≠0)) yhn AtB Aa8
def abK:FC:=wI aa5 (ii (i^yA))
def Q6:FC:=Ii (AR4 (i<j))
theorem J8:oa Lt Q6:=AkL yni
def Oa:FC:=Ii (AR4 (i<=j))
theorem Ij:oa LtE Oa:=AkL ynm
def Ob:FC:=Ii (AR4 (j<i))
theorem Ik:oa Gt Ob:=AkL yoc
def gGe:FC:=Ii (AR4 (j<=i))
def Ax:Atf | BC=>Θ | _=>Τ
theorem z77(Aj')(r:NL):Κ (v= BC)=Ax d:=by
 cases d with
 | non=>subst r;rfl
 | bl _=>subst r;rfl
 | AF _=>subst r;rfl
 | Ψ _=>subst r;rfl
 | BM _=>show AWV
 | A8 _=>show AWV
 | exc _=>show AWV
 | ptr _=>subst r;rfl
 | DJ _ _ _=>obtain⟨a,_,_,Z,_⟩:=r;rfl
 | eN _ _=>show AWV
 | jA _ _=>show AWV
 | vH _ _=>obtain⟨a,_,_,Z,_⟩:=r;rfl
def Zi:FC:=BNw (P (.bl (Ax x))) (c==d)
def J9:FC:=BNw (Ϟ (! Ax x)) (c !=d)
theorem abL:oa Is Zi:=by
 rintro Μ s σ H x y u w Q I rx ry ⟨F,d1,d2,P,sF,r1,r2,h,k⟩;show BD Zi;show EO
 ·have e:=z77 r1;show Mo r2 (ylv Μ s σ H x _ u w Q I rx ry BDt)
 ·show BOj is_bool
 ·exact Cf
theorem yn1:oa IsNot J9:=by
 rintro Μ s σ H x y u w Q I rx ry ⟨F,d1,d2,P,sF,r1,r2,h,k⟩;show BD J9;show EO
 ·have e:=z77 r1;show Mo r2 (yhx Μ s σ H x _ u w Q I rx ry BDt)
 ·show BOj isnot_bool
 ·exact Cf
mutual
def jw:BH'
 | BC,b=>(AJx BC Θ)
 | .bl a,b=>(AUO d4)
 | ATE,b=>(AUO ATF)
 | AK1,b=>(AUO AR')
 | LO,b=>(AJx ATW uk)
 | IL,b=>(AJx nk uk)
 | .exc a,b=>(AUO (.exc b))
 | .ptr a,b=>(AUO (.ptr b))
 | .DJ C fs xs,b=>(AJx (.DJ C' fs' ys) (Κ (C=C')&&Κ (fs=fs')&&uk))
 | r8 xs,b=>(A2k eN)
 | sN xs,b=>(A2k jA)
 | AgZ,b=>(A2k vH)
def jy:AJ ->AJ ->AO
 | [],[]=>Θ
 | Sn,y::ys=>jw x y&&uk
 | _,_=>Τ
end
@[simp] def kd:D ->Ζ
 | BC=>0
 | ST=>1
 | UN=>2
 | We=>3
 | AS'=>4
 | dq=>5
 | _=>6
@[simp] def Dh (d d' :D):AO:=kd d<6&&kd d' <6&&(kd d !=kd d' || kd d<4)&&(kd d !=1 || kd d' !=2)&&(kd d !=2 || kd d' !=1)
def uw:Ζ ->Do D D
 | n+1,LO,ATW=>Ajg
 | n+1,IL,nk=>Ajg
 | _,d,d' =>AhI
#where
mutual
theorem zr0:∀d:D,jw d d=Θ
 | BC=>AL'
 | ST=>AL'
 | UN=>AL'
 | We=>AL'
 | LO=>Fu (Td xs)
 | IL=>Fu (Td xs)
 | vv=>AL'
 | Č=>AL'
 | .DJ _ _ xs=>Ai6
 | .eN _ xs=>Ai6
 | .jA _ xs=>Ai6
 | .vH _ xs=>Ai6
theorem Td:∀ds:AJ,jy ds ds=Θ
 | []=>ATR
 | So=>AvS jy (zr0 d) (Td ds)
end
theorem zxs:A1r (B5=OX ->(∀e:Ζ ->AO,(Aa4 (e i=jw x y)) ->ANm B5 e=uk))
 | [],[],_,_,_=>ATR
 | Sn,y::ys,hl,e,he=>by
  have ih:=zxs (xs:=xs) (ys:=ys) Ad8 (Ϝ (e (i+1))) (BSQ he)
  rw[IY,List.range_succ_eq_map,AYp,List.all_map];rw[he 0 x y Z Z]
  congr 1
theorem zx6:A1r (B5≠OX ->EE uk)
 | [],[],h=>AML h
 | [],EH,_=>ATR
 | EH,[],_=>ATR
 | Sn,y::ys,h=>by
  unfold jy;rw[zx6 (DB (AQ7 h)),AnJ]
theorem yal:A1r (AFb OX ->(Aa4 (jw x y=Θ)) ->Aj0)
 | [],[],_,_=>ATR
 | Sn,y::ys,hl,h=>AvS jy (h 0 x y Z Z) (yal Ad8 (BSQ h))
section
variable{X:Cx}{Μ:fB}{σ:St}{F H:Hp}{s:AC}
theorem z0g(I:AW){a:Η}{xs ys:AL}(h:Axh)(h' :ur AE H a ys):D6:=by
 obtain⟨AH,_,⟨o,n,e,c,_,_⟩,_⟩:=AsD;obtain⟨bX,_,⟨o',e',c',_⟩,_⟩:=j_ h';rw[e] at e';cases e';rw[c] at c';injection c' with c';exact Iy c' BF
theorem zr5{n:Ζ}{d d' :D}(hc:AjW):AhI\/ (BSd BM (d' = .BM ys))\/
  BSd A8 (d' = .A8 ys):=by
 unfold uw at hc;split at hc
 ·exact AAi BR'
 ·exact tm BR'
 ·exact .AV hc
theorem yf5(I:AW)(sF:PZ):∀(n:Ζ) (d d' :D) (v:V),BKY AjW:=by
 have flat:∀(d d' :D) (v:V),BKY AhI:=by
  intro d d' v hf r r';cases d with
  | non=>simp only [Rep] at r;subst r;cases d' <;>simp only [Rep] at r' <;>first | rfl | (cases hf;done) | (cases r';done) | show BWs
  | bl=>show A3u
  | AF=>show A3u
  | Ψ=>show A3u
  | BM=>show BTQ (qB h2) (sW sF h1)
  | A8=>show BTQ (qB h1) (sW sF h2)
  | _=>cases hf
 intro n;induction n with
 | e_=>
  intro d d' v hc r r';show BYI h h h
  ·exact BS9
  ·cases h
  ·cases h
 | fA n ih=>
  intro d d' v hc r r';have go:∀{xs ys:AJ} {vs us:AL},JJ (vs=us) (sq xs vs) (sq ys us) Ajg Aj0:=by
   intro xs ys vs us e r1 r2 hc;subst e;refine yal (by rw[lY r1,lY r2]) fun i x y h1 h2=> ?_
   show AQ v1 p (zm r1 h1);show NW v2 w (zm r2 h2) e2 BE;rw[AK] at e2;cases e2;exact ih x y v1 (hc i x y h1 h2) BS D5
  rcases zr5 hc with h | ⟨_,xs,ys,h,Z,Z,hc⟩ | ⟨_,xs,ys,h,Z,Z,hc⟩
  ·exact BS9
  ·cases h;show IJ a vs h1 q1 r;obtain⟨b,us,z,h2,q2⟩:=r';cases z;exact go (A7M (sW sF h1) (sW sF h2)) q1 q2 hc
  ·cases h;show IJ a vs h1 q1 r;obtain⟨b,us,z,h2,q2⟩:=r';cases z;exact go (AYa (qB h1) (qB h2)) q1 q2 hc
structure EqD (A:B6) (s:AC) (v u:AD) (b:AO):Ι where
 eq:A7q A s v u b
 rc:SeqAt.RcAt A s v u b
 ne:Bbw A s v u (! b)
theorem z7w{n m:Ζ}(e:Ζ ->AO)(h:n=m):(ANm (min n m) e&&n==m)=ANm n e:=by
 subst h;simp
def Kn(s:AC):Adl D
 | BC,v=>v= CI
 | d4,v=>v= .js b
 | E5,v=>∃t,v= .AF i t
 | dS,v=>∃t,v= .Ψ x t
 | AS',v=>BKQ (IsTup A7 l is)
 | dq,v=>BKQ (Ap1 is)
 | _,_=>IS
theorem kn(I:AW)(sF:PZ){d:D}{x:V}{v:AD}(r:AhE)(rv:i0):Kn s d v:=by
 cases d<;>simp only [Rep] at r<;>try trivial
 case non=>subst r;cases rv;rfl
 case bl=>subst r;cases rv;rfl
 show BJ1 AF
 show BJ1 Ψ
 case BM=>
  show AFc l vs h r;cases rv;show Ă is (AWR h);exact⟨l,Z,_,EM⟩
 case A8=>
  show AFc l vs h r;cases rv;show C6 is (pk (qB h));exact⟨l,Z,_,Acg⟩
theorem yad{A:B6}{d d' :D}{v u:AD}(hu0:AeV)(hf:AhI)(a:Kn s d v)(b:Kn s d' u):BMm:=by
 cases d with
 | non=>
  show ND a;cases d' with
  | non=>show oy (.same _) .none_none .none_none
  | bl _=>show oy AsP AsP AsP
  | AF _=>show AQj AtW AtW AtW
  | Ψ _=>show AQj AtX AtX AtX
  | BM _=>show AEz AwB AwB AwB
  | A8 _=>show AEz AwC AwC AwC
  | _=>cases hf
 | bl _=>
  show ND a;cases d' with
  | non=>show oy AsQ AsQ AsQ
  | bl _=>show oy AtY AtY AtY
  | Ψ _=>show AQj Aus Aus Aus
  | BM _=>show AEz AwF AwF AwF
  | A8 _=>show AEz AwG AwG AwG
  | _=>cases hf
 | AF _=>
  show AZl a;cases d' with
  | non=>show oy AtZ AtZ AtZ
  | AF _=>show Ake int_int int_int int_int
  | Ψ _=>show Ake int_str int_str int_str
  | BM _=>show Akh A8O A8O A8O
  | A8 _=>show Akh A8P A8P A8P
  | _=>cases hf
 | Ψ _=>
  show AZl a;cases d' with
  | non=>show oy Ata Ata Ata
  | bl _=>show oy Aut Aut Aut
  | AF _=>show Ake str_int str_int str_int
  | Ψ _=>show Ake str_str str_str str_str
  | BM _=>show Akh A8Q A8Q A8Q
  | A8 _=>show Akh A8R A8R A8R
  | _=>cases hf
 | BM _=>
  show AoR k1 a;cases d' with
  | non=>show oy AwD AwD AwD
  | bl _=>show oy AwH AwH AwH
  | AF _=>show Akf A8S A8S A8S
  | Ψ _=>show Akf A8T A8T A8T
  | A8 _=>show AEz AwQ AwQ AwQ
  | _=>cases hf
 | A8 _=>
  show AoR k1 a;cases d' with
  | non=>show oy AwE AwE AwE
  | bl _=>show oy AwI AwI AwI
  | AF _=>show Akf A8U A8U A8U
  | Ψ _=>show Akf A8V A8V A8V
  | BM _=>show AEz AwR AwR AwR
  | _=>cases hf
 | _=>cases hf
theorem Zj(I:AW)(sF:PZ):∀(n:Ζ) (A:B6) (d d' :D) (x y:V) (v u:AD),ACi+n+1<Ō ->AjW ->BQ AhE (sg d' y) i0 PU BMm:=by
 intro n;induction n with
 | e_=>
  intro A d d' x y v u hu hc r r' rv ru;show BYI h h h
  ·exact BPs Adw
  ·cases h
  ·cases h
 | fA n ih=>
  intro A d d' x y v u hu hc0 r r' rv ru;have hu0:AeV:=BG
  rcases zr5 hc0 with h | ⟨_,xs,ys,h,Z,Z,hc⟩ | ⟨_,xs,ys,h,Z,Z,hc⟩
  ·exact BPs hu0
  ·show BTO;show tj is1 yb (AWR h1) is2 ya (AWR h2);have el1:is1.length=B5:=by rw[<- Cl vc,lY q1]
   have el2:is2.length=OX:=by rw[<- Cl ya.1,lY q2]
   have at_:∀j (g1:BY6) (g2:BY7),BRq:=by
    intro j g1 g2;show D1 g1' ATa (ARH el1 g1) g2' (j<OX) (ARH el2 g2) e1 (SZ xs xs[j]) (DS g1') e2 BEJ (DS g2')
    show tj w1 f (zm q1 e1) w2 l (zm q2 e2);show tj z1 m ((vc).get f.1) z2 t ((ya.1).get l.1);have y1:Aqd=z1:=AjY m.1
    have y2:Aqe=z2:=AjY FK
    simp only [e1,e2];rw[y1,y2];exact(ih ř _ _ w1 w2 z1 z2 BBa BSb f.2 l.2 m.2 t.2).eq
   show BEm;have same:l1=l2 ->Aj0:=ln (by
    have z:=yf5 I sF (n+1) Z_ Aed Adb (AbY uw hc) BM9 BQe
    exact z)
   have ev:(ANm (min ACs APO) (fun j=>Aru)&&ACs==APO)=uk:=by
    have s1:ø ACs:=DS el1
    have s2:APO=OX:=DS el2
    rw[s1,s2];by_cases hl:B5=OX
    ·rw[z7w _ hl];exact zxs hl _ fun i a b z1 z2=>BCg
    ·rw[zx6 hl,AY_ hl,AnJ]
   have rc:=BOJ SeqAt.RcAt.tuples;have rn:=BOJ SeqAt.RcNeAt.tuples;rw[ev] at rc rn;refine⟨?_,rc,rn⟩;by_cases e:l1=l2
   ·rw[same e];subst e;exact Asq
   ·exact BEV
  ·show BTO;obtain⟨is1,p1,k1',_⟩:=pk (qB h1);obtain⟨is2,p2,k2',_⟩:=pk (qB h2);have k1:=k1'.isList;have k2:=k2'.isList;have el1:is1.length=B5:=by rw[<- p1.length,lY q1]
   have el2:is2.length=OX:=by rw[<- p2.length,lY q2]
   have at_:∀j (g1:BY6) (g2:BY7),BRq:=by
    intro j g1 g2;show D1 g1' ATa (ARH el1 g1) g2' (j<OX) (ARH el2 g2) e1 (SZ xs xs[j]) (DS g1') e2 BEJ (DS g2')
    show tj w1 g (zm q1 e1) w2 q (zm q2 e2);show ADf z1 p p1.get CC z2 w p2.get DD;have y1:Aqd=z1:=AjY AK
    have y2:Aqe=z2:=AjY BE
    simp only [e1,e2];rw[y1,y2];exact(ih ř _ _ w1 w2 z1 z2 BBa BSb g.2 FL BS D5).eq
   show BEm;have same:l1=l2 ->Aj0:=ln (by
    have z:=yf5 I sF (n+1) sx AtN Adb (AbY uw hc) BM9 BQe
    exact z)
   have rcn:SeqAt.RcAt A s Adb (B0 l2) (jy xs ys)/\Bbw A s Adb (B0 l2) (! uk):=by
    by_cases hl:B5=OX
    ·have ev:ANm ACs (fun j=>Aru)=uk:=by
      have s1:ø ACs:=DS el1
      rw[s1];exact zxs hl _ fun i a b z1 z2=>BCg
     have hz:ACs=APO:=BLp
     have rc:=SeqAt.RcAt.lists k1 k2 hz hu0 at_;have rn:=SeqAt.RcNeAt.lists k1 k2 hz hu0 at_;rw[ev] at rc rn;exact⟨rc,rn⟩
    ·have hz:(ACs !=APO)=Θ:=BLp
     rw[zx6 hl];exact⟨SeqAt.RcAt.lists_lengths k1 k2 hz hu0,SeqAt.RcNeAt.lists_lengths k1 k2 hz hu0⟩
   show PQ rc rn rcn ⟨?_,rc,rn⟩;by_cases e:l1=l2
   ·rw[same e];subst e;exact Asq
   ·exact BEV
def pN:FC:=Ï (uw 20 x y/\Ϟ (jw x y))
def Ay:FC:=Ï (uw 20 x y/\Ϟ (! jw x y))
theorem gV(hu:AJf AYt):oa Eq pN:=by
 rintro Μ s σ H x y u w Q I rx ry ⟨F,d1,d2,P,sF,r1,r2,h,k⟩;exact lS (Zj I sF 20 X.A d1 d2 x y u w hu AS r1 r2 rx ry).rc (è ATx)
theorem qg(hu:AJf AYt):oa NotEq Ay:=by
 rintro Μ s σ H x y u w Q I rx ry ⟨F,d1,d2,P,sF,r1,r2,h,k⟩;exact lS (Zj I sF 20 X.A d1 d2 x y u w hu AS r1 r2 rx ry).ne (è ATx)
#where
theorem ydr(A3H)(X:Sl)(q:AA_)(D:Η){nm qn:Ξ}{N:Η}{bs bm:An}{kG:AO}{sn:AA}{sub:An}{ab:AO}{col:AsJ}{dd:NM}{k0 k1 k2 k3 k5:cq}{newId:Ff}
  (e:BXM newId):(A1K).AOz Ada=vx D:=by
 obtain⟨_,_,_,_,_,_,_,_,ho,_,_,_⟩:=z35 q;have z:=AxF;rw[e] at z;unfold aq;rw[ho];cases z
 rfl
section
variable{M:AIU}{A:B6}{E:fu}{h:AN}{g:AK3}{d:Drawn}{t:Ζ}{os:AH0}
 {nm q nm' q' :Ξ} {C N C' N' :Η} {bs bm bs' bm' :An} {kG Q7 :AO} {sn sn' :AA} {sub sub' :An} {ab ab' :AO} {col col' :AsJ} {dd QJ :NM} {k0 k1 k2 k3 k5 j0 j1 j2 j3 j5:cq} {newId newId' :Ff}
theorem z05(hC:Ϧ C (Am8 nm q C N bs bm kG sn sub ab col dd k0 k1 k2 k3 k5 newId))(hD:Ϧ C' (Am8 nm' q' C' N' bs' bm' Q7 sn' sub' ab' col' QJ j0 j1 j2 j3 j5 newId'))
  (he:cE oe) (hcls:Am6= .AT C) (J':bm'.contains BYw=Θ) (hq:Q ((A1K).AOz (.AT C')) w9):AOK (excMatches EX (B0 C')) Q w9:=by
 have cb:(Pp C' ::bm').AOz BYw=Θ:=by rw[List.contains_cons,J',Bool.or_true]
 have nt:=tc_notTuple;generalize hk:(A1K).AOz (B0 C')=k at hq
 repeat (first | show Aw5 he hcls | with_reducible refine Bby hD ?_ | show AqB Bbz hD cb | show AqB Bbz hC hk | wp_step)
 cases (k)<;>(wp_walk;exact hq)
#where
abbrev _root_.L2.Cx.hand(X:Cx)(a:Η):Cx:={X with A:=X.A.mark Ů,calm:=Τ}
section
variable{X:Cx}{Μ:fB}{σ:St}{H:Hp}{s:AC}{a:Η}
theorem yjq(ok:X.Ok)(a:Η):(AY' a).Ok:=
 A5s (DB (AQc z))
theorem zxh(I:AW)(a:Η):Inv ANK Μ σ H s:=AwW (yjq pf a)
theorem yam(ok:X.Ok)(z:NP):Awy:=A5s ok.hd
theorem ya9(I:ANp):Inv A1Y [] σ H s:=
 BMT (DA hp)
theorem Zk(I:Inv A1Y m5 σ H s):ANp:=
 BMT (zR _ hp)
theorem ymd{z:NP}{xe:fu}{D:ei}{f:Flow}{m5 :fB}(h:SP A1Y m5 D f s):AyJ zS:=by
 cases f with
 | MG=>show AwS g CC g.2
 | brk=>show AwS p AK BS
 | No=>show AwS w BE D5
 | DM u=>show UK v CS H' h;exact⟨v,CS,H',Zk Ν,A3,CO⟩
theorem zm9(ok:Awy)(I:Inv BJR Μ σ H s):ANp:=
 AwW ok
theorem z7p{z:NP}{xe:fu}{D:ei}{f:Flow}(ok:Awy)(h:AyJ BJR):AyJ zS:=by
 cases f with
 | MG=>show AwT g CC g.2
 | brk=>show AwT p AK BS
 | No=>show AwT w BE D5
 | DM u=>show UK v CS H' h;exact⟨v,CS,H',zm9 ok Ν,A3,CO⟩
#where
def lF:XW:=zv
theorem zq.base(ArB){D2:pY}{D:ei}(k:AiF F)(g:Akx):zq K F H0 F D2 D:=
 ⟨A5g k.nx,A5g k.bk,A5g k.ct,A5T (k.rt d v F' H' (Am5 gr) r h),A5T (k.rf d v F' H' (Am5 gr) (zwy (z58 g.f) d v r) h),fun t v as F' H' gr nd hn r h=>k.rT t v as F' H' (Am5 gr) nd hn r h,fun d v Γ F' H' σ R r h=>k.rm d v Γ F' H' σ (R.unbase g) r h⟩
section
variable{X:Cx}{Μ:fB}{σ:St}{H:Hp}{s:AC}
theorem Il:Ctx (bc ⟨zv,pn⟩) F0 H0 lF:=
 BU6 (MX _ PassesOwnAt.never)
theorem z97(I:AW)(hN:pi)(hi:D7 X.N n)(hk:Ag9 b_)(hσ:AuC)
  (h:∀s',AzX Ε ->Q () s'):vS (unbindName Be n):=by
 obtain⟨m,l⟩:=Aep;show AQ u d (l.2 i n v hi hσ AtG);have hm:m n=Β u:=by
  rcases d.2 with ⟨_,e⟩ | ⟨k,_⟩
  ·exact e
  ·have k' :Ag9 To\/Ag9 SI:=k;rw[hk] at k';rcases k' with k' | k' <;>cases k'
 show BTe (dr hσ);have cne:=I.cne;refine wpAny_unbindName_local hk l.1 hm hcls (NH h' u' hn' hs);have old:BEi:=BKj;refine h _ (BN_ (ADS ob))
 ·exact A3O At8
 ·show JO sl e1 Ajt sl (AMh At8)
 ·show JO o' e1 AV2 o' (AMh At8)
 ·have hj:AHN:=DB (by
   subst z;show Axc;cases e2)
  rw[AuT] at e2;show ALd w (A5G l.2);refine E3 w FK;show Ar1 t.2 k e k e z
  ·refine .AV AMH;have:y≠n:=ln (hj (zyd hN hi (e ▸ e1)));simp [At,e]
  ·exact Ah4 Ajh
 ·show JO w' z BAl w' Ajh
 ·obtain g:=AHI;exact⟨MZ hs AK iX CC,NU,iX,wE,iP⟩
 ·refine BFk (fun c w' hc q=>BDy) AHg ma;rintro Z;rcases hc with z | hc
  ·rw[<- z,jI] at e;cases e
  ·rw[jI] at hc;cases hc
#where
def abM(K:Φ)(Cd:Η)(tb th:aC):aC:=Aks (fun Ω Cv=>∃C,Cv.cls=C/\AA_/\Ay3/\th D Ω lF)
def Zm(BTs):aC:=Aks (fun Ω Cv=>∃C,Cv.cls=C/\AA_/\Ay3/\
 th BQn A1N lF)
def cU(g:AP1)(ta:bO):bO:=ZE ta (g d fun d' =>(E_ d'))
def qT:AP1:=fun x P=>(bq x E5 (WS (-i)))
inductive Q8 (K:Φ) (g:Pc) (vs:AL) (H:Hp) (Q:VK):Ι
 | mk:BPh BTM Q8
def tH(K:Φ)(g:Pc):oo:=AEj (Q8 K g vs H Q)
def j8(g:Pc)(t:dH):bO:=UU (g ds fun d=>(E_ d))
def cD:FC:=Ï (match x,y with
 | IL,E5=>BJU
 | LO,E5=>BJU
 | ml,E5=>∃c,ALt/\BJO/\AAp ANh
 | _,_=>D6)
theorem zx7(MC){ds:AJ}{vs:AL}{i:BI}{d:D}(r:LM)(h:Bv ds i=Β d):Axj (Bv vs i):=by
 unfold Bv at h⊢;rw[<- lY r];cases q:J2 Kx i with
 | Ε=>rw[q] at h;cases h
 | Β j=>
  show AAb q (zm r h)
section
variable{X:Cx}{F0 H0:Hp}{a b e:AG}{es:CY}{AB p:AR}{ta tb te:bO}{t:dH}{x:Ξ}
theorem Im(ha:UD):Dx (.AmL .USub a AB) (cU qT ta):=fun z E cx=>
 lN (yob ylm KK) (Hm Ch Ch (AjJ (by
  cases d with
  | AF i=>
   exact⟨i,r,AVd q⟩
  | _=>show ē)))
theorem ygi{K:Φ}{g:Pc}{E:XW}{σ:St}{H:Hp}{Q:VK}(h:Ig K F0 H0 (j8 g t) E σ H Q):BLV tH:=APw P h (BTA (fun d z F' H' gr rz hp=>k d Ω F' H' z AKj (rV KA) rz hp))
theorem pO{id:Ff}{g:Pc}(hc:ϐ d9 AEh (tH AE g))(hg:KU)(hm:ĕ)(hv:đ AEh)(ha:RA)(Ĩ)(hU):AbL j8 g:=fun z E cx=>
 lN (ANr Nv AeH hv hn hdb hpl) (Y1 ygi)
theorem cO(ha:UD)(hb:é)(hs:zxf b):ARn a b (cB cD ta tb):=fun z E cx=>
 lN (Y' yjs r (rW AE cD) (by
  rintro FF ba Μ s σ H x y v u Q I rx ry ⟨F,d1,d2,P,sF,r1,r2,h,k⟩ hs;show BD cD;show EO
  ·show T0 p r1;subst r2;obtain⟨d,m⟩:=h;obtain⟨w,n⟩:=zx7 rs m.1;exact z8j FF ba Μ s σ H _ _ v u Q I rx ry ⟨p,vs,_,w,Z,Z,qB hq,n.1,zk n.2 m.2⟩ hs
  ·show T0 p r1;subst r2;show ALd d h;obtain⟨w,g⟩:=zx7 rs FK;exact ylq FF ba Μ s σ H _ _ v u Q I rx ry ⟨p,vs,_,w,Z,Z,sW sF hq,CC,zk g.2 t.2⟩ hs
  ·show Ā;obtain⟨c,q⟩:=h;exact ylx FF ba Μ s σ H _ _ v u Q I rx ry ⟨_,_,c,Z,Z,DD,SH,AP7 ADX⟩ hs
  ·exact Cf) KK WI hs) As8
#where
def Zn:Pc:=si [E5] (WS AjZ)
def sY:Pc:=fun ds P=>(ALh ds [IL] BZi [LO] BZi AfL (D4 kC/\WS kC) D6)
def V2:Pc:=si AUq (WS Axl)
def ynt:Pc:=si AUq (WS (GV (j<i) j i))
section
variable{X:Cx}
theorem ynn:AG9 "abs" Zn:=by
 show ar;show BD Zn;show EO
 ·show ASd;exact VW ycx _ us Q I r (WC li)
 ·exact Cf
theorem vI:AG9 AH7 sY:=by
 show ar;show BD sY;show EO
 ·show Į;rw[L_] at h;exact VW zqv _ us Q I r (ABJ Aia li)
 ·show Į;rw[L_] at h;exact VW zqv _ us Q I r (ABJ Aic li)
 ·show ASd;exact VW zzn _ us Q I r ⟨_,Z,AS,ATx⟩
 ·exact Cf
theorem ykx(io):AG9 "max" V2:=by
 show ar;show BD V2;show EO
 ·obtain⟨v,_,Z,Z,v2,_,Z,Z,Z⟩:=rs;exact yb4 hc Μ s σ H _ us Q I r ⟨_,_,Z,li⟩
 ·exact Cf
#where
def tyD:P5 D Ff
 | BC=>Β "NoneType" | ST=>Β AOi | UN=>Β xi | We=>Β Pl | AS'=>Β MH | dq=>Β FE | vv=>Ε | Č=>Ε | Aur=>Ε | ic=>Ε | n_=>Ε | AAr=>Β i6
def Ka(d:D)(T:Ff):AsJ:=(tyD d).bind fun S=>BMr
def Io(T:Ff)(ta:bO):bO:=ZE ta (Ħ Aiv b (E_ ATb) D6)
theorem z6h(K K' :Φ)(S T:Ff):AO5 K AcI mP=AO5 K' AcI mP:=Z
section
variable{X:Cx}{Μ:fB}{σ:St}{F H:Hp}{s:AC}
theorem yl3(I:AW)(sF:PZ)(r:AhE)(rx:ub)(hS:tyD d=Β S)(e:BPa AcI)
  (h:BJz):BHg:=by
 cases d with
 | non=>show AlF (BC)
 | bl y=>show AlF (.bl y)
 | AF y=>show AlF (.AF y)
 | Ψ y=>show AlF (.Ψ y)
 | BM xs=>
  cases hS;show AFc a vs hq r;cases rx;obtain⟨AH,_,⟨o,h1,h2,_⟩,_⟩:=AWR hq;exact tP BbH ⟨o,h1,h2⟩
 | A8 xs=>
  cases hS;show AFc a vs hq r;cases rx;obtain⟨AH,_,⟨o,n,h1,h2,_⟩,_⟩:=ALW;exact tP A7T ⟨o,h1,h2⟩
 | exc C=>cases hS
 | ptr _=>cases hS
 | DJ _ _ _=>cases hS
 | eN _ _=>cases hS
 | jA _ _=>cases hS
 | vH ks ds=>
  obtain⟨p,o,vs,Z,hq,_⟩:=r;cases hS;cases rx;obtain⟨_,_,_,ws,_,o',es,ep,v⟩:=(AKF p AcQ p (sF _ _ hq));exact tP A7U ⟨o',EN,nL.1⟩
#where
section
variable{X:Cx}{F0 H0:Hp}{a:AG}{AB p pt:AR}{ta:bO}{x:Ξ}{T:Ff}
theorem z82(ha:UD)(hg:Atu)(hm:Atj)(Zo:KU)(hmT:ĕ)(hv:đ mP)(Ĩ)(BRd):Ayd [a,.bS x pt] (Io T ta):=fun z E cx=>by
 have pT:zi PE AqN (tC (.ty T)):=DH z71 Zo hmT hv Z hn hd;refine ARi (Nv (X:=bi) (id:= ĺ) (r:=AEj (∃(F:Hp) (d:D) (x:V) (P:GI AO),vs= [x,.ty T]/\PZ/\AhE/\ (Ħ Aiv b (P b) D6)/\BDX)) ?_ hg hm A8W A4O BF BF he) Abb AOQ
 ·rintro Μ s σ H xs us Q I r ⟨F,d,y,P,e1,sF,rd,hb,k⟩;subst e1;show HA u w Z q Aeu;show E7 (w=AIH T) FL;unfold Ka at hb;cases hS:tyD d with
  | Ε=>rw[hS] at hb;exact hb.elim
  | Β S=>
   rw[hS] at hb;cases hk:BMr with
   | Ε=>simp only [A8X,hk] at hb
   | Β b=>
    simp only [A8X,hk] at hb;exact yl3 I sF rd DD hS (z6h AE [] S T ▸ hk) fun tk=>⟨d4,H,Ņ tk,Z,k b hb⟩
 ·refine Qb ⟨F1,d,v,vb (E_ ATb),Z,HP,r1,h1,TZ hp (AVd hp)⟩
#where
def gY(C:Η)(t:dH):aC:=AJO _ t ds (AgS (E Ω OK))
section
variable{X:Cx}{F0 H0:Hp}{e:AG}{es:CY}{AB np G1:AR}{t:dH}{x:Ξ}{C:Η}
theorem Ip(hh:HV)(hg:KU)(hm:AhP)(hC:dJ AE C)(ha:RA)
  (BEM):
  bt BOs (gY C t):=by
 show AV4 D;refine Y' yeq E (fun C' dx H1=>∃F1 Ω,AKD/\E Ω OK) hg hm hC KK hh I (ADl ⟨BXT,F1,Ω,R1,ut⟩) (fun H1 s1 e s' I1 hx=> ?_) hd he hpl
 obtain⟨a,C',H',B,dx,h1,h2,h3,h4,h5,h6,h7,h8,Z,h9,Z,F1,Ω,R1,hE⟩:=hx;exact AiH _ ⟨a,_,_,B,dx,h1,h2,h3,h4,h5,h6,h7,h8,_,_,hE,AJ7 HP,Z,h9⟩
#where
structure cR (AHs) (mg:DT) (B9:AN) (x:Ξ) (k:Ζ) (ps:AA) (sp:dD):Ι where
 ex:A1a pL
section
variable{X:Cx}{F0 H0:Hp}{e:AG}{es:CY}{AB p:AR}{x:Ξ}{ps:AA}{k:Ζ}{sp:dD}{t:dH}
theorem dU(A0' cR):
  Awx:=dP f fd bd (z8s Ν hr hg A3 ED NO ha hdb he hpl)
#where
section
variable{X:Cx}{Μ:fB}{σ:St}{H:Hp}{s:AC}{a:Η}{o:HO}
theorem Inv.track(I:AW)(hn:AGp)(ok:ADW (AEQ a o) A7 a o)(n0:Y3 AYJ)(nl:BaE)(nc:uj a)(np:AKp a):N9 (AEQ a o) s:=by
 refine⟨pf,I.os,Ł,⟨AmC,AmD,LJ b u e n hx,A6r,ADS xs,ż xs e ?_,ADS ps⟩,pe,x6,?_,ANb,ae,L9,ACc⟩
 ·show ARq (Aqk n0) (AIO b u e n hx)
 ·have q:=AYM b xs e;rw[AaO];exact q
 ·have q:=AIS b u xs e;rw[AaO];exact q
 ·show JO m q BHQ m AG3
 ·rw[AR_ dj nl];exact jI
 ·rw[dj (nc x c e)];exact ACb x c e
 ·show EG AHI;exact⟨Ν,B1 (dj (np p hp)) A3,ED,Q1,uS⟩
 ·show A3X ok (AR7 Awv (fun c v _ q=>q) q AG3 q AG3)
#where
def zwz:dD:=þ (∃ns:F9,ds= [.A8 ANa]/\ASi/\Ϟ Θ)
theorem zpc(MC):∀ns:F9,Lo ANa BV_
 | []=>SW
 | n::ns=>AHh zpc ns
theorem ybz{K:Φ}{H:Hp}{a:Η}{ns:F9}(hl:ASi)(hS:Aj4):pL K zwz SY H Ay0 dc:=
 ⟨H,[.A8 ANa],fun d=>d= .bl Θ,ky,r_,M7 (CU (gv a hS (zpc ns))),⟨ns,Z,hl,Z⟩,A5T (Ar_ r),AOT _ h Cf⟩
theorem yfk(h:gC P w [] H s (dc) e s'):D6:=by
 obtain⟨_,_,_,_,_,_,_,_,_,_,_,_,_,h⟩:=h;exact h
structure DV where
 aW:Η:=0
 jB:Η:=0
 gq:Η:=0
 bC:Η:=0
 jz:Η:=0
 Missing:Η:=0
 nY:Η:=0
 V3:Η:=0
 Apart:Η:=0
 fj:Η:=0
 eV:Η:=0
 Open:Η:=0
 bG:Η:=0
 aJ:Η:=0
 bh:Η:=0
 Scale:Η:=0
 dF:Η:=0
 aA:Η:=0
 aV:Η:=0
structure wz (Ġ):Ι where
 ga:Apy AH8 xl
 gn:Afq A6O
 cl:BGt
 ob:AMW C
 be:ATp C
def tK(K:Φ)(C:Η)(ta:bO):bO:=BNn (aq K C0) C
section
open AHy PySem.Builtin PySem.Builtin.ObjectAttr PySem.Builtin.Getset_descriptor
variable{BA:A6}{w:AZ}{A:B6}{E:fu}{K:Φ}{h:AN}{g:AK3}{d:Drawn}{t:Ζ}{os:AH0}{a C:Η}{o:Obj}
theorem z25(X:Sl)(G:AGx)(hx:af)(hc:AM8)(hq:Avq C w9):
  AAS BA A (q_ BbG) (HG [.İ ACV,D8,tp]) R w9:=by
 have L0:Looks AfZ h Ayv OK:=A1n;have L1:=looks_mroIn (M:=Ń BA w) X G.ob;refine A8Y KF.slot_gs.plain KF.entry_gs (KF.slot_gs.check _ _ _ _ _ _ _ _ A8Z (KF.args_gs _ _ _) ?_);unfold Builtin.«getset_descriptor.__get__» descrGet;rw[dga_obj];refine ę;unfold descrGetter descrCheckInstance descrNameAndClass AIx;simp only [KF.owner_class]
 repeat lk
 refine⟨BCu,AKY KF.entry_class⟩
 unfold Builtin.«object.__class__» shownTypeOf
 repeat lk
 exact hq
theorem zxb(X:Sl)(G:AGx)(hx:af)(hc:AM8)(hq:Q (.MQ (ApX C)) w9):
  ABh (Builtin.«object.__getattribute__» (HG [D8,.Ψ ACU tk])) w9:=by
 have L0:Looks AfZ h Ayv OK:=A1n;show Ll L1 (AyD G.cl) f5 A8Z f6 F.slot_gs_get.lookup f7 F.slot_gs_set.lookup;have hT5:(w9:AC).TypeIs AtV "getset_descriptor" :=A8Z
 repeat (any_goals (first | assumption | show Aw5 hx hc | show BA_ | wp_step))
 refine z25 X G hx hc ?_
 show BWn
theorem zxn(X:Sl)(G:AGx)(hx:af)(hc:AM8)(hq:Q () w9):AOK (A8a xl (HG [D8,nameV])) Q w9:=by
 have hk:builtinKind xl =Β .M3:=FM
 have hsp:splitId xl =Β (AW3,AH8):=FM
 have ha:=F.args_bexc_ga EX nameV;have L1:=looks_mroIn (M:=M) X G.be;simp only [A8a,hk,hsp];refine PR;unfold AIx
 repeat (first | show Aw5 hx hc | show BA_ | wp_step)
 exact hq
theorem z8u(X:Sl)(G:AGx)(hx:af)(hc:AM8)(hq:Q (AJG C) ⟨h,g,d,t+1,os⟩):ABh (getAttr? EX ACU) w9:=by
 have L0:Looks AfZ h Ayv OK:=A1n;have L1:=AyD G.ga;have L2' :=AyD G.gn;have b3:=PySem.F.excAttr_ValueError.ga.bind EX;unfold getAttr? getAttrBy? getAttrBy;refine z6 (wpAny_mkText (z6 (AZA (x_ (z6 (L0.at (z6 (L1.at ?_))))))));have hx2:EE (BKG&&A'S ==A'T):=OM (AP0 (VQ A'S A'T)) AnJ
 show ArE hx2;unfold getAttrByItsOwn hookBefore callGetattribute;simp only [ARG (BKG=Θ),kB];refine ft L2'.at;show ArE A7L;unfold boundAndCalled;refine z6 (AZA (AtI z6 AnL b3 ?_));show KS (AnD (A8Y PySem.F.excAttr_ValueError.ga.plain F.entry_bexc_ga (zxn X G hx hc (zxb X G hx hc ?_)))) (handed_on Z (z7 hq))
theorem z48(q:AA_)(G:AGx):KitX K EX OK (AKy (∃o,af/\AM8)) where
 ty:=fun M h _ hz=>(AUH o (BWx AI Ν))
 it:=fun M h X _=>by
  obtain⟨bm,N,nm,qn,bs,kG,sn,sub,ab,col,dd,k0,k1,k2,k3,k5,e1,_⟩:=zxg X q;intro A' Q' E' s' k hq;unfold isType loadHead;exact z6 (BbF (k _ _ e1) (z7 hq))
 ne:=fun h tp dd AH n sl X htp=>by
  obtain⟨bm,N,nm,qn,bs,kG,sn,sub,ab,col,dd,k0,k1,k2,k3,k5,e1,_⟩:=zxg X q;refine Bool.eq_false_iff.mpr AGc;have e:C=tp:=Value.ref.inj (yT z);subst e;rw[e1] at htp;unfold Am8 at htp;injection htp with htp;have z2:=e9 Obj.cls htp;injection z2 with z2;exact Iy z2 BF
 ca:=fun{BA w A E Q s} X ⟨o,e,c⟩ hq=>by
  obtain⟨h,g,d,t,os⟩:=s;exact z8u X G e c hq
theorem zzg(hB:AJ_ B):∃dd cd sl bm,AQ0 B (AzW dd sl)/\Ala= .AT B::bm:=by
 unfold rO at hB;split at hB
 ·rename_i dd cd sl ho;split at hB
  ·rename_i C' bm hm;show E7 (C' =B) (C9 hB)
   exact⟨dd,cd,sl,bm,ho,hm⟩
  ·cases hB
 ·cases hB
theorem zyy(hB:rR K B):AJ_ B:=by
 obtain⟨_,_,_,_,_,_,_,_,ho,hm,_,_⟩:=z35 hB;unfold rO;rw[ho];simp only [hm];exact AnM _
theorem Q9(hB:dJ K B):AJ_ B:=zyy hB.k
theorem yj6{D:Η}(q:AA_)(qd:AJ_ D):kitOne K OK Ada=Β (aq K C D):=by
 obtain⟨dd,cd,sl,bm,w⟩:=zzg (zyy q);obtain⟨QJ,cd',sl',bm',y⟩:=zzg qd;have es:vx D=A5_ Ada:=AGO aq BE
 unfold kitOne;by_cases h:C=D
 ·subst h;rw[Fs BN,es,D5]
  simp
 ·show EL Ad6
  unfold kitCls;have c1:clsIn K D=Β cd' :=AGO clsIn Ν
  have c2:typeIn K Ada=Β (P3 "type"):=by show(i3 D).B_ (QP x.cls)=_;rw[Ν];rfl
  have c3:clsIn K C=Β cd:=AGO clsIn BE
  simp only [c1,c2,A7w,Bb2,AnM,kB];show((clsIn K C).bind fun cd=>(Os cd.mro.isEmpty Ε (Β (A5_ (Pp D)))))=_;rw[c3,es];simp only [A8X];rw[D5];simp
#where
section
variable{X:Cx}{F0 H0:Hp}{a:AG}{AB p pt:AR}{ta:bO}{x:Ξ}{C:Η}
theorem JH(ha:UD)(hg:Atu)(hm:Atj)(Zo:KU)(hT:AhP/\rO AE C=Θ)(BRd):Ayd [a,.bS x pt] (tK AE C ta):=fun z E cx=>by
 have pT:zi PE AqN (tC (.AT C)):=DH zxz Zo hT.1 Z hd;refine ARi (Nv (X:=bi) (id:= ĺ) (r:=AEj (∃(F:Hp) (C0:Η) (x:V) (P:GI AO),vs= [x,tT]/\PZ/\BGc/\ (rR AE C0/\wz AE C0)/\P (aq AE C0 C)/\BDX)) ?_ hg hm A8W A4O BF BF he) Abb AOQ
 ·rintro Μ s σ H xs us Q I r ⟨F,C0,y,P,e1,sF,rd,hx,hb,k⟩;subst e1;show HA u w Z q Aeu;have ru:=DD;show E7 (w=Pp C) FL;unfold Rep at rd;show LL b ob eb rd;cases ru;obtain⟨_,⟨o,vs,g1,g2,_⟩,_⟩:=BEe;exact A7S (z48 hx.1 hx.2) VA ⟨o,g1,g2⟩ (yj6 hx.1 hT.2) AZz fun tk=>⟨ST,H,Ņ tk,Z,k _ hb⟩
 ·refine Ę;cases d with
  | exc C0=>exact⟨F1,C0,v,vb (E_ ATb),Z,HP,r1,mM,ut,TZ hp (Ee k _ R1 s1 (by unfold Rep;rfl) hp)⟩
  | _=>show dv
#where
theorem z9f:BJl ((∀p∈JP,BFP) ->BNd pr x=acc.lookup x)
 | [],_,_,_=>Z
 | AzC,n,Ap,h=>by
  unfold yk;have hr:WF r BFP:=AV3 h;split
  ·rename_i hk;have hy:y≠x:=h (y,k) zY AqM
   rw[BIv,VM];have:VQ x y:=BYi (jS hy)
   rw[At]
  ·exact BIv
theorem z7g:∀(JP:lx) (h:AN) (Ap:ñ),AUT (yk ay JP Ap) ->AUT Ap\/ (ay<=c/\ BK8 h JP/\ BZ_ JP)
 | [],_,_,m=> .AV m
 | AzC,h,Ap,m=>by
  unfold yk at m;unfold APP;split at m
  ·rename_i hk;show AMN;have sz:ADb AYu (qq (G' "cell") (.cell Ε))=ay+1:=ALi;rw[<- sz] at m;show A3c (z7g r _ _ m)
   ·rcases AbT with e | z
    ·show OO;have e2:k= To:=C9 hk
     subst e2;refine .CB ⟨Mn,?_,zY⟩;exact Mc (A8b r _ _ _ AN3)
    ·exact AAg
   ·exact BGl (BCm ARP)
  ·rename_i hk;show EL hk;show A3c (z7g r h Ap m)
   ·exact AAg
   ·exact BGl z1
theorem zxi:BJl ((acc.Pairwise AjF) ->(∀p∈Ap,BS<n) ->BNd AnO AjF)
 | [],_,_,h,_=>h
 | AzC,n,Ap,h,hl=>by
  unfold yk;split
  ·refine zxi r _ _ (Bb4 ⟨P6 p hp,h⟩) ae
   ·have e' :n=BS:=e;exact zB _ (Nat.lt_of_lt_of_eq (hl p hp) e')
   ·show ARb hp hp AFh (AIy (hl p hp))
  ·exact zxi r n Ap h hl
def uI(CL:Env):lx ->ñ ->ñ
 | [],cs=>cs
 | Agw,cs=>uI CL r (GV (k== SI) ((n,(AOt n).Pw 0)::cs) cs)
theorem yhl(h:WF ō ApB):BLc BI_:=by
 have C_:∀(JP:lx) (cs:ñ),Axi ->
   (forIn JP cs fun(x:Ξ×AYf) (r:ñ)=>(if x.2== SI then do let a<- cellOf CL x.1;Ag_ ((x.1,a)::r) else Ag_ r:Sem _))=IC (uI CL JP cs):=by
  intro JP;induction JP with
  | DU=>intro cs _;rfl
  | AU p r ih=>
   intro cs hh;show AQ n k p;have hr:AxR:=AV3 hh;rw[Bb5];unfold uI;by_cases hk:Ays
   ·show AQ c e BOL
    have e' :cellOf CL n=IC c:=by unfold cellOf;rw[e]
    simp only [hk,kB,e',pure_bind,e,Option.getD_some];exact ih _ hr
   ·have hk' :VQ k AnP:=C9 hk
    simp only [hk',Bb1,AYo,pure_bind];exact ih _ hr
 unfold closureFor;have:=C_ ō [] h
 show ALe
theorem zw9:∀(JP:lx) (cs:ñ),Axi ->AUT (uI CL JP cs) ->AUT cs\/ (Aqn JP/\ATi)
 | [],_,_,m=> .AV m
 | Agw,cs,hh,m=>by
  have hr:AxR:=AV3 hh;rcases zw9 r _ hr m with z | ⟨z1,z2⟩
  ·split at z
   ·rename_i hk;rcases AbT with e | z
    ·show OO;have e2:k= SI:=C9 hk
     subst e2;show Ϛ c (hh (_,SI) zY Z);refine .CB (E9 zY);have e' :ATi:=e;rw[e'];rfl
    ·exact AAg
   ·exact AAg
  ·exact aI (zX _ z1) z2
theorem zr7(e:ATi):BOF ((Aqn JP\/ADT cs.lookup) ->(∀c',HR cs.lookup c' ->c' =c) ->ADT (uI CL JP cs).pr)
 | [],cs,h,_=>by
  rcases h with h | h
  ·cases h
  ·exact h
 | Agw,cs,h,hu=>by
  unfold uI;by_cases hk:Ays
  ·show AMN;by_cases hn:x=n
   ·subst hn;refine BPl (O0 ?_)
    ·rw[VM];simp [e]
    ·rw[VM] at q;simp [e] at q;exact q.symm
   ·have hb:VQ x n:=BYi hn
    refine BPl ?_
    ·rcases h with h | h
     ·rcases MO h with z | z
      ·cases (z);exact Iy Z hn
      ·exact AAg
     ·refine .CB ?_;rw[VM,hb];exact h
    ·rw[VM,hb] at q;exact hu c' q
  ·show EL hk;refine zr7 e r cs ?_ hu;rcases h with h | h
   ·rcases MO h with z | z
    ·cases (z);exact Iy Z hk
    ·exact AAg
   ·exact ALv
theorem zqp(inj:A3V ATi (AOt y=Β c)):BOF (BQ (names.map (·.1)).ax Axi (cs.Pairwise AjF) (∀p∈cs,env.cells.lookup p.1=some p.2/\p.1∉names.map (·.1)) ((uI CL JP cs).AnO AjF))
 | [],_,_,_,h,_=>h
 | Agw,cs,nd,hh,h,hc=>by
  unfold uI;rw[IZ,AZB] at nd;have hr:AxR:=AV3 hh;have hc' :WF cs (AKL AOt/\AK∉r.map (·.1)):=sR (Tm AvG (DB (AvG.2 (B1 IZ (zX _ z)))))
  by_cases hk:Ays
  ·show AMN;show AQ c e BOL
   have e' :AOt n=Β c:=e;rw[e'];refine zqp inj r _ nd.2 hr (Bb4 ⟨A1z,h⟩) ae
   ·have z' :c=BS:=z;have q:=(hc p hp).1;rw[<- z'] at q;have:=inj _ _ _ e' q;exact AvG.2 (by rw[IZ,<- At];exact zY)
   ·show ARb hp hp ⟨e',nd.1⟩ (hc' p hp)
  ·show î hk (zqp inj r cs nd.2 hr h hc')
theorem zlz{HH:ME}{CL:Env}{x:Ξ}:∀(JP:lx) {k:AYf},HR A8c k ->HR BN5 k\/
   (k= SI/\ AJ9 BN5)
 | [],_,h=>AMv
 | (n,k0)::r,k,h=>by
  have ih:= @zlz HH CL x r k;show AO2 x BJh=_\/ (_/\AO2 x BJh=_);cases hx:x==n with
  | Θ=>
   show Ar2 hx h;cases h;by_cases hc:Ard
   ·show HZ hc;simp only [TN] at hc;exact aI (C9 de.1) (by show Ago)
   ·show î hc (.AV (by show Ago))
  | Τ=>
   show Ar2 hx h;by_cases hc:Ard
   ·show HZ hc;show Ago;exact ih h
   ·show EL hc;show Ago;exact ih h
def jj(HH:ME)(C:Η)(CL:Env):Env:=
 {HH:=BVi,locals:=C,globals:=env.globals,cells:=yk (C+1) ō BI_,D_:=env.qual,func:=Ε,code:=env.code,frame:=AY4,builtins:=env.builtins}
def blk(X:Cx)(HH:ME)(N:AA)(C:Η)(Jn:AC)(R_:Hp)(fp:BH):Cx:=
 {X with CL:=jj HH C Be,N:=N,Jn:=Jn,R_:=R_,CF:=MM,stack:=MM,ex:=fp,fn:=QP (Amf x==Β To),pn:= [],xe:=zv}
def BK(C4:Ζ)(FV:He)(σ:St):St:=ArD (AKQ C4 Ε) AzQ
structure m7 (N:AA) (sc:ME) (C4:AA) (FV:He) (CL:Env) (N' :AA):Ι where
 kind:Avy
 nd:N'.Nodup
 snd:BZx
 eg:BNZ AOs AOs
 JP:BJu
 FV:BRF
theorem z7i
  (hQ:Q (newEnv HH B2 g (BJ7 cl) q Ε CI AtF Al7) (BDa ō)):
  vS (A8d HH g cl [] q Ε CI AtF):=by
 simp only [A8d,A7w,kB];show BV (ft wpAny_alloc) (ZI (wpAny_layCells _ (fun Fm kind cells=>by cases hkc:kind==AnN<;>simp [hkc]) _ _) _ _)
 rw[PH (AQ5 ϣ:AC).heap.objs.size AGN ALi];exact z6 (z7 (z7 hQ))
section
variable{X:Cx}{Μ:fB}{σ:St}{H:Hp}{s:AC}{sc:ME}{C4:AA}{FV:He}{N' :AA}{fp:BH}
theorem zsa(I:AW)(S:ABu):WF OW (BVW Al9):=fun p hp hk=>I.ok.has _ (S.free p hp hk)
theorem zoy(I:AW)(S:ABu)(e:Atl):
  (ADg/\PY c/\BZR≠Β To)\/ (AGN<=c/\ BK8 A_' OW):=by
 have m:=ACt e;have sz:BW7 (ARt ϣ):=ALi;have m' :AUT (yk (ARt ϣ) OW (uI Be OW [])):=B1 sz m
 show A3c (z7g OW _ _ m')
 ·rcases zw9 OW [] A0O z with z | ⟨z1,z2⟩
  ·cases z
  ·show PQ v hc (x6 x c z2) (.AV ⟨z2,hc.lt,ì ?_⟩);have q' :=ACt q;show BPX (BZ_ l) (by
    intro l;induction l with
    | DU=>intro _ h;cases h
    | AU a r ih=>
     intro hp h1 h2;show EG (Bb6 hp);rcases MO h1 with e1 | h1<;>rcases MO h2 with e2 | h2
     ·rw[<- e1] at e2;show ĉ
     ·exact Ν _ h2 (by rw[<- e1])
     ·exact Ν _ h1 (by rw[<- e2])
     ·exact ih AI h1 h2) (d _ At z1 q')
 ·exact aI (BCm z1) z2
theorem z20(I:AW)(S:ABu)(hk:AL5 AIK)(e:ADg):Atl:=by
 show ADT (yk _ OW (uI Be OW [])).pr;rw[z9f]
 ·exact zr7 e _ _ (.AV (ACt hk)) fun c' q=>by cases q
 ·intro p hp hc z;have q:=ACt hk;show BPX (p∈l) (by
   intro l;induction l with
   | DU=>intro _ h;cases h
   | AU a r ih=>
    intro hpw h1 h2;show EG BCL;rcases MO h1 with e1 | h1<;>rcases MO h2 with e2 | h2
    ·rw[<- e1] at e2;subst e2;cases hc
    ·exact Ν _ h2 (c_ e1 z.symm)
    ·exact Ν _ h1 (c_ e2 z)
    ·exact ih AI h1 h2) (d _ At q hp)
theorem z3r(I:AW)(S:ABu)(Zq:BQL AvH)(i:Ζ)(x:Ξ)(v:V)(h1:kg N')(h2:D7 AAV cv):
  ∃u,OR/\Look (jj sc B2 Be) h' m' x u:=by
 have h2' :D7 AAV cv:=h2;have h1' :kg N':=h1;unfold BK at h2';rw[S.names] at h1';by_cases hi:i<AIz
 ·rw[Afd,AIh] at h2'
  split at h2' <;>cases h2'
 ·show BG_ h2'
  show AdO (AIg (CU ue)) h1'
  cases hj:FV[i - AIz]? with
  | Ε=>rw[hj] at h1';cases h1'
  | Β j=>
   rw[hj] at h1' h2';obtain p:=S.caps j (zF hj);have j2:=BS;have hx:X.N.getD j "" =x:=C9 h1'
   have hσ:SZ σ cv:=by
    have:gi AzQ:=C9 h2'
    cases q:σ[j]? with
    | Ε=>show FI q;show ZO
    | Β o=>show FI q;have:gi o:=At;rw[At]
   rw[hx] at j2;have hN:SZ X.N x:=by
    rw[YV,xc AK] at hx;rw[xc AK]
    simpa using hx
   show NW m w pe kx (S.free (x,SI) (ACt j2) Z);have vis:NN:=by
    show OF kx k k (AAi k) (tm k)
   show C6 u (D5 j x v hN hσ vis);refine⟨u,Ν,.CB (E9 ?_)⟩
   ·rcases BTP j2 with h | ⟨_,h⟩
    ·exact ALv
    ·exact .AV h
   ·rcases AI with ⟨k,_⟩ | ⟨_,c,ec,hc⟩
    ·have k' :AQN AIL:=k;have kx' :AJ9 AIL\/AL5 AIL:=kx;rw[k'] at kx';rcases kx' with z | z<;>cases z
    ·exact⟨c,z20 I S j2 ec,Zq x c _ ec hc⟩
theorem z7s(I:AW)(S:ABu)(hf:ATk)(hl:SK (PY b)):
  Inv A2V [] AAV H (BDa OW):=by
 have IA:ADZ Sc (AL2 APP A_' OW):=Tl BO1;have ok:=pf;have inj:A3V Atl (BWd y=Β c):=fun x y c e1 e2=>by
  show BV (BbM (cs:=Apl cells) ?_ (ACt e1) (ACt e2)) (zxi _ _ _ (zqp ok.inj _ _ S.snd A0O Bbo (fun p hp=>(AJr hp))) ae)
  rcases zw9 (x:=AK) (c:=BS) OW [] A0O hp with z | ⟨_,z⟩
  ·cases z
  ·show DO v hc (x6 _ _ z) (AIy hc.lt)
 show GL frC (NA (lc b) NG) (EB (AYO hb)) abN (Apl scope.kind= Ÿ) Ame ⟨⟨ok.mod,abN,ok.glob,ok.blt,Mn,inj,DC x hx,NH x c hfn e,ok.hd,ok.frames,ADw,EB ⟨zM (hl b hb),A3T⟩,I.bs,zQ ok.bsz I.sz,Op e hb ?_,zn hb z,I.stack,A7X⟩,
  Z,Ł,AOq IA,EV ((Heap.Ns.new A7 (P3 i6)).keeps (A8b _ _)) (fun i x v h1 h2 h3=> ?_),ANb,frC _ JI,ANb,A2c,I.hok.kept IA,?_⟩
 ·
  have hx' :AJ9 A3R\/ AL5 A3R:=hx;have:∃k,HR AIK k:=by
   have C_:∀(l:lx) (k' :AYf),HR (l.map fun AEv=>if (Aao k&&A_O&&A_R) then AbZ else AEv).pr k' ->∃k,HR l.lookup k:=by
    intro l;induction l with
    | DU=>intro k' h;simp at h
    | AU a r ih=>
     intro k' h;obtain⟨n,k0⟩:=a;cases hb:x==n with
     | Θ=>exact⟨k0,lf VM hb⟩
     | Τ=>
      have h2:AO2 x ((GV (LN (Aao k0&&A_O) A_R) AbZ (n,k0))::(r.map _))=Β k' :=h;show JO k hk (ih k' (by
       split at h2<;>(show Ar2 hb h2;exact h2))) k (by simp only [VM,hb];exact hk)
   show OF hx' h h (C_ _ _ h) (C_ _ _ h)
  obtain⟨k,hk⟩:=At;show Ar0 (BTP hk) h h1
  ·have hkk:k= To\/k= SI:=by
    have h' :HR A3R k:=h;rcases hx' with z | z<;>rw[z] at h' <;>cases h' <;>simp
   rcases hkk with Z | Z
   ·exact BbK (A7Z OW _ _ AtG)
   ·show JO c e BS4 c BM2
  ·subst h1;show Ϛ c BS4;exact⟨c,BM2⟩
 ·
  have abO :AUh:=by
   have:(BZR==Β AnN)=Θ:=hfn
   show ALe
  rcases AkU with ⟨_,_,z⟩ | ⟨z,_⟩
  ·exact Iy abO z
  ·show lc c;exact AnQ z
 ·rcases AkU with ⟨z1,_,_⟩ | ⟨z1,_⟩
  ·exact LI ATK x c z1 z
  ·have:=hl b hb;rw[<- z] at At;exact zB _ (zO At (AnQ z1))
 ·have q:=E8 ATK;rcases q with q | q
  ·exact ok.Ia b o e q
  ·have q2:b<Baw:=dQ;exact zB _ (zO q2 (zQ ok.bsz q))
 ·show ĩ (AiX b z) (ATK.2.1 z) (Db ATK z)
 ·exact BT_ (fun x c v _ hc=>A'U)
 ·rcases AkU with ⟨z1,_,_⟩ | ⟨_,z⟩
  ·show JO v hc (x6 x c z1) v A'U
  ·exact Ú z
 ·rcases AkU with ⟨z1,_,_⟩ | ⟨z,_⟩
  ·exact ACb x c z1
  ·exact frC c (AnQ z)
 ·show Cl AAV=N'.length;rw[S.names];unfold BK;simp
theorem z9c(I:AW)(S:ABu)(hf:ATk)(B:Inv A2V m5 σ5 H5 s5):
  Inv A2V m5 AAV H5 s5:=by
 show C6 m B.loc;have kc:BQL (s5.heap.IsCell c v):=fun x c v e Awj=>by
  have nx:c∉fp:=DB (LI (hf c z) x c e Z);by_cases hc:c∈wv
  ·show DO sl q (B.base.slot c o ho AVE hc nx) (EV q hd)
  ·exact⟨o,B.base.keep c o ho AVE hc nx,hd⟩
 exact⟨B.ok,B.os,B.bare,B.base,⟨m,Ν,fun i x v h1 h2 h3=>(BT_ kc)⟩,B.cell,B.free,B.freeC,B.pin,B.hok,by show Cl AAV=N'.length;rw[S.names];unfold BK;simp⟩
#where
abbrev ycf(ifs:CY)(CL:Env):AMY:=forIn ifs Θ fun c r=>if r=Θ then do let ok<- AmI c CL (ABj c);Ag_ ok else Ag_ r
section
variable{BA:A6}{w:AZ}{A:B6}{R:Atq}{s:AC}{Eb:fu}
theorem z7k(I:QQ Ζ)
  (j':∀n s,I n s ->MS BA w A (AIW it) (fun r GH=>(AZg r (R (.ok gg) GH) v (MS BA w A (Ba9 AYW it v) (KE s₁' (MS BA w A (AOx AYW CL v) (KE U' (MS BA w A (ycf ifs CL) (fun ok Œ=>
      (Os ok (MS BA w A (ABj elt) (fun x s₄=>
       (MS BA w A (kA (q_ A7v) [Ap,x]) (KE s₅ (Ag' (I m s₅))) AAh s₄)) Eb Œ) (Ag' (I m Œ)))) AAh U')) AAh s₁')) AAh GH))) AAh s)
  (hEb:∀x s',Eb x s' ->AZD AfZ A CL (fun x s'' =>R Aqz s'') x s') (n:Ζ) (h:I n s):
  AIZ (Ń BA w) A (.compLoop BEy 0 it Ap CL) R s:=by
 refine codeAny_loop Z I (A0 n s hI) n h;show ACe _ A ((compTurn BEy 0 it Ap CL).onRaise (fun x=>do ŗ x CL;theTreesLotGoes x)) _ _ s;refine wpAny_noted ?_;rw[compTurn_list];refine BZa (z6 (jp (j' n s hI) (A0 r GH h₁) AVp));cases r with
 | Ε=>exact z7 h₁
 | Β v=>
  refine AG_ h₁ (A0 _ s₁' h₁') AVp;refine AG_ h₁' (fun _ U' h₂=>(AG_ h₂ (A0 ok Œ h₃) AVp)) AVp;cases ok with
  | Τ=>exact z7 (NE h₃)
  | Θ=>
   exact z6 (z6 (jp h₃ (fun x s₄ h₄=>(AG_ h₄ (fun _ s₅ h₅=>z7 (z7 (NE h₅))) AVp)) hEb))
#where
def PTs(X:Cx)(ifs:CY)(t:TT):Ι:=
 AV_ AGh (ycf ifs Be) AxY
theorem yig:PTs X [] (fun _ H Q=>Q Θ H):=A4z (wpAny_tests_nil ⟨H,I,h⟩)
theorem yjc(h:PT X c t):PTs X [c] t:=Ao0 Q (wpAny_tests_one (AaL Q I q))
structure Ra (AHs) (tg:AG) (J:It) (fp:BH) (it:Η) (tn:AUr) (cm:GI Cx):Ι where
 mem:it∈fp
 DJ:BMu
 IA:BQR
 Pt:AlO (cm X) (BQ AW Aft ASP (J.go i H) (Ak1 (∃u,zr r/\
   MS P w X.A A2m (KE s2 (BSC BFl (SK AJ2))) E s1)))
 MQ:AlO (cm X) (BQ AW Aft ASP (AYZ i H) (Ak1 BH8))
 TL:BSo
def abP(BU9):Ι:=
 ∃(it:Η) (fp:BH) (tn:AUr) (J:It) (H' :Hp) (cm:GI Cx),itv= .AT it/\sM s2/\Ra EA X.w AE tg J fp it tn cm/\BFG/\ (SK AhS)/\Aiz /\
  ∀Y:Cx,Y.A=X.A ->Y.calm=X.calm ->(∀b o u,ARJ Ϯ ->K0 Y.H₀ Ϯ) ->cm Y
def PIg(BS2):Ι:=
 Aan R AKU (wi σ H R) ATh (fq s1 (AK_ (ŉ v) (abP X Μ σ tg R) s1))
theorem pig(hc:HV)(hi:BFW):BOw:=fun Μ s σ H R I h=>
 cM (VW hi R I h) (wx h1 (cM h1 fun itv s2 Ch=>by obtain⟨it,fp,tn,J,H',y⟩:=Ch;exact⟨it,fp,tn,J,H',fun Y=>Y.calm=Θ,Ν,A3,⟨(CO.1).mem,(CO.1).DJ,(CO.1).IA,(CO.1).Pt,(CO.1).MQ,(CO.1).TL⟩,Q1,AEg,AEi,fun Y _ q _=>q.trans hc⟩))
def Kc(Ap:Η)(J:It)(CS :St)(g:TG)(tc:TT)(te:TE)(Q:AMD)(H1:Hp):Ι:=
 AOD AME [] H1 (∀i m vs H,AOM vs ->SL Ap Ä/\MR<AsB/\
  ((AYZ i H/\OE Ap H)\/ (J.go i H/\AJP MR/\Apc J.yld (g x CS H' (AQr (tc σ2 H2 (TZ H3 (Os b (te σ2 H3 fun v H4=>H4 Ap=Β Ä/\Ao9 ARA (br H4 Ap ARA)) (Ao9 vs H3)))))))))
def Zr(C4:Ζ)(FV:He)(wi:TI)(g:TG)(tc:TT)(te:TE):TE:=b9 wi J (∀Ap,AJ8 Ap ->Kc Ap J AzS g tc te Q (AQB H1))
theorem yio{X:Cx}{xe:fu}(ok:X.Ok):({X with xe:=xe}:Cx).Ok:=A5s ok.hd
structure Zt (X:Cx) (Μ:fB) (σ:St) (C:Η) (Y:Cx):Ι where
 out:∀m5 CS H1 s1,Inv Y m5 CS H1 s1 ->AGQ s1/\AJ8 C/\∃m,s1.heap.Ns C m
 loc:Avc
 qE:ϛ C
 cel:uj C
 pin:AKp C
 fs:C∉bE
 stk:C∉wv
def APQ(M:AIU)(A:B6)(E:fu)(CL:Env)(use:Aui)(Q:fu)(Ap:AD)(C:Η)(r:Result)(s' :AC):Ι:=
 match r with
 | .ok _=>compPost M A E use Q Ap C (.ok gg) s'
 | .YN x=>∃m,s'.heap.Ns C m/\∀h',ACd C eh h' ->∀cenv:Env,cenv.frame=AY4 ->AOK (passOn "comprehension.variables-let-go" x cenv:AJu) AAh (AGf h')
theorem z9g(BH3){CL:Env}{e:AG}{HH:ME}{AB:AR}{newAcc AI0:AJu}{g:Bb7}{gs:D9 Bb7}{cl:ñ}{use:Aui}{Q:fu}
  (hcl:clausesOf e=g::gs) (hs:∀x,BbC g.iter CL x=IC x) (hclos:BLc cl) (hk:scope.kind= Ÿ) (hn:∀x∈ō,x.2= b_ ->Ar8 x.1 b_)
  (h:AoQ AI0 (fun x s1=>(AOK (ŉ x) (fun it s2=>(AOK newAcc (fun Ap s3=>(AOK (A8d HH env.globals cl [] env.qual Ε CI AtF) (fun cenv s4=>cenv.frame=AY4/\
   AIZ M A (.compStart e 0 it Ap ASq) (APQ M A E CL use Q Ap cenv.locals) s4) s3)) s2)) s1))):vS (AZE e HH CL AB newAcc Τ AI0 use):=by
 unfold AZE;rw[hclos,hcl];refine z6 (cM h fun x s1 h1=>z6 (AmP (z6 (AnL (hs x) (A0l h1 (fun it s2 h2=>wpAny_standIf (z6 (cM h2 fun Ap s3 h3=>z6 (z7 (z6 (cM h3 (A0 cenv s4 h4))))))))))));dsimp only;have lk:∀l:lx,(∀x∈l,BZ9) ->∀x∈l,x.2= b_ ->Env.kindOf ASq x.1=Β b_:=fun l hl x hx hq=>lookup_relabel_local (hn x (hl x hx) hq);have sub:∀x∈ (scope.names.filter (QP ((x.2== b_ || x.2== To)&&x.1 !=(".0" :Ξ)))).reverse,BZ9:=fun x hx=>(Bas (List.mem_reverse.mp hx)).1
 refine x_ (z6 (AZA (AtI wpAny_run ACm h4.2 (A0 r s' hr))));cases r with
 | ok f=>
  cases use with
  | Ε=>
   show T_ m hm hr hr (BUW (BNx hr))
  | Β u=>
   refine z6 (APR (A0l hr (A0 _ s2 hr')));show T_ m hm hr' hr' (z6 (Bb8 (cenv:=ASq) hk _ s2 m (lk _ fun x hx=>sub x ((ph hx).SB List.mem_of_mem_drop List.mem_of_mem_take)) hm (BNx hr')))
 | YN x=>
  obtain⟨m,hm,hr⟩:=hr;cases use<;>exact BUW (fun h' _ _ hs' =>(AKl (hr h' hs' ASq h4.1) (MX f f.elim) Aik))
section
variable{X:Cx}{sc:ME}{C4:AA}{FV:He}{N' :AA}{elt tg Nw:AG}{ifs:CY}{AB:AR}{wi:TI}{g:TG}{tc:TT}{te:TE}{xb:Η ->Do AD AC}
theorem zoq(S:ABu)(hi:BOw)
  (hg:∀C Jn R_ fp,PG AZy tg g) (ht:∀C Jn R_ fp,PTs AZy ifs tc) (he:∀C Jn R_ fp,Zt X Μ σ C AZy ->PE ((AJJ C Jn R_ fp).wsh (HG (xb C))) elt te)
  (ee:e= .A8f elt [AoI] sc AB) (hs:AaH Nw)
  (I:AW) (h:Zr AIz FV wi g tc te σ H Q)
  (C8:∀Ap C H' s5,sM s5 ->BQ (OE Ap H') (∃m,s5.heap.Ns C m) (H' C=Ε) Avc (BQ (ϛ C) (uj C) (∀p∈X.pn++Μ,AK≠C) (C∉bE) (compPost uC X.A ej use Qv AFe C (.ok gg) s5)))
  (hxb:∀Ap C x s',xb C x s' ->AZD uC X.A AyF BSi x s'):
  zo (AZE e sc Be ps (AZF []) Τ ATh use) Qv:=by
 subst ee;refine z9g (g:=AoI) (gs:= []) (cl:=uI Be OW []) Z hs (yhl (zsa I S)) Ame ?_ (AQe hi (wx h1 BLN))
 ·intro p hp hk;have nd:=S.snd;rw[A8e,AZC] at nd;have d:∀(l:lx),BXm ->p∈l ->l.lookup AK=Β b_:=by
   intro l;induction l with
   | DU=>intro _ h;cases h
   | AU a r ih=>
    intro hpw h1;obtain yf:=BCL;rcases MO h1 with e1 | h1
    ·subst e1;rw[VM];simp [hk]
    ·have hb:VQ AK a.1:=B1 Bb3 (jS (yf.1 p h1))
     rw[VM,hb];exact ih yf.2 h1
  exact d _ nd hp
 obtain⟨it,fp,tn,J,H2,cm,Z,I2,T,st2,f2,R2,hcm⟩:=h2;have hp0:=I2.fresh;refine yl ?_;have I3:=I2.lnew (AH:= []) (ys:= []) (t' :=s2.toks) C7 AAG;generalize hacc:s2.heap.objs.size=Ap at*;obtain⟨W,⟨m0,w0⟩,j'⟩:=R2 Ap hp0;show D1 f3 (SK (Api AQV)) (EB (by
  refine vi (AKP f2);obtain⟨o,ye⟩:=AkV st2;rw[BCv (c_ hacc (AlX ye.1))]
  exact ADo f2)) hc (∀C Jn,cm (AJJ C Jn AQV fp)) (fun C Jn=>hcm _ Z Z (Op u e (ss (AFq (AJJ C Jn AQV fp).R_ (upd H2 Ap (.A8 []))) (Ŵ hp0) e))) Cc (SK (b< Ay1)) (EB (by
  obtain⟨o,yd⟩:=AkV st2;rw[YI];exact Av5 yd.1)) st3 (tn 0 (AnR ART)) (ArM st2 rh);refine z7i AeP;show AIZ _ _ (BUV compStart Ay1) (APQ _ _ _ Be use Qv AFe Ay1) _;generalize hs3:(ADM s2 BCM s2.toks:AC)=s3 at*;have hh3:AnR ART=s3.heap:=BAS
 have acr :(y_ s2 BCM:AC)=s3:=BAS
 rw[hh3] at Cc st3⊢;have I4:=z7s I3 S f3 Cc;have Te:tn 0 (APP (A7j ϣ) OW):=ArM st3 BO1;have C_:AIZ uC X.A (BUV compLoop ŏ) (APQ uC X.A ej Be use Qv AFe ŏ)
   (y_ s3 (APP (A7j ϣ) OW)):=by
  show GL stat (BPr (pU AFZ [] H' b)) (fun hn b hb=>
   ⟨AeZ,ADo I4.ok.Yj,I4.ok.Ib b hb,Aac,AKP I4.ok.Yj,A2c⟩) bk (Zt X Μ σ ŏ AFZ) (by
   refine⟨fun m5 CS H1 s1 I6=>(E3 (I3.call' (ch:=fp) I6.os I6.base I6.hok I6.bare (EB ⟨E8 AeC,AeC.2.1,LI AeC,ZY AeC⟩)) I6.free),ALY I3.lt,I3.sz,A3T,A1z,I3.nofs (zP _),DB ((MO (I3.stkSub _ z)).SB (ň I3.lt) (I3.nofs (zP _)))⟩
   ·show JO m6 yc I6.loc m6 yc.1
   ·show DO v q (I3.cell x c e) (Iy q.lt Avl)
   ·exact Ϩ zK (I3.pin p hp).1 Avl) (z7k (Eb:=xb ŏ) (gz n (BTy (W i n vs H'))) ?_ (hxb _ _) m0
   ⟨0,[],AVl BK σ,_,I4,Te,vz f3,w0⟩)
  rintro n s5 ⟨i,vs,σ5,H5,I5,st5,fr5,w5⟩;obtain⟨ha5,hz5,⟨Ň,qn⟩ | ⟨go,hz,step⟩⟩:=j' i n vs H5 w5
  ·refine cM (T.done AFZ Z Z Z (hc _ _) i [] s5 σ5 H5 _ I5 (stat fr5) st5 Ň) (A0 r s6 Cb);show AQ hr I6 Cb;subst hr;obtain⟨IX,hC,hm⟩:=lS bk.out I6;exact C8 Ap ŏ H5 s6 IX qn hm hC bk.loc bk.size bk.cel bk.pin bk.fs
  ·
   have I5' :Inv AFZ [] AAV H5 s5:=z9c I3 S f3 I5;refine cM (T.item AFZ Z Z Z (hc _ _) i [] s5 _ H5 _ I5' (stat fr5) st5 go) (A0 r s6 Cb);show NW u yb Cb hr vc;subst hr;refine cM yb.2 (A0 _ s7 DL);obtain⟨x,H7,ya⟩:=DL;have I7' :=BOe ya (GT ya) (E8 ya);refine cM (hg _ _ _ _ _ s7 _ H7 x u _ I7' ya.2.1 (step x H7 (Db ya))) (A0 _ s8 Cb);obtain⟨σ8,H8,f⟩:=Cb;refine cM (ht _ _ _ _ _ s8 σ8 H8 _ f.1 f.2) (zn s9 Cb);show AQ H9 j Cb;have q9:=j.2;have AIX:∀{vs' :AL} {CS :St} {H' :Hp} {s' :AC},BKk CS H' s' ->(∃m',m' <n/\W IM m' vs' H') ->
     Ag' (BTy (W i m vs H')) :=fun{vs' CS H' s'} I' ⟨m',hm,w'⟩=>by
    refine⟨m',hm,i+1,vs',CS,H',I'.unpinned,BNG (E8 ya) I'.pin,IO,w'⟩;show DO o t (AkV (E8 ya)) (I'.pin ALE (zT _ A'5)).2.1
   cases b with
   | Τ=>
    rw[AGe] at q9⊢;exact AIX j.1 q9
   | Θ=>
    rw[My] at q9⊢;refine cM (he _ _ _ _ bk _ s9 σ8 H9 _ ⟨yio (j.1).ok,(j.1).os,(j.1).JS,(j.1).B9,(j.1).loc,(j.1).cell,(j.1).eg,(j.1).freeC,(j.1).pin,(j.1).hok,(j.1).len⟩ q9) (A0 y s10 Dd);obtain⟨v,H10,Ir,r10,Tf,q10⟩:=Dd;have Ir:BKk σ8 H10 s10:=⟨yio Ir.ok,Ir.os,Ir.bare,Ir.base,Ir.loc,Ir.cell,Ir.free,Ir.freeC,Ir.pin,Ir.hok,Ir.len⟩;refine cM (zzv (X:=blk X sc N' ŏ s3 AQV fp) _ s10 σ8 H10 AFe [v] AFe [y] (KE H' (H' =upd H10 Ap (.A8 ARA))) Ir Z (.AU r10 C7) ⟨Ap,vs,v,Z,Z,Tf,hz,Z⟩) (A0 _ s11 wY);obtain⟨_,H11,I11,_,e11⟩:=wY;subst e11;exact AIX I11 q10
 exact codeAny_compStart_list C_ (Ee T.self _ Te C_)
#where
def M9(K:Φ)(F Hx:Hp)(J:It)(ds:AJ):Ι:=AgS (∀(i:Ζ) (H1 F1:Hp),gm ->sK H1 ->Kt Hx H1 ->
 (i=Kx ->AYZ i H1)/\∀d,AxB ->J.go i H1/\∀x H',J.yld i H1 x H' ->∃F2,Gr F1 H1 F2 H' /\Rep K F2 d x)
def Oc:Hp:=AcB
theorem zye:č Oc:=MX e AAZ
inductive UpI (BLy):Ι
 | mk:AaZ (∀ds A4 F' H' J Hx,mx ->BQ F6 (AJg Hx) (M9 K F' Hx J ds) AcZ Aiz) (Ai0 UpI)
def upI(AGB)(AUR):TI:=fun σ H R=>(Ai0 UpI)
inductive Zu (BLy):Ι
 | mk:AaZ (∀ds A4 F' H' J,AEO mx (M9 K F' Oc J ds) AcZ Aiz) (Ai0 Zu)
def abQ(AGB)(AUR):TI:=fun σ H R=>(Ai0 Zu)
def QI(A4L):Ι:=A4M PI abQ
def V4(A4L):Ι:=A4M PI upI
theorem Od(h:vF e t)(hi:∀σ H R,t' σ H R ->t σ H R):vF e t' :=Ab5 R R
theorem sZ(h:AM7 e t):V4 X F0 H0 tg e t:=ARr AGX (fun σ H R Ch=>by obtain⟨F,Γ,P,S,q,k⟩:=Ch;exact⟨F,Γ,P,S,q,fun ds A4 F' H' J S' s' hJ hp=>k ds A4 F' H' J Oc S' s' zye hJ hp⟩)
def Zv(K:Φ)(tl:TE):TI:=BLd (∃xs,nG K H1 a xs/\ (WN ->AWH QB)) (∃xs,ur K H1 a xs/\ (WN ->AWH SN))
theorem yh0(hl:PE X l tl):vF l (Zv AE tl):=by
 show Eg R;refine AMQ hl (tz DL);show W' DL;obtain⟨a,e,q⟩:=q1;subst e;cases r1;rcases q with ⟨xs,hq,q⟩ | ⟨xs,hq,q⟩
 ·show BP6 (q Kb)
 ·show BPt (q CO)
theorem yh3{K:Φ}{F Hx:Hp}{a:Η}{vs:AL}{ds:AJ}(hq:Ayb (ur K H1 a vs))(rs:LM)(hz:AKx):M9 K F Hx (SN K a) ds:=by
 have hl:=L_;refine⟨L7,fun i H1 F1 s1 s2 s3=>(ALK ⟨vs,BNU,L7⟩)⟩
 show Ă v AhD;refine⟨⟨vs,v,BNU,BE⟩,A0 x H' y⟩;show AQ Z y y;show AUm (y vs (hq _ Ty)) BE ⟨F1,AJ7 s2,(D5).up s1⟩
def iL(UQ):dH:=ZE te (ò d AAo Aeb dy Aeb)
section
variable{X:Cx}{F0 H0:Hp}{e tg:AG}{es:CY}{AB:AR}{te:bO}{g:tG}{gs:zu}{ti:dH}{tb:aC}
theorem zx(h:M0):AM7 e (iL te):=ARr (xN yh0 h) (fun σ H R Dd=>(BVc Dd (BGM (by
 cases d with
 | A8 ds=>
  show AUk;refine Me a (.AV ⟨vs,ϭ,AKu (k ds Ω F1 H1 _ R1 s1 ?_ h1)⟩);refine BUs
  show Ă v AhD;refine BBp BE;show AQ Z y y;show AUm (y vs A1t) BE (Ajy ((D5).up s2))
 | BM ds=>
  show AUk;exact⟨a,Z,.CB ⟨vs,Af1,AKu (k ds Ω F1 H1 _ R1 s1 (yh3 (fun H2 s=>Af0) rs hz) h1)⟩⟩
 | _=>show dv))))
def vJ(ti:dH)(g:tG)(tb:aC):aC:=AJO D0 ti ds A3t
theorem Zw(hc:HV)(hi:AM7 Nw ti)(hg:AWF)(hb:AV6)(AF'):
  Ak6 Nw vJ ti:=fun z E cx=>
 uH (Ak2 ATC WI hs) (AQs wY wY (AJE ds J hJ h1 (by
  obtain⟨I,u⟩:=h1;refine AOV σ H Kx Kx Aqy ⟨Kx,FA,aS,F1,Ω,R1,r_,u.1⟩
  rintro i m σ H ⟨Z,hi,F2,A_,R2,s2,hI⟩;obtain t:=hJ.2 i H F2 s2 yy zye;by_cases Cc:AGZ
  ·obtain v:=A1L t.2;refine Ak0 EN A2t AUp
   show DO F3 w (v.2 x H' y) ⟨F3,A_,_,AKX,Am_ BE,D5,u.2.1 i AKX A_ (zZ Cc) hI,fun Γ4 F4 H4 σ4 R4 s4 p=>⟨F4,Γ4,A0w,R4,p,AHt BRC (BX7 (SO R5 (ARd ((BE).f.trans (A8g s5))) q)) BRC⟩⟩
  ·show E7 (i=Kx) BG
   exact ù (FK Z) (SO R2 Ty (u.2.2 _ hI)))))
def FJ(Γ:G2)(j:Ζ):OY:=match Γ[j]? with | AHC=> .pu d | _=> C3
def qU(C4:Ζ)(FV:He)(Γ:G2):G2:=AKQ C4 C3++caps.map (FJ Γ)
theorem z29(ABX){σ:St}{Γ:G2}(C4:Ζ)(FV:He)(R:FB):SR K F H F H AzS AhH:=by
 show GL len (Cl AzS=Cl AhH) (lf BK qU) Kd (A4l AhH) (A4G (by
  show NR qU;by_cases hi:i<C4
  ·show BWb ACk
   show AAn hi;cases e;exact gu h
  ·show ARQ AIg M_
   cases q:FV[i - T' AIe C4 Slot.no]? with
   | Ε=>show IP;cases e
   | Β j=>
    show IP;have e' :FJ Γ j=s:=C9 e
    unfold FJ at e';split at e' <;>(show Mo e' (gu h)))) ⟨AJ7 R.g,len,P6 i s,fun i j a wZ=>by obtain⟨s,o,e,_,h⟩:=wZ;exact pd h (Kd i s o a e)⟩
 by_cases hi:i<C4
 ·refine E3 Ε ?_
  ·unfold BK;rw[Afd,AIh,Fs hi]
  ·show NR qU;rw[Afd,AIh,Fs hi] at e
   cases e;trivial
 ·show NR qU;show BG_ e
  cases q:FV[i - C4]? with
  | Ε=>show IP;cases e
  | Β j=>
   show IP;have e' :FJ Γ j=s:=C9 e
   refine E3 AzQ ?_
   ·unfold BK;rw[Aqa,M_,AYh,q];rfl
   ·unfold FJ at e';split at e'
    ·rename_i d hd;subst e';show nE o e1 v rv (YU j _ hd);exact⟨v,g0 e1,rv⟩
    ·subst e';trivial
def Oe(g:tG)(tc:TT2)(te:bO)(Γ0:G2)(x:D)(P:vt):Ι:=BSg (te A_ BGV lF)
def rF(one:kT D AJ):Q4
 | [],P=>P []
 | Sn,P=>one x fun ys=>rF one xs fun zs=>P (ys++zs)
def dN(BSq):dH:=BPM (Oe g tc te A_3)
def j9:TT2:=AUu Θ
def Rb(UE)(ifs:CY)(t:TT2):Ι:=ß PTs ifs Y8
theorem yZ:FG Rb [] j9:=fun z E cx Μ s σ H Q I Zc=>(APw P Zc (VW yig Q I (Ee k R Gc h)))
theorem Og(h:ũ QT c):ũ Rb [c]:=AWT yjc h
#where
section
variable{X:Cx}{F0 H0:Hp}{elt tg Nw:AG}{ifs:CY}{sc:ME}{C4:AA}{FV:He}{N' :AA}{AB:AR}{te:bO}{g:tG}{tc:TT2}{ti:dH}
def gX(K:Φ)(g:tG):TG:=AU0 (∃F0 H0,qk upG g lF v σ H Q)
def tX(K:Φ)(t:TT2):TT:=BLG Y8
def eX(K:Φ)(t:bO):TE:=BLG Ig
theorem zxl(gr:à)(h:AGq)(e:AMJ):AFm:=by
 cases q:F' a with
 | Ε=>rfl
 | Β u=>
  show AWJ (gr.n a u q h) e'
  ·rw[e] at z;cases z
  ·rw[e] at z;cases z;cases e'
theorem ztr(ABX){σ:St}{Γ:G2}{J:It}{Hx:Hp}{ds:AJ}{Ap:Η}{P:vt}{Q:AMD}(R:FB)(hJ:M9 K F Hx J ds)(hx:č Hx)(ha:bu Ap)
  (h:rF BAw ds P)
  (C8:∀ys F' H' vs,AEO Acs ArR (F' Ap=Ε) (BQ (H0 Ap=Ε) (AJl ys) (ADs Ap) (P ys) (OE Ap H'))):
  BQ9 (eX K te):=by
 obtain yb:=Ih (ds:= []) (vs:= []) R ha II
 show GL hx1 (Kt Hx (AQB H)) (AJs (AKJ hx ha) (hx b u e)) xa BK6 BNm (AOV vs H' Kx Kx (BQu (BRT BAw)) ⟨Kx,FA,aS,F,[],vc,r_,hx1,yb.2.1,Db yb,SW,Mn,AL7⟩)
 rintro i m vs H' ⟨Z,hi,F',ys,R',sF,hx',ha',Tg,rs,lv,hc⟩;have hz:=hJ.1;refine E3 ha' BG
 obtain ya:=hJ.2 i H' F' sF R'.g hx';by_cases Cc:AGZ
 ·obtain l:=A1L ve;refine .CB ⟨l.1,BG,BKJ⟩
  show AQ F2 t (l.2 x H2 y);rw[BZ7] at hc;have R2:=APS FK;refine⟨F2,H2,F2,AVl qU Γ,_,AKX,AVl z29 R2,t.2,hc,BTw⟩;refine⟨F2,H2,F3,Γ3,_,R3,q3,BSf q4⟩;have zy:BHn:=A'k;cases b with
  | Τ=>
   rw[AGe] at q4;refine⟨AUp,AKG,Z,Cc,F4,ys,APS zy,A'Q,BJX,A'a,zxl zy Tg ha',AI1 zy.f,BG,?_⟩
   simpa using q4
  | Θ=>
   rw[My] at q4;refine⟨F2,H2,F4,Γ4,_,R4,q4,BUB⟩;have Iu:BHo:=A'l;have a5:=A'b;have f5:=zxl Iu Tg ha';refine⟨a5,AUp,AKG,Z,Cc,F5,ys++ EK,?_,A'R,L9,j4,f5,BNv,BCn,?_⟩
   ·have R6:=APS Iu;refine⟨BBV R6.gr.n,R6.len,P6 j sl,R6.ap⟩
    ·show AFk f5 (R6.g b u e)
    ·show BHj
    ·show BUK
   ·show ARq (xa u (c_ z e)) (Iu.h b u (hx' b u e))
   ·simpa [AYq] using q5
 ·show BU'
structure fP (N:AA) (sc:ME) (C4:AA) (FV:He) (Zx:ME) (N' :AA):Ι where
 kind:Avy
 nd:N'.Nodup
 snd:BZx
 eg:BNZ A8h A8h
 JP:BJu
 FV:BRF
theorem fP.cs(h:ASn):ABu :=⟨h.kind,h.nd,h.snd,h.free,h.names,h.caps⟩
def QIg(A4L):Ι:=A4M PIg upI
theorem z45(S:ASn)(hi:QIg X F0 H0 tg Nw ti)
  (hg:AWb) (ht:AWc) (he:AWa)
  (Acw) (AF'):BIi:=by
 subst hn;rintro z E cx Μ s σ H Q I ⟨F,Γ,P,R,h,k⟩;rw[PH (jn â (bc z).CL) (AZE â sc Be _ (AZF []) Τ ATh) BYH];refine Lu zoq X bi xb dc g Aiq tc Air (te:=Ayo) (Q:=Q) AhZ ATC ?_ ?_ ?_ Z hs I ?_ ?_ Auv
 show AlT
 show AlS
 show A5t
 ·exact VT (fun ds Ω F1 H1 J Hx R1 s1 hx hJ h1 Ap ha=>ztr R1 hJ hx ha h1 fun ys F' H' vs R' sF a1 a2 a3 rs ap hp=>BU8)
 ·rintro Ap C H' s5 I5 q5 ⟨m,hn⟩ c1 c2 c3 c4 c5 c6;exact⟨m,hn,AfU ⟨.AT Ap,H',BH4,Z,q5⟩⟩
theorem Ac(S:ASn)(hc:HV)(hi:Aj6)
  (hg:AWb) (ht:AWc) (he:AWa)
  (Acw) (AF'):BIi:=z45 S (fun z E cx=>pig hc ATC) hg ht he hn hs
theorem Ti(BUp)(hi:Aj6)
  (hg:AWb) (ht:AWc) (he:AWa)
  (BTT):
  BO4 (p8 i (Arc tc te)):=by
 subst hn;show AV4 Dn;rw[lS Bb' hsw];refine AEk AmP z6;refine AG_ (Lu (Lu zoq X bi xb dc use BKD Qv (MY s' (SP zS Μ Dn gg s'))) g Aiq tc Air te Ayo Q BPJ AhZ (pig hc ATC) ?_ ?_ ?_ Z hs I ?_ ?_ Auv) (fun _ s' hq=>z7 (z7 hq)) ASb
 show AlT
 show AlS
 show A5t
 ·exact VT (fun ds Ω F1 H1 J Hx R1 s1 hx hJ h1 Ap ha=>ztr R1 hJ hx ha h1 fun ys F' H' vs R' sF a1 a2 a3 rs ap hp=>(SO (R'.setOw i a1 a2 a3 rs ap) AqT hp))
 ·rintro Ap C H' s5 I5 q5 ⟨m,hn⟩ c1 c2 c3 c4 c5 c6;refine A7G (DH zua I5 hN hi' (.AV hy) (v:= .AT Ap) Z BLE (.CB hy));show AQ a w Cb;have ha' :AxL (Au0 a):=D5;have hac:C≠a:=by
   show OF ha' Z ha' c2 BRQ
  refine⟨m,hn.sameBut BE hac,AfU ⟨_,H',BH5,q5⟩⟩
#where
inductive Rf (K:Φ) (g:Q4) (vs:AL) (H:Hp) (Q:VK):Ι
 | mk:BPh (∀es us l,AxK ->ATl ->P es ->AGo (AKN us)) Rf
def Iv(K:Φ)(g:Q4):oo:=AEj (Rf K g vs H Q)
section
variable{X:Cx}{F0 H0:Hp}{a b e:AG}{es:CY}{AB p p2:AR}{ta tb te:bO}{t:dH}{x:Ξ}
def Ad(g:Q4)(t:dH):dH:=UU (g ds fun es=>(E_ es))
theorem yg2{K:Φ}{g:Q4}{E:XW}{σ:St}{H:Hp}{Q:VK}(h:upF K F0 H0 (Ad g t) E σ H Q):BLV Iv:=by
 show Se h;refine BTA (fun es us l r hl hp=> ?_);show EG (Ih R1 hl r);exact k es Ω F1 _ l us Ν s1 A3 ED Q1 r uS hp
theorem ydy{id:Ff}{g:Q4}(hc:ϐ d9 AEh (Iv AE g))(hg:KU)(hm:ĕ)(hv:đ AEh)(ha:RA)(Ĩ)(hU):ALA ADy g:=fun z E cx=>
 lN (ANr Nv AeH hv hn hdb hpl) (Y1 yg2)
theorem zr8{T:Ff}{g:Q4}(hc:ϐ d9 mP (Iv AE g))(hg:KU)(hm:ĕ)(hv:đ mP)(ha:RA)(Ĩ)(hU):ALA ADy g:=fun z E cx=>
 lN (ANr zom AeH hv hn hdb hpl) (Y1 yg2)
theorem Nb{T:Ff}{g:Pc}(hc:ϐ d9 mP (tH AE g))(hg:KU)(hm:ĕ)(hv:đ mP)(ha:RA)(Ĩ)(hU):AbL j8 g:=fun z E cx=>
 lN (ANr zom AeH hv hn hdb hpl) (Y1 ygi)
#where
def Tj:Q4:=BJN (P xs) (P xs)
theorem ybo:Au7 (Iv AE Tj):=by
 show ar;show BD Tj;show EO
 ·show Į;exact VW zqy _ us Q I r (ABJ Aia BOD)
 ·show Į;exact VW zqy _ us Q I r (ABJ Aic BOD)
 ·exact Cf
def Zy:Pc:=BJN (P Z_) (P Z_)
theorem yhv:AgB MH Zy:=by
 show ar;show BD Zy;show EO
 ·show Į;refine BG8 (ù (qB hq) (DC l hl));have gr:=AIn (o:=AIu vs) sF hl;show KS (Ee k gr ?_ h) (lL l AEw (AI1 KA))
 ·have rs0:=rs;show Į;refine BG8 (aI (sW sF hq) (zk ?_ h));exact ABJ hq rs
 ·exact Cf
def qS(xs:AJ)(lo hi:OI):AJ:=A'2
theorem z41{K:Φ}{F:Hp}{ds:AJ}{vs:AL}(r:LM)(lo hi:OI):Lo (qS ds lo hi) (Bu vs lo hi):=by
 unfold qS Bu;rw[lY r];exact zuk _ (zsr _ r)
abbrev JK:=AEp OI
inductive UpO (AGB) (t:JK) (E:XW) (σ:St) (H:Hp) (Q:AtM):Ι
 | mk:AaZ (∀o A4 F' H',mx ->F6 ->P o A4 ->Q o H') (BVP UpO)
def upO(AGB)(t:JK)(E:XW):TO:=ABU UpO
def QO(UE)(e:ALr)(t:JK):Ι:=ß PO e upO
theorem poC(h:PO X e t)(hi:∀σ H Q,t' σ H Q ->Ϙ):PO X e t' :=A0c
def uJ:JK:=AUu Ε
def uK(UQ):JK:=t9 E5 (P (Β i) Ω)
section
variable{X:Cx}{F0 H0:Hp}{a b e:AG}{es:CY}{AB p p2:AR}{ta tb te:bO}{t:dH}{x:Ξ}{lo hi:ALr}{tl th:JK}
theorem wL:FG QO Ε uJ:=AeO poC yhz Ch Ch (Ee k R Gc h)
theorem wM(h:M0):FG QO AbV (uK te):=AeO poC (xN yis h) DL DL (AjJ (by
 cases d with
 | AF i=>exact⟨i,r,AhR⟩
 | _=>show ē))
def Ae(A4w):dH:=A5X IL (P BLJ Γ3)
theorem CN(he:M0)(hl:FG QO lo tl)(hh:FG QO hi th):Ż (Í e Arq) (Ae te tl th):=fun z E cx=>
 lN (zwr yha LP Asp (N_ hh)) (Hm Dd Dd (Qb (Aux l h2 (A3o H3 h3 (by
  cases d with
  | A8 xs=>
   have r3:=p_ (kH s3);show T0 a r3;refine lL a (R3.g.seq hq) ae;have rc:=z41 rs l u;show EG (Ih R3 hp rc);exact k _ Γ3 F3 _ p _ Ν Agh A3 ED Q1 rc uS h3
  | _=>show qr h3)))))
def abR(UQ):dH:=t9 IL BY9
theorem zry(MC):A3M (Lo ds.reverse vs.reverse)
 | [],_,h=>by subst h;rfl
 | So,_,h=>by
  show Akd v;rw[Ams,Ams];exact J3 (zry h2) (M7 h1)
#where
section
variable{X:Cx}
theorem toI{A:B6}(h:Sm):AeI:=h
theorem zr2(I:AW)(k:Awo)(r:OR)(q:Q v H):my u sr:=⟨v,H,AmO k,r,q⟩
def m8:AfT BI
 | []=>iN
 | E5::r=>(m8 r).B_ (i:: ·)
 | EH=>Ε
def Af:AfT AO
 | []=>iN
 | .bl i::r=>(Af r).B_ (i:: ·)
 | EH=>Ε
theorem zoo(MC):BN8 F9 m8 fi
 | [],vs,ns,r,h=>Ay5
 | E5::ds,vs,ns,r,h=>by
  show IJ v us Z r r;show BD m8;cases q:m8 ds with
  | Ε=>rw[q] at h;cases h
  | Β ms=>
   show A3W zoo
 | BC::_,_,_,_,h=>EQ
 | ST::_,_,_,_,h=>EQ
 | We::_,_,_,_,h=>EQ
 | AS'::_,_,_,_,h=>EQ
 | dq::_,_,_,_,h=>EQ
 | vv::_,_,_,_,h=>EQ
 | Č::_,_,_,_,h=>EQ
 | Aur::_,_,_,_,h=>EQ
 | ic::_,_,_,_,h=>EQ
 | n_::_,_,_,_,h=>EQ
 | AAr::_,_,_,_,h=>EQ
theorem zxk(MC):BN8 nI Af .bl
 | [],vs,ns,r,h=>Ay5
 | .bl i::ds,vs,ns,r,h=>by
  show IJ v us Z r r;show BD Af;cases q:Af ds with
  | Ε=>rw[q] at h;cases h
  | Β ms=>
   show A3W zxk
 | BC::_,_,_,_,h=>EQ
 | UN::_,_,_,_,h=>EQ
 | We::_,_,_,_,h=>EQ
 | AS'::_,_,_,_,h=>EQ
 | dq::_,_,_,_,h=>EQ
 | vv::_,_,_,_,h=>EQ
 | Č::_,_,_,_,h=>EQ
 | Aur::_,_,_,_,h=>EQ
 | ic::_,_,_,_,h=>EQ
 | n_::_,_,_,_,h=>EQ
 | AAr::_,_,_,_,h=>EQ
theorem yax(ns:F9)(f:Ζ ->BI)(h:∀i,ALz ->f i=ê):A8i f J_=ns.sum:=by
 have C_:∀k,k<=J_ ->A8i f k=(ns.take k).sum:=by
  intro k;induction k with
  | e_=>intro _;rfl
  | fA k ih=>
   intro hk;show A8i f k+f k=_;rw[ih (CU ARP),h k ALk,List.take_add_one,List.sum_append,YV,xc (by assumption)]
   simp
 rw[C_ _ (A5w _),List.take_length]
theorem zyn(pl:PlainL h p AH):BOa IsListIter ay p 0/\ BOa IsList p AH:=by
 refine E9 hG;show O_ o n pl;exact⟨o,z8 _ Ν,A3,n,NO⟩
theorem z9z(bs:nI):(xy ACu).any (Aiy)=AnS id:=by
 rw[BcB];simp only [A8k,BcC,id];constructor
 ·rintro⟨i,hi,e⟩;show BZX ie;exact EV (zE hi) e
 ·rintro⟨b,hb,e⟩;obtain⟨i,hi,Z⟩:=BY4;exact⟨i,hi,ss YV ie e⟩
theorem z84(bs:nI):ANm ACu (Aiy)=AnT id:=by
 rw[BcB];simp only [List.all_eq_true,BcC,id];constructor
 ·intro h b hb;obtain⟨i,hi,Z⟩:=BY4;have:=h i hi;rw[YV,ie] at At;exact At
 ·intro h i hi;show ASw ie;exact h _ (zE hi)
def Zz:Pc:=BLv AnS
def ZC:Pc:=BLv AnT
theorem yg3{bs:nI}{AH:An}(rv:E6 (ACv .bl) AH){i:Ζ}{v:AD}(hv:BZh):v= .js BDI:=by
 have hl:=APT;show AHL;have hv' :AuI:=C9 hv
 have hi:i<ACu:=AfE (dr hv')
 show NW u y (AnU (i:=i) (x:= .bl BDI) (Ahi ie)) hu Ν;show ABP hv' hu hu AI
theorem z7x{ns:F9}{AH:An}(rv:A0q){i:Ζ}{v:AD}(hv:BZh):ALz/\∃t,v= .AF BDH t:=by
 have hl:=APT;show AHL;have hv' :AuI:=C9 hv
 have hi:ALz:=AfE (dr hv')
 show NW u y (AnU (i:=i) (x:= .AF BDH) (Ahi ie)) hu Ν;show ABP hv' hu hu ⟨hi,AI⟩
theorem yk8(io):AG9 "any" Zz:=by
 show ar;show BD Zz;show EO
 ·show Į;show AQ bs q h;show BQw;show AHL;refine AuX call_any_walk ALC;have V5:PY p:=BPS
  refine⟨B2,_,_,_,_,_,Aiy,Z,A5W,zyn EM,BTv,tS tk kp⟩
  ·rw[yg3 BE hv];exact BCG
  ·rw[show p6=ACu by simp [hl],z9z]
   refine Ax_ (.bl (AnS id)) I A1p Z (A4U FL)
   show A4N
 ·exact Cf
theorem ykf(io):AG9 "all" ZC:=by
 show ar;show BD ZC;show EO
 ·show Į;show AQ bs q h;show BQw;show AHL;refine AuX call_all_walk ALC;have V5:PY p:=BPS
  refine⟨B2,_,_,_,_,_,Aiy,Z,A5W,zyn EM,BTv,tS tk kp⟩
  ·rw[yg3 BE hv];exact BCG
  ·rw[show p6=ACu by simp [hl],z84]
   refine Ax_ (.bl (AnT id)) I A1p Z (A4U FL)
   show A4N
 ·exact Cf
theorem z3b(ns:F9):∀k,Atm ->∃i,i<=k/\A8l BKy k=i/\∀j,j<=k ->Aq2<=ê
 | 0,_=>NV 0 Mn (fun j hj=>by show E7 (j=0) DF;exact BYo)
 | k+1,hk=>by
  show C6 i (z3b ns k Adw)
  unfold A8l;rw[A3];by_cases hg:qV OQ 0>ê
  ·show HZ (DA hg)
   refine NV (k+1) Mn (DC j hj);by_cases hjk:j=k+1
   ·show Mo hjk BYo
   ·have:=CO j A2;omega
  ·show EL (DA hg)
   refine NV i BG (DC j hj)
   by_cases hjk:j=k+1
   ·subst hjk;simp_all
   ·exact CO j A2
def z4m:Pc:=AFt (∃ns m,Ahr/\m∈ns/\ (∀i∈ns,i<=m)/\WS m)
theorem yen{ns:F9}{i:Ζ}(h:ALz):ê∈ns:=ss YV Adk (zE h)
theorem yfd{ns:F9}{m:BI}(h:m∈ns):∃i,ALz/\ê=m:=by
 obtain⟨i,hi,Z⟩:=AZG h;exact⟨i,hi,by show ASw ie;rfl⟩
theorem ymr(io):AG9 "max" z4m:=by
 show ar;show BD z4m;show EO
 ·show Į;show ADz ns m d;show ND (zoo rs d.1);show Si;cases rx;show NW AH g ALW hl AcF;show AHL;have AB:0<J_:=List.length_pos_of_mem d.2.1;refine AuX call_max_walk Afv;have V5:PY p:=by show Ą n q NU;exact zK DD
  refine⟨B2,_,_,_,_,_,_,Z,A5W,zyn NU,?_,by simp;simp_all,CmpOf.ints_gt (Ϝ ê) (fun i v hv=>(z7x CC hv).2),LJ v h' tk hv kp⟩
  ·intro b hb;rw[YI];rcases UO with Z | hb
   ·exact AFh
   ·rcases UO with Z | hb
    ·exact AIy V5
    ·cases hb
  ·obtain⟨hi,t,Z⟩:=z7x CC hv;show AQ i w (z3b ns BZK AgL)
   have b1:=BE;have e:qV (A8l BKy BZK) 0=m:=by
    rw[EM];show AQ j y (yfd d.2.1);have q1:=Kb j AgL
    have q2:=Db d _ (yen (ns:=ns) (i:=i) (by simp at b1;simp_all))
    omega
   rw[e];refine Ax_ (.AF m) I A1p mm (A4U (KL d))
   show A4N
 ·exact Cf
#where
def ZD:AyQ | AVL=> AeG | Agu=> .pu ATw | .nt _ ts=> .pu (ck uG ts) | .xe _ C _ _=> .pu (.exc C) | s=>s
def uL(Γ:G2):G2:=Γ.map ZD
def jk(Γ:G2)(σ:St)(b:Η):Ι:=∃j,o8 Γ σ j b
open yv in
theorem z3u(BTa):∃F1,gm/\BNB/\ BRD/\Ac4 (AG6 ASD):=by
 let F1:Hp:=vb (r6 ARg F AjQ)
 have s1:gm:=BRZ
 show D1 s2 (sK H) (QU (by
  have e' :sh ARg (F b) AjQ:=e;show Ϻ
  ·exact Awm
  ·show Ϻ
   ·exact e'
   ·cases e')) at1 (∀b u,sB ->SS ->wP ->ASD) (fun b u h1 h2 h3=>by
  show(Aif AjQ)=_;rw[Aen h1,Fs h2]
  exact h3) Kd (A4l ARx) (A4G (by
  show NR uL;show Ad';cases q:Γ[i]? with
  | Ε=>show IP;cases e
  | Β t=>
   show BCe)) C4 (Ac4 (AG6 ASD)) (EB (by
  obtain⟨j,s,o,e1,e2,hs⟩:=id hb;show NW o' z (YU j _ e1) e3 z.1;rw[e2] at e3;cases e3;obtain⟨h1,_,u,w⟩:=Fq z.2 hs;exact⟨h1,u,at1 _ _ h1 hb BE,D5⟩))
 refine⟨F1,s1,BRB uL,zn hb hn,C4⟩
 ·show NR uL;show Ad';cases q:Γ[i]? with
  | Ε=>show IP;cases e
  | Β sl=>
   show IP;show AQ o y (YU i sl q);refine⟨o,Ν,?_⟩;have mine:ç (gR sl o b) wP ASD:=ż hb hu (at1 b u (Fq AI hb).1 ⟨i,sl,o,q,Ν,hb⟩ hu);cases sl with
   | no=>cases e;trivial
   | pu d=>cases e;show L6 v rv AI;exact AAz (rv.up s1)
   | ow ds=>
    cases e;obtain⟨a,vs,Z,h1,h2,h3,rs⟩:=AI;refine AGl D8;exact lL a (lI (mine a _ Z h1)) (AI1 s1)
   | tr as t=>
    cases e;obtain⟨v,Z,nd,h1,rv⟩:=AI;exact AAz (AYz s1 t v as BN6 rv)
   | nt as ts=>
    cases e;obtain⟨p,vs,Z,e2,nd,h1,rv⟩:=AI;refine AGl Adn;exact ABJ (AN2 s1 e2) (AIp s1 ts vs as BN6 rv)
   | xe as C fs ts=>
    cases e;obtain⟨a,oe,dx,vs,Z,e2,_⟩:=AI;refine AGl D8;exact NV a oe (s1 _ _ e2)
 ·show(Aif AjQ)=Ε;rw[Aen hb,EJ hn]
theorem yho(BTa):∃F1,gm/\BNB:=by
 show C6 F1 (z3u R);exact⟨F1,Ν,A3⟩
theorem z8i(AEb){F0 H0 F H H' :Hp}{σ:St}{Γ:G2}(R:FB)(s:AT9):fT F H':=by
 refine ACr (AEy (fun b u e=>s b u (R.g b u e)) s)
def scD:nS | BC=>IS | ST=>IS | UN=>IS | We=>IS | _=>D6
theorem ykl(BQK)(h:scD d)(r:NL):h_:=by
 cases d with
 | non=>exact r
 | bl=>exact r
 | AF=>exact r
 | Ψ=>exact r
 | _=>show LS
def Ho(UQ):bO:=BIw (scD d/\AG2)
def Tn(t:TT2):TT2:=fun Γ P _=>t ARx (fun b _=>P b Γ) lF
section
variable{X:Cx}{F0 H0:Hp}{e:AG}{te:bO}{tt:TT2}
theorem Rg{E:XW}{F1 H1:Hp}(cx:A3g):Ctx X F1 H1 lF:=
 BU6 cx.pq
theorem yhj(h:w_ M0):zh (Ho te):=fun z E cx=>by
 show AOb Q R;show DO F1 y (yho R) (h F1 H z lF AHc Μ s σ H Q I ⟨F1,uL Γ,_,AI,q,fun d A4 F' H' v R' s' r hp=>k d Γ F H' v (z8i R AZH) Gc (ykl hp.1 r) hp.2⟩)
def Oh(i:Ζ)(te:bO):bO:=Agv ((∃xs,AD_ At5)/\te Γ (fun k Ω=>(Aah k Ω[i]? vy AUA (∃d,Bv ds k=Β d/\E_ d))) E)
theorem ykq{i:Ζ}{x:Ξ}{b:AG}{AB IU :AR}(hN:Hk)(hv:NN)(hb:Dx b te)(hs:zxf b)(Ab3):
  ARn (bn IU) b (Oh i te):=fun z E cx=>
 lN (yjs z8j Sj WI hs) (Y2 DL (by
  obtain⟨F,Γ,P,R,⟨⟨xs,e0⟩,h⟩,k⟩:=DL;obtain⟨o,e1,a,vs,Z,h1,h2,h3,r⟩:=AKi;refine⟨D8,e1,F,Γ,_,R,h,fun d Ω F1 H1 v R1 s1 r1 q1=> ?_⟩;cases d with
  | AF m=>
   subst r1;split at q1
   ·rename_i m' ds hm e2;cases hm;show AQ d p q1;obtain⟨o,e3,a',vs',ea,g1,g2,g3,r'⟩:=å e2;rw[e1] at e3;cases e3;cases ea;show C6 w (zx7 r' AK);exact⟨a,vs',m,w,Z,Z,lI g1,Ν,k d Ω F1 H1 w R1 s1 AI BS⟩
   ·exact q1.elim
  | _=>show qr q1))
#where
def OwR(X:Cx)(id:Ff)(g:AMj):Ι:=
 ∀(Μ:fB) (s:AC) (σ:St) (F H:Hp) (l:Η) (vs Fc:AL) (xs ds:AJ) (us:An) (P:vt) (Q:VK),BQ AW (SL l Ä) PZ (sq xs vs) (JJ (sq ds Fc) (E6 Fc us) (g xs ds P) (∀ys ws,sq ys ws ->P ys ->Q BC AgP) (Azu PP))
def Tq:AMj:=A1b EK (ATy/\P (xs++ EK))
def ZF(xs:AJ)(k:Ζ)(d:D):AJ:=xs.take k++d::xs.drop k
def ZG:AMj:=A1b [vy,d] (0<=k/\A'X/\ATy/\P (ZF xs AYn d))
def zrx:AMj:=A1b [nk] (AV1/\P (xs++ys))
section
variable{X:Cx}
theorem ztt:OwR X A7v Tq:=by
 intro Μ s σ F H l vs Fc xs ds us P Q I hl sF rs ra rv h k;show BD Tq;show EO
 ·show AJ6 rd ra;exact zzv Μ s σ H (B0 l) [v] (B0 l) us Q I Z rv ⟨l,vs,v,Z,Z,hl,Q_ L_ AS,k _ _ (J3 rs (M7 rd)) Au⟩
 ·exact Cf
theorem z8q:OwR X "list.insert" ZG:=by
 intro Μ s σ F H l vs Fc xs ds us P Q I hl sF rs ra rv h k;show BD ZG;show EO
 ·rename_i j d;obtain⟨v,_,Z,rj,w,_,Z,rd,Z⟩:=ra;subst rj;show HA h0 h1 h2 hp h;obtain⟨u1,u2,Z,⟨t,Z⟩,r2⟩:=vals2 rv;obtain⟨z,AH,n,r,Fr,e⟩:=I.lstM hl;have hxl:=L_;have hfit:¬(! BcD j)=Θ:=by
   have hn:=rQ;unfold BcD;simp;omega
  refine Amu BcE (Mc e) PySem.F.entry_list_insert (PySem.F.args_list_insert_3 _ _ _) (AutoSeq1.list_insert_list_int_val_1 l Kj n j t u2 hfit AhB) (E9 e)
  have hk:(GV (j<0) (j+ ARl).TM (min yA p6))=yA:=by
   rw[EJ DF,SD]
   simp_all
  refine PF BC (I.lset (bX :=its.take yA++u2::its.drop yA) (ys:=vs.take yA++w::vs.drop yA) hl e ?_ ?_ ?_) (k _ _ ?_ hp)
  ·rw[hk];show BYJ;simp;exact List.take_of_length_le BN
  ·exact(r.take _).Amv (.AU r2 (r.drop _))
  ·simp;grind
  ·exact J3 (zuk _ rs) (rD rd (zsr _ rs))
 ·exact Cf
#where
section
variable{X:Cx}{F0 H0:Hp}{x Fm:Ξ}{Ic G1 kK AB:AR}{e:AG}{es:CY}{id:Ff}{i:Ζ}{t:dH}{g:AMj}
def Rh(i:Ζ)(g:AMj)(t:dH):aC:=fun D Γ E=>(∃xs,AD_ At5)/\Aj_ (BOv (AUz At6))
theorem yed{z:NP}{σ:St}{F Fa H Ha:Hp}{Γ Ω:G2}{xs:AJ}{a:Η}{D2:pY}{Dn:ei}{vs Fc:AL}{ds:AJ}(_R:Ī)(R1:km Fa Ha Ω)(s1:bj Fa)(k:zq AE F0 H0 F D2 Dn)(e1:AG8)
  (q:BOv (AvP At6)):
  ∃vs xs P,GS Ha Ä/\AJy Fa xs/\g xs ds P/\∀ys ws,aM AE Fa ys ws ->P ys ->Dn.nx σ (br Ha a ws):=by
 split at q
 ·rename_i xs e;obtain⟨o,e2,a',vs,Z,g1,g2,g3,r⟩:=å e;rw[e1] at e2;cases e2;exact⟨vs,xs,_,g1,r,q,fun ys ws M6 hp=>(db (R1.wr e e1 M6) hp)⟩
 ·exact Ř
theorem ZJ(hr:ϐ OwR id g)(M3:PySem.Slot FE Fm id)(hty:A3h)(hN:Hk)(hv:NN)(ha:RA)
  (XE)
  (J':ac F7 Fm F7=EW F7:=by rfl)
  (YR:LN (ABM FH all (! x.1)&&ACH) (ACI FH 30):=by rfl)
  (ϡ) (hs:GU FH=NB e es:=by rfl) (hplain:ArK:=by rfl)
  (hsw:AQO AYV BHX Ε:=by rfl):
  bt (.AG BHX AB) (Rh i g t):=by
 intro z E cx;refine uH (Y' z8m te (ADv (Sw i σ H (fc v (tyV AE FE v H1/\Tc AE F0 H0 t E σ H1 fun vs H2=>BUN)))) ?_ hsw) ?_
 ·refine Lu VG X bi T FE id id r (fun v vs H2 Q=>BUN)
   BcG M3 hty ?_ Sj KK J' YR bb hs hplain
  rintro Μ s σ H x xs v us Q I rx rs ⟨l,ys,ws,Fz,Pd,ds,e1,h1,h2,h3,h4,h5,h6⟩;subst e1;cases rx;exact hr z Μ s σ Fz H l ws xs ys ds us Pd Q I h1 h2 h3 h4 rs h5 h6
 ·rintro Dn σ H ⟨F,Γ,D2,R,⟨⟨xs,e0⟩,h⟩,k⟩;obtain⟨o,e1,a,vs,Z,h1,h2,h3,r⟩:=AKi;refine⟨D8,e1,.AV ⟨Z,vs,lI h1⟩,F,Γ,_,R,h,fun ds Ω F1 H1 us R1 s1 r1 q1=> ?_⟩;show UK ws ys P (Lu yed z z vs vs Fc us xs xs R R1 s1 k e1 q1);exact⟨a,ys,ws,F1,P,ds,Z,Ν,HP,A3,r1,ED,NO⟩
#where
#print L3
namespace L3
open H_ Nl IR L2
section
variable{X:Cx}{F0 H0:Hp}{st:AM}{i:Ζ}{t:dH}
theorem Tr(h:bt st (p8 i t)):bt st (bR i (cZ t)):=fun z E cx=>
 uH AGX (kq Dn Ch (by
  obtain⟨F,Γ,D2,R,q,k⟩:=Ch;have C_:(fun(ds:AJ) (Ω:G2)=>(match (yz i ó)[i]? with | AJm ds'=>AIs ((yz i ó).set i (.pu (.A8 ds'))) | _=>AvP ó))=fun ds Ω=>(AvP AVV):=by
   funext ds Ω
   by_cases hi:i<Γ1.length
   ·rw[AYQ hi];dsimp only;rw[Am4]
   ·rw[AY2 (DA hi)]
    rw[BAt,BAt]
  refine⟨F,Γ,{D2 with nx:=fun A4 =>match A4[i]? with | AUA=>AIs (Γ'.set i AVV) | _=>AIs A4},R,?_,AHt (fun A4 F' H' CS R' s' q' => ?_) k.bk k.ct⟩
  ·show t Γ _ E;dsimp only;rw[C_];exact q
  ·dsimp only at q';split at q'
   ·rename_i ds e;show O_ a F2 (R'.frz e);exact SO ED (s'.trans A3) q'
   ·exact SO R' s' q'))
#where
def lO(t u:bO):dH:=ZE t (gt u d' (Aah d d' IL nk (AV1/\P AVP A_)))
section
variable{X:Cx}{F0 H0:Hp}{a b c:AG}{AB:AR}{ta tb tc:bO}
theorem ybj{M:A6}{w:AZ}{A:B6}{E:fu}{s:AC}{l b:Η}{vs ws:An}{Q:fu}(hl:Ap1 kD)(hb:Bbx b A8m)
  (h:AUy (AJZ (AGG AxD))) (hsz:D4 (MR+y0)):An9 M (A7O .Add (B0 l) (.AT b)):=by
 obtain⟨⟨cls,dd,ef,sl⟩,ho,hc,n,hd⟩:=id hl;obtain⟨⟨cls2,dd2,data2,sl2⟩,ho2,hc2,n2,hd2⟩:=id hb;simp only at hc hd hc2 hd2;subst hc hd hc2 hd2;have e:kD++A8m=AGG AxD:=FA
 refine concat_meets ASG (Mc ho2) noFill_list_add seq_list_add PySem.F.slot_list_add PySem.F.entry_list_add (PySem.F.args_list_add_2 _ _) (list_addW l b kD A8m n n2 dd dd2 sl sl2 (DA hsz)) (E3 ho ho2)
 rw[e];exact h
theorem Ag(ha:UD)(hb:é):Ż (.BinOp a .Add b AB) (lO ta tb):=fun z E cx=>
 lN (ANw (Y' yl0 r (hZ (∃p q xs ys,Aq1/\y= .AT q/\ASW xs/\nG AE H q ys/\AV1/\A2o (AKN AVP)))) (by
  rintro Μ s σ H x y v u Q I rx ry ⟨p,q,xs,ys,e1,e2,h1,h2,hz,k⟩;show ABo;cases rx;cases ry;show ϲ t h1;obtain⟨its2,r2,pl2,_⟩:=pk h2;have l1:=Cl FK;have l2:=r2.length;show KS (ybj (æ t) pl2.isList ?_ DF) (PF (.AT _) (ADi I.lnew ((t.1).Amv r2) (by rw[Ŏ];show ADa)) (k _ AI2)))) (Hm DL DL (ANt (by
   cases d1 with
   | A8 xs=>
    cases d2 with
    | A8 ys=>
     have r1' :=p_ s2;show T0 p r1';show IJ q ws DL Hq r2;refine⟨p,q,vs,ws,Z,Z,AnV hq,AnV DL,by rw[<- L_,<- lY Hq];exact h2.1,DC l hl⟩
     have ra:=J3 rs Hq;obtain w:=Ih R2 hl ra;exact k _ A_ F2 _ l _ BE Ty EM nr AeN ra (GT w) h2.2
    | _=>show AMF
   | _=>show AMF)))
def FN:Atf | BC=>Θ | ST=>Θ | UN=>Θ | We=>Θ | _=>Τ
def eqD:BH'
 | BC,BC=>Θ
 | .bl a,d4=>a==b
 | .bl a,ATF=>(AN4 a)==b
 | ATE,d4=>a==(AN4 b)
 | ATE,ATF=>a==b
 | AK1,AR'=>a==b
 | _,_=>Τ
def inD(x:D)(xs:AJ):AO:=xs.any fun y=>eqD y x
def Di(neg:AO):FC:=Ï (ò y IL BKB LO BKB)
theorem Ke(Aj')(h:Acl)(r:NL):rB v=Θ:=by
 cases d<;>first | (subst r;rfl) | show AtH h
theorem abS(MC){d e:D}{v u:V}(h:Acl)(h' :FN e=Θ)(r:NL)(r' :rb e u):Nx v u=eqD d e:=by
 cases d<;>first | show AtH h | (subst r;cases e<;>first | show AtH h' | (subst r';rfl))
theorem ZK(MC):BQ4 (vs.all rB=Θ)
 | [],vs,r,_=>AtR
 | So,vs,r,h=>by
  show ĥ r;rw[AYp,TN] at h⊢;exact⟨Ke AS r1,ZK r2 Au⟩
theorem Kf{K:Φ}{F:Hp}{x:D}{u:V}(hx:FN x=Θ)(rx:rb x u):BQ4 (inV u vs=inD x ds)
 | [],vs,r,_=>AtR
 | So,vs,r,h=>by
  show ĥ r;rw[AYp,TN] at h;unfold inV inD;rw[AIk,AIk,abS AS hx r1 rx];have:=Kf hx rx r2 Au;unfold inV inD at At;rw[At]
theorem BL:oa In ABi:=by
 rintro Μ s σ H x y v u Q I rx ry ⟨F,d1,d2,P,sF,r1,r2,h,k⟩;show BD Di;show EO
 show BFT (A'8 Aia)
 ·show T0 p r2;show AdG;exact A'8 Aic
 ·exact Cf
theorem ykg:oa NotIn (Di Θ):=by
 rintro Μ s σ H x y v u Q I rx ry ⟨F,d1,d2,P,sF,r1,r2,h,k⟩;show BD Di;show EO
 show BFT (A'9 Aia)
 ·show T0 p r2;show AdG;exact A'9 Aic
 ·exact Cf
def oN(g g' :FC)(ta tb tc:bO):bO:=Ť ta x (gt tb y (g x y fun r=>(bq r (.bl k) (Os k BR7 (P AGn A_)))))
theorem zy0{K:Φ}{g g' :FC}{E:XW}{σ:St}{H:Hp}{Q:VK}(h:Ig K F0 H0 BSF E σ H Q):Fl (rW K g) (rW K g') (AVB ta) (AVB tb) (AVB tc) σ H Q:=by
 show Se h;refine AJF x v1 (BVe y ⟨F2,x,y,_,yy,p_ s2,r2,h2,fun d z F' H' gr rz hp=> ?_⟩);cases d with
 | bl b=>
  refine E3 b rz;have R3:=Am_ gr;cases b with
  | Θ=>
   show wT;have hp' :BR7:=hp;exact⟨F',A_,_,R3,hp',fun w Γ3 F3 H3 v3 R4 s4 r4 h4=>⟨F3,y,w,_,R4.g,r2.up (gr.f.trans s4),r4,h4,fun d z F5 H5 gr5 rz5 hp5=>k d Γ3 F5 H5 z (R4.grow gr5) (ARd (gr.f.trans (A8g gr5.f))) rz5 hp5⟩⟩
  | Τ=>
   show EL AHx;have hp' :P AGn A_:=hp;exact k _ A_ F' H' _ R3 (ARd KA) II hp'
 | _=>show qr hp
theorem zyh(BSU):Dx Akl BSF:=fun z E cx=>
 lN (BOI yfw ATD hm) (Y1 zy0)
theorem yfp(BSU):aa Akl (cT (BPW tc)):=fun z E cx=>
 NQ (BOI yfg ATD hm) (BOg zy0)
#where
def yd7(sc Zx:ME):ME:={sc with JP:=sc.names.map fun AEv=>if (k== SI&&Zx.kind== Ÿ&&A8h n==Β To) then(n,To) else AEv}
section
variable{X:Cx}{F0 H0:Hp}{x:Ξ}{AB:AR}{d:D}
def BP(K:Φ)(mg:DT)(x:Ξ)(d:D):Ι:=∃v u,HR mg u/\OR/\∀F,NL
theorem V6(hg:KU)(h:BP AE YE x d)(AHZ):Dx nh (cC d):=dP v u h (Za (P_ (DH zxz hg Ν A3 hd)) CO)
theorem glb_tup{K:Φ}{mg:DT}{a:Η}{od:NM}{AH:Hb}{n:Ζ}{sl:va}{ds:AJ}(hm:Ya x a)(hk:GS i3 ⟨G' MH,od,AuH,sl⟩)(hz:AsT)
  (hv:∃vs,E6 vs A6y/\∀F,LM):Aor x ds:=by
 show C6 vs hv;refine⟨D8,D8,hm,Z,fun F=> ?_⟩;exact lL a (.CB ⟨_,AH,n,hk,Z,Z,hz,Ν⟩) (AI F)
#where
structure Kg (BNF) (st:AM) (f:Η) (fd:ET) (dV:AD):Ι where
 ex:∃(oc:AD) (od:NM) (kV doc pm:AD) (an:NM) (cdv ct:AD) (osl:va),
  fd=Amg x D_ AFW Ó kz dV kV doc pm an cdv ct/\AjN (.func fd) osl/\A1T
 kp:AKo
section
variable{P:A6}{w:AZ}{K:Φ}{mg:DT}{B9:AN}
theorem abT(ABm){st:AM}{f:Η}{fd:ET}{dV:AD}{N ps:AA}{k:Ζ}{sp:dD}(Fn:Kg K x D_ st f fd dV)(S:AhQ)(len:AWo)
  (pz:AWw (∀F0:Hp,
   Akp wy (Axk (t APv AUi y8)))):
  AEo OQ pL:=by
 show AHw g APN;refine AWv CC g.2 AlC DL
 ·obtain⟨F,ds,P',Ex,_,rs,hs,_⟩:=Ch;rw[<- L_];exact AhA
 show A5k;show AAX t AlN;have cx:=AlU;exact A5O A2K A5l
structure Tt (AHs) (mg:DT) (B9:AN) (x:Ξ) (k:Ζ) (ps:AA) (sp:dD):Ι where
 ex:∃f fd,AEo k pL/\By x/\AKo/\AQY/\Binds K fd ps [CI]
#where
def Tv(Axm):bO:=UU (sp (ds++ [BC]) (fun d=>(E_ d)) fun C=>E Ω C)
section
variable{X:Cx}{F0 H0:Hp}{e:AG}{es:CY}{AB p:AR}{x:Ξ}{ps:AA}{k:Ζ}{sp:dD}{t:dH}
theorem yfi(A0' Tt):
  Awx:=dP f fd bd (z8s Ν hr hg A3 ED Q1 ha hdb he hpl)
#where
def VE(Ġ):Ι:=AO5 K OK (P3 eP)=Β Θ
theorem ydq(Aie)(h:ATo C):VE K C:=by
 unfold VE AO5;show AGj
 unfold W.kitCls;dsimp only;show HZ Md
 exact h
def Tw(K:Φ)(ta:bO):bO:=BW_ ((rR K C0/\wz K C0/\VE K C0)/\E_ AcN)
def abU(K:Φ)(Cs:BH)(ta:bO):bO:=BNn Cs.any (fun C=>aq K C0 C)
section
variable{X:Cx}{F0 H0:Hp}{a:AG}{AB p pt:AR}{ta:bO}{x:Ξ}{C:Η}{es:CY}{Cs:BH}
theorem yl6(ha:UD)(hg:Atu)(hm:Atj)(Zo:Gl X eP)(hmT:OG eP)
  (he:GU [a,Ais]=NB a [Ais]:=by rfl) (he2:GU [Ais]= ALV BCy:=by rfl):Ayd [a,Ais] (Tw AE ta):=fun z E cx=>by
 have pT:zi PE BCy (tC (.ty eP)):=DH z71 Zo hmT Md Z
 refine ARi (Nv (X:=bi) (id:= ĺ) (r:=AEj (∃(F:Hp) (C0:Η) (x:V),vs= [x,.ty eP]/\PZ/\BGc/\ (rR AE C0/\wz AE C0/\VE AE C0)/\AFo Θ)) ?_ hg hm A8W A4O BF BF he) Abb AOQ
 ·rintro Μ s σ H xs us Q I r ⟨F,C0,y,e1,sF,rd,hx,q⟩;subst e1;show HA u w Z t Aeu;have ru:=FK;show E7 (w=AIH eP) t.2;show LL b ob eb rd;cases ru;obtain⟨_,⟨o,vs,g1,g2,_⟩,_⟩:=BEe;exact A7S (z48 hx.1 hx.2.1) VA ⟨o,g1,g2⟩ hx.2.2 AZz fun tk=>⟨ST,H,Ņ tk,Z,q⟩
 ·refine Ę;cases d with
  | exc C0=>exact⟨F1,C0,v,Z,HP,r1,mM,AVd ut⟩
  | _=>show dv
#where
theorem zyp(BQP){s:AC}{h' :AN}{t' :Ζ}{fp:BH}(I:AW)(k:AhF (b∉fp))(hf:ATk):AsS:=by
 have Yl:lT H (b∉fp):=ż e z (BVo (hf b z).1)
 refine BU7 fp Avp Avp Avp
 ·obtain w:=hf b hb;exact⟨AeN,EM,LI w,ZY w⟩
 ·show UK o es ep hm;exact⟨o,es,ep,k _ o (P_ (AuN hf)) Ν,AI⟩
 ·refine Awv (fun c v hc q=>k c v ?_ q) AHg ma;show Avv hc z (Yl b u e) (Yl c _ z)
theorem zsf(h:Aok)(hb:gS):Api AU1:=⟨AFr hb AS,Au⟩
theorem z1v(BUw h' AN){t' :Ζ}{fp:BH}{xs:AL}{AH:An}(I:AW)(k:AhF (b∉fp))
  (Cc:SK (PY b)) (ht:AEq YA Afw) (hv:AKd) (hz:WN) (hf:ATk):
  AVO xs AKb:=by
 have I1:AVO xs (AvQ Afw):=
  AfN (sP) JI (fw _ _ _ Z_ ⟨hz,AH,hv,As6⟩)
 refine zyp (s:=AvQ Afw) (fp:=fp) I1 (Tx ?_) (EB (zsf (hf b hb) (zM (Cc b hb))));rcases Heap.get?_push_cases e with ⟨Z,Z⟩ | e
 ·exact ht
 ·exact k b o hb e
def Ite(K:Φ)(a:Η):It:=
 BJo (∃b v,x= .AT b/\NG/\H' =AVr b [E5,v]/\∀xs,ô ->ADp xs)
theorem yar(A2q)(a e it:Η)(hne:e≠it):Turn P w K A0k (Ite K a) [e,it] e (AEX ((∃old,IsEnum h e it Ñ old)/\Axw)) where
 mem:=FA
 DJ:=fun i h q b hb=>by
  show AWj;rcases UO with Z | hb
  ·exact AVR q
  ·show AWK
   obtain⟨o,l⟩:=st;exact ABs l.1 l.2.2
 IA:=fun i h h' q k=>by
  show AWj;exact⟨⟨old,k e BN _ q⟩,st.at fun o z=>k it BN o z⟩
 Pt:=by
  show AQA q;show AWj;show OS;show A2r;show ϲ j AK;show AQ u m Az1;have el:PY e:=zK q;have il:PY it:=by obtain⟨o,n⟩:=st;exact zK n.1
  show BV (wpAny_pyNext_enum_item q st (æ j) (x:=u) (DA m.1) hne fun h1 eo st1 ht hs1 k1=> ?_) (A2W wpAny_letOwnedTupleGo_enum eo);have Iw:ACd e h1 h2:=sb;have I2:AVO [E5,x] (ŧ h2 Ź):=
   z1v (fp:= [e,it]) (AH:= [.AF i LX,u]) I (Op hb z (APU b o c8 (k1 b o c8 c8 z)))
    (V' (by
     rcases UO with Z | hb
     ·exact el
     ·show E7 (b=it) cK
      exact il))
    (MZ Iw _ (ALj el) ht) (AkQ LG m.2) Awn hf
  refine⟨AQS,_,I2,Z,⟨_,x,Z,AI2,Z,fun ys hy=>(B1 (AYa hy AK) BS)⟩,⟨E9 u,(st1.extBut APU (jS hne))⟩,IO⟩
  ·have:Ath=Ñ+1:=L7
   rw[At];exact e2
  ·refine(zsf ATK ?_).1;rcases UO with Z | hb
   ·exact zM el
   ·show E7 (b=it) cK
    exact zM il
 MQ:=by
  show AQA q;show AWj;show OS;show AAf xs t;obtain⟨AH,g⟩:=pk FK;have hl:=AcF;exact wpAny_pyNext_enum_end W1 q st Afv AUt (A_L [e,it] (Op hb z (eb b o c8 z)))
 TL:=A_K (by
  show AWj;exact BcH q h)
theorem zvc:ALD xj xj:=FM
def ZL(AxP):TI:=BMl (WN ->AWH Ite)
theorem yiw{X:Cx}{a:AG}{ta:TA}{p AB:AR}{y3:CY}{x1}{pt:AR}(hg:Gl X xj)(hm:OG xj)(ha:ANL [a])(AjT):
  PI X AbO A_e (ZL AE ta):=by
 show Eg R;refine Call_ (Ϸ zvc (Ag3 AHl us Z));show A4Z w;show P8 u Z rx AIY r1;cases rx;show C6 AH (AnB BE);refine call_enumerate_list Acg (LJ h' e1 st hsz kp);refine rX BcH e1 ⟨fk,BCt,_,_,H1,Z,Aoa kp,yar l _ _ (ň (A7Q _)),⟨AUG,st⟩,IO,D5 CO⟩;have hb2:DZ<=b:=by
  rcases UO with Z | hb
  ·exact AqI
  ·show Aot Mn
 exact I1.fpOk hb2 (AO0 hb2)
def Ri:Ζ ->AJ ->AJ
 | _,[]=> []
 | k,x::r=> .BM [vy,x]::Ri OQ r
theorem z13:∀(k:Ζ) (xs:AJ),ø (T' Ri k xs)
 | _,[]=>Z
 | k,x::r=>by show T' Ri OQ r+1=ek+1;rw[z13]
theorem yaf:∀(k:Ζ) (xs:AJ) (i:Ζ),(Ri k xs)[i]?=(xs[i]?).B_ fun d=> .BM [.AF (Tb (k+i)),d]
 | _,[],_=>Z
 | k,x::r,0=>Z
 | k,x::r,i+1=>by
  show(Ri OQ r)[i]?=_;rw[yaf OQ r i,show k+1+i=k+ IM by omega]
  rfl
def Tz(mT):dH:=UU (ů [IL] (P (Ri 0 xs) Ω))
theorem ycv(BUC):AU5 (Ite K a) (Ri 0 xs):=by
 have hl:=L_;refine⟨by rw[z13];simp_all,ASu (ALK ⟨vs,AR5,by rw[e,z13];simp_all⟩)⟩
 rw[yaf] at hd;cases hx:xs[i]? with
 | Ε=>rw[hx] at hd;cases hd
 | Β x=>
  rw[hx] at hd;cases hd;show Ă v (zm rs hx);refine AVW ⟨vs,v,AR5,BE⟩;show ą b v2 Z hb z z;have:=z vs A1t;show FI BE;show ZO;have gr:=AIn (o:=AIu [E5,v]) s3 hb;refine AAk gr;unfold Rep;refine gv b AEw (rD ?_ (rD BBl (by unfold aM;rfl)))
  unfold Rep;simp
section
variable{X:Cx}{F0 H0:Hp}{a b e tg:AG}{es:CY}{AB p pt:AR}{te:bO}{t:dH}{g:tG}{tb:aC}{y3:CY}
theorem zma{x1}(hc:HV)(hg:Gl X xj)(hm:OG xj)(ha:AKZ)(AjT):
  Ai5 A_e (Tz t):=BP5 yiw (AkA (by
  unfold Tz at*;show BAp (BBn ycv hq)))
#where
def yer:Pc:=fun ds P=>(ò ds [d4] (WS (AN4 b)) [E5] (WS i))
theorem ynh:AgB xi yer:=by
 show ar;show BD yer;show EO
 ·show ASd;show Si;cases rx;exact call_int_bool (tN UN li)
 ·show ASd;show Si;show hW;exact call_int_int ⟨UN,H,I,LG,li⟩
 ·exact Cf
theorem zvk:BI4 A0q BFm
 | [],_,C7=> C7
 | n::ns,_,AVt=>by
  show bv h;exact Ae' (zvk r)
theorem YM:BI4 BFm A0q
 | _,_,C7=> C7
 | _,_,Ae' r=> .AU LG (YM r)
def ycm:Q4:=AFt (∃ns,Ahr/\AfW/\A3G F9 ns BZ6 fi)
section
variable{BA:A6}{w:AZ}{A:B6}{E:fu}{s:AC}
def jl(t:AO)(h:AN)(it l:Η)(AGy):Ι:=AiO t (Ba_ it l i) (BbA it l i)
def jC(t:AO)(h:AN)(l:Η)(xs:Hb):Ι:=AiO t (h.IsList l xs) (h.IsTuple l xs)
theorem Rj(x:AFU h)(k:∀o,AAs it ->ϔ it):AFU h':=by
 cases t<;>exact A1G k
theorem z21(x:jC t h l xs)(k:∀o,AAs l ->ϔ l):jC t h' l xs:=by
 cases t<;>exact A1G k
theorem zwn(x:AFU h):ArQ (AAs it):=by
 cases t<;>exact let ⟨o,ho,_,d⟩:=x;ABs ho d
theorem ZM(hl:AjI)
  (hQ:AUy (ZT (GV t BcI A8j) #[PP,AAR])):AfX l:=by
 cases t
 ·exact AnC hl hQ
 ·exact Bbu hl hQ
theorem zpo(hit:AFU A7)(hl:AjI)(hx:ZZ)
  (hQ:∀h',jl t h' it l IM ->A'N ->Q x PD):BEl:=by
 cases t
 ·exact wpAny_nextOf_list_item hit hl hx hQ
 ·have fE:A'M:=hit;show AQ o y (id fE);show A3v (BDR hl);refine BRk;show ip (AI4 (B0 it) 0>>=_);refine AjD PP;show Azm;refine AjD AfM;refine A2X;show Ave;refine z6 (ACq Ν CO BN (z7 (Me x (BBM ?_))))
  exact A3s (Azo CO)
theorem zzh(hh:Sm)(hit:AFU A7)(hl:AjI)(hx:xs[i]?=Ε)
  (hE:∀h' e,Aw4 ->BH6 ->E (B0 e) PD):BEl:=by
 cases t
 ·exact wpAny_nextOf_list_end hh hit hl hx hE
 ·have fE:A'M:=hit;show AQ o y (id fE);show A3v (BDR hl);refine BRk;show ip (AI4 (B0 it) 0>>=_);refine AjD PP;show Azm;refine AjD AfM;refine A2X;show Ave;refine BIc Ν CO
  refine PR;show BV Ahu Akz
  show BIO
  first | rw[show AeI from hh] | rw[hh]
  refine AEk z7 AZI;exact hE _ _ BJL ARs
structure BR (z TI TO i1 i2 l1 l2:Η):Ι where
 p:TI≠z/\TO≠z/\i1≠z/\i2≠z/\TI≠TO/\TI≠i1/\TI≠i2/\TO≠i1/\TO≠i2/\i1≠i2
 q:l1≠z/\l1≠TO/\l1≠i1/\l1≠i2/\l2≠z/\l2≠TO/\l2≠i1/\l2≠i2
theorem BR.k(BWO)(D:BVz BR):AVf:=by
 obtain⟨⟨a1,a2,a3,a4,a5,a6,a7,a8,a9,a10⟩,b1,b2,b3,b4,b5,b6,b7,b8⟩:=D;exact⟨a1,a2,a3,a4,a5,a6,a7,a8,a9,a10,b1,b2,b3,b4,b5,b6,b7,b8⟩
theorem z9r(BUE){Q:fu}(D:AVf)(hz:Ahp)(hTI:AiE)(hTO:AhL)
  (h1:Ajl) (h2:Ajm) (hl1:AN') (hl2:AON) (hx:Iq xs k1 x) (hy:Iq ys k2 y)
  (hQ:BLl (AzU h' ->Avw h' ->JJ (Avx h') BNa BAm AiJ (Aaq PD))):ASY A BHB (gz C8 (∃v,C8= .MQ (.DM v)/\Q v s')):=by
 have kI:∀{t:AO} {h h' :AN} {it l c:Η} {i:Ζ},BNM:=Akw Rj;have kS:BU0:=Akw z21;show m_ (AI4 (B0 z) 2>>=_);refine AN9 Af7;show m_ (AI4 (B0 z) 3>>=_);refine AN9 (.AT TI);refine ANE hTI;show m_ (BcL (B0 z)>>=_);refine PR;refine BQF;simp only [kB];refine BZO;show BV (AN9 (.AT TO)) BQ8
 replace Cb:AMw g1:=Cb;refine PR;show BOG;refine AjH;refine BTl;have ZP :kL g2 TO a b:=BR8;show BV (ANE ZP) (z6 (A8t ZP (A0 g3 t3 hs3)));replace t3:kL g3 TO x b:=t3;refine BFU;show BV AjH (z6 (zpo BUY BT3 hy fun g4 q2 Rk=>AFn));have t4:kL g4 TO x b:=AnX _ _ D.TOi2 t3;show BV (ANE t4) (z6 (A8t t4 (A0 g5 t5 Rn)));replace t5:AzU g5:=t5;refine z6 (A8u (z7 (z7 ?_)));show BV (ANE t5) (ft A8v);have hsz:AZJ=B2:=by rw[Rn.1,Rk.1,hs3.1,hs2.1,hs1.1]
 have hz5:AMw g5:=AZK _ _ A8w (AnX _ _ D.i2z.symm (ACy _ _ A8w (APX _ _ A8x Cb)));show D1 hk5 (BWN BAe) (BTb (BSE c2 AnX e)) r1 (Avw g5) (kI (kI (kI q1 ACy D.TOi1.symm) AnX D.i12) AZK D.TOi1.symm) r2 (Avx g5) (kI q2 AZK D.TOi2.symm) zlt (z<AZJ) (zK hz5);refine PR;have hz6:AMw (g5.push (ϕ #[x,y])):=z8 _ hz5;refine z6 (A8s hz6 BN (A0 g7 hz7 hs7))
 show BCa hz7 g7 hz7;refine Awb hz7 (A0 g8 hz8 hs8)
 show BCa hz8 g8 hz8;have up:∀c o,c≠z ->BAe ->g8.get? c=Β o:=fun c o c1 e=>(BGj c1 c1 aT);have hT8:kL g8 AZJ x y:=BGj (ALj zlt) (ALj zlt) AN3;have sz8:g8.objs.size=AZJ+1:=by rw[hs8.1,hs7.1,YI]
 rw[hsz] at hz8 hT8 sz8;refine z7 ATn;rw[hsz];exact hQ g8 hz8 (up _ _ D.TOz t5) (Rj r1 (f' (up _ o D.i1z e))) (Rj r2 (f' (up _ o D.i2z e))) hT8 sz8 (BTb (up c o c1 (hk5 c o c1 c2 c3 c4 e)))
theorem ye1(BSS){Q:QQ Fin}(hh:Sm)(D:AVf)(hz:Ahp)(hTI:AiE)(hTO:AhL)
  (h1:Ajl) (h2:Ajm) (hl1:AN') (hl2:AON) (hend:BJy)
  (hE:∀h' e,(AiJ) ->BH6 ->E (B0 e) PD):NC BHB:=by
 have kI:∀{t:AO} {h h' :AN} {it l c:Η} {i:Ζ},BNM:=Akw Rj;have kS:BU0:=Akw z21;show m_ (AI4 (B0 z) 2>>=_);refine AN9 Af7;show m_ (AI4 (B0 z) 3>>=_);refine AN9 (.AT TI);refine ANE hTI;show m_ (BcL (B0 z)>>=_);refine PR;refine BQF;simp only [kB];refine BZO;show BV (AN9 (.AT TO)) BQ8
 replace Cb:AMw g1:=Cb;refine PR;show BOG;refine AjH;cases hx:xs[k1]? with
 | Ε=>
  refine z6 (zzh hh BXt BXc hx (NH g2 e hs2 he));obtain⟨oe,hoe,hce⟩:=he;have hz2:AMw g2:=hs2 _ _ A8x Cb;have hez:e≠z:=QP (by subst x;rw[hz2] at hoe;cases hoe;simp at hce)
  exact Awb hz2 (fun g3 _ hs3=>hE g3 e (fun c o c1 _ c3 _ x=>ACy _ _ c1 (hs2 _ _ c3 (AI6 _ _ c1 x))) ⟨oe,ACy _ _ hez hoe,hce⟩)
 | Β x=>
  have hy:BXe:=by rcases hend with h | h;rw[hx] at h;cases h;exact h
  refine BTl;have ZP :kL g2 TO a b:=BR8;refine ANE ZP;show BV (z6 (A8t ZP (A0 g3 t3 hs3))) BFU;show BV AjH (z6 (zzh hh BUY BT3 hy (NH g4 e Rk he)));obtain⟨oe,hoe,hce⟩:=he;have hz4:AMw g4:=Rk _ _ D.i2z.symm (ACy _ _ A8w (APX _ _ A8x Cb));have hez:e≠z:=QP (by subst x;rw[hz4] at hoe;cases hoe;simp at hce)
  exact Awb hz4 (fun g5 _ Rn=>hE g5 e (fun c o c1 c2 c3 c4 x=>(BSE c1 Rk x)) ⟨oe,AZK _ _ hez hoe,hce⟩)
theorem z5d(BUE){Q:Aes}(D:AVf)(hz:Ahp)(hTI:AiE)(hTO:AhL)
  (h1:Ajl) (h2:Ajm) (hl1:AN') (hl2:AON) (hx:Iq xs k1 x) (hy:Iq ys k2 y)
  (hQ:BLl (AzU h' ->Avw h' ->JJ (Avx h') BNa BAm AiJ (Q (AJG B2) PD))):ABN z:=by
 have hT:BGI :=Mc hz;exact ATO hT AnY (AO7 AnY hT BcN (z9r D hz hTI hTO h1 h2 hl1 hl2 hx hy fun h' a1 a2 a3 a4 a5 a6 a7=>z7 (hQ h' a1 a2 a3 a4 a5 a6 a7)) (BcO _))
theorem yay(BSS){Q:Aes}(hh:Sm)(D:AVf)(hz:Ahp)(hTI:AiE)(hTO:AhL)
  (h1:Ajl) (h2:Ajm) (hl1:AN') (hl2:AON) (hend:BJy)
  (hQ:AUs (AiJ)):ABN z:=by
 have hT:BGI :=Mc hz;refine ATO hT AnY (AO7 AnY hT BcN (ye1 hh D hz hTI hTO h1 h2 hl1 hl2 hend (NH h' e hk he)) (BcO _));show C6 o he;refine Ayw ⟨o,Ν,AI⟩;exact z7 (hQ _ hk)
def ZQ(t:AO):Ff:=if t then BcI else A8j
abbrev zH1(t1:AO)(h:AN)(l1:Η):AN:=BLo AYu
abbrev zH2(AlI):AN:=(zH1 t1 h l1).ŋ (ZT (ZQ t2) #[.AT l2,AAR])
abbrev zH3(AlI):AN:=A2M zH2 (ϕ #[.AT ay,.AT (A3' h)])
abbrev zH4(AlI):AN:=A2M zH3 (ϕ #[CI,CI])
abbrev V7(AlI):AN:=A2M zH4 (ZT aw #[CI,Af7,Af7,BCw zH2,BCw zH3])
theorem z78(x:jC t h l xs)(o:Obj):jC t (AYu o) l xs:=z21 x (MY e rh)
theorem Kh(hl:AjI)
  (hQ:AUy (ZT (ZQ t) #[PP,AAR])):AfX l:=ZM hl hQ
theorem TF(t1 t2:AO)(l1 l2:Η)(xs ys:Hb):Meets (Builtin.«zip.__new__» (HG [G' aw,.AT l1,.AT l2])) (Ac_ (AN'/\AON/\Avq (ALH zH4) (VX (V7 t1 t2 A7 l1 l2)))):=
 AdK (by
  show AU7;show ADz hl1 hl2 h;have hsub:=sub_zip;have hL1:jC t1 (Shared.heap ⟨hp,g,d,tk,os⟩) l1 xs:=hl1;have hL2:jC t2 (Shared.heap ⟨BLo hp.push,g,d,tk,os⟩) l2 ys:=z78 hl2 _
  wp_walk using Kh hL1,Kh hL2
  exact AcS)
theorem z34(e:cE (ZT (ZQ t) #[PP,AAR])):jl t h a l 0:=by
 cases t<;>exact AoE e
theorem yb1(hl1:AN')(hl2:AON)
  (h:∀h',IsZip h' (AMA 4) (AMA 2) (AMA 3) CI ->kL h' (AMA 2) ϻ (B0 mi) ->JJ (kL h' (AMA 3) CI CI) (jl t1 h' B2 l1 0) (jl t2 h' mi l2 0) (∀c o,AQD c ->ϔ c) (OE (AMA 4) PD)):Ayp aw [.AT l1,.AT l2]:=by
 refine callType_new F.called_zip BF (F.typeCall_zip_2 _ _) (F.newCall_zip_2 _ _) (fun DJ=>F.args_object_init_3 DJ _ _) F.entry_zip_new (TF t1 t2 l1 l2 xs ys) (E3 hl1 hl2)
 have z1:A3' A7=AGN:=ALi;show D1 z2 (ALH zH2=B2+2) (Atx z1) z3 (BAJ zH3 3) (Atx z2) z4 (BAJ zH4 4) (Atx z3) g5 (AWf (ALH zH4)) P9;show D1 g4 (AWf (ALH zH3)) (z8 _ AN3) g3 (AWf (ALH zH2)) (z8 _ Azw) g2 (AWf (A3' A7)) (z8 _ (z8 _ Azw)) g1 (AWf B2) (z8 _ (ANP Azw));rw[z2,z3,z4] at g5;rw[z1,z2] at g3;rw[z3] at g4;rw[z1] at g2;rw[z4];exact⟨Mc g5,h _ g5 g3 g4 (z34 g1) (z34 g2) fun c o x=>z8 _ (ANP (ANP x))⟩
#where
def Sq(t:AO)(K:Φ)(H:Hp)(a:Η)(xs:AL):Ι:=AiO t ô ABK
theorem V8(I:AW)(h:A4P xs):BXy (jC t A7 a Kj):=by
 cases t
 ·show DO AH w AsD ⟨AH,BE,ALC,Kb⟩
 ·show DO AH y (j_ h) ⟨AH,Ν,A3,CO⟩
theorem ygu(I:AW)(h:A4P xs)(h' :A4P ys):xs=ys:=by
 cases t
 ·exact AYa h h'
 ·exact A7M h h'
def Itz(K:Φ)(t1 t2:AO)(a b:Η):It:=
 ⟨Ü (∃xs ys x y,A3I/\A3J/\ZZ/\Aog),fun i H v H' =>∃c x y,v= .AT c/\bu c/\H' =AVr c [x,y]/\ (∀xs,A3I ->ZZ)/\∀ys,A3J ->Aog,
  Ü (∃xs ys,A3I/\A3J/\ (ASJ\/OX<=i))⟩
theorem zap{n l1 l2:Ζ}(h1:l1<n)(h2:l2<n):BR (n+4) (n+2) (n+3) n (n+1) l1 l2:=by
 have e:∀a b:Ζ,a≠b ->(a:Η)≠b:=Avj;refine⟨⟨RO,RO,RO,RO,RO,RO,RO,RO,RO,RO⟩,RO,RO,RO,RO,RO,RO,RO,RO⟩<;>omega
theorem yez(A2q)(t1 t2:AO)(a b z TI TO i1 i2:Η)(D:BR z TI TO i1 i2 a b):Turn P w K A0k (A3x b) AlD z
  (AEX (AQP h CI/\BWK h/\ (∃u v,kL h TO u v)/\jl t1 h i1 a i/\jl t2 h i2 b i)) where
 mem:=FA
 DJ:=fun i h q c hc=>by
  show AlJ yd;show A3w;show A5P
  ·exact AVR q1
  ·exact AVR q2
  ·exact AVR q3
  ·exact zwn yd.1
  ·exact zwn yd.2
 IA:=fun i h h' q k=>by
  show AlJ yc;exact⟨k z BN _ q1,k TI BN _ q2,⟨u,v,k TO BN _ q3⟩,Rj yc.1 (ARh k i1),Rj yc.2 (ARh k i2)⟩
 Pt:=by
  show AQA q;show AlJ yb;show OS;obtain⟨xs,ys,x,y,p⟩:=hg;show AQ AH ya (V8 I AK);show AQ jts f (V8 I NS);show tj ux l ((ya.1).get AL8) uy d ((f.1).get Aee);have lt:∀c∈ AlD,PY c:=Acx (by
   show A3w;show A5P
   ·exact zK q1
   ·exact zK q2
   ·exact zK q3
   ·show DO o j (zwn vc) (zK j.1)
   ·show DO o m (zwn yb.2) (zK m.1))
  have Dk:=D.k;show BV (z5d Dk q1 q2 q3 vc yb.2 ya.2.1 f.2.1 (x:=ux) (y:=uy) (DA l.1) (DA d.1) fun h1 a1 a2 a3 a4 a5 a6 k1=> ?_) (A2W wpAny_letOwnedTupleGo_zip a1);have Iw:ACd z h1 h2:=sb;have zl:=lt z BN
  have I2:AVO [x,y] (ŧ h2 LX):=
   z1v (fp:= AlD) (AH:= [ux,uy]) I (BBR (BHi c8 c8 e))
    lt (MZ Iw _ (ALj zl) a5) (AkQ l.2 d.2) Awn hf
  refine⟨AQS,_,I2,Z,⟨_,x,y,Z,AI2,Z,fun zs hz=>(B1 (ygu I hz AK) AL8),fun zs hz=>(B1 (ygu I hz NS) Aee)⟩,⟨e2,?_,⟨ux,uy,APU _ _ Dk.TOz a2⟩,BG' a3 Dk.i1z,BG' a4 Dk.i2z⟩,AxH⟩
  ·exact APU _ _ Dk.TIz (k1 _ _ Dk.TIz Dk.TITO Dk.TIi1 Dk.TIi2 q2)
  ·exact BRE (zM (lt c hc))
 MQ:=by
  show AQA q;show AlJ n;show OS;obtain⟨xs,ys,Ch,DL,hx⟩:=hg;show AQ AH t (V8 I Ch);show AQ jts g (V8 I DL);show AN1 (Cl FK) AcF;refine yay W1 D.k q1 q2 q3 n.1 n.2 ALn NU ?_ fun h' k1=>(NE (Abh zyp fp AlD I (fun c o hb e=>BHi c8 c8 e) hf))
  show OF hx hx hx (.AV AUt) (.CB AUt)
 TL:=A_K (BcQ DD h)
theorem yfj:ALD aw aw:=FM
def abV(AxP):TI:=Ac' (∃t1 t2 a b xs ys,vs= [D8,AFg]/\Sq t1 K H1 a xs/\Sq t2 K H1 b ys/\ (WN ->ATA ->R (A3x b) H1))
theorem ygf{X:Cx}{a b:AG}{ta:TA}{p AB:AR}{y3:CY}{x1}{pt:AR}(hg:Gl X aw)(hm:OG aw)(ha:ANL Zp)(BX3):
  PI X AbO AxT (abV AE ta):=by
 show Eg R;refine Call_ (Ϸ yfj (Ag3 AHl us hpl));show Ap3;obtain⟨t1,t2,l1,l2,xs,ys,Z,v⟩:=q1;cases r1 with
 | AU r rr=>
  cases rr with
  | AU r' rr=>
   cases rr;cases r;cases r';show tj AH w (V8 I1 EN) jts y (V8 I1 nL);have n1:BYF l1:=A_p t1 EM
   have n2:BYF l2:=A_p t2 A3
   show BV (yb1 EM A3 fun h' e1 e2 e3 e4 e5 kp=> ?_) (BcQ e1 ⟨Arv 4,[Arv 4,DZ+2,Arv 3,DZ,fk],_,_,H1,Z,Aoa kp,
    yez t1 t2 l1 l2 _ _ _ _ _ (zap n1 n2),⟨e1,e2,EV _ e3,e4,e5⟩,AxH,Sk Kb CO⟩)
   have hb2:DZ<=c:=by
    show A3w;show A5P
    ·exact Ad5
    show ABV Ad5 Ad5 Mn Ad5
   exact I1.fpOk hb2 (AO0 hb2)
def BW(xs ys:AJ):AJ:=APY (fun x y=> .BM [x,y]) xs ys
theorem z04(MC){t1 t2:AO}{a b:Η}{vs us:AL}{xs ys:AJ}(Ch:Ayb (Sq t1 K H1 a vs))(DL:Ayb (Sq t2 K H1 b us))(r1:tF)(r2:Lo ys us)(hz:AKx):AU5 (A3x b) Agc:=by
 show AN1 (lY r1) (lY r2);show BIV lz (T' BW xs ys) B5 OX AKG (ALK ⟨vs,us,AkO Ch,AkO DL,BG⟩)
 unfold BW at hd;show A_m;cases e1:xs[i]? with
 | Ε=>rw[e1] at hd;cases hd
 | Β x=>
  cases e2:ys[i]? with
  | Ε=>show AkG;cases hd
  | Β y=>
   show AkG;cases hd;show AQ v g (zm r1 e1);show PQ u q (zm r2 e2) ⟨⟨vs,us,v,u,AkO Ch,AkO DL,CC,DD⟩,A0 w H' z⟩;obtain⟨c,v2,u2,Z,hc,Z,p⟩:=z;have:=AK vs (Ch H2 BAO);show FI CC;cases At;have:=BS us (DL H2 BAO);show FI DD;show ZO;have gr:=BBK [v,u];show Ae0 (AAk gr) c (rD (((g.2).up s2).up KA) (rD (((FL).up s2).up KA) II))
def Oi(mT):dH:=UU (ů [x,y] (match x,y with | IL,nk=>A3b | LO,ATW=>A3b | _,_=>D6))
section
variable{X:Cx}{F0 H0:Hp}{a b e tg:AG}{es:CY}{AB p pt:AR}{te:bO}{t:dH}{y3:CY}
theorem V9(BRv):
  Ai5 AxT (Oi t):=BTB (AkA (by
  unfold Oi at*;split at h1
  ·split at h1
   ·show A5u;exact⟨Τ,Τ,l,l2,us,ZR,Z,ϭ,A_9,fun hz _=>(AFw (z04 (t1:=Τ) (t2:=Τ) (fun H s=>s.seq hq) (fun H s=>s.seq DL) rs Hq hz))⟩
   ·show A5u;exact⟨Θ,Θ,l,l2,us,ZR,Z,Af1,sW HP DL,fun hz _=>(AFw (z04 (t1:=Θ) (t2:=Θ) (fun H s=>Af0) (fun H s=>sW s DL) rs Hq hz))⟩
   ·exact C5
  ·exact C5))
#where
def Dj:AA ->AJ ->Ξ ->G_ D
 | w8,So,g=>wn g f d (Dj fs ds g)
 | _,_,_=>Ε
theorem zy6{K:Φ}{F:Hp}{g:Ξ}{x:D}:∀{fs:AA} {ds:AJ} {vs:AL},Dj fs ds g=Β x ->LM ->∃v,A4S g/\rb x v
 | [],_,_,h,_=>EQ
 | EH,[],_,h,_=>EQ
 | w8,So,vs,h,r=>by
  show ĥ r;show BD Dj;show Av0;by_cases e:g=f
  ·rw[As3] at h;cases h;subst e;exact⟨v,FA,r1⟩
  ·rw[As4] at h;show C6 u (zy6 h r2);exact⟨u,BZQ e Ν,AI⟩
theorem TJ:Abv fs AA (g∉fs) (Aqu vs g=Ε)
 | [],_,_=>Z
 | EH,[],_=>Z
 | w8,AMm,h=>by
  show Av0;have h1:g≠f:=ln (h (HU e))
  rw[AY_ h1];exact TJ (vs:=vs) (ln (h (zX _ e)))
def jD(C:Η)(f:Ξ)(te:bO):bO:=Afs (C' =C/\∃x,Dj fs ds f=Β x/\E_ x)
def nZ(BQ'):bO:=Afs (AB_ BLC)
section
variable{X:Cx}{F0 H0:Hp}{e o:AG}{es:CY}{AB p Ic:AR}{f m:Ξ}{C fa:Η}{fd:ET}{ps:AA}{k:Ζ}{sp:dD}{te:bO}{t:dH}
theorem wA(hc:UI)(hn:ir)(he:M0)(hb:AQl f=EW e:=by rfl):Dx (.pv e f AB) (jD C f te):=fun z E cx=>
 lN (AbU LP hb) (Hm Ch Ch (Qb (by
  cases d with
  | DJ C' fs ds=>
   obtain⟨Z,x,w⟩:=h1;obtain⟨a,dx,vs,Z,ea,hl,rs⟩:=r1;show C6 u (zy6 BE rs);exact⟨a,C',dx,_,u,Z,HP _ _ ea,hc,hn,Ν,k x Ω F1 H1 u R1 s1 AI D5⟩
  | _=>show dv)))
theorem yif(BRx)(hr:UB)(hb:AGD)(ho:ABf)(ha:RA)
  (AOS)
  (ht:EW ARN=(do
   let ov<- EW o
   ABa
   let (f,first)<- AB' pl
   ACJ FH):=by rfl):
  Aku nZ:=by
 show w4;refine AOX (AVg ho (∃F1 Ω d,AKD/\gm/\Rep AE F1 d v/\ (WB ZN (AB_ BLC))) I Ayy) BSp
 cases d with
 | DJ C' fs ds=>
  show NW Z y q TQ rd;show AkP (Ax4 hm Ν);show KS (AyL hm.kp (Aa6 s1 H1 H2 (∃F2 A_ es,A1O/\AaN/\Axf/\BX9) I1 ⟨F1,Ω,_,R1,AI,Axg BTg⟩ (fun us s2 ⟨ws,H2,I2,r,F2,A_,es,R2,Rq,Hq,q2⟩=>AtP))) (N8 (us:= D8::us) (vs:= D8::ws) Fn hr hb cx I2 R2 (.AU Z r) (rD (TQ.up Rq) Hq) q2 (Ap8 A_ AuU (AY8 (Rq.trans KA))))
 | _=>show ē
#where
inductive Hr (K:Φ) (C:Η) (f:Ξ) (sp:dD) (vs:AL) (H:Hp) (Q:VK) (E:XK):Ι
 | mk:∀x dx Nn F ds Pd Ex,(vs= .AT x::Nn) ->(HR H (AaI [])) ->(Aar dx x) ->JJ (dx≠x) AR2 (F x=Ε) (F dx=Ε) (BQ A_h (sp ds Pd Ex) ((∀d F' H' H3 v,BQ (Gr F H F' H3) h_ (Pd d) (H' =upd H3 x (AaI [(f,v)])) (Q BC H'))) BXq BUb)
def xq(K:Φ)(C:Η)(f:Ξ)(sp:dD):Sp:=fun vs H Q E=>BUb
theorem zv0(h:gC P w CF H2 s2 E e s')(os:s2.os=s.os)(un:ARX Aue [] H2 AmR)(kp:ADZ Sc BYv):Ah' E :=by
 obtain⟨a,C,H',B,dx,h1,h2,h3,h4,h5,h6,h7,h8,h9⟩:=h;exact⟨a,C,H',B,dx,h1,h2.trans os,h3,un.trans h4,h5,h6,re e (h7 b o (gN kp) n),h8,h9⟩
def Az(C:Η)(f:Ξ)(sp:dD):dD:=BSw (fun d=>P (.DJ C [f] EK))
section
variable{P:A6}{w:AZ}{K:Φ}{mg:DT}{B9:AN}
theorem yhp(ABm){st st1:AM}{f:Η}{fd:ET}{N ps:AA}{k:Ζ}{sp:dD}{C:Η}{fl:Ξ}{FF:AG}{px IU AB:AR}(Fn:Aw3)(hbd:v9 st= [st1,.AmQ [ApS BCz fl] FF AB])(S:Da N (N4 ::ps) st)
  (hc:APx C) (hn:aB K C fl) (hN:Ì N (N4 :Ξ)) (abW:rP (bJ st) N4) (len:AWo)
  (pz:AWw (∀F0:Hp,
   AZp (AYV FF (Β (.pv BCz fl IU)) A6' (wy).CL)/\
   ∃t te,QS wy F0 H st1 t/\QE wy F0 H FF te/\
    ∀a ds Q Ex,sp ds Q Ex ->t (Ayf (te Γ (A2' (Q d)) y8)) (ji N Agq) y8)):
  ų OQ (N4 ::ps) BNc:=by
 obtain⟨oc,od,kV,doc,pm,an,cdv,ct,osl,Z,lk,hcd⟩:=APN;refine AWv lk hcd AlC DL
 ·obtain⟨x,dx,Nn,F,ds,Pd,Ex,e,_,_,_,_,_,_,rs,hs,_⟩:=Ch;rw[e,IY,IY,<- L_,AhA]
 obtain⟨a,dx,Nn,F0,ds,Pd,Ex,ev,hx,hdx,hne,sF,fx,fdx,rs,hsp,hQ,hE⟩:=DL;subst ev;obtain⟨hsw,t,te,ht,hte,hq⟩:=AlN;have cx:=AlU;rw[hbd];refine AAk (z42 (ht _ _ cx) (z75 (Yy (rX uD hN abW) (hte _ _ cx) hsw)));show BV ⟨F0,ji N Agq,_,Zh sF (rD II rs),hq a ds Pd Ex hsp,Ap_ (fun Γ F' H' σ R' s' q=> ?_) ϖ ϖ ϖ⟩ ⟨F',Γ,_,R',q,fun d Ω F1 H1 v R1 s1 rv hp=> ?_⟩;show AQ h0 hp hp;show Ą eo ro (ACw 0 _ h0);show L6 u ru ro;subst ru;exact⟨D8,eo,a,C,dx,[],Z,AsZ hx,hc,hn,De,hQ d F1 _ H1 v R1.gr rv hp Z⟩
#where
section
variable{X:Cx}{F0 H0:Hp}{e:AG}{es:CY}{AB p:AR}{x fl:Ξ}{C f:Η}{fd:ET}{ps:AA}{k:Ζ}{sp:dD}{t:dH}
theorem yht(M:Mk AE C f)(Fn:AdL (xq AE C fl sp))(hr:dB OQ X.A)(hg:KU)(hm:AhP)(hb:AGD)
  (ha:RA) (hU):
  BMi:=by
 show w4;show BV (ANv hm) (AWu M.kp (Ah7 (.DJ C [fl] EK)) (WG us));obtain⟨vs,H1,I1,r,F1,Ω,ds,R1,sF,rs,q⟩:=Cb;refine AMI;have I2:=BOk;have n1:AeJ H1:=BEz;show D1 n2 Af_ Agy ne BCV Ai9 kp BNq (Tl (z8 _ aT)) sH (Kt H1 AHk) (Ayq n1 n2)
 show D1 f1 (AeJ F1) (by
  cases q:F1 (fk) with
  | Ε=>rfl
  | Β o=>rw[HP _ _ q] at n1;cases n1) f2 (BYa F1) (by
  cases q:F1 DZ with
  | Ε=>rfl
  | Β o=>rw[HP _ _ q] at n2;cases n2) hs (xq AE C fl sp A_Q AHk BGG (fun C' Rr H' =>∃x F',E Ω x/\Gr F1 H1 F' H' /\wj AE F' H1 H' C' Rr x)) (by
  refine⟨kr,DZ,vs,F1,ds,_,_,Z,j4,Ayz,ne,A'V,f1,f2,rs,q,?_,fun x C' Rr F' H' hE gr xr=>⟨x,F',hE,gr.low sH,AZL sH⟩⟩
  rintro d F' H' H3 v gr rv hp Z;refine AeP;show D1 g1 (AeJ F') (by
   cases q:F' (fk) with
   | Ε=>rfl
   | Β o=>
    show AWJ (gr.n _ _ q f1) e'
    ·rw[j4] at z;cases z
    ·rw[j4] at z;cases z;cases e') g2 (BYa F') (by
   cases q:F' DZ with
   | Ε=>rfl
   | Β o=>
    show AWJ (gr.n _ _ q f2) e'
    ·rw[dj ne,j4] at z;cases z
    ·rw[dj ne,j4] at z;cases z;cases e') abX (BYQ H3 (.C4 kr)) (gr.h _ _ (by rw[dj ne,j4])) zy (Gr F1 H1 BBd (Aoj H3 [(fl,v)])) (by
   refine AT5 ATg ATg ATg
   ·rw[Ŵ f1,Ŵ f2];exact KA _ _ e
   ·by_cases hb:b=kr
    ·subst hb;show uu j4;exact e
    ·show uu ð;by_cases hb2:b=DZ
     ·subst hb2;rw[j4] at e;cases e;exact abX
     ·rw[Afm] at e;exact gr.g _ _ e
   ·show AFk n1 (gr.h _ _ (sH _ _ e))
   ·by_cases hb:b=kr
    ·show Mo hb (.AV n1)
    ·rw[ð] at e;by_cases hb2:b=DZ
     ·show Mo hb2 (.AV n2)
     ·rw[Afm] at e;have:=gr.n _ _ e n;unfold Bw at At⊢;rw[ð,Afm] at At;exact At)
  refine kk _ Ω _ _ _ (APM zy) (Aaa zy.f) ?_ hp;have s2:Kt F' BBd:=Ayq g1 g2
  exact⟨kr,DZ,[v],Z,j4,Z,rD (rv.up s2) II⟩) hl (AEJ (Cl AMk)) (by
  have e:=ANM;rw[IY,<- ek,<- IY (a:=AqV),e])
 have hbs:=hb (y_ s1 (Aq0 Aby DZ)) AMk I2.kIn BDi
 show ģ;refine AtQ (z3x (f:=f) AIv M.makes M.init (yT M.fn));refine ACm (AnE _ MM _ _ (HG (Aoq::us)) AMk _ _ _ A'0 A'1 hbs BJb hs) (A0 r s' hq');cases r with
 | YN e=>
  refine AiH H1 BNe;have u1:Un ABb [] H1 AQi Ana AiR:=BIj;have u2:Un ABb [] AQi AHk AiR BOf:=AYH (ASU) (AO4 (YI _ _)) (F8 (AR_ dj ne) n1)
  exact u1.trans u2
 | ok fl' =>
  cases fl' with
  | DM u=>
   obtain⟨v,H',I3,rv,ev,q3⟩:=BCN;subst ev;exact⟨rv,BIx⟩
  | MG=>show AMG
  | brk=>show AMG
  | No=>show AMG
#where
structure Ba (A4b dD):Ι where
 ex:A4u pL
structure Mk2 (BUv) (x:Ξ) (C:Η) (fl:Ξ) (k:Ζ) (ps:AA) (sp:dD):Ι where
 ex:Ab2 (ų k ps BNc) (Mk K C f) (Ya x C)
def TV(A4w):bO:=A5X LO (BQ0/\P BNb Γ3)
section
variable{X:Cx}{F0 H0:Hp}{e o:AG}{lo hi:ALr}{es:CY}{AB p p2 Ic:AR}{x m fl:Ξ}{C:Η}{ps:AA}{k:Ζ}{sp:dD}{te:bO}{tl th:JK}{t:dH}
theorem Nf(G:AVc Ba)(hc:UI)(hr:UB)(ho:ABf)(ha:RA)
  (AOS)
  (ht:EW ARN=(do
   let ov<- EW o
   ABa
   let (f,first)<- AB' pl
   ACJ FH):=by rfl):Aku nZ:=dP f fd bd (yif hc A3 Ν hr CO ho ha hst hpl ht)
theorem zya(G:Mk2 EA X.w AE YE SA x C fl k ps sp)(hr:dB OQ X.A)(hg:KU)(ha:RA)(hU):
  BMi:=dP f fd bd (yht A3 Ν hr hg ED NO ha hdb he hpl)
theorem z7z(he:M0)(hl:FG QO lo tl)(hh:FG QO hi th):BL1 TV:=fun z E cx=>
 lN (zwr yli LP Asp (N_ hh)) (Hm Fi Fi (Qb (Aux l h2 (A3o H3 h3 (by
  cases d with
  | BM xs=>
   have r3:=p_ (kH s3);show T0 a r3;have Fr:=L_;refine⟨a,vs,Z,sW R3.g hq,Q_ Fr h3.1,ae⟩
   have gr:=AvY (AIu (Bu vs l u)) R3.g;show Ae0 (k _ Γ3 _ _ _ (R3.grow gr) (rV (AiS KA)) ?_ h3.2) p ((z41 rs l u).up KA)
  | _=>show qr h3)))))
#where
mutual
def xu:nS
 | dq=>D6
 | vv=>D6
 | ic=>D6
 | n_=>D6
 | AAr=>D6
 | LO=>qj xs
 | Avm=>zp fs=Τ/\qj xs
 | _=>IS
def qj:vt
 | []=>IS
 | So=>xu d/\AFL
end
section
variable{K:Φ}{F F' :Hp}{A:Adq}
mutual
theorem yhd(hA:lT F (LD u\/VY F')):BT1
 | BC,_,_,h=>Nc
 | ST,_,_,h=>Nc
 | UN,_,_,h=>Nc
 | We,_,_,h=>Nc
 | Č,_,_,h=>Nc
 | dy,_,n,h=>by
  show Ajn;refine⟨a,vs,h0,?_,zov hA ds vs n h2⟩;show AdQ h1 h1 h1 h1
  ·show ĩ ASk z.tup.elim (lI z)
  ·show ĩ ASk z.frz.elim (AiZ z)
  ·exact .CB h1
 | Aet,_,n,h=>by
  obtain⟨a,dx,vs,h0,h1,h3,h4⟩:=h;refine⟨a,dx,vs,h0,?_,h3,zov hA ds vs n.2 h4⟩;rcases ASk with z | z
  ·have:=z.ins;rw[z4n h3,n.1] at At;show ZO
  ·exact z
 | dq,_,n,_=>nv
 | vv,_,n,_=>nv
 | ic,_,n,_=>nv
 | n_,_,n,_=>nv
 | AAr,_,n,_=>nv
theorem zov(hA:lT F (LD u\/VY F')):BT2
 | [],_,_,h=>Nc
 | So,_,n,h=>by
  obtain⟨v,r,h0,h1,h2⟩:=h;exact⟨v,r,h0,yhd hA d v n.1 h1,zov hA ds r n.2 h2⟩
end
#where
theorem z47(Aj')(h:NL):∀{ds:AJ} {vs:AL} (j:Ζ),LM ->Lo (ds.set j d) (vs.set j v)
 | [],vs,j,r=>AtR
 | x::ds,vs,j,r=>by
  show IJ u us r1 r2 r;cases j with
  | e_=>exact rD h r2
  | fA j=>exact rD r1 (z47 h j r2)
def Oj(i:Ζ)(ti te:bO):aC:=ANJ ((∃xs,D7 Ω At5)/\gt ti k (Aah k A_[i]? vy Acf (∃j,Aym=Β j/\LZ (Anb i BEW))))
section
variable{X:Cx}{F0 H0:Hp}{x:Ξ}{AB IU kK:AR}{e k:AG}{i:Ζ}{te ti:bO}
theorem ygk(hN:Hk)(hv:NN)(hk:Dx k ti)(he:M0)(XE)
  (ha:∀v,AOx BHr Be v=(do
   let ov<- ņ [v] (jn F7 Be)
   let iv<- ņ [v,ov] (jn k Be)
   AmK IU
   BPp
   BGT):=by intro _;rfl)
  (hs:AQO A7H [wt F7 k] e:=by rfl) (hw:A7I [wt F7 k] e Be=IC Ε:=by rfl)
  (h1:AVM [wt F7 k] [AcE BHr]:=by rfl):
  AZ5 (wt F7 k) e (Oj i ti te):=fun z E cx=>
 uH (DH ygh LP (DH yl1 Sj Adx yd4 ha) hs hw h1) (kq Dn Ch (by obtain⟨F,Γ,D2,R,h,kk⟩:=Ch;exact Qb (by
  obtain⟨⟨xs,e0⟩,h2⟩:=h1;obtain⟨o,e1,a,vs,Z,g1,g2,g3,r⟩:=å e0;refine⟨D8,e1,F1,Ω,_,R1,h2,fun k A_ F2 H2 kv R2 s2 rk q=> ?_⟩;split at q
  ·rename_i k' xs' e2;show AQ j y q;obtain⟨o,e3,a',ws,Z,w1,w2,w3,M6⟩:=AxM;rw[e1] at e3;cases e3;subst rk;have hl:=lY M6;show KS ⟨a,ws,k',j,Z,Z,w1,Q_ hl Ν,?_⟩ (Ee kk.nx (R2.wr e2 e1 (z47 (p_ s2) j M6)) Ty AI)
  ·exact Ř)))
#where
section
variable(K:Φ)(F0 H0:Hp)
inductive UpR (t:bO) (E:XW) (σ:St) (H:Hp) (Q:VK):Ι
 | mk:ALX (Ap9 mx BJA) UpR
def upR(t:bO)(E:XW):TE:=ABU UpR
inductive ZS (t:dH) (E:XW) (σ:St) (H:Hp) (Q:AME):Ι
 | mk:BL5 (aM K (lZ F0 F') ds vs) ZS
def abY(AUR):TA:=ABU ZS
#where
def QR(UE)(e:AG)(t:bO):Ι:=AU4 upR
def QRA(BIm):Ι:=ß PA es abY
section
variable{X:Cx}{F0 H0:Hp}{e:AG}{es:CY}{AB:AR}{te:bO}
theorem z98{K:Φ}{F:Hp}{a:Η}{vs:AL}(h0:Y3 F0)(h:Aq'):nG K (lZ F0 F) a vs:=by
 have e:lZ F0 F a=F a:=zti (MX q (Aag h0))
 rcases h with h | h
 ·left;unfold Rd at h⊢;rw[e];exact h
 ·exact ALv
def TX(mT):bO:=UU (AFL/\E_ ä)
#where
section
variable{X:Cx}{F0 H0:Hp}{e:AG}{es:CY}{AB p:AR}{x:Ξ}{f:Η}{fd:ET}{ps:AA}{k:Ζ}{sp:dD}{t:dH}{te:bO}
def FP(UQ):bO:=BIw AG2
#where
theorem z44{K:Φ}{F:Hp}{xs:AJ}{vs:AL}(h:tF):∀k:Ζ,Lo (ui k xs) (ui k vs)
 | 0=>ATQ
 | k+1=>by
  rw[AIl,AIl,AO',AO'];exact J3 h (z44 h k)
def ZV(NX)(lt:mw):AwX ->α
 | .DM a=>a
 | Akv=>ZV lt AkC
def Wa(NX)(lt:mw)(n:Ζ):lm AwX
 | .DM _=>Θ
 | Akv=>Κ (i<n)&&(Κ (j<n)&&(Κ AHN&&Wa lt n AkC))
theorem ygd(hc:∀i j (C:Atp),BQ (i<n) (j<n) AHN BMf (cmp i j C s)):
  ∀(t:AwX) (Q:QQ α),Wa lt n t=Θ ->Q (ZV lt t) s ->t.kasWp cmp Q s
 | .DM _,_,_,h=>h
 | Akv,Q,ok,h=>by
  unfold Wa at ok;show Aw9 ok;exact hc i j _ ok.1 ok.2.1 (Db ok) (ygd hc AkC Q (KL ok) h)
section
variable{BA:A6}{w:AZ}{A:B6}{E:fu}{s:AC}
theorem z9n{vs:An}{p:mn}(hp:ADV APb):ADV (Anc (p.toList.map Abm)).qE:=DS hp
#where
theorem zzm(h:cz):BLi iS (E6 (AI8 fun i=>YY i BC) (AI8 (Aop us.getD)))
 | [],_=> C7
 | i::is,k=>by
  have hi:=k i zY;show BFe u (h.get (zZ hi)) (.AU ?_ (zzm h (A1X k))) (HK (YY i BC) (AFj us.getD)) ie Ν AI
theorem zyx{K:Φ}{F:Hp}{ds:AJ}{vs:AL}(h:LM):BLi AGZ (Lo (BCc ds.getD) (BCc AI7))
 | [],_=>ATQ
 | i::is,k=>by
  have hi:=k i zY;show BFe v (zm h (zZ hi)) (rD ?_ (zyx h (A1X k))) (rb (ds.getD i BC) (AI7 i BC)) ie Ν AI
def Kl(xs:He):Ι:=xs.Pairwise (· < ·)
theorem ZW(h:Kl xs)(hij:i<j)(hj:ATa):xs[i]'(Amy hij hj)<xs[j]:=Ane h i j _ hj hij
structure Bel (xs:He) (j b:Ζ):Ι where
 le:b<=B5
 lo:A'3 (k<b) (xs[k]<j)
 hi:A'3 (b<=k) (j<=xs[k])
theorem zxv(hr:AgR):∀(f lo hi:Ζ),lo<=hi ->JJ (hi<=AZM) (hi - lo<=f) (A'4 (k<lo) (A_o<j)) (A'4 (hi<=k) (j<=A_o)) (Bel i5 j (BcS xs j f lo hi))
 | 0,lo,hi,h1,h2,h3,h4,h5=>by
  show ú lo hi
  exact⟨h2,h4,h5⟩
 | f+1,lo,hi,h1,h2,h3,h4,h5=>by
  unfold BcS;by_cases hl:lo<hi
  ·show HZ hl;show D1 hm1 (lo<=oz) BG hm2 (oz<hi) BG hm (oz<AZM) (Fu A0f) hg (YY (oz) j=i5[oz]) (by
    have:oz<xs.size:=C9 hm
    simp [Array.getD,At])
   dsimp only;rw[hg];by_cases hc:i5[oz]<j
   ·show HZ hc;refine zxv hr f _ hi ALk h2 dl (A0 k hk Cc) h5
    by_cases e:k=oz
    ·subst e;exact hc
    ·exact Amy (ZW hr (BG:k< oz) hm) hc
   ·show EL hc;refine zxv hr f lo _ ad Adw dl h4 BBW
    by_cases e:k=oz
    ·subst e;exact ue
    ·have:=ZW hr (BG:oz<k) hk
     omega
  ·show EL hl;show ú lo hi
   exact⟨h2,h4,h5⟩
theorem z3p(hr:AgR)(j:Ζ):Bel i5 j BFL:=Fu (zxv hr _ 0 _ AAG BN DF (fun k _ h=>L7) fun k hk h=>by simp at hk;omega)
theorem yma(h:Bel xs j b)(k:Bel xs j c):b=c:=by
 rcases Nat.lt_trichotomy b c with q | q | q
 ·have hb:b<B5:=zO q k.le;have:=k.lo b hb q;have:=h.hi b hb JI;omega
 ·exact q
 ·have hc:c<B5:=zO q h.le;have:=h.lo c hc q;have:=k.hi c hc JI;omega
theorem yg5(hr:AgR)(hn:xs[AtO j]?≠Β j):Kl (SetTable.insertAt xs BFL j).toList:=by
 rw[SetTable.toList_insertAt];have hb:=z3p hr j;generalize AtO j=b at*;have hn' :∀(h:b<AZM),i5[b]≠j:=fun h e=>hn (by rw[<- APc,Adk,e])
 unfold Kl;rw[List.pairwise_append];refine⟨hr.take,?_,NH a ha c hc⟩
 ·rw[BcT];refine⟨AxH,hr.drop⟩;show AVA k hk hc;rw[Amj] at hk;rw[BcU];have h1:=hb.hi (b+k) dl DF
  by_cases e:k=0
  ·subst e;have:=hn' A2
   omega
  ·have:=ZW hr (BG:b<b+k) dl
   have:=hb.hi b dl JI
   exact zN Ŧ Ŧ
 ·show AVA k hk ha;rw[Amd] at hk;rw[List.getElem_take];have h1:=hb.lo k dl dl
  rcases MO hc with Z | hc
  ·exact h1
  ·show AVA m hm hc;rw[Amj] at hm;rw[BcU];have:=hb.hi (b+m) dl DF
   exact A0f
theorem z6q(hr:AgR)(hi:i<=AZM):AtO (Ar3 (0<i) (i5[i - 1]' ad+1) 0)=i:=by
 refine yma (z3p hr _) ⟨hi,A0 k hk Cc,BBW⟩
 ·rw[AZO A2]
  by_cases e:k=i - 1
  ·subst e;exact AFh
  ·have:=ZW hr (BG:k<i - 1) A2
   omega
 ·split
  ·rename_i h0;have:=ZW hr (ASx:i - 1<k) hk
   assumption
  ·exact aS
structure Iz (led:AO) (t:kM):Ι where
 ris:A_S
 dum:BXA
 led:t.led=led
theorem yao:ϙ (.fresh 0 0 led):=Me (lf SetTable.fresh Kl) Z
theorem ybe(n:Ζ):Kl (Array.range n).toList:=B1 Array.toList_range BcW
theorem zk0(h:AUP)(n:Ζ):Iz led (t.standIn n):=Me (ybe n) h.led
theorem ycd(h:AUP):ϙ {t with plain:=Τ}:=⟨h.ris,h.dum,h.led⟩
theorem z7n(j:Ζ):EE (A9G #[] j):=DS A9G
theorem zvh(BP2){j:Ζ}:(BKF ->APd[AZN APd j]?≠Β j)/\t.slot j≠ .dummy:=by
 unfold SetTable.slot;rw[hd,z7n];dsimp only;split
 ·exact⟨As',As'⟩
 ·show WU;exact⟨Id (DA q),As'⟩
theorem z3j(BP2){ha:Ζ ->BI}{h:BI}:∀(f:Ζ) (p:SetTable.Probe) {j:Ζ} {dm:G_ Ζ},p.dummy=Ε ->BcX t ha h f p=Β (.empty j dm) ->dm=Ε/\BKF
 | 0,p,j,dm,_,e=>AAZ
 | f+1,p,j,dm,hp,e=>by
  have adv:(t.advance p).dummy=Ε:=by
   unfold SetTable.advance;split<;>exact hp
  show NR BcX;split at e
  ·show WU;cases e;exact⟨hp,q⟩
  ·show WU;exact Iy q (zvh hd).2
  ·rename_i i q;split at e
   ·cases e
   ·exact z3j hd f _ adv e
theorem yh6{led:AO}{t:kM}(h:AUP)(es:ħ)(k:BI)(x:AD):ϙ (layNew t es k x).2.1:=by
 unfold layNew;split
 ·rename_i M3 wd q;unfold SetTable.freeSlot at q;split at q
  ·rename_i j dm e;cases (q);show AQ Z hs (z3j h.dum _ _ Z e);have hn:=(zvh h.dum).1 hs;dsimp only [A7p];have hp:ϙ (t.put j).1:=⟨yg5 h.ris hn,by show(GV (A9G A8' j=Θ) _ A8')= #[];rw[h.dum,z7n];rfl,h.led⟩
   unfold SetTable.orStandIn;split
   ·exact hp
   ·exact zk0 hp _
  ·cases q
 ·exact zk0 h _
theorem z70(h:AUP)(es:ħ)(n:Ζ):ϙ (Anf t es n).2.1:=by
 unfold Anf;split
 ·rename_i t' order q;dsimp only;split
  ·unfold SetTable.relaid SetTable.laid at q;cases e:SetTable.layClean (SetTable.sizeAbove n - 1) (es.map (·.1)) with
   | Ε=>rw[e] at q;cases q
   | Β owner=>
    rw[e] at q;cases (q);refine Me ?_ h.led;have sub:∀l:He,((l.filterMap fun j=>(owner.getD j none).map (j, ·)).map (·.1)).Sublist l:=by
     intro l;induction l with
     | DU=>exact List.Sublist.refl _
     | AU a r ih=>
      rw[AYL];cases owner.getD a Ε with
      | Ε=>exact ih.cons _
      | Β v=>exact ih.cons₂ _
    exact List.Pairwise.sublist (sub _) BcW
  ·exact zk0 h _
 ·exact zk0 h _
section
variable{BA:A6}{w:AZ}{κ:GG}[AHb](knd:ABz)(kf:ABO)
structure rY (led:AO) (o:Obj) (ks:nK) (es:ħ) (ep:Ζ) (t:kM):Ι where
 ex:o.ExactSet
 dat:BP1
 el:AiQ AW4
 fit:t.fits E1=Θ
 tok:AUP
 C_:(Ang Ai8).qf ks
def wB(led:AO)(h:AN)(a:Η)(ks:nK):Ι:=∃o es ep t,af/\ABd
def uM(ks:nK)(k:κ):nK:=if Af5 then ks else ks++ [k]
variable{knd kf}(hkf:A0x)
include hkf
theorem yij(el:AiQ es):k∈es.map (Ai8)↔∃e∈es,AZP k e.2=Θ:=by
 rw[AZQ];constructor
 ·rintro⟨e,he,Z⟩;obtain⟨⟨k',hk',_⟩,_⟩:=el e he;exact⟨e,he,B1 (hkf k' _ hk') hk'⟩
 ·rintro⟨e,he,hk⟩;exact⟨e,he,hkf k _ hk⟩
variable{A:B6}{E:fu}{s:AC}{a:Η}{ks:nK}{led:AO}
theorem ybk{h:AN}{o:Obj}{es:ħ}{ep:Ζ}{t:kM}(hg:af)(hd:BP1)(es' :ħ)(t' :kM):
  GS (A9H a (A9I es' t')).LY BOC:=by
 have z:=AYm (A9I es' t') hg (ADq BOR)
 rwa [BOR] at z
omit hkf in
theorem rY.put(S:ABd)(el:AiQ es'.toList)(fit:t'.fits es'.size=Θ)(tok:ϙ t')(C_:(es'.toList.map Ai8).qf ks'):
  rY knd kf led BOC ks' es' (ep+1) t' :=⟨S.ex,Z,el,fit,tok,C_⟩
theorem ykz{k:κ}{x:AD}{Q:Atp}(hx:AZP k x=Θ)(hsc:x.scannable=Θ)(S:A4Q A7 ks)(hb:ALf (P1+1))
  (h:∀b h',Aiw h' ->A4Q h' (uM ks k) ->Q b PD):NC (setAddHashed a x (knd.hash k)):=by
 obtain⟨o,es,ep,t,p⟩:=S;have hsz:E1=P1:=by
  have:=(BS).BcY
  show ALe
 have hmem:=yij hkf (BS).el (k:=k);refine AbD [x] (P7 (setState a) (BcZ AK AfB (BS).fit ?_));dsimp only;rw[byScan_of hsc (BG:ALf E1) (BS).el]
 refine z6 (Qr pp (APR (P7 (setScan a x _ _ _) (wpAny_setScan_of hx AK AfB (BS).fit (BS).el ?_))));cases hr:List.findIdx? (fun e=>AZP k e.2) AW4 with
 | Β j=>
  show AQ hj v (List.findIdx?_eq_some_iff_getElem.mp hr);have hk:Af5:=(BS).key.mem_iff.mp (hmem.mpr (EV (zE hj) EN));refine ATY LH;have z:=h Τ A7 (Heap.SameBut.refl a A7) ⟨o,es,ep,t,AK,by unfold uM;show AMN;exact BS⟩
  exact z
 | Ε=>
  have hk:k∉ks:=ì (by
   show C6 e (hmem.mp ((BS).key.mem_iff.mpr q));show AU3 (List.findIdx?_eq_none_iff.mp hr e Ν) AI)
  have hperm:=layNew_perm t es ATS x;have hfits:=layNew_fits t es ATS x;have Ol:=yh6 (BS).tok es ATS x;generalize layNew t es ATS x=lay at hperm hfits Ol⊢;show HA es1 t1 wd gave lay;rw[Bca] at hperm;have el1:AiQ es1.toList:=((BS).el.push hx hsc).perm hperm;have key1:(es1.toList.map Ai8).qf (uM ks k):=by
   unfold uM;show EL hk;refine nz hperm.map _ ?_;rw[Bcb];refine List.Perm.append (BS).C_ ?_;show [kf x].qf [k];rw[hkf k x hx]
  show D1 sz1 (APe=E1+1) (by
   have:=hperm.length_eq
   show ALe) ZX (D4 APe) (fits_of_scanBound DF) gw (∀(b:AO) {GH:AC} {Q' :AAu},Q' () GH ->BaC (ABS BCH (IC ())) Q') (k9 GH Q' (by
    cases b with
    | Θ=>exact APR q
    | Τ=>exact cS q)) tail (∀t2:kM,t2.fits APe=Θ ->ϙ t2 ->ASY A (do
    BHY
    if LN (! wd) t2.tooFull then do
      (È A4q.2.2 BCH (IC ()))
      A9J a A4q.1 A4q.2.1
      BGY
     else BGY) (gz r (ABh (Ħ r added (IC added) (setAddHashedIn a x ATS 99999)) s'))) (by
   intro t2 f2 k2;refine V_ BHY (Bcd AK AfB ?_ ZX);have g1:=ybk (hkf:=hkf) AK AfB es1 t2;have S1:=(BS).put (ks' :=uM ks k) el1 f2 k2 key1;have sb1:=AI5 A7 a (A9I es1 t2);split
   ·have hp2:=AkX relayAll_perm t2;have hf2:=AkX relayAll_fits t2;have ht2:=AkX z70 k2;generalize AkX Anf t2=rl at hp2 hf2 ht2⊢;obtain⟨es2,t3,gave2⟩:=rl;have sz2:es2.size=APe:=by
     have:=hp2.length_eq
     show ALe
    show BV (z5 gw gave2) (V_ (A9J a es2 t3) (Bcd g1 Z ?_ DF))
    have S2:=S1.put (ks' :=uM ks k) (el1.perm hp2) hf2 ht2 ((hp2.map _).Kk key1);show KS (ATY LH) (h Θ _ (sb1.trans (AI5 _ a _)) ⟨_,_,_,_,ybk (hkf:=hkf) g1 Z es2 t3,S2⟩)
   ·exact LH (LH (h Θ _ sb1 ⟨_,_,_,_,g1,S1⟩)))
  refine z5 gw gave;split
  ·refine PR;rw[hashByValue_scannable 8 hsc];refine AG1;refine tail _ ?_ ?_
   ·show AeD hfits (SetTable.fits_plain_off hfits)
   ·show AeD Ol (ycd Ol)
  ·show KS At0 (tail _ hfits Ol)
#where
abbrev n6(AHX):AO:= !(ACP AZR)
abbrev Om(AHX):Obj:={cls:= G' Rl,UX:=Ε,ef:= .set #[] 0 BRm}
def nM{κ:GG}(Aj9):Ζ ->nK
 | 0=> []
 | i+1=>BRM
theorem zwk (Aj9):∀i,T' nM val i<=i
 | 0=>Mn
 | i+1=>by
  have ih:=zwk val i;show T' uM (nM val i) (val i)<=i+1;unfold uM;split
  ·omega
  ·show BCT;omega
theorem zrt (Aj9):∀{i},k∈nM val i↔∃j,j<i/\val j=k
 | 0=>DS nM
 | i+1=>by
  have ih:=zrt val (k:=k) (i:=i);have e:k∈nM val IM↔k∈nM val i\/k=val i:=by
   show k∈BRM↔_;unfold uM;split
   ·show WU;constructor
    ·exact .AV
    ·rintro(z | Z)
     ·exact z
     ·exact q
   ·rw[AW2,A9K]
  rw[e,ih];constructor
  ·rintro(⟨j,hj,Z⟩ | Z)
   ·exact AAd j BG
   ·exact AAd i BG
  ·rintro⟨j,hj,Z⟩;by_cases q:j=i
   ·show Mo q (.CB Z)
   ·exact .AV (AAd j BG)
theorem zpt (Aj9):∀i,(nM val i).ax
 | 0=>Bbl
 | i+1=>by
  have ih:=zpt val i;show(uM (nM val i) (val i)).ax;unfold uM;split
  ·exact ih
  ·show WU;rw[List.nodup_append];refine⟨ih,FA,NH a ha b hb⟩
   rw[A9K] at hb;subst hb;exact AGd q ha
theorem ydb{BA:A6}{w:AZ}{κ:GG}[AYD κ]{knd:ABz}{kf:ABO}:rY knd kf AFx (Om w) [] #[] 0 BRm:=
 ⟨Me Z Z,Z,fun e he=>(AZ3 he),SW,yao,FA⟩
section
variable{BA:A6}{w:AZ}{κ:GG}[AHb]{knd:ABz}{kf:ABO}(hkf:A0x)
theorem wB.stay(S:wB knd kf led h a ks)(e:∀o,af ->ϒ YA):A4Q h' ks:=by
 obtain⟨o,es,ep,t,y⟩:=S;exact⟨o,es,ep,t,e o Ν,AI⟩
include hkf
theorem ye9{A:B6}{R:Atq}{I:Η}{fp wr:BH}{G:Do AK3 AK3}{n:Ζ}{P:Adl Ζ}{St:QQ Ζ}
  (W:WalksS BA w ř I fp wr G n P St) {S:Η} (hS:S∉fp) {val:ApO} (hv:BTL (P i v)) (hb:ALf (n+1)) {led:AO}:
  ∀(j i:Ζ) (s:AC),JJ (i+j=n) (St i s) (wB knd kf led A7 S (nM val i)) (∀s',Moved (S::wr) G s s' ->wB knd kf led eh S (nM val n) ->Ay9 CI s') (AIZ (Ń BA w) A (.İ "set.update.loop" (HG [.AT S,.AT I])) R s):=by
 have hw:S∉wr:=ì (hS (W.sub _ q));have grow:HE wr (b∈S::wr):=TZ q (zX _ q);intro j;induction j with
 | e_=>
  intro i s hij st hs hR;show ú i n
  refine A_Z;show A_j;refine P7 (AIW ϧ) (W.done s _ _ st (DC s' hm));exact cS (hR s' (hm.mono grow) (hs.stay BNi))
 | fA j ih=>
  intro i s hij st hs hR;refine A_Z;show A_j;refine P7 (AIW ϧ) (BMa A2 st (LJ v s1 hP st1 hm))
  show EG (hv i v hP);have hs1:=hs.stay (h' :=Ana) BNi;refine s_ (ņ [v] (setAdd S v)) (AbD [v]);show BV (AbD [v] (P7 (pyHash v) (knd.pyHash Ν ?_))) (ykz hkf (s:={s1 with toks:=AIb+1}) Ν AI hs1 (by have:=zwk val i;omega) (NH _ h2 sb S2))
  refine Acy Bce (ih IM _ A2 (W.frame _ s1 h2 _ st1 BYg fun b hb o e=> ?_) S2 (A0 s3 hm3 S3))
  ·exact MZ sb b (AGd hS hb) e
  ·show KS (hR s3 (Moved.trans W.gtrans ((hm.mono grow).then_heap BYg (Tx ?_)) hm3) S3) (MZ sb b (AGd hb zY) e)
#where
section
variable{BA:A6}{w:AZ}{A:B6}{E:fu}{s:AC}
theorem z03(v:AD)(h:Q₁ (B0 B2) A2L):
  AAS BA A (q_ A9L) AzZ (wants Q₁ E) s:=by
 refine Bcf ?_;show ACe _ ř (A8a A9L AzZ>>=Id (AIX (.İ A9L AzZ))) _ _ s;refine z6 (AnL (PySem.F.newCall_set_1 v) (LH ⟨Ao3 Bcg,AKY PySem.F.entry_set_new⟩));rw[AKc Bcg];unfold Builtin.«set.__new__» Builtin.Frozenset.newClass;have hsub:=Bch;show AU7
 wp_walk
 refine ATY A9M;exact z6 (wpAny_alloc BAu)
#where
section
variable{BA:A6}{w:AZ}{κ:GG}[AHb]{knd:ABz}{kf:ABO}(hkf:A0x){A:B6}{E:fu}{s:AC}
include hkf
set_option maxHeartbeats 3200000 in
theorem ztj{l:Η}{Lc:Hb}{val:ApO}{Q:fu}(hh:Sm)(hl:Aww)(hv:BTL (ADp Lc))(hb:ALf (N1+1))
  (h:∀(h' :AN) (tk:Ζ),BQp ->(Awo) ->Aaq sr):
  Ayp Rl [PP]:=by
 obtain⟨c,tl,hmro⟩:=PySem.F.called_set.mro;have hmade:=PySem.F.called_set.made;have hsub:=PySem.F.called_set.sub;refine AtQ Bcf;show m_ (callAny (P3 Rl) _);refine cS ⟨BCu,AKY PySem.F.entry_type_call⟩
 rw[Around.under_plain (weight_type_call_type Rl [PP] []) Z];have q1:=PySem.F.called_set.notType;have q2:=PySem.F.called_set.canCreate;have q3:=PySem.F.typeCall_set_1 (B0 l)
 show Avd
 refine ACm (z03 (B0 l) (E:=E) (Q₁:=BOE A2L) ϫ) (A0 r GH hr);cases r with
 | YN e=>exact hr
 | ok fl=>
  cases fl with
  | DM DJ=>
   show AJW Z hr;have hS:AEq (AkT LY) (Om w):=P9;have hT:Aw' A2L ϻ :=Mc hS;have q4:=PySem.F.called_set.init.lookup;have q5:=PySem.F.called_set.init.bind ϻ
   show Avd
   refine ACm (A8Y (R:=wants (fun r U'=>r= CI/\∃h' tk,U'=sr/\BQp/\
     Awo) E) PySem.F.called_set.init.plain PySem.F.entry_set_init (check_set_init_1 hT ?_)) (A0 r₂ U' hr₂)
   ·obtain⟨ol,hol,hcl,nl,hdl⟩:=hl;show HA oc od ot os ol;simp only at hcl hdl;subst hcl;subst hdl;have hol' :AkT LY l=Β (AQh od (.seq Lc nl) os):=z8 _ hol;have q6:=PySem.F.sub_list_set;have q7:=PySem.F.sub_list_frozenset;have q8:VQ (AIH FE) (AIH i6):=De
    have hl1:AkT IsList l Lc:=⟨_,hol',Z,nl,Z⟩;unfold Builtin.«set.__init__» noKeywords Builtin.Frozenset.updateFrom;generalize hPI:ŉ=PI
    wp_walk
    subst hPI;refine AnC hl1 (z6 (A9N ?_));have hlS:PY l:=zK hol;have hh3:A.in1.in1.in1.handled=Ε:=DS hh
    have Wb:AkT Al6=AGN:=ALi;refine ye9 hkf (led:=n6 w) ((Walks.list hh3 _ l (F8 Wb (AiV hlS)) Lc).toS) (S:=B2) ?_ hv hb N1 0 _ (Bcj _)
     ⟨hG,hl1.push _⟩ ⟨_,_,_,_,z8 _ hS,ydb⟩ (A0 s' hm hS')
    ·rw[Wb];show AWi;exact⟨Ai9,ALY hlS⟩
    ·show A5V AH2 AG1;refine cS ⟨Z,h',tk',Z,hS',ATg⟩;have Cc:=dQ;refine Anh b o ?_ (ANP e);rw[Wb];show AWi;exact⟨Af4,AiV Cc⟩
   ·cases r₂ with
    | YN e=>exact hr₂
    | ok fl₂=>
     cases fl₂ with
     | DM r=>
      show nE Z h' tk y hr₂
      show Avd
      exact h _ _ Ν AI
     | _=>exact hr₂.elim
  | _=>exact hr.elim
#where
theorem uN:BAQ A8n A9O := BUu A8n
theorem yl8:Ac8 A9O Builtin.«set_iterator.__next__»:=entryFor_of_tree (by kernel_rfl)
theorem yl7(v:AD):argsOk A9O (HG [v]):=iE
theorem yfv:Ac8 "set.__iter__" Builtin.«frozenset.__iter__»:=BX6 "frozenset.__iter__"
def Ez(h:AN)(I:Η)(fst:AD)(i:Ζ)(S:Η)(n ep:Ζ):Ι:=∃o,AAs I/\ARj APf /\i4= .ACY #[fst,AfM,.AT S,.AF n 0,.AF ep 0]
theorem Ez.ty{s:AC}{I S:Η}{fst:AD}{i n ep:Ζ}(x:ANR A7):AK' I APf :=let ⟨o,ho,hc,_⟩:=x;⟨o,ho,hc⟩
theorem Ez.at(x:ANR h)(e:∀o,AAs I ->ϔ I):ANR h':=A1G e
theorem z4c(hi:iS):(xs[i]::xs.eraseIdx i).qf xs:=by
 rw[List.eraseIdx_eq_take_drop_succ];refine List.perm_middle.symm.trans ?_;rw[<- BZH,List.take_append_drop]
section
variable{BA:A6}{w:AZ}{A:B6}{E:fu}{s:AC}
theorem z7u(hn:n≠0)(h:∀i d,i<n ->Q i AzN):NC (choose src n):=fun Γ p _=>by
 unfold choose;rw[Sem.wp_choose];exact⟨hn,h _ _ (A9P _ (Nat.pos_of_ne_zero hn))⟩
theorem zzd(n:Ζ):∀(xs:Go) {s:AC} {Q:QQ Go},B5=n ->(∀ys d,ys.Perm xs ->Q ys AzN) ->NC (drawOrder n xs):=by
 induction n with
 | e_=>
  intro xs s Q hn h;have:xs= []:=Bck hn;subst At;exact cS (h [] AH2 (.refl _))
 | fA n ih=>
  intro xs s Q hn h;cases xs with
  | DU=>cases hn
  | AU x xs=>
  refine P7 (choose _ _) (z7u BN (A0 i d hi))
  show A_r;refine z6 (ih ((x::xs).eraseIdx i) ?_ fun ys d' hp=>LH (h _ d' ?_))
  ·show A_s;simp_all
  ·show KS (nz hp.cons _ ?_) (z4c hi)
section
variable{S I:Η}{fst:AD}{i n ep:Ζ}{o:Obj}{es:ħ}{t:kM}
theorem z1s(hh:Sm)(hQ:AUs (APW I h0 h'))(hk:APW I h0 A7):
  MS BA w ř (ArT>>=ln (Ani e:Sem PySem.Fin)) AAh (gz e (ABh (do if<- AIx e ApL then BGA else throw e) s')) s:=by
 refine PR;show BV Ahu Akz
 show BV Arh (s_ _ A8r);rw[show AeI by simp [hh]]
 refine AEk LH (AZI (α:=_));show KS (P7 (AIx _ _) (BWz ARs BcP ?_)) (LH (hQ _ ((hk.push _).ŋ _)))
#where
#where
section
variable{BA:A6}{w:AZ}{κ:GG}[AHb]{knd:ABz}{kf:ABO}{A:B6}{E:fu}{s:AC}{S I:Η}{fst:AD}{i n ep:Ζ}{o:Obj}{es:ħ}{t:kM}{led:AO}{ks:nK}
theorem Wc(hit:ANR A7)(hg:Ĝ)(O:ABd)(hn:E1=n)
  (h:MS BA w ř (if let .AF M3 _:=fst then do
    match<- setNext S slot.toNat i ep with
    | Β (x,MG)=>
     BIZ MG
     A4H ϧ
     DM x
    | Ε=>BOQ;BCO
   else do
    let some places<- seqItems? fst | BCP
    match places[i]? with
    | OA AF place _=>
     let x<- A9Q S place.toNat ep
     A4H ϧ
     DM x
    | Β _=>BCP
    | Ε=>BIZ 0;BOQ;BCO) (gz C8 (∃r,C8= .MQ (.DM r)/\Q (Β r) s')) (gz e (ABh (do if<- AIx e ApL then BGA else throw e) s')) s):
  ABN I:=by
 obtain⟨oi,v⟩:=we;unfold AIW;refine V_ _ (AZA (Aov hit.ty uN (AQn uN hit.ty yl8 yl7)));unfold Builtin.«set_iterator.__next__»;refine s_ (slotArgs _ _ _) LH;refine Qr fieldsOf (A9R EN Sk ?_);refine Aam setEntries Bcl hg;rw[OH (Afo hn)]
 refine jp h (fun C8 s' hz=>(AUH r ⟨r,Ν,cS AI⟩)) fun e s' he=>he
theorem zpd(h:Q (ACP AZR) s):NC A9S:=Fu (V_ ask (A9M (LH h)))
theorem z0n(hbt:BDm)(hg:Ĝ)(O:AQb Θ)(hdr:EE AV7)
  (h:Q (match es[BJ4]?,APd[BJ4]? with | Β (_,x),Β j=>Β (x,j+1) | _,_=>Ε) s):BOz e0:=by
 show BV AWB AzO;rw[hbt,AGe,ASF (by have z' :LN (! t.plain) BVv:=z;rw[hdr] at z';cases z')]
 refine V_ _ ?_;show m_ (GV (LN (! t.led) (! es.isEmpty)) _ (IC PUnit.unit));rw[O.tok.led,EJ BN]
 exact LH (LH h)
theorem zzz(hbt:BDV)(hg:Ĝ)(O:ABd)
  (h:Q (((A9T (Anj S ep) es)[given]?).B_ (ln (e.2,M3))) s):BOz ep:=by
 show BV AWB AzO;rw[hbt,My,EJ BN]
 refine V_ (setWalk S) ?_;show BV AWB (s_ A9S zpd);rw[hbt,My];exact P7 ask (A9M BAu)
theorem yau(hg:Ĝ)(O:ABd)(hx:Iq es p x)(h:Q x.2 s):NC (A9Q S p ep):=by
 refine AWB;dsimp only;rw[EJ BN,hx]
 exact LH h
theorem z14(hg:Ĝ)(O:ABd)(h:Q (! A'P &&AV7) s):NC (setDrawn S):=by
 refine AWB;show KS AzO (LH h)
theorem ybu(nx:Ζ ->Ζ):∀(f k:Ζ) (l:Go) (out:Ļ α),AOd=f ->(A9U nx f k l out).toList.Perm (out.toList++l)
 | 0,k,l,out,hl=>by
  unfold A9U;rw[Bck hl];simp
 | f+1,k,l,out,hl=>by
  unfold A9U;have hi:BJ2<AOd:=A9P _ DF
  show A_r;refine fS (ybu nx f OQ (l.eraseIdx (BJ2))) _ (by show A_s;simp_all) ?_
  rw[Bca,AYq];exact List.Perm.append_left _ (z4c hi)
theorem zuj(nx:Ζ ->Ζ)(xs:Ļ α):(A9T nx xs).toList.Perm i5:=Fu (ybu nx _ 0 _ #[] BN)
#where
theorem ygt:BAQ "__iter__" A9V := BUu "__iter__"
theorem yll:A'L A9V:=BBx
theorem ymv(v:AD):argsOk A9V (HG [v]):=iE
theorem Ez.TY(x:ANR h)(v:AD):AEc (h.update I (Obj.mapFields (·.setIfInBounds 0 v))) v i:=by
 show C6 o x;exact A3s (by rw[AY5 CO];simp)
theorem Ez.T3(x:ANR h):AEc (h.update I (Obj.mapFields (·.setIfInBounds 1 (rawInt ((i:Int)+1))))) fst IM:=by
 show C6 o x;exact A3s (Azo CO)
section
variable{BA:A6}{w:AZ}{κ:GG}[AHb]{knd:ABz}{kf:ABO}
structure Steps (BA:A6) (w:AZ) (A:B6) (I S:Η) (n ep:Ζ) (o:Obj) (ex:fB) (HM:An) (fst:Ζ ->AD):Ι where
 Pt:∀i (s:AC) (Q:Aes) (E:fu),i<n ->JJ (AEc A7 (fst i) i) Ĝ BAo (∀v h',ADp HM ->AEc h' (fst IM) IM ->ACd I A7 h' ->Q (Β v) PD) (ABN I)
 MQ:∀(s:AC) (Q:Aes) (E:fu),JJ (AEc A7 (fst n) n) Ĝ BAo (AUs (APW I A7 h')) (ABN I)
theorem ych(T:Steps BA w A I S n ep o ex HM fst)(hS:S≠I)(hX:WF ex (AK≠I)):
  Walks BA w A I (I::S::ex.map (·.1)) [I] n A_v (AEX (AEc h (fst i) i/\AAs S/\WF ex (AKL X_))) where
 sub:=BKV
 frame:=fun i h h' st hk=>⟨BQI,hk S BN o Ade,sR (hk AK (by simp only [į,AZQ];exact tm (AAd p hp)) BS (AdV p hp))⟩
 Pt:=BTR (T.item i s Q E hi st.1 Ade AdV fun v h' hv st' sb=>hQ v h' LX hv ⟨st',MZ sb S hS Ade,sR ((sb.2 AK (hX p hp)).Kk (AdV p hp))⟩ (Tx (MZ sb b (DB (AZv z)) e)))
 MQ:=fun s Q E st hQ=>T.done s Q E st.1 Ade AdV fun h' eb=>hQ h' LX (Tx (eb b o (P_ (AZv z)) e))
 TL:=fun i s Q E st hQ=>by
  refine Bcm (st.1).ty ygt (AQn ygt (st.1).ty yll ymv);exact cS (BWl (st.1).ty hQ)
variable{A:B6}{I S:Η}{n ep:Ζ}{o:Obj}{es:ħ}{t:kM}{ks:nK}
def rG(t:kM)(i:Ζ):Ζ:=Ar3 (0<i/\BZW) (BcV[i - 1]' ad+1) 0
theorem ztl(hr:A_S)(hi:BZW):AZN APd (rG t i)=i:=by
 have:=z6q hr hi;unfold rG;by_cases h0:0<i
 ·rw[AZO ⟨h0,hi⟩];show FI (AZO h0);exact At
 ·rw[dif_neg (DB (h0 z.1))];show FI (dif_neg h0);exact At
theorem z4p(h:t.fits n=Θ):A9W=n:=by
 simp only [SetTable.fits,TN,beq_iff_eq] at h
 simpa using AS
theorem yjo(hh:Sm)(hbt:BDm)(O:AQb Θ)(hdr:EE AV7):
  AyE [] (es.toList.map (·.2)) (fun i=> BK_) where
 Pt:=BB_ (by
  have hl:=z4p O.fit;have hb:=uv BCQ A2
  have hp:i<t.place.size:=C9 (L7:i<A9W)
  show BV AOY (s_ AqO (z0n (ep:=ep) hbt hg O hdr));rw[BO7 i i,hb,Ats,AI9 hp];show AAX oi we;refine AFa AK UF
  have fE:=hit.TY (N0 BDO);show PQ oj v (id fE) (AFa EN Sk)
  refine BIa hi ?_
  have e:(A6b (rG t IM) 0)=N0 BDO:=by
   unfold rG;rw[AZO ⟨Fu Aps,by assumption⟩]
   simp [N0]
  rw[e];exact hit2.T3)
 MQ:=BBw (by
  have hl:=z4p O.fit;have hb:=BCQ (i:=E1) DF
  show BV AOY (s_ AqO (z0n (ep:=ep) hbt hg O hdr));rw[BO7 E1 E1,hb,AZS (A5w _)];show C6 oi we;refine Azy
  exact A5Z (AqE extBut))
theorem yih(hh:Sm)(hbt:BDV)(O:ABd):
  AyE [] ((pickOrder (w.params.setOrder S ep) es).toList.map (·.2)) (Id AAR) where
 Pt:=BB_ (by
  have hp:=BBv A9X;show AqG hp;refine AOY;refine BRf;have hi' :i< (A9T (Anj S ep) es).qE:=L7
  rw[AI9 hi'];show AAX oi we;refine AFa AK UF
  have fE:=hit.TY (N0 AMP);obtain⟨oj,v⟩:=id fE;refine AFa EN Sk
  exact BIa hi' hit2.T3)
 MQ:=BBw (by
  have hp:=BBv A9X;show AqG hp;refine AOY;refine BRf;rw[AZS DF]
  show C6 oi we;refine Azy
  exact A5Z (AqE extBut))
theorem ykb{led:AO}(hh:Sm)(O:ABd){Tp:Η}{ot:Obj}{ps:He}(hps:AcC ps.Perm E1)(hot:∃m,ot.data= .seq A0z m):
  AyE [(Tp,ot)] BIf (Id (.AT Tp)) where
 Pt:=fun i s Q E hi hit hg hx hQ=>by
  obtain⟨m,hm⟩:=hot;show A2y hl
  have hi' :AKz:=L7
  have Cc:AAt<E1:=A9Y (hps.mem_iff.mp (zE hi'));show BV AOY BQX
  dsimp only;have e:D7 A0z (.AF (Tb AAt) 0):=lf hi' N0
  rw[e];refine V_ (A9Q _ _ _) (yau (x:=es[AAt]) hg O (F8 ACx BZ8) ?_)
  obtain⟨oi,g⟩:=we;refine AFa CC ϥ
  exact cS (WC (hQ _ _ (by simp [hi',Cc]) hit.T3 (AI5 A7 I _)))
 MQ:=fun s Q E hit hg hx hQ=>by
  obtain⟨m,hm⟩:=hot;show A2y hl
  show BV AOY BQX
  dsimp only;have e:A0z[E1]?=Ε:=DS hl
  rw[e];obtain⟨oi,v⟩:=we;refine AFa EN Sk
  have fE:=hit.TY (N0 0);show C6 oj (id fE);refine Azy
  exact A5Z (BXf).extBut
#where
section
variable{BA:A6}{w:AZ}{κ:GG}[AHb]{knd:ABz}{kf:ABO}{A:B6}{E:fu}{s:AC}{S:Η}{ep:Ζ}{o:Obj}{es:ħ}{t:kM}{ks:nK}
structure Laid (knd:ABz) (kf:ABO) (s:AC) (S:Η) (o:Obj) (ks:nK) (I:Η) (h' :AN) (n:Ζ) (HM:An) (St:AUr) (fp:BH):Ι where
 wk:BKq (Walks BA w A' I fp [I] n A_v St)
 st:St 0 h'
 len:APg=n
 lem:n=P1
 C_:A1Z
 mem:∀v∈HM,(∃k,Aa')/\ARI
 new:lc I
 inF:I∈fp
 fpl:SK (b<AO_)
 fpn:SK (b=S\/lc b)
 kep:Ah6
 siz:lc AO_
theorem yea(hg:Ĝ)(O:AQb AFx)(hb:AsW)
  (h:∀(I:Η) (h' :AN) d n HM St fp,Laid knd kf s S o ks I h' n HM St fp ->OE I (A2N h')):AfX S:=by
 have hT:AK' S Rl :=Avk hg;show D1 hSl (PY S) (zK hg) hlk (E1=P1) AtA scn (∀v∈Ang (·.2),(∃k,Aa')/\ARI) (fun v hv=>by
  show P8 e he Z Ank hv;obtain⟨⟨k,hk,_⟩,hs⟩:=O.el e he;exact⟨⟨k,hk⟩,hs⟩) C8 (∀(h1:AN) d (HM:An) (ex:fB) (fst:Ζ ->AD),BZg ->(∀b ob,ApR ->ź xt) ->(∀p∈ex,AKL xt/\lc AK) ->
   BQ (BKq (Steps BA w A' AIr S E1 ep o ex HM fst)) (APg=E1) A1Z BHS (OE AIr (A2N (h1.push (ZT APf #[fst 0,Acb,.AT S,N0 E1,N0 ep]))))) (by
  intro h1 d HM ex fst hsz hk hx' hs hl hp hm;have hx:WF ex (AKL xt):=fun p q=>(hx' p q).1;refine h _ _ d E1 HM _ _ ⟨fun A' hh=>ych (hs A' hh) (zM (zO hSl hsz)) (fun p q=>zM (zK (hx p q))),⟨hG,z8 _ (hk S o hg),fun p q=>z8 _ (hx p q)⟩,hl,hlk,hp,hm,hsz,FA,Agr,Agr,AJD ob (z8 _ (hk b ob e)),?_⟩
  ·rw[YI];simp only [į,AZQ] at q;rcases q with Z | Z | ⟨p,hp',Z⟩
   ·exact AFh
   ·exact AIy (zO hSl hsz)
   ·exact Av5 (hx p hp')
  ·simp only [į,AZQ] at q;rcases q with Z | Z | ⟨p,hp',Z⟩
   ·exact .CB hsz
   ·exact ADw
   ·exact .CB (hx' p hp').2
  ·rw[YI];exact Nat.le_succ_of_le hsz)
 refine A1g Bcn Bcn yfv PySem.F.args_set_iter_1;unfold Builtin.«frozenset.__iter__»;refine AMS Builtin.Frozenset.slot0 ?_;refine s_ (slotArgs _ _ _) LH;show BV AG1 (V_ (Builtin.Frozenset.sizeOf S) ?_);refine V_ (setEntries S) (Bcl hg O.dat O.fit (LH ?_));refine P7 (setDrawn S) (z14 hg O ?_);cases hbt:A'P with
 | Θ=>
  show AaF (ARG (EE (! Θ&&AV7)));refine ATY (Qr IC);show BV BFv (AMS A9Z A2_);have hp:=zuj (Anj S ep) es;refine C8 A7 AH2 ((pickOrder (w.params.setOrder S ep) es).toList.map (·.2)) [] (Cn AAR) JI (ASb) BA' (fun A' hh=>yih hh hbt O) (DA hp.length_eq) ?_ (BMe (hp.map _).mem_iff.mp)
  show As_ (nz hp.map _ O.key)
 | Τ=>
  have abZ:n6 w=Θ:=by unfold n6;rw[hbt];rfl
  cases hdr:AV7 with
  | Τ=>
   show AaF (ARG (EE (! Τ&&Τ)));refine ATY (Qr IC);show BV BFv (AMS A9Z A2_);rw[abZ] at O;refine C8 A7 AH2 (es.toList.map (·.2)) [] (Ϝ BK_) JI (ASb) BA' (fun A' hh=>yjo hh hbt O hdr) BN ?_ scn
   show As_ O.key
  | Θ=>
   rw[ARG (LN (! Τ) Θ),My];refine AMS drawOrder (zzd E1 (xy E1) BN (A0 ps d hps))
   show A2y hpl
   refine Qr newTuple (A8v ?_ (by show AGH hpl;exact hb))
   have hgt:AFu BLT S=Β o:=z8 _ hg;show BV (Aam setEpoch Bco hgt) (AMS A9Z A2_);have hpm:(ACz fun p=>ArW).qf (es.toList.map (·.2)):=by
    refine nz hps.map _ ?_;have:(xy E1).B_ (fun p=>ArW)=Ang (·.2):=by
     show AdR
     ·simp
     ·intro i h1 h2;have:ApK:=C9 h1
      simp [At]
    rw[At]
   refine C8 _ d BIf [(B2,BLT)] (Cn AQS) (Atd AqI) (AJD ob rh) (AFd p q) (fun A' hh=>ykb hh O hps LG) (HU hpl) ?_ (BMe hpm.mem_iff.mp)
   ·show E7 (p=_) (C9 q)
    exact⟨P9,Mn⟩
   ·refine nz hpm.map kf ?_;show As_ O.key
abbrev mj:Obj:=ART
theorem zsn(hh:Sm)(hg:Ĝ)(O:AQb AFx)(hb:AsW)
  (h:∀(HM:An) (h' :AN) d tk,JJ A1Z BHS BCX Ah6 (Q HM BTm)):
  AJY Anl S:=by
 have hSl:PY S:=zK hg;refine BKH (AnK Bcp ?_);show A_l;refine BLL;refine BGx;rw[AKc A9a];show GL hg1 (AFu mj S=Β o) (z8 _ hg) hT1 (Aw' (AQ5 mj) (B0 S)) (Avk hg1) (A0T hT1);have n1:BEg (B0 S):=BZl (ALY hSl)
 rw[Aeo n1]
 refine V_ (ŉ _) (yea hg1 O hb fun I h1 d n HM St fp L=> ?_);refine Afa (Ag2 ?_);show GL hg2 (xt S=Β o) (L.kep S o hg1) hT2 (Aw' (A2N h1) (B0 S)) (Avk hg2) (A0s PySem.F.slot_set_len.lookup);show AfO (AP0 (splitId "set.__len__" =Β (Rl,"__len__"))) (P7 (AIx _ _) (A8y hT2 Bch ?_));rw[EJ BF,Fs Md]
 refine A0T hT2;refine AG1;show HZ Md
 refine Qr pp (APR ?_);have hS1:AEq xt mj:=L.kep _ _ AN3;have hNI:B2≠I:=zM (zO (Atd AFh) L.new)
 show BV (V_ (Builtin.List.listTouch _) ?_) (P7 (updateSeq _ _) (A9b hS1 Z ?_));have hS2:=AsF (Obj.mapSeq (·.push Value.none)) hS1;refine A9b hS2 Z ?_;have hS3:=AsF (Obj.mapSeq (·.pop)) hS2;have oth:∀b ob,AcM ->ź xt ->ź ((h1.update s.heap.objs.size (Obj.mapSeq (·.push Value.none))).update s.heap.objs.size (Obj.mapSeq (·.pop))).LY:=
  fun b ob q e=>AWG q (AWG q e)
 have hNf:B2∉fp:=ì (by
  rcases L.fpn _ q with z | z
  ·exact pd z (ň hSl)
  ·have z' :ARt mj<=B2:=z;rw[YI] at z';exact Iy z' (Nat.not_succ_le_self _))
 have IK:D4 n:=by
  have e1:=L.lem;have e2:E1=P1:=AtA
  simp_all
 have W:=L.wk ř (HU hh)
 refine Acy Bcr (Bcs W.toS IK _ hNf _ n 0 _ _ _ Z AAG (W.frame 0 h1 _ L.st fun b q ob e=>oth b ob (P_ (hNf (z ▸ q))) e) hS3 BYh BS5);show BV (BGd hS') AG1;have ev:Anm=HM:=by
  apply List.ext_getElem?;intro i;by_cases q:i<n
  ·have hi:i<AZT:=ADe AdM
   have:=BO9 hi;rw[APc,Ats,At]
  ·exact(AY2 (by rw[jv,AdM];exact ue)).Kk (AY2 (F8 L.len ue)).i9
 rw[ev];show A5V d (h HM h' d' tk' L.key L.mem (zK hS') (ADS ob));have Cc:=dQ;have hbN:AcM:=Af4;refine Anh b ob ?_ (oth b ob hbN (L.kep b ob aT));show AWi;exact⟨hbN,DB (hbN (by
  subst z;have z2:ARt mj<=b:=L.new;rw[YI] at z2;exact Iy Cc (Nat.not_lt_of_ge (AnQ z2))))⟩
#where
def IV:ADm BI | AVT=>i | _=>0
theorem yil:∀k v,ASf AZV k v=Θ ->IV v=k:=fun k v h=>by
 show bv (A6c h)
 rfl
theorem z9q:∀{vs:An},(BHR AZV) ->Am0 vs (Amc IV)
 | [],_=> C7
 | AMm,h=>by
  obtain⟨⟨k,hk⟩,_⟩:=h v zY;show Ϣ (A6c hk) (Ae' (z9q fun u hu=>BGS))
theorem ykw(hob:cE (ALQ xs n)):∃e,GS (BRK).LY (AI_ FE out e):=by
 have hal:Av1:=zK hob;have h1:=A9c hob ApI;have h2:GS (Azx (BWL A9H) #[]) (ALQ #[] _):=z8 _ (z8 _ h1);exact Ú (A9c h2 (Cn out))
theorem yf4(hb:tw)(hne:gS):MW (BRK).LY:=by
 have h1:AL2 A9H a (AZ' (Id (#[]:Hb))):=(As9 hne).Kk hb;exact nz As9 hne (ANP h1)
section
variable{BA:A6}{w:AZ}{A:B6}{E:fu}{s:AC}{S:Η}{ks:F9}
theorem z65(hh:Sm)(hS:wB (AZV BA w) IV AFx A7 S ks)(h64:P1<64)
  (h:∀(l:Η) (h' :AN) d tk (out:An) (ms:F9) e,AT4 ->Am0 out ms ->JJ (APV ks) BZ6 (BFI out.toArray) Ah6 (AGo BTm)):
  NC (AvT (Á S)):=by
 obtain⟨o,es,ep,t,y⟩:=hS;have hlk:E1=P1:=C9 (AI).BcY
 have line:AMO:=De
 refine BSs;show BYC;refine BSI;refine BZN (zsn (HU hh) Ν AI A2 BTj)
 have IK:APg=P1:=C9 hk.length_eq
 refine Qr AZF (Bcu ?_ A2)
 have hoL:Azx h1.push Bcv AIr=Β (ALQ Bcv 0):=P9;have hI:=z9q hm;show BV (Afa (Ag2 (AO7 Bcw (Mc hoL) Bcx (list_sort_tree (ns:=vals.map IV) hoL hI DF fun out ms a1 a2 a3=>ATn) (Bcy _)))) (cS ATn);show AQ e he (ykw (vs:=HM) (out:=out) hoL);have hle:BZg:=AOu Cc;refine h AIr _ d tk out.toList ms e hle a1 (a2.trans hk) a3 (F8 Bcz he) (zn ob eb)
 have e1:=TU b ob eb;exact BNT e1 e1
#where
def Km(P:A6)(w:AZ)(a:Η)(ns:F9):HO:= .ext (gu (wB (AZV P w) IV AFx h a (nM Aum J_)))
theorem yge(I:AW)(d):bg AzN:=AwW pf
inductive Ru (AWr):Ι
 | mk:∀(p:Η) (ns:F9),JJ (vs= ASN) (nG AE H p ANa) (ALf (J_+1)) (AQg q q q (upd H q Axs)) (AKE Ru)
def Z0(X:Cx):oo:=AUZ Ru
inductive Rv (AWr):Ι
 | mk:∀(q:Η) (ns:F9),BQ Avh (SL q Axs) (T' nM Aum J_<64) (∀(l:Addr) (ms:List Int),H l=none ->ms.Perm (nM (fun i=>ns.getD i 0) ns.length) ->ms.Pairwise (· <= ·) ->Q (.ref l) (upd H l (.lst (ms.map .int)))) (AKE Rv)
def ab0(X:Cx):oo:=AUZ Rv
theorem yda(io):AQq Rl (Z0 X):=by
 rintro Μ s σ H xs us Q I r ⟨p,ns,e0,hq,hb,k⟩;subst e0;show Si;cases rx;show BGv;show AHL;have hI:=zvk CC;have hsz:p6=J_:=C9 hl.symm
 refine ztj (κ:=BI) (knd:=AbK AZV) (kf:=IV) yil (val:=BEb) W1 Afv BIh BDh BM1
 ·show Ϣ (IntsAre.int_at hI i v Ad7) (VV (Ee intKind_is))
 ·rw[hsz] at hS;have I2:A_4 A'6:=
   Ax1 A'6 ⟨hS,BKC,BJf⟩
  exact AAQ I2 (k _ AFs)
theorem yfz(io):Aho ab0:=by
 rintro Μ s σ H xs us Q I r ⟨q,ns,e0,hq,h64,k⟩;subst e0;show Si;cases rx;show EG (IB q _ hq);refine z65 W1 Ν h64 fun l h' d tk out ms e hle a1 a2 a3 hl TU=> ?_;have Fr:D4 (Tk AI3 V.int):=by
  show AGH a2.length_eq;have:AMO:=De
  omega
 have I2:ASS l BAd:=
  ARe TU hle (fw _ _ _ BAd ⟨Fr,out,e,YM a1,hl⟩)
 exact BMd (k l ms (Ab' hle) a2 a3)
def z3o:Q4:=AFt (∃ns,Ahr/\J_<63/\∀ms:F9,AaD (· < ·) ->(∀i,i∈ms↔i∈ns) ->Abi fi)
theorem z4d:ALD Rl Rl:=FM
section
variable{X:Cx}{F0 H0:Hp}{a e:AG}{AB p kN p2:AR}{t:dH}
theorem yj7(ns:F9)(k:BI):k∈nM (Ϝ ê) J_↔k∈ns:=by
 rw[zrt];constructor
 ·rintro⟨j,hj,Z⟩;show ASw AuS;exact zE hj
 ·intro h;obtain⟨j,hj,e⟩:=AZG h;exact⟨j,hj,by show Aq2=k;rw[YV,AuS];exact e⟩
theorem yjx(BSj):
  BP7 z3o:=fun z E cx=>by
 have inner:zi PE Aq4 (VF (Z0 (bc z)) AuB):=DH zom (yda hc) hg2 hm2 z4d KK BF BF he Z
 refine Ajf (DH Nv (yfz hc) hg hm hb BFV BF BF he2)
 show ATz;refine AT3;unfold z3o at h1;split at h1
 ·show AdF;show AQ ns j h1;show ND (zoo rs j.1);refine BQa
  have hml:=zwk Aum J_;refine BM5 ASx
  have R2:BLW Axs:=BQq
  obtain m:=Ih R2 hl2 (AWO zpc F1 ms);refine k _ Ω F1 _ l2 _ m.1 s1 AGM (Db m) (E8 m) (zpc ms) (GT m) (j.2.2 ms ?_ fun i=>Bc0 (yj7 ns i));have nd:ms.Nodup:=hp.nodup_iff.mpr (zpt _ _);have:=List.Pairwise.and hs nd;exact this.imp fun{a b} hz=>by show EG hz;omega
 ·exact C5
#where
def Itv(K:Φ)(a:Η)(xs:AL):It:=⟨Ü (ô/\iS),fun i H x H' =>H' =H/\kg ym,ATU ASJ⟩
theorem yep(AR8)(a it:Η)(xs:AL):ANu BBc (At_/\h.IsRevIter it a (ALs - 1 - Ñ)) where
 mem:=FA
 DJ:=ABn (by
  show AWK
  obtain⟨_,o,e,c,d⟩:=st;exact ABs e d)
 IA:=ARf (Tm st ((di).at (ARh k it)))
 Pt:=by
  show US;show OS;show AAf hq hx;show HA AH rv p hz AAq;have hl:=APT;show AOa
  have hj:Afn<B5:=ASx
  show Ð hu ru (AnU (zZ hj));have hit:=di;rw[show ALs - 1 - Ñ=LF Afn by grind] at hit
  refine Ak7 wpAny_pyNext_rev_item hit Ann hu fF
  have I1:AGS:=A5M;obtain⟨o,e,c,d⟩:=Aeq;refine Me u (Qz (s:=PD) e c d BF ⟨xs[Afn],H,I1,ru,AeP,E9 hx,vz hf⟩)
  ·rw[List.getElem?_reverse hx,AuS]
  ·rw[show LF Afn - 1=ALs - 1 - Ath by grind] at fF
   exact fF
 MQ:=by
  show US;show OS;show AOa
  have hle:ASJ:=hg;have hit:=di;rw[show ALs - 1 - Ñ= -1 by have:=st.1;omega] at hit
  exact wpAny_pyNext_rev_end (AIV hc) hit A5H
 TL:=Aay (A9d di h)
theorem zok:ALD XZ XZ:=FM
def Z1(AxP):TI:=BMl (WN ->R BBc H1)
theorem ym5{X:Cx}{a tg:AG}{ta:TA}{p AB:AR}(hg:Gl X XZ)(hm:OG XZ)(ha:ANL [a])(AjT):
  vF (AK9 XZ) (Z1 AE ta):=by
 show Eg R;refine Call_ (Ϸ zok (Ag3 AHl us Z));show A4Z w;show BKu BE;have hl:=ď;refine BDr;have hit:Aoe A1s IsRevIter DZ l (ALs - 1 - AMP):=⟨_,P9,Z,by show Data.fields _=_;show Abg;simp [N0]⟩
 refine A9d hit ⟨DZ,AE',_,_,H1,Z,AFS,yep l _ xs,⟨aS,hit⟩,IO,D5 CO⟩;show Aot Aal
def znb(mT):dH:=UU (ů [IL] BY9)
theorem yid(BUC):AU5 (Itv K a vs) ym:=by
 have hl:=L_;refine⟨BAh,ASu (ALK (by show BW3;rw[e,A9e];simp_all))⟩
 show AQ v w (zm (zry rs) hd);have hi:AL0:=Aci (dr BE) A9e
 refine AVW ⟨AR5,hi⟩;show AQ Z z z;rw[BE] at z;cases z;exact⟨F2,AJ7 s3,(D5).up s2⟩
section
variable{X:Cx}{F0 H0:Hp}{a e tg:AG}{AB p kN p2:AR}{t:dH}
theorem z1n(hc:HV)(hg:Gl X XZ)(hm:OG XZ)(ha:AKZ)(AjT):
  AM7 (AK9 XZ) (znb t):=BP5 ym5 (AkA (by
  unfold znb at*;show BAp (BBn yid hq)))
#where
theorem yci:Aqr BYy "__len__" Ε:=A_P
theorem yde:Aqr BYy Bc1 (fh Bc2):=A_P
section
variable{BA:A6}{w:AZ}{A:B6}{E:fu}{s:AC}
abbrev ql:Obj:=AJZ #[]
theorem z1o(hh:Sm)(hit:s.heap.IsRevIter I l (Ado - 1))(hl:Aww)(hz:AsU)
  (h:∀h' c tk,(AhF (b≠I)) ->ArZ Bc3 c ->Aaq sr):
  Ayp FE (Á I):=by
 have hIl:PY I:=by show AAX o hit;exact zK AK
 show GL hll (PY l) (by obtain⟨o,v⟩:=hl;exact zK EN) hne (l≠I) (by
  show C6 o hit;obtain⟨o',e',c',_⟩:=hl;rintro Z;rw[Ν] at e';cases e';rw[A3] at c';exact Ϩ Value.type.inj c' BF) (callType_codes (Q₁:=BOE (AQ5 ql)) PySem.F.called_list (PySem.F.typeCall_list_1 _) PySem.F.entry_list_init (code_list_new _ ϫ) (A0 DJ GH h₁));show AJW Z h₁;have hS:AEq (AFu ql) ql:=P9;refine E3 (Mc hS) (PySem.F.args_list_init_2 _ _);show BV (Qr Builtin.List.listItems (Bc4 hS Z ?_)) (AMS Builtin.List.listUpdate (A9g hS Z ?_ AAG (AmW _)));have hS2:=AsF Aqj hS;refine Qr letGo (A8u ?_);have oth:ge AcM (MW (AFu ql)) (AL2 ArN B2 Aqj):=
  Op q e (AWG q e)
 have fE:BKL IsRevIter I l (Ado - 1):=hit.at (f' (oth I o (zM hIl) aT));have hl2:BKL IsList l Lc:=hl.at (f' (oth l o (zM hll) aT));generalize ArN B2 (AO9 ApI)=h2 at*;have hT2:Bci (VX h2) ϧ A9f :=A8o;refine A0T hT2;have n1:BEg ϧ:=BZl (ALY hIl)
 rw[Aeo n1]
 refine Qr ŉ (A9d fE ?_);refine Afa (Ag2 ?_);show BV (A0s yci) (A0s yde);show AfO (AP0 (splitId Bc2 =Β (A9f,Bc1))) (P7 (AIx _ _) (A8y (b:=Θ) hT2 BXR ?_))
 rw[EJ BF,Fs Md]
 show EL Md
 refine AG1;show EL Md
 have hSf:B2∉ [I,l]:=by
  show AWi;exact⟨ALY hIl,ALY hll⟩
 have W:=Walks.listRev (BA:=BA) (w:=w) (A:=A.in1.in1) (HU hh) I l hne Lc
 refine Acy Bcr (Bcs W.toS hz _ hSf _ N1 0 _ _ _ Z AAG ⟨aS,B1 (AUL (Ado - 1 - AMP) (Ado - 1)) fE,hl2⟩ hS2 BYh BS5)
 have ev:Ap=Bc3:=by
  apply Array.ext_getElem?;intro i;by_cases q:i<N1
  ·have hi:i<AZT:=ADe AdM
   have:=BO9 hi;rw[Ats,Array.getElem?_reverse q,At]
  ·rw[AZS (B1 AdM ue),AZS (by simp;exact ue)]
 subst ev;show A5V AH2 (NE (h h' c' tk' (Tx ?_) hS'));have Cc:=dQ;exact Anh b o (by show AWi;exact⟨Af4,hb⟩) (oth b o (zM Cc) aT)
#where
theorem yi7(hc:HV)(hg:Aez)(hm:Aeg)(hg2:Gl X XZ)(hm2:OG XZ)(ha:ANL [a])(BGQ)
  (BHy):
  PE X BM8 (b9 ta vs (∃l xs,vs= [PP]/\nG AE H1 l xs/\BQy ym)):=by
 show d5;show BV (Aw0 BF BF) (AsE ?_ he2);show Ay';show BV (AYj (JC I hg2 hm2 zok ?_ BF BF)) (AsE (cM (ha kN Μ s σ H _ I h) (WG us)) he);show A4Z v;show BKu EN;have hl:=ď;show BV BDr Aej;have I2:AGQ (ADM s1 (APa (revObj l (ARl - 1))) AIb):=AmT sP;refine z1o (I:=DZ) (Lc:=Kj) (I2.ok.hd hc) hG ((A3).isList.push _) AhB (LJ h' c tk TU hS)
 have Wb:Ae_ A1s=fk:=ALi;have kp:AqW se:=Tl (TU b o AhO aT);have I3:N9 (br H1 (Ae_ A1s) ym) (ADM s1 h' tk):=
  A_H kp BAf (fw _ _ _ (.A8 ym) ⟨BAh,its.reverse,c,(Ν).reverse,Afo hS⟩)
 exact PF (.AT _) I3 (v.2 _ (AO0 BAf))
def Z2:Q4:=AFt (P ym)
theorem z80(hc:HV)(hg:Aez)(hm:Aeg)(hg2:Gl X XZ)(hm2:OG XZ)(ha:AKZ)
  (BHy):
  ALA BM8 Z2:=fun z E cx=>by
 refine ARi (DH yi7 hc hg hm hg2 hm2 KK Md he) he2 wY
 show Se wY;refine AT3;unfold Z2 at h1;split at h1
 ·show AdF;refine⟨l,us,Z,ϭ,ArF⟩;show AyC R1 hq0 zry rs q (zry rs) h1
 ·exact C5
section
variable{X:Cx}{F0 H0:Hp}{tg Nw elt:AG}{ifs:CY}{AB:AR}{sc:ME}{C4:AA}{FV:He}{N' :AA}{ti:dH}{g:tG}{tc:TT2}{te:bO}
open yv in
theorem ydw(BUp)(hi:w_ Aj6)
  (hg:AWb) (ht:AWc) (he:AWa)
  (BTT):
  BO4 (bR i (FP (TX (Arc tc te)))):=by
 subst hn;show AV4 Dn;show AQ F1 j (z3u R);rw[lS Bb' hsw];refine AEk AmP z6;refine AG_ (Lu (Lu zoq X bi xb dc use BKD Qv (MY s' (SP zS Μ Dn gg s'))) g Aiq tc Air te Ayo Q BPJ AhZ (pig hc (hi F1 H z lF (Rg cx))) ?_ ?_ ?_ Z hs I ?_ ?_ Auv) (fun _ s' hq=>z7 (z7 hq)) ASb
 show AlT
 show AlS
 show A5t
 ·refine⟨F1,uL Γ,_,j.2.1,h,fun ds Ω F2 H2 J Hx R2 s2 hx hJ h1 Ap ha=>ztr R2 hJ hx ha h1 fun ys F' H' vs R' sF a1 a2 a3 rs ap hp=> ?_⟩;have s3:=(z3v R'.g a1 a2).1;have R3:=R'.frzA a1 a2 a3 ap;have s' :=nz kH sF s3;show GL gr (BEc (AjL b) H') (by
   refine AT5 L9 L9 R3.gr.h
   ·rw[OH (AcY (ADo (KL j)))]
    exact BGP
   ·show ABc SS Ε (AjL b);split at e'
    ·cases e'
    ·exact R3.g _ _ e'
   ·have e' :(GV SS Ε (AjL b))=Β o:=e;show Ϻ
    ·cases e'
    ·show AAa hb (BOd R3.gr.n)) rep (Rep AE (lZ F1 AjL) AtN AFe) (Fu (lL Ap (z98 (R'.gr.f.free a2) (.AV (.AV j4))) (zov (ybv R3.gr.f) ys vs hp.1 (AI1 s3)))) (SO ((ACr gr).set i (rep.up L9)) KA hp.2);have hb:¬SS:=ADn (by
   obtain⟨_,w,t⟩:=KL j b hb;exact z3q e w t.2 FK)
  show î hb (z0c _ _ e)
 ·rintro Ap C H' s5 I5 q5 ⟨m,hn⟩ c1 c2 c3 c4 c5 c6;refine A7G (DH zua I5 hN hi' (.AV hy) (v:= .AT Ap) Z BLE (.CB hy));show AQ a p Cb;have ha' :AxL (Au0 a):=BS;have hac:C≠a:=by
   show OF ha' Z ha' c2 BRQ
  refine⟨m,hn.sameBut AK hac,AfU ⟨_,H',BH5,q5⟩⟩
#where
section
variable{K:Φ}{F H:Hp}
theorem T4:A3M (fO K F H (AH3 .SE) vs [])
 | [],_,h=>by subst h;rw[Amx];exact ϫ
 | So,_,h=>by
  show IJ v us h1 h2 h;rw[IZ];exact⟨v,us,[],[],Z,Z,Fu (NE h1),T4 h2⟩
theorem zwt:∀{ts us:Ev} {vs ws:AL} {as bs:BH},Ϡ ->fO K F H us ws bs ->fO K F H (ts++us) AxD (as++bs)
 | [],us,vs,ws,as,bs,h1,h2=>by
  show ť Z h1;exact h2
 | RI,us,vs,ws,as,bs,h1,h2=>by
  show bz v vs' a1 a2 Z q1 q2 h1;rw[Ano];exact⟨v,vs' ++ws,a1,a2++bs,Z,by rw[AYq],q1,zwt q2 h2⟩
theorem z1k(h:Ϥ):AZ8 [t] [v]:=by
 refine⟨v,[],as,[],Z,FA,h,?_⟩
 exact ϫ
theorem ygj:∀{ts:Ev} {vs:AL} {as:BH} {j:Ζ} {t:T},Ϡ ->SZ ts t ->∃v b1 bs b2,SZ vs v/\as=AEm bs/\Aj3 bs/\
  ∀{F' H' :Hp} {t' :T} {cs:BH},F6 ->BFO ->ly t' v cs ->Ahn (ts.set j t') (zt cs)
 | [],_,_,j,t,_,e=>AMu
 | AMZ,_,_,0,t,h,e=>by
  cases e;show ANx vs';refine⟨v,[],a1,a2,Z,Z,q1,BHq⟩;rw[Bc5];exact⟨v,vs',cs,a2,Z,Z,r,p9 f ts vs' a2 (lP (k a ha)) q2⟩
 | AMZ,_,_,j+1,t,h,e=>by
  show ANx vs';obtain⟨w,b1,bs,b2,g1,Z,y⟩:=ygj q2 AL3
  refine⟨w,a1++b1,bs,b2,C9 g1,FA,Ν,BHq⟩
  rw[Bc6];exact⟨v,vs',a1,AUd,Z,FA,BRg f,AI f BQE r⟩
#where
mutual
def ab1:AS_
 | NY=>xu d
 | Wp=>Dl ts
 | ABQ=>Dl ts
 | AMo=>Dl ts
 | ANc=>Dl ts
 | nX=>IS
def Dl:AsN
 | []=>IS
 | RI=>ab1 t/\Dl ts
end
abbrev pP:=AEp T
section
variable(K:Φ)(F0 H0:Hp)
inductive UpN (t:pP) (E:XW) (σ:St) (H:Hp) (Q:VK):Ι
 | mk:ALX (∀tr A4 F' H' v as,mx ->F6 ->BQ Ŕ BLg (ly tr v as) (P tr A4) ſ) UpN
def upN(t:pP)(E:XW):TE:=ABU UpN
#where
def QN(UE)(e:AG)(t:pP):Ι:=AU4 upN
def Z4(mT):pP:=UU (E_ BDd)
section
variable{X:Cx}{F0 H0:Hp}{e:AG}{es:CY}{AB p:AR}{te:bO}{tf:dH}{tn:pP}
theorem yg9(h:AxV):gL QN (Z4 tf):=fun z E cx=>
 lN AGX (Hm Ch Ch (A5n (by
  refine k _ _ _ _ _ [a] R1 s1 BN (V' (k8 AI' hb ⟨e2,e3,ap⟩)) ?_ h1
  exact⟨a,vs,[],Z,Z,e1,T4 r1⟩)))
def Wd:pP:=AUu (.eN [] [])
theorem zyl:BLj Wd:=fun z E cx=>
 lN ye6 fun σ H Q DL q hq=>by
  show Se DL;have R2:BDj dK Γ:=A2u hq hq
  show KS (k _ _ _ _ _ [q] R2 Gc BN (V' (k8 AI' hb ⟨A8L hq,BY',AY7 hq⟩)) ?_ h) (ASg q [] Z AtC)
def Hs(i:Ζ)(t:pP):aC:=sQ t tr (∀as,AVH tr)
theorem z7f(hN:pi)(hi:Hk)(hx:AAP)(he:AFz)(hs:AHq (IF (bn IU)):=by rfl)
  (AV9):Ajr Hs tn:=fun z E cx=>
 uH (Ahl hN hi hx LP hs hf) (ag Dd Dd (AwV (BTJ as (h1 as))))
def xG(t:pP):aC:=fun D Γ E=>t Γ (fun tr _=>D.rT (.one tr)) E
theorem Z5(he:AFz):A0n (xG tn):=fun z E cx=>
 uH (xN z8y he) (ag wY wY (AwV (k.rT (.one t) _ _ _ _ R1.gr nd (lP (Tm ϗ ϗ.2.1)) r1 h1)))
def nV(AGy):pP:=AQ9 (bq Γ[i]? (OA tr _ t) (P t AEu))
theorem ygb(A4p):AKH nh (nV i):=fun z E cx=>
 lN Sj (Y2 wZ (by
  show Se wZ;show BD nV;show EO
  ·rename_i as t e;obtain⟨o,e0,v,Z,nd,hn,r⟩:=AHA;exact⟨v,e0,k t _ F H v as (AY3 e0) Gc nd (lP ⟨ϗ.1,ϗ.2,ACo e e0 (K_ (gR (Ś as t) cv a) ha)⟩) r h⟩
  ·exact Cf))
#where
section
variable{X:Cx}{F0 H0:Hp}{AB p px:AR}{x:Ξ}{i:Ζ}
theorem z12:Abv ks DI Z' ((OZ vs).B_ (·.1)=ks)
 | [],[],_=>Z
 | [],EH,h=>EQ
 | EH,[],h=>EQ
 | k::ks,AMm,h=>BLP z12
#where
section
variable{K:Φ}{F0 H0 F H F' H' :Hp}{σ:St}{Γ:Ć}
theorem z6b(e1:ABL)(h:ABR):ADc AEu a:=fun j q=>by
 have q' :o8 AEu (ϩ o) j a:=BK0
 rcases Y4 q' with ⟨_,z⟩ | ⟨_,z⟩
 ·exact z
 ·exact h j z
theorem SR.wrT(R:FB)(e:AUI)(e1:ABL)(h:õ)(r:rE K F ASa H0 t o)(ht:NA (gR t o b) (gR s o b\/ADs b)):
  BIr:=by
 have R1:=R.wrO (t:= C3) (u:=u) e e1 h N2 (MY z z.elim);have R2:=R1.put i r (EB (by
  show Avv (ht b hb) (AFq (k_ Slot.no) (Ŗ i C3)) (ACo e e1 z) (z6b e1 z)))
 show Ah8;exact R2
#where
abbrev zf:=AxZ T
inductive Ko (A5m zf):Ι
 | mk:BQ3 (∀t v as F' H',à ->BQ Ŕ (AQw (AFm/\AGp)) (ly t v as) (P t) ſ) Ko
def Bb(K:Φ)(sp:zf):Sp:=fun vs H Q E=>(ALP Ko)
def Ah(sp:zf):dD:=BSw (fun t=>P (toD t))
open yv in
theorem z4w{K:Φ}{sp:zf}{vs:AL}{H:Hp}{Q:VK}{E:XK}(h:pL K (Ah sp) vs H Q E):ALP Bb:=by
 obtain⟨F,ds,P,Ex,h1,h2,h3,h4,h5⟩:=h;refine⟨F,ds,fun t=>P (toD t),Ex,h1,h2,h3,fun t v as F' H' g nd hn r p=> ?_,h5⟩;have s1:Kt F' BMh:=QU (by
  show sh mr (H' b) u_;show EL (AcY cc.1)
  exact e)
 refine h4 ATw v BMh H' (AT5 (g.f.trans s1) L9 g.h) (AYz s1 t v as (NH a ha u hu) r) p
 ·show ABc mr (H' b) u_;show Ϻ
  ·exact e'
  ·exact g.g b u e'
 ·have e' :(GV mr (H' b) u_)=Β o:=e;split at e'
  ·show AAa hb (.AV ā)
  ·exact g.n b o e' n
 ·show HZ ha;exact hu
structure xH (AHs) (mg:DT) (B9:AN) (x:Ξ) (k:Ζ) (ps:AA) (sp:zf):Ι where
 ex:A1a Bb
theorem xH.fn(BUL){x:Ξ}{k:Ζ}{ps:AA}{sp:zf}(G:y6 xH x k ps sp):y6 cR x k ps (Ah sp):=dP f fd bd ⟨f,fd,(Ν).imp BEu,AI⟩
section
variable{P:A6}{w:AZ}{K:Φ}{mg:DT}{B9:AN}
theorem Kp(ABm){st:AM}{f:Η}{fd:ET}{N ps:AA}{k:Ζ}{sp:zf}(Fn:AX x D_ st)(S:AhQ)(len:AWo)
  (pz:AWw (∀F0:Hp,
   Akp wy (Axk (t (Aa5 Q) AUi y8)))):
  AEo OQ Bb:=by
 show AHw g APN;refine AWv CC g.2 AlC DL
 ·obtain⟨F,ds,P',Ex,_,rs,hs,_⟩:=Ch;rw[<- L_];exact AhA
 show A5k;show AAX t AlN;have cx:=AlU;exact A5O (Aa5 Pd) ⟨ϖ,AKB,AKB,ϖ,ϖ,fun t v as F' H' gr nd hn r q=>by(cases t with | one t=>exact hQ t v as F' H' gr nd hn r q | tp ts=>exact Ř),BVx⟩
#where
def uO(sp:zf)(t:dH):pP:=UU (sp ds (fun tr=>(E_ tr)) fun C=>E Ω C)
section
variable{X:Cx}{F0 H0:Hp}{e:AG}{es:CY}{AB p:AR}{x:Ξ}{ps:AA}{k:Ζ}{sp:zf}{t:dH}
theorem zr4(A0' xH):
  AKH ADy (uO sp t):=by
 show Axv;show w4;refine ANv A3;refine AWu ED (Ah7 d) (WG us);obtain⟨vs,H1,I1,r,F1,Ω,ds,R1,sF,rs,q⟩:=Cb;refine AMI;have hs:Bb AE sp vs H1 Q (fun C dx H' =>∃x F',E Ω x/\Gr F1 H1 F' H' /\AQ_ H1):=⟨F1,ds,_,_,HP,rs,q,fun t v as F' H' gr nd hn rt hp=>kk t Ω F' H' v as AKj Abk nd BJD rt hp,AlA⟩;have hl:AGY us=YO:=A0h (lS (Ν).len hs)
 have hbs:=NO s1 us AIv hl;show ģ;refine AOI ((Ν).run X.A MM s1 H1 AK5 us vs Q) I1.env0 r hs;cases r with
 | YN e=>exact AiH H1 hq
 | ok fl=>
  cases fl with
  | DM u=>exact A9h hq
  | MG=>show RE
  | brk=>show RE
  | No=>show RE
#where
#print L3
namespace L3
open H_ Nl IR L2
def qW(ks:DI)(k:Key):AO:=BK7
theorem yem:Axt↔Af5:=by
 unfold qW;rw[A8k];exact zd hz (by obtain⟨x,h,e⟩:=hz;exact AY9 e ▸ h) (gu ⟨k,h,BZj⟩)
def oh(ks:DI)(k:Key):DI:=PV qW ks k ks (ks++ [k])
def lG(NX)(ks:DI)(xs:Go)(k:Key)(x:α):Go:=PV qW ks k BNQ (xs++ [x])
theorem zvu:KO ks DI vs AL Z' (BMs=OZ ArV)
 | [],_,_=>Z
 | EH,[],h=>EQ
 | ABY,AMl,h=>by
  rw[kF,IZ,Anr,kF,AKK zvu]
  by_cases q:k' =k<;>simp [q]
theorem zwj(h:Z'):BTo oh BGK:=by
 unfold yn oh lG;have e:(AbH BIH)=Θ↔Axt:=by
  rw[yem,A8k];constructor
  ·rintro⟨kv,hm,q⟩;have:=List.mem_map_of_mem (f:=(·.1)) hm;show FI (z12 h);rw[<- AY9 q];exact At
  ·intro hm;rw[<- z12 h] at hm;show C6 kv (Ank hm);exact⟨kv,Ν,APA AI⟩
 by_cases q:Axt
 ·rw[M1 (e.mpr q),WO,WO];exact zvu h
 ·rw[ASF (q (e.mp z)),c9,c9,BYZ]
  rfl
theorem z1z(h:ø P1):T' oh ks k=Cl (lG ks xs k x):=by
 unfold oh lG;split
 ·rw[A8_,<- h,AC_]
 ·simp [h]
theorem yby{K:Φ}{F:Hp}{k:Key}{d:D}{v:V}(r:NL):A5a DI BOt
 | [],xs,vs,h=>ATQ
 | EH,[],vs,h=>AjO
 | ABY,Sn,vs,h=>by
  show IJ u us h1 h2 h;show BCU;refine rD ?_ (yby r h2);show BQY
theorem zt6{K:Φ}{F:Hp}{ks:DI}{xs:AJ}{vs:AL}{k:Key}{d:D}{v:V}(h:tF)(r:NL):Lo Aq9 BGK:=by
 unfold lG;show AeD (yby r h) (J3 h (M7 r))
theorem Z6(A2l):∀{xs:AJ} {vs:AL} {as:BH},AZ8 Aty vs ->as= []/\tF
 | [],vs,as,h=>by rw[Amx] at h;exact⟨Au,AS⟩
 | Sn,vs,as,h=>by
  show As2;show bz v us bs cs Z h1 h2 h;obtain⟨Z,r⟩:=h1;obtain⟨Z,rs⟩:=Z6 h2;exact NE (rD r rs)
#print L3
namespace L3
open H_ Nl IR L2 AHy
structure Ord (lt:mw) (n:Ζ):Ι where
 tri:∀i j,BQ (i<n) (j<n) AHN (EE (lt i j)) (lt j i=Θ)
 irr:∀i j,i<n ->j<n ->Ar' ->EE (lt j i)
 tr:∀i j k,i<n ->BQ (j<n) (k<n) Ar' (lt j k=Θ) (lt i k=Θ)
def Sat(NX)(lt:mw)(n:Ζ)(t:KasT α)(Q:GI α):Ι:=Wa lt n t=Θ/\Q (ZV lt t)
section
variable{lt:mw}{n:Ζ}{α β:GG}
theorem Kq(h:Q a):dE (.DM a) Q:=NE h
theorem Wf(hi:i<n)(hj:j<n)(hij:AHN)(h:dE AkC Q):dE (.ask i j k) Q:=by
 refine vi Au;unfold Wa;simp only [TN,qA];exact⟨hi,hj,hij,AS⟩
theorem Wg:∀{t:KasT α},dE t (fun a=>(dE (f a) Q)) ->dE (t.bind f) Q
 | .DM a,h=>Au
 | Akv,h=>by
  have h1:=AS;unfold Wa at h1;show Aw9 h1;exact Wf mM h1.2.1 (Db h1) (Wg ⟨KL h1,Au⟩)
theorem Sat.imp(h:dE t Q)(k:∀a,Q a ->Q' a):dE t Q' :=⟨AS,k _ Au⟩
def Pm(n:Ζ)(p:mn):Ι:=AcC p.toList.Perm n
theorem Pm.size(h:W_):APb=n:=C9 (List.Perm.length_eq h)
theorem Z7{p:mn}{k:Ζ}(hk:k<APb):Ahf=p.toList[k]' AqM:=lf Array.getD hk
theorem Pm.below{p:mn}(h:W_){k:Ζ}(hk:k<n):Ahf<n:=by
 have hk' :k<APb:=B1 h.size hk
 rw[Z7 hk'];exact A9Y (Bc7 (zE _))
theorem Pm.ne{p:mn}(h:W_){k j:Ζ}(hk:k<n)(hj:j<n)(hkj:k≠j):Ahf≠kP j 0:=by
 have nd:p.toList.Nodup:=h.nodup_iff.mpr List.nodup_range;rw[Z7 (B1 h.size hk),Z7 (B1 h.size hj)]
 have C_:=Ane nd;show OF (ASv hkj) q q (C_ k j _ _ q) (AWk k _ _)
def Lp(lt:mw)(p:mn)(i j:Ζ):AO:=lt (kP i 0) (kP j 0)
def Up(BSa):Ι:=BOx (gy i j)
def Dn(BSa):Ι:=BOx (gy j i)
theorem z9y(O:oq)(P:W_)(hi:i<n)(hj:j<n)(hij:AHN)(h:EE (Lp lt p i j)):gy j i:=O.tri _ _ (Ê hi) (Ê hj) (P.ne hi hj hij) h
theorem ydv(O:oq)(P:W_)(hi:i<n)(hj:j<n)(hk:k<n)(h:gy i j)(h' :gy j k):gy i k:=O.tr _ _ _ (Ê hi) (Ê hj) (Ê hk) h h'
theorem yj0(O:oq)(P:W_)(hr:r<n)(h1:1<=r)(U:AM6 r)(h:gy ATq r):AM6 (r+1):=Ajc (by
 rcases Atn r with q | q
 ·exact Aj5 q
 ·show ú j r
  rcases ATB AK7 with q' | q'
  ·exact ydv O P A2 ad hr BQr h
  ·show E7 (i=j - 1) BG
   exact h)
theorem yhg(O:oq)(P:W_)(hr:r<n)(h1:1<=r)(U:AN6 r)(h:gy r ATq):AN6 (r+1):=Ajc (by
 rcases Atn r with q | q
 ·exact Aj5 q
 ·show ú j r
  rcases ATB AK7 with q' | q'
  ·exact ydv O P hr ad A2 h BQr
  ·show E7 (i=j - 1) BG
   exact h)
theorem yj8(O:oq)(P:W_):BOH (AM6 m) (dE (kas_asc p f m) (fun r=>m<=r/\r<=m+f/\AM6 r/\ (r<m+f ->gy r ATq)))
 | 0,m,h1,_,U=>Kq ⟨Mn,Mn,U,DB (Iy z Aab)⟩
 | f+1,m,h1,hn,U=>by
  refine A1k dl
  cases q:AlG m (m - 1) with
  | Θ=>
   show wT;exact Kq ⟨Mn,L7,U,Id q⟩
  | Τ=>
   show EL BF
   refine(yj8 O P f (m+1) Aso A2 (yj0 O P A2 h1 U (z9y O P A2 A2 A2 q))).imp fun r hz=>by obtain⟨a1,a2,a3,a4⟩:=hz;exact⟨Fu ARP,BG,a3,DB (a4 A2)⟩
theorem yf9(O:oq)(P:W_):BOH (AN6 m) (dE (kas_desc f p m 0) (fun r=>r.1=p/\m<=r.2.1/\r.2.1<=m+f/\r.2.2=0/\AN6 r.2.1))
 | 0,m,h1,_,U=>BN' Mn
 | f+1,m,h1,hn,U=>by
  refine A1k A2
  cases q:AlG m (m - 1) with
  | Θ=>
   rw[My,EJ BF]
   exact(yf9 O P f (m+1) Aso A2 (yhg O P A2 h1 U q)).imp fun r Ch=>by obtain⟨a1,a2,a3,a4,a5⟩:=Ch;exact⟨a1,Fu ARP,BG,a4,a5⟩
  | Τ=>
   show EL BF
   refine A1k A2
   have q' :lt (kP (m - 1) 0) (kP m 0)=Θ:=z9y O P (i:=m) (j:=m - 1) A2 A2 A2 q
   rw[q',My];exact BN' (ASL (m<=_))
theorem ygr(P:W_)(i j:Ζ):Pm n (kas_rev p i j):=nz Bc8 (mirror_perm p i j ((j - i)/2)) P
theorem getD_get?{p q:mn}{i j:Ζ}(h:p[i]?=q[j]?):kP i 0=q.getD j 0:=by
 rw[Bc9,Bc9,h]
theorem yf8{p:mn}{m k:Ζ}(hm:m<=APb)(hk:k<m):(kas_rev p 0 m).Pw k 0=kP (m - 1 - k) 0:=by
 have e:=rX getElem?_mirror_all hm k;show AAn ⟨aS,hk⟩;have:=Ad3;show FI (AUL (0+m - 1 - k) (m - 1 - k))
 exact At
theorem yic(O:oq)(P:W_)(h1:1<=m)(hm:m<=n)(D:AN6 m):BQz (kas_tail3 m n p):=by
 have U:Up lt (kas_rev p 0 m) m:=Ajc (by
  unfold Lp;rw[yf8 (F8 Ans hm) A2,yf8 (F8 Ans hm) hj]
  exact D (m - 1 - j) (m - 1 - i) ad ad)
 exact Wg ((yj8 O (ygr P 0 m) (n - m) m h1 DF U).imp fun r hz=>by obtain⟨a1,a2,a3,_⟩:=hz;exact Kq ⟨ygr P 0 m,by show 1<=r;exact AKs,ASL (r<=n),a3⟩)
theorem yh8(O:oq)(P:W_)(h1:1<=n):BQz (kas_count n p):=by
 refine Wg ((yj8 O P (n - 1) 1 JI DF (fun i j a b=>L7)).imp (DC r Cb))
 obtain⟨a1,a2,a3,a4⟩:=Cb;by_cases e:r=n
 ·show HZ (HU e)
  exact BJY
 ·show EL (HU e)
  by_cases g:r>1
  ·show HZ g;refine Wf (Ê ALk) (Ê dl) (P.ne ALk dl A2) ?_
   have q:AlG 0 ATq=Θ:=a3 0 ATq ad ad
   rw[q,My];exact BJY
  ·show EL g;show ú r 1
   have q:=a4 A2
   have D:AN6 2:=Ajc (by
    show ú i 0
    show ú j 1
    exact q)
   refine Wg ((yf9 O P (n - (1+1)) (1+1) Aso A2 D).imp (DC r DL))
   obtain⟨b1,b2,b3,b4,b5⟩:=DL;rw[EJ DF,b1]
   exact yic O P Adw A2 b5
theorem z1f(O:oq)(P:W_)(hk:k<n)(U:AM6 k):∀(f l r:Ζ),l<=r ->JJ (r<=k) (r - l<=f) (BIL l) (BPO r) (dE (kas_place p k f l r) (QP (x<=k/\ (BIL x)/\BPO x)))
 | 0,l,r,h1,h2,h3,h4,h5=>BS' A2
 | f+1,l,r,h1,h2,h3,h4,h5=>by
  unfold kas_place;by_cases g:l≥r
  ·show HZ g;exact BS' (CU AKs)
  ·show EL g;have m1:l<=ABt:=BG
   have m2:ABt<r:=BG
   refine Wf (Ê hk) Ao6 (P.ne hk A2 ad) ?_
   cases q:AlG k (ABt) with
   | Θ=>
    show wT;refine z1f O P hk U f l _ m1 A2 dl h4 (A0 j a b)
    rcases A8H (ABt) j with z | z
    ·exact ydv O P hk A2 A2 q (U _ j z b)
    ·show E7 (j=ABt) BG
     exact q
   | Τ=>
    show EL BF
    have q' :gy (ABt) k:=z9y O P hk A2 ad q
    refine z1f O P hk U f _ r ALk h2 dl (AFd j a) h5
    rcases Atn (ABt) with z | z
    ·exact ydv O P A2 A2 hk (U j _ z (CU A0f)) q'
    ·show E7 (j=ABt) BG
     exact q'
theorem ymj(P:W_)(k d:Ζ):Pm n (bubble p k d):=(Bc8 (bubble_perm p k d)).Kk P
theorem ymq(O:oq):∀(f:Ζ) (p:mn) (k:Ζ),W_ ->k+f=n ->AM6 k ->BEx (kas_bin f p k)
 | 0,p,k,P,h,U=>by
  show E7 (k=n) ASx
  exact Kq ⟨P,U⟩
 | f+1,p,k,P,h,U=>by
  have hk:k<n:=BG
  refine Wg ((z1f O P hk U k 0 k AAG JI DF (fun j a=>L7) (fun j a b=>BG)).imp (DC l Cb))
  obtain⟨a1,a2,a3⟩:=Cb;refine ymq O f _ OQ (ymj P k Ail) A2 (NH i j hij hj)
  have at' :∀x,(bubble p k Ail).Pw x 0=z_ x l Ahf (if l<x/\x<=k then kP (x - 1) 0 else kP x 0):=QP (by
   have e:=getElem?_bubble (xs:=p) (src:=k) (F8 Ans hk) Ail DF x
   rw[show k - Ail=l by omega] at e
   split
   ·show WU;rw[WO] at e;exact Ad3
   ·show WU;rw[c9] at e;split
    ·rename_i q2;show AAn q2;exact Ad3
    ·rename_i q2;rw[EJ q2] at e;exact Ad3)
  show lt _ _=Θ;rw[at',at'];by_cases e1:i=l
  ·rw[Fs e1,EJ A2,Fs A2]
   exact a3 AK7 A2 A2
  ·show EL e1;by_cases e2:j=l
   ·rw[Fs e2,EJ A2]
    exact a2 i DF
   ·show EL e2;by_cases e3:l<i/\i<=k
    ·rw[Fs e3,Fs A2]
     exact U (i - 1) AK7 ad A2
    ·show EL e3;by_cases e4:l<j/\j<=k
     ·show HZ e4;exact U i AK7 A2 A2
     ·show î e4 (Aj5 A2)
theorem ymm(O:oq):BEx (kas_sort n):=by
 have P0:Pm n (Anc (xy n)):=Fu BYp
 by_cases h0:n=0
 ·subst h0;exact⟨Z,(CU BYp),fun i j _ hj=>(Iy hj (Nat.not_lt_zero _))⟩
 ·refine Wg ((yh8 O P0 A2).imp (DC r Cb))
  obtain⟨a1,a2,a3,a4⟩:=Cb;by_cases g:r.1<n
  ·rw[Fs g,AUL (max r.1 1) r.1]
   exact ymq O _ _ _ a1 DF a4
  ·show EL g;obtain e:r.1=n:=BG
   exact Kq ⟨a1,e ▸ a4⟩
#where
#print L3
namespace L3
open H_ Nl IR L2
def xJ(lt:mw)(is:He):Ι:=is.Pairwise fun i j=>Ar'
theorem ymf(P:Pm n q)(U:Up lt q n):xJ lt q.toList:=by
 unfold xJ;show BYE;intro i j hi hj hij;have hj' :j<q.size:=C9 hj
 have hi' :i<q.size:=ASx
 have:=Aj5 (c_ Ans hj')
 unfold Lp at At;rw[Z7 hi',Z7 hj'] at At;exact At
structure IW (BA:A6) (w:AZ) (A:B6) (E:fu) (vs:An) (lt:mw) (T:AsM) (κ:Ant):Ι where
 kind:∀(s:AC) (Q:QQ Ant),Aub ->2<=MR ->Q κ s ->NC (keyKind' kD)
 ask:∀(s:AC) (i j:Ζ) (C:Atp),Aub ->BQ AL0 (j<MR) AHN BMf (Anu BA w A κ vs i j C s)
section
variable{BA:A6}{w:AZ}{A:B6}{E:fu}{s:AC}
theorem zw3{a:Η}{vs:An}{lt:mw}{T:AsM}{κ:Ant}{n:Ζ}{P:QQ PySem.Fin}(hob:AsY (ALQ kD n))(O:BZp)(hT:Aub)
  (hst:∀h',(∀x o,A_t ->x≠a ->HR YA o) ->T h') (K:IW BA w A E vs lt T κ) (h64:BZc)
  (h:∀is:He,BAx ->AxS ->P (.MQ (.DM CI)) (VX (sortedHeap A7 a vs Axa))):ASY A (Builtin.«list.sort» ASA) P:=by
 have hal:PY a:=zK hob;have hln:AKx:=by rw[AYb];omega
 rw[list_sort_plain];refine ZI (Bc4 (n:=n)) hob Z;refine z6 (A9g (n:=n) hob Z ?_ (F8 SD hln) (AmW _))
 obtain⟨ea,hoa⟩:∃ea,GS (Ő a BVt).LY BAs:=Ú (A9c hob (Cn #[]));refine Azj hoa;refine z6 (A8v ?_ (DA hln))
 show BV (A_Y AAG) (x_ (m:=_) ?_);have Oo:GS (Azx ArC #[]) BAs:=by
  refine AJA Ai4 (AJA Ai4 hoa)
  ·show BDl (AiV hal)
  ·rw[Anv];exact zM hal
 have T2:T (ArC (AI_ FE #[] 0)):=hst _ fun x o hx hxa=>by
  have Cc:=zK hx;refine AJA Ai4 (AJA Ai4 (AJA (Ee Bct hxa) hx))
  ·show BDl (AiV Cc)
  ·rw[Anv];exact Af4
 dsimp only;have hsv:ADV Bc_:=SD ..;by_cases YR:Bc_<2
 ·rw[Fs YR,Fs YR];refine At0;rw[StateT.run_pure];refine At0;refine Azj Oo;have eo:(arrOf (SortSt.mk' general' (Bc' kD) #[] 7 Ε)).B_ (·.2)=Â (xy MR).B_ Abm:=by
   show BYJ;show AdR
   ·simp
   ·intro i q1 q2;have:AL0:=C9 q2
    simp [At]
  rw[eo];refine BKx
  ·show A'x;refine LH (h _ Gc ?_);unfold xJ;show BYE;intro i j hi hj hij;have:j<MR:=C9 hj
   omega
  ·simp;grind
 ·rw[EJ YR,EJ YR];refine ft (K.kind _ _ T2 (CU ue))
  obtain v:=ymm O;refine AG_ (W.kat_run (Q:=fun st' s' =>∃p:mn,ADV APb/\arrOf st' =p.map (W.kas_item (Bc' kD))/\failedOf st' =Ε/\p=BOh/\BSB)
   (G:=fun p s' =>p=BOh/\BSB)
   Z (CU ue) ad (fun p st' s' a1 a2 a3 a4=>⟨p,a1,a2,a3,a4⟩) ?_) ?_ Aik
  ·exact ygd (fun i j C hi hj hij hC=>K.ask _ i j C T2 hi hj hij hC) _ _ EN ϫ
  ·rintro⟨⟨⟩,st'⟩ s' ⟨p,hp,har,hf,Z,Z⟩;have eo:=W.kat_snds (vs:=vs) Z har;rw[eo];refine Azj Oo;refine BKx
   ·rw[hf];show A'x;exact LH (h _ nL (ymf nL Sk))
   ·exact zQ (AO4 (z9n hp)) A2
theorem zm4{src:AD}{Q:fu}
  (hc:ASY ř (Anl src) (fun vs s1=>∃lt T κ,BZp/\BZc/\IW BA w A.in1.in1 E vs lt T κ/\ (∀h2:AN,(∀x o,HR APZ o ->HR h2.get? o) ->T h2)/\
   ∀(l:Η) (h' :AN) (is:He) e,DZ<=l ->JJ BAx AxS (BFI Axa) (∀b ob,ź APZ ->ź YA) (AGo (y_ s1 h')))):
  NC (AvT [src]):=by
 refine BSs;show BYC;refine BSI;refine BZN (jp hc (ţ vs Bx) Aik);show HA lt T κ v Bx;have hln:AKx:=by rw[AYb];show ADa
 refine A_Y hln;have hoL:BYQ (BVs APa FE LY) (ALQ kD 0):=P9;show BV (Afa (Ag2 (AO7 Bcw (Mc hoL) Bcx (zw3 (T:=T) hoL EN (E8 v _ fun x o e=>rh) (fun h' k=>E8 v _ fun x o e=>k x o aT AhO) (Db v) nL fun is a1 a2=>ATn) (Bcy _)))) (cS ATn);obtain⟨e,he⟩:=ykw (vs:=vs) (out:=Axa) hoL;refine GT v DZ _ is e JI a1 a2 he (zn ob eb);exact BNT eb eb
#where
def pA(a b:Ξ):AO:=Κ (Anw<A9i)
theorem z19(a:Ξ):EE (pA a a):=by unfold pA;simpa using List.lt_irrefl Anw
theorem z4u(h1:ARU)(h2:pA b c=Θ):pA a c=Θ:=by
 unfold pA at*;simp only [qA] at*;exact List.lt_trans h1 h2
theorem z2h(BFw pA):AM0=Θ:=by
 unfold pA at*;simp only [BdA,qA] at*;cases q:Κ (A9i<Anw) with
 | Θ=>exact AY9 q
 | Τ=>
  have:=List.le_antisymm (BdB h1) (BdB (of_decide_eq_false q));exact Iy (by cases a;cases b;simp at At;rw[At]) h2
theorem z4z(h:ARU):EE AM0:=by
 cases q:AM0 with
 | Τ=>rfl
 | Θ=>show AU3 (z4u h q) z19
def T5(xs:AA)(i j:Ζ):AO:=pA (YY i D') (AfJ YY)
theorem Ai{α:GG}{xs:Go}{i:Ζ}{d:α}(h:iS):YY i d=xs[i]:=by
 show ASw Adk;rfl
theorem z1q{xs:AA}(nd:AZW):BIJ T5:=by
 have C_:=AvL;show BV ⟨fun i j hi hj hij h=> ?_,fun i j _ _ h=>z4z h,BRR (z4u h1 h2)⟩ (z2h h ?_);rw[Ai hi,Ai hj];rcases ASv hij with q | q
 ·exact C_ i j hi hj q
 ·exact AWk i hj hi
def Of(NX)(d:α)(xs:Go)(is:He):Go:=AI8 fun i=>YY i d
theorem zrv{α:GG}{d:α}{xs:Go}{is:He}(h:AcC is.Perm B5):(Of d xs is).qf xs:=by
 have e:(xy B5).B_ (fun i=>YY i d)=xs:=by
  show AdR
  ·simp
  ·intro i q1 q2;simp only [A9j,List.getElem_range];exact Ai q2
 have:=h.map fun i=>YY i d;show FI e;exact At
theorem zw7(h:xJ (T5 xs) is):(Of D' xs is).AnO (ARz ARU):=by
 unfold Of;rw[AZC];exact h
theorem zsk{xs:AA}{vs:An}(r:Av' vs){i:Ζ}(hi:iS):∃t,AI7 i eW= .Ψ Aun t:=by
 show C6 u (r.get (i:=i) (x:= .Ψ Aun) (BV3 ie (Ai (d:=D') hi)))
 rw[YV,Ν];exact AI
theorem z4k{BA:A6}{w:AZ}{A:B6}{E:fu}{xs:AA}{vs:An}(r:Av' vs):BNs (Cn IS) :=by
 have hl:ø MR:=BW5 ek
 refine A5j (fun s Q _ h2 hQ=>(BTG (G' Pl))) _ _
 ·show AVA k hk hv;show AQ t e (zsk r (i:=k) A2)
  rw[Ai hk] at e;rw[e];exact BZk
 ·show ADf t e (uv (zsk r)) DF u e' (zsk r (i:=j)) DF
  unfold Anu;rw[e,e',BdC];exact oneLt_str hC
def Oq:ADm Key | AVT=> ALu | AVC=> lr | _=> .AV 0
theorem yhb:∀k v,ASf rA k v=Θ ->Oq v=k:=fun k v h=>by
 rcases G8 h with ⟨i,t,Z,Z⟩ | ⟨x,t,Z,Z⟩<;>rfl
theorem z0o:∀{vs:An} {ys:AA},(BHR rA) ->Amc Oq=AZX U2 ->Abe AZX vs
 | [],[],_,_=> C7
 | [],EH,_,h=>EQ
 | EH,[],_,h=>EQ
 | AMm,y::ys,h,e=>by
  obtain⟨⟨k,hk⟩,_⟩:=h v zY;rw[IZ,IZ] at e;injection e with e1 e2;refine .AU ?_ (z0o (fun u hu=>BGS) e2);show AhU hk
  ·cases e1
  ·have:x=y:=Ar4 e1
   subst At;exact mm
theorem yd1:KO ks DI xs AA (ks.Perm (JY U2)) (∃ys:AA,ks=AZX U2/\ys.Perm xs):=fun{ks xs} h=>by
 have e:ks=(yo fun k=>AlB).B_ U2:=by
  rw[APh];refine BKP (List.map_id ks).i9;obtain⟨x,_,Z⟩:=Ank (Bc7 hk)
  rfl
 refine AAk e;have:=h.map fun k:Key=>AlB
 show FI APh;refine this.trans ?_;rw[PH (List.map ((fun k:Key=>AlB) ∘ U2) xs) xs (List.map_id' xs)]
def uP(xs:AA):AA:=(nM (Ϝ Arl) B5).B_ fun k=>AlB
theorem zx8(xs:AA):BI0=(uP xs).B_ U2:=by
 unfold uP;rw[APh];refine BKP (List.map_id _).i9;obtain⟨j,_,Z⟩:=(zrt _).mp hk
 rfl
theorem yfq{xs:AA}{x:Ξ}:x∈uP xs↔x∈xs:=by
 have e:x∈uP xs↔ (U2 x:Key)∈BI0:=by
  rw[zx8,AZQ];constructor
  ·exact gu (AAd x h)
  ·rintro⟨y,h,e⟩;have:y=x:=Ar4 e
   rw[<- At];exact h
 rw[e,zrt];constructor
 ·rintro⟨j,hj,e⟩;have:YY j D'=x:=Ar4 e
  rw[<- At,Ai hj];exact zE hj
 ·intro h;obtain⟨j,hj,e⟩:=AZG h;exact⟨j,hj,OM (Ai hj) e⟩
theorem z6u(xs:AA):(uP xs).ax:=by
 have:=zpt (Ϝ Arl) B5;show FI zx8;exact List.Pairwise.imp (fun{a b} h z=>BFb) (BdE At)
def Kr(P:A6)(w:AZ)(a:Η)(xs:AA):HO:= .ext (gu (wB AFJ Oq AFx h a ((uP xs).B_ U2)))
inductive Ks (AWr):Ι
 | mk:∀(p:Η) (xs:AA),JJ (vs= ASN) (nG AE H p AM1) (ALf (B5+1)) (AQg q q q (upd H q BGf)) (AKE Ks)
def Rw(X:Cx):oo:=AUZ Ks
inductive Ku (AWr):Ι
 | mk:∀(q:Η) (xs:AA),JJ Avh (SL q BGf) (Tk uP xs<64) (∀(l:Η) (ms:AA),ATl ->APV (uP xs) ->Ag0 ->AGo BDv) (AKE Ku)
def Z8(X:Cx):oo:=AUZ Ku
theorem z8l(io):AQq Rl (Rw X):=by
 rintro Μ s σ H xs us Q I r ⟨p,ns,e0,hq,hb,k⟩;subst e0;show Si;cases rx;show BGv;show AHL;have hsz:p6=J_:=C9 hl.symm
 refine ztj (κ:=Key) (knd:=AbK rA) (kf:=Oq) yhb (val:=fun i=> .CB BaA) W1 Afv BIh BDh BM1
 ·have hi:ALz:=B1 hl (dr Ad7)
  show AQ t e (zsk CC hi);show BZX (show AuI by simpa using hv)
  have e' :v= .Ψ BaA t:=e;show Mo e' (VV (Ee zto))
 ·rw[hsz,zx8] at hS;have I2:A_4 A'7:=
   Ax1 A'7 ⟨hS,BKC,BJf⟩
  exact AAQ I2 (k _ AFs)
theorem zue(r:E6 xs vs)(h:AHU iS):E6 (Of BC xs is) (AI8 Abm):=zzm r h
theorem zsc(AdE){f:α ->β}{d:α}{xs:Go}{is:He}{e:β}(h:AHU iS):Of e (JY f) is=Aou d xs f:=by
 unfold Of;rw[APh];refine BdD Aye;show(JY f).Pw i e=f (YY i d);rw[Ai (B1 HL (h i hi)),Ai (h i hi),A9j]
theorem ybr{X:Cx}(io):Aho Z8:=by
 rintro Μ s σ H xs us Q I r ⟨q,ns,e0,hq,h64,k⟩;subst e0;show Si;cases rx;obtain⟨⟨o,es,ep,t,hg,O⟩,v⟩:=IB q _ hq;show GL hlk (E1=Ahj) AtA line AMO De (zm4 (zsn (HU (AIV hc)) hg O A2 BTj))
 show AQ ys y (yd1 hk);have rv:=z0o hm Ν;show GL IK BAI BAk hly (OX=Ahj) (AI).A9X ⟨T5 ys,_,_,B1 IK (z1q ((AI).nodup_iff.mpr (z6u ns))),L7,z4k rv,BZC,AlM hl⟩
 have hlt2:AT4:=A3e;have hix:AHU (i< Ayl):=ib (Apo HL IK Ajp)
 have hrv:=zue rv hix;rw[zsc (d:=D') BKz] at hrv
 have hms:(Of D' ys is).qf (uP ns):=nz zrv (c_ IK a1) AI
 have Fr:BGk:=by show AGH BdF;omega
 have I2:ASS l Agt:=
  BBt Agt Fr hrv
 exact BMd BQ5
def jQ:AfT Ξ
 | []=>iN
 | dS::r=>(jQ r).B_ (x:: ·)
 | EH=>Ε
theorem zz2(MC):∀{ds:AJ} {vs:AL} {xs:AA},LM ->jQ ds=Β xs ->vs=JY SV
 | [],vs,xs,r,h=>Ay5
 | So,vs,xs,r,h=>by
  show IJ v us r1 r r;cases d with
  | Ψ x=>
   show BD jQ;unfold Rep at r1;subst r1;cases q:jQ ds with
   | Ε=>rw[q] at h;cases h
   | Β ms=>show A3W zz2
  | _=>cases h
theorem Rx(MC):∀xs:AA,Lo AM1 (JY APi)
 | []=>SW
 | n::ns=>AHh Rx ns
def zxa:Q4:=AFt (∃ns,jQ xs=Β ns/\A'Y/\ Ahj<64/\∀ms:AA,Ag0 ->(∀i,i∈ms↔i∈ns) ->Abi SV)
section
variable{X:Cx}{F0 H0:Hp}{a e:AG}{AB p kN p2:AR}{t:dH}
theorem yds(BSj):
  BP7 zxa:=fun z E cx=>by
 have inner:zi PE Aq4 (VF (Rw (bc z)) AuB):=DH zom (z8l hc) hg2 hm2 z4d KK BF BF he Z
 refine Ajf (DH Nv (ybr hc) hg hm hb BFV BF BF he2)
 show ATz;refine AT3;unfold zxa at h1;split at h1
 ·show AdF;show AQ ns m h1;show ND (zz2 rs m.1);refine BQa
  refine BM5 (Db m);have R2:BLW (Kr EA X.w q ns):=BQq
  show AyC R2 hl2 (AWO Rx F1) ms l2 (Rx ms) (KL m ms hs fun i=>Bc0 yfq)
 ·exact C5
#where
open A7c (AYk)
open A7d A7e in
theorem ycs(BU_):
  Meets (Builtin.«list.__eq__.loop» (HG [PP,AFg,Acb,Acb]))
   (fun A R s=>(A1v dd sl (BLw sl2) BL4)):=by
 intro BA w A R s h;show AU7;show A1U
 show AyT
 have hi1:Iq Lc (AS8).TM ASc:=h1;have hi2:Iq ś (AS8).TM (.Ψ y u):=h2;rw[hi1,hi2];have hne:VQ BdG BdH:=by
  cases q:(BdG==BdH) with
  | Τ=>rfl
  | Θ=>
   have e:=Amk q;exact Iy (by cases x;cases y;simp at e;rw[e]) hxy
 refine ZI (A9k x y t u BA w _ _) _ _;rw[hne]
 show AyT
 rw[hi1,hi2];refine BT' x y
 wp_walk
 exact h
open A7d A7e in
theorem yfs(BU_):
  A'u Builtin.«list.__lt__» (fun A R s=>(A1v dd sl (BLw sl2) BL4)):=by
 intro BA w A R s h;show AU7;show A1U;have f3:=BdI
 show AyT
 exact⟨Ao3 BdJ,AnK entry_eq_loop (F8 (AKc BdJ) (ycs l b Lc ś n n2 dd dd2 sl sl2 x y t u h1 h2 hxy BA w A R _ ⟨hl,hb,h⟩))⟩
def Ng(h:AN)(v:AD)(x:Ξ):Ι:=∃a AH t,NI/\PlainL h a AH/\Ì AH ASc
theorem yeh(h1:Ng A7 v x)(h2:Ng A7 v' y)(hxy:x≠y)(hu:AeV)(h:Q (pA x y) s):NC (oneLt' Θ v v'):=by
 obtain⟨a,AH,t,Z,⟨o,n,e1,c1,d1,s1⟩,z1⟩:=h1;obtain⟨b,its2,u,Z,⟨o2,n2,e2,c2,d2,s2⟩,z2⟩:=h2;show ADJ cls UX ef az o cls2 acp data2 T6 o2;cases c1;cases d1;cases s1;cases c2;cases d2;cases s2;rw[oneLt'_eq];refine z5 wpAny_cRoomFor_or (O0 hu);show KS (z6 (wpAny_callSpecialIfBound?_slot (T:= FE) (Mc e1) BdK (Amu BdK (Mc e1) F.entry_list_lt (F.args_list_lt_2 _ _) (yfs a b AH its2 n n2 Ε Ε az T6 x y t u z1 z2 hxy) (E3 e1 e2)))) BYW
theorem Ng.up(q:Ng h v x)(k:AfQ se):Ng h' v x:=by
 show UK a AH t q;exact⟨a,AH,t,Ν,(A3).keeps k,CO⟩
theorem Ng.looks(q:Ng h v x):W.Looks M h (Amq v) (P3 FE):=by
 obtain⟨a,AH,t,Z,⟨o,n,e,c,_,_⟩,_⟩:=q;intro A Q E s k hQ;exact wpAny_typeOf_ref (k _ _ e) (F8 c hQ)
theorem ykd(hl:ø MR)(nd:AZW)(hu:AeV):
  BNs (AKy (∀i,iS ->Ng h (AFj AI7) Aun)) :=by
 refine A5j (fun s Q hT h2 hQ=>(BTG (G' FE))) hT hij
 ·show AVA k hk hv;have:=hT k A2
  show FI (Ai hk);exact this.looks
 ·unfold Anu;rw[BdC];refine yeh (hT i DF) (hT j DF) ?_ hu hC
  have C_:=Ane nd;rw[Ai DF,Ai DF]
  rcases ASv hij with q | q
  ·exact C_ i j DF DF q
  ·exact AWk i A2 A2
def gl(g:AA):D:= .A8 (g.map .Ψ)
def hdS(g:AA):Ξ:=g.headD D'
theorem ynr(I:AW)(sF:PZ)(r:sg (gl g) v)(ru:OR)(hg:g≠ []):Ng A7 u (hdS g):=by
 show T0 a r;cases ru;show C6 AH ALW;have rv:=Ν;cases g with
 | DU=>exact Iy Z hg
 | AU x g=>
  show IJ w us Z rs rs;cases rv with
  | AU r0 rr=>
   show Ϣ r0 ⟨a,_,t,Z,A3,DS hdS⟩
def z36:Q4:=AFt (∃gs:At',xs=AC' gl/\ (∀g∈gs,g≠ [])/\ (AC' hdS).ax/\BZe/\
   A3G At' gs (AbA (Ak_=Θ)) gl)
theorem ab2{γ:GG}{v:V}{u:AD}{Q:VK}{Μ:fB}(d0:γ){f:γ ->D}{T:AN ->Do AD γ}{lt:mw}{κ:Ant}{gs:D9 γ}(I:AW)(sF:PZ)(r0:sg (OB AC' f) v)(ru:OR)(h64:BZe)
  (up:∀h h' v g,T h v g ->(AfQ se) ->T h' v g) (tt:∀g∈gs,∀v u,sg (f g) v ->OR ->T A7 u g) (od:Ord lt APj)
  (sk:∀AH:An,ACl=APj ->IW EA X.w X.A.in1.in1 ej AH lt (AKy (∀i,Ady ->T h (AFj its.getD) BDJ)) κ)
  (k:∀l is ws,sq (Aou d0 gs f) ws ->BQ ATl ((Of d0 gs is).qf gs) AxS (∀i∈is,Ady) (AGo AgP)):
  AFK (AvT [u]):=by
 show T0 p r0;cases ru;show AQ AH z ALW;have hl:=Cl z.1;have hl2:=L_;show AaK hl2;have line:AMO:=De
 have hT:∀i,Ady ->T A7 (AFj its.getD) BDJ:=ib (by
  obtain⟨v,q⟩:=zm rs (i:=i) (d:=f gs[i]) (BY8 ie)
  show C6 u ((z.1).get DD);rw[YV,Ν,Ai hi];exact tt _ (zE hi) v u FL AI)
 have hup:∀x o,A_t ->HR ((s.heap.push (seqObj "list" #[] 0)).update s.heap.objs.size (Obj.mapSeq (· ++its.toArray))).LY o:=fun x o e=>by
  have Cc:=dQ;exact AJA (As9 (zM Cc)) aT
 show BV (zm4 (collect_list (vs:=AH) (æ z) ?_ DF)) ⟨lt,_,κ,B1 (AUL ACl APj) od,L7,sk AH DF,fun h2 k2 i hi=>up _ _ _ _ (hT i hi) (BQC hup),AlM hl'⟩
 have hsz:AT4:=zQ (AnW _) (zQ (AO4 (((Anv ..).Kk (size_push' ..)).i9)) hle);have hix:AHU Ady:=ib (AfE Ajp)
 have hrv:=zue z.1 (is:=is) (ib (AfE Aqq))
 have hrs:sq (Of BC (AC' f) is) (Of BC vs is):=zyx rs (ib (AsR Aqq))
 rw[zsc (d:=d0) hix] at hrs;have Fr:AGT (Of V.non vs is):=by
  unfold Of;rw[HL,BdL,BdM];simp_all
 have I2:AEM l BOy (AP2 LX):=
  AfN (fun b ob eb=>xK b ob (hup b ob eb)) hsz (fw _ _ _ BOy ⟨Fr,_,e,hrv,hl'⟩)
 exact PF PP I2 (k l is _ hrs (Ab' hsz) (zrv (F8 (AUL APj ACl) a1)) a2 hix)
theorem ynd(hu:AJf AYt):AQE XY (Iv AE z36):=by
 show ar;show BD z36;show EO
 ·show AJ6 r0 rs;obtain⟨gs,Z,hne,nd,h64,h⟩:=h;show Si;refine ab2 [] (T:=fun h v g=>Ng h v (hdS g)) (lt:=T5 (AC' hdS)) (κ:=oneType') I sF r0 rx h64 (AOT q k (q.up k)) (fun g hg v u r1 r2=>ynr I sF r1 r2 (hne g hg)) (by have:=z1q nd;rwa [HL] at At) (AFd AH hl) fun l is ws hrs hn pm od hix=>k _ _ l hrs hn (h _ pm ?_)
  ·have e:=Lu ykd BA EA w X.w A X.A.in1.in1 E ej (vs:=AH) (xs:=AC' hdS) (AsR hl) nd (BXQ (AYt+1))
   rw[HL] at e;refine⟨fun s Q hT=>e.kind s Q Aye,fun s i j C hT=>e.ask s i j C Aye⟩
   all_goals
    have q:=hT i hi;rw[PH (gs.getD i []) gs[i] (Ai hi)] at q;rw[show(AC' hdS).Pw i D'=hdS gs[i] by rw[Ai (B1 HL hi),A9j]]
    exact q
  ·have hp:=zw7 od;rw[zsc (d:= []) hix] at hp;exact BdE hp
 ·exact Cf
#print L3
namespace L3
open H_ Nl IR L2
open A7c (AYk)
theorem zt0(l:Η)(Lc:Hb)(n:Ζ)(b:Η)(ś:Hb)(n2:Ζ)(sl:va)(hc0:¬(LN (! Anx) (A7u (N1+items2.size))))(hc1:AsU)(hs2:N1+items2.size<=AsB):
  A'u Builtin.«list.extend» (Ac_ (A1v Ε #[] (AQh Ε (.seq ś n2) sl) (Ay9 eW (ŧ (Ő l (AO9 (QP (x++ś)))) LX)))):=
 AdK (by
  show AU7;show A1U;have f1:=AutoSeq1.idx_int;show Ll f2 AutoSeq1.sub_tuple_tuple f3 BdI f4 AutoSeq1.sub_tuple_list f5 AutoSeq1.sub_list_tuple;have hz' :(Lc++ś).qE<=AsB:=B1 Array.size_append hs2
  wp_walk using (A9b hl Z (hz:=hc1) (_hz' :=hz')),BWT,BWU;exact AcS)
theorem z7c:OwR X "list.extend" zrx:=by
 intro Μ s σ F H l vs Fc xs ds us P Q I hl sF rs ra rv h k;show BD zrx;show EO
 ·obtain⟨v,_,Z,⟨b,zs,Z,hq,rz⟩,Z⟩:=ra;show P8 u Z ru AIY rv;cases ru;show HA z AH n y (I.lstM hl);obtain⟨its2,r2,⟨o,n2,e2,c2,d2,s2⟩,hz2⟩:=ALW;show HA cls UX ef az o;cases c2;cases d2;cases s2;have acs:=r2.length;show AN1 L_ (lY rz);show GL hsz (D4 (p6+BdN)) (by rw[SD,SD];simp_all) Z9 (¬(LN (! its.toArray.isEmpty) (A7u (p6+BdN)))) (ss (yfo hsz) AnJ zL) (AEx BdO (Mc CO) PySem.F.entry_list_extend PySem.F.args_list_extend_2 (zt0 l Kj n b its2.toArray n2 az Z9 AhB A2) (E3 CO e2))
  refine PF BC (I.lset (bX :=AH++its2) hl CO BN ((Ν).Amv r2) ?_) (k _ _ (J3 rs rz) Au)
  show Arx
  simp_all
 ·exact Cf
def zxm:Q4:=si [r8 _] (P (yo j6))
theorem zks:∀{xs:AL} {us:An},A_T ->(∀(i:Ζ) (x:V) (u:AD),ZZ ->D7 us u ->ub) ->cz
 | [],[],_,_=> C7
 | [],EH,h,_=>EQ
 | EH,[],h,_=>EQ
 | Sn,u::us,h,k=> .AU (k 0 x u Z Z) (zks Ad6 fun i y w e1 e2=>k IM y w (DA e1) (DA e2))
theorem T7:∀{Υ:tJ} {ws:AbC} {i:Ζ} {p:κ×AD},A1H ->AKw p ->∃v,D7 Υ (AK,v)/\HK v BS
 | _,_,_,_,C7,e=>AMu
 | _,_,0,p,.AU (a:=q) h _,e=>by
  simp at e;subst e;show A0e;exact⟨FL,by rw[<- h1];rfl,h2⟩
 | _,_,i+1,p,.AU _ r,e=>by
  show C6 v (uv T7 r AL3)
  exact⟨v,C9 Ν,AI⟩
theorem Wh:∀{ks:nK} {vs:AL} {i:Ζ} {k:κ} {v:V},D7 AwZ (k,v) ->D7 ks k/\AMn:=fun{ks vs i k v} e=>by
 rw[List.getElem?_zip_eq_some] at e;exact e
theorem yjk(io):Au7 (Iv AE zxm):=by
 show ar;show BD zxm;show EO
 ·rename_i ks ds';obtain⟨v,_,Z,⟨a,vs,Z,hq,hkl,rs⟩,Z⟩:=rs;show Si;cases rx;obtain⟨hz,hsm,ws,kv,hd⟩:=Ny IB (sF _ _ hq);show HA ob es ep hd (id hd);have hm:A_8:=⟨ob,es,hd⟩;have Wi:Ayk=y0:=y4;have hlk:P1=y0:=by rw[<- Wi,APk,<- hkl,AC_]
  rw[Wi] at hz;refine W.kdl_call (A5R W.kdl_dict hsm) W1 hm hz fun h' tk Ap c TU hg hac=> ?_;have hv:E6 (yo kV) Anm:=by
   refine A4m (by show AGH jv;exact hlk.trans (hac.1).i9)
   show O_ k w (hac.2 i u (c_ APc e2))
   obtain⟨v5,e5,_⟩:=T7 kv Ν;have e5:=(Wh e5).1;rw[M_,e5] at e1;cases e1;rcases G8 AI with ⟨j,t,Z,Z⟩ | ⟨x,t,Z,Z⟩
   ·exact mm
   ·exact mm
  have I2:ASS B2 BDe:=
   Ax1 BDe (BLb (by show ALc;simp_all))
  exact AAQ I2 (k _ _ _ (Y0 ks) AFs h)
 ·exact Cf
#print L3
namespace L3
open H_ Nl IR L2
theorem z1a(I:AW)(e:AGi)(ho:Aql):AEM a sf s:=by
 have ne:ç wP (Aky) gS:=Ah2 z (by rw[z,e] at q;cases q;exact n _ Z)
 refine I.un (h' :=A7) (t' :=LX) ⟨fun _ _ q _ _ _=>q,BHk,LJ b ob q n _,A1M ⟨ob,q⟩,ADj xs,BK5,OL ps (E9 #[])⟩ md
 ·show ARq (by rw[z,e] at n;cases n) n
 ·rw[dj (ne b _ q AFT)];exact q
 ·rw[dj (ne b _ q AFT)];exact q
 ·rw[dj (ne b _ q AFT)];simpa using q
 ·by_cases hb:b=a
  ·subst hb;rw[j4] at q;cases q;refine E9 ho;exact(AKF b SG b e)
  ·rw[ð] at q;exact AR7 (IB b u q).stay Abz z BRy z BRy
def Itw(BRr):It:=BMj (H' =H/\∃k,D7 Υ (k,x))
theorem zru(I:AW)(e:Apt)(T8:BXs):∃ws,A1H/\A_8:=by
 obtain⟨ho,_,_,ws,kv,o',es,ep',y⟩:=(AKF a sf a e);have h1:=Ν;rw[ho] at h1;cases h1;show AQ es' h5 T8;show ABP ED h5 h5 ⟨ws,kv,o,es,ho,A3,ED,NO⟩
theorem ya3(AR8)(BT7):ANu (Itw a o Υ) (h.IsValIter it a i xp ep) where
 mem:=FA
 DJ:=ABn (by
  show AWK
  obtain⟨o,e,c,d⟩:=st;exact ABs e d)
 IA:=Aje
 Pt:=by
  show US;show OS;show AAf hq hx;show AOa
  obtain⟨ws,kv,hd⟩:=AkZ;have hl:=y4;show AkH;obtain⟨⟨k,u⟩,hw⟩:∃p,AKw p:=BCk
  obtain⟨v,hv,rv⟩:=T7 kv hw;refine wpAny_pyNext_values_item st hd hw (tS fF sb);have I1:AGS:=A5M;obtain⟨o',e,c,d⟩:=Aeq;exact⟨u,Z,Qz (s:=PD) e c d BF ⟨v,H,I1,rv,⟨Z,k,hv⟩,B1 hl fF,vz hf⟩⟩
 MQ:=by
  show US;show OS;show AAf hq hx;show AOa
  obtain⟨ws,kv,hd⟩:=AkZ;have hl:=y4;show AkH;exact wpAny_pyNext_values_end W1 st hd (AY2 hx) A5H
 TL:=Acz wpAny_pyIter_valiter
def aac(te:TE):TI:=Azi (Azh (GS H1 SG) (AQm ->∀o,R (Itw a o Υ) Axy))
theorem z7l(he:eJ)(Apa)(ALS):
  vF Aa_ (aac te):=by
 show Eg R;refine AkK A'n;obtain⟨x,H1,I1,r1,a,Υ,ex,ea,q⟩:=Ch;subst ex;show AxJ;obtain g:=Ax5 (.AV ea);refine BSm;show BUj BAz;have I2:=BNP;show GL vw BJQ hG I3 (N9 Axy (ADM s1 (BXZ BdQ) AIb)) (I2.kept sP) (wpAny_pyIter_values vw AsO ?_);refine⟨_,[Ae_ Aq7],_,_,_,Z,I3.kept (t' :=AIb) sP,BRW ya3,?_,IO,q hz o⟩
 ·rw[Cl AK];exact hG
 ·show E7 (b=Ae_ Aq7) cK
  exact I3.fpOk (zP _) (I3.hok.fresh (zP _))
section
variable{K:Φ}{F0 H0 F H:Hp}{σ:St}{Γ:Ć}
theorem SR.chg(R:FB)(h2:AGq)(h3:vE)(ap:ABR):fT F ASa:=by
 refine⟨⟨R.gr.f,md,md,re q (R.gr.n b o q n)⟩,ŕ,A0 j s' q,R.ap⟩
 ·rw[AJh h2];exact R.g b u q
 ·rw[AJh h3];exact AqZ
 ·show AFG o (YU j s' q) ⟨o,Ν,Nz AI Gc (ϝ (Fq AI hb) (DC u q'))⟩;show ArX gS (ap j AyH) q'
#where
theorem ydi(BUg):AU5 (Itw a o (OZ vs)) xs:=by
 have hl:=L_;have hlz:Ayk=MR:=by rw[APk,hkl,AC_]
 refine⟨L7,ASu BFj⟩
 show AQ v w AhD;have hi:AL0:=dr BE;refine AVW Arn
 obtain⟨Z,k,z⟩:=z;have:=(Wh z).2;show FI BE;show ZO;exact Ajy ((D5).up s2)
def zw2(tn:pP):dH:=Ain (bq t ABQ (P (uG ts) Ω))
section
variable{X:Cx}{F0 H0:Hp}{e tg:AG}{Ic G1:AR}{tn:pP}
open yv in
theorem ycc(he:AFz)(Apa)(ALS):
  AM7 Aa_ (zw2 tn):=BL2 z7l (Apd (ARD (fun t Ω F1 H1 v as R1 s1 nd hn r h1=>by
  split at h1
  ·rename_i ks ts;show AHu;refine gv a ea (DC hz o);have nab:a∉bs:=ABg;have sF:sK (sw (z_ b a AgQ Aht)):=QU (by
    show sh (b=a) AgQ Aht;rw[BGa,BO3 hb]
    exact e)
   have R2:=BUa R1.chg (.frz o Ç)
   ·refine k _ Ω _ _ _ R2 AqT (ydi ?_ hkl (AIp sF ts vs bs (NH c hc u hu) r) hz) h1
    ·show wT
    ·rw[OH (show¬c=a from AGd nab hc),Fs hc];exact hu
   ·show ABc (b=a) AgQ Aht;by_cases hb:b=a
    ·subst hb;rw[My] at e';rw[j4];exact e'
    ·show BMo e' (HP b u e')
   ·show ABc (b=a) AgQ Aht;by_cases hb:b=a
    ·show Mo hb (hn b zY).2
    ·rw[ARK] at e';split at e'
     ·show AAa hm (hn b (zX _ hm)).2
     ·rw[n] at e';cases e'
  ·exact C5)))
#where
theorem I8{K:Φ}{F:Hp}{k:Key}{v:V}(h:rb (j6 k) v):v=kV k:=by
 cases k with
 | AV i=>exact h
 | CB x=>exact h
theorem z2g(h:Z')(k:Key):Aaj jx AwZ=AG':=by
 unfold jx qW;rw[APF];induction ks generalizing vs with
 | DU=>rfl
 | AU k' ks ih=>
  cases vs with
  | DU=>cases h
  | AU v vs=>
   rw[kF,AYr,AIk];by_cases q:k' =k
   ·simp [q]
   ·simp only [q,Anz,Amw];exact AKK ih
theorem ykh{ks:DI}{vs:AL}{k:Key}{v:V}{q:Ζ}(nd:A9m)(h1:Iq ks q k)(h2:Iq vs q v):gi AkB:=by
 unfold jx;induction ks generalizing vs q with
 | DU=>simp at h1
 | AU k' ks ih=>
  cases vs with
  | DU=>simp at h2
  | AU u vs=>
   show Avz;cases q with
   | e_=>
    have e1:k' =k:=C9 h1
    have e2:u=v:=C9 h2
    simp [e1,e2]
   | fA q=>
    have hm:Af5:=zF (DA h1)
    have ne:k' ≠k:=AGd ABg hm;simp only [ne,Anz];exact ih AVS AcG AcH
def T9(i:Ζ)(tk:bO):TT2:=Ť tk kd (∃k as ks ts,kd=j6 k/\AxC/\E_ (! AG'))
def Ua(i j:Ζ)(tn:pP):aC:=sQ tn t (∃k as ks ts,Axx/\AxC/\EE AG'/\ABG/\∀cs,AUz (g9 (as++cs) (ks++ [k]) Acu))
def Ub(i j l:Ζ)(tv:bO):aC:=AgC (∃k k2 as ks ts q I9 xs,Axx/\BHM/\AxC/\A9m/\Iq ks q k/\
 Iq ts q (AEl I9 JY)/\BZS/\AUz (g9 as ks BBy))
section
variable{X:Cx}{F0 H0:Hp}{ke FF:AG}{AB kK Dm Ry IU kN:AR}{x y w:Ξ}{i j l:Ζ}{tk tv:bO}{tn:pP}
theorem ykr(hu:UC)(hk:Ayc)(hN:Hk)(hv:NN)(XE)
  (hb:AJ4 mI F7:=by show AJN):
  aa (AJ' ke mI [BZn]) (T9 i tk):=fun z E cx=>
 NQ (AeA (DH zz8 hu Adx Sj) hb) (Hm Ch Ch (AJE kd v rk DL (by
  obtain⟨kk,as,ks,ts,y⟩:=DL;have e1:=Ν;subst e1;have ev:=I8 rk;subst ev;obtain⟨o,e3,w,Z,nd,hn,r⟩:=å A3;show AHu;refine⟨D8,e3,a,_,Z,BOl,_,Z,?_⟩;rw[z2g hkl];exact Aph CO)))
theorem ylb(hu:UC)(hN:Hk)(hv:NN)(Uc:Ahm)(hv2:AVI)(fI:Azq)(hs:AM' F7 Ach:=by rfl)
  (XE) (hd2:VU y ń:=by decide) (FQ:VU y AOw:=by decide):
  AKM (wt F7 Ach) (Ua i j tn):=fun z E cx=>
 uH (ANI YK Sj AlE fI hs) (AQs Dd Dd (VT (fun t Ω F1 H1 v cs R1 s1 Ud hnc rt wY=>by
  obtain⟨kk,as,ks,ts,e1,e2,hh,hl,q⟩:=wY;obtain⟨o,e3,w,Z,nd,hn,r⟩:=å e2;show nE o2 e4 w2 rk (ACw j _ e1);have ev:=I8 rk;subst ev;show AHu;refine⟨D8,e3,kV kk,e4,a,_,Z,AkR kk ea hkl hl,?_⟩
  have C4:ATN A2s:=EB ⟨_,_,e2,e3,hb⟩;have dis:ATN (b∉cs):=A4j;have nab:a∉bs:=ABg;rw[zwj hkl];unfold oh lG;rw[Aeo hh,Aeo hh]
  refine db (R1.wrT e2 e3 (ë (Ś OC (.eN ks ts)) a zY) (t:= .tr (ύ++cs) (.eN (ks++ [kk]) Acu)) (ABZ ?_ IO) IO) (q cs)
  ·exact A9n ⟨nd,Ud,fun x hx y hy e=>BK9⟩
  ·show ASe AeZ A1P
  ·refine⟨a,vs++ [v],bs++cs,Z,Z,j4,DS hkl,?_⟩
   have m:=AhN BK1 Gc ts vs bs (Ack (AGd nab hb)) r
   have l:=Ape AIo BK1 Gc t v cs BI5 rt
   exact BOi
  ·show ASe Aac Asn)))
theorem ylk(hu:UC)(hN:Hk)(hv:NN)(Uc:Ahm)(hv2:AVI)(hN3:BHL)(hv3:ApD w)(fI:Aib)
  (hs:AM' BHs (VO w Ry):=by rfl)
  (XE) (Ax0)
  (BM6) (hns:Ie Ach:=by exact rS Z):
  AKM (wt BHs (VO w Ry)) (Ub i j l tv):=fun z E cx=>
 uH (ANI YK (DH yaw hu Sj AlE hns) BRe fI hs) (AN_ wZ wZ Zc (by
  obtain⟨kk,k2,as,ks,ts,q,I9,xs,g⟩:=Zc;obtain⟨o,e3,w,Z,nd,hn,r⟩:=å iX;show nE o2 e4 w2 rk (ACw j _ CC);show nE o3 e5 w3 rk2 (ACw l _ NU);have ev:=I8 rk;subst ev;have ev:=I8 rk2;subst ev;show AHu;obtain⟨u,b1,bs',b2,hu',hbs,rc,VI⟩:=ygj r iP.2.1;subst hbs;show bz c us ds Z ec Ug rc rc;show AQ Z rs (Z6 rc);have nab:a∉AEm [c]:=ABg;have nd2:=AVS;have hac:a≠c:=DB (AQ7 nab)
  have hc1:HE (b1++b2) (b≠c):=fun b hb z=>by
   subst z;show BXS nd2;rcases ph hb with hb | hb
   ·exact BXh
   ·have:=AoV NS;exact At hb
  have gd:tE H1 a (kV kk) (AJG c):=Aci BOl (ykh wE Ė hu')
  refine⟨D8,e3,kV kk,e4,a,vn,Z,gd,kV k2,e5,c,_,Z,AkR k2 ec Ug (Db iP),?_⟩
  rw[zwj Ug];refine db (R1.wrT iX e3 (ë (Ś BDM (.eN ks ts)) c Azn) (t:= .tr BDM (.eN ks BBy)) (ABZ nd hn) AL4) (KL iP)
  refine⟨a,vs,AEm [c],Z,Z,AFr hac ea,hkl,?_⟩
  show KS (VI Gc (AaU (dj (hc1 b hb))) ?_) (ASg c _ (z1z Ug) (T4 (zt6 rs rd)))))
#where
abbrev uz:=T ->AJ ->Do (ü) (ý)
def gD(as:BH)(H:Hp):Hp:=vb (Ab9 mr (H b))
theorem ybw:Kt (gD as H) H:=QU (by
 show NR gD;split at e
 ·cases e
 ·exact e)
theorem zwv(h:mr):gD as H b=Ε:=AGO gD (M1 h)
theorem Nh(h:b∉as):gD as H b=H b:=AGO gD AsC
theorem TR.root(A2l):∀{t:T} {v:V} {a:Η} {cs:BH},Aj3 Oy ->NI
 | Adr,_,_,_,h=>AJr AS
 | dq,_,_,_,h=>A4g
 | ic,_,_,_,h=>A4g
 | n_,_,_,_,h=>A4g
 | .ob _ _ _,_,_,_,h=>by obtain⟨b,_,_,_,Z,e,_⟩:=h;show OO;rfl
 | nX,_,_,_,h=>AJr AS
inductive Kv (A5m uz):Ι
 | mk:∀F a bs t ds Nn P Ex,(vs=V.ref a::Nn) ->BQ AR2 (Auc) ((HE ύ sB)) (TR K F H t EX OC) (JJ A_h (sp t ds P Ex) ((∀t' d v cs F' H',AwP ->Aud ->BQ BFS Axq h_ (P t' d) ſ)) (∀x C dx t' cs F' H',AwP ->Aud ->BQ BFS Axq (ŷ (wj K F' AFQ H')) (Ex t' x) AVa) (ALP Kv))
def lH(K:Φ)(sp:uz):Sp:=fun vs H Q E=>(ALP Kv)
def Ŝ(n:Ζ)(s:OY)(ds:AJ):G2:=BOB n
theorem z7h{K:Φ}{F0 H:Hp}{N:AA}{a:Η}{bs:BH}{t:T}{ds:AJ}{vs:AL}(h:č F0)(nd:Auc)(hn:ATN (P4 F0))(rt:TR K F0 H t EX OC)(r:BKT):
  SR K F0 AFQ F0 H (AIw N AvD) Au':=by
 have hl:=lY r;have M3:∀(i:Ζ) s,D7 Au' s ->∃o,D7 (AIw N (V.ref a::vs)) o/\rE K F0 H AFQ s o/\ (i≠0 ->∀o c,¬gR s o c):=fun i s e=>by
  show NR Ŝ;unfold AIw;cases i with
  | e_=>cases e;exact⟨_,Z,⟨_,Z,nd,EB ⟨AeZ,zwv hb⟩,rt⟩,DB (AML z)⟩
  | fA i=>
   simp only [A9o] at e;simp only [IZ,Ano,A9o];by_cases hi:AGZ
   ·show ARQ ACk M_
    cases q:ds[i]? with
    | Ε=>show IP;cases e
    | Β d=>
     show IP;cases e;show AQ v g (zm r q);show BNY ⟨Adh,?_,AAz g.2,Abz⟩ CC
   ·show BQ2 ⟨Ε,?_,N2,Abz⟩ (by simp only [HL,IY];omega)
 refine⟨AEy h ybw,by simp [AIw,Ŝ,hl];omega,P6 i s,fun i j c ⟨s,o,e,_,hs⟩ ⟨s',o',e',_,hs'⟩=> ?_⟩
 ·show DO o p (M3 i s e) ⟨o,AK,NS⟩
 ·by_cases hi:i=0
  ·by_cases hj:j=0
   ·rw[hi,hj]
   ·obtain⟨_,w⟩:=M3 j s' e';exact(Kb hj _ _ hs').SB
  ·obtain⟨_,y⟩:=M3 i s e;exact(CO hi _ _ hs).SB
section
variable{K:Φ}{F0 H0 F H F' H' :Hp}{σ:St}{Γ:Ć}
theorem SR.hid{i:Ζ}{a:Η}{bs:BH}{t:T}(R:FB)(e:ANC OC):AgM AFQ/\AG8:=by
 obtain⟨o,e1,v,Z,Ot,hn0,Wj⟩:=AHA;have hv:=Wj.root;subst hv;have R0:=AY3 e1;refine⟨A4n md,e1⟩
 ·rw[Nh (ASO (ADo hn0))];exact AuJ
 ·rw[Nh (ASO (AKP hn0))];exact AqZ
 ·show AFG o Axz ⟨o,Ν,Nz AI Gc (ϝ (Fq AI hb) (DC u q'))⟩;rw[Nh (ALa (ACo e e1 (ë (Ś OC t) b hm) j AyH))];exact q'
theorem SR.back{i:Ζ}{a:Η}{bs cs:BH}{t t' :T}(R:FB)(e:ANC OC)(gr:AwP)(nd:Aud)(hn:HE (a::cs) (Arf OC))(rt:Axq):
  AoL Auu:=by
 have R1:=R.hid e;have R2:=BTD (R1.1).grow Oy ⟨_,Z,nd,ϝ cc ((R1.1).gr.h.free ā),rt⟩ (EB ((R1.1).apart ā));rw[QL R1.2,Am4] at R2;exact R2
#where
structure Uh (AHs) (mg:DT) (B9:AN) (x:Ξ) (k:Ζ) (ps:AA) (sp:uz):Ι where
 ex:A1a lH
structure Dp (A4b uz):Ι where
 ex:A4u lH
abbrev uQ(a:Η)(Q:ü):pY:={nx:=fun Γ=>(A2a (Q t' BC)),rt:=ky,rm:=fun d Γ=>(A2a (Q t' d))}
abbrev uR(a:Η)(Ex:ý):XW:=fun Γ C=>(A2a (Ex t' C))
section
variable{P:A6}{w:AZ}{K:Φ}{mg:DT}{B9:AN}
theorem FT{x D_ p0:Ξ}{st:AM}{f:Η}{fd:ET}{N ps:AA}{k:Ζ}{sp:uz}(Fn:AX x D_ st)(S:Da N (p0::ps) st)(len:∀t ds Q E,sp t ds Q E ->Ao1)
  (pz:AWw (∀F0 H0:Hp,
   ∃tt,sX wy F0 H0 Ó tt/\∀a bs t ds Q Ex,sp t ds Q Ex ->tt (uQ a Q) Au' Aom)):
  ų OQ (p0::ps) (lH K sp):=by
 show AHw p APN;refine AWv AK BS (fun vs H Q E hh=>by
  obtain⟨F,a,bs,t,ds,Nn,P',Ex,ev,_,_,_,_,rs,hs,_⟩:=hh;rw[ev,IY,IY,<- L_,lS len hs]) hh
 obtain⟨F0,a,bs,t,ds,Nn,Pd,Ex,ev,sF,nd,hn,rt,rs,hsp,hQ,hE⟩:=hh;subst ev;show AQ tt y (pz cdv A CF s H E hr F0 AFQ);have cx:Ctx ((wy).wsh (HG (wy).xe)) F0 AFQ Aom:=by
  show BV ⟨fun Μ σ Γ F H1 s1 e s' I R hx=> ?_,A'p⟩ BU4;obtain⟨A4,F',x,R',_,xr,_,⟨cs,t',e0,z1⟩⟩:=z;obtain⟨o,e1,v,Z,nd',hn',EY⟩:=A1_;have hv:=EY.root;show Mo hv (hE x C dx t' cs F' H' R'.gr nd' hn' EY xr z1)
 refine⟨_,Ν _ _ cx,F0,Ŝ AIf AoY ds,uQ a Pd,z7h sF nd hn rt rs,AI a bs t ds Pd Ex hsp,⟨fun Γ F' H' σ R' _ BMZ=> ?_,AKB,AKB,BW0 Ř,ϖ,fun _ _ _ _ _ _ _ _ _ q=>Ř,fun d v Γ F' H' σ R' rv BMZ=> ?_⟩⟩
 ·obtain⟨o,e1,v,Z,nd',hn',EY⟩:=A1_;have hv:=EY.root;show Mo hv (hQ t' BC BC cs F' H' R'.gr nd' hn' EY II q)
 ·obtain⟨o,e1,u,Z,nd',hn',EY⟩:=A1_;have hv:=EY.root;show Mo hv (hQ t' d v cs F' H' R'.gr nd' hn' EY rv q)
#where
def Bc(UQ):aC:=ANJ (D.rm d Ω)
def BX(C:Η)(m:Ξ)(i:Ζ)(sp:uz)(t:dH):bO:=Agv ((∃as fs ts,AUc/\AQR)/\Aj_ A1f)
def kj(i:Ζ)(sp:uz)(t:dH):bO:=Agv ((∃a bs tt,Abw Γ)/\Aj_ A1f)
section
variable{X:Cx}{F0 H0:Hp}{e:AG}{es:CY}{AB p Ic:AR}{x m:Ξ}{C f:Η}{fd:ET}{ps:AA}{k i:Ζ}{sp:uz}{te:bO}{t:dH}
theorem zw8(he:M0):A0n (Bc te):=fun z E cx=>by
 refine uH (Ao0 D (z8y (te:=ADv (Ig AE F0 H0 te E σ H Q)) LP Μ s σ H D I q)) (ag Ch Ch (Qb (Ee k.rm _ _ R1 r1 h1)))
theorem Rz(BUq){Γ:G2}{us:An}{vs:AL}{ds:AJ}{a:Η}{bs:BH}{tt:T}{P:ATr}{Q:VK}(Fn:AdL (lH AE sp))(hr:UB)(hb:AGD)(cx:AP9)
  (I:ANp) (R:Ī) (r:AFy) (rs:Acv) (e0:Abw Γ) (h:sp tt ds (fun t' d=>(AKf Auu)) (AKt Auu))
  (hQ:A0u):
  Ark (kA ï (D8::us)):=by
 show AyI;have hv:=rt.root;subst hv;have hs:lH AE sp AvD H Q A4':=
  ⟨F,a,bs,tt,ds,vs,_,_,Z,R.g,nd,EB cc.1,rt,rs,h,fun t' d v cs F' H' gr nd' hn' EY rv hp=>hQ d _ F' H' v (R.back e0 gr nd' hn' EY) KA rv (hp cs),fun x C dx t' cs F' H' gr nd' hn' EY xr hE=>⟨_,F',APK,R.back e0 gr nd' hn' EY,KA,(AZL ((R.hid e0).1).gr.h).JS,BYm,hE cs⟩⟩
 have hl:AGY (ATf::us)=YO:=by
  rw[yY];have:=ANM;rw[IY,<- ek,<- IY (a:=V.ref a),At]
 have hbs:=hb s (D8::us) VA hl;show ģ;refine AOI (A3q (HG (D8::us)) (D8::us) AvD) AnF (BXg EX a) hs;cases r with
 | YN e=>exact AyK hq
 | ok fl=>
  cases fl with
  | DM u=>exact AnG hq
  | MG=>show RE
  | brk=>show RE
  | No=>show RE
theorem z4f{np:AR}{pl:AMY}(G:AVc Dp)(hc:UI)(hr:UB)(hN:Hk)(hv:NN)(ha:RA)
  (XE)
  (AOS)
  (ht:EW (Ae9 Û)=(do
   let ov<- EW Û
   ABa
   let (f,first)<- AB' pl
   ACJ FH):=by rfl):
  Dx (Ae9 Û) (BX C m i sp t):=by
 show O_ fa fd bd;rintro z E cx Μ s σ H Q I ⟨F,Γ,P,R,⟨⟨as,fs,ts,e0,hmf⟩,h⟩,kk⟩;show AyI;obtain⟨a,dx,vs,bs,Z,Z,ea,_,Fb,_,_⟩:=rt;refine AOX (Y' uD i i hN hv hd hcd Μ s σ H (fq H1 (NI/\H1=H)) I (AoE e1)) Bx;obtain⟨x,H1,I1,rx,ex,eH⟩:=Bx;subst ex eH;show uA;refine VB I1 ea hc A3 (TJ hmf) ?_;refine AyL (A3).kp (Aa6 s1 H1 H2 (∃F2 A_ es,A1O/\bj F2/\Axf/\∃a bs tt,Abw A_/\sp tt es (fun t' d=>(AKf BaB)) (AKt BaB)) I1 (VT (Axg BTg)) BHK)
 obtain⟨ws,H2,I2,r,F2,A_,es,R2,Rq,Hq,a',bs',tt,e2,q2⟩:=Bx;refine AtP;have ha' :a' =a:=by
  obtain⟨o,e3,v,Z,_,_,rt⟩:=AxM;rw[e1] at e3;show BIn
 show Mo ha' (Rz Ν hr CO cx I2 R2 r Hq e2 q2 BJe)
#where
def tL(h:AN)(d:Η)(es:ATP)(ep:Ζ):Ι:=∃o,AAs d/\A6f/\Avb
theorem tL.at(x:Af9)(k:∀o,AAs d ->ϔ d):AaJ h':=let ⟨o,e,r⟩:=x;⟨o,k o e,r⟩
theorem tL.lt(x:Af9):d<ay:=let ⟨_,e,_⟩:=x;dQ
theorem tL.typeIs{s:AC}{d:Η}{es:ATP}{ep:Ζ}(x:AUe):AK' d i6 :=let ⟨o,e,c,_⟩:=x;⟨o,e,c.1⟩
section
variable{BA:A6}{w:AZ}{A:B6}{E:fu}{s:AC}{d it:Η}{es:ATP}{ep i:Ζ}
theorem ydd{Q:fu}(hd:AQQ d)(hm:AUe)
  (hQ:AUy (ZT A9p #[.AT d,AAR,.AF E1 0,.AF ep 0])):AfX d:=by
 show C6 o (id hm);have hT:=A9q;refine A1g BdR BdR PySem.F.entry_dict_iter PySem.F.args_dict_iter_1;unfold Builtin.«dict.__iter__»;refine PR;show BV (z5 wpAny_notOrdered_dict hT) AFn;show ip (BdS d>>=_);unfold BdS;rw[OH (ApJ hd)]
 refine ę;refine AwM;refine AwN;refine z6 (yl (z7 ⟨_,Z,A9p,_,ARs,PySem.F.slot_dict_keyiterator_next.lookup,?_⟩))
 simpa [N0] using hQ
theorem ye0(hit:BHv)(hm:AUe)(Cc:ApK)
  (hQ:∀h',Arb h'.IsKeyIter IM ->A'N ->Q (Β es[i].C_) PD):ABN it:=by
 obtain⟨o,v⟩:=we;show AFG od (id hm) (ATO APl An0 (Au5 An0 BdT BdU))
 refine ę;show BV PR PR;show BV Ajv (ZI A9R EN Sk);have hown:BDn:=De
 show ip (ALG (Ao2 AqQ));rw[BDq];refine ę;refine AwM;show AGj
 refine ę;refine AwN;show AGj
 refine AFn;show BSX BZ8;show BV Ajv (z5 wpAny_isOneOf_keyiter APl);show ip (A4H Aa7>>=_);refine BNf
 have fF :Arb (s.heap.update it (Obj.mapFields (·.setIfInBounds 1 (rawInt ((i:Int)+1))))).IsKeyIter IM:=
  BWr EN Sk nL (Azo Sk)
 refine ft x_;show KS (z6 (wpAny_isOneOf_keyiter (s:={s with heap:=s.heap.update it (Obj.mapFields (·.setIfInBounds 1 (rawInt ((i:Int)+1))))}) hit'.typeIs ?_)) (z7 (z7 (WC (BBM fF))))
theorem yjj(hh:Sm)(hit:BHv)(hm:AUe)(hge:E1<=i)
  (hQ:AUs Aw4):ABN it:=by
 obtain⟨o,v⟩:=we;show AFG od (id hm) (ATO APl An0 (Au5 An0 BdT BdU))
 refine ę;show BV PR PR;show BV Ajv (ZI A9R EN Sk);have hown:BDn:=De
 show ip (ALG (Ao2 AqQ));rw[BDq];refine ę;refine AwM;show AGj
 refine ę;refine AwN;show AGj
 refine AFn;show BSX (AZS hge);refine Ajv;show ip (APJ Aa7 0 CI>>=_);refine BNf
 refine PR;show BV Ahu Akz
 show BIO;rw[show AeI from hh];refine AEk z7 AZI;show KS (Ayw ARs) (z7 (hQ _ BJL))
theorem ybh(hh:Sm)(I d:Η)(hne:d≠I)(es:ATP)(ep:Ζ):
  Walks BA w A I [I,d] [I] E1 Arm (AEX (h.IsKeyIter I d i E1 ep/\Af9)) where
 sub:=BKV
 frame:=sL st hk ⟨BQI,(di).at (ARh hk d)⟩
 Pt:=BTR (ye0 st.1 di hi fun h' fF hs' =>hQ _ h' LX (VV hi) ⟨fF,(di).at (f' (hs'.extBut d o hne e))⟩ (BD_ hs'.extBut))
 MQ:=fun s Q E st hQ=>yjj hh st.1 di JI fun h' he' =>hQ h' LX (BD_ he')
 TL:=AOT st hQ (wpAny_pyIter_keyiter st.1 hQ)
theorem zty{Q:QQ An}(hh:Sm)(hsm:AQQ d)(hm:AUe)(hb:AsW)
  (h:∀(HM:An) (h' :AN) tk,HM=Ang (·.key) ->BCX ->(Ah6) ->Q HM sr):
  AJY Anl d:=by
 show GL K (W.KdlSrc BA w i6 d d E1 Arm (AKy Af9)) {
  type:=MY hm A9q
  ļ:=MY hm ⟨hm.lt,hm.lt⟩
  IA:=fun _ _ hm hk=>hm.at (f' (hk d sA o e))
  notList:=De
  notTuple:=De
  hint:=AOT hm hq (W.kdl_hint_dict A9q hq)
  Nw:=fun _ _ hh hm=>⟨_,_,(fun _ _ hq=>ydd hsm hm hq),ybh hh _ d (zM hm.lt) es ep,⟨hG,BG9⟩⟩} C_ (AIZ (Ń BA w) A (.İ "proto.collect" (HG (Á d))) (gz r BUn) s) (by
  refine AKY Bcp;show A_l;refine BLL;refine BGx;rw[AKc A9a];have hm1:AaJ (Ŋ mj):=BG9;have hSl:=hm.lt;have hS:AEq (AFu mj) mj:=P9;exact W.kdl_extend (s:=AQ5 mj) (R:=fun r s' =>BUn) K hh hm1 B2 (ALj hSl) (ALj hSl) ϻ 0 hS (fun h' tk Ap c' TU hS' hacc=>⟨h',tk,Ap,c',Z,Z,TU,hS',hacc⟩) hb) (BKH (ACm C_ (A0 r s' Ch)));obtain⟨h',tk,Ap,c',y⟩:=Ch;have er:=Ν;have es' :=A3;subst er es';refine BGd Q1;show BV AG1 (h Anm h' tk ?_ (zK Q1) (AJD ob (ED b ob AhO aT)));show AdR
 ·show AhW jv;exact AEg
 ·intro j q1 q2;have hj:j<AZT:=C9 q1
  show Ϛ Cc (AEi j Ap[j] (HU hj))
  simp [e]
#where
def Bd(K:Φ)(H:Hp)(y:V)(k:DI):Ι:=Ac1 y (ur K H b (APE kV))
section
variable{X:Cx}{Μ:fB}{σ:St}{H:Hp}{s:AC}{a:Η}{y v:V}{u r:AD}{A:B6}{E:fu}{Υ:dA}{k:DI}
theorem z3k(I:AW)(h:A2b)(ry:PU):Ac1 u ((AOn AJ3).is A7 k b):=by
 show L6 b hq h;show AOG;obtain⟨AH,rv,⟨o,h1,h2,n,h3⟩,_⟩:=ATc;exact⟨b,Z,o,Kj,n,h1,h2,h3,C9 (zuh rv)⟩
theorem yk6(hu:AGv)(I:AW)(e:AUC)(hk:A2b)(l:gi (jx Υ k))(ry:PU)(h:A1l (HK v w')):
  BLQ:=by
 show L6 b hb (z3k I hk ry);obtain⟨z,hd,xs,t⟩:=WJ M5;show AQ w' g (Ako BMU (Q_ l ((FK).val k)))
 show PQ p q (ő CC) (BGb hb t.2);rw[FL];exact h w' _ ό g.2
theorem yno(neg:AO)(hu:AGv)(I:AW)(e:AUC)(hk:A2b)(ry:PU)(h:A0M (Þ AVF AVF)):
  A4R AzJ:=by
 show L6 b hb (z3k I hk ry);show AiA;have q:=Av8;rw[APF] at q;cases neg with
 | Θ=>
  show BJ9 Bbj
 | Τ=>
  show BJ9 Bbh
#where
def Ui(K:Φ)(td ty:TE):TE:=ž td (l_ ty y (∃a Υ k v,g6/\Rd H2 a Ž/\Bd K H2 y k/\gi (jx Υ k)/\Aaw))
def aad(K:Φ)(neg:AO)(ty td:TE):TE:=BXr (∃a Υ k,g6/\Rd H2 a Ž/\Bd K H2 y k/\Q (.bl (Þ AVF AVF)) H2)
section
variable{X:Cx}{o i e:AG}{AB Ic G1:AR}{td ty:TE}
theorem yeu(BUU):PE X (Í o i) (Ui AE td ty):=by
 show Eg Q;refine yb6 A7x hs A_5;show AS4 x rx BIk;obtain⟨y,H2,I2,ry,a,Υ,k,v,ex,ea,hk,l,q2⟩:=hz2;subst ex;show uA;exact Tm (YL I2 (O0 ⟨Υ,ea⟩)) (yk6 hu I2 ea hk l ry BNt)
theorem yhm(neg:AO)(hu:UC)(hi:Abq)(ho:AR1):PC X AzJ i o (aad AE neg ty td):=by
 show Eg Q;refine AMQ hi (WG iv);show AS4 y ry Aj7;obtain⟨x,H2,I2,rx,a,Υ,k,ex,ea,hk,q2⟩:=hz2;subst ex;show uA;exact yno neg hu I2 ea hk ry (A2w ST)
#where
def Aj(ks:al)(k:DI):AO:=BK7
def Dq(NX):al ->Go ->DI ->AS6
 | ABY,Sn,k=>if k' =k then Β x else Dq ks xs k
 | _,_,_=>Ε
theorem z30(h:Z')(k:DI):Aaj jx AwZ=Abd:=by
 unfold jx Aj;rw[APF];induction ks generalizing vs with
 | DU=>rfl
 | AU k' ks ih=>
  cases vs with
  | DU=>cases h
  | AU v vs=>
   rw[kF,AYr,AIk];by_cases q:k' =k
   ·simp [q]
   ·simp only [q,Anz,Amw];exact AKK ih
theorem zzb{K:Φ}{F:Hp}{k:DI}{x:D}:∀{ks:al} {xs:AJ} {vs:AL},Dq ks xs k=Β x ->tF ->∃v,gi AkB/\rb x v
 | [],_,_,h,_=>EQ
 | EH,[],_,h,_=>EQ
 | ABY,d::xs,vs,h,r=>by
  show ĥ r;show BD Dq;unfold jx;show Avz;by_cases q:k' =k
  ·rw[WO] at h;cases h;simp only [q,decide_true];exact AAz r1
  ·rw[c9] at h;show BAK;exact zzb h r2
theorem z0u(ABX){k:DI}{y:V}(s:PZ)(r:rb (ck APE j6) y):Bd K H y k:=by
 show T0 b r;have e:vs=APE kV:=by
  clear hq;induction k generalizing vs with
  | DU=>exact rs
  | AU q k ih=>
   show Arz rs;show ĥ rs;rw[IZ,I8 r1,ih us r2]
 subst e;exact⟨b,Z,Af0⟩
def putL(ks:al)(k:DI):al:=PV Aj ks k ks (ks++ [k])
def tM(NX)(ks:al)(xs:Go)(k:DI)(x:α):Go:=PV Aj ks k BNQ (xs++ [x])
theorem z31:KO ks al vs AL Z' (BMs=OZ ArV)
 | [],_,_=>Z
 | EH,[],h=>EQ
 | ABY,AMl,h=>by
  rw[kF,IZ,Anr,kF,AKK z31]
  by_cases q:k' =k<;>simp [q]
theorem yfc(h:Z'):BTo putL A1W/\ T' putL ks k=Cl A1W:=by
 unfold yn putL tM;have e:(AbH BIH)=Abd:=OM zw1 (z30 h)
 rw[e];by_cases q:Aj ks k=Θ
 ·rw[WO,WO,WO];exact⟨z31 h,by rw[A8_,<- h,AC_]⟩
 ·rw[c9,c9,c9,BYZ];exact NE (DS h)
theorem z4q{K:Φ}{F:Hp}{k:DI}{d:D}{v:V}(r:NL):A5a al BOt
 | [],xs,vs,h=>ATQ
 | EH,[],vs,h=>AjO
 | ABY,Sn,vs,h=>by
  show IJ u us h1 h2 h;show BCU;refine rD ?_ (z4q r h2);show BQY
theorem ya7{K:Φ}{F:Hp}{ks:al}{xs:AJ}{vs:AL}{k:DI}{d:D}{v:V}(h:tF)(r:NL):Lo (tM ks xs k d) A1W:=by
 unfold tM;show AeD (z4q r h) (J3 h (M7 r))
def Ou:FC:=ASt (sN xs) dy (∃k d,ds=APE j6/\AyG Dq/\P d)
section
variable{X:Cx}{F0 H0:Hp}{a b:AG}{AB:AR}{ta tb:bO}
theorem yky(BTt):BBL Ou:=fun z E cx=>
 lN (DH yeu hu KK WI hs) (Hm Fi Fi (ANt (by
  unfold Ou at h2;split at h2
  ·show HA kk d Z w h2;have r1' :=p_ s2;obtain⟨c,vs,Z,ec,hkl,rs⟩:=r1';show C6 v (zzb BE rs);exact⟨c,_,kk,v,Z,JF yy ec,z0u yy r2,Ν,AqD AI D5⟩
  ·exact qh)))
#where
def dO:AA ->Ev ->Ξ ->G_ T
 | w8,RI,g=>wn g f t (dO fs ts g)
 | _,_,_=>Ε
def eE :BQ AA Ev Ξ T Ev
 | w8,RI,g,t' =>z_ g f (t' ::ts) (t::eE fs ts g t')
 | _,ts,_,_=>ts
theorem z33(ABX){g:Ξ}{t:T}:BUF (Ajs ->Akt ->∃v b1 cs b2,A4S g/\bs=AUd/\Aj3 cs/\
  ∀{F' H' :Hp} {t' :T} {ds:BH},F6 ->BFO ->ly t' v ds ->Ahn BBu (zt ds))
 | [],_,_,_,_,e=>AAZ
 | EH,[],_,_,_,e=>AAZ
 | w8,AMZ,_,_,h,e=>by
  show ANx vs';show NR dO;show Av0;by_cases hg:g=f
  ·show AAn hg;cases e;subst hg;refine⟨v,[],a1,a2,FA,Z,q1,BHp⟩
   unfold eE;show wT;exact⟨v,vs',ds,a2,Z,Z,r,p9 s ts vs' a2 (lP (k a ha)) q2⟩
  ·rw[EJ hg] at e;obtain⟨w,b1,cs,b2,g1,Z,y⟩:=z33 q2 e;refine⟨w,a1++b1,cs,b2,BZQ hg g1,FA,Ν,BHp⟩
   unfold eE;show EL hg;exact⟨v,vs',a1,AEm ds,Z,FA,BRg s,AI s BQE r⟩
def xM(C:Η)(i:Ζ)(f:Ξ):bO:=AQ9 (∃as fs ts d,AUc/\ϸ AT2/\AG2)
def Uj(C:Η)(neg:AO)(i:Ζ)(f:Ξ)(tk:bO):TT2:=Ť tk kd (∃k as fs ts ks us,kd= .BM Awa/\ASX/\ϸ (.jA ks us)/\E_ BFK)
def Kw(C:Η)(i:Ζ)(f:Ξ)(j l:Ζ)(tv:bO):aC:=AgC (∃k1 k2 as fs ts ks xs,Apw Ω k1/\BHM/\ASX/\BLh/\ABG/\
 AVH (À (Aba BFX BHx)))
section
variable{X:Cx}{F0 H0:Hp}{ke FF e:AG}{es:CY}{AB kK xO Ic G1 IU x1:AR}{x f:Ξ}{C:Η}{i:Ζ}{tk tv:bO}{tf:dH}
theorem Uk(ABX){σ:St}{Γ:G2}{as:BH}{fs:AA}{ts:Ev}{t:T}(R:FB)(e0:AUc)(hl:ϸ t):
  ∃a dx vs v bs b1 cs b2,AG8/\as=AG4/\AeT/\ A4S f/\bs=AUd/\Ŕ/\ Ah_/\Aj3 cs/\
  ∀{F' H' :Hp} {t' :T} {ds:BH},F6 ->(∀c∈Aad,∀u,SL c u ->H' c=Β u) ->ly t' v ds ->ly ARS EX (Õ ds):=by
 obtain⟨o,e1,v,Z,nd,hn,r⟩:=AKi;obtain⟨a,dx,vs,bs,Z,Z,ea,ed,Fb,Ov,r⟩:=r;obtain⟨v,b1,cs,b2,y⟩:=z33 r hl;refine⟨a,dx,vs,v,bs,b1,cs,b2,e1,Z,ea,Ν,A3,nd,hn,ED,fun{F' H' t' ds} s k rt=> ?_⟩;exact⟨a,dx,vs,_,Z,Z,k a BN _ ea,k dx BN _ ed,Fb,Ov,NO s (fun c hc=>k c (by simp at hc⊢;exact tm hc)) rt⟩
theorem zt5(hc:UI)(hn:ir)(hN:Hk)(hv:NN)(XE)
  (hb:ac F7 f F7=EW F7:=by rfl):Dx (.pv F7 f AB) (xM C i f):=fun z E cx=>
 lN (AbU Sj hb) (Y2 hq8 (by
  obtain⟨F,Γ,P,R,⟨as,fs,ts,d,e0,hl,h⟩,k⟩:=hq8;obtain⟨a,dx,vs,v,bs,b1,cs,b2,y⟩:=Aj8;exact⟨D8,Ν,a,C,dx,_,v,Z,ED,hc,hn,Q1,BTH (AS3 CO).2⟩))
theorem yln(neg:AO)(hu:UC)(hc:UI)(hn:ir)(hk:Ayc)(hN:Hk)(hv:NN)(XE)
  (A4h) (hm:AJ4 AzJ AU6:=by show AJN):
  aa (AJ' ke (if neg then mI else .In) [.pv F7 f xO]) (Uj C neg i f tk):=fun z E cx=>
 NQ (AeA (DH yhm neg hu Adx Azf) hm) (Hm Sx Sx (AJE kd y rk J6 (by
  obtain⟨kk,as,fs,ts,ks,us,p⟩:=J6;have e1:=AK;subst e1;obtain⟨a,dx,vs,v,bs,b1,cs,b2,w⟩:=Uk R1 NS AL8;obtain⟨c,ws,_,Z,_,ec,hkl,_⟩:=E8 (GT w);refine⟨D8,BE,a,C,dx,_,vn,Z,nr,hc,hn,AeN,c,_,kk,Z,.AV ec,z0u HP rk,_,Z,?_⟩;rw[z30 hkl];exact Aph Aee)))
theorem yj3(ABX){σ:St}{Γ:G2}{as:BH}{fs:AA}{ts:Ev}{ks ks' :al}{xs xs' :AJ}{p:Η}{C_:AL}(R:FB)(e0:AUc)(hl:BLh)(hp:Aew):
  ∃a dx vs c ws,AG8/\AeT/\ BKS/\SL c (.dT (OZ ws))/\A'W/\Lo xs ws/\c≠p/\
  ∀ws',BCS ->BDW ->qo F (ACn BPY c (.dT (ks'.zip ws'))) (Y_ Ŗ as BIe):=by
 obtain⟨a,dx,vs,v,bs,b1,cs,b2,e1,Z,ea,hv,Z,nd,hn,rt,VI⟩:=Aj8;show bz c ws ds Z ec hkl rl rt;show AQ Z rs (Z6 rl);have hcp:c≠p:=DB (by rw[z,hp] at ec;cases ec)
 refine⟨a,dx,vs,c,ws,e1,ea,hv,ec,hkl,rs,hcp,A0 ws' hl' rs'⟩;have Rp:fT F BPY:=A2u hp hp
 refine Rp.wrT e0 e1 (ë (Ś Afk AZs) c Azn) (t:= .tr Afk BIe) (ABZ nd hn) AL4
 refine VI Gc (k9 hb u ?_) ?_
 ·have hbc:b≠c:=DB (by
   subst z;show AHV nd;show ANj;rcases UO with Z | hb
   ·exact n1 BN
   ·rcases UO with Z | hb
    ·exact n2 BN
    ·show BJM)
  rw[dj hbc,AJh hp];exact q
 ·exact BQG
theorem yg8{y w:Ξ}{j l:Ζ}{yp wp:AR}(hu:UC)(hc:UI)(hn:ir)(fI:Aib)(hN:Hk)(hv:NN)(Uc:Ahm)(hv2:AVI)(hN3:BHL)(hv3:ApD w)
  (XE) (Ax0)
  (BM6)
  (A4h) {ctx} (hst:GU [Expr.Name y yp,.bS w wp]=NB AuZ BIC:=by rfl) (hst2:GU BIC=NB (VO w wp) []:=by rfl)
  (hs:AM' AU6 BPu:=by rfl):
  AKM (wt AU6 BPu) (Kw C i f j l tv):=fun z E cx=>
 uH (ANI YK Azf (DH ygz (CV AlE (CV BRe JD hst2) hst)) fI hs) (AN_ JZ JZ Fj (by
  obtain⟨k1,k2,as,fs,ts,ks,xs,n⟩:=Fj;show nE o2 e2 v2 r2 (ACw j _ n.1);show nE o3 e3 v3 r3 (ACw l _ AFf);have ev2:=I8 r2;subst ev2;have ev3:=I8 r3;subst ev3;obtain⟨a,dx,vs,v0,bs,b1,cs,b2,u⟩:=Uk R1 (Db n) ASB;refine⟨D8,u.1,a,C,dx,_,v0,Z,Db u,hc,hn,E8 u,kV k1,e2,kV k2,e3,BCo 2,ae⟩
  obtain⟨a',Rr,vs',c,ws,g⟩:=yj3 (ks' :=putL ks AKr) (xs' :=tM ks xs AKr d) (C_:= [kV k1,kV k2]) R1 (Db n) ASB hp;have e1' :=CC;have Wk :=NU;have hv' :=iX;rw[u.1] at e1';cases e1';have ez:VC vs=VC vs' :=A2H (Db u) Wk Wk Wk Wk
  rw[<- ez,E8 u] at hv';cases hv';obtain q:=yfc (k:= AKr) (v:=v) Ė;refine gv c (wV.t (k:= AKr) (AFr (Db iP) wE) j4 (by show AaT Ė;exact LI n)) ?_
  rw[DD];exact db (KL iP _ FL (ya7 iP.2.1 rd)) (ZY n)))
#where
theorem zx1:∀{fs:AA} {vs:AL},ė ->f∉fs ->nJ f y (VC vs)=(Aak).zip (vs++ [y])
 | [],[],_,_=>Z
 | [],EH,h,_=>EQ
 | EH,[],h,_=>EQ
 | g::fs,AMm,h,hf=>by
  have hg:g≠f:=ln (hf (HU e))
  show Ary;unfold nJ;rw[EJ hg,zx1 Ad6 (ln (hf (AlW _ e)))]
  rfl
def nDT:pP:=AUu (.jA [] [])
def ou(BH1):aC:=ANJ (BTx (AVH A'd))
def uT(BH2):aC:=sQ tn t (BTx (∀cs,ApA (as++cs) A'c))
section
variable{X:Cx}{F0 H0:Hp}{FF e:AG}{es:CY}{AB kK IU p:AR}{x f:Ξ}{C fa:Η}{fd:ET}{ps:AA}{i k:Ζ}{te:bO}{tn:pP}{sp:uz}{t:dH}
theorem ycp:BLj nDT:=fun z E cx=>
 lN yco fun σ H Q Ch q hq=>by
  show ATz;have R2:BDj dT Γ:=A2u hq hq
  show KS (k _ _ _ _ _ [q] R2 Gc BN (V' (k8 AI' hb ⟨A8L hq,BY',AY7 hq⟩)) ?_ h) (ASg q [] Z AtC)
theorem zsg(hc:UI)(hn:ir)(he:Azq)(hN:Hk)(hv:NN)(XE)
  (hs:AV5 F7:=by rfl):AjV (uT C i f tn):=fun z E cx=>
 uH (DH Yy Sj LP hs) (AQs DL DL (VT (fun t Ω F1 H1 v cs R1 s1 Ud hnc rt Dd=>by
  obtain⟨as,fs,ts,e0,hf,hl,Ov,q⟩:=Dd;show Ak';obtain⟨a,dx,vs,bs,Z,Z,ea,ed,Fb,_,r⟩:=r;refine AlQ
  have C4:HE AG4 A2s:=EB BJC;have dis:HE AG4 (b∉cs):=A4j;show AHV nd;show ANj;rw[zx1 Fb hf];refine db (Akn AT0 (t:= .tr (AG4++cs) A'c) (ABZ ?_ IO) IO) (q cs)
  ·exact A9n ⟨A_M n1 (A_M n2 n3),Ud,fun x hx y hy e=>BK9⟩
  ·show ASe (hn' b hb) A1P
  ·have na:Ayg:=Ahs n1;refine⟨a,dx,vs++ [v],bs++cs,Z,Z,j4,?_,DS Fb,Ov,?_⟩
   ·show Az_
   ·have m:=AhN AjE Gc ts vs bs AyA r
    have l:=Ape AIo AjE Gc t v cs BI5 rt
    exact BOi
  ·show ASe Aac Asn)))
theorem Ky(hc:UI)(hn:ir)(he:Dx FF te)(hN:Hk)(hv:NN)(XE)
  (hs:AV5 F7:=by rfl):AjV (ou C i f te):=fun z E cx=>
 uH (DH Yy Sj LP hs) (AN_ wY wY wZ (by
  obtain⟨as,fs,ts,e0,hf,hl,Ov,q⟩:=wZ;show Ak';obtain⟨a,dx,vs,bs,Z,Z,ea,ed,Fb,_,r⟩:=r;refine AlQ
  have Ot:=nd;show AHV nd;show ANj;rw[zx1 Fb hf];refine db (Akn AT0 (t:= .tr AT0 A'd) (ABZ Ot hn') AL4) q;have na:Ayg:=Ahs n1;refine⟨a,dx,vs++ [v],bs,Z,Z,j4,?_,DS Fb,Ov,?_⟩
  ·show Az_
  ·have m:=AhN AjE Gc ts vs bs AyA r
   have l:fO AE F1 (upd H1 a AjE) [NY] [v] []:=z1k (CU (NE rd))
   have:=zwt m l
   rwa [yY] at At))
def qm(C:Η)(sp:uz)(t:dH):pP:=UU BPz
structure FW (AqF) (B9:AN) (x:Ξ) (C:Η) (k:Ζ) (ps:AA) (sp:uz):Ι where
 ex:Ab2 (AEo k lH) (Mk K C f) (Ya x C)
 non:∀ds Q Ex,sp ASm ds Q Ex ->sp ASm ds (fun t d=>d= BC/\Q t d) Ex
theorem zw6(G:FW EA X.w AE YE SA x C k ps sp)(hr:dB OQ X.A)(hg:KU)
  (ha:RA) (hU):
  AKH ADy (qm C sp t):=by
 obtain⟨f,fd,Fn,M,hm,hb⟩:=bd;show w4;refine ANv hm;refine AWu M.kp BPz Ahg;show Aw6;refine AMI;have I2:=BOk;show D1 n1 (AeJ H1) BEz n2 Af_ Agy ne BCV Ai9 kp BNq (Tl (z8 _ aT));show D1 sH (Kt H1 AHk) (Ayq n1 n2) hid (gD BCt AHk=H1) (by
  funext b
  by_cases hb1:b=fk
  ·subst hb1;rw[zwv BN,n1]
  ·by_cases hb2:b=DZ
   ·subst hb2;rw[zwv BN,n2]
   ·rw[Nh (by simp [hb1,hb2]),dj hb1,Afm]) hs (lH AE sp A_Q AHk BGG (fun C' Rr H' =>∃A4 F' x,ApC /\sK F' /\BWq C' Rr x/\ (APK=x\/wj AE F' H1 H' C' Rr x/\NA (P4 H1) (ADc A4 b))/\E A4 x)) (by
  refine⟨F1,fk,AE',.ob C [] [],ds,vs,_,_,Z,A'V,DS ne.symm,IO,?_,rs,G.non _ _ _ q,?_,?_⟩
  ·have:P4 H1:=by
    rcases UO with Z | hb
    ·exact n1
    ·rw[AI' hb];exact n2
   exact R1.g.free At
  ·exact⟨_,_,[],[],Z,Z,j4,Ayz,Z,Z,AtC⟩
  ·rintro t' d v cs F' H' gr nd hn rt rv ⟨ed,hp⟩;rw[hid] at gr hn;subst ed;exact⟨rv,kk t' Ω F' H' _ _ AKj Abk nd (V' ⟨cc.1,Anp cc.2,Anq cc.2⟩) rt hp⟩
  ·intro x C' Rr t' cs F' H' gr nd hn rt xr hE;rw[hid] at gr xr;exact⟨Ω,F',x,APM gr,KA,AZL AnZ,AuG xr Anq,hE⟩) hl (AEJ (Cl AMk)) (by
  have e:=ANM;rw[IY,<- ek,<- IY (a:=AqV),e])
 have hbs:=hb (y_ s1 (Aq0 Aby DZ)) AMk I2.kIn BDi
 show ģ;refine AtQ (z3x (f:=f) AIv M.makes M.init (yT M.fn));refine ACm (AnE _ MM _ _ (HG (Aoq::us)) AMk _ _ _ A'0 A'1 hbs BJb hs) (A0 r s' hq');cases r with
 | YN e=>
  refine cx.pX Μ σ Ω F1 H1 s1 e s' I1 R1 BNe;have u1:Un ABb [] H1 AQi Ana AiR:=BIj;have u2:Un ABb [] AQi AHk AiR BOf:=AYH (ASU) (AO4 (YI _ _)) (by rw[dj ne.symm];exact n1)
  exact u1.trans u2
 | ok fl' =>
  cases fl' with
  | DM u=>
   obtain⟨v,H',I3,rv,ev,q3⟩:=BCN;subst ev;exact⟨rv,BIx⟩
  | MG=>show AMG
  | brk=>show AMG
  | No=>show AMG
#where
def BZ(C:Η)(m:Ξ)(sp:dD)(te:bO):bO:=Afs (AB_ A1m)
section
variable{X:Cx}{F0 H0:Hp}{o:AG}{AB Ic:AR}{m:Ξ}{C:Η}{ps:AA}{k:Ζ}{sp:dD}{te:bO}
theorem z3y(G:AVc Ba)(hc:UI)(hr:UB)(ho:ABf)
  (ht:EW Ahh=(do
   let ov<- EW o
   ABa
   let (f,first)<- AB' pl
   ACJ []):=by rfl):
  Dx Ahh (BZ C m sp te):=by
 show AE_ fa fd bd;show w4;refine AOX (AVg ho (∃F1 Ω d,AKD/\gm/\Rep AE F1 d v/\ (WB ZN (AB_ A1m))) I Ayy) Bx
 obtain⟨x,H1,I1,rx,F1,Ω,d,R1,sF,rd,q⟩:=Bx;cases d with
 | DJ C' fs ds=>
  show NW Z y q TQ rd;show AkP (Ax4 NS Ν);show KS BSe (N8 (us:= SY) (vs:= SY) AK hr UF cx I1 R1 AwA (rD TQ II) AI A3a)
 | _=>show ē
#where
abbrev P2:=Ξ×Ξ
def Ca(a b:P2):AO:=pA a.1 b.1 || (Κ (a.1=b.1)&&pA a.2 b.2)
theorem yka(a:P2):EE (Ca a a):=by unfold Ca;simp [z19]
theorem ygl(h1:Afi)(h2:Ca b c=Θ):Ca a c=Θ:=by
 unfold Ca at*;simp only [An1,TN,qA] at*;rcases h1 with h1 | ⟨e1,h1⟩
 ·show Ar0 h2 h2 e2
  ·exact .AV (z4u h1 h2)
  ·exact .AV (e2 ▸ h1)
 ·show Ar0 h2 h2 e2
  ·exact .AV (e1 ▸ h2)
  ·exact aI (e1.trans e2) (z4u h1 h2)
theorem z4r(h:Afi):EE (Ca b a):=by
 cases q:Ca b a with
 | Τ=>rfl
 | Θ=>show AU3 (ygl h q) yka
theorem yii(BFw Ca):Ca b a=Θ:=by
 unfold Ca at*;simp only [An2,Bool.and_eq_false_iff,BdA,An1,TN,qA] at*;by_cases e:a.1=b.1
 ·refine aI e.symm (z2h ((ut).A9r (DB (z e))) fun e2=>h2 (AIi e e2))
 ·exact .AV (z2h mM e)
def Fd:P2:=(D',D')
def FZ(xs:ć)(i j:Ζ):AO:=Ca (YY i Fd) (YY j Fd)
theorem yfm(nd:AZW):BIJ FZ:=by
 have C_:=AvL;show BV ⟨fun i j hi hj hij h=> ?_,fun i j _ _ h=>z4r h,BRR (ygl h1 h2)⟩ (yii h ?_);rw[Ai hi,Ai hj];rcases ASv hij with q | q
 ·exact C_ i j hi hj q
 ·exact AWk i hj hi
def Ja(h:AN)(v:AD)(p:P2):Ι:=∃(a:Η) (o:Obj) (m:Ζ) (t u:Tok) (r:An),NI/\af/\AvW /\i4= .seq (AGG (AYA AK t:: .Ψ BS u::r)) m
theorem Ja.up(q:Ja h v p)(k:AfQ se):Ja h' v p:=by
 obtain⟨a,o,m,t,u,r,y⟩:=q;exact⟨a,o,m,t,u,r,Ν,k a o A3,ED,NO⟩
theorem z5a(h:Q (pA a b) s):NC (oneLt' Τ (.Ψ a t) (.Ψ b u)):=by
 rw[oneLt'_eq];refine BT' a b
 exact BYW
theorem ygo{a b:Ξ}:BCx=AH5 (a=b):=by
 by_cases q:a=b
 ·subst q;simp
 ·rw[pV q];cases z:BCx with
  | Τ=>rfl
  | Θ=>
   have e:=Amk z;exact Iy (by cases a;cases b;simp at e;rw[e]) q
theorem z8a{BA:A6}{w:AZ}{A:B6}{E:fu}{ps:ć}{vs:An}(hl:ASR)(nd:A7b):
  IW BA w A E vs (FZ ps) (AKy (∀i,AKz ->Ja h (AFj AI7) ALR)) (tuples' Θ):=by
 refine A5j (LJ s Q hT h2 hQ) hT hij
 ·have C_:∀(vs:An) (ps:ć),ASR ->(BIu AI7) ->∃fs:An,W.KatTups A7 vs fs/\ė/\∀v∈fs,∃x t,v= .Ψ x t:=by
   intro vs;induction vs with
   | DU=>intro ps _ _;exact NV [] C7 AFT
   | AU v vs ih=>
    intro ps hl hT;cases ps with
    | DU=>cases hl
    | AU p ps=>
     show AQ fs g (ih ps Ad8 (ib (C9 (hT IM (DA hi)))))
     obtain⟨a,o,m,t,u,r,f⟩:=hT 0 BN
     have e' :NI:=f.1;subst e';refine⟨_::fs,.AU f.2.1 (Db f) (KL f) II CC,DS NU,DC v hv⟩
     show ARb hv hv (Mc _) (ϥ v hv)
  show PQ fs l (C_ vs ps hl hT) (W.kat_kind (T:= G' Pl) l.1 A2 (fq hv ?_) Z hQ)
  show T_ x t Z (l.2.2 v hv) BZk
 ·obtain⟨a,o,m,t,u,r,n⟩:=hT i DF
  obtain⟨b,o',m',t',u',r',y⟩:=hT j DF
  unfold Anu;rw[n.1,Ν];refine W.kat_lt AFf (KL n) A3 NO ?_;have hne:An3 i Fd≠An3 j Fd:=by
   have C_:=AvL;rw[Ai DF,Ai DF]
   rcases ASv hij with q | q
   ·exact C_ i j DF DF q
   ·exact AWk i A2 A2
  refine W.kat_cons (A9k _ _ t t' BA w _ _ _ _ ?_);rw[ygo];by_cases q:ALR.1=AxW.1
  ·rw[APA q];refine W.kat_yes (W.kat_cons (A9k _ _ u u' BA w _ _ _ _ ?_));rw[ygo,pV (DB (hne (AIi q z)))];refine W.kat_no (z5a ?_);have:FZ ps i j=pA ALR.2 AxW.2:=by
    unfold FZ Ca;rw[q,z19,BZj,Amw,Bb2]
   rw[<- At];exact hC
  ·rw[pV q];refine W.kat_no (oneLt_str ?_);have:FZ ps i j=pA ALR.1 AxW.1:=by
    unfold FZ Ca;rw[pV q,A7L,BbX]
   have hC' :=hC;rw[At] at hC';exact hC'
def Wl(p:P2):DI:= [.CB AK,.CB BS]
def pairD(p:P2):D:= .BM [.Ψ AK,.Ψ BS]
def Ce(H:Hp)(w:V)(p:P2):Ι:=Ac1 w (ZU (.BM [.Ψ AK,.Ψ BS]))
def Ul(X:Cx):oo:=AEj (∃(q:Η) (Υ:dA) (ps:ć),vs= Á q/\Rd H q Ž/\AOf (·.1)=ACz Wl/\BZd/\
 ∀(l:Η) (ms:ć) (ws:AL),ATl ->JJ (APV ps) (AbA Afi) A'_ (BPi (Ce H w p)) (AGo AgP))
theorem yat:KO Υ dA xs AFX ABw (JY (·.1)=AOf (·.1))
 | _,_,C7=>Z
 | _,_,AVt=>by rw[IZ,IZ,yat r,AS]
theorem yk2:∀{Υ:dA} {xs:AFX} {i:Ζ} {x:Aw7},ABw ->ZZ ->SL x.2.1 (ck (x.1).B_ kV)
 | _,_,_,_,C7,e=>AMu
 | _,_,0,_,AVt,e=>by simp at e;subst e;rw[<- AS];exact h.2.1
 | _,_,i+1,_,AVt,e=>uv yk2 r AL3
theorem z56(io):Aho Ul:=by
 rintro Μ s σ H xs us Q I r ⟨q,Υ,ps,e0,hq,hk,h64,k⟩;subst e0;show Si;cases rx;obtain⟨hz,hsm,xs,rel,o,es,ep,f⟩:=M5 IB hq;have hnd:=ZY f;have hkeys:JY (·.1)=ACz Wl:=nz yat rel hk;have hlx:B5=YO:=C9 (e9 AYg hkeys)
 show D1 hls (ø E1) (by rw[<- jv,E8 f,HL]) line AMO De nd A7b (by
  rw[hkeys] at hnd;unfold A8e at hnd⊢;rw[AZC] at hnd;exact hnd.imp fun h z=>BFb) at_ (∀i,(hi:AKz) ->∃x:Aw7,ZZ/\x.1=Wl AAt) (ib (by
  have hx:iS:=L7
  refine E3 xs[i] (zZ hx);have:(xs.map (·.1))[i]?=(ACz Wl)[i]?:=by rw[hkeys]
  rw[M_,M_,xc hx,ie] at At
  show ALe))
 refine BQ7 ⟨o,f.1,f.2.1,Db f⟩ A2
 have hvl:APg=YO:=by show AhW hv;simp_all
 show GL fI (∀i,(hi:AKz) ->BG0 (ZU (.BM [.Ψ AAt.1,.Ψ AAt.2]))) (ib (by
  obtain⟨x,d⟩:=at_ i hi;refine E3 x.2.1 ?_
  ·rw[YV,hv,E8 f,APh,M_,d.1];rfl
  ·have:=yk2 rel d.1;show FI d.2;exact At)) hT (BIu An4) (ib (by
  obtain⟨b,m⟩:=fI i hi;rw[Ai hi];obtain⟨_,AH,rv,o',h2,h3,n,h4⟩:=(AKF b (.BM [.Ψ AAt.1,.Ψ AAt.2]) b m.2);cases rv with
  | AU r0 rr=>
   cases rr with
   | AU r1 rr=>
    cases rr;show bv r0;show ť t' r1;exact⟨b,o',n,t,t',[],m.1,h2,h3,h4⟩)) ⟨FZ ps,_,_,B1 hvl (yfm nd),BG,z8a hvl nd,fun h2 k2 i hi=>(hT i hi).up (BQC TU),AlM hl⟩
 show D1 hsz AT4 A3e hix (AHU AKz) (ib (Q_ hvl Ajp)) Fr (AEJ is.length) (by rw[BdL,BdM,hvl]) hws (AHU (BG0 (Ce H AdZ ALR))) (ib (by
  obtain⟨b,g⟩:=fI i (hix i hi);exact⟨b,CC,b,Z,B1 (Ai (hix i hi)) g.2⟩))
 obtain⟨ws,hw1,hw2,hw3⟩:∃ws:AL,E6 ws (AI8 (Aop An4))/\y0=is.length/\∀(j:Ζ) w p,SZ ws w ->SZ BGz p ->Ce H w p:=by
  clear a1 a2 hl Fr hix;unfold Of;induction is with
  | DU=>exact NV [] C7 (fun j w p e=>AMu)
  | AU i is ih=>
   show AQ ws v (ih (A1X hws));show C6 b (hws i zY);refine⟨AFg::ws,.AU (by show HK AdZ (AFj An4);rw[Ν];exact Z) EN,DS nL,LJ j w p q1 q2⟩
   cases j with
   | e_=>simp at q1 q2;subst q1 q2;simpa using AI
   | fA j=>exact Sk j w p (DA q1) (DA q2)
 have I2:N9 AgP sr:=
  ARe (fun b ob eb=>xK b ob (TU b ob eb)) hsz (fw _ _ _ (.A8 ws) ⟨BG,_,e,hw1,hl⟩)
 refine PF PP I2 (k l BGz ws (Ab' hsz) (zrv (c_ hvl a1)) ?_ (by unfold Of;show AGH hw2) hw3)
 unfold Of;rw[AZC];exact a2
def zxj:Q4:=si [sN _] (∃ps:ć,ks=ACz Wl/\BZd/\A3G ć ps (AbA Afi) pairD)
theorem zqg(MC):∀{ms:ć} {ws:AL},A'_ ->(BPi (Ce F w p)) ->Lo (AI3 pairD) ws
 | [],[],_,_=>SW
 | [],EH,h,_=>EQ
 | EH,[],h,_=>EQ
 | p::ms,w::ws,h,k=>by
  rw[IZ];show L6 b e (k 0 w p Z Z);refine rD ?_ (zqg Ad6 fun i w p q1 q2=>k IM w p (DA q1) (DA q2))
  exact gv b (lI e) (rD II (rD II II))
section
variable{X:Cx}{F0 H0:Hp}{a:AG}{AB p:AR}{t:dH}
theorem yek(BQf):ALA (AK9 XY) zxj:=fun z E cx=>by
 refine Ajf (ANr Nv (z56 hc) hb BF BF)
 show ATz;refine AT3;unfold zxj at h1;split at h1
 ·obtain⟨v,_,Z,⟨l,us,Z,hq,hkl,rs⟩,Z⟩:=r1;show L6 ps q h1;refine⟨l,_,ps,Z,JF HP hq,?_,DD,fun l2 ms ws hl2 pm pw hwl hw=> ?_⟩
  ·rw[BdX DF]
  ·have R2:=R1.tups;show EG (Ih R2 hl2 (AWO zqg (wX F1 H1) hwl fun i w p e1 e2=>by
    show L6 b eb (hw i w p e1 e2);exact BKp))
   exact k _ Ω _ _ l2 _ Ν (rV zrw) A3 ED Q1 (zqg hwl fun i w p e1 e2=>by
    show L6 b eb (hw i w p e1 e2);exact BKp) uS (FL ms pm pw)
 ·exact C5
#where
def APm(x:Ξ):AA:=x.cps.toList.map fun c=>ANh
def Itx(x:Ξ):It:=⟨ATU Ast,fun i H v H' =>H' =H/\∃c,D7 x.cps c/\v= .Ψ ANh,ATU BZI⟩
theorem z46(AR8)(wide:AO)(it:Η)(x:Ξ)(t:Tok):ANu (Itx x) (i<=A9s/\h.IsStrIter it (GV wide "str_iterator" "str_ascii_iterator") x t i) where
 mem:=FA
 DJ:=ABn (by
  show AWK
  obtain⟨_,o,u⟩:=st;exact ABs u.1 u.2.2)
 IA:=ARf (Tm st (BWR di (k it BN o ho)))
 Pt:=by
  show US;show OS;obtain g:=Ù
  have hx:Ast:=hg;cases wide with
  | Θ=>
   refine wpAny_pyNext_wide_item st.2 (c:=AqR) AeK (tS fF sb)
   have I1:bg Aex:=ACg (t' :=Ź) (Tx AbB) CC NU wE Ė (ZY g);show DO o' q Aeq (WC (Qz (s:=Aex) DD SH ADX BF ⟨BDN,H,I1,LG,BL6,BCj,vz hf⟩))
  | Τ=>
   refine wpAny_pyNext_ascii_item st.2 (c:=AqR) AeK (tS fF sb)
   have I1:bg Aex:=ACg (t' :=Ź) (Tx AbB) CC NU wE Ė (ZY g);show DO o' p Aeq (WC (Qz (s:=Aex) AK NS UF BF ⟨BDN,H,I1,LG,BL6,BCj,vz hf⟩))
 MQ:=by
  show US;show OS;show EG Ù
  have hx:BZI:=hg;cases wide with
  | Θ=>exact wpAny_pyNext_wide_end W1 di AeK AWt
  | Τ=>exact wpAny_pyNext_ascii_end W1 di AeK AWt
 TL:=Aay (by
  cases wide with
  | Θ=>exact wpAny_pyIter_striter_wide di h
  | Τ=>exact wpAny_pyIter_striter_ascii di h)
def ab3(te:TE):TI:=Azi (∃x,v= .Ψ x/\R (Itx x) H1)
theorem yl9{X:Cx}{e tg:AG}{te:TE}(he:eJ):vF e (ab3 te):=by
 show Eg R;refine AMQ he Aqg;obtain⟨y,H1,I1,r1,x,ey,q⟩:=Ch;subst ey;show bv r1;cases ha:x.cps.all (· <128) with
 | Τ=>
  show AbR (wpAny_pyIter_wide ha ⟨DZ,AE',_,_,H1,Z,AFS,z46 Θ _ x t,BKr,IO,q⟩)
 | Θ=>
  show AbR (wpAny_pyIter_ascii ha ⟨DZ,AE',_,_,H1,Z,AFS,z46 Τ _ x t,BKr,IO,q⟩)
def yju(UQ):dH:=t9 dS (D4 kQ/\P ((APm x).B_ SV) Ω)
section
variable{X:Cx}{F0 H0:Hp}{e tg:AG}{te:bO}
theorem ymn(he:M0):AM7 e (yju te):=ARr (xN (DH yl9) he) (Apd (ARD (fun d Ω F1 H1 v R1 s1 r1 h1=>by
  split at h1
  ·rename_i x;refine⟨x,r1,AQa (vi (ASu (ALK ?_))) ut⟩
   ·unfold APm;show AhW HL;exact mM
   ·rw[e];unfold APm;show AhW HL;exact Mn
   ·unfold APm at hd;show A'Z APc hd;cases q:x.cps[i]? with
    | Ε=>rw[q] at hd;cases hd
    | Β c=>
     rw[q] at hd;cases hd;have hi:Ast:=AL6 q;refine AVW hi;obtain⟨Z,c',q',Z⟩:=z;rw[q] at q';cases q';exact Ajy SW
  ·exact C5)))
#where
def Kz:FC:=BMS AM0
theorem ymt:oa LtE Kz:=by
 rintro Μ s σ H x y u w Q I rx ry ⟨F,d1,d2,P,sF,r1,r2,h,k⟩;show BD Kz;show EO
 ·show Ā;show hW;show ğ;exact PySem.P.le_str Aqm
 ·exact Cf
def yb5:AJ ->AP1:=fun xs y P=>(bq y AeW (∃(bs:nI) (j:Ζ),xs=ACv .bl/\BEK/\ BJw/\ACu<1000/\WS j))
def aae(ANs):bO:=ZE ta (WB IL (gt tb y (yb5 xs y fun r=>P r A_)))
theorem ydz{bs:nI}:∀{AH:An},E6 (ACv V.bl) AH ->AH=ACv ACX:=by
 induction bs with
 | DU=>intro AH h;cases h;rfl
 | AU b bs ih=>
  intro AH h;cases h with
  | AU h0 hr=>
   cases h0;rw[ih hr];rfl
theorem ydu{K:Φ}{F:Hp}{bs:nI}:∀{vs:AL},APy BDU ->vs=ACv .bl:=by
 induction bs with
 | DU=>intro vs h;exact h
 | AU b bs ih=>
  intro vs h;show As2;show ĥ h;rw[r1,ih r2];rfl
section
variable{X:Cx}{F0 H0:Hp}{o e:AG}{Ic G1:AR}{ta tb:bO}
theorem yc1:Acr BdY (∃(p:Η) (bs:nI) (j:Ζ),Aq1/\vs= [AeW]/\ASW BDU/\BEK/\ BJw/\ACu<1000/\ATm j):=by
 rintro Μ s σ H x xs v us Q I rx rs ⟨p,bs,j,e1,e2,hq,hj,hm,hl,q⟩;show ABo;cases rx;show AVG;cases ru;obtain⟨AH,rv,⟨o,n,ho,hc,hd,hs⟩,_⟩:=AAq;show ND (ydz rv);show HA cls UX ef az o;cases hc;cases hd;cases hs;have hjl:j<ACu:=dr hj;refine AEx BdZ ASG PySem.F.entry_list_index PySem.F.args_list_index_2 (PySem.SeqAt.list_indexAt p AzE n Ε az Afg (fun y=>y== AUW) j (DA hjl) A2 ?_ ?_) (E3 ho (DC y hy))
 ·have:SZ AzE Afg:=DS hj
  show FI (AI9 (DA hjl))
  show BCY;rw[At];rfl
 ·intro m h1 h2;have:Iq AzE m (Ë Τ):=DS (hm m h2)
  show FI (AI9 h1);show BCY;rw[At];rfl
 ·have:y∈ACv ACX:=C9 hy
  obtain⟨b,_,Z⟩:=Ank At;have e:(ACX b== AUW)=(b==Θ):=by cases b<;>rfl
  rw[e];exact PySem.SeqAt.EqAt.bool_bool b Θ
 ·exact tN sd q
theorem ycn(AWN)(J':ac o "index" o=EW o:=by rfl)
  (YR:LN (ABM [e] all (! x.1)&&ACH) (ACI [e] 30):=by rfl)
  (ϡ) (AV8):
  Ajz "index" aae:=fun z E cx=>
 lN (AWx FE BdY BcG BdZ PySem.F.type_list_index yc1) (Hm wZ wZ (Qb (by
  cases d with
  | A8 xs=>
   show AUk;refine BWM (.AV ⟨Z,vs,ϭ⟩);unfold yb5 at h2;split at h2
   ·show LL bs j p h2;show ND (ydu rs);subst r2;exact⟨a,bs,j,Z,Z,AnV (s2.seq hq),AK,NS,AL8,A4k Aee⟩
   ·exact qh
  | _=>show dv)))
#where
section
variable{X:Cx}{F0 H0:Hp}{e:AG}{es:CY}{AB p np:AR}{x y:Ξ}{ps:AA}{k i:Ζ}{sp:uz}{t:dH}
theorem Ni(G:Ab7 Uh)(hr:UB)(hg:KU)(hN:D7 X.N y)(hv:AVI)(ha:RA)(hdb:VU x ń:=by decide)
  (hd:VU y ń:=by decide) (hcd:VU y AOw:=by decide)
  (he0:GU A1w=NB (VO y np) FH:=by rfl) (hpl:AP4 AB FH:=by rfl):
  Dx (ADL (bn p) A1w) (kj i sp t):=by
 obtain⟨f,fd,g⟩:=bd;rintro z E cx Μ s σ H Q I ⟨F,Γ,P,R,⟨⟨a,bs,tt,e0⟩,h⟩,kk⟩;show AyI;have hv' :=rt.root;subst hv';refine ANv NU;have pa:zi PA A1w (QH (Sw i) AuB):=CV Sj KK he0;refine AnH (h₀:=SA) AnI iX (cM (pa AB Μ s σ H (fun vs H1=>∃F1 Ω ds ws,vs= D8::ws/\AKD/\gm/\aM AE F1 ds ws/\A1f) I ⟨_,e1,F,Γ,_,R,h,fun ds Ω F1 H1 vs R1 s1 r1 h1=>⟨F1,Ω,ds,vs,Z,R1,s1,r1,h1⟩⟩) Ahg) he0 hpl;obtain⟨vs,H1,I1,r,F1,Ω,ds,ws,ev,R1,sF,rs,a',bs',tt',e2,q⟩:=Bx;refine AMI;subst ev;cases r with
 | AU r0 rr=>
  cases r0;have ha' :a' =a:=by
   obtain⟨o,e3,v,Z,_,_,rt⟩:=å e2;rw[e1] at e3;show BIn
  show Mo ha' (Rz CC hr (KL g) cx I1 R1 rr rs e2 q (BXl (Aaa s')))
#where
theorem zy7:KO xs AA AH An (Av' AH) (∃l:AtK,AH=A9t l/\l.map (·.1)=xs)
 | [],_,C7=>Me [] Z
 | Sn,_,AVt=>by
  show bv h;show P8 l Z e zy7 r;exact Me ((x,t)::l) (DS e)
theorem zxo:Ac8 "proto.unchain" Builtin.«proto.unchain»:=entryFor_of_fast (by kernel_rfl)
section
variable{BA:A6}{w:AZ}{A:B6}{E:fu}{s:AC}
theorem zz7(BRX hd)(h2:AR6)(ne:a≠e)(he:TK e=Β oe)(hde:oe.data= .ACY ws)(hz:2<ws.size)
  (h:E (B0 e) (VX (Ő e (Obj.mapFields (·.setIfInBounds 2 (.ref a)))))):AJY (Ani (α:=α)) e:=by
 simp only [Ani];refine ft A8r;rw[hh];have hne:(ATf !=Pp e)=Θ:=DS ne
 simp only [hne,kB];refine z6 (AtI A9N AnK zxo ?_);unfold Builtin.«proto.unchain»;refine Aai ho hd h2;show HZ BF
 refine AFn;refine z6 (z6 (A7K he ?_));rw[hde];show m_ (ALG (2<ws.size));show HZ hz;exact wpAny_update he (AZI h)
#where
def Dr(i:Ζ)(t:pP):aC:=sQ t tr (((∀d,tr≠ NY)/\A2h tr)/\∀a bs,ApA OC tr)
theorem TR.cons(A2l):∀{t:T} {v:V} {as:BH},Ϥ ->((∀d,t≠ NY)/\A2h t) ->∃a bs,as=ύ
 | NY,_,_,_,n=>pd Z (n.1 d)
 | .kt d,_,_,_,n=>pd Z (n.2 d)
 | dq,_,_,h,_=>A3p
 | ic,_,_,h,_=>A3p
 | n_,_,_,h,_=>A3p
 | .ob _ _ _,_,_,h,_=>by obtain⟨b,_,_,_,_,e,_⟩:=h;exact EV _ e
theorem yan(AGF){e:AG}{AB:AR}{tn:pP}{i:Ζ}{x:Ξ}{IU :AR}(hN:pi)(hi:Hk)(hx:AAP)(he:AFz)(hs:AHq (IF (bn IU)):=by rfl)
  (AV9):Ajr Dr tn:=fun z E cx=>
 uH (Ahl hN hi hx LP hs hf) (ag DL DL (AwV (by
  show P8 a bs Z r1.cons mM;exact BTJ OC (ut a bs))))
structure KC (A4b zf):Ι where
 ex:A4u Bb
theorem KC.mt(BTk C Η){m:Ξ}{k:Ζ}{ps:AA}{sp:zf}(G:KC P w K mg B9 C m k ps sp):Ba P w K mg B9 C m k ps (Ah sp):=dP f fd bd ⟨f,fd,(Ν).imp BEu,AI⟩
def Ga(C:Η)(m:Ξ)(sp:zf)(te:bO):pP:=Afs (AB_ (sp [ZN] (fun t=>(E_ t)) fun Cx=>E Ω Cx))
section
variable{X:Cx}{F0 H0:Hp}{o:AG}{AB Ic:AR}{m:Ξ}{C:Η}{ps:AA}{k:Ζ}{sp:zf}{te:bO}
theorem ye7(G:AVc KC)(hc:UI)(hr:UB)(ho:ABf)
  (ht:EW Ahh=(do
   let ov<- EW o
   ABa
   let (f,first)<- AB' pl
   ACJ []):=by rfl):
  AKH Ahh (Ga C m sp te):=by
 show AE_ fa fd bd;show w4;refine AOX (AVg ho (∃F1 Ω d,AKD/\gm/\Rep AE F1 d v/\ (WB ZN (AB_ A1m))) I Ayy) BSp
 cases d with
 | DJ C' fs ds=>
  show NW Z y q TQ rd;show AkP (Ax4 NS Ν);refine BSe;have hs:Bb AE sp SY H1 Q (fun C dx H' =>∃x F',E Ω x/\Gr F1 H1 F' H' /\AQ_ H1):=⟨F1,_,_,_,HP,rD TQ II,AI,fun t v as F' H' gr nd hn rt hp=>kk t Ω F' H' v as AKj Abk nd BJD rt hp,AlA⟩
  have hl:AGY [ATf]=YO:=B1 yY (lS (AK).len hs)
  have hbs:=UF s1 SY AIv hl;show ģ;refine AOI ((AK).run X.A MM s1 H1 ASA SY SY Q) I1.env0 AwA hs;cases r with
  | YN e=>exact AiH H1 hq
  | ok fl=>
   cases fl with
   | DM u=>exact A9h hq
   | MG=>show RE
   | brk=>show RE
   | No=>show RE
 | _=>show ē
#where
def zj:D ->ã (DI×AJ)
 | r8 xs=>Β ARB
 | AgZ=>Β ARB
 | _=>Ε
def tO:DI ->AJ ->Key ->G_ D
 | ABY,Sn,k=>if k' =k then Β x else tO ks xs k
 | _,_,_=>Ε
theorem RB(MC){d:D}{v:V}{ks:DI}{xs:AJ}(h:Ap7)(r:NL):∃a vs,NI/\Rd F a Ç/\Z'/\tF:=by
 cases d with
 | eN ks' xs' =>
  show Χ;obtain⟨a,vs,Z,e,l,rs⟩:=r;exact⟨a,vs,Z,.AV e,l,rs⟩
 | vH ks' xs' =>
  show Χ;obtain⟨a,o,vs,Z,e,l,rs⟩:=r;exact⟨a,vs,Z,aI o e,l,rs⟩
 | _=>cases h
theorem zs7{K:Φ}{F:Hp}{k:Key}:A5a DI ((∀d,AyG tO ->Axj AkB)/\ (tO ks xs k=Ε ->AkB=Ε))
 | [],xs,vs,_=>by
  refine⟨DC d h,Adc⟩;cases h
 | EH,[],vs,r=>by
  subst r;refine⟨DC d h,Adc⟩;cases h
 | ABY,Sn,vs,r=>by
  show ĥ r;have ih:=BMY k r2;unfold jx at ih⊢;show Avz;unfold tO;by_cases q:k' =k
  ·refine⟨DC d h,gu ?_⟩
   ·rw[WO] at h;cases h;exact⟨v,DS q,r1⟩
   ·rw[WO] at h;cases h
  ·show EL q;show BAK;exact ih
def KD:FC:=Ï (∃ks xs k d,HR zj ARB/\y=j6 k/\AyG tO/\P d)
def KH(neg:AO):FC:=Ï (∃ks xs k,zj y=Β ARB/\x=j6 k/\Ϟ (Þ AG' AG'))
def KJ(td ty tx:bO):bO:=ZE td (A2Z (gt ty kd (tx A_ (fun df Γ3=>∃k,kd=j6 k/\P ((tO ks xs k).Pw df) Γ3) E)))
def zz6:Pc:=si EK (A2Z (WS P1))
section
variable{X:Cx}{F0 H0:Hp}{a b o e f:AG}{AB Ic G1:AR}{ta tb td ty tx:bO}
theorem ybg(BTt):BBL KD:=fun z E cx=>
 lN (DH yaw hu KK WI hs) (Hm Fi Fi (ANt (by
  obtain⟨ks,xs,kk,d,e1,Z,p⟩:=h2;show LL c vs w (RB e1 (p_ s2));have ev:=I8 r2;subst ev;show C6 v ((zs7 Kb).1 d AK);exact⟨c,v,Z,.AV ⟨_,kk,JF yy BE,Z,(Ν).i9⟩,AqD AI BS⟩)))
theorem ymg(hu:UC)(ha:UD)(hb:é)(hm:AJ4 .In b):aa (AJ' a .In [b]) (cT (cB (KH Τ) ta tb)):=fun z E cx=>
 NQ (AeA (ANw (DH yki) hu) hm) (Hm Fi Fi (ANt (by
  show ą ks xs kk e1 hp h2;show LL c vs y (RB e1 r2);have ev:=I8 r1;show BUH)))
theorem yh2(hu:UC)(ho:Dx o td)(he:zh ty)(hf:Dx f tx)(m:BUJ):Dx (ARO "get" [e,f]) (KJ td ty tx):=fun z E cx=>
 lN (ANI yc2 (N_ ho) LP hf ⟨m.base,m.few,m.line,m.trees⟩) (Hm Fi Fi (AJF d1 v1 (by
  show AE_ ks xs h1;show LL c vs w (RB AK r1);exact⟨c,Z,.AV (Ú Awt),F1,Ω,_,R1,BS,fun d2 A_ F2 H2 v2 R2 s2 r2 h2=>⟨F2,A_,_,R2,h2,fun d3 Γ3 F3 H3 v3 R3 s3 r3 h3=>by
   show L6 kk hp h3;have ev:=I8 r2;subst ev;have q:=BMY kk ((Kb).up (kH s3));refine AAk (BXK (JF (AiS R3.g) BE));cases el:tO ks xs kk with
   | Ε=>
    rw[FL el];rw[el] at hp;exact k d3 Γ3 F3 H3 v3 R3 Agh r3 hp
   | Β d=>
    show AQ v y (DD d el);rw[Ν];rw[el] at hp;exact k d Γ3 F3 H3 v R3 Agh AI hp⟩⟩)))
theorem ygw:AG9 AH7 zz6:=by
 show ar;show BD zz6;show EO
 ·show AJ6 rd rs;show ADz ks xs w;show HA c vs Z y (RB BE rd);show Si;cases rx;refine ynz I (JF sF Ν) fun t s' I' =>⟨.AF P1,H,I',E9 t,AP7 D5⟩
  show AaT A3
 ·exact Cf
#where
section
variable{X:Cx}
theorem zyv(he:eJ)(I:AW)
  (h0:te σ H Q0) (h:∀v H1,Q0 v H1 ->Azh (Rd H1 a SG) (∀(s1:AC) (ws:Au1) (ep:Ζ) (r:Η),AGQ s1 ->AQv ->BQ AQm A1H Aq5 (s1.heap.IsValuesView r a) (OE r s1)))
  (J':AQl A9l=EW e) (bb:AZw):
  zo (Ū Aa_) Q:=by
 refine AkK (cM (VW he _ I h0) Aqg);obtain⟨x,H1,I1,r1,q0⟩:=Ch;obtain⟨a,Υ,z⟩:=h x H1 q0;have ex:=z.1;subst ex;show AxJ;obtain g:=Ax5 z.2.1;refine BSm;show BUj (M4 AY6 z.2.1);have vw:BJQ:=hG;exact z.2.2 _ ws ep _ (AmT sP) ϥ hz AK AsO vw
theorem z6t{ks:DI}{vs:AL}{ws:Au1}{Ap:Hb}(hkl:Z')(kv:KV (OZ vs) ws)(h1:AZT=y0)(h2:∀(i:Ζ) (u:AD),D7 Ap u ->∃k,AKw (k,u)):E6 vs Anm:=by
 have hl:=y4;show BCb hkl hl;refine A4m (ApM (PH acc.toList.length AZT jv))
 show tj k e3 (h2 i u (c_ APc e2)) v y Ax6;show AUm (Wh Ν).2 e1 AI
theorem yex{e:AG}{te:TE}{Ic G1 AB p:AR}(hc:HV)(hg:Aez)(hm:Aeg)(he:eJ)(BGQ)
  (AlH):
  PE X BM7 (b9 te v (∃(a:Η) (ks:DI) (vs:AL),NI/\Rd H1 a Ç/\Z'/\BQy vs)):=by
 show d5;show BV (Aw0 BF BF) (AsE ?_ he2);show Ay';refine zyv he I h BLD J' bb;show UK a ks vs hq;refine⟨a,OZ vs,Ν,A3,fun s1 ws ep r I1 hsm hz kv hd vw=> ?_⟩;refine Aej;have Wi:=y4;refine W.kdl_call (A5R Bda) BZP AyW DF fun h' tk Ap c TU hg hac=> ?_
 have hv:=z6t ED kv hac.1 hac.2;have IK:=hv.length;show BCb ED hz;have I2:N9 (br H1 DZ vs) (ADM s1 h' tk):=
  A_H TU JI (fw _ _ _ Ä (BLb L7))
 exact PF (.AT DZ) I2 (NO _ AoW)
theorem yim(hc:HV)(hg:Gl X xk)(hm:OG xk)(he:eJ)(hb:AoS xk (q_ xk):=by show ADH)
  (AlH):
  PE X BPw (b9 te v (∃(a:Η) (ks:DI) (ns:F9),NI/\Rd H1 a (.dK (OZ (N3 fi)))/\P1=J_/\Q AtD H1)):=by
 show d5;show BV (Aw0 BF BF) (BbQ ?_ he2 Z);show Ay';refine zyv he I h BLD J' bb;obtain⟨a,ks,ns,z⟩:=hq;refine⟨a,OZ (N3 fi),z.1,z.2.1,fun s1 ws ep r I1 hsm hz kv hd vw=> ?_⟩;refine Aej;have Wi:=y4;have hlk:y0=J_:=by rw[<- Wi,APk,HL,<- Db z,AC_]
 have K:=A5R (Lu Bda BA EA w X.w r r d a);refine call_sum_walkAnyS ?_;obtain⟨oI,St,g⟩:=K.iter X.A.in1 s1 BZP AyW;refine CC _ _ ⟨DZ,_,_,_,_,_,_,BEb,Z,(g.2.1).toS,ϥ,IO,A0 i u hu,A0 s' t' hm'⟩
 ·rw[YI];rcases UO with e | hb
  ·rw[e];exact AFh
  ·rw[AI' hb];exact AIy (K.there _ AyW).2
 ·show tj k e3 hu v y Ax6;have e5:=(Wh Ν).2;rw[M_] at e5;cases en:ns[i]? with
  | Ε=>rw[en] at e5;cases e5
  | Β n=>
   rw[en] at e5;cases e5;show Ö (A6b (qV i 0) t);show ASw en;exact AI
 ·have hk:AqW (MW s'.heap.get?):=Tl (hm'.heap b o (fun hI=>(Ϩ zK e (by rw[AI' hI];exact zB _))) aT)
  rw[hlk,yax ns _ (fun i _=>Z),Moved.eq_with hm'];exact zr2 (s:=s1) (v:= .AF ns.sum) I1 hk LG (KL z)
#where
def Cg(UQ):dH:=ZE te (A2Z (E_ xs))
def KN(UQ):bO:=ZE te (∃ks xs ns,Ap7/\Ahr/\E_ AtD)
section
variable{X:Cx}{F0 H0:Hp}{e:AG}{Ic G1 AB p:AR}{te:bO}
theorem z3g(hc:HV)(hg:Aez)(hm:Aeg)(he:M0)
  (AlH):
  Ż BM7 (Cg te):=fun z E cx=>
 lN (DH yex hc hg hm LP Md J' bb he2) (Y2 wY (by
 show Se wY;refine Ę;obtain⟨ks,xs,t⟩:=h1;show LL c vs w (RB FK r1);refine⟨c,ks,vs,Z,Awt,EM,ArF⟩;show EG (Ih R1 hq0 Kb);exact k _ Ω F1 _ q _ Ν s1 A3 ED Q1 Kb uS t.2))
theorem yhh(hc:HV)(hg:Gl X xk)(hm:OG xk)(he:M0)
  (AlH):
  Dx BPw (KN te):=fun z E cx=>
 lN (DH yim hc hg hm LP Md J' bb he2) (Y2 wY (by
 show Se wY;refine Ę;obtain⟨ks,xs,ns,w⟩:=h1;show LL c vs y (RB BE r1);show ND (zoo CO EM);exact⟨c,ks,ns,Z,JF HP Ν,BZM A3,AQa II Kb⟩))
#where
theorem yks(MC)(k:Key):rb (j6 k) (kV k):=by
 cases k with
 | AV i=>rfl
 | CB x=>rfl
def KQ(tn:pP):bO:=Ain (bq t eB (E_ A0i))
section
variable{K:Φ}{F0 H0 F H:Hp}{σ:St}{Γ:Ć}
open yv in
theorem SR.nailU{w:HO}(R:FB)(hn:ATN A1u):
  ∃F',F6 /\fT F' (AEQ a w)/\GS F' w/\ (HE bs (gS ->∀u,wP ->VY F'))/\A2U ύ:=by
 have sF:bj (sw (wn b a w AjR)):=QU (by
  show sh (b=a) Adg AjR;rw[BGa,BO3 hb]
  exact e)
 refine⟨_,sF,BUa R.chg w,My,LJ b hb z u hu,IO⟩
 ·show ABc (b=a) Adg AjR;by_cases hb:b=a
  ·subst hb;rw[My] at e';rw[j4];exact e'
  ·show BMo e' Awm
 ·show ABc (b=a) Adg AjR;by_cases hb:b=a
  ·show Mo hb (hn b zY).2
  ·rw[ARK] at e';split at e'
   ·show AAa hm (hn b (zX _ hm)).2
   ·rw[n] at e';cases e'
 ·exact(Ps z).Kk ((M1 hb).Kk hu)
 ·rw[į,not_or] at hb;exact(Ps hb.1).Kk (Ps hb.2)
theorem SR.nail(R:FB)(nd:Auc)(hn:ATN A1u)(ea:Th Ç)(hkl:Z')(r:Ajs):
  ∃F',F6 /\fT F' (AEQ a AcQ)/\Rep K F' A0i EX/\A2U ύ:=by
 show C6 F' (R.nailU (w:= .frz o Ç) hn);exact⟨F',Ν,A3,⟨a,o,vs,Z,ED,hkl,AIp Ν ts vs bs (fun c hc=>Q1 c hc (AGd ABg hc)) r⟩,uS⟩
#where
section
variable{X:Cx}{F0 H0:Hp}{e:AG}{st:AM}{tn:pP}{ts:aC}
theorem yi9(he:AFz):zh (KQ tn):=AyM (by
 show Se hq;refine cM (AVg he (Azh (GS H1 SG) (∀o,Q EX Axy)) I A0d) (AEU Ch)
 ·split at h1
  ·rename_i ks ts;show AHu;refine gv a ea (fun o=> ?_);show DO F' w (R1.nail (o:=o) nd hn ea hkl r) (k _ Ω F' _ _ EM (rV BE) nr h1)
  ·exact C5
 ·obtain⟨x,H1,I1,r1,a,Υ,ex,ea,q⟩:=Ch;subst ex;show E7 AP' r1;obtain⟨_,_,ws,kv,o,es,ep,y⟩:=BAz;exact PF D8 BNP (q o))
#where
def Um(i:Ζ)(tk tv:bO):aC:=AgC ((∃as t,Ŭ Ω as t)/\gt tk kd (∃k as ks xs,kd=j6 k/\D7 A_ (g9 as ks Aty)/\ABG/\LZ (Anb i (g9 as Aws A'B))))
section
variable{X:Cx}{F0 H0:Hp}{ke FF:AG}{AB kK IU :AR}{x:Ξ}{i:Ζ}{tk tv:bO}
theorem yey(hu:UC)(hN:Hk)(hv:NN)(hk:Ayc)(fI:Aib)(hs:AM' F7 ke:=by rfl)
  (Ab3):AKM (wt F7 ke) (Um i tk tv):=fun z E cx=>
 uH (ANI YK Sj Adx fI hs) (AN_ Ch Ch DL (by
  obtain⟨⟨as,t,e0⟩,q⟩:=DL;obtain⟨o,e1,w,Z,_⟩:=å e0;refine⟨w,e1,F1,Ω,_,R1,q,fun kd A_ F2 H2 y R2 s2 rk q2=> ?_⟩;show ą kk as' ks xs p q2;obtain⟨o,e3,w',Z,nd,hn,r⟩:=R2.sl i _ AK;rw[e1] at e3;cases e3;show AHu;show AQ Z rs (Z6 r);have ev:=I8 rk;subst ev;refine gv a (AkR kk ea hkl NS) ?_
  rw[zwj hkl];refine SO (R2.wrT AK e1 (ë (Ś [a] (.eN ks Aty)) a zY) (t:= .tr [a] (AEl (oh ks kk) (lG ks xs kk d).B_)) (ABZ nd hn) AL4) Ty UF;exact ASg a _ (z1z hkl) (T4 (zt6 rs (rd.up s2)))))
#where
def zxx:Q4:=si EK (∃xs:AA,∃ys,zj d=Β (JY .CB,ys)/\AZW/\BZb/\∀ms:AA,APV xs ->Ag0 ->Abi SV)
inductive Ht (AWr):Ι
 | mk:∀(q:Η) (Υ:mS) (xs:AA),Avh ->(Rd H q (.dK Υ)) ->JJ (kvs.map (·.1)=xs.map .inr) (AZW) (BZb) (∀(l:Η) (ms:AA),ATl ->APV xs ->Ag0 ->AGo BDv) (AKE Ht)
def Uo(X:Cx):oo:=AUZ Ht
theorem z52(io):Aho Uo:=by
 rintro Μ s σ H xs us Q I r ⟨q,Υ,ys,e0,hq,hk,nd,h64,k⟩;subst e0;show Si;cases rx;obtain⟨hz,hsm,ws,kv,ob,es,ep,hd⟩:=M4 IB hq;obtain⟨ho,hec,hdt,hko,hpr,_⟩:=hd;have Wi:=y4;have hlk:xp=OX:=C9 (e9 AYg hk)
 show GL hls (E1=y0) (by rw[<- hpr.length,jv]) line AMO De (BQ7 ⟨ob,ho,hec,hdt⟩ DF)
 show GL rv (Abe AZX HM) (by
  have l1:Ayl=OX:=HL ..;have l2:APg=E1:=BZs hv jv
  refine A4m DF
  show AdO hv e2;cases ee:AW4[i]? with
  | Ε=>rw[ee] at e2;cases e2
  | Β e=>
   rw[ee] at e2;cases e2;have hi:i<y0:=by
    have:=dr ee;show BY_
    simp_all
   have e3:AKw ws[i]:=zZ hi;have e4:=(hpr.get? ee e3).1;obtain⟨v5,e5,_⟩:=Ax6;have e6:D7 (kvs.map (·.1)) ws[i].1:=BY8 e5
   show AdO hk e6;rw[M_] at e1;cases ey:ys[i]? with
   | Ε=>rw[ey] at e1;cases e1
   | Β y=>
    rw[ey] at e1 e6;cases e1;have e7:ws[i].1= .CB y:=C9 e6.symm
    have e8:wU ws[i].1 e.key=Θ:=e4;rcases G8 e8 with ⟨j,t,z,_⟩ | ⟨x,t,z,zz⟩
    ·rw[e7] at z;cases z
    ·rw[e7] at z;cases z;show HK (APi y) e.key;rw[zz];exact mm) IK BAI BAk ⟨T5 ys,_,_,B1 IK (z1q nd),L7,z4k rv,BZC,AlM hl⟩
 have hlt2:AT4:=A3e;have hix:AHU (i< Ayl):=ib (Apo HL IK Ajp)
 have hrv:=zue rv hix;rw[zsc (d:=D') BKz] at hrv
 have hms:(Of D' ys is).qf ys:=zrv (Q_ IK a1)
 have Fr:BGk:=by show AGH BdF;simp_all
 have I2:ASS l Agt:=
  BBt Agt Fr hrv
 exact PF PP I2 BQ5
section
variable{X:Cx}{F0 H0:Hp}{a:AG}{AB p:AR}{t:dH}
theorem ycu(BQf):ALA (AK9 XY) zxx:=fun z E cx=>by
 refine Ajf (ANr Nv (z52 hc) hb BF BF)
 show ATz;refine AT3;unfold zxx at h1;split at h1
 ·show AJ6 r1 r1;obtain⟨xs,ys,q⟩:=h1;show LL c vs w (RB DD r1);refine⟨c,_,xs,Z,Awt,?_,SH,Db q,LJ l2 ms hl2 pm pw⟩
  ·rw[BdX DF]
  ·show AyC R1 hl2 (AWO Rx F1) ms l2 (Rx ms) (KL q ms pm pw)
 ·exact C5
#where
theorem hu1(h:AJf n):n+1<Ō:=zN (Nat.add_le_add_left (AZr (1<=21)) _) h
theorem qv(i:Ζ)(hN:Hk:=by exact Z)(hv:NN:=by first | exact Or.inl Z | exact Or.inr (Or.inl Z) | exact Or.inr (Or.inr Z))(Ab3):Dx nh Adj:=ymz hN hv hd hcd
#print L3
namespace Hd
open H_ AHy Alb IR
theorem yft{l:Ar5}{i a:Ζ}(e:ϒ (JV i l).pr):∃k,a=i+k/\Iq l k o/\EE o.isFreed:=by
 induction l generalizing i with
 | DU=>cases e
 | AU b r ih=>
  show NR JV;split at e
  ·show DO k w (ih e) ⟨k+1,BG,D5⟩
  ·rename_i hf;rw[VM] at e;split at e
   ·show WU;cases e;exact NV 0 (yT q) hf
   ·show DO k y (ih e) ⟨k+1,BG,AI⟩
theorem ymu(h:AN)(n:Ζ):(cut h n).In h:=MX e (by
 show C6 k (yft e);rw[Ν,Bcj];exact Heap.get?_some_iff.mpr ⟨Q_ APc A3,CO⟩)
noncomputable section
theorem qE(AHX):((AH1 ACO).isNs eQ&&(A5' []:AK3).qE==0,ADb AH1 ACO,(AH1 ACO).nsMap eQ "__annotations__")=(Θ,11,ann):=iE
theorem left
  (e:opening p=plainProg p.main.scope.names) (f:∀s,fenceModules? p s=Β s)
  (hA:∀w os,A1h topGo 12 Ax7 Auh (BR4,⟨denote Uf (cB p),cB p,z,AVn⟩))
  (hB:∀w os,segRun Uf p w 11 ann 1 1 BN3 (blockOf Auf Afu (cB p) z AVn)=Β (gg,BR4,cB p,z))
  (hC:∀w os,(Ta (BM_ os)).abs=BM_ os)
  (hD:∀w os,shot Uf topGo segRunT topRun execs p (Nn openSeen p q RS Xt obs n w) w os=Β ((gg,cB p),(Θ,openGood q RS,good w))):
  BSx p Xt:=fun w=>by
 obtain⟨⟨h,gs,d,k,os⟩,m⟩:=ő (boot_open (N:=40000) e BF f w)
 obtain⟨Z,Z,Z,Z⟩:h=AH1 ACO/\gs=A5' []/\d=boot_drawn/\k=boot_toks:=C9 m.2
 obtain⟨z1,z2,z3⟩:_/\_/\_:=by simpa only [Prod.mk.injEq] using qE w
 obtain⟨⟨fl,S,c,ps⟩,u⟩:=AZZ (hD w os);show AQ s t (ő u.2);obtain g:=AMR t;show AQ v1 v2 (APn CC);obtain v:=AMR g;show EG (AMR v);subst v1 v2;have g1:A1h topRun (30000+2) BN3 (restOf (BaN p++ []) Afu (cB p) z AVn) s:=
  piece_app (by have:=segRun_of u.1;show FI (hC w os);exact At) (piece_nil FK)
 rw[yY] at g1;have g2:=go_top (hA w os) (piece_block (hB w os) g1);have g3:=topRun_mono (40000 - (12+ (1+ (30000+2)))) _ _ _ _ g2;unfold openEnds;rw[m.1];show(topFrom Uf p w 40000 Ax7).B_ _=_;unfold topFrom S0;dsimp only;rw[z1,z2,z3];have g4:A1h topRun 40000 BRj Auh s:=g3;rw[g4];show(È BUt (Β s) Ε).B_ _=_
 rw[EN];show Β (BSt openSeen,ArA)=_;rw[Ν,AI]
#where
open L2 L3
theorem adr_of(h:isRef x=Θ):x=Β (IF (.AT (adr x))):=by
 show BD isRef;show EO
 ·rfl
 ·cases h
theorem ix{_:AZa p}(h:allB l=Θ)(i:Ζ)(e:nth l i=AH5 p):p:=by
 refine AY9 (e.symm.trans ?_);clear e;induction l generalizing i with
 | DU=>rfl
 | AU b l ih=>cases b with
  | Τ=>cases h
  | Θ=>cases i with
   | e_=>rfl
   | fA i=>exact ih h i
theorem zyr{K:FR}{f:Η}{D_:Ξ}{g:ET}(h:fnO K f D_=Β g):∃oc od fd sl,AjN (.func fd) sl/\codeIn K fd.code D_=Θ/\bo keepIn (B0 f)/\JS fd=g:=by
 show BD fnO;show EO
 ·rename_i oc od fd sl e;show EO
  ·show WU;show EG (zA.mp q);exact⟨oc,od,fd,sl,e,Ν,AI,zJ h⟩
  ·cases h
 ·cases h
theorem ybm{fd:ET}{x D_:Ξ}{st:AM}{dV:AD}(h:JS fd=fnOf x D_ AFW Ó kz dV CI CI CI Ε CI CI):
  fd=fnOf x D_ AFW Ó kz dV fd.kwdefaults fd.doc fd.pyModule fd.annotations fd.code fd.closureTuple:=by
 obtain⟨⟩:=fd;injection h with h1 h2 h3 h4 h5 h6 h7 h8 h9 _ _ _ _ _ h10;subst h1 h2 h3 h4 h5 h6 h7 h8 h10
 rfl
theorem fun_of{K:FR}{f:Η}(ABm){st:AM}(h:fnO K f D_=Β A5i):∃fd,Aw3:=by
 obtain⟨oc,od,fd,sl,y⟩:=zyr h;exact⟨fd,⟨⟨oc,od,_,_,_,_,_,_,sl,ybm CO.2,Ν,A3⟩,ED⟩⟩
theorem yel{g g' :ET}{v:AD}(h:g.defaults=v)(e:AdN g CI=g'):g=AdN g' v:=Ar_ (e9 (fun q:ET=>(AdN q g.defaults)) e)
theorem yke{K:FR}{f:Η}(ABm){st:AM}(h:fnD K f D_=Β A5i):
  ∃fd T Uq dn Ur,BND D_/\BJq:=by
 obtain⟨g,v⟩:=AZZ h;have h2:=v.2;obtain⟨oc,od,fd,sl,w⟩:=zyr EN;have b:=ATd;split at h2
 ·show WU;subst b;unfold X7 at q;split at q
  ·rename_i T hT;split at q
   ·rename_i t Uq xs dn Ur eT;show EG (zA.mp q);have q2:=AI;show ND (yT Ν);have q3:xs= #[CI]:=by
     split at q2
     ·show AAa ex (BcF ex)
     ·cases q2
    subst q3;refine⟨fd,T,Uq,dn,Ur,⟨⟨oc,od,_,_,_,_,_,_,sl,ybm (dV:= .AT T) ?_,BE,EM⟩,nr⟩,eT⟩;exact yel hT (zJ h2)
   ·cases q
  ·cases q
 ·cases h2
theorem yak(BNI fnN):∃f,AWW/\fnO K f x=Β g:=by
 show BD fnN;show EO
 ·show AAa e (EV e h)
 ·cases h
theorem ybd(BNI fnM):∃f,AWW/\fnD K f x=Β g:=by
 show BD fnM;show EO
 ·show AAa e (EV e h)
 ·cases h
theorem ym0{K:FR}{x:Ξ}{st:AM}(h:fnN K x=ex x x st):∃f fd,AWW/\AX x x st:=
 let ⟨f,e,h⟩:=yak h;let ⟨fd,F⟩:=fun_of h;⟨f,fd,e,F⟩
theorem funM_at{K:FR}{x:Ξ}{st:AM}(h:fnM K x=ex x x st):∃f fd T Uq dn Ur,AWW/\BND x/\BJq:=
 let ⟨f,e,h⟩:=ybd h;let ⟨fd,T,a,b,c,F,d⟩:=yke h;⟨f,fd,T,a,b,c,e,F,d⟩
inductive RD (K:FR) (x:Ξ) (st:AM):Ι
 | mk:∀f fd,AWW ->AX x x st ->RD K x st
theorem fun_ix{K:FR}{ds:AeL}{x:Ξ}{st:AM}(h:seen K ds=due ds)(i:Ζ)(e:D7 ds (x,st)):RD K x st:=by
 have q:=e9 (fun l=>l[i]?) h;unfold seen due at q;show A'Z e q;show O_ f fd (ym0 (zJ q));exact⟨f,fd,Ν,AI⟩
theorem nthM{α:GG}{l l' :Go}{x y:α}(h:l=l')(i:Ζ)(e:kg l)(e' :D7 l' y):x=y:=by
 rw[h,e'] at e;exact(zJ e).i9
def RG:Sum BI Ξ ->D
 | ALu=> E5
 | lr=> dS
theorem glb_int{K:FR}{h:AN}{mg:DT}{x:Ξ}{i:BI}(X:Sl)(G:AUo)(q:intO (nsIn K eQ x)=Β i):Aae x i:=by
 unfold intO at q;split at q
 ·rename_i j t e;cases (q);exact⟨E5,.AF i t,mg_of X G e,LG,fun F=>SW⟩
 ·cases q
theorem zqq{K:FR}:BQ6 (∃vs,E6 vs xs/\∀F,APy (as.map RG))
 | [],as,h=>by cases h;exact⟨[],C7,fun F=>SW⟩
 | v::r,as,h=>by
  show AVk v
  case AF i t=>
   show A3l;show Ă vs BOm;exact⟨E5::vs,.AU LG BE,fun F=>(AHh D5 F)⟩
  case Ψ x t=>
   show A3l;show C6 vs BOm;exact⟨dS::vs,.AU LG Ν,fun F=>(AHh AI F)⟩
theorem zy8:BQ6 (AFb An5)
 | [],as,h=>by cases h;rfl
 | v::r,as,h=>by
  show AVk v
  all_goals (show A3l;simp [zy8 e])
theorem glb_tup{K:FR}{h:AN}{mg:DT}{x:Ξ}{as:D9 AdC}(X:Sl)(G:AUo)(q:BCp)(l:tupO K BOc=Β as)(hz:D4 An5):BP K mg x (ck as.map RG):=by
 unfold tupO at l;split at l
 ·rename_i t od xs n sl e;split at l
  ·rename_i et;subst et;exact L3.glb_tup (mg_of X G (adr_of q)) e (by have:=zy8 l;show BY_;simp_all) (zqq l)
  ·cases l
 ·cases l
theorem walk_ex{l:AYv}{n k:Ζ}{q:A6}{RS:AA}{XP:AQ1 (DT)}{YP:AQ1 AZ}{d:Ald}{Fx:Do AZ FR}{CX:AZ ->MP}{sp:FR ->Sp}{x:Ξ}
  (hn:AyV) (hn2:D4 n) (hdf:A_N) (hr:BZE)
  (hY:∀(w:AZ) (h:AN),YP w h ->∃K:FR,Sl/\Fx w K)
  (F:∀(w:AZ) (K:FR) (mg:DT) (fa:Η) (h:AN),BQ (Fx w K) Sl AUo BAa (∃fd:ET,(BJF)/\∀b:AN,K.In b ->AaV b.Ns ->fY AIm w K mg b (CX w) k fa fd [x] (sp K)))
  (hsp:∀(K:FR) (H:Hp) (a:Η) (ns:F9),AfV ->Only H ->Aj4 ->sp K SY H Ay0 dc)
  (hCX:∀(w:AZ) (H:Hp) (s:AC) (e:AD) (s' :AC),CX w [] H s (dc) e s' ->D6):
  BJp:=by
 refine Att.CZ hn hdf fun w Jn GH mg mb fa o pm cd doc a vs ns G Y ho hd hcd hmg hobj hints Fr hg=> ?_;obtain⟨K,p⟩:=hY w _ Y;show C6 fd (F w K mg fa _ BS AK G.T.g hmg);exact yff AK G.T.g G.T.b G.T.builtins G.T.nolimit hg hobj hints (zQ Fr hn2) hr AI Ν (fun H hO hS=>hsp K H a ns Fr hO hS) fun H e s' =>hCX w H GH e s'
theorem start_binds{K:FR}{fd:ET}{x:Ξ}{st:AM}{f:Η}(F:AX Su Su st)
  (h:BUh u AD (bindArgs (fnOf Su Su AFW Ó kz CI kV doc pm an cdv ct) (HG [u])=IC [(x,u)])) (s:AC) (u:AD):BXk:=by
 show AHw y F.ex;exact .of_eq (h kV doc pm an cdv ct u)
theorem holds{l:AYv}{q:A6}{RS:AA}{β:GG}{obs:AwY}{good:AZ ->β}{n:Ζ}{d:Ald}(said:l.wellSaid=Θ)
  (L:BSx l.row.prog Apq)
  (hd:defOf q l.row.name=Β (d,[])) (hp:l.row.prog.theDef l.row.name=Β (d.params,d.body,d.scope)) (hk:kwWritten? d.params.kwonlyargs d.params.kw_defaults=Β [])
  (ok:LN (chainsOk q&&opensWell l.row.prog) (frees Am1&&l.row.within.isEmpty)) (hb:l.row.prog.bare) (hw:l.row.toRowW.promised) (wr:EE l.row.writes)
  (walk:WalkO q RS BYn (fun w h=>∃K:FR,Sl/\AWm) Am1 d [] (fun f vs=>A7' f vs)):l.Holds:=
 holds_law said fun k1=>holds_open (XP:=rS IS) (YP:=fun w h=>∃K:FR,Sl/\AWm) L (fun _ s e=>(EV (ymu A7 n) e)) (sL hz k (AUH K ⟨K,(Ν).keeps k,AI⟩))
  (KE _ N2) (sL _ _ N2) hd hp hk (fun s _=>recFacts_of Z) (ADq wr) k1 ok hb hw walk
#print Hd
namespace L3
open H_ Nl IR L2
#print L3
namespace L3
#print L3
namespace L3
open H_ Nl IR L2
inductive RN where
 | pl (d:D) | nt (ts:Ev)
abbrev SpW:=AxZ RN
abbrev TRN:=AEp RN
def ab4(AGB)(t:TRN)(E:XW):TE:=ADv (∃F Γ P,FB/\AzF/\ (∀d A4 F' H' v,AEO mx h_ (P (.pl d) A4) ſ)/\
 ∀ts A4 F' H' p vs as,mx ->F6 ->F' p=Β (.BM vs) ->BQ Ŕ BLg (Ahn ts as) (P (.nt ts) A4) (OE p H'))
def QRN(UE)(e:AG)(t:TRN):Ι:=AU4 ab4
def gA:aC:=dc
theorem Fe(AGF){st:AM}:bt st gA:=fun _ _ _ _ _ _ _ _ _ h=>by obtain⟨_,_,_,_,h,_⟩:=h;exact Cf
def Us(UQ):bO:=t9 ml (E_ (.bl (A9u z)))
def z2a(ANs):bO:=BJa (P (.bl (A9v x y)) A_)
def uU(ANs):dH:=BJa (BHF (P ((APo x y).B_ SV) A_))
theorem zvw(MC):KO xs AA vs AL (APy AM1) (vs=JY SV)
 | [],_,h=>Nc
 | Sn,_,h=>by
  show As2;show ĥ h;rw[r1,zvw r2];rfl
theorem zyt:∀l:AtK,E6 ((l.map (·.1)).map V.str) (A9t l)
 | []=> C7
 | (_,t)::l=> .AU mm (zyt l)
theorem yc9(x y:Ξ):Cl (Bdb x (APp x y 0 kQ BYj) A9w)<=kQ+2:=by
 have h:=StrLaws.occ_length_le x y 0 kQ BYj;rw[StrLaws.partsBetween_eq];have:∀(cuts:He) (a:Ζ),Cl (Bdc x A9w a cuts)=cuts.length+1:=fun cuts=>by
  induction cuts with
  | DU=>intro a;rfl
  | AU c r ih=>intro a;show Cl (_::Ee Bdc)=_;rw[IY,ih];rfl
 rw[At];simp_all
section
variable{X:Cx}
theorem ycz:BSn "str.split" (OB (APo a b).B_ SV):=by
 rintro Μ s σ H x xs v us Q I rx rs ⟨a,b,e1,e2,hb,hl,q⟩;show ABo;show ik rx;show AVG;show AQ t' Z ru;have k1:LE 1003:=De
 have hsz:=yc9 a b;have C8:∀(l:AtK) (tk:Ζ),l.map (·.1)=APo a b ->AOd<=1003 ->my ϻ (AKW (AJZ (Â A9t l)) tk):=fun l tk e hn=>by
  refine AAQ (I.lnew (ys:=(l.map (·.1)).B_ APi) (t' :=tk) (zyt l) (by simp;exact AKs)) ?_
  rw[e];exact q _ AI2
 cases h1:(Κ (APq<AZb) || Κ (Bdd a<Bdd b))
 ·cases hf:(APp a b 0 APq BYk).Amr
  ·refine A3Y (meets_str_split_sep a b t t' h1 hb hf A2 A2) ?_
   rw[strsFrom_eq];refine C8 _ _ (fS Bdf _ _ (BL3 (Ps (Bdg hf))).i9) ?_;have:=e9 AYg (Bdf LX (Bdb a (APp a b 0 APq BYk) AZb));show FI HL;omega
  ·exact A3Y (meets_str_split_not_found a b t t' h1 hb hf) (C8 [(a,t)] _ (BL3 (M1 hf)).i9 BN)
 ·exact A3Y (meets_str_split_cannot_occur a b t t' h1) (C8 [(a,t)] _ (M1 h1).i9 BN)
#where
section
variable{X:Cx}{F0 H0:Hp}{o e:AG}{Ic G1:AR}{te ta tb:bO}
theorem z5s(he:ABf)(J':ac o "isdigit" o=EW o:=by rfl)(ALS):Dx (ű (rL o "isdigit") []) (Us te):=fun z E cx=>by
 refine lN (Lu yf2 X bi T Pl id "str.isdigit" r (Aat (∃c:Ξ,û c/\vs= []/\Q (.bl (A9u c)) H)) APr PySem.F.slot_str_isdigit PySem.F.type_str_isdigit ?_ LP J' bb) (Y2 AOQ Ę)
 ·rintro Μ s σ H x xs v us Q I rx rs ⟨c,e,e0,q⟩;subst e e0;show hW;cases rs;exact SC.isdigit (è q)
 ·split at h1
  ·show Mo r1 (PF Z Z (AFw II))
  ·exact C5
theorem ya0:Acr Bdh (∃a b:Ξ,û a/\vs= [.Ψ b]/\AFo (A9v a b)):=by
 rintro Μ s σ H x xs v us Q I rx rs ⟨a,b,e1,e2,q⟩;show ABo;show ik rx;show AVG;show ť t' ru;exact SC.startswith (è q)
theorem ybq(AWN)(J':ac o Bdi o=EW o:=by rfl)
  (YR:LN (ABM [e] all (! x.1)&&ACH) (ACI [e] 30):=by rfl)
  (ϡ) (AV8):
  Ajz Bdi z2a:=fun z E cx=>
 lN (AWx Pl Bdh APr PySem.F.slot_str_startswith PySem.F.type_str_startswith ya0) (Hm wZ wZ (Qb (by
  cases d with
  | Ψ x=>
   subst r1;refine AiI;cases y with
   | Ψ y=>
    show Mo r2 ⟨x,y,Z,Z,A4k h2⟩
   | _=>show AMF
  | _=>show dv)))
theorem zse(AWN)(J':ac o "split" o=EW o:=by rfl)
  (YR:LN (ABM [e] all (! x.1)&&ACH) (ACI [e] 30):=by rfl)
  (ϡ) (AV8):
  Ż (ARO "split" [e]) (uU ta tb):=fun z E cx=>
 lN (AWx Pl "str.split" APr Bde PySem.F.type_str_split ycz) (Hm wZ wZ (Qb (by
  cases d with
  | Ψ x=>
   subst r1;refine AiI;cases y with
   | Ψ y=>
    subst r2;obtain⟨h3,h4,h5⟩:=h2;refine⟨x,y,Z,Z,h3,h4,ae⟩;obtain⟨R3,q1,q2,q3,ap⟩:=Ih R2 hp (AWO Rx F2 (APo x y));exact k _ A_ F2 _ p _ R3 Ty q1 q2 q3 (Rx _) ap h5
   | _=>show AMF
  | _=>show dv)))
#where
def qp(n:Ζ):AA ->Ζ
 | []=>0
 | Sn=>kQ+n+qp n xs
theorem zvo(sep:Ξ):∀(xs:AA) (a:Ζ),xs.foldl BID a=a+A_a
 | [],a=>Z
 | Sn,a=>by
  rw[Bbc,zvo sep xs];show BXU a+_=a+ (kQ+AZc+_);omega
theorem z4h(sep:Ξ):∀xs:AA,T' qi sep xs<=A_a
 | []=>Mn
 | [x]=>ASL (kQ<=kQ+_+0)
 | x::y::r=>by
  show Cl (x++sep++qi sep (y::r))<=kQ+_+qp _ (y::r);have:=z4h sep (y::r);rw[A9x,A9x]
  simp_all
def qt(ta te:bO):bO:=fun Γ P E=>ta Γ (fun d0 Γ0=>(bq d0 (.Ψ sep) (te Γ0 (fun d Ω=>(WB AAo (∃xs:AA,A1J/\A_u/\E_ (.Ψ (qi sep xs))))) E))) E
theorem yei{X:Cx}:Acr "str.join" (∃(sep:Ξ) (p:Η) (xs:AA),û sep/\vs= ASN/\ASW AM1/\A_u/\Q (.Ψ (qi sep xs)) H):=by
 rintro Μ s σ H x xs v us Q I rx rs ⟨sep,p,ts,e1,e2,hq,hl,q⟩;show ABo;show ik rx;show AVG;cases ru;show ϲ w hq;show P8 l Z el zy7 BE;have k1:ATe:=De
 refine AEx Bdj Abj PySem.F.entry_str_join PySem.F.args_str_join_2 (meets_str_join_list sep t p l ?_) (E9 ALC)
 ·rw[el];have:ts.toArray.foldl BID 0=qp AZc ts:=by
   rw[List.foldl_toArray,zvo];simp_all
  rw[At];show BYD;simp;omega
 ·match l,el with
  | [],el=>
   cases el;exact⟨ASL (Tb 0<=_),As5 [],H,ADh,LG,q⟩
  | [(y,t')],el=>
   cases el;exact⟨As5 [y],H,I,ATM,q⟩
  | a::b::r,el=>
   have e:Builtin.Str.glued sep ((a::b::r).map (·.1))=qi sep ts:=OM StrLaws.glued_eq_join el
   show D4 (Cl (Builtin.Str.glued sep ((a::b::r).map (·.1))))/\_;rw[e];have:=z4h sep ts;exact⟨BG,As5 ts,H,ADh,LG,q⟩
section
variable{X:Cx}{F0 H0:Hp}{o e:AG}{Ic G1:AR}{ta tb:bO}
theorem Ut(AWN)(J':ac o "join" o=EW o:=by rfl)
  (YR:LN (ABM [e] all (! x.1)&&ACH) (ACI [e] 30):=by rfl)
  (ϡ) (AV8):
  Ajz "join" qt:=fun z E cx=>
 lN (AWx Pl "str.join" APr Bdj PySem.F.type_str_join yei) (Hm wZ wZ (Qb (by
  cases d with
  | Ψ x=>
   subst r1;refine AiI;cases y with
   | A8 ds=>
    show L6 xs p h2;show T0 a r2;show ND (zvw rs);exact⟨x,a,xs,Z,Z,AnV hq,AK,A4k BS⟩
   | _=>show AMF
  | _=>show dv)))
#where
def z4e:Pc:=si AfL (∃n,A9y z=Β n/\BCW/\WS n)
def Nj:Pc:=si [E5] (Bdl<1920/\AAp (AyU i))
section
variable{X:Cx}
theorem yk9:AgB xi z4e:=by
 show ar;show BD z4e;show EO
 ·show AQ n y h;show BKN (W.KIN.call_text Ν A3 (tN UN (AP7 CO)))
 ·exact Cf
theorem Uu:AgB Pl Nj:=by
 show ar;show BD Nj;show EO
 ·show BKN (PySem.P.str_of_int AS (tN We ATx))
 ·exact Cf
theorem Uv:ALD Pl Pl:=FM
def Ow:FC:=BMS (APp b a 0 AZb 1).Amr
theorem ymx:oa In Ow:=by
 rintro Μ s σ H x y u w Q I rx ry ⟨F,d1,d2,P,sF,r1,r2,h,k⟩;show BD Ow;show EO
 ·show Ā;show hW;show ğ;exact PySem.P.in_str Aqm
 ·exact Cf
#where
def z86(mT):dH:=UU (∃xs ys,ds= [LO,nk]/\A3b)
section
variable{X:Cx}{F0 H0:Hp}{a b:AG}{AB p pt:AR}{t:dH}{y3:CY}
theorem yjf(BRv):
  Ai5 AxT (z86 t):=BTB (AkA (by
  show LL xs ys h1 h1;show A5u;exact⟨Θ,Τ,l,l2,us,ZR,Z,Af1,A_9,fun hz _=>(AFw (z04 (t1:=Θ) (t2:=Τ) (fun H s=>Af0) (fun H s=>s.seq DL) rs Hq hz))⟩))
#where
theorem z55:AZp (fillsNumberSlot BYx "mul"):=
 PySem.fillsNumberSlot_seq (id:= A9z) (r:=E2 İ Bdm) Bdn Md Bdo Md
theorem yiy:seqRepeat? BYx=IC (fh A9z):=AvS seqRepeat? (Bdp (T:= MH) (Fm:= "__mul__") (id:= A9z) Bdn Md) (Bdp (T:= MH) (Fm:= "__rmul__") (id:= Bdm) Bdo Md)
theorem yd3(a:BI)(t:Tok)(l:Η)(d:NM)(Lc:Hb)(n:Ζ)(sl:va):
  Meets (Builtin.«int.__rmul__» (HG [.AF a t,PP])) (Ac_ (ARZ {cls:= G' MH,UX:=d,ef:= ApQ,az:=sl}/\Ay9 Value.notImplemented s)):=
 BT8
theorem yfn(t:Tok)(l:Η)(d:NM)(Lc:Hb)(n:Ζ)(sl:va):
  BNA 1 (Avq l s):=
 BT8
theorem yia(k:BI)(t:Tok)(l:Η)(d:NM)(Lc:Hb)(n:Ζ)(sl:va)(h1:2<=k)(h2:EE Anx)(h3:N1*k<=1000)
  (h5:D4 (Amt AkM #[] BH_).qE):
  BNA k (R (.ok (.DM (Pp B2))) (AvQ (qq (AIH MH) (Data.seq (Amt AkM #[] BH_))))):=
 AdK (by
  obtain⟨hp,g,dd,tk,os⟩:=s;show AQ hl h h;have hs:0<N1:=by
   rcases Nat.eq_zero_or_pos N1 with z | z
   ·rw[Array.isEmpty_iff_size_eq_zero.mpr z] at h2;cases h2
   ·exact z
  show D1 hk (k<=1000) (by
   have:u8*k<=N1*k:=Int.mul_le_mul_of_nonneg_right A2 A2
   omega) e1 (EE (Κ (k< -2^63) || Κ (k≥2^63))) (B1 An2 ⟨AUS,AUS⟩) e2 (EE (Anx || k==1)) (B1 An2 ⟨h2,by simp;omega⟩) e3 (EE (Κ (k<=0) || Anx)) (B1 An2 ⟨AUS,h2⟩)
  wp_walk
  refine Ayt e1
  wp_walk
  refine Ayt e2
  wp_walk
  refine Ayt e3
  wp_walk
  refine BKM A2
  wp_walk
  refine BKM (by unfold Builtin.Tuple.tupleTooMany;have:ATe:=BF;simp;omega)
  wp_walk
  exact AcS)
def Ds:FC:=ASt LO vy (1<=k/\BYd/\BAn/\P (.BM BAj))
theorem yb2(xs:Go):ui 1 xs=xs:=FA
theorem ygn{X:Cx}:AHK Mult Ds:=by
 rintro Μ s σ H x y u w Q I rx ry ⟨F,d1,d2,P,sF,r1,r2,h,k⟩;show BD Ds;show EO
 ·rename_i xs n;show HA h1 h2 h3 hp h;have r0:=r1;show T0 l r1;subst r2;cases rx;show ik ry;obtain⟨AH,rv,⟨o,ho,hc,m,hd⟩,hz⟩:=AWR hq;show HA cls UX ef az o;cases hc;cases hd;have hl:=L_;have IK:=APT;have k1:ATe:=De
  refine wpAny_binaryOp_repeat_ref (T:= MH) (U:= xi) BF ASG (fun s' =>A7r s' n t) z55 PySem.F.fills_int_mul Bdr yiy PySem.F.slot_int_index.lookup
   (Amu Bdr (A7r s n t) PySem.F.entry_int_rmul (PySem.F.args_int_rmul_2 _ _) (yd3 n t l UX Kj m az) ⟨ho,Z,ASG,?_⟩)
  by_cases e1:n=1
  ·subst e1;refine BNk (yfn t l UX Kj m az) ⟨ho,PP,H,I,Z,zk r0 ?_⟩;rw[AFq (u8).TM 1,yb2] at hp;exact hp
  ·show GL f0 (Amt AkM #[] (AIe ŝ Kj)=AZ4 ŝ AH flatten.toArray) (by
    have:=z0b AH ŝ [];show FI Bds;exact At) Fr (D4 (AZ4 ŝ vs Bbd)) (by
    rw[yi1];have:LF (ŝ*MR)<=1000:=by
     rw[Bdt,Int.toNat_of_nonneg A2,<- hl,Int.mul_comm];exact h3
    omega) (BNk (yia n t l UX Kj m az A2 ?_ ?_ ?_) (E9 ho))
   ·cases AH with
    | DU=>cases rv;cases xs<;>simp_all
    | AU=>rfl
   ·rw[SD,<- IK,<- hl];exact h3
   ·rw[f0,SD];have:=Tk rv.rep ŝ
    simp_all
   ·rw[f0];have gr:=AIn (o:=AIu BFQ) sF AI2;show Ae0 ⟨.AT _,AVr B2 BFQ,AfN (QU rh) JI ⟨Fr,_,rv.rep ŝ,A1d⟩,Z,Ee k gr ?_ hp⟩ _ ((z44 rs ŝ).up KA)
 ·exact Cf
mutual
def Ox:T ->Ζ
 | Adr=>0
 | Wp=>Jb ts+1
 | ABQ=>Jb ts+1
 | AMo=>Jb ts+1
 | ANc=>Jb ts+2
 | nX=>0
def Jb:Ev ->Ζ
 | []=>0
 | RI=>Ox t+Jb ts
end
section
variable{K:Φ}{F H:Hp}
mutual
theorem AZd:BSJ (An5=Ox t)
 | Adr,v,as,h=>g0 AS
 | Wp,v,as,h=>by obtain⟨a,vs,bs,_,Z,_,h⟩:=h;rw[IY,Arp];rfl
 | eB,v,as,h=>BTi
 | ě,v,as,h=>BTi
 | Ģ,v,as,h=>by obtain⟨a,dx,vs,bs,_,Z,_,_,_,_,h⟩:=h;rw[IY,IY,Arp];rfl
 | nX,v,as,h=>g0 AS
theorem fO.len:BSK (An5=Jb ts)
 | [],vs,as,h=>g0 Au
 | RI,vs,as,h=>by
  obtain⟨v,us,bs,cs,_,Z,h1,h2⟩:=h;rw[Ŏ,AZd t v bs h1,fO.len ts us cs h2];rfl
end
theorem TR.root'{F' H' :Hp}{t:T}{v v' :V}{as:BH}(n:Ox t≠0)(h:Ϥ)(h' :ly t v' as):v=v' :=by
 cases as with
 | DU=>exact Iy (AZd _ _ _ h).i9 n
 | AU a cs=>rw[h.root,h'.root]
theorem z4l{F' H' :Hp}{g:Ξ}{t:T}(n:Ox t≠0):∀{fs:AA} {ts:Ev} {vs vs' :AL} {bs:BH},Ajs ->fO K F' H' ts vs' bs ->Akt ->(VC vs).pr g=Aqu vs' g
 | [],_,_,_,_,_,_,e=>AAZ
 | EH,[],_,_,_,_,_,e=>AAZ
 | w8,AMZ,_,_,_,h,h',e=>by
  show ANx us;show bz v' us' b1 b2 eb p1 p2 h';show AN1 (Ad0 q1) (Ad0 p1);show AJW Z (List.append_inj eb (l1.trans l2.symm));show NR dO;rw[kF,VM,kF,VM];by_cases hg:g=f
  ·show AAn hg;cases e;subst hg;rw[show(g==g)=Θ from AnM g,TR.root' n q1 p1]
  ·rw[EJ hg] at e;rw[AY_ hg];exact z4l n q2 p2 e
theorem z95{g:Ξ}{t:T}{d:D}{y:V}(hl:Ox t=0)(rd:rb d y):BUF (Ajs ->Akt ->ė ->
  ∃vs',BN7 /\BCR/\fO K F H (eE fs ts g AT2) vs' bs)
 | [],_,_,_,_,e,_=>AAZ
 | EH,[],_,_,_,e,_=>AAZ
 | w8,AMZ,_,_,h,e,hv=>by
  show ANx us;show NR dO;show Ary;unfold nJ eE;by_cases hg:g=f
  ·show AAn hg;cases e;subst hg;rw[My,My];have:a1= []:=Am7 ((AZd _ _ _ q1).Kk hl);subst At;refine⟨y::us,Z,hv,?_⟩;exact⟨y,us,[],a2,Z,Z,Fu (NE rd),q2⟩
  ·rw[EJ hg] at e;rw[AR_ Ps hg,EJ hg];show Ă vs' (z95 hl rd q2 e Ad7)
   refine⟨v::vs',g0 BE,DS EM,?_⟩
   exact⟨v,vs',a1,a2,Z,Z,q1,Kb⟩
#where
def Bf(BH1):aC:=ANJ (∃as fs ts t,ASX/\ϸ t/\Ox t=0/\ASK/\AVH (À AT2))
section
variable{X:Cx}{F0 H0:Hp}{FF e:AG}{es:CY}{AB kK IU xO Ic p:AR}{x f m:Ξ}{C C2 fa:Η}{fd:ET}{ps:AA}{i k:Ζ}{te:bO}{sp:uz}{t:dH}
theorem zxu(hc:UI)(hn:ir)(he:Dx FF te)(hN:Hk)(hv:NN)(XE)
  (hs:AV5 F7:=by rfl):AjV (Bf C i f te):=fun z E cx=>
 uH (DH Yy Sj LP hs) (AN_ wY wY wZ (by
  obtain⟨as,fs,ts,t,e0,hf,h0,hl,q⟩:=wZ;show Ak';obtain⟨a,dx,vs,bs,Z,Z,ea,ed,Fb,Ov,r⟩:=r;refine AlQ
  show HA vs' p1 p2 p3 (z95 h0 rd r hf Fb);have Ot:=nd;show AHV nd;show ANj;rw[p1];refine db (Akn AT0 (t:= .tr AT0 (À AT2)) (ABZ Ot hn') AL4) q;have na:Ayg:=Ahs n1;refine⟨a,dx,vs',bs,Z,Z,j4,?_,p2,Ov,p9 Gc _ vs' bs AyA p3⟩
  show Az_))
theorem SR.backF(AEb){F H F' H' :Hp}{σ:St}{Γ:G2}{a dx c:Η}{b1 b2 bs cs:BH}{t t' tt' :T}(R:FB)(e:ANC (Õ AKh))(gr:Abx Auj)(nd:(c::cs).ax)(hn:HE (c::cs) (Arf AR0))
  (rt:BLO) (VI:F6 ->BIU ->BLO ->ly t' EX AuV):
  AoL (Y_ Ŗ AuV t'):=by
 obtain⟨o,e1,v,Z,Ot,hn0,Wj⟩:=AHA;have hv:=Wj.root;subst hv;show D1 ins BIM BI6 out (AVj (q∉AKh)) (fun q hq hb=>by
  show AHV Ot;obtain⟨n1,n2,n3⟩:=Ot;have p:=ALZ n3;have p2:=ALZ NS;rcases MO hq with Z | hq
  ·exact n1 (by show ASj hb;exact ALw hb)
  ·rcases MO hq with Z | hq
   ·exact n2 (by show ASj hb;exact AAi hb)
   ·show OF (ph hq) hq hq (UF q hq q (zR _ hb) Z) (p2.2.2 q hb q hq Z)) mem (AVj (q∈a::dx::(zt AKh))) (Ac0 (by
  show ASj hq;rcases hq with z | z | z | z
  show ABV AAg (AAi z) (ALw z) Axe)) ļ (AVj (AG6 (zr (gD AR0 H q)))) (Ac0 (by
  show Ð hu ld (AYy _ _ _ Wj q (mem q hq));exact⟨u,B1 BNS hu,ld⟩))
 have R0:=AY3 e1;have aaf:Kt H0 Auj:=BLU (AhT ins).2
 show D1 R1 (AgM Auj) (by
  refine A4n aaf
  ·rw[Nh (ASO (AhT ins).1)];exact AuJ
  ·show Ą p1 p2 Axz;refine⟨o,p1,Nz p2 Gc (ϝ (Fq p2 hb) (DC u q'))⟩;rw[Nh (ALa (ACo e e1 (ë BDG b (ins b hm)) j ⟨s',o,q,p1,hb⟩))];exact q') IA (AVj BXj) (fun q hq u hu=>gr.h q u (F8 BNS hu)) new (∀q,q∈a::dx::(zt (c::cs)) ->q∈c::cs\/q∈Aad) (Ac0 (by
  show ASj hq;rcases hq with z | z | z | z | z
  ·exact AAi z
  show ABV (ALw z) (tm (AJv z)) AAg Axe)) apt (AVj (q∉c::cs)) (fun q hq hb=>by
  obtain⟨u,hu,_⟩:=ļ q hq;rw[(hn q hb).2] at hu;cases hu)
 have R2:=BTD APM AuV ⟨_,Z,?_,IO,VI KA IA rt⟩ IO
 ·show Ah8;exact R2
 ·show AHV Ot;obtain⟨n1,n2,n3⟩:=Ot;have p:=ALZ n3;have p2:=ALZ NS;refine BJt (BJt (AfS AK (AfS nd p2.2.1 (fun q hq r hr er=>apt r (HU hr) (er ▸ hq))) (LJ q hq r hr er)))
  ·rcases MO hm with z | hm
   ·exact n1 (B1 z zY)
   ·rcases AUf with hm | hm
    ·exact n1 (HU hm)
    ·show OF AUf hm hm (apt a BN hm) (n1 (HU hm))
  ·rcases AUf with hm | hm
   ·exact n2 (HU hm)
   ·show OF AUf hm hm (apt dx BN hm) (n2 (HU hm))
  ·subst er;rcases ph hr with hr | hr
   ·exact apt q (HU hq) hr
   ·exact UF q hq q (zT _ hr) Z
 ·rcases new b hb with hb | hb
  ·exact Tm cc (aaf.free cc.2)
  ·refine vi (AhT mem).2;cases hF:u_ with
   | Ε=>rfl
   | Β o=>
    show Ð hu ld (ļ b hb);show AWJ (gr.n b o hF (AhT mem).1) Z
    ·rw[z] at hu;cases hu
    ·show ABP z hu hu ld.tup.elim
 ·rcases new b hb with hb | hb
  ·exact Anq ā
  ·exact ACo e e1 (ë BDG b (mem b hb))
def Gb(C:Η)(i:Ζ)(f:Ξ)(C2:Η)(m:Ξ)(sp:uz)(t:dH):bO:=Agv (∃a bs fs ts JL Nk,ADr Γ OC/\ϸ AwL/\m∉JL/\
 Aj_ (ADr Ω OC/\sp AwL ds (fun t' d=>(AKf A_y)) (AKt A_y)))
theorem aag(BUq){Γ:G2}{us:An}{vs:AL}{ds:AJ}{a dx c:Η}{b1 b2 bs:BH}{fs:AA}{ts:Ev}{tt:T}{P:ATr}{Q:VK}(Fn:BX_ (lH AE sp))(hr:UB)(hb:AGD)(cx:AP9)
  (I:ANp) (R:Ī) (r:AFy) (rs:Acv) (e0:ADr Γ (Õ AKh)) (rt:TR AE F H tt AcA AR0)
  (VI:∀{F' H' :Hp} {t' :T} {cs:BH},F6 ->BIU ->TR AE F' H' t' AcA cs ->TR AE F' H' ARS EX (Õ cs))
  (h:sp tt ds (fun t' d=>(AKf A_x)) (AKt A_x))
  (hQ:A0u):
  Ark (kA AqH (vn::us)):=by
 obtain⟨o,e1,v,Z,nd,hn,_⟩:=AKi;show D1 ins BIM BI6 Ud (AR0).ax (AZY (AZY (BVm AVS)).2.1).1 hs (lH AE sp (vn::vs) H Q A4') ⟨F,c,bs,tt,ds,vs,_,_,Z,R.g,Ud,EB BGh.1,rt,rs,h,fun t' d v cs F' H' gr nd' hn' EY rv hp=>hQ d _ F' H' v (R.backF e0 gr nd' hn' EY BSk) KA rv (hp _),fun x C dx t' cs F' H' gr nd' hn' EY xr hE=>⟨_,F',APK,R.backF e0 gr nd' hn' EY BSk,KA,(AZL (BLU BGh.2)).JS,BYm,hE _⟩⟩ hl (AEJ (AGY (Pp c::us))) (by
  rw[yY];have:=ANM;rw[IY,<- ek,<- IY (a:=V.ref c),At])
 have hbs:=hb s (vn::us) VA hl;show ģ;refine AOI (A3q (HG (vn::us)) (vn::us) (vn::vs)) AnF (.AU (AQ4 (HK AcA (Pp c))) r) hs;cases r with
 | YN e=>exact AyK hq
 | ok fl=>
  cases fl with
  | DM u=>exact AnG hq
  | MG=>show RE
  | brk=>show RE
  | No=>show RE
theorem ycy{np:AR}{pl:AMY}(G:Dp EA X.w AE YE SA C2 m k ps sp)(hc:UI)(hn:ir)(hc2:L2.Cls AE C2)(hr:UB)(hN:Hk)(hv:NN)(ha:RA)
  (XE) (hb0:ac Û f Û=EW Û:=by rfl)
  (AOS)
  (ht:EW (Ae9 AvX)=(do
   let ov<- EW AvX
   ABa
   let (f,first)<- AB' pl
   ACJ FH):=by rfl):
  Dx (Ae9 AvX) (Gb C i f C2 m sp t):=by
 obtain⟨fa,fd,g⟩:=bd;rintro z E cx Μ s σ H Q I ⟨F,Γ,P,R,⟨a,as,fs,ts,JL,Nk,e0,hl,hmf,h⟩,kk⟩;obtain⟨a0,dx,vs,v,bs,b1,cs,b2,e1,eas,ea,hlk,Z,q⟩:=Aj8;cases (eas);have Wj:=Db q;obtain⟨c,dx2,vs2,bs2,Z,Z,ec,_,_,_,_⟩:=Db q;refine AOX (AbU Sj hb0 Μ s σ H (fq H1 (v= .AT c/\H1=H)) I ⟨D8,e1,a,C,dx,_,vn,Z,ea,hc,hn,hlk,Z,Z⟩) Bx;obtain⟨x,H1,I1,rx,ex,eH⟩:=Bx;subst ex eH;show E7 (u=Pp c) rx;refine VB I1 ec hc2 NU (TJ hmf) ?_;refine AnH (AI0:= Á c) (h₀:=SA) AnI (g.2.1).kp (Aa6 s1 H1 H2 (∃F2 A_ es,A1O/\bj F2/\Axf/\ADr A_ (Õ (c::dx2::bs2))/\sp AwL es (fun t' d=>(AKf A_z)) (AKt A_z)) I1 (VT (Axg ⟨F2,A_,es,R2,s2,r2,h2.1,h2.2⟩)) BHK) hst hpl
 obtain⟨ws,H2,I2,r,F2,A_,es,R2,Rq,Hq,e2,q2⟩:=Bx;refine AtP;obtain⟨a',Rr,vs',v',bs',b1',cs',b2',p⟩:=Uk R2 e2 hl;obtain⟨o1,g1,w1,Z,_,_,T1⟩:=AKi;obtain⟨o2,g2,w2,Z,_,_,T2⟩:=AxM;obtain⟨t1,t2,t3,t4,t5,t6,t7,_,_,_,T1⟩:=T1;obtain⟨u1,u2,u3,u4,u5,u6,u7,_,_,_,T2⟩:=T2;cases (t6);cases (u6);cases (NS);have z1:VC vs=VC t3:=A2H ea t7 t7 t7 t7
 have z2:VC vs' =VC u3:=A2H AL8 u7 u7 u7 u7
 have hz:=z4l (show Ox (T.ob C2 JL Nk)≠0 by unfold Ox;omega) T1 T2 hl
 rw[<- z1,<- z2,hlk,E8 p] at hz;cases hz;show AN1 (Ad0 Wj) (Ad0 AtL);obtain⟨c',aah,Z⟩:∃c' aah,cs' =c' ::aah :=by
  cases cs' with
  | DU=>rw[<- l1] at l2;cases l2
  | AU x y=>exact⟨x,y,Z⟩
 have hc' :=(AtL).root;cases hc';rw[LI p] at e2;exact aag CC hr ϥ cx I2 R2 r Hq e2 AtL (GT (GT p)) q2 BJe
#where
def Jc(K:Φ)(Υ:ny)(k:Ξ)(r:cq):Ι:=Ħ Ael xs (∃b,r=Β AdZ/\ur K ALo b AM1) (r=Ε)
def Tab(P:A6)(w:AZ)(K:Φ)(mg:DT)(x:Ξ)(Υ:ny):Ι:=∃a,Ya x a/\ AQv/\
 ∀h:AN,Sl ->∃f:DT,h.MapOf (A9' P w) a f/\∀k,Jc K Υ k (f k)
def Gd(neg:AO)(Υ:ny)(te:bO):bO:=t9 Ad4 (E_ BIS)
def Ge(Υ:ny)(te:bO):bO:=t9 Ad4 (∃xs,BHD/\E_ A'C)
theorem yiz{K:Φ}{H:Hp}{b:Η}{xs:AL}(h:ur K ALo b xs):ur K H b xs:=by
 rcases h with (h | ⟨_,h⟩) | h
 ·cases h
 ·cases h
 ·exact ALv
section
variable{X:Cx}{F0 H0:Hp}{e:AG}{AB kK:AR}{x:Ξ}{te:bO}{Υ:ny}
theorem z9l(hg:KU)(T:BRY)(he:M0)(AP5)(hm:AJ4 mI F7:=by show AJN):
  aa (AJ' e mI [BZn]) (cT (Gd Θ Υ te)):=by
 obtain⟨a,n⟩:=T;refine fun z E cx=>NQ (Y' z8b r (hZ (∃k,û k/\y= .AT a/\AFo (! Ap'))) ?_ LP BTq hm) (Y2 hq ?_)
 ·rintro Μ s σ H x y u w Q I rx ry ⟨k,e1,e2,q⟩;show ABo;show AQ t Z rx;cases ry;obtain⟨f,g⟩:=n.2.2 A7 VA;refine Bbi (knd:=A_g) (k:=k) BEs AFf CC ⟨ST,H,ADh,?_,q⟩;have:=g.2 k;unfold Jc at At;cases hl:Ael with
  | Ε=>show FI hl;rw[At];rfl
  | Β xs=>show FI hl;show AAX b At;rw[AK];rfl
 ·show Se (ycq hq);refine Ę;cases d with
  | Ψ kk=>
   show Mo r1 (NV kk Z (AFw II))
  | _=>show dv
theorem ydp(hg:KU)(T:BRY)(he:M0)(hs:zxf e)(AHZ):
  ARn F7 e (Ge Υ te):=by
 obtain⟨a,n⟩:=T;refine fun z E cx=>lN (Y' yjs r (hZ (∃k xs,g6/\y= .Ψ k/\BHD/\NA (ur AE ALo b AM1) (OE b H))) ?_ BTq LP hs) (Y2 hq ?_)
 ·rintro FF ba Μ s σ H x y v u Q I rx ry ⟨k,xs,e1,e2,hl,q⟩ hs;show ABo;show AQ t Z ry;cases rx;obtain⟨f,hf,hk⟩:=n.2.2 A7 VA;have hk:=hk k;unfold Jc at hk;rw[hl] at hk;obtain⟨b,g⟩:=hk;exact Aw_ AFg hf.typeIs A7x (Bbf (knd:=A_g) (k:=k) BEs hf CC ⟨Z,AFg,H,ADh,Z,q b g.2⟩)
 ·show Se hq;refine Ę;cases d with
  | Ψ kk=>
   subst r1;show AAX xs h1;refine⟨kk,xs,Z,Z,AK,EB (AQa ?_ BS)⟩;exact gv b (yiz hb) (Rx xs)
  | _=>show dv
#where
#print L3
namespace Hd
open H_ AHy Alb IR L2 L3
theorem yah(AHX):setF (ACP A6G) w=w:=by
 have:(fun r=>(BJx A'O))=ACP:=by
  funext r
  split
  ·rename_i e;rw[yT e]
  ·rfl
 unfold setF;rw[At]
theorem both{p:GI AZ}(h1:∀w,p (setF Θ w))(h0:∀w,p (setF Τ w))(w:AZ):p w:=by
 have e:=yah w;cases hb:A'O with
 | Θ=>rw[hb] at e;rw[<- e];exact h1 w
 | Τ=>rw[hb] at e;rw[<- e];exact h0 w
theorem shot_two{α β γ:GG}{tb:TB}{GO:GoT}{RUN:XR}{TOP:X5}{X6:BJ8}{p q:A6}{w:AZ}{os:AH0}{SEEN:BT4}{RS:AA}{Xt:Aqc}{o1:AwY}{o2:FR ->γ}{n:Ζ}{x x' :Flow×Code}{a:α}{b:AO}{g1:β}{g2:γ}
  (h1:BUy o1 g1) (h2:shot tb GO RUN TOP X6 p (fun s=>o2 (cut A7 n)) w os=Β (x',g2)):
  BUy (fun K=>(o1 K,o2 K)) (g1,g2):=by
 obtain⟨y,u⟩:=AZZ h1;show ADf s v ő u.2 y' u' AZZ h2;show ND (zJ ((u'.1).Am2 u.1));show AQ s' v' (ő u'.2);show ND (zJ ((v'.1).Am2 EN));refine Option.bind_eq_some_iff.mpr (EV u.1 (zH.mpr (AAk EN)));have e:=AMR v;have f:=AMR e;have g:=AMR f;have e' :=APn v'.2;exact AIi e.1 (AIi f.1 (AIi CC (AIi g.2 e'.2)))
theorem zz4:KO xs An ts AA (JW xs=Β ts) (Abe An6 xs)
 | [],_,h=>by cases h;exact C7
 | v::r,ts,h=>by
  show AVk v
  case Ψ x t=>
   show T_ bs e Z (ő h) (.AU mm (zz4 e))
theorem yj1{K:FR}{a:Η}{ts:AA}(h:tupS K a=Β ts)(hz:D4 ts.length):ur K ALo a (An6 .Ψ):=by
 show BD tupS;show EO
 ·rename_i t od xs n sl e;show EO
  ·rename_i et;subst et;have r:=zz4 h;have l:=ek;show AaK l;exact .CB ⟨_,xs,n,e,Z,Z,by rw[<- jv,<- l];exact hz,r⟩
  ·cases h
 ·cases h
theorem ygx{K:FR}{w:AZ}:∀{es:BYM} {Υ:ny},Sv K es=tabD w Υ ->(∀p∈Υ,AGT BS) ->
  (∀e∈es,∃k,BZf e.key/\e.hash=hashStr w k)/\∀k,Jc K Υ k ((es.find? fun e=>Value.isStrOf k e.key).map (·.val))
 | [],Υ,h,_=>by
  cases Υ with
  | DU=>exact⟨fun e he=>(A8z he).SB,fun k=>Z⟩
  | AU p r=>cases h
 | e::es,Υ,h,hz=>by
  obtain⟨hh,C_,val⟩:=e;show AVk C_
  case Ψ x t=>
  show AVk val
  case AT b=>
  obtain⟨ts,e1,h⟩:=AZZ h;obtain⟨Nn,e2,h⟩:=ő h;cases Υ with
  | DU=>cases h
  | AU p Υ=>
   show AQ k0 xs0 p;rw[IZ,List.cons.injEq] at h;show AQ h1 h2 h;cases (h1);show EG (Lu ygx K K w w es es Υ Υ (by rw[e2,h2];rfl) (AV3 hz))
   refine⟨DC e he,fun k=> ?_⟩
   ·show ARb he he (AAd k0 (DS AIE)) (Ν e he)
   ·unfold Jc;rw[VM,AYr];by_cases hk:k=k0
    ·subst hk;have e3:BZf (AYA k t):=DS AIE
     simp only [AnM,e3];exact⟨b,Z,yj1 e1 (hz (k,xs0) zY)⟩
    ·have e3:EE (AIE k (AYA k0 t)):=lf AIE (jS hk)
     simp only [AY_ hk,e3];exact AI k
theorem tab_of{P:A6}{w:AZ}{K:FR}{h:AN}{mg:DT}{x:Ξ}{Υ:ny}(X:Sl)(G:AUo)(q:BCp)(hs:AQQ (AZj adr nsIn x))(l:tabO K BOc=tabD w Υ)(hz:WF Υ (AGT BS)):Tab P w K mg x Υ:=by
 refine⟨_,mg_of X G (adr_of q),hs,DC h' X'⟩;unfold tabO at l;split at l
 ·rename_i t es ep sl e;split at l
  ·rename_i et;rw[TN,qA] at et;show AQ Z e2 et;show EG (ygx l hz);refine⟨fun k=>findBy (A9' P w).is es k,⟨_,es,ep,X' _ _ e,Me Z (C9 e2),Z,fun e he=>Ν e (DA he),fun k=>Z⟩,fun k=> ?_⟩
   have:=AI k;obtain⟨es⟩:=es;show Jc K Υ k ((Array.find? (fun e=>Value.isStrOf k e.key) es.toArray).map (·.val));rw[List.find?_toArray];exact At
  ·cases l
 ·cases l
#print Hd
namespace L3
open H_ Nl IR L2
def Gf(Axm):bO:=UU BIp
def Itm(BRr):It:=
 BMj (∃c k v,x= .AT c/\bu c/\H' =AVr c [kV k,v]/\D7 Υ (k,v))
theorem ybi:A'L "dict_itemiterator.__iter__":=
 BBx
theorem zwp{it d:Η}{i n ep:Ζ}{ok ov:AD}{Q:fu}{s:AC}{P:A6}{w:AZ}{A:B6}{E:fu}(hit:IsItemIter A7 it d i n ep ok ov)(h:OE it s):BXP:=by
 have hT:AK' it A7J :=Mc hit;show KS (A1g Bdu Bdu ybi PySem.F.args_dict_itemiterator_iter_1) (z7 ⟨_,Z,A7J,_,hT,PySem.F.slot_dict_itemiterator_next.lookup,h⟩)
theorem z6n(A2q)(BT7):Turn P w K A0k (Itm a o Υ) [it] it (AEX (∃ok ov,IsItemIter h it a i xp ep ok ov)) where
 mem:=FA
 DJ:=ABn (by
  show AWK
  obtain⟨ok,ov,e⟩:=st;exact AVR e)
 IA:=ARf (by
  obtain⟨ok,ov,e⟩:=st;exact⟨ok,ov,k it BN _ e⟩)
 Pt:=by
  show US;show OS;show AAf hq hx;obtain⟨ok,ov,st⟩:=st;obtain⟨ws,kv,hd⟩:=AkZ;have hl:=y4;show AkH;obtain⟨⟨k,u⟩,hw⟩:∃p,AKw p:=BCk
  obtain⟨v,hv,rv⟩:=T7 kv hw;have Cc:∀c∈ [it],PY c:=Acx (by
   show E7 (c=it) (C9 hc)
   exact zK st)
  refine wpAny_pyNext_items_item st hd hw fun C_ h1 hkey hit ht hsz k1=>(A2W wpAny_letOwnedTupleGo_items hit);have Iw:ACd it h1 h2:=sb;have rk:HK (kV k) C_:=by
   rcases G8 hkey with ⟨j,t,Z,Z⟩ | ⟨x,t,Z,Z⟩
   ·exact mm
   ·exact mm
  have I2:AVO [kV k,v] (ŧ h2 LX):=
   z1v (fp:= [it]) (AH:= [C_,u]) I (BBR (k1 c o c8 e))
    Cc (MZ Iw _ (ň (Cc it BN)) ht) (AkQ rk rv) Awn hf
  exact⟨AQS,_,I2,Z,⟨_,k,v,Z,AI2,Z,hv⟩,EV _ (B1 hl e2),Acx (BRE (zM (Cc c hc)))⟩
 MQ:=by
  show US;show OS;show AAf hq hx;obtain⟨ok,ov,st⟩:=st;obtain⟨ws,kv,hd⟩:=AkZ;have hl:=y4;show AkH;exact wpAny_pyNext_items_end W1 st hd (DA hx) (A_L [it] (Tx (eb b o c8 e)))
 TL:=Aay (by
  obtain⟨ok,ov,e⟩:=st;exact zwp e h)
def Uw(te:TE):TI:=Azi (∃a o Υ,NI/\GS H1 sf/\ (AQm ->R (Itm a o Υ) H1))
theorem yfa{X:Cx}{e:AG}{te:TE}{Ic G1:AR}{y3:CY}{x1}{pt:AR}(he:eJ)(BFx):
  PI X AbO BZ5 (Uw te):=by
 show Eg R;refine AkK A'n;obtain⟨x,H1,I1,r1,a,o,Υ,ex,ea,q⟩:=Ch;subst ex;show AxJ;have Wk :Rd H1 a SG:= aI o ea;obtain p:=Ax5 Wk;refine⟨i6,"dict.items",A7z,Bdv,PySem.F.type_dict_items,AK,NS,BXi⟩;obtain⟨ho,hz,_,ws,kv,o',es,ep,y⟩:=(fw H1 Ana a sf (AY6 a _ ea));have h1:=Ν;rw[ho] at h1;cases h1;have hm:Aq5:=⟨o,es,ho,A3,ED,NO⟩;refine Amz Bdv AK PySem.F.entry_dict_items (PySem.F.args_dict_items_1 _) (meets_dict_items AJ3 a UF) (E9 ⟨ws,o,es,ep,ho,A3,ED,NO⟩);show GL vw (BXW (ZT Bdw #[D8]) IsItemsView) hG I2 (AGQ BGn) AFS (wpAny_pyIter_items (s:=BGn) vw AsO ?_);refine⟨_,[_],_,_,_,Z,I2.kept (t' :=AIb) sP,BRW z6n,?_,IO,q hz⟩
 ·rw[y4];exact EV _ P9
 ·show ND BY5;exact I2.fpOk (zP _) (I2.hok.fresh (zP _))
def xP:DI ->AJ ->AJ:=APY fun k x=> .BM [j6 k,x]
theorem z9b(BUg):AU5 (Itm a o (OZ vs)) (xP ks xs):=by
 have hlz:Ayk=P1:=by rw[APk,hkl,AC_]
 have l1:=L_;show BIV lp (T' xP ks xs) P1 B5 L7 BFj
 unfold xP at hd;show A_m;cases e1:ks[i]? with
 | Ε=>rw[e1] at hd;cases hd
 | Β k=>
  cases e2:xs[i]? with
  | Ε=>show AkG;cases hd
  | Β x=>
   show AkG;cases hd;show AQ v w (zm rs e2);have hik:i<P1:=dr e1;refine AVW Arn
   obtain⟨c,k2,v2,Z,hc,Z,z⟩:=z;have z1:=(Wh z).1;have z2:=(Wh z).2;rw[e1] at z1;cases z1;rw[BE] at z2;cases z2;have gr:=BBK [kV k,v];show Ae0 (AAk gr) c (rD (yks k) (rD BBl II))
def z02(UQ):dH:=t9 AgZ (P (xP ks xs) Ω)
section
variable{X:Cx}{F0 H0:Hp}{e:AG}{te:bO}{y3:CY}{Ic G1 pt:AR}
theorem yct{x1}(he:M0)(BFx):Ai5 BZ5 (z02 te):=BL2 yfa (fun σ H R DL=>by
 obtain⟨F,Γ,P,S,q,k⟩:=DL;refine ARD (fun d Ω F1 H1 v R1 s1 r h1=> ?_);split at h1
 ·obtain⟨a,o,vs,Z,ea,hkl,rs⟩:=r;exact⟨a,o,_,Z,HP _ _ ea,AKu (AFw (z9b ea hkl rs hz))⟩
 ·exact C5)
#where
def Gg(C:Η)(i:Ζ)(f:Ξ)(j:Ζ)(tv:bO):aC:=AgC (∃k as fs ts ks xs,Axx/\ASX/\BFa/\ABG/\
 AVH (À (AEl Aws (Aq9).B_)))
section
variable{X:Cx}{F0 H0:Hp}{FF:AG}{AB kK xO IU :AR}{x f:Ξ}{C:Η}{i:Ζ}{tv:bO}
theorem yd6(ABX){σ:St}{Γ:G2}{as:BH}{fs:AA}{ts:Ev}{ks:DI}{xs:AJ}(R:FB)(e0:AUc)(hl:BFa):
  ∃a dx vs c ws,AG8/\AeT/\ BKS/\SL c (.dK (OZ ws))/\A'W/\Lo xs ws/\
  ∀ks' xs' ws',BCS ->BDW ->qo F (AEQ c (.dK (ks'.zip ws'))) (Y_ Ŗ as BId):=by
 obtain⟨a,dx,vs,v0,bs,b1,cs,b2,e1,Z,ea,hv0,Z,nd,hn',rt,VI⟩:=Aj8;show bz c ws ds Z ec hkl rl rt;show PQ Z rs (Z6 rl) ⟨a,dx,vs,c,ws,e1,ea,hv0,ec,hkl,rs,LJ ks' xs' ws' hl' rs'⟩;show BV (R.wrT e0 e1 (ë (Ś Afk AZs) c Azn) (t:= .tr Afk BId) (ABZ nd hn') AL4) (VI Gc (k9 hb u ?_) BQG);have hbc:b≠c:=DB (by
  subst z;show AHV nd;show ANj;rcases UO with Z | hb
  ·exact n1 BN
  ·rcases UO with Z | hb
   ·exact n2 BN
   ·show BJM)
 rw[dj hbc];exact q
theorem yfe{y:Ξ}{j:Ζ}{yp:AR}(hu:UC)(hc:UI)(hn:ir)(fI:Aib)(hN:Hk)(hv:NN)(Uc:Ahm)(hv2:AVI)
  (XE) (Ax0)
  (A4h)
  (hs:AM' AU6 AuZ:=by rfl):
  AKM (wt AU6 AuZ) (Gg C i f j tv):=fun z E cx=>
 uH (ANI YK Azf AlE fI hs) (AN_ JZ JZ Fj (by
  obtain⟨k1,as,fs,ts,ks,xs,g1,e0,hl,hsz,hnx⟩:=Fj;show nE o2 e2 v2 r2 (ACw j _ g1);have ev2:=I8 r2;subst ev2;obtain⟨a,dx,vs,c,ws,g⟩:=yd6 R1 e0 hl;refine⟨D8,CC,a,C,dx,_,vn,Z,NU,hc,hn,iX,kV k1,e2,c,_,Z,AkR k1 wE Ė hsz,?_⟩
  rw[zwj Ė];exact db (iP.2.2 _ _ _ (z1z Ė) (zt6 iP.2.1 rd)) hnx))
#where
theorem yc3{H1:Hp}(S:Adq)(I:AW)(hS:AcJ (∃Υ o,AcT/\Sc/\K0 H1 sf))(hN:fg AGI H1 H):AGQ s:=by
 have ne:ç wP (Aky) (VY H1):=AUv (ADe (ANX (by show AiP p;rw[AK] at q;cases q;exact n _ Z)))
 refine I.un (h' :=A7) (t' :=LX) ⟨fun _ _ q _ _ _=>q,BHk,LJ b ob q n _,A1M ⟨ob,q⟩,ADj xs,BK5,OL ps (E9 #[])⟩ md
 ·rw[ANX (by show AiP v;rw[EN] at n;cases n)];exact n
 ·exact A0H
 ·exact A0H
 ·rw[A0H];simp
 ·have st:BJm H1:=Azl (ne c _ z ArH) (ne c _ z ArH)
  by_cases hb:S b
  ·show O_ Υ o AGk;rw[CO] at q;cases q;exact⟨A3,st (IB b _ Ν)⟩
  ·show Ag7 hN (st (IB b u q))
theorem yb9{H2:Hp}(S:Adq)(I:AW)(hS:BMb)(hN:AJd AGI H)(n0:AcJ BWH):N9 H2 s:=by
 have ne:ç wP (BFc) (VY H2):=AUv (ADe (ANX (by show AiP t;rw[FK] at q;cases q;exact n _ _ Z)))
 show GL nn (AbW (P4 H2)) (TZ q (ADe (ANX (by show AiP g;rw[CC] at q;cases q)))) st (BJm H2) (Azl Ajw Ajw) ⟨pf,I.os,Ł,⟨AmC,AmD,Ah2 hx (nn b (AIO b u q n hx)),A6r,OL xs (ne b _ (AYM b xs q) (MX z AP6)),k9 u w ?_,ADj ps⟩,pe,x6,nn _ jI,fun x c q=>nn c (ACb x c q),ae,md,ACc⟩
 ·rw[ANX (n0 b z _ _ q)];exact AIS b u w q
 ·show JO m k (AmF b ps q) m (ne b _ k (MX z AP6))
 ·obtain v:=AHI;exact⟨EN,nn _ nL,Sk⟩
 ·by_cases hb:S b
  ·show O_ o Υ AGk;rw[AI] at q;cases q;exact st (IB b _ Ν).2
  ·show Ag7 hN (st (IB b u q))
mutual
def Gh:T ->D
 | NY=>d
 | Wp=> .A8 AT'
 | eB=> .vH ks AT'
 | ě=> sN AT'
 | Ģ=> .DJ C fs AT'
 | .kt k=> .BM Awa
def xQ:Ev ->AJ
 | []=> []
 | RI=>Gh t::xQ ts
end
section
variable{K:Φ}{F H F' :Hp}
def rZ(H F' :Hp)(a:Η):Ι:=Aau ((∃o Υ,u= .dK Υ/\GS F' Ϯ)\/ (Aky)/\Afp)
theorem rZ.d(h:Aj2)(e:AGi):∃o,GS F' sf:=by
 rcases h _ e with ⟨o,_,_,q⟩ | ⟨n,_⟩
 ·exact ϋ q
 ·exact(n _ Z).SB
theorem rZ.o(h:Aj2)(e:AJp)(n:Aky):Afp:=by
 rcases h _ e with ⟨o,_,q,_⟩ | ⟨_,q⟩
 ·exact(n _ q).SB
 ·exact q
mutual
theorem TR.repN(f:F6):A5J Aj2 (Rep K F' (Gh t) v)
 | NY,v,as,k,h=>Fu Azr
 | Wp,v,as,k,h=>by
  obtain⟨a,vs,bs,e1,Z,e3,h⟩:=h;exact⟨a,vs,e1,lI ((k a zY).o e3 AFT),AvK⟩
 | eB,v,as,k,h=>by
  show AOZ;show DO o e ((k a zY).d e3) ⟨a,o,vs,e1,e,e4,AvK⟩
 | ě,v,as,k,h=>by
  show AOZ;exact⟨a,vs,e1,.AV ((k a zY).o e3 AKO),e4,AvK⟩
 | Ģ,v,as,k,h=>by
  obtain⟨a,dx,vs,bs,e1,Z,e3,e4,e5,e6,h⟩:=h;exact⟨a,dx,vs,e1,(k a zY).o e3 AKO,e5,AJ0 AZe AWY⟩
 | .kt k,v,as,_,h=>by
  show ALg a h;exact⟨a,_,Ν,AN2 f AI,Y0 k⟩
theorem AZe(f:F6):A5K Aj2 (AJl AT')
 | [],vs,as,k,h=>Fu AS
 | RI,vs,as,k,h=>by
  show AiK;exact⟨v,us,e1,A3k TR.repN,A4i AZe⟩
end
#where
def aai:AyQ | AVL=> AeG | Agu=> .pu (Gh t) | .nt _ ts=> .pu (ck xQ ts) | .xe _ C _ _=> .pu (.exc C) | s=>s
def jR(Γ:G2):G2:=Γ.map aai
def LDn(u:HO):Ι:=LD u\/∃o Υ,u= .frz o SG
def dG(Γ:G2)(σ:St)(H:Hp)(b:Η):Ι:=SS/\∃Υ,AcT
open yv in
theorem yc4(ArB){σ:St}{Γ:G2}(R:FB)(ob:Η ->Obj):∃F1 H1,gm/\BNC/\ BRD/\ (BG3)/\
  (BP4)/\Axr:=by
 let H1:Hp:=vb (if Tu then BNh else H b)
 have hS:BP4:=EB (by
  show Ϛ Υ hb.2;refine E3 Υ e;show(GV Tu BNh (H b))=_;rw[Ad9,e];rfl)
 have hN:Axr:=As7
 let F1:Hp:=vb (r6 ARg F AjS)
 have fo:Ac4 (AG6 wP):=EB (by
  obtain⟨j,s,o,e1,e2,hs⟩:=id hb;show NW o' f (YU j _ e1) e3 f.1;rw[e2] at e3;cases e3;obtain⟨h1,_,u,l⟩:=Fq f.2 hs;exact⟨h1,u,l.1,l.2⟩)
 have s1:gm:=BRZ
 show D1 at1 (fg SS F1 H1) (TZ h2 (by
  show(Aif AjS)=_;rw[Aen (fo b h2).1,Fs h2])) s2 (sK H1) (QU (by
  by_cases ho:SS
  ·rw[at1 b ho] at e;exact e
  ·show ABc ARg (F b) AjS;show Ϻ
   ·rw[ANX (ho z.1)];exact Awm
   ·first | cases e' | (rw[EJ ho] at e';cases e'))) Kd (A4l AQ') (A4G (by
  show NR jR;show Ad';cases q:Γ[i]? with
  | Ε=>show IP;cases e
  | Β t=>
   show BCe)) C4 BG3 (EB (by
  obtain⟨h1,u,m⟩:=fo b hb;refine E9 h1;rw[at1 b hb];by_cases hn:Tu
  ·show DO Υ n (hS b hn) (EV n.2 (.CB (Mc _)))
  ·exact⟨u,B1 (hN b hn) m.1,.AV m.2⟩))
 refine⟨F1,H1,s1,BRB jR,zn hb hn,C4,hS,hN⟩
 ·show NR jR;show Ad';cases q:Γ[i]? with
  | Ε=>show IP;cases e
  | Β sl=>
   show IP;show AQ o w (YU i sl q);refine⟨o,BE,?_⟩;have mine:NA (gR sl o b) (rZ H F1 b):=fun b hb u hu=>by
    have ho:SS:=⟨i,sl,o,q,BE,hb⟩;rw[at1 b ho];by_cases hn:Tu
    ·show AQ Υ y (hS b hn);show ABP Ν hu hu (.AV ⟨_,_,Z,AI⟩)
    ·refine aI (fun Υ z=>hn ⟨ho,Υ,OM hu z⟩) (B1 (hN b hn) hu)
   cases sl with
   | no=>cases e;trivial
   | pu d=>cases e;show L6 v rv D5;exact AAz (rv.up s1)
   | ow ds=>
    cases e;obtain⟨a,vs,Z,h1,h2,h3,rs⟩:=D5;refine AGl D8;exact lL a (lI ((mine a Z).o h1 AFT)) (AI1 s1)
   | tr as t=>
    cases e;obtain⟨v,Z,nd,h1,rv⟩:=D5;exact AAz (TR.repN s1 t v as BFq rv)
   | nt as ts=>
    cases e;obtain⟨p,vs,Z,e2,nd,h1,rv⟩:=D5;refine AGl Adn;exact ABJ (AN2 s1 e2) (AZe s1 ts vs as BFq rv)
   | xe as C fs ts=>
    cases e;obtain⟨a,oe,dx,vs,Z,e2,_⟩:=D5;refine AGl D8;exact NV a oe (s1 _ _ e2)
 ·show(Aif AjS)=Ε;rw[Aen hb,EJ hn]
section
variable{K:Φ}{F F' :Hp}
mutual
theorem yfr(hA:lT F (LDn u\/VY F')):BT1
 | BC,_,_,h=>Nc
 | ST,_,_,h=>Nc
 | UN,_,_,h=>Nc
 | We,_,_,h=>Nc
 | Č,_,_,h=>Nc
 | dy,_,n,h=>by
  show Ajn;refine⟨a,vs,h0,?_,zpi hA ds vs n h2⟩;show AdQ h1 h1 h1 h1
  ·show BKa z.tup.elim (lI z)
  ·show BKa z.frz.elim (AiZ z)
  ·exact .CB h1
 | Aet,_,n,h=>by
  obtain⟨a,dx,vs,h0,h1,h3,h4⟩:=h;refine⟨a,dx,vs,h0,?_,h3,zpi hA ds vs n.2 h4⟩;rcases ASk with (z | ⟨_,_,z⟩) | z
  ·have:=z.ins;rw[z4n h3,n.1] at At;show ZO
  ·cases z
  ·exact z
 | dq,_,n,_=>nv
 | vv,_,n,_=>nv
 | ic,_,n,_=>nv
 | n_,_,n,_=>nv
 | AAr,_,n,_=>nv
theorem zpi(hA:lT F (LDn u\/VY F')):BT2
 | [],_,_,h=>Nc
 | So,_,n,h=>by
  obtain⟨v,r,h0,h1,h2⟩:=h;exact⟨v,r,h0,yfr hA d v n.1 h1,zpi hA ds r n.2 h2⟩
end
#where
structure KR (BRz) (σ:St) (Γ:G2) (F1 H1:Hp):Ι where
 R:BNC
 VI:∀{F' H' :Hp} {A4 :G2},SR K F1 H1 F' H' σ A4 ->sK F' ->∃F2 H2,fT F2 H2/\bj F2/\ (∀ds vs,AFL ->AFN ->aM K F2 ds vs)/\ (∀a u,Y3 H1 ->Ao8 ->GS H2 u/\vE/\ABR/\ (AFm ->Y3 F2))/\
  BVu/\BEt
 hS:NA Tu (∃o Υ,AcT/\K0 H1 sf)
 hN:Axr
section
variable{X:Cx}{F0 H0:Hp}{e:AG}{te:bO}{tf:dH}
open yv in
theorem lent(AEb)(I:AW)(R:FB):∃F1 H1,AGQ s/\BTE/\Ags:=by
 obtain⟨F1,H1,j⟩:=yc4 R (vb ((TK b).Pw default));refine⟨F1,H1,yc3 A2i I AcP ATu,⟨j.2.1,fun{F' H' A4} R' s' => ?_,IO,ATu⟩,LJ b hb o u w⟩
 ·obtain⟨Υ,m⟩:=LI j b hb;show AGJ t (AKF b SG b m.1);exact⟨Υ,o,m.1,FK,by rw[m.2,FK];rfl⟩
 ·have gr:BEc u_ (sw (r6 Tu H (H' b))):=by
   refine AT5 L9 L9 L9
   ·rw[OH (AcY (ADo (E8 j)))]
    exact BGP
   ·show ABc SS Ε u_;show Ϻ
    ·cases e'
    ·rename_i hb;show EL BLS;exact R'.g _ _ e'
   ·split
    ·exact e
    ·show AAa hb (AZH _ _ (F8 (ATu b hb) e))
   ·have e' :(GV SS Ε u_)=Β o:=e;show Ϻ
    ·cases e'
    ·rename_i hb;have:=BOd R'.gr.n;unfold Bw at At⊢;show FI (ATu b BLS);exact At
  refine⟨_,_,ACr gr,KA,fun ds vs hd hr=>zpi (L9) ds vs hd hr,NH a u h1 h2,EB Ad9,As7⟩
  ·by_cases hb:SS
   ·obtain⟨_,w,z⟩:=E8 j b hb;have:=s' _ _ z.1;show FI e;show ZO;exact .AV z.2
   ·exact .CB (by show sh SS Ε u_;show EL hb;exact e)
  ·have nn:¬dG Γ σ H a:=fun w=>by obtain⟨_,p⟩:=LI j a w;rw[BS] at h1;cases h1
   have hH:AGp:=Q_ (ATu a nn) h1
   refine⟨by show(GV (dG Γ σ H a) (H a) (H' a))=_;show EL nn;exact h2,?_,AY7 hH,fun hF=> ?_⟩
   ·cases q:H0 a with
    | Ε=>rfl
    | Β w=>show AU3 (AIq _ _ q) hH
   ·split
    ·rfl
    ·exact hF
 ·show DO Υ v (LI j b hb) ⟨_,Υ,EN,v.2⟩
 ·show AQ Υ y (LI j b hb);show AU3 (AIS b o u w) Ν
theorem KR.thaw{K:Φ}{H2:Hp}(L:BTE)(n0:Ags)(I' :sM s)(sm:AJg H1)(h1:AJd Tu H)(h2:BEt):N9 H2 s:=by
 refine yb9 A2i I' AcP h2 n0;show O_ o Υ AtS;exact⟨o,Υ,sm _ _ AI,B1 (h1 b hb) Ν⟩
def xR(UQ):bO:=Ag6 te d (xu d/\AG2)
theorem zym(h:w_ M0):zh (xR te):=fun z E cx=>by
 show AOb Q R;show AWg w;refine Ô (h F1 H1 z lF AHc Μ s σ H1 AWq BE ⟨F1,jR Γ,_,(EM).R,q,BTZ hp⟩) u hq
 ·show O_ F2 H2 ((EM).VI R' s');have r2:=BJn r
  obtain⟨v',_,ev,r2,Z⟩:=r2;cases (ev);exact⟨AZH,H2,AEg,AEi,k d Γ F2 H2 v Ν A3 r2 hp.2⟩
 ·show AlP hq (EM).thaw Kb
def Ci(tf:dH):dH:=Ag6 tf ds (AFL/\P ds Γ)
theorem z4i(h:w_ AxV):gL QF (Ci tf):=fun z E cx=>by
 show AOb Q R;show AWg p;refine Ô (h F1 H1 z lF AHc Μ s σ H1 AWq AK ⟨F1,jR Γ,_,(p.2.1).R,q,fun ds A4 F' H' a vs R' s' ea fa ha rs ap hp=> ?_⟩) u hq
 ·obtain⟨F2,H2,w⟩:=(p.2.1).VI R' s';show EG (AeN a _ ha ea);exact BHZ (k ds Γ F2 H2 a vs BE EM Ν (NO fa) A3 (nr ds vs hp.1 rs) ED hp.2)
 ·show AlP hq (p.2.1).thaw UF
#where
#print L3
namespace L3
open H_ Nl IR L2
def KY(tb:aC):aC:=Aks lF
section
variable{X:Cx}{F0 H0:Hp}{AB:AR}{OT:dL}{hs:D9 A_A}{h0:A_A}{tb:aC}
theorem yjb(hb:BP9):BMH (h0::hs) (KY tb):=by
 show AV4 D;refine BZD;have C_:=hb F (BPn (BSA (h0::hs) U') GH Apx)
  lF BCl [] s σ H D (ya9 I) BLx
 ·refine AKl C_ Aim ma;have q' :=ymd q;cases f with
  | MG=>exact AmN q'
  | DM v=>exact q'
  | brk=>exact q'
  | No=>exact q'
 ·intro m5 σ1 Ω F1 H1 s1 e s' I' R1 hx;obtain⟨a,Cv,H',B,dx,Z,os,JS,un,hok,Hh,inB,tD,A_,F2,xv,R2,Rq,xr,apx,z⟩:=hx;exact z.elim
theorem yaz{a b:AG}{ta tb:bO}(hu:UC)(ha:UD)(hb:é)(hm:AJ4 mI b):aa (AJ' a mI [b]) (cT (cB (KH Θ) ta tb)):=fun z E cx=>
 NQ (AeA (ANw (DH zz8) hu) hm) (Hm Fi Fi (ANt (by
  show ą ks xs kk e1 hp h2;show LL c vs y (RB e1 r2);have ev:=I8 r1;show BUH)))
#where
def su(F:Hp)(a:Η):Ι:=∃o C,AAH (.frz o (wW a C))/\AtJ
open yv in
theorem ydh{P:A6}{w:AZ}{CF:I_}{s s' :AC}{e:AD}{E E' :XK}{H H2:Hp}(S:Adq)(h:Ah' E)(hS:BMb)(hN:AJd AGI H)
  (k:∀C dx H' H2',(AcJ (H' b=H b/\H2' b=H2 b)) ->(fg AGI H2' H') ->AVa ->E' C dx H2'):gC P w CF H2 s E' e s' :=by
 obtain⟨a,C,H',B,dx,h1,h2,h3,un,hok,Hh,inB,tD,hE⟩:=h;show D1 fz (fg (S b) H' H) (EB (by
  show Ą Υ l AGk;rw[l.1];exact un.nF b _ _ l.1)) i1 (fg (S b) A3U H2) (EB Ad9) i2 (fg AGI A3U H') As7 no (ç (H2 b=u) (∀Υ,u≠E2 dK Υ) (AGI/\H b=u)) (AUv (by
  have hb:AGI:=ADn (by
   obtain⟨_,Υ,d⟩:=AGk;rw[d.2] at q;exact n Υ q.symm)
  exact⟨hb,Q_ (hN b hb) q⟩))
 generalize A3U=H3 at i1 i2;show GL ne (ç (VY H') (BFc) (VY H3)) (AUv (by
  rw[i2 b (ADn ?_)];exact q;obtain⟨_,_,j⟩:=AGk;rw[fz b hb,j.1] at q;cases q;exact n _ _ Z)) st (KO u HO b Η (BLB H') (BLB H3)) (Azl Ajw Ajw) ⟨a,C,H3,B,dx,h1,h2,h3,⟨BLR,BLR,LJ b o eb n q2,un.there,ADj xs,Op u q ?_,ADj ps⟩,md,Hh,inB,md,k C dx H' H3 (V' ⟨fz b hb,i1 b hb⟩) i2 hE⟩
 ·exact un.keep b o eb BLY.2 q1 q2
 ·exact un.slot b o eb BLY.2 q1 q2
 ·obtain m:=no b _ n AKO
  rw[i2 b m.1];exact un.free b o eb m.2 q2
 ·obtain t:=A0I
  rw[i2 b FK];exact un.tups b xs t.2
 ·obtain g:=A0I
  rw[i2 b CC];exact un.nF b o u g.2
 ·obtain p:=A0I
  rw[i2 b AK];exact un.pR b ps BS
 ·by_cases hb:S b
  ·show Ą Υ v AGk;rw[i1 b hb,v.2] at q;cases q;exact st (hok b _ (fS fz b hb EN)).2
  ·show Ag7 i2 (st (hok b u q))
 ·by_cases hb:S b
  ·show O_ o Υ AGk;exact tD b _ (fS fz b hb Ν)
  ·show Ag7 i2 (tD b u q)
#print L3
namespace L3
open H_ Nl IR L2
mutual
def KZ:AS_
 | NY=>xu d
 | Wp=>AAw
 | ABQ=>AAw
 | AMo=>AAw
 | ANc=>AAw
 | nX=>D6
def vK:AsN
 | []=>IS
 | RI=>KZ t/\AAw
end
section
variable{K:Φ}{F F' H:Hp}
mutual
theorem z76(BR5):∀(t:T) (v:V) (as:BH),KZ t ->Ϥ ->TR K F' H t v as
 | NY,v,as,n,h=>by
  have:=hA EK [v] (CU ⟨n,N2⟩) (M7 Au)
  obtain⟨v',_,ev,r2,Z⟩:=At;cases (ev);exact⟨AS,r2⟩
 | Wp,v,as,n,h=>by
  obtain⟨a,vs,bs,e1,e2,e3,h⟩:=h;exact⟨a,vs,bs,e1,e2,e3,Akb⟩
 | eB,v,as,n,h=>by
  obtain⟨a,vs,bs,e1,e2,e3,e4,h⟩:=h;exact⟨a,vs,bs,e1,e2,e3,e4,Akb⟩
 | ě,v,as,n,h=>by
  obtain⟨a,vs,bs,e1,e2,e3,e4,h⟩:=h;exact⟨a,vs,bs,e1,e2,e3,e4,Akb⟩
 | Ģ,v,as,n,h=>by
  obtain⟨a,dx,vs,bs,e1,e2,e3,e4,e5,e6,h⟩:=h;exact⟨a,dx,vs,bs,e1,e2,e3,e4,e5,e6,Akb⟩
 | nX,v,as,n,h=>nv
theorem Wm(BR5):∀(ts:Ev) (vs:AL) (as:BH),AAw ->Ϡ ->fO K F' H ts vs as
 | [],vs,as,n,h=>Nc
 | RI,vs,as,n,h=>by
  obtain⟨v,us,bs,cs,e1,e2,h1,h2⟩:=h;exact⟨v,us,bs,cs,e1,e2,z76 hA t v bs n.1 h1,Wm hA ts us cs n.2 h2⟩
end
#where
def Gi:iO
 | .pay _ _ ts=>AAw
 | _=>IS
section
variable{X:Cx}{F0 H0 F H F1 H1 Oz Jd :Hp}{z:NP}{E:XW}{Μ:fB}{σ:St}{Γ Ω:G2}{s1 s' :AC}{e:AD}
theorem ydt(cx:AP9)(R:Ī)(L:BUM)(n0:Ags)(I1:Af8 Jd)(R1:BNJ)(sF:sK Oz)
  (hq:gC EA X.w MM Jd s1 BSO e s'):z.xe e s' :=by
 obtain⟨F2,H2,d⟩:=L.back R1 sF;have I2:Af8 H2:=DH L.thaw n0 I1 AnZ (LI d) ATv;show GL sH (Kt H H2) (OL u (by
  by_cases hb:Tu
  ·rw[LI d b hb];exact q
  ·rw[ATv b hb];exact AnZ b u (F8 (L.hN b hb) q))) R3 (km F H2 Γ) (ACr ⟨r_,fun b u q=>sH b u (R.g b u q),sH,re q (by rw[q] at n;cases n)⟩) (cx.pX Μ σ Γ F H2 s1 e s' I2 R3 (ydh A2i hq AcP ATv fun C dx H' H3 fz i2 hx=> ?_))
 ·show Ą Υ j AtS;exact⟨o,Υ,AsZ j.2,B1 (LI d b hb) j.1⟩
 obtain⟨x,F',⟨nx,hE⟩,m⟩:=hx;obtain⟨F4,H4,t⟩:=BK2 m.1 (m.1).f;show E7 (H4=H3) (funext fun b=>by
  by_cases hb:Tu
  ·rw[LI t b hb,AKP fz,LI d b hb]
  ·rw[ZY t b hb,i2 b hb])
 suffices xv:ŷ (wj AE F4 H2 H4) from ⟨Γ,F4,x,FK,ALn,xv.back R3.gr.h,AuG xv R3.apart,hE⟩
 refine E9 AGM;have nn:NA (P4 Jd) (¬Tu):=fun b q hb=>by
  show Ą Υ v AtS;rw[AsZ v.2] at q;cases q
 cases x with
 | AT C=>exact m.2.2
 | any C=>trivial
 | pay C fs ts=>
  obtain⟨p,vs,as,e3,ep,el,fp,hp,nd,hn,rt⟩:=m.2.2;refine⟨p,vs,as,e3,B1 (i2 p (nn p hp)) ep,el,KL (E8 t p _ (Anp hp) ep) fp,B1 (ATv p (nn p hp)) hp,nd,IO,?_⟩
  ·show JO u y (APG ts vs as rt b hb) (KL (E8 t b _ (Anp ā) Ν) cc.1) (B1 (ATv b (nn b ā)) ā)
  ·exact Wm (Db t) ts vs as nx (p9 Gc ts vs as (AaU (i2 b (nn b ā))) rt)
#where
def zx2(BQ'):bO:=fun Γ P E=>te AQ' (fun d Ω=>(WB ZN (AB_ (BPR Ω)))) lF
section
variable{X:Cx}{F0 H0:Hp}{e o:AG}{es:CY}{AB p Ic:AR}{x m:Ξ}{f fa C:Η}{fd:ET}{ps:AA}{k:Ζ}{sp:dD}{t:dH}{te:bO}{pl:AMY}
theorem Ux{z:NP}{E:XW}{F H F1 H1 Oz Jd :Hp}{Μ:fB}{σ:St}{Γ Ω:G2}{s:AC}{us:An}{vs:AL}{ds:AJ}{P:ATr}{Q:VK}(BT6)
  (R:Ī) (L:BUM) (n0:Ags) (I:Å σ Jd s) (R1:BNJ) (sF:sK Oz) (r:AFy) (rs:AJy Oz ds) (h:sp ds (fun d=>xu d/\AG2) BWh)
  (kk:A0u):
  BHw:=by
 have hs:pL AE sp vs Jd AWq BSO:=
  ⟨Oz,ds,_,_,HP,rs,h,BVy (by
   show O_ F2 H2 (BK2 gr KA);have r2:=BJn rv
   obtain⟨v',_,ev,r2,Z⟩:=r2;cases (ev);exact⟨R1.gr.h.trans gr.h,H2,AEg,AEi,kk d Γ F2 H2 v Ν A3 r2 hp.2⟩),AlA⟩
 have hl:AGY us=YO:=A0h ANM
 have hbs:=hb s us VA hl;show ģ;refine AOI (AnE X.A MM s Jd AK5 us vs _) AnF r hs;cases r with
 | YN e=>exact ydt cx R L n0 I R1 sF hq
 | ok fl=>
  cases fl with
  | DM u=>
   show AlP (AnG hq) (DH L.thaw) n0
  | MG=>show RE
  | brk=>show RE
  | No=>show RE
theorem ybf(BRx)(hr:UB)(hb:AGD)(ho:w_ ABf)(ha:w_ RA)
  (AOS)
  (ht:EW ARN=(do
   let ov<- EW o
   ABa
   let (f,first)<- AB' pl
   ACJ FH):=by rfl):
  Aku zx2:=by
 show w4;show AWg p;refine AOX (ho F1 H1 z lF AHc Μ s σ H1 (fq H2 (∃F2 A_ d,Arj F2 H2 A_/\AaN/\Rep AE F2 d v/\ (WB ZN (AB_ (BPR A_))))) AK ⟨F1,jR Γ,_,(p.2.1).R,h,fun d Ω F2 H2 v R1 s1 r1 h1=>⟨F2,Ω,d,R1,s1,r1,h1⟩⟩) ⟨x,H2,I2,rx,F2,A_,d,R2,sF,rd,q⟩
 cases d with
 | DJ C' fs ds=>
  show NW Z y q TQ rd;show AkP (VB I2 (yy _ _ ea) hc hm (TJ Ν) ?_);show KS (AyL hm.kp (cM (ha F1 H1 z lF AHc AB Μ s1 σ H2 (fun vs H3=>∃F3 Γ3 es,Arj F3 H3 Γ3/\Kt F2 F3/\AJy F3 es/\BX2) I2 ⟨F2,A_,_,R2,AI,fun es Γ3 F3 H3 vs R3 s3 r3 h3=>⟨F3,Γ3,es,R3,s3,r3,h3⟩⟩)
   fun us s2 ⟨ws,H3,I3,r,F3,Γ3,es,R3,sF3,rs3,q3⟩=>(E9 I3.kIn))) (Ux (us:= D8::us) (vs:= D8::ws) Fn hr hb cx R NS UF I3 R3 (Aaa sF3) (.AU Z r) (rD (TQ.up sF3) rs3) q3 kk)
 | _=>show ē
theorem z6v(G:AVc Ba)(hc:UI)(hr:UB)(ho:w_ ABf)(ha:w_ RA)
  (AOS)
  (ht:EW ARN=(do
   let ov<- EW o
   ABa
   let (f,first)<- AB' pl
   ACJ FH):=by rfl):Aku zx2:=dP f fd bd (ybf hc A3 Ν hr CO ho ha hst hpl ht)
#where
def Cj(t:pP):pP:=Ag6 t tr (KZ tr/\P tr Γ)
theorem z4j(AGF){e:AG}{tn:pP}(h:w_ AFz):gL QN (Cj tn):=fun z E cx=>by
 show AOb Q R;show AWg m;refine Ô (h F1 H1 z lF AHc Μ s σ H1 AWq m.1 ⟨F1,jR Γ,_,(m.2.1).R,q,fun t A4 F' H' v as R' s' nd hn rt hp=> ?_⟩) u hq
 ·obtain⟨F2,H2,n⟩:=(m.2.1).VI R' s';have hh:∀a∈as,Y3 F2/\vE/\ABR/\∀u,Ao8 ->GS H2 u:=fun a ha=>by
   obtain g:=hn a ha;obtain⟨u,p⟩:=AYy t v as rt a ha;show EG (ASB a u NU AK);exact⟨NO CC,A3,ED,fun w ew=>by rw[AK] at ew;cases ew;exact Ν⟩
  exact⟨AZH,H2,LI n,ZY n,k t Γ F2 H2 v as n.1 AFf nd (lP ⟨AgW.1,AgW.2.1,Db AgW⟩) (AIo Gc t v as (lP (KL AgW)) (z76 (Db n) t v as hp.1 rt)) hp.2⟩
 ·show AlP hq (m.2.1).thaw m.2.2
def K1(tt:TT2):TT2:=Ag6 tt b (P b Γ)
theorem yd0(AGF){e:AG}{tt:TT2}(h:w_ (gL QT tt)):gL QT (K1 tt):=fun z E cx=>by
 show AOb Q R;show AWg p;refine Ô (h F1 H1 z lF AHc Μ s σ H1 AWq AK ⟨F1,jR Γ,_,(p.2.1).R,q,fun b A4 F' H' R' s' hp=> ?_⟩) u hq
 ·show T_ F2 H2 w ((p.2.1).VI R' s') (BHZ (k b Γ F2 H2 BE EM hp))
 ·obtain⟨H',I',sm,H2,y⟩:=hq;exact⟨H2,(p.2.1).thaw UF I' sm Ν A3,CO⟩
def Hu:T ->D
 | r8 us=> .vH ks (uG us)
 | t=>toD t
theorem aaj(AGF){Μ:fB}{σ:St}{s:AC}{Γ:G2}:∀(ts:Ev) {vs:AL} {bs:BH} {F H:Hp},AW ->Ī ->BQ bs.Nodup (HE bs A1u) BKf (fO AE F H ts vs bs) (∃F' H',sM s/\km F' H' Γ/\F6 /\ (fg (b∉bs) H' H)/\ (A2U bs)/\aM AE F' (An6 Hu) vs):=by
 intro ts;induction ts with
 | DU=>
  intro vs bs F H I R _ _ _ r;show ť Z r;exact⟨F,H,I,R,r_,rS Z,rS Z,SW⟩
 | AU t ts ih=>
  intro vs bs F H I R nd hn hd r;show bz v us b1 b2 Z r1 r2 r;obtain⟨ks,xs,Z⟩:=hd _ zY;show bz a ws c1 Z ea hkl r1 r1;obtain g:=AZY nd;obtain⟨_,_,zs,kv,o,es,ep,p⟩:=Ny IB ea;show AQ F1 w (R.nail (o:=o) CC (V' (hn b (zR _ hb))) ea hkl r1);have I1:=z1a I ea AK;have off:HE b2 (b∉a::c1):=fun b hb hc=>ϥ b hc b hb Z;show O_ F2 H2 (ih I1 EM NU (V' (B1 (ATd b (off b hb)) (hn b (zT _ hb)))) (fun t ht=>hd t (zX _ ht))
   (p9 BE ts us b2 (Ack (DB (off b hb A_c))) r2))
  refine⟨F2,H2,Ν,A3,(BE).Kk ED,IO,IO,rD ((nr).up ED) AEi⟩
  ·rw[BBX Q1,BVn (DB (hb (A5v _ A_c)))]
  ·rw[BBX AEg,ATd b (gu (hb (A5v _ h)))]
def z2f(tn:pP):pP:=Ain (∃ks ts,t= eB/\ BKf/\E_ A0r)
theorem z7t(BTK):gL QN (z2f tn):=AyM (by
 show Se hq;refine cM (AVg he (∀s1,Af8 H1 ->∃H2,Af8 H2/\Aaw) I A0d) (AEU Ch)
 ·intro s2 I1;show HA ks ts Z n h1;show AHu;obtain g:=A7Y nd;show AE_ F2 H2 (DH aaj ts I1 R1 g.2 (V' (hn b (zX _ hb))) n.1 r);obtain w:=hn a zY;exact⟨H2,AK,k A0r Ω F2 H2 _ [a] NS (rV AL8) BN (V' (ss BY5 (LI p a CC) ⟨BE,EM,Kb⟩)) ⟨a,vs,[],Z,Z,B1 (E8 p a CC) ea,hkl,T4 (GT p).2⟩ n.2⟩
 ·obtain⟨x,H1,I1,r1,q⟩:=Ch;show C6 H2 (q s1 I1);exact⟨x,H2,Ν,r1,AI⟩)
def Hv(tn:pP):bO:=Ain (P (toD t) Ω)
open yv in
theorem z7e(BTK):zh (Hv tn):=AyM (by
 show Se hq;refine he z E cx Μ s σ H Q I A0d;have s2:sK (sw (r6 mr H1 (F1 b))):=OL u (by
  show sh mr (H1 b) (F1 b);rw[OH (ASO cc.1)];exact q)
 refine k _ Ω _ H1 v (R1.frzM s2 (md) (AUv ?_)) Ty (AYz s2 t v as (fun a ha u q=>by show sh AhV (H1 a) (F1 a);show HZ ha;exact q) r) h1
 ·change sh mr (H1 b) (F1 b) at q
  split at q
  ·exact q
  ·exact HP b u q
 ·change sh mr (H1 b) (F1 b) at q
  by_cases hb:mr
  ·exact ā
  ·rw[ARK,n] at q;cases q)
#print L3
namespace L3
open H_ Nl IR L2
abbrev R3:=Ξ×Ξ×BI
mutual
def aak:nS
 | dq=>D6
 | vv=>D6
 | ic=>D6
 | n_=>D6
 | .vH _ xs=>Hw xs
 | LO=>Hw xs
 | .DJ _ _ xs=>Hw xs
 | _=>IS
def Hw:vt
 | []=>IS
 | So=>aak d/\Hw ds
end
mutual
def ab5:AS_
 | NY=>aak d
 | Wp=>Dt ts
 | ABQ=>Dt ts
 | AMo=>Dt ts
 | ANc=>Dt ts
 | nX=>D6
def Dt:AsN
 | []=>IS
 | RI=>ab5 t/\Dt ts
end
abbrev acu:=T ->T ->Do AJ (T ->Do T D)
section
variable{K:Φ}{F H:Hp}{g:Ξ}{y:V}{t' :T}{cs:BH}
theorem z3e(rt:TR K F H t' y cs):∀{fs:AA} {ts:Ev} {vs:AL} {as:BH} {t:T},Ϡ ->Akt ->ė ->
  ∃vs' b1 b0 b2,as=AEm b0/\BN7 /\BCR/\fO K F H BBu vs' (zt cs)
 | [],_,_,_,_,_,e,_=>BZy
 | EH,[],_,_,_,_,e,_=>BZy
 | w8,AMZ,_,_,_,h,e,hv=>by
  show ANx us;show NR dO;show Ary;unfold nJ eE;by_cases hg:g=f
  ·show AAn hg;cases e;subst hg;rw[My,My];exact⟨y::us,[],a1,a2,Z,Z,hv,y,us,cs,a2,Z,Z,rt,q2⟩
  ·rw[EJ hg] at e;rw[AR_ Ps hg,EJ hg];show ą vs' b1 b0 b2 w (z3e rt q2 e Ad7)
   refine⟨v::vs',a1++b1,b0,b2,FA,g0 BE,DS EM,?_⟩
   exact⟨v,vs',a1,AUd,Z,FA,q1,Kb⟩
#where
def Gj(BH2):aC:=sQ tn t (∃a as fs ts t0,ADr Ω (a::as)/\ϸ t0/\ASK/\∀cs,LZ (Y_ yz Oy (À t)))
theorem ydl(AGF){FF:AG}{AB kK IU :AR}{x f:Ξ}{C:Η}{i:Ζ}{tn:pP}(hc:UI)(hn:ir)(he:Azq)(hN:Hk)(hv:NN)(XE)
  (hs:AV5 F7:=by rfl):AjV (Gj C i f tn):=fun z E cx=>
 uH (DH Yy Sj LP hs) (kq Dn wY (by
  obtain⟨F,Γ,D2,R,h,k⟩:=wY;refine VT (fun t Ω F1 H1 v cs R1 s1 Ud hnc rt hq=> ?_);obtain⟨a,as,fs,ts,t0,e0,hf,hl,q⟩:=hq;show Ak';obtain⟨a',dx,vs,bs,Z,e2,ea,ed,Fb,Ov,r⟩:=r;show ĉ;refine AlQ
  have C4:HE AG4 A2s:=EB BJC;show D1 dis (HE AG4 (b∉cs)) A4j nac (HE cs gS) (fun b hb z=>dis a zY (z ▸ hb)) nad (a∉dx::bs) ABg nab (HE bs gS) (Ahs nad);show bz vs' b1 b0 b2 p1 p2 p3 (z3e rt r hf Fb);rw[p1];have sub:HE AUd (b∈AEm b0\/b∈cs):=EB (by
   simp only [AW2] at hb⊢;rcases hb with z | z | z
   ·exact lI z
   ·exact .CB z
   ·exact .AV (ARw z))
  have m3:=AhN (AaC VC vs') Gc _ vs' _ (Ack ((sub b hb).SB (nab b) (nac b))) p3
  refine db (Akn (Õ b0) (t:= .tr (Õ cs) (À t)) ⟨_,Z,?_,IO,a,dx,vs',_,Z,Z,j4,B1 (dj (DB (AQ7 nad))) ed,p2,Ov,m3⟩ IO) (q _)
  ·rw[AZB,AZB] at nd⊢;show ANj;have q3:=ALZ n3;have q4:=ALZ q3.2.1;have mb:NA (b∈b1\/b∈b2) (b∈a::dx::(zt b0)):=EB (by
    simp only [į,AW2];show ĩ hb (ALw z) Axe)
   refine⟨AGc,AGc,AfS q3.1 (AfS Ud q4.2.1 (fun b hb b' hb' e=>dis b' (mb _ (O0 hb')) (e ▸ hb))) (LJ b hb b' hb' e)⟩
   ·rcases AbT with z | z
    ·exact n1 (HU z)
    ·show ĩ (sub a z) (n1 (zX _ z)) (dis a zY z)
   ·show ĩ (sub dx z) (n2 z) (dis dx BN z)
   ·subst e;rcases ph hb' with z | z
    ·exact dis b (mb _ (.AV hb)) z
    ·exact q3.2.2 b hb b (zT _ z) Z
  ·rcases UO with Z | hb
   ·exact hn' _ zY
   ·rcases UO with Z | hb
    ·exact hn' _ BN
    ·show OF (sub b hb) hb hb (hn' b AWY) A1P
  ·rcases UO with Z | hb
   ·exact .AV zY
   ·rcases UO with Z | hb
    ·exact .AV (show _∈_ by simp)
    ·show OF (sub b hb) hb hb (.AV AWY) Asn))
def gW(x y:Ξ):AA:= [Avs.1,Avs.2.1,Avs.2.2]
def K3(ANs):bO:=ZE ta (WB dS (gt tb e (bq e (.Ψ y) (BHF (P A'D A_)))))
def RJ:FC:=fun d e P=>∃x n,d= .Ψ x/\e= .AF n/\ (n=0/\AAp D'\/n=1/\AAp x)
section
variable{X:Cx}{F0 H0:Hp}{o e:AG}{Ic G1:AR}{ta tb:bO}
theorem yi2:BSn Bdy (ck (gW a b).B_ SV):=by
 rintro Μ s σ H x xs v us Q I rx rs ⟨a,b,e1,e2,hb,hl,q⟩;show ABo;show ik rx;show AVG;show AQ t' Z ru;have k1:LE 1003:=De
 refine AEx Bdz Abj PySem.F.entry_str_partition PySem.F.args_str_partition_2 (meets_str_partition a b t t' hb A2) ?_
 have C8:∀(x1 x2 x3:Ξ) (t1 t2 t3:Tok) (tk:Ζ),[x1,x2,x3]=gW a b ->my ϻ (AKW (ϕ (AGG [.Ψ x1 t1,.Ψ x2 t2,.Ψ x3 t3])) tk):=fun x1 x2 x3 t1 t2 t3 tk e=>by
  have h:=q _ AI2;rw[<- e] at h;exact⟨.AT _,AVr B2 [.Ψ x1,.Ψ x2,.Ψ x3],ARe (QU rh) JI ⟨ASE 3,_,.AU (VV t1) (AkQ (VV t2) (VV t3)),A1d⟩,Z,h⟩
 unfold gW A_B at C8;revert C8;cases APp a b 0 APq 1 with
 | DU=>exact fun C8=>C8 _ _ _ _ _ _ _ Z
 | AU i r=>exact fun C8=>C8 _ _ _ _ _ _ _ Z
theorem z0t(MC):∀l:AA,Lo BZ3 BZ3
 | []=>SW
 | x::l=>AHh z0t l
theorem yaq(AWN)(J':ac o "partition" o=EW o:=by rfl)
  (YR:LN (ABM [e] all (! x.1)&&ACH) (ACI [e] 30):=by rfl)
  (ϡ) (AV8):
  Ajz "partition" K3:=fun z E cx=>
 lN (AWx Pl Bdy APr Bdz PySem.F.type_str_partition yi2) (Y2 wZ (by
  show Se wZ;refine Ę;cases d with
  | Ψ x=>
   subst r1;refine AiI;cases y with
   | Ψ y=>
    subst r2;refine⟨x,y,Z,Z,h2.1,h2.2.1,ae⟩;have gr:=AvY (AIu ((gW x y).B_ SV)) yy;exact k A'D _ _ _ _ AuU ((Am' s2).Kk KA) (gv p AEw (z0t _)) h2.2.2
   | _=>show AMF
  | _=>show dv))
theorem ymc:AHK Mult RJ:=by
 rintro Μ s σ H x y u w Q I rx ry ⟨F,d1,d2,P,sF,r1,r2,⟨a,n,Z,Z,h⟩,k⟩;show Ā;show ik rx;show ğ;rcases h with ⟨Z,h⟩ | ⟨Z,h⟩
 ·exact PySem.P.mul_str_none BF BF (tN (.Ψ D') li)
 ·exact PySem.P.mul_str BF BZ0 BZ0 (K_ ((Made.val (.Ψ a t)).post _ s) ⟨AK1,H,I,LG,li⟩)
#where
def Gk(BTs):aC:=Aks (fun Ω Cv=>∃C,Aup/\AA_/\Ay3/\
 th BQn A1N lF)
section
variable{X:Cx}{F0 H0:Hp}{AB np hp:AR}{x n:Ξ}{Cd:Η}{OT suite:dL}{b₀:AM}{tb th:aC}{i:Ζ}
theorem z3d(hex:AgH)(hst:Akj)(hfr:AVm)(hN:pi)(hi:D7 X.N n)(hl:Ag9 b_)(hg:KU)(hm:Apf Cd)(hC:dJ AE Cd)(hb:BP9)
  (hh:∀a F,su F a ->sX ANK F H0 BXN th) (AHZ):BMH BRi (Gk AE Cd i tb th):=by
 show AV4 D;refine BZD;have C_:=hb F (BPn (BSA BRi U') GH Apx)
  (fun Ω Cv=>∃C,Aup/\rR AE C/\aq AE C Cd=Θ/\th BQo A1N lF) BCl [] s σ H D (ya9 I) BLx
 ·refine AKl C_ Aim ma;have q' :=ymd q;cases f with
  | MG=>exact AmN q'
  | DM v=>exact q'
  | brk=>exact q'
  | No=>exact q'
 ·intro m5 σ1 Ω F1 H1 s1 e s' I' R1 hx;have I1:Å σ1 H1 s1:=Zk I';obtain⟨a,Cv,H',B,dx,Z,os,JS,un,hok,Hh,inB,tD,A_,F2,xv,R2,Rq,xr,apx,⟨C,eC,hCc,hsub,hth⟩⟩:=hx;have xd:=xr.2;have ab6:Aup:=B1 (PH C xv.cls (g0 eC)) xr.1
  subst ab6;refine BUe I1.ok.frames.trans (A0 h4 held up4)
  refine J4 (s:=AGf h4) held (A0 h5 fl up5);have I5:Å σ1 H' (AGf h5):=A8J (t' :=s'.toks) I1 hex os JS un hok Hh.1 fl.1 inB tD (up4.trans up5);show PQ ob yb fl.there (wpAny_handleBy_cons (codeAny_handlers_test (MK (X:=(bc z).hand a) (zxh I5 a) hg hm ?_ hd)) (by intro q;cases q))
  obtain⟨bm,N,nm,qn,bs,kG,sn,sub,ab,col,dd,k0,k1,k2,k3,k5,e1,_,_,_⟩:=zxg I5.kIn hCc;obtain⟨bm',N',nm',qn',bs',Q7,sn',sub',ab',col',QJ,j0,j1,j2,j3,j5,mN',e2,_,_,tl⟩:=z4y I5.kIn hC;refine z05 e1 e2 vc yb.2 (BYL tl.hasType) ?_;rw[ydr I5.kIn hCc Cd e1,hsub];refine codeAny_handlers_suite_as (J4 (s:=AGf h5) fl (A0 h6 fl6 up6));have I6:Å σ1 H' (AGf h6):=A8J (t' :=s'.toks) I1 hex os JS un hok Hh.1 fl6.1 inB tD BPk;obtain⟨oe,vs,T,oT,ts,g1,⟨g2,gd,g4⟩,g3,_⟩:=KL fl6;have nB:Atc:=fl6.2.1;show D1 nH (Y3 H') (by
   cases q:H' a with
   | Ε=>rfl
   | Β u=>obtain⟨o',e'⟩:=tD a u q;rw[nB] at e';cases e') nfs (a∉wv) (ALa (by
   obtain⟨_,o2,ya⟩:=I1.stack.mem hm;show tj sl e3 (un.any ya.1 (I1.stkFree a hm) BN) sl' e4 (BPk a _ e3 ve);show ABP g1 e4 e4 (ve _ g3))) gone (∀o,ϒ APZ ->D6) (f' (by
   obtain⟨o',e'⟩:=inB a o e nfs;rw[nB] at e';cases e')) K4 (Y3 APZ) (by
   cases q:APZ a with
   | Ε=>rfl
   | Β o=>exact(gone o q).SB)
  show D1 aal (Y3 AYJ) (by
   cases q:AYJ a with
   | Ε=>rfl
   | Β o=>
    obtain⟨o',e'⟩:=I1.base.there a o q (by show a∉ŀ;rw[hex];simp)
    rw[K4] at e';cases e') ab7 BaE (DB (nfs (by rw[hst];unfold frs;rw[AYL,hfr,z];exact zY))) aam (uj a) (fun x c e z=>by
   obtain⟨v,o,l⟩:=I1.cell x c e;have ho:=l.1;rw[z,K4] at ho;cases ho) ab8 (WF (z.pn++Μ) (AK≠a)) (fun p hp z=>by
   have ho:=(I1.pin p hp).1;rw[z,K4] at ho;cases ho)
  show D1 IT (Å σ1 Agj (AGf h6)) (Inv.track I6 nH ⟨g1,⟨oe,vs,g1,g2,g3,B1 gd g4⟩,⟨oe,g1⟩,fun h1 h2 Ch st=>by show Ą ws d Ch;exact⟨o,ws,st o d.1,d.2.1,Db d,KL d⟩⟩ aal ab7 aam ab8) zy (Gr F2 H' Agk Agj) (AIn yy nH) IH (Inv ((bc Awc).hand a) Μ σ1 Agj (AGf h6)) (zxh (X:=bc ⟨zv,z.pn⟩) ⟨yam IT.ok _,IT.os,IT.bare,IT.base,IT.loc,IT.cell,IT.free,IT.freeC,IT.pin,IT.hok,IT.len⟩ a) rp (Rep AE Agk (.exc C) EX) (Fu (NV a oe j4))
  refine zsh (X:=(bc Awc).hand a) IH hN hi (.AV hl) (AQ4 (HK EX EX)) (AFd s7 I7) (O0 hl);have R7:=((Am_ zy).set i rp)
  
  have C8:∀{σ2:St} {H2:Hp} {s2:AC} {Q2:GI AC},Å σ2 H2 s2 ->σ2.length=X.N.length ->(∀s3,Å (σ2.set i Ε) H2 s3 ->Q2 s3) ->Ap4 (do bindName Be n CI;unbindBehindTheSuite Be n hp) s3 (Q2 s3) s2:=by
   intro σ2 H2 s2 Q2 I2 Fr hQ;refine z6 (wpAny_bindName (DH zsh I2 hN hi (.AV hl) (AQ4 (HK BC eW)) (AFd s3 I3) (.CB hl)));refine BcM (DH z97 I3 hN hi hl (v:= BC) ?_ (DC s4 I4))
   ·rw[BZz Fr (List.getElem?_eq_some_iff.mp hi).1]
   ·rw[Am4] at I4;exact hQ s4 I4
  have kb:=(k.base R.gr).mono R2.gr.f;have kh:zq AE F H0 Agk BQo BQH:=
   Ap_ (A5e kb.nx) (A5e kb.bk) (A5e kb.ct) kb.rt
  have run:=hh a Agk ⟨oe,C,j4,by rw[gd];rw[eC] at xd;exact xd⟩ Awc lF Il Μ s7 (σ1.set i Ů) Agj BQH I7
   ⟨_,_,_,R7.base,hth,kh.base R7.gr⟩
  refine jp run (A0 f s2 q) BWY;have q' :=z7p I1.ok q;cases f with
  | MG=>show T_ CS H' j q' (C8 j.1 (j.1).len (AKq ⟨_,_,I3,j.2⟩))
  | brk=>show T_ CS H' m q' (C8 m.1 (m.1).len (AKq ⟨_,_,I3,m.2⟩))
  | No=>show T_ CS H' t q' (C8 FK (t.1).len (AKq ⟨_,_,I3,t.2⟩))
  | DM u=>show UK v CS H' q';exact C8 Ν (Ν).len (AKq ⟨v,_,_,I3,A3,CO⟩)
#where
structure aan (AqF) (B9:AN) (k:Ζ) (f:Η) (fd:ET) (ps:AA) (sp:dD):Ι where
 len:BKO Ao1
 run:∀(a:Η) (A:B6) (CF:I_) (s:AC) (H F:Hp) (Fc:Args) (us:An) (vs:AL) (ds:AJ) (Pd:nS) (Q:VK),BPZ PZ (JJ (su F a) LM (sp ds Pd AcD) (A3Z h_ (Pd d)) (AAS P (A.mark Ů) ï Fc (gz r (∃u,r= .ok (.DM u)/\A5f)) s))
structure K5 (AHs) (mg:DT) (B9:AN) (x:Ξ) (k:Ζ) (ps:AA) (sp:dD):Ι where
 ex:Ab2 (BNp k) (By x) AKo
section
variable{P:A6}{w:AZ}{K:Φ}{mg:DT}{B9:AN}
theorem aao(ABm){st:AM}{f:Η}{fd:ET}{N ps:AA}{k:Ζ}{sp:dD}(Fn:AX x D_ st)(S:AhQ)(len:AWo)
  (pz:∀(cdv:AD) (A:B6) (CF:I_) (s:AC) (H:Hp) (E:XK) (a:Η) (F0:Hp),Agx ->ApE kz ->
   Akp ((wy).hand a) (BKO (t APv AUi lF))):
  BNp OQ:=by
 show AHw ya APN;refine⟨fun ds Q h=>len _ _ _ h,fun a A CF s H F0 Fc us vs ds Pd Q hr e0 hb r sF hA rs hsp hQ=> ?_⟩;show D1 hl ASR (Q_ L_ (len _ _ _ hsp)) KX AHF A'v lim BbN A'w hkind (∀y∈AYe us,BPm b_\/ (BPm To/\ AS2 (A0m mi (bJ st).JP) Ν)) (fun⟨n,v⟩ hy=>by
  show OF (S.par n (Ad_ hy)) q q Ads BEj)
 show BV (BbO (A:=A.mark Ů) hr.depth (KX _ _ ya.1) Z S.co S.gen Z (BbP KX ve) BGB) BRH;subst he;refine BJ';show AQ t l (pz cdv A CF s H (dc) a F0 hA BYf);have I0:Inv BRb [] Age H s1:=BTF;have I:Inv (((BRb).hand a).wsh AoM) [] Age H s1:=ya9 (z:=HG _) (Μ:= []) (zxh I0 a);have W:=l.1 AoM lF Il [] s1 Age H BOu I ⟨F0,ji N ds,A2K,Zh sF rs,l.2 ds Pd hsp,A5l⟩
 refine AKl W (A0 fl s' hs) (fun e s' z=>z.elim);cases fl with
 | DM u=>
  obtain⟨v,CS,H',j⟩:=hs;exact⟨_,Z,v,H',(j.1).os,(j.1).JS,(j.1).B9,(j.1).hok,j.2.1,j.2.2⟩
 | MG=>
  show T_ CS H' m hs ⟨_,Z,V.non,H',(m.1).os,(m.1).JS,(m.1).B9,(m.1).hok,Z,m.2⟩
 | brk=>
  show ASy g hs BDo
 | No=>
  show ASy p hs BCI
#where
section
variable{X:Cx}{F0 H0:Hp}{e:AG}{es:CY}{AB p:AR}{x:Ξ}{ps:AA}{k:Ζ}{sp:dD}{t:dH}{a:Η}
theorem zyq(G:Ab7 K5)(hA:Agx)(hr:UB)(hg:Gl (AY' a) x)(ha:QA ANK F0 H0 FH t)(hU):
  QE ANK F0 H0 ADy (Gf sp t):=by
 show Axv;show w4;refine BVj (MK (X:=(AY' a).wsh z)) A3;refine AWu ED BIp Ahg;show Aw6;refine AMI;have hl:AGY us=YO:=by rw[yY,<- ek,<- L_];exact (Ν).len _ _ q
 have hbs:=NO s1 us AIv hl;show ģ;have E0:=I1.env0;obtain⟨o,C,ho,hod⟩:=hA;refine Aow AnD ((Ν).run a X.A MM s1 H1 F1 AK5 us vs ds _ Q hr ⟨E0.frames,E0.mod,E0.bs,E0.bsz,E0.funs,E0.frf,E0.hok,E0.bare⟩ hbs r HP ⟨o,C,R1.gr.f _ _ ho,hod⟩ rs q A3a);show L6 u hq hq;exact A9h hq
#where
section
variable{BA:A6}{w:AZ}{A:B6}{E:fu}{s:AC}
theorem zu3{Lc}(BRX hdo)(h2:AR6)(ne:a≠it)
  (hit:s.heap.IsListIter it l i) (hl:Aww) (hx:Lc[i]?=Ε)
  (hQ:AUs Aw4):ABN it:=by
 obtain⟨oi,hoi,hc,hd⟩:=we;show A3v hl;unfold AIW;refine ATO APl Bd0 (Au5 Bd0 entry_listiter_next args_listiter_next)
 show ip (AI4 (B0 it) 0>>=_);refine AaB hoi hd PP;show Azm;refine AaB hoi hd AfM;refine A2X;show Ave;refine BIc hoi hd
 show m_ (ArT>>=_);refine PR;simp only [newExc,newTuple];refine Ahu
 show BV Akz Arh
 have h0:ϒ BZr:=BFJ ne ho;refine zz7 (K_ (AKv BcA) hh) (ANP h0) hdo h2 (zM (Atd (Av5 h0))) AN3 Z AgL ?_
 show BV (Ayw (EV (AbN AN3 Z) BYt)) (z7 (hQ _ fun b q hb e=> ?_));have e0:K0 BZr q:=AWG hb e;have e1:=z8 (ϕ BVS) e0;rw[BV2 (ň (AlX e1))];exact z8 _ e1
#where
def cmH(X:Cx):Ι:=∃a o u vs,AKv X.A.handled/\GS AIM Ϯ/\Aco/\AR6
theorem z59(A0N):Ra P w K tg (QB K a) [it] it (AEX Axw) cmH where
 mem:=FA
 DJ:=ABn (by
  have e:b=it:=cK
  subst e;obtain⟨o,e,c,d⟩:=st;exact ABs e d)
 IA:=Aje
 Pt:=by
  show US;show OS;show ADJ xs x hq hx hg AH rv p hz AAq;show P8 u hu ru AnU hx;show AOa
  refine Ak7 Ba' st Ann hu st'
  have I1:AGS:=A5M;obtain⟨o,e,c,d⟩:=id st';exact⟨u,Z,Qz (s:=PD) e c d BF ⟨x,H,I1,ru,Ato (AYa hy hq) hx,st',vz hf⟩⟩
 MQ:=by
  show US;show OS;obtain⟨xs,hq,hx⟩:=hg;show HA AH rv p hz AAq;show AOa
  obtain⟨ea,o,u,vs,c1,c2,c3,c4⟩:=hc;have hl:=APT;have eH:=AIS _ _ _ c2;exact zu3 c1 (IB _ _ eH).1 c3 c4 (lX eH f0) st Ann AgL A5H
 TL:=A'J
def iLh(UQ):dH:=t9 AAo Aeb
section
variable{X:Cx}{F0 H0:Hp}{e tg:AG}{te:bO}{a:Η}
theorem yi4(hA:Agx)(h:QE ANK F0 H0 e te):QIg ANK F0 H0 tg e (iLh te):=fun z E cx=>by
 show AOb R S;refine cM (h z E cx Μ s σ H (fun x H1=>∃b xs,x= .AT b/\nG AE H1 b xs/\su H1 a/\ (WN ->R (QB AE b) H1)) I (BGM ?_)) (tz ⟨x,H1,I1,r1,b,xs,e1,hq,hA1,q1⟩)
 ·cases d with
  | A8 ds=>
   unfold Rep at r1;show T0 b r1;obtain⟨o,C,ho,hod⟩:=hA;refine⟨b,vs,Z,ϭ,⟨o,C,HP _ _ (R1.gr.f _ _ ho),hod⟩,AKu (k ds Ω F1 H1 _ Oc R1 s1 zye ?_ h1)⟩;refine BUs
   obtain⟨v,hv,rv⟩:=AhD;refine BBp hv;show AQ Z y y;show AUm (y vs A1t) hv (Ajy (rv.up s2))
  | _=>show dv
 ·subst e1;cases r1;show ADJ AH rv p hz (AnB hq) o C ho hod hA1;obtain⟨g1,⟨o',vs,g2,g3,g4,g5⟩,_⟩:=AY6 a _ ho;rw[g1] at g2;cases g2;have g5:=g5.resolve_right (DB (z hod));refine BW2 Ann;refine⟨DZ,AE',_,_,H1,cmH,Z,AFS,z59 b _,hG,DC c hb,q1 hz,fun Y eA _ kf=>⟨a,o,_,vs,?_,kf _ _ _ ho,g4,g5⟩⟩
  ·show E7 (c=DZ) cK
   exact Aal
  ·rw[eA];rfl
#where
section
variable{X:Cx}{F0 H0:Hp}{AB p:AR}{x:Ξ}{ps:AA}{k:Ζ}{sp:dD}
theorem z9s(G:Ab7 cR)(hr:UB)(hg:KU)(hdb:VU x ń:=by decide):Dx (ADL (bn p) []) (aF sp ak):=by
 show Axv;show w4;refine ANv A3;exact BdW VA ED (N8 Ν hr NO cx I R C7 II h (Ap8 Γ (ACr gr) KA))
#where
theorem z8n{e:AD}{CL env' :Env}(h:env'.frame=AY4):ŗ e env' =ŗ e CL:=by
 unfold ŗ PySem.frameOf;rw[h]
theorem zts{h B B' :AN}(k:BHP B'.get?):∀{l:I_},AUF B ->AUF B'
 | [],_=>N2
 | EH,⟨hk,⟨L,o,hf,hn,ho⟩,hr⟩=>⟨hk,⟨L,o,hf,k _ hn,ho⟩,zts k hr⟩
section
variable{X:Cx}{Μ:fB}{σ:St}{H:Hp}{s s' :AC}{C:Η}{Ex:XK}{e:AD}{m:DT}{use:Aui}{Qv:fu}{Ap:AD}{sc:ME}
theorem yb7(hst:Akj)(hfr:AVm)(I:AW)(hC:bu C)(hm:s.heap.Ns C m)(loc:Avc)(qE:ϛ C)
  (cel:uj C) (pin:AKp C) (stk:C∉wv) (hx:Aki Ex)
  (K:∀s1 s2,bg s1 ->gC EA X.w MM H s1 Ex e s2 ->ej e s2):
  AZD uC X.A AyF BSi e s' :=by
 obtain⟨a,Cv,H',B,dx,Z,os,JS,un,hok,Hh,inB,tD,hE⟩:=hx;unfold AZD;rw[z8n (CL:=Be) (env' :=jj sc C Be) Z];refine BUe I.ok.frames.trans (A0 h2 held up)
 obtain⟨oC,es,ep,hoC,hdC,rC⟩:=id hm;have keC:=un.keep C oC hoC hC stk BN
 show PQ sl hC2 (up C oC keC fun vs q=>(Aag hdC)) ⟨m,⟨_,es,ep,hC2,hdC,rC⟩,NH h3 sb cenv hce⟩;obtain⟨f1,f2,f3,oe,vs,T,oT,ts,he,hk,hd,h1,hB,hne,hT,hdT,h3'⟩:=held;have nT:C≠T:=M8 hT hdT hC2 BTh
 show D1 na (C≠a) (M8 he hd hC2 BTh) hz (3<ts.size) (AL6 h3') he3 (GS h3.get? oe) (MZ sb a (AJ1 na) he) hT3 (h3.get? T=Β oT) (MZ sb T (AJ1 nT) hT);unfold PySem.passOn;refine A_7;show AGj
 refine PR;unfold A8I;refine A_7;rw[Fs BN,hce,hfr]
 refine ACq hT3 hdT hz (AZI ?_);show D1 far (fg (b≠T) (h3.update T (Obj.mapFields (·.setIfInBounds 3 (rawInt X.env.locals)))).LY h3.get?) (EB Ahc) f4 (ADZ (b≠C) (b≠T ->MW h2.get? ->MW (h3.update T (Obj.mapFields (·.setIfInBounds 3 (rawInt X.env.locals)))).LY)) (fun b o n1 n2 q=>fS far b n2 (MZ sb b n1 q)) hB' (Ŷ AVb (MW ACp/\b≠C/\b≠T)) (OL o (by
  have q' :=Ahb;refine⟨q',AGc,DB (by rw[z,hB] at q';cases q')⟩
  show Az3;cases q)) noB (BHP AVb) (TZ q (by
  cases z:AVb b with
  | Ε=>rfl
  | Β o=>rw[(hB' b o z).1] at q;cases q))
 show D1 inC (∀b o',K0 ACp o' ->b≠C ->K0 AVb o') (fun b o' q n=>(AfA q (DA n))) Te (BP0 (h3.update T (Obj.mapFields (·.setIfInBounds 3 (rawInt X.env.locals))))) (OL o (by
  obtain⟨q1,q2,q3⟩:=hB' b o q;exact f4 b o q2 q3 (f1 b o q1))) st' (BP0 eh) (fun b o q=>Hh.1 b o (hB' b o q).1) s1h (Ŷ (Ao7 A7 [C]) (Sc/\b≠C)) (OL o (by
  refine⟨Ahb,AGc⟩;show Az3;cases q))
 show D1 fr (HE wv (∀o,Sc ->∃sl',K0 (h3.update T (Obj.mapFields (·.setIfInBounds 3 (rawInt X.env.locals)))).LY (AbQ o sl'))) (k9 hb o (by
  obtain⟨_,o2,v⟩:=I.stack.mem hb;have e2:=EN;rw[q] at e2;cases e2;show ă Wn (un.any q (A7X b hb) BN)
  obtain⟨sl2,e3⟩:=up b _ e1 v.2;exact⟨sl2,f4 b _ (P_ (stk (z ▸ hb))) (M8 hT hdT e3 v.2) e3⟩)) I1 (bg (VX (ACZ A7 [C]))) (Abh ACg it C (Op hb q (AfA q (DA hb))) hC loc (O0 qE) cel pin) HC (H' C=Ε) (un.free C oC hoC hC BN) tr' (lT H' (Aoc AVb)) (OL u (by
  obtain⟨o',q'⟩:=tD b u q;exact⟨o',inC b o' q' (DB (Aqb HC))⟩))
 refine K _ _ I1 ⟨a,Cv,H',ACZ B [C],dx,Z,os,JS,⟨fun b o q n hb hx=> ?_,fun b o q n hb hx=>fr b hb o (s1h b o q).1,fun b o q n hx=>un.free b o (s1h b o q).1 n hx,Op q hx ?_,un.tups,un.nF,un.pR⟩,z2v hok st' Te tr',⟨Te,noB a f2,?_,AAi ⟨Be,xz,U_,hst,hfr,oe,vs,T,_,_,Azg he3,hk,hd,h1,noB T hB,hne,AbN hT3 hdT,BD',DS hz⟩⟩,AAx ?_,tr',hE⟩
 ·show AQ q1 q2 AwJ;show NW o' q' BIR z (Hh.1 b o' q');show AU_ (un.keep b o q1 n hb hx) BL0
 ·obtain⟨q1,q2⟩:=AwJ;by_cases hb:b∈wv
  ·show JO sl' q3 (fr b hb o q1) _ q3
  ·show JO o' q' BIR o' BL0
 ·rw[hst];refine zts noB (Heap.FunFrames.of_keeps (h:=ACZ h2 [C]) (AAx ?_) (W.funFrames_hideAll f3 (LJ CL henv b hb z)))
  ·have q1:=Ahb;refine AeU (f4 b o (P_ ?_) (M8 hT hdT q1 n) q1);show Az3;cases q
  ·show E7 (b=C) cK
   exact stk (B1 hst (AuF CL henv z))
 ·obtain⟨q1,q2⟩:=AwJ;obtain⟨o',q'⟩:=inB b o q1 n;exact⟨o',inC b o' q' q2⟩
#where
def Du(g:tG)(tc:TT2)(te:bO)(Γ0:G2)(Ex:iO)(x:D)(P:vt):Ι:=
 BSg (te A_ BGV (KE v (Ex v)))
def Gm(BSq):dH:=BPM (Du g tc te A_3 (E Ω))
section
variable{X:Cx}{F0 H0:Hp}{elt tg Nw:AG}{ifs:CY}{sc:ME}{C4:AA}{FV:He}{N' :AA}{AB:AR}{te:bO}{g:tG}{tc:TT2}{ti:dH}
def eXE(AGB)(σo:St)(t:bO)(E:XW):TE:=ADv (∃Γo F1 H1,Š F1 H1 σo Γo/\Ig K F1 H1 t BAY σ H Q)
theorem z6g{E:XW}{K:Φ}{F H:Hp}{σ:St}{Γ:G2}{J:It}{Hx:Hp}{ds:AJ}{Ap:Η}{P:vt}{Q:AMD}(R:FB)(hJ:M9 K F Hx J ds)(hx:č Hx)(ha:bu Ap)
  (h:rF BJg ds P)
  (C8:∀ys F' H' vs,AEO Acs ArR (F' Ap=Ε) (BQ (H0 Ap=Ε) (AJl ys) (ADs Ap) (P ys) (OE Ap H'))):
  BQ9 (qk eXE σ te E):=by
 obtain yb:=Ih (ds:= []) (vs:= []) R ha II
 show GL hx1 (Kt Hx (AQB H)) (AJs (AKJ hx ha) (hx b u e)) xa BK6 BNm (AOV vs H' Kx Kx (BQu (BRT BJg)) ⟨Kx,FA,aS,F,[],vc,r_,hx1,yb.2.1,Db yb,SW,Mn,AL7⟩)
 rintro i m vs H' ⟨Z,hi,F',ys,R',sF,hx',ha',Tg,rs,lv,hc⟩;have hz:=hJ.1;refine E3 ha' BG
 obtain ya:=hJ.2 i H' F' sF R'.g hx';by_cases Cc:AGZ
 ·obtain l:=A1L ve;refine .CB ⟨l.1,BG,BKJ⟩
  show AQ F2 t (l.2 x H2 y);rw[BZ7] at hc;have R2:=APS FK;refine⟨F2,H2,F2,AVl qU Γ,_,AKX,AVl z29 R2,t.2,hc,BTw⟩;refine⟨F2,H2,F3,Γ3,_,R3,q3,BSf q4⟩;have zy:BHn:=A'k;cases b with
  | Τ=>
   rw[AGe] at q4;refine⟨AUp,AKG,Z,Cc,F4,ys,APS zy,A'Q,BJX,A'a,zxl zy Tg ha',AI1 zy.f,BG,?_⟩
   simpa using q4
  | Θ=>
   rw[My] at q4;refine⟨Γ,F2,H2,R2,F4,Γ4,_,R4,q4,BUB⟩;have Iu:BHo:=A'l;have a5:=A'b;have f5:=zxl Iu Tg ha';refine⟨a5,AUp,AKG,Z,Cc,F5,ys++ EK,?_,A'R,L9,j4,f5,BNv,BCn,?_⟩
   ·have R6:=APS Iu;refine⟨BBV R6.gr.n,R6.len,P6 j sl,R6.ap⟩
    ·show AFk f5 (R6.g b u e)
    ·show BHj
    ·show BUK
   ·show ARq (xa u (c_ z e)) (Iu.h b u (hx' b u e))
   ·simpa [AYq] using q5
 ·show BU'
theorem yfx(S:ASn)(hc:HV)(hst:Akj)(hfr:AVm)(hi:Aj6)
  (hg:AWb) (ht:AWc) (he:AWa)
  (Acw) (AF'):Ż â (Gm n FV ti g tc te):=by
 subst hn;rintro z E cx Μ s σ H Q I ⟨F,Γ,P,R,h,k⟩;rw[PH (jn â (bc z).CL) (AZE â sc Be _ (AZF []) Τ ATh) BYH];refine Lu zoq X bi xb (fun C=>AZD uC X.A AyF fun x s'' =>APQ uC X.A z.xe Be Ε AAh CI C Aqz s'') g Aiq tc Air (te:=eXE AE F0 H0 σ te E) (Q:=Q) AhZ (pig hc ATC) ?_ ?_ ?_ Z hs I ?_ ?_ (sL _ h h)
 show AlT
 show AlS
 ·rintro C Jn R_ fp bk m5 s' CS H' Q' I' ⟨Γo,F1,H1,Ro,q⟩;refine he C Jn R_ fp F1 H1 (HG _) BAY ⟨fun aap σ2 A_ F2 H2 s2 e s3 I2 R2 hx=> ?_,MX hs (Bdx hs)⟩ m5 s' CS H' Q' I' q;obtain⟨IX,hC,m,hm⟩:=bk.out aap σ2 H2 s2 ⟨yio I2.ok,I2.os,I2.bare,I2.base,I2.loc,I2.cell,I2.free,I2.freeC,I2.pin,I2.hok,I2.len⟩;have RX:=Ro.grow R2.gr;exact DH yb7 hst hfr IX hC hm bk.loc bk.size bk.cel bk.pin bk.stk hx fun s4 s5 I4 h4=>cx.pX Μ σ Γo F2 H2 s4 e s5 I4 RX (h4.imp (AaS y (by
   obtain⟨_,F',x,R',sF,xr,alt,hE⟩:=y;exact⟨Γo,F',x,Ro.grow R'.gr,sF,AZL Ro.gr.h,alt.imp id fun y=>⟨Ν,EB (RX.apart hb)⟩,hE⟩)))
 ·exact VT (fun ds Ω F1 H1 J Hx R1 s1 hx hJ h1 Ap ha=>z6g R1 hJ hx ha h1 fun ys F' H' vs R' sF a1 a2 a3 rs ap hp=>BU8)
 ·rintro Ap C H' s5 I5 q5 ⟨m,hn⟩ c1 c2 c3 c4 c5 c6;exact⟨m,hn,AfU ⟨.AT Ap,H',BH4,Z,q5⟩⟩
#where
def K6(z:Ξ)(l u:OI):He:=Builtin.Str.strSliceIndices l u 1 kC
def qX(z:Ξ)(l u:OI):Ξ:=z_ (Cl (K6 z l u)) kC z ⟨AGG ((K6 z l u).filterMap (z.cps[·]?))⟩
def ab9:AOP:=A4T (∃z:Ξ,û z/\ Ě (K6 z lo hi)/\Q (.Ψ (qX z lo hi)) H)
def Gn(A4w):bO:=A5X ml (Ě (K6 z l u)/\P BOb Γ3)
def Uy(UQ):bO:=t9 ml (AtU z<=1000/\E_ (.Ψ (AJB z)))
section
variable{X:Cx}{F0 H0:Hp}{e o:AG}{lo hi:ALr}{AB p2 Ic G1:AR}{te:bO}{tl th:JK}
theorem zsi{z:Ξ}{t:Tok}{l u:ã (BI×Tok)}{s:AC}{Q:fu}(hz:Ě (K6 z (l.map (·.1)) (u.map (·.1))))(h:∀t' k,Q (.str (qX z (l.map (·.1)) (u.map (·.1))) t') (AJ5 k)):(sliceMade z t l u Ε).post Q s:=by
 have k1:ATe:=De
 show Made.post (if (true&&(K6 z (l.map (·.1)) (u.map (·.1))).length==z.length)=true then _ else _) Q s;show BD qX;by_cases hl:Cl (K6 z (l.map (·.1)) (u.map (·.1)))=kC
 ·show HZ (HU hl)
  rw[M1 hl] at h;exact h t LX
 ·show EL (HU hl)
  rw[Ps hl] at h;refine vi (h _ _);show D4 (Anc _).qE;rw[SD];exact zQ (List.length_filterMap_le ..) (zQ hz k1)
theorem yh9:SlR X ab9:=by
 rintro Μ s σ H x v vl vu lo hi sl Q I rx hs pl pu ⟨z,e,hz,h⟩;subst e;show ik rx;refine⟨Pl,_,PySem.F.slot_str_getitem.lookup,AO8 _ _ _,?_⟩;show Ă o hs;cases pl with
 | Ε=>
  cases pu with
  | Ε=>exact An7 (l:=Ε) (u:=Ε) (st:=Ε) ⟨o,BE,EM,Kb⟩ Z (zsi hz fun t' k=>⟨.Ψ (qX z _ _),H,Ņ k,ATM,h⟩)
  | AF b tu=>exact An7 (l:=Ε) (u:=Β (b,tu)) (st:=Ε) ⟨o,BE,EM,Kb⟩ Z (zsi hz fun t' k=>⟨.Ψ (qX z _ _),H,Ņ k,ATM,h⟩)
 | AF a ta=>
  cases pu with
  | Ε=>exact An7 (l:=Β (a,ta)) (u:=Ε) (st:=Ε) ⟨o,BE,EM,Kb⟩ Z (zsi hz fun t' k=>⟨.Ψ (qX z _ _),H,Ņ k,ATM,h⟩)
  | AF b tu=>exact An7 (l:=Β (a,ta)) (u:=Β (b,tu)) (st:=Ε) ⟨o,BE,EM,Kb⟩ Z (zsi hz fun t' k=>⟨.Ψ (qX z _ _),H,Ņ k,ATM,h⟩)
theorem zlu(he:M0)(hl:FG QO lo tl)(hu:FG QO hi th):BL1 Gn:=fun z E cx=>
 lN (DH zwr yh9 LP Asp (N_ hu)) (Hm Dd Dd (Qb (Aux l h2 (A3o H3 h3 (by
  cases d with
  | Ψ y=>
   show Mo r1 ⟨y,Z,h3.1,k _ Γ3 F3 H3 _ R3 Agh II h3.2⟩
  | _=>exact AZf)))))
theorem zys(he:ABf)(J':ac o "upper" o=EW o:=by rfl)(ALS):Dx (ű (rL o "upper") []) (Uy te):=fun z E cx=>by
 refine lN (Lu yf2 X bi T Pl id "str.upper" r (Aat (∃c:Ξ,û c/\vs= []/\ Ě AdX/\Q (.Ψ (AJB c)) H)) APr Bd1 PySem.F.type_str_upper ?_ LP J' bb) (Y2 AOQ Ę)
 ·rintro Μ s σ H x xs v us Q I rx rs ⟨c,e,e0,hl,q⟩;subst e e0;show AQ t Z rx;cases rs;have k1:ATe:=De
  have hs:AGT AdX:=zQ hl k1;exact call_gives Bd1 Abj PySem.F.entry_str_upper (PySem.F.args_str_upper_1 _) (gives_str_upper c t (by show Bdk (Cl AdX)=Τ;show BYD;simp;omega)) ⟨hs,.Ψ AdX,H,ADh,LG,q⟩
 ·cases d with
  | Ψ y=>
   show Mo r1 ⟨Z,y,Z,Z,mM,AQa II ut⟩
  | _=>show B8
#where
inductive XS where | no | pu (d:D) | ow (ANk) | tr (r:AO) (t:T) | pt
abbrev XG:=D9 XS
inductive uV (ρ:Η):Do OY XS
 | no:uV ρ C3 C3
 | pu (d:D):uV ρ og og
 | ow (ANk):uV ρ ó ó
 | tr (A1Q):uV ρ (.tr as t) (.tr Τ t)
 | Ak (A1Q):uV ρ (.tr (ρ::as) t) (.tr Θ t)
 | pt:uV ρ A'E .pt
structure iB (ρ:Η) (Γ:G2) (X:XG):Ι where
 len:AY1=A_C
 get:∀(i:Ζ) s,D7 X s ->∃u,AD_ u/\Awr
inductive Rs (α:GG) where | ok (a:α) (X:XG) | er (X:XG) (v:XV)
def OD(NX)(ρ:Η)(r:ASQ)(P:Ae6)(E:XW):Ι:=AzI Acd (ABk (P a Γ)) AKe (ABk (E Γ v))
def bnd(BG6):ARW:=BRo
def DM(NX)(o:AS6)(X:XG):ASQ:=LA o a Acd
def gd(NX)(p:Ι)(Aip)(r:AS6):AS6:=Arw p r
class XA (NX) (t:Acj) where
 x:XG ->ASQ
 ok:∀{ρ Γ X P E},KM ->AFY (x X) ->AzF
class Xu (AdE) (g:kT α β) where
 x:P5 α β
 ok:∀{d P r},x d=Β r ->P r ->g d P
class Xd {α β γ:GG} (g:α ->kT β γ) where
 x:α ->β ->G_ γ
 ok:∀{d e P r},x d e=Β r ->P r ->g d e P
section
variable{ρ:Η}{α β:GG}{Γ:G2}{X:XG}{u:OY}{s:XS}{i:Ζ}{d:D}{ds:AJ}{r:AO}{t:T}
theorem iB.set(h:KM)(hs:Awr):iB ρ (k_ u) (X.set i s):=by
 refine AS1 (by rw[A7o,A7o,AJC]) j w
 show uu List.getElem?_set;by_cases hj:i=j
 ·subst hj;show uu My;by_cases hl:i<A_C
  ·rw[M1 hl] at e;rw[M1 (AJC ▸ hl)];show OO;exact Me u hs
  ·rw[Ps hl] at e;show OO
 ·show uu (EJ hj);exact h.get j w e
theorem iB.map{f:AyQ}{g:XS ->XS}(k:∀u s,Awr ->uV ρ (f u) (g s))(h:KM):AtT (Γ.map f) g:=by
 refine AS1 (BZs HL AJC) j w
 show BZ';cases q:AMe with
 | Ε=>show IP;show OO
 | Β s=>
  show IP;show OO;show Ð e1 e2 (h.get j s q);exact⟨f u,g0 e1,k u s e2⟩
theorem iB.pu(h:KM)(e:D7 X og):AD_ og:=by
 show AOE;show ĉ;exact e1
theorem iB.pt(h:KM)(e:D7 X .pt):AD_ A'E:=by
 show AOE;show ĉ;exact e1
theorem iB.ow(h:KM)(e:D7 X ó):AuY:=by
 show AOE;show ĉ;exact e1
theorem iB.tr(h:KM)(e:Ŭ X r t):∃as,ANC as:=by
 show AOE;show ĉ
 ·exact AUG
 ·exact AUG
theorem iB.Ak(h:KM)(e:Ŭ X Θ t):∃as,ANC (ρ::as):=by
 show AOE;show ĉ;exact AUG
theorem iB.tD(h:KM)(e:Ŭ X r t):∃as,ANC as/\∀t',uV ρ (.tr as t') (.tr r t'):=by
 show AOE;show ĉ
 ·exact BDK tr
 ·exact BDK Ak
variable{f:Aqw}{P:AJM β}{E:XW}{Q:Ae6}{p:Ι}[AZa p]
theorem y5(BJr bnd):tt Γ Q E:=by
 refine XA.ok s ?_;cases e:AzR with
 | Ε=>show F_;exact h
 | Β z=>
  show F_;cases z with
  | ok a X' =>show A2n X' s' h
  | er X' v=>exact h
theorem Uz{o:G_ β}(h:AFY (DM o X)):∃r,o=Β r/\ABk (P r Γ):=by
 cases o with
 | Ε=>show LS
 | Β a=>exact Me a h
theorem mq{r:ARW}(h:AFY Ait):p/\AFY r:=by
 show BD gd;by_cases hp:p
 ·show AWL
 ·show AdT Cf
theorem wN{r:G_ β}{b:β}(h:gd p r=Β b):p/\r=Β b:=by
 show BD gd;by_cases hp:p
 ·show AWL
 ·show tq hp;show Χ
#where
section
variable{ta tb tc te:bO}{tf:dH}{tt tu:TT2}{tl th:JK}{g g' :FC}{i:Ζ}
instance:XA Adj where
 x X:=ϰ so AHC AuQ AUA (Β (.ok ä (X.set i AVV)))
 ok {ρ Γ X P E} s h:=by
  unfold cV;cases e:so with
  | Ε=>show F_;exact Cf
  | Β w=>
   show F_;cases w with
   | pu d=>rw[s.pu e];exact ώ
   | ow ds=>rw[s.ow e];exact h _ BGW
   | _=>show LS
instance {d:D}:XA (cC d):=ANo d
instance [Xd g] (AN8):XA (cB g ta tb) where
 x X:=AvR (DM BKb X2)
 ok s h:=A2v (A'K h2 s2)
instance {g:AP1} [Xu g] [XA ta]:XA (cU g ta) where
 x X:=ARL BXz
 ok s h:=AKa BXx
instance {g:Pc} [Xu g] (MA):XA (j8 g tf) where
 x X:=BDx
 ok s h:=BDw
instance {g:Q4} [Xu g] (MA):XA (Ad g tf) where
 x X:=BDx
 ok s h:=BDw
instance:XA ak:=ANo []
instance [XA te] (MA):XA (aj te tf) where
 x X:=gT (AQy tf ds (LB (d::ds) X2))
 ok s h:=Sf (Aaz tf ds (h2 _ s2))
instance (MA):d6 gk where
 x X:=dC (me AsV (.BM ds) X1)
 ok s h:=AzP UH
instance (MA):d6 fU where
 x X:=dC (me AsV ds X1)
 ok s h:=AzP UH
instance (MA):d6 cZ where
 x X:=dC (KP ä)
 ok s h:=mB ZB
instance (KW):oB cT where
 x X:=AUl (.bl c) c
 ok s h:=Sf (by
  cases d with
  | bl c=>show Na
  | _=>show B8)
instance [XA tt]:XA (pZ tt) where
 x X:=AkD (KP (! b))
 ok s h:=SF tt b ZB
instance [XA tt] [XA tu]:XA (Ft tt tu) where
 x X:=AkD (ABS (AHO tu) (KP Τ))
 ok s h:=SF tt b (by
  cases b with
  | Θ=>exact AU2
  | Τ=>show Na)
instance [XA tt] [XA tu]:XA (JG tt tu) where
 x X:=AkD (ABS (KP Θ) (AHO tu))
 ok s h:=SF tt b (by
  cases b with
  | Τ=>exact AU2
  | Θ=>show Na)
instance (AN8):Ai3 Aw where
 x X:=ARL (Lv d d4 (ABS (AHO tb) (KP AGn)))
 ok s h:=AKa (by
  cases d with
  | bl b=>
   cases b with
   | Θ=>exact AU2
   | Τ=>show Na
  | _=>show B8)
instance [XA ta]:XA (Hj ta) where
 x X:=ARL (Mm d4 (KP (.bl (! b))))
 ok s h:=AKa (by
  cases d with
  | bl b=>show Na
  | _=>show B8)
instance [XA tt] (AN8):XA (NZ tt ta tb) where
 x X:=AkD (ABS (AHO ta) (AHO tb))
 ok s h:=SF tt b (by
  cases b with
  | Θ=>exact AU2
  | Τ=>exact AU2)
instance:XA j9:=ANo Θ
instance:XA uJ:=ANo Ε
instance (KW):oB uK where
 x X:=AUl E5 (IF i)
 ok s h:=Sf (by
  cases d with
  | AF b=>show Na
  | _=>show B8)
instance [Xd g] [Xd g'] [XA ta] [XA tb] [XA tc]:XA (BPW tc) where
 x X:=AvR (bnd (DM BKb X2) fun r X3=>(Lv r (.bl k) (È k (Yf bnd tc X3 w X4 (DM (Xd.x g' e w) X4)) (LB AGn X3))))
 ok s h:=A2v (by
  cases q:Xd.x g d e with
  | Ε=>rw[q] at h2;exact qh
  | Β r=>
   rw[q] at h2;refine Xd.ok q ?_;cases r with
   | bl k=>
    cases k with
    | Θ=>exact y5 tc s2 h2 fun w Γ3 X3 s3 h3=>(A'K h3 s3)
    | Τ=>exact h2 _ s2
   | _=>show WV)
instance (Azt):A2j Ae where
 x X:=A3j (Mm IL (LB BLJ X3))
 ok s h:=A3i (by
  cases d with
  | A8 b=>exact h3 _ s3
  | _=>exact AZf)
instance (Azt):A2j Gn where
 x X:=A3j (Mm ml (me (Ě (K6 z l u)) BOb X3))
 ok s h:=A3i (by
  cases d with
  | Ψ b=>exact⟨(mq h3).1,lh h3 s3⟩
  | _=>exact AZf)
instance (Azt):A2j TV where
 x X:=A3j (Mm LO (me BQ0 BNb X3))
 ok s h:=A3i (by
  cases d with
  | BM b=>exact⟨(mq h3).1,lh h3 s3⟩
  | _=>exact AZf)
instance (AN8):Ai3 lO where
 x X:=AvR (ARR IL nk (me AV1 AVP X2))
 ok s h:=A2v (by
  cases d with
  | A8 xs=>
   cases e with
   | A8 ys=>exact⟨ATt,lh h2 s2⟩
   | _=>show WV
  | _=>show WV)
#where
def Hy:P5 D Key
 | E5=>E2 AV i
 | dS=>E2 CB x
 | _=>Ε
theorem UG{d:D}{k:Key}(h:Hy d=Β k):d=j6 k:=by
 cases d with
 | AF i=>show Χ;rfl
 | Ψ x=>show Χ;rfl
 | _=>show Χ
def Dv:AfT Key
 | []=>iN
 | wS=>NF (Hy d) k (LA (Dv r) ks (Β (k::ks)))
theorem z2m:KO ds AJ ks DI (Dv ds=Β ks) (ds=yo j6)
 | [],_,h=>AMK
 | wS,ks,h=>by
  show BD Dv;cases e:Hy d with
  | Ε=>show F_;show Χ
  | Β k=>
   show F_;cases e2:Dv r with
   | Ε=>show AGa;show Χ
   | Β l=>
    show AGa;show Χ;rw[IZ,<- UG e,<- z2m e2]
def Hz:Ζ ->D ->D ->AO
 | n+1,LO,ATW=>A5L
 | n+1,IL,nk=>A5L
 | _,d,d' =>Dh d d'
theorem z4v:∀(n:Ζ) {d d' :D},Hz n d d' =Θ ->AjW
 | 0,d,d',h=>by show BD Hz;unfold uw;exact h
 | n+1,d,d',h=>by
  have C_:∀xs ys:AJ,A5L=Θ ->Ajg:=fun xs ys h i x y e1 e2=>by
   refine z4v n (A_D h (Hz n x y) ?_);exact uv zF (by rw[BcR,e1,e2])
  cases d with
  | BM xs=>
   cases d' with
   | BM ys=>show AWA (C_ xs ys h)
   | _=>show AWA h
  | A8 xs=>
   cases d' with
   | A8 ys=>show AWA (C_ xs ys h)
   | _=>show AWA h
  | _=>show AWA h
mutual
def Wo:Atf
 | dq=>Τ
 | vv=>Τ
 | ic=>Τ
 | n_=>Τ
 | AAr=>Τ
 | LO=>Dw xs
 | Avm=> ! zp fs&&Dw xs
 | BC=>Θ
 | ST=>Θ
 | UN=>Θ
 | We=>Θ
 | Č=>Τ
def Dw:AJ ->AO
 | []=>Θ
 | So=>Wo d&&Dw ds
end
mutual
theorem z3m:∀d:D,Wo d=Θ ->xu d
 | LO,h=>zsx xs h
 | Avm,h=>by
  have h' :LN (! zp fs) (Dw xs):=h;show Ayx (C9 h'.1) (zsx xs h'.2)
 | BC,_=>N2
 | ST,_=>N2
 | UN,_=>N2
 | We,_=>N2
 | dq,h=>Ĉ
 | vv,h=>Ĉ
 | ic,h=>Ĉ
 | n_,h=>Ĉ
 | AAr,h=>Ĉ
 | Č,h=>Ĉ
theorem zsx:∀ds:AJ,Dw ds=Θ ->AFL
 | [],_=>N2
 | So,h=>by
  have h' :LN (Wo d) (Dw ds):=h;show Ayx (z3m d h'.1) (zsx ds h'.2)
end
mutual
def Wq:lm T
 | NY=>Wo d
 | Wp=>AGu
 | ABQ=>AGu
 | AMo=>AGu
 | ANc=>AGu
 | nX=>Τ
def Dy:lm Ev
 | []=>Θ
 | RI=>Wq t&&AGu
end
mutual
theorem z9a:∀t:T,Wq t=Θ ->KZ t
 | NY,h=>z3m d h
 | Wp,h=>AVs
 | ABQ,h=>AVs
 | AMo,h=>AVs
 | ANc,h=>AVs
 | nX,h=>Ĉ
theorem Wr:∀ts:Ev,Dy ts=Θ ->AAw
 | [],_=>N2
 | RI,h=>by
  have h' :LN (Wq t) AGu:=h;show Ayx (z9a t h'.1) (Wr ts h'.2)
end
section
variable{C:AVo}{f:AUQ}
instance [∀i j,AZa (C i j)]:Xd (wI C f) where
 x d e:=Ajb (gd (C i j) (Β (f i j)))
 ok {d e P r} h hp:=by
  cases d with
  | AF i=>
   cases e with
   | AF j=>show AOA
   | _=>show Χ
  | _=>show Χ
instance:Xd (Ii f) where
 x d e:=Ajb (Β (f i j))
 ok {d e P r} h hp:=by
  cases d with
  | AF i=>
   cases e with
   | AF j=>show UT
   | _=>show Χ
  | _=>show Χ
instance (Aj1):AZa (Dg i j):=Ο Dg
instance:Xd j7:=inferInstanceAs (Xd (wI Dg _))
instance:Xd jP:=inferInstanceAs (Xd (wI Awe _))
instance:Xd BJ:=inferInstanceAs (Xd (wI (KE j AyR) _))
instance:Xd uE:=inferInstanceAs Aio
instance:Xd Q6:=inferInstanceAs Aio
instance:Xd Oa:=inferInstanceAs Aio
instance:Xd Ob:=inferInstanceAs Aio
instance:Xd fZ where
 x d e:=ϰ d E5 (Ã sd (AFi (i+j))) (.Ψ i) (Ã (.Ψ j) (gf (AzA) Ψ AiY))
 ok {d e P r} h hp:=by
  cases d with
  | AF i=>
   cases e with
   | AF j=>show UT
   | _=>show Χ
  | Ψ i=>
   cases e with
   | Ψ j=>show AOA
   | _=>show Χ
  | _=>show Χ
instance:Xd pN:=BQM (jw d e)
instance:Xd Ay:=BQM (! jw d e)
instance:Xu qT:=zd d (Mm E5 (AFi (-i))) (fun{d P r} h hp=>by
 cases d with
 | AF i=>show UT
 | _=>show Χ)
instance {neg:AO}:Xd (Di neg) where
 x d e:=ϰ e IL BQJ LO BQJ
 ok {d e P r} h hp:=by
  cases e with
  | A8 xs=>show AQz ⟨de,hc.2,hp⟩
  | BM xs=>show AQz ⟨de,hc.2,hp⟩
  | _=>show Χ
instance {neg:AO}:Xd (KH neg) where
 x d e:=AM_ (zj e) (Hy d) k (E2 bl (Þ (qW DD k) (qW DD k)))
 ok {d e P r} h hp:=by
  cases e1:zj e with
  | Ε=>show AAm;show Χ
  | Β q=>
   show AAm;cases e2:Hy d with
   | Ε=>show AGa;show Χ
   | Β k=>show AGa;show Χ;exact⟨DD,FL,k,e1,UG e2,hp⟩
instance:Xd KD where
 x d e:=AM_ ua (Hy e) k (tO DD FL k)
 ok {d e P r} h hp:=by
  cases e1:ua with
  | Ε=>show AAm;show Χ
  | Β q=>
   show AAm;cases e2:Hy e with
   | Ε=>show AGa;show Χ
   | Β k=>show AAb e2 ⟨DD,FL,k,r,e1,UG e2,h,hp⟩
instance:Xd Ou where
 x d e:=Lv d (sN xs) (Lv e dy (LA (Dv ds) k (Dq ks xs k)))
 ok {d e P r} h hp:=by
  cases d with
  | jA ks xs=>
   cases e with
   | BM ds=>
    cases e2:Dv ds with
    | Ε=>show MB;show Χ
    | Β k=>show MB;exact⟨k,r,z2m e2,h,hp⟩
   | _=>show Χ
  | _=>show Χ
instance:Xd cD where
 x d e:=Lv e E5 (ALh d IL AR3 LO AR3 ml (gd (ALt) ((Bv A7m i).B_ fun c=> .Ψ ANh)) Ε)
 ok {d e P r} h hp:=by
  cases e with
  | AF i=>
   cases d with
   | A8 xs=>exact⟨r,h,hp⟩
   | BM xs=>exact⟨r,h,hp⟩
   | Ψ z=>
    show ul;cases e1:Bv A7m i with
    | Ε=>rw[e1] at he;show ZH
    | Β c=>rw[e1] at he;show ZH;exact⟨c,hc,e1,hp⟩
   | _=>show Χ
  | _=>show Χ
instance:Xd Zi where
 x d e:=Ã BC (Β (.bl (Ax d)))
 ok {d e P r} h hp:=by
  cases e with
  | non=>show UT
  | _=>show Χ
instance:Xd J9 where
 x d e:=Ã BC (E2 bl (! Ax d))
 ok {d e P r} h hp:=by
  cases e with
  | non=>show UT
  | _=>show Χ
instance:Xd Kz where
 x d e:=ARR AK1 AR' (E2 bl (! AM0))
 ok {d e P r} h hp:=by
  cases d with
  | Ψ a=>
   cases e with
   | Ψ b=>show UT
   | _=>show Χ
  | _=>show Χ
instance:Xd Ds where
 x d e:=ARR LO vy (gf (1<=k/\BYd/\BAn) BM BAj)
 ok {d e P r} h hp:=by
  cases d with
  | BM a=>
   cases e with
   | AF b=>show AQz ⟨de,Adf,AdW,hp⟩
   | _=>show Χ
  | _=>show Χ
#where
def aaq(NX)(lt:Ai')(a:α):Go ->Go
 | []=> [a]
 | b::r=>È (lt a b) (a::b::r) (È (lt b a) (b::aaq lt a r) (b::r))
def srU(NX)(lt:Ai'):Go ->Go
 | []=> []
 | a::r=>aaq lt a (srU lt r)
theorem z4s{β:GG}{R:Do β β}(as:∀a b,R a b ->¬R b a):∀{l m:D9 β},l.Pairwise R ->m.Pairwise R ->(∀x,x∈l↔x∈m) ->l=m
 | [],[],_,_,_=>Z
 | [],b::m,_,_,h=>Ϩ (h b).mpr zY BN
 | a::l,[],_,_,h=>Ϩ (h a).mp zY BN
 | a::l,b::m,hl,hm,h=>by
  rw[BcT] at hl hm;have e:a=b:=by
   rcases MO ((h a).mp zY) with e | ha
   ·exact e
   ·show OF (MO ((h b).mpr zY)) e hb e.symm (pd (hl.1 b hb) (as _ _ (hm.1 a ha)))
  subst e;have na:∀x∈l,x≠a:=BKv (hl.1 x hx) (hl.1 x hx)
  have nb:∀x∈m,x≠a:=BKv (hm.1 x hx) (hm.1 x hx)
  rw[z4s as hl.2 hm.2 (QP (zd hx ((Bd2 ((h x).mp (AqK hx))).A9r (na x hx)) (fun hx=>(Bd2 ((h x).mpr (AqK hx))).A9r (nb x hx))))]
theorem ya4(a b:Ξ)(h:ARU):¬AM0=Θ:=B1 (z4z h) zL
def RK:DI ->gx Ξ
 | []=>iN
 | lr::r=>Axu RK (x::l)
 | .AV _::_=>Ε
theorem z79:KO ks DI xs AA (RK ks=Β xs) (ks=JY .CB)
 | [],_,h=>AMK
 | lr::r,_,h=>by
  show BD RK;cases e:RK r with
  | Ε=>show F_;show Χ
  | Β l=>show BHC z79
 | .AV _::_,_,h=>by show Χ
def Ws:al ->gx P2
 | []=>iN
 | k::r=>Lv (RK k) (Β Zp) (LA (Ws r) l (Β ((a,b)::l)))
theorem ygm:KO ks al ps ć (Ws ks=Β ps) (ks=ACz Wl)
 | [],_,h=>AMK
 | k::r,_,h=>by
  show BD Ws;cases e:RK k with
  | Ε=>show F_;show Χ
  | Β q=>
   show F_
   match q,e,h with
   | Zp,e,h=>
    cases e2:Ws r with
    | Ε=>show MB;show Χ
    | Β l=>show MB;show Χ;rw[IZ,<- ygm e2,z79 e];rfl
   | [],_,h=>show Χ
   | [_],_,h=>show Χ
   | AGb,_,h=>show Χ
def Wt:P5 AJ (D9 (D9 Ξ))
 | []=>iN
 | IL::r=>(NF (jQ xs) g (Axu Wt (g::l)))
 | EH=>Ε
theorem zsd:KO ds AJ xs AA (jQ ds=Β xs) (ds=JY SV)
 | [],_,h=>AMK
 | wS,xs,h=>by
  cases d with
  | Ψ x=>
   show BD jQ;cases e:jQ r with
   | Ε=>show F_;show Χ
   | Β l=>show BHC zsd
  | _=>show Χ
theorem yga:KO ds AJ gs At' (Wt ds=Β gs) (ds=AC' gl)
 | [],_,h=>AMK
 | wS,_,h=>by
  cases d with
  | A8 xs=>
   show BD Wt;cases e:jQ xs with
   | Ε=>show F_;show Χ
   | Β g=>
    show F_;cases e2:Wt r with
    | Ε=>show MB;show Χ
    | Β l=>show MB;show Χ;rw[IZ,<- yga e2];unfold gl;rw[zsd e]
  | _=>show Χ
def K7(BEU)(lt:Ai')(xs:Go):gx α:=gd ((srU lt xs).AnO (AD' AuR)/\ (∀x∈srU lt xs,x∈xs)/\∀x∈xs,x∈srU lt xs) (Β (srU lt xs))
theorem zzy(BEU){lt:Ai'}(as:∀a b,AuR ->¬lt b a=Θ){xs l ms:Go}(h:K7 lt xs=Β l)(hp:AaD (ARz AuR))(hm:∀x,x∈ms↔x∈xs):ms=l:=BXO (z4s as hp de (QP (nz hm x ⟨AdW x,Adf x⟩)))
section
instance:Xu sY:=Sr (ALh d IL A_W LO A_W ml (gf (ALt) AF kC) Ε) (by
 match ds,h with
 | EK,h=>
  cases d with
  | A8 xs=>show UT
  | BM xs=>show UT
  | Ψ z=>show AOA
  | _=>show Χ
 | [],h=>show Χ
 | L5,h=>show Χ)
instance:Xu Zn:=Sr (Mm E5 (AFi AjZ)) (by
 match ds,h with
 | EK,h=>
  cases d with
  | AF xs=>show UT
  | _=>show Χ
 | [],h=>show Χ
 | L5,h=>show Χ)
instance:Xu Zy:=Sr (A0W Aid Aid) (by
 match ds,h with
 | EK,h=>
  cases d with
  | A8 xs=>show UT
  | BM xs=>show UT
  | _=>show Χ
 | [],h=>show Χ
 | L5,h=>show Χ)
instance:Xu Nj:=Sr (Mm E5 (gf (Bdl<1920) Ψ (AyU i))) (by
 match ds,h with
 | EK,h=>
  cases d with
  | AF z=>show AOA
  | _=>show Χ
 | [],h=>show Χ
 | L5,h=>show Χ)
instance:Xu z4e:=Sr (Mm ml (gd (BCW) ((A9y z).B_ fi))) (by
 match ds,h with
 | EK,h=>
  cases d with
  | Ψ z=>
   show ul;cases e:A9y z with
   | Ε=>rw[e] at he;show ZH
   | Β n=>rw[e] at he;show ZH;exact⟨n,e,hc,hp⟩
  | _=>show Χ
 | [],h=>show Χ
 | L5,h=>show Χ)
instance:Xu zz6:=Sr (Awi (AFi Asr)) (by
 match ds,h with
 | EK,h=>
  cases e:ua with
  | Ε=>show Co;show Χ
  | Β q=>show Co;show Χ;exact⟨DD,FL,e,hp⟩
 | [],h=>show Χ
 | L5,h=>show Χ)
instance:Xu ZC:=Sr (ANe (Af xs) bs (Β (.bl (AnT id)))) (by
 match ds,h with
 | EK,h=>
  cases d with
  | A8 xs=>
   cases e:Af xs with
   | Ε=>show Co;show Χ
   | Β q=>show Co;show Χ;exact⟨q,e,hp⟩
  | _=>show Χ
 | [],h=>show Χ
 | L5,h=>show Χ)
instance:Xu Zz:=Sr (ANe (Af xs) bs (Β (.bl (AnS id)))) (by
 match ds,h with
 | EK,h=>
  cases d with
  | A8 xs=>
   cases e:Af xs with
   | Ε=>show Co;show Χ
   | Β q=>show Co;show Χ;exact⟨q,e,hp⟩
  | _=>show Χ
 | [],h=>show Χ
 | L5,h=>show Χ)
instance:Xu V2:=zd ds (ADY [d,e] (Ajb (AFi Axl))) (fun{ds P r} h hp=>by
 match ds,h with
 | [d,e],h=>
  cases d with
  | AF i=>
   cases e with
   | AF j=>show UT
   | _=>show Χ
  | _=>show Χ
 | [],h=>show Χ
 | [_],h=>show Χ
 | AGb,h=>show Χ)
def mxI(ns:F9):BI:=ns.foldl (AD' (if b>a then b else a)) (ns.headD 0)
instance:Xu z4m:=Sr (ANe (m8 xs) ns (gd (mxI ns∈ns/\∀i∈ns,i<=mxI ns) (Β (Zl mxI ns)))) (by
 match ds,h with
 | EK,h=>
  cases d with
  | A8 xs=>
   cases e:m8 xs with
   | Ε=>show Co;show Χ
   | Β q=>show Co;show ul;show ZH;exact⟨q,mxI q,e,de,hc.2,hp⟩
  | _=>show Χ
 | [],h=>show Χ
 | L5,h=>show Χ)
instance:Xu Tj:=Sr (A0W (Β xs) (Β xs)) (by
 match ds,h with
 | EK,h=>
  cases d with
  | A8 xs=>show UT
  | BM xs=>show UT
  | _=>show Χ
 | [],h=>show Χ
 | L5,h=>show Χ)
instance:Xu zxm:=Sr (Mm (r8 _) (Β (yo j6))) (by
 match ds,h with
 | EK,h=>
  cases d with
  | eN ks xs=>show UT
  | _=>show Χ
 | [],h=>show Χ
 | L5,h=>show Χ)
instance:Xu Z2:=Sr (Mm IL (Β ym)) (by
 match ds,h with
 | EK,h=>
  cases d with
  | A8 xs=>show UT
  | _=>show Χ
 | [],h=>show Χ
 | L5,h=>show Χ)
instance:Xu z3o:=Sr (ANe (m8 xs) ns (Ay4 (J_<63) (AD' (Κ (a<b))) fi)) (by
 match ds,h with
 | EK,h=>
  cases d with
  | A8 xs=>
   cases e:m8 xs with
   | Ε=>show Co;show Χ
   | Β ns=>
    show Co;show ul;cases e2:K7 (AD' (Κ (a<b))) ns with
    | Ε=>show AKC;show ZH
    | Β l=>
     show AWe ⟨ns,e,hc,BGi⟩ (zzy (lt:=ARz (Κ (a<b))) (fun a b h=>by simp only [qA] at h⊢;omega) e2 (hs.imp fun h=>AL7) hm)
  | _=>show Χ
 | [],h=>show Χ
 | L5,h=>show Χ)
instance:Xu zxa:=Sr (ANe (jQ xs) ns (BMc A'Y (Ahj<64))) (by
 match ds,h with
 | EK,h=>
  cases d with
  | A8 xs=>
   cases e:jQ xs with
   | Ε=>show Co;show Χ
   | Β ns=>
    show Co;show ul;cases e2:K7 pA ns with
    | Ε=>show AKC;show ZH
    | Β l=>
     show AWe ⟨ns,e,de,hc.2,BGi⟩ (zzy ya4 e2 hs hm)
  | _=>show Χ
 | [],h=>show Χ
 | L5,h=>show Χ)
instance:Xu zxx:=Sr (AM_ ua (RK DD) ns (BMc ns.Nodup AfW)) (by
 match ds,h with
 | EK,h=>
  cases e:ua with
  | Ε=>show Co;show Χ
  | Β q=>
   show Co;cases e1:RK DD with
   | Ε=>show im;show Χ
   | Β ns=>
    show im;show ul;cases e2:K7 pA ns with
    | Ε=>show AKC;show ZH
    | Β l=>
     show AWe ⟨ns,FL,by rw[e,<- z79 e1],de,hc.2,A0j⟩ (BQS ya4)
 | [],h=>show Χ
 | L5,h=>show Χ)
instance:Xu zxj:=Sr (Lv d (sN _) (LA (Ws ks) ns (Ay4 AfW Ca pairD))) (by
 match ds,h with
 | EK,h=>
  cases d with
  | jA ks xs=>
   cases e1:Ws ks with
   | Ε=>show im;show Χ
   | Β ns=>
    show im;show ul;cases e2:K7 Ca ns with
    | Ε=>show AKC;show ZH
    | Β l=>
     show AWe ⟨ns,ygm e1,hc,A0j⟩ (BQS (fun a b h=>(ApJ (z4r h))))
  | _=>show Χ
 | [],h=>show Χ
 | L5,h=>show Χ)
instance:Xu z36:=Sr (ANe (Wt xs) ns (Ay4 ((∀g∈ns,g≠ [])/\ (N3 hdS).ax/\AfW) (AD' Ak_) gl)) (by
 match ds,h with
 | EK,h=>
  cases d with
  | A8 xs=>
   cases e1:Wt xs with
   | Ε=>show im;show Χ
   | Β ns=>
    show im;show ul;cases e2:K7 (AD' Ak_) ns with
    | Ε=>show AKC;show ZH
    | Β l=>
     show AWe ⟨ns,yga e1,de,Adf,AdW,A0j⟩ (zzy (lt:=ARz Ak_) (fun a b h=>ya4 _ _ h) e2 hs (QP hp'.mem_iff))
  | _=>show Χ
 | [],h=>show Χ
 | L5,h=>show Χ)
instance:Xd Tq:=A2p (MT ds EK (AJV ATy (xs++ EK))) (by
 match ds,h with
 | EK,h=>show AOA
 | [],h=>show Χ
 | L5,h=>show Χ)
instance:Xd zrx:=A2p (AZu (Mm nk (AJV AV1 AVP))) (by
 match ds,h with
 | EK,h=>
  cases d with
  | A8 ys=>show AOA
  | _=>show Χ
 | [],h=>show Χ
 | L5,h=>show Χ)
instance:Xd ZG:=A2p (ADY [e,d] (Ã vy (gd (0<=k/\A'X/\ATy) (Β (ZF xs AYn d))))) (by
 match ds,h with
 | [e,d],h=>
  cases e with
  | AF k=>show AQz ⟨de,Adf,AdW,hp⟩
  | _=>show Χ
 | [],h=>show Χ
 | [_],h=>show Χ
 | AGb,h=>show Χ)
#where
inductive Ro (β:GG) where | ok (b:β) | er (v:XV)
inductive Rm where | ok (t:T) (d:D) | er (t:T) (v:XV)
def UJ(Ae1)(r:AVU)(P:GI β)(E:iO):Ι:=AzI (Zs b) (P b) g_ (E v)
def SxM(r:AGP)(P:ü)(E:ý):Ι:=AzI AvN (P t d) AfI (E t v)
class Xp (Ae1) (sp:AxZ β) where
 x:AJ ->AVU
 ok:∀{ds P E},UJ (x ds) P E ->sp ds P E
class Xm (sp:uz) where
 x:T ->AJ ->AGP
 ok:∀{t ds P E},SxM (x t ds) P E ->sp t ds P E
class Xq (NX) (t:Acj) where
 x:P5 XG α
 ok:∀{ρ Γ X P E a},KM ->x X=Β a ->P a Γ ->AzF
def RL(Ae1)(r:AVU)(X:XG):ARW:=mf r (Zs b) (LB b X) g_ AKe
def Dz(BG6):ARW:=MT r Acd (f a X)
def xfn:XS ->XS | AVL=> AeG | Agu=> .pu (Gh t) | s=>s
def xfz:XS ->XS | AVL=> AeG | Agu=> .pu ATw | s=>s
section
variable{ρ:Η}{α β:GG}{Γ:G2}{X:XG}{P:AJM β}{E E' :XW}{Q:Ae6}{f:Aqw}
theorem Wu{r:AVU}(s:KM)(h:AFY (RL r X)):UJ r (sw (P b Γ)) fun v=>E Γ v:=by
 cases r with
 | Ε=>exact h
 | Β z=>
  cases z with
  | ok b=>exact ώ
  | er v=>exact ώ
theorem AWz(BJr Dz):tt Γ Q E' :=by
 refine XA.ok s ?_;cases e:AzR with
 | Ε=>show F_;exact h
 | Β z=>
  show F_;cases z with
  | ok a X' =>show A2n X' s' h
  | er X' v=>show LS
theorem iB.fn(s:KM):AtT AQ' xfn:=s.map fun u w h=>by
 show Χ
 ·exact C3
 ·exact ċ
 show ABV ċ ċ ċ .pt
theorem iB.fz(s:KM):AtT ARx xfz:=s.map fun u w h=>by
 show Χ
 ·exact C3
 ·exact ċ
 show ABV ċ ċ ċ .pt
#where
section
variable{ta tb te td ty tx tk:bO}{tf:dH}{tt:TT2}{tn:pP}{C:Η}{m f:Ξ}{i j l:Ζ}
instance (AhJ) (MA):XA (aF sp tf) where
 x X:=BJj
 ok s h:=BE'
instance {sp:zf} [Xp sp] (MA):XA (uO sp tf) where
 x X:=BJj
 ok s h:=BE'
instance {sp:dD} [Xp sp]:Xp (Az C f sp) where
 x ds:=BQd (.DJ C [f]) EK
 ok {ds P E} h:=by
  refine AUw sp;cases e:ArP with
  | Ε=>show Co;exact h
  | Β z=>
   show Co;cases z with
   | ok d=>exact h
   | er v=>exact h
instance {sp:zf} [Xp sp]:Xp (Ah sp) where
 x ds:=BQd toD d
 ok {ds P E} h:=by
  refine AUw sp;cases e:ArP with
  | Ε=>show Co;exact h
  | Β z=>
   show Co;cases z with
   | ok d=>exact h
   | er v=>exact h
instance (AhJ) [XA te] (MA):d6 (nZ C m sp te) where
 x X:=gT (Mm ZN (BBi X1 (fun es X2=>RL (eM sp AQ2) X2)))
 ok s h:=Sf (by
  cases d with
  | DJ C' fs ds=>exact⟨UH.1,UH.2,BKn y5 (Xp.ok (Wu s2 h2))⟩
  | _=>show B8)
instance (AhJ) (KW):XA (BZ C m sp te) where
 x X:=BSL
 ok s h:=Sf (by
  cases d with
  | DJ C' fs ds=>exact⟨UH.1,UH.2,Aq_ AcW⟩
  | _=>show B8)
instance {sp:zf} [Xp sp] (KW):XA (Ga C m sp te) where
 x X:=BSL
 ok s h:=Sf (by
  cases d with
  | DJ C' fs ds=>exact⟨UH.1,UH.2,Aq_ AcW⟩
  | _=>show B8)
def nkX:lm XV | .pay _ _ ts=>AGu | _=>Θ
theorem yku{v:XV}(h:nkX v=Θ):Gi v:=by
 cases v with
 | pay C fs ts=>exact AVs
 | _=>trivial
instance (AhJ) [XA te] (MA):d6 (zx2 C m sp te) where
 x X:=Yf Dz te (X.map xfn) d X1 (Mm ZN (gd (C' =C/\AQR) (Dz (fN tf X1) fun es _=>(mf (eM sp AQ2) (Zs r) (me (Wo r=Θ) r X) g_ (AJV (nkX v=Θ) (.er X v))))))
 ok s h:=A's (by
  cases d with
  | DJ C' fs ds=>
   refine⟨UH.1,UH.2,BKn AWz (Xp.ok ?_)⟩;cases e:eM sp AQ2 with
   | Ε=>show v4;exact h2
   | Β z=>
    show v4;cases z with
    | ok r=>exact⟨z3m r ATt,lh h2 s⟩
    | er v=>exact⟨yku ATt,lh h2 s⟩
  | _=>show B8)
instance (KW):oB xR where
 x X:=A1e te Wo
 ok s h:=A's (BXH z3m)
instance (MA):d6 Ci where
 x X:=A1e tf Dw
 ok s h:=BGg tf zsx
instance (v6):XA (Cj tn) where
 x X:=A1e tn Wq
 ok s h:=BGg tn z9a
instance (KW):oB Ho where
 x X:=Yf Dz te (X.map xfz) d _ (me Acl d X)
 ok s h:=A't ⟨by
  have q:=UH;cases d with
  | non=>trivial
  | bl=>trivial
  | AF=>trivial
  | Ψ=>trivial
  | _=>exact APs q,lh h1 s⟩
instance (KW):oB FP where
 x X:=Yf Dz te (X.map xfz) d _ AuQ
 ok s h:=A't (h1 _ s)
instance (MA):d6 TX where
 x X:=dC (me (Dw ds=Θ) ä X1)
 ok s h:=AzP (zsx ds UH)
instance (v6):XA (Hv tn) where
 x X:=fb tn t (KP ATw)
 ok s h:=SF tn t ZB
instance (v6):XA (KQ tn) where
 x X:=fb tn t (MT t eB (KP A0i))
 ok s h:=SF tn t (by
  cases t with
  | eN ks ts=>show Na
  | _=>show B8)
instance:XA Wd:=ANo (.eN [] [])
instance:XA nDT:=ANo (.jA [] [])
instance (MA):d6 Z4 where
 x X:=dC (KP BDd)
 ok s h:=SF tf t ZB
instance:XA (nV i) where
 x X:=AGU (OA tr _ t) (Β (.ok t (X.set i C3)))
 ok {ρ Γ X P E} s h:=by
  unfold nV;cases e:so with
  | Ε=>show F_;exact Cf
  | Β w=>
   show F_;cases w with
   | tr r t=>
    obtain⟨as,e1⟩:=s.tr e;rw[e1];exact h _ (s.set .no)
   | _=>show LS
def acd:lm T | ic=>Θ | _=>Τ
instance (v6):XA (z2f tn) where
 x X:=fb tn t (MT t eB (me (ts.all acd=Θ) A0r X1))
 ok s h:=SF tn t (by
  cases t with
  | eN ks ts=>
   refine⟨ks,ts,Z,DC t ht,lh h1 s1⟩;have q:=A_D UH t ht;cases t with
   | eN ks us=>exact⟨ks,us,Z⟩
   | _=>exact APs q
  | _=>show B8)
instance {sp:uz} [Xm sp] (MA):XA (qm C sp tf) where
 x X:=dC (mf (ABv ASm) (LB t _) (KP t) (sC _) (sC X1))
 ok s h:=mB (Xm.ok (sp:=sp) (by
  cases e:ABv ASm with
  | Ε=>show GB;exact h1
  | Β z=>
   show GB;cases z with
   | ok t d=>show Na
   | er t v=>show Na))
instance {sp:uz} [Xm sp] (MA):d6 (BX C m i sp) where
 x X:=AGU (OA tr _ (.ob C' fs _)) (BBi X (fun ds X1=>(Lv RC (AgK tt) (mf (ABv tt) (LB t' d) (LB d Ahq) (sC t') (ŭ Ahq v.bare)))))
 ok {ρ Γ X P E} s h:=by
  cases e:so with
  | Ε=>show Co;exact Cf
  | Β w=>
   show Co;cases w with
   | tr r t=>
    cases t with
    | ob C' fs ts=>
     have y:=mq h;show ă as (s.tr e);refine⟨⟨as,fs,ts,í ▸ e1,ALb⟩,y5 tf s AI (y9 ds ?_)⟩;cases e2:RC with
     | Ε=>show LT;exact C5
     | Β w=>
      show LT;cases w with
      | tr r t=>
       cases r with
       | Θ=>
        obtain⟨bs,e3⟩:=AuO;refine BPG;cases e4:ABv t with
        | Ε=>show GA e4;exact h1
        | Β z=>
         show GA e4;cases z with
         | ok t' d=>show Ag8
         | er t' v=>show Ag8
       | Τ=>show B8
      | _=>show B8
    | _=>show LS
   | _=>show LS
instance {sp:uz} [Xm sp] (MA):XA (kj i sp tf) where
 x X:=AGU (AgK _) (dC (Lv RC (AgK tt) (mf (ABv tt) (LB t' d) (LB d Ahq) (sC t') (ŭ Ahq v.bare))))
 ok {ρ Γ X P E} s h:=by
  cases e:so with
  | Ε=>show Co;exact Cf
  | Β w=>
   show Co;cases w with
   | tr r t=>
    cases r with
    | Θ=>
     refine⟨let ⟨bs,e1⟩:=s.Ak e;⟨_,bs,t,e1⟩,mB ?_⟩;cases e2:RC with
     | Ε=>show LT;exact C5
     | Β w=>
      show LT;cases w with
      | tr r t=>
       cases r with
       | Θ=>
        obtain⟨bs,e3⟩:=AuO;refine BPG;cases e4:ABv t with
        | Ε=>show GA e4;exact h1
        | Β z=>
         show GA e4;cases z with
         | ok t' d=>show Ag8
         | er t' v=>show Ag8
       | Τ=>show B8
      | _=>show B8
    | Τ=>show LS
   | _=>show LS
#where
section
variable{ρ:Η}{ta tb te td ty tx tk:bO}{tf:dH}{tt tc:TT2}{tn:pP}{C:Η}{m f:Ξ}{i j l:Ζ}{g:tG}{gs:zu}{P' :ATr}
instance (KW):XA (jD C f te) where
 x X:=gT (Mm ZN (gd (C' =C) (DM (Dj fs ds f) X1)))
 ok s h:=Sf (by
  cases d with
  | DJ C' fs ds=>show AbP AcW;exact⟨UH,r,hr,hp _ s1⟩
  | _=>show B8)
def lfB:P5 T D | NY=>Adi | _=>Ε
theorem ym2{t:T}{d:D}(h:lfB t=Β d):t= .SE d:=by
 cases t with
 | SE e=>show Χ;rfl
 | _=>show Χ
def JM:Ev ->gx D
 | []=>iN
 | t::r=>NF (lfB t) d (Axu JM (d::l))
theorem zzl:KO ts Ev xs AJ (JM ts=Β xs) (ts=JY .SE)
 | [],_,h=>AMK
 | t::r,_,h=>by
  show BD JM;cases e:lfB t with
  | Ε=>show F_;show Χ
  | Β d=>
   show F_;cases e2:JM r with
   | Ε=>show AGa;show Χ
   | Β l=>show AGa;show Χ;rw[IZ,<- zzl e2,ym2 e]
def Bg(X:XG)(i:Ζ)(C:Η):ã BIl:=AGU (OA tr r (.ob C' fs ts)) (gd (C' =C) (Β (r,fs,ts)))
theorem Nm{X:XG}{q:BIl}(h:AWP=Β q):Ŭ X DD (.ob C SH ADX):=by
 show BD Bg;cases e:so with
 | Ε=>show Co;show Χ
 | Β w=>
  show Co;cases w with
  | tr r t=>
   cases t with
   | ob C' fs ts=>show ul;show ZH;rw[hc]
   | _=>show Χ
  | _=>show Χ
instance:XA (xM C i f) where
 x X:=NF AWP q (MT am (E2 SE d) AuQ)
 ok {ρ Γ X P E} s h:=by
  cases e:AWP with
  | Ε=>show Co;exact Cf
  | Β q=>
   show Co;show ă as (s.tr (Nm e));cases e2:am with
   | Ε=>show MB;exact Cf
   | Β t=>
    show MB;cases t with
    | SE d=>exact⟨as,_,_,d,e1,e2,ώ⟩
    | _=>show LS
instance {neg:AO} [XA tk]:XA (Uj C neg i f tk) where
 x X:=fb tk kd (Lv kd dy (NF (Dv ds) k (Auq (MT am (OA jA ks _) (KP BFK)))))
 ok s h:=SF tk kd (by
  cases kd with
  | BM ds=>
   cases e0:Dv ds with
   | Ε=>show GA e0;exact C5
   | Β k=>
    show GA e0;cases e:mE with
    | Ε=>show GB;exact C5
    | Β q=>
     show GB;show ă as (s1.tr (Nm e));cases e2:am with
     | Ε=>show LT;exact C5
     | Β t=>
      show LT;cases t with
      | jA ks us=>exact⟨k,as,_,_,ks,us,by rw[z2m e0],e1,e2,ZB⟩
      | _=>show B8
  | _=>show B8)
instance (KW):XA (Oh i te) where
 x X:=AGU (AJm _) (fb te k (Lv k vy (MT RC AUA (DM (Bv ds k) X1))))
 ok {ρ Γ X P E} s h:=by
  cases e:so with
  | Ε=>show Co;exact Cf
  | Β w=>
   show Co;cases w with
   | ow xs=>
    refine⟨⟨xs,s.ow e⟩,SF te k ?_⟩;cases k with
    | AF k=>
     cases e2:RC with
     | Ε=>show LT;exact C5
     | Β w=>
      show LT;cases w with
      | ow ds=>
       show AbP h1;rw[s1.ow e2];exact⟨r,hr,hp _ s1⟩
      | _=>show B8
    | _=>show B8
   | _=>show LS
instance [XA tk]:XA (T9 i tk) where
 x X:=fb tk kd (NF ANz k (AAL RC (g9 _ ks _) (KP (! AG'))))
 ok s h:=SF tk kd (by
  cases e0:ANz with
  | Ε=>show GA e0;exact C5
  | Β k=>
   show GA e0;cases e:RC with
   | Ε=>show GB;exact C5
   | Β w=>
    show GB;cases w with
    | tr r t=>
     show ă as (s1.tr e);cases t with
     | eN ks ts=>exact⟨k,as,ks,ts,UG e0,e1,ZB⟩
     | _=>show B8
    | _=>show B8)
instance [XA td] [XA ty] [XA tx]:XA (KJ td ty tx) where
 x X:=fb td d (Awi (AQy ty kd (Yf bnd tx X2 df X3 (LA ANz k (LB ((tO DD FL k).Pw df) X3)))))
 ok s h:=SF td d (by
  cases e:ua with
  | Ε=>show GB;exact C5
  | Β q=>
   show GB;refine NV DD FL (Aaz ty kd (y5 tx s2 h2 (LJ df Γ3 X3 s3 h3)));cases e2:ANz with
   | Ε=>show zD h3;exact AZf
   | Β k=>show zD h3;exact⟨k,UG e2,h3 _ s3⟩)
instance (KW):oB KN where
 x X:=gT (AM_ ua (m8 q.2) ns (KP AtD))
 ok s h:=Sf (by
  cases e:ua with
  | Ε=>show GB;exact C5
  | Β q=>
   show GB;cases e2:m8 q.2 with
   | Ε=>show LT;exact C5
   | Β ns=>show LT;exact⟨DD,FL,ns,Z,e2,ZB⟩)
instance (KW):oB Cg where
 x X:=gT (Awi (KP FL))
 ok s h:=Sf (by
  cases e:ua with
  | Ε=>show GB;exact C5
  | Β q=>show GB;exact NV DD FL ZB)
instance (KW):oB Us where
 x X:=AUl ml (.bl (A9u z))
 ok s h:=Sf (by
  cases d with
  | Ψ z=>show Na
  | _=>show B8)
instance {T:Ff} (KW):XA (Io T te) where
 x X:=gT (LA Aiv b (KP ATb))
 ok s h:=Sf (by
  cases e:Aiv with
  | Ε=>simp only [e] at h1⊢;exact C5
  | Β b=>simp only [e] at h1⊢;exact ZB)
instance (AN8):Ai3 z2a where
 x X:=BFo (LB (.bl (A9v z y)) X2)
 ok s h:=AKa (by
  cases d with
  | Ψ z=>
   refine y5 tb s1 h1 (Akq e);cases e with
   | Ψ y=>exact h2 _ s2
   | _=>show WV
  | _=>show B8)
instance (AN8):Ai3 uU where
 x X:=BFo (gd (BXB/\kC<1000) (Β (.ok ((APo z y).B_ .Ψ) X2)))
 ok s h:=AKa (by
  cases d with
  | Ψ z=>
   refine y5 tb s1 h1 (Akq e);cases e with
   | Ψ y=>exact⟨ATt.1,ATt.2,lh h2 s2⟩
   | _=>show WV
  | _=>show B8)
instance {neg:AO} {Υ:ny} (KW):XA (Gd neg Υ te) where
 x X:=AUl Ad4 BIS
 ok s h:=Sf (by
  cases d with
  | Ψ z=>show Na
  | _=>show B8)
instance {Υ:ny} (KW):XA (Ge Υ te) where
 x X:=gT (Lv d Ad4 (LA Ael xs (KP A'C)))
 ok s h:=Sf (by
  cases d with
  | Ψ k=>
   cases e:Ael with
   | Ε=>show GB;exact C5
   | Β xs=>show GB;exact⟨xs,e,ZB⟩
  | _=>show B8)
instance (KW):oB iL where
 x X:=gT (ϰ d AAo (KP ds) dy (KP ds))
 ok s h:=Sf (by
  cases d with
  | A8 z=>show Na
  | BM z=>show Na
  | _=>show B8)
instance (KW):oB z02 where
 x X:=AUl AgZ (xP ks xs)
 ok s h:=Sf (by
  cases d with
  | vH ks xs=>show Na
  | _=>show B8)
instance (KW):oB yju where
 x X:=gT (Mm ml (me ALt ((APm z).B_ .Ψ) X1))
 ok s h:=Sf (by
  cases d with
  | Ψ z=>exact⟨UH,lh h1 s1⟩
  | _=>show B8)
instance (v6):XA (zw2 tn) where
 x X:=fb tn d (Mm ABQ (KP AFO))
 ok s h:=SF tn d (by
  cases d with
  | eN ks xs=>show Na
  | _=>show B8)
instance (MA):d6 Tz where
 x X:=BEw (Ri 0 xs)
 ok s h:=mB (by
  match ds,h1 with
  | EK,h1=>
   cases d with
   | A8 xs=>show Na
   | _=>show B8
  | [],h1=>show B8
  | L5,h1=>show B8)
instance (MA):d6 znb where
 x X:=BEw ym
 ok s h:=mB (by
  match ds,h1 with
  | EK,h1=>
   cases d with
   | A8 xs=>show Na
   | _=>show B8
  | [],h1=>show B8
  | L5,h1=>show B8)
instance (MA):d6 Oi where
 x X:=dC (ADY [d,e] (A0W (Ã nk (KP Agc)) (Ã ATW (KP Agc))))
 ok s h:=mB (by
  match ds,h1 with
  | [d,e],h1=>
   cases d with
   | A8 xs=>
    cases e with
    | A8 ys=>show Na
    | _=>show B8
   | BM xs=>
    cases e with
    | BM ys=>show Na
    | _=>show B8
   | _=>show B8
  | [],h1=>show B8
  | [_],h1=>show B8
  | AGb,h1=>show B8)
instance (MA):d6 z86 where
 x X:=dC (ADY [d,e] (ARR LO nk (KP Agc)))
 ok s h:=mB (by
  match ds,h1 with
  | [d,e],h1=>
   cases d with
   | BM xs=>
    cases e with
    | A8 ys=>exact NV xs ys ZB
    | _=>show B8
   | _=>show B8
  | [],h1=>show B8
  | [_],h1=>show B8
  | AGb,h1=>show B8)
class Xh (NX) (g:α ->G2 ->A1x) where
 x:α ->XG ->G_ XG
 ok:∀{d ρ Γ X X' Q E},KM ->x d X=Β X' ->(∀A4,ArI ->Q A4) ->g d Γ Q E
instance:Xh (hName i):=⟨fun d X=>Β (X.set i og),fun s e k=>by show OO;exact k _ BGW⟩
instance:Xh pJ:=BJ_ (MT ds [] (Β X)) (by
 cases ds with
 | DU=>show OO;exact NE (k _ s)
 | AU=>show OO)
instance [Xh g] [Xh gs]:Xh (dI g gs):=BJ_ (match ds with | []=>Ε | wS=>(LA (ANi d) X1 (Xh.x gs r X1))) (by
 cases ds with
 | DU=>show OO
 | AU d r=>
  cases e1:ANi d with
  | Ε=>show AQI e;show OO
  | Β X1=>show AQI e;exact AkE e1 (Xh.ok (g:=gs) s1 e k))
instance {n:Ζ} [Xh gs]:Xh (pK n gs):=⟨fun d X=>(Mm dy (AVu (Xh.x gs ds X))),fun{d ρ Γ X X' Q E} s e k=>by
 cases d with
 | BM ds=>exact⟨(wN e).1,Xh.ok (g:=gs) s (wN e).2 k⟩
 | _=>show OO⟩
def OJ(C4:Ζ)(FV:He)(X:XG):XG:=ArD (AKQ C4 C3) (AZq AMe AHC (.pu d) (Β .pt) .pt C3)
theorem zw5{Γ Δ:G2}{X Y:XG}(h:KM)(k:iB ρ Δ Y):iB ρ (Γ++Δ) (X++Y):=by
 refine AS1 (by rw[Ŏ,Ŏ,AJC,k.len]) i s
 by_cases hi:i<A_C
 ·rw[ACk hi] at e;rw[ACk (AJC ▸ hi)];exact h.get i s e
 ·rw[AIg A2] at e
  rw[AIg (by rw[AJC];omega),AJC]
  exact k.get _ s e
theorem z09(n:Ζ):iB ρ BGU BGU:=by
 refine AS1 (OM AYh AYh) i s
 show uu AIh;by_cases hi:i<n
 ·show uu (Fs hi);show OO;exact WC C3
 ·rw[EJ hi] at e;show OO
theorem iB.cap{Γ:G2}{X:XG}(s:KM)(C4:Ζ)(FV:He):iB ρ AhH (AQU OJ X):=by
 refine zw5 (z09 C4) (AS1 (BZM HL) i w)
 show BZ';cases q:FV[i]? with
 | Ε=>show IP;show OO
 | Β j=>
  show IP;refine AGl (FJ Γ j);have e' :(AZq AMe AHC (XS.pu d) (Β .pt) XS.pt XS.no)=w:=zJ e
  rw[<- e'];unfold FJ;cases z:AMe with
  | Ε=>
   have:Γ[j]?=Ε:=by
    rw[List.getElem?_eq_none_iff] at z⊢;rw[s.len];exact z
   rw[At];exact C3
  | Β v=>
   show Ð e1 e2 (s.get j v z);rw[e1];show ĉ
   ·exact C3
   ·exact ċ
   show ABV C3 C3 C3 .pt
def Gp(one:P5 D AjM):P5 AJ AjM
 | []=>Zs []
 | wS=>mf (one d) g_ g_ (Zs ys) (mf (Gp one r) g_ g_ (Zs zs) (Zs (ys++zs)))
theorem z00{one:kT D AJ}{xo:P5 D AjM}{E:iO}(k:∀d P,UJ (xo d) P E ->one d P):∀(ds:AJ) (P:vt),UJ (Gp xo ds) P E ->rF one ds P
 | [],P,h=>h
 | wS,P,h=>by
  show BD Gp;refine k d _ ?_;cases e:xo d with
  | Ε=>show Co;exact h
  | Β z=>
   show Co;cases z with
   | er v=>exact h
   | ok ys=>
    refine z00 k r _ ?_;cases e2:Gp xo r with
    | Ε=>show MB;exact h
    | Β z=>
     show MB;cases z with
     | er v=>exact h
     | ok zs=>exact h
def K8(g:tG)(tc:TT2)(te:bO) [Xh g] [XA tc] [XA te](X0:XG)(d:D):G_ AjM:=NF (Xh.x g d X0) X1 (Lv (AHO tc) (LB b X2) (ABS (mf (fN te X2) (LB d _) (Zs EK) (sC _) g_) (Zs [])))
theorem yb3 [Xh g] [XA tc] [XA te]{Γ0:G2}{X0:XG}(s:iB ρ Γ0 X0){E:iO}(d:D)(P:vt)(h:UJ (K8 g tc te X0 d) P E):BTp E:=by
 show BD K8;cases e:Xh.x g d X0 with
 | Ε=>show Co;exact Cf
 | Β X1=>
  show Co;refine AkE e (AzK tc s1);cases e1:AHO tc with
  | Ε=>show im;exact h
  | Β z=>
   show im;cases z with
   | er=>show LS
   | ok b X2=>
    cases b with
    | Θ=>
     refine fun A_ s2=>(AzK te s2);cases e2:fN te X2 with
     | Ε=>show MB;exact h
     | Β z=>
      show MB;cases z with
      | er=>exact rS h
      | ok=>exact rS h
    | Τ=>show AHj h
theorem ydf{Γ0:G2}{d:D}{P:vt}(h:BTp AcD):Oe g tc te Γ0 d P:=h
instance (BP3):XA (dN C4 FV tf g tc te) where
 x X:=dC (MT (Gp A0b ds) (Zs ys) (KP ys))
 ok s h:=mB (z00 (E:=ky) (fun d P h=>ydf (yb3 BJ5 d P h)) ds _ (by
  cases e:Gp A0b ds with
  | Ε=>show GB;exact h1
  | Β z=>
   show GB;cases z with
   | ok ys=>show Na
   | er v=>exact h1))
instance (BP3):XA (Gm C4 FV tf g tc te) where
 x X:=dC (RL (Gp A0b ds) X1)
 ok s h:=mB (z00 (fun d P h=>yb3 BJ5 d P h) ds _ (Wu s1 h1))
#where
inductive Rt where | nx (X:XG) | rt (d:D) | rm (d:D) (X:XG) | rT (t:T) | bk (X:XG) | ct (X:XG) | er (X:XG) (v:XV)
def K9(ρ:Η)(r:vk)(D:pY)(E:XW):Ι:=match r with
 | Ε=>D6
 | AMc=>ABk (LZ Γ)
 | Aua=>D.rt d
 | OA rm d X=>ABk (D.rm d Γ)
 | E2 rT t=>D.rT (.one t)
 | E2 bk X=>ABk (D.bk Γ)
 | E2 ct X=>ABk (D.ct Γ)
 | AKe=>ABk (E Γ v)
class XB (t:aC) where
 x:P5 XG Rt
 ok:∀{ρ D Γ X E},KM ->ϵ (x X) ->t D Γ E
def jm(NX)(r:ASQ)(f:α ->XG ->vk):vk:=BRo
theorem ACN{ρ:Η}{α:GG}{Γ:G2}{X:XG}{D:pY}{E:XW}{Q:Ae6}{f:α ->XG ->vk}(tt:Acj) [XA tt](s:KM)(h:ϵ (jm (fN tt X) f))(k:∀a A4 X',ArI ->ϵ (f a X') ->Q a A4):tt Γ Q E:=by
 refine XA.ok s ?_;cases e:AzR with
 | Ε=>show F_;exact h
 | Β z=>
  show F_;cases z with
  | ok a X' =>show A2n X' s' h
  | er X' v=>exact h
theorem Gq{ρ:Η}{p:Ι}(Aip){r:vk}{D:pY}{E:XW}(h:ϵ Ait):p/\ϵ r:=by
 show BD gd;by_cases hp:p
 ·show AWL
 ·show AdT Cf
section
variable{ρ:Η}{ta tb te td ty tx tk tv ti:bO}{tf:dH}{c:TT2}{tn:pP}{C:Η}{m f:Ξ}{i j l:Ζ}{g:tG}{t u b:aC}{D:pY}{E:XW}{Γ:G2}{X:XG}
instance:XB bF:=AZ1 AMc ώ
instance:XB gA:=⟨AcB,MY h h⟩
instance [XB t] [XB u]:XB (aD t u) where
 x X:=BBS (av t X) (av u X1)
 ok {ρ D Γ X E} s h:=by
  refine AKg t s ?_;cases e:av t X with
  | Ε=>show Co;exact h
  | Β z=>
   show Co;cases z with
   | nx X1=>exact fun Ω s1=>(AKg u s1 h)
   | _=>exact h
instance (KW):XB (w6 te):=ABT (gE te _ (r7 X1)) te ZB
instance (KW):XB (bB te):=ABT (Yf jm te X d _ Aua) te h1
instance (KW):XB (Bc te):=ABT (AM5 (OA rm d X1)) te ZB
instance (v6):XB (xG tn):=ABT (Yf jm tn X d _ (E2 rT d)) tn h1
instance (MA):XB (gY C tf):=ABT (AVz (AJV AsV (.er X1 OK))) tf ⟨(Gq h1).1,(Gq h1).2 _ s1⟩
instance [XA c] [XB t] [XB u]:XB (cA c t u) where
 x X:=jm (fN c X) (TZ X1 (ABS (av t X1) (av u X1)))
 ok s h:=ACN c s h (y9 b (by
  cases b with
  | Θ=>exact AKg t s1 h1
  | Τ=>exact AKg u s1 h1))
instance (KW):XB (bR i te):=ABT (AM5 (At3 og)) te (h1 _ (Av2 pu))
instance (MA):XB (p8 i tf):=ABT (gE tf d (At3 (.ow d))) tf (h1 _ (Av2 ow))
instance (v6):XB (Hs i tn):=AZ1 (gE tn d (r7 (AQd Τ d))) (ACN tn s h fun d Ω X1 s1 h1 as=>h1 _ Aze)
instance (KW):XB (ou C i f te) where
 x X:=AM5 (BTS NY)
 ok s h:=gc te (by
  cases e:mE with
  | Ε=>show GB;exact C5
  | Β q=>
   show GB;obtain⟨as,e1,k⟩:=Agf;show AHa;exact A4Y as Ah3)
instance (v6):XB (uT C i f tn) where
 x X:=gE tn t (BTS t)
 ok s h:=gc tn (by
  cases e:mE with
  | Ε=>show GB;exact C5
  | Β q=>
   show GB;obtain⟨b,fs,ts⟩:=q;show AHa;cases b with
   | Θ=>
    show DO as e1 (s1.Ak (Nm e)) (A4Y (_::as) Awq)
   | Τ=>
    show DO as e1 (s1.tr (Nm e)) (A4Y as (ϊ (AI _ Aze))))
instance (KW):XB (Bf C i f te) where
 x X:=AM5 (AM_ mE am t (gf (Ox t=0/\Cl SH<1000) nx (AQd DD (ASp AT2))))
 ok s h:=gc te (by
  cases e:mE with
  | Ε=>show GB;exact C5
  | Β q=>
   show GB;cases e2:am with
   | Ε=>show LT;exact C5
   | Β t=>
    show LT;obtain⟨as,e1,k⟩:=Agf;show AHa;exact⟨as,_,_,t,e1,e2,í,ALb,Ah3⟩)
instance (v6):XB (Gj C i f tn) where
 x X:=gE tn t (AM_ mE am _ (gf (DD=Θ/\Cl SH<1000) nx (AQd Θ (ASp t))))
 ok s h:=gc tn (by
  cases e:mE with
  | Ε=>show GB;exact C5
  | Β q=>
   show GB;cases e2:am with
   | Ε=>show LT;exact C5
   | Β t=>
    show LT;have y:=Gq h1;show DO as e1 (s1.Ak (í ▸ Nm e)) ⟨_,as,_,_,t,e1,e2,ALb,Awq⟩)
instance [XA te] [XA ti]:XB (Oj i ti te) where
 x X:=AM5 (MT RC (AJm _) (Yf jm ti X1 k X2 (Lv k vy (Lv AeE Acf (LA Aym j (r7 (X2.set i BEW)))))))
 ok s h:=gc te (by
  cases e:RC with
  | Ε=>show GB;exact C5
  | Β w=>
   show GB;cases w with
   | ow xs=>
    refine⟨⟨xs,s1.ow e⟩,ACN ti s1 h1 (Akq k)⟩;cases k with
    | AF k=>
     cases e2:AeE with
     | Ε=>show AMC;exact qh
     | Β w=>
      show AMC;cases w with
      | ow xs=>
       rw[s2.ow e2];cases e3:Aym with
       | Ε=>show AgT;exact qh
       | Β j=>show AgT;exact⟨j,e3,h2 _ (s2.set (.ow _))⟩
      | _=>show WV
    | _=>show WV
   | _=>show B8)
def HB(X:XG)(j:Ζ):G_ Key:=MT AMe AHC (Hy d)
theorem UL{k:Key}(h:HB X j=Β k):Apw X k:=by
 show BD HB;cases e:AMe with
 | Ε=>show Co;show Χ
 | Β w=>
  show Co;cases w with
  | pu d=>rw[<- UG h]
  | _=>show Χ
instance [XA tv]:XB (Kw C i f j l tv) where
 x X:=BHh (NF Ai_ k2 (Auq (Aja am (OA jA ks us) (Aq3 ABG (ASp (Aba BFX BHx))))))
 ok s h:=gc tv (by
  cases e1:AGC with
  | Ε=>show GA e1;exact C5
  | Β k1=>
   show GA e1;cases e2:Ai_ with
   | Ε=>show LT;exact C5
   | Β k2=>
    show LT;cases e:mE with
    | Ε=>show GB;exact C5
    | Β q=>
     show GB;cases e3:am with
     | Ε=>show GA e3;exact C5
     | Β t=>
      show GA e3;cases t with
      | jA ks us=>
       cases e4:JM us with
       | Ε=>show GA e4;exact C5
       | Β xs=>
        show GA e4;obtain⟨as,e5,k⟩:=Agf;show AHa;exact⟨k1,k2,as,_,_,ks,xs,AVJ,s1.pu (UL e2),e5,OM e3 (zzl e4),Ν,Ah3⟩
      | _=>show B8)
instance [XA tv]:XB (Gg C i f j tv) where
 x X:=BHh (Auq (Aja am (OA eN ks us) (Aq3 ABG (ASp (AEl (oh ks k1) (lG ks xs k1 d).B_)))))
 ok s h:=gc tv (by
  cases e1:AGC with
  | Ε=>show GA e1;exact C5
  | Β k1=>
   show GA e1;cases e:mE with
   | Ε=>show GB;exact C5
   | Β q=>
    show GB;cases e3:am with
    | Ε=>show GA e3;exact C5
    | Β t=>
     show GA e3;cases t with
     | eN ks us=>
      cases e4:JM us with
      | Ε=>show GA e4;exact C5
      | Β xs=>
       show GA e4;obtain⟨as,e5,k⟩:=Agf;show AHa;exact⟨k1,as,_,_,ks,xs,AVJ,e5,OM e3 (zzl e4),Ν,Ah3⟩
     | _=>show B8)
instance [XA tk] [XA tv]:XB (Um i tk tv) where
 x X:=gE tv d (MT RC (OA tr _ _) (Yf jm tk X1 kd X2 (NF ANz k (Aja AeE (Β (g9 r ks us)) (gf (ABG) nx (X2.set i (g9 r Aws A'B)))))))
 ok s h:=gc tv (by
  cases e:RC with
  | Ε=>show GB;exact C5
  | Β w=>
   show GB;cases w with
   | tr r t=>
    refine⟨let ⟨as,e1⟩:=s1.tr e;⟨as,t,e1⟩,ACN tk s1 h1 (Akq kd)⟩;cases e1:ANz with
    | Ε=>show AQI h2;exact qh
    | Β k=>
     show AQI h2;cases e2:AeE with
     | Ε=>show AMC;exact qh
     | Β w=>
      show AMC;cases w with
      | tr r t=>
       cases t with
       | eN ks us=>
        cases e4:JM us with
        | Ε=>show AgU;exact qh
        | Β xs=>
         show AgU;show P8 as e5 k5 s2.tD e2;have y:=Gq h2;exact⟨k,as,ks,xs,UG e1,OM e5 (zzl e4),Ν,AI _ (s2.set (k5 _))⟩
       | _=>show WV
      | _=>show WV
   | _=>show B8)
instance (v6):XB (Ua i j tn) where
 x X:=gE tn t (NF AGC k (AAL RC (g9 r ks ts) (gf (EE AG'/\ABG) nx (AW0 i (g9 r (ks++ [k]) Acu)))))
 ok s h:=gc tn (by
  cases e1:AGC with
  | Ε=>show GA e1;exact C5
  | Β k=>
   show GA e1;cases e2:RC with
   | Ε=>show LT;exact C5
   | Β w=>
    show LT;cases w with
    | tr r t=>
     cases t with
     | eN ks ts=>
      show AHa;cases r with
      | Θ=>
       show DO as e5 AuO ⟨k,_::as,ks,ts,AVJ,e5,í,ALb,Awq⟩
      | Τ=>
       show DO as e5 (s1.tr e2) ⟨k,as,ks,ts,AVJ,e5,í,ALb,ϊ (AI _ Aze)⟩
     | _=>show B8
    | _=>show B8)
def Wv(k:Key):DI ->Ζ
 | []=>0
 | k' ::r=>if k' =k then 0 else Wv k r+1
instance [XA tv]:XB (Ub i j l tv) where
 x X:=gE tv d (NF AGC k (NF Ai_ k2 (Lv RC (Β (g9 r ks ts)) (Aja ts[Ahe]? (OA eN I9 us) (gf (A9m/\Iq ks Ahe k/\BZS) nx (AW0 i (g9 r ks (ts.set (Wv k ks) (.eN (oh I9 k2) ((lG I9 xs k2 d).B_ .SE))))))))))
 ok s h:=gc tv (by
  cases e1:AGC with
  | Ε=>show GA e1;exact C5
  | Β k=>
   show GA e1;cases e2:Ai_ with
   | Ε=>show LT;exact C5
   | Β k2=>
    show LT;cases e3:RC with
    | Ε=>show GA e3;exact C5
    | Β w=>
     show GA e3;cases w with
     | tr r t=>
      cases t with
      | eN ks ts=>
       show P8 as e5 k5 s1.tD e3;cases e4:ts[Ahe]? with
       | Ε=>show GA e4;exact C5
       | Β w=>
        show GA e4;cases w with
        | eN I9 us=>
         cases e6:JM us with
         | Ε=>show GA e6;exact C5
         | Β xs=>
          show GA e6;show AHa;exact⟨k,k2,as,ks,ts,Ahe,I9,xs,AVJ,s1.pu (UL e2),e5,í,AbS,OM e4 (zzl e6),Ν.2.2,BV8 k5⟩
        | _=>show B8
      | _=>show B8
     | _=>show B8)
instance {w:AGK ->kT AGK AGK} [Xd w] (MA):XB (Rh i w tf) where
 x X:=AGU (AJm _) (AVz (Lv RC Acf (LA (Xd.x w xs ds) ys (At3 At6))))
 ok {ρ D Γ X E} s h:=by
  cases e:so with
  | Ε=>show Co;exact Cf
  | Β v=>
   show Co;cases v with
   | ow xs=>
    refine⟨⟨xs,s.ow e⟩,Ay6 ?_⟩;cases e2:RC with
    | Ε=>show LT;exact C5
    | Β v=>
     show LT;cases v with
     | ow ys=>
      rw[s1.ow e2];cases e3:Xd.x w ys ds with
      | Ε=>show GA e3;exact C5
      | Β zs=>show GA e3;exact Xd.ok (g:=w) e3 (h1 _ (Av2 ow))
     | _=>show B8
   | _=>show LS
def RM(BNu):AGK ->XG ->vk
 | [],X=>AMc
 | wS,X=>NF (ANi d) X1 (match ANZ with | AMd=>RM g b r X2 | ALy ct=>RM g b r X2 | ALy bk=>AMd | r' =>r')
theorem z9k [Xh g] [XB b]{ds:AGK}(s:KM)(h:ϵ (RM g b ds X)):Hl ds g b D E Γ:=by
 refine⟨fun i Γ=>(A2G (RM g b (ds.drop i) X)),AOB,fun i d Γ e AOB=> ?_,DC Γ AOB⟩
 ·show AJW hi (AOv e);rw[BZH] at h;show BD RM;cases e1:ANi AKX with
  | Ε=>show im;exact Cf
  | Β X1=>
   show im;refine AkE e1 A0Y;cases e2:ANZ with
   | Ε=>show MB;exact h
   | Β z=>
    show MB;cases z with
    | nx X2=>show AHj ⟨X2,s2,h⟩
    | ct X2=>show AHj ⟨X2,s2,h⟩
    | bk X2=>exact h
    | _=>exact h
 ·show AAb Bb_ ώ
instance [XA te] (ApV):XB (w7 te g b) where
 x X:=AM5 (ϰ d AAo A0t dy A0t)
 ok s h:=gc te (by
  cases d with
  | A8 ds=>exact AvU
  | BM ds=>exact AvU
  | _=>show B8)
instance (Awk):AyB vJ:=ABT (AVz A0t) tf AvU
def UW(BNu):Ζ ->BI ->XG ->vk
 | 0,_,X=>AMc
 | n+1,lo,X=>NF (ANi (.AF lo)) X1 (match ANZ with | AMd=>BSW | ALy ct=>BSW | ALy bk=>AMd | r' =>r')
theorem yg0 [Xh g] [XB b]{lo:BI}{n:Ζ}(s:KM)(h:ϵ (UW g b n lo X)):N7 lo n g b D E Γ:=by
 refine⟨fun i Γ=>(A2G (UW g b (n - i) ARv X)),⟨X,s,AL7⟩,NH i Γ hi AOB,DC Γ AOB⟩
 ·obtain⟨k,hk⟩:∃k,n - i=k+1:=⟨n - i - 1,BG⟩
  have hk' :n - IM=k:=BG
  rw[hk] at h;show BD UW;cases e1:ANi AtE with
  | Ε=>show im;exact Cf
  | Β X1=>
   show im;refine AkE e1 A0Y;have el:lo+ Ath=lo+i+1:=BG
   cases e2:ANZ with
   | Ε=>show MB;exact h
   | Β z=>
    show MB;cases z with
    | nx X2=>show AHj BOV
    | ct X2=>show AHj BOV
    | bk X2=>exact h
    | _=>exact h
 ·show AAb Nat.sub_self ώ
instance (Awk):AyB Df where
 x X:=AVz (AZu (Mm sd (gd (AEe<=j/\AbX) (UW g b yA 0 X1))))
 ok s h:=Ay6 (by
  match ds,h1 with
  | EK,h1=>
   cases d with
   | AF j=>exact⟨(Gq h1).1,yg0 s1 (Gq h1).2⟩
   | _=>show B8
  | [],h1=>show B8
  | L5,h1=>show B8)
instance (Awk):AyB J7 where
 x X:=AVz (ADY [d,e] (Ajb (gd (A4r) (UW g b A0R i X1))))
 ok s h:=Ay6 (by
  match ds,h1 with
  | [d,e],h1=>
   cases d with
   | AF i=>
    cases e with
    | AF j=>exact⟨(Gq h1).1,yg0 s1 (Gq h1).2⟩
    | _=>show B8
   | _=>show B8
  | [],h1=>show B8
  | [_],h1=>show B8
  | AGb,h1=>show B8)
def xwh(c:TT2)(b:aC) [XA c] [XB b]:Ζ ->XG ->vk
 | 0,_=>Ε
 | n+1,X=>gE c q (AiO q (r7 X1) (match ANZ with | AMd=>BJB | ALy ct=>BJB | ALy bk=>AMd | r' =>r'))
instance [XA c] [XB b]:XB (Fy c b) where
 x X:=xwh c b 300 X
 ok {ρ D Γ X E} s h:=by
  refine⟨fun n Γ=>(A2G (xwh c b n X)),⟨300,X,s,h⟩,A0 n Γ AOB⟩;cases n with
  | e_=>show LS
  | fA n=>
   show BD xwh;refine ACN c s h (y9 q ?_);cases q with
   | Τ=>show Na
   | Θ=>
    show wT;refine A0Y;cases e2:ANZ with
    | Ε=>show LT;exact h1
    | Β z=>
     show LT;cases z with
     | nx X2=>show AHj BQt
     | ct X2=>show AHj BQt
     | bk X2=>exact h1
     | _=>exact h1
instance [XB b]:XB (KY b) where
 x X:=match av b X with | ŭ _ _=>Ε | r=>r
 ok {ρ D Γ X E} s h:=by
  refine AKg b s ?_;cases e:av b X with
  | Ε=>show Co;exact h
  | Β z=>
   show Co;cases z with
   | er=>show LS
   | _=>exact h
#where
section
variable{ρ:Η}{ta tb te:bO}{tf:dH}{g:FC}{C C2:Η}{m f:Ξ}{i n N:Ζ}{t:aC}{v:bO}
instance:Xq Adj where
 x X:=AGU AHC Adi
 ok {ρ Γ X P E a} s h hp:=by
  unfold cV;cases e:so with
  | Ε=>show F_;show Χ
  | Β w=>
   show F_;cases w with
   | pu d=>show Χ;rw[s.pu e];exact hp
   | _=>show Χ
instance {d:D}:Xq (cC d):=BRJ Adi
instance [Xd g] [Xq ta] [Xq tb]:Xq (cB g ta tb) where
 x X:=NF (Xq.x ta X) d (LA (Xq.x tb X) e (Xd.x g d e))
 ok {ρ Γ X P E a} s h hp:=by
  cases e1:Xq.x ta X with
  | Ε=>show AAm;show Χ
  | Β d=>
   show AAm;cases e2:Xq.x tb X with
   | Ε=>show MB;show Χ
   | Β e=>show MB;exact Xq.ok (t:=ta) s e1 (Xq.ok (t:=tb) s e2 (Xd.ok (g:=g) h hp))
instance:Xq ak:=BRJ iN
instance [Xq te] [Xq tf]:Xq (aj te tf) where
 x X:=NF (Xq.x te X) d (LA AgG ds (Β (So)))
 ok {ρ Γ X P E a} s h hp:=by
  cases e1:Xq.x te X with
  | Ε=>show AAm;show Χ
  | Β d=>
   show AAm;cases e2:AgG with
   | Ε=>show MB;show Χ
   | Β e=>show MB;show Χ;exact Xq.ok (t:=te) s e1 (Xq.ok (t:=tf) s e2 hp)
instance {sp:uz} [Xm sp] [Xq tf]:XA (Gb C i f C2 m sp tf) where
 x X:=NF AWP q (AAL am AwK (gd (DD=Θ/\C' =C2/\m∉JL) (NF AgG ds (mf (ABv AwK) (LB t' d) (LB d BKg) (sC t') (ŭ BKg v.bare)))))
 ok {ρ Γ X P E} s h:=by
  cases e:AWP with
  | Ε=>show Co;exact Cf
  | Β q=>
   show Co;cases e2:am with
   | Ε=>show MB;exact Cf
   | Β w=>
    show MB;cases w with
    | ob C' JL Nk=>
     have y:=mq h;show ă as (s.Ak (í ▸ Nm e));have h2:=AI;cases e3:AgG with
     | Ε=>show AgT;exact qh
     | Β ds=>
      show AgT;refine⟨_,as,_,_,JL,Nk,e1,AbS ▸ e2,Ν.2.2,Xq.ok (t:=tf) s e3 ⟨e1,AbS ▸ Aqt sp⟩⟩;cases e4:ABv AwK with
      | Ε=>show AgU;exact h2
      | Β z=>
       show AgU;cases z with
       | ok t' d=>exact ϊ (h2 _ (s.set AQk))
       | er t' v=>exact ϊ (h2 _ (s.set AQk))
    | _=>show LS
theorem z4x{Γ:G2}{X:XG}{u:OY}{w:XS}(h:uV ρ u w)(s:KM):iB ρ (u::Γ) (w::X):=zw5 (Γ:= [u]) (X:= [w]) (NE (fun i z e=>by
 cases i with
 | e_=>show OO;exact⟨u,Z,h⟩
 | fA=>show OO)) s
theorem z15:∀ds:AJ,iB ρ BDT BDT
 | []=>NE (fun i z e=>by show OO)
 | wS=>z4x og (z15 r)
def xst(N:Ζ)(ds:AJ):XG:=BLa (N - Kx)
def U0(N:Ζ)(s:XS)(ds:AJ):XG:=BOB N
theorem ygq(N:Ζ)(ds:AJ):iB ρ (aG N ds) (xst N ds):=zw5 (z15 ds) (z09 _)
theorem ya6(N:Ζ){u:OY}{w:XS}(h:uV ρ u w)(ds:AJ):iB ρ (Ŝ N u ds) (U0 N w ds):=z4x h (zw5 (z15 ds) (z09 _))
theorem z32{β:GG}{p:Ι}(Aip){r:AVU}{P:GI β}{E:iO}(h:UJ Ait P E):p/\UJ r P E:=by
 show BD gd;by_cases hp:p
 ·show AWL
 ·show AdT Cf
theorem z3c{p:Ι}(Aip){r:AGP}{P:ü}{E:ý}(h:SxM Ait P E):p/\SxM r P E:=by
 show BD gd;by_cases hp:p
 ·show AWL
 ·show AdT Cf
def cW(Ah5):dD:=BBg (APu (Id (P BC)) P)
def xT(Ah5):zf:=BBg (Aa5 P)
def Gs(Ah5):uz:=BQQ (∀a bs,A2g P)
def Al(Ah5):uz:=BQQ (∀P' :ü,(∀t,P t BC ->P' t BC) ->∀a bs,A2g P')
def U3(n N:Ζ)(t:aC)(v:bO):dD:=fun ds P E=>ARo/\∀a,t (Ayf (v Γ (A2' (P d)) (Id E))) (aG N Agq) (Id E)
instance [XB t]:Xp (cW n N t) where
 x ds:=AVu (ALh AgN (r7 _) (Zs BC) Aua ASM (sC _) g_ Ε)
 ok {ds P E} h:=by
  have y:=z32 h;refine⟨Ν,Aro 0 (ygq N ds) ?_⟩;have h2:=AI;cases e:AgN with
  | Ε=>show v4;exact h2
  | Β z=>
   show v4;cases z with
   | nx=>show AUg
   | rt=>exact h2
   | er=>show AUg
   | _=>show WV
instance [XB t]:Xp (xT n N t) where
 x ds:=AVu (ϰ AgN (E2 rT d) ASM (sC _) g_)
 ok {ds P E} h:=by
  have y:=z32 h;refine⟨Ν,Aro 0 (ygq N ds) ?_⟩;have h2:=AI;cases e:AgN with
  | Ε=>show v4;exact h2
  | Β z=>
   show v4;cases z with
   | rT=>exact h2
   | er=>show AUg
   | _=>show WV
def RP(X:XG):G_ T:=MT X[Tb 0]? (AgK t) (Β t)
theorem z89{Γ:G2}{X:XG}{t:T}(s:KM)(h:RP X=Β t):∃cs,Ì Γ (.tr (ρ::cs) t):=by
 show BD RP;cases e:X[Tb 0]? with
 | Ε=>show Co;show Χ
 | Β w=>
  show Co;cases w with
  | tr r t=>
   cases r with
   | Θ=>show Χ;exact s.Ak e
   | Τ=>show Χ
  | _=>show Χ
def DG(r:vk):AGP:=ALh r AMc (Az6 AvO) (OA rm d X) (Az6 AvN) AKe (Az6 AfI) Ε
theorem z8w{r:vk}{P:ü}{E:ý}(h:SxM (DG r) P E)(a:Η):K9 a r (uQ a P) (uR a E):=by
 cases r with
 | Ε=>exact h
 | Β z=>
  cases z with
  | nx X=>
   show BD DG;cases e:RP X with
   | Ε=>show Co;exact Cf
   | Β t=>show Co;exact AhX (let ⟨cs,e1⟩:=z89 s e;A3P)
  | rm d X=>
   show BD DG;cases e:RP X with
   | Ε=>show Co;exact Cf
   | Β t=>show Co;exact AhX (let ⟨cs,e1⟩:=z89 s e;A3P)
  | er X v=>
   show BD DG;cases e:RP X with
   | Ε=>show Co;exact Cf
   | Β t=>show Co;exact AhX (let ⟨cs,e1⟩:=z89 s e;A3P)
  | _=>show LS
instance [XB t]:Xm (Gs n N t) where
 x tt ds:=AVu (DG (av t AwO))
 ok h:=⟨(z3c h).1,fun a bs=>(BSy (z3c h).2)⟩
def ace:P5 AGP Rm | AvO=>AvO | AfI=>AfI | _=>Ε
instance [XB t]:Xm (Al n N t) where
 x tt ds:=AVu (ace (DG (av t AwO)))
 ok {tt ds P E} h:=⟨(z3c h).1,fun P' k a bs=>(BSy (by
  have h2:=(z3c h).2;cases e:DG (av t AwO) with
  | Ε=>rw[e] at h2;exact h2
  | Β z=>
   rw[e] at h2;cases z with
   | ok t d=>
    cases d with
    | non=>exact k _ h2
    | _=>show WV
   | er t v=>exact h2))⟩
theorem ycg{tt:T}{ds:AJ}{P:ü}{E:ý}(h:A5b P):A5b BWm:=⟨AS,fun P' k=>Au P' fun t q=>k t (NE q)⟩
theorem z9w{tt:T}{ds:AJ}{P:ü}{E:ý}{a:Η}{bs:BH}(h:A5b P):A2g P:=Au P AHg a bs
instance [XB t] [XA v]:Xp (U3 n N t v) where
 x ds:=gd (ARo/\0<N) (ϰ BFf AMc (match fN v X with | LB d X'=>(MT X' (.pt::_) ASM) | ŭ _ w=>E2 er w | Ε=>Ε) (ŭ _ w) (E2 er w))
 ok {ds P E} h:=by
  have y:=z32 h;refine Tm Ν (fun a=>XB.ok (ρ:=a) (X:=U0 N .pt ds) (t:=t) ?_ ?_)
  ·have:=ya6 (ρ:=a) N .pt ds;unfold Ŝ at At;unfold aG;rw[IZ,Ano,IY,PH (N - (Kx+1)) (N - 1 - Kx) BG]
   exact At
  have h2:=AI;cases e:BFf with
  | Ε=>show v4;exact h2
  | Β z=>
   show v4;cases z with
   | nx X=>
    refine AhX (AzK v s);cases e2:fN v X with
    | Ε=>show AMC;exact h2
    | Β z=>
     show AMC;cases z with
     | er=>show AUg
     | ok d X' =>
      intro A4 s';cases X' with
      | DU=>show WV
      | AU w r=>
       cases w with
       | pt=>exact⟨s'.pt Z,h2⟩
       | _=>show WV
   | er=>show AUg
   | _=>show WV
#where
def zek(Α):aC:=(uT LV 0 HI nDT)
instance (Α):Ρ zek:=Ο zek
def zch(Α):aC:=(aD (ou LV 0 i7 A5)
 (zek c))
instance (Α):Ρ zch:=Ο zch
abbrev zgt(BY):aC:=zch c
def O1(Α):uz:=Al 1 2 (zch c)
instance (Α):Xm (O1 c):=inferInstanceAs (Xm (Al 1 2 (zch c)))
theorem ym9{c:DV}{t ds P E}(h:O1 c t ds P E):FX:=AS
theorem ykj{c:DV}{t ds P E}(h:O1 c t ds P E):Ay8 O1:=ycg h
theorem ync(AOW O1):AHr zgt 2:=z9w h
def zl2(Α):aC:=(bB (cB Q6 Ag1 Azk))
instance (Α):Ρ zl2:=Ο zl2
abbrev z4t(BY):aC:=zl2 c
def JN(Α):dD:=RF zl2
instance (Α):B4 JN:=inferInstanceAs (RH zl2)
theorem yjy(BO JN):EI:=AS
theorem yg6(Bi JN):Nd z4t:=Au
def zkc(Α):aC:=(bB (Aw (aE JN cy OP) (Hj (aF ALl (HQ ϯ Ò)))))
instance (Α):Ρ zkc:=Ο zkc
abbrev z0v(BY):aC:=zkc c
def Ww(Α):dD:=RF zkc
instance (Α):B4 Ww:=inferInstanceAs (RH zkc)
theorem yd2(BO Ww):EI:=AS
theorem yfu(Bi Ww):Nd z0v:=Au
def zgk(Α):aC:=(bB (Aw (VS Ob wm 1) (fe ZC (AHG (AHi [] (AMb AY AvZ)) Ww AY A5))))
instance (Α):Ρ zgk:=Ο zgk
abbrev ztc(BY):aC:=zgk c
def Wx(Α):dD:=wo zgk
instance (Α):B4 Wx:=inferInstanceAs (wq zgk)
theorem z5h(BO Wx):FX:=AS
theorem z5r(Bi Wx):nw ztc:=Au
def zbo(Α):bO:=(fe Zy A5)
instance (Α):XA (zbo c):=Ο zbo
abbrev zh2(BY):bO:=zbo c
def zb3(Α):aC:=(cA (pZ (cT (wf Wx)))
 gA
 bF)
instance (Α):Ρ zb3:=Ο zb3
abbrev zkh(BY):aC:=zb3 c
def O2(Α):dD:=U3 1 2 (zb3 c) (zbo c)
instance (Α):B4 O2:=inferInstanceAs (Xp (U3 1 2 (zb3 c) (zbo c)))
theorem yj4(BO O2):FX:=AS
theorem yjn{K:Φ}{c:DV}{a:Η}{ds Q Ex}(h:O2 c ds Q Ex):zkh K c (Ayf (zh2 K c Γ (A2' (Q d)) y8)) (aG 2 Agq) y8:=Au a
def zed(Α):aC:=(ou ER 0 eR Adp)
instance (Α):Ρ zed:=Ο zed
def zel(Α):aC:=(aD (ou ER 0 S_ (ϟ (AQJ k6 (M' 60))))
 (zed c))
instance (Α):Ρ zel:=Ο zel
def zen(Α):aC:=(aD (ou ER 0 OV (A4v (d_ (HQ (AQJ AUN AUN) (AQJ Auk Auk)))))
 (zel c))
instance (Α):Ρ zen:=Ο zen
def zej(Α):aC:=(aD (ou ER 0 UZ AUN)
 (zen c))
instance (Α):Ρ zej:=Ο zej
def zer(Α):aC:=(aD (ou ER 0 JU (KG Ĳ))
 (zej c))
instance (Α):Ρ zer:=Ο zer
def zcc(Α):aC:=(aD (uT ER 0 AOh (qm LV (O1 c) (fm A5)))
 (zer c))
instance (Α):Ρ zcc:=Ο zcc
abbrev zgy(BY):aC:=zcc c
def CP(Α):uz:=Al 1 2 (zcc c)
instance (Α):Xm (CP c):=inferInstanceAs (Xm (Al 1 2 (zcc c)))
theorem ylu{c:DV}{t ds P E}(h:CP c t ds P E):FX:=AS
theorem ym8{c:DV}{t ds P E}(h:CP c t ds P E):Ay8 CP:=ycg h
theorem ylz(AOW CP):AHr zgy 2:=z9w h
def zp7(Α):aC:=(bB (Ge X8 AY))
instance (Α):Ρ zp7:=Ο zp7
def zqi(Α):aC:=(aD (cA (cT (Gd Θ X8 (cV 0)))
 (eL ES "no row begins with this word")
 bF)
 (zp7 c))
instance (Α):Ρ zqi:=Ο zqi
def zp2(Α):aC:=(aD (cA (RR AY o6)
 (BGF o5 (j8 V2 (AEs GW)))
 bF)
 (zqi c))
instance (Α):Ρ zp2:=Ο zp2
def zpa(Α):aC:=(aD (cA (RR AY OV)
 (BGF "point" (j8 V2 (AEs AAe)))
 bF)
 (zp2 c))
instance (Α):Ρ zpa:=Ο zpa
abbrev z99(BY):aC:=zpa c
def Wy(Α):dD:=RF zpa
instance (Α):B4 Wy:=inferInstanceAs (RH zpa)
theorem ylc(BO Wy):EI:=AS
theorem ylo(Bi Wy):Nd z99:=Au
def zgs(Α):aC:=(bB (fe z4e AY))
instance (Α):Ρ zgs:=Ο zgs
def zg0(Α):aC:=(aD (cA (Ft (RR cy "0") (AcU AY "0"))
 (eL ES "a whole number has no nought ahead")
 bF)
 (zgs c))
instance (Α):Ρ zg0:=Ο zg0
def zd3(Α):aC:=(aD (cA (JG (gI Ob wm AsI) (pZ (cT (Ű Us))))
 (eL ES "a whole number has one to twelve figures")
 bF)
 (zg0 c))
instance (Α):Ρ zd3:=Ο zd3
abbrev zo1(BY):aC:=zd3 c
def La(Α):dD:=wo zd3
instance (Α):B4 La:=inferInstanceAs (wq zd3)
theorem zy1(BO La):FX:=AS
theorem z0e(Bi La):nw zo1:=Au
def zib(Α):aC:=(Ű bB)
instance (Α):Ρ zib:=Ο zib
def zfa(Α):aC:=(aD (cA (A0X Θ AY BXo)
 (eL ES "no such rule")
 bF)
 (zib c))
instance (Α):Ρ zfa:=Ο zfa
abbrev zqt(BY):aC:=zfa c
def Wz(Α):dD:=wo zfa
instance (Α):B4 Wz:=inferInstanceAs (wq zfa)
theorem z24(BO Wz):FX:=AS
theorem z1d(Bi Wz):nw zqt:=Au
def zg3(Α):aC:=(bR 1 DE)
instance (Α):Ρ zg3:=Ο zg3
def zg2(Α):aC:=(aD (bR 0 A5)
 (zg3 c))
instance (Α):Ρ zg2:=Ο zg2
def zjl(Α):aC:=(aD (bR 2 (WA jP AY 1))
 (zg2 c))
instance (Α):Ρ zjl:=Ο zjl
def zk3(Α):aC:=(bB (fe Zn AY))
instance (Α):Ρ zk3:=Ο zk3
def zia(Α):aC:=(aD (Fy (oQ Ay A5)
 (zjl c))
 (zk3 c))
instance (Α):Ρ zia:=Ο zia
abbrev zwb(BY):aC:=zia c
def U4(Α):dD:=AGr zia
instance (Α):B4 U4:=inferInstanceAs (AGs zia)
theorem z73(BO U4):EI:=AS
theorem z81(Bi U4):du zwb:=Au
def zjd(Α):aC:=(Azz (WA BJ AY 2) (WA BJ A5 2))
instance (Α):Ρ zjd:=Ο zjd
def zjv(Α):aC:=(aD (cA (oQ Q6 A5)
 (bR 2 (cU qT DE))
 bF)
 (zjd c))
instance (Α):Ρ zjv:=Ο zjv
def zjn(Α):aC:=(aD (eI 2 U4 AY A5)
 (zjv c))
instance (Α):Ρ zjn:=Ο zjn
def zgf(Α):aC:=(aD (cA (oQ pN A5)
 gA
 bF)
 (zjn c))
instance (Α):Ρ zgf:=Ο zgf
abbrev ztn(BY):aC:=zgf c
def JQ(Α):dD:=AGr zgf
instance (Α):B4 JQ:=inferInstanceAs (AGs zgf)
theorem z5k(BO JQ):EI:=AS
theorem z6w(Bi JQ):du ztn:=Au
def zgr(Α):aC:=(bB (NZ (cT (z2a AY AS9)) (cU qT (Ts La BJk)) (AGt La)))
instance (Α):Ρ zgr:=Ο zgr
abbrev zso(BY):aC:=zgr c
def WD(Α):dD:=wo zgr
instance (Α):B4 WD:=inferInstanceAs (wq zgr)
theorem z60(BO WD):FX:=AS
theorem z51(Bi WD):nw zso:=Au
def zk2(Α):aC:=(bB (cB fZ (Ý (AK6 cy) "/") (AK6 Ò)))
instance (Α):Ρ zk2:=Ο zk2
def zhq(Α):aC:=(aD (cA (gI pN Ò GW)
 (bB (AK6 cy))
 bF)
 (zk2 c))
instance (Α):Ρ zhq:=Ο zhq
abbrev zv3(BY):aC:=zhq c
def RQ(Α):dD:=wo zhq
instance (Α):B4 RQ:=inferInstanceAs (wq zhq)
theorem z9x(BO RQ):FX:=AS
theorem yab(Bi RQ):nw zv3:=Au
def zec(Α):aC:=(bB (cV 3))
instance (Α):Ρ zec:=Ο zec
def zem(Α):aC:=(aD (cA (Ĕ Ay (Ts RQ GY) 0)
 (eL ES "a fraction is written in one way alone")
 bF)
 (zec c))
instance (Α):Ρ zem:=Ο zem
def zes(Α):aC:=(aD (eI 3 JQ (Ts WD OP) DE)
 (zem c))
instance (Α):Ρ zes:=Ο zes
def zd9(Α):aC:=(aD (cA (oQ pN DE)
 (eL ES "a bottom is from 2 on")
 bF)
 (zes c))
instance (Α):Ρ zd9:=Ο zd9
def zeq(Α):aC:=(aD (bR 2 (NZ (gI pN ATs AAe) A'f GW))
 (zd9 c))
instance (Α):Ρ zeq:=Ο zeq
def zcd(Α):aC:=(aD (bR 1 (Ayu (KG "/")))
 (zeq c))
instance (Α):Ρ zcd:=Ο zcd
abbrev zli(BY):aC:=zcd c
def RT(Α):dD:=cW 1 4 (zcd c)
instance (Α):B4 RT:=inferInstanceAs (L4 1 4 zcd)
theorem zud(BO RT):FX:=AS
theorem ztu(Bi RT):ia zli:=Au
def zi6(Α):aC:=Afr
instance (Α):Ρ zi6:=Ο zi6
def zjs(Α):aC:=(aD (cA (oQ Q6 OP)
 (eL ES "a gap is from 0 on")
 bF)
 (zi6 c))
instance (Α):Ρ zjs:=Ο zjs
def zgi(Α):aC:=(aD (bR 1 (AGt RT))
 (zjs c))
instance (Α):Ρ zgi:=Ο zgi
abbrev ztz(BY):aC:=zgi c
def WK(Α):dD:=cW 1 2 (zgi c)
instance (Α):B4 WK:=inferInstanceAs (L4 1 2 zgi)
theorem z5l(BO WK):FX:=AS
theorem z6p(Bi WK):Nd ztz:=Au
def ziu(Α):aC:=AUj
instance (Α):Ρ ziu:=Ο ziu
def zis(Α):aC:=(aD (cA (gI Ay Atz AAe)
 (eL ES "a point and a bound have two parts")
 bF)
 (ziu c))
instance (Α):Ρ zis:=Ο zis
def zfd(Α):aC:=(aD (bR 2 (Ayu A5))
 (zis c))
instance (Α):Ρ zfd:=Ο zfd
abbrev zq9(BY):aC:=zfd c
def U5(Α):dD:=AGr zfd
instance (Α):B4 U5:=inferInstanceAs (AGs zfd)
theorem z01(BO U5):EI:=AS
theorem z1g(Bi U5):du zq9:=Au
def zgu(Α):aC:=(Azz (Ts RT OP) (Ts RT ϯ))
instance (Α):Ρ zgu:=Ο zgu
def zd1(Α):aC:=(aD (eI 1 U5 AY AsL)
 (zgu c))
instance (Α):Ρ zd1:=Ο zd1
abbrev zo0(BY):aC:=zd1 c
def WL(Α):dD:=cW 1 2 (zd1 c)
instance (Α):B4 WL:=inferInstanceAs (L4 1 2 zd1)
theorem zzu(BO WL):FX:=AS
theorem zza(Bi WL):Nd zo0:=Au
def zgx(Α):aC:=(Azz (Ts La OP) A'f)
instance (Α):Ρ zgx:=Ο zgx
def zd4(Α):aC:=(aD (eI 1 U5 AY AS9)
 (zgx c))
instance (Α):Ρ zd4:=Ο zd4
abbrev zos(BY):aC:=zd4 c
def WM(Α):dD:=cW 1 2 (zd4 c)
instance (Α):B4 WM:=inferInstanceAs (L4 1 2 zd4)
theorem zzo(BO WM):FX:=AS
theorem z0m(Bi WM):Nd zos:=Au
def zhy(Α):aC:=Afr
instance (Α):Ρ zhy:=Ο zhy
def zht(Α):aC:=(aD (cA (RR AY o5)
 (bB (wf WM))
 bF)
 (zhy c))
instance (Α):Ρ zht:=Ο zht
def zho(Α):aC:=(aD (cA (RR AY "point")
 (bB (wf WL))
 bF)
 (zht c))
instance (Α):Ρ zho:=Ο zho
def zh8(Α):aC:=(aD (cA (RR AY UZ)
 (bB (wf WK))
 bF)
 (zho c))
instance (Α):Ρ zh8:=Ο zh8
def zhs(Α):aC:=(aD (cA (RR AY JU)
 (bB (wf Wz))
 bF)
 (zh8 c))
instance (Α):Ρ zhs:=Ο zhs
def zfe(Α):aC:=(aD (cA (RR AY "whole")
 (bB (wf La))
 bF)
 (zhs c))
instance (Α):Ρ zfe:=Ο zfe
abbrev zq2(BY):aC:=zfe c
def WQ(Α):dD:=RF zfe
instance (Α):B4 WQ:=inferInstanceAs (RH zfe)
theorem z1j(BO WQ):EI:=AS
theorem z07(Bi WQ):Nd zq2:=Au
def zje(Α):aC:=(ox lO (ϟ OP) (AHG (Gm 2 [] (z86 (HQ DE Agn)) BVY) WQ AY A5))
instance (Α):Ρ zje:=Ο zje
def zjj(Α):aC:=(aD (cA (ko Ay Atz (cB uE ATs) GW)
 (eL ES "this row has another number of words")
 bF)
 (zje c))
instance (Α):Ρ zjj:=Ο zjj
def zjb(Α):aC:=(aD (eI 2 Wy OP (VS uE ATs 1))
 (zjj c))
instance (Α):Ρ zjb:=Ο zjb
def zjt(Α):aC:=(aD (cA (Ĕ ABi (KG "") 1)
 (eL ES "words are parted by single blanks")
 bF)
 (zjb c))
instance (Α):Ρ zjt:=Ο zjt
def zgp(Α):aC:=(aD (bR 1 (Ayu AEr))
 (zjt c))
instance (Α):Ρ zgp:=Ο zgp
abbrev zt2(BY):aC:=zgp c
def Lb(Α):dD:=cW 1 3 (zgp c)
instance (Α):B4 Lb:=inferInstanceAs (L4 1 3 zgp)
theorem z6j(BO Lb):FX:=AS
theorem z5m(Bi Lb):du zt2:=Au
def zbh(Α):aC:=(cA (cT (cB (KH Θ) A5 Au9))
 (eL Fh "no such work is in the sitting")
 bF)
instance (Α):Ρ zbh:=Ο zbh
abbrev zg6(BY):aC:=zbh c
def WR(Α):dD:=RF zbh
instance (Α):B4 WR:=inferInstanceAs (RH zbh)
theorem znz(BO WR):EI:=AS
theorem zoi(Bi WR):Nd zg6:=Au
def zfg(Α):aC:=(bB (cB KD Au9 (cV 1)))
instance (Α):Ρ zfg:=Ο zfg
def zcp(Α):aC:=(aD (AGw w6 (nZ Ki ACR (WR c) AY) A5)
 (zfg c))
instance (Α):Ρ zcp:=Ο zcp
abbrev zmh(BY):aC:=zcp c
def U6(Α):dD:=RF zcp
instance (Α):B4 U6:=inferInstanceAs (RH zcp)
theorem zuy(BO U6):EI:=AS
theorem zve(Bi U6):Nd zmh:=Au
def zdw(Α):aC:=(cA (Ft (ko J9 GY cC BC) (ANS ALl (AKS GY)))
 AUj
 bF)
instance (Α):Ρ zdw:=Ο zdw
def zea(Α):aC:=(bB wm)
instance (Α):Ρ zea:=Ο zea
def zcb(Α):aC:=(aD (vJ BAi (Af3 2 3)
 (zdw c))
 (zea c))
instance (Α):Ρ zcb:=Ο zcb
abbrev zlo(BY):aC:=zcb c
def WT(Α):dD:=ku 4 zcb
instance (Α):B4 WT:=inferInstanceAs (ATj zcb)
theorem ztq(BO WT):EI:=AS
theorem zuf(Bi WT):ia zlo:=Au
def zcj(Α):aC:=(AFV WT (AEt AX4) (Ace EU U6 AY A5))
instance (Α):Ρ zcj:=Ο zcj
abbrev zln(BY):aC:=zcj c
def WW(Α):dD:=RF zcj
instance (Α):B4 WW:=inferInstanceAs (RH zcj)
theorem ztx(BO WW):EI:=AS
theorem zsl(Bi WW):Nd zln:=Au
def zbt(Α):aC:=(bB (KJ (AEt Ali) A5 (gk (HQ k6 GW))))
instance (Α):Ρ zbt:=Ο zbt
abbrev ziw(BY):aC:=zbt c
def U7(Α):dD:=RF zbt
instance (Α):B4 U7:=inferInstanceAs (RH zbt)
theorem zqm(BO U7):EI:=AS
theorem zp0(Bi U7):Nd ziw:=Au
def zfu(Α):aC:=gA
instance (Α):Ρ zfu:=Ο zfu
def zf5(Α):aC:=(aD gA
 (zfu c))
instance (Α):Ρ zf5:=Ο zf5
def zfr(Α):aC:=(aD (cA (RR OP XN)
 (bB (BAg XN U7))
 bF)
 (zf5 c))
instance (Α):Ρ zfr:=Ο zfr
def zfw(Α):aC:=(aD (cA (RR OP OU)
 (bB (AK6 (Ace OU WW Aqv ϯ)))
 bF)
 (zfr c))
instance (Α):Ρ zfw:=Ο zfw
def zft(Α):aC:=(aD (cA (RR OP EU)
 (bB (BAg EU U6))
 bF)
 (zfw c))
instance (Α):Ρ zft:=Ο zft
def zdf(Α):aC:=(aD (cA (ko Zi Aqv cC BC)
 (eL FD "nothing is settled yet")
 bF)
 (zft c))
instance (Α):Ρ zdf:=Ο zdf
abbrev znf(BY):aC:=zdf c
def U8(Α):dD:=AGr zdf
instance (Α):B4 U8:=inferInstanceAs (AGs zdf)
theorem zx0(BO U8):EI:=AS
theorem zw4(Bi U8):du znf:=Au
def zfo(Α):aC:=(xG (Z4 (AHi [0] (iL (cZ (nN zxj (AP8 LV HI)))) j9 (gk (aj AY (AKS (cB Ou (jD LV HI (cV 2)) (gk AgA))))))))
instance (Α):Ρ zfo:=Ο zfo
abbrev zq8(BY):aC:=zfo c
def RV(Α):zf:=xT 1 1 (zfo c)
instance (Α):B4 RV:=inferInstanceAs (AVq 1 zfo)
theorem z2p(BO RV):FX:=AS
theorem z11(Bi RV):ATL zq8 1:=Au
def zh7(Α):aC:=gA
instance (Α):Ρ zh7:=Ο zh7
def zh4(Α):aC:=(aD gA
 (zh7 c))
instance (Α):Ρ zh4:=Ο zh4
def zh6(Α):aC:=(aD (cA (RR Aec FS)
 (bB BR1)
 bF)
 (zh4 c))
instance (Α):Ρ zh6:=Ο zh6
def zie(Α):aC:=(aD (cA (A0X Τ Aec ApG)
 (AGw bB (nZ ER ĸ (U8 c) AY) DE)
 bF)
 (zh6 c))
instance (Α):Ρ zie:=Ο zie
def zfk(Α):aC:=(aD (bR 2 (wf Lb))
 (zie c))
instance (Α):Ρ zfk:=Ο zfk
abbrev zq3(BY):aC:=zfk c
def O3(Α):dD:=AGr zfk
instance (Α):B4 O3:=inferInstanceAs (AGs zfk)
theorem z2r(BO O3):EI:=AS
theorem z18(Bi O3):du zq3:=Au
def zkt(Α):aC:=(ox lO AY (ANd "put ab  cd 5" "appeal ab cd -1" "settle settle" "worth ab" "works" XL "rule pair 2/4"))
instance (Α):Ρ zkt:=Ο zkt
def zkx(Α):aC:=(aD (bR 0 (AMi (AJR (KG AOj) (AQG "near ab 1" "Put ab cd 5"))))
 (zkt c))
instance (Α):Ρ zkx:=Ο zkx
def zk7(Α):aC:=(aD (bR 0 (AMi (d_ (ZA "mark ab cd" OU (Ϗ XN "appeal ab cd" "appeal ab cd 1/2" "back ab" Alf ı)))))
 (zkx c))
instance (Α):Ρ zk7:=Ο zk7
def zle(Α):aC:=(aD (bR 0 (AMi (ANd "scale 0,0,0 1,1,1" o6 "grades 1" "grades 0--1" "grades 0-1/2" "settle 1" EU)))
 (zk7 c))
instance (Α):Ρ zle:=Ο zle
def zkp(Α):aC:=(aD (bR 0 (AMi (ANd "rule Mean 0" "rule pair 0 0" OV "scale 0,0" "scale 0 0" "scale 0,0 1" "scale 0,0 -0,1")))
 (zle c))
instance (Α):Ρ zkp:=Ο zkp
def zk4(Α):aC:=(aD (bR 0 (AMi (d_ (ZA "drop" "drop ab" (Ϗ "rows 1" JU "rule mean" "rule pair -1/2" "rule pair -1" "rule best 0")))))
 (zkp c))
instance (Α):Ρ zk4:=Ο zk4
def zir(Α):aC:=(aD (bR 0 (AJR (KG "") (ZA " " "none" (ZA xf "0" (Ϗ UY "put ab" "put ab cd" "put ab cd 1/2" "put ab cd -1" "put ab cd 5 5")))))
 (zk4 c))
instance (Α):Ρ zir:=Ο zir
abbrev zv5(BY):aC:=zir c
def JR(Α):dD:=cW 0 1 (zir c)
instance (Α):B4 JR:=inferInstanceAs (L4 0 1 zir)
theorem z7m(BO JR):y7 0:=AS
theorem ybt(Bi JR):nw zv5:=Au
def zk9(Α):aC:=(bB (oN Oa Oa k6 AY (cV 1)))
instance (Α):Ρ zk9:=Ο zk9
def zil(Α):aC:=(aD (cA (JG (cT (Io AOi AY)) (pZ (cT (Io xi AY))))
 (bB AHP)
 bF)
 (zk9 c))
instance (Α):Ρ zil:=Ο zil
abbrev zv8(BY):aC:=zil c
def WX(Α):dD:=RF zil
instance (Α):B4 WX:=inferInstanceAs (RH zil)
theorem z7y(BO WX):EI:=AS
theorem z9u(Bi WX):Nd zv8:=Au
def zkk(Α):aC:=(bB (fe ZC (AM3 [] (Ű yju) (oN Kz Kz (KG "a") AY (cC (On "z"))))))
instance (Α):Ρ zkk:=Ο zkk
def zk5(Α):aC:=(aD (cA (pZ (cT (oN Oa Oa GW wm (M' 8))))
 (bB AHP)
 bF)
 (zkk c))
instance (Α):Ρ zk5:=Ο zk5
def zhv(Α):aC:=(aD (cA (pZ (cT (Io Pl AY)))
 (bB AHP)
 bF)
 (zk5 c))
instance (Α):Ρ zhv:=Ο zhv
abbrev zvs(BY):aC:=zhv c
def U9(Α):dD:=wo zhv
instance (Α):B4 U9:=inferInstanceAs (wq zhv)
theorem yba(BO U9):FX:=AS
theorem ybl(Bi U9):nw zvs:=Au
def zjq(Α):aC:=(Kw LV 0 HI 1 2 GY)
instance (Α):Ρ zjq:=Ο zjq
def zjw(Α):aC:=(aD (cA (Uj LV Τ 0 HI (gk AvM))
 gA
 bF)
 (zjq c))
instance (Α):Ρ zjw:=Ο zjw
def zi8(Α):aC:=(aD (cA (ANS (WX c) (HQ GY (xM LV 0 i7)))
 (eL Fk "a mark is a whole number from 0 to the most")
 bF)
 (zjw c))
instance (Α):Ρ zi8:=Ο zi8
def zgl(Α):aC:=(aD (cA (JG (pZ (cT (wf U9))) (pZ (cT (Ts U9 DE))))
 gA
 bF)
 (zi8 c))
instance (Α):Ρ zgl:=Ο zgl
abbrev znq(BY):aC:=zgl c
def Va(Α):uz:=Gs 3 4 (zgl c)
instance (Α):Xm (Va c):=inferInstanceAs (Xm (Gs 3 4 (zgl c)))
theorem z7b{c:DV}{t ds P E}(h:Va c t ds P E):Đ:=AS
theorem z54(AOW Va):AHr znq 4:=Ayh
def zpk(Α):aC:=(bB (fe Zz (AM3 [0] AHE (WA ABi AY 1))))
instance (Α):Ρ zpk:=Ο zpk
abbrev ybn(BY):aC:=zpk c
def Vb(Α):dD:=RF zpk
instance (Α):B4 Vb:=inferInstanceAs (RH zpk)
theorem ykn(BO Vb):EI:=AS
theorem yne(Bi Vb):Nd ybn:=Au
def zko(Α):aC:=(cA (cT (aF (Vb c) (AEs UM)))
 (Rh 3 zrx (fm UM))
 bF)
instance (Α):Ρ zko:=Ο zko
def zly(Α):aC:=(ox lO DE (ϟ (cZ (nN zxa GY))))
instance (Α):Ρ zly:=Ο zly
def zms(Α):aC:=(aD (w7 AY (IG 4)
 (zko c))
 (zly c))
instance (Α):Ρ zms:=Ο zms
def zmm(Α):aC:=(aD (p8 3 (nN Tj A5))
 (zms c))
instance (Α):Ρ zmm:=Ο zmm
def zj4(Α):aC:=(aD (bR 2 (AM4 [1] AG0 (ANS (Vb c) AgA)))
 (zmm c))
instance (Α):Ρ zj4:=Ο zj4
abbrev zzc(BY):aC:=zj4 c
def WY(Α):dD:=ku 5 zj4
instance (Α):B4 WY:=inferInstanceAs (L4 2 5 zj4)
theorem yd8(BO WY):EI:=AS
theorem ydj(Bi WY):zC zzc 5:=Au
def zgv(Α):aC:=(Ub 1 2 3 UM)
instance (Α):Ρ zgv:=Ο zgv
def zi5(Α):aC:=(aD (cA (T9 1 DE)
 (Ua 1 2 Wd)
 bF)
 (zgv c))
instance (Α):Ρ zi5:=Ο zi5
def zk6(Α):aC:=(xG (nV 1))
instance (Α):Ρ zk6:=Ο zk6
def zky(Α):aC:=(aD (w7 AY (pK 3 (dI (IG 2) (dI (IG 3) (dI (IG 4) pJ))))
 (zi5 c))
 (zk6 c))
instance (Α):Ρ zky:=Ο zky
def ziq(Α):aC:=(aD (Hs 1 Wd)
 (zky c))
instance (Α):Ρ ziq:=Ο ziq
abbrev zvr(BY):aC:=ziq c
def RW(Α):zf:=xT 1 5 (ziq c)
instance (Α):B4 RW:=inferInstanceAs (AVq 5 ziq)
theorem z8f(BO RW):FX:=AS
theorem z9m(Bi RW):ATL zvr 5:=Au
def zld(Α):aC:=(eI 1 WY A5 (cZ (nN zxm DE)))
instance (Α):Ρ zld:=Ο zld
def zmq(Α):aC:=(xG (Z4 (nN z36 A5)))
instance (Α):Ρ zmq:=Ο zmq
def zmy(Α):aC:=(aD (vJ (zw2 (fR uO (RW c) AY)) (IG 2)
 (zld c))
 (zmq c))
instance (Α):Ρ zmy:=Ο zmy
def zj6(Α):aC:=(aD (bR 1 (d_ ak))
 (zmy c))
instance (Α):Ρ zj6:=Ο zj6
abbrev zzs(BY):aC:=zj6 c
def W0(Α):zf:=xT 1 3 (zj6 c)
instance (Α):B4 W0:=inferInstanceAs (AVq 3 zj6)
theorem yeg(BO W0):FX:=AS
theorem yeb(Bi W0):ATL zzs 3:=Au
def zgz(Α):aC:=(bR 1 (cB j7 A5 (cB BJ (bp DE 1) (aE U4 A5 (bp DE 1)))))
instance (Α):Ρ zgz:=Ο zgz
def zii(Α):aC:=(ox (ci [1] AG0) j9 (cB j7 cy (cB BJ A5 (cB cD AY GW))))
instance (Α):Ρ zii:=Ο zii
def zio(Α):aC:=(aD (w7 AY (IG 2)
 (zgz c))
 (zii c))
instance (Α):Ρ zio:=Ο zio
def zfh(Α):aC:=(aD (bR 1 GW)
 (zio c))
instance (Α):Ρ zfh:=Ο zfh
abbrev zq4(BY):aC:=zfh c
def W2(Α):dD:=cW 1 3 (zfh c)
instance (Α):B4 W2:=inferInstanceAs (L4 1 3 zfh)
theorem z22(BO W2):FX:=AS
theorem z1t(Bi W2):du zq4:=Au
def zhz(Α):aC:=(ox (AHi [0,1,2,3] (AMb AY A5)) j9 (WA BJ (cB uE (WA j7 (oP GY 4) 0) (WA j7 (oP DE 4) 1)) 5))
instance (Α):Ρ zhz:=Ο zhz
abbrev zvy(BY):aC:=zhz c
def W3(Α):dD:=cW 4 4 (zhz c)
instance (Α):B4 W3:=inferInstanceAs (L4 4 4 zhz)
theorem yae(BO W3):y7 4:=AS
theorem yaj(Bi W3):ia zvy:=Au
def zlh(Α):aC:=(ox (AHi [1,2,3] BAi) j9 (NZ (Ĕ pN AY 2) A5 (aF (W3 c) (AGm A5 UM DE GY))))
instance (Α):Ρ zlh:=Ο zlh
def zin(Α):aC:=(aD (bR 3 (oP AY 1))
 (zlh c))
instance (Α):Ρ zin:=Ο zin
abbrev zvz(BY):aC:=zin c
def W4(Α):dD:=AgX zin
instance (Α):B4 W4:=inferInstanceAs (AgY zin)
theorem ya8(BO W4):Đ:=AS
theorem z96(Bi W4):ia zvz:=Au
def zhr(Α):aC:=(bB (cV 3))
instance (Α):Ρ zhr:=Ο zhr
def zh9(Α):aC:=(aD (Oj 3 DE (oP AY 1))
 (zhr c))
instance (Α):Ρ zh9:=Ο zh9
def zih(Α):aC:=(aD (Oj 3 A5 (oP AY 2))
 (zh9 c))
instance (Α):Ρ zih:=Ο zih
def zfb(Α):aC:=(aD (p8 3 (nN Tj AY))
 (zih c))
instance (Α):Ρ zfb:=Ο zfb
abbrev zqu(BY):aC:=zfb c
def W5(Α):dD:=AgX zfb
instance (Α):B4 W5:=inferInstanceAs (AgY zfb)
theorem z2o(BO W5):Đ:=AS
theorem z1h(Bi W5):ia zqu:=Au
def zpp(Α):aC:=(cA (oQ Ay (oP (oP AY 2) 1))
 (bB (AHf W5 AY AvM))
 bF)
instance (Α):Ρ zpp:=Ο zpp
def ztv(Α):aC:=gA
instance (Α):Ρ ztv:=Ο ztv
def zth(Α):aC:=(aD (J7 (AKS wm) (IG 2)
 (zpp c))
 (ztv c))
instance (Α):Ρ zth:=Ο zth
abbrev ygp(BY):aC:=zth c
def W6(Α):dD:=AGr zth
instance (Α):B4 W6:=inferInstanceAs (AGs zth)
theorem yn7(BO W6):EI:=AS
theorem ynl(Bi W6):du ygp:=Au
def zh0(Α):aC:=(bR 3 (oP (oP DE 4) 4))
instance (Α):Ρ zh0:=Ο zh0
def zlc(Α):aC:=(aD (bR 2 (AHf W4 (aE W6 DE UM) (HQ UM GY)))
 (zh0 c))
instance (Α):Ρ zlc:=Ο zlc
def zmb(Α):aC:=(bB (cZ (AHi [] (Î Tz DE) j9 (aF (JQ c) (HQ BXI (oP A5 0))))))
instance (Α):Ρ zmb:=Ο zmb
def zmw(Α):aC:=(aD (Df (fm Atz) (IG 4)
 (zlc c))
 (zmb c))
instance (Α):Ρ zmw:=Ο zmw
def zmd(Α):aC:=(aD (bR 3 GW)
 (zmw c))
instance (Α):Ρ zmd:=Ο zmd
def zjz(Α):aC:=(aD (bR 2 (cZ (AHi [] (AMb AY A5) j9 (Ts W2 (AMi (ϟ A5))))))
 (zmd c))
instance (Α):Ρ zjz:=Ο zjz
abbrev z0j(BY):aC:=zjz c
def W7(Α):dD:=ku 5 zjz
instance (Α):B4 W7:=inferInstanceAs (L4 2 5 zjz)
theorem yc7(BO W7):EI:=AS
theorem yfl(Bi W7):zC z0j 5:=Au
def zda(Α):aC:=(ox (ci [0] AHE) (Ĕ (KH Τ) A5 0) AY)
instance (Α):Ρ zda:=Ο zda
abbrev zne(BY):aC:=zda c
def O4(Α):dD:=RF zda
instance (Α):B4 O4:=inferInstanceAs (RH zda)
theorem zwi(BO O4):EI:=AS
theorem zyg(Bi O4):Nd zne:=Au
def ze8(Α):aC:=(bB (oN Oa Oa OP AY (cB cD A5 GW)))
instance (Α):Ρ ze8:=Ο ze8
abbrev zq7(BY):aC:=ze8 c
def Vc(Α):dD:=RF ze8
instance (Α):B4 Vc:=inferInstanceAs (RH ze8)
theorem z26(BO Vc):EI:=AS
theorem z2d(Bi Vc):Nd zq7:=Au
def zh3(Α):aC:=(ox (ci [1,2] AG0) (cT (fe Zz (AHG (ci [0,2] AHE) Vc (WA uE A5 0) DE))) AY)
instance (Α):Ρ zh3:=Ο zh3
abbrev zvi(BY):aC:=zh3 c
def W8(Α):dD:=cW 3 3 (zh3 c)
instance (Α):B4 W8:=inferInstanceAs (L4 3 3 zh3)
theorem z9d(BO W8):Đ:=AS
theorem z85(Bi W8):du zvi:=Au
def zow(Α):aC:=(Awu (cB fZ Ag1 Azk))
instance (Α):Ρ zow:=Ο zow
abbrev z87(BY):aC:=zow c
def RZ(Α):dD:=RF zow
instance (Α):B4 RZ:=inferInstanceAs (RH zow)
theorem ym4(BO RZ):EI:=AS
theorem yl4(Bi RZ):Nd z87:=Au
def zmo(Α):aC:=(eI 1 RZ A5 DE)
instance (Α):Ρ zmo:=Ο zmo
def zog(Α):aC:=Afr
instance (Α):Ρ zog:=Ο zog
def znp(Α):aC:=(aD (w7 AY (IG 2)
 (zmo c))
 (zog c))
instance (Α):Ρ znp:=Ο znp
def zmc(Α):aC:=(aD (bR 1 AUN)
 (znp c))
instance (Α):Ρ zmc:=Ο zmc
abbrev z3z(BY):aC:=zmc c
def R8(Α):dD:=cW 1 3 (zmc c)
instance (Α):B4 R8:=inferInstanceAs (L4 1 3 zmc)
theorem yj2(BO R8):FX:=AS
theorem yhs(Bi R8):du z3z:=Au
def zob(Α):aC:=(bB (NZ (Ĕ pN AY 1) (aE RZ (AJw (rq GY)) UM) (cV 4)))
instance (Α):Ρ zob:=Ο zob
def znt(Α):aC:=(aD (bR 4 (Ts R8 (AM3 [] (iL (cV 3)) (AQJ AFR A'e))))
 (zob c))
instance (Α):Ρ znt:=Ο znt
def zmk(Α):aC:=(aD (eI 3 O4 A5 (AT1 O4 DE))
 (znt c))
instance (Α):Ρ zmk:=Ο zmk
abbrev z4a(BY):aC:=zmk c
def W9(Α):dD:=cW 3 5 (zmk c)
instance (Α):B4 W9:=inferInstanceAs (L4 3 5 zmk)
theorem yhr(BO W9):Đ:=AS
theorem yg7(Bi W9):zC z4a 5:=Au
def zkg(Α):aC:=(ox (ci [0,2] AHE) j9 (AHf W9 A5 (HQ AY DE)))
instance (Α):Ρ zkg:=Ο zkg
abbrev z0a(BY):aC:=zkg c
def Xa(Α):dD:=cW 3 3 (zkg c)
instance (Α):B4 Xa:=inferInstanceAs (L4 3 3 zkg)
theorem ye4(BO Xa):Đ:=AS
theorem yc5(Bi Xa):du z0a:=Au
def zmi(Α):aC:=(Awu (cB uE Ag1 Azk))
instance (Α):Ρ zmi:=Ο zmi
abbrev z3i(BY):aC:=zmi c
def Np(Α):dD:=RF zmi
instance (Α):B4 Np:=inferInstanceAs (RH zmi)
theorem yjg(BO Np):EI:=AS
theorem yh5(Bi Np):Nd z3i:=Au
def zfj(Α):aC:=(AFV JQ (Ű KN) A'e)
instance (Α):Ρ zfj:=Ο zfj
abbrev zqz(BY):aC:=zfj c
def Xb(Α):dD:=wo zfj
instance (Α):B4 Xb:=inferInstanceAs (wq zfj)
theorem z2y(BO Xb):FX:=AS
theorem z1c(Bi Xb):nw zqz:=Au
def zke(Α):aC:=(bB (Ts R8 (AHG (ci [0] (iL (aF (O4 c) AgA))) Np (AJw (WA KD AY 1)) (AGt Xb))))
instance (Α):Ρ zke:=Ο zke
abbrev zz9(BY):aC:=zke c
def Xc(Α):dD:=RF zke
instance (Α):B4 Xc:=inferInstanceAs (RH zke)
theorem yec(BO Xc):EI:=AS
theorem yfb(Bi Xc):Nd zz9:=Au
def zdu(Α):aC:=(AFV W7 (AfP UM DE) (AfP AUN GY))
instance (Α):Ρ zdu:=Ο zdu
def zdt(Α):aC:=(aD (bR 4 (AM3 [1] AG0 (AJw (rq (AT1 O4 A5)))))
 (zdu c))
instance (Α):Ρ zdt:=Ο zdt
def zdx(Α):aC:=(aD (bR 3 (AHG (ci [1] (iL AvZ)) Xc AY A5))
 (zdt c))
instance (Α):Ρ zdx:=Ο zdx
def zb5(Α):aC:=(aD (bR 2 (AM3 [0,1] (iL AvZ) (AHf Xa AY AvM)))
 (zdx c))
instance (Α):Ρ zb5:=Ο zb5
abbrev zkf(BY):aC:=zb5 c
def Xe(Α):dD:=ku 5 zb5
instance (Α):B4 Xe:=inferInstanceAs (L4 2 5 zb5)
theorem zrl(BO Xe):EI:=AS
theorem zrf(Bi Xe):zC zkf 5:=Au
def zic(Α):aC:=(Um 1 UM (cV 5))
instance (Α):Ρ zic:=Ο zic
def zf2(Α):aC:=(vJ (AMb DE (aE Xe DE GY)) (Af3 4 5)
 (zic c))
instance (Α):Ρ zf2:=Ο zf2
def zik(Α):aC:=(aD (bR 3 (cZ (Cg (AqS RW (AM4 [2] AG0 (Ĕ ABi Ò 1))))))
 (zf2 c))
instance (Α):Ρ zik:=Ο zik
def zi7(Α):aC:=(xG (nV 1))
instance (Α):Ρ zi7:=Ο zi7
def zjp(Α):aC:=(aD (w7 (AqS W0 AY) (IG 2)
 (zik c))
 (zi7 c))
instance (Α):Ρ zjp:=Ο zjp
def zgm(Α):aC:=(aD (Hs 1 Wd)
 (zjp c))
instance (Α):Ρ zgm:=Ο zgm
abbrev zs8(BY):aC:=zgm c
def Xf(Α):zf:=xT 1 6 (zgm c)
instance (Α):B4 Xf:=inferInstanceAs (AVq 6 zgm)
theorem z5i(BO Xf):FX:=AS
theorem z5p(Bi Xf):ATL zs8 6:=Au
def zmp(Α):aC:=(Awu (BFR cy))
instance (Α):Ρ zmp:=Ο zmp
abbrev z37(BY):aC:=zmp c
def Xg(Α):dD:=RF zmp
instance (Α):B4 Xg:=inferInstanceAs (RH zmp)
theorem yhy(BO Xg):EI:=AS
theorem yiv(Bi Xg):Nd z37:=Au
def zo7(Α):aC:=(AFV JQ Ag1 (BFR Ò))
instance (Α):Ρ zo7:=Ο zo7
abbrev yas(BY):aC:=zo7 c
def Vd(Α):dD:=RF zo7
instance (Α):B4 Vd:=inferInstanceAs (RH zo7)
theorem yme(BO Vd):EI:=AS
theorem yla(Bi Vd):Nd yas:=Au
def zkj(Α):aC:=(AFV RZ Ò (aE Vd GY (aE Np OP cy)))
instance (Α):Ρ zkj:=Ο zkj
def zh5(Α):aC:=(aD (eI 3 Xg (aE Np DE cy) (aE Np ϯ Ò))
 (zkj c))
instance (Α):Ρ zh5:=Ο zh5
abbrev zvj(BY):aC:=zh5 c
def Xi(Α):dD:=AgX zh5
instance (Α):B4 Xi:=inferInstanceAs (AgY zh5)
theorem ybc(BO Xi):Đ:=AS
theorem yav(Bi Xi):ia zvj:=Au
def zeh(Α):aC:=(cA (cT (aF ALl (AKS (ADP GY))))
 (bB (AHf Xi DE (AEs GY)))
 bF)
instance (Α):Ρ zeh:=Ο zeh
def zfi(Α):aC:=(bB (cB cD (cB cD AVx AFR) GW))
instance (Α):Ρ zfi:=Ο zfi
def ze9(Α):aC:=(aD (vJ (AMb AVx (TV AVx (uK GW) uJ)) (Af3 2 3)
 (zeh c))
 (zfi c))
instance (Α):Ρ ze9:=Ο ze9
def zco(Α):aC:=(aD (cA (ANS ALl (AEs (ADP (ADP AVx))))
 (bB (cB cD (ADP AVx) GW))
 bF)
 (ze9 c))
instance (Α):Ρ zco:=Ο zco
abbrev zmr(BY):aC:=zco c
def Xj(Α):dD:=ku 4 zco
instance (Α):B4 Xj:=inferInstanceAs (ATj zco)
theorem zuu(BO Xj):EI:=AS
theorem zuv(Bi Xj):ia zmr:=Au
def zcr(Α):aC:=(bB (AxA NZ AY "pair" AAe GW))
instance (Α):Ρ zcr:=Ο zcr
abbrev zmn(BY):aC:=zcr c
def Xk(Α):dD:=wo zcr
instance (Α):B4 Xk:=inferInstanceAs (wq zcr)
theorem zvf(BO Xk):FX:=AS
theorem zu0(Bi Xk):nw zmn:=Au
def zpf(Α):aC:=(AFV Vd (AGt R8) (AJw wm))
instance (Α):Ρ zpf:=Ο zpf
abbrev z72(BY):aC:=zpf c
def Xl(Α):dD:=wo zpf
instance (Α):B4 Xl:=inferInstanceAs (wq zpf)
theorem ykk(BO Xl):FX:=AS
theorem yng(Bi Xl):nw z72:=Au
def zn7(Α):aC:=gA
instance (Α):Ρ zn7:=Ο zn7
def zoe(Α):aC:=(aD gA
 (zn7 c))
instance (Α):Ρ zoe:=Ο zoe
def znj(Α):aC:=(aD (cA (RR AY Ĳ)
 (bB (wf Xl))
 bF)
 (zoe c))
instance (Α):Ρ znj:=Ο znj
def zlw(Α):aC:=(aD (cA (gI Q6 ATs (AGt Xk))
 gA
 bF)
 (znj c))
instance (Α):Ρ zlw:=Ο zlw
abbrev zxq(BY):aC:=zlw c
def Ve(Α):dD:=cW 3 3 (zlw c)
instance (Α):B4 Ve:=inferInstanceAs (L4 3 3 zlw)
theorem yir(BO Ve):Đ:=AS
theorem yik(Bi Ve):du zxq:=Au
def zc2(Α):aC:=(KY (AGw bB (nZ XI ACS (Xj c) (AEt OV)) (AHf Ve (AEt JU) (HQ GY (AEt UZ)))))
instance (Α):Ρ zc2:=Ο zc2
def zbn(Α):aC:=(aD (bR 3 (AHG (AHi [0] (z02 (cV 2))) Np Auk (Ace XN U7 DE AY)))
 (zc2 c))
instance (Α):Ρ zbn:=Ο zbn
abbrev zhl(BY):aC:=zbn c
def Xn(Α):dD:=AgX zbn
instance (Α):B4 Xn:=inferInstanceAs (AgY zbn)
theorem zo8(BO Xn):Đ:=AS
theorem zoz(Bi Xn):ia zhl:=Au
def zij(Α):aC:=(Rh 1 ZG (HQ GY DE))
instance (Α):Ρ zij:=Ο zij
def zk1(Α):aC:=(aD (bR 3 (Ho (rq (AM4 [2] AHE (ANS ALl (AKS AY))))))
 (zij c))
instance (Α):Ρ zk1:=Ο zk1
def zml(Α):aC:=Afr
instance (Α):Ρ zml:=Ο zml
def zmu(Α):aC:=(aD (w7 AY (IG 2)
 (zk1 c))
 (zml c))
instance (Α):Ρ zmu:=Ο zmu
def zjx(Α):aC:=(aD (p8 1 (fU ak))
 (zmu c))
instance (Α):Ρ zjx:=Ο zjx
abbrev z0p(BY):aC:=zjx c
def Xo(Α):dD:=cW 1 4 (zjx c)
instance (Α):B4 Xo:=inferInstanceAs (L4 1 4 zjx)
theorem yes(BO Xo):FX:=AS
theorem ydk(Bi Xo):ia z0p:=Au
def zdg(Α):aC:=(ox (ci [2] (iL (cZ (Ae A5 uJ (uK AFR))))) j9 (NZ (oQ Ob AY) (cB cD A5 (cU qT AY)) (cC BC)))
instance (Α):Ρ zdg:=Ο zdg
def zbv(Α):aC:=(aD (bR 2 (AGt Xo))
 (zdg c))
instance (Α):Ρ zbv:=Ο zbv
abbrev zix(BY):aC:=zbv c
def Xr(Α):dD:=AGr zbv
instance (Α):B4 Xr:=inferInstanceAs (AGs zbv)
theorem zqh(BO Xr):EI:=AS
theorem zpr(Bi Xr):du zix:=Au
def zdj(Α):aC:=(bB (rq (AM4 [0] AHE (ANS ALl AgA))))
instance (Α):Ρ zdj:=Ο zdj
abbrev zng(BY):aC:=zdj c
def Xv(Α):dD:=RF zdj
instance (Α):B4 Xv:=inferInstanceAs (RH zdj)
theorem zwq(BO Xv):EI:=AS
theorem zwo(Bi Xv):Nd zng:=Au
def zot(Α):aC:=(bB (cZ (nN z3o (AfP k6 (AHG (ci [0] AG0) Xv AY A5)))))
instance (Α):Ρ zot:=Ο zot
abbrev z8c(BY):aC:=zot c
def Xw(Α):dD:=wo zot
instance (Α):B4 Xw:=inferInstanceAs (wq zot)
theorem ymy(BO Xw):FX:=AS
theorem ynf(Bi Xw):nw z8c:=Au
def zl1(Α):aC:=(A1S (AHf W8 AY (HQ (Oh 2 (cU qT GW)) GY)))
instance (Α):Ρ zl1:=Ο zl1
def zn5(Α):aC:=AUj
instance (Α):Ρ zn5:=Ο zn5
def znv(Α):aC:=(aD (w7 A5 (IG 3)
 (zl1 c))
 (zn5 c))
instance (Α):Ρ znv:=Ο znv
def zl8(Α):aC:=(aD (p8 2 (Î fU (ϟ k6)))
 (znv c))
instance (Α):Ρ zl8:=Ο zl8
abbrev z40(BY):aC:=zl8 c
def Vf(Α):dD:=ku 4 zl8
instance (Α):B4 Vf:=inferInstanceAs (ATj zl8)
theorem yjd(BO Vf):EI:=AS
theorem yib(Bi Vf):ia z40:=Au
def zfc(Α):aC:=(bB (cZ (Ae (cZ (nN Z2 GY)) (uK GW) uJ)))
instance (Α):Ρ zfc:=Ο zfc
def zfn(Α):aC:=(aD (eI 3 Vf DE (cZ (nN Z2 A5)))
 (zfc c))
instance (Α):Ρ zfn:=Ο zfn
def zcs(Α):aC:=(aD (bR 2 (AM3 [0] (Î znb AY) BBG))
 (zfn c))
instance (Α):Ρ zcs:=Ο zcs
abbrev zl3(BY):aC:=zcs c
def Xx(Α):dD:=ku 4 zcs
instance (Α):B4 Xx:=inferInstanceAs (ATj zcs)
theorem zu2(BO Xx):EI:=AS
theorem zur(Bi Xx):ia zl3:=Au
def zcx(Α):aC:=(A1S (fe z4m (AM4 [0,4] (iL (cV 5)) (Ĕ ABi BBG 2))))
instance (Α):Ρ zcx:=Ο zcx
def zdy(Α):aC:=(aD (bR 5 (FP (TX (ci [2,3] AG0 (cT (aF (Vc c) (HQ (cB uE AY (cB cD A5 AFR)) DE))) AY))))
 (zcx c))
instance (Α):Ρ zdy:=Ο zdy
def zet(Α):aC:=(bB (Aoz DE))
instance (Α):Ρ zet:=Ο zet
def zev(Α):aC:=(aD (vJ (AMb A5 (AT1 Xx A5)) (Af3 3 4)
 (zdy c))
 (zet c))
instance (Α):Ρ zev:=Ο zev
def zca(Α):aC:=(aD (p8 2 (Î fU k6))
 (zev c))
instance (Α):Ρ zca:=Ο zca
abbrev zlm(BY):aC:=zca c
def Xy(Α):dD:=ku 6 zca
instance (Α):B4 Xy:=inferInstanceAs (L4 2 6 zca)
theorem zss(BO Xy):EI:=AS
theorem zsv(Bi Xy):zC zlm 6:=Au
def zp4(Α):aC:=(bB (aF (Xy c) (AEs DE)))
instance (Α):Ρ zp4:=Ο zp4
def zqf(Α):aC:=(aD (cA (ko (Di Θ) wm (cB cD GY) AFR)
 gA
 bF)
 (zp4 c))
instance (Α):Ρ zqf:=Ο zqf
def zqn(Α):aC:=(aD (eI 3 Vf DE A5)
 (zqf c))
instance (Α):Ρ zqn:=Ο zqn
def zoj(Α):aC:=(aD (bR 2 (AGt Xw))
 (zqn c))
instance (Α):Ρ zoj:=Ο zoj
abbrev yca(BY):aC:=zoj c
def Xz(Α):dD:=ku 4 zoj
instance (Α):B4 Xz:=inferInstanceAs (ATj zoj)
theorem yk3(BO Xz):EI:=AS
theorem ykp(Bi Xz):ia yca:=Au
def zcn(Α):aC:=(Gg Ki 0 HI 6 (xR (nZ Ki ACT (Xn c) AY (HQ (cV 6) (WA KD A_I 6)))))
instance (Α):Ρ zcn:=Ο zcn
def zcw(Α):aC:=(ou Ki 0 AX4 (aE Xr (cV 7) (aE Xz (cV 7) (cV 5))))
instance (Α):Ρ zcw:=Ο zcw
def zcy(Α):aC:=(aD (bR 7 (cZ (Ci (Cg Au9))))
 (zcw c))
instance (Α):Ρ zcy:=Ο zcy
def zc6(Α):aC:=(aD (w7 (cZ (Ci (nN zxx A_I))) (IG 6)
 (zcn c))
 (zcy c))
instance (Α):Ρ zc6:=Ο zc6
def zc1(Α):aC:=(aD (uT Ki 0 HI Wd)
 (zc6 c))
instance (Α):Ρ zc1:=Ο zc1
def zc0(Α):aC:=(aD (uT Ki 0 TC (z2f (fR uO (RW c) A5)))
 (zc1 c))
instance (Α):Ρ zc0:=Ο zc0
def zc5(Α):aC:=(aD (ou Ki 0 Ali (KQ (fR uO (Xf c) A5)))
 (zc0 c))
instance (Α):Ρ zc5:=Ο zc5
def zc3(Α):aC:=(aD (ou Ki 0 OV (A4v (cZ (nN Tj (jD XI XX (cV 4))))))
 (zc5 c))
instance (Α):Ρ zc3:=Ο zc3
def zcz(Α):aC:=(aD (ou Ki 0 UZ GY)
 (zc3 c))
instance (Α):Ρ zcz:=Ο zcz
def zbm(Α):aC:=(aD (ou Ki 0 JU DE)
 (zcz c))
instance (Α):Ρ zbm:=Ο zbm
abbrev zei(BY):aC:=zbm c
def O5(Α):uz:=Al 5 8 (zbm c)
instance (Α):Xm (O5 c):=inferInstanceAs (Xm (Al 5 8 (zbm c)))
theorem yb0{c:DV}{t ds P E}(h:O5 c t ds P E):y7 5:=AS
theorem yag{c:DV}{t ds P E}(h:O5 c t ds P E):Ay8 O5:=ycg h
theorem yck(AOW O5):AHr zei 8:=z9w h
def zgn(Α):aC:=(cA (RR OP UY)
 (w6 (Gb ER 0 AOh LV UY (Va c) (aj ϯ (HQ (bp A5 2) (bp A5 3)))))
 (cA (RR OP "drop")
 gA
 (AxA cA OP JU (aD (Bf ER 0 JU ϯ)
 (Bf ER 0 UZ (bp A5 2)))
 (cA (RR OP OV)
 (Bf ER 0 OV (A4v Agn))
 (AxA cA OP o6 (Bf ER 0 S_ Agn)
 (Gj ER 0 eR (qm Ki (O5 c) (aj (Hv (Cj (Ga LV FS (RV c) BW9))) (AGm (Ahx JU) (Ahx UZ) (Ahx OV) (Ahx S_))))))))))
instance (Α):Ρ zgn:=Ο zgn
abbrev zoc(BY):aC:=zgn c
def Vg(Α):uz:=Gs 1 2 (zgn c)
instance (Α):Xm (Vg c):=inferInstanceAs (Xm (Gs 1 2 (zgn c)))
theorem z5v{c:DV}{t ds P E}(h:Vg c t ds P E):FX:=AS
theorem z6k(AOW Vg):AHr zoc 2:=Ayh
def zjf(Α):aC:=(Bc (cC (On xf)))
instance (Α):Ρ zjf:=Ο zjf
def zjo(Α):aC:=(aD (AGw w6 (BX ER Ĺ 0 (Vg c)) DE)
 (zjf c))
instance (Α):Ρ zjo:=Ο zjo
def zjr(Α):aC:=(aD (cA (RR Aec FS)
 (Bc (xR BR1))
 bF)
 (zjo c))
instance (Α):Ρ zjr:=Ο zjr
def zf6(Α):aC:=(aD (cA (A0X Τ Aec ApG)
 (AGw Bc (zx2 ER ĸ (U8 c) AY) DE)
 bF)
 (zjr c))
instance (Α):Ρ zf6:=Ο zf6
def zgh(Α):aC:=(aD (bR 2 (wf Lb))
 (zf6 c))
instance (Α):Ρ zgh:=Ο zgh
abbrev zoh(BY):aC:=zgh c
def Nq(Α):uz:=Gs 1 3 (zgh c)
instance (Α):Xm (Nq c):=inferInstanceAs (Xm (Gs 1 3 (zgh c)))
theorem z6i{c:DV}{t ds P E}(h:Nq c t ds P E):FX:=AS
theorem z6l(AOW Nq):AHr zoh 3:=Ayh
def qu(s:Ff):D:= .BM [.Ψ (Lm s)]
def XC(c:DV)(C:Η):G_ Ff:=wn C ES FU (wn C Fk EU (wn C Fh TH (wn C FD eR Ε)))
def Vh(c:DV)(C:Η)(s:Ff):Ι:=(C=Fk/\s= EU)\/ (C=Fh/\s= TH)\/ (C=FD/\s= eR)\/ (C=ES/\s= FU)
theorem ygc{c:DV}{C:Η}{s:Ff}(h:AV0=Β s):A2Y:=by
 show BD XC;by_cases h1:C=ES
 ·show ϓ h1;show Χ;exact .CB (ARw (VV h1))
 show tq h1;by_cases h2:C=Fk
 ·show ϓ h2;show Χ;exact .AV (VV h2)
 show tq h2;by_cases h3:C=Fh
 ·show ϓ h3;show Χ;exact AAi (VV h3)
 show tq h3;by_cases h4:C=FD
 ·show ϓ h4;show Χ;exact ALw (VV h4)
 show tq h4;show Χ
def XD(Α):dD:=þ (∃C s,ds= [AgI]/\A2Y/\P (qu s))
theorem z2l(BO XD):FX:=Ayj
def Ld(Α):AGP ->ã (T×D)
 | AvN=>Β (t,d)
 | ŭ t OK=>(LA AV0 s (Β (t,qu s)))
 | _=>Ε
def Gu(c:DV)(t:T)(row:Ξ):ã (T×D):=Ld c (Xm.x (Nq c) t AFM)
def CQ(Α):uz:=fun t ds P _=>∃fs ts row q,t= .ob ER fs ts/\ AfC/\ds= AFM/\Gu c t row=Β q/\P DD FL
theorem ycl{c:DV}{t ds P E}(h:CQ c t ds P E):FX:=by obtain⟨_,_,_,_,_,_,Z,_⟩:=h;rfl
def R9(Α):P5 (AJH Ro D) D
 | ASM=>Adi
 | Β (.er (.AT C))=>(LA AV0 s (Β (qu s)))
 | _=>Ε
def O6(c:DV)(d:D)(row:Ξ):G_ D:=R9 c (eM (O3 c) [d,ATI])
def XF(Α):dD:=þ (∃fs xs row r,ds= [A_d,ATI]/\ AfC/\A4f=Β r/\P r)
theorem z50(BO XF):EI:=BDb
instance (Α):B4 XF where
 x ds:=ADY Zp (Lv a (.DJ C fs xs) (MT b ATI (gd (C=ER/\ AfC) (LA A4f r (Zs r)))))
 ok {ds P E} h:=by
  match ds,h with
  | Zp,h=>
   cases a with
   | DJ C fs xs=>
    cases b with
    | Ψ row=>
     have y:=z32 h;have h2:=AI;cases e:A4f with
     | Ε=>show v4;exact qh
     | Β r=>show v4;exact⟨fs,xs,row,r,by rw[í],ALb,e,h2⟩
    | _=>show LS
   | _=>show LS
  | [],h=>show LS
  | [_],h=>show LS
  | AGb,h=>show LS
def zja(Α):aC:=(xG (Z4 (ci [0] AHE j9 (aF (XF c) (HQ A5 AY)))))
instance (Α):Ρ zja:=Ο zja
def zgg(Α):aC:=(aD (bR 1 (ANd FS AIt "mark abc" A6Q "grade abc" A6P "leaning ce"))
 (zja c))
instance (Α):Ρ zgg:=Ο zgg
abbrev ztw(BY):aC:=zgg c
def Je(Α):zf:=xT 1 2 (zgg c)
instance (Α):B4 Je:=inferInstanceAs (AVq 2 zgg)
theorem z5o(BO Je):FX:=AS
theorem z6o(Bi Je):ATL ztw 2:=Au
def DK:AA:= Awg [BaS,BaT,FS,BaU,BaV,BaW,AW5,AIt,A6Q,A6P,BaX,BaY,BaZ,Baa]
def Jf(k:Ζ):AA:=APo (DK.getD k D') (Lm " ")
def iy(k:Ζ):AJ:=(Jf k).B_ SV
def qw(k:Ζ):Ξ:=(Jf k).headD D'
def oS(s:Ff):D:= .Ψ (Lm s)
def DN(ns:F9)(k:Ζ):BI:=Ar3 Atm ns[k] (let m:BI:=z_ ns [] (Aw8+5) (BOr (qV ((k*7) % J_) 0) Aw8)
 (m*m).fmod 2147483629)
def XH(AGL):dD:=þ (∃(ns:F9) (k:Ζ),ds= [.A8 ANa,vy]/\ASi/\k<1000/\WS (DN ns k))
def zfl(AGL):dD:=þ (∃(i:BI) (m:Ζ),ds= [E5,.AF m]/\m<=1000/\∀xs:F9,AFb m ->BI2 ->P (OB JY fi))
def zhm(AGL):dD:=þ (∃x:BI,ds= [.AF x]/\P (OB iy (AX6 14).TM))
def nbW(k:Ζ)(r:BI):BI:=PV inD vT A0Z 3 (Os BBm 2 (PV inD vT A0a (1+r) 0))
def zdc(AGL):dD:=BNy (ds= [.A8 ū,.AF x]) (WS (nbW k (AX6 2)))
def O7(w:Ξ):AA:= [qX w Ε (IF (-1)),w++EF "s",AJB w,AJB (AQC qX w 1)++BJI,w++EF "0",EF "x" ++w,BJI]
def owN:AJ:= [oS UY,oS EU,oS FU,oS FS,oS AW7,oS OU,oS o6,oS JU,oS OV]
def owW(k r:Ζ):Ξ:=PV inD AkW owN (EF Po) ((O7 (qw k)).Pw r D')
def zcg(AGL):dD:=BNy (ds= [.Ψ AFl,.AF x]) (AAp (owW k (AX6 7).TM))
def sy:AA:= Awg ["00","01","+1","1a","a",Bab,"1.","0x1","1_0","#1","--1","-0"]
def has(s:Ff)(p:Ξ):AO:= !(APp p (Lm s) 0 A6Z 1).Amr
def Le(p b:Ξ):AA:=
 PV has "," p (let l:=Agz;let r:=Aw1
  [l,b++EF "," ++r,l++EF "," ++b,AMX ",0",l++EF Aln,EF Alo ++r]) (PV has "-" p (let l:=Avt;let r:=ARy 2 D'
  [l,b++EF "-" ++r,l++EF "-" ++b,AMX "-0",EF "-" ++p,AMX "/2"]) BUl)
def AX7:AA:= Awg ["5","1/2","0","0,0","9/2,7","0-1","0-60"]
def zkb(AGL):dD:=þ (∃(p:Ξ) (x:BI),p∈AX7/\0<=x/\ds= [.Ψ p,.AF x]/\∀i j:Ζ,i<12 ->j< Cl (AaY p i) ->AAp (AfJ (AaY p i).Pw))
def sE(c:DV)(row:Ξ):AO:=f_ (eM (Lb c) AFM) (Β (.er (.AT C))) (C==ES)
def zd2(Α):dD:=þ (∃xs:F9,ds= [.A8 A_X]/\AFb 6/\ (∀x∈xs,0<=x)/\∀row,sE c row=Θ ->AAp row)
def z4b(AGL):dD:=zwz
theorem z5u(BO XH):EI:=Ayj
theorem zyu(BO zfl):EI:=Ayj
theorem z5y(BO zhm):FX:=Ayi
theorem zu8(BO zdc):EI:=BDc
theorem zrh(BO zcg):EI:=BDc
theorem z7j(BO zkb):EI:=BDb
theorem zx5(BO zd2):FX:=Ayi
theorem yn0(BO z4b):FX:=Ayi
def zu7(CH):aC:=(AGw bB gk (cB cD (d_ (ZA AH4 EU (ZA "twice" "missing" (Ϗ OV "" "" TH eR FU)))) (aae A5 (cC (.bl Θ)))))
def zvd(CH):aC:=(aD (cA (cT (mv U1))
 gA
 bF)
 (zu7 K c))
def zu6(CH):aC:=(aD (cA (cT BZ4)
 gA
 bF)
 (zvd K c))
def zux(CH):aC:=(aD (cA (JG (pZ (cT (Tw K AY))) (gI Ay (rq (AM4 [] (iLh (cV 1)) (Ű cT))) GW))
 (AGw bB gk (KG Po))
 bF)
 (zu6 K c))
def zu1(CH):aC:=(aD (bR 1 (ŵ A5 (d_ (HQ (mv FD) (mv ES)))))
 (zux K c))
def zut(CH):aC:=(aD (bR 1 (ŵ A5 (d_ (AGm (mv pE) (mv U1) BZ4 (mv Fh)))))
 (zu1 K c))
def ziz(CH):aC:=(aD (bR 1 (d_ (AGm (mv pM) (mv Fk) (mv eS) (mv pS))))
 (zut K c))
def zyc(CH):aC:=AUj
def zws(CH):aC:=(aD (Gk K xn 3 (bR 2 (Î (nZ ER TD (O3 c) AY) A5))
 (bR 2 BL7))
 (zyc K c))
def zuq(CH):aC:=(aD (bR 2 Adp)
 (zws K c))
def zwd(CH):aC:=(bB (cB jP (WA j7 DE 2) (M' 2147483629)))
def zwh(CH):aC:=(aD (cA (oQ Ob wm)
 (bR 2 (AvE (cB fZ (VS j7 (AVy AY (VS j7 A5 7) wm) 48271) (cB j7 A5 (M' 7919)))))
 bF)
 (zwd K c))
def zyb(CH):aC:=(aD (bR 2 (VS fZ (VS j7 A5 7919) 5))
 (zwh K c))
def zt8(CH):aC:=(aD (cA (gI Q6 A5 wm)
 (bB (cB cD AY (cV 1)))
 bF)
 (zyb K c))
def zzt(CH):aC:=(Bc (cV 2))
def zz3(CH):aC:=(aD (Gk K xn 3 (bR 2 (Î (BX ER TD 0 (Nq c)) A5))
 (bR 2 BL7))
 (zzt K c))
def zqk(CH):aC:=(aD (bR 2 Adp)
 (zz3 K c))
def zop(CH):aC:=(A1S GY)
def zri(CH):aC:=(aD (bR 3 (AvE (VS fZ (VS j7 GY 48271) 12345)))
 (zop K c))
def zsz(CH):aC:=AUj
def zt9(CH):aC:=(aD (Df (fm A5) (IG 4)
 (zri K c))
 (zsz K c))
def zup(CH):aC:=(aD (bR 3 (AvE AY))
 (zt9 K c))
def zol(CH):aC:=(aD (p8 2 (fU ak))
 (zup K c))
def zxt(CH):aC:=(ox uU (AVy A5 AY (M' 14)) AEr)
def zyj(CH):aC:=(aD (bR 1 (ŵ A5 (ANd AIt A6Q A6P BaX BaY BaZ Baa)))
 (zxt K c))
def zs1(CH):aC:=(aD (bR 1 (ANd BaS BaT FS BaU BaV BaW AW5))
 (zyj K c))
def zqe(CH):aC:=(bB k6)
def zqo(CH):aC:=(aD (cA (ko ABi cy gk (AQG OV o6))
 (bB (cB fZ GW (cB jP A5 AAe)))
 bF)
 (zqe K c))
def zps(CH):aC:=(aD (cA (RR cy JU)
 (bB AAe)
 bF)
 (zqo K c))
def zl4(CH):aC:=(aD (cA (ko ABi cy gk (AQG UY AW6))
 (bB (M' 3))
 bF)
 (zps K c))
def zod(CH):aC:=(AVY DE A5 (M' 7))
def zoa(CH):aC:=(aD (cA (ko ABi (AVy DE A5 (M' 7)) gk (aj (KG UY) (ZA EU FU (Ϗ FS AW7 OU o6 JU OV))))
 (bB (cC (On Po)))
 bF)
 (zod K c))
def zka(CH):aC:=(aD (bR 2 (AJR (Gn AY uJ (uK AFR)) (aj (AUJ "s") (aj (Ű Uy) (AGm (cB fZ (Uy (Gn AY uJ (uK GW))) (Gn AY (uK GW) uJ)) (AUJ "0") (AAv (KG "x") 0) BJk)))))
 (zoa K c))
def zze(CH):aC:=(AVY (AJR DE (ZA "2/4" "1/0" (Ϗ "1/1" "1/" "/2" "0/5" "1/-2" Bac))) GY (M' 9))
def zzq(CH):aC:=(aD (cA (Ĕ Ow AS9 0)
 (aD (N5 (K3 AY AS9) (pK 3 (dI (IG 4) (dI (IG 7) (dI (IG 6) pJ)))))
 (AVY (d_ (aj UM (aj (AAv (Ý DE "-") 6) (AGm (AAv (Ý UM "-") 2) (AUJ "-0") (AAv AS9 0) (AUJ "/2"))))) GY (M' 6)))
 bF)
 (zze K c))
def zz5(CH):aC:=(aD (cA (Ĕ Ow AsL 0)
 (aD (N5 (K3 AY AsL) (pK 3 (dI (IG 4) (dI (IG 5) (dI (IG 6) pJ)))))
 (AVY (d_ (aj UM (aj (AAv (Ý DE ",") 6) (AGm (AAv (Ý UM ",") 2) (AUJ ",0") (Ý UM Aln) (AAv (KG Alo) 6))))) GY (M' 6)))
 bF)
 (zzq K c))
def zzf(CH):aC:=(aD (bR 3 (VS BJ A5 12))
 (zz5 K c))
def zwc(CH):aC:=(aD (bR 2 (AVy (d_ (ZA "00" "01" (ZA "+1" "1a" (ZA "a" Bab (Ϗ "1." "0x1" "1_0" "#1" "--1" "-0"))))) A5 AsI))
 (zzf K c))
def zlq(CH):aC:=(Ai1 (AfP (aE zcg OP Awh) Agn))
def zrc(CH):aC:=(aD (cA (Ft (gI pN AjP (M' 3)) (oQ Ob UM))
 (Ai1 (ŵ (AuE (uK (cV 4)) (ϟ (aE zkb (oP A5 4) (bp AY 4)))) (Axo UM)))
 bF)
 (zlq K c))
def zgw(CH):aC:=(aD (eI 4 zdc A5 Awh)
 (zrc K c))
def zrn(CH):aC:=(aD (cA (gI pN AjP AAe)
 (aD (bR 3 (cB fZ (Ý (cB fZ (qt AEr (cZ (Ae A5 uJ Au6))) (cB RJ AEr (fe yer (VS Ob DE 0)))) " ") (qt AEr (cZ (Ae A5 Au6 uJ)))))
 (AVY (d_ (HQ GY (Ý (qt AEr A5) " "))) Awh AAe))
 bF)
 (zgw K c))
def zlp(CH):aC:=(aD (cA (gI pN AjP GW)
 (Ai1 (ŵ (AuE (uK (cB fZ DE GW)) (ϟ (KG "ab"))) (Axo DE)))
 bF)
 (zrn K c))
def zlj(CH):aC:=(aD (cA (Ft (oQ pN AjP) (AcU OP o6))
 (Ai1 (AuE Au6 (Axo DE)))
 bF)
 (zlp K c))
def zrr(CH):aC:=(aD (bR 2 (cB jP (bp AY 2) ATs))
 (zlj K c))
def zni(CH):aC:=(aD (bR 1 (Ts zhm cy))
 (zrr K c))
def z9t(CH):aC:=(w6 (kj 1 (CQ c) (fm GY)))
def zst(CH):aC:=(cA (JG (BG5 1) (JG (K1 (cT (WA Ay BHT 4))) (BG5 5)))
 (bB AHP)
 bF)
def z1y(CH):aC:=(aD (cA (oQ pN (VS jP (bp (cV 8) 5) 3))
 (bR 3 (AVy (cV 6) (bp (cV 8) 2) (rq (cV 6))))
 bF)
 (zst K c))
def z1b(CH):aC:=(aD (bR 3 (Ts zd2 (cV 8)))
 (z1y K c))
def zz0(CH):aC:=(aD (eI 8 zfl (AT1 XH (AAv GW 7)) (M' 6))
 (z1b K c))
def z9v(CH):aC:=(bB (Aw (cB pN (ALN 1 AX9) (cC (On xf))) (xR (cB pN BHT (cV 4)))))
def ydx(CH):aC:=(aD (cA (JG (AdA (ALN 1 AX') EU) (AdA (ALN 1 AX_) TH))
 (bB AHP)
 bF)
 (z9v K c))
def yet(CH):aC:=(aD (cA (JG (BGq Alu) (BGq AYC))
 (bB AHP)
 bF)
 (ydx K c))
def z4o(CH):aC:=(aD (cA (JG (AcU (ALN 5 FS) "0") (AdA (ALN 5 AIt) eR))
 (bB AHP)
 bF)
 (yet K c))
def yef(CH):aC:=(aD (Df (fm AsI) (IG 7)
 (zz0 K c))
 (z4o K c))
def ye2(CH):aC:=(aD (bR 6 (aF (JR c) ak))
 (yef K c))
def zr9(CH):aC:=(aD (Dr 5 BNj)
 (ye2 K c))
def yc6(CH):aC:=(aD (bR 4 (Hv (Cj (fR uO (Je c) A5))))
 (zr9 K c))
def zwe(CH):aC:=(aD (w7 (d_ (aj (cB fZ (KG A6d) (AK6 DE)) (aj (KG Bag) (ZA Bah Bai (AQG Baj AW5))))) (IG 3)
 (z9t K c))
 (yc6 K c))
def yfh(CH):aC:=(aD (bR 2 (VS jP (AT1 XH k6) 10))
 (zwe K c))
def z3n(CH):aC:=(aD (Dr 1 BNj)
 (yfh K c))
theorem O8{n:Ζ}(Aj1):uw n ATJ (.AF j):=by cases n<;>simp [uw]
abbrev C8(Q:nS):pY:=APv
structure Lf (K:Φ) (c:DV) (C:Η) (j:Ζ):Ι where
 ok:dJ K C
 g:AGx
 v:VE K C
 s0:xA pM 0
 s1:xA Fk 1
 s2:xA eS 2
 s3:xA pS 3
 s4:xA pE 4
 s5:xA U1 5
 s6:xA X9 6
 s7:xA Fh 7
 s8:xA FD 8
 s9:xA ES 9
structure acf (CH):Ι where
 n1:Lf K c Fk 1
 n7:Lf K c Fh 7
 n8:Lf K c FD 8
 n9:Lf K c ES 9
structure Lg (CH):Ι where
 n1:AVh Fk Fk
 n7:AVh Fh Fh
 n8:AVh FD FD
 n9:AVh ES ES
theorem zrz{K:Φ}{c:DV}{Q:nS}{C:Η}{j:Ζ}(F:Lf K c C j)(hj:j=1\/j=7\/j=8\/j=9)(h:Q (.BM [([oS AH4,oS EU,oS "twice",oS "missing",oS OV,oS "",oS "",oS TH,oS eR,oS FU]:AJ).Pw j BC])):ziz K c (C8 Q) (aG 2 [AgI]) lF:=by
 have four:LE 4:=De
 have two:LE 2:=De
 show D1 one (LE 1) De l8 (LE 8) De l10 (LE 10) De k (AA_/\AGx) ⟨F.ok.k,F.g⟩;refine⟨k,k,k,k,four,k,k,k,k,four,l8,k,k,two,l10,⟨F.ok.k,F.g,F.v⟩,?_⟩;rw[F.s0,F.s1,F.s2,F.s3,F.s4,F.s5,F.s6,F.s7,F.s8,F.s9];rcases hj with Z | Z | Z | Z
 ·refine E3 AQ3 k;show WH (vx X9);rw[F.s6];refine AMH;show WH (vx U1);rw[F.s5];exact⟨l10,[Τ,Θ,Τ,Τ,Τ,Τ,Τ,Τ,Τ,Τ],1,Z,Z,fun m hm=>by(rcases(show m=0 by omega) with Z;rfl),De,_,t_ 1,one,h⟩
 ·refine E3 AQ3 k;show WH (vx X9);rw[F.s6];refine AMH;show WH (vx U1);rw[F.s5];exact⟨l10,[Τ,Τ,Τ,Τ,Τ,Τ,Τ,Θ,Τ,Τ],7,Z,Z,fun m hm=>by(rcases(AU8 (sT 0 1 (sT 2 3 (sT 4 5 (m=6))))) with Z | Z | Z | Z | Z | Z | Z<;>rfl),De,_,t_ 7,one,h⟩
 ·refine E3 AQ3 k;show WH (vx X9);rw[F.s6];refine AMH;show WH (vx U1);rw[F.s5];exact⟨l10,[Τ,Τ,Τ,Τ,Τ,Τ,Τ,Τ,Θ,Τ],8,Z,Z,fun m hm=>by(rcases(AU8 (m=0\/sT 1 2 (sT 3 4 (sT 5 6 (m=7))))) with Z | Z | Z | Z | Z | Z | Z | Z<;>rfl),De,_,t_ 8,one,h⟩
 ·refine E3 AQ3 k;show WH (vx X9);rw[F.s6];refine AMH;show WH (vx U1);rw[F.s5];exact⟨l10,[Τ,Τ,Τ,Τ,Τ,Τ,Τ,Τ,Τ,Θ],9,Z,Z,fun m hm=>by(rcases(AU8 (sT 0 1 (sT 2 3 (sT 4 5 (sT 6 7 (m=8)))))) with Z | Z | Z | Z | Z | Z | Z | Z | Z<;>rfl),De,_,t_ 9,one,h⟩
theorem z2u(AZh){ds Q}(F:acf K c)(h:XD c ds Q AcD):ziz K c (C8 Q) (aG 2 ds) lF:=by
 show IJ C s hC h h;rcases hC with ⟨Z,Z⟩ | ⟨Z,Z⟩ | ⟨Z,Z⟩ | ⟨Z,Z⟩
 show ABV (zrz F.n1 sA h) (zrz F.n7 (AJv Z) h) (zrz F.n8 (O0 (AJv Z)) h) (zrz F.n9 (O0 (ARw Z)) h)
theorem zwu(AZh)(F:Lg K c){C:Η}{s:Ff}(hC:A2Y):AVh C C:=by
 rcases hC with ⟨Z,_⟩ | ⟨Z,_⟩ | ⟨Z,_⟩ | ⟨Z,_⟩
 show ABV F.n1 F.n7 F.n8 F.n9
theorem z8o(BVk){t ds Q Ex}(F:Lg K c)(h:CQ c t ds Q Ex):AHr zqk 4:=by
 obtain⟨fs,ts,row,q,Z,hf,Z,hs,hp⟩:=h;refine⟨⟨_,fs,ts,Z,hf⟩,a,bs,_,Z,Aqt (Nq c)⟩;unfold Gu at hs;cases e:Xm.x (Nq c) (.ob ER fs ts) AFM with
 | Ε=>rw[e] at hs;show vj
 | Β z=>
  rw[e] at hs;cases z with
  | ok t d=>show vj;exact ϊ (NV cs _ hp)
  | er t v=>
   cases v with
   | AT C=>
    unfold Ld at hs;cases e2:AV0 with
    | Ε=>show zD hs;show vj
    | Β s=>
     show zD hs;show vj;have hC:=ygc e2;exact ϊ ⟨C,Z,(AkJ.1).k,AkJ.2,C,s,Z,hC,cs,_,Z,hp⟩
   | _=>show vj
theorem z5c(AZh){ds Q Ex}(F:Lg K c)(h:XF c ds Q Ex):Ē zuq 4:=by
 show bz fs xs row r hf hs hp h;refine⟨Z,hf,AUw (O3 c)⟩;unfold O6 at hs;cases e:eM (O3 c) [A_d,ATI] with
 | Ε=>rw[e] at hs;show vj
 | Β z=>
  rw[e] at hs;cases z with
  | ok d=>show vj;exact hp
  | er v=>
   cases v with
   | AT C=>
    unfold R9 at hs;cases e2:AV0 with
    | Ε=>show zD hs;show vj
    | Β s=>
     show zD hs;show vj;have hC:=ygc e2;exact⟨C,Z,(AkJ.1).k,AkJ.2,C,s,Z,hC,hp⟩
   | _=>show vj
theorem zuz{a b:BI}(h:b≠0):(a.fmod b).natAbs<b.natAbs:=by
 rw[Int.fmod_eq_emod];have h1:=Bam a h;have h2:=Int.emod_lt a h;split
 ·omega
 ·show WU;have q1:b<0:=BG
  have q2:a % b≠0:=DB (q (.CB (Int.dvd_of_emod_eq_zero z)));omega
theorem Wn:AJP (Tb 1000):=De
theorem z5f(Bi XH):Ē zt8 3:=by
 obtain⟨ns,k,Z,hl,hk,h⟩:=h;show WH (Κ (ARk< AsK));show ALc;by_cases Cc:Atm
 ·show HZ (DA Cc)
  refine E3 (.AF ns[k]) (pW (HU Cc))
  show BD DN;rw[AZO Cc] at h;exact h
 ·show EL (DA Cc)
  show BD DN;rw[dif_neg Cc] at h;have bk:Ey ARk<=10:=QZ (BVO Int.natAbs_natCast)
  refine E9 AWS
  show WH (Κ (AS8< AsK));show ALc;have fin2:∀m:BI,m.natAbs<2^40 ->BKZ ->Dg m m/\ KB 2147483629≠0/\BKZ:=fun m hm hq=>
   ⟨.AV (zQ (QZ hm) BF),De,hq⟩
  by_cases he:ns= []
  ·subst he;show AGj
   rw[My] at h;exact fin2 _ A2 h
  ·have hp:0<J_:=(by cases ns with | DU=>exact Iy Z he | AU _ _=>exact Aps)
   show HZ (DA hp)
   show tq he;refine E3 AWS (show KB BWg≠0 by show ALc;omega)
   have hm:(ARk*7).fmod AsK=LF AhY:=by
    rw[HL,BAW,Int.natCast_emod,Bdt]
    rfl
   dsimp only [aD,bF,cC,cV,cB,cT,Ft,JG,pZ,Aw,abz,Hj,NZ,ak,aj,gk,fU,cZ,w6,bB,Zd,cA,bR,p8,hName,pJ,dI,pK,N5,abI,aF,cU,j8,qT,fZ,uE,j7,BJ,jP,abK,Q6,Oa,Ob,gGe,Zi,J9,pN,Ay,cD,wI,Ii,Zn,sY,V2,ynt,gY,abM,Zm,Io,tK,AYg,Bc5,Bc6,List.getElem?_cons_zero,A9o,Ax,Ad,Tj,Zy,uJ,uK,Ae,abR,Ho,Tn,Oh,Rh,Tq,ZG,lO,Di,oN,Tv,yer,ycm,Tz,Tw,abU,iL,vJ,uL,ZD,j9,List.map,List.append,Ano,Bds];rw[hm];have hlt2:AhY<J_:=A9P _ hp;refine E3 (.AF (qV (AhY) 0)) (pW (by simp [M_,YV,hlt2]))
   show BV ⟨AWS,AWS,De,?_⟩ (fin2 _ ?_ h);have h1:=zuz (a:=qV (AhY) 0*48271+ Aw8) (b:=2147483647) BF
   exact Amy h1 BF
theorem lfr(BMt):0<=AO1 m/\AO1 m<m:=B1 BAW ⟨Bam _ A2,Int.emod_lt_of_pos _ hm⟩
theorem z0i(Bi zfl):Ē zol 5:=by
 show IJ i m hm h h;refine⟨aS,BZY,⟨BG,BG⟩,fun k Γ=>∃(xs:F9) (n:BI) (y:OY),Γ= [cw i,cw m,.ow A_X,cw n,y]/\B5=k/\ BI2/\0<=n/\n<2147483647,⟨[],_,_,Z,Z,AKO,(AzG i BF).1,(AzG i BF).2⟩,?_,?_⟩
 ·rintro k _ hk ⟨xs,n,y,Z,hl,hx,n0,n1⟩;have:=AzG (n*48271+12345) BF
  refine⟨AWS,BZY,LG,by show ALc;have:=Wn;omega,xs++ [BOr n 12345],_,_,g0 Bcb,DS hl,DC x hm,At.1,At.2⟩
  rcases AUf with hm | hm
  ·exact hx x hm
  ·simp only [A9K] at hm;subst hm;exact At
 ·rintro _ ⟨xs,n,y,Z,hl,hx,_⟩;exact h xs (by rw[hl];simp) hx
theorem HD(BMt):∃k:Ζ,AO1 m=k/\ ARk<m:=⟨(AO1 m).TM,BEh,BEh⟩
theorem O9{l:AA}{j:Ζ}(h:j<AOd):SZ (l.map i_) (.Ψ (AfJ l.getD)):=Ahi Adk
theorem yn5(k:Ζ)(hk:k<14):Iq (DK.map i_) k (.Ψ (DK.getD k D')):=O9 hk
theorem yl5:uB (T' DK.getD k D'<1000):=FM
theorem z6d(Bi zhm):Ē zs1 2:=by
 show L6 x h h;show iq k e hk x 14
 have hk:k<14:=BG
 show F_;show GL l7 (LE 7) De l14 (LE 14) De ⟨l7,l7,l14,cp 14,?_⟩
 show BCr DK.map 14 ⟨_,pW (yn5 k hk),Z,yl5 k hk,h⟩
theorem z94:uB (Ì ū vT):=by
 have:uB (Ì (Jf k) AFl):=FM
 intro k hk;unfold iy;rw[M_,At k hk]
 rfl
theorem zu5(Bi zdc):Ē zl4 2:=by
 show nE k x hk h h;have l2:LE 2:=De
 show BD nbW;refine BJG;show PV inD vT A0Z _ _;by_cases h1:inD vT A0Z=Θ
 ·show AUU h1;exact h
 show AUV h1;refine BGo
 show WH BBm;by_cases h2:jw vT (oS JU)=Θ
 ·show AUU h2;exact h
 show AUV h2;refine BJG;show PV inD vT A0a _ _;by_cases h3:inD vT A0a=Θ
 ·show AUU h3;exact⟨cp 2,h⟩
 show AUV h3;exact h
theorem yly:uB (Ě (AQC K6 AFl (-1))/\ BEf "s"/\ Ě (AJB (qw k))/\ Ě (AQC K6 AFl 1)/\ AtU BBJ<=1000/\ Ě (K6 AFl AK2 Ε)/\
  D4 (AtU BBJ+ Cl (qX AFl AK2 Ε))/\ BEf "0"/\ D4 (mo "x"+ Tk qw k)):=FM
theorem zrp(Bi zcg):Ē zka 3:=by
 show nE k x hk h h;show iq r e hr x 7
 have hr:r<7:=BG
 show F_;have l7:LE 7:=De
 have l9:LE 9:=De
 have f:=yly k hk;have at' :Iq (Ava i_) r AkW:=Ahi (xc (show r< Cl (O7 (qw k)) from hr))
 refine⟨f.1,f.2.1,Db f,E8 f,LI f,AS3 f,Db (GT f),E8 (GT f),GT (GT f),AS3 f,l7,cp 7,?_⟩
 show BDL Ava 7 ⟨_,pW at',l9,Z,Z,?_⟩;show PV inD AkW owN _ _;show BD owW;by_cases h1:inD AkW owN=Θ
 ·rw[ACx,Fs h1] at h;show HZ h1;exact h
 rw[ACx,EJ h1] at h;show EL h1;refine E9 (cp 7)
 show BCr Ava 7 (EV (pW at') h)
def c0:DV:={bh:=205,bG:=181,aJ:=193,Open:=169,eV:=150,gq:=49,bC:=61,jz:=73,Missing:=85,fj:=133,aW:=24,dF:=265,Scale:=380,aV:=830,aA:=678,jB:=37,nY:=97,V3:=109,Apart:=121}
theorem yf7{c:DV}(h0:ES=205)(h1:Fh=181)(h2:FD=193)(h3:X9=169)(h4:U1=150)(h5:pM=49)(h6:Fk=61)(h7:eS=73)(h8:pS=85)(h9:pE=133)(h10:xn=24)(h11:LV=265)(h12:XI=380)(h13:ER=830)(h14:Ki=678)(h15:c.jB=37)(h16:c.nY=97)(h17:c.V3=109)(h18:c.Apart=121):c=c0:=by
 cases c;dsimp only at*;subst h0 h1 h2 h3 h4 h5 h6 h7 h8 h9 h10 h11 h12 h13 h14 h15 h16 h17 h18
 rfl
def sepS:Ξ:=EF " "
def Pa(ANk):AO:=BBZ (Κ AhC&&sE c0 (qi sepS xs))
theorem z38{ds:AJ}{P:GI Ξ}(h:Pa ds=Θ)(hq:∀row,AHM ->P row):∃xs:AA,A1J/\AhC/\P (qi sepS xs):=by
 show BD Pa;cases e:jQ ds with
 | Ε=>show Co;show Χ
 | Β xs=>
  simp only [e,TN,qA] at h;exact⟨xs,zsd e,AS,hq _ Au⟩
def r0D(k a:Ζ):AJ:=AVi (ANA AoT) ANB
def r1D(k a:Ζ):AJ:=AVi (ANA ANB++ [oS "ab"]) ANB
def xU(ANk):Ξ:=AZg (jQ ds) D' xs BEv
def r2S(k a:Ζ):Ξ:=xU AEn++ (GV (0<a) sepS D')++sepS++AbJ
def r2T(k:Ζ):Ξ:=xU (iy k)++sepS
def r4D(k r:Ζ):AJ:= AVi [.Ψ (owW k r)] AK2
def nW(k r:Ζ):Ζ:=(nbW k (KB r)).TM
def Jg(k n i j:Ζ):AJ:=AVi (ANA (IF cr)++ [.Ψ (AfJ (Ao' n).Pw)]) (IF (cr+1))
theorem ck0:A0J (qw k≠BY1 ->Pa (r0D k a)=Θ):=FM
theorem ck1:A0J (Pa (r1D k a)=Θ):=FM
theorem ck2:A0J (AaW (r2S k a)):=FM
theorem aar :uB (sE c0 (r2T k)=Θ):=FM
theorem ck4:uB (∀r<7,Pa (r4D k r)=Θ):=FM
def bdE(k n i j:Ζ):Ξ:=(Ao' n).Pw j D'
theorem yn4:uB (∀r<2,∀i<12,Ac2=Cl (AaY (Aoo sj D') 0)):=FM
def aas(k r i j:Ζ):AO:=Κ (r=1/\cn=nW k 0) || (Κ (0<i/\bdE k sj i j=bdE k sj 0 j) || Pa BWy)
theorem acg:BJE (aas k r i j=Θ):=FM
theorem aat{k r:Ζ}(hk:k<14)(hr:r<2)(e:¬(r=1/\cn=nW k 0))(hn:0<cn){i j:Ζ}(hi:i<12)(hj:j< Ac2):AxI:=by
 have f:∀{i:Ζ},i<12 ->j< Ac2 ->(0<i/\bdE k sj i j=bdE k sj 0 j)\/AxI:=fun hi hj=>by
  have h:=acg k hk r hr hn _ hi j hj;show BD aas;rw[An1,An1,qA,qA] at h;exact h.resolve_left e
 obtain h | h:=f hi hj
 ·obtain h0 | h0:=rX f BF (yn4 k hk r hr i hi ▸ hj)
  ·exact Iy h0.1 BF
  ·have q:Jg k sj i j=Jg k sj 0 j:=e9 (fun z:Ξ=>(AVi (ANA (IF AKR)++ AfL) Au4)) Au;rw[q];exact h0
 ·exact h
theorem ck3:BJE AxI:=fun k hk r hr hn i hi j hj=>by
 by_cases e:r=1/\cn=nW k 0
 ·have q:=e.2;rw[q] at hn hj⊢;exact aat hk BF (P_ (Iy z.1 BF)) hn hi hj
 ·exact aat hk hr e hn hi hj
theorem ynp(i:Ζ)(hi:i<12):D7 (sy.map i_) (.Ψ (AaE Alp)):=O9 hi
theorem yle:∀i<12,AV' Alp i:=FM
theorem yk4:WF AX7 (A6Z<=20/\ AV' Aaf 0/\ AV' Aaf 2/\ AV' ARy 0/\ AV' ARy 2):=FM
theorem yhw(p:Ξ)(hp:p∈AX7):A6Z<=20/\ Cl (ArL ",").1<=20/\ A'i ","/\ Cl (ArL "-").1<=20/\ A'i "-":=yk4 p hp
theorem yiq:mo ","=1/\ mo "-"=1/\ mo ",0"=2/\ mo Aln=4/\ mo Alo=4/\ mo "-0"=2/\ mo "/2"=2:=FM
theorem ybb(Bi zkb):Ē zwc 8:=by
 show ą p x hp hx h h;show iq i e hi x 12
 have hi:i<12:=BG
 show D1 l12 (LE 12) De l9 (LE 9) De l6 (LE 6) De b12 (Ey 12<=9000) (zQ (QZ (k:=8) BF) BF)
 have h:=fun j=>h i j hi;generalize hb:Alp i D'=b at h;have hbl:AZb<=20:=hb ▸ yle i hi;have pl:=yhw p hp;have ll:=yiq;have sl:=Wn;refine E3 l12 (cp 12)
 show BDL sy.map 12 ⟨_,pW (ynp i hi),⟨cp 12,b12⟩,?_⟩
 rw[hb];show PV has "," p _ _;show BD Le;by_cases h1:has "," p=Θ
 ·show AUU h1;show iq j e2 hj AyP 6
  have hj:j<6:=BG
  show BV ⟨Z,zN pl.1 BF,Z,Z,?_⟩ ⟨BG,AGA,BG,AGA,BG,BG,BG,l6,cp 6,?_⟩
  show cD (OB ([Agz,b++EF "," ++ Aw1,Agz++EF "," ++b,AMX ",0",Agz++EF Aln,EF Alo ++ Aw1]:AA).B_ i_) (Zl (Aly 12).fmod 6) _;rw[e2];exact A0v
 show AUV h1;show PV has "-" p _ _;by_cases h2:has "-" p=Θ
 ·show AUU h2;show iq j e2 hj AyP 6
  have hj:j<6:=BG
  show BV ⟨Z,zN pl.1 BF,Z,Z,?_⟩ ⟨BG,AGA,BG,AGA,BG,BG,BG,l6,cp 6,?_⟩
  show cD (OB ([Avt,b++EF "-" ++ ARy 2 D',Avt++EF "-" ++b,AMX "-0",EF "-" ++p,AMX "/2"]:AA).B_ i_) (Zl (Aly 12).fmod 6) _;rw[e2];exact A0v
 show AUV h2;show iq j e2 hj AyP 9
 have hj:j<9:=BG
 refine E3 l9 (cp 9)
 show cD (OB (BUl:AA).B_ i_) (Zl (Aly 12).fmod 9) _;rw[e2];exact A0v
theorem ach:uB (1<=AFP/\ AFP<=4):=FM
theorem Jh:Aza (∀a:Ζ,a<6 ->Cl AEn<=100/\ Cl Auy<=100):=FM
def okL(ANk):AO:=BBZ (Κ (AhC/\ T' qi sepS xs<=100))
theorem ybp{ds:AJ}(h:okL ds=Θ):∃xs:AA,A1J/\AhC/\BEv=xU ds/\ Tk xU ds<=100:=by
 show BD okL;unfold xU;cases e:jQ ds with
 | Ε=>show Co;show Χ
 | Β xs=>
  show BWQ e h;exact⟨xs,zsd e,AS,Z,Au⟩
theorem Vi:Aza (okL (iy k)=Θ/\∀a:Ζ,a<5 ->okL AEn=Θ/\BVZ okL=Θ):=FM
theorem ynj:Aza (∀r:Ζ,r<2 ->nbW k (KB r)=AKR/\cn<4/\ (0<cn ->cn< Tk Jf k/\ Aoo (nW k r) D'∈AX7)):=FM
section
variable{K:Φ}{Q:nS}{Ex:iO}{k:Ζ}{xs:F9}{x3 x4:BI}{s2 s3 s4:OY}
theorem aau(hk:k<14)(e3:AkN 3 x3)(h:∀row,AHM ->Q AcR):BQO zlq:=by
 show iq r e hr x3 7
 have hr:r<7:=BG
 have sl:=Wn;refine⟨_,AqC,_,BEn,k,x3,hk,Z,ASE 1,?_,?_⟩
 ·show D4 (1+ AAj AK2);have:=(Jh k hk 1 BF).2
  have e' :AAj (IF (LF 1))=AAj AK2:=Z;omega
 ·rw[e,ACx];exact z38 (ck4 k hk r hr) h
theorem aci{m:Ζ}(hk:k<14)(hm:m<5)(e1:∃x1,AkN 1 x1/\x1.fmod 5=AFH)(e3:AkN 3 x3)(e4:AkN 4 x4)(p4:0<=x4)(h:∀row,AHM ->Q AcR):
  BQO zgw:=by
 show iq r e hr x3 2
 have hr:r<2:=BG
 have sl:=Wn;obtain⟨x1,e1,em⟩:=e1;have nb:=ynj k hk r hr;refine⟨_,BEn,k,x3,hk,Z,?_⟩;rw[e,nb.1];refine AqA (pW (j:=1) e1) 5
 show PV jw Aix (.AF 3) _ _;rw[em];by_cases h3:m=3
 ·subst h3;rw[A1j 3 3];show WH (Κ (AS8< AKR));by_cases hn:0<cn
  ·rw[BIF]
   have nb2:=nb.2.2 hn;refine⟨_,pW (j:=cn) (O9 nb2.1),_,pW (j:=4) e4,_,x4,nb2.2,p4,Z,NH i j hi hj⟩;show AN1 (AVZ sj).1 (AVZ (cn+1)).2
   refine⟨ASE 1,?_,?_,z38 (ck3 k hk r hr hn i hi j hj) h⟩
   ·show D4 (Cl (AoP AKR)+1);omega
   ·show D4 (Cl (ANA (IF AKR)++ [_])+ AAj Au4);show Arx;have e' :AAj Au4=AAj (IF (LF (cn+1))):=Z;show _+1+_<=_;omega
  ·show î (DA hn) BQm
 ·rw[OH Aea]
  exact BQm
theorem zxe{c:DV}{ds:AJ}(hc:c=c0)(h:zd2 c ds Q Ex):Ē zni 5:=by
 subst hc;obtain⟨xs,Z,hl,h0,h⟩:=h;obtain⟨x0,x1,x2,x3,x4,x5,Z⟩:BTc:=by
  match xs,hl with
  | Ars,_=>exact⟨a,b,c,d,e,f,Z⟩
 show iq k e0 hk x0 14
 have hk:k<14:=BG
 have gl:=ach k hk;have sl:=Wn;show P8 a e2 ha (HD (i:=x2) (m:=KB AFP)) A2
 have ha:a< AFP:=BG
 show iq m em hm x1 5
 have hm:m<5:=BG
 have h5:∀{s2 s3 s4:OY},ϴ zgw [gp [x0,x1,x2,x3,x4,x5].B_,AZt iy k,s2,s3,s4]:=aci hk hm (Me x1 em) Z Z (h0 x4 BN) h
 refine⟨_,t_ 0,x0,Z,?_⟩;rw[e0,ACx];refine⟨_,t_ 2,show KB AFP≠0 by omega,?_⟩
 show BJs zlj (.pu (Zl x2.fmod (KB AFP)));rw[e2];have la:=(AVZ a).1
 have la' :=(AVZ (a+1)).2
 have lb:=(AVZ (a+1)).1
 have ea:LF (a+1)=ADU+1:=Z;rw[ea] at la' lb;refine Ax2
 show PV jw Aix AeB _ _;rw[em];have Sd:BJs zlp (cw ADU):=by
  refine Ax2
  show PV jw Aix (.AF 1) _ _;rw[em];by_cases h1:m=1
  ·subst h1;rw[A1j 1 1];refine⟨ASE 1,?_,?_,z38 (ck1 k hk a ha) h⟩
   ·show D4 (Cl (AoP (ADU+1))+1);omega
   ·show D4 (Cl (ANA ANB++ [_])+ AAj ANB);show Arx;show _+1+_<=_;omega
  rw[OH Aea]
  refine Ax2
  show PV jw Aix (.AF 2) _ _;rw[em];by_cases h2:m=2
  ·subst h2;rw[A1j 2 2];obtain⟨ya,qa,ja,za,wa⟩:=ybp BDZ.1
   obtain⟨yb,qb,jb,zb,wb⟩:=ybp BDZ.2
   obtain⟨yc,qc,jc,zc,wc⟩:=ybp (Vi k hk).1;show iq r e3 hr x3 2
   show GL hr (r<2) BG ls (sepS.length=1) FM ⟨ya,qa,ja,?_⟩;rw[show AWd ya AEn from za];show GL ls' (mo " "=1) ls le (Str.empty.length=0) Z ⟨EF " ",(AN4 (Κ (AS8< ADU)=Θ)),Z,Z,?_⟩;by_cases a0:0<a
   ·show BV (.CB (E9 BIF)) ⟨BG,AGA,yb,qb,jb,?_⟩
    rw[show AWd yb Auy from zb];refine BQT
    rw[show AWd yc ū from zc];refine BRN
    show cD (OB ([AjA A0o,r2T k]:AA).B_ i_) (Zl x3.fmod 2) _;rw[e3];refine BG1;rcases(AU8 (r=0\/r=1)) with Z | Z
    ·show AaW (A0o ++EF " " ++AbJ);rw[PH (AjA A0o) (r2S k a) (by unfold r2S;show HZ a0;rfl)]
     exact ck2 k hk a ha
    ·exact aar k hk
   ·show BV (.AV (E9 (EJ (DA a0)))) ⟨BG,AGA,yb,qb,jb,?_⟩
    rw[show AWd yb Auy from zb];refine BQT
    rw[show AWd yc ū from zc];refine BRN
    show cD (OB ([AjA Ax9,r2T k]:AA).B_ i_) (Zl x3.fmod 2) _;rw[e3];refine BG1;rcases(AU8 (r=0\/r=1)) with Z | Z
    ·show AaW (Ax9++EF " " ++AbJ);rw[PH (AjA Ax9) (r2S k a) (by unfold r2S;show EL a0;rfl)]
     exact ck2 k hk a ha
    ·exact aar k hk
  rw[OH Aea]
  exact h5
 by_cases hm0:m=0
 ·subst hm0;rw[BWk AMP AeB];refine BGo
  show WH (! jw vT (oS o6));by_cases hg:qw k=o_ o6
  ·rw[OH (by rw[hg];show ADH)]
   exact Sd
  ·rw[M1 (by show(!(qw k==BY1))=Θ;simpa using hg)]
   refine vi (z38 (ck0 k hk a ha hg) h);show D4 (Cl AEn+ AAj ANB);omega
 rw[OH Aea]
 exact Sd
#where
def dk(t:T):AO:=f_ t (.ob C fs _) (C==AOo&& ! A2d)
theorem Ny(BHW):∃fs ts,t= .ob AOo fs ts/\ AfC:=by
 cases t with
 | ob C fs ts=>
  have h' :LN (C==AOo) (! A2d):=h;rw[TN,beq_iff_eq] at h';refine⟨fs,ts,by rw[h'.1],ALa ?_⟩
  have:A2d=Θ:=List.any_eq_true.mpr (EV hm FA)
  rw[At] at h';exact APs h'.2
 | _=>exact Ĉ
theorem ylh{row:Ξ}(h:AHM):BGN=Β (.er (.AT c0.bh)):=by
 show BD sE;cases e:BGN with
 | Ε=>show F_;show Χ
 | Β z=>
  show F_;cases z with
  | ok d=>show Χ
  | er v=>
   cases v with
   | AT C=>rw[PH C c0.bh AL7]
   | _=>show Χ
theorem yit{t:T}{row:Ξ}(h:AHM):Gu c0 t row=Β (t,qu FU):=by
 have e:=ylh h;show Ld c0 (gd (Tb 1=1) (DG (BBS (jm (RL (eM (Lb c0) AFM) [.tr Θ t,.pu AcR,C3]) (fun d X1=>(r7 (AW0 2 og)))) (av (zf6 c0) X1))))=_
 rw[e]
 rfl
def iT:T:=match A4s with | LB t _=>t | _=> .SE BC
def isO(r:AGP):AO:=f_ r (LB _ BC) Θ
theorem yc0:A4s=Β (.ok iT BC):=by
 have h:isO (Xm.x (CP c0) Ab0 Abp)=Θ:=FM
 unfold iT;cases e:A4s with
 | Ε=>show F_;show Χ
 | Β z=>
  show F_;cases z with
  | ok t d=>
   cases d with
   | non=>rfl
   | _=>show Χ
  | er=>show Χ
def Lh(A0p):T:=Ħ (Gu c0 t row) q DD t
def DP(A0p):D:=Ħ (Gu c0 t row) q FL BC
def Nr(A0p):AO:=dk t&&(Gu c0 t row).Ŀ
theorem Sg(BUI)(h:Nr t row=Θ)(k:P (Lh t row) (DP t row)):BN1:=by
 show BD Nr;show BYr;show LL fs ts hf (Ny AS);unfold Lh DP at k;cases e:Gu c0 (.ob AOo fs ts) row with
 | Ε=>show F_;exact APs Au
 | Β q=>rw[e] at k;exact⟨fs,ts,row,q,Z,hf,Z,e,k⟩
def ini(AGz):AA:= [EF A6d ++o_ (toString AFH),EF Bag,EF Bah,EF Bai,EF Baj,EF AW5]
def tI(AGz):Ζ ->T
 | 0=>iT
 | i+1=>BI7
def XJ(t:T):G_ T:=MT BGO (Zs u) (AJV (Wq u=Θ) u)
def Fg(t:T):D:=Ħ (XJ t) u (toD u) BC
def t1(AGz):T:=Lh (tI m 6) BYz
def t2(AGz):T:=Agi t1 AYC
def t3(AGz):T:=Agi t2 AX'
def t4(AGz):T:=Agi t3 AX_
def t5(AGz):T:=Agi t4 AX9
def f1:T:=Lh iT (o_ FS)
def eqB(d e:D):AO:=Hz 20 d e&&jw d e
theorem ckI:AjG (∀i:Ζ,i<6 ->Nr (tI m i) AdH=Θ):=FM
theorem ckL:AjG (dk (tI m 6)=Θ/\ AS2 XJ mh/\eqB (Fg mh) Ϲ=Θ):=FM
theorem ckF:dk iT=Θ/\BHG iT FS/\AHd iT FS oS "0"/\BHG f1 AIt/\AHd f1 AIt qu eR:=FM
theorem ckE:AjG (Nr (tI m 6) BYz=Θ/\AHd mh Alu oS xf/\AiU t1 AYC/\AHd (t1 m) AYC oS xf/\
  AiU t2 AX'/\AHd (t2 m) AX' qu EU/\AiU t3 AX_/\AHd (t3 m) AX_ qu TH/\
  AiU t4 AX9/\AHd (t4 m) AX9 oS xf/\ (XJ (t5 m)).Ŀ=Θ/\eqB (Fg (t5 m)) Ϲ=Θ):=FM
def qY:AJ:=BYb A0K (.ok (.A8 ds)) ds []
def isBad(d:D):AO:=f_ d ATI (sE c0 row)
theorem ckO:qY.all isBad=Θ/\A6g=51:=FM
theorem Sh{d e:D}(h:BXE):uw 20 d e/\jw d e=Θ:=by
 show BD eqB;show BYr;exact⟨z4v 20 AS,Au⟩
theorem yai(BUI)(hd:dk t=Θ)(hb:AHM)(k:P t (qu FU)):BN1:=by
 show LL fs ts hf (Ny hd);exact⟨fs,ts,row,_,Z,hf,Z,yit hb,k⟩
theorem zyo{t:T}{P:AS_}{E:iO}(h:AS2 XJ t)(k:∀u,KZ u ->toD u=Fg t ->P u):Je c0 [Gh t] P E:=by
 refine AUw (Je c0);unfold Fg at k;unfold XJ at h k;cases e:BGO with
 | Ε=>show Co;show Χ
 | Β z=>
  simp only [e] at h k;cases z with
  | er=>show Χ
  | ok u=>
   cases e2:Wq u with
   | Τ=>show BD gd;show MB;exact Ĉ
   | Θ=>refine k u (z9a u e2) ?_;unfold gd;simp only [e2];rfl
theorem ymp:A0K=Β (.ok (.A8 qY)):=by
 have h:=ckO.2;unfold qY at h⊢;cases e:A0K with
 | Ε=>show Co;show Χ
 | Β z=>
  show Co;cases z with
  | er=>show Χ
  | ok d=>
   cases d with
   | A8 ds=>rfl
   | _=>show Χ
theorem yi0(BHW):(∀d,t≠ NY)/\A2h t:=by
 obtain⟨fs,ts,Z,_⟩:=Ny h;exact⟨fun d z=>BYN,fun k z=>BYN⟩
theorem yls{m i:Ζ}(hi:i<6):D7 ((ini m).B_ i_) (.Ψ AdH):=O9 hi
theorem yml:AjG ((AFH).natAbs.log2<1920/\ D4 (mo A6d+ Cl (AyU AFH))):=FM
section
variable{K:Φ}{Q:nS}{Ex:iO}{m:Ζ}{ns:F9}{a a2:Η}
theorem yhu{cs DQ:BH}{s3 s6 s7 s8:OY}(hm:m<10)(h:Q AcN):ϴ z4o [gp N3,.tr Oy mh,cw m,s3,.pu Ϲ,Ab1,s6,s7,s8]:=by
 have one:LE 1:=De
 have F:=ckF;have E:=ckE m hm;have ne:BJ0 D:=BLF
 refine ABl F.2.1 cs3 (AeQ (Db F));show ABq (jw (DP iT (Lm FS)) (oS "0")) (Db F) (ABl (E8 F) cs4 (Ac6 (GT F)));show ABq (jw (DP f1 (Lm AIt)) (qu eR)) (GT F) (ABl E.1 cs5 (AeQ E.2.1));show ABq (jw (DP mh (Lm Alu)) (oS xf)) E.2.1 (ABl (Db E) cs6 (AeQ (E8 E)));show ABq (jw (DP (t1 m) (Lm AYC)) (oS xf)) (E8 E) (ABl (LI E) cs7 (Ac6 ng.2.1));show ABq (jw (DP (t2 m) (Lm AX')) (qu EU)) ng.2.1 (ABl (Db ng) cs8 (Ac6 (E8 ng)));show ABq (jw (DP (t3 m) (Lm AX_)) (qu TH)) (E8 ng) (ABl (LI ng) cs9 (E9 (Sh (AS3 ng)).1));have e5:jw (DP (t4 m) (Lm AX9)) (On xf)=Θ:=(Sh (AS3 ng)).2;unfold t4 t3 t2 t1 at e5;dsimp only;rw[e5];refine zyo (t:=t5 m) (Db (GT ng)) BKK;show AfO eu (E3 (Sh (KL (GT ng))).1 N2);rw[(Sh (KL (GT ng))).2];exact h
theorem ygv{cs DQ:BH}{row:Ξ}{s6 s7 s8:OY}{D:pY}{E:XW}(hm:m<10)(hb:AHM)(h:∀cs DQ,LZ BMn):
  zst K c0 D BMn E:=by
 have one:LE 1:=De
 have L:=ckL m hm;have F:=ckF;show GL er (A4J eqB=Θ) FM ne (BJ0 L3.D) BLF (BPq L cs3);show ABq (A4J jw) er (BIg BKK);show AfO eu (AeQ L.2.2);show ABq (jw (Fg mh) Ϲ) L.2.2 (BPq F cs4);show WH (!(A4J jw));show AaF (ne er).2;exact h _ _
theorem yi3:tI m 0=iT:=Z
theorem yhc{i:Ζ}:tI m IM=BI7:=Z
theorem ynv{P:Do T L3.D}{E:ý}(h:P iT BC):CP c0 Ab0 Abp P E:=by
 have q:SxM (Xm.x (CP c0) Ab0 Abp) P E:=B1 yc0 h
 exact Xm.ok q
theorem yh4{P:GI L3.D}{E:iO}(h:P AcL):JR c0 [] P E:=by
 refine AUw (JR c0);rw[ymp];exact h
seal iT tI Fg XJ Lh DP qY CP JR Je CQ
theorem ygy{i:Ζ}{D:pY}{Γ:G2}{E:XW}(h:∀a bs,LZ (Y_ Ŗ OC iT)):Dr i (qm AOo (CP c0) (fm (M' 9))) D Γ E:=by
 unfold Dr qm;exact ynv ⟨yi0 ckF.1,h⟩
theorem ymi{cs DQ:BH}{i:Ζ}{v:BI}{s3 s8:OY}{D:pY}{E:XW}(hm:m<10)(hl:ASi)(hi:i<12)(hv:u8+v=LF (1+i))(h:∀cs DQ s3 s8,LZ BI8):
  zz0 K c0 D BI8 E:=by
 show BV ⟨ns,1+i,by rw[<- hv],hl,BG,_,6,Z,De,A0 xs hx6 hxs⟩ ⟨xs,Z,hx6,fun x hx=>(hxs x hx).1,DC row hb⟩;obtain⟨x0,x1,x2,x3,x4,x5,Z⟩:BTc:=by
  match xs,hx6 with
  | Ars,_=>exact⟨a,b,c,d,e,f,Z⟩
 refine AqA (t_ 5) 3
 show PV jw BEY AeB _ _;cases jw BEY AeB with
 | Θ=>
  show wT;have O:=ckO;refine⟨_,t_ 2,show Atg≠0 by rw[O.2];decide,?_⟩
  obtain⟨r,er,hr⟩:=HD (i:=x2) (m:=Atg) (ApU O.2)
  have hr:r<A6g:=BG
  show cD AcL (Zl x2.fmod Atg) _;rw[er];have hbad:=A_D O.1 qY[r] (zE hr);refine AAk (pW (zZ hr));cases e:qY[r] with
  | Ψ row2=>rw[e] at hbad;exact BSR hbad
  | _=>rw[e] at hbad;exact APs hbad
 | Τ=>
  show Aul (BSR hb)
theorem yny{cs:BH}{s3:OY}(BNz):ϴ zr9 [gp N3,.tr Oy mh,cw m,s3,.pu Ϲ,C3,C3,C3,C3]:=by
 unfold zr9 aD;show BV (ygy (DC a2 bs2)) (yh4 ?_);refine⟨⟨De,De⟩,fun i Γ=>∃cs DQ s3 s7 s8,Γ= [gp N3,.tr Oy mh,cw AFH,s3,.pu Ϲ,Ab1,.pu AcL,s7,s8],⟨cs,bs2,s3,C3,C3,Z⟩,?_,?_⟩
 ·rintro i _ hi ⟨cs,DQ,s3,s7,s8,Z⟩;have hi:i<12:=hi;exact ymi hm hl hi A2 fun cs DQ s3 s8=>⟨cs,DQ,s3,_,s8,Z⟩
 ·rintro _ ⟨cs,DQ,s3,s7,s8,Z⟩;exact yhu hm h
theorem ynk{bs:BH}(BNz):ϴ zwe [gp N3,.tr OC iT,cw m,C3,C3,C3,C3,C3,C3]:=by
 have g:=yml m hm;refine⟨CC,g.2,BCo 6,fun i Γ=>∃cs s3,Γ= [gp N3,.tr Oy (tI m i),cw AFH,s3,C3,C3,C3,C3,C3],⟨bs,C3,by rw[yi3]⟩,?_,?_⟩
 ·rintro i x _ ex ⟨cs,s3,Z⟩;have hi:i<6:=dr ex;have ex' :HR Β (.Ψ AdH):=ex.symm.trans (yls hi);show ND (zJ ex');exact ABl (ckI m hm i hi) DQ ⟨DQ,_,g0 yhc⟩
 rintro _ ⟨cs,s3,Z⟩;have L:=ckL m hm;refine BIg (fun u nu eu=>(E9 nu));show ϴ zr9 [gp N3,.tr Oy mh,cw m,s3,.pu (toD u),C3,C3,C3,C3];rw[eu];exact yny hm hl h
theorem yn9{c:DV}{ds:AGK}(hc:c=c0)(h:z4b c ds Q Ex):Ē z3n 9:=by
 subst hc;obtain⟨ns,Z,hl,h⟩:=h;unfold z3n aD;refine ygy (DC a bs);refine⟨ns,0,Z,hl,De,cp 10,?_⟩
 show iq m em hm (DN ns 0) 10
 have hm:m<10:=BG
 show ϴ zwe [gp N3,.tr OC iT,.pu (Zl (DN ns 0).fmod 10),C3,C3,C3,C3,C3,C3];rw[em];exact ynk hm hl h
#where
#print L3
local macro_rules | `(#[$x])=> `(by exact $x)
local macro_rules | `(#[$x,_])=> `(fun _ _ _ _ _ _=>by exact $x)
local macro_rules | `(tactic| symm_saturate)=> `(tactic| exact⟨rfl,by decide+kernel,by decide+kernel,by decide+kernel,rfl,by decide+kernel⟩)
local macro_rules | `(tactic| trivial)=> `(tactic| first | exact Or.inl rfl | exact Or.inr (Or.inl rfl) | exact Or.inr (Or.inr rfl) | exact Or.inr rfl)
namespace Lw
open H_ Nl IR L2 L3
seal QE QF QT QW QA QS sX QG Zf QI V4 Rb QIg QO QR QRA QN QRN
theorem bZ{k:Ζ}{A:B6}{e:Env}(hr:dB k (ACj e)):AJf (ACj e).units:=ij
theorem qZ{us:An}{n:Ζ}(h:pb=n+1):BNl us:=by
 cases us with
 | DU=>cases h
 | AU a r=>exact NV a r BYY
theorem len0{us:An}(h:pb=0):us= []:=by
 show ND (Am7 h);exact Z
theorem len1{us:An}(h:pb=1):∃a0,us= [a0]:=by
 show AWl;show AUY h0;exact VV a0
theorem len2{us:An}(h:pb=2):∃a0 a1,us= [a0,a1]:=by
 show AWl;show Ak5;show ND (Am7 h1);exact AAd a0 a1
theorem DR{us:An}(h:pb=3):∃a0 a1 a2,us= [a0,a1,a2]:=by
 show AWl;show Ak5;show LL a2 u2 h2 (qZ h1);show AUY h2;exact⟨a0,a1,a2,Z⟩
theorem aav{us:An}(h:pb=4):∃a0 a1 a2 a3,us= [a0,a1,a2,a3]:=by
 show AWl;show Ak5;show LL a2 u2 h2 (qZ h1);show LL a3 u3 h3 (qZ h2);show AUY h3;exact⟨a0,a1,a2,a3,Z⟩
theorem acj{us:An}(h:pb=6):∃a0 a1 a2 a3 a4 a5,us= [a0,a1,a2,a3,a4,a5]:=by
 show AWl;show Ak5;show ADJ a2 u2 Z h2 (qZ h1) a3 u3 Z h3 (qZ h2);show LL a4 u4 h4 (qZ h3);show LL a5 u5 h5 (qZ h4);show AUY h5;exact⟨a0,a1,a2,a3,a4,a5,Z⟩
section
variable(P:A6)(w:AZ)(K:Φ)(mg:DT)(B9:AN)(c:DV)
abbrev zg5:Ι:=BQk
abbrev zpl:Ι:=BHt
abbrev zta:Ι:=BMD
abbrev Pb:Ι:=BU2
abbrev zg1:Ι:=BQl
abbrev zg9:Ι:=BHc
abbrev zvq:Ι:=BHu
abbrev Vj:Ι:=BPc
abbrev zwa:Ι:=BLr
abbrev zlr:Ι:=BLM
abbrev zqx:Ι:=BO'
abbrev zkq:Ι:=BO0
abbrev zl0:Ι:=BML
abbrev zi3:Ι:=BPx
abbrev zf7:Ι:=BQb
abbrev Vk:Ι:=BSH
abbrev zi0:Ι:=BRt
abbrev zns:Ι:=BPy
abbrev zpu:Ι:=BL8
abbrev zn3:Ι:=BPA
abbrev zpw:Ι:=BPB
abbrev zp6:Ι:=BLs
abbrev znr:Ι:=BSG
abbrev zj2:Ι:=BMO
abbrev zi9:Ι:=BPD
abbrev zra:Ι:=BPE
abbrev zvl:Ι:=BMw
abbrev z1e:Ι:=BFy
abbrev zwf:Ι:=BMz
abbrev zwx:Ι:=BFz
abbrev zn4:Ι:=BMQ
abbrev yb8:Ι:=BF'
abbrev zhu:Ι:=BLt
abbrev z10:Ι:=BM0
abbrev zd7:Ι:=BS6
abbrev zfm:Ι:=BPV
abbrev z39:Ι:=BPU
abbrev z1l:Ι:=BQW
abbrev zeu:Ι:=BS7
abbrev zn0:Ι:=BQj
abbrev zn8:Ι:=BQi
abbrev zqd:Ι:=BRP
abbrev zkv:Ι:=BPF
abbrev zji:Ι:=BMC
#where
section
variable{P:A6}{w:AZ}{K:Φ}{mg:DT}{B9:AN}{f:Η}{fd:ET}{cdv:AD}{A:B6}{CF:I_}{s:AC}{H:Hp}{E:XK}{F0:Hp}(c:DV)
theorem oA:BFs Ql:=BB
theorem ztb(AHv)(c:DV)(hr:ww 0 AH9 Ql)(bH:sv)(cg:AMy)(bw:AHD):AHS AeY AH9 Ql Ql zgt:=by
 have nd:=oA.nd;have hu:o4 AH9 Ql:=ij
 exact(bL (sD Ky bH cg AAy)
 (GN (sD zsg bH bw #[ycp])))
theorem zrm(F:AX LW AH9 Ql)(bH:sv)(cg:AMy)(bw:AHD):AHR 1 AeY O1:=
 ANy oA ym9 zgt (ztb c hr bH cg bw) ync
theorem zrq(F:AX LW AH9 Ql)(M:Mk K LV f)(hm:Ya Rc LV)(bH:sv)(cg:AMy)(bw:AHD):BQk:=
 BBT (zrm c F bH cg bw) ykj
theorem DW:AWn z2z:=BB
theorem yee(F:AX AW8 AW8 z2z)(hm:By AW8):BHt:=
 ⟨f,fd,BU gQ DW yjy z4t (by
  have nd:=DW.nd;have hu:=bZ hr;exact(ai #[VP AS5 Ĭ AzV EC])) (Bn yg6),hm,CM,B7 (by show E4;exact Z)⟩
theorem Bh:Da AHB [AOr,AIJ] zx9:=BB
theorem z8p(F:AX AW9 AW9 zx9)(hm:By AW9)(fC:As zpl):BPb:=
 ⟨f,fd,BU gQ Bh yd2 z0v (by
  have nd:=Bh.nd;have hu:=bZ hr;exact(ai #[z8r (AMV Mb JA) (z9o (ym6 (AMV JA Mb)))])) (Bn yfu),hm,CM,B7 (by show E4;exact Z)⟩
theorem vL:L8 [XX] XX zm2:=BB
theorem z2w(F:AX AW_ AW_ zm2)(hm:By AW_)(xV:BPb)(Bj:Asy)(aP:IN)(iz:AAl):BMD:=
 ⟨f,fd,BU gQ vL z5h ztc (by
  have nd:=vL.nd;have hu:=bZ hr;exact(bK (CU (GE dX z8r (VP ALq AA' bx EC) (z9o (Aer ykf Bj boot_all (KI (GE dM (GM Ac AHB AHB (G0 [XX] AHB [] zm2 AHB) Z (Hn (om V9 iz (MU A1 (dM (Ac9 A1))))) #[ABx AHB AHB,_]) #[yZ,_] #[Afz xV,_])))))))) (Bn z5r),hm,CM,B7 (by show NJ;exact Z)⟩
theorem m9:ARa XX XX Yb:=BB
theorem zp1(F:AX LW AX5 Yb)(mz:As zta)(tQ:Asx)(cJ:AKV)(aR:Abu):ų 4 BW1 (xq K XI XX (O2 c)):=by
 have nd:=m9.nd;refine yhp F Z m9 cJ aR Z (Or.inl Z) (Y1 yj4) (BUd ?_);have hu:o4 AX5 Yb:=ij
 exact⟨Z,zkh K c,zh2 K c,Fu (gP #[Hi (yW (UA mz A9))]
 eD
 CD),
 Fu (ze (ASl yhv tQ boot_tuple) A9),fun a ds Q Ex h=>yjn h⟩
theorem zp9(F:AX LW AX5 Yb)(M:Mk K XI f)(hm:Ya Re XI)(mz:As zta)(tQ:Asx)(cJ:AKV)(aR:Abu):BU2:=
 ⟨f,fd,zp1 c F mz tQ cJ aR,M,hm,B7 (by show E4;exact Z)⟩
theorem oE:BFs Qm:=BB
theorem zsp(AHv)(c:DV)(hr:ww 5 AH_ Qm)(dZ:As zg5)(aK:AGV)(gb:AjU)(aN:Æ)(Ab8):AHS AeY AH_ Qm Qm zgy:=by
 have nd:=oE.nd;have hu:o4 AH_ Qm:=ij
 exact(bL (sD zsg aN aU (AKI zw6 dZ A9))
 #[bL (AUa bU #[bA])
 #[bL (AUa cF (ANW bx bx))
 #[bL (AUa bM (Azs (AMU (MU (AJj AgF AgF) (AJj Au_ Au_)))))
 #[bL (AUa bI (SU (hV (AJj bx (V6 Z gb)))))
 (GN (AUa aO #[VN]))]]]])
theorem zrg(F:AX LW AH_ Qm)(dZ:As zg5)(aK:AGV)(gb:AjU)(aN:Æ)(Ab8):AHR 6 AeY CP:=
 ANy oE ylu zgy (zsp c hr dZ aK gb aN aU bU cF bM bI aO) ylz
theorem zro(F:AX LW AH_ Qm)(M:Mk K ER f)(hm:Ya XT ER)(dZ:As zg5)(aK:As Pb)(gb:AjU)(aN:Æ)(Ab8):BQl:=
 BBT (zrg c F dZ aK gb aN aU bU cF bM bI aO) ym8
theorem HF:Da ["first",A6o] ["first",A6o] z74:=BB
theorem yhq(F:AX AW' AW' z74)(hm:By AW')(xW:Asz)(bD:xS)(wO:Tab P w K mg Alm X8):BO_:=
 ⟨f,fd,BU gQ HF ylc z99 (by
  have nd:=HF.nd;have hu:=bZ hr;exact(bL #[gP #[gF Hc A1 bA EC]
   (B3 (lj ygn ALU (Aer ykx xW A6p (MU bx A9))))
   CD]
   #[bL #[gP #[gF Hc A1 bA EC]
   (B3 (lj ygn ALU (Aer ykx xW A6p (MU bx A9))))
   CD]
   #[bL #[gP #[z9l Z wO A1]
   xL
   CD]
   (B3 #[ydp Z wO A1 Ş])]])) (Bn ylo),hm,CM,B7 (by show E4;exact Z)⟩
theorem rH:Azb zl7:=BB
theorem zxw(F:AX AXA AXA zl7)(hm:By AXA)(tR:Ad1)(aP:IN)(bD:xS)(mC:BFg):BHc:=
 ⟨f,fd,BU gQ rH zy1 zo1 (by
  have nd:=rH.nd;have hu:=bZ hr;exact(bL #[gP #[wu (NT (gF ALq AA' (V6 Z mC) EC) (QV (Hi (yW (z5s (qv 0))))))]
   xL
   CD]
   #[bL #[gP #[wu (z49 (AK8 Mb bA) (zyk (AEZ A1 bA)))]
   xL
   CD]
   (B3 (Ų Nb (Cn yk9) tR boot_int A1))])) (Bn z0e),hm,CM,B7 (by show NJ;exact Z)⟩
theorem tU:Azb znl:=BB
theorem zy5(F:AX AXB AXB znl)(hm:By AXB)(bD:xS)(Ck:BFp):BHd:=
 ⟨f,fd,BU gQ tU z24 zqt (by
  have nd:=tU.nd;have hu:=bZ hr;exact(bL #[gP #[gF (Cn ykg) A1 (V6 Z Ck) WP]
   xL
   CD]
   (B3 AMT))) (Bn z1d),hm,CM,B7 (by show NJ;exact Z)⟩
theorem xX:Da [AII,Po,"rest"] [AII,Po] zt4:=BB
theorem z5w(F:AX AXC AXC zt4)(hm:By AXC)(Li:MV "abs"):BHu:=
 ⟨f,fd,BU gQ xX z73 zwb (by
  have nd:=xX.nd;have hu:=bZ hr;exact(bL #[yej (AMM AJX A9 bx)
   #[bL (PM (lj xg A1 A9))
   #[bL (ka 0 AAy)
   (Adt wl)]]]
   (B3 (Ų pO (Cn ynn) Li boot_abs A1)))) (Bn z81),hm,CM,B7 (by show E4;exact Z)⟩
theorem vM:Da ["top",Al3,"common"] ["top",Al3] zql:=BB
theorem z2c(F:AX AXD AXD zql)(hm:By AXD)(lU:As zvq):BPc:=
 ⟨f,fd,BU gQ vM z5k ztn (by
  have nd:=vM.nd;have hu:=bZ hr;exact(bL #[gP #[gF Hc A9 bx EC]
   eD
   CD]
   #[bL (PM (Q3 lU A1 A9))
   #[bL #[gP #[gF AS5 A9 bx EC]
   (GN (PM #[Im D3]))
   CD]
   (B3 (ANW (QY V1 A1 qv 2) (QY V1 A9 qv 2)))]])) (Bn z6w),hm,CM,B7 (by show E4;exact Z)⟩
theorem vN:Azb zp5:=BB
theorem z2n(F:AX AXF AXF zp5)(hm:By AXF)(cj:As zg9):BHe:=
 ⟨f,fd,BU gQ vN z60 zso (by
  have nd:=vN.nd;have hu:=bZ hr;exact(ai #[VR (yW (ybq A1 bA)) (Im (UA cj BJJ)) (UA cj A1)])) (Bn z51),hm,CM,B7 (by show NJ;exact Z)⟩
theorem xY:L8 [Al4] Al4 zum:=BB
theorem z6c(F:AX AXG AXG zum)(hm:By AXG)(fM:AEf):BLr:=
 ⟨f,fd,BU gQ xY z9x zv3 (by
  have nd:=xY.nd;have hu:=bZ hr;exact(bL #[gP #[gF Hc Mb bx EC]
   (B3 (A3m Mb))
   CD]
   (B3 (lj qe (AEH BBq) BBq)))) (Bn yab),hm,CM,B7 (by show NJ;exact Z)⟩
theorem oF:L8 [a_,Al_,Al3,Al4] a_ zim:=BB
theorem zrk(F:AX AXH AXH zim)(hm:By AXH)(bN:As Vj)(cj:Asa)(sG:BHe)(jE:As zwa)(aP:IN)(bD:xS):BLM:=
 ⟨f,fd,BU gQ oF zud zli (by
  have nd:=oF.nd;have hu:=bZ hr;exact(bL (Z3 (SU #[zse A1 bA]))
   #[bL (PM #[VR (AK8 AcV bx) Av9 bx])
   #[bL #[gP #[gF Hc D3 bx EC]
   xL
   CD]
   #[bL (da (AMa (UA sG JA) D3))
   #[bL #[gP #[gF AJX (UA jE JE) A1 EC]
   xL
   CD]
   (B3 Aev)]]]])) (Bn ztu),hm,CM,B7 (by show NJ;exact Z)⟩
theorem vO:A0Q UZ zqb:=BB
theorem z2i(F:AX AXI AXI zqb)(hm:By AXI)(d7:As zlr)(bD:xS):BHa:=
 ⟨f,fd,BU gQ vO z5l ztz (by
  have nd:=vO.nd;have hu:=bZ hr;exact(bL (Z3 (Afb d7))
   #[bL #[gP #[gF AS5 JA bx EC]
   xL
   CD]
   (B3 AAy)])) (Bn z6p),hm,CM,B7 (by show NJ;exact Z)⟩
theorem tV:Da [a_,AOp,Al_] [a_,AOp] znm:=BB
theorem zzj(F:AX AXJ AXJ znm)(hm:By AXJ)(aP:IN)(bD:xS):BO':=
 ⟨f,fd,BU gQ tV z01 zq9 (by
  have nd:=tV.nd;have hu:=bZ hr;exact(bL (PM (SU #[zse A1 A9]))
   #[bL #[gP #[gF AJX (r9 D3) bx EC]
   xL
   CD]
   (B3 wl)])) (Bn z1g),hm,CM,B7 (by show E4;exact Z)⟩
theorem rJ:A0Q Al_ zmv:=BB
theorem zxd(F:AX AXK AXK zmv)(hm:By AXK)(iU:As zqx)(d7:As zlr):BHb:=
 ⟨f,fd,BU gQ rJ zzu zo0 (by
  have nd:=rJ.nd;have hu:=bZ hr;exact(bL (Z3 (Q3 iU A1 bA))
   (B3 (ANW A_w A_w)))) (Bn zza),hm,CM,B7 (by show NJ;exact Z)⟩
theorem rK:A0Q Al_ zlv:=BB
theorem zw0(F:AX AXL AXL zlv)(hm:By AXL)(iU:As zqx)(cj:Asa):BHf:=
 ⟨f,fd,BU gQ rK zzo zos (by
  have nd:=rK.nd;have hu:=bZ hr;exact(bL (Z3 (Q3 iU A1 bA))
   (B3 (ANW Av9 Av9)))) (Bn z0m),hm,CM,B7 (by show NJ;exact Z)⟩
theorem tW:Da [AmB,a_] [AmB,a_] zno:=BB
theorem z0l(F:AX AXM AXM zno)(hm:By AXM)(cj:Asa)(qx:BHd)(sI:BHa)(oO:BHb)(oR:BHf):BP':=
 ⟨f,fd,BU gQ tW z1j zq2 (by
  have nd:=tW.nd;have hu:=bZ hr;exact(bL #[gP #[gF Hc A1 bA EC]
   (B3 (AFv cj))
   CD]
   #[bL #[gP #[gF Hc A1 bA EC]
   (B3 (AFv qx))
   CD]
   #[bL #[gP #[gF Hc A1 bA EC]
   (B3 (AFv sI))
   CD]
   #[bL #[gP #[gF Hc A1 bA EC]
   (B3 (AFv oO))
   CD]
   #[bL #[gP #[gF Hc A1 bA EC]
   (B3 (AFv oR))
   CD]
   (B3 AAy)]]]])) (Bn z07),hm,CM,B7 (by show E4;exact Z)⟩
theorem vP:L8 [FU,"words","kinds"] FU zm8:=BB
theorem z2t(F:AX AXN AXN zm8)(hm:By AXN)(Gv:BO_)(qy:BP')(aP:IN)(iz:AAl)(bD:xS):BO0:=
 ⟨f,fd,BU gQ vP z6j zt2 (by
  have nd:=vP.nd;have hu:=bZ hr;exact(bL (Z3 (SU #[zse A1 bA]))
   (CU (bL #[gP #[gF (Cn BL) bA A9 WP]
   xL
   CD]
   (CU (bL (PM (Q3 Gv JA BEZ))
   (CU (bL #[gP #[gF AJX (r9 D3) BEZ EC]
   xL
   CD]
   (ALx (GE dM Ag (dM (hV JA)) (AeF (GM yfx AN0 AN0 (G0 [FU,"words","kinds"] AN0 [] zm8 AN0) Z Z Z (Hn (om yjf iz (MU D3 (AbF AEa)))) #[ABx AN0 AN0,_] #[yZ,_] #[Afz qy,_])))))))))))) (Bn z5m),hm,CM,B7 (by show NJ;exact Z)⟩
theorem jT:Az4 zeg:=BB
theorem znd(F:AX ACR A6R zeg)(M:AT_ ACR)(gH:AkS)(aH:Ϭ)(bf:Apv):BMN:=
 ġ (BU gQ jT znz zg6 (by
  have nd:=jT.nd;have hu:=bZ hr;exact(bK #[gP #[yaz ah A9 Au8 WP]
   (AZ_ gH gH)
   CD])) (Bn zoi))
theorem pB:Az4 zjg:=BB
theorem zt7(F:AX EU A6S zjg)(M:AT_ EU)(gZ:BMN)(aH:Ϭ)(bf:Apv):BML:=
 ġ (BU gQ pB zuy zmh (by
  have nd:=pB.nd;have hu:=bZ hr;exact(bL #[zyi #[Nf gZ aH ID A1 (KI A9)]]
   (B3 #[ybg ah Au8 A9]))) (Bn zve))
theorem oG:Da [ML,EU,bP,"border"] [ML,EU] zhw:=BB
theorem zrj(F:AX OU OU zhw)(hm:By Alj)(fC:As zpl)(fD:Ad2)(aP:IN):BPg:=
 ⟨f,fd,BU gQ oG ztq zlo (by
  have nd:=oG.nd;have hu:=bZ hr;exact(bL #[Zw Z #[zma Z Z fD Adz] (Ahy 2 3)
   (GN #[gP #[wu (z49 (gF (Cn yn1) JE VN EC) (zyk (Hi (yW (AMV A9 JE)))))]
   (B3 wl)
   CD])]
   (B3 (Ų pO An_ aP A6n A1)))) (Bn zuf),hm,CM,B7 (by show E4;exact Z)⟩
theorem oH:Az4 zit:=BB
theorem zre(F:AX OU A6T zit)(M:AT_ OU)(kE:BPg)(fV:As zl0)(aH:Ϭ)(aZ:rg AX4):BMM:=
 ġ (BU gQ oH ztx zln (by
  have nd:=oH.nd;have hu:=bZ hr;exact(ai (Q3 kE (ϱ aZ) (ze (Nf fV aH ID A1) A9)))) (Bn zsl))
theorem mD:ARa MI MI zf1:=BB
theorem zon(F:AX XN A6U zf1)(M:AT_ XN)(aH:Ϭ)(aY:BWW):BPx:=
 ġ (BU gQ mD zqm ziw (by
  have nd:=mD.nd;have hu:=bZ hr;exact(ai #[yh2 ah (ϱ aY) A9 AgF (NV Z Z Z)])) (Bn zp0))
theorem qz:Da [N4,xw,"works"] (kl xw) zkz:=BB
theorem zva(F:AX ĸ A6V zkz)(M:Afj ĸ)(jE:As zwa)(fV:As zl0)(kJ:BMM)(dY:As zi3)(fM:AEf)(dR:A2P)(aN:Æ)(aH:Ϭ)(aO:Ũ eR):BQb:=
 ġ (BU gQ qz zx0 znf (by
  have nd:=qz.nd;have hu:=bZ hr;exact(bL #[gP #[gF (Cn abL) (ADd aN aO) VN EC]
   (AZ_ dR dR)
   CD]
   #[bL #[gP #[gF Hc JA bA EC]
   (B3 (AJc jE (A0y fV)))
   CD]
   #[bL #[gP #[gF Hc JA bA EC]
   (B3 (A3m (A0y kJ)))
   CD]
   #[bL #[gP #[gF Hc JA bA EC]
   (B3 (AJc jE (A0y dY)))
   CD]
   #[bL #[Fe]
   eD]]]])) (Bn zw4))
theorem tY:L8 [N4] N4 zkw:=BB
theorem zy3(F:AX FS A6W zkw)(M:AJk LV FS)(c7:AKT)(bH:sv)(bw:AHD):BSH:=
 ⟨f,fd,BU Kp tY z2p zq8 (by
  have nd:=tY.nd;have hu:=bZ hr;exact(AoF Z5 (GE yg9 (GM Ac A_V Ajk (G0 [N4] A_V [0] zkw Ajk) Z (Hn (zx (dM #[yek Z Z c7 (KI (ADd bH bw))]))) #[ABx Ajk Ajk,_]) #[yZ,_] #[p7 (ao A1 (MU A9 (yky ah (wA bH bw (qv 2)) (p7 AbE)))),_]))) (Bn z11),M,B7 (by show NJ;exact Z)⟩
theorem tZ:BNg zn9:=BB
theorem zzk(F:AX TD ACW zn9)(M:Afj TD)(fK:As zkq)(cX:As zf7)(bT:Adu)(AlR):BQc:=
 ġ (BU gQ tZ z2r zq3 (by
  have nd:=tZ.nd;have hu:=bZ hr;exact(bL BER
   #[bL #[gP #[gF (Cn BL) AL9 (V6 Z bW) WP]
   (B3 #[Nf cX aN ID A1 (KI D3)])
   CD]
   #[bL #[gP #[gF Hc AL9 bA EC]
   (B3 (A3m BK3))
   CD]
   #[bL #[Fe]
   eD]]])) (Bn z18))
theorem uc:L8 [AYF,AmE] AYF Qn:=BB
theorem z1p(BVb){H:Hp}{E:XK}{F0:Hp}{a:Η}(c:DV)(hA:Agx)(hr:ww 0 ACQ Qn)(aX:ATG)(jo:Asw)(aP:IN)(BUQ)(qP:BKh)(lV:A2Q)(lW:A2R)(gH:AkS)(dR:A2P)(bD:xS):sX ((jh ADN P w K mg B9 BCs ACQ (bJ Qn) f cdv A CF s H E).hand a) F0 H (v9 Qn) (ziz K c):=by
 have nd:=uc.nd;have hu:o4 ACQ Qn:=ij
 exact(bL (Z3 (SU #[o9 (AGR (ABy oJ oJ) (ABy eY eY) (ABy qP qP) (ABy lV lV))]))
 (CU (bL (AzB #[o9 (AGR (ABy lW lW) (AQX (Tm jU jU.2)) (AQX (Tm qC qC.2)) (ABy gH gH))])
 (CU (bL (AzB #[o9 (MU (ABy dR dR) (ABy bD bD))])
 (CU (bL (CU (gP (CU (wu (NT (Hi (yW (AoH yl6 jo))) (QV (AEZ (r9 (AeF (GM z45 AS0 AS0 (G0 BCs AS0 [] Qn AS0) #[yi4 hA A9] #[MD AS0,_] #[Og (yW (qv 0)),_] #[ĝ,_]))) bx)))))
 (B3 #[p7 (KI bA)])
 CD))
 #[bL #[gP #[yW (AQX (Tm qC qC.2))]
 eD
 CD]
 #[bL #[gP #[yW (AQX (Tm jU jU.2))]
 eD
 CD]
 (B3 #[p7 (KI (kR (AMU At2) (ycn A9 QM)))])]])))))))
theorem z0y(F:AX ACQ ACQ Qn)(hm:By ACQ)(aX:ATG)(jo:Asw)(aP:IN)(BUQ)(qP:ff xh eS eS)(lV:A2Q)(lW:A2R)(gH:AkS)(dR:ff RY FD FD)(bD:xS)(uW:Ajd Fk)(uX:AjB Fk)(uY:ki (B0 Fk) ACU (fh ACV))(uZ:AMW Fk)(u9:ATp Fk)(xZ:ATo Fk)(kO:Ix Fk pM 1 0)(kW:Ix Fk Fk 1 1)(mF:Aii eS 2)(jF:Aii pS 3)(jG:Ix Fk pE 1 4)(kY:Ix Fk U1 1 5)(nO:Aii X9 6)(kZ:Aii Fh 7)(iC:Ix Fk FD 1 8)(mG:Ix Fk ES 1 9)(vd:Ajd Fh)(vf:AjB Fh)(vg:ki (B0 Fh) ACU (fh ACV))(vh:AMW Fh)(vm:ATp Fh)(yg:ATo Fh)(lg:Ix Fh pM 7 0)(lq:Ix Fh Fk 7 1)(mH:Aig eS 2)(jH:Aig pS 3)(jJ:Ix Fh pE 7 4)(lu:Ix Fh U1 7 5)(nP:Aig X9 6)(lA:Aig Fh 7)(iD:Ix Fh FD 7 8)(mJ:Ix Fh ES 7 9)(oU:Ajd FD)(oV:AjB FD)(oW:ki (B0 FD) ACU (fh ACV))(oX:AMW FD)(oY:ATp FD)(qD:ATo FD)(iG:Ix FD pM 8 0)(iH:Ix FD Fk 8 1)(jq:Aih eS 2)(ig:Aih pS 3)(iu:Ix FD pE 8 4)(iI:Ix FD U1 8 5)(jK:Aih X9 6)(iJ:Aih Fh 7)(gB:Ix FD FD 8 8)(jr:Ix FD ES 8 9)(yh:Ajd ES)(yj:AjB ES)(yq:ki (B0 ES) ACU (fh ACV))(yr:AMW ES)(yt:ATp ES)(Cm:ATo ES)(mK:Ix ES pM 9 0)(mL:Ix ES Fk 9 1)(nQ:ABr eS 2)(lB:ABr pS 3)(lC:ABr pE 4)(mO:ABr U1 5)(oZ:ABr X9 6)(mQ:ABr Fh 7)(jt:ABr FD 8)(nR:ABr ES 9):BRt:=
 AGg (aao F uc (Y1 z2l) fun cdv A CF s H E a F0 hA hr=>⟨ziz K c,z1p c hA hr aX jo aP qC jU oJ eY qP lV lW gH dR bD,fun ds Q h=>z2u ⟨⟨eY.2,⟨uW,uX,uY,uZ,u9⟩,ydq xZ,kO,kW,mF,jF,jG,kY,nO,kZ,iC,mG⟩,⟨gH.2,⟨vd,vf,vg,vh,vm⟩,ydq yg,lg,lq,mH,jH,jJ,lu,nP,lA,iD,mJ⟩,⟨dR.2,⟨oU,oV,oW,oX,oY⟩,ydq qD,iG,iH,jq,ig,iu,iI,jK,iJ,gB,jr⟩,⟨bD.2,⟨yh,yj,yq,yr,yt⟩,ydq Cm,mK,mL,nQ,lB,lC,mO,oZ,mQ,jt,nR⟩⟩ h⟩)
theorem vQ:BKl zpn:=BB
theorem z06(F:AX XO XO zpn)(hm:By XO)(qF:BQc)(eF:Adv)(A5p):BRU:=
 BY2 (BU gQ vQ z50 zuq (by
  have nd:=vQ.nd;have hu:=bZ hr;exact(bL (PM #[VN])
   #[bL #[Ċ z3d Z Z Z nd Z Z Z dw.1 dw.2 (fun F0=>(ArG #[Nf qF aN ID A1 (KI A9)]))
   BSz]
   (B3 wl)])) (fun ds Q Ex h=>z5c BTf h))
theorem vR:L8 [xx,"_law_rows"] xx zm1:=BB
theorem z2k(F:AX AXO AXO zm1)(hm:By AXO)(sJ:BRU):BPy:=
 AGg (BU Kp vR z5o ztw (by
  have nd:=vR.nd;have hu:=bZ hr;exact(bL (Z3 (SU ANf))
   (CU (AoF Z5 (GE yg9 (GM Ac BYU AyY (G0 [xx,"_law_rows"] BYU [0] zm1 AyY) Z (Hn (UP 1)) #[MD AyY,_]) #[yZ,_] #[AUM sJ A9 A1,_]))))) (Bn z6o))
theorem yu:Da [Ba1] [] zsy:=BB
theorem z57(F:AX AXP AXP zsy)(hm:By AXP):BL8:=
 ⟨f,fd,BU gQ yu z7m zv5 (by
  have nd:=yu.nd;have hu:=bZ hr;exact(bL (ka 0 (SU (AQo bA At2)))
   #[bL (AU' #[o9 Aeh])
   #[bL (AU' ANf)
   #[bL (AU' ANf)
   #[bL (AU' #[o9 Aeh])
   #[bL (AU' (AQo bA AoJ))
   (B3 (AaM A1 ANf))]]]]])) (Bn ybt),hm,CM,B7 (by obtain⟨Z⟩:=len0 hl;exact Z)⟩
theorem vU:Da [Ľ,AYG,A6s] [Ľ,AYG] zp8:=BB
theorem z17(F:AX AXQ AXQ zp8)(hm:By AXQ)(aP:IN):BPA:=
 ⟨f,fd,BU gQ vU z5u zt8 (by
  have nd:=vU.nd;have hu:=bZ hr;exact(bL #[gP #[gF AS5 A9 AA' EC]
   (B3 Axd)
   CD]
   #[bL (PM (lj qe A'h bx))
   #[bL #[gP #[gF ALq AA' bx EC]
   (GN (PM (AVD (QY qe (AJQ yX (kR A1 (QY xg A'h A2T Adz))) (eO AsH A9) bx))))
   CD]
   (B3 (AVD (QY yX D3 qv 2)))]])) (Bn z5f),hm,CM,B7 (by show E4;exact Z)⟩
theorem yw:Da [EU,i7] [EU,i7] zte:=BB
theorem z5q(F:AX AXR AXR zte)(hm:By AXR)(aX:ATG)(Gw:MV AOi)(tR:Ad1):BPB:=
 ⟨f,fd,BU gQ yw z7y zv8 (by
  have nd:=yw.nd;have hu:=bZ hr;exact(bL #[gP #[wu (NT (yW (AuL Gw Z)) (QV (Hi (yW (AuL tR Z)))))]
   AHQ
   CD]
   (B3 #[zyh ALp ALp bx A1 A9]))) (Bn z9u),hm,CM,B7 (by show E4;exact Z)⟩
theorem yx:L8 [AH4] AH4 zpb:=BB
theorem z5g(F:AX AXS AXS zpb)(hm:By AXS)(Bj:Asy)(aX:ATG)(fM:AEf)(aP:IN)(mR:BFh):BLs:=
 ⟨f,fd,BU gQ yx yba zvs (by
  have nd:=yx.nd;have hu:=bZ hr;exact(bL #[gP #[Hi (yW (AuL fM Z))]
   AHQ
   CD]
   (CU (bL #[gP #[Hi (yfp ALp ALp bx AA' (V6 Z mR))]
   AHQ
   CD]
   (ALx (Atv ykf Bj boot_all (GE dM (GM Ac [AOp] Ar9 (G0 [AH4] [AOp] [] zpb Ar9) Z (Hn (ymn (qv 0))) #[MD Ar9,_]) #[yZ,_] #[zyh (Cn ymt) (Cn ymt) bA A1 bA,_]))))))) (Bn ybl),hm,CM,B7 (by show NJ;exact Z)⟩
theorem vV:Da ASo ASo Qo:=BB
theorem z5b(AHv)(c:DV)(hr:ww 1 AH' Qo)(jL:Asc)(iY:Asd)(eY:ASs)(bH:sv)(bw:AHD)(cg:AMy):AHS ASo AH' Qo Qo znq:=by
 have nd:=vV.nd;have hu:o4 AH' Qo:=ij
 exact(bL #[gP #[wu (NT (Hi (yW (UA iY A9))) (QV (Hi (yW (UA iY D3)))))]
 eD
 CD]
 #[bL #[gP #[Hi (yW (WE jL JE (rX zt5 bH cg Z EZ)))]
 (AZ_ eY eY)
 CD]
 #[bL #[gP #[rX yln Τ ah bH bw (ANW A9 D3) Z EZ]
 eD
 CD]
 (zw (yg8 (i:=0) (j:=1) (l:=2) ah bH bw Aev Z EZ Z EZ Z EZ))]])
theorem z08(F:AX UY AH' Qo)(jL:Asc)(iY:Asd)(eY:ASs)(bH:sv)(bw:AHD)(cg:AMy):AHR 2 ASo Va:=
 ANy vV z7b znq (z5b c hr jL iY eY bH bw cg) z54
theorem z2b(F:AX UY AH' Qo)(M:AJk LV UY)(jL:Asc)(iY:Asd)(eY:ASs)(bH:sv)(bw:AHD)(cg:AMy):BSG:=
 ⟨f,fd,z08 c F jL iY eY bH bw cg,M,B7 (by obtain⟨_,_,_,_,Z⟩:=aav hl;exact Z)⟩
theorem HJ:Da [ł,XL] [ł,XL] z43:=BB
theorem yip(F:AX AXT AXT z43)(hm:By AXT)(Bk:As0):BPC:=
 ⟨f,fd,BU gQ HJ ykn ybn (by
  have nd:=HJ.nd;have hu:=bZ hr;exact(Ø (Atv yk8 Bk boot_any (GE dM (GM Ac [MI] AuP (G0 Agp [MI] [0] z43 AuP) Z (Hn (UP 1)) #[MD AuP,_]) #[yZ,_] #[VP (Cn BL) A1 A9 WP,_])))) (Bn yne),hm,CM,B7 (by show E4;exact Z)⟩
theorem Bl:Da [ACf,XL,"apart","together",ł] [ACf,XL] zsj:=BB
theorem yac(F:AX AXU AXU zsj)(hm:By AXU)(Cp:BPC)(d8:AFI)(c7:AKT)(Bm:As1):BPd:=
 ⟨f,fd,BU gQ Bl yd8 zzc (by
  have nd:=Bl.nd;have hu:=bZ hr;exact(bL (CU (GE Tr (GM (ABp AgV) [ł] Agp (G0 [ACf,XL,"apart","together",ł] [ł] [1] zsj Agp) Z (Hn (UP 0)) #[MD Agp,_]) #[A1R (AFp Cp A9),_] #[ĝ,_]))
   #[bL (kU V0 3 (A4V A9))
   #[bL #[N6 Z AMT (ϑ 4)
   (GN #[gP #[yW (WE Cp ON A9)]
   (zw (Ċ ZJ (Cn z7c) BdO PySem.F.type_list_extend Z EZ #[ao ON aL]))
   CD])]
   (B3 (AaM D3 (hV (dM #[yds Z Z c7 Z Bm Asv]))))]])) (Bn ydj),hm,CM,B7 (by show E4;exact Z)⟩
theorem yC:L8 [FS,TC,TH,MI,EU] FS zs2:=BB
theorem z5z(F:AX AXV AXV zs2)(hm:By AXV):BMO:=
 AGg (BU Kp yC z8f zvr (by
  have nd:=yC.nd;have hu:=bZ hr;exact(bL (kU z7f 1 AdP)
   #[bL #[N6 Z AMT #[Fw Z (qR (AZ0 2) (ApF 3 4))]
   #[bL #[gP #[ykr (i:=1) ah wl Z EZ]
   (zw (ylb (i:=1) (j:=2) ah Z EZ Z EZ AdP))
   CD]
   (zw (ylk (i:=1) (j:=2) (l:=3) ah Z EZ Z EZ Z EZ #[qv 4]))]]
   (GN #[Z5 BGE])])) (Bn z9m))
theorem Bo:L8 [FS,ACf,i'] FS zxy:=BB
theorem yce(F:AX AXW AXW zxy)(hm:By AXW)(yD:BPd)(eU:As zj2)(c7:AKT)(d8:AFI):BMP:=
 AGg (BU Kp Bo yeg zzs (by
  have nd:=Bo.nd;have hu:=bZ hr;exact(bL (Z3 (SU Ati))
   #[bL #[Zw Z #[ycc (AKI zr4 eU A1)] AMz
   (Adt (Q3 yD A9 (dM (Ų zr8 (Cn (yjk Z)) d8 boot_list D3))))]
   (GN #[Z5 #[yg9 (Ų ydy (Cn (ynd hu)) c7 boot_sorted A9)]])])) (Bn yeb))
theorem ud:L8 [FU,A6v,pj] FU zkm:=BB
theorem zzi(F:AX AXX AXX zkm)(hm:By AXX)(lU:As zvq):BMA:=
 ⟨f,fd,BU gQ ud z22 zq4 (by
  have nd:=ud.nd;have hu:=bZ hr;exact(bL (Z3 #[bx])
   (CU (bL #[N6 Z AMT AMz
   (Adt (lj yX A9 (ADQ V1 AL9 (WE lU A9 AL9))))]
   (ALx (GE dM (GM Ac [pj] Awd (G0 [FU,A6v,pj] [pj] [1] zkm Awd) Z (Hn (UP 0)) #[MD Awd,_]) #[yZ,_] #[eO AsH Mb (QY V1 A9 (cO A1 bx) Ş),_])))))) (Bn z1t),hm,CM,B7 (by show NJ;exact Z)⟩
theorem yE:Da AdJ AdJ zo5:=BB
theorem z53(F:AX AXY AXY zo5)(hm:By AXY)(iz:AAl):BL9:=
 ⟨f,fd,BU gQ yE yae zvy (by
  have nd:=yE.nd;have hu:=bZ hr;exact(Ø (GE dM (GM Ac A'A AlK (G0 AdJ A'A [0,1,2,3] zo5 AlK) Z (Hn (om V9 iz AbE)) #[ABx AlK AlK,_]) #[yZ,_] #[eO (Cn V1) (ADQ Q5 (eO AsH (kR JE ON) (qv 0)) (QY yX BAc qv 1)) (qv 5),_]))) (Bn yaj),hm,CM,B7 (by obtain⟨_,_,_,_,Z⟩:=aav hl;exact Z)⟩
theorem yF:Da [ı,bP,ľ,AYR] BW' zo3:=BB
theorem z68(F:AX AXZ AXZ zo3)(hm:By AXZ)(vo:BL9)(fD:Ad2):BMv:=
 ⟨f,fd,BU gQ yF ya8 zvz (by
  have nd:=yF.nd;have hu:=bZ hr;exact(bL (da Axd)
   (ALx (GE dM (GM Ac A_U Ak4 (G0 [ı,bP,ľ,AYR] A_U [1,2,3] zo3 Ak4) Z (Hn (om zma fD Adz)) #[ABx Ak4 Ak4,_]) #[yZ,_] #[VR (AK8 A1 D3) A9 (AZi vo (AGR A9 ON D3 JE)),_])))) (Bn z96),hm,CM,B7 (by show AHT;exact Z)⟩
theorem uf:Da [ı,bP,AmG,Po] Aqx znk:=BB
theorem zzp(F:AX AXa AXa znk)(hm:By AXa)(d8:AFI):BL_:=
 ⟨f,fd,BU gQ uf z2o zqu (by
  have nd:=uf.nd;have hu:=bZ hr;exact(bL (kU V0 3 (A4V A1))
   #[bL #[Ċ ygk Z EZ AAy (É A1 D3)]
   #[bL #[Ċ ygk Z EZ wl Axd]
   (B3 Aev)]])) (Bn z1h),hm,CM,B7 (by show AHT;exact Z)⟩
theorem Lj:Da Aqx [ı,bP] yix:=BB
theorem ym3(F:AX "led" "led" yix)(hm:By "led")(qG:BL_)(fQ:AK0)(aP:IN):BPe:=
 ⟨f,fd,BU gQ Lj yn7 ygp (by
  have nd:=Lj.nd;have hu:=bZ hr;exact(bL #[yjr Z Z fQ #[ao A9 (KI AA')] AMz
   (GN #[gP #[gF AJX (kR (kR A1 D3) A9) bx EC]
   (B3 (APz qG (AGW A1 A9 D3)))
   CD])]
   eD)) (Bn ynl),hm,CM,B7 (by show E4;exact Z)⟩
theorem Bp:Da A4X [FS,AmH] Yc:=BB
theorem z9p(F:AX AXb AXb Yc)(hm:By AXb)(qH:BMA)(vp:BMv)(bN:As Vj)(Lk:BPe)(fQ:AK0)(aP:IN)(iz:AAl)(fD:Ad2):BPT:=
 ⟨f,fd,BU gQ Bp yc7 z0j (by
  have nd:=Bp.nd;have hu:=bZ hr;exact(bL (CU (GE Tr (GM (ABp AgV) AMx AMx (G0 A4X AMx [] Yc AMx) Z (Hn (om V9 iz AbE)) #[ABx AMx AMx,_]) #[yZ,_] #[AQW qH (KI (dM #[Ag A1 (dM (hV A9))])),_]))
   (CU (bL (da #[bx])
   (CU (bL #[z1w Z Z fQ #[ao (A2T AL1) aL] (ϑ 4)
   #[bL (PM (APz vp (AGW (WE Lk D3 ON) ON JE)))
   (GN (da (É BAc ON)))]]
   (ALx (GE dM (GM Ac ANU ANU (G0 A4X ANU [] Yc ANU) Z (Hn (om zma fD AL1)) #[ABx ANU ANU,_]) #[yZ,_] #[AUM bN Avi (ARp A1),_])))))))) (Bn yfl),hm,CM,B7 (by show E4;exact Z)⟩
theorem qI:BIY zg8:=BB
theorem zus(F:AX AXc AXc zg8)(hm:By AXc):BPD:=
 ⟨f,fd,BU gQ qI zwi zne (by
  have nd:=qI.nd;have hu:=bZ hr;exact(Ø (GE dM (GM Ac [i'] ANV (G0 ÿ [i'] [0] zg8 ANV) Z (Hn (UP 1)) #[MD ANV,_]) #[Og (ymg ah A9 A1 WP),_] #[ĝ,_]))) (Bn zyg),hm,CM,B7 (by show E4;exact Z)⟩
theorem ug:Da ["step",o5] ["step",o5] zof:=BB
theorem zy9(F:AX AXd AXd zof)(hm:By AXd):BPE:=
 ⟨f,fd,BU gQ ug z26 zq7 (by
  have nd:=ug.nd;have hu:=bZ hr;exact(ai #[zyh ALp ALp JA A1 JA])) (Bn z2d),hm,CM,B7 (by show E4;exact Z)⟩
theorem yG:Da Acm Acm Yd:=BB
theorem z6m(F:AX AOg AOg Yd)(hm:By AOg)(iZ:As zra)(Bk:As0):BMw:=
 ⟨f,fd,BU gQ yG z9d zvi (by
  have nd:=yG.nd;have hu:=bZ hr;exact(Ø (GE dM (GM Ac [x8] AgO (G0 Acm [x8] [1,2] Yd AgO) Z (Hn (UP 0)) #[MD AgO,_]) #[Og (yW (Aer yk8 Bk boot_any (KI (GE dM (GM Ac ["start"] AzM (by show fP AgO _ ["start"] [0,2] (yd7 _ (bJ Yd)) AzM;symm_saturate) Z (Hn (UP 1)) #[MD AzM,_]) #[yZ,_] #[AUM iZ (eO AsG A9 (qv 0)) D3,_])))),_] #[ĝ,_]))) (Bn z85),hm,CM,B7 (by show AHT;exact Z)⟩
theorem HN:AWn z88:=BB
theorem yji(F:AX AXe AXe z88)(hm:By AXe)(bN:As Vj):BFy:=
 ⟨f,fd,BU gQ HN ym4 z87 (by
  have nd:=HN.nd;have hu:=bZ hr;exact(ai (AMa (ADQ qe Ĭ AzV) Ĭ))) (Bn yl4),hm,CM,B7 (by show E4;exact Z)⟩
theorem DX:L8 [ML,AOg,pj] ML z1i:=BB
theorem ycr(F:AX AXf AXf z1i)(hm:By AXf)(oK:As zvl)(o7:As z1e):BMz:=
 ⟨f,fd,BU gQ DX yj2 z3z (by
  have nd:=DX.nd;have hu:=bZ hr;exact(bL (Z3 (ANW bx bx))
   #[bL #[N6 Z AMT AMz
   (Adt (Q3 o7 A9 D3))]
   (B3 AAy)])) (Bn yhs),hm,CM,B7 (by show NJ;exact Z)⟩
theorem DY:Da BRa BW6 zxr:=BB
theorem ydm(F:AX AXg AXg zxr)(hm:By AXg)(cY:Asg)(lQ:As zwf)(o7:As z1e)(aP:IN):BOn:=
 ⟨f,fd,BU gQ DY yhr z4a (by
  have nd:=DY.nd;have hu:=bZ hr;exact(bL (da (Q3 cY A9 (AFp cY D3)))
   (CU (bL (CU (A2e (gG (i:=4)) (UA lQ (GE dM (GM Ac [i'] ASz (G0 BRa [i'] [] zxr ASz) Z (Hn (UP 3)) #[MD ASz,_]) #[yZ,_] #[p7 (MU ARu BEO),_]))))
   (B3 #[VR (AK8 A1 A9) (WE o7 (AQu (r9 JE)) ON) ON]))))) (Bn yg7),hm,CM,B7 (by show AHT;exact Z)⟩
theorem Bq:Da AF_ AF_ zsb:=BB
theorem ya2(F:AX AXh AXh zsb)(hm:By AXh)(Cq:BOn):BOo:=
 ⟨f,fd,BU gQ Bq ye4 z0a (by
  have nd:=Bq.nd;have hu:=bZ hr;exact(Ø (GE dM (GM Ac [Po] Az9 (G0 AF_ [Po] [0,2] zsb Az9) Z (Hn (UP 1)) #[MD Az9,_]) #[yZ,_] #[AQW Cq (ao A9 (MU A1 D3)),_]))) (Bn yc5),hm,CM,B7 (by show AHT;exact Z)⟩
theorem Ea:AWn z1m:=BB
theorem ydo(F:AX AXi AXi z1m)(hm:By AXi)(bN:As Vj):BFz:=
 ⟨f,fd,BU gQ Ea yjg z3i (by
  have nd:=Ea.nd;have hu:=bZ hr;exact(ai (AMa (ADQ Q5 Ĭ AzV) Ĭ))) (Bn yh5),hm,CM,B7 (by show E4;exact Z)⟩
theorem uh:L8 [i'] i' zn2:=BB
theorem z0w(F:AX AXj AXj zn2)(hm:By AXj)(bN:As Vj)(Ln:MV xk)(aP:IN):BME:=
 ⟨f,fd,BU gQ uh z2y zqz (by
  have nd:=uh.nd;have hu:=bZ hr;exact(ai (AMa (om yhh Ln A1) BEO))) (Bn z1c),hm,CM,B7 (by show NJ;exact Z)⟩
theorem Br:BIY zr6:=BB
theorem z7r(F:AX AXk AXk zr6)(hm:By AXk)(lQ:As zwf)(ju:As zwx)(qJ:BME)(cY:Asg):BQA:=
 ⟨f,fd,BU gQ Br yec zz9 (by
  have nd:=Br.nd;have hu:=bZ hr;exact(Ø (UA lQ (GE dM (GM Ac ASz ANV (G0 ÿ ASz [0] zr6 ANV) Z #[sZ (zx A'I)] #[MD ANV,_]) #[yZ,_] #[AUM ju (AQu (ybg ah A1 (qv 1))) (UA qJ A1),_])))) (Bn yfb),hm,CM,B7 (by show E4;exact Z)⟩
theorem ni:Da Ak9 [XL,TC] Vz:=BB
theorem zqr(F:AX AXl AXl Vz)(hm:By AXl)(yH:BPT)(yI:BOo)(yJ:BQA)(cY:Asg)(aP:IN):BRV:=
 ⟨f,fd,BU gQ ni zrl zkf (by
  have nd:=ni.nd;have hu:=bZ hr;exact(bL (CU (GE Tr (GM (ABp AgV) ALm AF_ (G0 Ak9 ALm [0,1] Vz AF_) Z (Hn A'y) #[MD AF_,_]) #[yZ,_] #[AQW yI (AGW A1 A9 D3),_]))
   (CU (bL (CU (GE Tr (GM (ABp (Ċ Ti)) ALm ÿ (G0 Ak9 ALm [1] Vz ÿ) Z (Hn A'y) #[MD ÿ,_]) #[yZ,_] #[Afz yJ,_]))
   (CU (bL (CU (GE Tr (GM (ABp (Ti (i:=4))) ALm ÿ (G0 Ak9 ALm [1] Vz ÿ) Z (Hn (UP 0)) #[MD ÿ,_]) #[yZ,_] #[p7 (MU (r9 A'I) bx),_]))
   (B3 (Q3 yH (dM (Aa3 (hV ON) D3)) (dM (Aa3 (hV AgF) JE)))))))))) (Bn zrf),hm,CM,B7 (by show E4;exact Z)⟩
theorem vW:L8 BS3 FS zm3:=BB
theorem z2e(F:AX AXm AXm zm3)(hm:By AXm)(yK:BMP)(jM:BRV)(eU:Asf)(d8:AFI)(iz:AAl):BMQ:=
 AGg (BU Kp vW z5i zs8 (by
  have nd:=vW.nd;have hu:=bZ hr;exact(bL (kU z7f 1 AdP)
   (CU (bL (CU (N6 Z (Afb yK.fn) AMz
   (CU (bL (CU (A2e (Ċ gG) (AeF (om z3g d8 (UA eU.fn (GE dM (GM Ac [FU] Avf (G0 BS3 [FU] [2] zm3 Avf) Z (Hn (UP 0)) #[MD Avf,_]) #[BJS Mb A9,_] #[ĝ,_]))))))
   (GN #[Zw Z (A3S D3 (WE jM D3 JE)) (Ahy 4 5)
   (GN #[yey (i:=1) ah Z EZ #[qv 4] #[qv 5]])])))))
   (GN #[Z5 BGE]))))) (Bn z5p))
theorem Ec:AWn z2x:=BB
theorem yev(F:AX AXn AXn z2x)(hm:By AXn)(bN:As Vj):BF_:=
 ⟨f,fd,BU gQ Ec yhy z37 (by
  have nd:=Ec.nd;have hu:=bZ hr;exact(ai (AMa Ĭ Ĭ))) (Bn yiv),hm,CM,B7 (by show E4;exact Z)⟩
theorem HS:AWn ybs:=BB
theorem yie(F:AX AXo AXo ybs)(hm:By AXo)(bN:As Vj):BF':=
 ⟨f,fd,BU gQ HS yme yas (by
  have nd:=HS.nd;have hu:=bZ hr;exact(ai (AMa Ĭ Ĭ))) (Bn yla),hm,CM,B7 (by show E4;exact Z)⟩
theorem yL:Da [AOr,AIJ,"x",pj] BXn ztp:=BB
theorem z6x(F:AX AXp AXp ztp)(hm:By AXp)(Cr:BF_)(o7:As z1e)(ju:As zwx)(vq:As yb8):BOp:=
 ⟨f,fd,BU gQ yL ybc zvj (by
  have nd:=yL.nd;have hu:=bZ hr;exact(bL (da (Q3 Cr (WE ju D3 Mb) BAy))
   (B3 (Q3 o7 Mb (WE vq JE BAy))))) (Bn yav),hm,CM,B7 (by show AHT;exact Z)⟩
theorem pC:Da [N4,"x",AOr,AIJ] (kl "x") zjh:=BB
theorem zs6(F:AX ACS A6X zjh)(M:AJk XI ACS)(fC:As zpl)(vA:BOp)(iz:AAl)(cJ:AKV)(aR:Abu):BRn:=
 ġ (BU gQ pC zuu zmr (by
  have nd:=pC.nd;have hu:=bZ hr;exact(bL #[gP #[Hi (yW (AMV (š (š AVw)) A9))]
   (B3 (É (š AVw) bx))
   CD]
   #[bL #[Zw Z (A3S AVw (z7z AVw AEa wL)) (Ahy 2 3)
   (GN #[gP #[yW (AMV A9 (š JE))]
   (B3 (APz vA (AGW D3 JE A9)))
   CD])]
   (B3 (É (kR AVw ARu) bx))])) (Bn zuv))
theorem pD:L8 [JU] JU zju:=BB
theorem zuc(F:AX AXq AXq zju)(hm:By AXq):BLt:=
 ⟨f,fd,BU gQ pD zvf zmn (by
  have nd:=pD.nd;have hu:=bZ hr;exact(ai #[VR (AK8 A1 bA) bx bx])) (Bn zu0),hm,CM,B7 (by show NJ;exact Z)⟩
theorem HW:L8 [ML] ML z8g:=BB
theorem yjz(F:AX Ĳ Ĳ z8g)(hm:By Ĳ)(vq:As yb8)(lQ:As zwf)(aP:IN):BM0:=
 ⟨f,fd,BU gQ HW ykk z72 (by
  have nd:=HW.nd;have hu:=bZ hr;exact(ai (Q3 vq (UA lQ A1) (AQu AA')))) (Bn yng),hm,CM,B7 (by show NJ;exact Z)⟩
theorem Ed:Da ASr ASr Qp:=BB
theorem yjp(hr:ww 5 xm Qp)(eZ:Ash)(sO:Asi)(aP:IN):sX (jh ADN P w K mg B9 ASr xm (bJ Qp) f cdv A CF s H E) F0 H (v9 Qp) (zxq K c):=by
 have nd:=Ed.nd;have hu:o4 xm Qp:=ij
 exact(bL #[gP #[gF AS5 AcV (UA eZ A1) EC]
 eD
 CD]
 #[bL #[gP #[gF Hc A1 bA EC]
 (B3 (AFv sO))
 CD]
 #[bL #[Fe]
 eD]])
theorem yeo{f:Η}{fd:ET}{wQ:Η}(c:DV)(F:BQh)(eZ:Ash)(sO:Asi)(aP:IN):ų 6 ASr (pL K (Ve c)):=
 BU abT Ed yir zxq (yjp c hr eZ sO aP) (Bn yik)
theorem ydg{f:Η}{fd:ET}{wQ:Η}{Uq:NM}{dn:Ζ}{Ur:va}(c:DV)(F:BQh)(hT:AQ0 wQ ⟨G' MH,Uq,.seq (Anc [CI]) dn,Ur⟩)(hm:By xm)(eZ:Ash)(sO:Asi)(aP:IN):BRO:=by
 have FO:=BUi yeo P c F eZ sO aP;have kp:=CM;obtain⟨oc,od,kV,doc,pm,an,cdv,ct,osl,e0,lk,hcd⟩:=F.ex;subst e0;refine⟨f,_,FO,hm,kp,BO8,BO8⟩
 ·obtain⟨_,_,_,Z⟩:=DR (us:=us) Ad8;exact Ba4 Z (X _ _ hT) Z Z Z
 ·have hl2:pb=2:=C9 hl
  obtain⟨_,_,Z⟩:=len2 (us:=us) (DA hl2);exact Ba4 Z (X _ _ hT) Z Z Z
theorem lJ:Da BFu BXa zc7:=BB
theorem zny(F:AX ACT A6Y zc7)(M:AT_ ACT)(mU:BRn)(ju:As zwx)(dY:As zi3)(Cu:BRO)(cJ:AKV)(aH:Ϭ)(bY:BWV)(cI:rg JU)(cN:rg UZ):BS6:=
 ⟨f,fd,BU gQ lJ zo8 zhl (by
  have nd:=lJ.nd;have hu:=bZ hr;exact(bL (CU (GE Tr (GM (ABp (Ċ Ti)) BZm Ai7 (G0 BFu BZm [0] zc7 Ai7) Z (Hn (yct (qv 2))) #[ABx Ai7 Ai7,_]) #[yZ,_] #[AUM ju Au_ (ze (Nf dY aH ID D3) A1),_]))
   (zw (yjb (fun F0=>(Fu (ai #[Nf mU cJ ID (ϱ bY) (KI (yfi Cu ID Z (AGW (ϱ cI) JE (ϱ cN))))]))))))) (Bn zoz),M,B7 (by show AHT;exact Z)⟩
theorem Bs:L8 BMG ML zr3:=BB
theorem z8x(F:AX AXr AXr zr3)(hm:By AXr)(fC:As zpl)(aP:IN):BMB:=
 ⟨f,fd,BU gQ Bs yes z0p (by
  have nd:=Bs.nd;have hu:=bZ hr;exact(bL (kU V0 1 Ati)
   (CU (bL (CU (N6 Z AMT AMz
   (CU (bL (CU (A2e (Ċ gG) (yhj (m4 (r9 (GE dM (GM Ac [Po] AyX (G0 BMG [Po] [2] zr3 AyX) Z (Hn (UP 1)) #[MD AyX,_]) #[A1R (AMV A9 A1),_] #[ĝ,_]))))))
   (zw (ZJ (i:=1) (Cn z8q) BcE PySem.F.type_list_insert Z EZ #[ao JE AL1]))))))
   (B3 AAy))))) (Bn ydk),hm,CM,B7 (by show NJ;exact Z)⟩
theorem mV:Da [HI,Al5,AmJ] [HI,Al5] zdm:=BB
theorem zpe(F:AX AOj AOj zdm)(hm:By Alk)(yM:BMB):BPV:=
 ⟨f,fd,BU gQ mV zqh zix (by
  have nd:=mV.nd;have hu:=bZ hr;exact(bL (PM (Afb yM))
   (ALx (GE dM (GM Ac ["count"] Aya (G0 [HI,Al5,AmJ] ["count"] [2] zdm Aya) Z (Hn (zx (dM (AJq wL BJ6)))) #[MD Aya,_]) #[yZ,_] #[VR (gF ALq A1 bx EC) (ARp (Im (qv 0))) VN,_])))) (Bn zpr),hm,CM,B7 (by show E4;exact Z)⟩
theorem qK:Da [AYU,HI] [AYU,HI] zg7:=BB
theorem zvg(F:AX AXs AXs zg7)(hm:By AXs)(fC:As zpl)(aP:IN):BPf:=
 ⟨f,fd,BU gQ qK zwq zng (by
  have nd:=qK.nd;have hu:=bZ hr;exact(Ø (r9 (GE dM (GM Ac [EU] Av4 (G0 [AYU,HI] [EU] [0] zg7 Av4) Z (Hn (UP 1)) #[MD Av4,_]) #[A1R (AFp fC A9),_] #[ĝ,_])))) (Bn zwo),hm,CM,B7 (by show E4;exact Z)⟩
theorem HX:L8 [HI] HI z3l:=BB
theorem yhe(F:AX AXt AXt z3l)(hm:By AXt)(nU:BPf)(c7:AKT)(Bm:As1):BMF:=
 ⟨f,fd,BU gQ HX ymy z8c (by
  have nd:=HX.nd;have hu:=bZ hr;exact(Ø (AeF (yjx Z Z c7 Z Bm (ao (GE dM Ag (dM (hV bx)) (GE dM (GM Ac [EU] Av3 (G0 [HI] [EU] [0] z3l Av3) Z (Hn (UP 0)) #[MD Av3,_]) #[yZ,_] #[Afz nU,_])) aL))))) (Bn ynf),hm,CM,B7 (by show NJ;exact Z)⟩
theorem Ef:AxN [ML,S_,"lists",o5] z28:=BB
theorem yew(F:AX AXu AXu z28)(hm:By AXu)(oK:As zvl):BPU:=
 ⟨f,fd,BU gQ Ef yjd z40 (by
  have nd:=Ef.nd;have hu:=bZ hr;exact(bL (kU V0 2 (hV (dM (hV bx))))
   #[bL #[N6 Z AAy (ϑ 3)
   (BQ1 (AZi oK (AGW A1 (ykq (i:=2) Z EZ ARu Ş) JE)))]
   (B3 wl)])) (Bn yib),hm,CM,B7 (by show E4;exact Z)⟩
theorem pF:AxN BIy zgd:=BB
theorem zs4(F:AX AXv AXv zgd)(hm:By AXv)(qQ:As z39)(d8:AFI)(mW:BYq):BQV:=
 ⟨f,fd,BU gQ pF zu2 zl3 (by
  have nd:=pF.nd;have hu:=bZ hr;exact(bL (CU (GE Tr (GM (ABp AgV) AdY AyZ (G0 BIy AdY [0] zgd AyZ) Z (Hn (om z1n mW Adz)) #[MD AyZ,_]) #[yZ,_] #[eO AsG Avi A1,_]))
   #[bL (BE_ (dM #[z80 Z Z d8 Z mW Asu]))
   (B3 (SU (Ac9 (dM #[z80 Z Z d8 Z mW Asv]))))])) (Bn zur),hm,CM,B7 (by show E4;exact Z)⟩
theorem oM:AxN A5U Ye:=BB
theorem zrd(F:AX AXw AXw Ye)(hm:By AXw)(mX:BQV)(iZ:As zra)(iz:AAl)(xW:Asz):BQB:=
 ⟨f,fd,BU gQ oM zss zlm (by
  have nd:=oM.nd;have hu:=bZ hr;exact(bL (kU V0 2 (hV bx))
   (CU (bL (CU (Zw Z (A3S A9 (AFp mX A9)) (Ahy 3 4)
   (CU (bL (CU (GM (ABp (ydw (i:=5))) AdY AzL (G0 A5U AdY [2,3] Ye AzL) Z (m4 (sZ (UP 0))) #[MD AzL,_] #[Og (yW (WE iZ (QY Q5 A1 (cO A9 (Im bx)) Ş) D3)),_] #[ĝ,_]))
   (CU (GE bK (ZJ (i:=2) (Cn ztt) Ba6 Ba7 Z) EZ (CU (KI (Atv ymr xW A6p (GE dM (GM Ac [x8] A2I (G0 A5U [x8] [0,4] Ye A2I) Z (Hn (UP 5)) #[MD A2I,_]) #[BJS (eO AsG Avi (qv 0)) D3,_] #[ĝ,_]))))))))))
   (B3 (SU (Ac9 D3))))))) (Bn zsv),hm,CM,B7 (by show E4;exact Z)⟩
theorem HY:Da [HI,S_,ML,"lists"] [HI,S_] ybx:=BB
theorem yh7(F:AX AXx AXx ybx)(hm:By AXx)(Gx:BMF)(qQ:As z39)(lD:BQB)(aP:IN):BQW:=
 ⟨f,fd,BU gQ HY yk3 yca (by
  have nd:=HY.nd;have hu:=bZ hr;exact(bL (PM (Afb Gx))
   #[bL (BE_ A9)
   #[bL #[gP #[gF (Cn ykg) AA' (kR JE ARu) WP]
   eD
   CD]
   (B3 (Q3 lD D3 A9))]])) (Bn ykp),hm,CM,B7 (by show E4;exact Z)⟩
theorem lK:Da BUf Art Qq:=BB
theorem zpj(AHv)(c:DV)(hr:ww 8 AIA Qq)(aK:AGV)(iK:As zn4)(eU:Asf)(cP:Asj)(A5q):AHS BUf AIA Qq Qq zei:=by
 have nd:=lK.nd;have hu:o4 AIA Qq:=ij
 exact(bL (AUb cI wl)
 #[bL (AUb cN Aev)
 #[bL (AUb bY (Azs (dM (A4V (wA cJ aR (qv 4))))))
 #[bL (AUb aY #[yi9 (AKI zr4 iK A9)])
 #[bL (sD zsg aH cu #[z7t (AKI zr4 eU A9)])
 #[bL (sD zsg aH bf AdP)
 #[bL #[N6 Z (BEG (om ycu c7 (KI (ϱ cu)))) (ϑ 6)
 (zw (yfe (i:=0) (j:=6) ah aH bf #[zym (m4 (Nf cP aH ID A1 (MU (qv 6) (ybg ah (ϱ cu) (qv 6)))))] Z EZ Z EZ))]
 #[bL (ka 7 (BEG (om z3g d8 Au8)))
 (GN (AUb aZ (Q3 dg (qv 7) (WE sS (qv 7) (qv 5)))))]]]]]]])
theorem znu(F:AX LW AIA Qq)(aK:AGV)(iK:As zn4)(eU:As zj2)(cP:Asj)(A5q):AHR 9 Art O5:=
 ANy lK yb0 zei (BU3 (zpj c hr aK iK eU cP dg sS)) yck
theorem znw(F:AX LW AIA Qq)(M:Mk K Ki f)(hm:Ya XU Ki)(aK:As Pb)(iK:As zn4)(eU:Asf)(cP:Asj)(A5q):BS7:=
 ⟨⟨f,fd,BU3 (znu c F aK iK eU cP dg sS),M,hm,B7 (by obtain⟨_,_,_,_,_,_,Z⟩:=acj hl;exact Z)⟩,Y1 yag⟩
theorem vX:ARa xw xw Qs:=BB
theorem z5x(AHv)(c:DV)(hr:ww 10 AIB Qs)(iM:Ase)(aK:AGV)(A5c):AHS (kl xw) AIB Qs Qs zoc:=by
 have nd:=vX.nd;have hu:o4 AIB Qs:=ij
 exact(bK #[gP (AMM Hc JA bA)
 (GN #[zyi #[rX ycy iM aN aU bH ID Z EZ (AGW JA JA JA)]])
 (GN #[gP (AMM Hc JA bA)
 eD
 (GN #[gP (AMM Hc JA bA)
 #[bL (sD zxu aN bU (É A9 bx))
 (AsX cF (É A9 bx))]
 (GN #[gP (AMM Hc JA bA)
 (AsX bM (Azs (AbF AEa)))
 (GN #[gP (AMM Hc JA bA)
 (AsX bI (SU (AJq AEa wL)))
 (GN (sD ydl aN aO #[zw6 cQ ID Z (ao (z7e (z4j (m4 (ye7 bT bH ID (ADd aN aU))))) (AGR (AiD bU) (AiD cF) (AiD bM) (AiD bI)))]))])])])])])
theorem z2s(F:AX Ĺ AIB Qs)(iM:Ase)(aK:AGV)(A5c):AHR 11 (kl xw) Vg:=
 ANy vX z5v zoc (A5Q (z5x c hr iM aK cQ bT bH aN)) z6k
theorem z1x(F:AX Ĺ AIB Qs)(M:Afj Ĺ)(iM:Ase)(aK:AGV)(A5c):BQj:=
 ġ (A5Q (z2s c F iM aK cQ bT bH aN))
theorem vY:BNg Qt:=BB
theorem z5n(AHv)(c:DV)(hr:ww 11 ACW Qt)(iQ:Asl)(fK:As zkq)(cX:As zf7)(bT:Adu)(AlR):AHS [N4,FU,xw] ACW Qt Qt zoh:=by
 have nd:=vY.nd;have hu:o4 ACW Qt:=ij
 exact(bL BER
 #[bL #[gP #[gF (Cn BL) AL9 (V6 Z bW) WP]
 (AgJ #[z6v cX aN ID (m4 A1) (m4 AL1)])
 CD]
 #[bL #[gP #[gF Hc AL9 bA EC]
 (AgJ #[zym (m4 (ze (ASl Uu fM Uv) BK3))])
 CD]
 #[bL #[zyi (BNN iQ AL1)]
 (AgJ #[bA])]]])
theorem z2j(F:AX TD ACW Qt)(iQ:Asl)(fK:As zkq)(cX:As zf7)(bT:Adu)(AlR):AHR 12 (kl FU) Nq:=
 ANy vY z6i zoh (z5n c hr iQ fK cX bT fM aP bW aN bH aU) z6l
theorem z1r(F:AX TD ACW Qt)(M:Afj TD)(iQ:Asl)(fK:As zkq)(cX:As zf7)(bT:Adu)(AlR):BQi:=
 ġ (z2j c F iQ fK cX bT fM aP bW aN bH aU)
theorem yN:BKl Qu:=BB
theorem z8k(AHv)(c:DV)(hr:ww 12 XO Qu)(iR:Asm)(eF:Adv)(dw:BKi)(aN:Æ):AHS BX0 XO Qu Qu zqk:=by
 have nd:=yN.nd;have hu:o4 XO Qu:=ij
 exact(bL (PM #[VN])
 #[bL #[Ċ z3d Z Z Z nd Z Z Z dw.1 dw.2 (fun F0=>(ArG (BNN iR Asu)))
 BSz]
 (AgJ wl)])
theorem z5j(F:AX XO XO Qu)(iR:Asm)(eF:Adv)(A5p):AHR 13 BXD CQ:=
 FT F yN (sL _ h (ycl h)) fun cdv A CF s H E hr F0 H0=>⟨zqk K c,z8k c hr iR eF dw aN,fun a bs t ds Q Ex h=>z8o BTf h⟩
theorem z66(F:AX XO XO Qu)(hm:By XO)(iR:Asm)(eF:Adv)(A5p):BRP:=
 BY2 (z5j c F iR eF dw aN iV cG iW cH fG bQ jV cL)
theorem rM:Da [A6j,A6i,AYI,A6s,AYG] [A6j,A6i] zl5:=BB
theorem zwm(F:AX AXy AXy zl5)(hm:By AXy)(fQ:AK0):BPF:=
 ⟨f,fd,BU gQ rM zyu zol (by
  have nd:=rM.nd;have hu:=bZ hr;exact(bL (kU V0 2 Ati)
   #[bL (da (AVD A1))
   #[bL #[z1w Z Z fQ #[ao A9 aL] (ϑ 4)
   #[bL (da (AVD (AJQ qe (AJQ yX JE))))
   (BQ1 JE)]]
   (B3 wl)]])) (Bn z0i),hm,CM,B7 (by show E4;exact Z)⟩
theorem vZ:L8 [x9,AmE] x9 zpy:=BB
theorem z1u(F:AX AXz AXz zpy)(hm:By AXz):BLu:=
 ⟨f,fd,BU gQ vZ z5y zs1 (by
  have nd:=vZ.nd;have hu:=bZ hr;exact(bL (Z3 (SU ANf))
   #[bL (AzB ANf)
   (B3 (SU #[zse (ARp (AJo A1)) bA]))])) (Bn z6d),hm,CM,B7 (by show NJ;exact Z)⟩
theorem pG:Da [AmM,x9] [AmM,x9] zjk:=BB
theorem zsm(F:AX AX0 AX0 zjk)(hm:By AX0):BMI:=
 ⟨f,fd,BU gQ pG zu8 zl4 (by
  have nd:=pG.nd;have hu:=bZ hr;exact(bL #[gP #[gF (Cn BL) Mb (AJj bA bA) WP]
   (B3 #[bx])
   CD]
   #[bL #[gP #[gF Hc Mb bA EC]
   (B3 #[bx])
   CD]
   #[bL #[gP #[gF (Cn BL) Mb (AJj bA bA) WP]
   (B3 (lj qe bx (AJo A9)))
   CD]
   (B3 #[bx])]])) (Bn zu5),hm,CM,B7 (by show E4;exact Z)⟩
theorem nj:Da [A6z,x9,AmE] [A6z,x9] zg4:=BB
theorem zpx(F:AX AX1 AX1 zg4)(hm:By AX1):BMJ:=
 ⟨f,fd,BU gQ nj zrh zka (by
  have nd:=nj.nd;have hu:=bZ hr;exact(bL (PM (SU (AQo (zlu A1 wL BJ6) (ao AUK (ao (zys (qv 0)) (AGR (QY qe (zys (zlu A1 wL (wM bx))) (zlu A1 (wM bx)) wL) AUK BGp BJJ))))))
   #[bL #[gP #[gF (Cn BL) (kR D3 (AJo A9)) (p7 (ao bA Aeh)) WP]
   (B3 #[bA])
   CD]
   (B3 (AMs D3 A9))])) (Bn zrp),hm,CM,B7 (by show E4;exact Z)⟩
theorem yO:Da [A6_,x9,"_law_bad_here","_law_other","_law_left","_law_comma","_law_right","_law_dash"] [A6_,x9] zsw:=BB
theorem z69(F:AX AX2 AX2 zsw)(hm:By AX2):BMK:=
 ⟨f,fd,BU gQ yO z7j zwc (by
  have nd:=yO.nd;have hu:=bZ hr;exact(bL (PM (AMs (AMU (ADR At2)) A9))
   #[bL (da (lj V1 A9 bx))
   #[bL #[gP #[gF (Cn ymx) bA A1 WP]
   #[bL #[yf1 (yaq A1 bA) (BPP 5)]
   (B3 (AMs (AMU (ao ON (ao BHl (AGR BHm AUK (AEH ON) (QY qe bA qv 6))))) JE))]
   CD]
   #[bL #[gP #[gF (Cn ymx) bA A1 WP]
   #[bL #[yf1 (yaq A1 bA) (BPP 7)]
   (B3 (AMs (AMU (ao ON (ao BHl (AGR BHm AUK BGp AUK)))) JE))]
   CD]
   (B3 (AMs (dM (AQo D3 Aeh)) JE))]]])) (Bn ybb),hm,CM,B7 (by show E4;exact Z)⟩
theorem qL:L8 [AYI,AmM,"_law_at",ACa,A6s] AYI zlb:=BB
theorem zu4(F:AX AX3 AX3 zlb)(hm:By AX3)(sU:BLu)(mY:BMI)(jN:BMJ)(vB:BMK)(aP:IN)(tR:Ad1)(jW:ES=205)(jd:Fh=181)(fH:FD=193)(nq:X9=169)(je:U1=150)(jf:pM=49)(jg:Fk=61)(jX:eS=73)(gJ:pS=85)(gK:pE=133)(fJ:xn=24)(nA:LV=265)(jY:XI=380)(nC:ER=830)(gM:Ki=678)(eG:c.jB=37)(fX:c.nY=97)(qM:c.V3=109)(jZ:c.Apart=121):BMC:=
 AGg (BU gQ qL zx5 zni (by
  have nd:=qL.nd;have hu:=bZ hr;exact(bL (Z3 (AJc sU Mb))
   #[bL (PM (lj xg Mb AcV))
   #[bL #[gP #[wu (z49 BAr (zyk (AEZ JA bA)))]
   (B3 (BXL (AJq wL AxQ) D3))
   CD]
   #[bL #[gP #[gF Hc Aqf bx EC]
   (B3 (BJH (wM (eO ApH D3 bx)) bA D3))
   CD]
   #[bL #[gP #[gF Hc Aqf bx EC]
   #[bL (da (lj qe (AEH (ADQ qe (Ut bA (dM (AJq wL AxQ))) (QY ymc bA (ASl ynh tR boot_int) (KI (VP ALq D3 bx EC))))) (Ut bA (AbF AxQ))))
   (B3 (AMs (AMU (MU JE (AEH (Ut bA A9)))) Mb))]
   CD]
   #[bL (ka 4 (Q3 mY A9 Mb))
   #[bL #[gP #[wu (z49 BAr (zyk (gF ALq ON bx EC)))]
   (B3 (BJH (wM (qv 4)) (WE vB (ARp ON) Mb) ON))
   CD]
   (B3 (BWu (hV (WE jN JA Mb)) AEa))]]]]]])) (BVA zxe))
theorem Lq:L8 BUm Ľ CT:=BB
theorem yn3(hr:ww 13 Su CT)(dz:As zg1)(gh:As zns)(jO:Asb)(gO:As zn3)(dh:As zqd)(gj:As zkv)(fL:As zji)(fQ:AK0)(fM:AEf)(aP:IN):sX (jh ADN P w K mg B9 BUm Su (bJ CT) f cdv A CF s H E) F0 H (v9 CT) (z3n K c):=by
 have nd:=Lq.nd;have hu:o4 Su CT:=ij
 exact(bL (kU yan 1 BIs)
 #[bL (PM (AVD (AFp gO bx)))
 #[bL #[N6 Z (SU #[o9 (ao (QY qe bA (ASl Uu fM Uv) AL1) (ao bA (ADR AoJ)))]) (ϑ 3)
 (GN #[zyi #[Aa9 dh ID Z Z EZ Asv]])]
 #[bL (ka 4 #[z7e (z4j (m4 (zr4 gh ID Z Asu)))])
 #[bL (kU yan 5 BIs)
 #[bL (ka 6 #[z9s jO ID Z])
 #[bL #[z1w Z Z fQ #[ao bx aL] (ϑ 7)
 #[bL (ka 8 (Q3 gj (AFp gO (QY qe bx qv 7)) bx))
 #[bL (da (AJc fL (qv 8)))
 #[bL #[gP #[gF Hc (AJo BY0) bx EC]
 (GN (da (É (qv 6) (QY xg BY0 A2T (KI (qv 6))))))
 CD]
 (GN #[gP #[wu (NT (BFt Aa9) (NT (yd0 (m4 (AEZ A'j ON))) (QV (BFt (Ni (i:=5))))))]
 AHQ
 CD])]]]]
 #[bL #[gP #[wu (NT (A_6 bA) (QV (A_6 ALU)))]
 AHQ
 CD]
 #[bL #[gP #[wu (NT (AhK bA) (QV (AhK bA)))]
 AHQ
 CD]
 #[bL #[gP #[wu (NT (AhK ALU) (QV (AhK ALU)))]
 AHQ
 CD]
 (B3 #[z8r (VP Hc (Aa9 dh ID Z Z EZ (ao bA aL)) bA EC) (z9o (zym (m4 (VP Hc A'j ON EC))))])]]]]]]]]])
theorem ygs(F:AX Su Su CT)(dz:As zg1)(gh:As zns)(jO:Asb)(BUo):ų 14 BYS (pL K (z4b c)):=
 BU gQ Lq yn0 z3n (yn3 c hr dz gh jO gO dh gj fL fQ fM aP) (BVA yn9)
theorem yod(F:AX Su Su CT)(hm:By Su)(dz:As zg1)(gh:As zns)(jO:Asb)(BUo):VZ Su 14 Ľ z4b:=
 AGg (BVB (ygs c F dz gh jO gO dh gj))
#where
theorem ymo{l:W.OpenLaw}{w:AZ}{K:Φ}{h:AN}{mg:DT}{fa:Η}(O:AWm)(X:Sl)(G:AUo)(hfa:Ya Su fa):
 ∃fd:ET,(∀(s:AC) (v:AD),BindsTo s fd (HG [v]) [(Ľ,v)])/\BR6 (fY AIm w K mg B9 (gC AIm w) 14 fa fd BYS (pL K zwz)):=by
 obtain⟨B,L⟩:=APn O;show AQ L M (APn L);show ADf M TB APn M Lr TB Bbt TB;have Pg:=ADG 0;have Ls:=ADG 1;have Eh:=ADG 2;show Ct Vl 3 Lx 4 Ly 5 Lz 6;show Ct Ph 7 Ji 8 Jj 9 Ei 10;show Ct Vm 11 Pj 12 Vn 13 Jk 14;show Ct Pk 15 Vo 16 acq 17 aaH 18;show Ct Pn 19 Pq 20 Pr 21 Pu 22;show Ct Px 23 Py 24 LC 25 LK 26;show Ct LQ 27 LR 28 Ma 29 Mf 30;show Ct Pz 31 PB 32 PJ 33 PK 34;show Ct PL 35 PN 36 Gy 37 Gz 38;show Ct GC 39 GD 40 GF 41 GJ 42;show Ct cg 43 bw 44 aR 45 aU 46;show Ct bU 47 cF 48 bM 49 bI 50;show Ct aO 51 bf 52 aZ 53 aY 54;show Ct bY 55 cI 56 cN 57 cu 58;show Ct a0 59 n0 60 a4 61 n4 62;show Ct a5 63 n5 64 a20 65 n20 66;show Ct a21 67 n21 68 a23 69 n23 70;show Ct a24 71 n24 72 a25 73 n25 74;show Ct a26 75 n26 76 a27 77 n27 78;show Ct a35 79 n35 80 a61 81 n61 82;show Ct a65 83 n65 84 a74 85 n74 86;show Ct a75 87 n75 88 a76 89 n76 90;show Ct a22 91 a67 92 PX 93 Mg 94;show Ct Ej 95 Vp 96 Mh 97 Mi 98;show Ct Mj 99 Qa 100 Jl 101 Jm 102;show Ct Ek 103 aaw 104 aax 105 aay 106;show Ct Qc 107 aaz 108 aaA 109 aaB 110;show Ct aaC 111 El 112 Ml 113 Cw 114;show Ct Cy 115 Vq 116 aaD 117 Vr 118;show Ct aaE 119 Qd 120 aaF 121 GK 122;show Ct Am 123 wC 124 wD 125 Mp 126;show Ct Mq 127 um 128 uo 129 Mr 130;show Ct Ms 131 uW 132 uX 133 uY 134;show Ct uZ 135 u9 136 xZ 137 kO 138;show Ct kW 139 mF 140 jF 141 jG 142;show Ct kY 143 nO 144 kZ 145 iC 146;show Ct mG 147 vd 148 vf 149 vg 150;show Ct vh 151 vm 152 yg 153 lg 154;show Ct lq 155 mH 156 jH 157 jJ 158;show Ct lu 159 nP 160 lA 161 iD 162;show Ct mJ 163 oU 164 oV 165 oW 166;show Ct oX 167 oY 168 qD 169 iG 170;show Ct iH 171 jq 172 ig 173 iu 174;show Ct iI 175 jK 176 iJ 177 gB 178;show Ct jr 179 yh 180 yj 181 yq 182;show Ct yr 183 yt 184 Cm 185 mK 186;show Ct mL 187 nQ 188 lB 189 lC 190;show Ct mO 191 oZ 192 mQ 193 jt 194;show Ct nR 195 iV 196 cG 197 iW 198;show Ct cH 199 fG 200 bQ 201 jV 202;show Ct cL 203 jW 204 jd 205 fH 206;show Ct nq 207 je 208 jf 209 jg 210;show Ct jX 211 gJ 212 gK 213 fJ 214;show Ct nA 215 jY 216 nC 217 gM 218;show Ct eG 219 fX 220 qM 221 jZ 222
 let c:DV:={bh:=Pe Sz,bG:=Pe RU,aJ:=Pe RY,Open:=Pe ĳ,eV:=Pe Ĵ,gq:=Pe ĵ,bC:=Pe S4,jz:=Pe xh,Missing:=Pe Ķ,fj:=Pe ķ,aW:=Pe AH6,dF:=Pe Rc,Scale:=Pe Re,aV:=Pe XT,aA:=Pe XU,jB:=Pe A6H,nY:=Pe A6I,V3:=Pe "Few",Apart:=Pe "Apart"}
 show D1 bH sv ⟨Pn,Pq,Pr,Pu⟩ cJ AKV ⟨LC,LK,LQ,LR⟩ aN Æ ⟨Pz,PB,PJ,PK⟩ aH Ϭ ⟨Gy,Gz,GC,GD⟩;show D1 bD xS (o0 Pg PX) gH AkS (o0 Ls Mg) dR A2P (o0 Eh Ej) qC BXv (o0 Vl Vp);show D1 jU BXw (o0 Lx Mh) oJ BXp (o0 Ly Mi) eY ASs (o0 Lz Mj) qP BKh (o0 Ph Qa);show D1 lV A2Q (o0 Ji Jl) lW A2R (o0 Jj Jm) dw BKi (o0 Ei Ek) Bj Asy (Pf aaw);show D1 aP IN (Pf aax) iz AAl (Pf aay) tQ Asx (Pf Qc) xW Asz (Pf aaz);show D1 tR Ad1 (Pf aaA) Li (MV "abs") (Pf aaB) fM AEf (Pf aaC) fD Ad2 (Pf El);show D1 c7 AKT (Pf Ml) aX ATG (Pf Cw) jo Asw (Pf Cy) Gw (MV AOi) (Pf Vq);show D1 Bk As0 (Pf aaD) d8 AFI (Pf Vr) Bm As1 (Pf aaE) fQ AK0 (Pf Qd);show D1 Ln (MV xk) (Pf aaF) mW BYq (Pf GK) gb AjU (A2S Am) mC BFg (A2S wC);show D1 mR BFh (A2S wD) Ck BFp (BHH Mp Mq (LE 3)) bW BV' (BHH um uo (LE 6)) wO (Tab AIm w K mg Alm X8) (Hd.tab_of X G Mr Ms Lr Md)
 show FY f1 fd1 a1 Qe 0 f2 fd2 a2 Mt 1;show FY f3 fd3 a3 GP 2 f6 fd6 a6 Vs 3;show FY f7 fd7 a7 Cz 4 f8 fd8 a8 Em 5;show FY f9 fd9 a9 Jo 6 f10 acv a10 GQ 7;show FY f11 acw a11 GR 8 f12 acy a12 Jp 9;show FY f13 acz a13 wF 10 f14 acA a14 GX 11;show FY f15 acB a15 En 12 f16 acC a16 CG 13;show FY f17 acD a17 CJ 14 f18 acE a18 Eo 15;show FY f19 acF a19 GZ 16 f28 acG a28 Ep 17;show FY f29 acH a29 G3 18 f30 acI a30 G4 19;show FY f31 acJ a31 Jq 20 f32 acK a32 G5 21;show FY f33 acL a33 Jr 22 f34 acM a34 Js 23;show FY f36 acN a36 Vt 24 f37 acO a37 Mu 25;show FY f38 acP a38 Jt 26 f39 acQ a39 Mv 27;show FY f40 acR a40 Er 28 f41 acS a41 Ju 29;show FY f42 acT a42 Jv 30 f43 acU a43 Es 31;show FY f44 acV a44 aaG 32 f45 acW a45 Mw 33;show FY f46 acX a46 Ao 34 f47 acY a47 Et 35;show FY f48 acZ a48 Jw 36 f49 ac0 a49 Vu 37;show FY f50 ac1 a50 Qf 38 f51 ac2 a51 Qg 39;show FY f52 ac3 a52 Mx 40 f53 ac4 a53 Qh 41;show FY f54 ac5 a54 Eu 42 f55 ac6 a55 Mz 43;show FY f56 ac7 a56 vC 44 f57 ac8 a57 G6 45;show FY f58 ac9 a58 Qi 46 f59 ada a59 Vv 47;show FY f60 adb a60 Jx 48 f62 ade a62 yP 49;show FY f63 adf a63 Vw 50 f66 adg a66 MF 51;show FY f68 adh a68 Aq 52 f69 adi a69 Vx 53;show FY f70 adk a70 Qj 54 f71 adl a71 yQ 55;show FY f72 adn a72 wG 56 f73 ado a73 Vy 57;show FY f77 adp a77 Jy 58 f78 adq a78 CK 59;show FY f79 adt a79 G7 60 f80 adu a80 yR 61;show FY f81 adw a81 vD 62 f82 adx a82 Jz 63;show FY f83 ady a83 Ar 64 f84 acn a84 Ss 65;show AQ fd0 wH (AO3 (ADk 0));show Abo fd4 vG 1 fd5 wJ 2 adz lM 3 adA qN 4;show Abo adB wK 5 adC pH 6 adD nD 7 adE rN 8;show Abo adF v7 9 adG v8 10 adH yS 11 adI qO 12;obtain⟨f64,_,_,_,_,_,a64,Qk,aco⟩:=Hd.funM_at (ADk 13);show AQ adJ mZ (AO3 (ADk 14));show Abo adK uq 15 adL sV 16 adM yU 17 adN yV 18;have e:=hfa.symm.trans (AmV X G a84);cases e;refine⟨acn,Hd.start_binds Ss (fun _ _ _ _ _ _ _=>Z),A0 B9 kb nb⟩;have dZ:=UV zrq c wH ⟨Px,AQH a0,n0,Py⟩ (AOJ Vm) bH cg bw;have fC:=xI yee Qe a1;have xV:=IQ z8p Mt a2 fC;show Ll mz (IQ z2w GP a3 xV Bj aP iz) aK (UV zp9 c vG ⟨Ma,AQH a4,n4,Mf⟩ (AOJ Pj) mz tQ cJ aR) dz (A5Q (UV zro c wJ ⟨PL,AQH a5,n5,PN⟩ (AOJ Vn) dZ aK gb aN)) Gv (AHY yhq Vs a6 xW bD wO);show Ll cj (IQ zxw Cz a7 tR aP bD mC) qx (xF zy5 Em a8 bD Ck) lU (IQ z5w Jo a9 Li) bN (IQ z2c GQ a10 lU);show Ll sG (IQ z2n GR a11 cj) jE (IQ z6c Jp a12 fM) d7 (kX zrk c wF (Ţ a13) bN cj sG jE aP bD) sI (xF z2i GX a14 d7 bD);show Ll iU (xF zzj En a15 aP bD) oO (xF zxd CG a16 iU d7) oR (xF zw0 CJ a17 iU cj) qy (Ĥ z0l Eo a18 cj qx sI oO oR);show Ll fK (Ĥ z2t GZ a19 Gv qy aP iz bD) gZ (UV znd c lM (iF a20 n20 lM.kp) gH aH bf) fV (UV zt7 c qN (iF a21 n21 qN.kp) gZ aH bf) kE (kX zrj c wK (AOJ a22) fC fD aP);show Ll kJ (UV zre c pH (iF a23 n23 pH.kp) kE fV aH aZ) dY (UV zon c nD (iF a24 n24 nD.kp) aH aY) cX (UV zva c rN (iF a25 n25 rN.kp) jE fV kJ dY fM dR aN aH aO) bT (UV zy3 c v7 (iF a26 n26 v7.kp) c7 bH bw);show Ll qF (UV zzk c v8 (iF a27 n27 v8.kp) fK cX bT fM aP bW aN bH aU) eF (Ĥ z0y Ep a28 aX jo aP qC jU oJ eY qP lV lW gH dR bD uW uX uY uZ u9 xZ kO kW mF jF jG kY nO kZ iC mG vd vf vg vh vm yg lg lq mH jH jJ lu nP lA iD mJ oU oV oW oX oY qD iG iH jq ig iu iI jK iJ gB jr yh yj yq yr yt Cm mK mL nQ lB lC mO oZ mQ jt nR) sJ (Ĥ z06 G3 a29 qF eF dw aN iV cG iW cH fG bQ jV cL) gh (IQ z2k G4 a30 sJ);show Ll jO (xI z57 Jq a31) gO (IQ z17 G5 a32 aP) jL (AHY z5q Jr a33 aX Gw tR) iY (Ĥ z5g Js a34 Bj aX fM aP mR);show Ll iM (UV z2b c yS (iF a35 n35 yS.kp) jL iY eY bH bw cg) Cp (IQ yip Vt a36 Bk) yD (IQ yac Mu a37 Cp d8 c7 Bm) eU (xI z5z Jt a38);show Ll yK (IQ yce Mv a39 yD eU c7 d8) qH (IQ zzi Er a40 lU) vo (IQ z53 Ju a41 iz) vp (xF z68 Jv a42 vo fD);show Ll qG (IQ zzp Es a43 d8) Lk (AHY ym3 aaG a44 qG fQ aP) yH (kX z9p c Mw (Ţ a45) qH vp bN Lk fQ aP iz fD) cY (xI zus Ao a46);show Ll iZ (xI zy9 Et a47) oK (xF z6m Jw a48 iZ Bk) o7 (IQ yji Vu a49 bN) lQ (xF ycr Qf a50 oK o7);show Ll Cq (IQ ydm Qg a51 cY lQ o7 aP) yI (IQ ya2 Mx a52 Cq) ju (IQ ydo Qh a53 bN) qJ (AHY z0w Eu a54 bN Ln aP);show Ll yJ (IQ z7r Mz a55 lQ ju qJ cY) jM (Ĥ zqr vC a56 yH yI yJ cY aP) iK (Ĥ z2e G6 a57 yK jM eU d8 iz) Cr (IQ yev Qi a58 bN);show Ll vq (IQ yie Vv a59 bN) vA (IQ z6x Jx a60 Cr o7 ju vq) mU (UV zs6 c qO (iF a61 n61 qO.kp) fC vA iz cJ aR) eZ (xI zuc yP a62);show Ll sO (AHY yjz Vw a63 vq lQ aP) Cu (kX ydg c Qk aco (Ţ a64) eZ sO aP) cP (UV zny c mZ (iF a65 n65 mZ.kp) mU ju dY Cu cJ aH bY cI cN) yM (xF z8x MF a66 fC aP);show Ll dg (kX zpe c uq (AOJ a67) yM) nU (xF zvg Aq a68 fC aP) Gx (AHY yhe Vx a69 nU c7 Bm) qQ (IQ yew Qj a70 oK);show Ll mX (AHY zs4 yQ a71 qQ d8 mW) lD (IQ zrd wG a72 mX iZ iz xW) sS (IQ yh7 Vy a73 Gx qQ lD aP) cQ (UV znw c sV ⟨GF,AQH a74,n74,GJ⟩ (AOJ Jk) aK iK eU cP dg sS c7 d8 aH cJ cI cN bY aY cu bf aZ aR);show Ll iQ (UV z1x c yU (iF a75 n75 yU.kp) iM aK cQ bT bH aN aU bU cF bM bI aO) iR (UV z1r c yV (iF a76 n76 yV.kp) iQ fK cX bT fM aP bW aN bH aU) dh (Ĥ z66 Jy a77 iR eF dw aN iV cG iW cH fG bQ jV cL) gj (IQ zwm CK a78 fQ);show Ll sU (xI z1u G7 a79) mY (xI zsm yR a80) jN (xI zpx vD a81) vB (xI z69 Jz a82);have fL:=Ĥ zu4 Ar a83 sU mY jN vB aP tR jW jd fH nq je jf jg jX gJ gK fJ nA jY nC gM eG fX qM jZ;exact BVB (kX ygs c Ss dz gh jO gO dh gj)
theorem hd_D(ĭ):BUz:=Hd.both (p:=fun w=>BUz) (fun w=>Hd.shot_two (o1:=fun K=>AdD) (o2:=JX) (ynq w os) (yoa w os)) (fun w=>Hd.shot_two (o1:=fun K=>AdD) (o2:=JX) (ynw w os) (yn8 w os)) w
theorem hd_wit:lw.row.toRowW.promised:=by w_witness2
theorem hd_w:W.WalkO vw RS BYn (fun w h=>∃K:Φ,Sl/\AWm) Baf (A6a CT) [] (fun f vs=>A7' f vs):=
 Lu Hd.walk_ex n 63 k 14 x Ľ CX (fun w=>gC lw.prog w) (sp:=fun K=>pL K zwz) (Fx:=fun w K=>AWm) Z BF hd_z ⟨Z,De,De⟩ (Avj) (fun w K mg fa h O X G hm=>ymo O X G (hd_n ▸ hm)) (fun K H a ns hl hO hS=>ybz hl hS) (AOT _ z (yfk z))
#print Lw
end
theorem PySem.Challenge.cw_hall_k83_no_row_holds : PySem.Challenge.rw_hall_k83_no_row.Holds :=
 Hd.holds Lw.hd_said (Hd.left Lw.hd_e Lw.hd_f Lw.hd_A Lw.hd_B Lw.hd_C Lw.hd_D) Lw.hd_d Lw.hd_p Lw.hd_k Lw.hd_ok Lw.hd_bare Lw.hd_wit rfl Lw.hd_w
