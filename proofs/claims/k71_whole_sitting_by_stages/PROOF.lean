import PyProof.Rows.All
import Wide.All
import OpenK.AllK
import Wide.FinOn
import Lean
import PyProof.EqAt
import PyProof.EqKinds
import PyProof.TupleCall
import PyProof.NeKinds
import PySem.Challenge.RW_hall_k71_whole_sitting_by_stages
set_option Elab.async false
set_option linter.all false
set_option maxRecDepth 100000
set_option maxHeartbeats 4000000
set_option compiler.extract_closed false
set_option genSizeOf false
set_option genInjectivity false
set_option bootstrap.genMatcherCode false
open Lean in
local macro_rules|`(command|mutual $cs* end)=>do
 let cs:=cs.map fun c=>c.raw
 unless cs[0]!.isOfKind ``Parser.Command.where do Macro.throwUnsupported
 let ps:Array Name:=#[`ε,`ζ,`η,`θ,`ι,`ν,`ξ,`ο,`π,`ρ,`τ,`υ,`χ,`ψ,`ω,`Α]
 let ap:= ``Parser.Term.app
 let un:=fun(s:Syntax)=>if s.isOfKind `par then s[0] else s
 let more:=fun(f:Syntax)(as:Array Syntax)=>if as.isEmpty then f else if f.isOfKind ap then .node .none ap #[f[0],mkNullNode (f[1].getArgs++as)] else .node .none ap #[f,mkNullNode as]
 let put:=fun(b:Syntax)(as:Array Syntax)=>b.rewriteBottomUp fun s=>match s with
  |.ident _ _ n _=>match ps.idxOf? n with
   |some i=>.node .none `par #[as.getD i s]
   |none=>s
  |.node i k l=>
   if k==ap&&s[0].isOfKind `par then
    let f:=s[0][0]
    more (if f.isOfKind ``Parser.Term.paren then f[1] else f) (s[1].getArgs.map un)
   else .node i k (l.map un)
  |s=>s
 let ex:=fun(tb:Std.HashMap Name (Nat×Syntax))(c:Syntax)=>c.rewriteBottomUp fun s=>
  let spl:=fun(l:Array Syntax)(k:SyntaxNodeKind)=>if l.any (·.isOfKind `spl) then l.flatMap fun x=>if x.isOfKind `spl then if k==nullKind then x.getArgs else #[x[0]] else #[x] else l
  match s with
  |.ident _ _ n _=>match tb[n]? with
   |some (0,b)=>b
   |_=>s
  |.node i k l=>
   if k==ap then match s[0] with
    |.ident _ _ n _=>match tb[n]? with
     |some (m,b)=>let as:=s[1].getArgs;more (put b (as.extract 0 m)) (as.extract m as.size)
     |_=>s
    |f=>if f.isOfKind ap then more f s[1].getArgs else s
   else if k== ``Parser.Tactic.show&&s[1].isOfKind ``Parser.Term.byTactic then .node .none `spl s[1][1][0][0].getArgs
   else if k== ``Parser.Term.explicitBinder&&s[2].getNumArgs==0 then
    let as:=s[1].getArgs
    match s[1][0] with
    |.ident _ _ n _=>match tb[n]? with
     |some (_,b)=>.node .none `spl (put b (as.extract 1 as.size))[1].getArgs
     |_=>s
    |b=>if b.isOfKind ``Parser.Term.forall then .node .none `spl b[1].getArgs else s
   else if k== ``Parser.Term.paren&&s[1].isOfKind ``Parser.Term.typeAscription then s[1]
   else .node i k (spl l k)
  |s=>s
 let mut tb:Std.HashMap Name (Nat×Syntax):={}
 for a in cs[1]![1][3][0][0][0].getArgs do
  let b:=ex tb a[3]
  let b:=if b.isOfKind ``Parser.Term.paren&&b[1].isOfKind ``Parser.Term.byTactic then b[1] else b
  let mut n:=0
  for x in b.topDown do
   if ps.contains x.getId then n:=n+1
  tb:=tb.insert a[1][0][0].getId (n,b)
 let mut au:Array Syntax:=#[]
 let mut o:=#[]
 for c in cs.extract 2 cs.size do
  if c.isOfKind ``Parser.Command.print then o:=o.push (<-`(command|end $(⟨c[1]⟩):ident)).raw
  else if c.isOfKind ``Parser.Command.where then o:=o.push (<-`(command|end)).raw
  else
   let c:=ex tb c
   for b in c.topDown do
    if b.isOfKind ``Parser.Term.binderTactic&& !au.contains b[2] then
     au:=au.push b[2]
     o:=o.push (<-`(command|theorem $(mkIdent (.str (.mkSimple "_root_") s!"_a{au.size}")) (h:True:=by $(⟨b[2]⟩)):True:=h)).raw
   let v:=au
   o:=o.push (c.rewriteBottomUp fun d=>match d with
    |.atom _ v=>.atom .none v
    |.ident _ r n p=>.ident .none r n p
    |.node _ k l=>
     let d:=Syntax.node .none k l
     if k== ``Parser.Command.declaration&&(d[1].isOfKind ``Parser.Command.definition||d[1].isOfKind ``Parser.Command.abbrev)&&d[1][1][0].getId != `lw then d.setArg 0 (d[0].setArg 4 (mkNullNode #[.node .none ``Parser.Command.noncomputable #[mkAtom "noncomputable"]]))
     else if k== ``Parser.Term.explicitBinder&&d[3][0].isOfKind ``Parser.Term.binderTactic then
      match v.idxOf? d[3][0][2] with
      |some i=>(d.setArg 3 (mkNullNode #[])).setArg 2 (mkNullNode #[d[2][0],.node .none ap #[mkIdent ``autoParam,mkNullNode #[d[2][1],mkIdent (.str (.str (.mkSimple "_root_") s!"_a{i+1}") "_auto_1")]]])
      |none=>d
     else d
    |s=>s)
 return mkNullNode o
mutual
#where
def q
|Β=>rfl|Δ=>Nat|Ε=>some|Ζ=>Addr|Η=>none|Ι=>Prop|Κ=>Str|Μ=>true|Ξ=>rows|Ο=>pins|Τ=>this|Ψ=>pos|Ω=>Γ1|AA=>W.Frag|AB=>Int|AC=>Shared|AE=>false|AG=>X.K|AH=>kvs|AJ=>Value|AK=>Expr|AL=>Rat|AM=>Heap|AN=>Pos|AO=>Stmt|AT=>Bool|AU=>int|AW=>its|AX=>str|AY=>cons|An=>World|A0=>Program|A2=>acc|A5=>own|A6=>key|A9=>s.heap|A_=>hlt|BD=>inr|BE=>X.env|BF=>Γ2|BO=>hq1|Be=>env|Bi=>Around|By=>xs.length|Bz=>hq2|B3=>top|B4=>Γ'|B9=>ref|B_=>sub|CO=>F.kp|CY=>prog|Ch=>Type|Cl=>s.heap.objs.size|Cn=>hz1|C3=>base|C8=>List.length_map|DC=>lst|DD=>outer|DH=>inl|DI=>σ'|DS=>pre|DV=>one|Dx=>tup|D4=>hok|D6=>False|D8=>nil|EA=>ho'|EB=>name|EC=>fin|EH=>upd|EI=>hpl|EJ=>Rep|EK=>hkl|EO=>List|EQ=>zU.mp|ER=>Slot|EU=>s₁|EV=>l.map|E2=>qual|E3=>s1.heap.objs.size|E5=>post|E8=>args|FE=>value|FS=>List.getElem?_map|FU=>es.size|Ff=>trans|Fh=>hlen|Fk=>caps|GA=>FuncData|GL=>List.map_cons|HA=>D.int|HC=>cpos|HE=>l.length|HM=>rest|HP=>bare|HQ=>RelV|HR=>X.prog|Hk=>c.ao|Hm=>get?|Hn=>pure|H_=>List.length_cons|IM=>True|IN=>"hand"|IO=>ns.length|IP=>trivial|IQ=>vals|IR=>qs.length|I_=>names|JA=>Frag|JE=>hbase|JI=>bs.length|KB=>PySem|KE=>String|KF=>Vals|KG=>keep|KI=>I.hok|KK=>s₂|KL=>pos'|KM=>done|KO=>vs.length|KP=>List.cons_append|Kk=>m.length|Kt=>scope|Kx=>next|K0=>"__init__"|K2=>"mark"|K_=>s₀|LL=>PyProof.Rows|LM=>"marks"|LN=>slot|LO=>zT.mp|LP=>ps.length|LS=>apos|LT=>List.length|LU=>R1.g|LV=>ps.map|LW=>List.getElem?_cons_succ|L6=>body|L7=>"list"|L8=>"some"|L9=>Same|L_=>gr.f|L'=>hName|MA=>List.map|MB=>List.nil_append|Mc=>s.toks|Md=>"work"|Me=>h.get?|Mm=>h.objs.size|Mn=>hline|Mo=>List.set_cons_zero|My=>List.set_cons_succ|M0=>Rat.div_def|NL=>c.bh|NM=>List.append|NN=>List.getElem?_cons_zero|NO=>wpAny|NR=>ys.length|NS=>ws.length|NU=>"self"|NV=>List.map_map|NW=>hold|OB=>"sheets"|OC=>Nodup|OE=>cont|OF=>items|OG=>iter|OH=>ks.length|OI=>ds.length|OK=>l.getD|Op=>Scope|Os=>ws.map|Oy=>hs.map|O0=>decide|O_=>X.stack|PD=>s.heap.get?|PF=>self|PH=>ks.map|PM=>hdct|PP=>cutD|PQ=>Rat.intCast_mul|P4=>PySem.Spec|P5=>c.Open|P6=>congrArg|P7=>push|P8=>sc.names|P9=>List.length_append|P_=>decide_eq_true|QP=>leaf|QQ=>List.getD_eq_getElem?_getD|QU=>p.getD|SA=>fmod|SB=>"table"|SC=>Sum.inr|SD=>its.toArray|SE=>h'.get?|SG=>H₀|SH=>X.base|SI=>wpAny_mono|SK=>r.length|SL=>item|SO=>q.elim|Ty=>Str.empty|T0=>work|T1=>"law"|T_=>treeTable|T'=>Value.ref|UA=>if_neg|UB=>D.str|UC=>elim|UD=>D.nx|UE=>turn|UF=>"_law_script"|UH=>"other"|UI=>Heap.size_push|UK=>List.append_nil|UM=>fu.move|UN=>zero|UO=>succ|UP=>List.map_append|Wp=>hands|W_=>"grade"|W'=>X.env.locals|XA=>X.N.Nodup|XB=>"sheet"|XE=>"place"|XG=>items.size|XI=>List.size_toArray|XL=>getD|XN=>R.sl|XT=>same|XU=>List.lookup_cons|XX=>List.mem_range.mp|aE=>List.mem_map|aI=>K.lookup|aS=>loose|aT=>"reach"|ac=>"points"|ad=>"rule"|ae=>"gap"|ai=>"reversed"|al=>decide_eq_false|am=>s'.heap|av=>I.kIn|aw=>rawInt|ax=>_HT.sIx|ay=>L.map|a_=>h₁|bE=>ks.zip|bP=>default|bS=>Int.gcd|bc=>a.den|d4=>mids|d5=>c.Apart|d_=>c.qM|eA=>"sorted"|eB=>"zip"|eC=>Value.none|eI=>absurd|eJ=>free|eK=>D.lst|eL=>eval|eP=>its'|eQ=>toNat|eR=>"hands"
|eS=>Bool.and_eq_true|ef=>Gr.refl|eg=>ms.map|ei=>Perm|e_=>hit'|fA=>comb|jn=>cols|jp=>rows.length|js=>c.Scale|jv=>m.map|j_=>"borders"|j'=>"set"|kA=>symm|kB=>us.length|kC=>kvs.length|kD=>xs.map|kF=>X.fs|kG=>I.cell|kH=>Ends|kK=>Name|kL=>I.list|kM=>"rows"|kN=>"order"|kP=>"bounds"|kQ=>"row"|kR=>"end"|kT=>error|kU=>slice|kX=>pl.isList|ka=>putK|kg=>ns.getD|ki=>bs.map|ko=>zB.mp|kq=>e.symm|kr=>b.num|ku=>List.filter_cons|pb=>ws.Nodup|pd=>"tuple"|pe=>mainGlobals|pf=>"range"|ph=>_Hd.ex|pj=>o.data|pk=>X.mg|pp=>I.loc|pr=>Array.length_toList|pv=>wpAny_newObj_type|pz=>toArray|p_=>rule|qA=>call|qB=>List.length_take|qE=>p.xf|qS=>h₂|qV=>s₃|qa=>vs.toArray|qc=>as.Nodup|qf=>A.in1|qh=>Int.toNat_natCast|qi=>SetTable|qo=>pos2|qq=>List.map_congr_left|xB=>xs.toList|xC=>f.length|xD=>"Barred"|xE=>"Open"|xF=>"leaning"|xI=>B.len|xL=>rows.take|xN=>I.free|xc=>I.ok|xh=>zV.mp|xi=>X.xe|xj=>holding|xk=>"ahead"|xl=>"part"|xn=>Attribute|xo=>"dict"|xp=>"_law_work"|xt=>cellsFrom|xw=>hbody|xx=>if_true|xy=>its.toArray.size|xz=>hfew|x5=>ns.map|x6=>_2.upd|x_=>Classical|yA=>X.wsh|yB=>of_decide_eq_true|yT=>sF.seq|yY=>List.take_length|ya=>xs.getD|yb=>hmro|ye=>Rat.mul_assoc|Ġ=>fdiv|ġ=>List.mem_cons_self|Ģ=>List.mem_cons|ģ=>List.mem_filter|Ĥ=>m.getD|ĥ=>Option|Ħ=>S.marks|ħ=>rows.map|Ĩ=>"apart"|ĩ=>"enumerate"|Ī=>"sum"|ī=>"worth"|Ĭ=>h1.get?|ĭ=>filter|Į=>isSome|į=>objs.size|İ=>K.In|ı=>B.wm|Ĳ=>I.bare|ĳ=>I.tuple|Ĵ=>z.fdiv|ĵ=>G.xf|Ķ=>I1.hok.fresh|ķ=>"bound"|ĸ=>getMethod|Ĺ=>List.lookup|ĺ=>s2.trans|Ļ=>I1.kIn|ļ=>sF.trans|Ľ=>Int.natAbs_mul|ľ=>hacc|Ŀ=>List.append_assoc|ŀ=>bs.getD|Ł=>List.zipWith|ł=>List.mem_singleton.mp|Ń=>pick|ń=>mono|Ņ=>U.length|AA'=>nextT|ABG=>List.mem_singleton|ABH=>OsState|ABJ=>f.getD|ABK=>ms.flatten|ABL=>c.gA|ABM=>"Scale"|ABN=>"Sitting"|ABO=>outD|ABP=>"scale"|ABQ=>"must_have"|ABR=>Array|ABS=>if_pos|ABT=>data|ABU=>ps.drop|ABV=>X.outer|ABW=>X.ex|ABX=>I.pin|ABY=>List.getElem?_set_self|ABZ=>most|ABa=>Tuple|ABb=>Subscript|ABc=>wpAny_holding|ABd=>stop|ABe=>contains|ABf=>j.toNat|ABg=>step|ABh=>"found"|ABi=>W.emptyDict|ABj=>lookup|ABk=>sI.map|ABl=>s₁.heap|ABm=>TR.move|ABn=>fu.there|ABo=>D2.nx|ABp=>z.pn|ABq=>R.grow|ABr=>s1.trans|ABs=>Γ1.set|ABt=>cx.px|ABu=>X.hand|ABv=>z.symm|ABw=>s2.heap.push|ABx=>npos|ABy=>hit2|ABz=>is.map|AB_=>Slot.tr|AB'=>items2|ACG=>hand|ACH=>natAbs|ACI=>q.num|ACJ=>D.tup|ACN=>rs.length|AGQ=>List.length_pos_iff.mpr|AGR=>jz.mp|AGS=>Rat.add_zero|AGT=>List.eq_nil_of_length_eq_zero|AGU=>ls.map|AGV=>ws.filter|AGW=>works|AGX=>S.leans|AGY=>"BaseException.__getattribute__"|AGZ=>"reckoned"|AGa=>List.range|AGb=>Nat.le_of_lt|AGc=>I.freeC|AGd=>I.len|AGe=>Ne.symm|AGf=>whole|AGg=>wpAny_truthy_bool|AGh=>o.cls|AGi=>swapsWith|AGj=>ws.take|AGk=>rv.get|AGl=>"_law_cell_here"|AGm=>"_law_one"|AGn=>"group"|AGo=>"right"|AGp=>beq_iff_eq.mp|AGq=>A.units|AGr=>kindOf|AGs=>scope.names|AGt=>List.length_drop|AGu=>Str.ofString|AGv=>Obj.mapSeq|AGw=>s.heap.update|AGx=>Heap.get?_update_self|AGy=>its.length|AGz=>List.zip_cons_cons|AG0=>h.elim|AG1=>R.len|AG2=>R.less|AG3=>r1.up|AG4=>_2.start
|AG5=>is1.toArray.size|AG6=>isInstance|AG7=>own.length|AG8=>s2.heap.objs.size|AG9=>hs3.extBut|AG_=>fresh|AG'=>List.length_reverse|AHA=>Eq.trans|AHB=>V.str|AHC=>ys.map|AHD=>gs.length|AHE=>a.num|AK1=>List.getElem?_eq_getElem|AK2=>List.mem_cons_of_mem|AK3=>Nat.le_refl|AK4=>Bool.false_ne_true|AK5=>Rat.le_refl|AK6=>hs.Nodup|AK7=>PySem.W|AK8=>cN.mp|AK9=>jL.mp|AK_=>boot_heap|AK'=>w.params|ALA=>s.drawn|ALB=>qs.map|ALC=>ds.map|ALD=>"mean"|ALE=>"pair"|ALG=>"middle"|ALH=>"scaled"|ALJ=>"int"|ALK=>"len"|ALN=>"isinstance"|ALO=>"Sitting.__init__"|ALP=>beq_eq_false_iff_ne.mpr|ALQ=>fs.length|ALR=>slots|ALS=>sc.names.lookup|ALU=>X.env.kindOf|ALV=>I.ok.above|ALW=>I.ok.kind|ALX=>assignEach|ALY=>length|ALZ=>Assign|ALa=>Nat.ne_of_gt|ALb=>pyIter|ALc=>p.isList|ALd=>s.heap.push|ALe=>"one"|ALf=>"counts"|ALg=>again|ALh=>"_law_gap"|ALi=>"_law_rule_here"|ALj=>"_law_sitting"|ALk=>Nat.zero_le|ALl=>sizeLine_eq|ALm=>vals1|ALn=>codeAny|ALo=>"left"|ALp=>True.intro|ALq=>Nat.le_of_eq|ALr=>bindL|ALs=>bindC|ALt=>N.length|ALu=>s3.heap.objs.size|ALv=>i.toNat|ALw=>if_false|ALx=>List.any_cons|ALy=>hplain|ALz=>dd.typeIs|AL0=>codeAny_mono|AL1=>fu.rep|AL2=>B.get?|AL3=>wpAny_setField|AL4=>h1.objs.size|AL5=>pushCells|AL6=>mem_of_lookup|AL7=>rs.up|AL8=>hs1.extBut|AL9=>s1.heap.get?|AL_=>List.pairwise_cons|AL'=>List.nodup_append|AMA=>"set_iterator"|AMC=>Array.getElem?_eq_getElem|AMD=>Nat.min_self|AME=>gs.map|AMF=>List.length_range|AMG=>Nat.one_mul|AMH=>b.den|AMI=>l.filter|AMJ=>Rat.le_trans|AMK=>Rat.mul_one|AML=>bs.reverse|ASa=>Rat.mul_comm|ASb=>List.mem_append|ASc=>cs.length|ASd=>zB.mpr|ASe=>reverse|ASf=>hs.length|ASg=>S.rule|ASh=>S.gap|ASi=>S.scale|ASj=>"reached"|ASk=>"kept_leanings"|ASl=>"bool"|ASm=>Paired|ASn=>sizeLine|ASo=>tupleKind|ASp=>List.mem_of_mem_take|ASq=>there|ASr=>Un.kept|ASs=>W.hideAll|ASt=>zA.mp|ASu=>env.kindOf|ASv=>env.cells.lookup|ASw=>X.H₀|ASx=>X.env.scope|ASy=>I.base.free|ASz=>fs.take|AS0=>Drawn|AS1=>I.base.mR|AS2=>both.map|AS3=>Model|AS4=>ms.take|AS5=>model|AS6=>starEach|AS7=>Constant|AS8=>compareOp|AS9=>BoolOp|AS_=>wpAny_execs_nil|AS'=>assign|ATA=>I.ok.hd|ATB=>wpAny_standAt|ATC=>s1.heap.push|ATD=>s1.toks|ATE=>PyProof.Rows.callWith_type1|ATF=>"_law_k"|ATG=>"spot"|ATI=>I.laid|ATJ=>I1.laid|ATK=>Binds|ATL=>NameKind|ATM=>envOfC|ATN=>List.getElem?_replicate|ATO=>List.getElem?_append_left|ATP=>getItem|ATQ=>z.length|ATR=>List.all_cons|ATS=>h'.objs.size|ATU=>L.length|ATV=>xs.reverse|ATW=>List.length_singleton|ATY=>valueAt|ATZ=>atKey|ATa=>rel.val|ATb=>h.push|ATc=>s₁.heap.get?|ATd=>l.prog|ATe=>List.Pairwise.nil|ATf=>fs.zip|ATg=>TR.there|ATh=>Γ.length|ATi=>R.dropAt|ATj=>B.StaysIn|ATk=>PySem.F.excBase_ValueError.hasBase|ATl=>I1.hok|ATm=>R.apart|ATn=>R1.grow|ATo=>W.callWith_K|ATp=>I.ok.mod.IK|ATq=>decide_eq_true_eq|ATr=>is2.toArray.size|ATs=>rv.up|ATt=>List.drop_eq_getElem_cons|ATu=>List.any_eq_true|ATv=>List.mem_iff_getElem.mp|ATw=>Hg.extBut|ATx=>Nat.le_succ|ATy=>ms.Perm|ATz=>Heap.SameBut.update|AT0=>Heap.ExtBut|AT1=>IsPair|AT2=>hs2.extBut|AT3=>g5.objs.size|AT4=>p.size|AT5=>dif_pos
|AT6=>es1.size|AT7=>W.Looks|AT8=>hp.objs.size|AT9=>List.getElem_map|AT_=>kv.length|AT'=>List.nodup_append.mp|AUA=>startM|AUB=>hit.typeIs|AUC=>signs|AUD=>b.natAbs|AUF=>Nat.mul_le_mul_right|AUG=>q.den|AUH=>Rat.intCast_sub|AUI=>fs.filter|AUJ=>rs.map|AUK=>congr|AUL=>Rat.mul_eq_zero.mp|Acz=>Type _|Ac0=>_HM.dt|Ac1=>Inhabited|Ac2=>m.take|Ac3=>"object"|Ac4=>Nat.mul_le_mul|Ac5=>cN.mpr|Ac6=>List.filter_filter|Ac7=>"_law_names"|Ac8=>"_law_cell"|Ac9=>"_law_marked"|Ac_=>"_law_rows"|Ac'=>"_law_divisor"|AdA=>"_law_low"|AdB=>"_law_rule"|AdC=>"_law_scale_points"|AdD=>"_law_bounds"|AdE=>"meet"|AdF=>"joined"|AdG=>"by_work"|AdH=>"groups"|AdI=>"divisor"|AdJ=>"whole_row"|AdK=>"without"|AdL=>"cleared"|AdM=>"fraction"|AdN=>"exchanged"|AdO=>"solved"|AdP=>"sheets_with"|AdQ=>"is_within"|AdR=>"plus"|AdS=>"total"|AdT=>"share"|AdU=>"shares"|AdV=>"minus"|AdW=>"mean_mark"|AdX=>"excess"|AdY=>"group_leanings"|AdZ=>"leanings"|Ada=>"levelled"|Adb=>"under"|Adc=>"times"|Ade=>"over"|Adf=>"between"|Adg=>"rising"|Adh=>"least_number"|Adi=>"width"|Adj=>"nearest"|Adk=>"_law_worth"|Adl=>"number_from"|Adm=>"ends"|Adn=>"rests_behind"|Ado=>"greatest_cuts"|Adp=>"cuts"|Adq=>"_law_due"|Adr=>"climbs"|Ads=>"is_scale"|Adt=>"_law_made"|Adu=>"_law_other"|Adv=>"_law_no_work"|Adw=>"_law_right"|Adx=>W.nsIn|Ady=>"HallError"|Adz=>"made"|Ad0=>"__setattr__"|Ad1=>"kept_borders"|Ad2=>"__getattribute__"|Ad3=>"Barred.__init__"|Ad4=>"Scale.__init__"|Ad5=>W.topGo|Ad6=>Value.type|Ad7=>xs.drop|Ad8=>Int.natCast_mul|Ad9=>W.instObj|Ad_=>μ.fdiv|Ad'=>List.range_succ|AeA=>List.map_drop|AeB=>Un.laid|AeC=>zA.mpr|AeD=>List.filter_append|AeE=>X.s₀.heap.get?|AeF=>List.flatten_append|AeG=>I.base.tups|AeH=>I.base.o8|AeI=>both.length|AeJ=>Heap.SameBut|AeK=>m.idxOf|AeL=>List.getElem?_set_ne|AeM=>Int.natCast_add|AeN=>standAt|AeO=>target|AeP=>rv.length|AeQ=>swappedStores|AeR=>wpAny_rule|AeS=>pyNext|AeT=>s2.heap|AeU=>I1.fpOk|AeV=>"_law_rows_here"|AeW=>"_law_bounds_here"|AeX=>"_law_names_here"|AeY=>i.fmod|AeZ=>"lead"|Aea=>getAttr|Aeb=>fs.map|Aec=>Nat.lt_succ_self|Aed=>"least"|Aee=>W.kitOne|Aef=>ps.zip|Aeg=>List.getElem?_append_right|Aeh=>wpAny_loadPart'|Aei=>wpAny_field|Aej=>o.isSome|Aek=>W.findIn|Ael=>X.A.units|Aem=>call_meetsIn|Aen=>OpenLaw|Aeo=>callerA|Aep=>Gr.laid|Aeq=>TR.rep|Aer=>oe.dict|Aes=>Γ.set|Aet=>List.getElem?_eq_none|Aeu=>R.gr.h|Aev=>oe.data|Aew=>Obj.data_mapFields|Aex=>setField|Aey=>noteFrame|Aez=>s2.heap.get?|Ae0=>R2.grow|Ae1=>k.mono|Ae2=>wpAny_call|Ae3=>Int.natAbs_add_le|Ae4=>Bool.and_false|Ae5=>Nat.lt_succ_of_lt|Ae6=>Bool.false_eq_true|Ae7=>List.nodup_cons|Ae8=>List.pairwise_map|Ae9=>List.pairwise_cons.mp|Ae_=>R'.grow|Ae'=>List.take_add_one|AfA=>ms.Pairwise|AfB=>O7.extBut|AfC=>List.length_zipWith|AfD=>I2.kIn|AfE=>vs.getD|AfF=>List.pairwise_iff_getElem.mp|AfG=>xs.toList.length|AfH=>SetTable.below|AfI=>Array.getElem?_toList|AfJ=>t.place|AfK=>knd.is|AfL=>w.params.followText|AfM=>"set-order"|AfN=>List.nodup_nil|AfO=>List.take_append_drop|AfP=>choose|AfQ=>collect|AfR=>acc.size|AfS=>PySem.intKind|AfT=>R1.gr.h.free
|AfU=>xs.Nodup|AfV=>List.length_zip|AfW=>R1.wrT|AfX=>List.nodup_append.mpr|AfY=>fu.repN|AfZ=>zR.mpr|Afa=>a.fmod|Afb=>Int.mul_comm|Afc=>t.natAbs|Afd=>l.take|Afe=>List.length_filter_le|Afg=>Rat.le_of_lt|Afh=>List.flatten_cons|AsU=>List.append_of_mem|AsV=>lD.mpr|AsW=>s.length|AsX=>FunctionDef|AsY=>"BaseException"|AsZ=>cd.mro|Asa=>builtin|Asb=>Nat.pow_le_pow_right|Asc=>"ValueError.__new__"|Asd=>decide_eq_true_iff|Ase=>PySem.Calls|Asf=>s.gens|Asg=>qs.take|Ash=>DefRec|Asi=>kvs.map|Asj=>fs.flatten.length|Asl=>S.sheets|Asm=>"Apart"|Asn=>"NoWork"|Aso=>_Hd.adr|Asp=>"object.__setattr__"|Asq=>"object.__class__"|Asr=>"borders_borders"|Ass=>"grade_borders"|Ast=>"abcdefghijklmnopqrstuvwxyz"|Asu=>PySem.W.Fast.te14364793385576792824|Asv=>Sum.inl|Asw=>False.elim|Asx=>Value.bool|Asy=>xs.set|Asz=>es.toList|As0=>fs.lookup|As1=>d.fdiv|As2=>fields|As3=>Paired.mapP|As4=>List.map_take|As5=>Bool.true_and|As6=>List.drop_zero|As7=>List.getElem_reverse|As8=>builtinsNs|As9=>X.env.scope.kind|As_=>X.env.cells.lookup|As'=>Slot.pu|AtA=>AllBare|AtB=>σ.length|AtC=>I.base.keep|AtD=>List.filterMap_cons|AtE=>I.base.slot|AtF=>ps.take|AtG=>eO.mpr|AtH=>I.hok.fresh|AtI=>wh.map|AtJ=>List.mem_flatten.mpr|AtK=>isTrue|AtL=>n.fdiv|AtM=>Int.zero_add|AtN=>Compare|AtO=>UnaryOp|AtP=>yj.sum|AtQ=>o.dict|AtR=>pos.line|AtS=>p.hs.map|AtT=>Return|AtU=>z.fmod|AtV=>ms.flatten.map|AtW=>Y.natAbs|AtX=>I1.kept|AtY=>s1.heap|AtZ=>A.uniq|Ata=>I.turned|Atb=>I.list_inj|Atc=>bd.map|Atd=>Int.mul_one|Ate=>"_law_hands"|Atf=>T.done|Atg=>T.item|Ath=>"_law_leaning"|Ati=>"_law_due_here"|Atj=>binaryOp|Atk=>i.natAbs|Atl=>"_law_other_here"|Atm=>"rights"|Atn=>A.under|Ato=>"_law_some"|Atp=>A.depth|Atq=>A.deeper|Atr=>Calls.spliced_cons|Ats=>BindsTo|Atu=>List.nodup_cons.mp|Atv=>vs.map|Atw=>S.kind|Atx=>scope.names.lookup|Aty=>List.length_replicate|Atz=>W.fnOf|At0=>Builtin.Slice.slicePlaces|At1=>IsPart|At2=>ht.typeIs|At3=>subscripted|At4=>typeIs_str|At5=>typeOf|At6=>Calls.evalArgs_plain|At7=>List.reverse_cons|At8=>"list.append"|At9=>I.lstM|At_=>I.lset|At'=>List.find?_cons|AuA=>List.map_nil|AuB=>Option.isSome_map|AuC=>Nat.lt_trans|AuD=>dd.mapOf|AuE=>Int.toNat|AuF=>bd.length|AuG=>PySem.F.plainAttrs_dict|AuH=>IntsAre|AuI=>l.row.toRowW|AuJ=>yr.back|AuK=>List.set_set|AuL=>R1.put|AuM=>oe.cls|AuN=>beq_iff_eq|AuO=>hm.keeps|AuP=>SameStack|AuQ=>wpAny_pyIter_list|AuR=>s2.seq|AuS=>Fn.run|AuT=>j.natAbs|AuU=>List.range_succ_eq_map|AuV=>NameKind.cell|AuW=>Pairwise|AuX=>NameKind.free|AuY=>q.symm|AuZ=>S.free|Aua=>Nat.le_of_succ_le|Aub=>Bool.eq_iff_iff|Auc=>Int.le_refl|Aud=>R'.gr.h|Aue=>PySem.F.plainAttrs_list|Auf=>I.fresh|Auh=>wpAny_seqItems|Aui=>wpAny_setField_rec|Auj=>O6.extBut|Auk=>F.slot_zip_next|Aul=>_2.Cls|Aum=>u1.trans|Aun=>relayAll|Auo=>es.toList.map|Aup=>h.update|Auq=>scanBound|Aur=>knd.hash|Aus=>codeAny_builtin|Aut=>hm.heap|Auu=>codeAny_call_builtin|Auv=>raiseNew|Auw=>length_eq|Aux=>vals.length|Auy=>PySem.F.plain_list_iadd|Auz=>acc.toList|Au0=>"list_reverseiterator"|Au1=>Except.ok|Au2=>s'.heap.get?|Au3=>Heap.size_update|Au4=>SortKind
|Au5=>ks.Nodup|Au6=>PySem.F.slot_dict_keyiterator_next|Au7=>x.cps.size|Au8=>Or.inl|Au9=>Or.inr|Au_=>ExceptHandler|Au'=>I5.kIn|AvA=>wpAny_handleBy_cons|AvB=>codeAny_handlers_test|AvC=>"setdefault"|AvD=>PySem.F.slot_list_append|AvE=>PySem.F.type_list_append|AvF=>Int.natAbs|AvG=>Rat.intCast_add|AvH=>l.drop|AvI=>List.filter_eq_nil_iff.mpr|AvJ=>List.contains_iff_mem|AvK=>mZ.zero|AvL=>mZ.head|BGb=>hq.lin.mul|BGc=>List.mem_append_left|BGd=>Heap.lt_size|BGe=>Option.some.inj|BGf=>defaults|BGg=>d.natAbs|BGh=>rows.filter|BGi=>u.filter|BGj=>behindTheImports|BGk=>Array.mk|BGl=>List.filter_congr|BGm=>Int.ofNat|BGn=>cs.dropLast.map|BGo=>W.hasDictIn|BGp=>W.plainOver|BGq=>"barred"|BGr=>W.makesIn|BGs=>"__getattr__"|BGt=>"__class__"|BGu=>"ValueError.__init__"|BGv=>"NO_GAP"|BGw=>"Scale.scaled"|BGx=>"Open.__init__"|BGy=>"Sitting.leaning"|BGz=>"Sitting.reckoned"|BG0=>"Sitting.must_have"|BG1=>"Sitting.mark"|BG2=>"Sitting.grade"|BG3=>"Sitting.table"|BG4=>"Sitting.borders"|BG5=>_Hd.fore|BG6=>PySem.W.Fast.te15667345088766844465|BG7=>_Hd.recOf|BG8=>Value.int|BG9=>Value.str|BG_=>Value.isInt_shape|BG'=>Prod.mk.inj|BHB=>"abcdefghijklm"|BHC=>Value.float|BHD=>Vals.append|BHF=>Int.fmod_eq_emod_of_nonneg|BHG=>Nat.succ_pos|BHH=>sysModules|BHJ=>o.ExactDict|BHK=>Rat.one_mul|BHL=>ob.slots|BHM=>W.hideAll_get|BHN=>W.of_hideAll|BHP=>filterMap|BHQ=>bootBuiltins|BHR=>I.ok.frf|BHS=>List.filter_nil|BHT=>I.stkSub|BHV=>I.base.there|BHW=>pm.mem_iff.mp|BHX=>X.env.scope.names.lookup|BHY=>Gm.congr|BHZ=>behindInMarks|BHa=>its.toList|BHb=>Rat.num_intCast|BHc=>wpAny_assign_Name|BHd=>assignInOrder_cons|BHe=>X.natAbs|BHf=>bindName|BHg=>items.reverse|BHh=>wpAny_bindName|BHi=>"dict_itemiterator"|BHj=>wpAny_load|BHk=>I.tuple_inj|BHl=>"_law_works"|BHm=>"_law_top"|BHn=>"_law_bottom"|BHo=>"bottom"|BHp=>"_law_scale"|BHq=>I7.unpinned|BHr=>"_law_many"|BHs=>"_law_number"|BHt=>"multiple"|BHu=>W.looks_clsIn|BHv=>W.looks_findIn|BHw=>beq_iff_eq.mpr|BHx=>attributeBase|BHy=>"_law_told"|BHz=>plainObj_wpAny_Assign_Attribute|BH0=>W.kitx_list|BH1=>W.kitx_dict|BH2=>"_law_marks"|BH3=>Around.under|BH4=>Code.isFrame|BH5=>W.cellsFrom_some|BH6=>PySem.mem_of_lookup|BH7=>PyProof.Rows.callWith_builtin1|BH8=>PySem.AutoSeq1|BH9=>PySem.MeetsSeq|BH_=>PySem.MeetsSeq3|BH'=>s.TypeIs|BIA=>wpAny_call_entry|BIC=>eq_of_beq|BID=>Subscript_|BIF=>s3.heap.push|BIH=>Heap.get?_update_other|BII=>sliceBounds|BIJ=>SeqAt.EqAt|BIK=>its.toArray.any|BIL=>r'.length|BIM=>call_meets|BIN=>r.append|BIO=>"list.clear"|BIQ=>h1.symm.trans|BIR=>rel.length|BIS=>PySem.F.slot_dict_get|BIU=>s₁.heap.Ns|BIV=>symm.trans|BIW=>Nat.lt_or_ge|BIY=>excClassObj|BIZ=>PySem.F.excBase_ValueError|BIa=>R.g.free|BIb=>R.gr.h.free|BIc=>wpAny_pyIter_tuple|BId=>R2.g.seq|BIe=>Builtin.Int.intBits|BIf=>Nat.log2_lt|BIg=>Nat.pow_succ|BIh=>List.all_map|BIi=>int_tuple|BIj=>int_list|BIk=>str_tuple|BIl=>str_list|BIm=>tuple_int|BIn=>tuple_str|BIo=>list_int|BIp=>list_str|BIq=>beq_false_of_ne|BIr=>checkBuiltinCall|BIs=>pushCells_keeps|BIt=>List.pairwise_cons.mpr|BIu=>List.forIn_cons
|BIv=>names.lookup|BIw=>caps.map|BIx=>List.Nodup|BIy=>l.Pairwise|BIz=>ListComp|BI0=>compPost|BI1=>comprehension|BI2=>gr.f.trans|BI3=>List.flatMap_cons|BI4=>gr.trans|BI5=>Yo.names.lookup|BI6=>PySem.preSum|BI7=>"list_iterator"|BI8=>List.all_eq_true|BI9=>PySem.argBest|BI_=>List.take_of_length_le|BI'=>ws.toArray|BJA=>"__next__"|BJB=>hit2.typeIs|BJC=>"StopIteration"|BJD=>wpAny_of_eq|BJE=>wpAny_throw|BJF=>wpAny_updateSeq_pair|BJG=>wpAny_letGo|BJH=>wpAny_newTuple|BJI=>D.TOz.symm|BJJ=>D.i1z.symm|BJK=>wpAny_attempt|BJL=>wpAny_isInstance|BJM=>isSubtype_stop|BJN=>List.getElem?_zipWith|BJO=>h2.trans|BJP=>List.toArray|BJQ=>Nat.lt_trichotomy|BJR=>List.pairwise_append|BJS=>t.dummies|BJT=>List.pairwise_lt_range|BJU=>SetTable.has|BJV=>Obj.putSet|BJW=>storeSet|BJX=>"set.__new__"|BJY=>wpAny_askSetting|BJZ=>wpAny_runValue|BJa=>Nat.zero_add|BJb=>"set_iterator.__next__"|BJc=>Nat.mod_lt|BJd=>List.length_eq_zero_iff.mp|BJe=>seqItems?|BJf=>setNextDrawn|BJg=>pickOrder|BJh=>pickOrder.go|BJi=>"set_iterator.__iter__"|BJj=>t.place.toList.length|BJk=>Array.getElem?_eq_none|BJl=>Nat.le_succ_of_le|BJm=>wpAny_setEpoch_of|BJn=>newFields|BJo=>hp.length_eq|BJp=>wpAny_updateSeq|BJq=>wpAny_pyIter_revIter|BJr=>listUpdate_at|BJs=>onTheHeap|BJt=>Value.builtin|BJu=>s₂.heap.objs.size|BJv=>List.zipWith_cons_cons|BJw=>Nat.lt_or_gt_of_ne|BJx=>getD_get?|BJy=>W.kas_ask|BJz=>size_push'|BJ0=>a.cps.toList|BJ1=>List.map_id'|BJ2=>W.kdl_call|BJ3=>"values"|BJ4=>decide_false|BJ5=>"dict_keyiterator"|BJ6=>hm.typeIs|BJ7=>x.length|BJ8=>Decidable|BJ9=>handleBy|BJ_=>Int.gcd_comm|BJ'=>Int.emod_nonneg|BKB=>Int.gcd_dvd_right|BKC=>Int.le_of_lt|BKD=>Int.mul_ne_zero|BKE=>Rat.divInt_eq_div|BKF=>Prod.snd|BKG=>Nat.add_mul|BKH=>qs.foldl|BKI=>Rat.mul_nonneg|BKJ=>S.filter|BKK=>p.mem_iff.mp|BKL=>List.mem_flatten.mp|BKM=>pre.dropLast|Bpm=>Rat.div_mul_cancel|Bpn=>List.getElem?_eq_some_iff|Bpo=>List.mem_append_right|Bpp=>Nat.lt_of_lt_of_le|Bpq=>Nat.ne_of_lt|Bpr=>List.mem_of_getElem?|Bps=>List.getElem_mem|Bpt=>Nat.lt_irrefl|Bpu=>Int.natAbs_sub_le|Bpv=>"ValueError"|Bpw=>Nat.add_le_add|Bpx=>Nat.mul_comm|Bpy=>List.mem_of_find?_eq_some|Bpz=>List.find?_some|Bp0=>List.find?_eq_none.mp|Bp1=>Rat.mul_zero|Bp2=>importedModules|Bp3=>lw.row.toRowW|Bp4=>Value.isStrOf|Bp5=>SeqAt.EqAt.int_str|Bp6=>SeqAt.EqAt.str_int|Bp7=>Paired.length|Bp8=>Int.gcd_zero_right|Bp9=>Int.mul_zero|Bp_=>Int.natAbs_natCast|Bp'=>PySem.Within|BqA=>Nat.le_mul_of_pos_left|BqB=>Int.dvd_natAbs.mpr|BqC=>List.range'_succ|BqD=>List.range_eq_range'|BqE=>List.drop_one|BqF=>List.mem_range.mpr|BqG=>W.hideAll_none|BqH=>Nat.add_comm|BqI=>List.any_map|BqJ=>List.getElem?_range|BqK=>List.getD_cons_succ|BqL=>Rat.not_le.mp|BqM=>X.env.globals|BqN=>Bool.or_eq_true|BqO=>X.s₀.heap.objs.size|BqP=>Int.ofNat_lt.mpr|BqQ=>List.map_reverse|BqR=>X.base.objs.size|BqS=>X.s₀.heap.FunFrames|BqT=>List.contains_iff_mem.mp|BqU=>Nat.sub_zero|BqV=>List.findIdx_cons|BqW=>I.ok.funs.mem|BqX=>List.pairwise_append.mp|BqY=>s.heap.FunFrames|BqZ=>flatten.length|Bqa=>List.flatten_nil|Bqb=>List.sum_cons
|Bqc=>"__classdict__"|Bqd=>Constant_none|Bqe=>I.mod.glob.keeps|Bqf=>wpAny_isTrue_Compare1|Bqg=>Rat.sub_eq_add_neg|Bqh=>splitDisjunctions|Bqi=>wpAny_execs_cons|Bqj=>assignInOrder_nil|Bqk=>pm.nodup_iff.mpr|Bql=>pm.length_eq|Bqm=>Rat.intCast_le_intCast.mpr|Bqn=>Rat.intCast_nonneg.mpr|Bqo=>Nat.add_le_add_right|Bqp=>letOwnedTupleGo|Bqq=>h.IsListIter|Bqr=>h.IsTupleIter|Bqs=>s.heap.IsTuple|Bqt=>List.mem_filterMap.mpr|Bqu=>"_law_points"|Bqv=>es.toList.any|Bqw=>W.plainGet_of|Bqx=>W.findObj_own|Bqy=>wpAny_loadPart|Bqz=>wpAny_nsSet1|Bq0=>Heap.Ns1.of_empty|Bq1=>W.kitx_tuple|Bq2=>recursionLimit|Bq3=>"_law_parting"|Bq4=>Calls.spliced_nil|Bq5=>List.replicate|Bq6=>Option.isSome_iff_exists.mp|Bq7=>e0.hok.fresh|Bq8=>name_of_addr|Bq9=>List.take_sublist|Bq_=>e0.mod.IK.keeps|Bq'=>s.heap.NoLimit|BrA=>codeAny_call_function|BrB=>wpAny_Call_Name_kw|BrC=>slicePart_none|BrD=>items.toList.drop|BrE=>toArray.size|BrF=>"__getitem__"|BrG=>PyProof.Rows.slot_tuple_getitem|BrH=>wpAny_typeOf|BrI=>evalPart_none|BrJ=>pl.isList.typeIs|BrK=>slot_list_getitem.lookup|BrL=>its'.toArray|BrM=>List.length_set|BrN=>Option.getD_none|BrO=>SeqAt.EqAt.same|BrP=>call_list_seq|BrQ=>Builtin.List.listTooLong|BrR=>Option.isSome_some|BrS=>Bool.false_or|BrT=>List.length_nil|BrU=>tupleKind_room_in1|BrV=>wpAny_specialOf|BrW=>PySem.F.entry_dict_get|BrX=>wpAny_Call_method|BrY=>Obj.mapFields|BrZ=>Obj.cls_mapFields|Bra=>s'.heap.UpToSlots|Brb=>Bool.not_eq_true'|Brc=>Int.natAbs_eq_zero.mp|Brd=>SeqAt.RcNeAt|Bre=>s.heap.IsList|Brf=>Option.bind_some|Brg=>beq_eq_false_iff_ne|Brh=>newFunctionEnv|Bri=>List.drop_length|Brj=>List.mem_range|Brk=>List.length_pos_of_mem|Brl=>Builtin.List.listFitsIndex|Brm=>PySem.F.slot_list_insert|Brn=>Array.toList_inj.mp|Bro=>wpAny_pyIter_enum|Brp=>"tuple_iterator"|Brq=>F.slot_tuple_iterator_next|Brr=>firstArgMember|Brs=>wpAny_handled|Brt=>List.zipIdx_cons|Bru=>List.zipIdx_nil|Brv=>List.forIn_nil|Brw=>wpAny_onRaise|Brx=>F.entry_zip_next|Bry=>F.args_zip_next_1|Brz=>List.not_mem_nil|Br0=>wpAny_pyIter_zip|Br1=>Nat.le_add_right|Br2=>SetTable.below.go|Br3=>List.getElem_drop|Br4=>List.getElem_take|Br5=>t.place.toList|Br6=>SetTable.probe.go|Br7=>wpAny_setState_of|Br8=>Array.toList_push|Br9=>SetTable.grown|Br_=>wpAny_storeSet_of|Br'=>PyProof.Rows.F.plain_set_update_loop|BsA=>codeAny_of_tree|BsB=>PySem.F.plain_set_new|BsC=>sub_set_self|BsD=>Code.quiet_builtin|BsE=>Shared.TypeIs|BsF=>wpAny_fieldsOf|BsG=>wpAny_setEntries_of|BsH=>w.params.setOrder|BsI=>List.Perm.append_left|BsJ=>wpAny_pyIter_slot|BsK=>hps.length_eq|BsL=>PySem.F.slot_set_iter|BsM=>PySem.F.entry_proto_collect|BsN=>PySem.F.plain_proto_collect|BsO=>Builtin.List.listSameRef|BsP=>PySem.F.plain_extend_loop|BsQ=>codeAny_extend_loopS|BsR=>List.ext_getElem?|BsS=>get?_update_seq|BsT=>wpAny_newList|BsU=>Array.toArray_toList|BsV=>hp.mem_iff.trans|BsW=>hp.nodup_iff.mpr|BsX=>List.getElem?_reverse|BsY=>"__length_hint__"|BsZ=>"list_reverseiterator.__length_hint__"|Bsa=>listItems_at|Bsb=>refuseLoop_ref|Bsc=>SF.slot.plain
|Bsd=>Builtin.ObjectAttr.storeInDict|Bse=>arm_exec_Raise|Bsf=>h.mem_iff.mp|Bsg=>List.nodup_range|Bsh=>Array.getD_eq_getD_getElem?|Bsi=>List.Perm.refl|Bsj=>List.pairwise_iff_getElem|Bsk=>vs.toArray.size|Bsl=>vs.toArray.zip|Bsm=>b.cps.toList|Bsn=>List.not_lt.mp|Bso=>List.getElem_range|Bsp=>keyLt'_oneType|Bsq=>List.pairwise_map.mp|Bsr=>a1.mem_iff.mp|Bss=>x.cps.toList|Bst=>y.cps.toList|Bsu=>AutoSeq1.sub_list_list|Bsv=>plain_eq_loop|Bsw=>F.slot_list_lt|Bsx=>its2.toArray.size|Bsy=>PySem.F.slot_list_extend|Bsz=>PySem.F.slot_dict_values|Bs0=>"dict_values"|Bs1=>IsValuesView|Bs2=>PySem.F.slot_dict_iter|Bs3=>Builtin.Dict.showsAll|Bs4=>wpAny_dictEntries|Bs5=>wpAny_dictEpoch|Bs6=>PySem.F.entry_dict_keyiterator_next|Bs7=>PySem.F.args_dict_keyiterator_next_1|Bs8=>wpAny_pyIter_keyiter|Bs9=>List.nodup_cons.mpr|Bs_=>W.callWith_K0|Bs'=>W.kdl_values|BtA=>Option.bind_eq_some_iff.mp|BtB=>e.symm.trans|BtC=>Bool.and_eq_true_iff.mp|BtD=>PySem.F.slot_dict_itemiterator_iter|BtE=>PySem.F.slot_dict_items|BtF=>"dict_items"|BtG=>SameStack.mark|BtH=>Bool.eq_false_iff.mpr|BtI=>PySem.F.slot_dict_setdefault|BtJ=>resolve_left|BtK=>PySem.F.slot_list_clear|BtL=>PySem.F.type_list_clear|BtM=>Int.gcd_eq_zero_iff.mp|BtN=>Int.neg_dvd.mpr|BtO=>Int.gcd_dvd_left|BtP=>Int.eq_of_mul_eq_mul_right|BtQ=>Int.ne_of_gt|BtR=>Rat.num_divInt_den|BtS=>Rat.zero_add|BtT=>List.take_succ_cons|BtU=>List.drop_succ_cons|BtV=>Rat.not_lt.mp|BtW=>Rat.inv_pos.mpr|BtX=>S.reverse.map|BtY=>List.mem_reverse.mp|BtZ=>Int.le_trans|Bta=>List.pairwise_singleton|Btb=>p.mem_iff.mpr|yi=>by obtain⟨ε,Β⟩:=ζ|AMM=>by show yi Β ε|NX=>by (have hx:=BG' ε;show AMM hx)|qr=>(by first|lia|omega (Bqh:=Μ))|OL=>by (have hx:=List.cons.inj ε;show AMM hx)|OM=>by show NX (BGe ε)|ON=>by (have hx:=BGe ε;subst hx)|q_=>by (show qr)|BA=>fun ε=>ζ|BY=>.B9 ε|UQ=>by exact Asw ε|B0=>by exact ε|C9=>(ε:AB)|XY=>by decide+kernel|A8=>by exact ε ζ|Φ=>(by decide)|AD=>(by (first|subst ε|exact aaz ζ|exact aaA η|exact aaC θ|exact aaB ι|exact aaE ν|exact aaD ξ|exact aaF ο|show UQ π|show ON ρ|show OL τ|show NX υ|show OM χ|cases (ψ)))|GM=>.AU ε|Θ=>(by show q_)|AI=>by show XY|As=>fun ε ζ η=> ?_|AF=>by (show qr)|D1=>ε ->ζ ->Ι|E9=>ε X F0 H0 ζ η|Ρ=>EO Κ|De=>BA _ ε|NY=>ε b=Ε ζ|Ν=>∀(K:AA)(c:Cls),_|BB=>(ε:AL)|Υ=>by show q_|IS=>ε[ζ]?=Ε η|ņ=>ε ζ (aj η ak)|AMN=>Inv X Ο ε ζ η|BM=>.Η|BVe=>by exact Au9 (Au8 Β)|BVf=>by exact Au9 (Au9 Β)|Fm=>((by (first|exact Au8 Β|show BVe|show BVf|exact Au9 Β|trivial)))|bi=>cC (GM ε)|AR=>EO D|Χ=>O0 (ε)|QY=>AMN σ ε ζ|Ap=>(cV 0)|IU=>by exact ε|FF=>.DC ε|BC=>ε ->ζ ->η ->θ ->ι|B5=>(qv 0)|MC=>(ε:Δ)|Cb=>fun ε ζ=> ?_|M1=>ĥ ε|GN=>ε ->Ι|IA=>.kK ε ζ|FM=>fun _=>ε|D9=>Ε ε|AQ=>EO V|C4=>(ε ζ).map|FG=>IS ε i ζ|SS=>.type ε|Cc=>UA ε|AS=>(cV 1)|JJ=>cB ε ζ (bi η)|yk=>QY H ε|Fr=>ε a=Ε ζ|rL=>EO (ε×ζ)|Qb=>(hr.mono Φ)|D7=>ε<=ASn|BG=>by refine ε;refine ζ|AZ=>(qv 1)|PR=>ε=AE|GS=>ņ aj ε ζ|DZ=>ABS ε|KS=>fun _ ε=>ζ|HT=>au ε (au ζ aK)|A4=>ε P w K mg C3 c|A1=>(by simp)|EL=>⟨_,ε,ζ⟩|ACO=>ε P w K mg C3 ζ η θ ι|GT=>ε x=Ε ζ|OO=>ε z E cx|Au=>fun z=>ε|AV=>yk s|Afi=>yA z|MD=>(BY f)
|rS=>A8 ε (A8 ζ η)|BU=>by obtain⟨ε,ζ,η⟩:=θ ι|CF=>.B9 a|CD=>if ε then ζ else η|ky=>PR (ε==ζ)|B6=>r.1|Co=>r.2.1|Ň=>by exact Asw h|AMO=>{cls:= ε,ABT:= ζ}|FH=>ACO cL ε ζ η (θ c)|ST=>bV (De ε) ζ η|DT=>by simpa using ε|EW=>E9 QE ε ζ|AvM=>by have ε:=_Hd.ix B ζ Β;have η:=_Hd.ix B θ Β|At=>EO AJ|A7=>by rw[UA ε]|rV=>Aso (Adx K pe ε)|E_=>show ε from ζ|BH=>.non|LA=>NY ε o|OP=>(AS5 CY w)|Afj=>ε HR X.w|br=>ε K F0 H0 ζ|GB=>by obtain⟨ε,ζ,η,θ⟩:=ι|E6=>⟨_,ε⟩|rX=>IA x ε|ME=>Δ ->ε|BI=>EO AL|DJ=>p.1|DE=>EO α|MG=>fun _ _ ε=>ζ|AHF=>B0 (ε (i:=ζ) nd Β Fm  η)|B'=>by decide|FA=>C9 (MC ε)|LE=>(e::es)|ň=>.Call ε ζ [] η|AHG=>by exact aaz z|AHI=>by exact aaA z|AHJ=>by exact aaB z|AHK=>by exact aaC z|AHL=>by exact aaD z|AHM=>by exact aaE z|AHN=>by exact aaF z|AHO=>by exact Asw z|Na=>mg ε =Η|HG=>.DH ε|Afk=>ky ε (ζ :Κ)|yn=>{ε with heap:=ζ}|Afl=>by exact Asw e|XZ=>eL ε BE|fE=>(KS _ Β)|yo=>D1 ε (GN ζ)|A3=>dX K ε ζ η f fd|fF=>fun b ε=>ζ|B7=>EO Rw|D_=>(ε ζ).ALY|C5=>⟨ε,?_⟩|ES=>.pu (GM ε)|LX=>ε _ _ _ _|AUM=>fun _ _ _ ε=>ζ|B8=>.no|GU=>by obtain Β:ε:=ζ|C6=>by simpa using ε|JO=>(yA z)|B1=>by refine(?_:ε)|IY=>au ε aK|AUN=>AMO (SS ε) (.ζ η)|yv=>ε K c ζ η (FM Ex)|IZ=>L' ε|SU=>NY ε u|kz=>L9 F ε|C_=>.BD|Nc=>.type ε|DF=>aB ε ζ (aZ η)|AHP=>OI=ε|BQ=>by refine(?_:ε)|k7=>(Afj AS5)|SV=>ε b=Η|bv=>B0 (bF  ε  ζ)|ACP=>AUM h (ε h)|DA=>EO Δ|ED=>(BY a)|CH=>EO Ζ|AMP=>fun b ε e=>ζ|Da=>ε (X:=Afi)|SW=>AHF fD ε ζ|EX=>fun h=>ε|DL=>by simp [ε]|UR=>eY ε ζ fE|CS=>.DH|E4=>fF hb ε|Do=>(by (first|subst e|exact aaz e|exact aaA e|exact aaC e|exact aaB e|exact aaE e|exact aaD e|exact aaF e|show Afl|show ON e|show OL e|show NX e|show OM e|cases (e)))|Ct=>by obtain⟨ε,ζ,η⟩:=θ ι ν|Xs=>ε (B0 ζ)|M3=>.AX ε|CU=>⟨ε,ζ,?_⟩|CA=>(cV 2)|b9=>C4 AGa ε|AUO=>NO ε A ζ Q E s|b_=>⟨F,Γ,_,R,h,ε⟩|BN=>IU ⟨Β,Β,Β,AI,Β,AI,AI⟩|BS=>F.binds fun _ _ _ _ _ _ us hl=>ε|BV=>∀{c:Cls}{ds P E}(h:ε c ds P E),_|AvN=>fun cdv A DD s H E hr F0=>ε|GV=>fun w=>ε|ŉ=>yv ε (EC Q) ζ|GW=>.Dx ε|EZ=>i+1|fI=>M1 AJ|Bn=>ε F ζ (ACP η) (AvN ⟨θ K c,ι,ν⟩)|CI=>EO AB|CL=>by rw[ε];exact ζ|fN=>ε K ζ=Μ|US=>.Asa ε|DM=>(qv 2)|Ŋ=>ε Ξ w|B2=>by have hu:=ε hr|FR=>fun ε _=>ζ|FV=>.BD ε|OQ=>As b ε ζ|Db=>(i+1)|AMQ=>ε Ο s σ H|DU=>by rw[ABS ε]|MH=>∀b,ε ->ζ|yy=>br SR ε ζ σ η|ACQ=>W.mg_of X G ε|re=>by exact ε ζ|DB=>by simp|MI=>ε a=Η|CB=>∀{K:AA}{c:Cls}{ds Q Ex}(h:ε c ds Q Ex),_|CC=>fun ds Q Ex h=>ε h|BW5=>ε (P:=ζ) (w:=w) (C3:=C3)|rh=>EO (EO ε)|ŋ=>BW5 ε ATd|ACR=>Δ ->ε ->ζ|UT=>As ε s1 ζ|D3=>Κ ->AL|SY=>ŉ ε (aG ζ ds)|rq=>cJ ε Qb Β ζ|CM=>mg ε =Ε MD|D5=>by rw[ε] at Τ|EM=>by rw[ε];exact ζ|C7=>EO AK|GY=>⟨ε,[]⟩|FI=>BA z ε|HU=>.B9 C|yz=>.xn ε ζ η|AUP=>BY (rV ε)|Nd=>A8 bM ε|r6=>FG ε x|Nl=>Fr H ε|UU=>ST ε ζ aU|FK=>fun i=> ε|Cf=>_Hd.d ε ζ|Qr=>aL K F ε ζ|Fs=>fun j=>ε|Hc=>fun ds P _=>ε|AvO=>AS6 ε BE= ζ
|FL=>by
 have ε:ζ:=η
 have θ:ι:=ν
 have ξ:ο:=π;have ρ:τ:=υ
|Ō=>D1 ε Hp|k8=>UR ε aU|ō=>ε AG F0 H0 ζ|FX=>by obtain⟨ε,ζ⟩:=η θ|y0=>fun ε H1=>ζ|KU=>(BY C)|UV=>(match ε with | ζ=>η | _=>D6)|cE=>yn s ε|Ee=>h.1|Nn=>if ε= ζ then η else θ|PU=>(.dK AH)|Fu=>by obtain⟨ε,ζ,Β,η,θ⟩:=ι|DO=>by intro Ο s σ H ε I h|FB=>EO Row|LG=>by simp [ε]|EN=>Κ ->fI|JP=>by show AvM ε ζ η θ;show AvM ι ν ξ ο|ML=>fun _ _ _ _ _ _=>(re ε ζ)|X0=>(fU P w)|No=>z6 (m:=ε)|AUQ=>B0 (ε ζ Qb Β η)|GE=>EO Key|KW=>⟨ε,ζ,Β,η⟩|fR=>AvO ε ((AE,XZ ζ)::AS6 η BE)|HH=>Afk x "__debug__"|AHQ=>{ε with heap:=ζ,toks:=η}|Ic=>⟨Β,ε⟩|E7=>E6 Β|Eg=>.D8|MM=>∀b∈ε,ζ|ACS=>D7 (MC ε)|D'=>by unfold ε at h|JS=>(by rfl)|GG=>.AU i|Gc=>(zN _)|UX=>(aX _)|Q1=>AMP o ε|AUR=>ACR Δ ε|MO=>fun b hb=>ε|X2=>.dic|PV=>.DC (ε ζ)|AUS=>ň ε ζ Ψ|SZ=>bv ε (bv ζ η)|y_=>yy ε ζ Γ|fS=>E9 QS ε ζ|AHR=>ε Ξ w|zC=>(aZ st)|cK=>fun Γ P E=>ε Γ (fun ζ Ω=>η) E|F6=>by obtain⟨ε,ζ,η⟩:=θ|Afm=>by obtain⟨F,Γ,ε,R,h,k⟩:=ζ;exact η|EE=>∀(_:Cls),_|EF=>_::_|HI=>aC ε (BA ζ η)=θ|X9=>z6 (m:=ε) ζ|Sb=>ε (X:=Afi) (ζ:=η)|EG=>(by (first|subst h|exact aaz h|exact aaA h|exact aaC h|exact aaB h|exact aaE h|exact aaD h|exact aaF h|show Ň|show ON h|show OL h|show NX h|show OM h|cases (h)))|LY=>(k+1)|Go=>kz F'|Ŏ=>AUQ cJ ε ζ|fT=>(by (first|subst ε|exact aaz ζ|exact aaA η|exact aaC θ|exact aaB ι|exact aaE ν|exact aaD ξ|exact aaF ο|show UQ π|show ON ρ|show OL τ|show NX υ|show OM χ|cases (ψ)))|HK=>(by (first|subst h|exact aaz h|exact aaA h|exact aaC h|exact aaB h|exact aaE h|exact aaD h|exact aaF h|show Ň|show ON h|show OL h|show NX h|show OM h|cases (h)))|FC=>by obtain⟨ε,ζ⟩:=η θ ι ν|FD=>EO Pt|Sc=>(ε ζ η).ALY|F7=>X.calm=Μ|M_=>Q (BY ε) ζ|ET=>DZ Β|Kb=>AUO OP ε|Se=>rq ε (HT ζ η)|AUT=>yz ε ζ LS|Ev=>(cV 3)|zD=>fun _ _ _ _ _ _=>(IU ε)|AMR=>b_ (fun ε Ω F1 H1 ζ R1 s1 r1 h1=>η)|IB=>z7 (α:=_)|HV=>rL α (β×AB)|MQ=>(by first|subst ε|exact aaz ζ|exact aaA η|exact aaC θ|exact aaB ι|exact aaE ν|exact aaD ξ|exact aaF ο|show UQ π|show ON ρ|show OL τ|show NX υ|show OM χ|cases (ψ))|IC=>by rw[ε,ζ]|ŏ=>ε .QP|HZ=>P ε Ω|Ő=>AHQ s ε ζ|AvP=>backTo ε (AS6 ζ BE)|PY=>by show yi t ε|cS=>(E3+1)|OR=>BB (C9 ε)|ő=>rS bM ε ζ|fb=>r.2.2|Œ=>Ŋ kW|Sf=>fun σ H Q ε=>ζ|œ=>AMQ ε _ I h|MR=>(by (first|subst z|show AHG|show AHI|show AHK|show AHJ|show AHM|show AHL|show AHN|show AHO|show ON z|show OL z|show NX z|show OM z|cases (z)))|PZ=>D1 ε AC|Hd=>EO Bd|F8=>(qv 3)|F9=>C9 k|G1=>(OO ha)|r8=>eL ε BE|zI=>fun a ε=>ζ|MS=>by rw[bJ ε];exact ζ|k9=>ō SR ε ζ σ η|fc=>fun ε σ H ζ=>η|Si=>z9 _ Β|LZ=>by show AD q q q q q q q q q q q q q q|zS=>AK1 ε|JU=>if ε=Μ then ζ else η
|FY=>by
 have ε:ζ:=η
 have θ:ι:=ν
 refine ξ
|k_=>EH H1 ε ζ|OS=>EL Β ε|Lc=>by rw[ε] at ζ;show AD η θ ι ν ξ ο π ρ τ υ χ ψ ω Α|MT=>by exact eI ε ζ|Sj=>(ε b hb).1|Fc=>by obtain⟨_,_,Β⟩:=len2 hl|Ll=>aA (ε c) (GS ζ η)|Pc=>fun r=>ε|Afn=>by obtain⟨_,Β⟩:=ε|ID=>EO T|UY=>ε (ζ:=η) (θ:= ι) (ν :=ξ) (ο :=π)|Nw=>by rw[<- ε];exact ζ|MU=>C9 i|AUU=>rL Κ ε|N0=>EL ε Β|IE=>b9 n|F_=>a::l|UZ=>Sz 4000 ε|GH=>(.refl _)|ACT=>⟨ε,g,d,ζ,os⟩|JY=>show ε by show q_|GI=>AHP 2|ze=>bF  ε (B0 ζ)|Lm=>ABR AJ|zh=>JJ cM ε 1|AMS=>.bool AE|Q3=>gO Γ σ b|AHS=>bB HR X.w ε ζ η θ|Jn=>fun ε ζ η θ ι=> ?_|M'=>fun ε ζ η θ=> ?_|NA=>∀{ε :ζ},η ->θ|AvQ=>(B0 qK)|Q4=>pk ε=Η|NB=>.pu (FF ε)|fe=>ņ je ε ζ|Hb=>BC ε ζ η (θ) ι|Uf=>FH ε ζ [η] θ|NC=>(rX ABx)|lI=>(IZ 0)|G_=>α ->AL|AMT=>(AUP ABN)|lL=>ε (au ζ aK)|X_=>if ε then ζ else 0|Ki=>by rename_i q|HL=>by exact AG0|Ŕ=>(ε==ζ)=Μ|r9=>NO OP ε ζ η θ ι|Q_=>JJ cj ε ζ|AHT=>GT ε c|fg=>C9 ε≠0|IF=>⟨ε,_,ζ,Β,η⟩|IG=>r6 X.N|zk=>fun b ε hb ζ=>η|Pe=>fun σ H Q=>ε σ H (y0 ζ η)|AUV=>E9 QA ε t|LH=>by show AD Τ Τ Τ Τ Τ Τ Τ Τ Τ Τ Τ Τ Τ Τ|Pf=>by rw[C8]|YA=>(bi 1)|U1=>∀b∈ε,ζ|OT=>(xh ε).1|lP=>z6 (ε ?_)|AHU=>ε=Hn AE|Sk=>cE h'|fh=>aV K ε ζ=Μ|MV=>Qr ds vs|AvR=>#[.B9 ε,BM,BM,BM,ζ,BM]|J_=>Gl X x|U2=>ε P w K mg C3 ζ η θ|AMU=>(ε).any (·.1)=AE|II=>fun ε=> ?_|ACU=>.As2 ε|Lo=>EO Env|OU=>by rfl|Sl=>H ε=Ε ζ|Id=>(cV 4)|ŕ=>nA ε ζ=Μ|Ŗ=>aJ K Hk ε|cc=>fun b o ε n=>ζ|AvS=>yo D D|AvT=>ε=T' a|AMV=>Ő h' ε|IJ=>y_ F H|ce=>cZ Γ σ H b|He=>by show GB ε ζ η θ (_Hd.fun_ix L ι Β);show GB ν ξ ο π (_Hd.fun_ix L ρ Β)|AUW=>blk X sc N' ε|U_=>by obtain Β:=ε|cf=>eI ε ζ|YE=>by rw[ε];rfl|fq=>mg ε=Ε (BY ζ)|MW=>Xs iQ ε|IL=>∀(c:Cls),_|ci=>MH ε (ζ b=η b)|zn=>z8 _ e|zo=>JJ cM ε 0|ck=>Nd (rS fM ε ζ)|Lu=>Uq Ξ|ACV=>sY (De ε) Β ζ η|MX=>OQ u e|ŗ=>AvP Ψ ε|RA=>∀r∈Ξ,ε|AUY=>pO (j:=ε) Β|Ř=>(by (first|subst z|show AHG|show AHI|show AHK|show AHJ|show AHM|show AHL|show AHN|show AHO|show ON z|show OL z|show NX z|show OM z|cases (z)))|Lv=>fun e=>ε|YI=>fun _ ε =>ζ|ND=>by rw[ε] at ζ;exact η|U'=>fun i ε=>ζ|Lw=>C9 n|cn=>(FF vs)|Sm=>M1 AB|AUZ=>EW ε te|NE=>by have:=ε;show AF|AUa=>EO (ĥ ε)|Afo=>ň ε ζ HC|MY=>b≠a|r_=>UU n6 ε|lS=>AUR AB|Kj=>(-1)|Iq=>D ->AvS|NF=>Cb b hb|Ix=>ŋ ε c ζ (ACQ η) θ|AMW=>D1 Hp VK|Iy=>by obtain⟨_,_,Β,_⟩:=h;rfl|AHV=>ε=KO|Sn=>.eJ|VA=>(ε).ALY|sA=>by obtain⟨ε,ζ,η,θ⟩:=h|AUb=>(ALd ε).ζ|ft=>fun r ε=>ζ|L2=>(qv 4)|RC=>H ε=Η|OV=>cB cM ε ζ|VC=>(n+1)|J'=>IU h|L3=>DZ q|cq=>AUN ε As2 ζ|VI=>by obtain⟨ε,ζ,η,θ⟩:=id ι|N1=>rh Κ|cr=>EH H ε (FF ζ)|ř=>KF ε us|fw=>z6 (ε ζ η ?_)|AMX=>Sc ε Ξ ζ|sB=>AUN pd seq ε|AHW=>NO k7 X.A ε ζ xi s|Pi=>(Os (kW Ξ))|lT=>(fQ X0 P w K mg C3 N E2 zC f cdv A DD s H E)|KA=>by show AD rx rx rx rx rx rx rx rx rx rx rx rx rx rx|RE=>by obtain⟨ε,ζ,η⟩:=h|So=>⟨ε,Cb ζ η⟩|N2=>.B9 l|Pl=>fun b ε q=>ζ|ACW=>E_ (AHS ε ζ η θ) ι|N3=>SV H|Sr=>AMP u ε|VM=>dt rs ε|YN=>BB ε/ BB ζ|Afp=>Aek K ε ζ =Ε (D9 η)|AHX=>(bE vs)|f_=>∀b u,SU ε ->ζ|gE=>if ε then ζ b else η|Su=>(by show XY)|NG=>[CF]|VO=>⟨ε,Β,ζ⟩|gI=>BA b ε|gL=>BA r ε|gN=>fun v ε=>ζ|gS=>eI ε (ζ η)|YO=>E9 ε e ζ|VQ=>IS ε j ζ|MZ=>ALk _|YR=>(HG Β)|sC=>(a::bs)|S4=>Ō St|la=>UV ds ε ζ|sD=>ņ aA (ε c) ζ
|LJ=>ML (fH (i:=0) (show(ε:Ρ).OC by show XY) Β) Fm|S_=>ε<=9000|VS=>∀p∈ε,ζ|AUc=>ABr ε|NH=>by rw[ε]|VT=>BA j ε|OW=>.pu (M3 ε)|VU=>.DC xs|Mb=>(OO he)|AHY=>Aso (Aek K ε ζ)|Po=>LX k.nx|AHZ=>fun i j=> ε|sK=>by rw[bJ (iB ε ζ)]|L4=>AHP 1|L5=>(zD vR)|AMY=>ε+1<cLine|zt=>FR _ D6|lc=>bZ ε (UT ζ η)|sL=>ε _ _ _ _ ζ η|AHa=>(.frz oe (jf a C))|TC=>EJ K F d v|Afq=>ε ζ (aA (η c) (GS θ ι))|sN=>show ε=ζ from η|zw=>by obtain⟨ε,ζ,Β,η,θ,ι⟩:=ν|RF=>EO β|sQ=>E3+1|AMZ=>[NU,ε]|lf=>by rw[ł ε]|RH=>cB cW ε ζ|YU=>s.2.1|N4=>M1 Ζ|AMa=>SS L7|gT=>Fr Me ε|ACX=>C6 hb|AHb=>Apart σ ε ζ|cy=>fun ε Γ E=>ζ Γ (fun η Ω=>θ) E|lh=>(k8 B5)|TD=>yo AR AR|AMb=>AvT u|sR=>dB (fun ε ζ=>η) θ|Ś=>∀b o,LA ε ->ζ|AMc=>zk o e ε|AUd=>A8 (qL  ε  ζ) AvQ|sT=>k _ _ F H (ef sF) ε ζ|cz=>.cell|VV=>BA w ε|TH=>C9 0|RI=>.B9 p|sd=>NY H ε|c0=>GN AR|YV=>(D9 ED)|se=>Aes i ε|sf=>.refl _|ACY=>PE X e ε|AHc=>.DH (HG ε)|RO=>(IY B5)|OX=>HQ v u|ACZ=>ő fM ε|NI=>Sf ε (Afm P ζ η)|sg=>ε KI e|NJ=>by show Afn (len1 hl)|gc=>by rw[ε];exact ζ η|OY=>qI ASx x|si=>[a,b]|sj=>(ε b hb).2|BZt=>fun _ _ _ _ _ _ q=>ε|sq=>(by (first|subst ε|exact aaz ζ|exact aaA η|exact aaC θ|exact aaB ι|exact aaE ν|exact aaD ξ|exact aaF ο|show UQ π|show ON ρ|show OL τ|show NX υ|show OM χ|cases (ψ)))|AMd=>DecidableEq ε|N9=>by split at h|TK=>BA h ε|VW=>(ε&&ζ)=Μ|ACa=>L9 F1 ε|N_=>(OO hb)|AHd=>by show ACS ε;show AF|z0=>(match ε with | ζ=>η | _=>AE)|YY=>fun b u ε ζ=>η|Afr=>M3 (AGu ε)|AHe=>(zW _ hb)|z_=>(.frz o PU)|RR=>.QP d|AvU=>fH (i:=ε) nd Β Fm|ACb=>(De (mU hu))|AHf=>AMU (ŗ ε)|Pp=>β ->AL|gf=>aj ε ak|OA=>∀{K:AA}{F:Hp},_|sv=>z7 (α:=_) ε|AvV=>Ctx JO F0 H0 E|Ps=>fun q=>ε|VX=>by obtain⟨ε,e⟩:=ζ|TL=>(ε ζ).Ff|AHg=>⟨ε,Β⟩|TM=>fun ε ζ=> ?_|li=>As ε ζ e|ACc=>IS ε q ζ|TN=>Cc q|OZ=>zN _|Ya=>P (.bl ε)|À=>ST sG ε ζ|VY=>ws[i]|Á=>ME Δ|RS=>Na ALK|ś=>EX (qD (ε h))|AHh=>Afk x Bqc|Of=>SY ε 2|VZ=>by rw[<- ε];exact ζ|TU=>⟨ε,vs,Β,ζ,η⟩|gi=>z6 (ε ζ ?_)|Yf=>∀b o,ε ->ζ ->η|Ŝ=>∀x∈ε,x∈ζ|AMe=>EJ K F' ε ζ|lj=>ε b o e|Afs=>hb (LG ε)|ŝ=>No ε (ζ ?_)|AHi=>AHT As_|TZ=>AUV LE|AHj=>.ins C dx ε|Â=>Afo (AUT ε ζ) η|gu=>(z8 _ e)|Aft=>.obj C' fs ds|AMf=>dg s x|AUe=>NO k7 X.A ε ζ η θ|lm=>show fg ε by decide|On=>by subst hP hw hK|Ã=>A8 (fH (i:=ε) nd Β) Fm|Pw=>(by (first|subst h|exact aaz h|exact aaA h|exact aaC h|exact aaB h|exact aaE h|exact aaD h|exact aaF h|show Ň|show ON h|show OL h|show NX h|show OM h|cases (h)))|Ä=>Os ε|P1=>ε<Cl|lr=>AGe ε|c8=>by simp [ε,ζ]|P2=>by grind|sw=>⟨o,ε⟩|sx=>BA i ε|Ş=>by rw[ε,ζ];rfl|ACd=>σ.set i ε|ACe=>ε x=Μ|ly=>.bl _|c9=>P ε B4|ş=>FA (D_ ε ζ)|l4=>by rw[<- ε];exact ζ η|Š=>SV F|š=>a::bs|Y1=>(GW xs)|RU=>by obtain⟨F,Γ,P,R,h,k⟩:=ε|Ţ=>r6 xs|ţ=>h∈s|P3=>A.handled=Η|RY=>HQ y u|Å=>Q1 zn|AHk=>Se ε B5 ζ|ACf=>by have:=ε;rwa [ζ] at Τ|l5=>zI ha ε|ACg=>fe mV ε|Rc=>AUZ e|Y2=>AUa AL|AUf=>fun ds P=>ε|l6=>AMR ds vs ε|V_=>∀(X:Cx) (F0 H0:Hp),_|Tb=>SW ε (A8 (bV (De ζ) η) θ)|Bam=>lL (ACV ε bw boot_len) ζ|s0=>.bool ε|Re=>EO AO|Th=>(cV 6)|l7=>ņ kY ε ζ|ACh=>QY H' ε|AHl=>L9 ε H'|Y3=>P (GM ε)|Ť=>Ξ[i]|AUg=>yn s' ε|ACi=>(.dK AHX)|V'=>(IY AZ)|Rl=>fun i hi=>ε|gy=>dD i|c_=>rh α|Y_=>z6 ?_|AHm=>(k8 AZ)|ACj=>x Co
|l9=>MM fp ε|AUh=>AUS (IA ε p) ζ|ť=>.AU ε 0|s_=>∀b u,ε ->ζ ->η|AUi=>ε (t' :=Mc)|Ŧ=>ze ε (ze ζ η)|g6=>aL AG F ε ζ|Æ=>(ε.2 b ζ).Ff η|Rs=>e _ _ ?_|R_=>t::ts|Y'=>∀j,j<ε ->ζ|AUj=>B0 (oK ε ζ η UX)|AUk=>ε P w K mg C3 ζ η θ ι (ν c)|AUl=>ŕ a b|WA=>(fr t b).2|AUm=>∀z E,AvV ->ε|Afu=>(AUW C K_ SG fp)|Ba'=>Sb sy i i ε hv hd hcd|g9=>(ε).ACH|Tk=>fun x=>ε|ACk=>fun c=>ε|ŧ=>by rw[C8,ε]|l_=>∀{ε:ζ} {η :θ},ι ->ν ->ξ|Ũ=>ε<ASn|ũ=>by omega+Bqh|dA=>(ε ζ).kA|dC=>by exact zG e|mB=>(qv 6)|Ç=>A8 qv ε|Tl=>İ h|Tm=>by show BG ε (?_:ζ)|g_=>Cw _ _|Ū=>au ε (HT ζ η)|mE=>by rw[ε];refine ζ;rw[η];refine θ|Afv=>(Atu ε).1|dE=>SW ε (Ŏ ζ (HT η θ))|ZA=>by show GU (ε=ζ) Υ|AUn=>PD ε=Ε o|ACl=>Aek K ε ζ =Ε Η|WB=>by rw[ε];rfl|dL=>by show PY rx|AUo=>GT ε .local|ACm=>c::E5|ACn=>lU (k:=ε)|To=>(ATA hc)|ZE=>fun r hr=>ε|Ts=>W.mg_none_of X G ε|AHn=>(ε b ζ).Ff|Tu=>by show BU u Β rx ALm r|AHo=>Bam Aw ε|hG=>aJ AG C f|hV=>Cu (i:=ε) (m:=ζ)|Tx=>Adx K pe ε =Ε Η|AHp=>ε (aA (ζ c) (GS η θ))|ZH=>(fr t b).1|mI=>.AU|tF=>by obtain⟨o',ε⟩:=ζ|WC=>ε ->ζ ->BC η θ ι ν ξ|tI=>by exact ε b u e|hZ=>fun c ε=>ζ|WE=>(cV 5)|h_=>(BY x)|AHq=>Mc+1|AUp=>A8 Bw ε|ACo=>NY ε ob|tJ=>cC (Afr ε)|È=>QY (EH H ε ζ) η|WF=>IU n.elim|tN=>(FF xs)|AUq=>(FF [])|WG=>M1 V|É=>(D9 v)|AHr=>FG ε v|WH=>JJ dN ε ζ|ZI=>P (FF ε)|ū=>ST sE ε ζ|Ŭ=>b≠0|WI=>ps[i]|ACp=>LA SE|mM=>LA PD|AUr=>(rX np)|mP=>Na L7|AHs=>AUO k7 ε|WJ=>EQ hb|AHt=>UU v9 ε|Ê=>.pu (qD ε)|mS=>rL Key V|ŭ=>(AHR kW)|WN=>yo AR D|dP=>P (qD ε)|AUs=>AUN L7 seq ε|AMg=>Kb (ε (BY ζ))|ZN=>by rw[Cc ε,Cc ζ]|WO=>x::xs|mT=>(ε+ ζ).eQ|AUt=>[.AU ε,.AU ζ]|ZO=>AMV tk|md=>AUY 0|tP=>kE rs|iA=>AHV OH|Ů=>by show BU ε ζ Β ko η|AUu=>mq X (AS8 .ε) ζ|me=>Aul K Hk|dQ=>by obtain⟨x,H1,I1,r1,q1⟩:=ε|AUv=>fun σ H Q=>ε|WP=>Afq aR ε ζ η θ|AHu=>AHb Γ ε|ů=>h0∈Œ|iE=>fun j hj=>ε|WS=>∀(I:AV),_|WU=>by intro X hP hw hK hc i Ο s σ H E I hf st hg|AMh=>fun s=>(X_ ε ζ)|AHv=>UD σ ε|iF=>(BA y (Afs y))|WV=>⟨fun i Γ=>ε,ζ,?_,?_⟩|ZT=>EW a ta|iN=>(ε).up Φ|WZ=>ŋ ε c ζ (ACQ η) θ ι ν|Afw=>bS μ d|AMi=>cY 1 ε (iL ζ) lI|We=>by obtain⟨_,Β,_⟩:=h;rfl|tS=>.pu (eG Ξ)|AvW=>AMO HU (.As2 (AvR ε AMS))|AvX=>{ε with nx:=ζ,ct:=η,bk:=θ}|Afx=>ε (AMc ζ) f0 f1 f3 f4 f5|AUw=>ALd ε|AMj=>.function|iO=>.AY|mh=>st.2|Ű=>fun o=>ε|iP=>fun k=>ε|ZU=>by obtain⟨ε,Β,ζ⟩:=η|tT=>Cl<=ε|ZY=>by unfold ε at e|ACq=>P.below ε|AMk=>by simp at ε|AMl=>by cases (show ε from ζ)|AMm=>⟨Υ,ε⟩|ZZ=>⟨ε,ζ,Β⟩|Zl=>by show UQ hq|AUx=>ε (AGe ζ)|mi=>by rw[ε,ζ];exact η|iS=>C9 1|Ë=>H1 ε=Η|iX=>As h' ε ζ|tj=>FM D6|Ì=>FG Γ ε|Zp=>by rw[ε];exact h|Í=>(ε ζ η θ).ALY|AvY=>(NU :Κ)|Î=>dD j|dS=>ME AL|mo=>by rw[ε];exact ζ η|ű=>kz F1|Ų=>(US id)|tm=>MI F'|da=>.Dx xs|AMn=>fR ε ζ []|AHw=>(AHR gD)|ų=>ε ζ η (fun θ ι P hp=>ν) ?_|mr=>HE/2|Zs=>fH (i:=ε) (show(ζ:Ρ).OC by show XY) Β Fm|Z3=>d::ds|ia=>ř xs|tq=>(AUc s2)|AUy=>(MO (k b AHe))|Ï=>ε σ H1 fun ζ H2=>η|Z_=>Pm n p|AMo=>(x5 .AU)|AHx=>∀s∈S,ε|Ð=>seqObj L7 ε ζ|Z'=>cK t ds ε|AHy=>(pI qs).XL|tw=>Gr F H F' H'|AvZ=>⟨tg,OG,ifs,0⟩|Ava=>(AS4 ε).flatten|ib=>AMR d v ε|Ñ=>ε (aj ζ ak)|ic=>Sat lt n ε ζ|mv=>Ŕ apos.endLine cpos.line|Avb=>_Hd.nthM M ε Β Β|mw=>AUN xo dict #[]|AMp=>IsZip ε z TI TO ζ
|Afy=>∀C K_ SG fp F0 H0,ε Afu F0 H0 ζ η|AHz=>AJ ->ε|Afz=>if ε ζ=Μ then η else θ|ie=>by obtain⟨o,ε,ζ⟩:=η|tz=>by show UQ q|ii=>(qv 5)|ij=>C9 j|my=>.B9 Cl|ik=>Lp lt p ε ζ=Μ|AH0=>_Hd.fnO K ε ζ|dc=>.AU _|Ŵ=>F' b|di=>.DC ts|ACr=>(AS5 P w)|Ò=>PE X (.ε ζ η Ψ) θ|t6=>LA Me|ŵ=>ME D|AMq=>ME Row|Af0=>SU SE|m3=>fN ε (rV ζ)|AH1=>(.bl AE)|AUz=>GY zt|ACs=>by rw[ε];show AF|AH2=>Nl u|m4=>Hc (∃(ε:ζ) (η:θ),ι)|t7=>LB Ξ|t_=>rL κ V|ACt=>(.frz o u)|AMr=>fS (.ALZ ε ζ Ψ) η|uA=>ŏ (C4 ε ζ)|Ó=>iU AG C|AMs=>ε (zN _)|Af1=>ACU (AvR ε AMS)|dk=>aW (dO ε)|AMt=>∀a∈as,ε|dl=>aC l f|Avc=>(.A5 cS)|AU0=>ACT h (t+1)|Af2=>AHW ε (ζ X Ο σ Q)|AMu=>(uE qs)|im=>AMY Ael|Af3=>fu K F H ε ζ as|m_=>(yM st)|ACu=>∃t,u=ε|ACv=>AUd (AUj ε ζ η) θ|dq=>ACY te|nE=>(AUS (rX p) LE)|Ŷ=>cK te d ε|Af4=>sp ε ζ fun η=>E Ω θ|dr=>fc D ε (Afm D2 ζ η)|nI=>AHg t|AH3=>ε K F0 H0 ζ E σ H Q|AU1=>AHU (AGi ε ζ AtR BE)|Ô=>(0,0)|Avd=>ε (t' :=ATD) ζ|Õ=>fun b hb u q=>ε|uB=>∀(he:fR LE e es:=by rfl) (EI:AHf es:=by rfl),_|io=>frs O_|du=>o7 P w H h|nK=>AMe d v|AMv=>cP (GS ε ζ)|ip=>Cb p hp|iq=>KW _ Si Β|ŷ=>Xs bM (Xs fM ε)|AU2=>aL K F' ε vs|nL=>Lean Ξ ms x|dy=>by obtain⟨f0,f1,f2,f3,f4,f5⟩:=hf it A1|nN=>W.kia_one ε av ζ e (FI (nomatch z)) h|AMw=>BHx e ε BE (r8 e)=XZ e|AMx=>.local|nX=>st.1|ir=>fun b=>ε|AU3=>fun B4 =>ε|Af5=>by rw[FS,ε] at ζ|ng=>by rw[ε,ζ] at Τ|Ö=>by split<;>(show qr)|uC=>by obtain⟨ε,ζ,η,θ,ι⟩:=ν;exact ξ|AU4=>(ATC ε).ζ|AH4=>BA x ε|i3=>(cV 8)|uS=>ABS (ε ζ)|i4=>(qv 8)|Ø=>C9 Afw|Ù=>E9 QT ε ζ|ACw=>BB (MC ε)|ACx=>(I.tok _)|i5=>Cc AK4|i6=>EL ε ?_|AU5=>GT pk ε|i7=>.AX _|AMy=>(Afj pK)|i8=>kz H|ua=>(Nc T)|Ú=>SW ε (A8 ζ η)|Û=>by show DU Β|Ü=>MI H|ub=>bJ hb|i9=>SY ε 4|AH5=>z8 _ q|i_=>(by simp;show AF)|ue=>Ic Β|ACy=>SZ ε ζ (SZ η θ ι)|Ý=>v= CF|AMz=>fun ε ζ=>η θ (zW _ ι)|ui=>zS hi|nk=>AUU ATL|uj=>(zh Ap)|uk=>∀(t:c7),_|AM0=>ACT h t|AM1=>(CD ε ζ η)=Ε u|ACz=>fj X (US ε) ζ|AC_=>.tr as ε|Þ=>AHZ (.AU ε)|nr=>MG q q|Af6=>qD (v w)|AC'=>fun o e=>ε|ul=>(j::cs)|i'=>∀(qs:BI),_|jI=>ε (bZ ζ (UT η θ))|Ÿ=>dF k X.A|ADG=>bZ ε (As ζ s2 η)|AU6=>AMX gD w|jS=>∀(te:cD),_|AU7=>AUf (la [ε] ζ)|ja=>(Ba' hN)|ß=>by show GU AMb rx|AM2=>Ava i|AU8=>(pJ ps ws u)|Ź=>AUm (ε JO ζ (ō η t E))|Ave=>dF ε (Atq ζ)|AM3=>⟨ε,H,I,Β,ζ⟩|ź=>[AvY,a1,a2]|ut=>(match ε with | ζ=>η | θ=>ι | _=>D6)|uu=>gF Ξ x r|Af7=>∀x c,AHi ->ε|nv=>(.BIz elt [AvZ] sc Ψ)|AM4=>by obtain⟨hp,g,d,tk,os⟩:=ε|jb=>fun F0 H0=>(IU ε)|Af8=>(br SR F H σ Γ)|ny=>by show AD e2 e2 e2 e2 e2 e2 e2 e2 e2 e2 e2 e2 e2 e2|AU9=>_Hd.adr_of ε|n5=>nomatch e|n9=>h1.1|n_=>by obtain⟨ε,ζ⟩:=η|oB=>by subst Τ|à=>by obtain⟨ε,ζ,e⟩:=η|Ż=>by obtain⟨ε,ζ,η⟩:=Cn|Avf=>by obtain⟨_,Β,_,ε⟩:=ζ|oC=>by apply List.ext_getElem|Af9=>_Hd.adr_of ε|oP=>by kernel_rfl|ż=>BA d ε|uv=>fun ε _=>ζ|u7=>fun ε s' =>ζ|oQ=>(cV 7)|oS=>(qv 7)|AU_=>D1 Δ ε|AH6=>E9 QF ε ζ|oa=>(Cl+1)|ADH=>BB fb|á=>(bi 0)|Af_=>.AU fb|â=>FM 0|og=>.DC _|AM5=>I.tok _|om=>(OO h)|Ž=>Au (ε (z ▸ ζ))|AU'=>EW (.ε ζ η Ψ) θ|AVA=>(rX ep)|AVB=>FA AtW|ž=>.BD x|ã=>Afk ε "__debug__"|ä=>LX k|oq=>.AX x|ſ=>E4 ⟨ε,ζ⟩|u8=>AUO M ε|ox=>.bl b|AM6=>Ŋ gD|u_=>ABR Δ|vE=>Nn i ε ζ η|ϊ=>by unfold ε;grind|ADJ=>fun b o ε ζ=> ?_
|å=>HQ x u|oy=>rL Κ V|oz=>by rw[Cc ε] at h|vF=>AUR AT|æ=>z6 (SI ε ζ η)|ADK=>SE ε=Ε o|Avg=>wpAny_loadPart_at ε ?_|o4=>(œ he)|o5=>∀{n:Δ},_|Be'=>k_ E3 ε|AM7=>(De (vB hu))|ϋ=>Q v H'|ç=>Q_ ε 3|AM8=>(kW Ξ)|o6=>OT hi|AVC=>∀a∈l,ε|ADL=>ck qv ε|Af'=>∀x,x∈ε↔ζ|AH7=>(b::su)|vS=>sN ε ζ Β|Avh=>_Hd.isRef (Aek K ε ζ)=Μ|ό=>Co∈m|ύ=>AT1 ε TO ζ η|vT=>BZt SO|ώ=>AMd κ|va=>LD u|vb=>ś x|AH8=>r9 A ε Q E ζ|o_=>r::rs|Avi=>fN W.isFn (BY ε)|vc=>ACf ε C8|ve=>(ACg Ap)|ADM=>Afv nd|è=>t σ H Q|AH9=>ou Hk ε Ap|Ϗ=>Bq aq ε B5|AM9=>z0 b ε ζ|vi=>PI X tg ε ζ|pE=>f::fs|ϐ=>fun q hq=>ε|vj=>∃r∈Ξ,ε|AgA=>by show ACS ε;decide|Avj=>Avd AtX ε|AH_=>by show FX ε ζ _Hd.fun_of (Avb η);show FX θ ι _Hd.fun_of (Avb ν)|BfH=>(ε t1 t2 A9 l1 l2).ζ|pM=>HQ x v|ADN=>.tr ε (X2 ζ η)|ADP=>Hi led ε|é=>(x h - AMf)|vk=>MG x x|AVD=>by obtain⟨ε,ζ,Β,η⟩:=m5 θ|ϑ=>aA (ε c) (aj ζ (GS η θ))|AM_=>(AHk aO aU)|AH'=>yy F' H' B4|ADQ=>(lE r g ps ms x).xf|AM'=>vJ Ξ ε w|AIA=>DP ε I ζ η S n ep|AVE=>rK knd kf ε o ks es ep t|pS=>by show fT q q q q q q q q q q q q q q|pV=>by rintro Ο s σ H xs us Q I r ⟨F,ds,P,sF,rs,h,k⟩|AgB=>by with_unfolding_all rfl|ê=>by exact h1.elim|vn=>EO κ|ADR=>ε Cl=Ε ζ|ë=>⟨⟨ε,ζ⟩,η⟩|AIB=>fun vs ε=>ζ|ϒ=>by rw[ε ζ];exact η|AIC=>(GM 0)|vt=>AK1 h|ADS=>ε (i:=0)|AIE=>.AU j|AIF=>IA NU ε|vv=>i<By|ì=>(ALk _)|AgC=>JI - ε|vx=>Cc Θ|ADT=>Fr ε o|ϓ=>D7 By|AVF=>D7 kC|vy=>Au ?_|í=>P []|Avk=>ky ε BHH|ANA=>T' a|ADU=>by rw[ε];show AF|vz=>by show A7 Φ|v4=>(rX Ψ)|î=>(ε ζ).Ff η|AVG=>z6 (ε (ζ ?_))|v6=>AHP 3|ANB=>SV H'|ANC=>fun Γ P _=>ε|ϔ=>(pK P w)|ï=>MI H0|ADV=>LO hb|v_=>SY ε 3|wE=>h∈hs|AIH=>h∈Œ|ADW=>OK ε 0|ADX=>eL ε Be|ADY=>(.frz o ACi)|AgD=>(AHR mW)|ADZ=>∀h',ε ->ζ ->η|AVH=>ŏ (ε).map|ANE=>AvP HC ε|ð=>by have:=ε;simpa using ζ|ANI=>x6 H a ε|Bf9=>W.Looks.here (s:=ε)|ADa=>(zo Ap)|ANJ=>ft s' ε|ANK=>mq X (Atj .ε) ζ|wP=>sD ε Ap|ANL=>Q () s'|AVI=>BB s.2.2 - ε|wS=>(c::ds)|wT=>(g i j)|wb=>AHd 2|ADb=>Inv JO Ο σ ε ζ|ϕ=>x≠ "__name__"|ϖ=>MG _ D6|ñ=>by have:=ε;have:=ζ;show AF|wc=>.dic ks ts|we=>bS t b|AVJ=>Sem AJ|Avl=>ACe X.fn|AII=>(x6 F2 a AHa)|wn=>nZ K H a xs|Avm=>AUo BHX|ò=>(AHo B5)|AgE=>(Rat.divInt t b).ε|wo=>AHp aW ε ζ η|AIJ=>aY (IZ ε) (aY (IZ ζ) fJ)|ϗ=>fun w hw=>ε|ó=>∀l:DE,ε|wp=>∀{Q:dW},_|AIK=>XN i _ e0|ANM=>b1++ (ε++b2)|ADc=>AUx bJ ε|AIL=>(hn a ε).1|ô=>fun z hz=>ε|õ=>fun p hp=>ε|ANP=>kg i 0|ö=>PE X a ta|Ϙ=>gV s o a|ϙ=>ε Ο s1 σ H1 _ I1 q1|AIM=>a==b|AIO=>-(2^62)|AVK=>∀r∈Ξ,ε|AVL=>lu Hk ε (ζ c) η|AVM=>Ave ε (ATM ζ η Cl f cdv)|AVN=>k9 F1 H1 Ω|AVO=>NO _ _ ε _ _ s|wq=>by obtain⟨_,_,_,Β⟩:=vL hl|AgF=>∃m',m' <m/\ε|wt=>by show U_ b;exact⟨ε,ζ,η⟩|AVP=>aC S (AMh ε ζ)|ww=>k _ _ YR e|AgG=>(Be' Avc)|AVQ=>pC ps (ε w)|ADd=>Af3 ts vs|ADe=>ATK K fd ps []|wx=>Afz O0 ε _ _|wy=>∀F0 H0,ε|AVR=>show jy ε ζ=Μ from yu _|AVS=>AB ->AB ->ε|ANQ=>b1++ (ε++b2)|w4=>by obtain⟨_,_,_,Β,_⟩:=h;rfl|w8=>by obtain⟨_,_,_,_,_,Β,_⟩:=h;rfl|AVT=>(fs++ [f])|AVU=>by show Afn b;exact⟨ε,ζ,η⟩|w9=>Ord lt n|w_=>_Hd.isRef (Adx K pe ε)=Μ|xA=>(lo+hi)/2|ø=>fun x y P=>ε|ù=>dU _ ε _|Ϛ=>ε Ω (fun ζ BF=>η) E|AVV=>(EH H2 A2 AUq)|ϛ=>ji xs ys|Bgi=>backToKw ε (keywordEach [] BE)|AIP=>ACW H A9 ε ζ (KI η _ θ)
|AgH=>tu ε d es ep|AgI=>∀x,foldedSetIterable ε BE x=Hn x|AVW=>{cls:= AMa,dict:=ε,ABT:= ζ,ALR:= η}|AVX=>NO _ _ ε _ _ _|Bgp=>by rw[ε] at n;show AD n n n n n n n n n n n n n n|ADf=>.Kx|ADg=>Ť.1|Ϝ=>h1.2|AIQ=>by rw[C8,ε,ζ]|ú=>by rw[<- Τ]|ϝ=>aw ε|û=>SI ε ζ η|ü=>by subst e;exact ε|ANR=>by simpa [ε] using ζ|ý=>by exact_mod_cast ε|AIS=>BHQ ε =Ε ζ|Ϟ=>by rw[ε,ζ]|ϟ=>(ε ζ).OC|þ=>(cV 9)|ADh=>(BY Cl)|Ϡ=>Cl+1|ÿ=>(qv 9)|ϡ=>(cC BH)|Ā=>eI (ε ζ) η|Avn=>ε K pe ζ|AIT=>(D9 1)|ā=>L9 ε H|Ă=>by show BG (?_:ε) ζ|ă=>X2 _ _|ANS=>Κ ->AB|AVY=>GT mg ε|AVZ=>(KS _ D6)|Ą=>ME AB|AVa=>SU F'|AIU=>(Nc L7)|ANU=>bF (B0 ε)  ζ|ADi=>.bl Μ|AgJ=>fN W.keepIn ε|ą=>(FV h)|AgK=>AMQ h|Ϣ=>ABR GenState|AVb=>OR ε/ BB ζ|Avo=>ε/ BB AsW|ADj=>hS b hb|ADk=>aJ K C ε|Ć=>by unfold ε;rw[ζ,η]|ADl=>rL GE V|ϣ=>by rw[DZ ε] at h|ANV=>⟨o,e,ε⟩|ADm=>X9 ε (ζ η θ ?_)|AIV=>Qr xs vs|ć=>OQ u q|Ĉ=>(œ ha)|ĉ=>PZ Unit|Ċ=>.qJ _ _|Ϥ=>Sj hn|ϥ=>AUU Ζ|ANW=>GT ε .cell|AIW=>(zh AS)|Ϧ=>Aul AG C|ADn=>yo D AR|ċ=>c::cs|ADo=>(nJ w)|AIX=>lP z7|AgL=>cf ε A1|Č=>AUY 1|AgM=>R1.sl i _ ε|AVc=>r_ (AHt ε)|ϧ=>AUb ε Hm|AVd=>fun σ2 H2=>ε|AgN=>qA (US ε) ζ|č=>by show sK e ε|Ď=>(.ow ds)|ď=>(se B8)|Đ=>sj hn|đ=>BZt q|AgO=>ACa F2|ADp=>(n,k)|AgP=>.AS9 .And ε Ψ|AIY=>AUe ε ζ z.xe η|AgQ=>(ABu a)|ANX=>eE f hs|ADq=>ABW= []|Ē=>ε Β Β ζ η|ē=>fN nD C|Ϩ=>Pe ta x ε|AIZ=>TR K F' H' ε ζ η|ADr=>ε AG H ζ ys|AIa=>(ATn gr)|AgR=>(ε ζ (AGv η)).θ|Avp=>Afp KU ε MD|Ĕ=>∀{K:AA}{F H:Hp},_|AgS=>AHv H|ĕ=>AQ ->AMW|ϩ=>[IN,OB]|AIb=>o9 ε i=Ε ζ|AVe=>As r s' ε|ADs=>Af2 ε EP|AVf=>AUk DN Hk ε ζ η θ|AIc=>AU2 ds|Avq=>{s with toks:=ε}|Ϫ=>fun c hc=>ε|ADt=>by with_reducible refine Avg ε|ADu=>dt (ε::rs) ζ=η|ADv=>Af7 (c≠ε)|Ė=>fun h hh=>ε|ϫ=>o9 (ε ζ) η=Ε θ|ė=>dO (fG ε)|Ϭ=>EW b tb|ANZ=>(ks++ [kk])|AVg=>ε+21<cLine|ADw=>Ll zc Ap (bi ε)|AgT=>Avj Å|ANa=>∃o',NY AL2 o'|Ę=>α×β×AB|ę=>ACR DA AL|Avr=>Bf9 AU0|ϭ=>EP X Ο σ Q ε ζ|Ě=>∀{x E2:Κ},_|ANb=>ε X vs H Q|AVh=>sIx XG 0 lo|AVi=>AvX D ε ζ UD|ě=>(ofM Ξ m)|Bhn=>AU1 FE (D9 ε)|Avs=>fun b o e n ε hx=> ?_|Avt=>EH ε cS (.ins C E3 ζ)|Ĝ=>Io I hg hm ε|AgU=>ε HR X.w AG pk SH ζ η θ|AId=>by show Avf k2 b;exact⟨ε,ζ,η⟩|ĝ=>fun _ _ _ h=>ε h|AgV=>zD (cJ ε Qb Β ζ)|ANc=>BHx ε ζ BE (r8 η)=XZ θ|AIe=>TR K F H t v as|Avu=>pL X Ο H b|Ğ=>ε Ο s σ H ζ _ η θ Q I rx ry|AgW=>∀F Γ P,Af8 ->(t Γ P E) ->(ε) ->ζ|Bhs=>BT n A ε d tb rs fs ix|ğ=>UY ε mg mg P ATd w w C3 C3|Ϯ=>by show AD e' e' e' e' e' e' e' e' e' e' e' e' e' e'|AIf=>(by (first|subst z|show AHG|show AHI|show AHK|show AHJ|show AHM|show AHL|show AHN|show AHO|show ON z|show OL z|show NX z|show OM z|cases (z)))|AIg=>.QP|ANd=>BqO<=ε|AVj=>by obtain⟨ε,ζ,Β,η,_⟩:=θ|ADx=>by refine ε;show BG ζ η|ϯ=>⟨ε,DB,ζ⟩|ANe=>(BY it)|ϰ=>(BY A2)|ϱ=>by show UQ hq'|AgX=>by have ε:=ζ η;exact θ|AVk=>C9 at_|ADy=>E9 QN ε ζ|ANf=>.pu S|ϲ=>ε (i:=i)|ANg=>(FF ds)|AIh=>Cc hb|ANh=>yk s'|ANi=>PR (aV K ε ζ)|AIi=>Ε v|ϳ=>DZ Θ|ϴ=>GT BHQ ε|AVl=>ε Ξ B6|ϵ=>by show Pf;show AF|Ϸ=>.kt _|ϸ=>.exc _|AIj=>Na eA|ANj=>.BD (FV ε)|Ϲ=>C5 Β|AIk=>SW ε (B0 ζ)|Ϻ=>(M3 x)|AIl=>b9 VC|ϻ=>(a::rs)|AVm=>b≠W'|AAG=>rh AB|ADz=>z7 ?_|AD_=>α ->D|AAH=>(AUP xE)|AD'=>(AUP ABM)|AAL=>by ·exact C_ ε
|AVn=>cE (AUw ε)|AVo=>fun σ H R ε=>ζ|AAP=>by have:=ε;show AF|AAQ=>P6 ε e|AIm=>Pc Af_|AAR=>Q4 x|Avv=>NB (ε .AX)|AgY=>(yW Ξ)|ANk=>BIA ε ζ η ?_ (θ _)|AEH=>Loc ASx x|ANl=>ACU vs|AAS=>∀h∈m,ε|AIn=>Aul K js|AAT=>KW _ _ ε|AAV=>sL k.nx ε ζ|AIo=>(Lh st)|AgZ=>AMZ Md|AEI=>by show lf hb|AAX=>gT o|AAZ=>mZ rs f|ANm=>ε DJ=Ε p.2|Avw=>Pv (EZ)|AAa=>UV d Aft ε|AVp=>ACZ (B0 ε)|AAb=>.qJ ks ts|AAc=>Ŝ ε U|AAd=>dv t b|Avx=>(XO a C Η)|Aga=>XO a C (D9 ε)|AAe=>by rw[ε];grind|AIp=>PV ALB qD|AEJ=>ť 0|Avy=>by show GU (b=E3) ACX|AAf=>AUn S|AAg=>(hu1 hu)|AAh=>AUu ε (uR AG ζ)|ANn=>(EV qD)|AVq=>AMm Υ|AAi=>by show sA ε Β ζ h|ANo=>[.ABb ε ζ KL]|ANp=>VA ε=LP|Avz=>FG ys y|ANq=>Hc (∃ε:ζ,ds= [η]/\θ/\ι)|AIq=>(AMs AtH)|AAj=>sT JS h|AIr=>AMv ε YA|AIs=>AtA s'.gens|AAk=>Gd ps|AAl=>fun v s1 ε=>ζ|AEM=>AU5 KU|ANr=>YN X b|AVr=>lc ε us Cn|AVs=>(.dT AH)|Av0=>.Asa "type.__call__" ε|AVt=>(vs++ [v])|Av1=>(iB eb n1)|AVu=>Af' ε (x∈ζ)|AAm=>YO QN tn|Av2=>ε f ts vs bs AUy h|Agb=>Un (frs O_) [] ε ζ η θ|AVv=>KV AH vs|AAn=>i≠j|Agc=>Avk a|AVw=>bJ (iB e ε)|AVx=>⟨F1,Ω,_,R1,h1,ε⟩|ANs=>(ε b u ζ).stay|AAo=>.ob C fs ts|AAp=>bB P w H h a ε|AEO=>ABR (ĥ AJ)|AVy=>h0::hs|Agd=>ε∈gk S n AML ζ|AEP=>by have hl:=AeP|AIt=>∀{l:DE},ε|AIu=>(KS z Ř)|AAq=>fun ds P E=>ε|ANt=>ε fun o e=>ζ|AIv=>iT t ε it l i|AVz=>ε K sp vs H Q E|AIw=>Bhs p|AAr=>Avl\/Avm|ANu=>{nx:=ε,rt:=ζ}|ANv=>by injection e with e|AV0=>∀(K:AA),_|AIx=>X.env.frame=Ε W'|AAs=>(Be::DD)|AAt=>ABR (AB×AJ)|ANw=>iC (cT ε)|ANx=>aC AHw ε/ BB AU6|Age=>ő (qL  ε  ζ) AvQ|BjE=>by rw[ε] at z;show MR|Agf=>((ε ζ).P7 η).Hm|AAu=>(À lh AHm)|AIy=>(L9 F H)|AAv=>ŋ ε c ζ (ACQ η) θ ι ν ξ ο|AEQ=>⟨sf,ε,ζ,cc e (Bgp e)⟩|Agg=>pH (AvU ε) (pH (AvU ζ) Dz)|AEU=>ACk (jr A k c*ε)|ANy=>by show Af5 (zS hi') hi|AV1=>fun ε BF F2 H2 ζ R2 s2 r2 h2=>η|ANz=>by obtain⟨v,_,Β,ε,Β⟩:=ζ|Av3=>ha ε Ο s σ H _ I h|AIz=>fun _ _ _ ε ζ=>η|AAw=>by obtain⟨ε,ζ,h0,h1,h2⟩:=h|AN0=>M4 (De ε) Β bx boot_list|Agh=>X9 (ε S) (ζ η O.dat O.fit ?_)|AAx=>Res Ξ r g ps bd ε|AAy=>by obtain⟨v,_,Β,⟨p,vs,Β,hq,rs⟩,Β⟩:=rs|AI0=>(p B6+q Co)|BjL=>X9 (Aex _ _ _) (AL3 ε ζ A1 ?_)|AAz=>by obtain⟨a,vs,bs,Β,Β,ea,EK,r⟩:=r|Av4=>∀{A:lS}{d:AB}{tb:lS}{rs:FB}{fs:AMq}{ix:Á},_|AA_=>by show fT hf hf hf hf hf hf hf hf hf hf hf hf hf hf|AEV=>ε ->AT|AEW=>by rw[QQ,ε]|AEX=>by obtain⟨Β,ε⟩:=ζ|AEZ=>by obtain⟨ε,e2⟩:=ζ|Av5=>by rw[C8] at ε|AEa=>by obtain⟨u,ε,ζ⟩:=η|AEb=>ε<HE|AV2=>by obtain⟨ε,_,_,_,e,_⟩:=ζ|AI1=>by rename_i hb|AEc=>by obtain⟨ε,_,Β⟩:=ζ|AEd=>by (show MQ ε ζ η θ ι ν ξ ο π ρ τ υ χ ψ)<;>exact ω|AEe=>ALa ε|AEf=>EO ER|AEg=>by trivial|AN1=>Me ε=Ε ζ|AEh=>(by show AgB)|AN2=>(ATb ε).ζ|AN3=>⟨B',ε⟩|AEi=>⟨AU9 ε,ζ,η⟩|AEj=>⟨ε,Υ,ζ⟩|AEk=>(BY l)|AN4=>(BY I)|AEl=>by show UQ h1|AEm=>(GM i)|AI2=>.B9 b|Av6=>ε (AL0 ζ η)|AV3=>NY H' ε|AV4=>DV=Μ|AV5=>v.scannable=Μ|AEn=>(! ε)=Μ|AEo=>.AU k|AN5=>(ε b hb).2.1|Agi=>Ε b|AEp=>GN D|AV6=>FG Ω ε|AN6=>Fr H1 ε|AV7=>.DC AMo|AN7=>au ε (au ζ (HT η θ))|AN8=>rS iQ ε ζ|AEq=>ky g ε|AI3=>(DT hw)|AEr=>.ptr _|AEs=>Na pf|AN9=>Afk ε Bqc|AV8=>LX Fn.len|AI4=>.AX Kr|AI5=>z6 (ABc ε)|AEt=>SU H|AV9=>NO OP A ε ζ E s|AEu=>SW ε (Ŏ ζ η)|AEv=>DL jy|AEw=>bF  ε  (bv ζ η)
|AV_=>(a::cs)|AEx=>MI F|AN_=>BIH _ _ ε|AN'=>(.bl Μ)|AEy=>.Dx ds|AEz=>α ->AT|AE_=>(AUP xD)|AE'=>Nl PU|AOA=>Ō It|AFG=>ML O1 ε|AI6=>fun b o ε e=>ζ|AOB=>jn p|AFH=>⟨o,ho,ε⟩|AFI=>Me ε=Ε o|Agj=>M_ Cl ε|AFJ=>Se cH ε ζ|AV'=>by rw[ε];decide|AI7=>.dic ks ε|Av7=>bS i j|Agk=>∀x∈ε,C x|AFK=>OS ?_|AFL=>by show MT Β ε|AI8=>Around.under_plainId ε _|AI9=>kL hq|AWA=>R1.g.seq hq|AFM=>(.pu d)|Agl=>Sl ε (.A5 ζ)|AOC=>AMV t'|AOD=>(zo AS)|AWB=>qq (Cb ε ζ)|AOE=>AUb ε į|AFN=>by show BU ε ζ Β ATv η|AWD=>sB us.toArray|AWF=>Afp ε ζ (US η)|AI_=>by obtain⟨vs,H1,I1,r1,q1⟩:=ε|AWG=>Ś ε (LA ζ)|AWH=>AHc gU|Agm=>qD (s w)|AWI=>(AUS (AUT o m) LE)|AWJ=>fc Dn ε (Afm D2 ζ η)|AOF=>Inv JO Ο σ1 ε ζ|AWK=>ACc ws ε|AOG=>(DS++ACm)|AWL=>MG _ OU|Agn=>(AHj fs)|AFO=>Ä C_|Av8=>(lr hb)|AFP=>eE f S|AOH=>(x6 H' a AHa)|AFQ=>xY K H a xs|AFR=>∀i,i<n ->ε|AOI=>AUg h5|Ago=>AUh ε [.Call ζ η [] θ]|AFS=>by show GU (b=it) ACX|AOJ=>Ū B5 ε ζ|AFT=>m∉fs|AOK=>ū aU ε|AFU=>AUv (AH3 ε t)|AFV=>Aeg (DT hi)|AFW=>ATO (DT hi)|AFX=>AHu a|AFY=>by show Fu p vs hq rs ε|AWM=>AvW AG8|AI'=>jP ds|AOL=>B6=w|AJA=>ALn ε ζ (.qA η θ) ι ν|AFZ=>FG σ o|Agp=>E Γ x|AFa=>AHz κ|AFb=>(LV pD)|AOM=>(DY x)|Av9=>T' (sQ)|AFc=>AH0 (AHY AMT ε) ζ|Av_=>(IA j' p2)|AON=>Sz 1900 q|Agq=>by unfold ε;rw[ζ];rfl|AFd=>Pv i σ H|AJB=>AU7 VU ε|AJC=>AM3 ly ε|AFe=>by show AM4 s|AFf=>AeN apos.atName|AJD=>f p/q p|AFg=>∀{α:Ch},_|AFh=>∀(K:AA)(C:Ζ),_|Agr=>∀u,AH2 ->ε|AFi=>by show zw ε ζ η θ h h|AFj=>Avh AMT ε|AFk=>Avi (AHY AMT ε)|AFl=>Il (B3 72) ε|Ags=>Dw AG F' ε H' C dx x|AFm=>AVE led|AOO=>CD ε _ _|AOP=>KF xs AW|AJE=>vp K H ε (Nc ζ)|Av'=>BHZ ε b=AE|AFn=>JU (!(Χ (ε<ζ))) η θ|AFo=>Ed ACb ε ζ UX|AFp=>gS ε yU _|AOQ=>zO (ACn ε ζ) Φ|AFq=>bM  (A8 fM (Ŏ ε (HT ζ η)))|AJF=>Hh ε aq Qb B5|AFr=>by intro i h1 h2|AWN=>ε fun a b=>AUl|AWO=>(Jo aU)|AFs=>∀(hc:F7),_|AOS=>E4 (Sj hf)|AJG=>jC S h|AJH=>ş EV qD|AJI=>Avp K0|Agt=>fun _ _ _ _ _ st h=>ε|Bko=>p.2= Sn ->∃c,ε DJ=Ε c|AWP=>fun i h h' st k=>ε|AFt=>by obtain⟨oc,od,kV,doc,pm,an,cdv,ct,osl,Β,lk,hcd⟩:=Fn.ex|AJJ=>fun x y H Q=>ε|AFu=>∀{t b:AB}(h:Ŭ),_|AFv=>by rintro z E cx Ο s σ H Q I ⟨F,Γ,P,R,h,kk⟩|AFw=>∀(hs:AgI OG:=by intro _;rfl),_|AOT=>Avs hb|AFx=>by unfold PP ax|AWR=>by rw[AfV,<- ε,AMD]|Agu=>ε pe mg|Agv=>ABr (ĺ ε)|Bkp=>IS vs ε eC|AFy=>by rw[ε] at e;show Do;exact ζ|AFz=>Qn (i:=ε) (n:=ζ)|AOV=>[GG,.AU j]|AOW=>YI z Ř|AOX=>(F b).Į|Agw=>fun C dx H' =>ε|Bku=>ε==AuX&&ζ== AMj|AF_=>fun i h st b hb=>ε|AF'=>O2 (i:=ε) nd Β Β|AGA=>Aso (Avn Adx ε)|AOY=>fun s3 I3=>ε|AGB=>by rw[UK] at hbs|Agx=>(M6 cx)|AGC=>ĥ (EO ε)|AJK=>C9 (f j).den|AJL=>Χ (A6 b=A6 a)|AGD=>ε K c _ ζ _|AJM=>(ε w hw).2|AwA=>ε K ζ (Nc η)=Ε Μ|AOZ=>⟨F,Γ,_,S,q,ε⟩|Bk0=>(a::b::HM)|AwB=>(AUT e BJ3)|AWS=>Aei hz Β (x:= ε)|AwC=>(Ń ε ζ is).map|AGF=>(l+r)/2|AWT=>AUs ([]:At).pz|AOa=>(lC S n)|AwD=>fun v z=>(BjE d)|AGG=>mD X.N sc A5 Fk BE N'|AGH=>xj [ov] (ε ζ η θ)|Agy=>FH ε 3 [ALe,UH] ζ|Bk5=>(hi _ _ _ q)|AwE=>AMN DI H' s'|AwF=>Gy ŭ AgD|AwG=>(Ε (wQ bs))|AWU=>fk S n bs ε|AGI=>fun h' eb=>(Ic (Afx (AUi Ata) (eb b o hb e)))|AGJ=>KeyKind CY w κ|AGK=>⟨f,fd,ε,M,ζ⟩|AOb=>fun D σ H=>ε σ H (y0 ζ η)|AGL=>AHU (AGi e ε AtR BE)
|AOc=>O_=BE::ABV|Bk'=>wpAny_callSpecial?_slot (EB:=AGu ε)|Agz=>sIx XG XG hi|AWV=>dU DV (ε f) P|AGM=>by intro i x y h1 h2|AGN=>by intro Ο s σ H x y v u Q I rx ry h|BlB=>⟨F1,Ω,ε,R1,s1,r1,h1⟩|AGO=>callWith Ψ f first ε ζ|BlC=>⟨Nw e d0,l4 e (d1 _ b1) b2⟩|AOd=>AMQ ε _ us Q I r ζ|AJN=>(by (first|subst e|exact aaz e|exact aaA e|exact aaC e|exact aaB e|exact aaE e|exact aaD e|exact aaF e|show Afl|show ON e|show OL e|show NX e|show OM e|cases (e)))|AGP=>by show AD rx rx rx rx rx rx rx rx rx rx rx rx rx rx|BlH=>sq w w w w w w w w w w w w w w|AOe=>((by (first|subst z|show AHG|show AHI|show AHK|show AHJ|show AHM|show AHL|show AHN|show AHO|show ON z|show OL z|show NX z|show OM z|cases (z))))|AJO=>AGu ε|AJP=>.NotIn|AJQ=>by rw[ε,UP]|AWW=>by obtain⟨ε,ζ,Β⟩:=η|AJR=>show ε ζ= η from θ|AOf=>by obtain⟨o,ε,_⟩:=ζ|AWY=>by obtain⟨o,ε,ζ,_⟩:=η|AwH=>(by rcases ε with ζ | ⟨⟨xs,η⟩,θ⟩)|AJS=>by split at h1|AJT=>by rintro⟨ε,ζ,e⟩|AJU=>EO AT|AWa=>by rw[<- ε,ζ]|AOg=>by rw[e]|AJV=>⟨?_,ε⟩|AJW=>B0 (Xs O4 ε)|AJX=>C9 By|AWb=>C9 xy|AJY=>C9 AUG|AJZ=>Rat.inv_mul_cancel _ ε|AJa=>EQ h|Ag0=>Calls.callWith_builtin ε (ζ η)|AJb=>(De Ek)|AOh=>(BJu+1)|AJc=>BB AVB|AJd=>QY H1 ε|Ag1=>(FF ws)|AWc=>GN AQ|AOi=>JJ cW ε ζ|AJe=>yk Sk|AOj=>D7 KO|AOk=>(ε b hb).2.2|AOl=>j≠0|AJf=>fs[i]|AJg=>(DT e)|AJh=>(DT h1)|Ag2=>by show ŧ ε;show AF|AJi=>Na eB|AJj=>ES b|AJk=>by rw[bJ (FI ε)]|Blq=>AHP LP
|AJl=>by
 show BQ ε
 rw[ζ];refine η
|AJm=>b9 m|AOm=>b9 JI|AJn=>GV Af6|AWd=>(FV T0)|AwI=>xL i|AWe=>AGj i|AJo=>eL ε BE=ζ|AJp=>SY ε 1|AwJ=>EM ε ALp|AWf=>by have:=ε;show AF|AWg=>Nl z_|Ag3=>h∈m|AJq=>Ō AT|AJr=>i2 b hb|AJs=>0<LP|AJt=>fS st ε|AOn=>(j - 1)|AJu=>Γ[i]?|AWh=>Aus ε ?_|Ag4=>(AK8 ε).2|AwK=>(Os .BD)|AWi=>DF ε [NU,ζ] η|AOo=>AUU AJ|AWj=>N0 Si|Ag5=>d::E5|AwL=>plainId_quiet ε _|AJv=>FR _ Β|AOp=>AUV [a]|AJw=>aC l fun a=>ε|AWk=>(r_ AM_)|AJx=>uW ts|AJy=>tD ts|AJz=>by show RE ε Β ζ|AJ0=>VO v ε|AJ1=>fun ε ζ P hp=> ?_|AJ2=>mZ rs (Fs ε)|Ag6=>(z7 ?_)|AJ3=>(p::cs)|AOq=>iU K C|AJ4=>sv ?_|AJ5=>AMX kW w|AWl=>AUe ε ζ xi η|AWm=>fN W.isFn MD|AWn=>(s0 Μ)|AJ6=>l7 rE ε|AJ7=>ACh s'|Ag7=>AHl H1|AJ8=>İ A9|AJ9=>ACl AMT ε|AJ_=>∀(i:Δ),_|AWo=>AUp (IY ε)|AOr=>È Cl ε ζ|AJ'=>JJ cR ε 1|AWp=>ε (bZ ζ (UT u η)) θ|AKB=>AMg AeS ε|AKC=>oK AM7 ε ζ UX|AKD=>k::ks|AOs=>tb s p|AKE=>AMw BJ3|AKF=>AR ->TD|AKG=>[ALo,AGo]|AOt=>PS X (.ALZ ε ζ Ψ) η|AOu=>JJ rC ε 0|AwM=>Fr H' u|AOv=>Cm Ξ ws|AKH=>fA ks rs j|AOw=>∀w∈ws,ε|AOx=>BH' (BY ε) ζ|AOy=>(k_ a Avx)|AKI=>yS Ξ x h|AOz=>(∀q∈qs,UZ q)|AKJ=>cT (cB pU ε ζ)|Ag8=>AfK k v=Μ|AwN=>BfH ε į|Ag9=>fk S n bs k|AwO=>(AM' qE)|AO0=>f Co|AwP=>ε (zI b AUl)|AKK=>qQ (HT ε aU)|AWq=>(AgC LY)|AKL=>.AY r t|AKM=>∀[Ac1 β],_|Ag_=>(Â e BJ3 [])|AwQ=>AgF (W Db m' ε ζ)|AWr=>U2 gK X0 k f fd ps (ε K sp)|AKN=>AVR (eK (ε ζ)) η|AKO=>(Bgi Ψ)|AWs=>ABc (vs:= ε)|AWt=>∀S∈Ss,ε|AKP=>∀(q:AL),_|AKQ=>PA X ε ta|AWu=>rL κ AJ|AO1=>fun b hb z=>ε|AWv=>AgJ MD|AWw=>⟨HU,od,Af1 ε,ζ⟩|AWx=>Avq AHq|AKR=>Meth K Hk ε f|AKS=>∀(i j:AB),_|AWy=>AgV ε (HT ζ η)|Ag'=>by obtain⟨sl,e1⟩:=ε|AhA=>(ļ L_)|AwR=>Ad9 C ε|AKT=>(x::xs)|AO2=>(ε p hp).1|AO3=>PE X b tb|AKU=>Ec X hC|AwS=>(BA s (AVI (x YU)))|AKV=>MG h (PassesOwnAt.leavingOf h)|AwT=>⟨.AU ε,H,AM5,ζ,q⟩|AKW=>ATI (t' :=tk) ε ζ (ACW _ _ _ η θ)|AKX=>dF LY X.A|AhB=>k _ Ω F1 H1 _ R1 s1 ε h1|AhC=>k it A1 o ε|AO4=>sO ε a y o|AO5=>(Ax AG7 Fk σ)|AhD=>(Av3 Ψ)|AwU=>by obtain⟨F,Γ,P,S,q,k⟩:=Bz|AKY=>fun _ _ ε ζ=>η|AKZ=>by show yi t' ry|AO6=>by rw[ε] at e;show Do|AO7=>p a=Μ|AKa=>DF N ε st|AKb=>VQ X.N y|AO8=>GZ B q|AKc=>(jR sC H)|AKd=>MS (iB q hn) q|AKe=>nC (Cb r hr)|AO9=>s_ (b≠ε) (SU ζ) Af0|AO_=>V ->AQ ->AMW|AO'=>AMO AMa (.seq SD n)|AwV=>Bko ASv|AWz=>Bkp 2|AhE=>Ov e ds vs ε|AwW=>aL AG F1 ds vs|APA=>Turn P w K tg ε [it] it (U' h ζ)|APB=>ATK AG fd ps []|APD=>Bk' BJA|AKf=>by show zw c vs ec EK rs (Pr e1 ε)
|APE=>by
 show Avy
 exact AeU Gc (Ķ Gc)
|APF=>(match ε with | Μ=>ζ | AE=>η)|AhF=>IO<=63|AKg=>by subst r1 r2|AhG=>by simp only [Ĺ,hb,ε]|BmN=>(xr.back Aeu)|AhH=>∀{K:AA},_|AKh=>(BG7 Bs).ε|APG=>[e1,e2]|AW0=>rL GE (Ζ×AJ)|APH=>Gw Ξ ms|AW1=>∀{ε:ζ} {vs:AQ},η ->θ|AW2=>∀j,wN (ε j)|APJ=>∀(K:AA) (F0 H0:Hp),_|AhI=>(.xd (ATf ws))|AW3=>∀w,w∈ε↔ζ|AKi=>kL (yT hq)|AKj=>k9 F H Γ|AW4=>AU3 (ε (Γ'.set i B8))|BmQ=>{o with dict:=Ε ε}|AKk=>by obtain⟨hq,hx⟩:=hg|AKl=>wpAny_passesOwn hp (bZ ε ζ)|APK=>(Avt AgG [])|AKm=>∀{P:A0}{w:An}{K:AA}{tg:AK},_|AW5=>AgW ε (ζ t E σ H Q)|AhJ=>Af4 ds ε C C|AKn=>AJ ->AJ ->AVJ|AKo=>(aL K F ds)|AKp=>by have ε:=ŋ ζ c η (ACQ θ)|AKq=>fR LE e es|APM=>⟨E3,[E3],_,_,H1,Β,AgT,ε,ζ,NF,η⟩|BmV=>∃F2 BF,k9 F2 H BF/\AgO/\ε|AKr=>by obtain⟨Ss,F,p⟩:=ε|AhK=>.dict es ep|APN=>Nm (hu1 hu) ε ζ|APO=>(AUW ALu s3 AVV fp)|BmW=>((lT).wsh (GY (lT).xe))|AW6=>(Cp ws v bs)|AKs=>by obtain⟨d,d0,bd,hd⟩:=ε|AhL=>∀(i:Δ) x y,Ţ ->Avz ->ε|AKt=>∀(P:A0) (w:An) (K:AA),_|AKu=>⟨ε,ζ,η,k.rt,k.rf,k.rT,k.rm⟩|AwX=>[SS Bpv,SS "Exception",SS AsY,SS Ac3]|AKv=>∀(hd:HH:=by decide)(hcd:AHh:=by decide),_|AhM=>AMz p hp ε p hp|APP=>b_ (fun t Ω F1 H1 v as R1 s1 nd hn ε h1=>ζ)|AhN=>⟨_,_,_,Β,B',B',B',ε⟩|AKw=>fun i H2 F2 s2 s3 _=>(So ε d hd)|AKx=>fun A DD s H vs Q ε ζ η=> ?_|AKy=>∀(cdv:AJ) (A:Bi) (DD:Lo) (s:AC) (H:Hp) (E:XK),AVM k E2 zC ->ε|AKz=>bZ (Q8 (E:=fun C dx H' =>E C dx H') I Β Β Β (hx.imp (M' C dx H' z))) fun _ s'' z=>z|AK0=>by show AD h2 h2 h2 h2 h2 h2 h2 h2 h2 h2 h2 h2 h2 h2|AW7=>by show fT e' e' e' e' e' e' e' e' e' e' e' e' e' e'|AhO=>by (show MQ n n n n n n n n n n n n n n)<;>simp [nu]|AW8=>By=ε|AhP=>OH=ε|APQ=>fun hb=>ε|AhQ=>if ε then Η else ζ|APR=>by obtain⟨e,ε⟩:=ζ|APS=>(by rcases ε with Β | ζ)|APT=>by obtain⟨u,ε,_⟩:=ζ|APU=>UI ..|APV=>by rw[C8,ε,ζ,η]|APW=>by rintro⟨ε,ζ,Β⟩|APX=>EO Au_|APY=>by obtain⟨B4,ε,ζ,η,_,θ,_,ι⟩:=ν;exact ξ|Bmr=>(by kernel_rfl)|Bms=>(by size_fits)|APZ=>⟨Cb ε ζ,η⟩|AW9=>(cV 11)|AW_=>(qv 11)|AwY=>(B0 Vt)|AW'=>C9 HE|APa=>C9 IR|APb=>ε (show ζ from η)|APc=>UA h|APd=>As ε ζ Cn|AhR=>(De (#[]:Lm))|APe=>(j+1)|APf=>(Mm+1)|APg=>.AU a|APh=>.AU b|APi=>FF (ŏ ε)|APj=>M1 D|APk=>GN T|APl=>FM Β|APm=>FM E7|AwZ=>i<FU|APn=>(D9 n)|APo=>(D9 (rX KL))|AhS=>EQ z|APp=>AK2 _ ε|AhT=>SS pd|APq=>.DC ys|AXA=>Wq _ _|AhU=>WK _ _|AhV=>A4 Uj|APr=>(OO hi)|APs=>ms[i]|APt=>(DT h2)|AXB=>by show B1 ε;show AF|APu=>.DH i|APv=>.DH Β|AXC=>(AGa ε).ζ η|APw=>FA 0|APx=>show ε by show XY|AXD=>yn s1 ε|Awa=>ES Wp|Awb=>ES AGW|APy=>LX Heap.get?_update_ne|AXF=>.AX uX|AXG=>SU F1|APz=>by show PY r;rfl|AP0=>by show AD r r r r r r r r r r r r r r;rfl|AP1=>E4 (h b ε)|AP2=>E4 (.DH hb)|AP3=>x∈f|AP4=>b≠p|AP5=>GV AwF|AP6=>(GW ys)|AP7=>.bl AE|AhW=>Ŋ isW|AP8=>OQ ε eb|AP9=>rq ε (IY ζ)|AP_=>(.bl b)|AP'=>.Dx (AUt ε ζ)|AQA=>Wt (m:=ε)|AhX=>Nd (B0 ε)|Awc=>Nd (B0 (M7 (i:=ε) (De ζ) η θ Β Fm  ι))|AQB=>Nl cn|AQC=>Fs ?_|AQD=>Fs (.AU ε)|AQE=>Ō V|AQF=>Ō AQ|AQG=>hn b hb|AhY=>eG Ξ|AhZ=>by simp only [ε];exact ζ|AQH=>AUQ Vv ε ζ|AQI=>MM š ε|AQJ=>PV jv ε|AXH=>P (eg ε)|AXI=>W.plainGet K ε ζ=Μ|AQK=>(HE - 1)/2|AXJ=>.bool Μ|AQL=>By<=i|AXK=>by rw[ε];simp|AXL=>(œ ho)|AXM=>fun z E cx=>ε (Da ζ η θ ι) ν
|AQM=>al q|AQN=>P_ q|AQO=>A i j|AQP=>(Oy .BD)|AQQ=>∀{i:Δ},_|AQR=>.dik _ _|AQS=>N0 _|AXN=>UZ g|AQT=>GT ε .eJ|AQU=>R.g b u|AQV=>(M9 w)|AXO=>No (ε _ _) (ζ η)|Awd=>Ŕ ε eC|Aha=>Ŗ LM|AQW=>AUZ o|AQX=>NE hr.units|Ahb=>AUa GA|AQY=>AHV ALQ|AXP=>sB rest.toArray|AQZ=>AM6≠ []|Ahc=>(jX k)|AQa=>(iW qs)|AXQ=>(.ow xs)|AQb=>AUd (A8 ε ζ) η|AXR=>(.ptr a::ds)|AQc=>MG q SO|AXS=>(uR AG g)|AQd=>ACZ (Ŏ ε ζ)|AXT=>Q (GM ε)|AQe=>∀(x:Κ),_|AQf=>(r::rs)|AQg=>cB cR YA ε|Ahd=>(gf AS)|Ahe=>(n,AuV)|AXU=>ŝ ε IB|AXV=>r9 A ε ζ E EU|AQh=>GZ (ε*27720) ζ|AQi=>∀(te:TE),_|AQj=>AHl H|AXW=>AUg h6|AXX=>AUh ε [a]|Ahf=>dO (Afq ε dH ζ η θ)|AQk=>B0 (Rp Β  ε  ζ  η)|Awe=>ACo PD|AXY=>tn i A9|AQl=>AHr vs|Awf=>Afp KU ε (US ζ)|AQm=>∀(a b:AL),_|Ahg=>⟨ε,ζ,η,cc e ?_⟩|AXZ=>AvW Mm|AQn=>v::vs|AXa=>e∈S|AXb=>n∈S|AXc=>Ű (BmQ ε)|AQo=>AMk h|AQp=>(ANA::us)|AQq=>(Av9::us)|AQr=>nC (Cb ε _)|Ahh=>[.xn ε ζ KL]|AQs=>AMp ε .ellipsis|Awg=>(IA ai p2)|AXd=>fs c p|AXe=>AMr ε FE ζ|Ahi=>(U1 fp ANB)|AQt=>ŷ (MW ε)|AQu=>fun x hx=>ε|AQv=>[kQ,AGo]|Ahj=>.AY ε Eg|Ahk=>cB ε AS Ap|AQw=>ACz ε (wg AG ζ)|AXf=>AH6 ε (kY ζ t)|AQx=>(n - e)|AQy=>by unfold ε;rw[ζ,η];rfl|AQz=>Up lt p ε|AQ0=>AH8 ε AM0|AQ1=>AgA 1|AQ2=>r∈Ξ|AXg=>(e - s)|AQ3=>UD (ABs i ε)|Awh=>AVH (ig ε xs ζ d)|AQ4=>(ANI u)|AQ5=>ANK ε (uR AG ζ)|AXh=>AVO (ε>>=_)|AQ6=>AVP ţ ε|AQ7=>fB.d c S AwG|AXi=>AVX (ε>>=_)|Ahl=>j::E5|Ahm=>fun m hm=>ε|Ahn=>by simp [ε,At',ζ]|AXj=>Cb q hq|AQ8=>(0+ MU)|AQ9=>GV (Χ ů)|AQ_=>fw Auh ε Β|AXk=>(.AX x t)|Aho=>ų GD UB ε ζ η θ|AQ'=>AVe hq|ARA=>k a zY _ e3|ARB=>by obtain⟨a,vs,bs,e1,Β,e3,e4,h⟩:=h|ARD=>by exact(E_ D6 r).UC|AXl=>PE X o td|Ahp=>wd l b|ARF=>by show MT (E_ (AE=Μ) ε) zJ|AXm=>ε a o AH|ARG=>(Aga dx)|ARH=>B0 (Jj Β  ε  (Ã ζ)  η)|ARI=>Po ε s1 h1|ARJ=>AIA ε fst i|Ahq=>(Kq AU8 bd)|Bmt=>ASu n==Ε cz|ARK=>Age (A8 ε ζ) η|Ahr=>(aL K F ds vs)|AXn=>∀(Ο:d8) (s:AC) (σ:St) (H:Hp) (ε:ζ),AV ->η ->AHW θ ι|ARL=>Jn vs ε ζ η θ|ARN=>by show Av5 hl|Awi=>BHX n=Ε ε|ARO=>[XE,kQ]|Ahs=>(h0::hs)|Awj=>ACO wB ε ζ [kM] (η c)|ARP=>yv ε (Cr Q) (aG ζ ds)|Awk=>AMU (ANE es)|ARQ=>li x c|Awl=>AUt 0 1|ARR=>As0 f=Ε v|ARS=>oA Ss fs|ART=>oN fs xs ε =Ε ζ|Aht=>Av' op|Awm=>ε (Ĥ j bP)|Bmu=>Bku ε env.scope.kind|ARU=>∃W:AUR ε,(∃m,ζ)/\η|ARV=>by obtain⟨h1,h2⟩:=ε|ARW=>∀(i:AB),_|AXo=>fun b u eb=>ε|ARX=>.BD (HG (lU Φ))|AXp=>by rw[ε] at h;show HK|Ahu=>GV (AVQ v)|ARZ=>PV AGU pZ|Ahv=>Wc 4000 b|Ahw=>(.AU i t)|Ahx=>FK (AfE i eC)|ARa=>by show AMl AMb rx|ARb=>As y H' z|ARc=>[IN,eR,OB]|ARd=>wO Ξ ws m|AXq=>(ε CY w).is|ARe=>zK (zM (zG e) ε)|Ahy=>(gD Ξ w).map ε|ARf=>B0 (Rg Β Β cG  (B0 (au ε aK))  (Ã ζ)  η)|ARg=>Av6 Ae2 (AuS ε O_ ζ η (GY θ) ι ν ξ _ ο π hbs ρ hs) τ|AXr=>(pB (cC (GM 1)))|Ahz=>VS (X.pn++Ο) (DJ≠ε)|ARh=>rP S x h|AXs=>⟨fun i H=>ε,fun i H x H' =>ζ,fun i H=>η⟩|ARi=>lB ks k=Μ|ARj=>∀P:c0,ε ->DV (f ζ) P|ARk=>UD (ABs i (.ε ζ η))|Ah0=>∀ε B4 F' H' ζ,BC AH' Go η (c9 θ) ι|AXt=>(SC:Κ ->Key)|Ah1=>(Pl u AH5)|AXu=>(a::r).ĭ|ARl=>fun f hf=>ε|ARm=>(by first | exact CS Β | exact C_ Β)|Awn=>(x5 V.int)|Ah2=>(Br9 AT6)|ARn=>∀(K:AA),_|Ah3=>AVF/\ Agc/\ε|ARo=>[XB,IN]|ARp=>Cb j hj|AXv=>rL Ρ AR|AXw=>(KS q q)|ARq=>s3 _ _ (s2 _ _ e)
|ARr=>hA _ _ h1|Awo=>len _ _ _ hs|ARs=>BrB (ε ?_ ζ η)|ARt=>MG h' h'.elim|ARu=>by rw[ε] at z;show MR|Ah4=>aJ K js ac|Ah5=>∀{A B:Δ},_|ARv=>(Atu nd).2|AXx=>aW (cP (GS ε ζ))|Ah6=>yH b _ Av1 ε|ARw=>∀(t b:AB),_|Bmv=>sp (Aft::es) (gL ε) fun ζ=>η|ARx=>Dn lt p ε|Ah7=>fu K F' H' ε vs ζ|ARy=>(dv t b).ACH|ARz=>fun _ _ _ H _ I h=>ε|AXy=>Ε (wQ bs)|AR0=>eZ X.N sc A5 Fk ASx N'|AR1=>fun⟨ε,h1,h2⟩=>ζ|Ah8=>As x H' y|AR2=>P (d i j)|AR3=>AMQ ε ζ I h|Ah9=>∀{n p:Δ}(Av4),_|Ah_=>(fK 2 (aY lI (aY (IZ 1) fJ)))|AR4=>NO k7 X.A ε Q E s|AR5=>jo t1 A9 l1 xs|Ah'=>FK (iV m (a i))|Bmw=>AVg (Atq ε).units|AiA=>(gI (Nn b a Η (H' b)))|Awp=>ci (¬ce) H2 H'|AR6=>BjL h1 h3|Bmx=>Χ (FU>1)|AR7=>KT H AH xs|Awq=>(∃vs,u= .DC vs)\/ ε|Awr=>ci ce H2 H|Aws=>Sz 4000 (gJ (ε k))|Bmy=>AwC Ty ys|AR8=>ţ/\o∈s|AR9=>by have gr:=Aep (o:=HO.tup ε) ζ η|AiB=>∃DI H',AwE /\ε|Awt=>yF Ξ r g ε ws u|AR_=>G2 ->D1 (D1 ε G2) XW|AR'=>Un fs ex H ε h ζ|Bmz=>ε z TI TO i1 i2 l1 l2|ASA=>by rw[hl] at st hx|ASB=>by simp only [Ģ,Brz,or_false] at ε|ASD=>⟨W.mg_of X G (Af9 ε),ζ⟩|AiC=>bD (Hu AMu ε)|Bm0=>AGx _ ε (Obj.isFreed_of_fields ζ)|Awu=>fun vs H Q E=>ε|Awv=>pL X Ο ε b|AiD=>pJ ps ws v|ASE=>jo t2 A9 l2 ys|AiE=>fq "Few" d_/\kJ K d_|AiF=>(.ABa elts x1 pt)|ASF=>(.ABa si k2 Qz)|ASG=>fS (.Try L6 ε [] [] Ψ) ζ|AiG=>fun a F0 hq=>(AgX hA hq.2 Β ε)|Bm1=>∃N:S4,(∀DI H',N DI H' ->ε)/\ζ|ASI=>by show VI oi h1 h2 h3 hit|AiH=>fun Ο s σ H ε I q=>AgK ζ I Bk5|ASJ=>fun _ _ _ _ ε ζ=>η|Aww=>(mX sc Cl BE).ε|ASK=>qD (gB Pi ε o)|ASL=>Ctx BmW F0 H (De Ex)|Awx=>cq pf #[.AU lo t,.AU hi u,.AU 1 v]|ASM=>(CD (b=a) (Ε ε) (gE (b∈bs) ζ η))=Ε u|Awy=>PV (vJ Ξ qE w).map qD|AiI=>∀(hd:HH:=by decide) (hcd:AHh:=by decide),_|ASN=>∀ds Q E,sp ds Q E ->Blq|ASO=>∀F,pR X F H0 L6 tb|ASP=>(oE AM8 AgY ws h)|ASQ=>∀{Ξ:HV}{ws:DE}{m:RF},_|ASR=>by obtain⟨a0,u0,Β,h0⟩:=m5 h|Awz=>fun σ H=>ε (ACd Η) H|AiJ=>[AeV,ALi,ALh,BHp,AeW]|ASS=>by show F6 ws kv hd (Vz I hq LC);have hl:=AT_|ASU=>[.ABa [.kK x px,.kK y py] kt pt]|ASV=>Vq hit hg O Β ?_|Aw0=>⟨ε,I.os,Ĳ,I.base,pp,kG,xN,AGc,ζ,KI,AGd⟩|Aw1=>fun Γ4 F4 H4 σ4 R4 s4 q=>ε|Aw2=>xw cdv A DD s H E hr F0|ASW=>hE x C dx F' H' z1 R'.gr BmN|Aw3=>by show AD hi hi hi hi hi hi hi hi hi hi hi hi hi hi|ASX=>by show AD hd hd hd hd hd hd hd hd hd hd hd hd hd hd|ASY=>by show AD ry ry ry ry ry ry ry ry ry ry ry ry ry ry|AXz=>by show MQ d' d' d' d' d' d' d' d' d' d' d' d' d' d'|AX0=>by (show AD hf hf hf hf hf hf hf hf hf hf hf hf hf hf;done)|AX1=>by (show AD r' r' r' r' r' r' r' r' r' r' r' r' r' r';done)|AX2=>ALa ε|AX3=>ε=By|AX4=>ľ.1|AX5=>if ε then ζ else Η|Aw4=>by rw[H_,ε]|Aw5=>by rw[FS,ε]|AX6=>ε<Mm|AX7=>show ε from Β|AX8=>by rw[ε,FS] at ζ|AX9=>by obtain⟨ε,_,e⟩:=ζ|Aw6=>(by rcases ε with (ζ | ⟨o,η⟩) | θ)|AX_=>by obtain⟨a,ε,ζ,⟨η,θ⟩,⟨ι,ν⟩,ξ⟩:=ο|AX'=>Bq5 ε ζ|AiK=>AtH ε|AYA=>by exact Ae5 ε|AYC=>(by show ũ)|AiL=>⟨ε,IP⟩|AYD=>⟨ε,EX ζ⟩|Aw7=>[NU]|AYE=>(cV 10)|AYF=>(BY p)|AiM=>ε (AGa ζ)|AYG=>(qv 10)|AYH=>(Au8 Β)|AYI=>by rw[P_ ε]|AYJ=>ABS h|AYK=>(De Jm)|AiN=>(cC AH1)|AYL=>BB Y|AYM=>Χ (fh ε ζ)|AYO=>QY (cr l ε) ζ|Aw8=>(FF us)|AYP=>BIW i ε|AiO=>AfO i ε|AYQ=>M1 GA|AYR=>M1 AK
|AiP=>GN G2|AYS=>(D9 e)|AiQ=>C4 Oy ε|AYT=>D7 NR|AYU=>AS' ε BE|AYV=>A4 zf8|AYW=>A4 Uk|AYX=>by show BU ε ζ η BKL θ|AYY=>(DT hx)|AYZ=>(DT hj)|AYa=>by rw[ε,ζ];show AF|AYb=>.Dx _|AYc=>fun z E cx=>ε ζ|AYd=>(rV Asm)|AYe=>(rV "Few")|AYf=>(rV xD)|AYg=>(rV xE)|Aw9=>(match d with | ε=>ζ | _=> η)|AYh=>(match ε with | Ε ζ=> η | _=> θ)|AYi=>(ASt ε).1|AYj=>(Array.getElem?_eq_some_iff.mp ε).1|AYk=>FA Av7|AiR=>show ε by simp|AYl=>show ε by show ũ|AYm=>C5 Ļ|AYn=>C5 g_|AYo=>ES z|AYp=>ES k|AYq=>ES m|AYr=>ES sz|AiS=>.AX h|Aw_=>.AX T0|AYs=>(Nc j')|AiT=>(Nc S)|Aw'=>(Nc BJC)|AYt=>j<By|AYu=>SV H1|AYv=>DL ji|AYw=>CU ε ?_|AYx=>a::dx::bs|AYy=>x∈g|AiU=>b≠Cl|AiV=>GV Agm|AYz=>Ŋ ybs|AiW=>MH (S b) ε|AY0=>ł hb|AY1=>ABR DictEntry|AY2=>rq ε RO|AY3=>EM ε AK4|AY4=>(by unfold Km;show AF)|AiX=>Bq4 ?_|AY5=>Nl Agn|AY6=>by intro Ο s σ H Q I ε|AY7=>(k8 DM)|AY8=>uH Ξ|AY9=>by unfold ε;show A7 ζ|AY_=>ACS 64|AiY=>qq fun ε ζ=>η|AY'=>Q1 (z8 _ gu)|AZA=>(MO ?_)|AZB=>show ε by decide|AZC=>(r - 1)|AZD=>X9 ε ?_|AZE=>LP - 1|AZF=>(ŏ kD)|AiZ=>by rw[ε];simpa using ζ|AZG=>(r8 OG)|Aia=>b∉ch|AZH=>(aW AS)|AxA=>y_ F' H|AZI=>JY (ε=FA ζ)|AZJ=>ze ε (ANU ζ η)|Aib=>jh AG C|Aic=>(xL i)|AxB=>(ATf vs)|AxC=>by rw[<- ε];exact ζ η|AZK=>by exact CS (FV (sw ε))|AxD=>Q BH H'|AZL=>AHT ASv|AZM=>lP IB|Aid=>(DJ).map|AxE=>Ŗ Ad1|AZN=>Sb Xf i ε|AZO=>YE NV|AZP=>YE em|AZQ=>∀h∈hs,ε|AZR=>∀h∈AVy,ε|AZS=>ř vs|AZT=>(Afe _ _)|AZV=>Atk<2^ε|AZW=>(b::t)|AZX=>r9 A ε ζ AVZ η|AZY=>sD ε AS|AZZ=>.obj C fs ds|AZa=>OW L|AZb=>AMY AGq|AZc=>ps[EZ]|Aie=>AMZ aT|AZd=>mZ rs g|AZe=>i<=By|Aif=>sd PU|AZf=>AMd α|AxF=>o0∈Œ|Aig=>[.Au_ ε ζ η θ]|Aih=>jh K C|AZg=>ACa F'|AZh=>AHd 3|AZi=>AG7=n|AZj=>fun v hv=>ε|Aii=>IR<=1000|Aij=>dF k A|AZk=>lm 3|AZl=>Sem AT|AZm=>(sx ANP)|AZn=>Ş FS ε|AZo=>AHU (swapsWithSole ε ζ AtR BE)|AZp=>l9 Avu|AZq=>(Ba' hi)|AZr=>(Ç 0)|Aik=>(IA y BZ)|Ail=>D7 By/\ε|AZs=>D7 OI/\ε|Aim=>AHs (AgN ε ζ)|Ain=>AUs qa|AZt=>XN i _ e|AZu=>AMk e|AZv=>Ì s|AZw=>by show sA ε ζ Β h|AZx=>AHx s.Nodup|AxG=>ABp++Ο|AxH=>Me e=Ε ε|AxI=>PD l=Ε ε|AZy=>.dik (ε .BD) (ζ η)|Aio=>by have hl:=AeP|AZz=>(ACs XI)|AxJ=>by unfold ε;rw[ζ];grind|AZ0=>Ŷ (UV d ε ζ)|AZ1=>(PH kV)|AZ2=>ACw 0|Aip=>yE Ξ ws|AZ3=>Afx (AUi Ata) (Æ sb hb e)|AZ4=>cB mC Ap ε|AZ5=>AU_ AM|AZ6=>(AwI++ [r])|AZ7=>(ADL 1)|AZ8=>AM9 ε AIM|AZ9=>∀(t:c7)(E:XW),_|AZ_=>fk S n bs LY|AZ'=>ADP t|AaA=>(x,c)∈ε|AaB=>AHF Ji ε (AUp aK)|AaC=>ANC (P ε Γ)
|AaD=>by
 have:ε:=ζ
 rw[Τ];grind
|AaE=>AgE den|AaF=>fK 2 (AIJ ε ζ)|Aiq=>ANM cs|AxK=>Gp ε=Ε (ks,ys)|AaG=>(match ε,ζ with | η,θ=>ι | _,_=>D6)|AaH=>fB.d c S b|AaI=>AgH A9|AaJ=>ps[EZ].1|AaK=>aC Ξ (Pc ε)|AaL=>∃v,ε/\TC|AaM=>OQ o e|AaN=>Avo (x o)|Air=>fs s p|AaO=>ANW ALS|AaP=>⟨AVq,ε,ζ,?_,?_⟩|AaQ=>AgM e0|AaR=>⟨#[c]⟩|AaS=>by show GB AW rv p hz ε|AaT=>Bhn (.ABb ε ζ KL)|Ais=>∀i∈is,ε|AxL=>ε (t' :=Mc) (ζ:= η)|AaU=>hN b (Au ε)|AaV=>(B6 - l.1)|AaW=>(AVp G7)|AaX=>e h hh|AaY=>dO (AMi ε ζ η Ap)|AaZ=>AHn hs.2 ε|Aaa=>(gD Ξ w).map|Aab=>o7 HR X.w H' am|Aac=>OI - Db|Aad=>by show D5 ε;exact Τ|Bm2=>[.kK x KL]|Aae=>iU K NL|Aaf=>Cb r hr|Aag=>(EH H a o)|Aah=>.pu (gl m)|Aai=>fS (.AK ε Ψ) ζ|Aaj=>Agj (AVn ε)|Aak=>fc v Q ε|Aal=>fun vs H Q=>(ANb ε)|Aam=>Da ε hu ζ η (OO θ)|Ait=>Ñ (AVL ε ζ Ap) η|Aan=>Agq ε NV|Aao=>ACv ACb ε aU ζ|Aap=>z8 _ (z8 _ ε)|Aaq=>Ź PE e ε|Aiu=>Agr AwM|Aar=>∀ε,RC ζ ->M_ η (EH H θ ι)|Aiv=>∃a ε,x= CF/\ζ/\η|Aas=>(AGc x c e)|Aat=>W i m σ H|Aiw=>(mY val i)|Aau=>AIP a ε a ea|Aix=>s1.heap.DictAt AMy a ws ep|Aiy=>aw 0|Aav=>.any C|Aiz=>by (with_reducible refine wpAny_isSubtype_exc ε ?_;rw[ζ])|Aaw=>∀s',ε ->ANL|Ai0=>yW Ξ w ε|Ai1=>(AwJ e)|Aax=>Fs (by show B1 ε;grind)|Ai2=>(fun b z=>(AgL z))|Aay=>y_ F' H'|Aaz=>bZ ε (UT v ζ)|Ai3=>E (BY e) ε|AxM=>(.tr sC t)|Aa0=>YY q n ε|Aa1=>br Jg ε E|AxN=>∀i j,i<n ->ε|Ai4=>ADJ e hx|Aa2=>by obtain⟨z,hd,vs,rel,dd⟩:=sg Ln|Ai5=>AwP AfA|Aa3=>(ATf vs).ABj|AxO=>AVo Bz (by show AwU;exact ε)|Aa4=>AwT ε E7|AxP=>(ADN as ks ts)|Aa5=>by intro Ο s σ H xs us Q I r h|Aa6=>AuH vs ns|Aa7=>∀i,ε<=i ->i<n ->ζ|Aa8=>A3 x E2 st|Aa9=>(fY ns ε).SA ζ|Aa_=>yj N d q|Ai6=>by show AVj a vs ε r|Aa'=>(.AtN a [op] [b] Ψ)|Ai7=>(.xe as C fs ts)|AxQ=>AgU gK (Afj fU) k f fd ps ε|AbA=>∀f∈fs,ε|AbB=>B6 - l.1|AbC=>Atn (Av0 ε)|AbD=>[topFrame z]|AbE=>X2 _ ts|AbF=>D1 AQ CH|AbG=>BG8 i t|AbH=>eE ε hs=Μ|AbI=>EL ε (fun v z=>Ř)|Ai8=>(AK8 hr).1|AbJ=>b9 (JI+1)|AbK=>.AU i _|AbL=>(Tq qs).mem_iff.mp|AbM=>sv ⟨AwL ε,ζ⟩|AxR=>R (.ok (.ret ε)) ζ|AxS=>(.dic AwK (LV Gx))|AbN=>by obtain⟨AW,rv,p,hz⟩:=ε hq|AbO=>ε AG H a xs|Bm3=>ax By 0 lo|AbP=>eO.mp ((e ε).mp ζ)|AxT=>Gp d=Ε (ks,xs)|AbQ=>by show Ct v hv rv yN rs ε|AbR=>I.write (x:=ε) (e:=ζ)|AbS=>fun i j hij hj=>ε|AbT=>Low rs cs a ε|AbU=>Agt (ε st h)|AbV=>by show Fu v us r1 r2 r|AbW=>Da ε ζ hg hm η G1 θ ι he|AbX=>ε P w DD H s E e s'|AxU=>AgR AGw a (FM #[]) ε|AbY=>(zK (zG e))|AbZ=>Bmw (ATM ε (aZ ζ) Cl f cdv)|AxV=>Hc (∃a b:AL,ε)|Aba=>by show AwH ε z e' z|Abb=>Bmz ZipApart|Bm4=>Bm0 ε (Aew ζ _)|Abd=>ε (H' :=EH H1 a ζ)|Abe=>∀m∈ms,ε|Abf=>(QM ry)|Abg=>ε AG7 Fk ζ|Abh=>∀(w:An),_|Abi=>(by simp only [XI]<;>(show qr))|Abj=>⟨lm ε,wR Φ⟩|Abk=>[AHy b 0,AHy (b+1) 0]|Abl=>vQ (iQ  ε)|Abm=>ņ rM (ε c) ζ|Ai9=>(AM2++Ac2 j)|Ai_=>Aex ε ζ (aw η)|AxW=>C4 pI qs|Ai'=>(ADH - ACj)|AxX=>(Agz - AVh)|Abn=>∀f∈fs,ε|AjA=>(Ĥ i bP)|Abo=>.DH ⟨Β,ε,AHc ζ⟩|Abp=>.DH (zO (ε ζ) Φ)|AxY=>MG y y|AxZ=>(š++ [p])|AjB=>MH Q3 (Š/\ε)|Axa=>AvO ε [(AE,ζ)]|Abq=>Nn g f ε ζ|Axb=>(pA AG sp)|AjC=>entryFor table ε =Ε ζ|Abr=>(nO ps).2|Abs=>by have:=ε;rw[ζ] at Τ|AjD=>ck qQ (HT ε ζ)|Abt=>RA (yS Ξ x Co)|Abu=>As ε EU a_|Axc=>BB fb - ACj
|Bm5=>(GW [AIC,(GM 1)])|Abv=>(ou js ac Ap)|Abw=>(Bq bG aN B5)|AjE=>s3.seq (AuR hq)|Abx=>by show Ů k hk ε|AjF=>AvX ε (I (EZ)) (I (EZ)) ζ|Aby=>AMn [a] a|Axd=>(Jf K F H Ex E)|Abz=>BHX y=Ε AMx|Axe=>BfH Vk Hm|Axf=>1+ (Ĵ 5).SA 3|AjG=>fun σ H R=>ta σ H (y0 vs ε)|Ab0=>by by_cases e:DJ=k|Ab1=>∃c,x= .bl c/\ε|Axg=>⟨ε,AfT ζ,R1.apart η⟩|AjH=>Bhn (yz ε f KL)|Ab2=>dv ε Φ Φ|Bm6=>(LV fun(MC ε)=>ζ).pz|Ab3=>E9 pR L6 tb|Ab4=>Agd TH JI|Ab5=>b_ (fun d Ω F1 H1 v R1 s1 r q=>ε)|Ab6=>(! t.plain&&Bmx)|Ab7=>NA l DE (AVC ε) ζ|Ab8=>Agh setState Br7 hg|Ab9=>E9 QG tg g|Axh=>Sr (by show sK (ε b u e) ζ;show tI η)|Ab_=>by show tF e1 (BHV b o e hx)|AjI=>Kv (Χ (ε=AVk)&& ! DV)|Ab'=>pP K F H H0 s o|AcA=>(ALX ε BE).map (·.2)=ζ|AcB=>(fun s o=>y s o - x o)|AcC=>(fu K F H ts)|AcD=>oE k ε S h|AcE=>by show AMl (u=T' b) ry|Bm7=>ax By By hi|AjJ=>sp vs H Q E|AcF=>(T' C::bm).ABe|AcG=>∀(w:An)(os:ABH),_|AcH=>R (ε K a) H1|AcI=>AMR d1 v1 (AVx (AV1 d2 v2 ε))|Bm8=>k d BF F2 H2 v R2 tq ε ζ|Axi=>fun d v F' H' gr rv hp=>ε|Axj=>W.methodCall_KW (pl:=pl)|AcJ=>by obtain⟨f,fd,ε,ζ,η,θ⟩:=G.ex|AjK=>(Sum AB Κ)|Axk=>Ń BH ε is|AcK=>BrB (Da Gf I hg hm ?_ hdb)|Axl=>(.op w f)|AcL=>W.excIn K ε AwX Asc =Μ|AjL=>[ad,LM,ae]|AcM=>ε fun _ _ _ _ _ _ _ q=>ζ q|AcN=>by obtain⟨a,_,Β,_⟩:=r;rfl|AcO=>fun xs H Q=>ε|Bm9=>Vw ε (ACq Θ) (P.ne ζ Θ Θ) ?_|AcP=>nsIn K pe x=Ε (D9 MD)|Bm_=>(seqObj pd qa 0)|AcQ=>Afy QG tg g|AcR=>Afy OJ ifs tc|AcS=>by obtain⟨v,_,Β,⟨l,us,Β,hq,rs⟩,Β⟩:=r1|AcT=>(CD (i<0) (-i) i)|AcU=>by intro j x y g1 g2|AcV=>Nn kv.1 k (kv.1,ε) kv|Bm'=>∀o u,ASw b≠Ε ACt|AcW=>W.typeIn K MD=Ε (Nc "function")|AcX=>obs K=good w|AcY=>E C dx H'|AcZ=>V ->Sm ->Sm ->AMW|AjM=>[kQ,AeZ,XE,xk]|BnA=>backTo ε (AS6 E8 Be)|Axm=>n8.some_of (v:=v) (o:=ε)|Aca=>(ATz A9 I _).ε|BnB=>AT1 ε TI (BY i1) (BY i2)|AjN=>⟨o,es,ε,h2,h3,h4⟩|Acb=>by obtain⟨a,vs,bs,e1,ε,e3,h⟩:=h|Acd=>(∃x∈ε,C x) ->Agk ζ|Ace=>by simp only [Ģ,Brz,or_false,not_or]|Acf=>by obtain⟨⟨old,q⟩,st⟩:=q|BnC=>ACO Ao ε DD s H|Acg=>∀{K:AA}{c:Cls}{ds Q Ex}(C:ε K c)(h:ζ c ds Q Ex),_|Ach=>[Md,IN,K2,ABh]|Aci=>∀{X:Cx}{F0 H0:Hp},_|Axn=>by obtain⟨o,e,c,d⟩:=st|Acj=>by show AVD a1 u1 h1 h0|Ack=>DF [ALe,UH] [ALe,UH] ε|Acl=>fun x C dx F' H' hE gr xr=>⟨x,F',hE,gr,xr⟩|Acm=>(ε/\AgS)\/ (ζ/\Bm1 (AwQ DI H') (∀x H',η i H x H' ->θ))|Axo=>ds= [qD a,qD b]/\UZ a/\UZ b/\ε|Acn=>∀(X:Cx) (vs:AQ) (H:Hp) (Q:VK),_|Aco=>b_ (fun c Ω F1 H1 R1 s1 q=>ε)|AjO=>ha z E cx Ψ Ο s σ H (AIB H1 (∃F1 Ω ds,AVN/\ű/\AwW/\ε)) I (l6 (BlB ds))|BnD=>∀c o,c≠z ->BC (c≠TO) (c≠i1) (c≠i2) (AUn c) ε|BnE=>fB.look (c:=c) (S:=S) (b:=ε)|BnF=>ε z E cx Ο s σ H (gN H1 ζ)|AjP=>(ň (yz AUr AvC ap) [.kK y PK,.EO [] lp] cp)|Acp=>by obtain⟨a,dx,vs,bs,e1,ε,e3,e4,e5,e6,h⟩:=h|BnG=>∀{z TI TO i1 i2 l1 l2:Ζ},_|Acq=>∀{st:AO}{f:Ζ}{fd:GA}{N ps:Ρ}{k:Δ}{sp:ε},_|Acr=>by rintro Ο s σ H Q I ⟨F,Γ,P,R,q,k⟩|Acs=>by show AD t t t t t t t t t t t t t t|Acu=>by show AD h1 h1 h1 h1 h1 h1 h1 h1 h1 h1 h1 h1 h1 h1|Acv=>(by (first|subst e|exact aaz e|exact aaA e|exact aaC e|exact aaB e|exact aaE e|exact aaD e|exact aaF e|show Afl|show ON e|show OL e|show NX e|show OM e|cases (e)))
|Acw=>by show AD e3 e3 e3 e3 e3 e3 e3 e3 e3 e3 e3 e3 e3 e3|Acx=>by show fT hS hS hS hS hS hS hS hS hS hS hS hS hS hS|AjQ=>by rw[ε] at ha;show AD ha ha ha ha ha ha ha ha ha ha ha ha ha ha|Acy=>by show Lc q1 h1 h1 h1 h1 h1 h1 h1 h1 h1 h1 h1 h1 h1 h1 h1|AjR=>ε (· < ·)|AjS=>(MG e e)|Axp=>(match r with | ε=>ζ | η=>θ)|AjT=>if ε then ζ else η++ [θ]|AjU=>by rw[GL,ε,ζ]|AjV=>by rw[NV]|AjW=>HE<=ε|AjX=>ε<=HE|AjY=>ε<Auq|Axq=>by simp only [pr] at ε|BnH=>by simp only [eS,ε] at ζ|AjZ=>by rw[ε,FS,ζ] at η|BnI=>let ⟨o,ho,r⟩:=ε;⟨o,ζ,r⟩|Aja=>if h:ε then ζ else η|Ajb=>by rintro _ ⟨ε,Β⟩|Ajc=>BqY ε ζ|Ajd=>AuE ε|Aje=>EO σ|Ajf=>A.frames=Ε ε|Ajg=>by ac_rfl|Ajh=>by show Ö|Aji=>(BY l1)|Axr=>by show lf ε;exact ζ|BnJ=>(AfZ Β)|Ajj=>C9 a|Ajk=>C9 b|Ajl=>C9 w|Ajm=>C9 XG|Ajn=>.B9 c|Ajo=>.B9 A2|Ajp=>(AG8+1)|Ajq=>BB 0|Ajr=>st.2.1|Ajs=>M1 AT|Ajt=>M1 AL|Aju=>GN Ζ|Ajv=>GN RN|Ajw=>GN (rh D)|Axs=>FM Η|Ajx=>i<OI|Axt=>i<HE|Ajy=>(D9 AUr)|Ajz=>FG AH ε|Aj0=>SS j'|Aj1=>Cc hv|Aj2=>Cc Φ|Aj3=>.DC ds|Aj4=>Br1 _ _|Aj5=>by rw[<- ε];rfl|Aj6=>Ε []|Aj7=>DZ hb|Axu=>ε i eC|Aj8=>R1.gr.h _ _ ε|Aj9=>(OO hc)|Aj_=>st.2.2|Aj'=>(DT hu)|AkA=>(DT hk)|AkB=>(hc z)|AkC=>by simp;show AF|Axv=>LA AeE|AkD=>ME S4|BnK=>(List.of_mem_zip ε).1|AkE=>.ABb ε ζ Ψ|AkF=>FA 2|AkG=>Na "abs"|AkH=>Na ĩ|AkI=>.BD w|AkJ=>C5 ?_|AkK=>C5 (DL nu)|AkL=>ES n|AkM=>ES at_|BnL=>LX setNext|BnM=>Aeh hl|AkN=>.AX z|AkO=>.AX Cq|AkP=>C6 O.key.length_eq|AkQ=>(IY DM)|AkR=>z6 (BJK ε)|Axw=>(Nc "type")|AkS=>AHP 5|AkT=>EX h|AkU=>EX ?_|AkV=>DL q|AkW=>a::b::t|Axx=>(a::(ANQ [c]))|AkX=>GV ?_|AkY=>GV Awy|AkZ=>(GW Awl)|Aka=>MH N3 ε|Akb=>ACQ (Af9 ε)|BnN=>Aeh hb|Akc=>.Dx ys|Axy=>by show B1 ε;show AF|Akd=>α ->β|Ake=>Nl o|Akf=>AtQ=Η|Akg=>A.in1.handled=Η|Axz=>(k8 mB)|Akh=>hN b hb|Ax0=>(LG hx)|Aki=>by unfold ε;show Û|Akj=>ACS 2|Akk=>AK1 Θ|Akl=>IO<=n|Akm=>.Au_ ε ζ η θ|Akn=>AGq<cLine|Ako=>(œ hv)|Akp=>(œ hi)|Akq=>PZ Flow|Akr=>PZ fI|Aks=>b∉kF|Akt=>zS hj|Ax1=>OS (z7 h)|Aku=>AUU AO|Akv=>Q4 L7|Akw=>(.pu ANg)|Ax2=>Q DI H'|Akx=>Cb b q|Ax3=>(Qi Ξ)|BnO=>Ŗ ASk|BnP=>Ŗ ABP|Aky=>cf ε Φ|Akz=>by obtain⟨ε,H1,I1,ζ,q1⟩:=Cn|Ak0=>bJ hb2|Ak1=>DA ->AL|Ak2=>by rw[e] at h;exact h|Ax4=>AUb ABi ε|Ak3=>RC l|Ak4=>(kD .AX)|Ak5=>(Bmy .AX)|Ak6=>Gl X L7|Ax5=>sB SD|Ax6=>Sr (MS ε e)|BnQ=>(gL (HZ r))
|Ak7=>by
 show BG ε ζ
 replace η:θ:=ι;refine ν
|Ak8=>S_ gy|Ak9=>(AUc sF)|BnR=>(IA pf p)|Ak_=>e _ _ h1|Ak'=>fun z E cx=>MN (ε ζ) η|AlA=>(.xd fs)|Ax7=>AMZ ac|AlB=>Ś X.base.get? ε|Ax8=>is1.toArray[j]|Ax9=>is2.toArray[j]|AlC=>by show B1 ε;rw[ζ]|Ax_=>AHc (ε _ _ e2)|AlD=>DF ε [UF] ζ|AlE=>DF ε [kM] ζ|AlF=>Bre l ε|AlG=>cB cR (bi ε) ζ|AlH=>Cls K C|AlI=>(lt i j)|AlJ=>JI<=1000|AlK=>(DS++c::Ag5)|AlL=>by intro X hP hw hK hc i Ο s σ H E I hf q hg|AlM=>h _ ACx|AlN=>h i hi|Ax'=>hix i hi|BnS=>Ş Ae' ε|AlO=>(ACd É)|AlP=>∀{a b:AB},_|AlQ=>(vQ B5)|AlR=>(vQ AZ)|AlS=>ACh s2|AlT=>fN BGo C|AlU=>fun b hb u e=> ε|AlV=>∀(he:fR LE e es:=by rfl) (EI:Awk:=by rfl),_|AyA=>fun h' hs' =>ε|AlW=>Ũ By|AlX=>Ũ kC|AlY=>(jn p)|AlZ=>(Ç 2)|Ala=>ACl KU ε|Alb=>(ε :Κ)∉fs|Alc=>(EV f)|Ald=>(BrU hu)|Ale=>by exact Aec _|Alf=>J.go i H|Alh=>J.stop i H|Ali=>JJ mC ε 1|Alj=>Ê H|Alk=>Ê g|Alm=>AMg ALb ε|Aln=>∀(a b:Κ),_|Alo=>AMi ε Ap|Alp=>V ->AMW|AyB=>(ATz ..)|Alq=>tT l|Alr=>ph K0 ε ζ|AyC=>Ε (Ε ε)|Als=>Ë E3|Alu=>FG σ YV|Alv=>k' ::ks|AyD=>V.ref (sQ)|AyE=>UT u BO|Alw=>(U1 fp Avu)|Alx=>sT JS h.2|AyF=>(f j).num|Aly=>ε (by exact_mod_cast z)|Alz=>Fr F' u|Al0=>(2^105*27720)|Al1=>No (Builtin.Tuple.tupleExact _)|AyG=>(hx' b u e)|Al2=>fA ms rs j|Al3=>AU_ G2|Al4=>Ž ADM ε|Al5=>AU' ABb ε ζ η|AyH=>(ts++ [t])|Al6=>(Ξ++ [r])|Al7=>ϊ aC|Al8=>⟨ε,_,Β,AWH,ζ⟩|Al9=>by unfold ε;rw[ζ,η];grind|Al_=>(AH9 LM)|Al'=>(Ϗ aM)|AmA=>Rd H a PU|AmB=>(x,AuX)∈ε|AyI=>DS++E5|AyJ=>.KM (.ret ε)|AmC=>(AIF p1)|AyK=>Fr F ADY|AyL=>B0 (ε Β Fm)|AmD=>AHF Ji ε (A8 (AN0 Rr) ζ)|AmE=>ADW (mr)|AmF=>ANJ (r= BM/\ε)|AmG=>AgE num|AyM=>(AVK (Co∈U))|BnT=>Æ hs' hb e|AmH=>U2 gK X0 LY f fd ps (ε K sp)|AmI=>AVS D|AmJ=>AVS V|AmK=>AgH h|AmL=>pj= ANl|AmM=>AGh= HU|AmN=>By - 1 - i|AmO=>by rw[al q]|AyN=>Cb q hq0|AyO=>AVY KU|AmP=>Avo 1|AmQ=>ANV AwD|BnU=>Uf ε 3 UF ζ|AmR=>⟨ε,fun i Γ=>ζ,η,?_,?_⟩|BnV=>(.AX EB t)|AmS=>(AgP (b::HM))|AmT=>(AgP Bk0)|AmU=>(.AS9 .Or (b::HM) Ψ)|AmV=>(.AS9 .Or Bk0 Ψ)|AmW=>FK (iV VC (ε i))|AyP=>(Ĵ 105).SA 3|AmX=>by obtain⟨a,vs,bs,e1,e2,e3,e4,h⟩:=h|AmY=>by rw[ε,ATN] at e|AmZ=>ANj Θ|Ama=>aC m f|AyQ=>s.heap.IsCell c v|Amb=>PA X es t|Amc=>PA X LE t|BnW=>ANm PD|Amd=>dO (AMi ε ζ dH η)|Ame=>AHn sb.2 ε|Amf=>(AVr AhD)|Amg=>(kW Ξ w).map|Amh=>ANw (Ll Hs ε ζ)|Ami=>ANx AwS|Amj=>o7 HR X.w H' h'|Amk=>JB xB|Aml=>s'.os=s.os|Amm=>fun f=>ANX|AyR=>fun hz=>(AhB ε)|Amn=>1<LP|Amo=>EZ<LP|Amp=>AHE*AMH|BnX=>(R.unbase g)|BnY=>(GW (k.map kV))|AyS=>typeLookup ε ζ =Hn η|Amq=>.pu (yC bs)|Amr=>.pu (yC bd)|Ams=>(AV' hh)|Amt=>Ķ (zN _)|Amu=>Ķ (ATx _)|Amv=>AWJ ε ζ (b_ (fun d Ω F1 H1 v R1 s1 rd η=>θ))|Amw=>[(f,v)]|Amx=>by show Fu a vs hq rs r1|Amy=>Cg D Γ E|Amz=>AWN ws.Pairwise|Am0=>(Agv s3)|Am1=>Lq LU ec|Am2=>(ε).all (AH4 (! x.1))|AyT=>gE Q3 H1 Η|Am3=>VF hA ts vs bs n h|Am4=>VJ hA ts vs bs n h|Am5=>(hr.make C us [])|Am6=>by ·rintro C K_ SG fp Ο s σ H Q I ⟨wj,wu,q⟩;exact ht C K_ SG fp wj wu AUz jO Hf Ο s σ H Q I q|Am7=>by ·rintro C K_ SG fp Ο s σ H Q I ⟨wj,wu,q⟩;exact he C K_ SG fp wj wu AUz jO Hf Ο s σ H Q I q|Am8=>(rH AE)|Am9=>[AGn,eR]|BnZ=>P6 ε (qq ζ)|Am_=>∀h',ε ->Q Η Sk|Am'=>(1+ MU)|AnA=>BB d≠0|AnB=>MH ce Bm'|AnC=>ABJ k 0
|AnD=>jt f f[i]|AnE=>Ag4 hr|Bna=>z6 (pv ?_ ε)|AnF=>Sl l tN|AnG=>(RH ADa AIW)|AnH=>(n,k)::r|AnI=>cy D te d ε|AnJ=>by have hl:=kE rs|AyU=>Õ (MS (E_ MY ε) q)|AnK=>[kR,xk,ķ]|AnL=>by have:=ε;show D5 ζ;show LH;exact η|AnM=>vK a1 b2|AnN=>B0 (DG Β (Agg ε ζ))|AnO=>AwA W.mroIn ε Ac3|AnP=>AhE h4|AyV=>AhJ (ż (HZ d))|AyW=>BmV (I i BF)|AnQ=>AhM h|AnR=>AhN ?_|AnS=>l::r::t|AnT=>k∈ks|AnU=>by rw[GL,GL]|AnV=>by simp only [XU,hx]|AyX=>(Da eZ.cs S)|AnW=>⟨h1,h2⟩|AnX=>Hn (ForInStep.yield ε)|AyY=>(NU ::ps)|AnY=>(ya i Ty)|AnZ=>jk hs x|Ana=>(xt ε ζ η).ABj|Anb=>Au (by rw[z,ε] at ζ;show AD η θ ι ν ξ ο π ρ τ υ χ ψ ω Α)|Anc=>(UR AZ AWO)|Ane=>⟨o,h1,h2⟩|Anf=>M_ l (cr l ε)|AyZ=>BIA ε ζ η θ (ι _)|Ang=>(aW (cC AH1))|Anh=>f_ H' ANa|Ani=>f_ Me Af0|Anj=>qA MD (.B9 ε::ζ)|Ank=>Yf ε mM ACp|Anl=>c8 jy (Rj xs)|Anm=>lB ks k|Ann=>Zn (t:=t)|Ano=>dE ε aO B5 ζ|Bnb=>(ts++ [.DC []])|Aya=>pG ru g AwO|Anp=>.qJ _ ts|Ayb=>(z6 (z7 ?_))|Anq=>gi (AWS (.B9 ε)) Β|Bnc=>z6 (Aei ε hd ζ ?_)|Anr=>ANo NC k|Ans=>by show ANz Β rs|Ayc=>Awi AMx|Ant=>(ATa k).nF|Ayd=>(ň Av_ [a] qo)|Aye=>(OV AS (cU gM YA))|Anu=>ύ A9 a b|Anv=>(Aq xs lo hi)|Anw=>iw N ds|Anx=>by by_cases hb:b=a|Anz=>(kvs.any fun kv=>(Χ (kv.1=k)))|An0=>Ec Au' hC|An1=>Wm (yG a2 ε)|An2=>sz+k* (CD AV4 1 0)|Ayf=>Awt ADQ|An3=>A8 (ADS zvv aq ε  ζ Β) Fm|An4=>Awu (AVz ε)|An5=>Awv H'|An6=>∀(AV0) (F H H0:Hp),_|Bnd=>Aww cells.lookup|An7=>by rw[ε] at q⊢;exact⟨F1,Ω,ζ,R1,q,η⟩|An8=>ATj am|An9=>sX (AHZ (.bl (O0 (ε))))|Ayg=>ALQ<1000|An_=>∀a∈as,ε|An'=>x h - AMf|AoA=>k*7 % IO|Bne=>pv ?_ ε|AoB=>(ĺ s3)|AoC=>(.ba ls)|AoD=>.ext (EX ε)|AoE=>(Ĵ ε).SA|Ayh=>⟨IP,ε,IP⟩|AoF=>fun H s=>ε|AoG=>(q::qs)|AoH=>Cb x hx|AoI=>(by show ACS 2;decide)|AoJ=>∃m,m<n/\ε|Ayi=>by rw[ε] at e1;show AD e1 e1 e1 e1 e1 e1 e1 e1 e1 e1 e1 e1 e1 e1|Ayj=>PE X i ty|AoK=>by show GU (AvT v) r1|AoL=>Gm Ξ m ε|AoM=>CU (fun i m ε ζ=>m=η - i/\θ/\ι) ν|AoN=>GV (qD (pC ps (v w)))|AoO=>(EM UK hl)|AoP=>BG9 x t|Ayk=>Q1 (lj e0.bs).1|AoQ=>by show F6 Β Ry ε ζ|AoR=>∀{i j:Δ},_|AoS=>ε (i:=i) (x:=ζ)|AoT=>fh d5 d5|AoU=>fh d_ d_|Ayl=>((ε ζ).take η).pz|AoV=>(TM x hx)|Aym=>D.rt v H|AoW=>C4 AGj i ε|AoX=>AHx (Ŝ s hs)|AoY=>AMp A9 BM|AoZ=>(AMt (tm/\Ü))|Ayn=>AU4 (cq Bs0 #[CF]) ε|Aoa=>by obtain⟨z,hd,xs,rel,dd⟩:=sg QX|Aob=>ADb H s|Aoc=>AVb (-1) (MC ε)|Aod=>(start N vs)|Aoe=>oM xs=Ε ns|Aof=>ANp (us++ [])|Aog=>qI ASx y|Bnf=>∀{m n:Δ}{a b:AL},_|Aoh=>fun Γ P E=>t Γ (fun c B4 =>ε) E|Ayo=>∀k,Aws Asg|Aoi=>∀c∈cs,f c=0|Aoj=>qG ε rF (gf ζ)|Aok=>.ob _ _ ts|Aol=>qY n m a|Aom=>pR lT F0 H ε t|Ayp=>by show VI o' e c d e_|Aon=>(U1 as (Š/\SV H0))|Aoo=>fun b u q n ε=>ζ|Aop=>∀(qs:BI)(bs:Hd),_|Aoq=>ε R2 (ABr s2) p|Aor=>by obtain⟨t,ht,hq⟩:=Aw2|Aos=>∀b ob,Awe ->ACo SE|Aot=>SP JO Ο D f ε|Ayq=>SR AG F1 H1 ε ζ σ η|Ayr=>(Ń ε ζ is).ei|Ays=>nZ K F a vs|Aou=>(.AtO .Not a Ψ)|Aov=>(pJ ps ws v)|Aow=>AM1 Q3 Η Ŵ|Ayt=>wG fs ts f=Ε ε|Ayu=>∀z,mq JO (AS8 ε) ζ|Aox=>by show Fu ε r h1 h2 h|Aoy=>[tS,AC_ (iY AM2 x),ε,ζ,y4,y5]|Aoz=>by obtain⟨v,us,bs,cs,e1,Β,h1,h2⟩:=h|Ao0=>B0 (au (qQ ε) aK)|Bng=>BHM _ ε fun hm=> ?_|Ao1=>by show Ct r hr e F.of S hS|Ao2=>(BnA HC)|Ao3=>BnB A9
|Bnh=>{nx:=ε,rt:=D.rt,bk:=ζ,ct:=η}|Ao4=>yt K F0 H0 ε D2 D|Ao5=>BnC A|Ao6=>cand S n bs k (AWU k)|Ayv=>∀(AhH){F0 H0 F H:Hp},_|Ao7=>BnD (ADK c)|Ao8=>BnE b|Ao9=>by intro wh Ο s σ H Q I h|Ao_=>σ ->DE|Ao'=>St ->D1 Hp (ε)|Ayw=>show ε by rw[ζ];exact η|Bni=>by rw[typeLookup_type,builtinLookup_eq_fast]|ApA=>bs++cs|ApB=>x.2≠y.2|ApC=>by obtain⟨ε,fd,ζ,η,θ⟩:=G.ex|ApD=>by rw[Q7 e1,AuK] at ε|ApE=>by obtain⟨_,_,e,_⟩:=hS b z|ApF=>by rw[C8,yY] at ε⊢|ApG=>∃f∈fs,ε|ApH=>ElemsOf knd ε|Ayx=>(ATC ABi)|Bnj=>(AGu Ast).ε|ApI=>qO Kk ε= ζ|ApJ=>(b1::Bc)|ApK=>D1 AB AB|ApL=>ĺ (s3.trans ε)|Bnk=>eL b BE|ApM=>Cb h hh|Ayy=>FG X.N n|ApN=>(z9 _ Β)|ApO=>(k - l)|ApP=>(r.2 - l.2)|ApQ=>by obtain⟨_,_,_,_,Β,_⟩:=h;rfl|Ayz=>⟨ε,ζ,η,θ,ι,ν,ξ,Ag0 Β PySem.evalArgs_none ο⟩|ApR=>BIH _ _ Av8|ApS=>(by intro q;show LZ)|ApT=>DQ Ξ h|ApU=>ofM Ξ m|ApV=>fun _ H Q=>ε|ApW=>ε (Nc AsY)=Μ|Ay0=>PE X FE tv|Bnl=>E_ (¬(ε)) AK4|ApX=>.DH (yT hq)|ApY=>B0 (zpm (j:=ε) nd Β Fm ζ)|ApZ=>AHF zuo ε AwY|Apa=>.BD (uQ sF hq)|Apb=>D_ jj AMu|Ay1=>(AUM z z)|Apc=>AGx _ ε Β|Apd=>Yq rs h2|Ape=>by show ANy;show Aw3;have ε:ζ:=η|Apf=>aJ K NL aT|Apg=>AHQ s2 ε s2.toks|Aph=>(AUS (AUT o m) [])|Api=>O0 (ε)=AE|Apj=>cK tn t ε|Apk=>by show VX t (E_ (ACu ε) r);show Do;rfl|Bnm=>∀x∈a,x∉b|Apl=>AUI (BA f (! ε))++ [g]|Apm=>(x6 F a cn)|Apn=>fh NL NL|Apo=>RA (B6∈ws)|Ay2=>YI w BlH|Apq=>Gr F ε F' H'|Bnn=>AUb pW update|Ay3=>(cr A2 [])|Aps=>zK (Aec _)|Apt=>UA (Bpt _)|Apu=>nZ K H a Awn|Apv=>sL suite hh ε|Bno=>(b∈ABW\/ANd b)|Apw=>R J H'|Apx=>ŝ setsByText zlm|Apy=>(AHj ((AVT).zip AVt))|Apz=>(gF Ξ x)|Ap0=>ε K F0 H0 t E σ H R|Ap1=>jF AH k|Ap2=>by obtain⟨_,_,_,_,o,_,_,e,_⟩:=k;exact E6 e|Ap3=>AeJ a A9 ε|Ap4=>bJ (ε b hb)|Ap5=>EJ AG F d x|Ap6=>(BsH S ep)|Ay4=>aI f=Ε ⟨oc,od,ε,ζ⟩|Ap7=>by rw[z,ε] at e;show Do|Bnp=>AU4 ABi P7|Ap8=>AU' AS7 ε j ζ|Ap9=>(yZ _ _ _ ?_)|Ay5=>T.keep _ _ _ ε fun b hb o e=>ζ|Ay6=>fun i j hi=>ε|Ap_=>∃d:AB,d≠0/\dD d<=ε/\ζ|Ap'=>EQ ((h ε).mp ζ)|AqA=>[IN,K2,NU]|Ay7=>∃o,ε/\∀v,pj≠ .cell v|AqB=>(es.getD p (0,BM)).2|AqC=>AVG z6 Brw|Ay8=>Qh Ξ ws ps|Ay9=>fun σ H R=>te σ H (y0 v ε)|AqD=>ANR Bpn (xh ε).2|AqE=>jo t A9 l xs|AqF=>X3 (De ε) (FM OU)|AqG=>by show FX Β rs YM ε|AqH=>U i j hij ε|AqI=>∀(Ξ:B7)(w:Κ),_|AqJ=>σ ->α ->AL|AqK=>by rw[<- tP];exact Awo|AqL=>AV9 (ADX ε) (fun ζ EU=>η)|Ay_=>NA cs DA (ε) ζ|Ay'=>AWB i hi|AqM=>AWF ε Ad0 Asp|AqN=>∀(hA:f_ F (Awq AVa)),_|AqO=>AWP (ANt st.at (AhC e))|AqP=>(Bgi ε).all (AH4 (x.1).Į)|AqQ=>sy (Ψ:=ε) (i:=ζ)|AzA=>(.tr as (.ob C fs ts))|AqR=>AMr Bm2 e (ε i ζ)|AqS=>(neC b o e hx)|AqT=>iT t1 A9 i1 l1 k1|AqU=>iT t2 A9 i2 l2 k2|AzB=>∀as,th (Gu i ε) (ζ i η) jO|AzC=>(fun f vs=>PySem.call f vs)|AzD=>As ms x G|AqV=>FA (sIx n 0 lo)|AqW=>zO (ε _ _) (Bpw ζ η)|AzE=>Nn ε p 1 0|AqX=>(x6 F' A2 cn)|AzF=>z6 (wpAny_typeNameOfWhole_keyiter AUB Ag6)|AqY=>(Xi r ta tb)|AzG=>.AY (E_ (HQ ε (T' ζ)) Β) r|AqZ=>by simp at g1;subst g1;simp [nu]|Bnq=>Avr J.type (z6 (Avr ε ζ))|AzH=>(.Raise (D9 (Afo AUr LE)) Η Ψ)|AzI=>ε it d ζ FU ep
|Aqa=>by
 split
 ·show Ki;show ND L3 hp hp
 ·show Ki;show ND TN hp hp
|Aqb=>zo3 ε (ACP z2e) AWL|Aqc=>∀{rs:FB}{cs:DA},_|Aqd=>ε g tc ζ (rD AG7 Fk Γ)|Bnr=>Ru K mg BGv Bm5|Bns=>(U8 hT hdT q n)|Bnt=>ne c _ z (MG w BlH)|Aqe=>h.Ns1 dx mA|Aqf=>(AtC b o e n hb hx)|Aqg=>YC hr (Υ:ε) ζ|AzJ=>fun k' y=>(Nn k' k ε y)|Aqh=>EQ ((h ε).mpr ζ)|Aqi=>∀{α β:Ch},_|Aqj=>ji xs ys=Μ|AzK=>g ε Γ (BA B4 ζ) E|Aqk=>rO H F' a|Aql=>∀[ώ](val:ME κ),_|Aqm=>by show Ů w hw hq|Aqn=>Afy QE elt te|Aqo=>Vh X F0 H0 tg OG ti|AzL=>ADR SE (AVW Η (.seq ε ζ) #[])|Aqp=>ADZ ε (s.heap.UpToSlots h') (Q () Sk)|Aqq=>∀ds Q Ex,sp ds Q Ex ->t ε (iw N ds) (FM Ex)|Aqr=>by intro _ h;show HK|Aqs=>⟨y,H2,I2,ε,q2⟩|AzM=>P (ys++zs)|Aqt=>g x σ H' (AVd (tb (AVi N N) σ2 H2))|Bnu=>∃S' ∈ε,AVu S S'|AzN=>sp (.ob C [] []) ds ε ζ|Aqu=>Ú 3 qQ (HT G7 ε)|Aqv=>aj (cP (GS ε ζ)) ak|Aqw=>Bm9 (ACq Θ) Θ|Bnv=>(lE r g ps ms x)|Aqx=>ε HR X.w AG pk SH C m k ps sp|Bnw=>ό ->∀h∈AVl kW,Ag3|Bnx=>IS B4 0 (.pu (.ptr a))/\ε|Aqy=>fun xs ds P=>ε|AzO=>pF Ξ ws m ε j*Awm x|Aqz=>(U5 KI eb)|Aq0=>by (obtain⟨_,_,z,_⟩:=r';show MR)|AzP=>[.kK w VG]|Aq1=>ε H2 (ĺ s3)|Aq2=>ĳ (uQ sF ε)|Aq3=>Bx d d' =Μ|Aq4=>At5 Ų=Hn (Nc "method_descriptor")|Aq5=>TR K F H t v ε|Bny=>∃es,pj= AhK|Aq6=>aV AG C' C|Aq7=>Χ (ε+ ([]:EO Keyword).ALY+ (CD ([]:EO Keyword).isEmpty 0 ζ)<η)|Aq8=>T.obj _ _ ε b hb|Aq9=>zla I S e|Aq_=>⟨0,0,0,0⟩|AzQ=>VW (Bmu k0) Bmt|Aq'=>fun x e n=>ε x fun o ho=>e _ o n ho|AzR=>(sx (SC (ya i Ty):Key))|ArA=>fq Asm d5/\kJ K d5|Bnz=>Af4 [Aft] ε Cx Cx|ArB=>uD p s i|ArC=>by show Ż H1 I1 q1|ArD=>.pu (yx c ps)|ArE=>∀(hs:Ρ)(x:D3),_|Bn0=>yH c _ (BA hc ?_) q|ArF=>by show AVU (LX .ε) (LX .ζ) (LX .η)|ArG=>by show AVU (.ε _ _ k1 hu0) (.ζ _ _ k1 hu0) (.η _ _ k1 hu0)|ArH=>(by first | exact CS Β | exact C_ Β | assumption)|ArI=>NO ACr X.A (AeS (BY it)) (ft s1 ε) E s|Bn1=>gi (Aei ho hd (x:= ε)) Β|ArJ=>Gf (X:=(yA z).ACG a) (Rk I5 a) hg hm ?_|ArK=>by show AId (.ε _ _ k2 hu0) (.ζ _ _ k2 hu0) (.η _ _ k2 hu0)|AzS=>Agf ABw AWD AWM|ArL=>(Li lo n).ε i H|AzT=>(h ms x G)|AzU=>((ε).SA 26).eQ|ArM=>by show Ag' (AtE b o e n hb hx)|ArN=>μ*As1 Ø|ArO=>ε k1 k2 hz hu0|ArP=>by show dL;exact ε a t' b t|ArQ=>dt rs (jn p)|ArR=>.ask i j k|ArS=>Awc ε zev AvD AvE ζ
|Bn2=>by
 refine fw ε hod hdd;show A7 A1
 refine ζ
|ArT=>∀{n:Δ}{f:ŵ},_|AzV=>(U' v (∃h:AwZ,v=es[i].A6))|ArU=>AuM= HU/\Aev= Af1 fv/\ε|ArV=>AM1 (b∈cs) (H b) (F b)|AzW=>obs (cut A9 n)|AzX=>.DH ⟨_,kk,Lq ε ec,Β,ζ⟩|ArW=>.ow (C4 (b9 k) nm .AX)|ArX=>by rw[hc,ea] at q;show LZ|AzY=>(ε (ax By 0 lo)).take (Bm7 - Bm3)|AzZ=>∀{t1 t2:AT}(BnG){k1 k2:Δ}{xs ys:Lm},_|ArY=>by subst r;show AD hS hS hS hS hS hS hS hS hS hS hS hS hS hS;exact zmc I rx ε e h|ArZ=>by obtain⟨_,_,_,q⟩:=hs;show tz|Ara=>by exact OS (main _ _ Φ Φ)|Arb=>wpAny_Call_method0_late JE Mn (lc ε v ζ)|Arc=>∀{S:c_}{hs:DE},_|Ard=>ε HR X.w Cl ns|Arf=>by have Rz:=rd;obtain⟨a,dx,vs,Β,ea,hl,rs⟩:=rd;show ß;refine ε;refine ζ|Arh=>by obtain⟨F1,H1,I1,L,n0⟩:=lent I R|Bn3=>ņ aA (yO js ac (Nv c)) ε|Ari=>Gr F0 H0 F H|Arj=>(CD (r=oO) 2 1)|Bn4=>⟨_,Bm4 ho hd,(BrZ ..).Ff hc,ε⟩|Ark=>fD (i:=ε) nd Β Fm (B0 ζ)|Arl=>(up v w q u)|Arm=>by obtain⟨z,AW,n,r,e⟩:=ε|Arn=>∀AH,u≠ .dK AH|Aro=>by show AVD a2 u2 h2 h1|Aza=>ε (pl:=Μ) Β Β Β (BA F0 (IU (bM  ζ)))|Arp=>fS (.For tg ε L6 [] Ψ) (ζ η g tb)|Arq=>ANq ns CI AV7 AhF ε|Ars=>zpr Au' PJ _ e1
|Art=>by
 generalize BB AHE=x at*;generalize BB kr=y at*;generalize OR bc=u at*;generalize OR AMH=v at*;subst h1 h2
 grind
|Aru=>[ATG,kQ,XE,xk,AeZ]|Arv=>by show Ct v h1 h2 wv r hr|Arw=>by rw[UK,<- SK];exact AV8 hs|Arx=>by show FC hb eb nH b u eb
|Ary=>∀(Mn:mv:=by rfl)
 (he2:AMn [.Call AwB [] [] HC] Ag_:=by rfl),_
|Arz=>(hn b (mem b hb))|Ar0=>[eR,OB,"lefts",Atm,"numbers"]|Azb=>l_ l DE P c0 (AVC ε) (P (ζ η)) (AWV EV)|Ar1=>[ANf,Awa,Awb,ES way,ES ABZ,Avv nms.map,Avv NP.map,.ow (ħ zu),ε,ζ,x10,B8]|Ar2=>∀(t1 t2:AT)(h:AM)(l1 l2:Ζ),_|Ar3=>(match k with | ž=>x | .DH _=>Ty)|Ar4=>[z,TI,TO,i1,i2]|Azc=>["_law_way","_law_w","_law_h",Ate,AGl]|Bn5=>⟨x,H2,ε n0 I' sm e1 e2,rv,hQ⟩|Bn6=>∀(q:Δ) w p,AWK w ->ACc ps p ->ε|Ar5=>fun d BF F2 H2 v R2 s2 r p=>(Bm8 r p)|Azd=>Hnd Ξ r g ps bd|Ar6=>by obtain⟨a,dx,vs,h0,h1,h3,h4⟩:=h|Bn7=>(gN H' (Ag7 /\∃H2,(Awr)/\ (Awp)/\Q v H2))|Ar7=>zi7 ε ζ hc hm (Yv Ry) ?_|Bn8=>Steps CY w A I S ε ep o
|Ar8=>by
 have e:dv i j= ε:=ζ
 exact⟨BlC,BlC,AgA 2,Nw e h⟩
|Ar9=>∀(G:ε HR X.w AG pk SH x k ps sp)(hr:Ÿ)(hg:J_)(ha:TZ)(hdb:HH:=by decide)(uB),_|Ar_=>Aw1 ⟨F4,Γ4,R4,ĺ (s3.trans s4),q⟩|Ar'=>∀(ws:Ρ)(v:D3)(bs:Y2),_|AsA=>by exact ABn ts vs bs h a ha|AsB=>ε (knd:=pK HR X.w) (AH:=ws) (ep:=ep)|AsC=>fun d v F' H' gr rv q=>ε|Aze=>[NU,kM,ad,ae,ABP,kP]|AsD=>[xl,"head",kQ,AeZ,XE,xk]|AsE=>by have h1:=Qa a;have h2:=Qa b|AsF=>z.sameBut hs (cne y c e)|AsG=>zg2 e1 e2 hob hobc (tl.hasType ε) ?_|AsH=>EW AWI (ε C m sp te t)|Azf=>((VT (match xs[j]?,ys[j]? with | Ε a,Agi=>jy a b | _,_=>AE)))|Azg=>ε K C f sp vs H Q E|AsI=>by obtain⟨q1,q2,⟨u,v,q3⟩,q4,q5⟩:=q|AsJ=>by obtain⟨x,H',I',rv,sm,H2,e1,e2,hQ⟩:=ε|AsK=>by have:=UY Zu rs rs cs ε ks ks ss rs (r:=ζ) fun s hs=>hs|AsL=>∀(K:AA) (sp:ε) (vs:AQ) (H:Hp) (Q:VK) (E:XK),_|AsM=>∀(X:Cx),BC (HR=P) (X.w=w) (AG=K) ε (∀(i:Δ) (Ο:d8) (s:AC) (σ:St) (H:Hp) (E:dW),ζ)|Azh=>∀(P:A0) (w:An) (K:AA) (mg:EN) (C3:AM),_|AsN=>by rintro A2 C H' s5 I5 q5 ⟨m,hn⟩ c1 c2 c3 c4 c5 c6|Azi=>by show AD z' z' z' z' z' z' z' z' z' z' z' z' z' z'|AsO=>by show AD rv rv rv rv rv rv rv rv rv rv rv rv rv rv|AsP=>by show AD g2 g2 g2 g2 g2 g2 g2 g2 g2 g2 g2 g2 g2 g2|AsQ=>by show AD h1 h1 h1 h1 h1 h1 h1 h1 h1 h1 h1 h1 h1 h1|AsR=>by show AD hi hi hi hi hi hi hi hi hi hi hi hi hi hi|AsS=>by show Lc ε hd hd hd hd hd hd hd hd hd hd hd hd hd hd hd|AsT=>hg C K_ SG fp wj wu AUz jO Hf Ο s σ H v u Q I r|Azj=>yB ε|Azk=>BJk ε|Azl=>BGh ε|Azm=>(Ku L (ε w hw)).1|Azn=>by rw[ε,ζ,η,θ,QQ,ι]|Azo=>by rw[UP]|Azp=>by obtain⟨_,_,_,_,e⟩:=ε|Azq=>by obtain⟨_,_,_,e⟩:=ε|Azr=>by obtain⟨_,_,_,e,_⟩:=ε|Azs=>by obtain⟨_,⟨_,_,_,e,_⟩,_⟩:=ε|Azt=>(by rcases ε with ⟨ζ,η⟩ | ⟨θ,c,ι,ν⟩)|Bn9=>by simp only [C8] at ε|Azu=>Ae5 ε|Azv=>EO Obj|Azw=>EO _2.Key|Azx=>by obtain⟨_,_,_,ε⟩:=ζ;exact η|Azy=>by injection ε|Azz=>(by grind)|Az0=>(by injection z)|Az1=>[ALf]|Az2=>[XB]|Az3=>[AGm]|Az4=>(BY sl)|Az5=>(BY C')|Az6=>by subst z;exact ε|Az7=>C9 AIO|Az8=>by rw[al ε]|Az9=>kL h|Az_=>ATt h|Az'=>.B9 E3|A0G=>(De Rt)|A0H=>(cC AN')|A0I=>(bi 10)|A0J=>.AU (lo+i)|A0K=>IU ue|A0L=>(FF ys)|A0M=>(FF ATV)|A0N=>GN AM|A0O=>GN ID|A0P=>i<AtB|A0Q=>i<IO|A0R=>i<NS|A0S=>C4 EV ε|A0T=>(hm.push _)|A0U=>yk AOC|A0V=>Fr PD ε|Bn_=>D7 its.size|A0W=>D7 XG|A0X=>D7 ATQ|A0Y=>D7 FU|A0Z=>D7 rest.length|A0a=>IsTup.new _ _|A0b=>Afe _ _|A0c=>by subst r;rfl|A0d=>A4 zke|A0e=>A4 zcv|A0f=>A4 z0q|A0g=>A4 z0z|A0h=>A4 zfc|A0i=>A4 zcw|A0j=>A4 zdg|A0k=>A4 zd9|A0l=>GT SE ε|A0m=>(OO h1)|A0n=>(OO hk)|A0o=>Au AOe|A0p=>W.handedIn ε=Μ|A0q=>(DT hl)|A0r=>by show A7 Θ;show AF|A0s=>.none_bool _|A0t=>.bool_none _|A0u=>(rV Asn)|A0v=>FA EZ|A0w=>show ε by simp [ζ]|A0x=>Na pd|A0y=>Na ALJ|A0z=>Na "any"|A0_=>Na j'|A0'=>(HG hk)|A1G=>(HG hy)|A1H=>.BD ADg|A1I=>.BD (E4 (ε hb))|A1J=>C5 (z6q _)|A1K=>(.dK [])|A1L=>z6 (ATB ε)|A1M=>ATE ε ζ Β|A1N=>Da ycf|A1O=>EX (.AU (f h))|A1P=>DL EK|A1Q=>E4 AIh|A1R=>(FV hy)|A1S=>AGg ?_|A1T=>Nl AVs|A1U=>by rw[C8]|A1V=>Ō Sm|A1W=>by show FX ε ζ BG' η|A1X=>L.hS b hb|A1Y=>(LG hh)|A1Z=>(zW _ hx)|A1a=>by rw[AL_] at h|A1b=>⟨o,ε,O.ex.1⟩|A1c=>PV ki ε|A1d=>ATt Θ|A1e=>b∈kF|A1f=>KO<=i|A1g=>IC UI ε|A1h=>PZ AT|A1i=>PZ Result|A1j=>ALP q
|A1k=>.AY _ _|A1l=>.none_int _ _|A1m=>.none_str _ _|A1n=>.bool_bool _ _|A1o=>.int_none _ _|A1p=>.str_none _ _|A1q=>(zh CA)|A1r=>Cls AG C|Bn'=>Q4 eA|A1s=>NB AMo|A1t=>DK.h b u|A1u=>ĳ hq|A1v=>AHT Bnd|A1w=>AUV si|A1x=>(eG Ξ)|A1y=>lP ATB|A1z=>lP Brs|A1_=>(hf b hb)|A1'=>bM  (rS fM ε ζ)|A2G=>YE R.em|A2H=>(zo CA)|A2I=>RA Bnw|A2J=>Lv (kf e.2)|A2K=>(r_ B5)|A2L=>(z8 _ e1)|BoA=>Gl X eA|A2M=>AHW ε (KS s' ζ)|A2N=>xL t|A2O=>rows.drop t|A2P=>k<IO|A2Q=>k<JI|A2R=>gS ε Rat.not_lt.mpr ζ|A2S=>by show FX ε ζ BG' η|A2T=>S_ Î|A2U=>(AUc L_)|A2V=>ε ζ a SD|A2W=>i<=OI|A2X=>by show B1 ε;decide|A2Y=>sd BnY|A2Z=>sg zv7|A2a=>(EV .AU)|A2b=>(Afr Adz)|A2c=>zx.up Φ|BoB=>Atr (bZ ε ζ)|A2d=>(DS++Ahl)|A2e=>(DS++d::ACm)|A2f=>Ya Μ|A2g=>FK (ya i ε)|A2h=>(lj old)|A2i=>(AHj AxB)|A2j=>(ε _ z).2.1 Β|A2k=>Ş QQ ε|A2l=>ε E3 a
|A2m=>(by
 rcases ε with ζ | η
 ·exact θ
 ·exact ι)
|A2n=>PV EV qD|A2o=>AUi ATI|A2p=>Ŧ (AIk ε aU) ζ η|A2q=>Y' By ε|BoC=>İ ABl|A2r=>(sC).OC|A2s=>g9 WA|A2t=>g9 ZH|A2u=>(topStub p)|A2v=>AMC hi|A2w=>BIW j ε|A2x=>(g.unbase gr)|A2y=>splitId ε =Ε (ζ,η)|BoD=>tn i am|A2z=>AHr AW|A2_=>by show GU (AvT ov) rx|A2'=>(AxW qD)|A3G=>[IN,AGn]|A3H=>FG σ É|A3I=>ATj h'|BoE=>KO=LP|A3J=>m3 BGo ε|BoF=>(ACs qB)|A3K=>by ·rw[AT_];exact ε|A3L=>(200*27720)|A3M=>q<LP|A3N=>q<NS|BoG=>As_ y=Ε ε|A3O=>MG h h|A3P=>(R++ [r])|A3Q=>(k_ a z_)|A3R=>(ç Ap)|A3S=>Avh ε K0|A3T=>Avi (AHY ε K0)|A3U=>Rd H a AVs|A3V=>KV AH ws|A3W=>ATs s1|A3X=>by rw[XI,<- hl]|A3Y=>h.FunFrames ε l|A3Z=>(e - Ag9)|A3a=>Fr F (.frz o (jf a C))|A3b=>ADT PD|A3c=>(HT aU aU)|A3d=>(s1 _ _ e)|A3e=>VM AOG*f j|A3f=>.obj _ _ _|A3g=>.bool_str _ _ _|A3h=>.str_bool _ _ _|A3i=>(AVK (T5 r))|A3j=>UD Ω|A3k=>jp<=40|A3l=>Int.lt_or_le 0 ε|A3m=>by rw[P_ q]|A3n=>rL Key AJ|A3o=>GV (Χ AIH)|A3p=>ya j 0|A3q=>ADk EB|A3r=>(AVc F8)|A3s=>(AVc mB)|A3t=>AgN eA ε|A3u=>gc ε ATx _|A3v=>z.natAbs<=B|A3w=>by have A6:=AfF ε|A3x=>∀(ha:Ù a tA),_|A3y=>∀(ha:PT X a tA),_|A3z=>qD (Axc)|A3_=>GT Me o|A3'=>PE X o to|A4G=>h'.IsCell c v|A4H=>gI (Nn b a (Ε ε) ζ)|A4I=>(AIr á)|A4J=>(Av0 ⟨HU::us,kw⟩)|A4K=>Av2 UM|A4L=>Av2 AL1|A4M=>Av2 AfY|A4N=>(yA z).Ok|BoH=>(aL K F ds HM)|A4O=>∀a F,rA F a ->pR AgQ F H0 ε ζ|A4P=>seqIndex_neg Θ ε|A4Q=>by exact I1.after hq|A4R=>o=Ε ED|A4S=>iU K P5|A4T=>AV6 AxP|A4U=>(AN_ Av8)|A4V=>AOE Awx|BoI=>AWG AL9 ε|A4W=>∀i,i<Kk ->ε|A4X=>(AOK AWk)|A4Y=>ACv ε ζ aU (Nd η)|A4Z=>by have:=ε;show D5 ζ;show LH|BoJ=>Agu base.Ns|A4a=>Agu h.Ns|A4b=>(I2.env0.make C us [])|A4c=>s.heap.DictAt AMy a ws ep|A4d=>R1.g.trans sH|A4e=>(rH Μ)|A4f=>Aer=Ε dx|A4g=>[kQ,eR]|A4h=>zQ _ BnJ|A4i=>by show Aw5 ε;rfl|BoK=>by rw[FS,ε,ζ];rfl|A4j=>by rw[ε] at e;exact BJx e|BoL=>(AWf a.den_pos)|A4k=>QU k 0|A4l=>M_ A2 H'|A4m=>IC (bJ ne) gU|A4n=>IC (ADc n2) gU|A4o=>Sl p tN|A4p=>k b o hc e|A4q=>ASy b o e n|A4r=>by show ZA i OI|A4s=>(AWo aU)|A4t=>cy D tv d ε|A4u=>uQ LU hq|A4v=>[kR,ABh,ķ]|A4w=>by have:=ε;show D5 e;show LH;exact ζ|A4x=>vK a2 b2|A4y=>(AwR dx)|A4z=>iT t1 ε i1 l1 (k1+1)|A4_=>iT t2 ε i2 l2 (k2+1)|A4'=>AwA W.mroIn ε AsY|A5G=>pN f v ((k,x)::r)|A5H=>(N*M)^ACN|A5I=>LV Gx|A5J=>AG3 s2|A5K=>[K2,LM]|A5L=>[K2,Aed]|A5M=>MG z z|A5N=>OQ xs q|A5O=>(AhX z03)|A5P=>by rw[C8,<- hl];exact ε|A5Q=>by rw[XI,<- hl];exact ε|A5R=>∀r∈rs,AW2 r|BoM=>Nw SK z|A5S=>Ŕ g f|A5T=>Q_ (ADw ε) 4|A5U=>cc q ⟨o,ε,Β⟩|A5V=>(OV Ap AS)|A5W=>Aet (DT h)|A5X=>Ś PD ACp|A5Y=>(k,x)::r|A5Z=>(k,v)::r|A5a=>(h2 a h).2|A5b=>(hn a h).2|A5c=>hV (Ĵ ε) 3|A5d=>by rw[AeL ε] at e2|A5e=>(Ahj Β)|A5f=>(Ahk vI)|A5g=>by obtain⟨AW,r',pl,hz⟩:=kL hq|A5h=>by obtain⟨AW,r',pl,hz⟩:=ĳ hq|A5i=>.none_tuple k2 hu0|A5j=>.none_list k2 hu0|A5k=>.tuple_none k1 hu0|A5l=>.list_none k1 hu0|A5m=>.bool_tuple _ k2 hu0|A5n=>.bool_list _ k2 hu0|A5o=>.tuple_bool _ k1 hu0|A5p=>.list_bool _ k1 hu0|A5q=>fun D Γ _=>ε|A5r=>fun D Γ E=>ε|A5s=>r j*VM cs|A5t=>Jr K F MK (ε a o AHX) ζ|A5u=>(kO F0 F)|A5v=>by have h1:=G9 AHE AMH|A5w=>by have h1:=G9 bc AMH|A5x=>sR ε ds (ζ*VM (j::ds)) cs|A5y=>ADu f ul (f j*VM cs)|A5z=>pQ ε (ACd o) j a
|A5_=>by by_cases q:AOL<;>simp [q]|BoN=>(Asv a:Key)=ε b|BoO=>(SC a:Key)=ε b|A5'=>.tuple_list k1 k2 hu0|A6G=>.list_tuple k1 k2 hu0|A6H=>∀(Ah9)(h:AIw),_|A6I=>AiB (ε DI H')|A6J=>(∀a F,rA F a ->pR AgQ F H0 AH7 th)|A6K=>Aw0 ε ABX|A6L=>by show sA DI H' I q;exact⟨DI,H',Vf I,q⟩|A6M=>by show sA DI H' I q;exact⟨DI,H',Yh ok I,q⟩|A6N=>W.KasT α|BoP=>BJS= #[]|A6O=>sc.kind= AMj|A6P=>Ζ ->aF|A6Q=>(z.1).kA|A6R=>by show Aw4 BKG|A6S=>by rw[AGz,XU]|A6T=>(ABO Axl)|A6U=>(AGa ε).all|A6V=>[xl,BHt]|A6W=>F' A2=Η|A6X=>(as++cs)|A6Y=>L9 H H1|A6Z=>(kg i 0)|A6a=>D_ uw ns|BoQ=>z6 (z7 (z6 (z6 ε)))|A6b=>ε/\ζ/\η/\Ũ OH/\θ|A6c=>CU Β Β|A6d=>(U1 bs Ahv)|A6e=>YN Y (C9 Axf)|A6f=>ş IE Ah'|A6g=>by show C4 ε ζ _=_;rw[η];rfl|A6h=>AHn far Bns|A6i=>by show c∈_;simp|A6j=>ABm ε t v as ζ η|A6k=>by show AIQ C8 AMF|A6l=>aC Ξ (gL (ε*uu))|A6m=>(vs= [.B9 q])|A6n=>Agb H1 ε AtY ζ|BoR=>ANs KI e|A6o=>by by_cases hi:i<OI|A6p=>(hg x).mpr (HG ε)|A6q=>eF Kk (VT ε)=ζ|A6r=>zpf hA ds vs n ε|A6s=>PP ANn (D9 ε) (Ε ζ)|A6t=>AW3 ws AhW|A6u=>⟨f,hf,hx⟩|A6v=>cy _ t ds ε|A6w=>(S0 w os)|A6x=>HI Ξ r (AI0*ε) ζ|A6y=>(∀p∈ps,Iw 300 p)|A6z=>(Axk vs)|A6_=>qI (aZ st) NU|A6'=>by have hb:ε:=BHw h;show AhG ζ|A7G=>sR d es (s d*h es) ε|A7H=>T A9|A7I=>BKJ (Lv ε)|A7J=>by have Fh:=BIL|A7K=>by show BnH ATq ε|A7L=>X5 (oK ACb B5 ε UX) ζ|A7M=>(AL6 hk)|A7N=>BsE ε ζ j'|A7O=>⟨hstop Β,ε⟩|A7P=>[Md,NU]|A7Q=>(A8 (Ju B5 (Gj aU)) Ls)|A7R=>by rw[ATt hi']|A7S=>∀(K:AA)(ta:TA),_|A7T=>∀xs,ε ->Ţ|A7U=>(vs++ws)|A7V=>JF K c.fZ|A7W=>FG ds d|BoS=>(List.dropLast_subset _ hk)|BoT=>xs.all qP=Μ|A7X=>OR AUG≠0|A7Y=>(ws++ [w])|A7Z=>C5 (zt6 _ _)|A7a=>Ce.there b o eb ε|A7b=>(LU _ _ ea)|A7c=>Qr es us|A7d=>ABo (ABs i ε)|A7e=>br SR F H ε (se ζ)|A7f=>DF ε [L8,kP] ζ|A7g=>∀j,f j=a j+g j|A7h=>YO QF tf|A7i=>VQ Ω (.pu Ahc)|A7j=>VS r AwV|BoU=>Aeg (AK3 _)|A7k=>fj X AIU (El AG ε)|A7l=>(List.range' ε n).map|A7m=>KI p _ hk|A7n=>Ä (VV Af6)|A7o=>(jk hs x)|A7p=>BnS (zS hi')|A7q=>xi e s'|A7r=>X2 (ε .BD) (ζ AIg)|A7s=>(∀p∈I_,AwV)|A7t=>(qT t i)|A7u=>AVb ε (C9 (bc*AMH))|A7v=>yq By ε=Ε j|A7w=>(ABz Ahx).pz|A7x=>.AX x _|A7y=>lt i j=Μ|A7z=>d4 (pI qs)|A7_=>Agl dx a|A7'=>(AOJ AZ DM)|A8G=>wD lt is|A8H=>AeJ ε A9 h'|A8I=>BnZ eK ε|A8J=>Bna Bms|A8K=>Qc (VP a b) ?_ ?_|A8L=>QI X F0 H0 tg e (ε te)|A8M=>oR AU8 bd=Μ|A8N=>(.ABa elts x1 Ψ)|A8O=>jF AH k=Ε ε|A8P=>by show U_ (zlu rs hns)|A8Q=>Ahg MX MX ε|A8R=>HI Ξ r ACj 0|A8S=>Ah7 ts as|A8T=>(JD HR X.w q ns)|A8U=>fun Γ P _=>ε (mF Γ) (fun ζ _=>η/\P θ Γ) jO|A8V=>by rw[Ae7,Ae7] at nd|A8W=>Bne Bms|A8X=>(ATs s2).up
|A8Y=>(by
 rintro(⟨ε,ζ,η⟩ | θ)
 ·exact⟨ι,ν,ξ⟩
 ·exact⟨ο,π,ρ⟩)
|A8Z=>AxV (Axo (dP ε))|A8a=>iu ks ε k=Ε d|A8b=>DX A9 x dx C mA|A8c=>∀(s:AC) (ε:AJ),ζ|A8d=>BIM ε (N0 e) ζ η θ (C5 e)|A8e=>Axe (AwN ε)=Ε _|A8f=>Bnj cps.toList|A8g=>ε r (BHW hr)|A8h=>(fY ns ε).SA|A8i=>(k,x)::pN f v r|A8j=>by show GU (os' =s.os) hm.os|A8k=>by show FX h1 h2 ASt ε|BoV=>mq X (AS8 op) r|A8l=>k9 F' H' B4|A8m=>cP (aj Ap (GS ε ζ))|A8n=>tG qs r v|A8o=>Ò AS7 ε j (tC ζ)|A8p=>⟨Aud,H2,e1,e2,ε⟩|A8q=>W.InstAt h x o C ε|A8r=>(zH1 t1 ε l1).į|A8s=>by obtain⟨o,AH,e1,e2⟩:=ADj|A8t=>ε t es (Aur k) x|BoW=>Bt.k (k:=ε) ζ (by show AWR EK;exact η)|A8u=>(AUA ALt AxM ds)|A8v=>(yW Ξ w ε).num|A8w=>Bnz BnQ|A8x=>∀i,i∈ms↔i∈ε|A8y=>(zL Φ (pw 4000 Φ))|A8z=>by obtain⟨o,e1,a,vs,Β,h1,h2,h3,r⟩:=AIK|A8_=>(Bn3 Id)|A8'=>(Sb sy i j Y6 hv2 hd2 En)|A9G=>Bn5 L.thaw|A9H=>.BD ⟨ε,Avw,fun DI H' p' =>⟨ζ,Υ,Β,A_,p'⟩,Ah8⟩|A9I=>Bn8 FU|BoX=>AN1 C (BIY nm qn C N bs bm PM sn B_ ab col dd k0 k1 k2 k3 k5 ε)|A9J=>_Hd.cB pg|BoY=>(Œ,Ahy AIm)|A9K=>ů/\AxF|A9L=>lB ks AWd=AE/\E (BY ABL)|A9M=>AUo ALS\/ε|A9N=>W.funFrames_hide (as:=ε)|A9O=>by have Ni:=AT_|A9P=>∃u,SE e=Ε u|A9Q=>Ņ<60|BoZ=>by simp only [ε,Ae6,ALw]|A9R=>by wp_walk using BnM,BnN|A9S=>HE % 2|A9T=>by dsimp only at e1 e2|A9U=>by obtain⟨_,_,_,_,_,Β⟩:=Uh hl|A9V=>seqIndex_of h0 ε|A9W=>(zqy ru)|A9X=>(newList [])|A9Y=>(jn (p+1))|A9Z=>(.exc C)|A9a=>A.handled=Ε ED|A9b=>l.most=Ε n|A9c=>env.frame=Ε L|A9d=>(by (repeat (any_goals (first | assumption | wp_step))))|A9e=>⟨vw,hd⟩|A9f=>⟨ε,(mh).at (AC' ζ)⟩|A9g=>by rw[ε] at q;show LZ|A9h=>[UH,xl]|A9i=>[kR,L8]|A9j=>["count",kN]|A9k=>[xp,BH2]|A9l=>(p::AOB)|A9m=>(A2::as)|A9n=>by simp at g1;subst g1;exact ε|A9o=>ņ cX ε (tJ ζ)|A9p=>QY (cr Cl ε) ζ|A9q=>∀H1,kz H1 ->ε|A9r=>(xs++ys)|A9s=>Cb i hi|A9t=>by obtain⟨_,_,_,_,_,_,Β,_⟩:=h;rfl|A9u=>Sz 1000 x|A9v=>W.notCls o=Μ|A9w=>EW FE tv|A9x=>ε Ο s1 σ H1|A9y=>yo Ζ aF|A9z=>D_ bE vs|A9_=>D_ xL i|Boa=>W.specialIn K ε ζ =Ε (D9 (US η))|Bob=>AUO ACr (ALb (BY it))|A9'=>(sF _ _ hq)|A_A=>by show GU (d' =ε) hm.drawn|A_B=>z1v r ht|A_C=>.pu (pZ S)|A_D=>by rw[Ua,Asd];exact ε|A_E=>(ATz _ I _)|A_F=>Q1 (mi (AVw ε) (AVw ζ) e)|A_G=>eI Β h|Boc=>z6 (Aui ε A1 ζ)|Bod=>AUS (AUT ε K0) ζ|A_H=>(AMQ h _ I hw)|Boe=>(by rw[isSubtype_type];kernel_rfl)|A_I=>(mG.mp hr).2|Bof=>Inv.landed (t' :=s'.toks)|A_J=>zrp (x:=s)|A_K=>Ŕ k AuX|A_L=>(fQ X0 P w K mg C3 ź E2 zC f cdv A DD s H ϖ)|A_M=>cf Β z|A_N=>ZD Ξ x m|A_O=>(zW a hb)|A_P=>(Sd a Ex)|A_Q=>PS X st t|A_R=>VO [] (Fs ε)|A_S=>(gN _ (v= ADi))|A_T=>Gr F H (gI (AhQ Q3 ε)) ζ|Bog=>min v.toNat n|A_U=>(RH AOD uj)|A_V=>KI dx _ ed|A_W=>AWz\/ε≠Η|A_X=>(je g t)|A_Y=>ACc ks k|A_Z=>(À AHm lh)|Boh=>(VZ AfI e2)|A_a=>(Ĥ j bP)|A_b=>(rP S x)|Boi=>.dic (jQ ks ε) (Awh ks ζ)|Boj=>(l5 (k a ha).2)|Bok=>by rw[List.contains_cons,ε,Bool.or_true]|A_c=>by show HK;subst r;rfl|A_d=>(y,k)::r|A_e=>Sz 4000 (ε w)|A_f=>ZE (by(cases (hr)))|A_g=>AwN ε=Cl+ζ|A_h=>AUu ε (Ot (AHZ (.bl (O0 (ζ)))))|A_j=>cy D tn t ε|A_l=>QI X F0 H0 AiF ε ζ|A_m=>ib (BlB d)|A_o=>by rw[z,ε] at q;show LZ|A_p=>(ha Ο s1 σ H1 _ I1 q)|A_q=>AR ->yo (ε) XV|A_r=>{s with drawn:=d}|A_s=>W0 (H x)|A_t=>ε (AuQ kX ?_)|A_u=>[L8,xk,ķ]
|A_v=>["start",kR,ķ]|A_w=>(old b o eb)|Bol=>by obtain⟨AW,rv,pl,hz⟩:=I1.list hq|A_x=>(Ĵ 15).SA 7|A_y=>vK b1 a2|A_z=>fun C' O9 H' =>ε
|A_0=>by
 by_cases q:ε
 ·rw[ζ] at hp⊢;exact hp
 ·rw[η] at hp⊢;exact hp
|A_3=>fs.Pairwise (zI b Bnm)|A_4=>by obtain⟨t,hx⟩:=sg Vr|A_5=>fun i h1 h2=>ε|A_6=>∀(n:Δ)(f:Á),_|A_7=>fun D σ H=>ε|A_8=>(AvH a).take|A_9=>⟨ns,Β,hl,ε⟩|A__=>AgL (E_ (b∈ ([]:CH)) ε)|A_'=>HI s h (ε* é) ζ|A'A=>(gc z yU _)|Bom=>ATC (cq ε #[CF])|A'B=>ci (¬ce) H1 H|A'C=>∀(Ξ:B7)(ws:Ρ),_|A'D=>Jr K F Hx ε ds|A'E=>fun a F0 hA=>(IU (bM  ε))|A'F=>AIt (HI l a ε ζ)|A'G=>BjL g1 g3|A'H=>∀(Ο:d8) (s:AC) (σ:St) (H:Hp) (Q:ε),AV ->è ->ζ|A'I=>fun ys hy=>(CL (ε hy hq) hx)|A'J=>AN3 (AOQ ε Φ)|A'K=>by subst h;simp [aL]|A'L=>nu n d d'|A'M=>AOF H1 s1|A'N=>(z8 _ (z9 _ Β))|Bon=>(sIx XG 0 lo)|A'O=>fun Γ P E=>ta Γ (fun d B4 =>ε) E|Bop=>newExc Aw' []|A'P=>AeJ ε h1 h2|A'Q=>by refine ε;rw[he2];refine Atr ?_|A'R=>H' A2=Ε cn|A'S=>⟨s,hs,e⟩|A'T=>⟨r,hr,e⟩|A'U=>B0 (Vn Β Β jl ε)|A'V=>∀(h:AM)(H:Hp),_|A'W=>tb B4 P E|A'X=>by unfold eF;rw[ih];grind|A'Y=>AWi AgZ Md ε|A'Z=>(hi - lo).eQ|A'a=>ne b _ q AOW|A'b=>k b o (FI (hc (LG z))) e|A'c=>∀{Ξ:B7}{ms:N1},_|A'd=>AWt (Bnu LR)|A'e=>Aei hos hds (x:=ε)|A'f=>AWy ε B5 AZ|A'g=>∀(C:Ζ)(f:Κ)(i:Δ),_|A'h=>AhL (nu n x y)|A'i=>bt.lead (N:=16)|A'j=>At1 vl lo|A'k=>At1 vu hi|Boq=>(pw 4000 Φ)|A'l=>n.fmod 3=1|A'm=>(qD (x h))|Bor=>D7 (D_ bE vs)|A'n=>fun b ob q _=>ε|A'o=>Ahf ε ζ Ap AS|A'p=>Awf Ad0 Asp|Bos=>by rw[ABY hiσ] at e2|A'q=>∀{Ξ:HV}{ws:DE},_|A'r=>No (At5 _) (BrH ε ?_)|A's=>UA (VP a b)|A't=>(hm b _ q (Au z))|A'u=>Te X H0 pl hs tt|A'v=>Zi X H0 n hs tt|A'w=>sR c ds (ε*VM ds) cs|A'x=>pQ Γ σ j a|A'y=>AiH Q Q|A'z=>(σ[j]?).join|A'0=>fun w hw q=>ε|A'1=>(a.free c ob q n hx)|Bot=>(CD Q3 Η ε)=Ε o|A'2=>C9 (D_ x5 HA)|A'3=>EQ (BHT b ε)|A'4=>R'.sl 0 _ e0|A'5=>[UH,IN,OB]|Bou=>KW r hr Β|A'6=>Pc (Χ (Co=h))|A'7=>sL k R1 s1|Bov=>E Ω (.pay C [fl] [tr])|A'8=>(setAttr h_ EB v)|A'9=>by obtain⟨qs,Β,ε,ζ,h⟩:=h|A'_=>AxH (AWw t #[])|BAI=>AxJ aC (ε (l:=l))|BAJ=>e=x\/Agl e x|BAK=>ϑ ε Ap AS CA|BAM=>(yA ⟨xe,AxG⟩)|BAO=>(kS hl1 AL8 D.l1z)|BAQ=>ANu (FM (Q BH)) Q|BAS=>∀{hs:Ρ}{h:Κ},_|Bow=>Gr F' H' F5 H5|BAV=>AxN (dD (tb i j)<=ε)|BAW=>⟨v,H,I,r,h⟩|BAY=>by obtain⟨o,e3,w,Β,nd,hn,r⟩:=AgM e2|BAZ=>by show dQ ε;show F6 c Β q1 q1|BAa=>by show Axn;exact⟨o,e,AwD⟩|BAb=>ADm (specialOf _ _) BrV hT2 ε|BAc=>ε f t v bs (MO (k b (zP _ hb))) h1|BAd=>Bm6 p (aw p)|BAe=>fU HR X.w O_ H s ε e s'|BAf=>∀k v,Ag8 ->kf v=k|BAg=>ε f ts us cs (MO (k b (zQ _ hb))) h2|BAh=>BHv (M:=AS5 CY w)|BAi=>by obtain⟨hb,q'⟩:=no b _ q AIu|BAj=>fun r hr j=>ε|BAk=>BnI x (ε o ho)|BAl=>L.back R' s'|Box=>oh (ε Β) (Sf BO ?_)|BAm=>(ABw AWT).į|BAn=>AxI (AVW ε (.seq OF n) ζ)/\NY PD η/\AxR θ ι|BAo=>gJ (AS2 f)|BAp=>(.dik ks (jg ts))|Boy=>ys[k2]?=Η|Boz=>W.codeIn K cdv E2=Μ|BAq=>Cj l r x|BAr=>NA qs BI (∀q∈qs,ε) ζ|BAs=>by show RE hl hb h|BAt=>(gI (gE (S b) H2 (H' b)))|BAu=>Ò xn e f ε|BAv=>rk S bs i|BAw=>∀(Ξ:HV)(w:α),_|BAx=>KF (x5 mI) AW|BAy=>ſ (Sj k) (sj h)|BAz=>ϐ ((ε q hq).up Φ)|Bo0=>AIS eA (US eA)|BA_=>fw (seqEpoch_at (n:=ea)) ε Β|BA'=>ADs (qA Ų (ε::us))|BBG=>(vals.map kf).ei ks|Bo1=>[.QP d1,.QP d2]|BBH=>(k a zY).o|BBJ=>PP (EV qD) ε (D9 ζ)|BBK=>ADG (ϙ ho) u hz2|Bo2=>AfW e0 e1 (E_ (gV (AB_ ε (.ob C fs ts)) YV ζ) η)|BBL=>Bnc he h1|BBM=>∀(f:Κ)(v:V),_
|BBN=>(h u _ ACx ru)|Bo3=>∀{np HC Ψ:AN},_|BBP=>∀(Bnf)(ha:Sz m a)(hb:Sz n b),_|BBQ=>AxO (AOZ (fun ds Ω F1 H1 vs R1 s1 r1 h1=>ε))|BBR=>{nx:=tj,rt:=tj,rT:=ε}|BBS=>∃f fd,AWr ε/\AVY MD/\AWv/\ADe|BBT=>BsJ hT ε (ANk ζ hT η θ)|BBV=>cY 2 ε (O8 (GS Ap ζ)) Ah_|BBW=>ε.2.1 x c e Β|Bo4=>m4 Ξ B7 U Ρ ε|BBX=>Ats s fd (GY [u]) [(x,u)]|BBZ=>AOb tv y (Ï ta x ε)|BBa=>fun a ha b hb n e=>ε|Bo5=>fun D Γ _=>tb D Γ fun Ω Cv=>ε|BBb=>by obtain⟨h',g',d',tk',os'⟩:=s'|BBc=>Bn4 (by rw[Aew hd];simp [aw])|BBd=>ε=operate ζ (ATP η θ)|BBe=>(match t with | AE=>ε | Μ=>ζ)|BBf=>by obtain⟨go,yl⟩:=hgo ds[i] (zZ ε)|BBg=>fun σ H=>(BmV (I Db BF))|BBh=>ε[AfH AfJ ζ]?|BBi=>∃AW:At,AOP/\ε/\ϓ|BBj=>by obtain⟨v5,e5,_⟩:=Nh kv e3|BBk=>∀{xs ys:AR},ε|BBl=>by rw[ε,H_,H_,<- tP,ζ]|BBm=>(BIy fun a b=>a.1≠b.1)|BBn=>(IB ⟨_,Β,AMA,_,AWj,ur.lookup,?_⟩)|BBo=>(AG4 ź [CF,v1,v2])|BBp=>mX sc ε BE
|BBq=>by
 congr 2
 funext i
 rw[hf,e]
|BBr=>(ABu b0).wsh|Bo6=>(AxU P7 Bm_).P7|BBt=>Š/\SV H0/\AHu b|BBu=>(cB g ta tb)|BBv=>fL (AVL ε ζ Ap Ahd)|Bo7=>BB (AMX DQ h)|BBw=>Q (.AU ε Mc) AWx|Bo8=>by subst z;rw[ε] at mu;exact mu|BBx=>[kR,L8,"rests"]|BBy=>[xp,BH2,Bq3]|BBz=>(hμ r hr).2|BB_=>.BD ⟨_,_,ε,Β,Β,Β,Β,ζ⟩|Bo9=>(zo7 aQ Qb Β (IY L2))|BB'=>⟨ε,H1,I1,Β,q1⟩|BCG=>by show GU (g' =Asf) hm.gens|BCH=>cE (ALd (M9 w))|BCI=>{s with heap:=ε,drawn:=d}|BCK=>⟨l,us,Β,AWA,ε⟩|BCL=>g ε σ H (AVd (tb (AVi Avw Avw) σ2 H2))|BCM=>.AY ε (iO ζ Eg)|BCN=>LX hQ R'.gr JS q|BCO=>(Bqp tg ANe u)|BCP=>∃xs x,ε/\Ţ|BCQ=>∃ks xs,AxT/\ε|BCR=>(ps++ [(ANr,H)]).map|BCS=>ŕ (hdS a) (hdS b)|BCT=>ci (b∉ε) F' F|BCU=>ACV ydo qW boot_abs|BCV=>RA (yS Ξ x' Co)|BCW=>(AUW Cl s H fp)|BCX=>ALB fun m=>(C9 (jt qs m))|BCY=>x6 AII p AhI ε|BCZ=>by have ev:=JQ ε;subst ev;refine ζ|BCa=>(ka AH k v)|BCb=>BA y (Nn y EB AIi ε)|BCc=>by rw[AfV,EK,AMD]|BCd=>zms hq' Β ε kp|BCe=>⟨Fh,_,e,hrv,ε⟩|BCf=>⟨ε,_,c,hv,CL BsU hg⟩|BCg=>AHs (setAttr ED f u)|BCh=>mT MU (C9 m*1)|BCi=>AUv (∃F0 H0,ε K F0 H0 t jO σ H Q)|BCj=>fq Ady c.fZ/\kJ K c.fZ|BCk=>fq Asn ABL/\kJ K ABL|BCl=>FK (F i (as i))|BCm=>(cZ Γ σ H)|BCn=>by show à ok ov st|BCo=>AM9 (.ε ks' ys) (Χ (ks=ks')&&ϛ)|Bo_=>Un (frs DD) [] H ε A9 ζ|BCp=>(kI h1 AL8 D.i1z)|BCq=>by rw[q] at h;show HK;rw[ε r q];rfl|Bo'=>Gr F0 H0 F' H|BCr=>sR d es (ε*h es) cs|BCs=>by show Ct v hv rv Nh kv hw|BCt=>kO F0 F b|BCu=>AgR Bnn Cl AhR ε|BCv=>ε hA ds r n.2 h2|BCw=>k a zY _ (ε f g AUy h)|BCx=>∀{P:A0}{w:An}{K:AA}{elts:C7}{x1}{Ψ:AN},_|BCy=>aC m (f a)|BCz=>B0 (Jj Β  ε  (B0 (DG Β (pH (AvU ζ) (Agg η θ))))  ι)|BC_=>(AB_ AxZ (X2 ANZ Bnb))|BC'=>by show BU u hu ru (Axm (mA f)) (AxC l r f)|BDG=>B0 (zpa Β Β bO (IY ε))|BDH=>by rw[ub,n] at e;show Do|BDI=>ADG (h F1 H1 z jO Agx Ο s σ H1 Bn7 I1 ⟨F1,mF Γ,_,L.R,ε,ζ⟩) u η|BDJ=>∀{K:AA}{h:AM}{C:Ζ},_|BDK=>AW1 ds AR MV ε|BDL=>by obtain⟨od,J,hl⟩:=I.look|BDM=>lU (zL (JY ε) Φ)|BDN=>ä _ R1 s1 JS ε|BDO=>⟨_,_,_,_,Β⟩|BDP=>Ahm (hg m hm).ε|BDQ=>Aho (TK ε) h hh ζ|BDR=>Sq t1 K H a xs|BDS=>Sq t2 K H b ys|BDT=>∀{H:Hp}{a b:Ζ},_|BDU=>Ah3 (∃vs,AVv/\h.DictOf ϔ a vs)|BpA=>Bmv (P r BF) Cx (E BF Cx)|BDV=>⟨(hs.2 DJ ε).Ff e,n,ne,nf,d⟩|BDW=>(∀a F,J6 pl F a ->pR AgQ F H0 AH7 th)|BDX=>∃q,Fr SE q|BDY=>by show AWY n e pl;show dC|BDZ=>by show AV2 b h;exact EL _ e|BDa=>⟨a,vs,h0,?_,ε⟩|BDb=>(relabel sc BE).BIv|BDc=>(hA _ _ h1).BtJ fun(E6 z)=>ε|BDd=>(Cp ws v bs).map|BpB=>cK ta d (UV d (.exc C0) ((ε)/\HZ ζ))|BDe=>fq xD NL/\fN DR NL|BDf=>AHs (Aea ED f b)|BDg=>Í ka AH k v|BDh=>∀x y c,ε ->ζ ->x=y|BDi=>∀k,k<n ->∀j,(ε k j).ACH<=ζ|BDj=>∀d v F' H',tw ->ε ->ζ ->ϋ|BDk=>by simp at g1 g2;subst g1 g2;show AhO|BDl=>sR x es (g x (c::d::es)) E5|BDm=>(fore T_ topGo p w os)|BDn=>∀u s',ANh ->OX ->Q u s'|BDo=>(by rcases ε with z | ⟨z1,z2,z3⟩)|BDp=>(Aun t2 es1 Ah2)|BDq=>∀(q:AL)(l:BI),_|BpC=>U4 AG L7 v H1|BDr=>Ctx X F0 H0 E|BDs=>fun i s o a e=>ε|BDt=>lL (zpc (De yka) Β wU boot_int) ε|BDu=>by show AWW bs e (zE.mp h)|BDv=>∀b xs,sd Y1 ->AV3 Y1|BDw=>AWp Axj (BnF ho (∃F1 Ω d,AVN/\ű/\EJ AG F1 d v/\ ε) I ζ) η ht|BDx=>∃i j,x= GG/\y= AIE/\C i j/\ε
|BDy=>by obtain⟨DI,H',I2,q⟩:=q';exact EC I2 I2.len (AOY ⟨_,_,I3,q⟩)|BDz=>Axi (kk d Ω F' H' v AIa AhA rv hp)|BD_=>zy c Ξ r g ps bd t ws v bs|BD'=>(Aw9 GG (AiC ALv) BH)|BEG=>by obtain⟨xs,hq,hx⟩:=hg|BEJ=>by obtain⟨n1,n2,n3⟩:=nd|BEK=>ε++ (CD (B6=w) ζ [])|BEM=>∃(AW:At) (n:Δ),ε|BEO=>∀C K_ SG fp,ε|BEQ=>by rename_i dd cd sl ho|BER=>yca ndk hq hu'|BES=>by rw[ε] at A6⊢;refine At6 (SI A6 ζ AxY)|BEU=>Itz K t1 t2 a|BEV=>⟨AhT,Sy,.seq ε dn,SJ⟩|BpD=>ε _ _ e' (n1 b n hb)|BEW=>∀σ H,Pv ε σ H ->AgS|BEY=>Br (ŀ k Ô) ε|BEZ=>OS (ε ζ (As h2 e2 sb))|BEa=>Dw AG F' H1 H' C' O9 x|BEb=>∃cs t',IS Γ 0 (.tr AV_ t')/\ε|BEc=>∀{rs:FB} {cs:DA},ε ->ζ|BEd=>∀j,ZB M (r j)|BEe=>fw wpAny_lookBehind hoD (gc hdD pastItsLine_dict (zO hcD ε))|BEf=>pG r g ε=Ε f|BEg=>⟨ε,md,IP,ζ,md,AhU,?_⟩|BpE=>(l5 (Axg (AIL ha) (hn a ha).2 (hn a ha).2))|BEh=>∀(V_)(tg e:AK)(uk),_|BpF=>∀r,r∈Ξ↔r∈uY|BEi=>B6=w/\Co=h|BEj=>PassesOwn k7 X.A BE xi|BEk=>Sq t AG H a ε|BEl=>vH knd kf led ε a ζ|BpG=>AU4 (revObj l (AWb - 1)) ε|BEm=>(No (Brr _ _) (BJD (a:=eC) (by first | rfl | (simp only [Brr];rfl)) ?_))|BEn=>BJL (T:= BJC) (b:=Μ)|BEo=>ε f ts vs bs (MO (k b (zW _ (zW _ hb)))) h|BEp=>Da z2h cx.po hc ε (OO hg)|BEr=>∀{Ξ:HV}{x x' :Pp},_|BEs=>[kM,Atm,SB,xk,XE]|BEt=>by obtain⟨I,i0,UE,KM⟩:=h1|BEu=>Bmv (rJ r/\P r Γ) x (Ho x/\Agp)|BEv=>fun a ha b hb e=>ε|BEw=>by show Aw6 h1 h1 h1 h1|BEx=>⟨F1,Ω,R1,sf,i0⟩|BEy=>by show VI oj g1 g2 g3 ABy|BEz=>fun p hp=>eI (E_ (p∈ ([]:d8)) hp) A1|BE_=>(Agw (∃x F',E Ω x/\Gr F1 H1 F' H' /\Ags H1))|BE'=>∀{tb:TS}{D:kH}{σ:St}{H:Hp},_|BFG=>YX ε fun i x u e1 e2=> ?_|BFH=>(f Ahw (mI j u))|BFI=>(Z sh (iY (AGj i) Ahu) ms x)|BFJ=>ő (zv3 Β Β ε.1 ζ.2) (IY Bp)|BFK=>by obtain⟨b,_,_,Β,e,_⟩:=h;cases (e);rfl|BFL=>∀(x:D3)(L:Ρ)(f:ANS),_|BFM=>fun ds Q E=>∃S ε T0 ks ys,ds= [ζ,Aw_]/\AxK Ħ/\ η|BFN=>k _ Ω F1 _ l2 _ R3 s1 q1 q2 q3 (ε ms) ap (h1 ms ζ η)|BFO=>∃i j,x= GG/\y= AIE/\ε|BFP=>∀(i:Δ) s o a,FG ε s ->¬Ϙ|BFQ=>∀f,n8 (As0 f) (mA f)|BFR=>fun u' s2 I2 ru=>⟨v,H1,I2,ru,q⟩|BFS=>by obtain⟨⟨k,u⟩,hw⟩:∃p,FG ws p:=⟨VY,DL hx⟩|BFT=>s.heap.IsSliceOf sl vl vu BM|BFU=>(I.ok.cab x c hfn hc)|BFV=>(BII lo hi Η n)|BFW=>(.Slice lo hi Η p2)|BFX=>ε a _ o AH ep ⟨es,h3⟩|BFY=>∀{ta:TA}{p Ψ:AN},_|BFZ=>fA (AUJ â) rs j|BFa=>Cds (Km Kk) m x|BFb=>MM ch (Bno/\AVm/\ (ADv b)/\Ahz b)|BFc=>(fQ CX P w K mg C3 N E2 Kt f cdv A DD s H E)|BFd=>∀(K:AA)(F H:Hp),_|BpH=>zo5 (s:=s) (v:= ε) I (Q1 (kp b o (FI ?_) gu)) ζ (k _ _ F H (ef sF) JS h)|BFe=>(zvj (B:=ε) (Cb w ζ)).ń (AUF _ W.1)|BpI=>entryFor_alias (id' := ε) Bmr Β Su Bmr|BFf=>∀(a:Ζ)(o:Obj)(AH:mS),_|BpJ=>(ANJ (r= .ok (.ret AWn)/\OldK ABl am/\s'.os=s₁.os/\AIs))|BFg=>(E_ (gV (Slot.ow ds) YV a) Β)|BFh=>by obtain⟨t,q⟩:=(E_ (ACu ε) rx);show LZ;exact nN ζ ALp
|BpK=>(by
 rcases AhS with Β | z
 ·exact eI (zG e) (yU _)
 ·show AIf)
|BFi=>∀(t:T) (v:V) (as:CH),(AMt ε) ->AIe ->ζ|BFj=>∀(ts:ID) (vs:AQ) (as:CH),(AMt ε) ->ADd ->ζ|BFk=>∀(AiI) (hd2:ã y:=by decide) (En:AN9 y:=by decide),_|BFl=>∀Γ F' H σ,AxA ->Go ->ε Γ ->ζ|BFm=>by obtain⟨e,n,ne,nf,d⟩:=ABX p hp|BFn=>I.step (g' :=Asf) (d' :=ALA) (ch:= ε)|BFo=>M2 X o ε LS e f HC|BpL=>sU (Sb UJ te (AUv ε) ?_ hsw) ?_|BFp=>p_ i j t t' s _ _ ε|BFq=>fun b ob eb=>BX b ob (ε b ob eb)|BpM=>y s h - dg (k s) (y s)|BpN=>(by rcases ε with ⟨_,z⟩ | ⟨_,z⟩ | ⟨_,z⟩ | ⟨_,_,_,z,_⟩ | ⟨_,z⟩<;>(first|subst z|show AHG|show AHI|show AHK|show AHJ|show AHM|show AHL|show AHN|show AHO|show ON z|show OL z|show NX z|show OM z|cases (z)))|BFr=>(by rcases hc with Β | Β | Β | Β | Β)|BFs=>∀{H:Hp}{AH:ADl}{xs:AW0},_|BFt=>by show Ct hT hN hsm Xv I1 (HG ⟨AH,ε⟩)|BFu=>GV (Gy (K w) (V w))|BpO=>fun Γ5 F5 H5 σ5 R5 s5 q=>ε|BpP=>∀(hex:ADq)(hst:AOc)(hfr:AIx),_|BpQ=>fun j y v' e1 e2 e3=> ?_|BFv=>fun d v F' H' gr r h=>ε|BFw=>[L8,kP,ABh,ķ,"rests","steps"]|BFx=>by show uC e n ne nf d (ABX p hp) ε|BFy=>∀(d:D) (v:V),ε ->TC ->nK|BFz=>∀(ds:AR) (vs:AQ),ε ->MV ->AIc|BF_=>by obtain⟨v,vs',a1,a2,Β,Β,q1,q2⟩:=h|BF'=>Walks.list (toI (ATA hc)) Cl p (zK Vi) SD|BGA=>(cY n Fk ti g tc te)|BGB=>fun Γ F1 H σ R s1 h=>ε Γ F1 H σ R (s.trans s1) h|BGC=>v8 ds g tb D0 E Ω|BGD=>fun d B4 F' H' v R' s' r ε=> ?_|BpR=>∃as ws ps x y z,Qh (xL ε) ws ps/\Γ= [tS,AC_ AxS,x,y,z]|BGE=>∀{F' H' :Hp} {t' :T} {ε:CH},Go ->ζ ->AIZ t' v η ->θ|BGF=>CE DD P w H s Q u s'|BGG=>fun B4 F' H' DI R' s h=>LX ε (R'.drop i Η) (TL sZ.f.trans s3 s) h|BpS=>bt.small (N:=16) ba Θ h1 hi|BGH=>∀(a it:Ζ)(o:Obj)(AH:mS)(ep:Δ)(LC:Bny),_|BGI=>fun Γ F' H' σ R s h=>ε Γ F' H' σ BnX s h
|BGJ=>∀(hc:Ó)(hn:hG)(hi:IG)(hv:OY)(hd:HH:=by decide)(hcd:AHh:=by decide)
 (hb:ANc AVA f AVA AVA:=by rfl),_
|BGK=>(fnOf x E2 AIo m_ zC BM BM BM BM Η BM BM)|BGL=>∀(P:A0) (w:An) (K:AA) (mg:EN),_|BpT=>fun l h' is e hle a1 a2 ε BX=> ?_|BpU=>fun v u s2 x y H2 I2 rx ry q=>ε|BGM=>⟨CF,eσ,a,oe,dx,_,v,Β,R.g _ _ ea,eo,R.g _ _ ed,lv,ε⟩|BGN=>b_ (fun ds Ω F1 H1 a vs R1 s1 e1 e2 e3 r1 ap h1=>ε)|BGO=>∀(bC:A4 zca)(m9:A4 zu4)(bO:AIj)(bx:mP)(aq:me)(bG:AIn)(bR:Ŗ ad)(bW:Ŗ ae)(bK:BnP)(aP:BnO)(bN:Ŗ OB)(aM:Aha)(aH:AxE)(aN:Ah4),_|BpV=>fun ys F' H' vs R' sF a1 a2 a3 rs ap hp=>ε|BGP=>∀(i j:AB) (t u:Tok) (s:AC) (Q:dW) (E:dW),ε|BGQ=>h F1 H z jO Agx Ο s σ H Q I ε|BGR=>∀(rR:A4 z1t)(lG:A4 zpz)(gP:A4 zlc)(bw:RS)(jm:AiE)(lH:Bnr),_|BGS=>∀(fP:A4 zgz)(jx:A4 zmr)(gR:A4 zkj)(bQ:AhV)(aQ:A4 WM)(bT:A4 zcq)(fO:A4 zh4)(aO:A4 Ui)(bx:mP)(aq:me),_|BGT=>by intro FE kU Ο s σ H x y v u Q I rx ry h hs|BGU=>by show AD q' q' q' q' q' q' q' q' q' q' q' q' q' q'|BGV=>by show AD rr rr rr rr rr rr rr rr rr rr rr rr rr rr|BGW=>by show fT hs hs hs hs hs hs hs hs hs hs hs hs hs hs|BpW=>sq q q q q q q q q q q q q q q|BGX=>by obtain⟨o,eσ,a,oe,dx,vs,Β,ea,eo,ed,el,nd,hn,rt⟩:=AIK|BGY=>by show Lc q hi hi hi hi hi hi hi hi hi hi hi hi hi hi hi|BGZ=>by show Lc (LU _ _ q) n1 n1 n1 n1 n1 n1 n1 n1 n1 n1 n1 n1 n1 n1 n1|BGa=>[AeV,ALi,ALh,BHp,AeW,"_law_lists",xp,"_law_hand",AGm,BH2,"_law_good",Ato,"_law_counts","_law_paper","e",Bq3]|BpX=>BJl ε|BpY=>ε E3|BpZ=>@W.check_slot|Bpa=>if ε then P [.AU e] else ζ|Bpb=>by rw[BG6,ε,ζ]|Bpc=>by unfold Builtin.«sorted»|Bpd=>ε<=Cl|Bpe=>ε<E3|Bpf=>eval_ListComp ..|Bpg=>BtO ..|Bph=>BKB ..|Bpi=>by simp only [ε,ATq]|Bpj=>by simp only [C8]|Bpk=>(by rcases zpn hc with ε | ⟨_,_,_,ζ,_⟩ | ⟨_,_,_,η,_⟩)|Bpl=>by apply Brn|BKN=>BH6 ε|BKO=>Nat.pos_of_ne_zero ε|BKP=>BqX ε|BKQ=>ATE ε ζ η|BKR=>by split<;>decide|BKS=>by rw[<- hs3]|BKT=>ε E3=Ε ζ|BKU=>(by assumption)|BKV=>[UF]|BKW=>AG8+1|BKX=>BJu+1|BKY=>jp+1|BKZ=>C9 LP|BKa=>Rat.mul_inv_cancel _ ε|BKb=>(GM ns.sum)|BKc=>ATv h|BKd=>AGQ h|BKe=>Nat.min_eq_left h|BKf=>(De IP)|BKg=>(jp+1)|BKh=>BB HE|BKi=>BB AsW|BKj=>(ε (b,o) (zQ _ (zQ _ (zjc hb e)))).2.1|BKk=>M1 W.CFound|BKl=>i<Au7|BKm=>yB z|BKn=>Brc z|BKo=>BsD _ ε|BKp=>(AK3 _)|BKq=>(ATx _)|BKr=>(ItemsOf.nil _)|BKs=>AGx _ ε ζ|BKt=>D7 IO|BKu=>Int.natCast_nonneg _|BKv=>Atk≠0|BKw=>(rV Ady)|BKx=>(KS _ IM)|BKy=>LA ATc|BKz=>Na ai|BK0=>Na ALN|BK1=>P_ hl|BK2=>C6 BsK|BK3=>(Nc Ac3)|BK4=>CL C8 ε|BK5=>(US Asq)|BK6=>BqW hb|BK7=>by show D5 pr|BK8=>EM C8 ε|BK9=>(by show Pf;show AF)|BK_=>wpAny_Try_except ?_|BK'=>(AUP Ady)|BLB=>ALS x|BLC=>by ·exact AfX ε|BLD=>by rw[FS] at e|BLE=>Int.mul_nonpos_of_nonneg_of_nonpos ε h|BLF=>al Θ|BLG=>P_ Θ|BLH=>List.set_eq_of_length_le Θ|BLI=>Int.natAbs_of_nonneg Θ|BLJ=>Au7<=i|BLK=>IC ε C8|BLL=>HZ ATV|BLM=>(BtM ε).2|BLN=>OR IR|BLO=>OR AeI|BLP=>BHw q|BLQ=>BtR q|BLR=>IntMulOk i j|BLS=>((Ai9).map .BD)|BLT=>al e|BLU=>BIQ e|BLV=>Except.error e|BLW=>Q4 pf|BLX=>ATO hq|BLY=>subscriptTail_builtinR (x:=ε)|BLZ=>Bp7 r|BLa=>lP AeR|BLb=>YE ALW|BLc=>YE UP|BLd=>YE BqI|BLe=>Gl X pf|BLf=>(VT (AzO i))|BLg=>by rwa [yY] at Τ|BLh=>i<=BJj|BLi=>(LX hb ?_)|BLj=>(VV (AVQ u))|BLk=>Asb ε Θ|BLl=>((De 0)::rs)|BLm=>(eg .AU)
|BLn=>ALQ<=1000|BLo=>jp<=1000|BLp=>(DS++x::E5)|BLq=>dF k Aeo|BLr=>(lj I.ok.IV)|BLs=>P_ Β|BLt=>c8 BsO ε|BLu=>ε (AK2 _ ζ)|BLv=>d.params.defaults= []|BLw=>by rw[ε,C8,ζ]|BLx=>(Cl+2)|BLy=>Y3 By|BLz=>fN BGp C|BL0=>fN BGr C|BL1=>İ am|BL2=>İ s₂.heap|BL3=>P_ h2|BL4=>(sc.names.map (·.1)).OC|BL5=>by show ŧ AMF|BL6=>(BGj p)|BL7=>ABY hi|BL8=>ATt hi|BL9=>(Ae0 gr)|BL_=>(tJ ALD)|BL'=>(tJ ALE)|BMA=>(tJ ALG)|BMB=>AHr SD|BMC=>AvW BJu|BMD=>(Au3 ..)|BME=>tT AL4|BMF=>[IN,K2]|BMG=>Bra h'|BMH=>NS=LP|BMI=>a≠W'|BMJ=>(f j).den_pos|BMK=>AMw "items"|BML=>AtA Asf|BMM=>uS List.mem_singleton.mpr ε|BMN=>ACw AeI|BMO=>k9 F1 (k_ q ε) Ω|BMP=>AeL hj|BMQ=>Ad' (n:=ε)|BMR=>Atx y=Ε ε|BMS=>jh K d5|BMT=>(AH9 OB)|BMU=>(AH9 Ad1)|BMV=>∃o',NY SE o'|BMW=>Bqt ⟨ε,ζ,η⟩|BMX=>(x,AuV)∈ε|BMY=>Kk<=12|BMZ=>KO<64|BMa=>NS<64|BMb=>AHD<64|BMc=>ϒ BIq ε ζ|BMd=>ADT aI|BMe=>ADU ALl|BMf=>ADU qB|BMg=>ADU AG'|BMh=>gS ε Nat.not_lt_zero _|BMi=>AIL ġ|BMj=>(Â e "items" [])|BMk=>(Â e "clear" [])|BMl=>(AVK (Co∈NP))|BMm=>NS<=40|BMn=>BHN _ q|BMo=>(.AS9 .Or [a] Ψ)|BMp=>ş ALB qD|BMq=>fun _ _ _ _ _ q h=>ε|BMr=>fun h' eb=>(Ic (AxL zvp fp ε I ζ hf))|BMs=>by obtain⟨oc,od,kV,doc,pm,an,cdv,ct,osl,Β,lk,hcd⟩:=F.ex|BMt=>by rw[QQ,ε] at e|BMu=>GT PD o|BMv=>ATJ (t' :=tk) ε ζ (ACW _ _ _ η θ)|BMw=>(yA z).Be|BMx=>ALU n==Ε cz|BMy=>(Ax A5 Fk σ)|BMz=>JB Br5|BM0=>BIb hp|BM1=>Bs9 ⟨ε,ζ⟩|BM2=>By - Db|BM3=>[ATG,kQ]|BM4=>Nat.le_mul_of_pos_right _ Θ|BM5=>BHF _ Θ|BM6=>(GW (PH kV))|BM7=>∀i,i<AHD ->ε|BM8=>Bku ε As9|BM9=>Agh setEpoch ε hg|BM_=>(lj I.ok.bs).1|BM'=>xB[k]|BNA=>AtQ=Ε dx|BNB=>Ag2 qB|BNC=>Ag2 hms.length_eq|BND=>Ag2 AMF|BNE=>D_ AS2 f|BNF=>(UU sG AZ)|BNG=>AWh PyProof.Rows.F.entry_set_update_loop|BNH=>AWh PySem.F.entry_list_iadd|BNI=>z6 (BsT ?_ ε)|BNJ=>(Ð qa 0)|BNK=>(Ð vals.toArray 0)|BNL=>(AwR Cl)|BNM=>AuH AW ns|BNN=>BIy R|BNO=>AW8 kB|BNP=>AhP NS|BNQ=>AhP ACN|BNR=>by show Bni;kernel_rfl|BNS=>by rw[AK1 hi]|BNT=>by rw[List.length_eraseIdx_of_lt hi]|BNU=>(Cl+4)|BNV=>Nw BIR z|BNW=>(U' v (AHr IQ))|BNX=>(OV Ap CA)|BNY=>f_ PD Af0|BNZ=>Ś Me ACp|BNa=>(AXX ĩ)|BNb=>(ts++ [.DC [RR]])|BNc=>(l5 (k a (LG ha)))|BNd=>Ah6 (Ce.tups b ε eb)|BNe=>pF Ξ ws m ε Kk|BNf=>s₁.gens= #[]|BNg=>by rw[AGz,At']|BNh=>by show AOf e ε;show dC|BNi=>⟨vs,ε,fun hz=>k ds Ω F1 H1 _ R1 s1 ζ h1⟩|BNj=>[xl,"head"]|BNk=>BHF _ Φ|BNl=>Int.fdiv_eq_ediv_of_nonneg _ Φ|BNm=>by show A7 AK4;exact ε ζ|BNn=>(kg i Ty)|BNo=>KF ys eP|BNp=>(U' hi (vc Ax'))|BNq=>(AHk cF AZ)|BNr=>∀{K:AA}{F F' :Hp}(e:Go),_|BNs=>(LU b u eb)|BNt=>by show AIQ C8 pr|BNu=>AjC ε Builtin.«dict_keyiterator.__iter__»|BNv=>by have hb:ε:=ALP h;show AhG ζ|BNw=>BJt AGY|BNx=>BJt "object.__getattribute__"|BNy=>hc.keeps KG|BNz=>Aux=NR|BN0=>Aux=FU|BN1=>(BtM z).2|BN2=>(Bsr hi)|BN3=>(ALd mw)|BN4=>PySem.Slot AMA ε ζ|BN5=>by show VX t (E_ (ACu ε) r);subst e;exact ζ|BN6=>(Cl+3)|BN7=>(Axu its.getD)|BN8=>(PySem.F.args_dict_get_3 _ _ _)|BN9=>(rq gP V')|BN_=>(EM z ġ)|BN'=>aJ K P5 Md|BOB=>aJ K P5 Ĩ|BOC=>by ·rw[Au3];exact zK ε|BOD=>(fe uf Ap)|BOE=>by show Pf;simp;show AF|BOF=>by show Pf;have:=ε;show AF|BOG=>(.ob C AVT AyH)|BOH=>(.ob C AVT (ts++ [RR]))
|BOI=>hV (num j+ F9*ε) 26|BOJ=>(IE f).pz|BOK=>Þ (AeY j)|BOL=>Þ (i.fdiv j)|BON=>by obtain⟨AW,r,pl,hz⟩:=kL hq|BOQ=>by obtain⟨AW,r,pl,hz⟩:=ĳ hq|BOR=>(cB cj Ap AS)|BOS=>æ (wpAny_Call_ofName ε) ζ vk|BOU=>(AyL (ycr (i:=1)))|BOV=>Ae2 (BsA ?_)|BOZ=>P6 Prod.fst f|BOa=>P6 BKF f|BOb=>fun y hy=>(Axr hy ε)|BOc=>(z7 (z7 Ax1))|BOd=>AO9 e Me|BOe=>Ahn ATY e'|BOf=>Ahn ATZ e'|BOg=>(AB_ sC (X2 ks ts))|BOh=>(AB_ Axx (X2 ks ts))|BOi=>Ayh IP|BOj=>Ayn į
|BOk=>by
 have e' :ε:=e;split at e'
 ·show AW7
 ·exact ζ e'
|BOl=>fun b o _ _ hc e _=>⟨o.slots,ε⟩|BOm=>(CD AOX (F b) (gE Q3 H Η))|BOn=>(CD AOX (F b) AyT)|BOo=>fun b ob q _ _ _=>ε|BOp=>Ay5 ε (ζ (b,o) (zQ _ (zQ _ (zjc hb e)))).1|BOq=>(Ł g as bs)|BOr=>by exact E6 (E_ (NY Me _) k)|BOs=>by exact E6 (E_ (NY Aez _) k)|BOt=>(zp4 f y fs)|BOu=>HQ (kV k) A6|BOv=>Afd (cnt q l)|BOw=>AvH (cnt q l)|BOx=>(E_ (Bqs a SD) p)|BOy=>(E_ (s1.heap.IsTuple a SD) p)|BOz=>∀(k:Δ) (h:k<By),ε ->ζ|BO0=>∀(k:Δ) (h:k<AfG),ε ->ζ|BO1=>AzY Ad7
|BO2=>by
 refine ε AOM kX (fun w hw=>Xq rx fx r fs w AI3) (AJC ?_)
 rw[AiR (BIK (DY x)=its.any AOM),Xp r fs]
 exact q
|BO3=>PlainAttrs T|BO4=>BqW hf|BO5=>AfA (· <= ·)|BO6=>ATS=Ϡ|BO7=>c<=IR|BO8=>(ATA hh)|BO9=>by have z:=Int.dvd_gcd_mul_iff_dvd_mul.mpr ε|BO_=>ε AGr (P.zip vs) m x=Ε v|BO'=>D1 An AM|BPA=>D1 V AJ|BPB=>Ε (US Asc)|BPC=>Ε ⟨SS "type",_,ε,ζ⟩|BPD=>(HT B5 AZ)|BPE=>(ŀ i AE)|BPF=>P (.nt [.QP (M3 ε),ζ])|BPG=>by rw[AI8 Br'];refine ε|BPI=>(AGR h1).1|BPJ=>(UR DM L2)|BPK=>(a::dx::(ANQ [c]))|BPL=>fN nD NL|BPM=>re ZB.zero _|BPN=>(hte _ _ cx)|BPO=>(EM P.size hm)|BPP=>(UU Ir ò)|BPQ=>MO (by show AEI;exact⟨ε,ζ,η⟩)|BPR=>g5.get? c=Ε o|BPS=>Q_ (cB cR ε ζ) 2147483647|BPT=>by show U_ (AGT ε)|BPU=>fq d.name fa|BPV=>fj X (Nc pd) ε|BPW=>(GW [kV k,v])|BPX=>bZ (ε Ο s2 σ H2 _ I2 q2) (As ζ s3 η)|BPY=>(AUh eB si)|BPZ=>(JJ gq ve 1)|BPa=>(∀q∈l,AON)|BPb=>(EV f).sum|BPc=>by funext j;unfold fA;grind|BPd=>(Ð #[] ea)|BPe=>(Ñ uh Ap)|BPf=>(∀p∈ex,BnW)|BPg=>Af2 (AtK e BE ε) TP|BPh=>s.heap.Ns W' m|BPi=>ð AeP this.symm|BPj=>z6 (AeR (z6 ε))|BPk=>(AVr (AjO AyV))|BPl=>AN2 mw update|BPm=>AJE ED xo|BPn=>Ord lt KO|BPo=>(AOi AS 7919)|BPp=>FR w (by by_cases q:ε<;>simp [q])|BPq=>NB (Aeb gl)|BPr=>AOr ε (Ő h2 Mc)|BPs=>(Õ (MS (na b hb) q))|BPt=>(APN AZ B5)|BPu=>BoN Asv|BPv=>BoO SC|BPw=>(fun p q=>BpW)|BPx=>AiM is.Perm KO|BPy=>Bp' mA (fs.map (·.1))|BPz=>(Se eV AHm lh)|BP0=>kG x c e|BP1=>(EV fun x=>D.bl (f x))|BP2=>Bqq it a i|BP3=>(lc AXL u Q6)|BP4=>KF (kD AHB) vs|BP5=>ϐ (ε q (ASp hq))|BP6=>(num j+ F9*AjI ij)|BP7=>(CD (i=p) _ _)|BP8=>⟨By,DB,MZ,h0⟩|BP9=>ALn OP A (.Asa ε ζ) η s|BP_=>aR 3 (cP (GS AiN ε))|BP'=>AzX R2.g Β|BQA=>Azb (∀P,ε ->DV (f a) P) ζ g|BQB=>fun z E cx Ο s σ H Q I hq=>ε|BQC=>BoX Asc|BQD=>(vs= .B9 x::HM)|BQE=>by show BoZ bne_self_eq_false|BQF=>∀{elts:C7}{x1}{pt:AN},_|BQG=>As k hk hle|BQH=>(IB (IB h))|BQI=>ε b (EX (hb (Bpo _ h)))|BQJ=>W.isFn AG MD=Μ|BQK=>(Itv K a xs)|BQL=>lL (Hh ε aq Qb AZ) B5|BQM=>l.any fun s=>Br b AXg|BQN=>by show tF e' (ε a o q ζ);rw[η] at e';show Ϯ|BQO=>KF (PH kV) Auz|BQP=>.ob C fs (wH fs ts f (Boi ε ζ))|BQQ=>Bom BtF|BQR=>(gN H' (v= BH/\M_ cS H'))|BQS=>∃a AH,v= CF/\AN6 PU/\ ε|BQT=>by obtain⟨m,hn,hl⟩:=pp|BQU=>(zL (JY (AUD<=3)) Φ)|BQV=>(fun i σ H=>AyW)|BQW=>(.BinOp a op b Ψ)|BQX=>(.IfExp c a b Ψ)|BQY=>(PIE X Ο σ tg R)|BQZ=>AeB Ah1 (ALq (UI _ _)) ε|BQa=>Í Ax AG7 Fk σ|BQb=>by obtain⟨U,hU,hr⟩:=O.hs|BQc=>(.AG_ 0 0 ADo)|BQd=>fun b o hc e=>(sw ε)|BQe=>Hc (∃qs:BI,ds= [AIp]/\ε/\ AOz/\ζ)|BQf=>Ù (.AtN a [ε] [b] Ψ) (cT (cB ζ ta tb))|BQg=>fun c o hb e=>ATw c o iF ε|BQh=>(Ht k p a i)|BQi=>⟨⟨vs,v,AjE,hv⟩,ε⟩|BQj=>BpD R'.gr.n|BQk=>ε [d] [v] (B0 (AiL hp.1)) (Lr ζ)|BQl=>BpG į|BQm=>BpI "dict_keyiterator.__iter__"|BQn=>AUm (PI JO tg e (ō ε t E))|BQo=>fun s Q E hit hg _ hQ=>ε|BQp=>Jh R2 hl2 (ε (K:=AG) (F:=F1) ms)|BQq=>∀(F:Hp) (ks:GE) (R:AWc) (v:V),_|BQr=>fun i s Q E hi hit hg _ hQ=>ε|BQs=>opI fun _ _ _ _ _ _ _ hc q=>ε|BQt=>e0.mod.nolimit.keeps Ayk|BQu=>ABw AWT|BQv=>I2.after hq'|BQw=>AfL AfM|BQx=>Auv (<- Bop)|BQy=>unsupported "internal:set_iterator"|BQz=>zqi O.tok.ris|BQ0=>pre.getLast hne|BQ1=>List.cons_eq_cons.mpr (Ic Ay')|BQ2=>xy=JI|BQ3=>E3+4|BQ4=>XG+items2.size|BQ5=>(lj I.ok.bs).2|BQ6=>by rw[P9,ATW]
|BQ7=>¬(VW (! ε) (BrQ (ζ)))|BQ8=>by have SF:=PySem.F.store_ValueError|BQ9=>E3≠sQ|BQ_=>IR<=61|BQ'=>Cl<ATS|BRB=>IR - c|BRC=>x h0 - x' h0|BRD=>by simp only [AT9,Bso]|BRE=>by rw[ALx,ALx,ε,ζ]|BRF=>by unfold dD BIe|BRG=>let ⟨q,_,_,hq,_⟩:=G5;⟨q,hq⟩|BRH=>by rw[<- AiO ws,AL'] at ε|BRJ=>by (show MQ v v v v v v v v v v v v v v)<;>try (show Pw)|BRK=>by rw[<- ε,AeF,AL'] at ζ|BRL=>BKD BoL ε|BRM=>by injection e with e1 _;rw[e1]|BRN=>(by rw[Ua];exact P_ Β)|BRO=>by show BpN h|BRP=>Atx y.1=Ε ε|BRQ=>(by rw[XI]<;>(show qr))|BRR=>⟨o',Bng e'⟩|BRS=>⟨Au (by(show AIf)),ε⟩|BRT=>⟨? px,MG h (PassesOwnAt.lookingOf h)⟩|BRU=>[W.topFrame _Hd.z]|BRV=>⟨ε,ndc,fun x hx y hy e=>dis x hx ζ⟩|BRW=>(BA f (! ANX))|BRX=>(BA zs AzM)|BRY=>bJ (Bpq ε)|BRZ=>[kM,ABh]|BRa=>[sQ,E3]|BRb=>AUF _ Τ|BRc=>ε (BtQ hb)|BRd=>hA b (AXK q)|BRe=>MC (AfJ[i]+1)|BRf=>C4 AMI p|BRg=>(BHN _ q)|BRh=>(AUF _ h12)|BRi=>(Μ==Μ)|BRj=>Fr ATc Ain|BRk=>by rw[NV];exact O.key|BRl=>(gs.getD i d0)|BRm=>(rb.getD i Ô)|BRn=>sZ.h _ _ ha'|BRo=>Au (nab (LG z))|BRp=>AfL AfM =Μ|BRq=>Ae2 (Auu ε ζ η)|BRr=>E6 (BsS ε (De ζ))|BRs=>(Bqw hg).1|BRt=>yn KK ((s₂.heap.push ε).P7 ζ)|BRu=>(fB.fs++ [(Ad1 :Κ)])|BRv=>D_ LV pD|BRw=>ES (num j)|BRx=>(.dK ((ANZ).zip AVt))|BRy=>by show BQ ε;rw[QQ,QQ,ui,ζ];exact η|BRz=>(AHE*AMH)|BR0=>(kr*bc)|BR1=>E4 (zQ _ (zP _ hb))|BR2=>CU ?_ IP|BR3=>GV (pm.mem_iff.trans (ε w))|BR4=>CL (ADc VH) gU|BR5=>MH (Best l b) (ZI [qD (OK b 0),qD (OK (b+1) 0)])|BR6=>h a ġ|BR7=>.Dx (k.map jX)|BR8=>(EM hsz hb)|BR9=>Fs (qD (f j))|BR_=>cE (AL5 (ALd mw) ε)|BR'=>(LG (ATA hc))|BSA=>by unfold toD;rw[Uc]|BSB=>by unfold Br;simp [q]|BSC=>qD (X (AeK h))|BSE=>MM (b1++b2) (b≠c)|BSF=>PV LV pD|BSG=>AfL AfM =AE|BSH=>W.tail_of_in X ht|BSI=>W.tailIn K Mp ε=Μ|BSJ=>W.readsIn K ε Axw=Μ|BSK=>ds= AOV/\Y3 (bS i j)|BSL=>ZB.mono h1 ?_|BSM=>IC e2 Array.append_assoc|BSN=>S.par n (BnK hy)|BSO=>PZ (AJ×At)|BSP=>∀x∈AyI,f x=0|BSQ=>BsO ADh ε=AE|BSR=>by show ŧ pr;exact ε ζ|BSS=>(fe z2s Ap)|BSU=>X_ AO7 (f a)|BSV=>(U1 (a::cs) (SV F'/\jR sC H b=Η))|BSW=>fh ABL ABL|BSX=>fh P5 P5|BSY=>[AiS,.AU (f h)]|BSZ=>(∀a∈b1++b2,Aiu)|BSa=>R2.sl i _ e2|BSb=>Χ (a.1<b.1)|BSc=>YN z (C9 27720)|BSd=>f_ AiA (MY/\SU H')|BSe=>VQ ys ys[j]|BSf=>(VT (f j - AJD*q j))|BSg=>[a,.kK x pt]|BSh=>(AHY AD' ALH)|BSi=>gT (W.methodObj MD ε)|BSj=>Ś AeE AVm|BSk=>(fr t' b').2|BSl=>∀(x:ĥ (ĥ AJ)),_|BSm=>(fr t' b').1|BSn=>FK (kg i 0)|BSo=>FK (ŀ i AE)|BSp=>(VZ xI hq)|BSq=>gi wpAny_keeperOf_exc hC'|BSr=>ŝ (xj _ _) (AWs [_])|BSs=>(AHj (pN f y fs))|BSt=>(Am ABl H)|BSu=>sw (BHM _ ε ζ)|BSv=>sw (Bng eo)|BSw=>eK (nM _)=_|BSx=>Ş P9 hl|BSy=>l6 ⟨Nw (kE r1) ε,ζ⟩|BSz=>(Bam yhz B5)|BS2=>BH' v T|BS3=>I.kept (t' :=Mc) ε|BS4=>ASy b u ε n|BS5=>.Dx [.DC AW6,wQ bs]|BS6=>ko (ASp hq)|BS7=>Lean Ξ vV x'|BS8=>AMg Builtin.SmallTypes.nextOf it|BS9=>iE (NH (ε j (XX hj)))
|BS_=>by
 split
 ·exact ε (n:=ζ) Φ Φ
 ·exact η (n:=θ) Φ Φ
|BS'=>mo Brg AGe ε|BTA=>mo Ny al ε|BTB=>ic ε (Ps (Pm n q/\Up lt q n))|BTC=>(.BIz elt [⟨AeO,OG,ifs,0⟩] Kt Ψ)|BTD=>AfH xs j|BTE=>SE l=Ε (Ð ε e)|BTF=>As j s' q|BTG=>As r' s' hq'|BTH=>by rw[q] at e;show ie e1 r (XN ε ζ q);refine CU η θ|BTI=>AU3 (AgF (W m' B4))|BTJ=>by show ng BIx Ae8|BTK=>AU7 ε (P (PH jX))|BTL=>AeS (BY I)|BTM=>Prod.ext e1 e2|BTN=>qI ASx w|BTO=>(.EO es Ψ)|BTP=>p.2= cz ->DJ≠x|BTQ=>vi OG wi|BTR=>vj (AVu ε (AVl yD))|BTS=>Dw K F' ε H' C dx x|BTT=>PD p=Ε AO'|BTU=>(yA ⟨zt,ABp⟩).ACG|BTV=>î Array.perm_iff_toList_perm.mp ε P|BTX=>AVG z7 BJE|BTY=>AVG ATB z6|BTZ=>AVG BJG z7|BTa=>isIn m b=AE|BTb=>ó (ε (EV f)=EV ζ)|BTc=>AVP (h∈k s) BpM|BTd=>tn 0 AeT|BTe=>AIS L7 AIU|BTf=>(Ϟ (zS hq) e)|BTg=>[.AX EB t,v]|BTh=>AMO AMa (.seq BrL n')|BTi=>Ϩ (Ï tb y (r x y H2 ε))|BTj=>AIb z.cps.toList c|BTk=>∀o w,u≠ .frz o w|BTl=>by rw[ASb,ABG]|BTm=>qD (BB (f h) - qE h)|BTn=>ADy FE tn|BTo=>r=Η/\yk s1|BTp=>ANi d5 d_|BTq=>ANi NL P5|BTr=>ANi d_ d5|BTs=>DF [NU] [NU] ε|BTt=>Hn (Η:fI)|BTu=>D_ ε qs=IR|BTv=>Ai0 o - x o|BTw=>tn Db AeT|BTx=>(AfH xs j)|BTy=>FD ->AL ->AL|BTz=>AN2 (cq BI7 #[RI,Aiy]) ε|BT0=>AN8 (Ju B5 (Gj ε)) (Gj (UU sE ζ))|BT1=>(ň BnR [a] pc)|BT2=>AWG Aez AzS|BT3=>((ANZ).zip (vs++ [RI]))|BT4=>(l5 (mine a ha))|BT5=>∀{k:Δ}{A:Bi},_|BT6=>∀(hA:f_ F (va\/AVa)),_|BT7=>∀(hA:f_ F (LDn u\/AVa)),_|BT8=>Agv (BI2 (s4.trans ε))|BT9=>Agy AdR TF|BT_=>Agy AdV Kh|BT'=>Agy Adc ZJ|BUA=>Agy Ade V6|BUB=>AOd zld (KW p vs ε)|BUC=>by have:=ha.1;have:=ha.2;show ñ hb.1 hb.2|BUE=>∀k,GZ ε (gJ ((ζ f).take k))|BUF=>release [v,ov,iv] []|BUH=>(.B9 cS::vs)|BUI=>Im X L6 tb|BUJ=>(yz NC f Sg)|BUK=>(j - i).eQ|BUL=>⟨_,_,_,Β⟩|BUM=>AOx z eB|BUN=>∀i j,i<m ->j<m ->ε ->i=j|BUQ=>(.ABb NC k KL)|BUU=>∀i,s<=i ->i<s+n ->ε|BUV=>SlO K F H H0 ds o|BUW=>fun Γ=>(BpR Db)|BUY=>MJ (j:=27720)|BUZ=>mY AzR By|BUa=>⟨u,C6 e1,e2⟩|BUb=>(fun f hf=>Nz (sr f hf))|BUc=>Hn (Ε Μ)|BUd=>(qD (x' m[j]))|BUe=>oR qs bs=Μ|BUf=>D7 (D_ Bmy AHB)|BUg=>Au (e (h1.trans z))|BUh=>AXC Mm ε (fun a=>ζ)|BUi=>FA (sIx n n hi)|BUj=>.Dx [.AX B6,.AX Co,ε]|BUk=>AXI (rV ε) Ty|BUl=>(x6 H p cn)|BUm=>AuM=cls/\Aer=ε/\ ζ|BUn=>Awf BGt Asq|BUo=>AXi (Builtin.SmallTypes.ownedTupleIsFree (BY z))|BUp=>AIY (Aey e BE) (KS ε ζ) η|BUq=>Yf Axv (b∉kF) ANa|BUr=>uc JS (U6 ks)|BUs=>(JL HR X.w q xs)|BUt=>AOl/\S_ Î|BUu=>⟨q,BH5 _ _ _ (HG q)⟩|BUv=>⟨ob,h1,h2.2.1⟩|BUw=>(fun t B4 =>(Bnx (Q t)))|BUx=>(cB gq Aye Ap)|BUy=>D1 (EN) AM|BUz=>R1.sl 0 _ h0|BU0=>hs8.extBut _ _ ε (hs7.extBut _ _ ζ η)|BU1=>(FF (AHC SN))|BU2=>(FF (AGU pZ))|BU3=>[Md,IN,K2]|BU4=>z6 (z7 (z6 (Bqz ε (iX hn' hs))))|BU5=>KW Β Β Β|BU6=>∀j,ε ->j<k ->ik k j|BU7=>∀j,ε ->b<j ->Ahp<wd l j|BU8=>Ő (AUw Awx) tk|BU9=>Ő (AUw Ax5) Mc|BU_=>Pc (Χ (B6=w))|BU'=>X_ AIH (F w)|BVA=>∀j,dD (g j)<=143|BVB=>(.xd [(f1,v1)])|BVC=>E Ω (.pay C [f1,f2] Bo1)|BVD=>(SF.args h_ BnV v)|BVE=>(sx (ŀ i AE))|BVF=>Aim ALN [u,c]|BVG=>hz _ (zo4 Θ)|BVH=>EqD _ _ _ _ (ji xs ys)|BVI=>exec_Assign_Name_used _ _ _ _ hsw|BVJ=>((ABu a).wsh ⟨xe,ABp⟩)|BVK=>aC Ξ (gL (g r*g r))|BVL=>by show GB AW rv pl hz AI9;show Aio|BVM=>bS a b=1|BVN=>Ait xF T8 ε|BVO=>Gr F' H' F4 H4
|BVP=>PP ANn Η (Ε 2)|BVQ=>Oq (s:=Sk) e c d Φ ⟨ε,H,I1,ζ,η,CL hl e_,AOS⟩|BVR=>(ps++ [([],[])])|BVS=>VT (r j+fA (k::ks) ε j)|BVT=>ĥ (AC×Thread)|BVU=>AjB (∃u,AXG/\LDn u)|BVV=>Axa [a] (XZ a)|BVW=>Axa [b] Bnk|BVX=>eI (zG ε) (Nat.not_lt.mpr hle)|BVY=>HI l a ((f a+d a)* (f a+d a)) ε|BVZ=>sR x ds (g x (a::ds)) ε|BVa=>∀w' s',ANh ->ε ->Q w' s'|BVb=>ε hA ts us cs n.2 h2|BVc=>sR d es (s d*h (c::es)) ds|BVd=>(AIz _ n n)|BVg=>BHe<=9+7*i|BVh=>O5 ε (AC' (ATw _ o ζ e))|BVi=>by simp [BII,ax]|BVj=>D ->D ->AT|BVk=>mA EB=Ε v|BVl=>(LO hp).UC|BVm=>⟨?_,rc,rn⟩|BVn=>As x hx n|BVo=>As x H2 y|BVp=>E9 X7 es gs|BVq=>IS X.N l w|BVr=>Q () (ACT h' tk')|BVs=>Br (ŀ k Ô) ε=Μ|BVt=>∀v∈vs,(∃k,AXq ε k v=Μ)/\AV5|BVu=>(∀v∈IQ,(∃k,Ag8)/\AV5)|BVv=>Au (q (dA ł z))|BVw=>(Axy (AMY (AGq+1+n)))|BVx=>MM cs (b∈Aiq)|BVy=>IC (Qt (x:=ε)) (uS BHW hw)|BVz=>oR qs bs=AE|BV0=>oR AU8 bd=AE|BV1=>IF as _ ?_|BV2=>Pl ps ⟨#[],by rw[ε,q];simp⟩|BV3=>sT (hd i j F) hp|BV4=>YY e n ?_|BV5=>(.dic ks (uA ts.map Gv))|BV6=>BJW a es1 t2|BV7=>by show ZN e (FI (e (h1.trans z)))|BV8=>k1 c o iF iF|BV9=>yq (D_ AIl f) Kj=Ε n|BV_=>BnU AdB zex|BV'=>BnU AdC zbo|BWB=>AI6 hb (ε b o (TK (Afs h)) e)|BWC=>AWa p1.length (kE q1)|BWD=>AWa p2.length (kE q2)|BWF=>gD Ξ w= []|BWG=>(ug Be AGs [])|BWH=>(ug BE P8 [])|BWJ=>AXs (AWg/\i<kC) (H' =H/\ε) (AWg/\kC<=i)|BWK=>(ATZ xs k).Į|BWL=>by show Ayi hi;show Bos;show ny;exact ε|BWM=>∀{Ξ:B7}(u:Lu),_|BWN=>∀{Ξ:B7}(L:t7),_
|BWO=>by
 have e' :Bot ε:=e;split at e'
 ·show AW7
 ·show AI1;exact ζ
|BWP=>Ai_ AN4 1 (MU+1)|BWQ=>Ayr Ty ys|BWR=>fun{F' H' t' ds} s k r=> ?_|BWT=>fun{F' H' t' cs} f k r=> ?_|BWU=>(fun j hj P hP=> ?_)|BWV=>(fun i hi P hP=> ?_)|BWW=>FH AdI 1 [ALe,UH] V5|BWX=>FH Adb 1 [ALe,UH] Hs|BWY=>pQ Γ σ i a|BWZ=>pQ Ω σ i b|BWa=>∀{x y:AL}(h1:wN x)(h2:wN y),_|BWb=>(Ł (zI b (D.bl (g a b))) as bs)|BWc=>SlT K F H H0 as t o|BWd=>SlN K F H H0 as ts o|BWe=>Ay_ (∀c ds,OI+1=ASc ->ε) ζ
|BWf=>(by
 rcases ADV with hb | hb
 ·exact p.2.2 b hb b A1 Β
 ·exact Afv p.2.1 hb)
|BWg=>(by
 rcases ADV with hb | hb
 ·exact CS hb
 ·exact C_ (AOk hnc))
|BWh=>(AzG (BY cS) cS)|BWi=>AzI s.heap.IsKeyIter i|BWj=>∀{i j:AB}(h1:gy<=4000)(h2:Î<=4000),_|BWk=>∀{i j:AB}(h1:gy<=8000)(h2:Î<=8000),_|BWl=>(kn I sF r rv)|BWm=>(kn I sF r' ru)|BWn=>GT H (XO x C Η)|BWo=>(.xd [(f1,v1),(f,y)])|BWp=>(.xd [(f1,v1),(f2,v2)])
|BWq=>(by
 rcases LO hx with q | q
 ·exact zP _ q
 ·exact zQ _ (zW _ q))
|BWr=>U2 gK X0 k f fd ps (ε K C fl sp)|BWs=>U2 gK X0 LY f fd AyY (ε K C fl sp)|BWt=>∀(he:fR [a] a []:=by rfl) (he2:AMn [.Call Awg [a] [] qo] (ň Awg [a] qo):=by rfl),_|BWu=>by show BG (AuQ ALc ?_) (APM (ε a _) iq ζ);show APE|BWv=>I5.turned (t' :=s5.toks) (it:=C) (AMc BnT) c1 c2 (FV c3) c4 c5|BWw=>(AMP ps ⟨#[],by rw[e];simp⟩)|BWx=>((ADf,ε),(Μ,ζ,good w))|BWy=>fun F=>uc JS (q2 F)|BWz=>if x<B6 then ε else ζ (r::t) x|BW0=>Inv.made (C:=C)|BW1=>(ε ζ).BqZ<=Asj|BW2=>Au2 AOh=Ε oe|BW3=>(by simpa [Rat.not_lt] using q)|BW4=>t.slot j= .empty|BW6=>(e _).mpr (AtG Bou)|BW7=>UnR X ε (rU (FK (.AU ζ)))|BW8=>QY ε (AHQ s1 h' tk)|BW9=>wpAny_Name (ε EC) hd|BW_=>(D9 (IA x1 np1))|BW'=>∃k,k<n/\r=jr A k|BXA=>PE X (Â o ε [e,f]) (ζ td ty tx)|BXB=>C6 (P6 Array.toList d1)|BXC=>I.pins_of fun p hp=>ε|BXD=>DF ϩ [IN,OB] ε|BXE=>NA is DA (∀i∈is,ε) ζ|BXF=>No (runValue _) (BJZ ε)|BXH=>(As i v hv)|BXI=>(As v H1 hq)|BXJ=>fun r s' =>r=w/\ϭ r s'|BXK=>(gc I.ok.glob Bqe I.bk)|BXL=>Q (FF (PP ε AIT Η))|BXM=>∀j,ε ->Ahp<=wd l j|BXN=>YY hb eb (c8 hb eb)|BXO=>R.put i ε (YI h AG0)|BXP=>∃sl,NY SE {o with ALR:=sl}|BXQ=>∀a vs,Ý ->ε ->R vs ->ζ|BXR=>D7 (By+NR)/\ε|BXS=>∀(hd:HH:=by decide),_|BXT=>z67 r _ _ hr|BXU=>a=W'\/BoG a|BXV=>∀(V_)(es:C7)(t:c7),_|BXW=>fun b o eb n q1 q2=> ?_|BXX=>by have e:ε (D_ ζ η)=θ:=IC C8 yY|BXY=>.pu (qO n (FK (A i n)))|BXZ=>∀(sc:Op)(x:Κ),_|BXa=>(hp.update ε (AXc AT8)).Hm|BXb=>zO (ACn 1 Φ) Θ|BXc=>õ ⟨iN (AO2 ε),iN (ζ p hp).2⟩|BXd=>pa b hb (AiZ e hc)|BXe=>AIZ t' ED AV_|BXf=>⟨HU,Η,Af1 AG8,#[]⟩|BXg=>A6 i j hi hj|BXh=>Agd Ag9 (AgC k)|BXi=>bindArgs ε (GY us)=Hn (Aef us)|BXj=>∀{AGr:Κ ->M1 ATL}{x:Κ},_|BXk=>⟨r,h1,h2,h3⟩|BXl=>(BoK QQ ui)|BXm=>AO1 (n1 (z ▸ zW _ hb))|BXn=>fun b ob u q=> ?_|BXo=>Zo (t:=z) (b:=27720)|BXp=>97+ AzU (num at_+ ε)|BXq=>m≠0/\S_ (dD m)|BXr=>fun h' G5 hs=>h _ ?_|BXs=>ε ALW hk hc hcell|BXt=>⟨AyD,H',I3,Β,q3⟩|BXu=>[L8,kP,"backward","lists"]|BXv=>fu K F H ts vs bs|BXw=>CD (ε<0) (mT ζ AW') (min (η).eQ HE)|BXx=>∀i j,i<j ->j<r ->ε|BXy=>cY 1 ε (iL (dO (qF Ap AXr qN))) lI|BXz=>{D with nx:=u D}|BX0=>V4 (ns s hS) nh (B_ s hS)|BX1=>EJ K (kO F0 F') d v|BX2=>M' a ha b hb|BX3=>(GW [AI4,jq (Kp ls)])|BX4=>Bf ps x=pC ps x|BX5=>AXo (yH b u Av1 (sS b u eb))|BX6=>AzB D2 Γ2.set (.xe as C fs us)|BX7=>∀{Ξ:B7}(u:Lu)(w:Κ),_|BX8=>⟨Ξ,U,Β,uq,ε,Υ,hr,AzD⟩|BX9=>.ba ms x ws ε G A g0|BX_=>(hd j hj hj)|BX'=>pk x1=Ε (BY C1)|BYA=>YB lt (W.kas_sort KO)|BYB=>z3q (i:=7) j7 ε Β Fm|BYC=>Boa ε Ad2 "type.__getattribute__"|BYD=>Boc hz (As g1 Cn hs1)|BYE=>(Bod (rX p) [e,e2])|BYF=>HI hs o (gB S h o*x o) ε|BYG=>AUf (ut ds [VU] ε [da] ζ)|BYH=>Bok (T.hasType ATk)|BYI=>AU' xn AVA f (ε C f i)|BYJ=>∀(C:Ζ) (fs:Ρ) (ts:ID),_|BYK=>zo8 e r _ ε (Cb c' q)|BYL=>by show Ct f hf B_ p.sub S hS|BYM=>ε (cq (Yu t1) #[.B9 l1,AEJ])|BYN=>∀{K:AA}{F:Hp}{d:D}{v:V},_|BYO=>⟨a,vs,ANM [c],Β,Β,ε,EK,?_⟩|BYQ=>fun b u e=>sZ.h b u AyG|BYS=>∀(K:AA)(C:Ζ)(f:Κ)(sp:ε),_|BYU=>∀vs H Q E,AjJ ->BoE|BYV=>∀{α:Ch}{l:DE}{i:Δ}{d:α}(h:Axt),_|BYW=>∀{ds:AR} {vs:AQ} {ns:ε},MV ->ζ ->vs=x5 η|BYY=>fun h1 h2 q st=>q.stay st|BYZ=>(Ł (AzJ v) ks vs)
|BYa=>⟨P,a1,AXB (r<=n),a3⟩|BYb=>∀b o u,sd ACt ->AV3 ACt|BYc=>Ats s fd E8 (ε us)|BYd=>Bo_ H' am|BYe=>(au AZ (AN7 DM F8 Bo9 ii))|BYf=>by obtain⟨o2,e4,w2,Β,rk⟩:=R1.sl j _ e1|BYg=>∀{u:HO} {b:Ζ},AHS H A9 b u ->AHS ε A9 b u|BYh=>⟨c,_,[],Β,Β,gU,z0j ε,Nb (zqk rs rd)⟩|BYi=>WalkO q aS XP YP AuI d [] AzC|BYj=>iP (k.stay Ay1 (hZ z Bnt) fun c xs z=>Bnt)|BYk=>ANC (∃as fs ts t,Ì Ai7/\Ayt t/\ε)|BYl=>BpL (Ms i σ H (y0 v (BpC/\ε)))|BYm=>b_ (fun ds Ω F1 H1 J Hx R1 s1 hx hJ h1 A2 ha=>zrk R1 hJ hx ha h1 (BpV ε))|BYn=>ϗ (z35 H.c.gd H.c.sz (((AJM ε).ok ζ (zrg (η w hw).1)).up Φ))|BYo=>by obtain⟨oD,esD,epD,hoD,hdD,hcD⟩:=hn'.count (Within.cons EB v ε)|BYp=>h1.imp (AIz _ q (z1u q))|BYq=>Lu ->Bn6 (p=BoY)|BYr=>(∀a,Good i a ->P [F i a])|BYs=>(CD a 1 0)==b|BYt=>(AJH - 1).Ġ|BYu=>(hz i him).2|BYv=>(z0b hn hg k Θ).2|BYw=>if c then a else b|BYx=>if fh C C1 then ε else fh C C2/\ζ|BYy=>by rw[tk,AeD,AeF]|BYz=>xs[k1]?=Η\/Boy|BY0=>f p*Ac0 rs cs|BY1=>∀{cs:DA},dB (hZ ds ε) cs=ζ|BY2=>nx k % HE|BY3=>by rw[AfV,<- EK,AMD] at ε|BY4=>ASs am (a::io)|BY5=>BH' ED xo|BY6=>Aep R2.g nH|BY7=>by rw[vS (BB (C9 ε)) ζ];constructor<;>grind|BY8=>(hx (Tp,ot) A1)|BY9=>(W.codeRec_of KX hcd)|BY_=>(zwr R Aud)|BY'=>by unfold frs;rw[AtD,hf];exact ε|BZA=>seqIndex? i ε=Ε j|BZB=>⟨hb,ANR hb eb⟩|BZC=>⟨lim.keeps x.toInCall.keep,codeAny_func ?_⟩|BZD=>⟨z.1,ht _ _ z.2.1,z.2.2⟩|BZE=>(fun y hy=>k y (zW _ hy))|BZF=>(fun d B4 =>(Bnx (Q d)))|BZG=>Au1 (Flow.ret v)|BZH=>.B9 (ε t1 t2 h l1 l2).į|BZI=>(pD (nO ps))|BZJ=>IS nms v B6|BZK=>.pu (GW [.DC AW6,wQ bs])|BZL=>by obtain⟨v',_,ev,r2,Β⟩:=r2;cases (ev);exact ε|BZM=>VR (ACn 4000 ε) Φ|BZN=>C4 BGn (Hu (uE qs))|BZO=>(g k*f j - f k*g j)|BZP=>Fr (Agf ε Bm_ (Ð #[] 0)) ζ|BZQ=>fd=ε/\Ay4 (.func fd) osl/\Boz|BZR=>fun b h1 h2=>(IC ε (bJ h1))|BZS=>fun b q1 q2=>by rw[ε,bJ q2,bJ q1]|BZT=>(by simp;split at hf<;>(rename_i e;simp [e];show AF))|BZU=>∃w,LD w/\NY F0 w|BZV=>(hμ r hr).1|BZW=>(yju h hB).1|BZX=>zy6 F Good ε (Cb as has)|BZY=>aL K F0 ds vs|BZZ=>PE X nE (U0 r t)|BZa=>fun _ ob q _ _ _=>⟨BHL,q⟩|BZb=>(ň BnR si pc)|BZc=>ε ->EJ AG F d v ->EJ AG F d' v ->jy d d' =Μ|BZd=>W.takerIn K C ε=Ε Η|BZe=>E4 (by simp at hb;simp [hb])|BZf=>E4 (So (Ea p2 hb).1 u q')|BZg=>re (h.2).up f|BZh=>AvO si [(AE,XZ a),(AE,Bnk)]|BZi=>cE (Ax4 P7 (Ad9 C Cl))|BZj=>ε fun v hv=>ADM (BnK hv)|BZk=>Q1 (zK (zM (zG e) ALV))|BZl=>Sb zkv g (gX AG g)|BZm=>∀s,k<=s ->ε ->a s k=0|BZn=>Kb (exec (.Raise (D9 (Afo (IA y np) E8)) ε Ψ) Be)|BZo=>JU DV 1 0|BZp=>(PP xs l u)|BZq=>IF MZ Si Β|BZr=>Mod AG pk SH|BZs=>zO (zqp xs lo hi) hz|BZu=>ci (b≠T) (ε).Hm PD|BZv=>ACV Aw bw boot_len|BZw=>(U' j (Χ (ANP>kg j 0)))|BZx=>sB (Bm6 i (aw i))|BZy=>Inv ε Ο σ1 AOH AXW|BZz=>∀b o,AVm ->BC ε Aia mM N3 ζ|BZ0=>(As s6 I6 Cn)|BZ1=>(ε).BtJ fun(E6 z)=>Ř|BZ2=>gN s1 (AWl (ALb v) ε s1)|BZ3=>uo Aiw (val i)|BZ4=>Good i (as i)|BZ5=>zO (AGb A_) hle|BZ6=>qD (jC Pi h)|BZ7=>sN (FA (qT t ε)).eQ (qT t ζ) (qh _)|BZ8=>gT (AMO BM (.As2 ps))|BZ9=>U2 gK CX k f fd ps ε|BZ_=>ACZ (AN8 (Ju ε (Gj aU)) Ls)|BZ'=>(gc l ATa k)|BaA=>∀A' :Bi,A'.handled=Η ->ε|BaB=>∀s∈Os (kW Ξ),ε
|BaC=>bZ ε (As r s6 Cn)|BaD=>ŝ (newList []) pv|BaE=>(Â NC EB LE)|BaF=>AUf (la AOV (Y3 (CD ε j i)))|BaG=>∀u,Hx A2≠Ε u|BaH=>hac.2 i u Boh|BaI=>by rw[AGz,GL,ε (DT h)]|BaJ=>bB P w ε am b u|BaK=>Y' HE (Sz 1900 (OK j 0))|BaL=>C4 H b (.frz (ob b))|BaM=>av a o hk|BaN=>AHs (AS8 ε u ED)|BaO=>AUu ε (fun x y H Q=>y= BH/\Q (.bl ζ) H)|BaP=>iE (hz _ (Wo hj))|BaQ=>Ű (!(Χ (q<o)))|BaR=>AHx (ϟ k s)|BaS=>(ATf ts).ABj f=Ε (.QP d)|BaT=>EJ AG F' d v|BaU=>(AMt (tm/\ï/\AHb B4 a))|BaV=>(CD (j<0) (-j) j)|BaW=>Þ (i^ABf)|BaX=>ADG h1 itv h2|BaY=>lu js ALH (V8 c) ε|BaZ=>Te X H0 pl ε fun C' D Γ E=>ζ|Baa=>∀i h,tn i h ->l9 (Ay7 t6)|Bab=>u8 (storeName BE x u)|Bac=>⟨z,H,I,tZ,q⟩|Bae=>U0 (ε K g) (br Va t E) σ H Q|Baf=>ϑ Wl ε AW9 (zh Th)|Bag=>((ABu a).wsh ⟨z.xe,ABp⟩)|Bah=>ë so wm hv|Bai=>ϒ Q7 e1 q|Baj=>ε c o (I.cne x c e) hc|Bak=>s_ MY (SU H') (SU AiA)|Bal=>o7 P w H' am|Ban=>(KI b ob e).stay|Bao=>ù (PP (jv UB) AIT Η)|Bap=>Ϛ t es BpA|Baq=>al (BA q (nomatch q))|Bas=>by simp [el1,el2,hl]|Bat=>by simp [qD,rJ,jP]|Bau=>by show RU BO;refine l6 ?_;unfold ε at h1|Bav=>by have z' :ε:=z;show Azi|Baw=>Uf AdW 3 XB zd7|Bax=>Uf Adm 3 LM Z7|Bay=>Uf Ads 3 ac Z2|Ba0=>HI m h (Bo7*f h) ε|Ba1=>HI Ahs h (AJG*x h) ε|Ba2=>P6 (BA l [eK l,ε]) eq|Ba3=>bS a b=Av7|Ba4=>(.ABb NC Aik qo)|Ba5=>M' x c e z|Ba6=>BIJ A s u v ε|Ba7=>ANu (YI H' AxD) Q|Ba8=>D_ bE vs=OH|Ba9=>R6.sl j sl e|Ba_=>∃d,AIb xs d/\P d|BbA=>z04 I S hk e|BbB=>AUt (C9 (D_ ALB qD)) 1|BbC=>AJB (∃bs,vD xs=Ε bs/\Ya (ε id))|BbD=>AVW dd2 (.seq AB' n2) ε|BbE=>(Agw (∃x F',Agp/\tw /\Ags H))|BbF=>B0 (M7 (i:=ε) (De zev) AvD AvE Β Fm  ζ)|BbG=>E KU Η H1|BbH=>∀h',AMp h' (ϝ Cl) ->ε|BbI=>V ->V ->V ->yo Hp Hp|BbJ=>MH ce (∃AH,Aif/\NY H1 (.frz (ob b) PU))|BbK=>Gr F2 H' AII AOH|BbL=>AOw (u' w=u w)|BbM=>∀(APJ) (t:c7) (E:XW) (σ:St) (H:Hp) (R:AOA),_|BbN=>ABq ⟨sf,ε,ζ,cc q (Bgp q)⟩|BbO=>AyF*Ad_ AJK|BbP=>Aee [] AiT ua|BbQ=>Nz (G.sr m hm)|BbR=>AXD (Bnp (Ad9 C E3))|BbS=>∀b ps,sd (.Mr ps) ->∃more,NY H' (.Mr (ps++more))|BbT=>Nn Co h AO0 0|BbU=>∀b,Š ->¬Q3 ->SV F1|BbV=>Uf Adh 1 ad Z0|BbW=>Uf ALG 1 kN ZV|BbX=>Uf Adu 1 AeX Wk|BbY=>Uf AdD 2 UF zdj|BbZ=>Uf AdJ 2 kQ ZL|Bba=>Uf Adg 2 L8 TV|Bbb=>(sW (cT (AOu Ap)) (OV AS (cU gM Ap)) ϡ)|Bbc=>(hs.2 c ?_).Ff q|Bbd=>AXT ((m*m).SA 2147483629)|Bbe=>v= .B9 e/\BoC/\ATc e=Ε oe/\ε|Bbf=>AXe (Ahh NC f) (ε C i f ζ)|Bbg=>No (load _) (BHj hS' ?_)|Bbh=>AM1 (b∈as) (H' b) Ŵ|Bbi=>∀z,Vj JO id g|Bbj=>AVf ABQ 1 AgZ zbh|Bbk=>AVf K2 2 AgZ Qk|Bbl=>AVf W_ 3 AgZ T9|Bbm=>z6 (AL3 ho hd A1 ?_)|Bbn=>Awj AdG 1 T3|Bbo=>Awj AdH 3 ziw|Bbp=>Awj AdZ 8 T4|Bbq=>∀(Ah5){x y:AL}(h1:ZB A x)(h2:ZB B y),_|Bbr=>∀(Ah5){p q:AL}(h1:GZ A p)(h2:AO8),_|Bbs=>(AXx (cB dN Ap CA) (cB dN AS CA))|Bbt=>Ah6 (Ce.mR b o u eb)|Bbu=>Ao HR X.w AG pk SH X.A O_ ε ζ|Bbv=>Aw0 (z33 xc _) (fun p hp=>ABX p ε)|Bbw=>AT×Ahb×Ahb|Bbx=>fun c ε r z=>(Bo8 r)|Bby=>Calls.Name_function_global ALW hg ε hd|Bbz=>(yg5 (EM ztz (g4 k BoS)) e)|Bb0=>aB N ps Kt|Bb1=>⟨hr.1,AI5 (wpAny_point (z7 ?_))⟩|Bb2=>⟨.bl ε,H2,I3,Β,q2⟩|Bb3=>AiW (∃o AH,sd z_/\NY H2 PU)|Bb4=>AiY u hu (NH (eo u hu))|Bb5=>[L8,kN,xl,XE]|Bb6=>(max (dD i) (dD j))
|Bb7=>by subst hq';rw[BoU] at h1;rw[Aeg (gc xI AK3 _)] at h2|Bb8=>Sr (by show(AOO _)=_;show DU (WB e);exact e)|Bb9=>fq xE P5/\fN DR P5|Bb_=>∀(X:Cx)(id:KE)(r:AO_),_|Bb'=>AHn far (Au (by rw[z,hB] at q;show LZ))|BcA=>ϫ AIl f Kj (f n)|BcB=>Ais (i< D_ AHC AHB)|BcC=>Agb H1 AOy AeT h2|BcD=>⟨sl,o,e,p1,hc⟩|BcE=>(hg x).mpr (FV ⟨f,hf,q,ε⟩)|BcF=>EW nE (aA (yO C fl sp) t)|BcG=>∀{DV:ADn}{f g:ŵ},_|BcH=>∀{rs:FB}{f g:Row},_|BcI=>AxQ (ε AG C fl sp)|BcJ=>(BA hb (AO6 (hn b (AK2 _ hb)).1))|BcK=>Ce.free b o eb n hx|BcL=>by simp at h1 h2;subst h1 h2;show AhO|BcM=>(nX).at (AC' (hk I A1 o e))|BcN=>∀(K:AA) (x E2:Κ),_|BcO=>(AjD (ST v9 B5 DM) (ST v9 AZ DM))|BcP=>EqD A s v u (jy d d')|BcQ=>Axh hx ha hx|BcR=>(BG5 T_ Ad5 pg w os)|BcS=>ACJ [qD (ANr),qD H]|BcT=>(pN f v fs).map (·.1)|BcU=>APF ε (p_ "set.scan.the-table-gave-way") (Hn ())|BcV=>fun m a b=>(AMm (wR Θ))|BcW=>fun DS c d E5=>ε|BcX=>AeB kp hle n1|BcY=>AeB Ah1 Gc n2|BcZ=>PySem.Slot L7 EB id|Bca=>Cp ws' (VV ε) (Kq (pJ ps ws' u) bd)|Bcb=>(AzT.2 ws u A)|Bcc=>Aee AG ε c=Ε b|Bcd=>UA (fun e:g=f=>ε)|Bce=>∀{w h:Κ}(hh:AIH),_|Bcf=>Meets (ε (GY [N2,AI2])) ζ|Bcg=>sO.k (k:=kk) ea|Bch=>FH Ac9 1 Azc zdl|Bci=>FH AdK 1 AjM ZM|Bcj=>M' h' tk hS NW|Bck=>Uf AdS 4 L8 TJ|Bcl=>Uf Adi 4 "two" TX|Bcm=>Uf ALD 5 L8 TQ|Bcn=>Uf Adj 5 kN ZW|Bco=>∀{ns:CI} {AW:At},ε ->ζ|Bcp=>So (ANV ex.1) a e2|Bcq=>∃l,v= N2/\∃is,ε|Bcr=>gN EU (AWl (r8 b) (fun u KK=>ε) EU)|Bcs=>Tb 3 sE aU (AVc ε)|Bct=>hV (num at_+ ε*Kv (Μ&& ! AE)) 26|Bcu=>fun us s1 ⟨xs,H1,I1,r,z,q⟩=>(C5 BoM)|Bcv=>ANc o EB o o|Bcw=>ANc NC EB NC NC|Bcx=>fun u hu=>(dA UA (fun z:u=w=>AG_ (z ▸ hu)))|Bcy=>∀ms:Ρ,Ai5 ->(ε) ->AXH .AX|Bcz=>AyS ua BrF (D9 Ų)|Bc0=>(Ago L7 AwB [] HC)|Bc1=>(Ago L7 Awg [a] qo)|Bc2=>∀{K:AA}{c:Cls}{a:Ζ}{ds Q Ex}(h:ε c ds Q Ex),_|Bc3=>(k a zY _ e3)|Bc4=>FH Adn 4 [L8,kP] Z8|Bc5=>FH Ado 5 [L8,kP] Z9|Bc6=>(AhZ EJ (TU l1 h1 q1))|Bc7=>∀{S:CI}{n:AB}{bs:Hd}(h0:TH∈S)(hn:AXb),_|Bc8=>∃C fs ts,Cv= .pay C fs ts/\ε/\tt C fun th=>ζ|Bc9=>Ayl BrD Bon AxX|Bc_=>⟨F,Γ,P,R,h,k⟩|Bc'=>⟨F,Γ,D2,R.base,h,k.base R.gr⟩|BdA=>Ayq Nr Hq Ω|BdB=>Jx K x ε st f fd (BY T)|BdC=>Bnh (Awz UD) (Awz D.bk) (Awz D.ct)|BdD=>P (nG xs ys) Ω|BdE=>fun i a b z1 z2=>by simp only [z1,z2]
|BdF=>(by
 rcases EQ q with q | q
 ·show MT q hc
 ·exact zQ _ q)
|BdG=>ATJ (t' :=ATD) (Sr zn) Gc ?_|BdH=>AUk Ep Hk SB 4 Aw7 Wi|BdI=>AUk Ep Hk j_ 1 Aw7 zbw|BdJ=>∀(ho:Ayu op AXS)(ha:ZT)(hb:Ϭ)(hm:Aht),_|BdK=>BC BoH (sp ds Pd Ex) ((ε)) Axd (Azg ζ)|BdL=>SR K F1 H F1 H σ (gH Γ)|BdM=>SR K F1 H1 F1 H1 σ (mF Γ)|BdN=>∀{K:JA}{x:Κ}{st:AO}(h:ε K x=ex x x st),_|BdO=>∀{K:JA}{x:Κ}{g:GA}(h:ε K x=Ε g),_|BdP=>AIv h ->AT0 c h h' ->it≠c ->AIv h'|BdQ=>∀(Azh) (x:Κ) (C:Ζ) (fl:Κ) (k:Δ) (ps:Ρ) (sp:ε),_|BdR=>N' =A5++BIw (Fs (N.getD j ""))|BdS=>fun l=> .DC (uA EV HA)|BdT=>by show AI_ Cn;show Fu l xs hq q q1;show BU u Β rx ALm r1;show AD rx rx rx rx rx rx rx rx rx rx rx rx rx rx;show Bol;show AEP;refine call_reversed_list kX ?_|BdU=>∀tk,Q (s0 b) (Avq tk)|BdV=>g<wd (pI qs) 0|BdW=>∀u∈AWe,v u=up v w q u|BdX=>∀(I_:nk) (cs:ϥ),ε|BdY=>xj [v,ov,iv] (setItem ov iv v)|BdZ=>x6 AII p AhI|Bda=>Aex AN4 2 BM|Bdb=>(Gz qE L f)|Bdc=>ε ->G2 ->D1 (AiP) XW|Bdd=>ACe Iu/\xs.all Iu=Μ/\Ya (CD neg (! inD x xs) (inD x xs))|Bde=>zql (k:=ε) (ks:=ks)|Bdf=>hq H1 (ABr s2)|Bdg=>by unfold pJ;show Pf;exact wl|Bdh=>pj= .seq AW n/\Bn_/\KF xs BHa|Bdi=>P (qY n m (ZK k s a))|Bdj=>by show BU q hq e ATv ε|Bdk=>(zpb (hf c hc) (zK (ε c hc))).1|Bdl=>k b BF F2 H2|Bdm=>yn s3 (BIF (cq "slice" #[vl,vu,BM]))|Bdn=>fF z (gS z Xm b)|Bdo=>∀h' e,ε ->(∃o,ADK e/\AGh= SS BJC) ->Ai3 Sk|Bdp=>rq fO (Ū ε AW_ Axz)|Bdq=>(by rw[H_,BrT,ALl];show AF)|Bdr=>fS AzH (zzy C fl sp t)|Bds=>M' s us X hl|Bdt=>NA H' Hp Ahi (l9 ε)|Bdu=>k _ _ _ (U6 ks) AIq h|Bdv=>∃u,us= [u]/\å|Bdw=>VO (A k j) (hA k hk j)|Bdx=>(gI (gE (b∈as) H' Ŵ))|Bdy=>VS P8 (p.2= Sn ->ε DJ=Ε cz\/ζ DJ=Ε Sn)|Bdz=>AT1 h' Cl x y|Bd0=>(VV (.Dx [.AX w,Af6,.AU (qb bs (v w))]))|Bd1=>BoB (hf Ο s2 σ H2 _ I2 q2) (fun fv s3 ε=>AiX)
|Bd2=>(by
 rcases ADV with hb | hb
 ·exact ε
 ·exact⟨Sj hnc,AN5 hnc⟩)
|Bd3=>Pe td x (∃a,x= CF/\IsD H1 a/\Ï ty y (tx σ H2 fun z H3=>ε))|Bd4=>D.dik (AtV .BD) (jg (uA AtV vb))|Bd5=>fun⟨r,h,q⟩=>⟨r,ε,q⟩|Bd6=>∀C3:AM,İ C3 ->BoJ ->ε|Bd7=>(CD (a<0) (-a) a)|Bd8=>ø (ut y BH ε (.bl d) (UV x (.bl c) (Ya ζ)))|Bd9=>fun b hb hc=>(hnc b hc).2.2 i (A5 b hb)|Bd_=>BoI (Agf ATC ABi (AwR E3))
|Bd'=>(by
 rcases hq with Β | Β
 ·exact ε Θ
 ·exact ζ Θ)
|BeA=>∀{x:V}{u:AJ}(r:å),_|BeB=>∀{op:CmpOp}{r:R2}(ho:BoV)(ha:ö)(hb:AO3)(hm:Aht),_|BeC=>IF my (AxL ATI o ε (Pl ob AH5) Gc ?_) (q _ AIq)|BeD=>(AyU (Au (dis a ġ (z ▸ hb))))|BeE=>AOt (Ahh o f) FE (ε C f ta tv)|BeF=>fun i x v e1 e2 e3=> ?_|BeG=>∀{n:Δ}{f:ŵ}{i:Δ}(h:i<n),_|BeH=>AT7 OP h (mroOf KU) AsZ|BeI=>BoW kk ea hl|BeJ=>fun Be he b hb=>zW _ (Bqt ⟨Be,he,hb⟩)|BeK=>∀(rs:B7){k:Δ}(h:k<=ACN),_|BeL=>MW (z9o Β Β bx Β lK ε)|BeM=>(AOm fun k=>pZ (rk AOa AML AWq))|BeN=>(names.map fun ADp=>if (Bmu k&&Bmt) then Ahe else ADp).ABj|BeO=>ų GD Ax3 (VV ε) w hw ?_|BeP=>(Avt (EH F' E3 Avc) [(fl,v)])|BeQ=>∃ms:BI,ms.length=ACN/\∀j,ε|BeR=>∀(C:Ζ)(m:Κ)(sp:ε)(te:cD),_|BeS=>Bo2 (a::dx::bs) a zY|BeT=>(fun a ha u hu=>mine a u ha hu)|BeU=>∀{K:AA}{F:Hp}{d:D}{v:V}(h:TC),_|BeV=>k d Γ F H v R GH ε h|BeW=>JK CY w A E vs (RP xs) ε oneType'|BeX=>BpB (jh K C0/\Jp K C0) (.bl ε)|BeY=>∀{Ξ uY :B7}{ms vV :N1}(h:APH)(h' :Gw uY vV)(e:BpF),_|BeZ=>U2 Tc ε f fd C f1 f2 a1 a2|Bea=>VR (zO (lU (L.mm r hr)) Φ) Φ|Beb=>Ayz xo "dict.values" AuG Bsz PySem.F.type_dict_values hT hN ?_|Bec=>⟨xc,I.os,Ĳ,⟨AOT,AOT,ASy,Ai4,AeG,AS1,AeH⟩,EL hn' BpQ,li y c,xN,AGc,ip,ε,C6 AGd⟩|Bed=>w∈ (DQ Ξ h).map (gL B6)|Bee=>{oe with ABT:= ACU #[.B9 fv,BM,CF,BM,AXJ,BM]}|Bef=>fun obj EU=>obj= my/\EU=ε|Beg=>∀i j F,EJ AG F (d i j) (v i j)|Beh=>by simp only [ku,q,ε,ζ,η,Bqa,UK]|Bei=>∀(f m:Δ),1<=m ->m+f<=n ->ε ->ζ|Bej=>∀EU (P:dW),P BM EU ->AXV ε P|Bek=>(do BHf BE n BM;unbindBehindTheSuite BE n hp)|Bem=>Aza z73 (rS z0g (AJF ε) V') (A8 (.DV Β gQ.1 (gQ.2).k (AiG (bM  (Tb 2 sE DM aU)))) Φ)|Ben=>ER T EB id|Beo=>zwi sZ Rq ha'|Bep=>AT0 it A9 h'|Beq=>putSet_of es' t' hd|Ber=>(x.above y c (BH6 h))
|Bes=>by
 refine⟨BHa,r,ε,?_⟩
 have e:=SK;show Axq e;show AF
|Bet=>by
 refine BpH (.bl (ε id)) Β
 show BpK
|Beu=>∀{α:Ch}{DV:ADn},_|Bev=>by rw[<- Ni,AfV,<- EK,AMD]|Bew=>wK 5 (Kg (AGu ε) ζ)|Bex=>⟨hS,by show AV2 o hS;exact sw e,ε⟩|Bey=>Ez K i tb fun C A=>ε|Bez=>⟨(gG.2).k,(jm.2).k,gb,ε,kj⟩|Be0=>⟨m.base,m.few,m.line,m.trees⟩|Be1=>⟨cs,t',e0,q⟩|Be2=>AHA (dA List.map_id ε) (qq (Cb k hk))|Be3=>aC Ahs (jC S)|Be4=>∀{l r:Pt}(h:l.1<B6)(h2:l.2<=r.2),_|Be5=>J.type.andThen (W.looks_mroIn X c.g.ob)|Be6=>ε (Bv (s:=AOI) fl (As h6 Td up6))|Be7=>(gr R' s').f|Be8=>yH p _ pa ep|Be9=>ybg rs _ DS E5|Be_=>.pay NL [aT] [Kp (uF ε ζ)]|BfA=>(k (lt i j))|BfB=>(ABq (gr R' s'))|BfC=>(PR (As9== .class || (As9== .module&&W' !=BqM)))|BfD=>DJ=q.1/\Sl q.2.1 (GW (Aid kV))/\HQ p.2 q.2.2|BfE=>FH Adq 10 AiJ zf1|BfF=>.DH ⟨v w,lk,ε w hw,ζ,?_⟩|BfG=>(.While c L6 [] Ψ)|BfI=>PIg X tg OG wi|BfJ=>UV Ω[i]? (Ε AXQ) (g xs ds fun ys=>ε)|BfK=>ε AGr ((p,w)::P.zip vs) m p=_|BfL=>(fun v qV h₃=>z6 (ATB (z7 h₃)))|BfM=>(∀d,ε≠ RR)/\∀k,ζ≠ .kt k|BfN=>fS (.ALZ [.kK y py] nv spos) ε|BfO=>Kb (setNext S LN given ε)|BfP=>OR (6* (AVB+1)+ AyP)|BfQ=>Uf Ada 9 kM zfd|BfR=>(.AtN a [op,op'] [b,c] Ψ)|BfS=>∃f fd,ε/\Meth K C m f/\ADe|BfT=>∀x y P,g x y P ->ε|BfU=>lP (BJr (n:=ea) Nf Β ?_ ì)|BfV=>NO k7 X.A (qA MD us) (EP JO Ο σ Q) z.xe s|BfW=>AiQ AXt jX=Oy .AX|BfX=>NE (zkm AH k v)|BfY=>zzk I Ai1 hs he|BfZ=>far b _ (U8 he hd q n) k|Bfa=>Sb sy i l ε hv3 hd3 RV|Bfb=>BIs _ _ b o gu|Bfc=>∀x:Κ,ϕ ->mb x=BHQ x|Bfd=>∀v,v∈ws↔ (ε)\/v=ζ|Bfe=>⟨a,_,e1,Ax_ f,U6 k⟩|Bff=>pP K F' H' H0 s o|Bfg=>∀{t:qi}(hd:BoP),_|Bfh=>B0 (yh8 (i:=3) Β Fm  ε  (A8 (eY B5 ζ) fE))|Bfi=>by have DK:Bow:=BI4 R5.gr|Bfj=>AUp (AN7 aU aU aU ε)|Bfk=>⟨q,ns,Β,gU,ε,Jn l2 ms hl2 hp hs⟩|Bfl=>s.1=B6/\YU=Co|Bfm=>FH Ac7 1 [AGl,BHr] Wh|Bfn=>FH Ac8 1 [UF,ATF] zc|Bfo=>FH Ac' 1 [AGm,Atl] zcp|Bfp=>FH AdE 1 [AGn,eR] Wg|Bfq=>FH AdP 1 [IN,OB] Qj|Bfr=>FH AdQ 1 ["step",ķ] V9|Bfs=>iN (Nt (z ε Θ) (z ζ Θ))|Bft=>yhl u nw cw h|Bfu=>Í Gz x L f|Bfv=>(CD (v<0) (max (v+ Lw) 0) (min v Lw))=FA ε|Bfw=>FH AdA 2 [BHm,BHn] T6|Bfx=>FH AdF 2 [ABh,eR] zij|Bfy=>FH AdM 2 ["top",BHo] Mh|Bfz=>FH "led" 2 [SB,XE] ZR|Bf0=>FH Adl 2 [Aed,LM] Z6|Bf1=>FH Adr 2 [ALo,AGo] Z1|Bf2=>FH Ass 2 [L8,K2] Wf|Bf3=>∀(hn:ϕ :=by decide) (hd:HH:=by decide),_|Bf4=>fun⟨f,hf,k⟩=>⟨f,ε hf,k⟩|Bf5=>PtI ns b i Γ|Bf6=>(ig ks vs k v)|Bf7=>BindsTo.of_defaults Β (X _ _ hT) Β Β|Bf8=>∀q,Ë q ->M_ q (k_ q ε)|Bf_=>FH AdO 3 [kM,Atm] ZS|Bf'=>FH aT 3 [L8,kP] TY|BgA=>∀F ds P,Hb AIy Ahr (g ds P) ε (ζ K g vs H Q)|BgB=>{o with ABT:= .set es' (ep+1) t'}|BgC=>(ts.set q (X2 (jQ RT k2) (Awh RT k2)))|BgD=>fun σ H R=>tl σ H (y0 x (∃a,x= CF/\ ((ε)\/ (ζ))))|BgE=>∀{Ξ:B7}{ms:N1}{x:D3},_|BgF=>pj= .set es ep t|BgG=>Í pJ ps ws v<=40|BgH=>AVf xF 1 (AMZ IN) T8|BgI=>AVf AGZ 8 [NU,Md,XB] zbq|BgJ=>Ϫ (So (Ea p2 hc).1 u q)|BgK=>h2.imp id fun⟨a,o,b,c⟩=>⟨a,o,Υ,c⟩|BgL=>qD (vE 0 (jC Pi o) (gB Pi AjA o))|BgM=>Af4 ds (BA tr Bov) Cx Cx|BgN=>Agb H H' A9 am|BgO=>Agb AgG APK Ayx (Bnp (Ad9 C E3))|BgP=>∀(i:Δ) x Γ,r6 ds ->I i Γ ->AzK x (tb (AjF ε ζ) B4 E)|BgQ=>⟨s',o,q,p1,hb⟩|BgR=>ACO wB Asr 3 [LM,ALf] (Wd c)|BgS=>(Ago Ī AwB [] HC)
|BgT=>by
 split at e'
 ·rename_i hm;exact(hn b (zW _ hm)).2
 ·show Lc n e' e' e' ε ζ η θ ι ν ξ ο π ρ τ υ
|BgU=>∀l,RC l ->M_ l (cr l ε)|BgV=>((AyB).extBut.push _).P7|BgW=>(Os f).set q (f' a)|BgX=>fun b o _ hb _ e n=>ε b o e n hb A1|BgY=>APA (AXm ε) (ζ it a i kC ep)|BgZ=>fun x C' O9 F' H' hE gr xr=>⟨x,F',hE,gr.low sH,xr.back sH⟩|Bga=>J7 pl K tb fun C D Γ E=>ε|Bgb=>aac Bnv sI ws Ahq|Bgc=>AUF _ (zO BoF (Ayw (ε<=200) C8 ζ))|Bgd=>Ĺ x ((CD AzQ Ahe (n,k0))::_)=_|Bge=>FH Adp 6 [LM,kP] Wb|Bgf=>AXM MN ε Mb JE Mn ζ|Bgg=>∀a ds Q Ex,sp ds Q Ex ->ε|Bgh=>AXf (Ago eA Av_ [a] qo) ε|Bgj=>∀{Ξ:B7}{ws:Ρ}{ps:AXv}(B:Ay8)(u:Lu),_|Bgk=>UM f ts vs as Boj r|Bgl=>AXn D kH (t D σ H) ε (SP X Ο D)|Bgm=>∃m xs ys,n=m+1/\d= ε/\d' = ζ/\AhL (nu m x y)|Bgn=>∀(m:Δ) (u:dS),(eF m (ACk (- u c)))= - eF m u|Bgo=>z8z L x hi i0|Bgq=>(U i AOn q' Θ)|Bgr=>yck (Y:=Y) (e:=1)|Bgs=>⟨_,es',ep',hL,r'⟩|Bgt=>(NT x (gD Aic B6)).map qD|Bgu=>∀{K:AA}{F F' :Hp}{d:D}{v:V},_|Bgv=>¬(a.1=b.1/\a.2.1=b.2.1)|Bgw=>∀x c v,AHi ->AyQ ->ε|Bgx=>DF [SB,XE,ε,ζ] [SB,XE,η] θ|Bgy=>(CD (v<0) (mT v Lw) Bog)|Bgz=>∀d v F' H,Bo' ->ε ->ζ d ->Aym|Bg0=>AjG (∃a xs,vs= NG/\nZ K H1 a xs/\ ε)|Bg1=>∀{X:Cx}{Ο:d8}{σ:St}{H:Hp},_|Bg2=>Ħ=jk ws v|Bg3=>fs (uD p s i) j - fs (uD p s i) p/Air*fs s j|Bg4=>Builtin.Slice.sliceAdjust lo hi 1 Lw|Bg5=>ATM E2 Kt Cl f|Bg6=>Aek AG KU K0 =Ε (D9 MD)|Bg7=>∀{AH:t_}{vs:AWu}(r:AVv)(k:κ){y:V}{u:AJ}(ry:RY),_|Bg8=>(aZ st).BIv y.1=Ε ε|Bg9=>(h r zY c).mul|Bg_=>bZ (BnF he ε I (APP r ?_)) AyE|Bg'=>FH AdX 5 [IN,OB] zh1|BhA=>FH AdY 7 [eR,OB] zb0|BhB=>rP (S.map k) x h|BhC=>by show FC sl hL u.any ho xN ε|BhD=>⟨l,ns,Β,AWA,by unfold Auq;show AF,AyN⟩|BhE=>(eF m (AEU (CD (c<p) (- AXd) (AzE c))))|BhF=>AOd zoc (TU p ε (fun l hl=>k _ _ l rs hl h))|BhG=>∀{Ξ:B7}{ms vV :N1}{x x' :D3},_|BhH=>AW5 (Ah0 d v ε d ϋ) ζ|BhI=>AW5 (Ah0 ds vs ε ds (Q vs H')) ζ|BhJ=>∃as fs ts,AV6 AzA/\f∉fs/\Ayg/\G6 AVT=Μ/\ε|BhK=>Jx K ī ī Oj f fd (BY vW)|BhL=>⟨Β,B',S,AXy,ε,Oy C_,Oy (TK (qD (x h))),Β,YE R.el,?_⟩|BhM=>SlX K F H H0 as C fs ts o|BhN=>QS (ABu b0) F0 H0 (.Raise (D9 (Afo AUr APG)) (D9 (.AS7 BM j cp)) Ψ) (zvb C f1 f2 t)|BhO=>∀(c:Cls)(p:Hv)(sI ws:Ρ),_|BhP=>XQ K F H H' dx fs ts
|BhQ=>(by
 have e5:=(Ph e5).1;show Af5 e5 e1;show AD e1 e1 e1 e1 e1 e1 e1 e1 e1 e1 e1 e1 e1 e1;rcases Dv e4 with ⟨j,t,Β,Β⟩ | ⟨x,t,Β,Β⟩
 ·exact nI
 ·exact nI)
|BhR=>Au (c4 y a ha' ABv)|BhS=>by show BU m hn hl id pp|BhT=>W.set_plain (s:=AM0) X J c.sa ?_
|BhU=>by
 split at e
 ·show Do;rename_i A_;show Bn9 A_;refine ε;rw[Aeg (by rw[C8,<- hl];show AF),ATN,DZ ζ]
 ·show AJN
|BhV=>fun z E cx=>MN (Da ε hg hm G1 hs) ζ|BhW=>∀{xs:At} {as:EO AjK},vX xs=Ε as ->ε|BhX=>AMz j hj k j hj|BhY=>∀(K:JA)(f:Ζ)(E2:Κ),_|BhZ=>fun u e=>(AjQ (hx A2 u e))|Bha=>AgU ε x C fl k ps sp|Bhb=>⟨Β,_,AXA,_,ε,_,at1,?_⟩|Bhc=>ic ε (Pc (Pm n r.2/\1<=B6/\B6<=n/\Up lt r.2 B6))|Bhd=>vH knd kf ADo h' Cl (mY val XG)|Bhe=>(match nsIn K pe x with | AyC MD=>ε K f x | _=>Η)|Bhf=>∃f fd,ε/\AJI/\AWm/\AOq/\AyO/\ζ|Bhg=>∀F ds P Ex,AIy ->BC Ahr (sp ds P Ex) ((ε)) Axd (AVz ζ)|Bhh=>l_ ds AR vs AQ MV (ds.all Iu=Μ) ε|Bhi=>AEQ (Axh LU hq0 LU) (Ax6 (iB e hq0))|Bhj=>AIY (setFlight e Η) (KS qV (AIY (BJ9 e BE hs) (SP JO Ο D) qV)) KK|Bhk=>Bo4 (ds= [AhY]/\Lu/\t7/\ε/\ AyM/\∀ms x,nL ->ζ)|Bhl=>Bo5 (∃C,Cv.cls=C/\Aih/\fh C Cd/\ε)|Bhm=>∀{h:AM}{H:Hp}{b:Ζ}{o:Obj},_|Bho=>⟨ef s2,mi ε C8 AG1,li i s,fun i j a hz=>by obtain⟨s,o,e,_,h⟩:=hz;exact gS h (Jt i s o a) e⟩|Bhp=>∀(Ξ:B7) (r:Κ) (g:AL) (ps:FD) (bd:Hd),_|Bhq=>Afp (BY ε) K0 MD/\AWm|Bhr=>∀j∈Fk,j<ALt/\ALS (N.getD j "")=Ε Sn|Bht=>AuL i (s:= ε) ⟨v,Β,nd,ſ Ϥ (AN5 hn),r1⟩ fun a ha=>(hn a ha).2.2|Bhu=>wpAny_newFunctionEnv_cells Atw hkind (M' Be he s1 x)|Bhv=>(X2 ks (ts.set q (FF (AVH (xs++ [d])))))|Bhw=>(pl=Μ ->∃C,x= HU)/\ε/\tt x.cls ζ Ω E|Bhx=>zvb P5 Md Ĩ (GS AS ε)|Bhy=>(Slot.xe (ANQ cs) C fs ts)|Bhz=>(z3b B.nd l1 l2 (by rw[l1',l2',z]))|Bh0=>(Ug H hA ll.1 zl)|Bh1=>[.AS7 (M3 d) j p1,e]|Bh2=>(rk AOa AML AWq).ABe (n - e)|Bh3=>zt0 (g:=ε) (μ r) (iE ζ)|Bh4=>NO M A ε Q E AM0|Bh5=>BC ER ER ER ER G2|Bh6=>ATJ kp hle (ydi ge)|Bh7=>yhj R1 Ϝ (Ae1 s1)|Bh8=>(∀t∈ts,∃ks us,t= AI7 us)|Bh9=>(ε (u:= ζ) (AIL zY) (hn a zY).2.1 (hn a zY).2.2).frzM|Bh_=>ACO Rv ī 7 AjL (T7 c)|Bh'=>ACO S7 Adt 11 AiJ (Wj c)|BiA=>by show GB hkw Fh X qS qS|BiB=>BnW/\RC DJ/\DJ≠W'/\DJ∉kF/\∀v,(p.2).ABT≠ .cell v|BiC=>∀{c:Cls}{t ds P E}(h:Ql c t ds P E),_|BiD=>(BHu X hcd).andThen .now|BiE=>cE (Bo6 (seqObj L7 #[] 0))|BiF=>AIO<=i/\i<2^62/\ AIO<=j/\j<2^62|BiG=>FH ALE 6 [kN,ae] ZX|BiH=>FH Adv 4 [ALj,xp] zco|BiI=>Ic (by rw[e];exact k _ _ F H (ef sF) JS h)|BiJ=>jr A (ix i) c|BiK=>[IN,UH,OB,"both","through_works"]|BiL=>[ABh,eR,Ĩ,"together",AGn]|BiM=>[AhY,.AX r,qD g,yx c ps,yC bd]|BiN=>MS (ne c _ z Ay2) z|BiO=>⟨AK_ AK',BGk [],boot_drawn,boot_toks,os⟩|BiP=>L.back (ATn gr) (ļ L_)|BiQ=>ACT ((ATb AXP).P7 AXZ) t|BiR=>∀(te:cD)(tl th:M5),_|BiS=>Pe ty y (Ï td x (Aiv o (AO4 H2) (Q (.bl ε) H2)))|BiT=>∀a vs bs,Ý ->BC (as=š) ε iA (R vs bs) ζ|BiU=>∀{i:Δ} {e:AB},ε ->AXa
|BiV=>(by
 rcases EQ hm with hm | hm
 ·exact hb hm
 ·exact nfr b u eb hm)
|BiW=>(ACW H1 AtY a z_ (ATl a _ ea))|BiX=>by ·have e:=Wz EA ho2;show ANv;show ANv;show ANv;exact cf e Su|BiY=>∀{α:Ch}{f:AD_}(h:∀a,Fb (f a)),_|BiZ=>∀(lo hi:Sm)(n:Δ),_|Bia=>X9 BnL (zxp hbt hg O ?_)|Bib=>ds= [.AX h,ε,Aip]/\t7/\AOv/\ζ|Bic=>l6 ⟨F1,ds,_,LU,r1,h1,ε⟩|Bid=>∀{Ss LR fs fs' :c_},_
|Bie=>by
 by_cases h1:ε
 ·show ϣ h1;have e:ζ:=zF h;exact⟨IC η e,Υ,θ,ι⟩
 ·show AXp (Cc h1)
|Bif=>Pe to x (U4 K T x H1/\ε)|Big=>yF Ξ ru g qE ws v
|Bih=>(by
 rcases LO hu with hu | hu
 ·rw[<- eo u hu];exact hv u hu
 ·rw[ł hu,ev];exact⟨eb,hq⟩)
|Bii=>Un (frs O_) ch H H' A9 ε|Bij=>AC' (Aut S o hw e)|Bik=>∀w∈AWe,Aya=Η/\tG AwO ru (v w)|Bil=>jF (bE vs) k=Ε v|Bim=>∀i v,ε ->AfK (val i) v=Μ/\AV5|Bin=>(by repeat (first | show ADt he | show ADt hC | show Aiz hC hcB | wp_step))|Bio=>ô (by show Ct r h1 h2 G.hand hm hz;rw[<- h2];exact hr r h1)|Bip=>(sortedHeap h a vs out).Hm|Biq=>∀(hA:∀ds vs,AI' ->MV ->AIc),_|Bir=>∀{k:Δ}{A:Bi}(r:Aij),_|Bis=>dD (ε)<=max (dD i) (dD j)+1|Biu=>∀i∈ε,∃k:Δ,i=F9/\ζ|Biv=>ATM E2 Kt Cl f cd|Biw=>⟨m,hn.sameBut hsb hac,AyA ⟨_,H',I6.turned (t' :=s6.toks) (it:=C) (AMc BnT) c1 c2 (FV c3) c4 c5,q5⟩⟩|Bix=>∀(hc:Ϧ)(hm:Meth AG C m fa)(Fn:AgU gK (Afj fU) k fa fd ps Axb),_|Biy=>(ň (yz AjP "append" ap2) AzP Zm)|Biz=>⟨_,_,_,Β,Β,Β,hc⟩|Bi0=>Pe t xs (Ail (∀p,Ë p ->M_ p (k_ p ε)))|Bi1=>g x Γ0 (BA Ω (tc Ω (fun b BF=>(JU b ε í)) jO)) jO|Bi2=>(match Rm d T with | Agi=>ε | Η=>D6)|Bi3=>fore T_ topGo p w os
|Bi4=>by
 by_cases e:l1=l2
 ·rw[XT e];subst e;exact BrO _
 ·exact SeqAt.EqAt.of_refs e rc
|Bi5=>by
 have:x≠n:=by rintro Β;exact h v zY
 simp [Τ]
|Bi6=>by rw[ATt A_] at hc;have R2:=Ae_ ε;refine ζ|Bi7=>AXO xj (AWs [_]) (AyZ slot_list_sort (N0 hoL) entry_list_sort ε args_list_sort)|Bi8=>AXU (checkCount eA 1 1 _)|Bi9=>FH Ac_ 2 [UF,Ate,BHl] zfb|Bi_=>FH AdL 2 [SB,XE,xk] ZP|Bi'=>FH ASj 2 [L8,xk,ķ] Z5|BjA=>((l5 (k a (by rcases LO ha with z | z<;>simp [z]))))|BjB=>(AiG (bM  (A8 (zy9 hA Β iD Qb) (HT AZ G7))))|BjC=>fun a ds Q Ex h=>ε h|BjD=>∀b o,BC t6 N3 ε (b∉ex) ζ|BjF=>∀{Ss fs:N1}{U:Ρ},_|BjG=>AT2 _ _ D.TOi1 (AL8 _ _ D.TOz hTO)|BjH=>∀i h h',tn i h ->(U1 fp (∀o,t6 ->ACp)) ->tn i h'|BjI=>⟨AiD,_,ε,Υ,zq,?_,g4,?_⟩|BjJ=>tc BF (fun w Γ3=>g' y w fun d=>P d Γ3) E|BjK=>(Agw (∃x F',(Ho x/\Agp)/\Gr Nr Hq F' H' /\Ags Hq))|BjM=>AfB _ _ ε (ζ _ _ c4 (AG9 _ _ c2 (AT2 _ _ c3 (AL8 _ _ c1 η))))|BjN=>(L6 ds vs rs I UE)|BjO=>∀(hs:fR si a [b]:=by rfl)(EI:AHf [b]:=by rfl),_|BjP=>FH AdT 5 [IN,UH,OB] zkw|BjQ=>FH Adw 5 [ALj,Ath,Ati] Wl|BjR=>∀(K:AA)(H:Hp)(a:Ζ)(xs:AQ),_|BjS=>∀(K:AA) (F:Hp) (R:AWc) (v:V),_|BjT=>AJA ACr Aeo (BY fa) (GY NG) BpJ EU|BjU=>(AhZ EJ ⟨l2,us,AOg,h2,q2⟩)|BjV=>∀{P:Ρ} {vs:At} {i:Δ} {m:EN},ε|BjW=>Bnh (AU3 (UD (Γ'.set i B8))) (AW4 D.bk) (AW4 D.ct)|BjX=>Ay6 (zO (Wn (BpS j)) (mx ε Θ))|BjY=>Ay9 (∃a o AH,v= CF/\AN6 z_/\ (AVF ->R ε H1))|BjZ=>(AOs*tb (uD p s i) j - tb (uD p s i) p*tb s j).Ġ d|Bja=>AzN (uv t' (HZ t')) (fun _ Cx=>E Ω Cx)|Bjb=>z36 hex hst hfr hN hi hl hb ε|Bjc=>∀v,isW Ξ v ->ŕ v w ->pG r g (vJ Ξ ADQ v)=Η|Bjd=>∀u,isW Ξ u ->ŕ u VY ->pG ru g (vJ Ξ qE u)=Η|Bje=>∀(AzZ){x y a b:AJ},_|Bjf=>H1 l=Ε Ag1/\kz H1/\g6 xs ws/\g xs [] Pd/\∀ys us,g6 ys us ->Pd ys ->Q BH (k_ l Aw8)|Bjg=>Bn6 (VA DJ=VA p.2/\(DJ).OC/\VA DJ<=jp/\∀h,h∈DJ↔h∈Ŋ yD)|Bjh=>fun c ob q n hc hx=>ε
|Bji=>(by
 refine BoR (fun c v hc q=>k c v ?_ q) AXw nr;rcases hc with z | z
 ·rw[z];show tI W5
 ·exact W5 c _ z)
|Bjj=>ε q aS (Bp2 p.main.body) Xt Μ s|Bjk=>∀(lt:vF)(p:u_)(r:Δ),_|Bjl=>∀(AH:t_)(k:κ)(v:V),_|Bjm=>∀(hN:XA)(hi:IG)(hx:AEH),_|Bjn=>fun Ο s σ H Q I h=>ε|Bjo=>∃l ws,v= N2/\H1 l=Ε Ag1/\Q BH (k_ l AUq)|Bjp=>hJ.2 i H' F' sF R'.g hx'|Bjq=>[.kK NU p6,.xn (AIF p7) fl p8]|Bjr=>∀{binds:AOo} {m:EN},(∀v,(x,v)∉binds) ->ε AGr binds m x=m x|Bjs=>∃p ys,xs= [RI]/\ (ADr nZ p\/ADr xY p)/\ε|Bjt=>⟨F2,BF,_,R2,h2,fun u Γ3 F3 H3 R3 s3 h3=>ε⟩|Bju=>fun t v as F' H' gr nd hn rt hp=>kk t Ω F' H' v as AIa AhA nd BpE rt hp|Bjv=>Jq A2 J AO5 (gX K g) (tX K tc) (ε K ζ) Q Ay3|Bjw=>⟨x,H1,I1,rx,F1,Ω,d,R1,sF,rd,q⟩|Bjx=>BpO ⟨F5,Γ5,R5,ĺ (BI2 (s4.trans s5)),q⟩|Bjy=>fun u hu l=>(hv u (yao so hi' ((wm u).mpr hu) l)).1|Bjz=>by have:=Qg (α:=Κ) 1 (l:=AGV ε)|Bj0=>Ai' - aC (gD Ξ B6) AwS/ BB (AMX gD B6)|Bj1=>∀j (g1:j<AG5) (g2:j<ATr),BIJ qf s Ax8 Ax9 (Azf j)|Bj2=>by generalize VY=w at tk hw AG_ ahead⊢|Bj3=>.of_wp fun CY w A R s h=>ε|Bj4=>by refine⟨⟨R6.gr.f,MX,MX,R6.gr.n⟩,R6.len,li j sl,R6.ap⟩|Bj5=>BG5 T_ Ad5 pg w os|Bj6=>I.call' os un D4 HP Ai2|Bj7=>Calls.call_function_entry kind_sorted plain_sorted entry_sorted (args_sorted1 _) (E_ (AVX (Builtin.«sorted» _)) ?_)|Bj8=>z6r hex hst hfr hb hh|Bj9=>G y4 y5 y6 y7 ε B8|Bj_=>zxq S hr.hd e0 ε r x|Bj'=>[AXF,.Dx [.DC (Cp ws' _ _),_]]|BkA=>⟨i,sl,o,q,e1,hb⟩|BkB=>∀(hu:im)(hi:Ayj)(ho:AXl),_|BkC=>∀(he:Rc)(hl:E9 QO lo tl)(hh:E9 QO hi th),_|BkD=>fun ds P E=>sp ds ε E|BkE=>X4 K g x y H Q|BkF=>⟨AiD,bd,ε,Υ,zq,Υ,II g1,ζ⟩|BkG=>∃od,ε/\∀EB,W.lookIn EB od=Ε (mA EB)|BkH=>∀{rs:FB}{DS E5:DA}{c:Δ}{f:Row},_|BkI=>LeftO ε q aS ζ (BA s AzW) good 40000|BkJ=>∀(X:Cx)(tg OG:AK)(wi:TI),_|BkK=>(fQ CX P w K mg C3 N E2 Kt f cd A DD s H E)|BkL=>fun s' A2 c' hm hS' ľ=> ?_|BkM=>Hb (dx≠x) (GT H' (XO x C (D9 dx))) (H' dx=Ε ε) (∀b,b≠x ->b≠dx ->H' b=ζ b) AxD|BkN=>⟨ε f,ζ,AXj,iP (Ww (gs k) Boq Φ),?_⟩|BkO=>[kM,ABh,eR,OB,IN,xF]|BkP=>HI (AXu fun b=>AJL) b (φ (A6 b)*g b) ε|BkQ=>∀{n p M N:Δ}(Av4),_|BkR=>∀ms x ws u,nL ->Ayf ->ε ->ζ|BkS=>FH AdN 1 [SB,XE,ATG] ZQ|BkT=>FH AdU 6 [IN,eR,OB] ziv|BkU=>FH Adf 4 [ALo,AGo,"x"] Z4|BkV=>FH Adk 8 [ALi,Ato,ALh] zd1|BkW=>AUk DN js ALH 5 (AMZ "x") V8|BkX=>AUk Sh ABN Hk 9 Aze Ql|BkY=>l_ xs AQ us At ia BoT ε
|BkZ=>by
 split at h1
 ·obtain⟨a,o,vs,Β,ea,EK,rs⟩:=r;exact⟨a,o,_,Β,LU _ _ ea,AyR ε⟩
 ·show ê
|Bka=>Ŷ (Ϛ tl l (th BF (fun u Γ3=>(UV d ε ζ)) E))|Bkb=>hs i x σ _ (y xs q) p|Bkc=>∀(AV0) (F0 H0 F H:Hp),_|Bkd=>br J4 F H σ Γ F1 H1|Bke=>∀{AGr:Κ ->M1 ATL}{x:Κ}{v:AJ},_|Bkf=>zht (Kt:=sc) (Be:=BE) P8 ε|Bkg=>∀d z F' H',tw ->AMe d z ->P d ->Q z H'|Bkh=>(by simp only [EJ] at r;show Ai6 h1;(show AXz) <;>simp only [EJ] at r' <;>first | show AX0 | show AX1 | (obtain⟨_,_,z,h2,_⟩:=r';show MR;exact(zwo I ε ζ).UC))|Bki=>∀a vs,BC Ý ε iA (R vs) (ζ F ks R v)|Bkj=>fun i s Q E hi st hQ=>ε|Bkk=>Bv (s:=AUg h4) held (As h5 fl Zg)|Bkl=>Hc (∃(S:CI) (n:AB) (bs:Hd),ε)|Bkm=>Hc (∃(Ξ:B7) (ws:Ρ) (h:Κ),ε)|Bkn=>∀B4 F' H' DI,br SR F' H' DI B4 ->Go ->P B4 ->Ax2|Bkq=>∀{P:A0}{w:An}{K:AA}{mg:EN}{C3:AM}{ε:ζ},_|Bkr=>∀{xs:AQ} {us:At} (n:Δ),ia ->KF (ε n) (ζ n)|Bks=>∀{ds:AR} {vs:AQ} (n:Δ),MV ->Qr (ε n) (ζ n)|Bkt=>∀(Ayv){σ:St}{Γ:G2}(R:IJ),_|Bkv=>U2 Mk2 ABM js ac 4 Ax7 (Nv c)|Bkw=>U2 SX xD NL aT 4 Aie (Wa c)|Bkx=>(a k k*a i j - a i k*a k j).Ġ p|Bky=>fun c o c1 c2 c3 c4 e=>ε|Bkz=>TrY h B e cls dd fl|Bk1=>VW (FA AVh==0&&iS==1) (AxX==XG)|Bk2=>PP (LV pD) AIT Η=C4 ABU 1 pD|Bk3=>ANs D4 eb ε (hZ q Bn0) fun c xs q=>Bn0|Bk4=>nG (IE f) (IE g)=IE (FK (.Dx [f i,g i]))|Bk6=>∀{ks:GE} {xs:AR} {vs:AQ},AIV ->ε|Bk7=>∀{AH:t_}{vs:AWu}(r:AVv)(k:κ),_|Bk8=>fun IQ h1 d tk hk hm A_ NW=> ?_|Bk9=>(Os AiV)=(pJ ps ws v).map qD|Bk_=>∀(c:Cls)(Ξ:B7)(r:Κ)(g:AL)(ps:FD)(bd:Hd),_|BlA=>{s with heap:=h',drawn:=d,toks:=tk}|BlD=>∃l xs ws F Pd ds,v= N2/\H2 l=Ε Ag1/\kz H2/\g6 xs ws/\g6 ds vs/\g xs ds Pd/\∀ys us,g6 ys us ->Pd ys ->Q BH (EH H2 l Aw8)|BlE=>⟨F0,iw N AXR,_,Ve sF (uc JS rs),hq a ds Pd Ex hsp,ε⟩
|BlF=>(by
 rw[AL'] at nd;rcases LO hx with q | q
 ·exact nd.2.2 x q x zY Β
 ·exact Afv nd.2.1 q)
|BlG=>fun ε Ο s σ H Q I q=>h ζ Ο s σ H Q I Bk5|BlI=>fun i v s' Q' E' hv hQ=> ?_|BlJ=>fun Γ3 F3 H3 σ3 R3 s3 q3=> ?_|BlK=>by rw[W.osa_eq,refuse_eq];refine z6 (z6 (Bnq hm ?_));rw[yb,Bsb,zj3 _ ht];refine z7 (z6 (Bnq (BHv X hn) Ayb));show BU cd' hc' hd' W.any_some c.hd;obtain⟨oc,od,oda,osl⟩:=o;subst hc hd;refine BoQ (Bqy hx (z6 (Avr (BHu X hc') ?_)))|BlL=>(lE r g ps ms x).xf YU|BlM=>⟨RP ys,_,_,mo JC z1a ε,Υ,z12 rv,FR _ IP,BpT hl⟩|BlN=>k l _ (AiK hlt2) hms (zwm a2)|BlO=>(kS (kS (kS hl2 AL8 D.l2z) AT2 D.l2i1) AG9 D.l2TO)|BlP=>∀(C:Ζ)(f:Κ)(ta tv:TE),_|BlQ=>∃i vs DI H',Inv APO [] DI H' s' /\BoD/\ Ahi/\ε|BlR=>z30 I S ε i x v h1 h2|BlS=>∀{g' :Ϣ}{t' :Δ}{d' :AS0}{ch:CH},_|BlT=>∀(c:Ó)(n:hG)(he:ACY ta)(hb:AMw f),_|BlU=>ATo (first:= NG) (h₀:=SH) ATp hm.kp ε ζ η|BlV=>∀(Fn:AxQ Axb)(hr:Ÿ)(hb:APB)(cx:AvV),_|BlW=>by show Do;obtain⟨a,oe,dx,vs,Β,e2,_⟩:=r;refine CU CF Β;exact KW a oe (s1 _ _ e2)|BlX=>by show Do;obtain⟨a,vs,Β,h1,h2,h3,rs⟩:=r;refine CU CF Β;exact TU a (AHc ε) (AL7 s1)|BlY=>⟨F2,H2,F3,Γ3,_,R3,q3,fun b Γ4 F4 H4 R4 s4 q4=> ?_⟩|BlZ=>by have ABy:s.heap.IsTupleIter it l i:=hit;show VI o ho hc hd ABy;obtain⟨ol,hol,_,nl,hdl⟩:=(E_ (Bqs l xs) hl);refine z6 (APD BJB Brq (ANk Brq BJB F.entry_tuple_iterator_next F.args_tuple_iterator_next_1));show BG (?_:AXh (field ANe 0)) (Bn1 N2);show A7 (Bnl (Awd (T' l)));refine Bn1 (ť i);refine fw Auh hol hdl;simp only [qh,hx];refine ε|Blb=>ALn k7 (X.A.mark (Ε ED)) (.handlers ED (Aig Η ε AH7 hp) BE) (ft KK (Axp (.ok f) ζ (.kT x) (cameBackBy k7 X.A BE z.xe x KK))) AOI|Blc=>Box (Da U3 (ε hc) hg hm hb (Lj inner Ou he2) Φ Φ he2)|Bld=>∀{P:A0}{w:An}{K:AA}{mg:EN}{C3:AM},_|Ble=>r9 qf (Bsd dx BnV EB v) (u7 EC (EC= AyJ BM/\ANL)) AVZ s'|Blf=>∀{K:AA}{F:Hp}{a:Ζ}{vs:AQ}{xs:AR}(hq:Ays)(rs:AIV)(hz:AOj),_|Blg=>zu1 (Be:=BE) (DD:=ABV) (I1.ok.frames.trans (P6 Ε hst)) hfr (VZ hst Gi) (As h4 held Zf)|Blh=>J4 AG F0 H0 F H σ Γ F1 H1|Bli=>∀(BpP)(hN:XA)(hi:Ayy)(hl:Ayc)(hg1:Gl X x1),_|Blj=>(Atz EB E2 params L6 Kt dV kV doc pm an cdv ct)|Bll=>[ĩ,eB,BHi,"dict_reverseitemiterator","odict_iterator","itertools.zip_longest","itertools.pairwise"]|Blm=>∀{x np C b su hp th},J_ ->BC AEM Aib ε HH ζ|Bln=>Hc (∃Ξ r g ps bd,ds=aad c Ξ r g ps bd/\Azd/\ε)
|Blo=>by
 simp only [BII,ax,BrN,show iS>0 by decide,xx]
 by_cases h:i<0
 ·simp only [h,xx]<;>(show qr)
 ·simp only [h,ALw]<;>(show qr)
|Blp=>UY z2z z z vs vs E8 ε xs xs|Blr=>ŝ BnL (zy4 (ep:=ep) hbt hg O hdr)|Bls=>by show GB AW r pl hz ε;obtain⟨j,h1,h2,h3,h4,h5⟩:=z0h he;show BU w ew tZ r.get h2;have hl:=SK|Blt=>(kI (kI (kI h2 AL8 D.i2z) AT2 D.i12.symm) AG9 D.TOi2.symm)
|Blu=>by
 show ADx AIX Y_ Y_;show BG AzF (fw BsF ho hd);have hown:Builtin.Dict_items.ownsTuple BJ5 =AE:=B'
 show BQ (AVO (AOO (Awd (T' d))));show A7 (Bnl (Awd (T' d)));refine AIX;show Bn2 Bs4 AIX;show Bn2 Bs5 ADz;simp only [show¬(MU<0) from Υ,ALw,qh,ε]
 refine Y_
|Blv=>BC TB A0 An Δ (BC fI Δ AC Thread ε)|Blw=>AJJ (∃p xs i v,x= RI/\y= GG/\ε/\AIb xs v/\Q v H)|Blx=>∀{Be:Env}{s:AC}{f:Ζ}{y:Κ}(Bo3),_|Bly=>∀{x:D3}{L:Ρ}{f:ANS}(O:Fe x L f),_|Blz=>Ae2 (z37 (f:=f) Ļ M.makes M.init (AGp M.fn) ?_)|Bl0=>∀(t:T) (v:V) (as:CH),ε ->AIe ->TR K F' H t v as|Bl1=>∀(ts:ID) (vs:AQ) (as:CH),ε ->ADd ->fu K F' H ts vs as|Bl2=>∀{K:AA}{F:Hp}{a:Ζ}{o:Obj}{ks:GE}{vs:AQ}{xs:AR}(e:AyK)(EK:iA)(rs:AIV)(hz:Bor),_|Bl3=>BpU (ho Ο s2 σ H2 x y v u Q I2 rx ry q)|Bl4=>∀(kV doc pm:AJ) (an:N4) (cdv ct:AJ) (ε:ζ),η|Bl5=>⟨⟨oc,od,_,_,_,_,_,_,sl,ε,e,c⟩,k⟩|Bl6=>(fun h' c' kp e=>EC AW r' hz h' c' kp e)
|Bl7=>(by
 rcases Dv hv with ⟨j,u,Β,Β⟩ | ⟨y,u,Β,Β⟩
 ·rw[ε] at h;exact ζ h
 ·rw[η] at h;exact θ h)
|Bl8=>(stT c Bnv sI ws Ahq AM8 (mW Ξ) u)|Bl9=>∀{x:D3}{L:Ρ}{f:ANS}{r:Κ}{ε:AL},_
|Bl_=>by
 refine ε mh (c:=x.cps[i]) Ax0 (iX e_ sb)
 have I1:yk (AMV AHq):=Afx (Ata (t' :=AHq)) (Æ sb hb e);show Ayp;exact OS (Oq (s:=AMV AHq) e c d Φ ⟨.AX ⟨#[x.cps[i]]⟩,H,I1,E7,⟨Β,_,DL hx,Β⟩,⟨hx,e_⟩,AOS⟩)
|Bl'=>ACh {s with heap:=h',gens:=g',drawn:=d',toks:=t'}|BmA=>∀(C:Ζ)(m:Κ)(sp:dM)(te:cD)(t:c7),_|BmB=>z0w (fun r:Rw=>fb) (B:=2^100) (l:=AM6) fun r hr=>AGb (L.mm r Ai8)|BmC=>ds= [.AX r,AIp,qD g]/\AXN/\Aii/\ (∀q∈qs,AON)/\rQ r/\ (Ayo)/\Bg c r g qs (BA v ε) fun f=>ζ|BmD=>staticsOk (Bp2 p.main.body) (AK_ AK') A9&&namesBound p A9&&gensDone s&&laidKept (AK_ AK') A9|BmE=>ε (ATM E2 Kt Cl f cd).AGr (Aef us) Axs|BmF=>(.of (owner:= AMA) (n:= ε) (by show Bni;kernel_rfl) Su Su Su (by first | exact CS Su | exact C_ Su) Boe)|BmG=>∀(c:Ó)(n:hG)(ha:PE X o ta)(hv:Ay0)(hs:AjH o),_|BmH=>∀{X:Cx}{Ο:d8}{σ:St}{H:Hp}{s:AC}{ε:ζ},_|BmI=>fun Ο s σ H v u Q I r q=>AgK v u Q I r (LX hi q)|BmJ=>[ALj,Ath,Ati,"_law_table",xp,AGm,BHs,"_law_found","_law_hand","_law_strange"]|BmK=>⟨ε,ζ,η,θ,vT,fun _ _ _ _ _ _ _ _ _ q=>SO,fun _ _ _ _ _ _ _ _ q=>SO⟩|BmL=>fun Γ3 F3 H3 σ3 R3 s3 hz=>by obtain⟨m',l,w3⟩:=hz;exact⟨m',l,F3,Γ3,R3,ABr (ĺ s3),w3⟩
|BmM=>∀(hc:F7)(hg:BoA)(hm:Bn')(hg2:Gl X j')(hm2:Q4 j')(ha:AOp)(hb:Bo0:=by show XY)
 (he:fR [a] a []:=by rfl) (he2:AMn [.Call Av_ [a] [] qo] Ayd:=by rfl),_
|BmO=>∀{t:AT} {h h' :AM} {l c:Ζ} {ws:Lm},jo t h l ws ->AT0 c h h' ->l≠c ->jo t h' l ws|BmP=>∀{E:dW}{Ο:d8}{s:AC}{σ:St}{H:Hp}{x:Κ}{u:AJ}{Ψ:AN}{Q:dW},_|BmR=>⟨CF,e1,a,C,dx,_,Β,ea,hc,hn,by show AWR Nj;exact hl,?_⟩|BmS=>∃h' tk A2 c',r= .ok (.ret ADh)/\s' =ZO/\ (Yf AiU (LA (ϧ lA)) ACp)/\AzL A2 c'/\ItemsOf AzV A2 FU|BmT=>by obtain⟨hz,_,ws,kv,dd⟩:=ε;refine Aem Bsz hT PySem.F.entry_dict_values (PySem.F.args_dict_values_1 _) (meets_dict_values AMy a hsm) (C5 ⟨ws,dd⟩);obtain⟨o,es,ep,h1,h2,h3,h4⟩:=id dd;have hm:Aix:=AjN h1|BmU=>[UF,AeV,ALi,ALh,Bqu,AeW,Ati,"_law_handed","_law_limits",BHy,Atl,Ath]|BmX=>ε bO bx aq bG bR bW bK aP bN aM aH aN|BmY=>Rk (X:=yA ⟨ε,ABp⟩) ⟨z33 IT.ok _,IT.os,IT.bare,IT.base,IT.loc,IT.cell,IT.free,IT.freeC,IT.pin,IT.hok,IT.len⟩ a|BmZ=>⟨fun _ _ _ _ _ _ _ _ _ _ h=>by obtain⟨_,_,_,_,_,_,_,_,_,_,_,_,_,_,_,_,_,_,_,_,h⟩:=h;exact AG0,ε⟩|Bma=>Xo2 P w K mg C3 xE P5 Md Ĩ Md Ĩ 1|Bmb=>∀{c:Cls}{Ξ:B7}{r:Κ}{g:AL}{ps:FD}{bd:Hd}{t:T}{ws:Ρ}{v:D3}{bs:Y2},_|Bmc=>∀(X:Cx)(Ο:d8)(σ:St)(tg:AK)(R:AOA)(itv:AJ)(s2:AC),_|Bmd=>Bof I1 hex os HP un D4 Gi.1 fl.1 inB vo (Zf.trans Zg)|Bme=>∀(A:Bi) (i:Δ) (s:AC) (Q:dW) (E:dW),AXY ->M_ it s ->Bob|Bmf=>caught hex hst hfr I1 os HP un D4 Gi.1 inB vo Td (TL Zf.trans Zg up6)|Bmg=>∀(l b:Ζ)(OF AB':Lm)(n n2:Δ)(dd dd2:N4)(sl sl2:AEO)(x y:Κ)(t u:Tok)(h1:IS OF 0 AXk)(h2:IS AB' 0 (.AX y u))(hxy:x≠y),_|Bmh=>bZ (ho Ο s2 σ H2 x y v u _ I2 r1 r2 q2) (As ε s3 ⟨z,H3,I3,r3,k,e,q3⟩)|Bmi=>⟨ok.mod,ok.kind,ok.glob,ok.blt,ok.above,ok.inj,ok.has,ok.cab,ε,ok.frames,ok.stk,ok.exf,ok.bs,ok.bsz,ok.IV,ok.IW,ok.funs,ok.frf⟩|Bmj=>by show AD Τ Τ Τ Τ Τ Τ Τ Τ Τ Τ Τ Τ Τ Τ|Bmk=>sq Ee Ee Ee Ee Ee Ee Ee Ee Ee Ee Ee Ee Ee Ee|Bml=>ϗ (sq hw hw hw hw hw hw hw hw hw hw hw hw hw hw)|Bmm=>∀(K:AA) (C:Ζ) (f:Κ) (sp:ε) (vs:AQ) (H:Hp) (Q:VK) (E:XK),_|Bmn=>by show AD c2 c2 c2 c2 c2 c2 c2 c2 c2 c2 c2 c2 c2 c2;show AD d2 d2 d2 d2 d2 d2 d2 d2 d2 d2 d2 d2 d2 d2|Bmo=>[97,98,99,100,101,102,103,104,105,106,107,108,109,110,111,112,113,114,115,116,117,118,119,120,121,122]|Bmp=>by show Fu l1 vs h1 q1 r;show Fu l2 us h2 q2 r';show AD rv rv rv rv rv rv rv rv rv rv rv rv rv rv;show AD ru ru ru ru ru ru ru ru ru ru ru ru ru ru|Bmq=>æ (Sb zkv use (Ε (AS' (IA y py) BE)) (Qv:=YI s' (SP JO Ο Dn ADf s')) (g:=gX AG g) (tc:=tX AG tc) (te:=eX AG te) (Q:=fun v H' =>Dn.nx (ACd É) H') AyX ε ?_ ?_ ?_ Β hs I ?_ ?_) (fun _ s' hq=>z7 (z7 hq)) (MG e e)
theorem aaz{α:Acz}{a:α}{P:Ι}(e:Η=Ε a):P:=n5
theorem aaA{α:Acz}{a:α}{P:Ι}(e:MI Ε):P:=n5
theorem aaB{P:Ι}(e:PR Μ):P:=n5
theorem aaC{P:Ι}(e:AE=Μ):P:=n5
theorem aaD{α:Acz}{a:α}{l:DE}{P:Ι}(e: []=F_):P:=n5
theorem aaE{α:Acz}{a:α}{l:DE}{P:Ι}(e:F_= []):P:=n5
theorem aaF{α:Acz}{a:α}{P:Ι}(e:a∈ ([]:DE)):P:=n5
abbrev dW:=D1 PySem.Value PySem.Shared
abbrev d8:=rL PySem.Addr PySem.Obj
section
open KB P4 LL
abbrev z6:= @wpAny_bind
abbrev z7:= @wpAny_pure
abbrev z8:= @Heap.get?_push_of_some
abbrev z9:= @Heap.get?_push_size
abbrev zZ:= @AK1
abbrev zY:= @ġ
abbrev zW:= @AK2
abbrev zV:= @Bpn
abbrev zU:= @Ģ
abbrev zT:= @ASb
abbrev zR:= @ABG
abbrev zQ:= @Bpo
abbrev zP:= @BGc
abbrev zO:= @Nat.le_trans
abbrev zN:= @AK3
abbrev zM:= @Bpp
abbrev zL:= @Nat.lt_of_le_of_lt
abbrev zK:= @Bpq
abbrev zJ:= @AK4
abbrev zG:= @BGd
abbrev zF:= @BGe
abbrev zE:= @Option.map_eq_some_iff
abbrev zB:= @aE
abbrev zA:= @ģ
abbrev yZ:= @Heap.get?_push_ne
abbrev yX:= @Bpr
abbrev yV:= @Bps
abbrev yU:= @Bpt
#where
namespace _2
open KB P4 LL
def Il(s:AO)(j:Δ):AO:=match s with
 | .ClassDef _ _ _ L6 _ _ _ _ _ _ _=>body.getD j (.Pass Aq_)
 | _=> .Pass Aq_
def Lh(s:AO):Arguments:=match s with
 | sL (.AsX _ a _ _) _ _=>a
 | _=>{posonlyargs:= [],E8:= [],vararg:=Η,kwonlyargs:= [],kw_defaults:= [],kwarg:=Η,BGf:= []}
def yM(s:AO):Re:=match s with
 | sL (.AsX _ _ b _) _ _=>b
 | _=> []
def aZ(s:AO):Op:=match s with
 | LX .AsX _ _ sc _ _ _=>sc
 | _=>{kind:= AMj,I_:= [],isGenerator:=AE,isCoroutine:=AE}
#print _2
namespace _3
open KB AK7 LL _2
abbrev Mp:At:= AwX
def nD(AFh):AT:=z0 (aI C) (BPC (.cls cd) sl) (match AsZ,sl.toList with
  | .B9 C' ::bm,[_,_,_,_,Ε (US n),_]=>C' ==C&&n== Asc && ! cd.hasDel&&W.tailIn K Mp bm
  | _,_=>AE)
def aV(K:AA)(C D:Ζ):AT:=z0 (aI C) (Ε ⟨_,_,.cls cd,_⟩) (cd.mro.contains (BY D))
def DR(AFh):AT:=z0 (aI C) (BPC (.cls cd) _) (z0 AsZ (.B9 C' ::_) (C' ==C))
def isV(o:BKk)(s:KE):AT:=z0 o (Ε (.val (US t))) (t==s)
#print _3
namespace _Hd
open KB AK7 Ase LL _2 _3
noncomputable section
def Iz:ACR Azv JA
 | _,[]=> []
 | i,o::r=>APF o.isFreed (Iz Db r) ((i,o)::Iz Db r)
def cut(h:AM)(_:Δ):JA:=Iz 0 h.objs.toList
def treeOf:Azv ->Δ ->BT ->BT
 | [],_,t=>t
 | o::r,i,t=>treeOf r Db (t.ins i o)
abbrev ann:fI:=Ε (BY 6)
abbrev z:AN:=Aq_
def Be(p:A0):Env:={Kt:=p.main.scope,locals:=mainNs,globals:=mainNs,cells:= [],code:= .B9 13,frame:=Ε 14}
def cB(p:A0):Code:= .L6 (BGj p) (Be p)
def S0(AcG):AC:=BiO
def Sa(x:BVT)(w:An)(os:ABH):AC:=match x with | Ε y=>y.1 | Η=>S0 w os
def Ta(s:AC):SharedT:=⟨treeOf s.heap.objs.toList 0 Eg,15,s.heap.life,Asf,ALA,Mc,s.os⟩
abbrev TB:=KE ->M1 Builtin
abbrev GoT:=Blv BVT
abbrev aaG:=TB ->BC A0 An Δ fI (BC Δ Δ SharedT Thread (ĥ (Flow×SharedT×Code×AN)))
abbrev aaH:=Blv (M1 AC)
def fore(tb:TB)(GO:GoT)(p:A0)(w:An)(os:ABH):AC:=Sa (GO tb p w 11 ann 12 A6w A2u) w os
def shot(AFg)(tb:TB)(GO:GoT)(RUN:aaG)(TOP:aaH)(EXS:Re ->Env ->Sem Flow)(p:A0)(obs:AC ->α)(w:An)(os:ABH):ĥ ((Flow×Code)×α):=
 (RUN tb p w 11 ann 1 30000 (Ta (fore tb GO p w os)) ⟨(EXS BL6 (Be p)).wrap doneF deadEnd id id,cB p,z,AbD⟩).bind (Tk ((TOP tb p w 11 ann 2 (x.2.1).abs ⟨doneF ADf,x.2.2.1,x.2.2.2,AbD⟩).map fun s=>((x.1,x.2.2.1),obs s)))
def HM(AFg)(SEEN:WC A0 Ρ Ρ (AC ->AT) AT AC α)(p q:A0)(aS:Ρ)(Xt:AEV AC){β:Ch}(obs:JA ->β)(n:Δ)(w:An)(s:AC):AT×α×β:=
 (BmD,Bjj SEEN,AzW)
def adr(BSl):Ζ:=match x with | AyC MD=>f | _=>0
def isRef(BSl):AT:=z0 x (AyC (BY _)) Μ
def allB:AEV AJU
 | []=>Μ
 | b::l=>APF b (allB l) AE
def nth(l:AJU)(i:Δ):AT:=match l,i with
 | [],_=>Μ
 | b::_,0=>b
 | _::l,EZ=>nth l i
def HP(fd:GA):GA:={fd with kwdefaults:= BM,doc:= BM,pyModule:= BM,annotations:=Η,code:= BM,closureTuple:= BM}
def fnO(BhY):AYQ:=AYh (aI f) ⟨_,_,.func fd,_⟩ (APF (codeIn K fd.code E2&&keepIn K MD) (Ε (HP fd)) Η) Η
def WQ(K:JA)(v:AJ):AT:=z0 v (.B9 T) (z0 (aI T) (Ε ⟨SS t,_,.seq xs _,_⟩) (t== pd &&(z0 xB [BM] Μ)))
def fnD(BhY):AYQ:=(fnO K f E2).bind fun fd=>(APF (WQ K fd.defaults) (Ε {fd with BGf:= BM}) Η)
def fnN(K:JA)(x:Κ):AYQ:=Bhe fnO
def fnM(K:JA)(x:Κ):AYQ:=Bhe fnD
abbrev ex(x E2:Κ)(st:AO):AYQ:=Ε BGK
abbrev d(x:Κ)(s:AO):Κ×AO:=(x,s)
def seen(K:JA)(ds:Aku):Ahb:=ALC fun d=>fnN K d.1
def due(ds:Aku):Ahb:=ALC fun d=>ex d.1 d.1 d.2
def recOf(s:AO):Ash:=match s with
 | .AsX n a b _ _ _ sc _ _ ps=>⟨n,a,b,sc,ps⟩
 | _=>⟨Ty,Lh s,[],aZ s,z⟩
def vX:At ->AGC AjK
 | []=>Aj6
 | AbK::r=>C4 vX r (.inl i:: ·)
 | A7x::r=>C4 vX r (.inr x:: ·)
 | _=>Η
def tupO(K:JA)(a:Ζ):AGC AjK:=AYh (aI a) ⟨SS t,_,.seq xs _,_⟩ (Nn t pd (vX xB) Η) Η
def qY(w:An)(AH:AUU Ρ):AGC (AB×Κ×Ρ):=Ε (Asi fun p=>(hashStr w DJ,DJ,p.2))
#where
#print _Hd
namespace _Lw
open KB P4 LL _2 _3
def B3(AJ_):AO:=PySem.Challenge.pw_hall_k71_whole_sitting_by_stages.main.body.getD i (.Pass Aq_)
abbrev zkd:AO:=B3 77
abbrev znq:AO:=B3 74
abbrev ziq:AO:=B3 78
abbrev zm6:AO:=B3 79
abbrev zgx:AO:=B3 75
abbrev zpw:AO:=B3 76
abbrev zmt:AO:=B3 82
abbrev zdk:AO:=B3 80
abbrev zhu:AO:=B3 81
abbrev z32:AO:=B3 32
abbrev zpi:AO:=B3 31
abbrev zrr:AO:=B3 28
abbrev zwj:AO:=B3 30
abbrev zro:AO:=B3 12
abbrev zgw:AO:=B3 35
abbrev zk7:AO:=B3 39
abbrev zkt:AO:=B3 38
abbrev znb:AO:=B3 13
abbrev zkl:AO:=B3 37
abbrev yi3:AO:=B3 36
abbrev WR:AO:=B3 34
abbrev zef:AO:=B3 44
abbrev zkp:AO:=B3 67
abbrev WT:AO:=B3 66
abbrev yci:AO:=B3 14
abbrev zz7:AO:=B3 19
abbrev zv1:AO:=B3 46
abbrev zpd:AO:=B3 45
abbrev zz5:AO:=B3 15
abbrev zj9:AO:=B3 48
abbrev zpo:AO:=B3 47
abbrev Uy:AO:=B3 43
abbrev zjd:AO:=B3 41
abbrev zji:AO:=B3 42
abbrev z1d:AO:=B3 18
abbrev zzt:AO:=B3 16
abbrev z9s:AO:=B3 17
abbrev zqn:AO:=B3 60
abbrev zfr:AO:=Il (B3 61) 1
abbrev zpp:AO:=B3 21
abbrev zcj:AO:=B3 23
abbrev ya1:AO:=B3 20
abbrev zfw:AO:=B3 52
abbrev z0e:AO:=B3 56
abbrev zqq:AO:=B3 55
abbrev ybz:AO:=B3 54
abbrev zvc:AO:=B3 53
abbrev Oj:AO:=B3 51
abbrev zkf:AO:=B3 83
abbrev z1l:AO:=B3 65
abbrev Uz:AO:=Il (B3 8) 0
abbrev zem:AO:=B3 64
abbrev z2r:AO:=B3 63
abbrev zdy:AO:=B3 70
abbrev WW:AO:=B3 69
abbrev ycd:AO:=B3 68
abbrev ze9:AO:=B3 25
abbrev WX:AO:=B3 84
abbrev zvk:AO:=B3 59
abbrev zjb:AO:=B3 58
abbrev WY:AO:=Il (B3 61) 0
abbrev zes:AO:=Il (B3 9) 0
abbrev zdp:AO:=AFl 6
abbrev zcb:AO:=AFl 1
abbrev Ol:AO:=AFl 0
abbrev znu:AO:=B3 85
abbrev zcy:AO:=AFl 3
abbrev zfs:AO:=AFl 4
abbrev ze4:AO:=AFl 5
abbrev zdh:AO:=AFl 2
abbrev zj5:AO:=B3 87
abbrev zdt:AO:=AFl 7
abbrev zgs:AO:=B3 86
abbrev zg3:AO:=B3 88
abbrev Bs:AO:=B3 89
def ds:Aku:= [Cf Ac7 zkd,Cf Ac8 znq,Cf Ac9 ziq,Cf Ac_ zm6,Cf Ac' zgx,Cf AdA zpw,Cf AdB zmt,Cf AdC zdk,Cf AdD zhu,Cf AdE z32,Cf AdF zpi,Cf AdG zrr,Cf AdH zwj,Cf AdI zro,Cf AdJ zgw,Cf AdK zk7,Cf AdL zkt,Cf AdM znb,Cf AdN zkl,Cf "led" yi3,Cf AdO WR,Cf AdP zef,Cf AdQ zkp,Cf ASj WT,Cf AdR yci,Cf AdS zz7,Cf AdT zv1,Cf AdU zpd,Cf AdV zz5,Cf AdW zj9,Cf AdX zpo,Cf AdY Uy,Cf AdZ zjd,Cf Ada zji,Cf Adb z1d,Cf Adc zzt,Cf Ade z9s,Cf Adf zqn,Cf Adg zpp,Cf ALD ya1,Cf Adh zfw,Cf Adi z0e,Cf Adj zqq,Cf ALE ybz,Cf ALG zvc,Cf Adk zkf,Cf aT z1l,Cf Adl zem,Cf Adm z2r,Cf Adn zdy,Cf Ado WW,Cf Adp ycd,Cf Adq WX,Cf Adr zvk,Cf Ads zjb,Cf Adt znu,Cf Adu zj5,Cf Adv zgs,Cf Adw zg3,Cf T1 Bs]
def fts(ARn):AJU:= [
 Χ (w_ Asm),
 Χ (w_ "Few"),
 Χ (w_ Ady),
 Χ (w_ xD),
 Χ (w_ xE),
 Χ (w_ Asn),
 Χ (w_ ABM),
 Χ (w_ ABN),
 Χ (BUk ABM),
 Χ (A3J ABM),
 Χ (m3 BGp ABM),
 Χ (AqM AD'),
 Χ (m3 BGr ABM),
 Χ (AgJ AD'),
 Χ (BUk ABN),
 Χ (m3 BGo ABN),
 Χ (m3 BGp ABN),
 Χ (AqM AMT),
 Χ (m3 BGr ABN),
 Χ (AgJ AMT),
 Χ (ACl AD' ac),
 Χ (ACl AE_ aT),
 Χ (ACl AAH Md),
 Χ (ACl AAH Ĩ),
 Χ (AJ9 ASk),
 Χ (AJ9 ABP),
 Χ (AJ9 ad),
 Χ (AJ9 ae),
 Χ (AJ9 OB),
 Χ (AJ9 LM),
 Χ (AJ9 Ad1),
 Χ (m3 nD xD),
 Χ (AWF AE_ Ad2 AGY),
 Χ (ACl AE_ BGs),
 Χ (AWF AE_ BGt Asq),
 Χ (AnO AYf),
 Χ (A4' AYf),
 Χ (AqM AE_),
 Χ (A3J xD),
 Χ (m3 nD xE),
 Χ (AWF AAH Ad2 AGY),
 Χ (ACl AAH BGs),
 Χ (AWF AAH BGt Asq),
 Χ (AnO AYg),
 Χ (A4' AYg),
 Χ (AqM AAH),
 Χ (A3J xE),
 Χ (BYC BK'),
 Χ (BSJ BKw),
 Χ (_3.isV (W.findCls K BK' Axw K0) BGu =Μ),
 Χ (Avh AD' ALH),
 Χ (Avi BSh),
 Χ (A3S AE_),
 Χ (A3T AE_),
 Χ (A3S AD'),
 Χ (A3T AD'),
 Χ (A3S AAH),
 Χ (A3T AAH),
 Χ (AFj xF),
 Χ (AFk xF),
 Χ (AFj AGZ),
 Χ (AFk AGZ),
 Χ (AFj K0),
 Χ (AFk K0),
 Χ (AFj ABQ),
 Χ (AFk ABQ),
 Χ (AFj K2),
 Χ (AFk K2),
 Χ (AFj W_),
 Χ (AFk W_),
 Χ (AFj SB),
 Χ (AFk SB),
 Χ (AFj j_),
 Χ (AFk j_),
 Χ (w_ Asr),
 Χ (w_ Ass),
 Χ (AcL AYd),
 Χ (AcL AYe),
 Χ (AcL BKw),
 Χ (m3 DR xD),
 Χ (m3 DR xE),
 Χ (AcL A0u),
 Χ (Tx pf),
 Χ (Tx ALJ),
 Χ (Tx ALK),
 Χ (Tx "abs"),
 Χ (Tx "any"),
 Χ (Tx L7),
 Χ (Tx eA),
 Χ (Tx j'),
 Χ (Tx eB),
 Χ (Tx ĩ),
 Χ (Tx Ī),
 Χ (Tx ai),
 Χ (Tx "max"),
 Χ (Tx "all"),
 Χ (Tx pd),
 Χ (Tx ALN),
 Χ (Tx ASl),
 Χ (w_ BGv),
 Χ (_Hd.tupO K (Aso (Avn Adx BGv))=Ε [.DH 0,.DH 1]),
 AYM AYd AYd,
 Χ (ANi AYd AYe),
 AYM AYe AYe,
 Χ (m3 nD xD),
 AYM AYf AYf,
 Χ (ANi AYe AYd),
 Χ (m3 nD xE),
 AYM AYg AYg,
 Χ (ANi AYf AYg),
 AYM A0u A0u]
def obs(ARn):Bbw:=(_Hd.allB (fts K),
 _Hd.seen K ds,[AH0 BSh BGw,
  AH0 (rV Asr) j_,
  _Hd.fnM K ī,
  AH0 (AHY AE_ K0) Ad3,
  AH0 (rV Ass) W_,
  AH0 (AHY AD' K0) Ad4,
  AH0 (AHY AAH K0) BGx,
  AFc xF BGy,
  AFc AGZ BGz,
  AFc K0 ALO,
  AFc ABQ BG0,
  AFc K2 BG1,
  AFc W_ BG2,
  AFc SB BG3,
  AFc j_ BG4])
def good(Abh):Bbw:=(Μ,_Hd.due ds,
 [ph ALH BGw zfr,
  ph j_ j_ zcj,
  ph ī ī Oj,
  Alr Ad3 Uz,
  ph W_ W_ ze9,
  Alr Ad4 WY,
  Alr BGx zes,
  ph xF BGy zdp,
  ph AGZ BGz zcb,
  Alr ALO Ol,
  ph ABQ BG0 zcy,
  ph K2 BG1 zfs,
  ph W_ BG2 ze4,
  ph SB BG3 zdh,
  ph j_ BG4 zdt])
abbrev pg:A0:=PySem.Challenge.pw_hall_k71_whole_sitting_by_stages
abbrev lw:W.OpenLaw:=PySem.Challenge.rw_hall_k71_whole_sitting_by_stages
abbrev vw:A0:=W.view pg [89]
def aS:Ρ:=pg.boundNames.filter fun x=>x != T1
theorem hd_e:W.opening pg=W.plainProg pg.main.scope.names:=oP
theorem hd_f(s:AC):PySem.fenceModules? pg s=Ε s:=oP
theorem hd_A(AcG):Ad5 T_ pg w 11 _Hd.ann 12 (_Hd.S0 w os) (W.topStub pg)=Ε (Bj5,⟨denote T_ (_Hd.cB pg),A9J,_Hd.z,BRU⟩):=by
 show Bpb PySem.W.Fast.te11892475500146522536 Asu;kernel_rfl
theorem hd_B(AcG):W.segRun T_ pg w 11 _Hd.ann 1 1 BcR (W.blockOf (W.behindTheImports pg) (_Hd.env pg) (_Hd.cB pg) _Hd.z BRU)=Ε (ADf,Bj5,A9J,_Hd.z):=by
 show Bpb PySem.W.Fast.te14374325043358763698 Asu;kernel_rfl
theorem hd_C(AcG):(_Hd.Ta BcR).abs=BG5 T_ Ad5 pg w os:=by
 rw[BG6,Asu];kernel_rfl
theorem hd_D(AcG):_Hd.shot T_ Ad5 W.segRunT W.topRun execs pg (_Hd.rest W.openSeen pg vw aS (De Μ) obs 1500 w) w os=Ε (BWx A9J (W.openGood vw aS)):=by
 rw[BG6,PySem.W.Fast.te10110043849684766642,PySem.W.Fast.te14082659384304107361,PySem.W.Fast.te12563942051412417395,PySem.W.Fast.te4187177175401517315,Asu];kernel_rfl
theorem hd_s:lw.row.wellSaid=Μ:=oP
theorem hd_said:lw.wellSaid=Μ:=by
 unfold W.OpenLaw.wellSaid;rw[hd_s]
 kernel_rfl
theorem hd_ok:VW (W.chainsOk vw&&W.opensWell lw.row.prog) (W.frees Bp3&&lw.row.within.isEmpty):=oP
theorem hd_bare:lw.row.prog.bare:=⟨Β,Β,Β,Β,Β,AI⟩
theorem hd_d:W.defOf vw lw.row.name=Ε (BG7 Bs,[]):=oP
theorem hd_p:lw.row.prog.theDef lw.row.name=Ε (AKh params,AKh L6,AKh Kt):=oP
theorem hd_k:W.kwWritten? (AKh params.kwonlyargs) (AKh params.kw_defaults)=Ε []:=oP
theorem hd_n:AKh EB= T1 :=oP
theorem hd_z:AKh params.defaults= []:=oP
#print _Lw
namespace _2
open KB P4 LL
abbrev Key:=Sum AB Κ
def vY:Key ->AJ ->AT
 | .DH k,v=>Value.isInt k v
 | ž,v=>Bp4 x v
def aaI(Abh):Key ->AB
 | .DH k=>hashInt k
 | ž=>hashStr w x
theorem Dv:∀{k:Key} {v:AJ},vY k v=Μ ->(∃i t,k=Asv i/\v=AbG)\/ (∃x t,k=SC x/\v=AoP)
 | APu,v,h=>by
  show VX t (BG_ (k:=i) (v:=v) h);exact CS (KW i t e)
 | ž,v,h=>by
  show VX t (Value.isStrOf_shape (x:=x) (v:=v) h);exact C_ (KW x t e)
theorem z6g(i:AB)(t:Tok):vY (HG i) Ahw=Μ:=c8 vY Value.isInt
theorem z84(x:Κ)(t:Tok):vY (FV x) AXk=Μ:=c8 vY Bp4
theorem ynj(a b:AB):O0 (BPu)=(a==b):=by
 by_cases e:a=b
 ·subst e;simp
 ·have h:¬BPu:=Ps (e (Sum.inl.inj q));rw[al h];exact dA ALP e
theorem yog(Aln):Χ BPv=O0 (a=b):=by
 by_cases e:a=b
 ·subst e;simp
 ·have h:¬BPv:=Ps (e (Sum.inr.inj q));rw[al h,BLT]
theorem yny(a:AB)(b:Κ):Api (BoN SC):=Baq
theorem yos(a:Κ)(b:AB):Api (BoO Asv):=Baq
def pK(CY:A0)(w:An):PySem.KeyKind CY w Key where
 is:=vY
 hash:=aaI w
 inj:=fun v a b ha hb=>by
  rcases Dv ha with ⟨i,t,Β,Β⟩ | ⟨x,t,Β,Β⟩
  ·rcases Dv hb with ⟨j,u,Β,e⟩ | ⟨y,u,Β,e⟩
   ·show BRM
   ·exact n5
  ·rcases Dv hb with ⟨j,u,Β,e⟩ | ⟨y,u,Β,e⟩
   ·exact n5
   ·show BRM
 byValue:=fun k v h=>by
  rcases Dv h with ⟨i,t,Β,Β⟩ | ⟨x,t,Β,Β⟩<;>rfl
 pyHash:=fun hv h=>by
  rcases Dv hv with ⟨i,t,Β,Β⟩ | ⟨x,t,Β,Β⟩
  ·exact wpAny_pyHash_int h
  ·exact wpAny_pyHash_str h
 eqBool:=fun hu hv h=>by
  rcases Dv hu with ⟨i,t,Β,Β⟩ | ⟨x,t,Β,Β⟩
  ·show Bl7 ynj wpAny_eqBool_int yny (Bp5 i t y u _ _ _ _)
  ·show Bl7 yos (Bp6 x t j u _ _ _ _) yog wpAny_eqBool_str
 «strs»:=fun k x t v h=>by
  rcases Dv h with ⟨i,u,Β,e⟩ | ⟨y,u,Β,e⟩
  ·exact n5
  ·injection e with e1 _;subst e1;(show MQ v v v v v v v v v v v v v v)<;>rfl
theorem z0l(CY:A0)(w:An)(i:AB)(t:Tok):AXq pK (HG i) Ahw=Μ:=z6g i t
theorem zrz(CY:A0)(w:An)(x:Κ)(t:Tok):AXq pK (FV x) AXk=Μ:=z84 x t
inductive V where
 | non | bl (b:AT) | AU (ARW) | AX (AQe) | byt (b:ABR UInt8) | flt (b:UInt64) | B9 (a:Ζ) | ty (n:KE)
 deriving DecidableEq
def HQ:BPA
 | BH,u=>u=eC
 | ox,u=>u=Asx b
 | GG,u=>ACu AbG
 | oq,u=>ACu AoP
 | .byt b,u=>ACu (Value.bytes b t)
 | .flt b,u=>ACu (BHC b t)
 | CF,u=>AMb
 | .ty n,u=>u=Ad6 n
abbrev KF:D1 AQ At:=ASm HQ
theorem Vals.length{xs:AQ}{us:At}(r:ia):BNO:=BLZ
theorem Vals.get:∀{xs:AQ} {us:At} {i:Δ} {x:V},ia ->Ţ ->∃u,FG us u/\å
 | _,_,_,_,Eg,e=>AZu
 | _,_,0,_,.AY r _,e=>by simp at e;subst e;exact OS r
 | _,_,EZ,x,iO _ t,e=>by
  show Ct u h1 h2 (AoS Vals.get x) t AJg
  exact⟨u,C6 h1,h2⟩
theorem Vals.set(BeA):∀{xs:AQ} {us:At} (i:Δ),ia ->KF (Asy i x) (us.set i u)
 | _,_,_,Eg=> Eg
 | _,_,0,iO _ t=> AKL
 | _,_,EZ,.AY q t=> .AY q (Vals.set r i t)
theorem BHD:∀{xs ys:AQ} {us ws:At},ia ->KF ys ws ->KF A9r (us++ws)
 | _,_,_,_,Eg,s=>s
 | _,_,_,_,AKL,s=> .AY r (BHD t s)
theorem Vals.take:Bkr xs.take us.take
 | _,_,0,_=> Eg
 | _,_,_+1,Eg=> Eg
 | _,_,n+1,AKL=> .AY r (Vals.take n t)
theorem Vals.drop:Bkr Ad7 us.drop
 | _,_,0,r=>r
 | _,_,_+1,Eg=> Eg
 | _,_,n+1,iO _ t=>Vals.drop n t
def n8:D1 WG fI
 | AIi,Ε u=>OX
 | Η,Η=>IM
 | _,_=>D6
def KV{κ:Ch}:D1 t_ AWu:=ASm fun(p:κ×V) (q:κ×AJ)=>DJ=q.1/\HQ p.2 q.2
def kV:Key ->V
 | APu=> GG
 | ž=> oq
inductive HO where
 | DC (xs:AQ)
 | Dx (xs:AQ)
 | dK (AH:mS) | dT (AH:ADl)
 | set (S:AEV AB) (n:Δ)
 | ins (C dx:Ζ) (fs:oy)
 | A5 (x:Ζ)
 | xd (fs:oy)
 | met (f x:Ζ)
 | rng (lo hi:AB)
 | frz (o:Obj) (u:HO)
 | Mr (ps:Lm)
 | ext (φ:A0N)
abbrev Hp:=Ζ ->M1 HO
def EH(H:Hp)(a:Ζ)(o:HO):Hp:=ir (Nn b a (Ε o) (H b))
theorem gU{H:Hp}{a:Ζ}{o:HO}:EH H a o a=Ε o:=Aki EH
theorem bJ(BDT){o:HO}(h:MY):EH H a o b=H b:=AY9 EH h
theorem ypm(BDT){o u:HO}(h:Ake)(h' :AEt)(d:o≠u):a≠b:=by
 intro e;subst e;rw[h] at h';exact d (zF h')
theorem iB(BDT){o:HO}(h:Ake)(h' :N3):a≠b:=by
 intro e;subst e;rw[h] at h';show AD h' h' h' h' h' h' h' h' h' h' h' h' h' h'
section
variable(P:A0)(w:An)
def bB(H:Hp)(h:AM)(a:Ζ):GN HO
 | VU=>Ail (BEM (AOP/\gT AO'))
 | da=>Ail (∃AW:At,AOP/\A2V IsTup h)
 | .dK AH=>BDU
 | .dT AH=>Ah3 (∃xs:AW0,
   ASm (fun(p:GE×V) (q:GE×Ζ×AJ)=>BfD) AH xs/\
   ∃o es ep,AAX/\BHJ/\pj= AhK/\Asz=kD (entryOfKey (ASo ϔ))/\ (xs.map (·.1)).OC)
 | .set S n=>h.SetOf (intKind P w) a S n
 | .ins C dx fs=>A7_/\BLn/\dx≠a/\gT A4y/\
   ∃mA,Aqe/\ (BFQ)/\BPy
 | .A5 _=>∃o,AAX
 | .xd fs=>∃mA,h.Ns1 a mA/\BFQ
 | .rng lo hi=>∃t u v,gT Awx
 | .frz o u=>AAX/\bB H h a u
 | .Mr ps=>BZ8
 | .met f x=>BSi h_
 | .ext φ=>φ h/\ (∃o,AAX)/\∀h1 h2:AM,φ h1 ->(∀o,ADT Ĭ ->ADT h2.get?) ->φ h2
def o7(H:Hp)(h:AM):Ι:=∀a o,Ake ->AAp o
#where
section
variable{P:A0}{w:An}{H H' :Hp}{h h' :AM}{a:Ζ}{o:HO}
theorem bB.lt(x:AAp o):AX6 a:=by
 cases o with
 | DC xs=>show Azp x;show dC
 | Dx xs=>show Azx p x p.lt
 | dK AH=>obtain⟨_,_,_,_,o,_,_,e,_⟩:=x;show dC
 | dT AH=>obtain⟨_,_,_,_,o,_,_,e,_⟩:=x;show dC
 | set S n=>show AV2 o x;show dC
 | ins C dx fs=>show Azr x;show dC
 | A5 y=>obtain⟨_,e⟩:=x;show dC
 | xd fs=>show Azs x;show dC
 | rng lo hi=>show Azq x;show dC
 | frz ob u=>obtain⟨e,_⟩:=x;show dC
 | Mr ps=>exact zG (E_ (gT _) x)
 | met f y=>exact zG (E_ (gT _) x)
 | ext φ=>obtain⟨_,⟨_,e⟩,_⟩:=x;show dC
theorem As3{α β:Ch}{F G:D1 α β}:∀{l₁:DE} {l₂:RF},ASm F l₁ l₂ ->(∀a b,F a b ->G a b) ->ASm G l₁ l₂
 | _,_,Eg,_=> Eg
 | _,_,AKL,f=> .AY (f _ _ r) (As3 t f)
theorem bB.stay(x:AAp o)(k:s_ (b=a\/sd (.A5 a)) (SU Me) Af0)
  (ho:MH (sd (.A5 a)) (AV3 (.A5 a))) (ht:BDv):bB P w H' h' a o:=by
 induction o with
 | DC xs=>show Arm x;exact⟨z,AW,n,r,ww⟩
 | Dx xs=>obtain⟨z,AW,r,ob,e,c⟩:=x;exact⟨z,AW,r,ob,ww,c⟩
 | dK AH=>obtain⟨z,y,vs,r,ob,es,ep,e,c⟩:=x;exact⟨z,y,vs,r,ob,es,ep,ww,c⟩
 | dT AH=>
  obtain⟨z,y,xs,r,ob,es,ep,e,c⟩:=x;exact⟨z,y,xs,As3 r fun p q z=>BZD,ob,es,ep,ww,c⟩
 | set S n=>obtain⟨ob,es,ep,t,e,c⟩:=x;exact⟨ob,es,ep,t,ww,c⟩
 | ins C dx fs=>
  obtain⟨d,z,ne,e,mA,⟨od,es,ep,e2,c⟩,r⟩:=x;exact⟨ho _ d,z,ne,ww,mA,⟨od,es,ep,k _ _ (FV d) e2,c⟩,r⟩
 | A5 y=>show VX ob x;exact⟨ob,ww⟩
 | xd fs=>obtain⟨mA,⟨od,es,ep,e,c⟩,r⟩:=x;exact⟨mA,⟨od,es,ep,ww,c⟩,r⟩
 | rng lo hi=>obtain⟨t,u,v,e⟩:=x;exact⟨t,u,v,ww⟩
 | frz ob u ih=>show APR q x;exact⟨ww,ih q⟩
 | Mr ps=>
  have e:BZ8:=x;exact k a _ YR e
 | met f y=>
  have e:BSi (BY y):=x;exact k a _ YR e
 | ext φ=>obtain⟨p,⟨o,e⟩,st⟩:=x;exact⟨st _ _ p fun o q=>k _ _ YR q,sw ww,st⟩
theorem o7.lt(x:du)(e:Ake):AX6 a:=(x a o e).lt
theorem o7.fresh(x:du)(e:Mm<=a):Ü:=by
 cases q:H a with
 | Η=>rfl
 | Ε u=>exact AFp (zM (x.lt q) e)
theorem o7.kept(x:du)(k:Ani):o7 P w H h' :=fun a o e=>
 (x a o e).stay (fun b u _ q=>k b u q) AXw nr
theorem o7.laid(x:du)(k:Ani)(hp:Mm<=a)(new:bB P w Aag h' a o):o7 P w Aag h' :=Sr (by
 have hn:=x.fresh hp;by_cases hb:b=a
 ·subst hb;show AFy gU new
 ·rw[ub] at e;exact ANs x e (fun c v _ q=>k c v q) (hZ q AKd) fun c xs q=>AKd)
#where
def Rd(H:Hp)(a:Ζ)(u:HO):Ι:=AH2\/∃o,Nl ACt
theorem Rd.ok{P:A0}{w:An}{H:Hp}{h:AM}{a:Ζ}{u:HO}(r:Rd H a u)(x:du):AAp u:=by
 rcases r with r | ⟨o,r⟩
 ·exact x a u r
 ·obtain⟨_,q⟩:=x a _ r;exact q
def W0:GN (M1 HO)
 | Ε (FF _)=>IM
 | Ε (.dK _)=>IM
 | Ε (.dT _)=>IM
 | Ε (.set _ _)=>IM
 | Ε (.ins _ _ _)=>IM
 | Ε (.ext _)=>IM
 | Ε (.xd _)=>IM
 | _=>D6
section
variable{P:A0}{w:An}{H:Hp}{h h' :AM}{x e:Ζ}{o' :HO}
theorem o7.write(ok:du)(mu:A_s)(he:BAJ)(k:BOd)(heo:A9P)
  (new:bB P w (EH H x o') h' x o'):o7 P w (EH H x o') h' :=Pl u (by
 have W3:∀c y,Agl c y ->c≠x:=Bbx y
 have aaJ:∀c xs,Sl c Y1 ->c≠x:=Bbx xs
 by_cases hb:b=x
 ·subst hb;rw[gU] at q;show LZ;exact new
 ·rw[ub] at q;by_cases hbe:b=e
  ·have q' :sd (.A5 x):=by
    rcases he with z | z
    ·exact Ā hbe.trans z hb
    ·rw[hbe];exact z
   rw[q] at q';show BGU;obtain⟨v,hv⟩:=heo;exact⟨v,CL hbe hv⟩
  ·refine ANs ok q (fun c v hc r=>k c v ?_ r) (hZ r (MS (W3 c b r) r)) fun c xs r=>(MS (aaJ c xs r) r)
   show APS hc hc
   ·exact hbe
   ·rintro Β;rcases he with z | z
    ·exact W3 c b hc z
    ·rw[hc] at z;show MR;exact hb Β)
#where
structure Un (fs ex:CH) (H H' :Hp) (h h' :AM):Ι where
 KG:BjD (b∉fs) ACp
 LN:BjD (b∈fs) BXP
 eJ:Ś Me (N3 ->b∉ex ->ANB)
 ASq:Yf t6 (b∉ex) BMV
 tups:BDv
 mR:BYb
 o8:BbS
section
variable{fs fs' ex ex' :CH}{H H1 H2:Hp}{h h1 h2 h' :AM}{a x e:Ζ}{o:HO}
theorem Un.any(u:AR' H1 h1){b:Ζ}{ob:Obj}(q:ACo Me)(n:N3)(hx:b∉ex):∃sl,NY Ĭ {ob with ALR:=sl}:=by
 by_cases hb:b∈fs
 ·exact u.slot b ob q n hb hx
 ·exact⟨BHL,u.keep b ob q n hb hx⟩
theorem Un.trans(a:AR' H1 h1)(b:Un fs ex H1 H2 h1 h2):AR' H2 h2 where
 KG:=Bjh (b.keep c ob (a.keep c ob q n hc hx) A'1 hc hx)
 LN:=Bjh (by
  show Ag' (a.slot c ob q n hc hx);show AEZ sl' (b.slot c _ e1 A'1 hc hx);exact⟨sl',e2⟩)
 eJ:=fun c ob q n hx=>by
  show tF e1 (a.there c ob q hx);exact b.free c o' e1 A'1 hx
 ASq:=fun c ob q hx=>by
  show tF e1 (a.there c ob q hx);exact b.there c o' e1 hx
 tups:=fun c xs q=>b.tups c xs (a.tups c xs q)
 mR:=fun c ob xs q=>b.mR c ob xs (a.mR c ob xs q)
 o8:=fun c ps q=>by
  show FC m1 e1 a.o8 c ps q;show AEZ m2 (b.o8 c _ e1);exact⟨m1++m2,BSM⟩
theorem ASr(k:Ani):AR' H h' :=
 ⟨BOo (k b ob q),BOo ⟨BHL,k b ob q⟩,AIz n _ n,A'n ⟨ob,k b ob q⟩,nr,AKY _ q q,fun _ ps q=>⟨#[],by rw[q];simp⟩⟩
theorem Un.refl:Un fs ex H H h h:=ASr nr
theorem AeB(k:Ani)(hp:Mm<=a)(hn:Ü):AR' Aag h' where
 KG:=fun b u q _ _ _=>k b u q
 LN:=fun b u q _ _ _=>⟨u.slots,k b u q⟩
 eJ:=Aoo _ (CL (BRY (Bpp (BGd q) hp)) n)
 ASq:=YY q _ ⟨u,k b u q⟩
 tups:=Pl xs AKd
 mR:=YY xs q AKd
 o8:=BV2 (bJ (iB q hn))
theorem Un.write(mu:A_s)(he:BAJ)(k:BOd)(heo:A9P):AR' (EH H x o) h' :=by
 have hx:Aka (b≠x):=fun b n z=>(Bo8 n)
 show FY hb (Aka (b≠e)) (fun b n z=>by
  subst z;rcases he with r | r
  ·exact hx b n r
  ·show Lc n r r r r r r r r r r r r r r r) hm (s_ AEt (¬W0 (Ε u)) (b≠x)) (fun b u q nm z=>by subst z;rw[q] at mu;exact nm mu) ⟨fun b u q n _ _=>k b u (hb b n) q,fun b u q n _ _=>⟨u.slots,k b u (hb b n) q⟩,Aoo _ (MS (hx b n) n),YY q _ ?_,
  Pl xs (MS A't q),YY xs q (MS A't q),BV2 (bJ A't)⟩
 by_cases hbe:b=e
 ·subst hbe;exact heo
 ·exact⟨u,k b u hbe q⟩
#where
def vo(A'V):CH:=BUh ĭ (H a).Į
def Am(A'V):AM:=ASs h (vo h H)
theorem yal(A'V):(Am h H).į=Mm:=W.hideAll_size _ _
theorem ydz(Bhm)(e:t6)(n:N3):LA (Am h H).Hm:=
 BHM _ e fun hm=>by
  have q:(H b).Į=Μ:=(ASt hm).2;rw[n] at q;simp at q
theorem yk2(Bhm)(e:LA (Am h H).Hm):t6/\N3:=by
 have e' :t6:=BHN (vo h H) e;refine C5 e';cases q:H b with
 | Η=>rfl
 | Ε x=>
  have hm:b∈vo h H:=AeC ⟨BqF (zG e'),AkV⟩
  have z:SV (Am h H).Hm:=BqG (vo h H) hm;rw[z] at e;show Do
def yks(g h:AM)(L:Ζ):d8:=BUh BHP (AhQ (a=L\/ (g.get? a).Į=Μ) (C4 Me a fun o=>(a,o)))
def HM(g h:AM)(L d:Ζ):d8:=(yks g h L).ĭ fun p=>(Χ (DJ≠d))
structure Mod (K:AA) (mg:EN) (C3:AM):Ι where
 IK:İ C3
 glob:BoJ
 blt:∃mb,base.Ns As8 mb/\Bfc
 nolimit:base.NoLimit
structure Cx where
 CY:A0
 w:An
 K:AA
 mg:EN
 C3:AM
 A:Bi
 N:Ρ
 K_:AC
 SG:Hp
 Be:Env
 DD:Lo
 stack:Lo
 ex:CH
 fn:Κ ->AT
 calm:AT
 pn:d8
 xe:dW
def frs(l:Lo):CH:=l.filterMap (·.frame)
abbrev Cx.fs(X:Cx):CH:=frs ABV
def qI(BXZ):Ι:=A9M (AaO\/AQT ALS)
def Loc(BXZ):Ι:=A9M AaO
def Look(Be:Env)(h:AM)(m:EN)(x:Κ)(u:AJ):Ι:=
 (AUo ASu/\GT m u)\/ ((ANW ASu\/AQT ASu)/\∃c,AZL/\h.IsCell c (Ε u))
structure Cx.Ok (X:Cx):Ι where
 mod:BZr
 kind:As9= AMj
 glob:BqM=pe
 blt:X.env.builtins=As8
 above:ANd W'
 inj:BDh AHi (BoG c)
 has:∀x,(ANW ALU\/AQT ALU) ->∃c,AHi
 cab:∀x c,Avl ->AHi ->ANd c
 hd:F7 ->X.A.handled=Η
 frames:X.A.frames=Ε O_
 stk:O_=ABV\/ (O_=BE::ABV/\AIx)
 exf:MM ABW (AVm/\ADv b)
 bs:AlB (Axv/\SV ASw)
 bsz:BqR<=BqO
 IV:AlB (b∉ABW)
 IW:MM ABW Aks
 funs:BqS SH ABV
 frf:MM kF (SV ASw)
structure Inv (X:Cx) (Ο:d8) (σ:AUa V) (H:Hp) (s:AC):Ι where
 ok:X.Ok
 os:s.os=X.s₀.os
 HP:BML
 C3:Un kF ABW ASw H X.s₀.heap A9
 loc:∃m,BPh/\∀(i:Δ) (x:Κ) (v:V),IG ->A3H ->OY ->∃u,OX/\Look BE A9 m x u
 cell:Af7 (∃v,AyQ)
 eJ:RC W'
 freeC:Af7 (RC c)
 pin:VS (X.pn++Ο) BiB
 D4:o7 HR X.w H A9
 len:AtB=X.N.length
section
variable{X:Cx}{Ο:d8}{σ:AUa V}{H H' :Hp}{s:AC}{h' :AM}
theorem Cx.Ok.nofr(ok:X.Ok){b:Ζ}{o:Obj}(e:LA X.base.get?):Aks:=APQ (by
 have:=(ok.funs.mem hb).1;show D5 e;show LH)
theorem Inv.bs(WS):AlB (mM/\N3):=Q1 ⟨AtC b o BM_ BQ5 (I.ok.nofr e) BLr,ASy b o BM_ BQ5 BLr⟩
theorem Inv.bk(WS):AlB mM:=Q1 (lj I.bs).1
theorem Inv.mod(WS):BZr:=I.ok.mod
theorem Inv.kIn(WS):X.K.In A9:=I.ok.mod.IK.keeps I.bk
theorem Inv.lt(WS):P1 W':=let ⟨_,hn,_⟩:=pp;hn.lt
theorem Inv.sz(WS):ANd Cl:=zO ALV (AGb I.lt)
theorem Inv.nofs(I:AV){a:Ζ}(h:tT a):a∉kF:=APQ (by
 obtain⟨_,o,ho,_⟩:=BK6;exact AFp (zM (zG ho) (zO I.sz h)))
theorem Inv.cne(WS):ADv W':=fun x c e z=>by
 obtain⟨v,o,ho,hd⟩:=BP0;obtain⟨m,⟨o',es,ep,EA,hd',_⟩,_⟩:=pp;rw[z,EA] at ho;show AD ho ho ho ho ho ho ho ho ho ho ho ho ho ho;rw[hd'] at hd;show ASX
theorem Inv.funs(WS):Ajc SH ABV:=by
 have all:∀(l:Lo),(U1 (frs l) A1e) ->BqS SH l ->BqY SH l:=by
  intro l;induction l with
  | D8=>intro _ _;trivial
  | AY Be r ih=>
   intro hs hl;obtain⟨hk,⟨L,o,hf,hn,ho,hd⟩,hr⟩:=hl;have hL:L∈kF:=hs L (BY' zY)
   show VX sl (AtE L o ho (BHR L hL) hL (Au (I.ok.IW L z hL)));exact⟨hk,⟨L,_,hf,hn,e,hd⟩,ih (MO (hs b (BY' (zW _ hb)))) hr⟩
 exact all ABV (KS hb hb) I.ok.funs
theorem Inv.stack(WS):Ajc SH O_:=by
 rcases I.ok.stk with e | ⟨e,hf⟩
 ·rw[e];exact I.funs
 ·rw[e];obtain⟨m,hn,_⟩:=pp;refine iO (AV' ALW) hf hn ?_ I.funs
  exact Heap.get?_none_of_le (zO I.ok.bsz ALV)
theorem Inv.stkSub(WS):MM io (b∈W'::kF):=E4 (by
 rcases I.ok.stk with e | ⟨e,hf⟩
 ·rw[e] at hb;exact zW _ hb
 ·rw[e] at hb;unfold frs at hb;rw[AtD,hf] at hb;exact hb)
theorem Inv.stkFree(WS):MM io N3:=E4 (by
 rcases A'3 hb with e | hb
 ·rw[e];exact xN
 ·obtain⟨_,o,ho,_⟩:=BK6;exact ASy b o ho (BHR b hb) (Au (I.ok.IW b z hb)))
theorem Inv.step(BlS)(I:AV)
  (hch:BFb)
  (KG:BZz Aks ACp)
  (LN:BZz A1e BXP) (eJ:∀b o,Aia ->mM ->N3 ->ANB)
  (ASq:Yf Aia mM BMV)
  (tups:BDv) (mR:BYb) (o8:BbS)
  (ns:∀m,BPh ->h'.Ns W' m) (D4:Amj) (hg:AtA g'):
  Bl':=by
 have neL:BSj:=BZk;show FY neC (Yf Axv (b∉ABW) Aia) (fun b o e hx hb=>by
  rcases Sj hch with z | z
  ·exact hx z
  ·exact AFp (zM (zG e) z)) cellK (Af7 (∀v,AyQ ->A4G)) (fun x c e v (AFH hd)=>by
  have W4:c∉ch:=Au (BBW (hch c z).2);by_cases hc:c∈kF
  ·show FC sl q (Baj LN) W4 ho Aas;exact EL q hd
  ·exact⟨o,Baj KG W4 ho Aas,hd⟩) ⟨xc,I.os,hg,⟨AOT,AOT,Jn b o e n hx,Ai4,fun b xs e=>tups b xs (AeG b xs e),AI6 xs (mR b o xs (AS1 b o xs e)),OQ ps e⟩,?_,ARQ,?_,ARQ,ip,D4,AGd⟩
 ·exact KG b o (lj neL) hb AqS Aqf (A4q hx)
 ·show ArM;show AEZ sl' (LN b _ (lj neL) hb AqS e1 (A4q hx));exact⟨sl',e2⟩
 ·show Ab_;exact eJ b o' AqS e1 (A4q hx)
 ·show Ab_;exact ASq b o' AqS e1
 ·show FC m1 e1 AeH b ps e;show AEZ m2 (o8 b _ e1);exact⟨m1++m2,BSM⟩
 ·show BQT;refine⟨m,ns m hn,BeF⟩;show AEa r l (hl i x v e1 e2 e3);refine CU u r;rcases l with l | ⟨k,c,e,z⟩
  ·exact CS l
  ·exact C_ ⟨k,c,e,cellK x c e _ z⟩
 ·show FC v z kG x c e;exact⟨v,cellK x c e v z⟩
 ·obtain⟨m,⟨o,_,_,ho,_⟩,_⟩:=pp;exact eJ _ o (FI (A2j hch)) ho xN
 ·obtain⟨v,o,ho,hd⟩:=BP0;exact eJ c o (FI (BBW (hch c z).2)) ho Aas
 ·show BFm;have W4:DJ∉ch:=Au ((hch DJ z).2.2.2 p hp Β);exact⟨KG DJ p.2 ne nf W4 e n,eJ DJ p.2 W4 e n,ne,nf,d⟩
theorem Inv.un{t' :Δ}(I:AV)(u:Un kF [] H H' A9 h')(D4:Amj):ACh AOC:=by
 obtain⟨m,⟨o,es,ep,ho,r⟩,_⟩:=id pp;show BhC A1
 exact BFn [] (KS z (nomatch z)) (BgX u.keep) (BgX u.slot) (fun b o _ e n=>u.free b o e n A1) (fun b o _ e=>u.there b o e A1) u.tups u.mR u.o8 (fun m' hm=>by
  obtain⟨o',es',ep',EA,r'⟩:=hm;rw[ho] at EA;show AD EA EA EA EA EA EA EA EA EA EA EA EA EA EA;exact Bgs) D4 Ĳ
theorem Inv.call(BlS)(I:AV)(u:Bii h')(D4:Amj)(hg:AtA g')
  (hch:BFb):
  Bl':=by
 obtain⟨m,⟨o,es,ep,ho,r⟩,_⟩:=id pp;show BhC (Au (A2j hch));exact I.step (ch:=ch) hch (fun b o hL hb hc e n=>u.keep b o e n (FI ((EQ (BHT b z)).UC hL hb)) hc) (fun b o _ _ hc e n=>u.any e n hc) (fun b o hc e n=>u.free b o e n hc) (fun b o hc e=>u.there b o e hc) u.tups u.mR u.o8 (fun m' hm=>by
  obtain⟨o',es',ep',EA,r'⟩:=hm;rw[ho] at EA;show AD EA EA EA EA EA EA EA EA EA EA EA EA EA EA;exact Bgs) D4 hg
theorem Inv.turned{t' :Δ}{it:Ζ}(I:AV)(k:Ank (b≠it))(hn:RC it)(hL:it≠W')
  (h1:it∈ABW\/ANd it) (h2:ADv it) (h3:Ahz it):A0U:=by
 have W5:f_ H (b≠it):=YY e z (Ap7 hn)
 refine BFn [it] AZA (fun b o _ _ hc e _=>A'b) (BOl A'b) BVd
  (BQd A'b) AjS (AUM e e) BWw (TM m hm) (MX) Ĳ
 ·have e:b=it:=ACX
  subst e;exact⟨h1,hL,h2,h3⟩
 ·show uC o es ep ho r hm ⟨o,es,ep,k _ o (AGe hL) ho,r⟩
 ·show Bji
theorem Inv.tok(I:AV)(t:Δ):yk (Avq t):=I.un (h' :=A9) (t' :=t) Un.refl KI
theorem Inv.kept{t' :Δ}(I:AV)(k:BNY):A0U:=I.un (ASr k) (I.hok.kept k)
theorem Inv.laid{a:Ζ}{o:HO}{t' :Δ}(I:AV)(k:BNY)(hp:tT a)(new:AHS Aag h' a o):
  È a o AOC:=I.un (AeB k hp (AiK hp)) (I.hok.laid k hp new)
theorem Inv.write{x e:Ζ}{o:HO}{t' :Δ}(I:AV)(mu:A_s)(he:BAJ)(k:AO9 e PD)(heo:A9P)
  (new:AHS (EH H x o) h' x o):È x o AOC:=I.un (Un.write mu he k heo) (I.hok.write mu he k heo new)
theorem Inv.pins_of{sJ :d8}(I:AV)(h:VS sJ BiB):Inv X sJ σ H s:=
 Aw0 xc (õ (BVl (FI (ABX p (zP _ z))) (h p)))
theorem zvq{N:Ρ}(hN:N.Nodup)(AoR){x:Κ}(a:r6 N)(b:VQ N x):i=j:=by
 obtain⟨h1,e1⟩:=xh a;show AEZ h2 (xh b);exact(List.getElem_inj hN).mp (e1.trans e2.symm)
theorem zqo{M:AS3}{A:Bi}{E:dW}{i:Δ}{x:Κ}{v:V}{u:AJ}{Q:ĉ}(I:AV)(hN:XA)(hi:IG)(hx:AEH)(r:OX)
  (h:∀s',AMN AlO H s' ->(∃a,Ap3 am/\ (a=W'\/GT As_ a)) ->ANL) (hf:AAr:=by show ArH):Bab:=by
 show BhS;have hcls:BfC:=BLb
 have hiσ:A0P:=CL AGd o6
 have cne:=I.cne;have tracked:l_ a Ζ h' AM (∃o,A3b/\Ü) (Ap3 h') (o7 HR X.w H h') :=fun{a h'} ha hs b ob e=>by
  obtain⟨_,_,hfree⟩:=ha;refine Ban (fun c w' hc q=>Bbc) AXw nr;rintro Β;rcases hc with Β | hc
  ·rw[hfree] at e;show Do
  ·show Lc hfree hc hc hc hc hc hc hc hc hc hc hc hc hc hc hc
 rcases hx with hk | hk
 ·refine wpAny_storeName_local hk hn (As h' hn' hs) hcls;obtain⟨oL,_,_,hoL,_⟩:=id hn;refine h _ (Bec (tracked ⟨oL,hoL,xN⟩ hs)) (EL hs APv)
  ·exact AaZ (ARe ALV) Aqf
  ·show ArM;exact⟨sl,Æ hs (ARe ALV) e1⟩
  ·show Ab_;exact⟨o',Æ hs (ARe ALV) e1⟩
  ·by_cases hj:j=i
   ·subst hj;show BWL ⟨u,r,.DH ⟨hk,DB⟩⟩
   ·rw[AUx AeL hj] at e2;obtain⟨u',r',q⟩:=hl j y v' e1 e2 e3;refine CU u' r';show Azt q k e k e z
    ·refine .DH (C5 k);have:y≠x:=Lv (hj (zvq hN e1 (e ▸ hi)));simp [Τ,e]
    ·exact C_ ⟨k,c,e,AsF⟩
  ·show FC w' z kG y c e;exact⟨w',AsF⟩
  ·show BFx (BDV ne)
 ·have hfn:Avl:=by
   rcases hf with z | z
   ·exact z
   ·show Lc z hk hk hk hk hk hk hk hk hk hk hk hk hk hk hk
  obtain⟨c,hc⟩:=I.ok.has x A0';show FC w' z kG x c hc;refine wpAny_storeName_cell ALW hk hc z (As h' hc' hs);obtain⟨oc,hoc,aaK⟩:=id z;refine h Sk ⟨xc,I.os,Ĳ,⟨AOT,AOT,ASy,Ai4,AeG,AS1,AeH⟩,⟨m,hn.sameBut hs (AGe (cne x c hc)),BpQ⟩,li y c',xN,AGc,ip,tracked ⟨oc,hoc,AGc x c hc⟩ hs,C6 AGd⟩ ⟨c,hs,.BD hc⟩
  ·exact AaZ (ARe BFU) Aqf
  ·show ArM;exact⟨sl,Æ hs (ARe BFU) e1⟩
  ·show Ab_;exact⟨o',Æ hs (ARe BFU) e1⟩
  ·by_cases hj:j=i
   ·subst hj;show BWL ⟨u,r,.BD ⟨.DH hk,c,hc,hc'⟩⟩
   ·rw[AUx AeL hj] at e2;obtain⟨u',r',q⟩:=hl j y v' e1 e2 e3;refine CU u' r';rcases q with q | ⟨k,c',e,z'⟩
    ·exact CS q
    ·refine .BD ⟨k,c',e,z'.sameBut hs ?_⟩;rintro Β;exact hj (zvq hN e1 (I.ok.inj _ _ _ e hc ▸ hi))
  ·by_cases hcc:c' =c
   ·subst hcc;exact E6 hc'
   ·show FC w2 z2 kG y c' e;exact⟨w2,z2.sameBut hs hcc⟩
  ·show BFm;refine BDV ?_;intro q;rw[q,hoc] at e;have q' :oc=p.2:=zF e;exact d w' (VZ q' aaK)
theorem UG{M:AS3}{A:Bi}{E:dW}{i:Δ}{x:Κ}{v:V}{u:AJ}{Q:ĉ}(I:AV)(hN:XA)(hi:IG)(hx:AEH)(r:OX)
  (h:Aaw (AMN AlO H s')) (hf:AAr:=by show ArH):Bab:=
 zqo I hN hi hx r (fun s' I' _=>h s' I') hf
theorem Inv.call'{s' :AC}{ch:CH}(I:AV)(ho:Aml)(u:Bii am)(D4:Aab)(hg:AIs)
  (hch:BFb):AJ7 :=by
 obtain⟨h',g',d',t',o'⟩:=s';have e:o' =s.os:=ho;show ü (I.call (g' :=g') (t' :=t') (d' :=d') u D4 hg hch)
#where
abbrev XK:=AHz (Ō N4)
abbrev St:=AUa V
abbrev VK:=AQE
abbrev TE:=St ->AMW
abbrev TT:=Ao' AJq
abbrev TA:=Ao' AQF
structure kH where
 nx:S4
 rt:VK
 bk:S4:=zt
 ct:S4:=zt
abbrev TS:=kH ->S4
inductive EP (X:Cx) (Ο:d8) (σ:St) (Q:VK) (u:AJ) (s' :AC):Ι
 | mk:∀v H',(Inv X Ο σ H' s') ->(HQ v u) ->(Q v H') ->ϭ u s'
def TP(X:Cx)(Ο:d8)(σ:St)(Q:AJq)(b:AT)(s' :AC):Ι:=∃H',AJ7 /\Q b H'
inductive AP (X:Cx) (Ο:d8) (σ:St) (Q:AQF) (us:At) (s' :AC):Ι
 | mk:∀vs H',(Inv X Ο σ H' s') ->(KF vs us) ->(Q vs H') ->AP X Ο σ Q us s'
def SP(X:Cx)(Ο:d8)(D:kH)(f:Flow)(s' :AC):Ι:=
 match f with
 | ADf=>A6I UD
 | .brk=>A6I D.bk
 | .OE=>A6I D.ct
 | .ret u=>∃v DI H',AwE /\OX/\D.rt v H'
def PE(X:Cx)(e:AK)(t:TE):Ι:=
 A'H VK (ADs (r8 e))
def PT(X:Cx)(e:AK)(t:TT):Ι:=
 A'H AJq (BPg (r8 e))
def PW(X:Cx)(e:AK)(t:TT):Ι:=
 ∀(AGf:AVJ) (Ο:d8) (s:AC) (σ:St) (H:Hp) (Q:AJq),AV ->è ->BPg AGf
theorem PW.pt{X:Cx}{e:AK}{t:TT}(h:PW X e t):PT X e t:=h _
def PA(X:Cx)(es:C7)(t:TA):Ι:=
 ∀(Ψ:AN) (Ο:d8) (s:AC) (σ:St) (H:Hp) (Q:AQF),AV ->è ->Af2 (spliced (ŗ es)) AP
def PS(X:Cx)(st:AO)(t:TS):Ι:=
 Bgl (exec st BE)
def Im(X:Cx)(st:Re)(t:TS):Ι:=
 Bgl (execs st BE)
theorem bZ{α:Ch}{t:Sem α}{Q Q' :PZ α}{M:AS3}{A:Bi}{E:dW}{s:AC}(h:u8 t)(hQ:∀a s,Q a s ->Q' a s):NO M A t Q' E s:=SI h hQ vk
section
variable{X:Cx}
def Ms(AJ_):TE:=AUv (∃v,A3H/\Q v H)
def tC(v:V):TE:=ApV (Q v H)
theorem sy{i:Δ}{x:Κ}{Ψ:AN}(hN:IG)(hv:OY)(AKv):PE X v4 (Ms i):=by
 show DO Q;show RE v e h;show BQT;show AEa r l (hl i x v hN e hv);have EC:ϭ u s:=BAW;show Azt l hk hm hk hc hcell
 ·exact BW9 (wpAny_loadName_local ALW hk hn hm)
 ·show A2m hk hk hk (BW9 (BXs wpAny_loadName_cell)) (wpAny_Name (BXs wpAny_loadName_free EC hcd) hd)
theorem yl6{i j Ψ}:A8o AEm AEm:=ARz (wpAny_Constant_int ⟨GG,H,AM5,E7,h⟩)
theorem ypa{b j Ψ}:A8o (s0 b) AP_:=ARz (Constant_bool (AM3 ox h))
theorem ymh{j Ψ}:Ò AS7 BM j (tC .non):=ARz (Bqd (AM3 BH h))
theorem yhk{x j Ψ}:A8o Ϻ Ϻ:=ARz (Calls.Constant_str ⟨oq,H,AM5,E7,h⟩)
def Gl(X:Cx)(x:Κ):Ι:=GT ALU .globalImplicit
theorem Gf(BmP)(I:AV)(hg:J_)(hm:AU5 u)(h:Q u s)
  (hd:HH:=by decide):AR4 (r8 v4):=
 Bby (Calls.loadGlobal_global BXK hm h)
theorem Io(BmP)(I:AV)(hg:J_)(hm:AAR)(hv:ϴ u)(h:Q u s)
  (Bf3):AR4 (r8 v4):=by
 obtain⟨mb,h1,h2⟩:=I.mod.blt;exact Bby (Calls.loadGlobal_builtin BXK hm (gc I.ok.blt h1.keeps I.bk) ((h2 x hn).Ff hv) h)
theorem ylf{x:Κ}{v:V}{u:AJ}{Ψ:AN}(hg:J_)(hm:AU5 u)(r:OX)(BXS):PE X v4 (tC v):=
 ARz (Gf I hg hm BAW hd)
theorem yls{x:Κ}{v:V}{u:AJ}{Ψ:AN}(hg:J_)(hm:AAR)(hv:ϴ u)(r:OX)(Bf3):PE X v4 (tC v):=
 ARz (Io I hg hm hv BAW hn hd)
variable{a b:AK}{ta tb:TE}{Ψ:AN}
def PC(X:Cx)(op:CmpOp)(a b:AK)(t:TE):Ι:=
 AXn Q VK è (r8 a) (Bcr (AWl (AS8 op v u) (EP X Ο σ Q) KK))
def tB(t:TE):TT:=Pe t x (Ab1 (Q c H1))
theorem ycf{op:CmpOp}{t:TE}(h:PC X op a b t)(h1:Aht:=by first | exact W6 _ Φ Φ | rfl):PT X Aa' (tB t):=by
 show AY6 hw;refine Bqf (bZ A_H (AAl h1 (bZ h1 fun u s2 h2=>bZ h2 (As c s3 Cn)))) h1;show dQ Cn;show F6 d Β q q1;show AD r1 r1 r1 r1 r1 r1 r1 r1 r1 r1 r1 r1 r1 r1;exact AGg ⟨H1,I1,q⟩
theorem yo2{e:AK}{t:TE}(h:ACY t)(he:∀AGf,AtK e BE AGf=(do let v<- AGf;AeN e.pos;xj [v] (truthy v)):=by intro _;rfl):PT X e (tB t):=by
 show AY6 hw;refine isTrue_plain (lc A_H v Cn) (he _);show dQ Cn;show F6 d Β q q1;show AD r1 r1 r1 r1 r1 r1 r1 r1 r1 r1 r1 r1 r1 r1;exact AGg ⟨H1,I1,q⟩
variable{tA Mt :TT}{HM:C7}
def aaL(t u:TT):TT:=Pe t c (JU c (u σ H1 Q) (Q AE H1))
def tOr(t u:TT):TT:=Pe t c (JU c (Q Μ H1) (u σ H1 Q))
def aaM(t:TT):TT:=Pe t c (Q (! c) H1)
theorem yjz(A3y):PW X (AgP [a]) tA:=by
 show Ao9;refine jI isTrue_and (AR3 ha Q) c e;cases c with
 | Μ=>exact isTrue_and_nil e
 | AE=>exact e
theorem ym0(A3y):PW X BMo tA:=by
 show Ao9;refine jI isTrue_or (AR3 ha Q) c e;cases c with
 | AE=>exact isTrue_or_nil e
 | Μ=>exact e
theorem ymz(ha:PT X a tA)(hb:PW X AmS Mt):PW X AmT (aaL tA Mt):=by
 show Ao9;refine jI isTrue_and Ĉ c Cn;show ArC;cases c with
 | Μ=>exact hb wh Ο s1 σ H1 Q I1 q1
 | AE=>exact⟨H1,I1,q1⟩
theorem ypk(ha:PT X a tA)(hb:PW X AmU Mt):PW X AmV (tOr tA Mt):=by
 show Ao9;refine jI isTrue_or Ĉ c Cn;show ArC;cases c with
 | Μ=>exact⟨H1,I1,q1⟩
 | AE=>exact hb wh Ο s1 σ H1 Q I1 q1
theorem yor(A3y):PT X Aou (aaM tA):=by
 show DO Q;exact isTrue_not (AR3 ha (hZ H1 (Q (! c) H1)))
def W7(ta tb:TE):TE:=Ϩ (Ab1 (JU c (tb σ H1 Q) (Q AH1 H1)))
def aaN(ta tb:TE):TE:=Ϩ (Ab1 (JU c (Q AN' H1) (tb σ H1 Q)))
def W8(ta:TE):TE:=Ϩ (Ab1 (Q (.bl (! c)) H1))
theorem yok{op}{t:TE}(h:PE X a t):Ò AS9 op [a] t:=fun Ο s σ H Q I hw=>BoolOp_one (AgK Q I hw)
theorem ymt(ha:ö)(hb:PE X AmS tb):PE X AmT (W7 ta tb):=by
 show DO Q;refine jI BoolOp_and Ĉ v DW;show BAZ DW;show AD r1 r1 r1 r1 r1 r1 r1 r1 r1 r1 r1 r1 r1 r1;refine A1S;cases c with
 | Μ=>exact hb Ο s1 σ H1 Q I1 q1
 | AE=>exact BB' AP7
theorem ypp(ha:ö)(hb:PE X AmU tb):PE X AmV (aaN ta tb):=by
 show DO Q;refine jI BoolOp_or Ĉ v hq8;show BAZ hq8;show AD r1 r1 r1 r1 r1 r1 r1 r1 r1 r1 r1 r1 r1 r1;refine A1S;cases c with
 | AE=>exact hb Ο s1 σ H1 Q I1 q1
 | Μ=>exact BB' ADi
theorem ym7(ha:ö):PE X Aou (W8 ta):=by
 show DO Q;refine jI UnaryOp_ Ĉ v W9;show BAZ W9;show AD r1 r1 r1 r1 r1 r1 r1 r1 r1 r1 r1 r1 r1 r1;exact not_of (AGg (BB' (.bl (! c))))
def tIf(t:TT)(ta tb:TE):TE:=Pe t c (JU c (ta σ H1 Q) (tb σ H1 Q))
theorem yf9{c:AK}(hc:PT X c tA)(ha:ö)(hb:AO3):PE X BQX (tIf tA ta tb):=by
 show DO Q;refine jI wpAny_IfExp (œ hc) d Cn;show ArC;cases d with
 | Μ=>exact ha Ο s1 σ H1 Q I1 q1
 | AE=>exact hb Ο s1 σ H1 Q I1 q1
#where
def nZ(BjR):Ι:=
 Rd H a tN\/
  ∃(o:Obj) (AW:Lm) (n:Δ),BMd/\AGh= AMa /\Akf/\Bdh
def xY(BjR):Ι:=
 Rd H a Y1\/
  ∃(o:Obj) (AW:Lm) (n:Δ),BMd/\AGh= AhT /\Bdh
def aaO:AHz WG
 | BM=>Ε BH
 | .bool b=>Ε AP_
 | AbK=>Ε AEm
 | A7x=>Ε Ϻ
 | .bytes b _=>Ε (.byt b)
 | .float b _=>Ε (.flt b)
 | CF=>Ε ED
 | SS n=>Ε (.ty n)
 | _=>Η
theorem RelV.abs(BeA):aaO u=Ε x:=by
 cases x with
 | non=>show AP0
 | bl _=>show AP0
 | AU _=>show APz
 | AX _=>show APz
 | byt _=>show APz
 | flt _=>show APz
 | B9 _=>show AP0
 | ty _=>show AP0
theorem RelV.inj{x y:V}{u:AJ}(r:å)(q:RY):x=y:=zF (r.abs.symm.trans q.abs)
theorem Vals.inj:∀{xs ys:AQ} {us:At},ia ->ř ys ->xs=ys
 | _,_,_,Eg,Eg=>Β
 | _,_,_,AKL,.AY r' t' =>IC (r.inj r') (Vals.inj t t')
section
variable{X:Cx}{Ο:d8}{σ:St}{H:Hp}{s:AC}{a:Ζ}{xs ys:AQ}
theorem Inv.list(I:AV)(h:AbO nZ):BBi (A2V PlainL A9):=by
 rcases h with h | ⟨o,AW,n,hk,hc,hd,hs,hz,r⟩
 ·show Arm (h.ok KI);exact⟨AW,r,⟨_,n,e,Β,Β,Β⟩,z⟩
 ·show Bes ⟨o,n,BaM,hc,hd,C6 hs⟩
theorem Inv.tuple(I:AV)(h:AbO xY):BBi (A2V IsTup A9):=by
 rcases h with h | ⟨o,AW,n,hk,hc,hs,hz,r⟩
 ·obtain⟨z,AW,r,p⟩:=h.ok KI;exact⟨AW,r,p,z⟩
 ·show Bes ⟨o,BaM,hc,n,C6 hs⟩
theorem Inv.list_inj(I:AV)(h:AbO nZ)(h' :ADr nZ a):xs=ys:=by
 obtain⟨AW,r,⟨o,n,e,_,_,d⟩,_⟩:=Az9;obtain⟨eP,r',⟨o',n',e',_,_,d'⟩,_⟩:=kL h';rw[e] at e';show AD e' e' e' e' e' e' e' e' e' e' e' e' e' e';rw[d] at d';injection d' with d1 _;have:AW=eP :=BXB
 show oB;exact r.inj r'
theorem Inv.tuple_inj(I:AV)(h:AbO xY)(h' :ADr xY a):xs=ys:=by
 obtain⟨AW,r,⟨o,e,_,n,d⟩,_⟩:=ĳ h;obtain⟨eP,r',⟨o',e',_,n',d'⟩,_⟩:=ĳ h';rw[e] at e';show AD e' e' e' e' e' e' e' e' e' e' e' e' e' e';rw[d] at d';injection d' with d1 _;have:AW=eP :=BXB
 show oB;exact r.inj r'
#where
section
variable{X:Cx}{st:AO}{HM:Re}{t u:TS}{e:AK}{te:TE}{Ψ:AN}
def Xa:TS:=A_7 AgS
def aaP(t u:TS):TS:=fun D σ H=>t BXz σ H
theorem ykx:Im X [] Xa:=fun _ _ σ H _ I h=>AS_ ⟨σ,H,I,h⟩
theorem zpk(h1:A_Q)(h2:Im X HM u):Im X (st::HM) (aaP t u):=by
 show DO D;refine jI Bqi (AR3 h1 BXz) f q;cases f with
 | Kx=>
  obtain⟨DI,H',I',q⟩:=q;exact h2 Ο s1 DI H' D I' q
 | ret v=>exact q
 | brk=>exact q
 | OE=>exact q
theorem zt7(h1:A_Q):Im X [st] t:=by
 show DO D;refine jI Bqi (AR3 h1 D) f q;cases f with
 | Kx=>exact AS_ q
 | ret v=>exact q
 | brk=>exact q
 | OE=>exact q
theorem Inv.quiet{Ο:d8}{σ:St}{H:Hp}{s:AC}(WS):interactive BE=AE:=c8 interactive ALW
def Xb(AQi):TS:=AOb te _ (AHv H1)
theorem UJ(he:dq)(hs:AGL Η:=by rfl):PS X (.AK e Ψ) (Xb te):=by
 show DO D;exact wpAny_Expr_any (bZ o4 (AAl Qw (by show dQ Qw;exact⟨σ,H1,I1,q1⟩))) I.quiet hs
def aaQ(AQi):TS:=fun D σ H=>te σ H D.rt
theorem z9q(he:dq):PS X (.AtT AYS Ψ) (aaQ te):=by
 show DO D;exact wpAny_Return_some (bZ o4 (AAl Ja (by show dQ Ja;exact⟨x,σ,H1,I1,r1,q1⟩)))
def aaR(c:TT)(t u:TS):TS:=fun D σ H=>c σ H (fF H1 (JU b (t D σ H1) (u D σ H1)))
theorem yo8{c:AK}{a b:Re}{tc:TT}(hc:PT X c tc)(ha:Im X a t)(hb:Im X b u):PS X (.If c a b Ψ) (aaR tc t u):=by
 show DO D;refine jI wpAny_If (œ hc) d Cn;show ArC;cases d with
 | Μ=>exact ha Ο s1 σ H1 D I1 q1
 | AE=>exact hb Ο s1 σ H1 D I1 q1
#where
abbrev TG:=V ->St ->D1 Hp (S4)
abbrev Om:=AQ ->St ->D1 Hp (S4)
def PG(X:Cx)(AeO:AK)(t:TG):Ι:=
 ∀(Ο:d8) (s:AC) (σ:St) (H:Hp) (v:V) (u:AJ) (Q:S4),AV ->OX ->t v σ H Q ->
  A2M (AS' AeO BE u) (AiB Ax2)
def Qx(X:Cx)(ts:C7)(t:Om):Ι:=
 ∀(Ο:d8) (s:AC) (σ:St) (H:Hp) (vs:AQ) (us:At) (Q:S4),AV ->AZS ->t vs σ H Q ->
  A2M (assignInOrder ((assignEach ts X.env).map (·.2)) us) (AiB Ax2)
abbrev Qy:=BbI
def Xc(X:Cx)(t:Qy):Ι:=
 ∀(Ο:d8) (s:AC) (σ:St) (H:Hp) (o i v:V) (ov iv u:AJ) (Q:GN Hp),AV ->BC (HQ o ov) (HQ i iv) OX (t o i v H Q) (A2M (setItem ov iv u) (∃H',AJ7 /\Q H'))
section
variable{X:Cx}{Ψ:AN}
def Oo(AJ_):TG:=Aak (Q AlO H)
theorem yir{i:Δ}{x:Κ}(Bjm)(hf:AAr:=by show ArH):PG X v4 (Oo i):=by
 intro Ο s σ H v u Q I r h;exact BHc (UG I hN hi hx r (fun s' I' =>⟨_,H,I',h⟩) hf)
def aaS:Om:=fc vs Q (vs= []/\Q σ H)
def Xd(t:TG)(u:Om):Om:=fc vs Q (∃v r,vs=v::r/\t v σ H fun DI H' =>u r DI H' Q)
theorem ylc:Qx X [] aaS:=by
 intro Ο s σ H vs us Q I r h;show APR h h;subst e;show AD r r r r r r r r r r r r r r;exact Bqj ⟨σ,H,I,h⟩
theorem yfz{e:AK}{es:C7}{t:TG}{u:Om}(h1:PG X e t)(h2:Qx X es u)
  (hs:AcA LE (AYU e::(ALX es BE).map (·.2)):=by rfl):Qx X LE (Xd t u):=by
 intro Ο s σ H vs us Q I r h;show sA v vr e1 h;subst e1;cases r with
 | AY r rr=>
  rw[hs];refine jI BHd (h1 Ο s σ H _ _ _ I r h) _ Cn;obtain⟨σ1,H1,I1,q1⟩:=Cn;exact h2 Ο s1 σ1 H1 _ _ Q I1 rr q1
def aaT(K:AA)(n:Δ)(t:Om):TG:=Aak (∃a xs,v= CF/\AFQ/\By=n/\t xs σ H Q)
theorem ym2{es:C7}{k:Δ}{t:Om}{n:Δ}(hc:F7)(h:Qx X es t)
  (hn:Sc ALX es BE=n:=by rfl) (hst:(ALX es BE).findIdx? (·.1)=Η:=by rfl):PG X (.ABa es k Ψ) (aaT AG n t):=by
 intro Ο s σ H v u Q I r hw;obtain⟨a,xs,e1,hq,hl,hw⟩:=hw;subst e1;show AD r r r r r r r r r r r r r r;obtain⟨AW,rv,ht,hz⟩:=ĳ hq;refine assign_Tuple_tuple To ht (by simp [hn,<- hl,AeP]) hst (Cb h' hx)
 have I1:AJe:=BS3 (Q1 (hx b o AbY e));exact h Ο _ σ H xs _ Q I1 (DT rv) hw
def gq(to ti:TE)(t:Qy):TG:=Aak (to σ H (y0 o (ti σ H1 fun i H2=>t o i v H2 fun H3=>Q σ H3)))
theorem yl5{o i:AK}{to ti:TE}{t:Qy}(ho:A3')(hi:PE X i ti)(hs:Xc X t)
  (ha:∀v,AS' (AkE o i) BE v=(do
   let ov<- xj [v] (eL o BE)
   let iv<- xj [v,ov] (eL i BE)
   AeN Ψ
   BdY
   BUF):=by intro _;rfl):PG X (AkE o i) (gq to ti t):=by
 intro Ο s σ H v u Q I r h;rw[ha];refine AI5 (lc AXL ov Jb);show dQ Jb;refine AI5 (bZ (ϙ hi) (As iv s2 Jc));obtain⟨y,H2,I2,r2,q2⟩:=Jc;refine A1L (z6 (ABc (bZ (hs Ο s2 σ H2 x y v ov iv u _ I2 r1 r2 r q2) (APd _ s3))));show Ż H3 I3 q3;exact wpAny_release ⟨σ,H3,I3,q3⟩
def Xe(te:TE)(g:TG):TS:=AOb te x (g x σ H1 UD)
theorem yg4{tg e:AK}{te:TE}{g:TG}(he:dq)(hg:PG X tg g)(hs:AZo [tg] e:=by rfl)(hw:AeQ [tg] e BE=Hn Η:=by rfl)
  (h1:AcA [tg] [AYU tg]:=by rfl):AOt [tg] e (Xe te g):=by
 show DO D;refine wpAny_Assign_stores (lc o4 v Cn) hs hw;show dQ Cn;rw[h1];exact bZ (hg Ο s1 σ H1 x v _ I1 r1 q1) fun _ s2 q=>q
theorem Xf(AQQ){x:Κ}{e:AK}{te:TE}{KL :AN}(hN:XA)(hi:IG)(hx:AEH)(he:dq)(hs:AGL APo:=by rfl)(hf:AAr:=by show ArH):
  AOt Bm2 e (Xe te (Oo i)):=by
 show DO D;refine wpAny_Assign_Name (bZ o4 (UT v Cn)) hs;obtain⟨y,H1,I1,r1,q1⟩:=Cn;exact UG I1 hN hi hx r1 (fun s2 I2=>⟨_,H1,I2,q1⟩) hf
def aaU(i j:Δ)(ta:TA):TS:=AOb ta vs (∃v w,vs= [v,w]/\UD ((σ.set i É).set j (D9 w)) H1)
theorem yod(AoR){x y:Κ}{a b:AK}{ta:TA}{px py pt:AN}{kt k2 Qz}(hc:F7)(hN:XA)(hi:IG)(hj:AKb)(hij:AAn)
  (hx:Avm) (hy:Abz) (ha:AKQ si)
  (hw:AeQ ASU ASF BE=Hn (D9 [x,y]))
  (hs:AZo ASU ASF:=by rfl):
  AOt ASU ASF (aaU i j ta):=by
 show DO D;show mE exec_Assign_arm A1y hs AIX;show vz
 refine z6 (Tuple_ (lc (Av3 _) us aaV));show AI_ aaV;show GB v w e1 q1 q1;subst e1;obtain⟨u1,u2,Β,rv,tZ⟩:∃u1 u2,us= [u1,u2]/\HQ v u1/\HQ w u2:=by
  cases r1 with
  | AY p q=>
   cases q with
   | AY p' q' =>
    show BGU;exact⟨_,_,Β,p,p'⟩
 refine Bne (by show B1 (D7 2);decide)
 have I2:AJd (AXD (ATC (sB [u1,u2].pz))):=AgT;rw[hw];refine AIX;show BG (?_:AUe (do p_ "assign.swapped-stores";let OF<- unpackItems (BY E3) 2 Η;assignInOrder [fun v=>BHf BE y v,fun v=>BHf BE x v] BHg;Hn Flow.next) _ _ _) (BPj (unpackItems_tuple (OF:= #[u1,u2]) (ATA hc) (IsTup.new AtY _) (Cb h' hx')));have I3:=I2.kept (h' :=h') (t' :=ATD) (Q1 (hx' b o AbY e));refine z6 (BHd (BHh (UG I3 hN hj A1G tZ (TM s2 I4) A1R)));refine BHd (BHh (UG I4 hN hi (HG hx) rv (fun s3 I5=>Bqj (z7 ?_)) (FV hx)));show ND (List.set_comm _ _ (lr hij)) I5 ⟨_,H1,I5,q1⟩
#where
section
variable{X:Cx}{Ψ:AN}
def QB(c:TT)(tb:TS):TS:=A_7 (∃W:AkD,(∃m,W m σ H)/\∀m σ H,W m σ H ->
 c σ H (fF H1 (JU b (Bm1 (AgF (W m' DI H')) (tb (AVi N N) σ H1)) (AHv H1))))
theorem ye9{c:AK}{L6:Re}{tc:TT}{tb:TS}(hp:BEj)(hc:PT X c tc)(hb:BUI):PS X BfG (QB tc tb):=by
 show DO D;obtain⟨W,⟨m0,w0⟩,UE⟩:=h;refine wpAny_While (codeAny_whileLoop (u7 n (AiB (W n DI H'))) ?_ m0 ⟨σ,H,I,w0⟩);rintro n s1 ⟨σ1,H1,I1,w1⟩;refine AKl (hc Ο s1 σ1 H1 _ I1 (UE n σ1 H1 w1)) (OQ s2 Cn);show Ż H2 I2 q2;cases b with
 | Μ=>
  show F6 N hN q2 q2;show Û;refine AKl (hb Ο s2 σ1 H2 _ I2 q2) (As f s3 q3);cases f with
  | Kx=>
   obtain⟨σ3,H3,I3,n3⟩:=q3;obtain⟨m',hm,w3⟩:=hN σ3 H3 n3;exact⟨m',hm,σ3,H3,I3,w3⟩
  | OE=>
   obtain⟨σ3,H3,I3,n3⟩:=q3;obtain⟨m',hm,w3⟩:=hN σ3 H3 n3;exact⟨m',hm,σ3,H3,I3,w3⟩
  | brk=>exact q3
  | ret v=>exact q3
 | AE=>
  show BNm AS_ ⟨σ1,H2,I2,q2⟩
#where
structure It where
 go:Ō Δ
 yld:ACR Hp AQE
 ABd:Ō Δ
def pL(X:Cx)(Ο:d8)(H:Hp)(b:Ζ):Ι:=
 N3/\AVm/\Aks/\ Bno/\ (ADv b)/\Ahz b
theorem Inv.fpOk{X:Cx}{Ο:d8}{σ:St}{H H' :Hp}{s:AC}{b:Ζ}(I:AV)(hb:tT b)(hn:ANB):An5:=by
 refine⟨hn,ALa (zM I.lt hb),I.nofs hb,.BD (zO I.sz hb),Ba5,As p hp z⟩
 ·show FC v q kG x c e;exact AFp (zM q.lt (EM z hb))
 ·exact AFp (zM (zG (AO2 ABX)) (EM z hb))
structure Turn (P:A0) (w:An) (K:AA) (tg:AK) (J:It) (fp:CH) (it:Ζ) (tn:AZ5):Ι where
 mem:it∈fp
 obj:Baa
 KG:BjH
 SL:AsM F7 (BC AV Alw AXY Alf (ArI (∃u,r=Ε u/\
   NO ACr X.A BCO (KS s2 (∃x H',AlS/\å/\J.yld i H x H' /\BTw/\l9 ANB)) E s1)))
 KM:AsM F7 (BC AV Alw AXY Alh (ArI BTo))
 PF:Bme
abbrev TI:=Ao' AOA
def PIE(Bmc):Ι:=
 ∃(it:Ζ) (fp:CH) (tn:AZ5) (J:It) (H' :Hp),itv= .B9 it/\AlS/\Turn HR X.w AG tg J fp it tn/\BTd/\ (U1 fp An5)/\Apw
def PI(BkJ):Ι:=
 AXn R AOA (wi σ H R) AZG (BZ2 BQY)
theorem Oq{M:AS3}{A:Bi}{E:dW}{s:AC}{tg:AK}{it:Ζ}{u:AJ}{o:Obj}{n:KE}{vs:Lm}{Q:ĉ}(ho:AUn it)(hc:AGh= SS n)(hd:AmL)
  (hn: (Bll).ABe n=AE) (hQ:Q () s):u8 BCO:=by
 (show MQ tg tg tg tg tg tg tg tg tg tg tg tg tg tg)<;>first
  | exact z7 hQ
  | (
    (show MQ u u u u u u u u u u u u u u)<;>first
    | exact z7 hQ
    | (
      refine gi BHj ho;rw[hc,hd];refine(?_:u8 (AOO (VW ((Bll).ABe n) (vs[0]?==Ε (aw _)))));show A7 (by intro h;rw[hn,Bool.false_and] at h;show HK)
      exact z7 hQ))
def UL(K:AA)(a:Ζ):It:=
 AXs (BCP wn) (H' =H/\A7T wn) (∃xs,wn/\AQL)
def QC(K:AA)(a:Ζ):It:=
 AXs (BCP AFQ) (H' =H/\A7T AFQ) (∃xs,AFQ/\AQL)
def Li(lo:AB)(n:Δ):It:=⟨fun i _=>i<n,fun i H x H' =>H' =H/\x= A0J,fun i _=>n<=i⟩
theorem zwx(AKm)(a it:Ζ):APA (UL K a) BP2 where
 mem:=DB
 obj:=AF_ (by
  have e:b=it:=ACX
  subst e;show BAa)
 KG:=AqO
 SL:=by
  show WU;show On;obtain⟨xs,x,hq,hx⟩:=hg;show AaS AI9;show BU u hu ru AGk hx;show dy
  refine wpAny_pyNext_list_item st ALc (x:=u) Aj' (iX st' sb)
  have I1:AJe:=AZ3;show VI o e c d st';exact⟨u,Β,Oq (s:=Sk) e c d Φ ⟨x,H,I1,ru,Ic (A'I Atb),st',AOS⟩⟩
 KM:=by
  show WU;show On;show BEG;show AaS AI9;show dy
  show AEP;exact wpAny_pyNext_list_end To st ALc i_ AGI
 PF:=AbU wpAny_pyIter_listiter
theorem zta(AKm)(a it:Ζ):APA (QC K a) (Bqr it a i) where
 mem:=DB
 obj:=AF_ (by
  have e:b=it:=ACX
  subst e;show BAa)
 KG:=AqO
 SL:=by
  show WU;show On;obtain⟨xs,x,hq,hx⟩:=hg;show AaS A1u;show BU u hu ru AGk hx;show dy
  refine wpAny_pyNext_tuple_item st BOx (x:=u) Aj' (iX st' sb)
  have I1:AJe:=AZ3;show VI o e c d st';exact⟨u,Β,Oq (s:=Sk) e c d Φ ⟨x,H,I1,ru,Ic (A'I BHk),st',AOS⟩⟩
 KM:=by
  show WU;show On;show BEG;show AaS A1u;show dy
  show AEP;exact wpAny_pyNext_tuple_end To st BOx i_ AGI
 PF:=AbU wpAny_pyIter_tupleiter
theorem z5p(AKm)(it:Ζ)(lo:AB)(n:Δ):APA (Li lo n) (IsRangeIter h it (lo+ MC i*1) (Lw - MC i) 1) where
 mem:=DB
 obj:=AF_ (by
  have e:b=it:=ACX
  subst e;exact EL st (fun v z=>(Bav (Data.fields _=Data.cell v))))
 KG:=AWP (k it A1 _ st)
 SL:=by
  show WU;show On;show dy
  have W:=Walks.range (CY:=HR) (w:=X.w) To it lo 1 n;refine W.item i s _ _ hg st fun v h' tk hv st' kk=> ?_;show PY hv;have I1:yk ZO:=Afx Ata (kk b o (DT hb) e)
  refine OS (Oq (s:=ZO) (n:= "range_iterator") st' Β Β Φ ⟨A0J,H,I1,C5 t,ue,st',AOS⟩)
  rw[Atd]
 KM:=by
  show WU;show On;show dy
  exact wpAny_pyNext_range_end To st (by have:n<=i:=hg;show AF) AGI
 PF:=AbU wpAny_pyIter_rangeiter
section
variable{X:Cx}{tg:AK}
theorem z16{Ο:d8}{σ:St}{H:Hp}{s:AC}{R:AOA}{E:dW}{lo hi:AB}{t u v:Tok}{tk:Δ}(I:AV)(h1: AIO<=lo)(h2:lo<2^62)(h3: AIO<=hi)(h4:hi<2^62)
  (q:R (Li lo A'Z) H):AUe (ALb (BY Cl)) BQY E BU8:=by
 refine wpAny_pyIter_range (IsRange.new ..) (small_one h1 h2 h3 h4) ?_;have I1:yk BU8:=I.kept Å;refine⟨A4V,[A4V],_,_,H,Β,
  AtX (t' :=tk) Å,z5p _ lo A'Z,?_,NF,q⟩
 ·have e1:lo+ APw*1=lo:=DB
  have e2:FA A'Z - APw=Builtin.Range.rangeSize lo hi 1:=by rw[rangeSize_one];show Ö
  rw[e1,e2];exact Si
 ·have e:b=A4V:=ACX
  subst e;exact AeU Gc (Ķ Gc)
def Xg(ta:TA):TI:=AjG (∃j:AB,vs= [AIE]/\ AIO<=j/\j<2^62/\R (Li 0 ABf) H1)
def Xh(ta:TA):TI:=AjG (∃i j:AB,vs= AOV/\ (BiF)/\R (Li i BUK) H1)
theorem yb8{a:AK}{ta:TA}{p Ψ:AN}(hg:Gl X pf)(hm:Q4 pf)(ha:AKQ [a])(hs:BVV:=by rfl):vi (AXX pf) (Xg ta):=by
 show DO R;refine Call_ (Ĝ boot_range (ATE Amf hs Β));show AI_ Cn;obtain⟨j,e,q1,q2,q⟩:=q1;subst e;cases r1 with
 | AY r rr=>
  show BGV;show PY r;exact call_range_1 (z16 I1 Θ Θ q1 q2 (DT q))
theorem z9i{a b:AK}(BFY)(hg:Gl X pf)(hm:Q4 pf)(ha:AKQ si)(hs:BZh:=by rfl)(hs2:BVW:=by rfl):
  vi (AUh pf si) (Xh ta):=by
 show DO R;refine Call_ (Ĝ boot_range (BKQ (lc AhD us ⟨vs,H1,I1,r1,q1⟩) (Ϟ hs hs2) (WB hs2)))
 obtain⟨i,j,e,⟨q1,q2,q3,q4⟩,q⟩:=q1;subst e;cases r1 with
 | AY r rr=>
  cases rr with
  | AY r' rr=>
   show BGV;show PY r;show yi t' r';exact call_range_2 (z16 I1 q1 q2 q3 q4 q)
def aaW(wi:TI)(g:TG)(tb:TS):TS:=AOb wi J (ARU S4 (W 0 m σ H1) (∀i m σ H,Aat ->
 Acm Alh Alf J.yld Aqt))
def vZ(fp:CH)(h:AM):d8:=fp.filterMap fun b=>C4 Me b fun o=>(b,o)
theorem zjc{fp:CH}{h:AM}{b:Ζ}{o:Obj}(hb:b∈fp)(e:t6):(b,o)∈vZ fp h:=BMW b hb (by rw[e];rfl)
theorem z9l{fp:CH}{h:AM}{p:Ζ×Obj}(hp:p∈vZ fp h):DJ∈fp/\ANm Me:=by
 show BU b hb e List.mem_filterMap.mp hp;cases q:Me b with
 | Η=>rw[q] at e;show Do
 | Ε o=>
  rw[q] at e;have e' :(b,o)=p:=zF e;subst e';exact⟨hb,q⟩
theorem Inv.pinned{Ο:d8}{σ:St}{H:Hp}{s:AC}{fp:CH}(I:AV)(hf:AZp)(ho:l9 (Ay7 mM)):Inv X (Ο++vZ fp A9) σ H s:=
 BXC (BVl (FI (ABX p (zQ _ z))) (Au (by
  show VX hb (z9l z);obtain⟨f0,f1,f2,_⟩:=hf DJ hb;show Ct o e' d ho DJ hb;rw[e] at e';show Ϯ;exact⟨e,f0,f1,f2,d⟩)))
theorem Inv.unpinned{Ο pl:d8}{σ:St}{H:Hp}{s:AC}(I:Inv X (Ο++pl) σ H s):AV:=BXC (ABX p (zQ _ (zP _ hp)))
theorem z2h{OG:AK}{L6:Re}{wi:TI}{g:TG}{tb:TS}{Ψ:AN}(hp:BEj)(hc:F7)(hi:BTQ)(hg:PG X tg g)(hb:BUI)
  (AFw):PS X (.For tg OG L6 [] Ψ) (aaW wi g tb):=by
 show DO D;refine wpAny_For (bZ Akp (AAl h1 BaX)) hs;obtain⟨it,fp,tn,J,H2,e,I2,T,st2,f2,W,⟨m0,w0⟩,UE⟩:=h2;subst e
 
 have stat:Bdt An5:=fun hn b hb=>⟨AQG,sj f2⟩;refine codeAny_forLoop_any (u7 n (∃i DI H',AwE /\BoD/\ Ahi/\W i n DI H')) ?_ m0 ⟨0,σ,H2,I2,st2,E4 (Sj f2),w0⟩;rintro n s3 ⟨i,σ3,H3,I3,st3,fr3,w3⟩;rcases UE i n σ3 H3 w3 with ⟨ABd,qn⟩ | ⟨go,N,hN,ABg⟩
 ·refine AKl (Atf X Β Β Β hc i Ο s3 σ3 H3 xi I3 (stat fr3) st3 ABd) (APd r s4);obtain⟨hr,I4⟩:=Cn;subst hr;exact AS_ ⟨σ3,H3,I4,qn⟩
 ·refine AKl (Atg X Β Β Β hc i Ο s3 σ3 H3 xi I3 (stat fr3) st3 go) (APd r s4);show Ż u hr h4;subst hr;refine AKl h4 (As _ s5 aaX);obtain⟨x,H5,I5,r5,y5,UW,fr5⟩:=aaX;have I5' :=I5.pinned (stat fr5) (T.obj _ _ UW);refine AKl (hg _ s5 σ3 H5 x u _ I5' r5 (ABg x H5 y5)) (APd _ s6);obtain⟨σ6,H6,I6,q6⟩:=Cn;refine AKl (hb _ s6 σ6 H6 _ I6 q6) (As f s7 q7);have ALg:l_ σ7 St H7 Hp (Inv X (Ο++vZ fp s5.heap) σ7 H7 s7) (N σ7 H7) (AoJ (∃i DI H',AMN DI H' s7/\tn i s7.heap/\ Ahi/\W i m DI H')) :=fun{σ7 H7} I7 n7=>by
   obtain⟨m',hm,w7⟩:=hN σ7 H7 n7;refine⟨m',hm,EZ,σ7,H7,BHq,BOp UW I7.pin,NF,w7⟩;show ie e d (Aq8 UW);exact BKj I7.pin
  cases f with
  | Kx=>obtain⟨σ7,H7,I7,n7⟩:=q7;exact ALg I7 n7
  | OE=>obtain⟨σ7,H7,I7,n7⟩:=q7;exact ALg I7 n7
  | brk=>obtain⟨σ7,H7,I7,q7⟩:=q7;exact⟨σ7,H7,BHq,q7⟩
  | ret v=>obtain⟨x7,σ7,H7,I7,r7,q7⟩:=q7;exact⟨x7,σ7,H7,BHq,r7,q7⟩
#where
theorem yf2{K:AA}{a:Ζ}{xs:AQ}{g:TG}(BE')(Pv:AkD)(h0:Pv 0 σ H)(hl:∀i σ H,AZe ->AFd ->wn)
  (hs:∀i x σ H,Ţ ->AFd ->BCL x) (hd:BEW By):
  ARU S4 (W 0 m σ H) (∀i m σ H,Aat ->
   Acm ((UL K a).ABd i H) ((UL K a).go i H) (UL K a).yld Aqt):=by
 refine AoM σ H By AZe AFd BP8
 rintro i m σ H ⟨Β,hi,p⟩;have q:=hl i σ H hi p;by_cases A_:vv
 ·refine A9H ⟨xs,xs[i],q,DL A_⟩ BM2
  show APR y y;subst e;exact Bkb
 ·have e:i=By:=Υ
  subst e;exact CS ⟨⟨xs,q,OZ⟩,hd σ H p⟩
theorem yi2{K:AA}{a:Ζ}{xs:AQ}{g:TG}(BE')(Pv:AkD)(h0:Pv 0 σ H)(hl:∀i σ H,AZe ->AFd ->AFQ)
  (hs:∀i x σ H,Ţ ->AFd ->BCL x) (hd:BEW By):
  ARU S4 (W 0 m σ H) (∀i m σ H,Aat ->
   Acm ((QC K a).ABd i H) ((QC K a).go i H) (QC K a).yld Aqt):=by
 refine AoM σ H By AZe AFd BP8
 rintro i m σ H ⟨Β,hi,p⟩;have q:=hl i σ H hi p;by_cases A_:vv
 ·refine A9H ⟨xs,xs[i],q,DL A_⟩ BM2
  show APR y y;subst e;exact Bkb
 ·have e:i=By:=Υ
  subst e;exact CS ⟨⟨xs,q,OZ⟩,hd σ H p⟩
theorem z7m{lo:AB}{n:Δ}{g:TG}(BE')(Pv:AkD)(h0:Pv 0 σ H)
  (hs:∀i σ H,i<n ->AFd ->BCL (GM (lo+i))) (hd:BEW n):
  ARU S4 (W 0 m σ H) (∀i m σ H,Aat ->
   Acm (ArL ABd) (ArL go) (Li lo n).yld Aqt):=by
 refine CU (fun i m σ H=>m=n - i/\i<=n/\AFd) ⟨n,DB,MZ,h0⟩
 rintro i m σ H ⟨Β,hi,p⟩;by_cases A_:i<n
 ·refine A9H A_ (n - Db)
  show APR y y;subst e y;exact hs i σ _ A_ p
 ·have e:i=n:=Υ
  subst e;exact CS ⟨OZ,hd σ H p⟩
abbrev R2:=V ->V ->AMW
def mq(X:Cx)(f:AKn)(r:R2):Ι:=
 ∀(Ο:d8) (s:AC) (σ:St) (H:Hp) (x y:V) (v u:AJ) (Q:VK),BC AV pM RY (r x y H Q) (ADs (f v u))
def UnR(X:Cx)(f:AHz AVJ)(r:Alp):Ι:=
 ∀(Ο:d8) (s:AC) (σ:St) (H:Hp) (x:V) (v:AJ) (Q:VK),AV ->pM ->r x H Q ->
  ADs (f v)
def fj(X:Cx)(f:AJ)(r:ĕ):Ι:=
 ∀(Ο:d8) (s:AC) (σ:St) (H:Hp) (xs:AQ) (us:At) (Q:VK),AV ->ia ->r xs H Q ->
  ADs (qA f us)
def Xi(r:R2)(ta tb:TE):TE:=BTi Q
def tUn(r:Alp)(ta:TE):TE:=Ϩ (r x H1 Q)
def rI(C:ApK)(g:AmJ):R2:=AJJ (BDx (Q wT H))
def Ot(g:AmJ):R2:=AJJ (BFO (Q wT H))
def rU(g:AB ->V):Alp:=fun x H Q=>∃i,x= GG/\Q (g i) H
section
variable{X:Cx}{a b c:AK}{ta tb tc:TE}{Ψ:AN}
theorem QD(ha:ö)(hb:AO3){Ο:d8}{s:AC}{σ:St}{H:Hp}{R:V ->AQE}(I:AV)
  (h:ta σ H (y0 x (Ï tb y (R x y H2)))) {Q:dW} {f:AKn}
  (hf:∀v u s2 x y H2,BC (QY H2 s2) pM RY (R x y H2) (AWl (f v u) Q s2)):
  AHW (r8 a) (Bcr (AWl (f v u) Q KK)):=by
 refine Aaz Ĉ aaY;show dQ aaY;refine ADG (ϙ hb) u aaZ;show uC y H2 I2 r2 q2 aaZ (hf v u s2 x y H2 I2 r1 r2 q2)
theorem ym4{op:Operator}{r:R2}(ho:mq X (Atj op) r)(ha:ö)(hb:AO3):PE X BQW AqY:=by
 show DO Q;exact wpAny_BinOp (QD ha hb I h Bl3)
theorem yo9{op:AtO}{r:Alp}(ho:UnR X (unaryOp op) r)(ha:ö):Ò AtO op a (tUn r ta):=by
 show DO Q;exact UnaryOp_ (bZ Ĉ (AAl aa0 (by show dQ aa0;exact A9x ho x v Q I1 r1 q1)))
theorem opI{f:AKn}{C:ApK}{g:AVS AB}
  (p_:BGP (C i j ->BBw wT ->AR4 BFH)):
  mq X f (rI C (Þ wT)):=by
 show AGN;show zw i j Β hc q h;show dL;show AKZ;exact BFp hc (Aa4 wT)
theorem Xj{f:AKn}{g:AVS AB}
  (p_:BGP (BBw wT ->AR4 BFH)):
  mq X f (Ot (Þ wT)):=by
 show AGN;show Fu i j Β q h;show dL;show AKZ;exact BFp (Aa4 wT)
theorem QH{f:AKn}{g:AVS AT}
  (p_:BGP (Q (s0 wT) s ->AR4 BFH)):
  mq X f (Ot (AHZ (.bl wT))):=by
 show AGN;show Fu i j Β q h;show dL;show AKZ;exact BFp (AM3 (.bl wT) q)
def QJ(AKS):Ι:=0<=j/\j<=1000000/\AZV 64
theorem ym6:ANK Add (Ot (Þ (i+j))):=AcM Xj add_int
theorem yov:ANK Sub (Ot (Þ (i - j))):=AcM Xj sub_int
theorem ylx:ANK Mod (rI (KS j AOl) BOK):=BQs (mod_int' hc q)
theorem yl7:ANK Pow (rI QJ BaW):=BQs (pow_int_small hc.1 hc.2.1 hc.2.2 q)
theorem unI{f:AHz AVJ}{g:AB ->AB}
  (p_:∀(i:AB) (t:Tok) (s:AC) (Q:dW) (E:dW),BBw (g i) ->AR4 (f Ahw)):
  BW7 f (g i):=by
 intro Ο s σ H x v Q I rx h;show AJz i q;show dL;exact p_ i t s _ _ (Aa4 (g i))
theorem yoq:BW7 (unaryOp .USub) (-i):=unI (ASJ _ q (neg_int q))
#where
section
variable{X:Cx}{a b c:AK}{ta tb tc:TE}{Ψ:AN}
theorem yh6{Ο:d8}{σ:St}{H:Hp}{s:AC}{Q:VK}{k k' :AT}(I:AV)(q:Q (.bl k) H)(e:k=k'):ϭ (s0 k') s:=by
 subst e;exact AM3 (.bl k) q
theorem ypv:A_h Lt (i<j):=AcM QH lt_int
theorem ypr:A_h LtE (i<=j):=AcM QH le_int
theorem ypf:A_h Gt (j<i):=AcM QH gt_int
theorem yn6:BaO Is (O0 (x= BH)):=by
 show AGN;show AEX q h;show ASY;refine is_none_gen (yh6 I q ?_);(show MQ x x x x x x x x x x x x x x)<;>first
  | (show KA;rfl)
  | (show dL;rfl)
theorem yjf:BaO IsNot (!(Χ (x= BH))):=by
 show AGN;show AEX q h;show ASY;refine isnot_none_gen (yh6 I q ?_);(show MQ x x x x x x x x x x x x x x)<;>first
  | (show KA;rfl)
  | (show dL;rfl)
theorem aX(b:AK){op:CmpOp}(h:op≠ .In:=by decide)(h2:op≠ AJP:=by decide):Aht:=by
 have e1:ky op CmpOp.In:=by (show MQ op op op op op op op op op op op op op op)<;>first | rfl | show AFL h
 have e2:ky op CmpOp.NotIn:=by (show MQ op op op op op op op op op op op op op op)<;>first | rfl | show AFL h2
 (show MQ b b b b b b b b b b b b b b)<;>simp [BHZ,e1,e2]
theorem yk9(BeB):PE X Aa' AqY:=by
 show DO Q;exact wpAny_Compare1 (QD ha hb I h Bl3) hm
def Xk(t:TE):TT:=fun σ H Q=>t σ H fun x H' =>∃k,x= .bl k/\Q k H'
theorem yjr(BeB):PT X Aa' (Xk AqY):=by
 show DO Q;refine Bqf (bZ Ĉ (AAl ⟨x,H1,I1,r1,q1⟩ (bZ (ϙ hb) fun u s2 (Aqs r2)=>
  (Bmh c)))) hm
 subst e;show AD r3 r3 r3 r3 r3 r3 r3 r3 r3 r3 r3 r3 r3 r3;exact AGg ⟨H3,I3,q3⟩
def Jd(r r' :R2)(ta tb tc:TE):TE:=BTi (fun z H3=>∃k,z= .bl k/\
 (CD (k=Μ) (tc σ H3 fun w' H4=>r' y w' H4 Q) (Q AH1 H3)))
theorem yex{op op' :CmpOp}{r r' :R2}(ho:BoV)(EA :mq X (AS8 op') r')(ha:ö)(hb:AO3)(hc:PE X c tc)
  (hm:lastMarks [op,op'] [b,c]=AE:=by show AgB):PE X BfR (Jd r r' ta tb tc):=by
 show DO Q;refine Compare_chain (bZ Ĉ (AAl ⟨x,H1,I1,r1,q1⟩ (chain_link (bZ (ϙ hb) fun u s2 (Aqs r2)=>
  (Bmh d))))) hm
 subst e;show AD r3 r3 r3 r3 r3 r3 r3 r3 r3 r3 r3 r3 r3 r3;refine A1S;cases k with
 | AE=>exact ite_ff ⟨AP7,H3,I3,Β,q3⟩
 | Μ=>exact ite_tt (chain_last (bZ (hc Ο s3 σ H3 _ I3 q3) fun w' s4 aa1=>by obtain⟨z',H4,I4,r4,q4⟩:=aa1;exact EA Ο s4 σ H4 y z' u w' Q I4 r2 r4 q4))
theorem qZ:MC ASn<2^63:=by rw[ALl];decide
theorem z5n:ANK Add (fun x y H Q=>∃i j,x= .AX i/\y= .AX j/\D7 (i.length+j.length)/\Q (M3 (i++j)) H):=by
 show AGN;show zw i j Β hz q h;show dL;show AKZ;exact add_str (fun t' tk=>⟨.AX (i++j),H,AM5,E7,q⟩) hz
theorem ALm{x:V}{us:At}(r:ř [x]):Bdv:=by
 cases r with
 | AY r1 r2=>show AD r2 r2 r2 r2 r2 r2 r2 r2 r2 r2 r2 r2 r2 r2;exact OS r1
theorem vals2{x y:V}{us:At}(r:ř [x,y]):∃u w',us= [u,w']/\å/\HQ y w' :=by
 cases r with
 | AY r1 r2=>
  cases r2 with
  | AY r3 r4=>show AD r4 r4 r4 r4 r4 r4 r4 r4 r4 r4 r4 r4 r4 r4;exact⟨_,_,Β,r1,r3⟩
theorem yfq:ACz "abs" (AcO (∃i,xs= [GG]/\Q (GM AcT) H)):=by
 show Aa5;show AJz i q;obtain⟨u,Β,t,Β⟩:=ALm r;exact call_abs_int fun u tk=>(Aa4 AcT)
#where
structure DX (h:AM) (x dx C:Ζ) (mA:EN):Ι where
 obj:GT Me A4y
 ns:Aqe
 ne:dx≠x
theorem zya{h:AM}{dx:Ζ}{mA:EN}(n:Aqe):BkG (AN1 dx od):=by
 obtain⟨o,es,ep,ho,hd,hk,_,hm⟩:=n;refine AFH (II EB);have e:=hm EB;unfold nsFind findBy at e;rw[<- Array.find?_toList] at e;unfold W.lookIn;rw[hd];dsimp only;split
 ·rename_i y q;rw[q] at e;exact AAQ Ε
 ·show Ki;rw[q] at e;have a:Bqv (·.refKey)=AE:=by
   rw[List.any_eq_false];intro y hy;obtain⟨z,t,hkey⟩:=hk y (Array.mem_toList_iff.mp hy);simp [DictEntry.refKey,hkey]
  have a' :¬Bqv (·.refKey)=Μ:=CL a zJ
  show A7 a';exact AAQ Ε
theorem DX.look{h:AM}{x dx C:Ζ}{mA:EN}(I:DX h x dx C mA):BkG (W.InstAt h x A4y C (D9 od)):=
 let ⟨od,ho,hl⟩:=zya I.ns
 ⟨od,KW I.obj Β ho,hl⟩
section
variable{CY:A0}{w:An}{A:Bi}{E:dW}{s:AC}{K:AA}{x dx C f:Ζ}{mA:EN}{EB:Κ}{v:AJ}
theorem yij{expr:AT}{Q:dW}(X:AJ8)(I:A8b)(hg:AXI C EB)(hh:AlT)
  (ha:Ala EB) (hv:BVk) (hv' :A0p v) (h:Q v AWx):
  Kb (Aea h_ EB expr):=by
 show BDL;exact W.get_value X J BRs (Bqx hh ha Β (Ϟ hl hv)) hv' h
theorem yfv{pl:AZl}{Q:BSO}(X:AJ8)(I:A8b)(hg:AXI C EB)
  (hf:Avp EB) (ht:AWm) (hv:mA EB=Η) (h:Q (.B9 f,[.B9 x]) s):
  Kb (ĸ h_ EB pl):=by
 show BDL;exact W.method_fn X J BRs (Bqw hg).2 hf (AGp ht) (by show(W.lookIn name od).map (·.isSome)=some false;rw[hl,hv];rfl) h
theorem zuu{ns:Ρ}{Q:ĉ}(X:AJ8)(I:A8b)
  (hs:A'p) (hp:BLz) (ht:BZd EB) (hh:AlT)
  (hw:Bp' mA ns) (hsz:BKt)
  (h:ADZ (DX h' x dx C (BCb (mA y))) (A8H dx) (Q () (AMV (Mc+2)))):
  Kb A'8:=by
 show BDL;refine W.set_plain X J hs (W.osa_open (s:=AWx) (r:=Η) X J hp ht (II b));show BU cd hc hd' W.any_some hh;have hx:GT PD ⟨HU,Ε dx,.plain,#[]⟩:=I.obj;refine BoQ (Bqy hx (z6 (Bf9 AWx (BHu X hc) ?_)));rw[hd'];refine z7 (a:=Ε dx) (z6 (z7 (z6 ?_)));refine Bqz (s:=AWx) I.ns (iX hn2 hs2);obtain⟨oD,esD,epD,hoD,hdD,hcD⟩:=hn2.count (PySem.Within.cons EB v hw);refine BEe (ACs H_)
 exact z7 (h _ ⟨(hs2.2 _ (lr I.ne)).Ff I.obj,hn2,I.ne⟩ hs2)
theorem z37{R:A1i}{vs:At}{kw:AOo}(X:AJ8)(hm:BL0)
  (hi:AJI) (hf:AcW)
  (h:AJA OP (AbC ⟨HU::vs,kw⟩) MD ⟨.B9 oa::vs,kw⟩ (W.InitBack oa R) BZi):
  AJA OP A KU ⟨vs,kw⟩ R s:=by
 obtain⟨hh,g,d,t,os⟩:=s;exact W.make_core (W.makes_of X hm) (BHv X hi) (BA PF (W.bind_fn X PF hf)) YR h
#where
def pN(BBM):oy ->oy
 | []=> Amw
 | (g,x)::r=>Abq ((g,v)::r) ((g,x)::pN f v r)
theorem zrj(f g:Κ)(v:V):∀fs:oy,(pN f v fs).ABj g=Abq AIi (As0 g)
 | []=>by
  show B1 (Ĺ g Amw=_);by_cases h:g=f
  ·show A6' A5S AYJ
  ·show BNv (AEq f) APc
 | A5Y=>by
  have ih:=zrj f g v r;rw[vS A5G (CD (k=f) A5Z A8i)];by_cases hk:k=f
  ·show DU hk;by_cases h:g=k
   ·show A6' (Ŕ g k) (uS h.trans hk)
   ·show BNv (AEq k) (Bcd (h (e.trans hk.symm)))
  ·show A7 hk;by_cases h:g=k
   ·show A6' (Ŕ g k) (Bcd (hk (h.symm.trans e)))
   ·have hb:AEq k:=ALP h;simp only [Ĺ,hb];exact ih
theorem zp4(BBM):∀fs:oy,f∈ BcT/\∀g,g∈Aeb (·.1) ->g∈ BcT
 | []=>⟨DL pN,fun g h=>AQo⟩
 | A5Y=>by
  show FC i1 i2 zp4 f v r;rw[vS A5G (CD (k=f) A5Z A8i)];by_cases hk:k=f
  ·show DU hk;subst hk;exact⟨DB,fun g h=>(C6 h)⟩
  ·show A7 hk;refine So ?_ g h
   ·rw[GL];exact zW _ i1
   ·rw[GL] at h⊢;rcases AJa with e | e
    ·exact zU.mpr (HG e)
    ·exact zW _ (i2 g e)
theorem zpv(BBM):∀fs:oy,Í pN f v fs<=ALQ+1
 | []=>DL pN
 | A5Y=>by
  have ih:=zpv f v r;rw[vS A5G (CD (k=f) A5Z A8i)];by_cases hk:k=f
  ·rw[DZ hk,H_,H_];show AF
  ·rw[Cc hk,H_,H_];show AF
theorem n8.some_of{v:V}{o:fI}(r:n8 (Ε v) o):∃u,o=Ε u/\OX:=by
 cases o with
 | Η=>show ARD
 | Ε u=>exact⟨u,Β,r⟩
theorem n8.none_of{o:fI}(r:n8 Η o):o=Η:=by
 cases o with
 | Η=>rfl
 | Ε u=>show ARD
theorem zqy{v:V}{u:AJ}(r:OX):A0p u:=by
 cases v with
 | non=>cases (sN u eC r);rfl
 | bl b=>show AMl (u=Asx b) r;rfl
 | AU i=>show Apk AbG
 | AX x=>show Apk AoP
 | byt b=>show Apk (Value.bytes b t)
 | flt b=>show Apk (BHC b t)
 | B9 a=>show AMl AMb r;rfl
 | ty n=>show AMl (u=Ad6 n) r;rfl
section
variable{P:A0}{w:An}{H H' :Hp}{h h' :AM}{a C dx:Ζ}{fs fs' :oy}
theorem zv7(D4:du)(e:AY5):∃mA,DX h a dx C mA/\ (BFQ)/\BPy/\BLn/\A7_:=by
 obtain⟨d,z,ne,ob,mA,n,r,q⟩:=(E_ (AAp Agn) (D4 a _ e));exact⟨mA,⟨ob,n,ne⟩,r,q,z,d⟩
#where
structure Cls (AFh):Ι where
 pg:AXI C Ty
 hd:AlT
 po:BLz
 sa:A'p
theorem Cls.get{K:AA}{C:Ζ}(c:AlH)(f:Κ):AXI C f:=c.pg
def aJ(K:AA)(C:Ζ)(f:Κ):Ι:=Ala f
theorem aJ.taker{K:AA}{C:Ζ}{f:Κ}(n:ADk f):BZd f:=Agq W.takerIn (show Ala f from n)
structure Meth (K:AA) (C:Ζ) (m:Κ) (f:Ζ):Ι where
 at_:Avp m
 fn:AWm
 kp:AWv
section
variable{X:Cx}{Ο:d8}{σ:St}{H:Hp}{s:AC}{a C dx:Ζ}{fs:oy}{f:Κ}{v:V}{A:Bi}{E:dW}
theorem z57{b:AT}{Q:dW}(I:AV)(e:AY5)(c:A1r)(n:hG)(l:ARR)
  (h:BDn):BDf:=by
 obtain⟨mA,O,r,_,_,_⟩:=A2Z;show BC'
 exact yij av O (c.get f) c.hd n hu A9W BBN
theorem zi7{m:Κ}{g:Ζ}{pl:AZl}{Q:BSO}(I:AV)(e:AY5)(c:A1r)(k:Meth AG C m g)(l:As0 m=Η)
  (h:Q (.B9 g,NG) s):AHs (ĸ ED m pl):=by
 obtain⟨mA,O,r,_,_,_⟩:=A2Z;have hn:mA m=Η:=n8.none_of (AxC l r m)
 exact yfv av O (c.get m) k.at_ k.fn hn h
theorem z58{y:V}{u:AJ}{Q:ĉ}(I:AV)(e:AY5)(c:A1r)(n:hG)(hl:Ayg)(ry:RY)
  (h:Aaw (È a BSs s')):BCg:=by
 obtain⟨mA,O,r,wi,_,ho⟩:=A2Z;have hz:D7 (VA (fs.map (·.1))):=Ag2 ALl
 refine zuu av O c.sa c.po n.taker c.hd wi hz fun h' O' sb=>h _ ?_;have hd:∃o,ADK dx:=let ⟨o,_,_,e',_⟩:=O'.ns;sw e';show BG (AbR a dx Ai1 (FV ho) (zk q z (Ame hb z)) hd ?_) ⟨MS O.ne ho,?_,O.ne,O'.obj,_,O'.ns,II g,Cb g hg⟩
 ·show AAP (zpv f y fs)
 ·rw[zrj];by_cases q:g=f
  ·rw[L3,L3];exact ry
  ·rw[Cc q,TN];exact r g
 ·by_cases q:g=f
  ·rw[q];exact BOt.1
  ·refine BOt.2 g (wi g (Au (hg ?_)));show(CD (g=f) (Ε u) (mA g))=Η;show A7 q;exact z
theorem Inv.made(WS):QY (EH (EH H Cl (.A5 oa)) oa (.ins C Cl [])) BZi:=by
 have e1:ADR (ϧ ABi) ABi:=z9 A9 Β;have e2:(Ax4 P7 BNL).Hm oa=Ε BNL:=ACf (z9 (ALd ABi) (o:=Ad9 C Cl) Β) UI
 have e3:Ax4 Ns Cl (De Η):=⟨ABi,#[],_,e1,Β,(fun e he=>(AgL he)),APl⟩
 have I1:=UY ATI a Cl o (.A5 oa) h' (AUw ABi) t' Mc Ah1 (zN _) (E6 e1);refine ATJ (a:=Ϡ) (o:= .ins C Cl []) (t' :=Mc) Ah1 (ALq (UI _ _)) ?_;have ne:Cl≠Ϡ:=Aps;refine⟨A4m,MZ,ne,e2,Axs,(Bq0 e3).at fun o q=>AH5,FM ALp,fun y hy=>eI Β hy⟩
theorem zzq{CY:A0}{w:An}{Be:Env}{e:AK}{f:Κ}{Ψ:AN}{s:AC}{Q:dW}(hb:BHx e f Be (ADX e)=eL e Be)
  (h:AqL e o (AH8 (Aea o f Μ) EU)):Kb (ADX (.xn e f Ψ)):=
 Attribute_any_ h (Ϟ arm_eval_Attribute hb)
#where
def aa2(K:AA)(ta:TE)(f:Κ):TE:=Ϩ (∃a C dx fs v,x= CF/\AN6 Agn/\AlH/\ADk f/\ARR/\Q v H1)
def aa3(K:AA)(ta tv:TE)(f:Κ):TS:=BBZ (∃a C dx fs,x= CF/\Fr H2 Agn/\AlH/\ADk f/\Ayg/\
 AHv (EH H2 a BSs))
section
variable{X:Cx}{o e FE:AK}{f:Κ}{Ψ KL tpos:AN}{ta tv:TE}
theorem ygu(he:ACY ta)(hb:AMw f):BAu (aa2 AG ta f):=by
 show DO Q;refine zzq hb (bZ o4 (UT u aa4));obtain⟨x,H1,I1,rx,a,C,dx,fs,v,ex,ea,c,n,l,q⟩:=aa4;subst ex;show ß;exact z57 I1 ea c n l BFR
theorem z9b(ha:PE X o ta)(hv:Ay0)(hs:AjH o):AOt (Ahh o f) FE (aa3 AG ta tv f):=by
 show DO D;refine AWp BHz Ako Cn hs;obtain⟨y,H1,I1,ry,q⟩:=Cn;refine ADG A_p ov hz2;obtain⟨x,H2,I2,rx,a,C,dx,fs,ex,ea,c,n,l,q2⟩:=hz2;subst ex;show A2_;exact z58 I2 ea c n l ry (AOY ⟨σ,_,I3,q2⟩)
#where
section
variable{X:Cx}{Ο:d8}{σ:St}{H:Hp}{s:AC}{A:Bi}{E:dW}{Q:dW}{c:AJ}{b:AT}
inductive vp (K:AA) (H:Hp):BPA where
 | non:AJE BH "NoneType"
 | bl (x:AT):AJE (.bl x) ASl
 | AU (ARW):AJE AEm ALJ
 | AX (AQe):AJE Ϻ "str"
 | flt (x:UInt64):AJE (.flt x) "float"
 | DC {a:Ζ} {xs:AQ} (e:Nl tN):vp K H ED AIU
 | frz {a:Ζ} {o:Obj} {xs:AQ} (e:Nl (.frz o tN)):vp K H ED AIU
 | Dx {a:Ζ} {xs:AQ} (e:Nl Y1):AJE ED pd
 | dK {a:Ζ} {AH:mS} (e:AE'):BPm
 | dT {a:Ζ} {AH:ADl} (e:A1T):BPm
 | ins {a C dx:Ζ} {fs:oy} (e:AY5) (cl:AlH) (ha:BUn)
   (hn:Boa BK5 "__get__" "getset_descriptor.__get__") (htk:W.takesIn K BK5=Ε Μ)
   (hm:AnO C):vp K H ED KU
theorem zmc{x:V}{u t:AJ}(I:AV)(rx:å)(ty:vp AG H x t)(e:Bcc t)(h:BdU):
  BVF:=by
 cases ty with
 | non=>cases (sN u eC rx);exact nN W.kitx_none ALp
 | bl y=>show AMl (u=Asx y) rx;exact nN W.kitx_bool ALp
 | AU i=>show BFh AbG W.kitx_int
 | AX y=>show BFh (BG9 y t) W.kitx_str
 | flt y=>show BFh (BHC y t) W.kitx_float
 | @DC a xs ea=>
  show ARa;obtain⟨_,_,n,_,h1⟩:=(Aau tN);exact nN BH0 (N0 h1)
 | @frz a ob xs ea=>
  show ARa;obtain⟨_,_,_,n,_,h1⟩:=(Aau (.frz ob tN));exact nN BH0 (N0 h1)
 | @Dx a xs ea=>
  show ARa;obtain⟨_,_,_,p⟩:=(Aau Y1);show AWY h1 h2 p;exact nN Bq1 Ane
 | @dK a AH ea=>
  show ARa;obtain⟨_,_,vs,_,p⟩:=(Aau PU);obtain⟨o,es,ep,h1,h2,_⟩:=p;exact nN BH1 ⟨o,h1,h2.1⟩
 | @dT a AH ea=>
  show ARa;obtain⟨_,_,xs,_,o,es,ep,h1,h2,_⟩:=(Aau AVs);exact nN BH1 ⟨o,h1,h2.1⟩
 | @ins a C dx fs ea cl ha hn htk hm=>
  show ARa;obtain⟨mA,O,_⟩:=zv7 KI ea;obtain⟨od,J,_⟩:=O.look;exact nN (W.kitx_own (cl.get _) cl.hd ha hn htk hm) J
#where
structure dF (k:Δ) (A:Bi):Ι where
 hd:P3
 dp:Atp+3*k+5<Bq2
 un:AGq+16*k+200<cLine
theorem dF.mono{j k:Δ}{A:Bi}(r:Aij)(h:j<=k):dF j A:=⟨r.hd,NE r.dp,NE r.un⟩
theorem dF.deeper(BT5)(r:dF LY A)(Be:Env):Ave k Be:=
 ⟨r.hd,by have:=r.dp;show B1 (Atp+1+3*k+5<_);show AF,by have:=r.un;show B1 (AGq+3+16*k+200<_);show AF⟩
theorem z55{A:Bi}{C:Ζ}{us:At}{kw:AOo}:(Atn A4J).depth=Atp+1:=by
 first | rfl | simp [BH3,Code.weight,Code.isCreation,Code.isGuard,Code.isCaller,Code.frames,BH4,guardIds]
theorem z48{A:Bi}{C:Ζ}{us:At}{kw:AOo}:(Atn A4J).units=AGq+1:=by
 first | rfl | simp [BH3,Code.cUnits,Code.frames,BH4]
theorem dF.make(BT5)(r:dF LY A)(C:Ζ)(us:At)(kw:AOo):dF k (Atn A4J):=
 ⟨r.hd,by have:=r.dp;rw[z55];show AF,by have:=r.un;rw[z48];show AF⟩
theorem dF.depth(Bir):Atp<Bq2:=NE r.dp
theorem dF.units(Bir):AGq+64<cLine:=NE r.un
def aa5:TA:=ApV (Q [] H)
def Xl(ta:TE)(tr:TA):TA:=Ϩ (Ï tr xs (Q AKT H2))
section
variable{X:Cx}{e:AK}{es:C7}{te:TE}{t:TA}{Ψ:AN}
theorem Ou:PA X [] aa5:=fun _ _ _ _ H Q I h=>Bq4 ⟨[],H,I,Eg,h⟩
theorem Lj(ha:dq)(hr:Amb)(hs:AKq:=by rfl):PA X LE (Xl te t):=by
 intro Ψ Ο s σ H Q I h;rw[hs];refine BoB Ĉ (UT u aa6);show dQ aa6;exact bZ (hr Ψ Ο s1 σ H1 _ I1 q1) fun us s2 aa7=>by obtain⟨xs,H2,I2,r2,q2⟩:=aa7;exact⟨WO,H2,I2,.AY r1 r2,q2⟩
def aa8(t:TA):TE:=Bi0 Y1
def aa9(t:TA):TE:=Bi0 tN
theorem ygr{x1}(h:Amb):Ò ABa es x1 (aa8 t):=by
 show AY6 hq;refine wpAny_Tuple_spliced (bZ (h Ψ Ο s σ H _ I hq) Bcu)
 have hf:Als:=Amt;refine⟨Az',EH H1 E3 Y1,BdG,Β,q _ hf⟩;exact⟨z,us,r,⟨_,Si,Β,_,Β⟩⟩
theorem yhq(h:Amb):PE X BTO (aa9 t):=by
 show AY6 hq;refine wpAny_List_spliced (bZ (h Ψ Ο s σ H _ I hq) Bcu)
 have hf:Als:=Amt;refine⟨Az',EH H1 E3 tN,BdG,Β,q _ hf⟩;exact⟨z,us,0,r,Si⟩
#where
abbrev Sp:=AQ ->Hp ->D1 VK XK
abbrev Lk:=BC Lo Hp AC XK (PZ AJ)
structure Ao (AKt) (mg:EN) (C3:AM) (A:Bi) (DD:Lo) (s:AC) (H:Hp):Ι where
 frames:Ajf DD
 mod:Mod K mg C3
 bs:Ś base.get? (mM/\N3)
 bsz:Bpd base.objs.size
 funs:Ajc C3 DD
 frf:MM (frs DD) N3
 D4:o7 P w H A9
 HP:BML
def CE(DD:Lo)(P:A0)(w:An)(H:Hp)(s:AC)(Q:VK)(u:AJ)(s' :AC):Ι:=
 ∃v H',s'.os=s.os/\AIs/\BYd/\Bal/\OX/\ϋ
def CR(CX:Lk)(DD:Lo)(P:A0)(w:An)(H:Hp)(s:AC)(Q:VK)(E:XK)(r:Result)(s' :AC):Ι:=
 match r with
 | .ok (.ret u)=>BGF
 | .ok _=>D6
 | .kT e=>CX DD H s E e s'
structure gK (Azh) (CX:Lk) (k:Δ) (f:Ζ) (fd:GA) (ps:Ρ) (sp:Sp):Ι where
 len:BYU
 run:∀(A:Bi) (DD:Lo) (s:AC) (H:Hp) (E8:Args) (us:At) (vs:AQ) (Q:VK) (E:XK),Aij ->BC Ao5 (BYc Aef) AZS AjJ (AJA ACr A MD E8 (CR CX DD P w H s Q E) s)
theorem gK.imp(Bkq CX Lk){k:Δ}{f:Ζ}{fd:GA}{ps:Ρ}{sp sp' :Sp}(F:BZ9 sp)
  (h:∀vs H Q E,sp' vs H Q E ->AjJ):BZ9 sp' :=
 ⟨fun vs H Q E q=>F.len vs H Q E (LX h q),fun A DD s H E8 us vs Q E hr he hb hv hs=>F.run A DD s H E8 us vs Q E hr he hb hv (LX h hs)⟩
theorem Ao.make(Bld){A:Bi}{DD:Lo}{s:AC}{H:Hp}(e:Ao5)(C:Ζ)(us:At)(kw:AOo):
  BnC (AbC ⟨HU::us,kw⟩):=⟨by first | exact e.frames | (simpa [BH3,Code.envs,BH4,pushEnvs] using e.frames),e.mod,e.bs,e.bsz,e.funs,e.frf,e.hok,e.bare⟩
section
variable{X:Cx}{Ο:d8}{σ:St}{H:Hp}{s s' :AC}
theorem Inv.env0(WS):Bbu s H:=
 ⟨I.ok.frames,I.ok.mod,I.bs,zO I.ok.bsz I.sz,I.stack,I.stkFree,KI,Ĳ⟩
theorem Inv.after{Q:VK}{u:AJ}(I:AV)(h:CE O_ HR X.w H s Q u s'):ϭ u s' :=by
 obtain⟨v,H',os,HP,un,D4,r,q⟩:=h;obtain⟨hh,g,d,t,os'⟩:=s';show GU (os' =s.os) os;exact⟨v,H',I.call (h' :=hh) (g' :=g) (d' :=d) (t' :=t) (ch:= []) un D4 HP Ai2,r,q⟩
#where
def ATK(K:AA)(fd:GA)(ps:Ρ)(ds:At):Ι:=
 ∀(s:AC) (us:At),AJ8 ->ANp (us++ds) ->Ats s fd (GY us) (Aef (us++ds))
theorem Binds.all{K:AA}{fd:GA}{ps:Ρ}(h:∀us:At,kB=LP ->BXi fd):ADe:=fun s us _ hl=>by
 rw[UK] at hl⊢;exact .of_eq (h us hl)
section
variable{X:Cx}{CX:Lk}{k:Δ}{f C:Ζ}{fd:GA}{ps:Ρ}{sp:Sp}{dvs:AQ}{ds:At}{E:XK}{x m:Κ}{p Ψ LS:AN}{e o:AK}{es:C7}{ta:TE}{t:TA}
structure Mk (K:AA) (C f:Ζ):Ι where
 makes:BL0
 init:AJI
 fn:AWm
 kp:AgJ KU
#where
structure aB (N P:Ρ) (sc:Op):Ι where
 kind:A6O
 co:PR sc.isCoroutine
 gen:PR sc.isGenerator
 nd:N.Nodup
 DS:N.take P.length=P
 par:∀x∈P,A9M AaO
 nofree:∀y∈P8,y.2≠ Sn
theorem zyr(BXj):Bjr ALr
 | [],_,_=>Β
 | (n,v)::r,m,h=>by
  unfold ALr;rw[zyr fun w hw=>h w (APp hw)];split
  ·show Bi5
  ·rfl
theorem zzb(BXj):Bjr ALs
 | [],_,_=>Β
 | (n,v)::r,m,h=>by
  unfold ALs;rw[zzb fun w hw=>h w (APp hw)];split
  ·rfl
  ·show Bi5
theorem zyw(Bke):BjV (BC P.Nodup (r6 P) AQl (AUo AGr) (BO_ ALr))
 | [],_,_,_,_,h,_,_=>AQo
 | EF,[],_,_,_,_,h,_=>AQo
 | p::P,w::vs,0,m,nd,h1,h2,hk=>by
  simp at h1 h2;subst h1;subst h2;refine(?_:BfK ALr);unfold ALr;rw[BZj zyr,DZ hk];simp
 | p::P,w::vs,EZ,m,nd,h1,h2,hk=>by
  unfold ALr;exact ϲ zyw ARv AJh APt hk
theorem zyf(Bke):BjV (BC P.Nodup (r6 P) AQl (AGr x≠Ε AMx) (BO_ ALs))
 | [],_,_,_,_,h,_,_=>AQo
 | EF,[],_,_,_,_,h,_=>AQo
 | p::P,w::vs,0,m,nd,h1,h2,hk=>by
  simp at h1 h2;subst h1;subst h2;refine(?_:BfK ALs);unfold ALs;rw[BZj zzb,Cc hk];simp
 | p::P,w::vs,EZ,m,nd,h1,h2,hk=>by
  unfold ALs;exact ϲ zyf ARv AJh APt hk
def start(N:Ρ)(vs:AQ):St:=Atv Ε++AX' (ALt - KO) Η
def fQ(CX:Lk)(P:A0)(w:An)(K:AA)(mg:EN)(C3:AM)(N:Ρ)(E2:Κ)(Kt:Op)(f:Ζ)(cd:AJ)(A:Bi)(DD:Lo)(s:AC)(H:Hp)(E:XK):Cx where
 CY:=P
 w:=w
 K:=K
 mg:=mg
 C3:=C3
 A:=Atq (Bg5 cd)
 N:=N
 K_:=s
 SG:=H
 Be:=Biv
 DD:=DD
 stack:=Biv::DD
 ex:= []
 calm:=Μ
 fn:=FM Μ
 pn:= []
 xe:=fun e s' =>NO ACr (Atq (Bg5 cd)) (leaving (ATM E2 Kt Cl f cd) e) (KS s'' (CX DD H s E e s'')) (fun e' s'' =>CX DD H s E e' s'') s'
theorem z3s{sc:Op}{n:Δ}{x:Κ}(h:AaO):∃c,AHT (Ana n P8 []):=by
 have q:=BH5 P8 n [] (HG h);exact Bq6 q
theorem zxq{CX:Lk}{P:A0}{w:An}{K:AA}{mg:EN}{C3:AM}{N ps:Ρ}{E2:Κ}{Kt:Op}{f:Ζ}{cd:AJ}{A:Bi}{DD:Lo}{s s1:AC}{H:Hp}{E:XK}{us:At}{vs:AQ}
  (S:Bb0) (hd:P3) (e0:Ao5) (hl:BoE) (r:AZS)
  (x:InCallC s Cl (BmE ALr) (xt oa AGs []) (BmE ALs) s1):
  Inv BkK [] Aod H s1:=by
 have EI:LP<=ALt:=by have:=P6 LT S.pre;show D5 qB;show AF
 obtain⟨h1,tk,Β,hk⟩:=x.done;have Xm:∀b:Ζ,b∉ (BkK).ex:=fF z (A__ z)
 refine⟨⟨e0.mod,Atw,Β,Β,OZ,Jn y z c h1 h2,Cb y hy,fun y c _ h=> ?_,FM hd,Around.frames_deeper e0.frames,.BD ue,Bdn,e0.bs,e0.bsz,fun b _ _=>Xm b,Bdn,e0.funs,e0.frf⟩,
  Β,e0.bare,ASr hk,EL x.toInCall.ns (fun i y v h1 h2 h3=> ?_),fun y c h=>(E6 (x.cell y c h)),Bq7 (zN _),As y c h,BEz,e0.hok.kept hk,?_⟩
 ·exact Bq8 x.apart (BH6 h1) (BKN h2)
 ·have hy:BMR cz\/BMR Sn:=hy;rcases hy with hy | hy
  ·exact z3s hy
  ·show AFL (S.nofree _ (BKN hy))
 ·exact AGb Ber
 ·have hi:i<KO:=by
   unfold start at h2;by_cases hi:i<KO
   ·exact hi
   ·rw[AFV] at h2
    rw[ATN] at h2;split at h2<;>(show MQ h2 h2 h2 h2 h2 h2 h2 h2 h2 h2 h2 h2 h2 h2)
  have ha:AQl:=by
   unfold start at h2;show AX8 AFW h2
   cases e:vs[i]? with
   | Η=>show Lc e h2 h2 h2 h2 h2 h2 h2 h2 h2 h2 h2 h2 h2 h2 h2
   | Ε a=>rw[e] at h2;show AK0;rfl
  show BU u hu rv r.get ha;show FY hp (FG ps y) (by
   rw[<- S.pre,List.getElem?_take_of_lt Θ];exact h1) ndP ps.Nodup (l4 S.pre S.nd.sublist (Bq9 _ _)) (CU u rv);rcases S.par y (yX hp) with k | k
  ·exact CS ⟨k,zyw ndP hp hu k⟩
  ·show VX c (z3s (n:=Ϡ) k);refine .BD ⟨.DH k,c,e,?_⟩;have q:=x.cell y c e;rw[zyf ndP hp hu (by refine(?_:Atx y≠_);rw[k];decide)] at q
   exact q
 ·exact Bq7 (AGb Ber)
 ·unfold start;refine(?_:_=ALt);rw[P9,C8,Aty];show AF
theorem QK{CX:Lk}{P:A0}{w:An}{K:AA}{mg:EN}{C3:AM}{k:Δ}{f:Ζ}{EB E2:Κ}{params:Arguments}{L6:Re}{Kt:Op}{dV kV doc pm cdv ct oc:AJ}{an od:N4}
  {osl:AEO} {N ps:Ρ} {sp:Sp} (lk:Ay4 (.func Blj) osl) (hcd:Boz) (S:Bb0)
  (len:BYU)
  (xw:∀(A:Bi) (DD:Lo) (s:AC) (H:Hp) (vs:AQ) (Q:VK) (E:XK),AVM k E2 Kt ->AjJ ->
   ∃t,Im BFc L6 t/\t Ba7 Aod H):
  U2 gK CX LY f Blj ps sp:=by
 refine⟨len,fun A DD s H E8 us vs Q E hr e0 hb r hsp=> ?_⟩;have hl:=LX len hsp;have KX:AJ8:=Bq_ Ayk;have lim:Bq':=BQt;have hkind:∀y∈Aef us,BRP AMx\/ (BRP cz/\ (Ana oa AGs [] y.1).Į=Μ):=fun⟨n,v⟩ hy=>by
  rcases BSN with q | q
  ·exact CS q
  show AAL BUu
 show BG (BrA hr.depth (KX _ _ lk) Β S.co S.gen Β BY9 BLi) Bhu;subst he;refine BZC;obtain⟨t,ht,hq⟩:=xw A DD s H vs Q E (hr.deeper _) hsp;have I:Inv BFc [] Aod H s1:=Bj_ hl;refine SI (ht [] s1 Aod H _ I hq) (As fl s' hs) fun e s' hs=>hs;have EC:∀{DI :St} {H' :Hp} {v:V} {u:AJ},Inv BFc [] DI H' s' ->OX ->ϋ ->BGF :=
  fun{DI H' v u} J rv q=>⟨v,H',J.os,J.bare,J.base,J.hok,rv,q⟩
 cases fl with
 | ret u=>
  obtain⟨v,DI,H',J,rv,q⟩:=hs;exact EC J rv q
 | Kx=>
  obtain⟨DI,H',J,q⟩:=hs;exact EC (v:=V.non) (u:=eC) J Β q
 | brk=>
  show ArZ
 | OE=>
  show ArZ
section
variable{X:Cx}{x:Κ}{p Ψ:AN}{e:AK}{es:C7}{t:TA}{id T:KE}{r:ĕ}
def U0(r:ĕ)(t:TA):TE:=Pe t vs (r vs H1 Q)
theorem U3(hc:fj X Ų r)(hg:J_)(hm:AAR)(hv:ϴ Ų)(ha:Amc)(hn:ϕ :=by decide)(hdb:HH:=by decide)
  (uB):BZZ:=by
 show DO Q;refine ARs (Ĝ hv) hn hdb;exact BH7 (bZ AhD fun us s1 abb=>by show AI_ abb;exact A9x hc vs us Q I1 r1 q1) he EI
theorem zl5(hc:fj X ua r)(hg:J_)(hm:AAR)(hv:ϴ ua)(ha:Amc)(hn:ϕ :=by decide)(hdb:HH:=by decide)
  (uB):BZZ:=by
 show DO Q;refine ARs (Ĝ hv) hn hdb;exact ATE (bZ AhD fun us s1 abd=>by show AI_ abd;exact A9x hc vs us Q I1 r1 q1) he EI
#where
#print _2
namespace _HT
open KB LL
section
open PySem.SeqAt
open BH8 (Aeh)
open BH9 PySem.MeetsSeq2 BH_
#where
section
variable{CY:A0}{w:An}{A:Bi}{E:dW}{s:AC}
def sIx(n d:Δ):Sm ->Δ
 | Η=>d
 | AIi=>if v<0 then mT v Lw else Bog
theorem yol(n d:Δ)(hd:d<=n)(o:Sm):sIx n d o<=n:=by
 cases o with
 | Η=>exact hd
 | Ε v=>
  show Bgy<=n;by_cases hv:v<0
  ·show DU hv;show AF
  ·show A7 hv;exact Nat.min_le_right _ _
theorem z9z(v:AB)(n d:Δ):Bfv (sIx n d (Ε v)):=by
 show Bfv Bgy;by_cases hv:v<0
 ·simp only [DZ hv];show AF
 ·simp only [Aj1];show AF
theorem z5h(BiZ):Bg4=(AqV,BUi):=by
 have h1:¬(iS<0):=Υ
 refine Prod.ext ?_ ?_
 ·cases lo with
  | Η=>rfl
  | Ε v=>exact z9z v n 0
 ·cases hi with
  | Η=>rfl
  | Ε v=>exact z9z v n n
theorem z4o(i j:Δ):At0 MU ij 1=j - i:=by
 unfold At0;have h1:iS>0:=Υ
 simp only [h1,xx,Int.ediv_one];show Ö
theorem ztl{v:AJ}{o:Sm}{Q:PZ Sm}(p:At1 v o)(h:Q o s):Kb (Builtin.Slice.slicePartIndex v):=by
 cases p with
 | Η=>exact BrC h
 | AU i t=>exact slicePart_int h
theorem zox{sl:Ζ}{vl vu:AJ}{lo hi:Sm}{n:Δ}{Q:PZ (AB×AB×Δ)}(hs:BFT)(pl:A'j)(pu:A'k)
  (h:Q (AqV,1,sIx n n hi - sIx n 0 lo) s):Kb (Builtin.Slice.sliceApplied Az4 (Hn Lw)):=by
 show VI os hos hcs hds hs;refine z6 (z6 (A'e vl Β (z6 (A'e vu Β (z6 (A'e BM Β Ag6))))));refine lP BrC;show vz
 refine z6 (ztl pl (z6 (ztl pu Ayb)));show AJl (AVO (match Bg4 with | (lo,hi)=>Hn (lo,iS,At0 lo hi 1))) (z5h lo hi n) (?_:AVO (Hn (AqV,iS,At0 AqV BUi 1)));rw[z4o];exact z7 h
theorem ygi(xs:Lm)(i k:Δ):((AGa k).BHP fun(MC m)=>xs[BCh]?).pz=Ayl xs.toList.drop i k:=by
 have e:(BA (MC m) xs[BCh]?)=fun m=>xs[i+m]?:=by
  funext m
  have:BCh=i+m:=Υ
  rw[Τ]
 rw[e];have:=pick_run xs i k;show D5 List.filterMap_map;have e2:((AH4 xs[x]?) ∘ Tk (i+x))=fun m=>xs[i+m]?:=Β;rw[e2] at Τ;rw[Τ]
theorem getItem_tuple_cut{t sl:Ζ}{OF:Lm}{vl vu:AJ}{lo hi:Sm}(wp)(ht:IsTup A9 t OF)(hs:BFT)(pl:A'j)(pu:A'k)
  (hw:¬(AVh=0/\Agz=XG))
  (h:Aaj (sB Bc9))
  (hsz:A0W):Kb (ATP (BY t) Az4):=by
 have Gg:sizeOk (.seq Bc9):=by
  show D7 ((BrD Bon).take AxX).BrE;rw[XI,qB,AGt,pr];show AF
 have hj:Agz<=XG:=yol _ _ Gc hi;show VI os hos hcs hds hs;have hTs:AOx sl "slice" :=⟨os,hos,hcs⟩;unfold ATP
 try with_reducible refine ABc ?_
 first | refine AIX | skip
 refine fw wpAny_sequenceKey At2 Φ
 show Tm (z6 (Bk' BrF At2 BrG
  (BIA BrG At2 entry_tuple_getitem ?_ (args_tuple_getitem _ _)))) (AXh (Builtin.Tuple.tupleItemsOf (BY t)));show BG (gi tupleItemsOf_ ht) (gi BrH hTs);show DU Φ
 refine z6 (zox hs pl pu ?_);have hno:¬(Bk1):=by
  intro q;rw[eS,eS] at q;have q1:FA AVh=0:=BIC q.1.1;have q2:Agz - AVh=XG:=BIC q.2;exact hw AVq
 refine(?_:AVO (AOO Bk1));rw[Cc hno,ygi]
 first
  | exact Al1 (pv (z7 Ax1) Gg)
  | exact Al1 (pv (z6 BOc) Gg)
  | exact z6 (Al1 (pv BOc Gg))
  | exact z6 (Al1 (pv (z7 Ax1) Gg))
#where
#print _HT
namespace _2
open KB P4 LL
abbrev TO:=Ao' A1V
def PO(X:Cx)(e:AYR)(t:TO):Ι:=
 AXn Q A1V è (evalPart e BE) (u7 u (∃o H',AJ7 /\At1 u o/\Q o H'))
def yjs:TO:=ApV (Q Η H)
def Xn(t:TE):TO:=Pe t x (∃i,x= GG/\Q (Ε i) H1)
section
variable{X:Cx}{e:AK}{te:TE}{lo hi:AYR}{tl th:TO}{Ψ p2:AN}
theorem ykj:PO X Η yjs:=by
 show DO Q;rw[BrI];exact z7 ⟨Η,H,I,BM,h⟩
theorem yil(h:dq):PO X AYS (Xn te):=by
 show AY6 hw;rw[evalPart_some];refine bZ A_H (UT u abe);show dQ abe;show ZU i q q1;show PY r1;exact⟨Ε i,H1,I1,.AU i t,q⟩
def SlR(X:Cx)(r:AcZ):Ι:=
 ∀(Ο:d8) (s:AC) (σ:St) (H:Hp) (x:V) (v vl vu:AJ) (lo hi:Sm) (sl:Ζ) (Q:VK),WC AV pM BFT A'j A'k (r x lo hi H Q) (∃T id,Bcz/\BS2/\ADs (ATP v Az4))
def tSl(r:AcZ)(te:TE)(tl th:TO):TE:=Pe te x (Ï tl l (th σ H2 fun u H3=>r x l u H3 Q))
theorem z3a{r:AcZ}(hr:SlR X r)(he:dq)(hl:PO X lo tl)(hu:PO X hi th):Ò ABb e BFW (tSl r te tl th):=by
 show DO Q;refine jI BID o4 v abf;show dQ abf;refine wpAny_Slice (bZ (ϙ hl) (APd vl s2));obtain⟨l,H2,I2,pl,q2⟩:=Cn;refine BPX hu vu hz2;obtain⟨u,H3,I3,pu,q3⟩:=hz2;rw[BrI];refine ADz;have I4:QY H3 Bdm:=I3.kept (t' :=s3.toks) (Pl ob AH5);show uC T id hT ht hg (hr Ο Bdm σ H3 x v vl vu l u ALu Q I4 r1 (Heap.IsSliceOf.new ..) pl pu q3) (tail_any (ops:= [.B9 ALu,v]) ht hT hg AEh)
def Aq(xs:AQ)(lo hi:Sm):AQ:=BO1
theorem zqp(xs:AQ)(lo hi:Sm):Í Aq xs lo hi<=By:=by
 unfold Aq;rw[qB,AGt];show AF
def abg(ARn):AcZ:=fun x lo hi H Q=>∃a xs,x= CF/\AFQ/\
 ¬(Bm3=0/\Bm7=By)/\Aar p p p p (GW Anv)
theorem ymq:SlR X (abg AG):=by
 intro Ο s σ H x v vl vu lo hi sl Q I rx hs pl pu h;show zw a xs hx hw q h;show KA;obtain⟨AW,r,ht,hz⟩:=ĳ hx;have Fh:xy=By:=CL XI r.length.symm
 show BG ⟨pd,_,PyProof.Rows.slot_tuple_getitem.lookup,At2,?_⟩ (_HT.getItem_tuple_cut ht hs pl pu (EM Fh hw) ?_ (EM Fh hz))
 rw[Fh];refine BeC (.Dx Anv);exact⟨BZs,_,AzY r.drop,A0a⟩
#where
def yq(n:Δ)(i:AB):M1 Δ:=if 0<=i then(CD (i<n) (Ε ALv) Η) else AX5 (-Lw<=i) (Ε (mT i n))
def o9{α:Ch}(xs:DE)(i:AB):M1 α:=(yq By i).bind (Fs xs[j]?)
theorem z8f{n:Δ}{i:AB}{j:Δ}(h:yq n i=Ε j):BZA n/\j<n/\ -Lw<=i/\i<n:=by
 show D' yq;by_cases h0:0<=i
 ·show ϣ h0;show Bie (i<n) (ALv=j) (A9V h1) Υ h1
 ·show oz h0;show Bie (-Lw<=i) (mT i n=j) (A4P h1) h1 Υ
theorem z0h{α:Ch}{xs:DE}{i:AB}{v:α}(h:AIb xs v):∃j,BZA By/\VQ xs v/\AYt/\ -AJX<=i/\vv:=by
 show D' o9;cases e:yq By i with
 | Η=>show AXp e
 | Ε j=>
  rw[e] at h;obtain⟨h1,h2,h3,h4⟩:=z8f e;exact⟨j,h1,h,h2,h3,h4⟩
theorem pO{α:Ch}{xs:DE}{j:Δ}{v:α}(h:VQ xs v):o9 xs ij=Ε v:=by
 have hj:AYt:=OT h;have e:A7v ij:=by
  unfold yq;rw[DZ Θ,ϳ];simp
 unfold o9;rw[e];exact h
def zzn(b:AK):Ι:=∀o i,BBd (At3 b AE o i) [o,i] o i
def IxR(X:Cx)(r:R2):Ι:=
 ∀(FE kU:AK) (Ο:d8) (s:AC) (σ:St) (H:Hp) (x y:V) (v u:AJ) (Q:VK),AV ->BC pM RY (r x y H Q) (BBd (At3 kU AE v u) [v,u] v u) (ADs (subscriptTail FE kU v u))
def MtR(Bb_):Ι:=
 ∀(Ο:d8) (s:AC) (σ:St) (H:Hp) (x:V) (xs:AQ) (v:AJ) (us:At) (Q:VK),BC AV pM ia (r x xs H Q) (BA' v)
section
variable{X:Cx}{a b:AK}{ta tb:TE}{Ψ:AN}
theorem ynt{r:R2}(hr:IxR X r)(ha:ö)(hb:AO3)(hs:zzn b):Ò ABb a b AqY:=by
 show DO Q;exact BID (QD ha hb I h (BpU (hr a b Ο s2 σ H2 x y v u Q I2 rx ry q (hs _ _))))
def abh(ARn):R2:=Blw (nZ K H p xs)
def abj(ARn):R2:=Blw (xY K H p xs)
def abk:R2:=AJJ (∃z i c,x= AkN/\y= GG/\A0X/\BTj/\Q (M3 AaR) H)
theorem z7u:IxR X (abh AG):=by
 show BGT;obtain⟨p,xs,i,z,Β,Β,hq,he,q⟩:=h;show KA;show PY ry;show Bls AI9;have hn:=qZ;have EC:ϭ w s:=Bac;by_cases h0:0<=i
 ·have hj:ALv=j:=by
   rw[A9V h5] at h1;exact zF h1
  exact item_listR kX h0 Θ (AiZ hj ew) EC hs
 ·have hj:mT i AWb=j:=by
   rw[A4P h4] at h1
   show A3X;exact zF h1
  exact BLY w BrJ BrK
   (wpAny_getItem_list_neg (Q:=BXJ) kX Θ BRQ Θ (AiZ hj ew) (Ic EC)) hs
theorem yml:IxR X (abj AG):=by
 show BGT;obtain⟨p,xs,i,z,Β,Β,hq,he,q⟩:=h;show KA;show PY ry;show Bls A1u;have hn:=qZ;have EC:ϭ w s:=Bac;exact BLY w pl.typeIs slot_tuple_getitem.lookup
  (getItem_tuple (j:=j) (Q:=BXJ) pl Θ Θ (A5Q h1) (DT ew) (Ic EC)) hs
theorem yno:IxR X abk:=by
 show BGT;obtain⟨z,i,c,Β,Β,hz,he,q⟩:=h;show dL;show AKZ;obtain⟨j,h1,h2,h3,h4,h5⟩:=z0h he;have hl:z.cps.toList.length=ATQ:=DL Str.length
 rw[hl] at h1 h4 h5;have hn:=qZ;exact tail_any (At4 s z t) slot_str_getitem.lookup (getItem_str (c:=c) (by
  have e1:Api (i< -(C9 (2^63))):=BLF
  have e2:Api (i≥2^63):=BLF
  rw[e1,e2,Bool.or_false]) (AiZ h1 h2) ⟨.AX AaR,H,AM5,E7,q⟩) hs
theorem z5e(AW:At)(n j:Δ)(u:AJ):AGv (·.setIfInBounds j u) AO'=AMO AMa (.seq (its.set j u).pz n):=DL AGv
theorem Inv.lst{Ο:d8}{σ:St}{H:Hp}{s:AC}{p:Ζ}{xs:AQ}(I:AV)(h:A4o):
  BEM (AOP/\BTT/\ϓ):=by
 show Arm (KI p _ h);exact⟨AW,n,r,e,z⟩
theorem Inv.lstUpd{Ο:d8}{σ:St}{H:Hp}{s:AC}{p:Ζ}{xs ys:AQ}{AW eP :At}{n n' :Δ}{f:Obj ->Obj}(I:AV)(h:A4o)
  (ho:BTT) (hf:f AO'=BTh) (r:BNo) (hz:AYT) (t:Δ):
  QY (cr p ys) (Ő (AGw p f) t):=by
 have e:(AGw p f).Hm p=Ε BTh:=IC (AGx f ho (by rw[hf]<;>rfl)) hf
 refine AbR p p (by rw[h];trivial) YR (zk u q ((A4U).Ff q)) (E6 e) ?_
 exact⟨hz,eP,n',r,e⟩
def Xo:BbI:=fun o i v H Q=>∃p xs k j,o= RI/\i= AEo/\A4o/\A7v k/\Q (cr p (Asy j v))
theorem yfm:Xc X Xo:=by
 intro Ο s σ H o i v ov iv u Q I ro ri rv h;obtain⟨p,xs,k,j,Β,Β,hp,hj,q⟩:=h;show AD ro ro ro ro ro ro ro ro ro ro ro ro ro ro;show PY ri;obtain⟨AW,n,r,ho,hz⟩:=I.lst hp;show GB h1 h2 h3 h4 (z8f hj);have hl:=SK;have hn:=qZ;have I' :QY (cr p (Asy j v)) (cE (AGw p (Obj.mapSeq (·.setIfInBounds j u)))):=
  I.lstUpd hp ho (z5e AW n j u) (r.set rv j) (EM BrM hz) Mc
 by_cases h0:0<=k
 ·have hk:k.toNat=j:=by
   rw[A9V h4] at h1;exact zF h1
  exact W.ki_setAt ho h0 Θ (A5Q h4) (EM hk (EL I' q))
 ·have hk:mT k AWb=j:=by
   rw[A4P h3] at h1
   show A3X;exact zF h1
  exact W.ki_setBack ho Θ (A5Q h3) Θ (EM hk (EL I' q))
theorem zxn(BiZ):BFV.1=FA (ax n 0 lo)/\ BFV.2.1=FA (ax n n hi)/\ BFV.2.2=1:=by
 refine ZZ ?_ ?_
 ·cases lo with
  | Η=>show BVi
  | Ε i=>
   show Blo
 ·cases hi with
  | Η=>show BVi
  | Ε i=>
   show Blo
theorem zt5(AW:At)(lo hi:Sm):slicePick SD lo hi Η=Ayl its.drop (ax AGy 0 lo) (ax AGy AGy hi - ax AGy 0 lo):=by
 obtain⟨h1,h2,h3⟩:=zxn lo hi xy;unfold slicePick;rw[h1,h2,h3];simp only [sliceRange_one,pick_run,XI]<;>rfl
def abl(ARn):AcZ:=fun x lo hi H Q=>(Aiv xs wn (∀p,RC p ->M_ p (cr p Anv)))
theorem ykv:SlR X (abl AG):=by
 intro Ο s σ H x v vl vu lo hi sl Q I rx hs pl pu h;show Fu a xs hx q h;show KA;obtain⟨AW,r,ht,hz⟩:=kL hx;have Fh:=SK;refine⟨L7,_,BrK,ht.isList.typeIs,?_⟩;refine wpAny_getItem_list_slice ht.isList hs pl pu BM A1 ?_ BRQ
 rw[zt5,<- Fh];refine BeC (.DC Anv);exact⟨BZs,_,0,AzY r.drop,Si⟩
def qP:AEV V
 | BH=>Μ
 | ly=>Μ
 | dc=>Μ
 | i7=>Μ
 | _=>AE
def Mu:V ->V ->AT
 | BH,BH=>Μ
 | .bl a,ox=>AIM
 | .bl a,APh=>BYs
 | APg,ox=>a==(CD b 1 0)
 | APg,APh=>AIM
 | .AX a,.AX b=>AIM
 | _,_=>AE
theorem yl9{A:Bi}{s:AC}{y x:V}{u v:AJ}(ry:RY)(rx:pM)(fy:qP y=Μ)(fx:ACe qP):Ba6 (Mu y x):=by
 cases y with
 | non=>
  show ASY;cases x with
  | non=>show KA;exact BrO _
  | bl b=>show KA;exact SeqAt.EqAt.none_bool b
  | AU b=>show dL;exact SeqAt.EqAt.none_int b t
  | AX b=>show dL;exact SeqAt.EqAt.none_str b t
  | _=>show ARF fx
 | bl a=>
  show ASY;cases x with
  | non=>show KA;exact SeqAt.EqAt.bool_none a
  | bl b=>show KA;exact SeqAt.EqAt.bool_bool a b
  | AU b=>show dL;exact SeqAt.EqAt.bool_int a b t
  | AX b=>show dL;exact SeqAt.EqAt.bool_str a b t
  | _=>show ARF fx
 | AU a=>
  show AKZ;cases x with
  | non=>show KA;exact SeqAt.EqAt.int_none a t'
  | bl b=>show KA;exact SeqAt.EqAt.int_bool a t' b
  | AU b=>show ArP SeqAt.EqAt.int_int
  | AX b=>show ArP Bp5
  | _=>show ARF fx
 | AX a=>
  show AKZ;cases x with
  | non=>show KA;exact SeqAt.EqAt.str_none a t'
  | bl b=>show KA;exact SeqAt.EqAt.str_bool a t' b
  | AU b=>show ArP Bp6
  | AX b=>show ArP SeqAt.EqAt.str_str
  | _=>show ARF fx
 | _=>show ARF fy
def DY(x:V)(u:AJ):AT:=match u with
 | BM=>Mu BH x
 | .bool b=>Mu AP_ x
 | AbK=>Mu AEm x
 | .AX z _=>Mu (M3 z) x
 | _=>AE
theorem yhx{x y:V}{u:AJ}(r:RY)(f:qP y=Μ):DY x u=Mu y x:=by
 cases y with
 | non=>show AP0
 | bl b=>show AP0
 | AU i=>show APz
 | AX z=>show APz
 | _=>show ARF f
theorem Xp{x:V}:BkY (us.any (DY x)=xs.any fun y=>Mu y x)
 | _,_,Eg,_=>Β
 | y::xs,u::us,AKL,f=>by
  rw[ATR,eS] at f;show BRE (yhx r f.1) (Xp t f.2)
theorem Xq{A:Bi}{s:AC}{x:V}{v:AJ}(rx:pM)(fx:ACe qP):BkY (∀u∈us,Ba6 (DY x u))
 | _,_,Eg,_=>fun u hu=>(sq hu hu hu hu hu hu hu hu hu hu hu hu hu hu)
 | y::xs,u::us,AKL,f=>fun u' hu=>by
  rw[ATR,eS] at f;rcases EQ hu with Β | hu
  ·rw[yhx r f.1];exact yl9 r rx f.1 fx
  ·exact Xq rx fx t f.2 u' hu
def inV(x:V)(xs:AQ):AT:=xs.any fun y=>Mu y x
def rIn(K:AA)(neg:AT):R2:=AJJ (∃p xs,y= RI/\ (nZ K H p xs\/xY K H p xs)/\ACe qP/\BoT/\Q (.bl (CD neg (! inV x xs) (inV x xs))) H)
theorem zyy:AUu In (rIn AG AE):=by
 show AGN;obtain⟨p,xs,Β,hq,fx,fs,q⟩:=h;show ASY;rcases hq with hq | hq
 ·show BON;show BO2 SeqAt.in_listAt
 ·show BOQ;refine SeqAt.in_tupleAt AOM pl (fun w hw=>Xq rx fx r fs w AI3) (AJC ?_)
  rw[AiR (BIK (DY x)=its.any AOM),Xp r fs]
  exact q
theorem zok:AUu NotIn (rIn AG Μ):=by
 show AGN;obtain⟨p,xs,Β,hq,fx,fs,q⟩:=h;show ASY;rcases hq with hq | hq
 ·show BON;show BO2 SeqAt.notIn_listAt
 ·show BOQ;refine SeqAt.notIn_tupleAt AOM pl (fun w hw=>Xq rx fx r fs w AI3) (AJC ?_)
  rw[AiR (BIK (DY x)=its.any AOM),Xp r fs]
  exact q
theorem zn5:ACz ALK (AcO (Bjs (Q (GM NR) H))):=by
 show Aa5;show Fu p ys hq q h;show Tu;show AGP;have hn:=qZ;rcases hq with hq | hq
 ·show A5g;show A7J;exact Calls.call_len_list kX Abi (AwT NR ⟨AHq,IC XI Fh⟩)
 ·show A5h;show A7J;exact len_tuple pl Abi (AwT NR ⟨AHq,IC XI Fh⟩)
theorem zy8:ACz ALK (AcO (∃z,xs= [AkN]/\A0X/\Q (GM ATQ) H)):=by
 show Aa5;show sA z Β hz q;obtain⟨u,Β,t,Β⟩:=ALm r;have hn:=qZ;exact len_str Θ (Aa4 ATQ)
theorem zoc:fj X AIU (AcO (Bjs (BgU ys))):=by
 show Aa5;show Fu p ys hq q h;show Tu;show KA;have EC:∀(AW:At),KF ys AW ->AYT ->∀(h' :AM) (c' :Δ),(∀b o',NY PD o' ->NY SE o') ->
   AzL SD c' ->ϭ ADh Sk:=fun AW r' hz h' c' kp e=>
  (IF my (A2o kp Gc (ACW _ h' _ A0L ⟨hz,AW,c',r',e⟩)) (q _ AIq))
 rcases hq with hq | hq
 ·show A5g;have Fh:=BIL;obtain⟨o,ho,hc,n,hd⟩:=kX;exact BrP p YR ho hc hd Bl6 Abi
 ·show A5h;have Fh:=BIL;obtain⟨o,ho,hc,n,hd⟩:=pl;exact BrP p (FV Β) ho hc hd Bl6 Abi
theorem zld:BPV (AcO (∃p ys,xs= [RI]/\ ((ADr nZ p/\Aar l l l l AP6)\/ (ADr xY p/\M_ p H)))):=by
 show Aa5;show AZw p ys;show Tu;show AGP;rcases h with ⟨hq,q⟩ | ⟨hq,q⟩
 ·show A5g;show A7J;refine call_tuple_list kX (TM h' kp) Abi
  have I1:AJe:=BS3 kp;have I2:È ATS AP6 (cE (h'.push Ax5)):=
   AUi ATJ (Å) Gc (ACW _ _ _ AP6 ⟨hz,AW,r',A0a⟩)
  exact IF (.B9 ATS) I2 (q _ (AMs Ķ))
 ·show A5h;exact call_tuple_same pl (AM3 RI q)
def U4(K:AA)(T:KE)(x:V)(H:Hp):Ι:=match x with
 | i7=>T= "str"
 | dc=>T= ALJ
 | RI=>(T= L7 /\∃xs,nZ K H p xs)\/ (T= pd /\∃o,aI p=Ε o/\AGh= AhT /\Akf)\/
   (T= xo /\ ((∃AH,Sl p PU)\/∃AH,Sl p AVs))\/ (T= j' /\∃S n,Sl p (.set S n))
 | _=>D6
theorem yg7{Ο:d8}{σ:St}{H:Hp}{s:AC}{T:KE}{x:V}{v:AJ}(I:AV)(r:pM)(ty:U4 AG T x H):
  BS2/\∀a,Ý ->∃ob,A0V ob/\ob.dict=Η:=by
 cases x with
 | AX z=>
  show PY r;cases (sN T "str" ty);exact⟨At4 s z t,YI e n5⟩
 | AU i=>
  show PY r;cases (sN T ALJ ty);exact⟨typeIs_int s i t,YI e n5⟩
 | B9 p=>
  show AD r r r r r r r r r r r r r r;rcases ty with ⟨Β,xs,hq⟩ | ⟨Β,o,hk,hc,hd⟩ | ⟨Β,hk⟩ | ⟨Β,S,n,hk⟩
  ·obtain⟨AW,_,pl,_⟩:=AI9;refine So BrJ a e;show Do;obtain⟨o,n,e,c,hd,_⟩:=pl;exact ANV hd
  ·refine So ⟨o,av p o hk,hc⟩ a e;show Do;exact⟨o,av _ o hk,hd⟩
  ·have z:∃o,AUn p/\BHJ:=by
    rcases hk with ⟨AH,hk⟩ | ⟨AH,hk⟩
    ·obtain⟨_,_,_,_,o,_,_,e,ex,_⟩:=A7m;exact ANV ex
    ·obtain⟨_,_,_,_,o,_,_,e,ex,_⟩:=A7m;exact ANV ex
   show ie e ex z;refine Bcp;show ny;exact⟨o,e,ex.2.1⟩
  ·obtain⟨o,_,_,_,e,ex,_⟩:=A7m;refine Bcp;show ny;exact⟨o,e,ex.2.1⟩
 | _=>show UQ ty
def abm(K:AA)(T:KE)(r:AO_)(to:TE):TE:=Bif (r x [] H1 Q)
def tBM(K:AA)(T:KE)(r:AO_)(to:TE)(t:TA):TE:=Bif (Ï t xs (r x xs H2 Q))
variable{o e:AK}{es:C7}{to:TE}{t:TA}{EB:Κ}{LS HC:AN}{T id:KE}{r:AO_}
theorem yia(pa:BO3)(LN:Ben)(hty:Aq4)(hm:MtR X id r)(ho:A3')
  (JE:Bcv:=by rfl) (Mn:mv:=by rfl):PE X (Â o EB []) (abm AG T r to):=by
 show DO Q;refine Arb AXL abn;obtain⟨x,H1,I1,r1,ty,q1⟩:=abn;show FC h1 h2 yg7 I1 r1 ty;exact Ayz T id pa LN hty h1 h2 (hm Ο s1 σ H1 x [] v [] Q I1 r1 Eg q1)
theorem ync(pa:BO3)(LN:Ben)(hty:Aq4)(hm:MtR X id r)(ho:A3')(ha:Amc)
  (JE:Bcv:=by rfl)
  (xz:VW (Am2 (ANE LE)&&AqP HC) (Aq7 (VA LE) 1 30):=by rfl)
  (Mn:mv:=by rfl) (hs:fR LE e es:=by rfl) (ALy:Awk:=by rfl):
  PE X (Â o EB LE) (tBM AG T r to t):=by
 show DO Q;refine wpAny_Call_method_late JE xz Mn Β (lc AXL v abo);obtain⟨x,H1,I1,r1,ty,q1⟩:=abo;show FC h1 h2 yg7 I1 r1 ty;refine⟨T,id,pa,LN,hty,h1,h2,?_⟩;have hA:=ha HC Ο s1 σ H1 _ I1 q1;rw[hs] at hA⊢;refine Ag0 (by show(false || (backTo cpos (starEach es X.env)).any (·.1))=false;rw[hplain]<;>rfl) At6 ?_
 exact bZ hA fun us s2 abp=>by obtain⟨vs,H2,I2,r2,q2⟩:=abp;exact hm Ο s2 σ H2 x vs v us Q I2 r1 r2 q2
#where
def MtM(Bb_):Ι:=
 ∀(Ο:d8) (s:AC) (σ:St) (H:Hp) (x:V) (xs:AQ) (v:AJ) (us:At) (Q:VK),BC AV pM ia (r x xs H Q) (BA' v)
theorem Vals.one:∀{x:V} {us:At},ř [x] ->Bdv
 | _,_,.AY r Eg=>OS r
theorem Vals.zero:NA us At (ř []) (us= [])
 | _,Eg=>Β
theorem Vals.reverse{xs:AQ}{us:At}(h:ia):KF ATV us.reverse:=by
 induction h with
 | D8=>exact Eg
 | AY r t ih=>rw[At7,At7];exact BHD ih (Ahj r)
section
variable{X:Cx}{Ο:d8}{σ:St}{H:Hp}{s:AC}{l b:Ζ}{xs ys zs:AQ}
theorem Inv.lset{AW eP :At}{n:Δ}{f:Lm ->Lm}{t' :Δ}(I:AV)(hH:AnF)
  (e:AxI AO') (hf:f SD=BrL) (hv:BNo) (hz:AYT):
  AYO ys (Ő (AGw l (AGv f)) t'):=by
 have q:=PySem.IsL.update e f;rw[hf] at q;refine AbR l l (EM hH IP) YR (fun b' u hb hu=>(BIH A9 (AGv f) Av8).Ff hu) (E6 q) ?_
 exact⟨hz,eP,_,hv,q⟩
theorem Inv.lnew{AW:At}{t' :Δ}(I:AV)(hv:KF ys AW)(hz:AYT):
  A9p ys (Ő (AUw (AUs SD)) t'):=
 ATI (MG q AH5) Gc ⟨hz,AW,0,hv,Si⟩
theorem Inv.fresh(WS):RC Cl:=AtH (zN _)
theorem Inv.lstM(I:AV)(hH:AnF):Ail (BEM (AOP/\AW8 AGy/\AxI AO')):=by
 show Arm (KI l _ hH);exact⟨z,AW,n,r,SK,e⟩
theorem yc0(o5)(h:D7 n):BrQ n=AE:=re al Θ
#where
section
variable{X:Cx}
def z86:AO_:=fun x vs H Q=>∃l xs y,x= N2/\vs= [y]/\AnF/\AlW/\Q BH (cr l (xs++ [y]))
theorem zq6:MtM X At8 z86:=by
 intro Ο s σ H x vs v us Q I rx rv h;obtain⟨l,xs,y,Β,Β,hH,hz,q⟩:=h;show KA;show ZU u ru rv.one;obtain⟨z,AW,n,r,hl,e⟩:=At9 hH;refine A8d F.slot_list_append F.entry_list_append (F.args_list_append_2 _ _) (PySem.list_append l SD n u AZz)
 refine IF BH (At_ (eP :=AW++ [u]) hH e A1 (BIN (Ahj ru)) ?_) q
 show BQ6;show AF
def QL:AO_:=fun x vs H Q=>∃l xs,x= N2/\vs= []/\AnF/\Q BH (cr l [])
theorem z3e:MtM X BIO QL:=by
 intro Ο s σ H x vs v us Q I rx rv h;show zw l xs Β hH q h;show KA;have hus:=rv.zero;subst hus;obtain⟨z,AW,n,r,hl,e⟩:=At9 hH;refine A8d F.slot_list_clear F.entry_list_clear (F.args_list_clear_1 _) (AutoSeq1.list_clear_list_0 l SD n AZz)
 exact IF BH (At_ (eP := []) (ys:= []) hH e Β Eg ì) q
#where
section
variable{κ:Ch}[ώ]
def jF(AH:t_)(k:κ):WG:=C4 kvs.find? (fun kv=>(Χ (kv.1=k))) (·.2)
def ka(Bjl):t_:=
 JU Anz (Asi (BA kv (AcV v))) (AH++ [(k,v)])
theorem zvt{p:κ×V}{r:t_}{k:κ}(e:DJ=k):jF (p::r) k=Ε p.2:=Ahn jF e
theorem zvn{p:κ×V}{r:t_}{k:κ}(e:¬DJ=k):jF (p::r) k=jF r k:=Ahn jF e
theorem z2f(k:κ):∀AH:t_,Anz=(jF AH k).Į
 | []=>Β
 | p::r=>by
  rw[ALx];show Ab0
  ·simp only [zvt e,P_ e,Bool.true_or,BrR]
  ·rw[zvn e,BLT,BrS];exact z2f k r
theorem zkm(Bjl):BDg<=kC+1:=by
 unfold ka;split
 ·show Pf;show AF
 ·rw[P9,H_,BrT];show AF
theorem n8.nF{o:WG}{u:fI}(r:n8 o u):Aej=u.isSome:=by
 cases o with
 | Η=>cases u with
  | Η=>rfl
  | Ε _=>show ARD
 | Ε _=>cases u with
  | Η=>show ARD
  | Ε _=>rfl
theorem n8.getD{o:WG}{u:fI}{d:V}{d' :AJ}(r:n8 o u)(rd:HQ d d'):HQ (o.getD d) (u.getD d'):=by
 cases o with
 | Η=>cases u with
  | Η=>exact rd
  | Ε _=>show ARD
 | Ε _=>cases u with
  | Η=>show ARD
  | Ε _=>exact r
theorem KV.val(Bk7):n8 (jF AH k) (ATY vs k):=by
 induction r with
 | D8=>exact ALp
 | @AY p q ps qs h t ih=>
  show ARV h;show Ab0
  ·have e' :q.1=k:=BLU;have b:ATY AoG k=Ε q.2:=BOe
   rw[zvt e,b];exact h2
  ·have e' :¬q.1=k:=BUg;have b:ATY AoG k=ATY qs k:=BOe
   rw[zvn e,b];exact ih
theorem KV.any(Bk7):Anz=vs.any fun kv=>(Χ (kv.1=k)):=by
 induction r with
 | D8=>rfl
 | AY h t ih=>show BRE ih Ee
theorem KV.repl(Bg7):
  KV (Asi fun kv=>(AcV y)) (Atv fun kv=>(AcV u)):=by
 induction r with
 | D8=>exact Eg
 | @AY p q ps qs h t ih=>
  show AnU;refine .AY ?_ ih;show ARV h;show Ab0
  ·rw[DZ e,uS BIQ e];exact⟨h1,ry⟩
  ·show BV7;exact⟨h1,h2⟩
theorem KV.put(Bg7):KV (ka AH k y) (stored vs k u):=by
 unfold ka stored;rw[r.any k];by_cases e:(vs.any fun kv=>(Χ (kv.1=k)))=Μ
 ·rw[DZ e,DZ e];exact r.repl k ry
 ·show ZN e e;exact Paired.snoc r (Ic ry)
theorem KV.length{AH:t_}{vs:AWu}(r:AVv):AHV kC:=BLZ
#where
theorem QM{P:A0}{w:An}{k:Key}{u:AJ}(r:HQ (kV k) u):(pK P w).is k u=Μ:=by
 cases k with
 | DH i=>show BN5 AbG (z0l P w i t)
 | BD x=>show BN5 AoP (zrz P w x t)
theorem zw7{P:A0}{w:An}:∀{ks:GE} {us:At},KF (PH kV) us ->ItemsAre ϔ ks us
 | [],_,r=>by rw[AuA] at r;show AD r r r r r r r r r r r r r r;exact Eg
 | AKD,_,r=>by
  rw[GL] at r;cases r with
  | AY h t=>exact iO (QM h) (zw7 t)
abbrev KT(H:Hp):D1 ADl AW0:=ASm fun p q=>BfD
theorem KT.val(BFs)(r:AR7)(k:GE):n8 (jF AH k) ((atKey xs k).map (·.2)):=by
 induction r with
 | D8=>exact ALp
 | @AY p q ps qs h t ih=>
  obtain⟨h1,_,h2⟩:=h;show Ab0
  ·have e' :q.1=k:=BLU;have b:ATZ AoG k=Ε q.2:=BOf
   rw[zvt e,b];exact h2
  ·have e' :¬q.1=k:=BUg;have b:ATZ AoG k=ATZ qs k:=BOf
   rw[zvn e,b];exact ih
theorem KT.repl(BFs)(r:AR7)(k:GE){y:V}{u:AJ}(ry:RY):
  KT H (Asi fun kv=>(AcV y)) (kD (putAt k u)):=by
 induction r with
 | D8=>exact Eg
 | @AY p q ps qs h t ih=>
  show AnU;refine .AY ?_ ih;show F6 h1 h2 h3 h;unfold putAt;show Ab0
  ·rw[DZ e,uS BIQ e];exact⟨h1,h2,ry⟩
  ·show BV7;exact⟨h1,h2,h3⟩
theorem KT.put(BFs)(r:AR7)(k:GE){b:Ζ}{y:V}{u:AJ}(hb:A2Y)(ry:RY):
  KT H (ka AH k y) (storedH xs k b u):=by
 have e:Anz=BWK:=by
  rw[z2f,(r.val k).nF,AuB]
 unfold ka storedH;rw[e];by_cases q:BWK=Μ
 ·rw[L3,L3];exact r.repl k ry
 ·rw[Cc q,TN];exact Paired.snoc r ⟨Β,hb,ry⟩
theorem KT.keeps{H H' :Hp}{AH:ADl}{xs:AW0}(r:AR7)(ht:∀b ys,sd AP6 ->AV3 AP6):KT H' AH xs:=
 As3 r (MG z BZD)
section
variable{P:A0}{w:An}{H:Hp}{h:AM}{a:Ζ}
theorem yo1{u:HO}(ok:du)(e:Rd H a u):AAp u:=e.ok ok
theorem Ln{AH:mS}(ok:du)(e:AmA):BDU:=
 show AAp PU from yo1 ok e
theorem QV{AH:mS}(ok:du)(e:AE'):BDU:=Ln ok (HG e)
theorem U5{ks:GE}(ok:du)(e:Nl BM6):(ASo ϔ).is h ks a:=by
 obtain⟨_,AW,r,o,h1,h2,n,h3⟩:=(E_ (AAp BM6) (ok a _ e));exact⟨o,SD,n,h1,h2,h3,C6 (zw7 r)⟩
theorem QX{AH:ADl}(ok:du)(e:A3U):Ah3 (∃xs,AR7/\h.DictOfH (ASo ϔ) a xs):=by
 obtain⟨z,y,xs,r,o,es,ep,h1,h2,h3,h4,h5⟩:=(E_ (AAp AVs) (yo1 ok e));refine⟨z,y,xs,r,o,es,ep,h1,h2,h3,h4,AoH,h5⟩;have all:∀{l:ADl} {m:AW0},KT H l m ->∀x∈m,(ASo ϔ).is h x.1 x.2.1:=by
  intro l m q;induction q with
  | D8=>intro x hx;exact nomatch hx
  | @AY p q ps qs hq t ih=>
   intro x hx;rcases EQ hx with e | hx
   ·show ü (U5 ok (VZ hq.1 hq.2.1))
   ·exact ih x hx
 exact all r x hx
theorem ypl{AH:ADl}(ok:du)(e:A1T):Ah3 (∃xs,AR7/\h.DictOfH (ASo ϔ) a xs):=QX ok (HG e)
#where
def sO(H:Hp)(a:Ζ)(y:V)(r:WG):Ι:=
 (∃AH k,AmA/\y=kV k/\r=Ap1)\/∃AH k b,A3U/\y= AI2/\A2Y/\r=Ap1
def Bt(H:Hp)(a:Ζ)(y v:V)(H' :Hp):Ι:=
 (∃AH k,AE'/\y=kV k/\AlX/\H' =EH H a (.dK BCa))\/
 ∃AH k b,A1T/\y= AI2/\A2Y/\Ũ kC/\H' =EH H a (.dT BCa)
theorem sO.k{H:Hp}{a:Ζ}{AH:mS}{k:Key}(e:AE'):sO H a (kV k) (jF AH k):= .DH ⟨AH,k,.DH e,Β,Β⟩
theorem Bt.k{H:Hp}{a:Ζ}{AH:mS}{k:Key}{v:V}(e:AE')(hl:AlX):Bt H a (kV k) v (EH H a (.dK BCa)):= .DH ⟨AH,k,e,Β,hl,Β⟩
section
variable{X:Cx}{Ο:d8}{σ:St}{H:Hp}{s:AC}{a:Ζ}{y v:V}{u r:AJ}{o:WG}{A:Bi}{E:dW}
theorem Inv.big(WS):P1 BHH:=by
 have h:P1 pe:=(Bqe I.bk).lt;exact AuC Φ h
theorem yb1(wp)(hu:AZb)(I:AV)(g:sO H a y É)(ry:RY)(h:BVa (HQ v w')):
  AHs (ATP ED u):=by
 rcases g with ⟨AH,k,e,ey,l⟩ | ⟨AH,k,b,e,ey,eb,l⟩
 ·subst ey;show Aa2;show BU w' hw tZ (Axm (ATY vs k)) BZ'
  exact wpAny_getItem_of Abf AuD hw (h w' _ ACx tZ)
 ·subst ey;show AcE;show Aoa;show BU w' hw tZ (Axm ((ATZ xs k).map (·.2))) BZ'
  show BU p hp hp2 zE.mp hw;refine wpAny_getItem_heap Ald Aqz dd hp ?_;rw[hp2];exact h w' _ ACx tZ
theorem abq(wp)(hu:AZb)(I:AV)(g:AO4 H)(ry:RY)(h:∀s',ANh ->Q (s0 Aej) s'):
  BaN .In:=by
 rcases g with ⟨AH,k,e,ey,l⟩ | ⟨AH,k,b,e,ey,eb,l⟩
 ·subst ey;show Aa2;refine wpAny_in_of Abf hd AuD ?_;rw[<- Ant,<- l];exact AlM
 ·subst ey;show AcE;show Aoa;refine wpAny_in_heap Ald Aqz hd dd ?_;have q:=Ant;rw[AuB] at q;rw[<- q,<- l];exact AlM
theorem yle(wp)(hu:AZb)(I:AV)(g:AO4 H)(ry:RY)(h:∀s',ANh ->Q (s0 (! Aej)) s'):
  BaN AJP:=by
 rcases g with ⟨AH,k,e,ey,l⟩ | ⟨AH,k,b,e,ey,eb,l⟩
 ·subst ey;show Aa2;refine wpAny_notIn_of Abf hd AuD ?_;rw[<- Ant,<- l];exact AlM
 ·subst ey;show AcE;show Aoa;refine wpAny_notIn_heap Ald Aqz hd dd ?_;have q:=Ant;rw[AuB] at q;rw[<- q,<- l];exact AlM
theorem zzk{h' :AM}{t' :Δ}{ob:HO}(I:AV)(mu:W0 (H a))(hs:Ap3 h')(he:BDX)(new:AHS (EH H a ob) h' a ob):
  È a ob AOC:=
 AbR a a mu YR (zk q z (AaZ hb z)) he new
theorem ygp{P:A0}{w:An}{H' :Hp}{h' :AM}{AH:mS}{vs:A3n}(z:AVF)(hd:Agc)(rel:AVv)(dd:h'.DictOf ϔ a vs):
  bB P w H' h' a PU:=⟨z,hd,vs,rel,dd⟩
theorem z8n{H' :Hp}{Q:ĉ}(hu:AZb)(I:AV)(g:Bt H a y v H')(ry:RY)(rv:HQ v r)(h:Aaw AJ7):
  AHs (setItem ED u r):=by
 rcases g with ⟨AH,k,e,ey,l,eH⟩ | ⟨AH,k,b,e,ey,eb,l,eH⟩
 ·subst ey eH;obtain⟨z,hd,vs,rel,dd⟩:=sg QV;show FY hz AOj BNV hl (D7 BDg) BfX (wpAny_setItem_pairs (hsz:=hz) (QM ry) dd BXr);have he:BDX:=BRG;exact BfY (ygp hl hd (rel.put k rv) G5)
 ·subst ey eH;show AcE;obtain⟨z,hd,xs,rel,dd⟩:=sg ypl;have hz:ϓ:=Nw (Bp7 rel) z
  have hl:D7 BDg:=BfX
  refine wpAny_setItem_heap (hsz:=hz) Ald Aqz dd BXr;obtain⟨q,es,ep,hq,h2,h3,h4,_,h5⟩:=G5;refine zzk I Ai1 hs ⟨q,hq⟩ ⟨hl,hd,_,(rel.put k eb rv).keeps (As c ys ec),q,es,ep,hq,h2,h3,h4,h5⟩
  rw[bJ (ypm ec e (FI (nomatch z)))];exact ec
#where
section
variable{X:Cx}{Ο:d8}{σ:St}{H:Hp}{s:AC}{a:Ζ}{AH:mS}{k:Key}{u:AJ}{A:Bi}{E:dW}
theorem yph(wp)(I:AV)(e:AmA)(h:∀t s',ANh ->Q (.AU kC t) s'):Aim ALK NG:=by
 show Aa2;refine call_len_dict hd dd (by rw[<- BIR];rw[ALl] at z;show AF) ?_
 rw[<- BIR];exact h _ _ ACx
#where
def Mv(i:AK):Ι:=∀ov iv,BBd (At3 i AE ov iv) [ov,iv] ov iv
theorem ylh{CY:A0}{w:An}{A:Bi}{E:dW}{s:AC}{Be:Env}{FE kU:AK}{Ψ:AN}{T id:KE}(wp)
  (hl:Bcz) (hs:Mv kU)
  (h:AqL FE o (AXV (ADX kU) (U' KK (s₂.TypeIs o T/\AH8 (ATP o i) KK)))):
  Kb (ADX (AkE FE kU)):=by
 refine BID (SI h (fun o EU a_=>SI a_ (As i KK qS) vk) vk);obtain⟨hT,qS⟩:=qS;refine Y_;rw[getitemInPython_of_ne hT.not_modules];refine fw BrV hT hl;have EC:r9 A (At3 kU AE o i) (ft qV (AH8 (letTemporaryGo FE o r>>=FM (Hn r)) qV)) E KK:=mo (hs o i) wpAny_operating (û qS (fun r qV h₃=>z6 (wpAny_letTemporaryGo (z7 h₃))) vk)
 first
  | exact z7 (z6 EC)
  | exact z6 (z7 (z6 EC))
  | exact z6 EC
theorem zzr(Bg1){s:AC}{a:Ζ}{y:V}{o:WG}(I:AV)(g:AO4 H):BY5 :=by
 rcases g with ⟨AH,k,e,_,_⟩ | ⟨AH,k,b,e,_,_,_⟩
 ·obtain⟨_,_,vs,_,dd⟩:=sg Ln;exact ALz
 ·obtain⟨_,_,xs,_,dd⟩:=sg QX;exact ALz
def Xr(td ty:TE):TE:=Pe td x (Ï ty y (Aiv v (sO H2 a y É) (Q v H2)))
def abr(ty td:TE):TE:=BiS Aej
def ykt(ty td:TE):TE:=BiS (! Aej)
def Xu(td ty tv:TE):TS:=AOb tv v (Ï td x (ty σ H2 fun y H3=>(Aiv H4 (Bt H3 a y v H4) (AHv H4))))
section
variable{X:Cx}{o i e FE:AK}{Ψ KL tpos:AN}{td ty tv:TE}
theorem z6e(hu:im)(ho:AXl)(hi:Ayj)(hs:Mv i):Ò ABb o i (Xr td ty):=by
 show DO Q;refine ylh PySem.F.slot_dict_getitem.lookup hs (lc AXL u Cn);show Akz x rx;refine ADG (ϙ hi) iv hz2;obtain⟨y,H2,I2,ry,a,v,ex,g,q2⟩:=hz2;subst ex;show ß;exact⟨zzr I2 g,yb1 hu I2 g ry fun w' s3 I3 tZ =>⟨v,H2,I3,tZ,q2⟩⟩
theorem ym8(BkB):PC X .In i o (abr ty td):=by
 show DO Q;refine bZ Akp (UT iv Cn);show Akz y ry;refine BBK;obtain⟨x,H2,I2,rx,a,ov,ex,g,q2⟩:=hz2;subst ex;show ß;exact abq hu I2 g ry (AOY (Bb2 ov.isSome))
theorem zx7(BkB):PC X AJP i o (ykt ty td):=by
 show DO Q;refine bZ Akp (UT iv Cn);show Akz y ry;refine BBK;obtain⟨x,H2,I2,rx,a,ov,ex,g,q2⟩:=hz2;subst ex;show ß;exact yle hu I2 g ry (AOY (Bb2 (! ov.isSome)))
theorem zua(hu:im)(ho:AXl)(hi:Ayj)(hv:Ay0)(hs:AaT o i):
  AOt (ANo o i) FE (Xu td ty tv):=by
 show DO D;refine wpAny_Assign_Subscript (bZ Ako (UT r Cn)) hs;show Akz v rv;refine BBK;obtain⟨x,H2,I2,rx,q2⟩:=hz2;refine BPX hi iv hz3;obtain⟨y,H3,I3,ry,a,H4,ex,g,q3⟩:=hz3;subst ex;show ß;exact z8n hu I3 g ry rv fun s4 I4=>⟨σ,H4,I4,q3⟩
#where
theorem yf1{P:A0}{w:An}{H:Hp}(h:AM)(hb:AX6 BHH):bB P w H (ATb mw) Mm A1K:=
 ⟨MZ,AUx ALP (zK hb),[],Eg,Heap.DictOf.new h⟩
def QZ:TE:=ApV (Aar p p p p A1K)
section
variable{X:Cx}{Ψ:AN}
theorem ygk:Ò Dict [] [] QZ:=Bjn (wpAny_Dict_empty (IF my (ATI (a:=Cl) (o:= .dK []) (t' :=Mc) (MG q AH5) Gc (yf1 A9 I.big)) (h _ AIq)))
#where
structure M2 (X:Cx) (o:AK) (m:Κ) (LS:AN) (e f:AK) (HC:AN):Ι where
 C3:ANc o m o o
 few:VW (Am2 (ANE [e,f])&&AqP HC) (Aq7 ([e,f]:C7).ALY 1 30)
 line:mv
 trees:backTo HC (AS6 [e,f] BE)= [(AE,XZ e),(AE,XZ f)]
def IsD(H:Hp)(a:Ζ):Ι:=(∃AH,AmA)\/∃AH,A3U
theorem Xv(BmH a Ζ)(I:AV)(d:IsD H a):
  BY5 /\ (MH (T' a= AI2) (∃ob,Awe/\ob.dict=Η))/\ Agc:=by
 rcases d with ⟨AH,e⟩ | ⟨AH,e⟩
 ·obtain⟨_,hd,vs,_,dd⟩:=sg Ln;refine⟨ALz,Akx,hd⟩;show LZ;obtain⟨ob,_,_,h1,h2,_⟩:=dd;exact BUv
 ·obtain⟨_,hd,xs,_,dd⟩:=sg QX;refine⟨ALz,Akx,hd⟩;show LZ;obtain⟨ob,_,_,h1,h2,_⟩:=dd;exact BUv
section
variable{X:Cx}{Ο:d8}{σ:St}{H:Hp}{s:AC}{a:Ζ}{y d:V}{u r:AJ}{o:WG}{A:Bi}{E:dW}
theorem yoz(wp)(hu:AZb)(I:AV)(g:AO4 H)(ry:RY)(rd:HQ d r)(h:BVa (HQ (o.getD d) w')):
  Aim "dict.get" [CF,u,r]:=by
 rcases g with ⟨AH,k,e,ey,l⟩ | ⟨AH,k,b,e,ey,eb,l⟩
 ·subst ey;show Aa2;refine Aem BIS ALz BrW BN8 (meets_dict_get_default AMy a Abf hd r) (EL AuD (h _ _ ACx ?_));rw[l];exact(ATa k).XL rd
 ·subst ey;show AcE;show Aoa;refine Aem BIS ALz BrW BN8 (meetsH_dict_get_default (ASo (pK HR X.w)) a b hd r) ⟨BrU hu,k,xs,U5 KI eb,dd,h _ _ ACx ?_⟩;rw[l];exact(ATa k).XL rd
#where
def Q5(td ty tx:TE):TE:=Bd3 (∃o,AO4 H3/\Q (o.getD z) H3)
section
variable{X:Cx}{o e f:AK}{LS HC:AN}{td ty tx:TE}
theorem yfx(hu:im)(ho:AXl)(he:ACY ty)(hf:PE X f tx)(m:BFo "get"):BXA "get" Q5:=by
 show DO Q;refine BrX m.base m.few m.line AuG BIS PySem.F.type_dict_get BP3;obtain⟨x,H1,I1,rx,a,ex,d,q1⟩:=Q6;subst ex;show ß;obtain⟨t1,t2,_⟩:=Xv I1 d;refine CU t1 t2;rw[m.trees];refine Ag0 Β At6 (Atr (bZ (ϙ he) fun iv s2 (Aqs ry)=>
  (Bd1 ⟨z,H3,I3,rz,ov,g,q3⟩)))
 exact yoz hu I3 g ry rz fun w' s4 I4 tZ =>⟨_,H3,I4,tZ,q3⟩
#where
#print _2
namespace Att
open KB AK7 Ase LL
theorem zr3{P:Params}{h:AM}:∀(ns:CI) (vs:At),WellAll P h vs (x5 WData.int) ->Aa6:=by
 intro ns;induction ns with
 | D8=>
  intro vs w;rw[AuA] at w;show AD w w w w w w w w w w w w w w;exact Eg
 | AY n ns ih=>
  intro vs w;rw[GL] at w;cases w with
  | AY a b=>
   show AD a a a a a a a a a a a a a a;exact A1k (ih _ b)
theorem z7t{l:Aen}{n:Δ}(hn:A9b){P:Params}{h:AM}{E8:EO WData}{IQ:At}
  (hpre:l.row.toRowW.claim.pre E8=Μ) (hwl:WellAll P h IQ E8):
  ∃a vs ns,IQ= [ANA]/\E8= [WData.list (x5 WData.int)]/\gT Ain/\Aa6/\Akl:=by
 have hsh:WShape.hasAll [] E8 [.list mI]=Μ:=(pre_splitW hpre).1;have hc:l.pre.holds [] {E8:=E8}=Μ:=(pre_splitW hpre).2;show Fu d r h1 h2 (hasAllW_cons hsh);show U_ (hasAllW_nil h2);show BU xs Β h3 hasW_list h1;show yi ns (items_int h3);have Fh:Akl:=by
  have h4:(WTm.not (.lt (.lit (GM Lw)) (.len (.arg 0)))).holds [] {E8:= [.list AMo]}=Μ:=by
   have h4:=(holds_andW hc).1;rw[hn] at h4;exact h4
  have h5:=condW_of h4 (w_not (w_lt w_lit (w_len_list (w_arg Β))));show Av5 h5;refine Nat.le_of_not_lt (II q);have q' :Lw< FA IO:=Υ
  first
   | (show ND (P_ q') h5 (Aky h5))
   | (simp at h5;show AF)
 cases hwl with
 | AY w1 w2=>
  show AD w2 w2 w2 w2 w2 w2 w2 w2 w2 w2 w2 w2 w2 w2;cases w1 with
  | list ho hall=>exact⟨_,_,ns,Β,Β,ho,zr3 ns _ hall,Fh⟩
theorem z87(l:Aen)(E8:EO WData):l.row.toRowW.claim.post E8 AWn E8=Μ:=
 postW_of (r:=AuI) (X:=BRi)
  (show WShape.has [] AWn .bool=Μ by first | rfl | decide | simp [WShape.has,WShape.arms,WShape.armsAll])
  (E_ ((WTm.eq .res (.lit AWn)).FE [] {E8:=E8,res:=Ε AWn,after:=E8}=Ε (s0 BRi)) (w_eq_bool (w_res Β) w_lit)) Β
theorem Bu{l:Aen}{n:Δ}{q:A0}{aS:Ρ}{XP:BUy}{YP:BO'}{d:Ash}
  (hn:A9b) (hdf:BLv)
  (qA:∀(w:An) (K_ EU:AC) (mg mb:EN) (fa:Ζ) (o:Obj) (pm cd doc:AJ) (a:Ζ) (vs:At) (ns:CI),
   WC (Ground q aS [] XP w K_ mg mb ABl) (YP w ABl) (ATc fa=Ε o) (pj= .func (docDef d.name d.params d.body d.scope pm cd doc)) (s₁.heap.CodeRec cd d.name) BPU (BC BRj Aa6 Akl BNf (AJA (AS5 ATd w) Aeo (BY fa) (GY NG) BpJ EU))):
  BYi:=by
 intro w K_ EU mg mb G Y fa o pm cd doc dV kV ho hd hcd hD hmg hg E8 IQ as hpre hlay hrd hwl hlo;show GU (dV= BM) (Dflts.none hD hdf);show GU (kV= BM) (Dflts.noKw hD);obtain⟨a,vs,ns,Β,Β,hobj,hints,Fh⟩:=z7t hn hpre hwl;refine Av6 enter_call (qA w K_ EU mg mb fa o pm cd doc a vs ns G Y ho (fd_plain hd) hcd hmg hobj hints Fh hg) AQ';obtain⟨Β,h2,h3,h4⟩:=hq;exact⟨.DH ⟨AXJ,AXJ,[],Β,APl,AXJ,z87 l _,FM ⟨ATe,YI hm (nomatch hm)⟩⟩,h2,h3,h4⟩
section
variable{CY:A0}{w:An}{A:Bi}{E:dW}{s:AC}{K:JA}
#where
#print Att
namespace _2
open KB P4 LL
theorem Xw:∀{vs:At} {ns:CI},Aa6 ->KF (x5 V.int) vs
 | _,_,Eg=> Eg
 | _,_,.AY n t h=> iO nI (Xw h)
def Only(H:Hp):Ι:=∀b,N3\/∃o xs,sd (.frz o tN)
theorem yc9{P:A0}{w:An}{K:AA}{mg mb:EN}{CX:Lk}{k:Δ}{fa a:Ζ}{fd:GA}{x:Κ}{sp:Sp}{EU:AC}{vs:At}{ns:CI}
  (KX:BoC) (hns:Agu BIU) (hb:BIU As8 mb) (hbb:Bfc) (hlim:s₁.heap.NoLimit) (hg:BNf)
  (ha:BRj) (hi:Aa6) (hl:BKt) (hr:BLq)
  (F:Bd6 (U2 gK CX k fa fd [x] sp)) (hbind:A8c u BBX)
  (hsp:∀H:Hp,Only H ->Apu ->sp NG H A_S ϖ)
  (hCX:∀H e s',CX [] H EU (ϖ) e s' ->D6):
  BjT:=by
 have rv:=Xw hi;have lenV:=hi.length
 
 have core:∀H:Hp,Only H ->Hb Apu (o7 P w H ABl) (MH (H b≠Η) (b=a)) (H a≠Η ->MI aI) BjT:=by
  intro H hO hS D4 hA hK;have Gh:l_ b Ζ o Obj BKy N3 (LA (Am ABl H).Hm):=fun e n=>ydz e n;have Xm:∀{b:Ζ} {o:Obj} {es:AY1} {ep:Δ},BKy ->pj= AhK ->N3:=fun{b o es ep} e d=>by
   cases q:H b with
   | Η=>rfl
   | Ε u=>
    have e' :b=a:=BRd
    subst e';rw[ha] at e;show Do;have d' :Data.seq qa _=Data.dict es ep:=d;show AD d' d' d' d' d' d' d' d' d' d' d' d' d' d'
  show FL nsK (∀{b:Ζ} {m:EN},BIU b m ->(Am ABl H).Ns b m) (fun{b m} Xx=>by obtain⟨o,es,ep,e,d,r⟩:=Xx;exact⟨o,es,ep,Gh e (Xm e d),d,r⟩) hKb (İ (Am ABl H)) (Q1 (Gh (lj KX) (by
   cases q:H b with
   | Η=>rfl
   | Ε u=>
    have e' :b=a:=BRd
    subst e';rw[hK (AXK q)] at e;show Do))) hM (Mod K mg BSt) ⟨hKb,nsK hns,⟨mb,nsK hb,hbb⟩,let ⟨mc,h1,h2⟩:=hlim;⟨mc,nsK h1,h2⟩⟩ e0 (Ao P w K mg BSt Aeo [] EU H) ⟨Β,hM,Q1 (yk2 e),ALq (yal _ _),IP,E4 (A__ hb),D4,.of_eq hg⟩
  refine AL0 ((F _ hKb (nsK hns)).run Aeo [] EU H (GY NG) NG NG _ _ hr e0 (hbind EU ED) A5e (hsp H hO hS)) (AVe h);cases r with
  | kT e=>exact(hCX H e s' h).UC
  | ok fl=>
   cases fl with
   | Kx=>show Ň
   | brk=>show Ň
   | OE=>show Ň
   | ret u=>
    obtain⟨v,H',os,HP,un,hok',r',q⟩:=h;have q' :v= ADi:=q;subst q';show GU (u=Asx Μ) r';refine⟨Β,OldK.of_keep AaM,os,HP⟩;cases q:H b with
    | Η=>exact un.keep b o e q (by intro z;exact A__ z) A1
    | Ε u=>
     rcases hO b with z | ⟨ob,xs,z⟩
     ·rw[q] at z;show MR
     ·have z2:=un.mR b ob _ z;obtain⟨e1,_⟩:=D4 b _ z;obtain⟨e2,_⟩:=hok' b _ z2;rw[e] at e1;show AD e1 e1 e1 e1 e1 e1 e1 e1 e1 e1 e1 e1 e1 e1;exact e2
 cases hk:aI a with
 | Ε o=>
  
  have e:=KX a o hk;rw[ha] at e;show Do;refine core (De Η) (De APv) (FV ⟨_,qa,_,hk,Β,Β,Β,mi XI lenV hl,C6 rv⟩) (fun b u z=>(Bav ((Η:M1 HO)=Ε u))) (fun b z=>A_M) (Au A_M)
 | Η=>
  refine core (A4H (.frz Ain (FF Awn)) Η) (gI ?_) (HG (FV ⟨Ain,ET⟩)) (OQ u z) (fun b z=> ?_) (FM hk)
  ·by_cases hb:b=a
   ·exact C_ (EL _ Aj7)
   ·exact CS (UA hb)
  ·by_cases hb:b=a
   ·have z' :=(ABS hb).BIV z;show Azi;subst hb;exact⟨ha,BK4 hl,vs,_,rv,ha⟩
   ·have z' :=(UA hb).BIV z;show Azi
  ·by_cases hb:b=a
   ·exact hb
   ·exact Ā UA hb z
abbrev E0:XK:=ϖ
structure dX (BcN) (st:AO) (f:Ζ) (fd:GA):Ι where
 ex:∃(oc:AJ) (od:N4) (kV doc pm:AJ) (an:N4) (cdv ct:AJ) (osl:AEO),
  BZQ (Atz x E2 AIo m_ zC BM kV doc pm an cdv ct)
 kp:AWv
section
variable{P:A0}{w:An}{K:AA}{mg:EN}{C3:AM}
theorem dX.binds(Ě){st:AO}{f:Ζ}{fd:GA}{ps:Ρ}(F:Aa8)
  (h:Bl4 us At (kB=LP ->BXi (Atz x E2 AIo m_ zC BM kV doc pm an cdv ct))):ADe:=by
 show BMs;exact .all (h kV doc pm an cdv ct)
#where
def L9(H H' :Hp):Ι:=AWG H H'
theorem Same.refl(H:Hp):ā H:=A3O
theorem Same.trans{H H1 H2:Hp}(a:A6Y)(b:L9 H1 H2):L9 H H2:=fun c o h=>b c o (a c o h)
theorem Same.free{H H' :Hp}(e:AQj){l:Ζ}(h:H' l=Option.none):H l=Option.none:=by
 cases q:H l with
 | Η=>rfl
 | Ε o=>
  show AXp (e l o q)
theorem Same.seq{K:AA}{H H' :Hp}{a:Ζ}{xs:AQ}(e:AQj)(h:wn):nZ K H' a xs:=by
 show Aw6 h h h h
 ·exact CS (HG (e _ _ h))
 ·show AZK (e _ _ h)
 ·exact C_ h
#print _2
namespace _3
open KB P4 LL _2
abbrev St:=_2.St
inductive D where
 | non | bl (b:AT) | AU (ARW) | AX (AQe) | Dx (xs:AR) | DC (xs:AR) | exc (C:Ζ) | ptr (a:Ζ)
 | obj (C:Ζ) (fs:Ρ) (xs:AR) | dic (ks:GE) (xs:AR) | qJ (ks:rh Key) (xs:AR) | dik (ks:GE) (xs:AR)
def jf(a C:Ζ):HO:= AoD (∃o vs,AAX/\AGh= HU/\pj= ANl/\ (A_W AtQ))
def rA(F:Hp)(a:Ζ):Ι:=∃o C,A3a
inductive IsT (BjS):Ι
 | mk:BXQ (xY K F a vs) (IsT K F R v)
inductive Xy (BjS):Ι
 | mk:BXQ Ays (Xy K F R v)
inductive Xz (F:Hp) (C:Ζ) (fs:Ρ) (R:AWc) (v:V):Ι
 | mk:∀a dx vs,BC Ý (Fr F A2i) AQY (R vs) (Xz F C fs R v)
inductive XC (BQq):Ι
 | mk:Bki (Fr F ACi) XC
inductive XD (F:Hp) (ks:rh Key) (R:AWc) (v:V):Ι
 | mk:Bki (Rd F a (.dT AHX)) XD
inductive XF (BQq):Ι
 | mk:∀a o vs,BC Ý AyK iA (R vs) (XF F ks R v)
inductive IsC (P:GN V) (R:AWc) (vs:AQ):Ι
 | mk:∀v r,vs=v::r ->P v ->R r ->IsC P R vs
mutual
def EJ(K:AA)(F:Hp):D1 D V
 | BH,v=>v= BH
 | ox,v=>v= ox
 | GG,v=>v= GG
 | oq,v=>v= oq
 | AEy,v=>IsT K F AKo v
 | Aj3,v=>Xy K F AKo v
 | .exc C,v=>∃a o,v= CF/\A3a
 | .ptr a,v=>Ý
 | AZZ,v=>Xz F C fs AKo v
 | AI7 ds,v=>XC F ks AKo v
 | .qJ ks ds,v=>XD F ks AKo v
 | .dik ks ds,v=>XF F ks AKo v
def aL(K:AA)(F:Hp):D1 AR AQ
 | [],vs=>vs= []
 | Z3,vs=>IsC (EJ K F d) AKo vs
end
theorem uQ{K:AA}{H H' :Hp}{a:Ζ}{xs:AQ}(e:AQj)(h:AFQ):xY K H' a xs:=by
 show Aw6 h h h h
 ·exact CS (HG (e _ _ h))
 ·show AZK (e _ _ h)
 ·exact C_ h
theorem Lq{F H:Hp}{a:Ζ}{u:HO}(s:i8)(r:Rd F a u):Rd H a u:=by
 rcases r with r | ⟨o,r⟩
 ·exact CS (s _ _ r)
 show AAL (sw (s _ _ r))
mutual
theorem zva(BNr):∀(d:D) (v:V),TC ->nK
 | BH,_,h=>J'
 | ly,_,h=>J'
 | dc,_,h=>J'
 | i7,_,h=>J'
 | AEy,_,h=>by
  show AAw a vs;exact⟨a,vs,h0,uQ e h1,AhE h2⟩
 | Aj3,_,h=>by
  show AAw a vs;exact⟨a,vs,h0,e.seq h1,AhE h2⟩
 | AEr,_,h=>J'
 | .exc C,_,h=>by
  show sA a o h0 h1;exact⟨a,o,h0,Ak_⟩
 | AZZ,_,h=>by
  show Ar6;exact⟨a,dx,vs,h0,Ak_,h3,AnP⟩
 | AI7 ds,_,h=>by
  obtain⟨a,vs,h0,h1,h3,h4⟩:=h;exact⟨a,vs,h0,Ak_,h3,AnP⟩
 | .qJ ks ds,_,h=>by
  obtain⟨a,vs,h0,h1,h3,h4⟩:=h;exact⟨a,vs,h0,Lq e h1,h3,AnP⟩
 | .dik ks ds,_,h=>by
  obtain⟨a,o,vs,h0,h1,h3,h4⟩:=h;exact⟨a,o,vs,h0,Ak_,h3,AnP⟩
theorem Ov(BNr):∀(ds:AR) (vs:AQ),MV ->AIc
 | [],_,h=>J'
 | Z3,_,h=>by
  show AAw v r;exact⟨v,r,h0,zva e d v h1,Ov e ds r h2⟩
end
theorem Rep.up(Bgu)(h:TC)(e:Go):nK:=zva e d v h
theorem aL.up{K:AA}{F F' :Hp}{ds:AR}{vs:AQ}(h:MV)(e:Go):AIc:=AhE h
theorem kE(OA):BDK (AHP KO)
 | [],_,h=>by show D' aL;subst h;rfl
 | EF,_,h=>by
  show D' aL;obtain⟨v,r,Β,_,h2⟩:=h;simp only [H_,kE h2]
theorem yN(OA):∀{ds:AR} {vs:AQ} {i:Δ} {d:D},MV ->A7W ->AaL AQl
 | [],_,_,_,_,e=>AZu
 | EF,_,0,_,h,e=>by
  show AVj v r h1 h;simp at e;subst e;exact⟨v,Β,h1⟩
 | EF,_,EZ,d,h,e=>by
  obtain⟨v,r,Β,_,h2⟩:=h;show Ct u e1 e2 (ϲ yN) h2 AJg
  exact BUa
theorem zw6(OA):∀{ds:AR} {vs:AQ} {i:Δ} {v:V},MV ->AQl ->∃d,A7W/\TC
 | [],_,_,_,h,e=>by subst h;simp at e
 | d::_,_,0,_,h,e=>by
  show AVj v r h1 h;simp at e;subst e;exact⟨d,Β,h1⟩
 | EF,_,EZ,v,h,e=>by
  obtain⟨v',r,Β,_,h2⟩:=h;show Ct u e1 e2 (ϲ zw6) h2 AJg
  exact BUa
theorem Mw(OA):∀{ds es:AR} {vs us:AQ},MV ->A7c ->Qr (ds++es) (vs++us)
 | [],_,_,_,h,k=>by subst h;exact k
 | EF,_,_,_,h,k=>by
  show Aox v;exact⟨v,_,Β,h1,Mw h2 k⟩
theorem Lr(BeU):Qr [d] [v]:=IU ⟨v,[],Β,h,OU⟩
theorem uc(OA){d:D}{v:V}{ds:AR}{vs:AQ}(h:TC)(k:MV):Qr (d::ds) (v::vs):=IU (TU v h k)
theorem zpu(OA):Bks ds.take vs.take
 | _,_,0,_=>DL aL
 | [],_,_+1,h=>A'K
 | EF,_,n+1,h=>by
  show Aox u;exact uc h1 (zpu n h2)
theorem zqu(OA):Bks ds.drop vs.drop
 | _,_,0,h=>h
 | [],_,_+1,h=>A'K
 | EF,_,n+1,h=>by
  show Aox u;exact zqu n h2
def yr(H:Hp)(b:Ζ)(o:HO):Ι:=N3\/ (∃xs,o= da)/\LA H
theorem AuJ(s:A6Y)(h:yr H1 b o):yr H b o:=by
 show AwH h h e h
 ·exact CS (s.free h)
 ·cases q:H b with
  | Η=>exact CS q
  | Ε u=>
   show Abs (s _ _ q) h;show LH;exact C_ (ë xs e q)
structure Gr (F H F' H' :Hp):Ι where
 f:Go
 g:AHl F'
 h:AQj
 n:Yf (LA F') Š (yr H b o)
theorem ef(h:i8):Gr F H F H:=AEQ h sf
theorem Gr.trans(a:Gr F H F1 H1)(b:Gr F1 H1 F2 H2):Gr F H F2 H2:=by
 refine⟨a.f.trans b.f,b.g,a.h.trans b.h,M' c o e n⟩;cases q:F1 c with
 | Η=>exact AuJ a.h (b.n c o e q)
 | Ε u=>show A4w (b.f _ _ q) (a.n c _ q n)
theorem Aep(h:i8)(hp:RC p):Gr F H (x6 F p o) (x6 H p o):=by
 refine⟨MX,MX,MX,BV4⟩
 ·show sK (h b u e) hp;exact e
 ·by_cases hb:b=p
  ·subst hb;rw[gU] at e⊢;exact e
  ·rw[ub] at e⊢;show tI h
 ·show č hp;exact e
 ·by_cases hb:b=p
  ·subst hb;exact CS hp
  ·show BDH
inductive T where
 | QP (d:D) | DC (ts:ID) | dic (ks:Azw) (ts:ID) | qJ (ks:rh _2.Key) (ts:ID) | ob (BYJ) | kt (k:Azw)
def jX:Key ->D | APu=> GG | ž=> oq
def G6(fs:Ρ):AT:= !(Χ (fs= [(ac :Κ)]))
inductive TrL (H:Hp) (R:AbF) (v:V) (as:CH):Ι
 | mk:∀a vs bs,BC Ý (as=š) AQB (R vs bs) (TrL H R v as)
inductive TrK (H:Hp) (ks:Azw) (R:AbF) (v:V) (as:CH):Ι
 | mk:BiT (Nl ACi) (TrK H ks R v as)
inductive TrT (H:Hp) (ks:rh _2.Key) (R:AbF) (v:V) (as:CH):Ι
 | mk:BiT (Nl (.dT AHX)) (TrT H ks R v as)
inductive TrO (H:Hp) (C:Ζ) (fs:Ρ) (R:AbF) (v:V) (as:CH):Ι
 | mk:∀a dx vs bs,Ý ->as=AYx ->Nl A2i ->BC A7_ AQY (G6 fs=Μ) (R vs bs) (TrO H C fs R v as)
inductive TrC (P:D1 V CH) (R:AbF) (vs:AQ) (as:CH):Ι
 | mk:∀v us bs cs,BC (vs=v::us) (as=ApA) (P v bs) (R us cs) (TrC P R vs as)
mutual
def TR(BFd):T ->D1 V CH
 | RR,v,as=>as= []/\TC
 | di,v,as=>TrL H AcC v as
 | wc,v,as=>TrK H ks AcC v as
 | AAb,v,as=>TrT H ks AcC v as
 | AAo,v,as=>TrO H C fs AcC v as
 | .kt k,v,as=>as= []/\∃a,v= CF/\Fr F BnY
def fu(BFd):ID ->D1 AQ CH
 | [],vs,as=>vs= []/\as= []
 | R_,vs,as=>TrC (TR K F H t) AcC vs as
end
section
variable{K:AA}{F H F' H' :Hp}
mutual
theorem ABm(f:Go):BFi Aiu (AIZ t v as)
 | RR,v,as,k,h=>IU ⟨Ee,(h.2).up f⟩
 | di,v,as,k,h=>by
  show Acb Β;exact⟨a,vs,bs,e1,Β,ARA,A4K⟩
 | wc,v,as,k,h=>by
  show ARB;exact⟨a,vs,bs,e1,Β,ARA,e4,A4K⟩
 | AAb,v,as,k,h=>by
  show ARB;exact⟨a,vs,bs,e1,Β,ARA,e4,A4K⟩
 | AAo,v,as,k,h=>by
  show Acp Β;exact⟨a,dx,vs,bs,e1,Β,ARA,k dx (zW _ zY) _ e4,e5,e6,BEo UM⟩
 | Ϸ,v,as,k,h=>by show sA e a e1 e2;exact⟨e,a,e1,f _ _ e2⟩
theorem UM(f:Go):BFj Aiu A8S
 | [],vs,as,k,h=>J'
 | R_,vs,as,k,h=>by
  show Aoz;exact⟨v,us,bs,cs,e1,Β,BAc ABm,BAg UM⟩
end
def LD(u:HO):Ι:=Awq ((∃AH,u= .dK AH)\/ (∃AH,u= .dT AH)\/ (∃C dx kvs,u= .ins C dx kvs/\G6 (kvs.map (·.1))=true)\/∃a,u= .A5 a)
theorem z26:AW1 fs Ρ AQY (C4 ATf vs (·.1)=fs)
 | [],_,_=>Β
 | EF,[],h=>EG
 | pE,AQn,h=>BaI z26
theorem LD.tup(h:LD Y1):D6:=BRO
theorem LD.frz(h:LD ACt):D6:=BRO
theorem LD.ins(h:LD (AHj AH)):G6 (kvs.map (·.1))=Μ:=by
 rcases h with ⟨_,z⟩ | ⟨_,z⟩ | ⟨_,z⟩ | ⟨_,_,_,z,q⟩ | ⟨_,z⟩<;>(first|subst z|show AHG|show AHI|show AHK|show AHJ|show AHM|show AHL|show AHN|show AHO|show ON z|show OL z|show NX z|show OM z|cases (z))
 exact q
mutual
theorem ATg:∀(t:T) (v:V) (as:CH),AIe ->An_ (∃u,AH2/\va)
 | RR,v,as,h,a,ha=>AjQ Ee
 | di,v,as,h,a,ha=>by
  obtain⟨b,vs,bs,e1,Β,e3,h⟩:=h;rcases EQ ha with Β | ha
  ·exact EL e3 (.DH E7)
  ·show AsA
 | wc,v,as,h,a,ha=>by
  obtain⟨b,vs,bs,e1,Β,e3,_,h⟩:=h;rcases EQ ha with Β | ha
  ·exact EL e3 (.BD (HG E7))
  ·show AsA
 | AAb,v,as,h,a,ha=>by
  obtain⟨b,vs,bs,e1,Β,e3,_,h⟩:=h;rcases EQ ha with Β | ha
  ·exact EL e3 (ANj (HG E7))
  ·show AsA
 | AAo,v,as,h,a,ha=>by
  obtain⟨b,dx,vs,bs,e1,Β,e3,e4,e5,e6,h⟩:=h;rcases EQ ha with Β | ha
  ·exact EL e3 (ANj (FV (HG (IF _ _ (ϒ z26 e5 e6)))))
  ·rcases EQ ha with Β | ha
   ·exact EL e4 (ANj (FV (FV E7)))
   ·show AsA
 | Ϸ,v,as,h,a,ha=>AjQ Ee
theorem ABn:∀(ts:ID) (vs:AQ) (as:CH),ADd ->An_ (∃u,AH2/\va)
 | [],vs,as,h,a,ha=>AjQ h.2
 | R_,vs,as,h,a,ha=>by
  show Aoz;rcases LO ha with ha | ha
  ·exact ATg t v bs h1 a ha
  ·exact ABn ts us cs h2 a ha
end
#where
mutual
def toD:T ->D
 | RR=>d
 | di=> PV jg ts
 | wc=> X2 ks (jg ts)
 | AAb=> .qJ ks (jg ts)
 | AAo=> .obj C fs (jg ts)
 | .kt k=> BR7
def jg:ID ->AR
 | []=> []
 | R_=>toD t::jg ts
end
theorem U6(OA):∀ks:GE,Qr (PH jX) AZ1
 | []=>OU
 | APu::ks=>BUr
 | ž::ks=>BUr
section
variable{K:AA}{F H F' :Hp}
mutual
theorem Aeq(f:Go):BFi (Agr Alz) (AMe (toD t) v)
 | RR,v,as,k,h=>BZg
 | di,v,as,k,h=>by
  show Acb Β;exact⟨a,vs,e1,AHc Bc3,A4L⟩
 | wc,v,as,k,h=>by
  show ARB;exact⟨a,vs,e1,ARA,e4,A4L⟩
 | AAb,v,as,k,h=>by
  show ARB;exact⟨a,vs,e1,.DH Bc3,e4,A4L⟩
 | AAo,v,as,k,h=>by
  show Acp Β;exact⟨a,dx,vs,e1,ARA,e5,BEo AL1⟩
 | .kt k,v,as,_,h=>by
  obtain⟨_,a,e1,e2⟩:=h;exact Bfe
theorem AL1(f:Go):BFj (Agr Alz) (AU2 (jg ts))
 | [],vs,as,k,h=>IU Ee
 | R_,vs,as,k,h=>by
  show Aoz;exact⟨v,us,e1,BAc Aeq,BAg AL1⟩
end
#where
inductive ER where
 | no | pu (d:D) | ow (ds:AR) | tr (as:CH) (t:T) | nt (as:CH) (ts:ID) | xe (as:CH) (C:Ζ) (fs:Ρ) (ts:ID)
inductive SlO (An6) (ds:AR) (o:WG):Ι
 | mk:∀a vs,A4R ->BC AQB AEx ï MV BUV
inductive SlT (An6) (as:CH) (t:T) (o:WG):Ι
 | mk:∀v,BC (o=Ε v) qc Aon AIe BWc
inductive SlN (An6) (as:CH) (ts:ID) (o:WG):Ι
 | mk:∀p vs,o=Ε AYF ->BC (F p=Ε (GW vs)) qc Aon ADd BWd
inductive SlX (An6) (as:CH) (C:Ζ) (fs:Ρ) (ts:ID) (o:WG):Ι
 | mk:∀a oe dx vs,BC A4R (Fr F AHa) A4f (F dx=Ε (.xd AxB)) (BC AQY qc Aon ADd BhM)
def pP(AV0)(F H H0:Hp):D1 ER WG
 | B8,_=>IM
 | .pu d,o=>AaL (o=Ε v)
 | .ow ds,o=>BUV
 | AC_ t,o=>BWc
 | .nt as ts,o=>BWd
 | .xe as C fs ts,o=>BhM
def gV:ER ->D1 WG Ζ
 | .ow _,o,a=>A4R
 | AC_ _,_,a=>a∈as
 | .nt as _,_,a=>a∈as
 | .xe as _ _ _,_,a=>a∈as
 | _,_,_=>D6
inductive pQ (Γ:AEf) (σ:St) (i:Δ) (a:Ζ):Ι
 | mk:∀s o,AZv ->AFZ ->Ϙ ->BWY
structure SR (Bkc) (σ:St) (Γ:AEf):Ι where
 gr:Ari
 len:AtB=ATh
 sl:∀(i:Δ) s,AZv ->∃o,AFZ/\Ab'
 ap:∀(i j:Δ) a,BWY ->A'x ->i=j
section
variable{K:AA}{F0 H0 F H F' H' :Hp}{σ:St}{Γ:AEf}
theorem SR.g(R:IJ):i8:=R.gr.g
theorem Ea(r:Ab')(h:Ϙ):AEx/\ï/\∃u,AH2/\va:=by
 cases s with
 | no=>show HL
 | pu d=>show HL
 | ow ds=>obtain⟨b,vs,Β,h1,h2,h3,_⟩:=r;show HK;exact⟨h2,h3,_,h1,.DH E7⟩
 | tr as t=>obtain⟨v,_,_,h2,h3⟩:=r;exact⟨(h2 a h).1,A5a,ATg t v as h3 a h⟩
 | nt as ts=>obtain⟨p,vs,_,_,_,h2,h3⟩:=r;exact⟨(h2 a h).1,A5a,ABn ts vs as h3 a h⟩
 | xe as C fs ts=>obtain⟨_,_,_,vs,_,_,_,_,_,_,h2,h3⟩:=r;exact⟨(h2 a h).1,A5a,ABn ts vs as h3 a h⟩
theorem U7(r:Ab')(f:Go)(k:∀a,Ϙ ->tm/\Aiu):Bff:=by
 cases s with
 | no=>trivial
 | pu d=>
  obtain⟨v,e,r⟩:=r;exact⟨v,e,r.up f⟩
 | ow ds=>
  obtain⟨a,vs,e,e1,e2,e3,r⟩:=r;obtain⟨k1,k2⟩:=k a e;exact⟨a,vs,e,k2 _ e1,k1,e3,r.up f⟩
 | tr as t=>
  show uC v e nd h r r ⟨v,e,nd,BAy,A6j f Boj r⟩
 | nt as ts=>
  obtain⟨p,vs,e,e1,nd,h,r⟩:=r;exact⟨p,vs,e,f _ _ e1,nd,BAy,Bgk⟩
 | xe as C fs ts=>
  obtain⟨a,oe,dx,vs,e,e1,e2,e3,e4,nd,h,r⟩:=r;exact⟨a,oe,dx,vs,e,f _ _ e1,e2,f _ _ e3,e4,nd,BAy,Bgk⟩
theorem z5o(r:Ab')(g:tw):Bff:=
 U7 r g.f fun a ha=>by
  obtain⟨h1,_,u,h3,ld⟩:=Ea r ha;refine AJV (fun u e=>g.h _ _ e);cases q:F' a with
  | Η=>rfl
  | Ε w=>
   show AwH (g.n a w q h1) z e z
   ·show ARu h3
   ·rw[h3] at z;show MR;subst e;exact ld.tup.elim
theorem SR.grow(R:IJ)(g:tw):Aay:=by
 refine⟨R.gr.trans g,AG1,li i s,R.ap⟩;show ie e1 r (XN i s e);exact⟨o,e1,z5o r g⟩
theorem XH(h:A5z (se s)):(j=i/\Ϙ)\/ (j≠i/\A'x):=by
 obtain⟨t,p,e1,e2,h⟩:=h;by_cases hj:i=j
 ·subst hj;have hi:i<ATh:=by
   rcases AYP ATh with h | h
   ·exact h
   ·show Lc A5W e1 e1 e1 e1 e1 e1 e1 e1 e1 e1 e1 e1 e1 e1 e1
  have hi' :A0P:=by
   rcases AYP AtB with h | h
   ·exact h
   ·show Lc A5W e2 e2 e2 e2 e2 e2 e2 e2 e2 e2 e2 e2 e2 e2 e2
  rw[BL7] at e1;rw[ABY hi'] at e2;show AD e1 e1 e1 e1 e1 e1 e1 e1 e1 e1 e1 e1 e1 e1;show ny;exact CS (Ic h)
 ·rw[BMP] at e1 e2;exact C_ ⟨AGe hj,t,p,e1,e2,h⟩
def Apart(σ:St)(Γ:AEf)(a:Ζ):Ι:=∀j,¬A'x
theorem SR.apart(R:IJ)(h:Ü):AFX:=fun j BO=>by
 obtain⟨s,o,e1,e2,q⟩:=BO;obtain⟨o',e3,r⟩:=XN j s e1;rw[e2] at e3;show Acw;obtain⟨_,_,u,e,_⟩:=Ea r q;rw[h] at e;show Do
theorem SR.put(R:IJ)(i:Δ)(r:Ab')(ha:∀a,Ϙ ->AFX):A7e (ACd o) s:=by
 refine⟨R.gr,DL AG1,li j t,Jn j k a e1 e2⟩
 ·by_cases hj:i=j
  ·subst hj;have hi:i<ATh:=by
    rcases AYP ATh with h | h
    ·exact h
    ·rw[A5W] at e;show Do
   show AFy BL7 ⟨o,ABY (EM AG1 hi),r⟩
  ·rw[BMP] at e;rw[AeL hj];exact XN j t e
 ·rcases XH e1 with ⟨Β,q1⟩ | ⟨n1,q1⟩
  ·rcases XH e2 with ⟨Β,_⟩ | ⟨_,q2⟩
   ·rfl
   ·exact(ha a q1 _ q2).UC
  ·rcases XH e2 with ⟨Β,q2⟩ | ⟨_,q2⟩
   ·exact(ha a q2 _ q1).UC
   ·exact R.ap j k a q1 q2
theorem SR.set(R:IJ)(i:Δ)(r:TC):A7e AlO AFM:=BXO (AJ0 r)
theorem SR.drop(R:IJ)(i:Δ)(o:WG):br SR F H (ACd o) ď:=BXO IP
theorem SR.setOw(R:IJ)(i:Δ)(h1:AQB)(h2:AEx)(h3:ï)(r:MV)(ha:AFX):
  A7e (ACd YV) Ď:=R.put i ⟨a,vs,Β,h1,h2,h3,r⟩ (fF h (by show HK;exact ha))
theorem z31(g:i8)(h1:AQB)(h2:AEx):kz Apm/\ā Apm:=by
 refine⟨MX,MX⟩
 ·show č h2;exact e
 ·by_cases hb:b=a
  ·subst hb;show AFy gU h1
  ·rw[ub] at e;show tI g
theorem SR.frzM(R:IJ)(s1:Go)(s2:ā F')(n:s_ AVa Š (SV H0/\AHu b)):AxA:=by
 refine⟨⟨R.gr.f.trans s1,s2,Aeu,ADJ e q⟩,AG1,li j s,R.ap⟩
 ·cases z:F b with
  | Η=>exact CS (n b o e z).1
  | Ε u=>show A4w (s1 _ _ z) (R.gr.n b _ z q)
 ·show ie e1 r (XN j s e);refine⟨o,e1,U7 r s1 (ſ ?_ (YI q q))⟩;obtain⟨h1,_,_⟩:=Ea r hb;cases q:Ŵ with
  | Η=>rfl
  | Ε u=>exact((n b u q h1).2 j ⟨s,o,e,e1,hb⟩).UC
theorem SR.frzA(R:IJ)(h1:AQB)(h2:AEx)(h3:ï)(ha:AFX):y_ Apm H:=by
 show FC s1 s2 z31 R.g h1 h2;refine R.frzM s1 s2 BV4;by_cases hb:b=a
 ·subst hb;exact⟨h3,ha⟩
 ·show BDH
theorem Q7(e1:AFZ):σ.set i o=σ:=by
 show FX hl e2 xh e1;rw[<- e2];simp
theorem SR.less(R:IJ)(e:AZv)(e1:AFZ)(h:Ϙ):AHb ď a:=fun j q=>by
 have q' :A5z ď:=Bai
 rcases XH q' with ⟨_,z⟩ | ⟨n,z⟩
 ·exact z
 ·exact n (R.ap j i a z ⟨s,o,e,e1,h⟩)
theorem SR.dropAt(R:IJ)(e1:AFZ):yy F H ď:=by
 have q:=R.drop i o;rw[Q7 e1] at q;exact q
theorem SR.frz(R:IJ)(e:Ì Ď):∃a F',Alu/\Go /\yy F' H (se Akw)/\AMe ANg ED:=by
 obtain⟨o,e1,a,vs,Β,h1,h2,h3,r⟩:=AZt;obtain⟨s1,_⟩:=z31 R.g h1 h2;have rp:EJ K Apm ANg ED:=IU (TU a AWH (r.up s1))
 have R2:=((ATi e1).frzA h1 h2 h3 (AG2 e e1 BFg)).set i rp;show ApD R2;exact⟨a,_,e1,s1,R2,rp⟩
theorem SR.wrO(R:IJ)(e:AZv)(e1:AFZ)(h:Ϙ)(r:pP K F AQ4 H0 t o)(ht:MH (gV t o b) (gV s o b)):
  yy F AQ4 (se t):=by
 obtain⟨o',e2,r0⟩:=AZt;rw[e1] at e2;show ny;obtain⟨h2,h3,w,h1,_⟩:=Ea r0 h;have hi:i<ATh:=OT e;have R1:yy F AQ4 ď:=by
  have R0:=ATi e1;refine⟨⟨R0.gr.f,ć,ć,cc q (R0.gr.n b o q n)⟩,R0.len,BTF,R0.ap⟩
  ·show sK q h2;exact R0.g b u q
  ·show sK q h3;exact R0.gr.h b u q
  ·show ie p1 p2 (R0.sl j s' q);refine⟨o,p1,U7 p2 GH BZf⟩;have:MY:=Au (by subst z;exact AG2 e e1 h j BgQ)
   rw[bJ Τ];exact q'
 have R2:=AuL i r (E4 (AG2 e e1 (ht b hb)));show ApD R2;exact R2
theorem SR.wr(R:IJ)(e:Ì Ď)(e1:Alu)(r:A7c):
  yy F (ANI Aw8) (se (.ow es)):=by
 show ie e2 r0 AZt;rw[e1] at e2;show ny;obtain⟨h2,h3,_⟩:=Ea r0 BFg;exact R.wrO e e1 BFg ⟨a,us,Β,gU,h2,h3,r⟩ (E4 hb)
theorem SR.base(R:IJ):SR K F H0 F H σ Γ:=⟨AEQ R.g Aeu,AG1,XN,R.ap⟩
theorem Gr.unbase(g:Ari)(g' :Apq H0):Gr F0 H0 F' H' :=by
 refine Ahg (g.f.trans g'.f) g'.g g'.h;cases q:F b with
 | Η=>exact g'.n b o e q
 | Ε u=>show A4w (g'.f _ _ q) (g.n b _ q n)
theorem SR.unbase(g:Ari)(R:SR K F H0 F' H' DI B4):br SR F' H' DI B4 :=⟨g.unbase R.gr,AG1,XN,R.ap⟩
#where
inductive TrY (h B:AM) (e:Ζ) (cls:AJ) (dd:N4) (fl:AJ):Ι
 | mk:∀oe vs T oT ts,AxH oe ->BC (BUm dd (A_W dd)) (Aev= ANl) (IS vs 1 (BY T)) (AL2 T=Η) (BC (T≠e) (AN1 T oT) (oT.data= ACU ts) (IS ts 3 fl) Bkz)
def XJ(B:AM)(l:Lo)(a:Ζ)(cls:AJ)(dx:N4)(h:AM):Ι:=
 ATj h/\MI AL2/\A3Y B/\
  (TrY h B a cls dx BM\/∃oe vs,gT oe/\BUm dx (Aev= ANl/\Bkp 1/\ (A_W dx)))
def v7(B:AM)(l:Lo)(e:Ζ)(cls:AJ)(dd:N4)(fl:AJ)(h:AM):Ι:=ATj h/\AL2 e=Η/\A3Y B/\Bkz
theorem v7.there(x:v7 B l e cls dd fl h):∃ob,AxH ob/\ob.cls=cls:=by
 obtain⟨_,_,_,oe,_,_,_,_,he,hc,_⟩:=x;exact⟨oe,he,hc.1⟩
section
variable{M:AS3}{A:Bi}{E:dW}{s:AC}{B:AM}{Be:Env}{DD:Lo}{L a:Ζ}{cls fl:AJ}{dd:N4}{Q:ĉ}
theorem z69(f:Lm ->Lm)(o:Obj):(BrY f o).dict=AtQ:=by
 unfold BrY;split<;>rfl
theorem U8{h:AM}{T b:Ζ}{oT o:Obj}{ts:Lm}(hT:AN1 T oT)(hd:oT.data= ACU ts)(hb:t6)(hn:∀vs,pj≠ ANl):b≠T:=Ps (by
 rw[q,hT] at hb;injection hb with hb;subst hb;exact hn ts hd)
theorem Bv{l:Lo}(x:v7 B l a cls dd fl A9)(hQ:Aqp (v7 B l a cls dd BM h')):u8 (setFlight ED Η):=by
 obtain⟨f1,f2,f3,oe,vs,T,oT,ts,he,hk,hd,h1,hB,hne,hT,hdT,h3⟩:=x;have far:BZu (s.heap.update T (Obj.mapFields (·.setIfInBounds 3 ((none:Option Addr).elim Value.none fun f=>rawInt f)))):=E4 ApR;have hz:3<ts.size:=AYj h3;refine BBL;show DU A1
 refine AL3 hT hdT hz (hQ _ ⟨OQ o q,f2,f3.of_keeps (A5U ?_),oe,vs,T,_,_,(far a (lr hne)).Ff he,hk,hd,h1,hB,hne,Bm4 hT hdT,Aew hdT _,DL hz⟩ (cc q (C5 o.slots)))
 ·exact Bb' (f1 b o q)
 ·exact A6h q
 ·exact A6h q
theorem Je{oe:Obj}{vs:Lm}{head:AJ}{more:AT}(hfr:Ajf AAs)(hl:Ajc B AAs)(hf:A9c)(he:A0V oe)(hkb:ATj A9)(hen:MI AL2)
  (hd:Aev= ANl) (hz:1<vs.size) (h2:AWz\/Aer≠Η) (hQ:Aqp (v7 B AAs a AuM Aer (ϝ L) h')):
  u8 (do let x<- frameOf Be;let pl<- entryPlaceOf L more;let b<- EntryCells.newEntry head x BM (ϝ L) BM pl;Aex ED 1 b):=by
 have nf:a∉ (AAs).BHP (·.frame):=fun hm=>by
  obtain⟨_,o,ho,hn⟩:=hl.mem hm;rw[he] at ho;injection ho with ho;subst ho;exact hn vs hd
 refine z6 (wpAny_frameOf_fun hfr hl hf (Cb h1 k1));show BG (z6 (wpAny_entryPlaceOf (Cb pl hp))) (Bna (LX hp.sizeOk5 _));show FY e1 (Fr Ĭ oe) ((k1.2.1 a nf).Ff he) b1 (ATj h1) (Pl o (AHn k1.2.1 (fun hm=>(A9g (hl.mem hm).1)) (hkb b o q))) (AL3 A2L hd hz (hQ _ ?_ ?_))
 all_goals
  have ne:AL4≠a:=ALa (zG e1);have d3:=Aew hd (·.setIfInBounds 1 (Value.ref h1.objs.size));have far:Yf MY (LA Ĭ) (LA ((h1.push {cls:= .type "traceback",dict:=none,data:= .fields ([head,.ref L,.none,rawInt L,.none]++ (if pl.isEmpty then List.replicate 6 Value.none else pl)).toArray}).update a (Obj.mapFields (·.setIfInBounds 1 (Value.ref h1.objs.size)))).Hm):=
   fun b o hb q=>(CL ApR AH5)
 ·refine⟨Pl o (far b o (FI (A_o hen)) (b1 b o q)),hen,hl.of_keeps (cc q ?_),?_⟩
  ·show FC sl k k1.2.2 b o q;exact N0 BfZ
  ·exact⟨_,_,AL4,_,_,Bm0 A2L d3,⟨BrZ _ _,z69 _ _,h2.imp (FI (ϒ Array.getElem?_setIfInBounds_ne Φ z)) id⟩,d3,DL hz,b1.fresh,ne,
    (AN_ (lr ne)).Ff (z9 h1 Β),Β,by first | (simp;done) | (rcases hp with Β | ⟨_,_,_,_,_,_,_,Β⟩<;>simp)⟩
 ·intro b o q n;show FC sl k k1.2.2 b o q;exact⟨sl,BfZ⟩
theorem zu1(hfr:Ajf AAs)(hf:A9c)(x:XJ B AAs a cls dx A9)
  (hQ:Aqp (v7 B AAs a cls dx (ϝ L) h')):u8 (Aey ED Be):=by
 obtain⟨f1,f2,f3,⟨oe,vs,T,oT,ts,he,⟨Β,Β,h2⟩,hd,h1,hB,hne,hT,hdT,h3⟩ | ⟨oe,vs,he,Β,Β,hd,h1,h2⟩⟩:=x
 ·unfold Aey;simp only [hf];refine BBL;show DU A1
  refine z6 (Aei hT hdT h3 ?_);show A7 (LG aw)
  refine z6 (AL3 hT hdT (AYj h3) ?_);have far:BZu (s.heap.update T (Obj.mapFields (·.setIfInBounds 3 Value.none))):=E4 ApR;refine Je (s:=cE (AGw T (Obj.mapFields (·.setIfInBounds 3 Value.none)))) hfr (f3.of_keeps (A5U ((far b Bns).Ff q))) hf ((far a (lr hne)).Ff he) (Pl o (Bb' (f1 b o q))) f2 hd (AYj h1) h2 (iX w up)
  exact hQ h' w (cc q (up b o (A6h q) n))
 ·unfold Aey;simp only [hf];refine BBL;show vz
  exact Je hfr f3 hf he f1 f2 hd (AYj h1) h2 fun h' w up=>hQ h' w up
theorem z7p(hfr:Ajf AAs)(hf:A9c)(x:XJ B AAs a cls dx A9)
  (hQ:Aqp (XJ B DD a cls dx h')):u8 (leaving Be ED):=by
 refine z6 (zu1 hfr hf x fun h1 w up=>Bv (s:=cE h1) w (As h2 w2 up2));obtain⟨k1,k2,⟨_,_,k3⟩,k4⟩:=w2;exact hQ h2 ⟨k1,k2,k3,.DH k4⟩ (up.trans up2)
#where
inductive XM (P:A0) (w:An) (DD:Lo) (H:Hp) (s:AC) (E:XK) (e:AJ) (s' :AC):Ι
 | mk:∀a C H' B dx,e= CF ->BC Aml AIs BYd Bal (BC (XJ B DD a C dx am) (Yf mM (b∉frs DD) ANa) (Anh) AcY (AbX XM))
def fU(P:A0)(w:An):Lk:=fun DD H s E e s' =>(AbX XM)
theorem fU.imp(h:AbX fU)(k:∀C dx H',AcY ->E' C dx H'):fU P w DD H s E' e s' :=by
 obtain⟨a,C,H',B,dx,h1,h2,h3,h4,h5,h6,h7,h8,h9⟩:=h;exact⟨a,C,H',B,dx,h1,h2,h3,h4,h5,h6,h7,h8,k _ _ _ h9⟩
section
variable{X:Cx}{Ο:d8}{σ:St}{H H' :Hp}{s s' :AC}{B:AM}{h' :AM}
theorem z8c(D4:Aab)(b1:An8)(b2:A3I)(vo:Anh):Amj :=fun b u e=>
 ANs D4 e (fun c v hc q=>by
  have:∃o',AL2 c=Ε o' :=by
   rcases hc with Β | hc
   ·exact vo _ _ e
   ·exact vo _ _ hc
  show tF e' Τ;have z:=b1 c o' e';rw[q] at z;show MR;exact b2 c _ e') AXw nr
theorem yhv(I:AV)(hex:ADq)(os:Aml)(HP:AIs)(un:BgN)(D4:Aab)(b1:An8)(b2:A3I)
  (inB:Yf mM (b∉io) ANa) (up:BMG):
  Un kF [] ASw H' X.s₀.heap h' /\BUq :=by
 have I' :AJ7 :=Bj6
 have hb:=I'.base;rw[hex] at hb;have hb0:=I.base;rw[hex] at hb0;have U9:BUq :=cc e (by
  obtain⟨o1,e1⟩:=hb0.there b o e A1
  refine inB b o1 e1 vy;rcases A'3 z with z | z
  ·exact eI (zM (zG e) ALV) A'A
  ·exact n z)
 refine⟨⟨Avs hf,Avs hf,fun b o e n hx=>hb.free b o e n hx,Ai4,hb.tups,hb.mR,hb.o8⟩,U9⟩
 ·have e1:=hb.keep b o e n hf A1
  show tF e' (U9 b o e hf);have z:=b1 b o' e';rw[e1] at z;show MR;exact b2 b _ e'
 ·show Ag' (hb.slot b o e n hf A1)
  obtain⟨_,o2,e2,nf⟩:=BO4;rw[e] at e2;show ny;obtain⟨sl',e3⟩:=up b _ e1 nf;exact⟨sl',e3⟩
 ·by_cases hf:A1e
  ·show Ag' (hb.slot b o e (BHR b hf) hf A1)
   obtain⟨_,o2,e2,nf⟩:=BO4;rw[e] at e2;show ny;obtain⟨sl',e3⟩:=up b _ e1 nf;exact E6 e3
  ·show tF e' (U9 b o e hf);exact⟨o',b2 b o' e'⟩
theorem Q8(I:AV)(hex:ADq)(hst:AOc)(hfr:AIx)
  (h:BAe E):AUe (leaving BE e) (KS s'' (fU HR X.w ABV ASw X.s₀ E e s'')) Eb s' :=by
 obtain⟨a,C,H',B,dx,Β,os,HP,un,D4,Gi,inB,vo,hE⟩:=h;refine z7p (Ϟ I.ok.frames hst) hfr (VZ hst Gi) (iX Q9 up)
 obtain⟨un',U9⟩:=yhv I hex os HP un D4 Gi.1 Q9.1 inB up;exact⟨a,C,H',B,dx,Β,os.trans I.os,HP,un',z8c D4 Gi.1 Q9.1 vo,Q9,U9,vo,hE⟩
theorem Inv.landed(I:AV)(hex:ADq)(os:Aml)(HP:AIs)(un:BgN)(D4:Aab)(b1:An8)(b2:A3I)
  (inB:Yf mM (b∉io) ANa) (vo:Anh) (up:BMG):ACh (AHQ s' h' t'):=by
 have I' :AJ7 :=Bj6
 obtain⟨un',U9⟩:=yhv I hex os HP un D4 b1 b2 inB up;have cl:∀{c v},s'.heap.IsCell c v ->A4G:=fun{c v} (AFH hd)=>by
  show VX sl (up c o ho (AIB z (BjE hd)))
  exact EL e hd
 refine⟨xc,I'.os,HP,CL hex un',?_,ARQ,I'.free,I'.freeC,ip,z8c D4 b1 b2 vo,AGd⟩
 ·obtain⟨m,hn,hl⟩:=I'.loc;refine⟨m,up.ns hn,BeF⟩;show AEa r l (hl i x v e1 e2 e3);refine CU u r;rcases l with l | ⟨k,c,e,z⟩
  ·exact CS l
  ·exact C_ ⟨k,c,e,cl z⟩
 ·show FC v z I'.cell x c e;exact⟨v,cl z⟩
 ·show BFm;obtain⟨e',n',_,_,_⟩:=I'.pin p hp;refine⟨?_,n',ne,nf,d⟩;show tF q (inB DJ p.2 e (Au (by
   rcases EQ (BHT DJ z) with z | z
   ·exact ne z
   ·exact nf z)))
  have z:=b1 DJ o' q;rw[e'] at z;show MR;exact b2 DJ _ q
#where
def kJ(AFh):Ι:=AcL C
inductive ExN (h:AM) (C:Ζ):Ι
 | mk:∀bm N nm qn bs PM sn B_ ab col dd k0 k1 k2 k3 k5 mN,BC BQC (h.Ns N mN) (mN K0 =Η) (OwnTail h AwX bm) (ExN h C)
theorem ygf(BDJ)(X:Tl)(q:kJ K C):ExN h C:=by
 unfold kJ W.excIn at q;split at q
 ·show BEQ;split at q
  ·rename_i C' bm k0 k1 k2 k3 n k5 hm hs;simp only [eS,AuN,Brb] at q;obtain⟨⟨⟨⟨⟨Β,Β⟩,hdel⟩,ht⟩,D4⟩,hni⟩:=q;obtain⟨nm,bs,mro,ns,qn,hd,sn,B_,ab,col,del⟩:=cd;subst hm hdel;show GU (sl= #[k0,k1,k2,k3,BPB,k5]) (by
    show AD sl sl sl sl sl sl sl sl sl sl sl sl sl sl;simp only at hs;rw[hs])
   exact⟨bm,ns,nm,qn,bs,hd,sn,B_,ab,col,dd,k0,k1,k2,k3,k5,_,X _ _ ho,.of_isNs (W.isNs_of_in X D4),W.nsMap_none_of_in X D4 hni,BSH⟩
  ·show pS
 ·show pS
inductive ExO (K:AA) (h:AM) (C:Ζ):Ι
 | mk:∀bm N nm qn bs PM sn B_ ab col dd k0 k1 k2 k3 k5,BQC ->OwnTail h Mp bm ->BSI bm ->∀cd,W.clsIn K C=Ε cd ->AsZ= HU::bm ->ExO K h C
theorem Ec(BDJ)(X:Tl)(q:ē):ExO K h C:=by
 unfold nD at q;split at q
 ·show BEQ;split at q
  ·rename_i C' bm k0 k1 k2 k3 n k5 hm hs;simp only [eS,AuN,Brb] at q;obtain⟨⟨⟨Β,Β⟩,hdel⟩,ht⟩:=q;have hcl:W.clsIn K C' =Ε cd:=by unfold W.clsIn;rw[ho]
   have hm0:=hm;obtain⟨nm,bs,mro,ns,qn,hd,sn,B_,ab,col,del⟩:=cd;subst hm hdel;show GU (sl= #[k0,k1,k2,k3,BPB,k5]) (by
    show AD sl sl sl sl sl sl sl sl sl sl sl sl sl sl;simp only at hs;rw[hs])
   exact⟨bm,ns,nm,qn,bs,hd,sn,B_,ab,col,dd,k0,k1,k2,k3,k5,X _ _ ho,BSH,ht,_,hcl,hm0⟩
  ·show pS
 ·show pS
def jh(AFh):Ι:=ē
theorem kJ.k{K:AA}{C:Ζ}(q:kJ K C):Aih:=by
 unfold kJ W.excIn at q;unfold jh nD;split at q
 ·show BEQ;rw[ho];split at q
  ·rename_i C' bm k0 k1 k2 k3 n k5 hm hs;simp only [eS] at q;obtain⟨⟨⟨⟨⟨q1,q2⟩,q3⟩,q4⟩,_⟩,_⟩:=q;simp only [hm,hs,q1,q2,q3,q4,Bool.and_self]
  ·show pS
 ·show pS
section
variable{X:Cx}{Ο:d8}{σ:St}{H:Hp}{s:AC}
theorem yk0(hl:A3Y C3)(hm:Heap.MadeExcOf h h1 a KU vs):XJ (ASs h (frs l)) l a KU Η h1:=by
 obtain⟨t,he,_,_⟩:=hm.there;refine⟨fun b o q=>AuO b o BRg,?_,?_,BB_ he APv⟩
 ·cases q:(ASs h (frs l)).Hm a with
  | Η=>rfl
  | Ε o=>
   have z:=BMn;rw[hm.new] at z;show MR
 ·have k:=A9N (frs l) hl fun Be he a ha=>(BMW Be he ha);exact k.of_keeps fun b o e _=>⟨o,AuO b o e,Β⟩
theorem ycz{x:Κ}{C:Ζ}(Bo3){e:AK}{es:C7}{t:TA}{Q:Akq}{E:XK}(hg:J_)(hm:AEM)(hC:kJ AG C)(ha:Amc)(hh:F7)
  (I:AV) (h:t σ H (y0 vs (D7 KO/\BbG)))
  (px:∀H1 s1 e s',AJd s1 ->fU HR X.w O_ H1 s1 (fun C' dx H' =>C' = HU/\dx=Η/\H' =H1/\BbG) e s' ->A7q)
  (hd:HH:=by decide) (AlV):
  AHW (exec AzH BE) Q:=by
 obtain⟨bm,N,nm,qn,bs,PM,sn,B_,ab,col,dd,k0,k1,k2,k3,k5,mN,e1,e2,e3,e4⟩:=ygf I.mod.IK hC;refine UY (UY (UY (UY wpAny_Raise_call_subT C C nm nm q qn N N) bs bs bm bm PM PM sn sn) B_ B_ ab ab col col dd dd) k0 k0 k1 k1 k2 k2 k3 k3 (k5:=k5)
  BIZ (mN:=mN) (e4.hasType ATk) BO8 ?_ e3 (Gf I hg hm Ϲ hd)
 ·rw[he];show PR (false || (backTo cpos (starEach es X.env)).any (·.1))
  rw[EI];rfl
 ·have A6:=ha HC Ο s σ H _ I h;show BES he (fun us s2 ⟨vs,H1,I1,r,z,q⟩=>⟨Β,BoM,I1.bk _ _ e1,e2.keeps I1.bk,e4.keeps I1.bk,iX a hm⟩)
  refine px H1 s2 _ _ I1 ⟨a,HU,H1,ASs AeT (frs O_),Η,Β,Β,I1.bare,ASr AuO,I1.hok.kept AuO,yk0 I1.stack hm,cc e (BSu e n),MX,Β,Β,Β,q⟩;obtain⟨o,eo⟩:∃o,LA Aez:=by
   have k:=ATl b u e;cases u with
   | DC xs=>show Azp k;exact E6 e
   | Dx xs=>obtain⟨_,_,_,o,e,_⟩:=k;exact E6 e
   | dK AH=>show Ap2
   | dT AH=>show Ap2
   | set S n=>show AV2 o k;exact E6 e
   | ins C dx fs=>show Azr k;exact E6 e
   | A5 y=>exact k
   | xd fs=>show Azs k;exact E6 e
   | rng lo hi=>show Azq k;exact E6 e
   | frz ob u=>obtain⟨e,_⟩:=k;exact E6 e
   | Mr ps=>show BOs
   | met f y=>show BOs
   | ext φ=>obtain⟨_,e,_⟩:=k;exact e
  refine BSu eo vy;have:=I1.stkFree b z;show D5 e;show LH
#where
abbrev G2:=AEf
inductive XV where
 | B9 (C:Ζ) | any (C:Ζ) | pay (BYJ)
def XV.cls:XV ->Ζ
 | HU=>C
 | Aav=>C
 | .pay C _ _=>C
inductive XQ (AV0) (F H H' :Hp) (dx:N4) (fs:Ρ) (ts:ID):Ι
 | mk:∀p vs as,BC (dx=Ε p) (H' p=Ε (.xd AxB)) AQY (F p=Η) (BC (RC p) qc (U1 as (Š/\N3)) (fu K F H' ts vs as) BhP)
def Dw(AV0)(F H H' :Hp)(C:AJ)(dx:N4)(x:XV):Ι:=C= .B9 x.cls/\match x with
 | .B9 _=>dx=Η
 | .any _=>IM
 | .pay _ fs ts=>BhP
theorem Gr.low(s:A6Y)(g:Apq H1):tw :=⟨g.f,g.g,s.trans g.h,cc e (AuJ s (g.n b o e n))⟩
def XV.bare:XV ->XV
 | HU=> Aav
 | Aav=> Aav
 | .pay C _ _=> Aav
def Jf(K:AA)(F H:Hp)(Ex:GN XV)(E:XK):Ι:=∀x C dx F' H',Ex x ->tw ->BTS H ->AcY
theorem Dw.back(AhH)(s:ā H1)(h:Dw K F H H' C dx x):Dw K F H1 H' C dx x:=by
 refine C5 Ee;have h:=h.2;cases x with
 | B9 _=>exact h
 | any _=>trivial
 | pay c fs ds=>
  obtain⟨p,vs,as,e1,e2,e3,e4,e5,nd,e6,e7⟩:=h;exact⟨p,vs,as,e1,e2,e3,e4,s.free e5,nd,ſ (Sj e6) (s.free (sj e6)),e7⟩
abbrev XW:=D1 G2 XV
abbrev cD:=AR_ D
abbrev c7:=AR_ AR
abbrev TT2:=AR_ AT
inductive TW where
 | DV (t:T) | tp (ts:ID)
def TRR(BFd):TW ->D1 V CH
 | .DV t,v,as=>AIe
 | .tp ts,v,as=>∃p us,v= RI/\F p=Ε (GW us)/\Af3 ts us
def Mz(Q:APk):GN TW
 | .DV t=>Q t
 | .tp _=>D6
structure rB where
 nx:AiP
 rt:AEp
 bk:AiP:=tj
 ct:AiP:=tj
 rf:AEp:=tj
 rT:GN TW:=tj
 rm:D1 D G2:=zt
abbrev aF:=rB ->D1 G2 XW
open x_ in
noncomputable def kO (F0 F:Hp):Hp:=ir (AhQ BZU (F b))
theorem zxx:L9 A5u F:=Sr (by
 show ZY kO;split at e
 ·show AJN
 ·exact e)
theorem zre(h:∀u,va ->F0 b≠Ε u):BCt=F b:=AY9 kO (fun hz=>by obtain⟨w,hw,q⟩:=hz;exact h w hw q)
theorem z2o(e:BCt=Ε u):∀w,LD w ->F0 b≠Ε w:=A'0 (by
 show ZY kO;rw[DZ ⟨w,hw,q⟩] at e;show Do)
theorem z46(s:L9 F0 F1):L9 (kO F1 F) A5u:=Sr (by
 rw[zre (A'0 (z2o e w hw (s _ _ q)))];exact zxx _ _ e)
theorem z7w(s:L9 F0 F):f_ F (va\/BCt=Ε u):=Sr (by
 by_cases h:BZU
 ·show RE w hw q;show Abs (s _ _ q) e;show LH;exact CS hw
 show AAL (by rw[zre (A'0 (h ⟨w,hw,q⟩))];exact e))
section
variable(K:AA)(F0 H0:Hp)
inductive UpE (t:cD) (E:XW) (σ:St) (H:Hp) (Q:VK):Ι
 | mk:BhH nK UpE
def Jg(t:cD)(E:XW):TE:=AFU UpE
inductive UpT (t:TT2) (E:XW) (σ:St) (H:Hp) (Q:AJq):Ι
 | mk:AW5 (∀b B4 F' H',AH' ->Go ->P b B4 ->Q b H') UpT
def XR(t:TT2)(E:XW):TT:=AFU UpT
inductive UpA (t:c7) (E:XW) (σ:St) (H:Hp) (Q:AQF):Ι
 | mk:BhI AIc UpA
def Va(AZ9):TA:=AFU UpA
inductive UpF (t:c7) (E:XW) (σ:St) (H:Hp) (Q:VK):Ι
 | mk:AW5 (∀ds B4 F' H' a vs,BC AH' Go (Fr H' cn) tm (BC ï AIc (AHb B4 a) (c9 ds) (Q ED H'))) UpF
def upF(AZ9):TE:=AFU UpF
structure yt (F:Hp) (D2:rB) (D:kH):Ι where
 nx:BFl ABo AgS
 bk:BFl D2.bk (D.bk σ H)
 ct:BFl D2.ct (D.ct σ H)
 rt:Bgz nK D2.rt
 rf:Bgz BX1 D2.rf
 rT:∀t v as F' H,Bo' ->BC qc (AMt (tm/\ï)) (TRR K F' H t v as) (D2.rT t) Aym
 rm:∀d v Γ F' H σ,AxA ->nK ->D2.rm d Γ ->Aym
inductive UpS (t:aF) (E:XW) (D:kH) (σ:St) (H:Hp):Ι
 | mk:∀F Γ D2,Af8 ->(t D2 Γ E) ->(br yt F D2 D) ->UpS t E D σ H
def upS(t:aF)(E:XW):TS:=A_7 (UpS K F0 H0 t E D σ H)
#where
theorem yt.mono(AhH){F0 H0 F F' :Hp}{D2:rB}{D:kH}(k:Ao4 F)(s:Go):Ao4 F':=
 AKu (BGB k.nx) (BGB k.bk) (BGB k.ct)
structure Ow where
 xe:dW
 pn:d8
abbrev _root_._2.Cx.wsh(X:Cx)(z:Ow):Cx:={X with xe:=z.xe,pn:=ABp}
structure Ctx (V_) (E:XW):Ι where
 pX:∀Ο σ Γ F H s e s',AV ->AKj ->BAe (Agw (∃B4 F' x,A8l /\Go /\Ags H/\ (x.bare=x\/Aka (AHb B4 b))/\E B4 x)) ->A7q
 pq:∀A' A'',AuP A' X.A ->PassesOwnAt k7 A' A'' BE xi
theorem Ctx.po(cx:BDr):BEj:=cx.pq _ _ (SameStack.refl _)
theorem Ctx.px(cx:BDr)(Ο:d8)(σ:St)(Γ:G2)(F H:Hp)(s:AC)(e:AJ)(s' :AC)(I:AV)(R:AKj)(hx:BAe BbE):A7q :=
 cx.pX Ο σ Γ F H s e s' I R (hx.imp (AKY H' hz (by obtain⟨x,F',h1,h2,h3⟩:=hz;exact⟨Γ,F',x,ABq h2,h2.f,h3,A1I ATm,h1⟩)))
def QE(V_)(e:AK)(t:cD):Ι:=Aaq Jg
def QF(V_)(e:AK)(t:c7):Ι:=Aaq upF
def QT(V_)(e:AK)(t:TT2):Ι:=Ź PT e XR
def QW(V_)(e:AK)(t:TT2):Ι:=Ź PW e XR
def QA(BXV):Ι:=Ź PA es Va
def QS(V_)(st:AO)(t:aF):Ι:=Ź PS st upS
def pR(V_)(st:Re)(t:aF):Ι:=Ź Im st upS
section
variable{X:Cx}{e:AK}{es:C7}{st:AO}{sts:Re}
theorem oh(h:ACY t)(hi:∀σ H Q,t' σ H Q ->è):ACY t' :=A'y
theorem Vb(h:PT X e t)(hi:∀σ H Q,t' σ H Q ->è):PT X e t' :=A'y
theorem pwC(h:PW X e t)(hi:∀σ H Q,t' σ H Q ->è):PW X e t' :=BlG w w
theorem paC(h:Amb)(hi:∀σ H Q,t' σ H Q ->è):PA X es t' :=BlG p p
theorem sU(h:A_Q)(hi:∀D σ H,t' D σ H ->t D σ H):PS X st t' :=AiH D D
theorem XS(h:Im X sts t)(hi:∀D σ H,t' D σ H ->t D σ H):Im X sts t' :=AiH D D
#where
section
variable{X:Cx}{F0 H0:Hp}{a b c e:AK}{es:C7}{Ψ:AN}{ta tb tc te:cD}
def cC(d:D):cD:=AaC d
theorem X3(h:∀z,PE JO e (tC v))(r:∀F,EJ AG F d v):EW e (cC d):=fun z E cx=>
 oh (h z) (Sf BO (by show RU BO;exact k _ _ _ _ _ R GH (r F) h))
theorem aU{i j Ψ}:Ap8 AEm (bi i):=AqF yl6
theorem G7{i j Ψ}:Ap8 (s0 i) (cC (.bl i)):=AqF ypa
theorem Ox{j Ψ}:Ap8 BM ϡ:=AqF ymh
theorem Bp{x j Ψ}:Ap8 Ϻ (cC Ϻ):=AqF yhk
def cV(AJ_):cD:=ANC (ut AJu (Ε AFM) (P d Γ) (Ε Ď) (P ANg (se Akw)))
theorem ynk(hN:IG)(hv:OY)(AKv):EW v4 (cV i):=fun z E cx=>
 oh ja (Sf Bz (by
  show RU Bz;show D' cV;show N9
  ·rename_i d e;obtain⟨o,e1,v,Β,r⟩:=AZt;exact⟨v,e1,BeV r⟩
  ·rename_i ds e;obtain⟨a,F',e1,s1,R',r⟩:=R.frz e;exact⟨CF,e1,k _ _ F' H _ R' s1 r h⟩
  ·show HL))
inductive X4 (K:AA) (g:Iq) (x:V) (y:V) (H:Hp) (Q:VK):Ι
 | mk:∀F d1 d2 P,AIy ->Hb (EJ K F d1 x) (EJ K F d2 y) (g d1 d2 P) Bkg BkE
def uR(K:AA)(g:Iq):R2:=AJJ BkE
def cB(g:Iq)(ta tb:cD):cD:=cK ta d1 (Ϛ tb d2 (g d1 d2 fun d=>P d BF))
theorem yfb{K:AA}{g:Iq}{E:XW}{σ:St}{H:Hp}{Q:VK}(h:AH3 Jg BBu):Xi (uR K g) (Aa1 ta) (Aa1 tb) σ H Q:=by
 show RU h;refine AcI ⟨F2,d1,d2,_,R2.g,A5J,r2,h2,fun d z F' H' gr rz hp=> ?_⟩;exact k d BF F' H' z BL9 (Agv L_) rz hp
theorem bV(ho:∀z,mq JO (Atj op) AXS)(ha:ZT)(hb:Ϭ):EW BQW BBu:=fun z E cx=>
 oh (ym4 (ho z) G1 N_) (ĝ yfb)
theorem Ed(BdJ):EW Aa' BBu:=fun z E cx=>
 oh (yk9 (ho z) G1 N_ hm) (ĝ yfb)
def cT(t:cD):TT2:=fun Γ P E=>t Γ (fun d B4 =>(UV d (.bl c) (c9 c))) E
theorem yn1{K:AA}{E:XW}{σ:St}{H:Hp}{Q:AJq}(h:AH3 XR (cT te)):Jg K F0 H0 te E σ H fun x H' =>(Ab1 (Q c H')) :=by
 show RU h;refine b_ (BGD q);cases d with
 | bl c=>
  exact⟨c,r,k c B4 F' H' R' s' q⟩
 | _=>show tz
theorem oK(BdJ):Ù Aa' (cT (cB g ta tb)):=fun z E cx=>
 Vb (yjr (ho z) G1 N_ hm) fun σ H Q h=>yfb (yn1 h)
theorem Dy(h:Rc)(he:∀AGf,AtK e BE AGf=(do let v<- AGf;AeN e.pos;xj [v] (truthy v)):=by intro _;rfl):YO QT (cT te):=fun z E cx=>
 Vb (Da yo2 om he) (ĝ yn1)
def jB(t u:TT2):TT2:=Aoh (JU c (u B4 P E) (c9 AE))
def sV(t u:TT2):TT2:=Aoh (JU c (c9 Μ) (u B4 P E))
def iC(t:TT2):TT2:=Aoh (c9 (! c))
variable{HM:C7}{tA Mt :TT2}
theorem z0i(A3x):E9 QW (AgP [a]) tA:=AYc yjz G1
theorem z7h(A3x):E9 QW BMo tA:=AYc ym0 G1
theorem yby(ha:Ù a tA)(hb:E9 QW AmS Mt):E9 QW AmT (jB tA Mt):=fun z E cx=>
 pwC (ymz G1 N_) (NI Ef Ef (Aco (by
  cases c with
  | Μ=>
   exact⟨F1,Ω,P,R1,q,fun b BF F2 H2 R2 s2 p=>(Aoq Bdl)⟩
  | AE=>
   exact A'7 q)))
theorem Vc(ha:Ù a tA)(hb:E9 QW AmU Mt):E9 QW AmV (sV tA Mt):=fun z E cx=>
 pwC (ypk G1 N_) (NI Ar Ar (Aco (by
  cases c with
  | Μ=>
   exact A'7 q
  | AE=>
   exact⟨F1,Ω,P,R1,q,fun b BF F2 H2 R2 s2 p=>(Aoq Bdl)⟩)))
theorem G8(h:YO QW tA):YO QT tA:=fun z E cx=>(h z E cx).pt
theorem MF(A3x):Ù Aou (iC tA):=fun z E cx=>
 Vb (yor G1) (NI Ip Ip (Aco (ä R1 s1 q)))
def d9(ta tb:cD):cD:=A'O (ut d ADi A'W AP7 (c9 AH1))
def jY(ta tb:cD):cD:=A'O (ut d AP7 A'W ADi (c9 AN'))
def gC(ta:cD):cD:=A'O (UV d (.bl c) (c9 (.bl (! c))))
theorem Ra{op}(h:ZT):EW (.AS9 op [a] Ψ) ta:=AYc yok om
theorem Vd(ha:ZT)(hb:EW AmS tb):EW AmT (d9 ta tb):=fun z E cx=>
 oh (ymt G1 N_) (NI Rb Rb (Ab5 (by
  cases d with
  | bl c=>
   refine CU c r;cases c with
   | Μ=>show Û;exact⟨F1,Ω,P,R1,q,Ar5⟩
   | AE=>show BNm (k _ _ _ _ _ R1 s1 JS) q
  | _=>show tz)))
theorem ype(ha:ZT)(hb:EW AmU tb):EW AmV (jY ta tb):=fun z E cx=>
 oh (ypp G1 N_) (NI DW DW (Ab5 (by
  cases d with
  | bl c=>
   refine CU c r;cases c with
   | AE=>show A7 AK4;exact⟨F1,Ω,P,R1,q,Ar5⟩
   | Μ=>show Û;exact k _ _ _ _ _ R1 s1 JS q
  | _=>show tz)))
theorem ymv(ha:ZT):EW Aou (gC ta):=fun z E cx=>
 oh (ym7 G1) (NI hq8 hq8 (Ab5 (by
  cases d with
  | bl c=>
   exact⟨c,r,BDN q⟩
  | _=>show tz)))
def sW(t:TT2)(ta tb:cD):cD:=Aoh (JU c (ta B4 P E) A'W)
theorem X5(hc:Ù c tA)(ha:ZT)(hb:Ϭ):EW BQX (sW tA ta tb):=fun z E cx=>
 oh (yf9 Aj9 G1 N_) (NI W9 W9 (Aco (by
  cases c with
  | Μ=>show An7 ET P Ar5
  | AE=>show An7 i5 P Ar5)))
def ak:c7:=AaC []
def aj(t:cD)(u:c7):c7:=cK t d (Ϛ u ds (P (d::ds) BF))
theorem aK:E9 QA [] ak:=fun z E cx=>paC Ou (Sf Rf (by show RU Rf;exact k _ _ _ _ _ R GH JS h))
theorem au(ha:Rc)(hr:E9 QA es tr)(hs:AKq:=by rfl):E9 QA LE (aj te tr):=AXM paC Lj G1 (OO hr) hs (Sf Bc_ (AMR d v1 (AVx (AV1 ds vs (ä _ R2 tq (uc (AG3 s2) r2) h2)))))
def cP(uk):cD:=Z' (AZs (HZ (GW ds)))
theorem qQ{x1}(h:AUV es):AU' ABa es x1 (cP t):=fun z E cx=>
 oh (ygr om) (NI Ja Ja (BSy n9 (õ (by
  show AR9 vs LU hp;refine ä _ AIa A2U ?_ Ϝ;exact TU p AWH (AG3 L_)))))
def fG(uk):c7:=Z' (AZs (HZ ds))
theorem Jh(Ĕ){σ:St}{Γ:G2}{p:Ζ}{vs:AQ}{ds:AR}(R:IJ)(hp:RC p)(r:MV):
  y_ F BUl/\ BUl p=Ε cn/\F p=Η/\H0 p=Η/\AHu p:=by
 refine⟨?_,gU,BIa hp,BM0,ATm hp⟩;refine ABq (AEQ MX MX)
 ·show sK (R.g b u e) hp;show tI R.g
 ·show č hp;exact e
theorem Bw{t:c7}(h:AUV es):AH6 BTO (fG t):=fun z E cx=>
 oh (yhq om) (NI Jb Jb (BSy n9 (õ (by
  obtain⟨R2,e1,e2,e3,ap⟩:=Jh R1 hp r1;exact k ds Ω F1 _ p vs R2 s1 e1 e2 e3 r1 ap Ϝ))))
def dO(uk):cD:=Z' (HZ ANg)
theorem iQ(h:E9 QF e t):EW e (dO t):=fun z E cx=>
 oh om (NI Jc Jc (BGN (by
  obtain⟨s2,_⟩:=z31 LU e1 e2;refine ä _ (R1.frzA e1 e2 e3 ap) tq ?_ h1;exact TU a AWH A5J)))
variable{st:AO}{sts:Re}{t u:aF}
def bA:aF:=A5q (UD Γ)
def aD(t u:aF):aF:=fun D Γ E=>t {D with nx:=AU3 (u D B4 E)} Γ E
theorem qK:E9 pR [] bA:=fun z E cx=>XS ykx (fc D abt (by obtain⟨F,Γ,D2,R,h,k⟩:=abt;exact AAV R GH h))
theorem bF(h1:AJt t)(h2:E9 pR sts u):E9 pR (st::sts) (aD t u):=fun z E cx=>
 XS (zpk A0m (OO h2)) (dr abu abu (b_ (AKu (fun B4 F' H' DI R' s' q=>⟨F',B4,D2,R',q,Ae1 s'⟩) k.bk k.ct)))
theorem bM(h1:AJt t):E9 pR [st] t:=AYc zt7 A0m
def fL(jS):aF:=fun D Γ E=>te Γ (KS Ω A3j) E
theorem z0g(he:Rc)(hs:AGL Η:=by rfl):Aai e (fL te):=fun z E cx=>
 sU (Da UJ Mb hs) (dr abv abv (ib (ARI R1)))
def aW(jS):aF:=fun D Γ E=>te Γ (fun d _=>D.rt d) E
theorem fM(he:Rc):fS (.AtT AYS Ψ) (aW te):=fun z E cx=>
 sU (z9q Mb) (dr abw abw (ib (LX k.rt R1.gr r1 h1)))
def gY:aF:=fun D _ _=>D.rt BH
def cO(c:TT2)(t u:aF):aF:=cy D c b (JU b (t D Ω E) (u D Ω E))
theorem qL(hc:Ù c tA)(ha:E9 pR x t)(hb:E9 pR y u):fS (.If c x y Ψ) (cO tA t u):=fun z E cx=>
 sU (yo8 Aj9 G1 N_) (dr abx abx (Aco (by
  cases c with
  | Μ=>show An7 ET D2 (Ae1 s1)
  | AE=>show An7 i5 D2 (Ae1 s1))))
def aR(i:Δ)(te:cD):aF:=AnI (AQ3 AFM)
theorem fD(hN:XA)(hi:IG)(hx:AEH)(he:Rc)(hs:AGL APo:=by rfl)
  (hf:AAr:=by show ARm):AqR aR te:=fun z E cx=>
 sU (AZN i hN hi hx Mb hs hf) (dr aby aby (ib (ARI (R1.set i r1))))
def cQ(i:Δ)(t:c7):aF:=cy D t ds (AQ3 Ď)
theorem Ji(hN:XA)(hi:IG)(hx:AEH)(he:A7h)(hs:AGL APo:=by rfl)
  (hf:AAr:=by show ARm):AqR cQ tf:=fun z E cx=>
 sU (AZN i hN hi hx Mb hs hf) (dr abz abz (BGN (ARI (R1.setOw i e1 e2 e3 r1 ap))))
#where
#print _3
namespace _3
open KB P4 LL _2
abbrev vP:=Bdc D
abbrev Av:=Bdc AR
section
variable(K:AA)(F0 H0:Hp)
inductive UpG (g:vP) (E:XW) (v:V) (σ:St) (H:Hp) (Q:S4):Ι
 | mk:∀F Γ P d,Hb Af8 (EJ K F d v) (g d Γ P E) Bkn (UpG g E v σ H Q)
def upG(g:vP)(E:XW):TG:=Aak (br UpG g E v σ H Q)
inductive X6 (g:Av) (E:XW) (vs:AQ) (σ:St) (H:Hp) (Q:S4):Ι
 | mk:∀F Γ P ds,Hb Af8 Ahr (g ds Γ P E) Bkn (X6 g E vs σ H Q)
def abA(g:Av)(E:XW):Om:=fc vs Q (br X6 g E vs σ H Q)
#where
def QG(V_)(e:AK)(g:vP):Ι:=AUm (PG JO e (ō upG g E))
def X7(V_)(es:C7)(g:Av):Ι:=AUm (Qx JO es (ō abA g E))
section
variable{X:Cx}{F0 H0:Hp}{e tg:AK}{es:C7}{Ψ:AN}{te:cD}{g:vP}{gs:Av}
theorem pgC(h:PG X e t)(hi:∀v σ H Q,t' v σ H Q ->t v σ H Q):PG X e t' :=BmI
theorem X8(h:Qx X es t)(hi:∀v σ H Q,t' v σ H Q ->t v σ H Q):Qx X es t' :=BmI
def L'(AJ_):vP:=fun d Γ Q _=>Q (Aes i AFM)
theorem fH(Bjm)(hf:AAr:=by show ARm):E9 QG v4 (IZ i):=fun z E cx=>
 pgC (Sb yir i i hN hi hx hf) fun v σ H Q BO=>by obtain⟨F,Γ,P,d,R,r,h,k⟩:=BO;exact sL k (R.set i r) GH h
def fJ:Av:=fun ds Γ Q _=>ds= []/\Q Γ
def aY(g:vP)(gs:Av):Av:=fun ds Γ Q E=>match ds with | d::r=>AzK d (gs r B4 Q E) | []=>D6
theorem Dz:E9 X7 [] fJ:=fun z E cx=>X8 ylc fun vs σ H Q Bz=>by
 obtain⟨F,Γ,P,ds,R,r,h,k⟩:=Bz;show AEX h h;exact⟨r,ä R GH h⟩
theorem pH(h1:YO QG g)(h2:BVp)(hs:AcA LE (AYU e::(ALX es BE).map (·.2)):=by rfl):E9 X7 LE (aY g gs):=AXM X8 yfz A0m (OO h2) hs (fun vs σ H Q Ef=>by
  obtain⟨F,Γ,P,ds,R,r,h,k⟩:=Ef;cases ds with
  | D8=>show Ň
  | AY d ds=>
   show AbV;exact⟨v,us,Β,F,Γ,_,d,R,r1,h,fun Ω F1 H1 σ1 R1 s1 q=>⟨F1,Ω,P,ds,R1,r2.up s1,q,fun BF F2 H2 σ2 R2 s2 p=>(Aoq ä)⟩⟩)
def fK(n:Δ)(gs:Av):vP:=fun d Γ Q E=>(UV d AEy (OI=n/\gs ds Γ Q E))
theorem DG(hc:F7)(h:BVp)(hn:Sc ALX es BE=n:=by rfl)(hst:(ALX es BE).findIdx? (·.1)=Η:=by rfl):E9 QG (.ABa es k Ψ) (fK n gs):=fun z E cx=>
 pgC (Sb ym2 n n hc om hn hst) fun v σ H Q Ar=>by
  obtain⟨F,Γ,P,d,R,r,h,k⟩:=Ar;cases d with
  | Dx ds=>
   show Fu a vs hq rs r;exact⟨a,vs,Β,uQ R.g hq,Nw tP Ee,F,Γ,P,ds,R,rs,h.2,k⟩
  | _=>show Ň
def jG(te:cD)(g:vP):aF:=AnI (g d Ω UD E)
theorem yht(he:Rc)(hg:Ab9)(hs:AZo [tg] e:=by rfl)(hw:AeQ [tg] e BE=Hn Η:=by rfl)
  (h1:AcA [tg] [AYU tg]:=by rfl):AMr [tg] e (jG te g):=fun z E cx=>
 sU (Da yg4 Mb (OO hg) hs hw h1) (dr Ip Ip (ib ⟨F1,Ω,_,d,R1,r1,h1,fun BF F2 H2 σ2 R2 s2 p=>(Aoq Po)⟩))
def jZ(i j:Δ)(uk):aF:=cy D t ds (la [x,y] (UD ((ABs i (.pu x)).set j (.pu y))))
theorem yon{kt k2 Qz}(hc:F7)(hN:XA)(hi:IG)(hj:AKb)(hij:AAn)
  (hx:Avm) (hy:Abz) (ha:A1w)
  (hw:AeQ ASU ASF BE=Hn (D9 [x,y])) (hs:AZo ASU ASF:=by rfl):
  AMr ASU ASF (jZ i j t):=fun z E cx=>
 sU (yod (X:=Afi) (i:=i) (j:=j) hc hN hi hj hij hx hy G1 hw hs) (dr Rb Rb (l6 (by
  match ds,r1,h1 with
  | [d1,d2],r1,h1=>
   obtain⟨v1,_,Β,q1,v2,_,Β,q2,Β⟩:=r1;exact KW v1 v2 (ARI ((R1.set i q1).set j q2))
  | [],_,h1=>show AEl
  | [_],_,h1=>show AEl
  | _::_::EF,_,h1=>show AEl)))
def Eh(c:TT2)(tb:aF):aF:=A5r (∃W:Al3,(∃m,W m Γ)/\∀m Γ,W m Γ ->
 c Γ (fun b Ω=>(JU b (tb (AVi BTI BTI) Ω E) A3j)) E)
theorem z3d(hc:Ù c tc)(hb:Ab3):fS BfG (Eh tc tb):=fun z E cx=>
 sU (ye9 cx.po Aj9 N_) (fc D DW (by
  obtain⟨F,Γ,D2,R,⟨W,⟨m,w0⟩,UE⟩,k⟩:=DW;refine⟨fun m σ H=>∃F1 Ω,k9 F1 H Ω/\ű/\W m Ω,⟨m,F,Γ,R,sf,w0⟩,fc m Cn ?_⟩;obtain⟨F1,Ω,R1,s1,w1⟩:=Cn;refine⟨F1,Ω,_,R1,UE m Ω w1,fun b BF F2 H2 R2 s2 q=> ?_⟩;cases b with
  | Μ=>
   rw[ET] at q⊢;refine⟨fun DI H' =>(AgF (∃F3 Γ3,ō SR F3 H' DI Γ3/\kz F3/\W m' Γ3)),fun DI H' z=>z,F2,BF,_,R2,q,AKu BmL (fun Γ3 F3 H3 σ3 R3 s3 p=>Po R3 Am0 p) BmL⟩
  | AE=>
   rw[i5] at q⊢;exact AAV R2 tq q))
def abB(K:AA)(tl:TE):TI:=BgD ((∃xs,nZ K H1 a xs)/\AcH UL) ((∃xs,xY K H1 a xs)/\AcH QC)
theorem yof(hl:PE X l tl):vi l (abB AG tl):=by
 show DO R;refine Aaz (œ hl) W9;show dQ W9;show F6 a e q q1;subst e;show AD r1 r1 r1 r1 r1 r1 r1 r1 r1 r1 r1 r1 r1 r1;rcases q with ⟨⟨xs,hq⟩,q⟩ | ⟨⟨xs,hq⟩,q⟩
 ·show AbN I1.list;show BWu zwx q
 ·show AbN I1.tuple;show BG (BIc BOy ?_) (APM (zta a _) iq q);show APE
def v8(ds:AR)(g:vP)(tb:aF)(D0:rB)(E:XW)(Γ:G2):Ι:=∃I:Al3,I 0 Γ/\
 (BgP D0 D0.nx)/\∀Γ,I OI Γ ->D0.nx Γ
def vq(te:cD)(g:vP)(tb:aF):aF:=cy D0 te d (ut d Aj3 BGC AEy BGC)
theorem Jj(hc:F7)(hi:AUZ OG)(hg:Ab9)(hb:Ab3)(AFw):
  Arp OG vq te:=fun z E cx=>
 sU (Da z2h cx.po hc (yof APr) (OO hg) N_ hs) (AWJ Rf Rf (ib (by
  have L6:∀(ds:EO _3.D) (vs:AQ),AwW ->∀I:Al3,(BgP D2 ABo) ->
    ∀(i:Δ) x σ H,r6 vs ->(AyW) ->upG AG F0 H0 g E x σ H (AVd (upS AG F0 H0 tb E (AvX Dn BBg BBg Dn.nx) σ2 H2)):=by
   rintro ds vs rs I UE i x σ H hx ⟨F2,BF,R2,s2,hI⟩;show Ct d hd rd zw6 rs hx;exact⟨F2,BF,_,d,R2,rd.up s2,UE i d BF hd hI,fun Γ3 F3 H3 σ3 R3 s3 p=>⟨F3,Γ3,AjF D2 ABo,R3,p,AKu Ar_ (Aw1 (Po R4 (ABr (ApL s4)) q)) Ar_⟩⟩
  cases d with
  | DC ds=>
   show Amx;show BEt;refine VO a (.DH (ë vs AWA (yf2 (xs:=vs) BQV BEx (fun i σ H _ hz=>by obtain⟨F2,BF,R2,s2,_⟩:=hz;exact BId (AuR hq)) BjN ?_)))
   rintro σ H ⟨F2,BF,R2,s2,hI⟩;exact AAV R2 tq (KM _ (by rw[kE rs];exact hI))
  | Dx ds=>
   show Amx;show BEt;refine VO a (.BD (ë vs A4u (yi2 (xs:=vs) BQV BEx (fun i σ H _ hz=>by obtain⟨F2,BF,R2,s2,_⟩:=hz;exact uQ R2.g (uQ s2 hq)) BjN ?_)))
   rintro σ H ⟨F2,BF,R2,s2,hI⟩;exact AAV R2 tq (KM _ (by rw[kE rs];exact hI))
  | _=>show AEl)))
def Jk(lo:AB)(n:Δ)(g:vP)(tb:aF)(D0:rB)(E:XW)(Γ:G2):Ι:=∃I:Al3,I 0 Γ/\
 (∀(i:Δ) Γ,i<n ->I i Γ ->AzK (GM (lo+i)) (tb (AjF D0 D0.nx) B4 E))/\∀Γ,I n Γ ->D0.nx Γ
theorem yhj{K:AA}{F1 H1:Hp}{Ω:G2}{σ:St}{lo:AB}{n:Δ}{tb:aF}{D2:rB}{D:kH}{E:XW}(R1:yy F1 H1 Ω)(h:Jk lo n g tb D2 E Ω)(k:Ao4 F1):
  ARU S4 (W 0 m σ H1) (∀i m σ H,Aat ->Acm (ArL ABd) (ArL go) (Li lo n).yld (br upG g E x σ H' (AVd (upS K F0 H0 tb E (AVi N N) σ2 H2)))):=by
 show sA I i0 UE KM;refine z7m (lo:=lo) (n:=n) (fun i σ H=>∃F2 BF,yy F2 H BF/\AgO/\I i BF) BEx ?_ ?_
 ·rintro i σ H hi ⟨F2,BF,R2,s2,hI⟩;exact⟨F2,BF,_,A0J,R2,OU,UE i BF hi hI,fun Γ3 F3 H3 σ3 R3 s3 p=>⟨F3,Γ3,_,R3,p,AKu Ar_ (Aw1 (Po R4 (ApL s4) q)) Ar_⟩⟩
 ·rintro σ H ⟨F2,BF,R2,s2,hI⟩;exact AAV R2 s2 (KM _ hI)
def uT(t:c7)(g:vP)(tb:aF):aF:=cy D0 t ds (la [AIE] ((AIO<=j/\j<2^62)/\Jk 0 ABf g tb D0 E Ω))
theorem Rg(hc:F7)(hgl:BLe)(hm:BLW)(ha:AOp)(hg:Ab9)(hb:Ab3)
  (hst:BVV:=by rfl) (hs:AgI BT1:=by intro _;rfl):Arp BT1 uT t:=fun z E cx=>
 sU (BEp (yb8 hgl hm G1 hst) N_ hs) (dr Jb Jb (l6 (by
  show AJS
  ·rename_i j;show ANz Β r1;exact⟨j,Β,n9.1,n9.2,Bh7⟩
  ·show AEl)))
def Jl(t:c7)(g:vP)(tb:aF):aF:=cy D0 t ds (la AOV ((BiF)/\Jk i BUK g tb D0 E Ω))
theorem yac(hc:F7)(hgl:BLe)(hm:BLW)(ha:A1w)(hg:Ab9)(hb:Ab3)
  (hst:BZh:=by rfl) (hst2:BVW:=by rfl) (hs:AgI BZb:=by intro _;rfl):Arp BZb Jl t:=fun z E cx=>
 sU (BEp (z9i hgl hm G1 hst hst2) N_ hs) (dr Jc Jc (l6 (by
  show AJS
  ·rename_i i j;obtain⟨v,_,Β,Β,v2,_,Β,Β,Β⟩:=r1;exact⟨i,j,Β,n9,Bh7⟩
  ·show AEl)))
#where
abbrev dM:=A_q AEp
inductive Oz (AsL dM):Ι
 | mk:Bhg (BDj nK (P d)) Oz
def pA(K:AA)(sp:dM):Sp:=An4 Oz
def aA(sp:dM)(t:c7):cD:=Z' AyV
section
variable{X:Cx}{F0 H0:Hp}{e:AK}{es:C7}{Ψ p:AN}{x:Κ}{f:Ζ}{fd:GA}{ps:Ρ}{k:Δ}{sp:dM}{t:c7}
theorem Rh(BlV)
  (I:Aob) (R:AKj) (r:AZS) (rs:g6 ds vs) (h:sp ds P fun C=>E Γ C) (hQ:BDj BaT (P d)):
  BfV:=by
 have hs:pA AG sp vs H Q BbE:=⟨F,ds,P,_,R.g,rs,h,hQ,Acl⟩;have hl:Aof:=Arw
 have hbs:=hb s us av hl;show AGB;refine ARg X.A s H us us vs Q hr I.env0 r AQ';cases r with
 | kT e=>exact ABt Ο σ Γ F H s e s' I R hq
 | ok fl=>
  cases fl with
  | ret u=>exact I.after hq
  | Kx=>show Zl
  | brk=>show Zl
  | OE=>show Zl
theorem z8d(Fn:AxQ Axb)(hr:Ÿ)(hg:J_)(hm:AU5 MD)(hk:W.keepIn AG MD=Μ)(hb:APB)
  (ha:TZ) (hdb:HH:=by decide) (uB):
  EW nE (aA sp t):=by
 show AFv;refine AcK;refine ATo (h₀:=SH) ATp hk (lc (AjO AyV) us Ei) he EI;obtain⟨vs,H1,I1,r,F1,Ω,ds,R1,sF,rs,q⟩:=Ei;refine AYm;exact Rh Fn hr hb cx I1 R1 r rs q BDz
#where
def aG(n:Δ)(ds:AR):G2:=ALC .pu++AX' (n - OI) B8
abbrev iw(N:Ρ)(ds:AR):G2:=aG ALt ds
theorem Ve{K:AA}{F0 H:Hp}{N:Ρ}{ds:AR}{vs:AQ}(h:ā F0)(r:BZY):SR K F0 H F0 H (AG4 N vs) (iw N ds):=by
 have hl:=kE r;refine⟨ef h,by simp [AG4,iw,aG,hl],li i s,fun i j a e _=> ?_⟩
 ·unfold iw aG at e;unfold AG4;show A6o
  ·rw[AFW,FS] at e
   cases q:ds[i]? with
   | Η=>rw[q] at e;show Do
   | Ε d=>
    rw[q] at e;show Do;show Ct v e1 r1 yN r q;refine⟨AIi,?_,v,Β,r1⟩;rw[ATO (A5P hi),FS,e1];rfl
  ·show AmY AFV
   show BhU ⟨Η,?_,IP⟩ (A5P A_)
 ·exfalso
  obtain⟨s,o,e,_,hs⟩:=e;unfold iw aG at e;show A6o
  ·rw[AFW,FS] at e
   cases q:ds[i]? with
   | Η=>rw[q] at e;show Do
   | Ε d=>show AFy q hs
  ·show AmY AFV
   split at e
   ·show Do;exact hs
   ·show AJN
section
variable{P:A0}{w:An}{K:AA}{mg:EN}{C3:AM}
theorem iG(Ě)(Acq dM)(Fn:A3 x E2 st)(S:AKa ps)(len:ASN)
  (xw:AKy (∀F0:Hp,
   ∃t,Aom m_/\Aqq BAQ)):
  AmH pA:=by
 show AFt;refine QK lk hcd S (ARL H Q E BO) (AKx E hr Bz)
 ·obtain⟨F,ds,P',Ex,_,rs,hs,_⟩:=BO;show AqK
 obtain⟨F0,ds,Pd,Ex,sF,rs,hsp,hQ,hE⟩:=Bz;show Aor;have cx:ASL:=by
  refine⟨fun Ο σ Γ F H1 s1 e s' I R hx=> ?_,AKV⟩;refine AKz;show APY F' x R' xr z1 z ASW
 exact⟨_,ht _ _ cx,F0,Anw,ANu (FM (Pd BH)) Pd,Ve sF rs,hq ds Pd Ex hsp,⟨fun Γ F' H' σ R' _ q=>BCN,đ,đ,AsC (hQ d v F' H' gr rv q),vT,fun _ _ _ _ _ _ _ _ _ q=>SO,fun _ _ _ _ _ _ _ _ q=>SO⟩⟩
#where
def dD(ARW):Δ:=BIe i
theorem yig(h:gy+Î<=100000000):BLR:=by
 show D' dD;unfold IntMulOk;intro z;show A7K z;have z2:=z.2;unfold Builtin.Int.intTooBig at z2;have hb:bitsLine=134217728:=OU
 rw[hb] at z2;have:=Azj z2;show AF
theorem lU(h:AZV k):gy<=k:=by
 show BRF;split
 ·exact ALk _
 ·show Ki;have n0:BKv:=Au (by
   have:i=0:=BKn;show oB;exact q Β)
  show AAP ((BIf n0).mpr h)
theorem Ri(h:gy<=k):AZV k:=by
 unfold dD BIe at h;show N9
 ·show Ki;have:i=0:=C6 q
  show oB;exact Nat.two_pow_pos k
 ·show Ki;have n0:BKv:=Au (by
   have:i=0:=BKn;show oB;exact q Β)
  exact(BIf n0).mp Θ
theorem G9(AKS):dD (i*j)<=gy+Î:=by
 refine lU ?_;rw[Ľ,Nat.pow_add];exact Nat.mul_lt_mul'' (AMs Ri) (Ri Gc)
theorem zi4(AKS):Bis (i+j):=by
 refine lU ?_;have h1:AZV Bb6:=Ri (Nat.le_max_left _ _);have h2:AuT<2^ Bb6:=Ri (Nat.le_max_right _ _);have h3:=Ae3 i j;rw[BIg];show AF
theorem ylg(ARW):dD (-i)=dD i:=by show BRF;simp
theorem znm(AKS):Bis (i - j):=by
 have h:=zi4 i (-j);rw[ylg,<- Int.sub_eq_add_neg] at h;exact h
theorem MJ(h:Atk<=AuT):gy<=Î:=lU (zL h (AMs Ri))
section
variable{X:Cx}
theorem zuh{f:AKn}{C:ApK}{v:AmJ}{d:AmI}{g:Iq}(ho:mq X f (rI C v))(hg:BfT (BDx AR2))(hd:Beg):mq X f AXS:=by
 rintro Ο s σ H x y u w Q I rx ry ⟨F,d1,d2,P,sF,r1,r2,h,k⟩;show zw i j Β hc hp (hg _ _ _ h);show AKg;exact Ğ ho _ u w ⟨i,j,Β,Β,hc,BV3⟩
theorem zo3{f:AKn}{v:AmJ}{d:AmI}{g:Iq}(ho:mq X f (Ot v))(hg:BfT (BFO AR2))(hd:Beg):mq X f AXS:=by
 rintro Ο s σ H x y u w Q I rx ry ⟨F,d1,d2,P,sF,r1,r2,h,k⟩;show Fu i j Β hp (hg _ _ _ h);show AKg;exact Ğ ho _ u w ⟨i,j,Β,Β,BV3⟩
def wI(C:ApK)(d:AmI):Iq:=ø (AaG x y GG AIE (C i j/\AR2))
theorem ydg(h:wI C d x y P):BDx AR2:=by
 show D' wI;show N9
 ·exact IF _ Β h
 ·show HL
def sX(d:AmI):Iq:=ø (AaG x y GG AIE AR2)
theorem z2e(h:sX d x y P):BFO AR2:=by
 show D' sX;show N9
 ·exact IF _ Β h
 ·show HL
def cR:Iq:=ø (match x,y with
 | GG,AIE=>Y3 (i+j)
 | .AX i,.AX j=>D7 (i.length+j.length)/\P (M3 (i++j))
 | _,_=>D6)
theorem sE:AQ5 Add cR:=by
 rintro Ο s σ H x y u w Q I rx ry ⟨F,d1,d2,P,sF,r1,r2,h,k⟩;show D' cR;show N9
 ·show AKg;exact Ğ ym6 _ u w (IF _ Β AAj)
 ·show AKg;exact Ğ z5n _ u w ⟨_,_,Β,Β,Ee,Alx⟩
 ·show HL
def gq:Iq:=sX (Þ (i - j))
theorem Ir:AQ5 Sub gq:=Aqb yov
def Ej(AKS):Ι:=gy<=64\/Î<=64\/gy+Î<=100000000
theorem Ej.ok(h:Ej i j):BLR:=by
 rcases h with h | h | h
 ·exact .of_left h
 ·exact .of_right h
 ·exact yig h
def cW:Iq:=wI Ej (Þ (i*j))
theorem sG:AQ5 Mult cW:=zuh (C:=Ej) (v:=Þ (i*j)) (opI fun i j _ _ _ _ _ hc q=>mul_int q hc.ok) (ACP ydg) AWL
def dN:Iq:=wI (KS j BUt) BOL
theorem v9:AQ5 FloorDiv dN:=zuh (C:=YI j BUt) (v:=BOL) (opI fun i j _ _ _ _ _ hc q=>floordiv_int hc.1 q (HG (PyProof.noPylong_of_log2 (by
 have:=Ri hc.2;exact(BIf (FI (hc.1 (Brc z)))).mpr Τ)))) (ACP ydg) AWL
def cj:Iq:=wI (KS j AOl) BOK
theorem n6:AQ5 Mod cj:=zuh (C:=YI j AOl) ylx (ACP ydg) AWL
def j4:Iq:=wI QJ BaW
theorem ypn:AQ5 Pow j4:=zuh yl7 (ACP ydg) AWL
def ud:Iq:=An9 (i<j)
theorem Jm:AAh Lt ud:=Aqb ypv
def vA:Iq:=An9 (i<=j)
theorem Yb:AAh LtE vA:=Aqb ypr
def rC:Iq:=An9 (j<i)
theorem Ek:AAh Gt rC:=Aqb ypf
def xZ:Iq:=An9 (j<=i)
def fV:D ->AT | BH=>Μ | _=>AE
theorem z9v(BYN)(r:TC):Χ (v= BH)=fV d:=by
 cases d with
 | non=>subst r;rfl
 | bl _=>subst r;rfl
 | AU _=>subst r;rfl
 | AX _=>subst r;rfl
 | Dx _=>show AcN
 | DC _=>show AcN
 | exc _=>show AcN
 | ptr _=>subst r;rfl
 | obj _ _ _=>obtain⟨a,_,_,Β,_⟩:=r;rfl
 | dic _ _=>show AcN
 | qJ _ _=>show AcN
 | dik _ _=>obtain⟨a,_,_,Β,_⟩:=r;rfl
def uU:Iq:=Bd8 (Ya (fV x)) (c==d)
def jH:Iq:=Bd8 (Ya (! fV x)) (c !=d)
theorem Yc:AAh Is uU:=by
 rintro Ο s σ H x y u w Q I rx ry ⟨F,d1,d2,P,sF,r1,r2,h,k⟩;show D' uU;show N9
 ·have e:=z9v r1;subst r2;exact Ğ yn6 x u w BiI
 ·split at h
  ·show AKg;show AGP;show AD ry ry ry ry ry ry ry ry ry ry ry ry ry ry;exact is_bool (AJC AAj)
  ·show HL
 ·show HL
theorem ypw:AAh IsNot jH:=by
 rintro Ο s σ H x y u w Q I rx ry ⟨F,d1,d2,P,sF,r1,r2,h,k⟩;show D' jH;show N9
 ·have e:=z9v r1;subst r2;exact Ğ yjf x u w BiI
 ·split at h
  ·show AKg;show AGP;show AD ry ry ry ry ry ry ry ry ry ry ry ry ry ry;exact isnot_bool (AJC AAj)
  ·show HL
 ·show HL
mutual
def jy:BVj
 | BH,b=>(AM9 BH Μ)
 | .bl a,b=>(AZ8 ox)
 | APg,b=>(AZ8 APh)
 | .AX a,b=>(AZ8 (.AX b))
 | da,b=>(AM9 Akc ϛ)
 | VU,b=>(AM9 APq ϛ)
 | .exc a,b=>(AZ8 (.exc b))
 | .ptr a,b=>(AZ8 (.ptr b))
 | .obj C fs xs,b=>(AM9 (.obj C' fs' ys) (Χ (C=C')&&Χ (fs=fs')&&ϛ))
 | AI7 xs,b=>(BCo dic)
 | .qJ ks xs,b=>(BCo qJ)
 | .dik ks xs,b=>(BCo dik)
def ji:AR ->AR ->AT
 | [],[]=>Μ
 | WO,y::ys=>jy x y&&ϛ
 | _,_=>AE
end
@[simp] def kd:D ->Δ
 | BH=>0
 | ly=>1
 | dc=>2
 | i7=>3
 | AYb=>4
 | og=>5
 | _=>6
@[simp] def Bx (d d' :D):AT:=kd d<6&&kd d' <6&&(kd d !=kd d' || kd d<4)&&(kd d !=1 || kd d' !=2)&&(kd d !=2 || kd d' !=1)
def nu:ME (D1 D D)
 | n+1,da,Akc=>A'h
 | n+1,VU,APq=>A'h
 | _,d,d' =>Aq3
#where
mutual
theorem yu:∀d:D,jy d d=Μ
 | BH=>AEv
 | ly=>AEv
 | dc=>AEv
 | i7=>AEv
 | da=>re Rj xs
 | VU=>re Rj xs
 | ϸ=>AEv
 | AEr=>AEv
 | .obj _ _ xs=>Anl
 | X2 _ xs=>Anl
 | .qJ _ xs=>Anl
 | .dik _ xs=>Anl
theorem Rj:∀ds:AR,ji ds ds=Μ
 | []=>AYv
 | Z3=>AQy ji (yu d) (Rj ds)
end
theorem zwe:BBk (By=NR ->(∀e:ME AT,(AhL (e i=jy x y)) ->A6U By e=ϛ))
 | [],[],_,_,_=>AYv
 | WO,y::ys,hl,e,he=>by
  have ih:=zwe (xs:=xs) (ys:=ys) A0q (sx (e (EZ))) fun i a b h1 h2=>he Db a b AJh APt
  rw[H_,AuU,ATR,BIh];rw[he 0 x y Β Β]
  congr 1
theorem zuq:BBk (By≠NR ->ji xs ys=AE)
 | [],[],h=>A_G
 | [],EF,_=>AYv
 | EF,[],_=>AYv
 | WO,y::ys,h=>Ć ji (zuq (FI (h (LG z)))) Ae4
theorem z60:BBk (AW8 NR ->(AhL (jy x y=Μ)) ->Aqj)
 | [],[],_,_=>AYv
 | WO,y::ys,hl,h=>AQy ji (h 0 x y Β Β) (z60 A0q fun i a b h1 h2=>h Db a b AJh APt)
section
variable{X:Cx}{Ο:d8}{σ:St}{F H:Hp}{s:AC}
theorem zwo(I:AV){a:Ζ}{xs ys:AQ}(h:AbO nZ)(h' :ADr xY a):D6:=by
 obtain⟨AW,_,⟨o,n,e,c,_,_⟩,_⟩:=Az9;obtain⟨eP,_,⟨o',e',c',_⟩,_⟩:=ĳ h';rw[e] at e';show AD e' e' e' e' e' e' e' e' e' e' e' e' e' e';rw[c] at c';injection c' with c';exact Aky c'
theorem zpn{n:Δ}{d d' :D}(hc:A'L):Aq3\/ (Bgm da Akc)\/
  Bgm VU APq:=by
 unfold nu at hc;split at hc
 show AAL (HG Biz)
 ·exact C_ (FV Biz)
 ·exact CS hc
theorem yh0(I:AV)(sF:i8):∀(n:Δ) (d d' :D) (v:V),BZc A'L:=by
 have flat:∀(d d' :D) (v:V),BZc Aq3:=by
  intro d d' v hf r r';cases d with
  | non=>simp only [EJ] at r;subst r;(show AXz) <;>simp only [EJ] at r' <;>first | rfl | show AX0 | show AX1 | show Aq0
  | bl=>simp only [EJ] at r;subst r;(show AXz) <;>simp only [EJ] at r' <;>first | show AX0 | show AX1 | (show AD r' r' r' r' r' r' r' r' r' r' r' r' r' r';exact yu _) | show Aq0
  | AU=>simp only [EJ] at r;subst r;(show AXz) <;>simp only [EJ] at r' <;>first | show AX0 | show AX1 | (show AD r' r' r' r' r' r' r' r' r' r' r' r' r' r';exact yu _) | show Aq0
  | AX=>simp only [EJ] at r;subst r;(show AXz) <;>simp only [EJ] at r' <;>first | show AX0 | show AX1 | (show AD r' r' r' r' r' r' r' r' r' r' r' r' r' r';exact yu _) | show Aq0
  | Dx=>show Bkh (yT h2) (uQ sF h1)
  | DC=>show Bkh (yT h1) (uQ sF h2)
  | _=>show AA_
 intro n;induction n with
 | UN=>
  intro d d' v hc r r';show Bpk h h h
  ·exact flat d d' v h r r'
  ·show Pw
  ·show Pw
 | UO n ih=>
  intro d d' v hc r r';have go:∀{xs ys:AR} {vs us:AQ},Hb (vs=us) (g6 xs vs) (g6 ys us) A'h Aqj:=by
   intro xs ys vs us e r1 r2 hc;subst e;refine z60 (Ϟ (kE r1) (kE r2)) fun i x y h1 h2=> ?_
   show Ct v1 e1 q1 yN r1 h1;show Ct v2 e2 q2 yN r2 h2;rw[e1] at e2;show ny;exact ih x y v1 (hc i x y h1 h2) q1 q2
  rcases zpn hc with h | ⟨_,xs,ys,h,Β,Β,hc⟩ | ⟨_,xs,ys,h,Β,Β,hc⟩
  ·exact flat d d' v h r r'
  ·show HK;show Fu a vs h1 q1 r;obtain⟨b,us,z,h2,q2⟩:=r';show MR;exact go (BHk (uQ sF h1) (uQ sF h2)) q1 q2 hc
  ·show HK;show Fu a vs h1 q1 r;obtain⟨b,us,z,h2,q2⟩:=r';show MR;exact go (Atb (yT h1) (yT h2)) q1 q2 hc
structure EqD (A:Bi) (s:AC) (v u:AJ) (b:AT):Ι where
 eq:BIJ A s v u b
 rc:SeqAt.RcAt A s v u b
 ne:Brd A s v u (! b)
theorem z7f{n m:Δ}(e:ME AT)(h:n=m):(AXC (min n m) all e&&n==m)=A6U n e:=by
 subst h;simp
def Kn(s:AC):D1 D AJ
 | BH,v=>v= BM
 | ox,v=>v= .bool b
 | GG,v=>∃t,v= .AU i t
 | oq,v=>∃t,v= .AX x t
 | AYb,v=>Bcq (IsTup A9 l is)
 | og,v=>Bcq (AlF is)
 | _,_=>IM
theorem kn(I:AV)(sF:i8){d:D}{x:V}{v:AJ}(r:Ap5)(rv:pM):Kn s d v:=by
 (show MQ d d d d d d d d d d d d d d)<;>simp only [EJ] at r<;>try trivial
 case non=>subst r;show AsO;rfl
 case bl=>subst r;show AsO;rfl
 case AU=>subst r;show PY rv;exact nI
 case AX=>subst r;show PY rv;exact nI
 case Dx=>
  show AVj l vs h r;show AsO;obtain⟨is,_,k,_⟩:=Aq2 h;exact⟨l,Β,_,k⟩
 case DC=>
  show AVj l vs h r;show AsO;obtain⟨is,_,k,_⟩:=kL (yT h);exact⟨l,Β,_,k.isList⟩
theorem z6s{A:Bi}{d d' :D}{v u:AJ}(hu0:Akn)(hf:Aq3)(a:Kn s d v)(b:Kn s d' u):BcP:=by
 cases d with
 | non=>
  show U_ a;cases d' with
  | non=>show wt (.XT _) .none_none .none_none
  | bl _=>show wt A0s A0s A0s
  | AU _=>show AVU A1l A1l A1l
  | AX _=>show AVU A1m A1m A1m
  | Dx _=>show AId A5i A5i A5i
  | DC _=>show AId A5j A5j A5j
  | _=>show AA_
 | bl _=>
  show U_ a;cases d' with
  | non=>show wt A0t A0t A0t
  | bl _=>show wt A1n A1n A1n
  | AX _=>show AVU A3g A3g A3g
  | Dx _=>show AId A5m A5m A5m
  | DC _=>show AId A5n A5n A5n
  | _=>show AA_
 | AU _=>
  show Afn a;cases d' with
  | non=>show wt A1o A1o A1o
  | AU _=>show ArF int_int int_int int_int
  | AX _=>show ArF int_str int_str int_str
  | Dx _=>show ArK BIi BIi BIi
  | DC _=>show ArK BIj BIj BIj
  | _=>show AA_
 | AX _=>
  show Afn a;cases d' with
  | non=>show wt A1p A1p A1p
  | bl _=>show wt A3h A3h A3h
  | AU _=>show ArF str_int str_int str_int
  | AX _=>show ArF str_str str_str str_str
  | Dx _=>show ArK BIk BIk BIk
  | DC _=>show ArK BIl BIl BIl
  | _=>show AA_
 | Dx _=>
  show Avf k1 a;cases d' with
  | non=>show wt A5k A5k A5k
  | bl _=>show wt A5o A5o A5o
  | AU _=>show ArG BIm BIm BIm
  | AX _=>show ArG BIn BIn BIn
  | DC _=>show AId A5' A5' A5'
  | _=>show AA_
 | DC _=>
  show Avf k1 a;cases d' with
  | non=>show wt A5l A5l A5l
  | bl _=>show wt A5p A5p A5p
  | AU _=>show ArG BIo BIo BIo
  | AX _=>show ArG BIp BIp BIp
  | Dx _=>show AId A6G A6G A6G
  | _=>show AA_
 | _=>show AA_
theorem Yd(I:AV)(sF:i8):∀(n:Δ) (A:Bi) (d d' :D) (x y:V) (v u:AJ),WC (AMY (AGq+n)) A'L Ap5 (EJ AG F d' y) pM RY BcP:=by
 intro n;induction n with
 | UN=>
  intro A d d' x y v u hu hc r r' rv ru;show Bpk h h h
  ·exact z6s Θ h BWl BWm
  ·show Pw
  ·show Pw
 | UO n ih=>
  intro A d d' x y v u hu hc0 r r' rv ru;have hu0:Akn:=Υ
  rcases zpn hc0 with h | ⟨_,xs,ys,h,Β,Β,hc⟩ | ⟨_,xs,ys,h,Β,Β,hc⟩
  ·exact z6s hu0 h BWl BWm
  ·show HK;show Bmp;obtain⟨is1,p1,k1,_⟩:=Aq2 h1;obtain⟨is2,p2,k2,_⟩:=Aq2 h2;have el1:AX3 is1.length:=BWC
   have el2:is2.length=NR:=BWD
   have at_:Bj1:=by
    intro j g1 g2;show FL g1' AYt (ANR el1 g1) g2' (j<NR) (ANR el2 g2) e1 (VQ xs xs[j]) (DL g1') e2 BSe (DL g2')
    show Ct w1 f1 m1 yN q1 e1;show Ct w2 f2 m2 yN q2 e2;show BU z1 c1 b1 p1.get f1;show BU z2 c2 b2 p2.get f2;have y1:Ax8=z1:=AqD c1
    have y2:Ax9=z2:=AqD c2
    simp only [e1,e2];rw[y1,y2];exact(ih qf _ _ w1 w2 z1 z2 BVw (hc j _ _ e1 e2) m1 m2 b1 b2).eq
   show BQ BVH;have XT:l1=l2 ->Aqj:=Lv (AgX z (yh0 I sF VC Y1 AP6 Aji (AhZ nu hc) Bc6) BjU z)
   have ev:(AXC (min AG5 ATr) all Azf&&AG5==ATr)=ϛ:=by
    have s1:AX3 AG5:=DL el1
    have s2:ATr=NR:=DL el2
    rw[s1,s2];by_cases hl:By=NR
    ·rw[z7f _ hl];exact zwe hl _ BdE
    ·rw[zuq hl,BIq hl,Ae4]
   have rc:=SeqAt.RcAt.tuples k1 k2 hu0 at_;have rn:=SeqAt.RcNeAt.tuples k1 k2 hu0 at_;rw[ev] at rc rn;refine BVm;show Bi4
  ·show HK;show Bmp;obtain⟨is1,p1,k1',_⟩:=kL (yT h1);obtain⟨is2,p2,k2',_⟩:=kL (yT h2);have k1:=k1'.isList;have k2:=k2'.isList;have el1:is1.length=By:=BWC
   have el2:is2.length=NR:=BWD
   have at_:Bj1:=by
    intro j g1 g2;show FL g1' AYt (ANR el1 g1) g2' (j<NR) (ANR el2 g2) e1 (VQ xs xs[j]) (DL g1') e2 BSe (DL g2')
    show Ct w1 f1 m1 yN q1 e1;show Ct w2 f2 m2 yN q2 e2;show BU z1 c1 b1 p1.get f1;show BU z2 c2 b2 p2.get f2;have y1:Ax8=z1:=AqD c1
    have y2:Ax9=z2:=AqD c2
    simp only [e1,e2];rw[y1,y2];exact(ih qf _ _ w1 w2 z1 z2 BVw (hc j _ _ e1 e2) m1 m2 b1 b2).eq
   show BQ BVH;have XT:l1=l2 ->Aqj:=Lv (AgX z (yh0 I sF VC tN A0L Aji (AhZ nu hc) Bc6) BjU z)
   have rcn:SeqAt.RcAt A s Aji (BY l2) (ji xs ys)/\Brd A s Aji (BY l2) (! ϛ):=by
    by_cases hl:By=NR
    ·have ev:A6U AG5 Azf=ϛ:=by
      have s1:AG5=By:=DL el1
      rw[s1];exact zwe hl _ BdE
     have hz:AG5=ATr:=Bas
     have rc:=ArO SeqAt.RcAt.lists at_;have rn:=ArO SeqAt.RcNeAt.lists at_;rw[ev] at rc rn;exact⟨rc,rn⟩
    ·have hz:(AG5 !=ATr)=Μ:=Bas
     rw[zuq hl];exact⟨ArO SeqAt.RcAt.lists_lengths,ArO SeqAt.RcNeAt.lists_lengths⟩
   obtain⟨rc,rn⟩:=rcn;refine BVm;show Bi4
def mC:Iq:=ø (nu 20 x y/\Ya (jy x y))
def pU:Iq:=ø (nu 20 x y/\Ya (! jy x y))
theorem mU(hu:AVg Ael):AAh Eq mC:=by
 rintro Ο s σ H x y u w Q I rx ry ⟨F,d1,d2,P,sF,r1,r2,h,k⟩;exact LX (Yd I sF 20 X.A d1 d2 x y u w hu Ee r1 r2 rx ry).rc (AJC Alx)
theorem vB(hu:AVg Ael):AAh NotEq pU:=by
 rintro Ο s σ H x y u w Q I rx ry ⟨F,d1,d2,P,sF,r1,r2,h,k⟩;exact LX (Yd I sF 20 X.A d1 d2 x y u w hu Ee r1 r2 rx ry).ne (AJC Alx)
#where
theorem zpr(BDJ)(X:Tl)(q:Aih)(D:Ζ){nm qn:Κ}{N:Ζ}{bs bm:At}{PM:AT}{sn:Ρ}{B_:At}{ab:AT}{col:Ajs}{dd:N4}{k0 k1 k2 k3 k5:fI}{newId:KE}
  (e:BoX newId):AcF (BY D)=aV K C D:=by
 unfold jh nD at q;split at q
 ·rename_i ho;have z:=X _ _ ho;rw[e] at z;unfold aV;rw[ho];show MR
  rfl
 ·show pS
section
variable{M:AS3}{A:Bi}{E:dW}{h:AM}{g:Ϣ}{d:AS0}{t:Δ}{os:ABH}
 {nm q nm' q' :Κ} {C N C' N' :Ζ} {bs bm bs' bm' :At} {PM BJ :AT} {sn Ye :Ρ} {B_ sub' :At} {ab Yg :AT} {col col' :Ajs} {dd G5 :N4} {k0 k1 k2 k3 k5 j0 j1 j2 j3 j5:fI} {newId newId' :KE}
theorem zg2(hC:AN1 C (BIY nm q C N bs bm PM sn B_ ab col dd k0 k1 k2 k3 k5 newId))(hD:AN1 C' (BIY nm' q' C' N' bs' bm' BJ Ye sub' Yg col' G5 j0 j1 j2 j3 j5 newId'))
  (he:gT oe) (hcls:AuM= HU) (JE:ApW bm'.contains) (hq:Q (AcF Az5) AM0):Bh4 (excMatches ED Az5):=by
 have cb:ApW (T' C' ::bm').ABe:=Bok JE
 have nt:=tc_notTuple;generalize hk:(T' C::bm).ABe Az5=k at hq
 repeat (first | (with_reducible refine Avg he;rw[hcls]) | show ADt hD | show Aiz hD cb | show Aiz hC hk | wp_step)
 cases (k)<;>(wp_walk;exact hq)
#where
abbrev _root_._2.Cx.hand(X:Cx)(a:Ζ):Cx:={X with A:=X.A.mark (Ε ED),calm:=AE}
section
variable{X:Cx}{Ο:d8}{σ:St}{H:Hp}{s:AC}{a:Ζ}
theorem yjt(ok:X.Ok)(a:Ζ):(ABu a).Ok:=
 Bmi (Au (AgL z))
theorem Rk(I:AV)(a:Ζ):Inv AgQ Ο σ H s:=A6K (yjt xc a)
theorem z33(ok:X.Ok)(z:Ow):A4N:=Bmi ok.hd
theorem ya0(I:Aob):Inv BAM [] σ H s:=
 Bbv (DT hp)
theorem Vf(I:Inv BAM sJ σ H s):Aob:=
 Bbv (zP _ hp)
theorem yms{z:Ow}{xe:dW}{D:kH}{f:Flow}{sJ :d8}(h:SP BAM sJ D f s):Aot s:=by
 cases f with
 | Kx=>show A6L
 | brk=>show A6L
 | OE=>show A6L
 | ret u=>obtain⟨v,DI,H',I,r,q⟩:=h;exact⟨v,DI,H',Vf I,r,q⟩
theorem Yh(ok:A4N)(I:Inv BVJ Ο σ H s):Aob:=
 A6K ok
theorem zy3{z:Ow}{xe:dW}{D:kH}{f:Flow}(ok:A4N)(h:SP BVJ Ο D f s):Aot s:=by
 cases f with
 | Kx=>show A6M
 | brk=>show A6M
 | OE=>show A6M
 | ret u=>obtain⟨v,DI,H',I,r,q⟩:=h;exact⟨v,DI,H',Yh ok I,r,q⟩
#where
def jO:XW:=zt
theorem yt.base(Ayv){D2:rB}{D:kH}(k:Ao4 F)(g:Ari):yt K F H0 F D2 D:=
 ⟨BGI k.nx,BGI k.bk,BGI k.ct,BFv (k.rt d v F' H' A2x r h),BFv (k.rf d v F' H' A2x (zva (z46 g.f) d v r) h),fun t v as F' H' gr nd hn r h=>k.rT t v as F' H' A2x nd hn r h,fun d v Γ F' H' σ R r h=>k.rm d v Γ F' H' σ BnX r h⟩
section
variable{X:Cx}{Ο:d8}{σ:St}{H:Hp}{s:AC}
theorem Hf:Ctx (yA ⟨zt,pn⟩) F0 H0 jO:=
 BmZ (MG _ PassesOwnAt.never)
theorem yam(I:AV)(hN:XA)(hi:Ayy)(hk:Ayc)(hσ:A3H)
  (h:Aaw (AMN (ACd Η) H s')):u8 (unbindName BE n):=by
 show BhS;show AEa r l (hl i n v hi hσ A0');have hm:m n=Ε u:=by
  rcases l with ⟨_,e⟩ | ⟨k,_⟩
  ·exact e
  ·have k' :Awi cz\/Awi Sn:=k;rw[hk] at k';rcases k' with k' | k' <;>(show MQ k' k' k' k' k' k' k' k' k' k' k' k' k' k')
 have hcls:BfC:=BLb
 have hiσ:A0P:=OT hσ;have cne:=I.cne;refine wpAny_unbindName_local hk hn hm hcls (M' h' u' hn' hs);have old:BSj:=BZk;refine h _ (Bec (OQ ob e))
 ·exact AaZ A2h Aqf
 ·show ArM;exact⟨sl,Æ hs A2h e1⟩
 ·show Ab_;exact⟨o',Æ hs A2h e1⟩
 ·have hj:AAn:=Au (by
   subst z;show Bos;show ny)
  show A5d hj;obtain⟨w,r',q⟩:=hl j y v' e1 e2 e3;refine CU w r';show Azt q k e k e z
  ·refine .DH (C5 k);have:y≠n:=Lv (hj (zvq hN hi (e ▸ e1)));simp [Τ,e]
  ·exact C_ ⟨k,c,e,AsF⟩
 ·show FC w' z kG y c e;exact⟨w',AsF⟩
 ·show BFx (BDV ne)
 ·refine Ban (fun c w' hc q=>Bbc) AXw nr;rintro Β;rcases hc with z | hc
  ·rw[<- z,xN] at e;show Do
  ·show Lc xN hc hc hc hc hc hc hc hc hc hc hc hc hc hc hc
#where
def lV(K:AA)(Cd:Ζ)(tb th:aF):aF:=Bhl (th D Ω jO)
def gZ(K:AA)(Cd:Ζ)(i:Δ)(tb th:aF):aF:=Bhl (th BjW (ABs i (.pu A9Z)) jO)
def cU(g:AvS)(ta:cD):cD:=cK ta d (g d fun d' =>(HZ d'))
def gM:AvS:=fun x P=>(UV x GG (Y3 (-i)))
inductive OD (K:AA) (g:WN) (vs:AQ) (H:Hp) (Q:VK):Ι
 | mk:BgA Bkg OD
def wg(K:AA)(g:WN):ĕ:=fun vs H Q=>OD K g vs H Q
def je(g:WN)(t:c7):cD:=Z' (g ds fun d=>(HZ d))
def cM:Iq:=ø (match x,y with
 | VU,GG=>Ba_
 | da,GG=>Ba_
 | AkN,GG=>∃c,A0X/\BTj/\P (M3 AaR)
 | _,_=>D6)
theorem zvx(OA){ds:AR}{vs:AQ}{i:AB}{d:D}(r:MV)(h:AIb ds d):AaL (AIb vs v):=by
 unfold o9 at h⊢;rw[<- kE r];cases q:yq OI i with
 | Η=>rw[q] at h;show HK
 | Ε j=>
  rw[q] at h;exact yN r h
section
variable{X:Cx}{F0 H0:Hp}{a b e:AK}{es:C7}{Ψ p:AN}{ta tb te:cD}{t:c7}{x:Κ}
theorem Jo(ha:ZT):EW (.AtO .USub a Ψ) (cU gM ta):=fun z E cx=>
 oh (yo9 yoq G1) (NI BO BO (Ab5 (by
  cases d with
  | AU i=>
   exact⟨i,r,BDN q⟩
  | _=>show tz)))
theorem yhb{K:AA}{g:WN}{E:XW}{σ:St}{H:Hp}{Q:VK}(h:AH3 Jg A_X):Bae wg:=Afm P h (Bic (fun d z F' H' gr rz hp=>k d Ω F' H' z AIa A2U rz hp))
theorem sY{id:KE}{g:WN}(hc:∀z,fj JO Ų (wg AG g))(hg:J_)(hm:AAR)(hv:ϴ Ų)(ha:TZ)(hn:ϕ :=by decide)(hdb:HH:=by decide)
  (uB):EW nE A_X:=fun z E cx=>
 oh (AbW U3 AkB hv hn hdb EI) (ĝ yhb)
theorem eY(ha:ZT)(hb:Ϭ)(hs:zzn b):Al5 a b (OV ta tb):=fun z E cx=>
 oh (Sb ynt r (uR AG cM) (by
  rintro FE kU Ο s σ H x y v u Q I rx ry ⟨F,d1,d2,P,sF,r1,r2,h,k⟩ hs;show D' cM;show N9
  ·show AFY r1;subst r2;show RE d e hp;show Ct w ew tZ zvx rs e;exact z7u FE kU Ο s σ H _ _ v u Q I rx ry ⟨p,vs,_,w,Β,Β,yT hq,ew,sT tZ hp⟩ hs
  ·show AFY r1;subst r2;show RE d e hp;show Ct w ew tZ zvx rs e;exact yml FE kU Ο s σ H _ _ v u Q I rx ry ⟨p,vs,_,w,Β,Β,uQ sF hq,ew,sT tZ hp⟩ hs
  ·show AKg;show sA c hz e hp;exact yno FE kU Ο s σ H _ _ v u Q I rx ry ⟨_,_,c,Β,Β,hz,e,sT JS hp⟩ hs
  ·show HL) G1 N_ hs) (ĝ yfb)
#where
def uf:WN:=AU7 GG (Y3 AcT)
def mV:WN:=AUf (match ds with | [VU]=>BLy | [da]=>BLy | [AkN]=>D7 ATQ/\Y3 ATQ | _=>D6)
def yc:WN:=BaF (j>i)
def yd:WN:=BaF (j<i)
section
variable{X:Cx}
theorem ydo:AQw "abs" uf:=by
 show pV;show D' uf;show N9
 ·show Ans;exact AOd yfq (OS AAj)
 ·show HL
theorem Aw:AQw ALK mV:=by
 show pV;show D' mV;show N9
 ·show AAy;rw[tP] at h;exact AOd zn5 (TU p ApX AAj)
 ·show AAy;rw[tP] at h;exact AOd zn5 (TU p Apa AAj)
 ·show Ans;exact AOd zy8 ⟨_,Β,Ee,Alx⟩
 ·show HL
#where
def tyD:D ->M1 KE
 | BH=>Ε "NoneType" | ly=>Ε ASl | dc=>Ε ALJ | i7=>Ε "str" | AYb=>Ε pd | og=>Ε L7 | ϸ=>Η | AEr=>Η | A3f=>Η | ă=>Η | Ċ=>Η | AQR=>Ε xo
def Rm(d:D)(T:KE):Ajs:=(tyD d).bind fun S=>BbP
def jJ(T:KE)(ta:cD):cD:=cK ta d (Bi2 (HZ AP_))
theorem z5x(K K' :AA)(S T:KE):Aee K AiT ua=Aee K' AiT ua:=Β
section
variable{X:Cx}{Ο:d8}{σ:St}{F H:Hp}{s:AC}
theorem yoi(I:AV)(sF:i8)(r:Ap5)(rx:å)(hS:tyD d=Ε S)(e:Bcc AiT)
  (h:BdU):BVF:=by
 cases d with
 | non=>show ArY (BH)
 | bl y=>show ArY (.bl y)
 | AU y=>show ArY (GM y)
 | AX y=>show ArY (M3 y)
 | Dx xs=>
  show AD hS hS hS hS hS hS hS hS hS hS hS hS hS hS;show Ai6 hq;show KA;obtain⟨AW,_,⟨o,h1,h2,_⟩,_⟩:=Aq2 hq;exact nN Bq1 Ane
 | DC xs=>
  show AD hS hS hS hS hS hS hS hS hS hS hS hS hS hS;show Ai6 hq;show KA;obtain⟨AW,_,⟨o,n,h1,h2,_⟩,_⟩:=AKi;exact nN BH0 Ane
 | exc C=>show Acx
 | ptr _=>show Acx
 | obj _ _ _=>show Acx
 | dic _ _=>show Acx
 | qJ _ _=>show Acx
 | dik ks ds=>
  obtain⟨p,o,vs,Β,hq,_⟩:=r;show AD hS hS hS hS hS hS hS hS hS hS hS hS hS hS;show KA;obtain⟨_,_,_,ws,_,o',es,ep,h1,h2,_⟩:=(AIP p ADY p A9');exact nN BH1 ⟨o',h1,h2.1⟩
#where
section
variable{X:Cx}{F0 H0:Hp}{a:AK}{Ψ p pt:AN}{ta:cD}{x:Κ}{T:KE}
theorem yhe(ha:ZT)(hg:Gl X ALN)(hm:Q4 ALN)(hgT:J_)(hmT:AAR)(hv:ϴ ua)(hn:ϕ :=by decide)(hd:HH:=by decide)
  (he:fR BSg a [.kK x pt]:=by rfl) (he2:Axa [.kK x pt] (XZ (rX pt)):=by rfl):EW (AUh ALN BSg) (jJ T ta):=fun z E cx=>by
 have pT:PE JO (rX pt) (tC (.ty T)):=Da yls hgT hmT hv Β hn hd;refine oh (U3 (X:=Afi) (id:= ALN) (r:=fun vs H Q=>∃(F:Hp) (d:D) (x:V) (P:GN AT),vs= [x,.ty T]/\i8/\Ap5/\ (Bi2 (P b))/\MH (P b) (Q AP_ H)) ?_ hg hm boot_isinstance (Lj G1 (Lj pT Ou (WB he2)) he) Φ Φ he (WB he2)) (Sf Bc_ ?_)
 ·rintro Ο s σ H xs us Q I r ⟨F,d,y,P,e1,sF,rd,hb,k⟩;subst e1;show Fu u w ru tZ (vals2 r);show GU (w=Ad6 T) tZ;unfold Rm at hb;cases hS:tyD d with
  | Η=>show ND hS hb hb.elim
  | Ε S=>
   rw[hS] at hb;cases hk:BbP with
   | Η=>simp only [Brf,hk] at hb
   | Ε b=>
    simp only [Brf,hk] at hb;exact yoi I sF rd ru hS (z5x AG [] S T ▸ hk) fun tk=>⟨ox,H,I.tok tk,Β,k b hb⟩
 ·refine ib ⟨F1,d,v,ir (HZ AP_),Β,LU,r1,h1,fF hp (BDN hp)⟩
#where
def cX(C:Ζ)(t:c7):aF:=A6v (AZs (E Ω KU))
section
variable{X:Cx}{F0 H0:Hp}{e:AK}{es:C7}{Ψ np HC:AN}{t:c7}{x:Κ}{C:Ζ}
theorem zv3(hh:F7)(hg:J_)(hm:AEM)(hC:kJ AG C)(ha:TZ)
  (hd:HH:=by decide) (AlV):
  fS AzH (cX C t):=by
 rintro z E cx Ο s σ H D I ⟨F,Γ,D2,R,h,k⟩;refine Sb ycz E (fun C' dx H1=>∃F1 Ω,AVN/\E Ω KU) hg hm hC G1 hh I (l6 ⟨Nw (kE r1) n9,F1,Ω,R1,Ϝ⟩) (fun H1 s1 e s' I1 hx=> ?_) hd he EI
 obtain⟨a,C',H',B,dx,h1,h2,h3,h4,h5,h6,h7,h8,Β,h9,Β,F1,Ω,R1,hE⟩:=hx;exact ABt Ο σ Ω F1 _ s1 e s' I1 R1 ⟨a,_,_,B,dx,h1,h2,h3,h4,h5,h6,h7,h8,_,_,hE,ef LU,Β,h9⟩
#where
structure cL (AKt) (mg:EN) (C3:AM) (x:Κ) (k:Δ) (ps:Ρ) (sp:dM):Ι where
 ex:BBS pA
section
variable{X:Cx}{F0 H0:Hp}{e:AK}{es:C7}{Ψ p:AN}{x:Κ}{ps:Ρ}{k:Δ}{sp:dM}{t:c7}
theorem cJ(Ar9 cL):
  EW nE (aA sp t):=by
 show AcJ h1 h2 h3 h4;exact z8d h1 hr hg h2 h3 h4 ha hdb he EI
#where
section
variable{X:Cx}{Ο:d8}{σ:St}{H:Hp}{s:AC}{a:Ζ}{o:HO}
theorem Inv.track(I:AV)(hn:Ü)(ok:AHS (ANI o) A9 a o)(n0:MI AeE)(nl:BMI)(nc:ADv a)(np:Ahz a):QY (ANI o) s:=by
 refine⟨xc,I.os,Ĳ,⟨AtC,AtE,Jn b u e n hx,BHV,OQ xs e,YY xs e ?_,OQ ps e⟩,pp,kG,?_,ARQ,ip,MX,AGd⟩
 ·show AJk (Ap7 n0);exact BS4 e hx
 ·have q:=AeG b xs e;show sK q hn;exact q
 ·have q:=AS1 b u xs e;show sK q hn;exact q
 ·show FC m q AeH b ps e;exact⟨m,AKd⟩
 ·rw[ADc nl];exact xN
 ·rw[bJ (nc x c e)];exact AGc x c e
 ·show BFx ⟨e,MS (np p hp) n,ne,nf,d⟩
 ·by_cases hb:b=a
  ·subst hb;show AFy gU ok
  ·rw[ub] at e;exact BoR (fun c v _ q=>q) (hZ q AKd) fun c xs q=>AKd
#where
def zvd:dM:=Arq A2f
theorem zl3(OA):∀ns:CI,Qr AMo Awn
 | []=>OU
 | n::ns=>uc JS (zl3 ns)
theorem z8b{K:AA}{H:Hp}{a:Ζ}{ns:CI}(hl:AhF)(hS:Apu):pA K zvd NG H A_S ϖ:=
 ⟨H,[AV7],fun d=>d= ADi,tj,sf,Lr (B0 ⟨a,_,Β,hS,zl3 ns⟩),A_9 Β,BFv (by subst h;exact r),ASJ _ h AG0⟩
theorem yfc(h:fU P w [] H s (ϖ) e s'):D6:=by
 obtain⟨_,_,_,_,_,_,_,_,_,_,_,_,_,h⟩:=h;exact h
structure Cls where
 fZ:Ζ:=0
 Rn:Ζ:=0
 abC:Ζ:=0
 abD:Ζ:=0
 acn:Ζ:=0
 Missing:Ζ:=0
 Yi:Ζ:=0
 qM:Ζ:=0
 Apart:Ζ:=0
 aay:Ζ:=0
 bh:Ζ:=0
 Open:Ζ:=0
 gA:Ζ:=0
 Vg:Ζ:=0
 aco:Ζ:=0
 Scale:Ζ:=0
 acq:Ζ:=0
 ao:Ζ:=0
 acr:Ζ:=0
structure Jp (AFh):Ι where
 ga:Awf Ad2 AGY
 gn:Ala BGs
 cl:BUn
 ob:AnO C
 be:A4' C
def lW(K:AA)(C:Ζ)(ta:cD):cD:=BeX (aV K C0 C)
section
open AK7 PySem.Builtin PySem.Builtin.ObjectAttr PySem.Builtin.Getset_descriptor
variable{CY:A0}{w:An}{A:Bi}{E:dW}{K:AA}{h:AM}{g:Ϣ}{d:AS0}{t:Δ}{os:ABH}{a C:Ζ}{o:Obj}
theorem zul(X:Tl)(G:Jp K C)(hx:AAX)(hc:AmM)(hq:Q () AM0):Bh4 (BIr AGY (GY [CF,nameV])):=by
 have hk:builtinKind AGY =Ε .LN:=AI
 have hsp:A2y AGY AsY Ad2:=AI
 have ha:=F.args_bexc_ga ED nameV;have L1:=looks_mroIn (M:=M) X G.be;simp only [BIr,hk,hsp];refine Y_;unfold AG6
 repeat (first | (with_reducible refine Avg hx;rw[hc]) | with_reducible refine L1.at ?_ | wp_step)
 exact hq
#where
theorem z67:∀(I_:nk) (n:Δ) (A2:ϥ),(∀p∈I_,BTP) ->Ana n I_ A2 x=acc.lookup x
 | [],_,_,_=>Β
 | A_d,n,A2,h=>by
  unfold xt;have hr:VS r BTP:=AnQ;split
  ·rename_i hk;have hy:y≠x:=h (y,k) zY AkA
   rw[BXT,XU];have:ky x y:=BS' hy
   rw[Τ]
  ·exact BXT
theorem z6i:∀(I_:nk) (h:AM) (A2:ϥ),AaA (xt Mm I_ A2) ->AaA A2\/ (Mm<=c/\ (AL5 h I_).IsCell c Η/\ BMX I_)
 | [],_,_,m=> .DH m
 | A_d,h,A2,m=>by
  unfold xt at m;unfold AL5;split at m
  ·rename_i hk;show DU hk;have sz:AN2 (AUN "cell" cell Η) į=Mm+1:=APU;rw[<- sz] at m;show BDo (z6i r _ _ m)
   ·rcases AhS with e | z
    ·cases (e);have e2:k= cz:=C6 hk
     subst e2;refine .BD ⟨OZ,?_,zY⟩;exact N0 (BIs r _ _ _ ApN)
    ·exact CS z
   ·exact C_ ⟨by rw[sz] at z1;show AF,z2,zW _ z3⟩
  ·rename_i hk;show A7 hk;show BDo (z6i r h A2 m)
   ·exact CS z
   ·exact C_ ⟨z1,z2,zW _ z3⟩
theorem zwb:∀(I_:nk) (n:Δ) (A2:ϥ),(acc.Pairwise fun x y=>ApB) ->(∀p∈A2,p.2<n) ->(xt n I_ A2).AuW fun x y=>ApB
 | [],_,_,h,_=>h
 | A_d,n,A2,h,hl=>by
  unfold xt;split
  ·refine zwb r _ _ (BIt ⟨li p hp,h⟩) ip
   ·have e' :n=p.2:=e;exact yU _ (Nat.lt_of_lt_of_eq (hl p hp) e')
   ·rcases EQ hp with Β | hp
    ·show Ale
    ·show AYA (hl p hp)
  ·exact zwb r n A2 h hl
def ug(Be:Env):nk ->ϥ ->ϥ
 | [],cs=>cs
 | AnH,cs=>ug Be r (CD (k== Sn) ((n,(ASv n).XL 0)::cs) cs)
theorem yik(h:VS AGs AwV):closureFor Kt Be=Hn BWG:=by
 have A6:∀(I_:nk) (cs:ϥ),A7s ->
   (forIn I_ cs fun(x:Κ×ATL) (r:ϥ)=>(if x.2== Sn then do let a<- cellOf Be x.1;AnX ((x.1,a)::r) else AnX r:Sem _))=Hn (ug Be I_ cs):=by
  intro I_;induction I_ with
  | D8=>intro cs _;rfl
  | AY p r ih=>
   intro cs hh;obtain⟨n,k⟩:=p;have hr:A7j:=AhM hh;rw[BIu];unfold ug;by_cases hk:A_K
   ·show FC c e hh ADp zY AkA
    have e' :cellOf Be n=Hn c:=by unfold cellOf;rw[e]
    simp only [hk,xx,e',pure_bind,e,Option.getD_some];exact ih _ hr
   ·have hk' :ky k AuX:=C6 hk
    simp only [hk',Ae6,ALw,pure_bind];exact ih _ hr
 unfold closureFor;have:=A6 AGs [] h
 simpa using Τ
theorem zu5:∀(I_:nk) (cs:ϥ),A7s ->AaA (ug Be I_ cs) ->AaA cs\/ (AmB I_/\AZL)
 | [],_,_,m=> .DH m
 | AnH,cs,hh,m=>by
  have hr:A7j:=AhM hh;rcases zu5 r _ hr m with z | ⟨z1,z2⟩
  ·split at z
   ·rename_i hk;rcases AhS with e | z
    ·cases (e);have e2:k= Sn:=C6 hk
     subst e2;show VX c (hh (_,Sn) zY Β);refine .BD (C5 zY);have e' :AZL:=e;rw[e'];rfl
    ·exact CS z
   ·exact CS z
  ·exact C_ ⟨zW _ z1,z2⟩
theorem zo8(e:AZL):BdX ((AmB I_\/AHT cs.lookup) ->(∀c',GT cs.lookup c' ->c' =c) ->AHT (ug Be I_ cs).ABj)
 | [],cs,h,_=>by
  rcases h with h | h
  ·show Pw
  ·exact h
 | AnH,cs,h,hu=>by
  unfold ug;by_cases hk:A_K
  ·show DU hk;by_cases hn:x=n
   ·subst hn;refine BYK (FV ?_)
    ·rw[XU];simp [e]
    ·rw[XU] at q;simp [e] at q;exact AuY
   ·have hb:ky x n:=CL Brg hn
    refine BYK ?_
    ·rcases h with h | h
     ·rcases AJa with z | z
      ·cases (z);exact cf Β hn
      ·exact CS z
     ·refine .BD ?_;rw[XU,hb];exact h
    ·rw[XU,hb] at q;exact hu c' q
  ·show A7 hk;refine zo8 e r cs ?_ hu;rcases h with h | h
   ·rcases AJa with z | z
    ·cases (z);exact cf Β hk
    ·exact CS z
   ·exact C_ h
theorem zmz(inj:BDh AZL (ASv y=Ε c)):BdX (BC (names.map (·.1)).OC A7s (cs.Pairwise fun x y=>ApB) (∀p∈cs,env.cells.lookup p.1=some p.2/\p.1∉names.map (·.1)) ((ug Be I_ cs).AuW fun x y=>ApB))
 | [],_,_,_,h,_=>h
 | AnH,cs,nd,hh,h,hc=>by
  unfold ug;rw[GL,Ae7] at nd;have hr:A7j:=AhM hh;have hc' :VS cs (ANm ASv/\DJ∉r.map (·.1)):=õ ⟨AO2 hc,Au ((hc p hp).2 (EM GL (zW _ z)))⟩
  by_cases hk:A_K
  ·show DU hk;show FC c e hh ADp zY AkA
   have e' :ASv n=Ε c:=e;rw[e'];refine zmz inj r _ nd.2 hr (BIt ⟨As p hp z,h⟩) ip
   ·have z' :c=p.2:=z;have q:=AO2 hc;rw[<- z'] at q;have:=inj _ _ _ e' q;exact(hc p hp).2 (by rw[GL,<- Τ];exact zY)
   ·rcases EQ hp with Β | hp
    ·exact⟨e',nd.1⟩
    ·exact hc' p hp
  ·show A7 hk;exact zmz inj r cs nd.2 hr h hc'
theorem zht{Kt:Op}{Be:Env}{x:Κ}:∀(I_:nk) {k:ATL},GT BIv k ->GT BeN k\/
   (k= Sn/\ ANW BeN)
 | [],_,h=>AQo
 | (n,k0)::r,k,h=>by
  have ih:= @zht Kt Be x r k;show B1 (Bgd\/ (_/\Bgd));cases hx:x==n with
  | Μ=>
   simp only [XU,hx] at h;show HK;by_cases hc:AzQ
   ·show DU hc;simp only [eS] at hc;exact C_ ⟨C6 hc.1.1,by show AnV⟩
   ·show A7 hc;exact CS (by show AnV)
  | AE=>
   simp only [XU,hx] at h;by_cases hc:AzQ
   ·show DU hc;show AnV;exact ih h
   ·show A7 hc;show AnV;exact ih h
def mX(Kt:Op)(C:Ζ)(Be:Env):Env:=
 {Kt:=relabel Kt Be,locals:=C,globals:=env.globals,cells:=xt (C+1) AGs BWG,E2:=env.qual,func:=Η,code:=env.code,frame:=env.frame,builtins:=env.builtins}
def blk(X:Cx)(Kt:Op)(N:Ρ)(C:Ζ)(K_:AC)(SG:Hp)(fp:CH):Cx:=
 {X with Be:=mX Kt C BE,N:=N,K_:=K_,SG:=SG,DD:=O_,stack:=O_,ex:=fp,fn:=Tk (Atx x==Ε cz),pn:= [],xe:=zt}
def Ax(A5:Δ)(Fk:DA)(σ:St):St:=AX' A5 Η++BIw (Fs A'z)
structure mD (N:Ρ) (sc:Op) (A5:Ρ) (Fk:DA) (Be:Env) (N' :Ρ):Ι where
 kind:A6O
 nd:N'.Nodup
 snd:BL4
 eJ:Bdy ASu ASu
 I_:BdR
 Fk:Bhr
theorem yb0
  (hQ:Q (newEnv Kt Cl g (xt oa AGs cl) q Η BM (D9 Be) As8) (BR_ AGs)):
  u8 (Brh Kt g cl [] q Η BM (D9 Be)):=by
 simp only [Brh,BrR,xx];refine lP wpAny_alloc;refine z6 (wpAny_layCells _ (fun EB kind cells=>by cases hkc:kind==AuV<;>simp [hkc]) _ _ _ _ ?_)
 rw[sN (AVn mw:AC).heap.objs.size Ϡ APU];exact z6 (z7 (z7 hQ))
section
variable{X:Cx}{Ο:d8}{σ:St}{H:Hp}{s:AC}{sc:Op}{A5:Ρ}{Fk:DA}{N' :Ρ}{fp:CH}
theorem zph(I:AV)(S:AGG):VS P8 (Bko As_):=fun p hp hk=>I.ok.has _ (AuZ p hp hk)
theorem zla(I:AV)(S:AGG)(e:A1v):
  (AHi/\P1 c/\BLB≠Ε cz)\/ (Ϡ<=c/\ (AL5 BN3 P8).IsCell c Η):=by
 have m:=AL6 e;have sz:AOE mw=Ϡ:=APU;have m' :AaA (xt (AOE mw) P8 BWH):=CL sz m
 show BDo (z6i P8 _ _ m')
 ·rcases zu5 P8 [] (zph I S) z with z | ⟨z1,z2⟩
  ·show AIf
  ·show FC v hc kG x c z2;refine .DH ⟨z2,hc.lt,II q⟩;have q' :=AL6 q;have:=S.snd;show BTJ;have d:∀(l:nk),BBm ->AmB l ->BMX l ->D6:=by
    intro l;induction l with
    | D8=>show Aqr
    | AY a r ih=>
     intro hp h1 h2;show FX p1 p2 Ae9 hp;rcases EQ h1 with e1 | h1<;>rcases EQ h2 with e2 | h2
     ·rw[<- e1] at e2;cases (e2)
     ·exact p1 _ h2 (by rw[<- e1])
     ·exact p1 _ h1 (by rw[<- e2])
     ·exact ih p2 h1 h2
   exact d _ Τ z1 q'
 ·exact C_ ⟨by rw[sz] at z1;exact z1,z2⟩
theorem z04(I:AV)(S:AGG)(hk:AQT ALS)(e:AHi):A1v:=by
 show AHT (xt _ P8 BWH).ABj;rw[z67]
 ·exact zo8 e _ _ (HG A7M) fun c' q=>BpW
 ·intro p hp hc z;have q:=AL6 hk;have:=S.snd;show BTJ;have d:∀(l:nk),BBm ->AmB l ->p∈l ->D6:=by
   intro l;induction l with
   | D8=>show Aqr
   | AY a r ih=>
    intro hpw h1 h2;show FX p1 p2 Ae9 hpw;rcases EQ h1 with e1 | h1<;>rcases EQ h2 with e2 | h2
    ·rw[<- e1] at e2;subst e2;show AD hc hc hc hc hc hc hc hc hc hc hc hc hc hc
    ·exact p1 _ h2 (VZ e1 ABv)
    ·exact p1 _ h1 (VZ e2 z)
    ·exact ih p2 h1 h2
  exact d _ Τ q hp
theorem z30(I:AV)(S:AGG)(Yj:Bgw A4G)(i:Δ)(x:Κ)(v:V)(h1:r6 N')(h2:FG AO5 É):
  ∃u,OX/\Look (BBp Cl) h' m' x u:=by
 have h2' :FG AO5 É:=h2;have h1' :r6 N':=h1;unfold Ax at h2';rw[S.names] at h1';by_cases hi:i<AG7
 ·rw[AFW,ATN] at h2'
  split at h2' <;>(show MQ h2' h2' h2' h2' h2' h2' h2' h2' h2' h2' h2' h2' h2' h2')
 ·show AjZ AFV Aty h2'
  show AX8 (Aeg Θ) h1'
  cases hj:Fk[i - AG7]? with
  | Η=>show Lc hj h1' h1' h1' h1' h1' h1' h1' h1' h1' h1' h1' h1' h1' h1' h1'
  | Ε j=>
   rw[hj] at h1' h2';show n_ j1 j2 (S.caps j (yX hj));have hx:X.N.getD j "" =x:=C6 h1'
   have hσ:VQ σ É:=by
    have:A'z=Ε v:=C6 h2'
    cases q:σ[j]? with
    | Η=>show Lc q Τ Τ Τ Τ Τ Τ Τ Τ Τ Τ Τ Τ Τ Τ Τ
    | Ε o=>show D5 q;have:o=Ε v:=Τ;rw[Τ]
   rw[hx] at j2;have hN:VQ X.N x:=by
    rw[QQ,zS j1] at hx;rw[AK1 j1]
    simpa using hx
   show F6 m hn hloc pp;have kx:=AuZ (x,Sn) (AL6 j2) Β;have vis:OY:=by
    rcases kx with k | k
    show AAL (HG k)
    show AAL (FV k)
   show AEa ru l (hloc j x v hN hσ vis);refine⟨u,ru,.BD AkJ⟩
   ·rcases Bkf j2 with h | ⟨_,h⟩
    ·exact C_ h
    ·exact CS h
   ·rcases l with ⟨k,_⟩ | ⟨_,c,ec,hc⟩
    ·have k' :AUo ALU:=k;have kx' :ANW ALU\/AQT ALU:=kx;rw[k'] at kx';rcases kx' with z | z<;>(first|subst z|show AHG|show AHI|show AHK|show AHJ|show AHM|show AHL|show AHN|show AHO|show ON z|show OL z|show NX z|show OM z|cases (z))
    ·exact⟨c,z04 I S j2 ec,Yj x c _ ec hc⟩
theorem yai(I:AV)(S:AGG)(hf:AZp)(hl:l9 (P1 b)):
  Inv BCW [] AO5 H (BR_ P8):=by
 have KG:AWG PD (AL5 BN3 P8).Hm:=Q1 Bfb;have ok:=xc;have inj:BDh A1v (Bnd y=Ε c):=fun x y c e1 e2=>by
  refine Bq8 (cs:=Aww cells) ?_ (AL6 e1) (AL6 e2);refine zwb _ _ _ (zmz ok.inj _ _ S.snd (zph I S) ATe (fun p hp=>(sq hp hp hp hp hp hp hp hp hp hp hp hp hp hp))) ip
  rcases zu5 (x:=DJ) (c:=p.2) P8 [] (zph I S) hp with z | ⟨_,z⟩
  ·show AIf
  ·obtain⟨v,hc⟩:=kG _ _ z;show AYA hc.lt
 show FY frC (MH (tT b) N3) (E4 (AtH hb)) abE (Aww scope.kind= AMj) Atw ⟨⟨ok.mod,abE,ok.glob,ok.blt,OZ,inj,AoH,M' x c hfn e,ok.hd,ok.frames,APv,ſ (zK (hl b hb)) Ba5,I.bs,zO ok.bsz I.sz,ADJ e hb,OQ hb z,I.stack,I.stkFree⟩,
  Β,Ĳ,ASr KG,EL ((Heap.Ns.new A9 (Nc xo)).keeps (BIs _ _)) (fun i x v h1 h2 h3=> ?_),ARQ,frC _ Gc,ARQ,BEz,I.hok.kept KG,?_⟩
 ·
  have hx' :ANW BDb\/ AQT BDb:=hx;have:∃k,GT ALS k:=by
   have A6:∀(l:nk) (k' :ATL),GT (EV fun ADp=>if (BM8 k&&BMx) then Ahe else ADp).ABj k' ->∃k,GT l.lookup k:=by
    intro l;induction l with
    | D8=>intro k' h;simp at h
    | AY a r ih=>
     intro k' h;obtain⟨n,k0⟩:=a;cases hb:x==n with
     | Μ=>exact⟨k0,c8 XU hb⟩
     | AE=>
      have h2:Ĺ x ((CD (VW (BM8 k0) BMx) Ahe (n,k0))::(r.map _))=Ε k' :=h;obtain⟨k,hk⟩:=ih k' (by
       split at h2<;>(simp only [XU,hb] at h2;exact h2))
      exact⟨k,by simp only [XU,hb];exact hk⟩
   rcases hx' with h | h
   ·exact A6 _ _ h
   ·exact A6 _ _ h
  show n_ k hk Τ;rcases Bkf hk with h | ⟨h1,h2⟩
  ·have hkk:k= cz\/k= Sn:=by
    have h' :GT BDb k:=h;rcases hx' with z | z<;>rw[z] at h' <;>(show MQ h' h' h' h' h' h' h' h' h' h' h' h' h' h') <;>simp
   rcases hkk with Β | Β
   ·exact Bq6 (BH5 P8 _ _ A0')
   ·show VX c (ok.has x (AuZ (x,Sn) A7M Β));exact⟨c,BbA⟩
  ·subst h1;show VX c (ok.has x (AuZ (x,Sn) A7M Β));exact⟨c,BbA⟩
 ·
  have abF :AaO:=by
   have:Ŕ BLB (Ε AuV):=hfn
   simpa using Τ
  rcases Aq9 with ⟨_,_,z⟩ | ⟨z,_⟩
  ·show MT abF z
  ·show BQ (tT c);exact Aua z
 ·rcases Aq9 with ⟨z1,_,_⟩ | ⟨z1,_⟩
  ·exact A1_.2.2.2.2.1 x c z1 z
  ·have:=hl b hb;rw[<- z] at Τ;exact yU _ (zM Τ (Aua z1))
 ·have q:=(AOk hf).2.1;rcases q with q | q
  ·exact ok.IV b o e q
  ·have q2:b<BqR:=zG e;exact yU _ (zM q2 (zO ok.bsz q))
 ·rcases A'3 z with z | z
  ·exact AN5 hf z
  ·exact(sj hf).2.1 z
 ·exact BlR (fun x c v _ hc=>BNy)
 ·rcases Aq9 with ⟨z1,_,_⟩ | ⟨_,z⟩
  ·show FC v hc kG x c z1;exact⟨v,BNy⟩
  ·exact E6 z
 ·rcases Aq9 with ⟨z1,_,_⟩ | ⟨z,_⟩
  ·exact AGc x c z1
  ·exact frC c (Aua z)
 ·show BQa=N'.length;rw[S.names];unfold Ax;simp
theorem z8a(I:AV)(S:AGG)(hf:AZp)(B:Inv BCW sJ σ5 H5 s5):
  Inv BCW sJ AO5 H5 s5:=by
 obtain⟨m,hn,_⟩:=B.loc;have kc:Bgw (s5.heap.IsCell c v):=fun x c v e (AFH hd)=>by
  have nx:c∉fp:=Au (BBW (hf c z).2.2.2);by_cases hc:c∈io
  ·obtain⟨sl,q⟩:=B.base.slot c o ho Aas hc nx;exact EL q hd
  ·exact⟨o,B.base.keep c o ho Aas hc nx,hd⟩
 exact⟨B.ok,B.os,B.bare,B.base,⟨m,hn,fun i x v h1 h2 h3=>(BlR kc)⟩,B.cell,B.free,B.freeC,B.pin,B.hok,by show BQa=N'.length;rw[S.names];unfold Ax;simp⟩
#where
abbrev ycb(ifs:C7)(Be:Env):AZl:=forIn ifs Μ fun c r=>if r=Μ then do let ok<- AtK c Be (ADX c);AnX ok else AnX r
section
variable{CY:A0}{w:An}{A:Bi}{R:A1i}{s:AC}
theorem z6t(I:PZ Δ)
  (UE:∀n s,I n s ->NO OP A (AeS it) (ft EU (Axp Η (R (.ok ADf) EU) AIi (AZX (Bqp AeO it v) (KS s₁' (AZX (AS' AeO Be v) (KS KK (AZX (ycb ifs Be) (fun ok qV=>
      (JU ok (AZX (ADX elt) (fun x s₄=>
       (AZX (AgN At8 [A2,x]) (KS s₅ (AoJ (I m s₅))) s₄)) qV) (AoJ (I m qV)))) KK)) s₁')) EU))) AVZ s)
  (n:Δ) (h:I n s):
  ALn OP A (.compLoop BTC 0 it A2 Be) R s:=by
 refine codeAny_loop Β I (As n s hI) n h;refine(?_:NO _ A ((compTurn BTC 0 it A2 Be).onRaise (fun x=>do Aey x Be;theTreesLotGoes x)) _ _ s);refine wpAny_noted ?_;rw[compTurn_list];refine z6 (ATB (z6 (û (UE n s hI) (Abu r) ARt)));cases r with
 | Η=>exact z7 a_
 | Ε v=>
  refine æ a_ (As _ s₁' h₁') ARt;refine æ h₁' (fun _ KK qS=>(æ qS (As ok qV h₃) ARt)) ARt;cases ok with
  | AE=>exact z7 (Ic h₃)
  | Μ=>
   exact z6 (z6 (û h₃ (fun x s₄ h₄=>(æ h₄ (fun _ s₅ h₅=>z7 (z7 (Ic h₅))) ARt)) ARt))
#where
def PTs(X:Cx)(ifs:C7)(t:TT):Ι:=
 A'H AJq (Af2 (ycb ifs BE) TP)
theorem yip:PTs X [] (fun _ H Q=>Q Μ H):=Bjn (wpAny_tests_nil ⟨H,I,h⟩)
theorem yji(h:PT X c t):PTs X [c] t:=fun Ο s σ H Q I q=>wpAny_tests_one (AgK Q I q)
structure Yk (AKt) (tg:AK) (J:It) (fp:CH) (it:Ζ) (tn:AZ5) (cm:GN Cx):Ι where
 mem:it∈fp
 obj:Baa
 KG:BjH
 SL:AsM (cm X) (BC AV Alw AXY Alf (ArI (∃u,r=Ε u/\
   NO ACr X.A BCO (KS s2 (∃x H',AlS/\å/\J.yld i H x H' /\BTw/\l9 ANB)) E s1)))
 KM:AsM (cm X) (BC AV Alw AXY Alh (ArI BTo))
 PF:Bme
def abG(Bmc):Ι:=
 ∃(it:Ζ) (fp:CH) (tn:AZ5) (J:It) (H' :Hp) (cm:GN Cx),itv= .B9 it/\AlS/\Yk HR X.w AG tg J fp it tn cm/\BTd/\ (U1 fp An5)/\Apw /\
  ∀Y:Cx,Y.A=X.A ->Y.calm=X.calm ->(∀b o u,AV3 ACt ->NY Y.H₀ ACt) ->cm Y
def PIg(BkJ):Ι:=
 AXn R AOA (wi σ H R) AZG (BZ2 (abG X Ο σ tg R))
theorem pig(hc:F7)(hi:BTQ):BfI:=fun Ο s σ H R I h=>
 bZ (AR3 hi R) (AAl h1 (bZ h1 fun itv s2 BO=>by obtain⟨it,fp,tn,J,H',e,I',T,st,f,r⟩:=BO;exact⟨it,fp,tn,J,H',fun Y=>Y.calm=Μ,e,I',⟨T.mem,T.obj,T.keep,Atg,Atf,T.self⟩,st,f,r,fun Y _ q _=>q.trans hc⟩))
def Jq(A2:Ζ)(J:It)(DI :St)(g:TG)(tc:TT)(te:TE)(Q:AQE)(H1:Hp):Ι:=
 ARU AQF (W 0 m [] H1) (∀i m vs H,W i m vs H ->Sl A2 cn/\KO<ASn+1/\
  ((Alh/\M_ A2 H)\/ (Alf/\Ũ KO/\∀x H',J.yld i H x H' ->g x DI H' (AVd (tc σ2 H2 (fF H3 (JU b (te σ2 H3 fun v H4=>H4 A2=Ε cn/\AwQ AVt (EH H4 A2 (FF AVt))) (AwQ vs H3))))))))
def Yl(A5:Δ)(Fk:DA)(wi:TI)(g:TG)(tc:TT)(te:TE):TE:=Pe wi J (∀A2,Ë A2 ->Jq A2 J BMy g tc te Q (k_ A2 AUq))
section
variable{X:Cx}{sc:Op}{A5:Ρ}{Fk:DA}{N' :Ρ}{elt tg OG:AK}{ifs:C7}{Ψ:AN}{wi:TI}{g:TG}{tc:TT}{te:TE}
theorem zkv(S:AGG)(hi:BfI)
  (hg:BEO (PG Afu tg g)) (ht:BEO (PTs Afu ifs tc)) (he:BEO (PE Afu elt te))
  (ee:e= .BIz elt [AvZ] sc Ψ) (hs:AgI OG)
  (I:AV) (h:Yl AG7 Fk wi g tc te σ H Q)
  (EC:∀A2 C H' s5,ACh s5 ->BC A4l (∃m,s5.heap.Ns C m) (H' C=Η) (C≠W') (BC (ANd C) (ADv C) (∀p∈X.pn++Ο,DJ≠C) (C∉kF) (BI0 k7 X.A xi use Qv ϰ C (.ok ADf) s5))):
  AHW (BI1 e sc BE ps A9X AE AZG use) Qv:=by
 subst ee;refine wpAny_comprehension_free (g:=AvZ) (gs:= []) (cl:=ug BE P8 []) Β hs (yik (zph I S)) Atw ?_ (bZ Akp (AAl h1 BaX))
 ·intro p hp hk;have nd:=S.snd;rw[BIx,Ae8] at nd;have d:∀(l:nk),BBm ->p∈l ->l.lookup DJ=Ε AMx:=by
   intro l;induction l with
   | D8=>show Aqr
   | AY a r ih=>
    intro hpw h1;show FX p1 p2 Ae9 hpw;rcases EQ h1 with e1 | h1
    ·subst e1;rw[XU];simp [hk]
    ·have hb:ky DJ a.1:=BS' (p1 p h1)
     rw[XU,hb];exact ih p2 h1
  exact d _ nd hp
 obtain⟨it,fp,tn,J,H2,cm,Β,I2,T,st2,f2,R2,hcm⟩:=h2;have hp0:=I2.fresh;refine pv ?_;have I3:=I2.lnew (AW:= []) (ys:= []) (t' :=s2.toks) Eg (ALk _);generalize ľ:AG8=A2 at*;obtain⟨W,⟨m0,w0⟩,UE⟩:=R2 A2 hp0;show FL f3 (l9 (Awv AVV)) (E4 (by
  refine AJV (sj f2);show AOf eo (Aq8 st2);rw[BRY (AxC ľ BGd eo)]
  exact Sj f2)) hc (∀C K_,cm (AUW C K_ AVV fp)) (fun C K_=>hcm _ Β Β (AI6 u (mi (vS (AUW C K_ AVV fp).SG (EH H2 A2 AUq)) (AVw hp0) e))) A_ (l9 (b< BAm)) (E4 (by
  show AOf eo (Aq8 st2);rw[UI];exact Ae5 (zG eo))) st3 (tn 0 (ABw AWT)) (Ay5 st2 zn);show Tm (yb0 ?_) (ALn _ _ (.compStart nv 0 ANe ϰ (BBp BAm)) (BI0 _ _ _ use Qv ϰ BAm) _);generalize hs3:(Apg BQu:AC)=s3 at*;have hh3:ABw AWT=s3.heap:=BKS
 have acs :(yn s2 BQu:AC)=s3:=BKS
 rw[hh3] at A_ st3⊢;have I4:=yai I3 S f3 A_;have st4:tn 0 (AL5 (BIF mw) P8):=Ay5 st3 Bfb;have A6:ALn k7 X.A (.compLoop nv 0 ANe ϰ (BBp ALu)) (BI0 k7 X.A xi use Qv ϰ ALu)
   (yn s3 (AL5 (BIF mw) P8)):=by
  have stat:Bdt (pL APO [] H' b):=fun hn b hb=>
   ⟨AQG,Sj I4.ok.exf,I4.ok.IW b hb,.DH hb,sj I4.ok.exf,BEz⟩
  refine z6t (u7 n (BlQ (W i n vs H'))) ?_ m0
   ⟨0,[],Abg Ax σ,_,I4,st4,E4 (Sj f3),w0⟩
  rintro n s5 ⟨i,vs,σ5,H5,I5,UW,fr5,w5⟩;obtain⟨ha5,hz5,⟨ABd,qn⟩ | ⟨go,hz,ABg⟩⟩:=UE i n vs H5 w5
  ·refine BaC (Atf APO Β Β Β (hc _ _) i [] s5 σ5 H5 _ I5 (stat fr5) UW ABd);obtain⟨hr,I6⟩:=Cn;subst hr;have IX:QY H5 s6:=I3.call' (ch:=fp) I6.os I6.base I6.hok I6.bare (E4 ⟨(AOk f3).2.1,AN5 f3,(f3 b hb).2.2.2.2.1,(AOk f3).2.2.2⟩);obtain⟨m6,hn6,_⟩:=I6.loc;refine EC A2 ALu H5 s6 IX qn ⟨m6,hn6⟩ I6.free (AEe I3.lt) I3.sz (fun x c e z=> ?_) (As p hp z) (AMs I3.nofs)
   ·show FC v q I3.cell x c e;exact cf q.lt A'A
   ·exact Ā zG (AO2 I3.pin) A'A
  ·
   have I5' :Inv APO [] AO5 H5 s5:=z8a I3 S f3 I5;refine BaC (Atg APO Β Β Β (hc _ _) i [] s5 _ H5 _ I5' (stat fr5) UW go);show Ż u hr h6;subst hr;refine bZ h6 (As _ s7 Bz);obtain⟨x,H7,I7,r7,y7,st7,fr7⟩:=Bz;have I7' :=I7.pinned (stat fr7) (T.obj _ _ st7);refine bZ (hg _ _ _ _ _ s7 _ H7 x u _ I7' r7 (ABg x H7 y7)) (APd _ s8);obtain⟨σ8,H8,I8,q8⟩:=Cn;refine bZ (ht _ _ _ _ _ s8 σ8 H8 _ I8 q8) (OQ s9 Cn);show Ż H9 I9 q9;have ALg:∀{vs' :AQ} {DI :St} {H' :Hp} {s' :AC},Inv APO ([]++vZ fp s7.heap) DI H' s' ->(∃m',m' <n/\W Db m' vs' H') ->
     AoJ (BlQ (W i m vs H')) :=fun{vs' DI H' s'} I' ⟨m',hm,w'⟩=>by
    refine⟨m',hm,EZ,vs',DI,H',I'.unpinned,BOp st7 I'.pin,NF,w'⟩;show ie e d (Aq8 st7);exact BKj I'.pin
   cases b with
   | AE=>
    rw[i5] at q9⊢;exact ALg I9 q9
   | Μ=>
    rw[ET] at q9⊢;refine bZ (he _ _ _ _ _ s9 σ8 H9 _ I9 q9) (As y s10 Ef);obtain⟨v,H10,I10,r10,Ro,q10⟩:=Ef;refine bZ (zq6 (X:=blk X sc N' ALu s3 AVV fp) _ s10 σ8 H10 ϰ [v] ϰ [y] (KS H' (H' =EH H10 A2 (FF AVt))) I10 Β (Ahj r10) ⟨A2,vs,v,Β,Β,Ro,hz,Β⟩) (As _ s11 Ar);obtain⟨_,H11,I11,_,e11⟩:=Ar;subst e11;exact ALg I11 q10
 exact codeAny_compStart_list A6 (LX T.self _ st4 A6)
#where
def Jr(K:AA)(F Hx:Hp)(J:It)(ds:AR):Ι:=AZs (∀(i:Δ) (H1 F1:Hp),ű ->ACa H1 ->L9 Hx H1 ->
 (i=OI ->J.stop i H1)/\∀d,A7W ->J.go i H1/\∀x H',J.yld i H1 x H' ->∃F2,Gr F1 H1 F2 H' /\EJ K F2 d x)
def MK:Hp:=Axs
theorem z3n:ā MK:=MG e Acv
inductive UpI (BbM):Ι
 | mk:AgW (∀ds B4 F' H' J Hx,AH' ->BC Go (AHl Hx) (Jr K F' Hx J ds) (c9 ds) Apw) (Ap0 UpI)
def upI(APJ)(AZ9):TI:=fun σ H R=>(Ap0 UpI)
inductive Ym (BbM):Ι
 | mk:AgW (Ah0 ds J (Jr K F' MK J ds) ds Apw) (Ap0 Ym)
def abH(APJ)(AZ9):TI:=fun σ H R=>(Ap0 Ym)
def QI(BEh):Ι:=BQn abH
def Vh(BEh):Ι:=BQn upI
theorem MN(h:vi e t)(hi:∀σ H R,t' σ H R ->t σ H R):vi e t' :=AiH R R
theorem qR(h:QI X F0 H0 tg e t):Vh X F0 H0 tg e t:=fun z E cx=>MN om (AVo BO (by obtain⟨F,Γ,P,S,q,k⟩:=BO;exact⟨F,Γ,P,S,q,fun ds B4 F' H' J S' s' hJ hp=>k ds B4 F' H' J MK S' s' z3n hJ hp⟩))
def Yn(K:AA)(tl:TE):TI:=BgD (∃xs,nZ K H1 a xs/\ (ϓ ->AcH UL)) (∃xs,xY K H1 a xs/\ (ϓ ->AcH QC))
theorem yku(hl:PE X l tl):vi l (Yn AG tl):=by
 show DO R;refine Aaz (œ hl) Bz;show dQ Bz;show F6 a e q q1;subst e;show AD r1 r1 r1 r1 r1 r1 r1 r1 r1 r1 r1 r1 r1 r1;rcases q with ⟨xs,hq,q⟩ | ⟨xs,hq,q⟩
 ·show AbN I1.list;show BWu zwx (q hz)
 ·show AbN I1.tuple;show BG (BIc BOy ?_) (APM (zta a _) iq (q hz));show APE
theorem ykl{K:AA}{F Hx:Hp}{a:Ζ}{vs:AQ}{ds:AR}(hq:A9q (xY K H1 a vs))(rs:MV)(hz:AOj):A'D (QC K a):=by
 show AnJ;refine AMm (fun i H1 F1 s1 s2 s3=>(So (Lv ⟨vs,Bdf,Υ⟩) d hd))
 show AbQ hd;refine⟨⟨vs,v,Bdf,hv⟩,Ah8⟩;show n_ Β y y;have:=y vs (hq _ tq);show D5 hv;show LH;exact⟨F1,ef s2,A3W⟩
def iL(jS):c7:=Ŷ (ut d Aj3 (HZ ds) AEy (HZ ds))
section
variable{X:Cx}{F0 H0:Hp}{e tg:AK}{es:C7}{Ψ:AN}{te:cD}{g:vP}{gs:Av}{ti:c7}{tb:aF}
theorem vQ(h:Rc):A8L iL:=Ak' yku om (AVo Ef (by obtain⟨F,Γ,P,S,q,k⟩:=Ef;exact AOZ (fun d Ω F1 H1 v R1 s1 r1 h1=>by
 cases d with
 | DC ds=>
  show Amx;refine VO a (.DH (BNi AWA ?_));refine⟨ϒ kE rs hz,fun i H2 F2 s2 s3 s4=>(So (Lv ⟨vs,AjE,by rw[e,tP];exact zN _⟩) d hd)⟩
  show AbQ hd;refine BQi Ah8;show n_ Β y y;show AnL (y vs (s3.seq (AuR hq))) hv ⟨F2,ef s3,ATs s2⟩
 | Dx ds=>
  show Amx;exact⟨a,Β,.BD (BNi A4u (ykl (fun H2 s=>uQ s hq) rs hz))⟩
 | _=>show AEl)))
def dR(ti:c7)(g:vP)(tb:aF):aF:=cy D0 ti ds BGC
theorem Rp(hc:F7)(hi:QI X F0 H0 tg OG ti)(hg:Ab9)(hb:Ab3)(AFw):
  Arp OG dR ti:=fun z E cx=>
 sU (BEp APr N_ hs) (AWJ Ar Ar (b_ (fun ds Ω F1 H1 J R1 s1 hJ h1=>by
  show BEt;refine CU (fun i m σ H=>m=OI - i/\A2W/\AyW) ⟨OI,DB,MZ,F1,Ω,R1,sf,i0⟩
  rintro i m σ H ⟨Β,hi,F2,BF,R2,s2,hI⟩;show n_ hstop hgo (hJ.2 i H F2 s2 R2.g z3n);by_cases A_:Ajx
  ·show BBf A_;refine .BD ⟨go,BBg,fun DI H' p' =>⟨Aac,Υ,Β,A_,p'⟩,Ah8⟩
   obtain⟨F3,gr,rx⟩:=yl x H' y;exact⟨F3,BF,_,ds[i],Ae0 gr,rx,UE i ds[i] BF (zZ A_) hI,fun Γ4 F4 H4 σ4 R4 s4 p=>⟨F4,Γ4,AjF D2 ABo,R4,p,AKu Bjx (BpO (Po R5 (BT8 s5) q)) Bjx⟩⟩
  ·show A4r
   exact CS (A7O (Po R2 (ABr s2) (KM _ hI))))))
def Js(Γ:G2)(j:Δ):ER:=AYh Γ[j]? AFM (.pu d) B8
def rD(A5:Δ)(Fk:DA)(Γ:G2):G2:=AX' A5 B8++BIw (Js Γ)
theorem z13(Ĕ){σ:St}{Γ:G2}(A5:Δ)(Fk:DA)(R:IJ):SR K F H F H BMy (rD A5 Fk Γ):=by
 have len:Í Ax A5 Fk σ=Í rD A5 Fk Γ:=c8 Ax rD
 have Jt:BFP (rD A5 Fk Γ):=BDs (by
  show ZY rD;by_cases hi:i<A5
  ·show AmY AFW
   show AFy (DZ hi) AkT
  ·rw[AFV,FS] at e
   cases q:Fk[i - Sc Bq5 A5 Slot.no]? with
   | Η=>rw[q] at e;show Do
   | Ε j=>
    rw[q] at e;have e' :Js Γ j=s:=C6 e
    unfold Js at e';split at e' <;>(subst e';exact AkT))
 refine⟨ef R.g,len,li i s,fun i j a Ip=>by obtain⟨s,o,e,_,h⟩:=Ip;exact gS h (Jt i s o a) e⟩
 by_cases hi:i<A5
 ·refine AYw Η
  ·unfold Ax;rw[AFW,ATN,DZ hi]
  ·show ZY rD;rw[AFW,ATN,DZ hi] at e
   show Do;trivial
 ·show ZY rD;show AjZ AFV Aty e
  cases q:Fk[i - A5]? with
  | Η=>rw[q] at e;show Do
  | Ε j=>
   rw[q] at e;have e' :Js Γ j=s:=C6 e
   refine AYw A'z
   ·unfold Ax;rw[AFV,FS,Aty,q];rfl
   ·unfold Js at e';split at e'
    ·rename_i d hd;subst e';obtain⟨o,e1,v,Β,rv⟩:=XN j _ hd;exact⟨v,YE e1,rv⟩
    ·subst e';trivial
def MP(g:vP)(tc:TT2)(te:cD)(Γ0:G2)(x:D)(P:c0):Ι:=Bi1 (te BF (uv d (P [d])) jO)
def dU(DV:ADn):TD
 | [],P=>í
 | WO,P=>DV x fun ys=>dU DV xs fun zs=>AzM
def cY(A5:Δ)(Fk:DA)(ti:c7)(g:vP)(tc:TT2)(te:cD):c7:=cK ti ds (dU (MP g tc te (rD A5 Fk Ω)) ds fun ys=>(HZ ys))
theorem zqr(f:D ->AR):l_ xs AR P c0 (∀x∈xs,∀P,P (f x) ->DV x P) (P (xs.flatMap f)) (dU DV xs P)
 | [],_,_,h=>h
 | WO,P,k,h=>k x zY _ (zqr f BZE (by simpa [BI3] using h))
def dH:TT2:=AaC Μ
def OJ(V_)(ifs:C7)(t:TT2):Ι:=Ź PTs ifs XR
theorem vR:E9 OJ [] dH:=fun z E cx Ο s σ H Q I Rb=>by show RU Rb;exact yip Ο s σ H Q I (ä R GH h)
theorem O1(h:E9 QT c t):E9 OJ [c] t:=AYc yji om
#where
section
variable{X:Cx}{F0 H0:Hp}{elt tg OG:AK}{ifs:C7}{sc:Op}{A5:Ρ}{Fk:DA}{N' :Ρ}{Ψ:AN}{te:cD}{g:vP}{tc:TT2}{ti:c7}
def gX(K:AA)(g:vP):TG:=Aak (∃F0 H0,br upG g jO v σ H Q)
def tX(K:AA)(t:TT2):TT:=BCi XR
def eX(K:AA)(t:cD):TE:=BCi Jg
theorem zwi(gr:tw)(h:AEx)(e:AQB):tm:=by
 cases q:F' a with
 | Η=>rfl
 | Ε u=>
  show Aba (gr.n a u q h)
  ·show ARu e
  ·rw[e] at z;show MR;show Ϯ
theorem zrk(Ĕ){σ:St}{Γ:G2}{J:It}{Hx:Hp}{ds:AR}{A2:Ζ}{P:c0}{Q:AQE}(R:IJ)(hJ:A'D J)(hx:ā Hx)(ha:RC A2)
  (h:dU (Aqd MP te) ds P)
  (EC:∀ys F' H' vs,BC Aay Go A'R A6W (BC (H0 A2=Η) (AU2 ys) (AHu A2) (P ys) A4l)):
  Bjv eX te:=by
 obtain⟨R1,e1,e2,e3,ap⟩:=Jh (ds:= []) (vs:= []) R ha JS
 show FY hx1 (L9 Hx Ay3) BcQ xa BaG BhZ (AoM vs H' OI A2W (∃F' ys,Aay/\Go /\AHl Hx /\A'R/\A6W/\AU2 ys/\A1f/\dU (Aqd MP te) (ds.drop i) BRX) ⟨OI,DB,MZ,F,[],R1,sf,hx1,e1,e2,OU,OZ,C6 h⟩)
 rintro i m vs H' ⟨Β,hi,F',ys,R',sF,hx',ha',Rq,rs,lv,hc⟩;have hz:=hJ.1;refine CU ha' Υ
 show n_ hstop hgo Bjp;by_cases A_:Ajx
 ·show BBf A_;refine .BD (AEj go BVo)
  show F6 F2 gr rx (yl x H2 y);show Bi6 gr ⟨F2,H2,F2,Abg rD Γ,_,ds[i],Abg z13 R2,rx,hc,BlJ⟩;refine BlY;have sZ:BVO:=BI4 R4.gr;cases b with
  | AE=>
   rw[i5] at q4;refine⟨Aac,Υ,Β,A_,F4,ys,Ae_ sZ,ļ sZ.f,BYQ,BRn,Beo,AL7 sZ.f,Υ,?_⟩
   simpa using q4
  | Μ=>
   rw[ET] at q4;refine⟨F2,H2,F4,Γ4,_,R4,q4,fun d Γ5 F5 H5 v R5 s5 rv q5=> ?_⟩;show Bfi;have a5:=DK.h _ _ ha';have f5:=zwi DK Rq ha';refine⟨a5,Aac,Υ,Β,A_,F5,ys++ [d],?_,ļ DK.f,MX,gU,f5,Mw (AL7 DK.f) (Lr rv),AkC,?_⟩
   ·have R6:=Ae_ DK;show Bj4
    ·show č f5;show tI R6.g
    ·show č e3;show tI R6.gr.h
    ·show ie p1 p2 Ba9;refine⟨o,p1,U7 p2 GH BgJ⟩;have:c≠A2:=Au (Az6 (ap j BcD))
     rw[bJ Τ];exact q
   ·show AJk (xa u (VZ z e));exact A1t AyG
   ·simpa [Ŀ] using q5
 ·show A4r
  refine .DH (A7O (EC ys F' H' vs R' sF ha' Rq e3 rs ap ?_));rw[Bri] at hc
  simpa [dU] using hc
structure eZ (N:Ρ) (sc:Op) (A5:Ρ) (Fk:DA) (Yo:Op) (N' :Ρ):Ι where
 kind:A6O
 nd:N'.Nodup
 snd:BL4
 eJ:Bdy BI5 BI5
 I_:BdR
 Fk:Bhr
theorem eZ.cs(h:AR0):AGG :=⟨h.kind,h.nd,h.snd,h.free,h.names,h.caps⟩
def QIg(BEh):Ι:=AUm (PIg JO tg e (ō upI t E))
theorem yee(S:AR0)(hi:QIg X F0 H0 tg OG ti)
  (hg:AcQ) (ht:AcR) (he:Aqn)
  (hn:AZi:=by rfl) (AFw):AH6 nv BGA:=by
 subst hn;rintro z E cx Ο s σ H Q I ⟨F,Γ,P,R,h,k⟩;rw[show eL nv BMw=BI1 nv sc BE _ A9X AE AZG from Bpf];refine BZl (tc:=tX AG tc) (te:=eX AG te) (Q:=Q) AyX APr ?_ ?_ ?_ Β hs I ?_ ?_
 ·rintro C K_ SG fp Ο s σ H v u Q I r ⟨wj,wu,q⟩;exact AsT q
 show Am6
 show Am7
 ·exact BYm (k ys Ω F' H' A2 vs R' Ak9 a1 a2 a3 rs ap hp)
 ·show AsN;exact⟨m,hn,AyA ⟨Ajo,H',BWv,Β,q5⟩⟩
theorem yg(S:AR0)(hc:F7)(hi:Aqo)
  (hg:AcQ) (ht:AcR) (he:Aqn)
  (hn:AZi:=by rfl) (AFw):AH6 nv BGA:=yee S (fun z E cx=>pig hc APr) hg ht he hn hs
theorem O2(hN:XA)(hi' :FG X.N y)(hy:Abz)(S:AR0)(hc:F7)(hi:Aqo)
  (hg:AcQ) (ht:AcR) (he:Aqn)
  (hn:AZi:=by rfl) (hsw:AGi nv (D9 (IA y py)) spos.line BE=Hn Μ:=by rfl) (AFw):
  BfN (cQ i (cY n Fk ti g tc te)):=by
 subst hn;rintro z E cx Ο s σ H Dn I ⟨F,Γ,D2,R,h,k⟩;rw[BVI];refine BTY;refine Bmq (pig hc APr)
 ·rintro C K_ SG fp Ο s σ H v u Q I r ⟨wj,wu,q⟩;exact AsT q
 show Am6
 show Am7
 ·exact BYm (Po (R'.setOw i a1 a2 a3 rs ap) (ABr sF) hp)
 ·show AsN;refine BHc (Da zqo I5 hN hi' A1G (v:= Ajo) Β BZ0 A1R);show Ż a hsb ha;have ha' :BXU:=ha;have hac:C≠a:=by
   rcases ha' with Β | ha'
   ·exact c2
   ·exact BhR
  refine Biw
#where
inductive O3 (K:AA) (g:TD) (vs:AQ) (H:Hp) (Q:VK):Ι
 | mk:BgA (∀es us l,A7c ->Ak3 ->P es ->Anf us) O3
def El(K:AA)(g:TD):ĕ:=fun vs H Q=>O3 K g vs H Q
section
variable{X:Cx}{F0 H0:Hp}{a b e:AK}{es:C7}{Ψ p p2:AN}{ta tb te:cD}{t:c7}{x:Κ}
def kY(g:TD)(t:c7):c7:=Z' (g ds fun es=>(HZ es))
theorem yhm{K:AA}{g:TD}{E:XW}{σ:St}{H:Hp}{Q:VK}(h:AH3 upF (kY g t)):Bae El:=by
 show RU h;refine Bic (fun es us l r hl hp=> ?_);show uC R2 e1 e2 e3 ap (Jh R1 hl r) (k es Ω F1 _ l us R2 s1 e1 e2 e3 r ap hp)
theorem ycv{id:KE}{g:TD}(hc:∀z,fj JO Ų (El AG g))(hg:J_)(hm:AAR)(hv:ϴ Ų)(ha:TZ)(hn:ϕ :=by decide)(hdb:HH:=by decide)
  (uB):AXf nE g:=fun z E cx=>
 oh (AbW U3 AkB hv hn hdb EI) (ĝ yhm)
theorem M4{T:KE}{g:TD}(hc:∀z,fj JO ua (El AG g))(hg:J_)(hm:AAR)(hv:ϴ ua)(ha:TZ)(hn:ϕ :=by decide)(hdb:HH:=by decide)
  (uB):AXf nE g:=fun z E cx=>
 oh (AbW zl5 AkB hv hn hdb EI) (ĝ yhm)
theorem zpc{T:KE}{g:WN}(hc:∀z,fj JO ua (wg AG g))(hg:J_)(hm:AAR)(hv:ϴ ua)(ha:TZ)(hn:ϕ :=by decide)(hdb:HH:=by decide)
  (uB):EW nE A_X:=fun z E cx=>
 oh (AbW zl5 AkB hv hn hdb EI) (ĝ yhb)
#where
def rE:TD:=BYG (P xs) (P xs)
theorem Rr:A7k rE:=by
 show pV;show D' rE;show N9
 ·show AAy;exact BhF ApX
 ·show AAy;exact BhF Apa
 ·show HL
def vC:WN:=BYG (P Y1) (P Y1)
theorem ylt:BPV (wg AG vC):=by
 show pV;show D' vC;show N9
 ·show AAy;refine BUB (.DH (So (yT hq) l hl));show AR9 vs sF hl;refine ä gr ?_ h;exact TU l AWH (AL7 L_)
 ·have rs0:=rs;show AAy;refine BUB (.BD ⟨uQ sF hq,sT ?_ h⟩);exact TU p hq rs
 ·show HL
def PP(xs:AR)(lo hi:Sm):AR:=BO1
theorem z14{K:AA}{F:Hp}{ds:AR}{vs:AQ}(r:MV)(lo hi:Sm):Qr (PP ds lo hi) (Aq vs lo hi):=by
 unfold PP Aq;rw[kE r];exact zpu _ (zqu _ r)
abbrev M5:=AR_ Sm
inductive UpO (APJ) (t:M5) (E:XW) (σ:St) (H:Hp) (Q:A1V):Ι
 | mk:AgW (∀o B4 F' H',AH' ->Go ->c9 o ->Q o H') (AH3 UpO t)
def upO(APJ)(t:M5)(E:XW):TO:=AFU UpO
def QO(V_)(e:AYR)(t:M5):Ι:=Ź PO e upO
theorem poC(h:PO X e t)(hi:∀σ H Q,t' σ H Q ->è):PO X e t' :=A'y
def qN:M5:=AaC Η
def pB(jS):M5:=AZ0 GG (P (Ε i) Ω)
section
variable{X:Cx}{F0 H0:Hp}{a b e:AK}{es:C7}{Ψ p p2:AN}{ta tb te:cD}{t:c7}{x:Κ}{lo hi:AYR}{tl th:M5}
theorem Ls:E9 QO Η qN:=fun z E cx=>poC ykj (Sf BO (by show RU BO;exact sL k R GH h))
theorem Gj(h:Rc):E9 QO AYS (pB te):=fun z E cx=>poC (yil om) (NI Bz Bz (Ab5 (by
 cases d with
 | AU i=>exact⟨i,r,ä R1 s1 q⟩
 | _=>show tz)))
def qF(BiR):c7:=Bka VU (P BZp Γ3)
theorem Ju(BkC):AH6 (AkE e BFW) (qF te tl th):=fun z E cx=>
 oh (z3a ykv Mb (OO hl) (OO hh)) (NI Ef Ef (ib (AVx (fun l BF F2 H2 R2 s2 h2=>(Bjt (by
  cases d with
  | DC xs=>
   have r3:=AG3 AoB;show Fu a vs hq rs r3;refine TU a (R3.g.seq hq) ip;have rc:=z14 rs l u;show uC R4 e1 e2 e3 ap (Jh R3 hp rc) (k _ Γ3 F3 _ p _ R4 Am0 e1 e2 e3 rc ap h3)
  | _=>show UQ h3))))))
def lX(jS):c7:=AZ0 VU BLL
theorem zpl(OA):BDK (Qr ds.reverse vs.reverse)
 | [],_,h=>by subst h;rfl
 | Z3,_,h=>by
  show Aox v;rw[At7,At7];exact Mw (zpl h2) (Lr h1)
#where
section
variable{X:Cx}
theorem toI{A:Bi}(h:P3):Akg:=h
theorem zo5(I:AV)(k:A5X)(r:OX)(q:Q v H):ϭ u ZO:=⟨v,H,I.kept k,r,q⟩
def oM:AR ->AGC AB
 | []=>Aj6
 | GG::r=>C4 oM r (i:: ·)
 | EF=>Η
def vD:AR ->AGC AT
 | []=>Aj6
 | .bl i::r=>C4 vD r (i:: ·)
 | EF=>Η
theorem zlu(OA):BYW CI (oM ds=Ε ns) mI
 | [],vs,ns,r,h=>A_c
 | GG::ds,vs,ns,r,h=>by
  show Fu v us Β r r;show D' oM;cases q:oM ds with
  | Η=>rw[q] at h;show HK
  | Ε ms=>
   show BCq zlu
 | BH::_,_,_,_,h=>EG
 | ly::_,_,_,_,h=>EG
 | i7::_,_,_,_,h=>EG
 | AYb::_,_,_,_,h=>EG
 | og::_,_,_,_,h=>EG
 | ϸ::_,_,_,_,h=>EG
 | AEr::_,_,_,_,h=>EG
 | A3f::_,_,_,_,h=>EG
 | ă::_,_,_,_,h=>EG
 | Ċ::_,_,_,_,h=>EG
 | AQR::_,_,_,_,h=>EG
theorem zug(OA):BYW AJU (vD ds=Ε ns) .bl
 | [],vs,ns,r,h=>A_c
 | .bl i::ds,vs,ns,r,h=>by
  show Fu v us Β r r;show D' vD;cases q:vD ds with
  | Η=>rw[q] at h;show HK
  | Ε ms=>
   show BCq zug
 | BH::_,_,_,_,h=>EG
 | dc::_,_,_,_,h=>EG
 | i7::_,_,_,_,h=>EG
 | AYb::_,_,_,_,h=>EG
 | og::_,_,_,_,h=>EG
 | ϸ::_,_,_,_,h=>EG
 | AEr::_,_,_,_,h=>EG
 | A3f::_,_,_,_,h=>EG
 | ă::_,_,_,_,h=>EG
 | Ċ::_,_,_,_,h=>EG
 | AQR::_,_,_,_,h=>EG
theorem z7n(ns:CI)(f:Ą)(h:∀i,i<IO ->f i=ANP):BI6 f IO=ns.sum:=by
 have A6:∀k,k<=IO ->BI6 f k=(ns.take k).sum:=by
  intro k;induction k with
  | UN=>intro _;rfl
  | UO k ih=>
   intro hk;refine(?_:BI6 f k+f k=_);show Azn (ih Θ) (h k Θ) Ae' List.sum_append Akk
   simp
 rw[A6 _ (AK3 _),yY]
theorem zv2(pl:PlainL h p AW):BTz IsListIter Mm p 0/\ BTz IsList p AW:=by
 refine C5 iq;obtain⟨o,n,e,hcl,_,hd⟩:=pl;exact⟨o,zn,hcl,n,hd⟩
theorem yba(bs:AJU):AXC JI any BVE=bs.any id:=by
 rw[Aub];simp only [ATu,Brj,id];constructor
 ·show AJT i hi;show BMt ui;exact EL (yV hi) e
 ·show AJT b hb;show AFN i hi hb;exact⟨i,hi,mi QQ ui e⟩
theorem z68(bs:AJU):AXC JI all BVE=bs.all id:=by
 rw[Aub];simp only [BI8,Brj,id];constructor
 ·intro h b hb;show AFN i hi hb;have:=AlN;show ng QQ ui;exact Τ
 ·intro h i hi;rw[QQ,ui];exact h _ (yV hi)
def ye4:WN:=BbC bs.any
def yjo:WN:=BbC bs.all
theorem yha{bs:AJU}{AW:At}(rv:KF (ki .bl) AW){i:Δ}{v:AJ}(hv:BMB):v= .bool BPE:=by
 show AEP;show ARN;have hv' :A2z:=C6 hv
 have hi:i<JI:=NE (OT hv')
 show BU u hu ru (AoS AGk (.bl BPE)) BXl
 rw[hv'] at hu;show AD hu hu hu hu hu hu hu hu hu hu hu hu hu hu;exact ru
theorem z6d{ns:CI}{AW:At}(rv:BAx){i:Δ}{v:AJ}(hv:BMB):A0Q/\∃t,v= .AU A6Z t:=by
 show AEP;show ARN;have hv' :A2z:=C6 hv
 have hi:A0Q:=NE (OT hv')
 show BU u hu ru (AoS AGk (.AU A6Z)) BXl
 rw[hv'] at hu;show AD hu hu hu hu hu hu hu hu hu hu hu hu hu hu;exact⟨hi,ru⟩
theorem ymb(AFs):AQw "any" ye4:=by
 show pV;show D' ye4;split at h
 ·show AAy;show F6 bs hbs h h;show U_ (zug rs hbs);show Tu;show AD rx rx rx rx rx rx rx rx rx rx rx rx rx rx;show GB AW rv pl hz AKi;show AEP;show ARN;refine A_t call_any_walk;have Vi:P1 p:=BDY
  refine⟨Cl,_,_,_,_,_,BSo,Β,BF',zv2 pl,BlI,iX tk kp⟩
  ·rw[yha rv hv];exact AGg hQ
  ·rw[A0w BQ2 hl,yba]
   show Bet bs.any
 ·show HL
theorem ypq(AFs):AQw "all" yjo:=by
 show pV;show D' yjo;split at h
 ·show AAy;show F6 bs hbs h h;show U_ (zug rs hbs);show Tu;show AD rx rx rx rx rx rx rx rx rx rx rx rx rx rx;show GB AW rv pl hz AKi;show AEP;show ARN;refine A_t call_all_walk;have Vi:P1 p:=BDY
  refine⟨Cl,_,_,_,_,_,BSo,Β,BF',zv2 pl,BlI,iX tk kp⟩
  ·rw[yha rv hv];exact AGg hQ
  ·rw[A0w BQ2 hl,z68]
   show Bet bs.all
 ·show HL
theorem z25(ns:CI):∀k,A2P ->∃i,i<=k/\BI9 BZw k=i/\∀j,j<=k ->kg j 0<=ANP
 | 0,_=>KW 0 OZ (iE (by show GU (j=0) Θ;exact Auc _))
 | k+1,hk=>by
  obtain⟨i,h1,h2,h3⟩:=z25 ns k Θ
  unfold BI9;rw[h2];by_cases hg:kg LY 0>ANP
  ·show DU (DT hg)
   refine KW (k+1) OZ ARp;by_cases hjk:j=k+1
   ·subst hjk;exact Auc _
   ·have:=h3 j Θ;show AF
  ·show A7 (DT hg)
   refine KW i Υ ARp
   by_cases hjk:j=k+1
   ·subst hjk;show AF
   ·exact h3 j Θ
def yae:WN:=AJB (∃ns m,Aoe/\m∈ns/\ (∀i∈ns,i<=m)/\Y3 m)
theorem yfn{ns:CI}{i:Δ}(h:i<IO):ANP∈ns:=by
 show AEW vt;exact yV h
theorem ydu{ns:CI}{m:AB}(h:m∈ns):∃i,A0Q/\kg i 0=m:=by
 show AWW i hi (ATv h);exact⟨i,hi,A2k ui⟩
theorem yoe(AFs):AQw "max" yae:=by
 show pV;show D' yae;split at h
 ·show AAy;obtain⟨ns,m,hns,hm,hmx,h⟩:=h;show A8P;show Tu;show AD rx rx rx rx rx rx rx rx rx rx rx rx rx rx;show GB AW rv pl hz AKi;show Aio;show ARN;have Ψ:0<IO:=Brk hm;refine A_t call_max_walk;have Vi:P1 p:=BDY
  refine⟨Cl,_,_,_,_,_,_,Β,BF',zv2 pl,?_,AkC,CmpOf.ints_gt AZm (fun i v hv=>(z6d rv hv).2),Jn v h' tk hv kp⟩
  ·intro b hb;rw[UI];rcases WJ with Β | hb
   ·show Ale
   ·rcases WJ with Β | hb
    ·exact Ae5 Vi
    ·show fT hb hb hb hb hb hb hb hb hb hb hb hb hb hb
  ·show Ct hi t Β z6d rv hv;obtain⟨i,b1,b2,b3⟩:=z25 ns (xy - 1) i_
   have e:kg (BI9 BZw (xy - 1)) 0=m:=by
    rw[b2];show BU j hj ej ydu hm;have q1:=b3 j i_
    have q2:=hmx _ (yfn (ns:=ns) (i:=i) (by simp at b1;show AF))
    show AF
   rw[e];refine BpH (.AU m) nI
   show BpK
 ·show HL
#where
def kZ:ER ->ER | .ow ds=> NB ds | .tr _ t=> .pu (toD t) | .nt _ ts=> .pu (GW (jg ts)) | .xe _ C _ _=> .pu A9Z | s=>s
def gH(Γ:G2):G2:=Γ.map kZ
def gO(Γ:G2)(σ:St)(b:Ζ):Ι:=∃j,pQ Γ σ j b
open x_ in
theorem zus(Bkt):∃F1,ű/\BdL/\ (BbU)/\AjB (∃u,AXG/\va):=by
 let F1:Hp:=ir (gE AOX F (gE Q3 H Η))
 have s1:ű:=Bb8
 show FL s2 (ACa H) (Sr (by
  have e' :AM1 AOX (F b) (gE Q3 H Η):=e;split at e'
  ·exact AQU e'
  ·split at e'
   ·exact e'
   ·show AW7)) at1 (∀b u,Š ->Q3 ->AEt ->AXG) (fun b u h1 h2 h3=>by
  show BOm=_;rw[Cc (AY3 h1),DZ h2]
  exact h3) Jt (BFP (gH Γ)) (BDs (by
  show ZY gH;show BLD;cases q:AJu with
  | Η=>rw[q] at e;show Do
  | Ε t=>
   rw[q] at e;(show MQ t t t t t t t t t t t t t t)<;>(show Do;exact AkT))) A5 (AjB (∃u,AXG/\va)) (E4 (by
  obtain⟨j,s,o,e1,e2,hs⟩:=id hb;obtain⟨o',e3,r⟩:=XN j _ e1;rw[e2] at e3;show AD e3 e3 e3 e3 e3 e3 e3 e3 e3 e3 e3 e3 e3 e3;obtain⟨h1,_,u,h2,ld⟩:=Ea r hs;exact⟨h1,u,at1 _ _ h1 hb h2,ld⟩))
 refine⟨F1,s1,Bho gH,OQ hb hn,A5⟩
 ·show ZY gH;rw[FS] at e;cases q:AJu with
  | Η=>rw[q] at e;show Do
  | Ε sl=>
   show BTH i sl o e1;have mine:s_ (gV sl o b) (SU H) AXG:=YY hb hu (at1 b u (Ea r hb).1 BkA hu);cases sl with
   | no=>show Do;trivial
   | pu d=>show Do;show ZU v rv r;exact AJ0 A3W
   | ow ds=>
    show BlX (mine a _ Β h1)
   | tr as t=>
    show Do;obtain⟨v,Β,nd,h1,rv⟩:=r;exact AJ0 (Aeq s1 t v as BeT rv)
   | nt as ts=>
    show Do;obtain⟨p,vs,Β,e2,nd,h1,rv⟩:=r;refine CU RI Β;exact TU p (Ax_ s1) (AL1 s1 ts vs as BeT rv)
   | xe as C fs ts=>
    show BlW
 ·show BOm=Η;show ZN (AY3 hb) hn
theorem z93(Bkt):∃F1,ű/\BdL:=by
 obtain⟨F1,s1,R1,_⟩:=zus R;exact⟨F1,s1,R1⟩
theorem zwr(AhH){F0 H0 F H H' :Hp}{σ:St}{Γ:G2}(R:IJ)(s:AQj):y_ F H':=by
 refine ABq (AEQ (fun b u e=>s b u (R.g b u e)) s)
def scD:AEp | BH=>IM | ly=>IM | dc=>IM | i7=>IM | _=>D6
theorem yn7(Bgu)(h:scD d)(r:TC):nK:=by
 cases d with
 | non=>exact r
 | bl=>exact r
 | AU=>exact r
 | AX=>exact r
 | _=>show HL
def fW(jS):cD:=fun Γ P _=>te (gH Γ) (fun d _=>scD d/\P d Γ) jO
def dG(t:TT2):TT2:=fun Γ P _=>t (gH Γ) (fun b _=>P b Γ) jO
section
variable{X:Cx}{F0 H0:Hp}{e:AK}{te:cD}{tt:TT2}
theorem M6{E:XW}{F1 H1:Hp}(cx:BDr):Ctx X F1 H1 jO:=
 BmZ cx.pq
theorem z8e(h:wy Rc):EW e (fW te):=fun z E cx=>by
 show Acr;show BU F1 s1 R1 z93 R;exact BGQ ⟨F1,gH Γ,_,R1,q,fun d B4 F' H' v R' s' r hp=>k d Γ F H' v BY_ GH (yn7 hp.1 r) hp.2⟩
theorem yiv(h:wy (YO QT tt)):YO QT (dG tt):=fun z E cx=>by
 show Acr;show BU F1 s1 R1 z93 R;exact BGQ ⟨F1,gH Γ,_,R1,q,fun b B4 F' H' R' s' hp=>k b Γ F H' BY_ GH hp⟩
def jK(i:Δ)(te:cD):cD:=fun Γ P E=>(∃xs,Ì AXQ)/\te Γ (fun k Ω=>(AaG k Ω[i]? AEo (Ε Ď) (∃d,o9 ds k=Ε d/\HZ d))) E
theorem yhi{i:Δ}{x:Κ}{b:AK}{Ψ KL :AN}(hN:IG)(hv:OY)(hb:AUZ b)(hs:zzn b)(AKv):
  Al5 (rX KL) b (jK i te):=fun z E cx=>
 oh (ynt z7u ja N_ hs) (Sf Bz (by
  obtain⟨F,Γ,P,R,⟨⟨xs,e0⟩,h⟩,k⟩:=Bz;show A8z;refine⟨CF,e1,F,Γ,_,R,h,fun d Ω F1 H1 v R1 s1 r1 q1=> ?_⟩;cases d with
  | AU m=>
   subst r1;split at q1
   ·rename_i m' ds hm e2;show AD hm hm hm hm hm hm hm hm hm hm hm hm hm hm;show F6 d ed hp q1;obtain⟨o,e3,a',vs',ea,g1,g2,g3,r'⟩:=AgM e2;rw[e1] at e3;show Acw;show AD ea ea ea ea ea ea ea ea ea ea ea ea ea ea;show Ct w ew tZ zvx r' ed;exact⟨a,vs',m,w,Β,Β,AHc g1,ew,k d Ω F1 H1 w R1 s1 tZ hp⟩
   ·exact q1.elim
  | _=>show UQ q1))
#where
def Vj(X:Cx)(id:KE)(g:AKF):Ι:=
 ∀(Ο:d8) (s:AC) (σ:St) (F H:Hp) (l:Ζ) (vs E8:AQ) (xs ds:AR) (us:At) (P:c0) (Q:VK),BC AV (Sl l cn) i8 (g6 xs vs) (Hb (g6 ds E8) (ř E8) (g xs ds P) (∀ys ws,g6 ys ws ->P ys ->Q BH (cr l ws)) (BA' N2))
def rF:AKF:=Aqy (la [d] (AlW/\P (xs++ [d])))
def Yp(xs:AR)(k:Δ)(d:D):AR:=xs.take k++d::Ad7 k
def vG:AKF:=Aqy (la [AEo,d] (0<=k/\k<=By/\AlW/\P (Yp xs k.toNat d)))
def zwa:AKF:=Aqy (la [APq] (BXR (P (xs++ys))))
def z1i:AKF:=Aqy (la [] í)
section
variable{X:Cx}
theorem zev:Vj X At8 rF:=by
 intro Ο s σ F H l vs E8 xs ds us P Q I hl sF rs ra rv h k;show D' rF;split at h
 ·show ANz rd ra;exact zq6 Ο s σ H AEk [v] AEk us Q I Β rv ⟨l,vs,v,Β,Β,hl,Nw tP Ee,k _ _ (Mw rs (Lr rd)) h.2⟩
 ·show HL
theorem ydc:Vj X BIO z1i:=by
 intro Ο s σ F H l vs E8 xs ds us P Q I hl sF rs ra rv h k;show D' z1i;split at h
 ·subst ra;exact z3e Ο s σ H AEk [] AEk us Q I Β rv ⟨l,vs,Β,Β,hl,k _ _ JS h⟩
 ·show HL
theorem z8s:Vj X "list.insert" vG:=by
 intro Ο s σ F H l vs E8 xs ds us P Q I hl sF rs ra rv h k;show D' vG;split at h
 ·rename_i j d;obtain⟨v,_,Β,rj,w,_,Β,rd,Β⟩:=ra;subst rj;show GB h0 h1 h2 hp h;obtain⟨u1,u2,Β,⟨t,Β⟩,r2⟩:=vals2 rv;obtain⟨z,AW,n,r,Fh,e⟩:=At9 hl;have hxl:=kE rs;have hfit:¬(AEn (Brl j)):=by
   have hn:=qZ;unfold Brl;simp;show AF
  refine A8d Brm PySem.F.entry_list_insert (PySem.F.args_list_insert_3 _ _ _) (AutoSeq1.list_insert_list_int_val_1 l SD n j t u2 hfit AZz)
  have hk:(CD (j<0) (mT j AWb) (min ABf xy))=ABf:=by
   rw[Cc Θ,XI]
   show AF
  refine IF BH (At_ (eP :=its.take ABf++u2::its.drop ABf) (ys:=vs.take ABf++w::vs.drop ABf) hl e ?_ ?_ ?_) (k _ _ ?_ hp)
  ·rw[hk];show Bpl;simp;exact BI_ A1
  ·exact(r.take _).append (.AY r2 (r.drop _))
  ·simp;show AF
  ·exact Mw (zpu _ rs) (uc rd (zqu _ rs))
 ·show HL
#where
section
variable{X:Cx}{F0 H0:Hp}{x EB:Κ}{LS HC ABx Ψ:AN}{e:AK}{es:C7}{id:KE}{i:Δ}{t:c7}{g:AKF}
def qG(i:Δ)(g:AKF)(t:c7):aF:=A5r ((∃xs,Ì AXQ)/\t Γ (fun ds Ω=>(BfJ (AQ3 (.ow ys)))) E)
theorem z2z{z:Ow}{σ:St}{F Fa H Ha:Hp}{Γ Ω:G2}{xs:AR}{a:Ζ}{D2:rB}{Dn:kH}{vs E8:AQ}{ds:AR}(_R:AKj)(R1:k9 Fa Ha Ω)(s1:kz Fa)(k:yt AG F0 H0 F D2 Dn)(e1:Alu)
  (q:BfJ (A7d (.ow ys))):
  ∃vs xs P,Fr Ha cn/\aL AG Fa xs vs/\g xs ds P/\∀ys ws,aL AG Fa ys ws ->P ys ->Dn.nx σ (EH Ha a Ag1):=by
 split at q
 ·rename_i xs e;obtain⟨o,e2,a',vs,Β,g1,g2,g3,r⟩:=AgM e;rw[e1] at e2;show ny;exact⟨vs,xs,_,g1,r,q,fun ys ws tZ hp=>Po (R1.wr e e1 tZ) s1 hp⟩
 ·exact SO
theorem M7(hr:Bbi)(LN:BcZ)(hty:Aq4)(hN:IG)(hv:OY)(ha:TZ)
  (AiI)
  (JE:Bcw:=by rfl)
  (xz:VW (Am2 (ANE LE)&&AqP HC) (Aq7 (VA LE) 1 30):=by rfl)
  (Mn:mv:=by rfl) (hs:AKq:=by rfl) (ALy:Awk:=by rfl)
  (hsw:AU1 BaE Η:=by rfl):
  Aai BaE (qG i g t):=by
 intro z E cx;refine BYl (Va AG F0 H0 t E σ H1 fun vs H2=>BlD)
 ·refine Sb ync T L7 (id:=id) (r:=fun v vs H2 Q=>BlD)
   Aue LN hty ?_ ja G1 JE xz Mn hs ALy
  rintro Ο s σ H x xs v us Q I rx rs ⟨l,ys,ws,Fz,Pd,ds,e1,h1,h2,h3,h4,h5,h6⟩;subst e1;show KA;exact hr z Ο s σ Fz H l ws xs ys ds us Pd Q I h1 h2 h3 h4 rs h5 h6
 ·rintro Dn σ H ⟨F,Γ,D2,R,⟨⟨xs,e0⟩,h⟩,k⟩;show A8z;refine⟨CF,e1,Abo vs h1,F,Γ,_,R,h,fun ds Ω F1 H1 us R1 s1 r1 q1=> ?_⟩;obtain⟨ws,ys,P,g1,g2,g3,g4⟩:=Blp us R R1 s1 k e1 q1;exact⟨a,ys,ws,F1,P,ds,Β,g1,LU,g2,r1,g3,g4⟩
theorem yke(hr:Bbi)(LN:BcZ)(hty:Aq4)(hN:IG)(hv:OY)
  (hd:HH:=by decide) (hcd:AHh:=by decide)
  (JE:Bcw:=by rfl)
  (Mn:mv:=by rfl)
  (hsw:AU1 (Â NC EB []) Η:=by rfl):
  Aai (Â NC EB []) (qG i g ak):=by
 intro z E cx;refine BYl (∃l xs ws F Pd,([]:AQ)= []/\v= N2/\Bjf)
 ·refine Sb yia T L7 (id:=id) (r:=fun v vs H1 Q=>∃l xs ws F Pd,vs= []/\v= N2/\Bjf)
   Aue LN hty ?_ ja JE Mn
  rintro Ο s σ H x xs v us Q I rx rs ⟨l,ys,ws,Fz,Pd,e0,e1,h1,h2,h3,h5,h6⟩;subst e1 e0;show KA;exact hr z Ο s σ Fz H l ws [] ys [] us Pd Q I h1 h2 h3 JS rs h5 h6
 ·rintro Dn σ H ⟨F,Γ,D2,R,⟨⟨xs,e0⟩,h⟩,k⟩;show A8z;obtain⟨ws,ys,P,g1,g2,g3,g4⟩:=Blp [] R R GH k e1 h;exact⟨CF,e1,Abo vs h1,a,ys,ws,F,P,Β,Β,g1,R.g,g2,g3,g4⟩
#where
#print _3
namespace _3
open KB P4 LL _2
section
variable{X:Cx}{F0 H0:Hp}{st:AO}{i:Δ}{t:c7}
theorem O4(h:AJt (cQ i t)):AJt (aR i (dO t)):=fun z E cx=>
 sU om (fc Dn BO (by
  obtain⟨F,Γ,D2,R,q,k⟩:=BO;have A6:(fun(ds:AR) (Ω:G2)=>(AYh (ABs i Ď)[i]? (.ow ds') (ABo ((ABs i Ď).set i (.pu (FF ds')))) (A7d Ď)))=fun ds Ω=>(A7d Akw):=by
   funext ds Ω
   by_cases hi:i<Γ1.length
   ·rw[ABY hi];dsimp only;rw[AuK]
   ·rw[Aet (DT hi)]
    rw[BLH,BLH]
  refine⟨F,Γ,{D2 with nx:=AU3 (AYh B4[i]? Ď (ABo (Γ'.set i Akw)) (ABo B4))},R,?_,AKu (fun B4 F' H' DI R' s' q' => ?_) k.bk k.ct⟩
  ·show BQ (t Γ _ E);dsimp only;rw[A6];exact q
  ·dsimp only at q';split at q'
   ·rename_i ds e;obtain⟨a,F2,_,s2,R2,_⟩:=R'.frz e;exact AAV R2 (s'.trans s2) q'
   ·exact AAV R' s' q'))
#where
def iR(t u:cD):c7:=cK t d (Ϛ u d' (AaG d d' VU APq (BXR (P A9r BF))))
section
variable{X:Cx}{F0 H0:Hp}{a b c:AK}{Ψ:AN}{ta tb tc:cD}
theorem z6p{M:A0}{w:An}{A:Bi}{E:dW}{s:AC}{l b:Ζ}{vs ws:At}(wp)(hl:AlF qa)(hb:Bre b BI')
  (h:Aaj (AUs (A7U).pz)) (hsz:D7 (KO+NS)):AUO (AS5 M w) (Atj .Add AEk (BY b)):=by
 obtain⟨⟨cls,dd,ABT,sl⟩,ho,hc,n,hd⟩:=id hl;obtain⟨⟨cls2,dd2,data2,sl2⟩,ho2,hc2,n2,hd2⟩:=id hb;simp only at hc hd hc2 hd2;subst hc hd hc2 hd2;have e:qa++BI'=(A7U).pz:=DB
 refine concat_meets (N0 ho) (N0 ho2) noFill_list_add seq_list_add PySem.F.slot_list_add PySem.F.entry_list_add (PySem.F.args_list_add_2 _ _) (list_addW l b qa BI' n n2 dd dd2 sl sl2 (DT hsz)) (CU ho ho2)
 show Zp e
theorem zs2(ha:ZT)(hb:Ϭ):AH6 (.BinOp a .Add b Ψ) (iR ta tb):=fun z E cx=>
 oh (Sb ym4 r (AJJ (∃p q xs ys,x= RI/\y= .B9 q/\nZ AG H p xs/\ADr nZ q/\D7 (By+NR)/\BgU A9r)) (by
  rintro Ο s σ H x y v u Q I rx ry ⟨p,q,xs,ys,e1,e2,h1,h2,hz,k⟩;subst e1 e2;show AD rx rx rx rx rx rx rx rx rx rx rx rx rx rx;show AD ry ry ry ry ry ry ry ry ry ry ry ry ry ry;obtain⟨AW,r,pl,_⟩:=kL h1;obtain⟨its2,r2,pl2,_⟩:=kL h2;have l1:=SK;have l2:=r2.length;refine z6p kX pl2.isList ?_ Θ
  exact IF (.B9 _) (AUi I.lnew (BIN r2) (ACs P9)) (k _ Auf)) G1 N_) (NI Bz Bz (AcI (by
   cases d1 with
   | DC xs=>
    cases d2 with
    | DC ys=>
     have r1' :=AG3 s2;show AFY r1';show Fu q ws Bz Lx r2;refine⟨p,q,vs,ws,Β,Β,BId hq,BId Bz,by rw[<- tP,<- kE Lx];exact h2.1,Cb l hl⟩
     have ra:=Mw rs Lx;obtain⟨R3,e1,e2,e3,ap⟩:=Jh R2 hl ra;exact k _ BF F2 _ l _ R3 tq e1 e2 e3 ra ap h2.2
    | _=>show UQ h2
   | _=>show UQ h2)))
def Iu:D ->AT | BH=>Μ | ly=>Μ | dc=>Μ | i7=>Μ | _=>AE
def eqD:BVj
 | BH,BH=>Μ
 | .bl a,ox=>AIM
 | .bl a,APh=>BYs
 | APg,ox=>a==(CD b 1 0)
 | APg,APh=>AIM
 | .AX a,.AX b=>AIM
 | _,_=>AE
def inD(x:D)(xs:AR):AT:=xs.any fun y=>eqD y x
def rH(neg:AT):Iq:=ø (ut y VU Bdd da Bdd)
theorem Jv(BYN)(h:Iu d=Μ)(r:TC):qP v=Μ:=by
 (show MQ d d d d d d d d d d d d d d)<;>first | (subst r;rfl) | (show MT h zJ)
theorem abI(OA){d e:D}{v u:V}(h:Iu d=Μ)(h' :Iu e=Μ)(r:TC)(r' :EJ K F e u):Mu v u=eqD d e:=by
 (show MQ d d d d d d d d d d d d d d)<;>first | (show MT h zJ) | (subst r;(first|subst e|exact aaz e|exact aaA e|exact aaC e|exact aaB e|exact aaE e|exact aaD e|exact aaF e|show Afl|show ON e|show OL e|show NX e|show OM e|cases (e))<;>first | (show MT h' zJ) | (subst r';rfl))
theorem Yq(OA):Bhh (vs.all qP=Μ)
 | [],vs,r,_=>A0c
 | Z3,vs,r,h=>by
  show AbV;rw[ATR,eS] at h⊢;exact⟨Jv Ee r1,Yq r2 h.2⟩
theorem Jw{K:AA}{F:Hp}{x:D}{u:V}(hx:ACe Iu)(rx:EJ K F x u):Bhh (inV u vs=inD x ds)
 | [],vs,r,_=>A0c
 | Z3,vs,r,h=>by
  show AbV;rw[ATR,eS] at h;unfold inV inD;rw[ALx,ALx,abI Ee hx r1 rx];have:=Jw hx rx r2 h.2;unfold inV inD at Τ;rw[Τ]
theorem Rt:AAh In Am8:=by
 rintro Ο s σ H x y v u Q I rx ry ⟨F,d1,d2,P,sF,r1,r2,h,k⟩;show D' rH;show N9
 ·show AFY r2;show RE h1 h2 h3;exact Ğ zyy x v u ⟨p,vs,Β,ApX,Jv h1 r1,Apd,sT (WB (Jw h1 r1 rs h2)) h3⟩
 ·show AFY r2;show RE h1 h2 h3;exact Ğ zyy x v u ⟨p,vs,Β,Apa,Jv h1 r1,Apd,sT (WB (Jw h1 r1 rs h2)) h3⟩
 ·show HL
theorem ynl:AAh NotIn A4e:=by
 rintro Ο s σ H x y v u Q I rx ry ⟨F,d1,d2,P,sF,r1,r2,h,k⟩;show D' rH;show N9
 ·show AFY r2;show RE h1 h2 h3;exact Ğ zok x v u ⟨p,vs,Β,ApX,Jv h1 r1,Apd,sT (WB (Jw h1 r1 rs h2)) h3⟩
 ·show AFY r2;show RE h1 h2 h3;exact Ğ zok x v u ⟨p,vs,Β,Apa,Jv h1 r1,Apd,sT (WB (Jw h1 r1 rs h2)) h3⟩
 ·show HL
def dw(g g' :Iq)(ta tb tc:cD):cD:=cK ta x (Ϛ tb y (g x y fun r=>(UV r (.bl k) (JU k BjJ (P AH1 BF)))))
theorem z8p{K:AA}{g g' :Iq}{E:XW}{σ:St}{H:Hp}{Q:VK}(h:AH3 Jg (dw g g' ta tb tc)):Jd (uR K g) (uR K g') (Aa1 ta) (Aa1 tb) (Aa1 tc) σ H Q:=by
 show RU h;refine AMR x v1 (AVx (AV1 y v2 ⟨F2,x,y,_,R2.g,A5J,r2,h2,fun d z F' H' gr rz hp=> ?_⟩));cases d with
 | bl b=>
  refine CU b rz;have R3:=Ae0 gr;cases b with
  | Μ=>
   show Û;have hp' :BjJ:=hp;exact⟨F',BF,_,R3,hp',fun w Γ3 F3 H3 v3 R4 s4 r4 h4=>⟨F3,y,w,_,R4.g,r2.up (BI2 s4),r4,h4,fun d z F5 H5 gr5 rz5 hp5=>k d Γ3 F5 H5 z (R4.grow gr5) (BT8 gr5.f) rz5 hp5⟩⟩
  | AE=>
   show A7 AK4;have hp' :P AH1 BF:=hp;exact k _ BF F' H' _ R3 (Agv L_) JS hp'
 | _=>show UQ hp
theorem ydx(ho:Ayu op AXS)(EA :Ayu op' (uR AG g'))(ha:ZT)(hb:Ϭ)(hc:EW c tc)
  (hm:lastMarks [op,op'] [b,c]=AE:=by show AgB):EW BfR (dw g g' ta tb tc):=fun z E cx=>
 oh (yex (ho z) (EA z) G1 N_ Aj9 hm) (ĝ z8p)
#where
def yfr(sc Yo:Op):Op:={sc with I_:=sc.names.map fun ADp=>if (k== Sn&&Yo.kind== AMj&&BI5 n==Ε cz) then(n,cz) else ADp}
section
variable{X:Cx}{F0 H0:Hp}{x:Κ}{Ψ:AN}{d:D}
def Ru(K:AA)(mg:EN)(x:Κ)(d:D):Ι:=∃v u,AVY u/\OX/\∀F,TC
theorem yl3(hg:J_)(h:Ru AG pk x d)(BXS):EW v4 (cC d):=by
 obtain⟨v,u,hm,r,rp⟩:=h;exact X3 (FI (Da ylf hg hm r hd)) rp
theorem glb_tup{K:AA}{mg:EN}{a:Ζ}{od:N4}{AW:Lm}{n:Δ}{sl:AEO}{ds:AR}(hm:AVY ED)(hk:Fr aI ⟨AhT,od,.seq AW n,sl⟩)(hz:Bn_)
  (hv:∃vs,KF vs BHa/\∀F,MV):Ru K mg x (GW ds):=by
 obtain⟨vs,rv,rp⟩:=hv;refine⟨CF,CF,hm,Β,II F⟩;exact TU a (.BD ⟨_,AW,n,hk,Β,Β,hz,rv⟩) (rp F)
#where
structure Jx (BcN) (st:AO) (f:Ζ) (fd:GA) (dV:AJ):Ι where
 ex:∃(oc:AJ) (od:N4) (kV doc pm:AJ) (an:N4) (cdv ct:AJ) (osl:AEO),
  BZQ (Atz x E2 AIo m_ zC dV kV doc pm an cdv ct)
 kp:AWv
section
variable{P:A0}{w:An}{K:AA}{mg:EN}{C3:AM}
theorem abJ(Ě){st:AO}{f:Ζ}{fd:GA}{dV:AJ}{N ps:Ρ}{k:Δ}{sp:dM}(Fn:Jx K x E2 st f fd dV)(S:AKa ps)(len:ASN)
  (xw:AKy (∀F0:Hp,
   ∃t,Aom m_/\Aqq BAQ)):
  AmH pA:=by
 show AFt;refine QK lk hcd S (ARL H Q E BO) (AKx E hr Bz)
 ·obtain⟨F,ds,P',Ex,_,rs,hs,_⟩:=BO;show AqK
 obtain⟨F0,ds,Pd,Ex,sF,rs,hsp,hQ,hE⟩:=Bz;show Aor;have cx:ASL:=by
  refine⟨fun Ο σ Γ F H1 s1 e s' I R hx=> ?_,AKV⟩;refine AKz;show APY F' x R' xr z1 z ASW
 exact⟨_,ht _ _ cx,F0,Anw,ANu (FM (Pd BH)) Pd,Ve sF rs,hq ds Pd Ex hsp,⟨fun Γ F' H' σ R' _ q=>BCN,đ,đ,AsC (hQ d v F' H' gr rv q),vT,fun _ _ _ _ _ _ _ _ _ q=>SO,fun _ _ _ _ _ _ _ _ q=>SO⟩⟩
structure Rv (AKt) (mg:EN) (C3:AM) (x:Κ) (k:Δ) (ps:Ρ) (sp:dM):Ι where
 ex:∃f fd,AWr pA/\AVY MD/\AWv/\ADe/\ATK K fd ps [BM]
#where
def dY(sp:dM)(t:c7):cD:=Z' (Af4 (ds++ [BH]) (ż (HZ d)) C C)
section
variable{X:Cx}{F0 H0:Hp}{e:AK}{es:C7}{Ψ p:AN}{x:Κ}{ps:Ρ}{k:Δ}{sp:dM}{t:c7}
theorem z17(Ar9 Rv):
  EW nE (aA sp t):=by
 obtain⟨f,fd,h1,h2,h3,h4,_⟩:=G.ex;exact z8d h1 hr hg h2 h3 h4 ha hdb he EI
#where
def VE(AFh):Ι:=AwA Aee KU Bpv
def lY(K:AA)(ta:cD):cD:=BpB (jh K C0/\Jp K C0/\VE K C0) AN'
def lZ(K:AA)(Cs:CH)(ta:cD):cD:=BeX (Cs.any fun C=>aV K C0 C)
theorem zvp(Bg1){s:AC}{h' :AM}{t' :Δ}{fp:CH}(I:AV)(k:Ank (b∉fp))(hf:AZp):A0U:=by
 have W5:f_ H (b∉fp):=YY e z (AO6 (hf b z).1)
 refine BFn fp AZA (fun b o _ _ hc e _=>A4p) (BOl A4p) BVd (BQd A4p) AjS (AUM e e) BWw (TM m hm) (MX) Ĳ
 ·obtain⟨f0,f1,f2,f3,f4,f5⟩:=hf b hb;exact⟨f3,f1,f4,f5⟩
 ·show uC o es ep ho r hm ⟨o,es,ep,k _ o (FI (A2j hf)) ho,r⟩
 ·show Bji
theorem zpb(h:Avu)(hb:MY):Awv Aag:=⟨MS hb Ee,h.2⟩
theorem z1o(BmH h' AM){t' :Δ}{fp:CH}{xs:AQ}{AW:At}(I:AV)(k:Ank (b∉fp))
  (A_:l9 (P1 b)) (ht:ADR SE Ax5) (hv:AOP) (hz:ϓ) (hf:AZp):
  AOr Y1 AOC:=by
 have I1:AOr Y1 BU9:=
  A2o (Å) Gc (ACW _ _ _ Y1 ⟨hz,AW,hv,A0a⟩)
 refine zvp (s:=BU9) (fp:=fp) I1 (AMc ?_) (E4 (zpb A1_ (zK (A_ b hb))));rcases Heap.get?_push_cases e with ⟨Β,Β⟩ | e
 ·exact ht
 ·exact k b o hb e
def Ite(K:AA)(a:Ζ):It:=
 AXs (BCP wn) (∃b v,x= AI2/\N3/\H' =EH H b (GW [GG,v])/\∀xs,wn ->AHr xs) (∃xs,wn/\AQL)
theorem ya3(BCx)(a e it:Ζ)(hne:e≠it):Turn P w K A8N (Ite K a) [e,it] e (U' h ((∃old,IsEnum h e it MU old)/\BP2)) where
 mem:=DB
 obj:=fun i h q b hb=>by
  show Acf;show APS WJ hb
  ·exact AbI q
  ·show AFS
   show BAa
 KG:=fun i h h' q k=>by
  show Acf;exact ë old (k e A1 _ q) (st.at fun o z=>(AhC z))
 SL:=by
  show AlL;show Acf;show On;show GB xs x hq hx hg;show GB AW rv p hz AI9;show BU u hu ru AGk hx;have el:P1 e:=zG q;have il:P1 it:=by show AOf z st;exact zG z
  show BG (wpAny_pyNext_enum_item q st ALc (x:=u) Aj' hne fun h1 eo st1 ht hs1 k1=> ?_) (BEZ wpAny_letOwnedTupleGo_enum eo);have Hg:A'P e:=sb;have I2:AOr (GW [GG,x]) (Ő h2 AHq):=
   z1o (fp:= [e,it]) (AW:= [.AU i Mc,u]) I (zk o z (ATw b o iF (k1 b o iF iF z)))
    (MO (by
     rcases WJ with Β | hb
     ·exact el
     ·show AFS
      exact il))
    ((Hg.2 _ (AEe el)).Ff ht) (BCM E7 ru) AoI hf
  refine⟨my,_,I2,Β,⟨_,x,Β,Auf,Β,A'I Atb⟩,⟨C5 u,(st1.extBut ATw (AGe hne))⟩,NF⟩
  ·have:A0v=MU+1:=Υ
   rw[Τ];exact e2
  ·refine(zpb A1_ ?_).1;show APS WJ hb
   ·exact zK el
   ·show AFS
    exact zK il
 KM:=by
  show AlL;show Acf;show On;show BEG;show AbN kL;show AEP;exact wpAny_pyNext_enum_end To q st ALc i_ (BMr [e,it] (zk o z (eb b o iF z)))
 PF:=BMq (by
  show Acf;exact Bro q h)
theorem zr7:AIS ĩ (Nc ĩ):=AI
def Yr(A7S):TI:=Bg0 (ϓ ->AcH Ite)
theorem yl1{X:Cx}{a:AK}{ta:TA}{p Ψ:AN}(BQF)(hg:Gl X ĩ)(hm:Q4 ĩ)(ha:AKQ [a])(hs:Aby:=by rfl):
  PI X AiF BNa (Yr AG ta):=by
 show DO R;refine Call_ (Ĝ zr7 (ATE Amf hs Β));show AI_ Cn;show Fu l xs hq q q1;show BU u Β rx ALm r1;show KA;show Bol;refine call_enumerate_list kX (Jn h' e1 st hsz kp);refine ADS Bro e1 ⟨sQ,BRa,_,_,H1,Β,Avj kp,ya3 l _ _ (ALa (Aec _)),⟨E6 e1,st⟩,NF,q hz⟩;have hb2:E3<=b:=by
  rcases WJ with Β | hb
  ·exact ATx _
  ·show Avy
   exact zN _
 exact AeU hb2 (Ķ hb2)
def Ly:ACR AR AR
 | _,[]=> []
 | k,x::r=> .Dx [AEo,x]::Ly LY r
theorem zve:∀(k:Δ) (xs:AR),AX3 (Sc Ly k xs)
 | _,[]=>Β
 | k,x::r=>by show Sc Ly LY r+1=SK+1;rw[zve]
theorem zwd:∀(k:Δ) (xs:AR) (i:Δ),(Ly k xs)[i]?=(xs[i]?).map fun d=> .Dx [.AU (MC (k+i)),d]
 | _,[],_=>Β
 | k,x::r,0=>Β
 | k,x::r,EZ=>by
  show(Ly LY r)[i]?=_;rw[zwd LY r i,JY (k+1+i=k+ Db)]
  rfl
def uh(uk):c7:=Z' (la [VU] (P (Ly 0 xs) Ω))
theorem yc7(Blf):Jr K F MK (Ite K a) (Ly 0 xs):=by
 show AnJ;refine⟨ADU zve,AKw (Lv ⟨vs,AjE,by rw[e,zve];show AF⟩)⟩
 rw[zwd] at hd;cases hx:xs[i]? with
 | Η=>show AsS hx
 | Ε x=>
  rw[hx] at hd;show ASX;show AbQ hx;refine BQi ARb;show zw b v2 hb Β z z;have:=z vs (s3.seq (AuR hq));rw[hv] at Τ;show LH;show AR9 [GG,v] s3 hb;refine i6 gr;unfold EJ;refine Al8 b (uc ?_ (uc (A8X L_) (by unfold aL;rfl)))
  unfold EJ;simp
section
variable{X:Cx}{F0 H0:Hp}{a b e tg:AK}{es:C7}{Ψ p pt:AN}{te:cD}{t:c7}{g:vP}{tb:aF}{elts:C7}
theorem zif{x1}(hc:F7)(hg:Gl X ĩ)(hm:Q4 ĩ)(ha:AOp)(hs:Aby:=by rfl):
  A_l BNa (uh t):=BhV yl1 (BBQ (by
  unfold uh at*;show AJS
  ·show AcS;exact BCK (AyR (yc7 hq rs hz))
  ·show ê))
#where
def um:WN:=AUf (ut ds [ox] (Y3 (CD b 1 0)) [GG] (Y3 i))
theorem yka:fj X (Nc ALJ) (wg AG um):=by
 show pV;show D' um;show N9
 ·show Ans;show Tu;show KA;exact call_int_bool ⟨dc,H,AM5,E7,AAj⟩
 ·show Ans;show Tu;show dL;exact call_int_int ⟨dc,H,I,E7,AAj⟩
 ·show HL
theorem ztm:Bco BAx BNM
 | [],_,Eg=> Eg
 | n::ns,_,.AY h r=>by
  show PY h;exact A1k (ztm r)
theorem Xw:Bco BNM BAx
 | _,_,Eg=> Eg
 | _,_,iO _ _ r=> iO E7 (Xw r)
def yh:TD:=AJB (∃ns,Aoe/\IO<64/\∀ms:CI,ATy ns ->BO5 ->AXH mI)
section
variable{CY:A0}{w:An}{A:Bi}{E:dW}{s:AC}
def iT(t:AT)(h:AM)(it l:Ζ)(i:Δ):Ι:=BBe (Bqq it l i) (Bqr it l i)
def jo(t:AT)(h:AM)(l:Ζ)(xs:Lm):Ι:=BBe (h.IsList l xs) (h.IsTuple l xs)
theorem O5(x:AIv h)(k:∀o,AFI it ->ADK it):AIv h':=by
 show AEd t t t t t t t t t t t t t t (BAk k)
theorem z0k(x:jo t h l xs)(k:∀o,AFI l ->ADK l):jo t h' l xs:=by
 show AEd t t t t t t t t t t t t t t (BAk k)
theorem ztw(x:AIv h):Ay7 (AFI it):=by
 show AEd t t t t t t t t t t t t t t (let ⟨o,ho,_,d⟩:=x;AFH AwD)
theorem Ys(hl:AqE)
  (hQ:Aaj (cq (CD t Brp BI7) #[N2,AEJ])):Alm l:=by
 show Acs
 ·exact AuQ hl hQ
 ·exact BIc hl hQ
theorem zm4(hit:AIv A9)(hl:AqE)(hx:Ţ)
  (hQ:ADZ (iT t h' it l Db) (A8H it) (Q x Sk)):BS8:=by
 show Acs
 ·exact wpAny_nextOf_list_item hit hl hx hQ
 ·show BlZ (z6 (AL3 ho hd A1 (z7 (VO x (z7 (hQ _ ?_ AyB))))))
  exact BBc
theorem zxl(hh:P3)(hit:AIv A9)(hl:AqE)(hx:xs[i]?=Η)
  (hE:Bdo Bep):BS8:=by
 show Acs
 ·exact wpAny_nextOf_list_end hh hit hl hx hE
 ·show BlZ (BPj (AL3 ho hd A1 ?_))
  show ADx Y_ A8J BEm
  show BG A8W A1z
  first | rw[show Akg from hh] | rw[hh]
  refine BTX;exact hE _ _ (BgV _) AWj
structure Ay (z TI TO i1 i2 l1 l2:Ζ):Ι where
 p:TI≠z/\TO≠z/\i1≠z/\i2≠z/\TI≠TO/\TI≠i1/\TI≠i2/\TO≠i1/\TO≠i2/\i1≠i2
 q:l1≠z/\l1≠TO/\l1≠i1/\l1≠i2/\l2≠z/\l2≠TO/\l2≠i1/\l2≠i2
theorem Ay.k(BnG)(D:Bmz Ay):Abb:=by
 obtain⟨⟨a1,a2,a3,a4,a5,a6,a7,a8,a9,a10⟩,b1,b2,b3,b4,b5,b6,b7,b8⟩:=D;exact⟨a1,a2,a3,a4,a5,a6,a7,a8,a9,a10,b1,b2,b3,b4,b5,b6,b7,b8⟩
theorem z9x(Bje)(wp)(D:Abb)(hz:AoY)(hTI:Ao3)(hTO:Anu)
  (h1:AqT) (h2:AqU) (hl1:AR5) (hl2:ASE) (hx:IS xs k1 x) (hy:IS ys k2 y)
  (hQ:BbH (ύ h' x y ->A4z h' ->Hb (A4_ h') Bdz BO6 Ao7 (Agj Sk))):AV9 (Builtin.«zip.__next__» (GY [.B9 z])) (u7 EC (∃v,EC= AyJ v/\Q v s')):=by
 have kI:∀{t:AT} {h h' :AM} {it l c:Ζ} {i:Δ},BdP:=Aq' O5;have kS:BmO:=Aq' z0k;show Ă (AXi (field (BY z) 2)) (gi (AWS AMS) Β);show Ă (AXi (field (BY z) 3)) (Anq TI);show Tm (AQ_ hTI) BUo;show BG Y_ (z6 (AWS BM Β Ag6));simp only [xx];refine BLa;show Ak7 (Anq TO) BYD Cn (AQs g1) Cn Y_;simp only [Brt,Bru,BIu,Brv];refine AqC;refine z6 (zm4 BCp BAO hx fun g2 q1 hs2=>ADz);have Yt :ύ g2 a b:=BjG;show Ak7 (AQ_ Yt) (z6 (BJF Yt (As g3 t3 hs3))) t3 (ύ g3 x b) t3 BTZ;show BG AqC (z6 (zm4 Blt BlO hy fun g4 q2 O6=>ADz));have t4:ύ g4 x b:=Auj _ _ D.TOi2 t3;show Ak7 (AQ_ t4) (z6 (BJF t4 (As g5 t5 O7))) t5 (ύ g5 x y) t5 (z6 (BJG (z7 (z7 ?_))));show BG (AQ_ t5) (lP BJH);have hsz:AT3=Cl:=by rw[O7.1,O6.1,hs3.1,hs2.1,hs1.1]
 have hz5:AQs g5:=AfB _ _ BJI (Auj _ _ D.i2z.symm (AG9 _ _ BJI (AT2 _ _ BJJ Cn)));show FL hk5 (BnD BPR) (Bky (BjM c2 Auj e)) r1 (A4z g5) (kI (kI (kI q1 AG9 D.TOi1.symm) Auj D.i12) AfB D.TOi1.symm) r2 (A4_ g5) (kI q2 AfB D.TOi2.symm) zlt (z<AT3) (zG hz5);refine Y_;have hz6:AQs (g5.push (sB #[x,y])):=z8 _ hz5;refine Boc hz6 (As g7 hz7 hs7)
 replace hz7:AMp g7 (ϝ AT3):=hz7;refine Aui hz7 A1 (As g8 hz8 hs8)
 replace hz8:AMp g8 (ϝ AT3):=hz8;have up:∀c o,c≠z ->BPR ->g8.get? c=Ε o:=fun c o c1 e=>(BU0 c1 c1 gu);have hT8:AT1 g8 AT3 x y:=BU0 (AEe zlt) (AEe zlt) ApN;have sz8:g8.objs.size=AT3+1:=by rw[hs8.1,hs7.1,UI]
 rw[hsz] at hz8 hT8 sz8;refine z7 AFK;rw[hsz];exact hQ g8 hz8 (up _ _ D.TOz t5) (O5 r1 (AC' (up _ o D.i1z e))) (O5 r2 (AC' (up _ o D.i2z e))) hT8 sz8 (Bky (up c o c1 (hk5 c o c1 c2 c3 c4 e)))
theorem yec(AzZ){a b:AJ}{Q:PZ Fin}(hh:P3)(D:Abb)(hz:AoY)(hTI:Ao3)(hTO:Anu)
  (h1:AqT) (h2:AqU) (hl1:AR5) (hl2:ASE) (hend:BYz)
  (hE:Bdo (Ao7)):Kb (Builtin.«zip.__next__» (GY [.B9 z])):=by
 have kI:∀{t:AT} {h h' :AM} {it l c:Ζ} {i:Δ},BdP:=Aq' O5;have kS:BmO:=Aq' z0k;show Ă (AXi (field (BY z) 2)) (gi (AWS AMS) Β);show Ă (AXi (field (BY z) 3)) (Anq TI);show Tm (AQ_ hTI) BUo;show BG Y_ (z6 (AWS BM Β Ag6));simp only [xx];refine BLa;show Ak7 (Anq TO) BYD Cn (AQs g1) Cn Y_;simp only [Brt,Bru,BIu,Brv];refine AqC;cases hx:xs[k1]? with
 | Η=>
  refine z6 (zxl hh BCp BAO hx (M' g2 e hs2 he));show F6 oe hoe hce he;have hz2:AQs g2:=hs2 _ _ BJJ Cn;have hez:e≠z:=Tk (by subst x;rw[hz2] at hoe;show AD hoe hoe hoe hoe hoe hoe hoe hoe hoe hoe hoe hoe hoe hoe;simp at hce)
  exact Aui hz2 A1 fun g3 _ hs3=>hE g3 e (fun c o c1 _ c3 _ x=>AG9 _ _ c1 (hs2 _ _ c3 (AL8 _ _ c1 x))) ⟨oe,AG9 _ _ hez hoe,hce⟩
 | Ε x=>
  have hy:Boy:=by rcases hend with h | h;rw[hx] at h;show HK;exact h
  refine z6 (zm4 BCp BAO hx fun g2 q1 hs2=>ADz);have Yt :ύ g2 a b:=BjG;show ADx (AQ_ Yt) (z6 (BJF Yt (As g3 t3 hs3))) BTZ;show BG AqC (z6 (zxl hh Blt BlO hy (M' g4 e O6 he)));show F6 oe hoe hce he;have hz4:AQs g4:=O6 _ _ D.i2z.symm (AG9 _ _ BJI (AT2 _ _ BJJ Cn));have hez:e≠z:=Tk (by subst x;rw[hz4] at hoe;show AD hoe hoe hoe hoe hoe hoe hoe hoe hoe hoe hoe hoe hoe hoe;simp at hce)
  exact Aui hz4 A1 fun g5 _ O7=>hE g5 e (fun c o c1 c2 c3 c4 x=>(BjM c1 O6 x)) ⟨oe,AfB _ _ hez hoe,hce⟩
theorem z4x(Bje){Q:Akr}(D:Abb)(hz:AoY)(hTI:Ao3)(hTO:Anu)
  (h1:AqT) (h2:AqU) (hl1:AR5) (hl2:ASE) (hx:IS xs k1 x) (hy:IS ys k2 y)
  (hQ:BbH (ύ h' x y ->A4z h' ->Hb (A4_ h') Bdz BO6 Ao7 (Q (Ε ADh) Sk))):AKB z:=by
 have hT:BUM :=N0 hz;exact z6 (BJK (APD hT Auk (AyZ Auk hT Brx (z9x D hz hTI hTO h1 h2 hl1 hl2 hx hy fun h' a1 a2 a3 a4 a5 a6 a7=>z7 (hQ h' a1 a2 a3 a4 a5 a6 a7)) Bry)))
theorem z9w(AzZ){a b:AJ}{Q:Akr}(hh:P3)(D:Abb)(hz:AoY)(hTI:Ao3)(hTO:Anu)
  (h1:AqT) (h2:AqU) (hl1:AR5) (hl2:ASE) (hend:BYz)
  (hQ:Am_ (Ao7)):AKB z:=by
 have hT:BUM :=N0 hz;refine AkR (APD hT Auk (AyZ Auk hT Brx (yec hh D hz hTI hTO h1 h2 hl1 hl2 hend (M' h' e hk he)) Bry));show ie ho hc he;refine fw BEn (AFH hc) BJM;exact z7 (hQ _ hk)
def Yu(t:AT):KE:=if t then Brp else BI7
abbrev zH1(t1:AT)(h:AM)(l1:Ζ):AM:=BYM ATb
abbrev zH2(Ar2):AM:=(zH1 t1 h l1).P7 (cq (Yu t2) #[.B9 l2,AEJ])
abbrev zH3(Ar2):AM:=(zH2 t1 t2 h l1 l2).P7 (sB #[.B9 Mm,.B9 (A8r h)])
abbrev zH4(Ar2):AM:=(zH3 t1 t2 h l1 l2).P7 (sB #[BM,BM])
abbrev Vk(Ar2):AM:=(zH4 t1 t2 h l1 l2).P7 (cq eB #[BM,AMS,AMS,BZH zH2,BZH zH3])
theorem z6z(x:jo t h l xs)(o:Obj):jo t (ATb o) l xs:=z0k x (YI e zn)
theorem Jy(hl:AqE)
  (hQ:Aaj (cq (Yu t) #[N2,AEJ])):Alm l:=Ys hl hQ
theorem Rx(t1 t2:AT)(l1 l2:Ζ)(xs ys:Lm):Meets (Builtin.«zip.__new__» (GY [SS eB,.B9 l1,.B9 l2])) (fun _ R s=>AR5/\ASE/\AxR (BY (AwN zH4)) (cE (Vk t1 t2 A9 l1 l2))):=
 Bj3 (by
  show AFe;show RE hl1 hl2 h;have hsub:=sub_zip;have hL1:jo t1 (Shared.heap (ACT hp tk)) l1 xs:=hl1;have hL2:jo t2 (Shared.heap (ACT (BYM hp.push) tk)) l2 ys:=z6z hl2 _
  wp_walk using Jy hL1,Jy hL2
  exact OS h)
theorem z3t(e:gT (cq (Yu t) #[N2,AEJ])):iT t h a l 0:=by
 show AEd t t t t t t t t t t t t t t (KW _ e Β)
theorem z7k(hl1:AR5)(hl2:ASE)
  (h:ADZ (IsZip h' BNU BLx BN6 BM) (AT1 h' BLx ADh (BY oa)) (Hb (AT1 h' BN6 BM BM) (iT t1 h' Cl l1 0) (iT t2 h' oa l2 0) (∀c o,AUn c ->ADK c) (M_ BNU Sk))):Kb (qA (Nc eB) [.B9 l1,.B9 l2]):=by
 refine callType_new F.called_zip Φ (F.typeCall_zip_2 _ _) (F.newCall_zip_2 _ _) (BA obj (F.args_object_init_3 obj _ _)) F.entry_zip_new (Rx t1 t2 l1 l2 xs ys) (CU hl1 hl2)
 have z1:A8r A9=Ϡ:=APU;show FL z2 (A_g zH2 2) (A1g z1) z3 (A_g zH3 3) (A1g z2) z4 (A_g zH4 4) (A1g z3) g5 (A8e zH4) Si;show FL g4 (A8e zH3) (z8 _ ApN) g3 (A8e zH2) (z8 _ A'N) g2 (Axe (A8r A9)=Ε _) (z8 _ (z8 _ A'N)) g1 (ADR Axe _) (z8 _ (Aap A'N));rw[z2,z3,z4] at g5;rw[z1,z2] at g3;rw[z3] at g4;rw[z1] at g2;rw[z4];exact⟨N0 g5,h _ g5 g3 g4 (z3t g1) (z3t g2) fun c o x=>z8 _ (Aap (Aap x))⟩
#where
def Sq(t:AT)(K:AA)(H:Hp)(a:Ζ)(xs:AQ):Ι:=BBe wn AFQ
theorem Vl(I:AV)(h:BEk xs):BBi (jo t A9 a SD):=by
 show Acs
 ·obtain⟨AW,rv,p,hz⟩:=Az9;exact⟨AW,rv,ALc,hz⟩
 ·obtain⟨AW,rv,p,hz⟩:=ĳ h;exact⟨AW,rv,p,hz⟩
theorem yg1(I:AV)(h:BEk xs)(h' :BEk ys):xs=ys:=by
 show Acs
 ·exact Atb h h'
 ·exact BHk h h'
def Itz(K:AA)(t1 t2:AT)(a b:Ζ):It:=
 ⟨fun i H=>∃xs ys x y,BDR/\BDS/\Ţ/\Avz,fun i H v H' =>∃c x y,v= Ajn/\RC c/\H' =EH H c (GW [x,y])/\ (A7T BDR)/\∀ys,BDS ->Avz,
  fun i H=>∃xs ys,BDR/\BDS/\ (AQL\/NR<=i)⟩
theorem zap{n l1 l2:Δ}(h1:l1<n)(h2:l2<n):Ay (n+4) (n+2) (n+3) n VC l1 l2:=by
 have e:∀a b:Δ,a≠b ->(a:Ζ)≠b:=A3O;refine⟨⟨Rs,Rs,Rs,Rs,Rs,Rs,Rs,Rs,Rs,Rs⟩,Rs,Rs,Rs,Rs,Rs,Rs,Rs,Rs⟩<;>(show qr)
theorem ydt(BCx)(t1 t2:AT)(a b z TI TO i1 i2:Ζ)(D:Ay z TI TO i1 i2 a b):Turn P w K A8N (BEU b) Ar4 z
  (U' h (AMp h BM/\BnB h/\ (∃u v,ύ h u v)/\iT t1 h i1 a i/\iT t2 h i2 b i)) where
 mem:=DB
 obj:=fun i h q c hc=>by
  show AsI;show ASB hc;show BFr
  ·exact AbI q1
  ·exact AbI q2
  ·exact AbI q3
  ·exact ztw q4
  ·exact ztw q5
 KG:=fun i h h' q k=>by
  show AsI;exact⟨k z A1 _ q1,k TI A1 _ q2,⟨u,v,k TO A1 _ q3⟩,O5 q4 (AC' (k i1 A1 o e)),O5 q5 (AC' (k i2 A1 o e))⟩
 SL:=by
  show AlL;show AsI;show On;obtain⟨xs,ys,x,y,BO,Bz,hx,hy⟩:=hg;obtain⟨AW,rv,p,_⟩:=Vl I BO;obtain⟨jts,Vm,p2,_⟩:=Vl I Bz;show BU ux hux rux AGk hx;show BU uy huy ruy Vm.get hy;have lt:∀c∈ Ar4,P1 c:=Ϫ (by
   show ASB hc;show BFr
   ·exact zG q1
   ·exact zG q2
   ·exact zG q3
   ·show AOf e (ztw q4);show dC
   ·show AOf e (ztw q5);show dC)
  have Dk:=D.k;refine z4x Dk q1 q2 q3 q4 q5 p p2 (x:=ux) (y:=uy) (DT hux) (DT huy) fun h1 a1 a2 a3 a4 a5 a6 k1=> ?_
  refine BEZ wpAny_letOwnedTupleGo_zip a1;have Hg:A'P z:=sb;have zl:=lt z A1
  have I2:BPr (GW [x,y]):=
   z1o (fp:= Ar4) (AW:= [ux,uy]) I (BQg (BV8 iF iF e))
    lt ((Hg.2 _ (AEe zl)).Ff a5) (BCM rux ruy) AoI hf
  refine⟨my,_,I2,Β,⟨_,x,y,Β,Auf,Β,fun zs hz=>(CL (yg1 I hz BO) hx),fun zs hz=>(CL (yg1 I hz Bz) hy)⟩,⟨e2,?_,⟨ux,uy,ATw _ _ Dk.TOz a2⟩,BVh a3 Dk.i1z,BVh a4 Dk.i2z⟩,Cb c hc⟩
  ·exact ATw _ _ Dk.TIz (k1 _ _ Dk.TIz Dk.TITO Dk.TIi1 Dk.TIi2 q2)
  ·exact Bdk lt
 KM:=by
  show AlL;show AsI;show On;obtain⟨xs,ys,BO,Bz,hx⟩:=hg;obtain⟨AW,rv,p,_⟩:=Vl I BO;obtain⟨jts,Vm,p2,_⟩:=Vl I Bz;have l1:=AeP;have l2:=Vm.length;refine z9w To D.k q1 q2 q3 q4 q5 p p2 ?_ fun h' k1=>(Ic (AxL zvp fp Ar4 I (fun c o hb e=>BV8 iF iF e) hf))
  rcases hx with hx | hx
  ·exact CS i_
  ·exact C_ i_
 PF:=BMq (Br0 q.1 h)
theorem yf0:AIS eB (Nc eB):=AI
def abK(A7S):TI:=AjG (∃t1 t2 a b xs ys,vs= [CF,AI2]/\Sq t1 K H1 a xs/\Sq t2 K H1 b ys/\ (ϓ ->AYT ->R (BEU b) H1))
theorem ynu{X:Cx}{a b:AK}(BFY)(BQF)(hg:Gl X eB)(hm:Q4 eB)(ha:AKQ si)(BjO):
  PI X AiF BPY (abK AG ta):=by
 show DO R;refine Call_ (Ĝ yf0 (BKQ Amf hs EI));show AI_ Cn;obtain⟨t1,t2,l1,l2,xs,ys,Β,BO,Bz,q⟩:=q1;cases r1 with
 | AY r rr=>
  cases rr with
  | AY r' rr=>
   show BGV;show AD r r r r r r r r r r r r r r;show AD r' r' r' r' r' r' r' r' r' r' r' r' r' r';show GB AW rv p1 Cn (Vl I1 BO);show GB jts Vm p2 hz2 (Vl I1 Bz);have n1:Bpe l1:=by show AEd t1 t1 t1 t1 t1 t1 t1 t1 t1 t1 t1 t1 t1 t1 (let ⟨o,e,_⟩:=p1;zG e)
   have n2:Bpe l2:=by show AEd t2 t2 t2 t2 t2 t2 t2 t2 t2 t2 t2 t2 t2 t2 (let ⟨o,e,_⟩:=p2;zG e)
   show BG (z7k p1 p2 fun h' e1 e2 e3 e4 e5 kp=> ?_) (Br0 e1 ⟨BQ3,[BQ3,E3+2,E3+3,E3,sQ],_,_,H1,Β,Avj kp,
    sL (ydt t1 t2 l1 l2) _ (zap n1 n2),⟨e1,e2,EL _ e3,e4,e5⟩,Cb c hc,q Cn hz2⟩)
   have hb2:E3<=c:=by
    show ASB hc;show BFr
    ·exact Aj4
    ·exact Aj4
    ·exact Aj4
    ·exact zN _
    ·exact Aj4
   exact AeU hb2 (Ķ hb2)
def nG(xs ys:AR):AR:=Ł (fun x y=> .Dx [x,y]) xs ys
theorem z65(OA){t1 t2:AT}{a b:Ζ}{vs us:AQ}{xs ys:AR}(BO:A9q (Sq t1 K H1 a vs))(Bz:A9q (Sq t2 K H1 b us))(r1:AIV)(r2:Qr ys us)(hz:AOj):Jr K F MK (BEU b) (nG xs ys):=by
 have l1:=kE r1;have l2:=kE r2;have lz:Sc nG xs ys=min By NR:=AfC;refine AMm (AKw (Lv ⟨vs,us,Aq1 BO,Aq1 Bz,Υ⟩))
 unfold nG at hd;rw[BJN] at hd;cases e1:xs[i]? with
 | Η=>show AsS e1
 | Ε x=>
  cases e2:ys[i]? with
  | Η=>rw[e1,e2] at hd;show ASX
  | Ε y=>
   rw[e1,e2] at hd;show AD hd hd hd hd hd hd hd hd hd hd hd hd hd hd;show Ct v hv rv yN r1 e1;show Ct u hu ru yN r2 e2;refine⟨⟨vs,us,v,u,Aq1 BO,Aq1 Bz,hv,hu⟩,As w H' z⟩;obtain⟨c,v2,u2,Β,hc,Β,z1,z2⟩:=z;have:=z1 vs (BO H2 AoB);rw[hv] at Τ;show Bmj;show Abs (z2 us (Bz H2 AoB)) hu;show LH;show AR9 [v,u] s3 hc;refine i6 gr;exact Al8 c (uc (A8X L_) (uc ((ru.up s2).up L_) JS))
def O8(uk):c7:=Z' (la [x,y] (match x,y with | VU,APq=>BdD | da,Akc=>BdD | _,_=>D6))
section
variable{X:Cx}{F0 H0:Hp}{a b e tg:AK}{es:C7}{Ψ p pt:AN}{te:cD}{t:c7}{elts:C7}
theorem Vn{x1}(hc:F7)(hg:Gl X eB)(hm:Q4 eB)(ha:A1w)(BjO):
  A_l BPY (O8 t):=Ak' (Da ynu hg hm G1 hs) EI (BBQ (by
  unfold O8 at*;split at h1
  ·show AJS
   ·obtain⟨v,_,Β,⟨l,us,Β,hq,rs⟩,⟨v2,_,Β,⟨l2,us2,Β,Bz,Lx⟩,Β⟩⟩:=r1;exact⟨AE,AE,l,l2,us,us2,Β,AWA,R1.g.seq Bz,FR hz (AhB (z65 (t1:=AE) (t2:=AE) (AoF (s.seq hq)) (AoF (s.seq Bz)) rs Lx hz))⟩
   ·obtain⟨v,_,Β,⟨l,us,Β,hq,rs⟩,⟨v2,_,Β,⟨l2,us2,Β,Bz,Lx⟩,Β⟩⟩:=r1;exact⟨Μ,Μ,l,l2,us,us2,Β,A4u,uQ LU Bz,FR hz (AhB (z65 (t1:=Μ) (t2:=Μ) (AoF (uQ s hq)) (AoF (uQ s Bz)) rs Lx hz))⟩
   ·show ê
  ·show ê))
#where
def oN:Ρ ->AR ->Κ ->APj
 | pE,Z3,g=>Abq (Ε d) (oN fs ds g)
 | _,_,_=>Η
theorem zy5{K:AA}{F:Hp}{g:Κ}{x:D}:∀{fs:Ρ} {ds:AR} {vs:AQ},oN fs ds g=Ε x ->MV ->∃v,Aa3 g=Ε v/\EJ K F x v
 | [],_,_,h,_=>EG
 | EF,[],_,h,_=>EG
 | pE,Z3,vs,h,r=>by
  show AbV;show D' oN;show A6S;by_cases e:g=f
  ·show ϣ e;show HK;subst e;exact ϯ v r1
  ·show oz e;show Ct u hu ru zy5 h r2;exact⟨u,BMc e hu,ru⟩
theorem Yv:AW1 fs Ρ (g∉fs) (Aa3 g=Η)
 | [],_,_=>Β
 | EF,[],_=>Β
 | pE,AQn,h=>by
  show A6S;have h1:g≠f:=Lv (h (LG e))
  rw[BIq h1];exact Yv (vs:=vs) (BA e (h (zW _ e)))
def ou(C:Ζ)(f:Κ)(te:cD):cD:=Ŷ (AAa (C' =C/\∃x,oN fs ds f=Ε x/\HZ x))
def lu(BmA):cD:=Ŷ (AAa (C' =C/\AFT/\Bap))
section
variable{X:Cx}{F0 H0:Hp}{e o:AK}{es:C7}{Ψ p LS:AN}{f m:Κ}{C fa:Ζ}{fd:GA}{ps:Ρ}{k:Δ}{sp:dM}{te:cD}{t:c7}
theorem Bq(hc:Ϧ)(hn:hG)(he:Rc)(hb:AMw f:=by rfl):AU' xn e f (ou C f te):=fun z E cx=>
 oh (Da ygu Mb hb) (NI BO BO (ib (by
  cases d with
  | obj C' fs ds=>
   show GB Β x hx hp h1;obtain⟨a,dx,vs,Β,ea,hl,rs⟩:=r1;show Ct u hu ru zy5 hx rs;exact⟨a,C',dx,_,u,Β,LU _ _ ea,hc,hn,hu,k x Ω F1 H1 u R1 s1 ru hp⟩
  | _=>show AEl)))
theorem ykw(Bix)(hr:Ÿ)(hb:APB)(ho:AQW)(ha:TZ)
  (hst:AKq:=by rfl) (EI:AHf es:=by rfl)
  (ht:AJo AWI (do
   let ov<- XZ o
   AFf
   let (f,first)<- AGH ĸ ov m pl
   AGO (ŗ LE) AKO):=by rfl):
  AsH lu:=by
 show AFv;refine BDw (AAa (C' =C/\AFT/\Bap)) A_m Bjw
 cases d with
 | obj C' fs ds=>
  show AoQ q q;show Arf (Ar7 I1 A7b) (BlU (bZ (ha z E cx Ψ Ο s1 σ H1 (AIB H2 (∃F2 BF es,k9 F2 H2 BF/\AgO/\aL AG F2 es vs/\BpA)) I1 ⟨F1,Ω,_,R1,q,AV1 es vs ⟨F2,BF,es,R2,s2,r2,h2⟩⟩)
   fun us s2 ⟨ws,H2,I2,r,F2,BF,es,R2,Iv,Lx,q2⟩=>(C5 AfD)) hst EI)
  exact Rh (us:= CF::us) (vs:= CF::ws) Fn hr hb cx I2 R2 (.AY Β r) (uc (Rz.up Iv) Lx) q2 (Axi (kk d BF F' H' v BL9 (ļ (Iv.trans L_)) rv hp))
 | _=>show tz
#where
inductive Gk (Bmm dM):Ι
 | mk:∀x dx HM F ds Pd Ex,BQD ->(GT H (AHj [])) ->(Agl dx x) ->Hb (dx≠x) AIy (F x=Η) (F dx=Η) (BdK (∀d F' H' H3 v,BC (Gr F H F' H3) nK (Pd d) (H' =EH H3 x (AHj Amw)) AxD) Gk)
def wz(BYS dM):Sp:=Awu (Azg Gk)
theorem zms(h:fU P w DD H2 s2 E e s')(os:s2.os=s.os)(un:Bo_ H2 AeT)(kp:AWG PD Aez):AbX fU :=by
 obtain⟨a,C,H',B,dx,h1,h2,h3,h4,h5,h6,h7,h8,h9⟩:=h;exact⟨a,C,H',B,dx,h1,BJO os,h3,un.trans h4,h5,h6,cc e (h7 b o (lj kp) n),h8,h9⟩
def yO(C:Ζ)(f:Κ)(sp:dM):dM:=BkD (ż (P (.obj C [f] [d])))
section
variable{P:A0}{w:An}{K:AA}{mg:EN}{C3:AM}
theorem ykg(Ě){st st1:AO}{f:Ζ}{fd:GA}{N ps:Ρ}{k:Δ}{sp:dM}{C:Ζ}{fl:Κ}{FE:AK}{px KL Ψ:AN}(Fn:Aa8)(hbd:yM st= [st1,.ALZ (Ahh (AIF px) fl) FE Ψ])(S:AKa AyY)
  (hc:Aul K C) (hn:ADk fl) (hN:IS N 0 AvY) (RB:A6_) (len:ASN)
  (xw:AKy (∀F0:Hp,
   AHU (AGi FE (D9 (yz (AIF px) fl KL)) AtR (lT).Be)/\
   ∃t te,QS lT F0 H st1 t/\QE lT F0 H FE te/\
    Bgg (t (ANu (fun Γ=>te Γ BZF (FM Ex)) tj) (iw N AXR) (FM Ex)))):
  BWs wz:=by
 show AFt;refine QK lk hcd S (ARL H Q E BO) (AKx E hr Bz)
 ·obtain⟨x,dx,HM,F,ds,Pd,Ex,e,_,_,_,_,_,_,rs,hs,_⟩:=BO;show BBl e Awo
 obtain⟨a,dx,HM,F0,ds,Pd,Ex,ev,hx,hdx,hne,sF,fx,fdx,rs,hsp,hQ,hE⟩:=Bz;subst ev;obtain⟨hsw,t,te,ht,hte,hq⟩:=Aw2;have cx:ASL:=by
  refine⟨fun Ο σ Γ F H1 s1 e s' I R hx=> ?_,AKV⟩;refine AKz;show APY F' x R' xr z1 z ASW
 rw[hbd];refine i6 (zpk (ht _ _ cx) (zt7 (z9b (ADS sy hN RB) BPN hsw)));show BG (BlE (BmK (fun Γ F' H' σ R' s' q=> ?_) vT vT vT)) ⟨F',Γ,_,R',q,fun d Ω F1 H1 v R1 s1 rv hp=> ?_⟩;show n_ h0 hp hp;show ie eo ro BUz;show ZU u ru ro;subst ru;exact⟨CF,eo,a,C,dx,[],Β,Aj8 hx,hc,hn,B',hQ d F1 _ H1 v R1.gr rv hp Β⟩
#where
section
variable{X:Cx}{F0 H0:Hp}{e:AK}{es:C7}{Ψ p:AN}{x fl:Κ}{C f:Ζ}{fd:GA}{ps:Ρ}{k:Δ}{sp:dM}{t:c7}
theorem yj9(M:Mk AG C f)(Fn:BcI wz)(hr:AKX)(hg:J_)(hm:AEM)(hb:APB)
  (ha:TZ) (hdb:HH:=by decide) (uB):
  BcF:=by
 show AFv;refine AcK;refine ATo (h₀:=SH) ATp M.kp (AVr (AjO (AhJ (ż (HZ (.obj C [fl] [d])))))) he EI;obtain⟨vs,H1,I1,r,F1,Ω,ds,R1,sF,rs,q⟩:=Cn;refine AYm;have I2:=BW0 I1;have n1:Ë cS:=Amu;show FL n2 Als Amt ne BQ9 Aps kp Bd_ AY' sH (L9 H1 APK) (A_F n1 n2)
 show FL f1 (F1 cS=Η) (by
  cases q:F1 (sQ) with
  | Η=>rfl
  | Ε o=>show BGZ) f2 (F1 E3=Η) (by
  cases q:BpY F1 with
  | Η=>rfl
  | Ε o=>show Lc (LU _ _ q) n2 n2 n2 n2 n2 n2 n2 n2 n2 n2 n2 n2 n2 n2 n2) hs (wz AG C fl sp BUH APK BQR (A_z (∃x F',E Ω x/\Gr F1 H1 F' H' /\BEa))) (by
  refine⟨cS,E3,vs,F1,ds,_,_,Β,gU,A4m,ne,A4d,f1,f2,rs,q,?_,BgZ⟩
  rintro d F' H' H3 v gr rv hp Β;refine Ϲ;show FL g1 (F' cS=Η) (by
   cases q:F' (sQ) with
   | Η=>rfl
   | Ε o=>
    show Aba (gr.n _ _ q f1)
    ·show ARu gU
    ·rw[gU] at z;show MR;show Ϯ) g2 (F' E3=Η) (by
   cases q:BpY F' with
   | Η=>rfl
   | Ε o=>
    show Aba (gr.n _ _ q f2)
    ·rw[bJ ne,gU] at z;show MR
    ·rw[bJ ne,gU] at z;show MR;show Ϯ) abL (BKT H3 Avc) (gr.h _ _ (Ϟ (bJ ne) gU)) sZ (Gr F1 H1 BeP (Avt H3 [(fl,v)])) (by
   refine Ahg AaM AaM AaM
   ·rw[AVw f1,AVw f2];exact L_ _ _ e
   ·by_cases hb:b=cS
    ·subst hb;rw[gU] at e⊢;exact e
    ·rw[ub] at e⊢;by_cases hb2:b=E3
     ·subst hb2;show AFy gU abL
     ·rw[Ak0] at e;exact gr.g _ _ e
   ·show č n1;exact gr.h _ _ (sH _ _ e)
   ·by_cases hb:b=cS
    ·subst hb;exact CS n1
    ·rw[ub] at e;by_cases hb2:b=E3
     ·subst hb2;exact CS n2
     ·rw[Ak0] at e;have:=gr.n _ _ e n;unfold yr at Τ⊢;show ng ub Ak0;exact Τ)
  refine kk _ Ω _ _ _ (ATn sZ) (ļ sZ.f) ?_ hp;have s2:L9 F' BeP:=A_F g1 g2
  exact⟨cS,E3,[v],Β,gU,Β,uc (ATs s2) JS⟩) hl (ANp AQq) (by
  have e:=AV8 hs;rw[H_,<- SK,<- H_ (a:=AyD),e])
 have hbs:=hb BbR AQq AfD AoO
 show AGB;refine Blz;refine AL0 (AuS _ O_ _ _ (GY (Av9::us)) AQq _ _ _ Am5 A4b hbs BWh hs) (AVe hq');cases r with
 | kT e=>
  refine ABt Ο σ Ω F1 H1 s1 e s' I1 R1 (BCd ?_);have u1:A6n AgG Ayx:=BcY;have u2:BgO:=BQZ (EM (ADc ne) n1)
  exact Aum u2
 | ok Yw =>
  cases Yw with
  | ret u=>
   obtain⟨v,H',I3,rv,ev,q3⟩:=BQv;subst ev;exact⟨rv,BXt⟩
  | Kx=>show ϱ
  | brk=>show ϱ
  | OE=>show ϱ
#where
structure DN (BGL) (C3:AM) (C:Ζ) (m:Κ) (k:Δ) (ps:Ρ) (sp:dM):Ι where
 ex:BfS (AWr pA)
structure Mk2 (BdQ dM):Ι where
 ex:∃f fd,BWr wz/\Mk K C f/\AyO/\ADe
def Yx(BiR):cD:=Bka da (¬(ax By 0 l=0/\ax By By u=By)/\P (GW BZp) Γ3)
section
variable{X:Cx}{F0 H0:Hp}{e o:AK}{lo hi:AYR}{es:C7}{Ψ p p2 LS:AN}{x m fl:Κ}{C:Ζ}{ps:Ρ}{k:Δ}{sp:dM}{te:cD}{tl th:M5}{t:c7}
theorem Hh(G:Aqx DN)(hc:Ϧ)(hr:Ÿ)(ho:AQW)(ha:TZ)
  (hst:AKq:=by rfl) (EI:AHf es:=by rfl)
  (ht:AJo AWI (do
   let ov<- XZ o
   AFf
   let (f,first)<- AGH ĸ ov m pl
   AGO (ŗ LE) AKO):=by rfl):AsH lu:=by
 show ApC f h1 h2 h3;exact ykw hc h2 h1 hr h3 ho ha hst EI ht
theorem zo7(G:Bha Mk2)(hr:AKX)(hg:J_)(ha:TZ)(hdb:HH:=by decide)(uB):
  BcF:=by
 show AcJ h1 h2 h3 h4;exact yj9 h2 h1 hr hg h3 h4 ha hdb he EI
theorem yaf(BkC):Al5 e BFW (Yx te tl th):=fun z E cx=>
 oh (z3a ymq Mb (OO hl) (OO hh)) (NI DW DW (ib (AVx (fun l BF F2 H2 R2 s2 h2=>(Bjt (by
  cases d with
  | Dx xs=>
   have r3:=AG3 AoB;show Fu a vs hq rs r3;have Fh:=kE rs;refine⟨a,vs,Β,uQ R3.g hq,Nw Fh h3.1,ip⟩
   have gr:=Aep (o:=HO.tup (Aq vs l u)) R3.g hp;refine k _ Γ3 _ _ _ (R3.grow gr) (AUc (ApL L_)) ?_ h3.2;exact Al8 p ((z14 rs l u).up L_)
  | _=>show UQ h3))))))
#where
mutual
def rJ:AEp
 | og=>D6
 | ϸ=>D6
 | ă=>D6
 | Ċ=>D6
 | AQR=>D6
 | da=>jP xs
 | .obj _ fs xs=>G6 fs=AE/\jP xs
 | _=>IM
def jP:c0
 | []=>IM
 | Z3=>rJ d/\AI'
end
section
variable{K:AA}{F F' :Hp}{A:Aju}
mutual
theorem yiu(BT6):BFy (rJ d)
 | BH,_,_,h=>J'
 | ly,_,_,h=>J'
 | dc,_,_,h=>J'
 | i7,_,_,h=>J'
 | AEr,_,_,h=>J'
 | AEy,_,n,h=>by
  show AAw a vs;refine BDa (zmh hA ds vs n h2);show BEw
  ·rcases ARr with z | z
   ·exact z.tup.elim
   ·exact CS (HG z)
  ·rcases ARr with z | z
   ·exact z.frz.elim
   ·show AZK z
  ·exact C_ h1
 | AZZ,_,n,h=>by
  show Ar6;refine⟨a,dx,vs,h0,?_,h3,zmh hA ds vs n.2 h4⟩;rcases ARr with z | z
  ·have:=z.ins;show ng (z26 h3) n.1;show LH
  ·exact z
 | og,_,n,_=>WF
 | ϸ,_,n,_=>WF
 | ă,_,n,_=>WF
 | Ċ,_,n,_=>WF
 | AQR,_,n,_=>WF
theorem zmh(BT6):BFz AI'
 | [],_,_,h=>J'
 | Z3,_,n,h=>by
  show AAw v r;exact⟨v,r,h0,yiu hA d v n.1 h1,BCv zmh⟩
end
#where
theorem z2g(BeU):∀{ds:AR} {vs:AQ} (j:Δ),MV ->Qr (ds.set j d) (vs.set j v)
 | [],vs,j,r=>A0c
 | x::ds,vs,j,r=>by
  show Fu u us r1 r2 r;cases j with
  | UN=>exact uc h r2
  | UO j=>exact uc r1 (z2g h j r2)
def RD(i:Δ)(ti te:cD):aF:=AnI ((∃xs,AV6 AXQ)/\Ϛ ti k (AaG k BF[i]? AEo (Ε AXQ) (∃j,A7v k/\UD (Γ2.set i (.ow (Asy j d))))))
section
variable{X:Cx}{F0 H0:Hp}{x:Κ}{Ψ KL ABx:AN}{e k:AK}{i:Δ}{te ti:cD}
theorem yh8(hN:IG)(hv:OY)(hk:EW k ti)(he:Rc)(AiI)
  (ha:∀v,AS' BUQ BE v=(do
   let ov<- xj [v] (eL NC BE)
   let iv<- xj [v,ov] (eL k BE)
   AeN KL
   BdY
   BUF):=by intro _;rfl)
  (hs:AZo Anr e:=by rfl) (hw:AeQ Anr e BE=Hn Η:=by rfl)
  (h1:AcA Anr [AYU BUQ]:=by rfl):
  AMr Anr e (RD i ti te):=fun z E cx=>
 sU (Da yg4 Mb (Da yl5 ja A0n yfm ha) hs hw h1) (fc Dn BO (by obtain⟨F,Γ,D2,R,h,kk⟩:=BO;exact ib (by
  obtain⟨⟨xs,e0⟩,h2⟩:=h1;obtain⟨o,e1,a,vs,Β,g1,g2,g3,r⟩:=AaQ;refine⟨CF,e1,F1,Ω,_,R1,h2,fun k BF F2 H2 kv R2 s2 rk q=> ?_⟩;split at q
  ·rename_i k' xs' e2;show F6 j hj q q;obtain⟨o,e3,a',ws,Β,w1,w2,w3,tZ⟩:=BSa;rw[e1] at e3;show Acw;subst rk;have hl:=kE tZ;refine⟨a,ws,k',j,Β,Β,w1,Nw hl hj,?_⟩
   exact sL kk.nx (R2.wr e2 e1 (z2g (AG3 s2) j tZ)) tq q
  ·exact SO)))
#where
section
variable(K:AA)(F0 H0:Hp)
inductive UpR (t:cD) (E:XW) (σ:St) (H:Hp) (Q:VK):Ι
 | mk:BhH BX1 UpR
def upR(t:cD)(E:XW):TE:=AFU UpR
inductive Yy (t:c7) (E:XW) (σ:St) (H:Hp) (Q:AQF):Ι
 | mk:BhI (aL K (kO F0 F') ds vs) Yy
def abM(AZ9):TA:=AFU Yy
#where
def QR(V_)(e:AK)(t:cD):Ι:=Aaq upR
def QRA(BXV):Ι:=Ź PA es abM
section
variable{X:Cx}{F0 H0:Hp}{e:AK}{es:C7}{Ψ:AN}{te:cD}
theorem z7i{K:AA}{F:Hp}{a:Ζ}{vs:AQ}(h0:MI F0)(h:Ays):nZ K A5u a vs:=by
 have e:kO F0 F a=F a:=zre (MG q (A9g h0))
 rcases h with h | h
 ·left;unfold Rd at h⊢;rw[e];exact h
 ·exact C_ h
def Yz(uk):cD:=Z' (AI'/\HZ ANg)
#where
section
variable{X:Cx}{F0 H0:Hp}{e:AK}{es:C7}{Ψ p:AN}{x:Κ}{f:Ζ}{fd:GA}{ps:Ρ}{k:Δ}{sp:dM}{t:c7}{te:cD}
def Jz(jS):cD:=fun Γ P _=>te (gH Γ) (fun d _=>P d Γ) jO
#where
def YB{α:Ch}(lt:vF):A6N ->α
 | .ret a=>a
 | ArR=>YB lt (k AlI)
def Vo{α:Ch}(lt:vF)(n:Δ):AEV A6N
 | .ret _=>Μ
 | ArR=>Χ (i<n)&&(Χ (j<n)&&(Χ AAn&&Vo lt n (k AlI)))
theorem yh1(hc:∀i j (C:A1h),BC (i<n) (j<n) AAn (C AlI s) (cmp i j C s)):
  ∀(t:A6N) (Q:PZ α),Vo lt n t=Μ ->Q (YB lt t) s ->t.kasWp cmp Q s
 | .ret _,_,_,h=>h
 | ArR,Q,ok,h=>by
  unfold Vo at ok;show A7K ok;exact hc i j _ ok.1 ok.2.1 ok.2.2.1 (yh1 hc BfA Q ok.2.2.2 h)
section
variable{CY:A0}{w:An}{A:Bi}{E:dW}{s:AC}
theorem yct{vs:At}{p:u_}(hp:AHV AT4):AHV (BJP (p.toList.map Ahx)).size:=DL hp
#where
theorem zxj(h:ia):BXE vv (KF (ABz (A2g BH)) (ABz (FK (us.getD i eC))))
 | [],_=> Eg
 | i::is,k=>by
  have hi:=k i zY;show AEa hu ru (h.get (zZ hi));refine .AY ?_ (zxj h BhX);show BRy (HQ (ya i BH) (Axu us.getD)) hu ru
theorem zx6{K:AA}{F:Hp}{ds:AR}{vs:AQ}(h:MV):BXE Ajx (Qr (ABz (FK (ds.getD i BH))) (ABz (FK (AfE i BH))))
 | [],_=>DL aL
 | i::is,k=>by
  have hi:=k i zY;obtain⟨v,hv,rv⟩:=yN h (zZ hi);refine uc ?_ (zx6 h BhX);show BRy (EJ K F (ds.getD i BH) (AfE i BH)) hv rv
def JB(xs:DA):Ι:=AjR xs.Pairwise
theorem YC(h:JB xs)(hij:i<j)(hj:AYt):xs[i]'(AuC hij hj)<xs[j]:=AfF h i j _ hj hij
structure Bel (xs:DA) (j b:Δ):Ι where
 le:b<=By
 lo:BOz (k<b) (xs[k]<j)
 hi:BOz (b<=k) (j<=xs[k])
theorem zud(hr:Amk):∀(f lo hi:Δ),lo<=hi ->Hb (hi<=AfG) (hi - lo<=f) (BO0 (k<lo) (BM'<j)) (BO0 (hi<=k) (j<=BM')) (Bel xB j (Br2 xs j f lo hi))
 | 0,lo,hi,h1,h2,h3,h4,h5=>by
  show ZA lo hi
  exact⟨h2,h4,h5⟩
 | f+1,lo,hi,h1,h2,h3,h4,h5=>by
  unfold Br2;by_cases hl:lo<hi
  ·show DU hl;show FL hm1 (lo<=xA) Υ hm2 (xA<hi) Υ hm (xA<AfG) Υ hg (ya (xA) j=xB[xA]) (by
    have:xA<xs.size:=C6 hm
    simp [Array.getD,Τ])
   dsimp only;rw[hg];by_cases hc:xB[xA]<j
   ·show DU hc;refine zud hr f _ hi Θ h2 Θ (As k hk A_) h5
    by_cases e:k=xA
    ·show ü hc
    ·exact AuC (YC hr (Υ:k< xA) hm) hc
   ·show A7 hc;refine zud hr f lo _ Θ Θ Θ h4 BQG
    by_cases e:k=xA
    ·subst e;show AF
    ·show AAP (Aqg (xA<k) hk)
  ·show A7 hl;show ZA lo hi
   exact⟨h2,h4,h5⟩
theorem z2m(hr:Amk)(j:Δ):Bel xB j BTx:=re (zud hr _ 0 _ ì A1 Θ (fun k _ h=>Υ)) (fun k hk h=>by simp at hk;show AF)
theorem ynh(h:Bel xs j b)(k:Bel xs j c):b=c:=by
 rcases BJQ b c with q | q | q
 ·have hb:b<By:=zM q k.le;show ñ (k.lo b hb q) (h.hi b hb (zN _))
 ·exact q
 ·have hc:c<By:=zM q h.le;show ñ (h.lo c hc q) (k.hi c hc (zN _))
theorem yja(hr:Amk)(hn:xs[BTD]?≠Ε j):JB (SetTable.insertAt xs BTx j).toList:=by
 rw[SetTable.toList_insertAt];have hb:=z2m hr j;generalize BTD=b at*;have hn' :∀(h:b<AfG),xB[b]≠j:=fun h e=>hn (by rw[<- AfI,vt,e])
 unfold JB;rw[BJR];refine⟨hr.take,?_,M' a ha c hc⟩
 ·rw[AL_];refine APZ c hc hr.drop;show AFN k hk hc;rw[AGt] at hk;rw[Br3];have h1:=hb.hi (b+k) Θ Θ
  by_cases e:k=0
  ·subst e;have:=hn' Θ
   show AF
  ·show ñ (Aqg (b<b+k) Θ) (hb.hi b Θ (zN _))
 ·show AFN k hk ha;rw[qB] at hk;rw[Br4];have h1:=hb.lo k Θ Θ
  show APS (EQ hc) hc
  ·exact h1
  ·show AFN m hm hc;rw[AGt] at hm;rw[Br3];have:=hb.hi (b+m) Θ Θ
   show AF
theorem z4e(hr:Amk)(hi:i<=AfG):AfH xs (Aja (0<i) (xB[i - 1]' Θ+1) 0)=i:=by
 refine ynh (z2m hr _) ⟨hi,As k hk A_,BQG⟩
 ·rw[AT5 Θ]
  by_cases e:k=i - 1
  ·subst e;show Ale
  ·show AAP (Aqg (k<i - 1) Θ)
 ·split
  ·rename_i h0;have:=Aqg (i - 1<k) hk
   show AF
  ·exact ALk _
structure Hi (led:AT) (t:qi):Ι where
 ris:BMz
 dum:BoP
 led:t.led=led
theorem ybf:ADP (.AG_ 0 0 led):=VO (c8 SetTable.fresh JB) Β
theorem ybr(n:Δ):JB (Array.range n).toList:=CL Array.toList_range BJT
theorem zg0(h:AZ')(n:Δ):Hi led (t.standIn n):=VO (ybr n) h.led
theorem ycm(h:AZ'):ADP {t with plain:=AE}:=⟨h.ris,h.dum,h.led⟩
theorem z6x(j:Δ):BJU #[] j=AE:=DL BJU
theorem ztb(Bfg){j:Δ}:(BW4 ->BBh AfJ j≠Ε j)/\t.slot j≠ .dummy:=by
 unfold SetTable.slot;rw[hd,z6x];dsimp only;split
 ·exact⟨A0o,A0o⟩
 ·show Ki;exact⟨FM (DT q),A0o⟩
theorem z1w(Bfg){ha:Ą}{h:AB}:∀(f:Δ) (p:SetTable.Probe) {j:Δ} {dm:M1 Δ},p.dummy=Η ->Br6 t ha h f p=Ε (.empty j dm) ->dm=Η/\BW4
 | 0,p,j,dm,_,e=>Acv
 | f+1,p,j,dm,hp,e=>by
  have adv:(t.advance p).dummy=Η:=by
   unfold SetTable.advance;split<;>exact hp
  show ZY Br6;split at e
  ·show Ki;show Do;exact⟨hp,q⟩
  ·show Ki;exact cf q (ztb hd).2
  ·rename_i i q;split at e
   ·show AJN
   ·exact z1w hd f _ adv e
theorem yjh{led:AT}{t:qi}(h:AZ')(es:AAt)(k:AB)(x:AJ):ADP (layNew t es k x).2.1:=by
 unfold layNew;split
 ·rename_i LN wd q;unfold SetTable.freeSlot at q;split at q
  ·rename_i j dm e;cases (q);show n_ Β hs (z1w h.dum _ _ Β e);have hn:=(ztb h.dum).1 hs;dsimp only [BrN];have hp:ADP (t.put j).1:=⟨yja h.ris hn,by show(CD (BJU BJS j=Μ) _ BJS)= #[];rw[h.dum,z6x];rfl,h.led⟩
   unfold SetTable.orStandIn;split
   ·exact hp
   ·exact zg0 hp _
  ·show pS
 ·exact zg0 h _
theorem z7v(h:AZ')(es:AAt)(n:Δ):ADP (Aun t es n).2.1:=by
 unfold Aun;split
 ·rename_i t' order q;dsimp only;split
  ·unfold SetTable.relaid SetTable.laid at q;cases e:SetTable.layClean (SetTable.sizeAbove n - 1) (es.map (·.1)) with
   | Η=>rw[e] at q;show LZ
   | Ε owner=>
    rw[e] at q;cases (q);refine VO ?_ h.led;have B_:∀l:DA,((l.filterMap fun j=>(owner.getD j none).map (j, ·)).map (·.1)).Sublist l:=by
     intro l;induction l with
     | D8=>exact List.Sublist.refl _
     | AY a r ih=>
      rw[AtD];cases owner.getD a Η with
      | Η=>exact ih.cons _
      | Ε v=>exact ih.cons₂ _
    exact List.Pairwise.sublist (B_ _) BJT
  ·exact zg0 h _
 ·exact zg0 h _
section
variable{CY:A0}{w:An}{κ:Ch}[ώ](knd:AGJ)(kf:AFa)
structure rK (led:AT) (o:Obj) (ks:vn) (es:AAt) (ep:Δ) (t:qi):Ι where
 ex:o.ExactSet
 dat:BgF
 el:ApH Asz
 fit:t.fits FU=Μ
 tok:AZ'
 A6:(Auo A2J).ei ks
def vH(led:AT)(h:AM)(a:Ζ)(ks:vn):Ι:=∃o es ep t,AAX/\AFm
def uo(ks:vn)(k:κ):vn:=AjT AnT ks ks k
variable{knd kf}(hkf:BAf)
include hkf
theorem yib(el:ApH es):k∈es.map (BA e (kf e.2))↔∃e∈es,AfK k e.2=Μ:=by
 rw[aE];constructor
 ·show APW e he;obtain⟨⟨k',hk',_⟩,_⟩:=el e he;exact⟨e,he,CL (hkf k' _ hk') hk'⟩
 ·rintro⟨e,he,hk⟩;exact⟨e,he,hkf k _ hk⟩
variable{A:Bi}{E:dW}{s:AC}{a:Ζ}{ks:vn}{led:AT}
theorem z90{h:AM}{o:Obj}{es:AAt}{ep:Δ}{t:qi}(hg:AAX)(hd:BgF)(es' :AAt)(t' :qi):
  Fr (Aup a (BJV es' t')).Hm BgB:=by
 have z:=AGx (BJV es' t') hg (WB Beq)
 rwa [Beq] at z
omit hkf in
theorem rK.put(S:AFm)(el:ApH es'.toList)(fit:t'.fits es'.size=Μ)(tok:ADP t')(A6:(es'.toList.map A2J).ei ks'):
  rK knd kf led BgB ks' es' (ep+1) t' :=⟨S.ex,Β,el,fit,tok,A6⟩
theorem yme{k:κ}{x:AJ}{Q:A1h}(hx:AfK k x=Μ)(hsc:x.scannable=Μ)(S:BEl A9 ks)(hb:AjY (OH+1))
  (h:∀b h',Ap3 h' ->BEl h' (uo ks k) ->Q b Sk):Kb (setAddHashed a x (Aur k)):=by
 obtain⟨o,es,ep,t,hg,S⟩:=S;have hsz:FU=OH:=ð S.key.length_eq Τ
 have hmem:=yib hkf S.el (k:=k);refine AWs [x] (No (setState a) (Br7 hg S.dat S.fit ?_));dsimp only;rw[byScan_of hsc (Υ:AjY FU) S.el]
 refine z6 (No (p_ _) (AeR (No (setScan a x _ _ _) (wpAny_setScan_of hx hg S.dat S.fit S.el ?_))));cases hr:List.findIdx? (BA e (AfK k e.2)) Asz with
 | Ε j=>
  obtain⟨hj,hpj,_⟩:=List.findIdx?_eq_some_iff_getElem.mp hr;have hk:AnT:=S.key.mem_iff.mp (hmem.mpr (EL (yV hj) hpj));refine IB (IB ?_);have z:=h AE A9 (Heap.SameBut.refl a A9) ⟨o,es,ep,t,hg,by unfold uo;show DU hk;exact S⟩
  exact z
 | Η=>
  have hk:k∉ks:=Ps (by
   obtain⟨e,he,hp⟩:=hmem.mp (S.key.mem_iff.mpr q);have:=List.findIdx?_eq_none_iff.mp hr e he;show D5 hp;show LH)
  have hperm:=A8t layNew_perm;have hfits:=A8t layNew_fits;have M8:=yjh S.tok es (Aur k) x;generalize A8t layNew=lay at hperm hfits M8⊢;show GB es1 t1 wd gave lay;rw[Br8] at hperm;have el1:ApH es1.toList:=(S.el.push hx hsc).perm hperm;have key1:(es1.toList.map A2J).ei (uo ks k):=by
   unfold uo;show A7 hk;refine î hperm.map _ ?_;rw[UP];refine List.Perm.append S.key ?_;show B1 ([kf x].ei [k]);rw[hkf k x hx]
  show FL sz1 (AT6=FU+1) (ð hperm.length_eq Τ) YD (D7 AT6) (fits_of_scanBound Θ) gw (∀(b:AT) {EU:AC} {Q' :ĉ},Q' () EU ->AXV (BcU b) Q') (fun b EU Q' q=>by
    cases b with
    | Μ=>exact AeR q
    | AE=>exact IB q) tail (∀t2:qi,t2.fits AT6=Μ ->ADP t2 ->AV9 (do
    BV6
    if VW (! wd) t2.tooFull then do
      (BcU BDp.2.2)
      BJW a BDp.1 BDp.2.1
      BUc
     else BUc) (ANJ (AH8 (match r with | Ε added=>Hn added | Η=>setAddHashedIn a x (Aur k) 99999) s'))) (by
   intro t2 f2 k2;refine X9 BV6 (Br_ hg S.dat ?_ YD);have g1:=z90 (hkf:=hkf) hg S.dat es1 t2;have S1:=S.put (ks' :=uo ks k) el1 f2 k2 key1;have sb1:=ATz A9 a (BJV es1 t2);split
   ·have hp2:=relayAll_perm t2 es1 Ah2;have hf2:=relayAll_fits t2 es1 Ah2;have ht2:=z7v k2 es1 Ah2;generalize Aun t2 es1 (Br9 AT6)=rl at hp2 hf2 ht2⊢;obtain⟨es2,t3,gave2⟩:=rl;have sz2:es2.size=AT6:=ð hp2.length_eq Τ
    show BG (gi gw gave2) (X9 (BJW a es2 t3) (Br_ g1 Β ?_ Θ))
    have S2:=S1.put (ks' :=uo ks k) (el1.perm hp2) hf2 ht2 (TL hp2.map _ key1);refine IB (IB ?_);exact h Μ _ (sb1.trans (ATz _ a _)) ⟨_,_,_,_,z90 (hkf:=hkf) g1 Β es2 t3,S2⟩
   ·exact IB (IB (h Μ _ sb1 ⟨_,_,_,_,g1,S1⟩)))
  refine gi gw gave;split
  ·refine Y_;rw[hashByValue_scannable 8 hsc];refine AJ4;refine tail _ ?_ ?_
   ·split
    ·exact hfits
    ·exact SetTable.fits_plain_off hfits
   ·split
    ·exact M8
    ·exact ycm M8
  ·refine AZM;exact tail _ hfits M8
#where
abbrev nJ(Abh):AT:= !(AfL AfM)
abbrev M9(Abh):Obj:={cls:= Aj0,dict:=Η,ABT:= .set #[] 0 BQc}
def mY{κ:Ch}(Aql):ME vn
 | 0=> []
 | EZ=>BZ3
theorem zuw (Aql):∀i,Sc mY val i<=i
 | 0=>OZ
 | EZ=>by
  have ih:=zuw val i;show Sc uo Aiw (val i)<=EZ;unfold uo;split
  ·show q_
  ·show BQ6;show AF
theorem zpe (Aql):∀{i},k∈mY val i↔∃j,j<i/\val j=k
 | 0=>DL mY
 | EZ=>by
  have ih:=zpe val (k:=k) (i:=i);have e:k∈mY val Db↔k∈mY val i\/k=val i:=by
   show B1 (k∈BZ3↔_);unfold uo;split
   ·show Ki;constructor
    ·exact CS
    ·rintro(z | Β)
     ·exact z
     ·exact q
   ·show BTl
  rw[e,ih];constructor
  ·show A8Y j hj Β Β j Υ Β i Υ Β
  ·show APW j hj;by_cases q:j=i
   ·subst q;exact C_ Β
   ·exact CS (ZZ j Υ)
theorem zmn (Aql):∀i,(mY val i).OC
 | 0=>AfN
 | EZ=>by
  have ih:=zmn val i;show(uo Aiw (val i)).OC;unfold uo;split
  ·exact ih
  ·show Ki;rw[AL'];refine ϯ ih BX2
   rw[ABG] at hb;subst hb;exact Ž q ha
theorem yfj{CY:A0}{w:An}{κ:Ch}[ώ]{knd:AGJ}{kf:AFa}:rK knd kf ADo AQV [] #[] 0 BQc:=
 ⟨VO Β Β,Β,fun e he=>(AMk he),OU,ybf,DB⟩
section
variable{CY:A0}{w:An}{κ:Ch}[ώ]{knd:AGJ}{kf:AFa}(hkf:BAf)
theorem vH.stay(S:vH knd kf led h a ks)(e:∀o,AAX ->ADT SE):BEl h' ks:=by
 obtain⟨o,es,ep,t,hg,S⟩:=S;exact⟨o,es,ep,t,e o hg,S⟩
include hkf
theorem ye6{A:Bi}{R:A1i}{I:Ζ}{fp wr:CH}{G:D1 Ϣ Ϣ}{n:Δ}{P:AU_ AJ}{St:PZ Δ}
  (W:WalksS CY w qf I fp wr G n P St) {S:Ζ} (hS:S∉fp) {val:ME κ} (hv:Bim (P i v)) (hb:AjY (n+1)) {led:AT}:
  ∀(j i:Δ) (s:AC),Hb (i+j=n) (St i s) (vH knd kf led A9 S Aiw) (∀s',Moved (S::wr) G s s' ->vH knd kf led am S (mY val n) ->AxR BM s') (BP9 "set.update.loop" (GY [.B9 S,.B9 I]) R):=by
 have hw:S∉wr:=Ps (hS (W.sub _ q));have grow:MM wr (b∈S::wr):=fF q (zW _ q);intro j;induction j with
 | UN=>
  intro i s hij st hs hR;show ZA i n
  refine BNG;show BPG (No BTL (W.done s _ _ st (Cb s' hm)));exact IB (hR s' (hm.mono grow) (hs.stay Bij))
 | UO j ih=>
  intro i s hij st hs hR;refine BNG;show BPG (X9 BTL (W.item i s _ _ Θ st (Jn v s1 hP st1 hm)))
  show FC hk hc hv i v hP;have hs1:=hs.stay (h' :=AtY) Bij;refine ŝ (xj [v] (setAdd S v)) (AWs [v]);refine AWs [v] (No (pyHash v) (knd.pyHash hk ?_));show BG (yme hkf (s:={s1 with toks:=ATD+1}) hk hc hs1 (by have:=zuw val i;show AF) (M' _ h2 sb S2)) (AbM Br' (ih Db _ Θ (W.frame _ s1 h2 _ st1 BKq fun b hb o e=> ?_) S2 (As s3 hm3 S3)))
  ·exact Ame (Ž hS hb) e
  ·refine hR s3 (Moved.trans W.gtrans ((hm.mono grow).then_heap BKq (ADJ hb e)) hm3) S3;exact Ame (Ž hb zY) e
#where
section
variable{CY:A0}{w:An}{A:Bi}{E:dW}{s:AC}
theorem z1q(v:AJ)(h:Q₁ (BY Cl) BCH):
  AJA OP A (US BJX) (GY [Aj0,v]) (wants Q₁ E) s:=by
 refine BsA ?_;refine(?_:NO _ qf (BIr BJX (GY [Aj0,v])>>=FM (ALg (.Asa BJX (GY [Aj0,v])))) _ _ s);refine z6 (BJD (PySem.F.newCall_set_1 v) (IB ⟨AwL BsB,AWh PySem.F.entry_set_new⟩));rw[AI8 BsB];unfold Builtin.«set.__new__» Builtin.Frozenset.newClass;have hsub:=BsC;show AFe
 wp_walk
 refine BJY (IB ?_);exact z6 (wpAny_alloc BQH)
#where
section
variable{CY:A0}{w:An}{κ:Ch}[ώ]{knd:AGJ}{kf:AFa}(hkf:BAf){A:Bi}{E:dW}{s:AC}
include hkf
set_option maxHeartbeats 3200000 in
theorem zq2{l:Ζ}{OF:Lm}{val:ME κ}{Q:dW}(hh:P3)(hl:AlF OF)(hv:Bim (AHr OF))(hb:AjY (XG+1))
  (h:∀(h' :AM) (tk:Δ),Bhd ->(A5X) ->Agj ZO):
  Kb (qA AYs [N2]):=by
 obtain⟨c,tl,yb⟩:=PySem.F.called_set.mro;have hmade:=PySem.F.called_set.made;have hsub:=PySem.F.called_set.sub;refine BOV;show Ă (AVX (callAny AYs _)) (sv ⟨BsD _ Su,AWh PySem.F.entry_type_call⟩)
 rw[Around.under_plain (weight_type_call_type j' [N2] []) Β];have q1:=PySem.F.called_set.notType;have q2:=PySem.F.called_set.canCreate;have q3:=PySem.F.typeCall_set_1 AEk
 show A9d
 refine AL0 (z1q (BY l) (E:=E) (Q₁:=Bef BCH) ue) (As r EU hr);cases r with
 | kT e=>exact hr
 | ok fl=>
  cases fl with
  | ret obj=>
   show AMM hr;have hS:ADR (ϧ AQV) AQV:=Si;have hT:A7N BCH ADh :=N0 hS;have q4:=PySem.F.called_set.init.lookup;have q5:=PySem.F.called_set.init.bind ADh
   show A9d
   refine AL0 (Auu (R:=wants (ft KK (r= BM/\∃h' tk,KK=ZO/\Bhd/\
     A5X)) E) PySem.F.called_set.init.plain PySem.F.entry_set_init (check_set_init_1 hT ?_)) (As r₂ KK hr₂)
   ·obtain⟨ol,hol,hcl,nl,hdl⟩:=hl;show GB oc od ot os ol;simp only at hcl hdl;subst hcl;subst hdl;have hol' :ϧ AQV l=Ε (AVW od (.seq OF nl) os):=z8 _ hol;have q6:=PySem.F.sub_list_set;have q7:=PySem.F.sub_list_frozenset;have q8:ky (Ad6 L7) (Ad6 xo):=B'
    have hl1:AUb AQV IsList l OF:=⟨_,hol',Β,nl,Β⟩;unfold Builtin.«set.__init__» noKeywords Builtin.Frozenset.updateFrom;generalize hPI:ALb=PI
    wp_walk
    subst hPI;refine AuQ hl1 (z6 (BJZ ?_));have hlS:P1 l:=zG hol;have hh3:A.in1.in1.in1.handled=Η:=DL hh
    have Vp:AOE AQV=Ϡ:=APU;refine ye6 hkf (led:=nJ w) ((Walks.list hh3 _ l (gc Vp zK (Azu hlS)) OF).toS) (S:=Cl) ?_ hv hb XG 0 _ (BJa _)
     ⟨iq,hl1.push _⟩ ⟨_,_,_,_,z8 _ hS,yfj⟩ (As s' hm hS')
    ·rw[Vp];show Ace;exact⟨Aps,AX2 hlS⟩
    ·show BBb;show BCG;show A_A ALA;show A8j;refine AJ4;refine sv ⟨Β,h',tk',Β,hS',AaM⟩;have A_:=zG e;refine Aut b o ?_ (Aap e);rw[Vp];show Ace;exact⟨zK A_,zK (Ae5 A_)⟩
   ·cases r₂ with
    | kT e=>exact hr₂
    | ok fl₂=>
     cases fl₂ with
     | ret r=>
      obtain⟨Β,h',tk,Β,hS',hk'⟩:=hr₂
      show A9d
      exact h _ _ hS' hk'
     | _=>exact hr₂.elim
  | _=>exact hr.elim
#where
theorem ur:BN4 BJA BJb := BmF BJA
theorem ym5:AjC BJb Builtin.«set_iterator.__next__»:=entryFor_of_tree (by kernel_rfl)
theorem yma(v:AJ):argsOk BJb (GY [v]):=oP
theorem ygj:AjC "set.__iter__" Builtin.«frozenset.__iter__»:=BpI "frozenset.__iter__"
def DP(h:AM)(I:Ζ)(fst:AJ)(i:Δ)(S:Ζ)(n ep:Δ):Ι:=∃o,AFI I/\AGh= SS AMA /\pj= ACU #[fst,ť i,.B9 S,ť n,ť ep]
theorem DP.ty{s:AC}{I S:Ζ}{fst:AJ}{i n ep:Δ}(x:ARJ A9):AOx I AMA :=let ⟨o,ho,hc,_⟩:=x;AFH hc
theorem DP.at(x:ARJ h)(e:∀o,AFI I ->ADK I):ARJ h':=BAk e
theorem z3u(hi:vv):(xs[i]::xs.eraseIdx i).ei xs:=by
 rw[List.eraseIdx_eq_take_drop_succ];refine List.perm_middle.symm.trans ?_;rw[<- BL8,AfO]
section
variable{CY:A0}{w:An}{A:Bi}{E:dW}{s:AC}
theorem z6k(hn:n≠0)(h:∀i d,i<n ->Q i A_r):Kb (AfP src n):=fun Γ p _=>by
 unfold AfP;rw[Sem.wp_choose];exact⟨hn,h _ _ (BJc _ (BKO hn))⟩
theorem zw1(n:Δ):∀(xs:DE) {s:AC} {Q:PZ DE},By=n ->(∀ys d,ys.Perm xs ->Q ys A_r) ->Kb (drawOrder n xs):=by
 induction n with
 | UN=>
  intro xs s Q hn h;have:xs= []:=BJd hn;show oB;exact IB (h [] ALA GH)
 | UO n ih=>
  intro xs s Q hn h;cases xs with
  | D8=>show fT hn hn hn hn hn hn hn hn hn hn hn hn hn hn
  | AY x xs=>
  refine No (AfP _ _) (z6k A1 (As i d hi))
  show BNS;refine z6 (ih ((AKT).eraseIdx i) ?_ fun ys d' hp=>(sv (h _ d' ?_)))
  ·show BNT;show AF
  ·refine î hp.cons _ ?_;exact z3u hi
section
variable{S I:Ζ}{fst:AJ}{i n ep:Δ}{o:Obj}{es:AAt}{t:qi}
theorem z0p(hh:P3)(hQ:Am_ (AT0 I h0 h'))(hk:AT0 I h0 A9):
  NO OP qf (Bop>>=Lv (Auv e:Sem PySem.Fin)) AVZ
   (u7 e (AH8 (do if<- AG6 e Aw' then BTt else throw e) s')) s:=by
 refine Y_;refine A8J
 show ADx BEm A8W (ŝ _ Brs);rw[A0w Akg hh]
 refine AVG IB (BJE (α:=_));refine ADm (AG6 _ _) BEn AWj BJM;exact IB (hQ _ ((hk.push _).P7 _))
#where
#where
section
variable{CY:A0}{w:An}{κ:Ch}[ώ]{knd:AGJ}{kf:AFa}{A:Bi}{E:dW}{s:AC}{S I:Ζ}{fst:AJ}{i n ep:Δ}{o:Obj}{es:AAt}{t:qi}{led:AT}{ks:vn}
theorem Vq(hit:ARJ A9)(hg:AAf)(O:AFm)(hn:FU=n)
  (h:NO OP qf (if let .AU LN _:=fst then do
    match<- setNext S slot.toNat i ep with
    | Ε (x,Kx)=>
     Ai_ AN4 0 Kx
     BWP
     ret x
    | Η=>Bda;BQx
   else do
    let some places<- BJe fst | BQy
    match places[i]? with
    | Ε (.AU place _)=>
     let x<- BJf S place.toNat ep
     BWP
     ret x
    | Ε _=>BQy
    | Η=>Ai_ AN4 0 0;Bda;BQx)
   (u7 EC (∃r,EC= AyJ r/\Q (Ε r) s'))
   (u7 e (AH8 (do if<- AG6 e Aw' then BTt else throw e) s')) s):
  AKB I:=by
 show VI oi ho hc hd hit;unfold AeS;refine No _ (BJK (APD hit.ty ur (ANk ur hit.ty ym5 yma)));unfold Builtin.«set_iterator.__next__»;refine AXU (slotArgs _ _ _);show BG (ADm (fieldsOf _) BsF ho hd) (Agh setEntries BsG hg);show A7 (AXK hn)
 refine SI h (fun EC s' hz=>by obtain⟨r,hr,hq⟩:=hz;exact⟨r,hr,sv hq⟩) fun e s' he=>he
theorem zlm(h:Q (AfL AfM) s):Kb setsByText:=re (No ask) (BJY (IB h))
theorem zy4(hbt:BSG)(hg:AAf)(O:AVE Μ)(hdr:PR Ab6)
  (h:Q (match BBh es LN,BBh AfJ LN with | Ε (_,x),Ε j=>Ε (x,j+1) | _,_=>Η) s):BfO e0:=by
 refine Ab8;refine Apx;rw[hbt,i5,Cc (FI (by have z' :VW (! t.plain) Bmx:=z;rw[hdr] at z';show AD z' z' z' z' z' z' z' z' z' z' z' z' z' z'))]
 refine AZD _;show BQ (AVX (CD (VW (! t.led) (! es.isEmpty)) _ (Hn PUnit.unit)));rw[O.tok.led,Cc A1]
 exact IB (IB h)
theorem zxp(hbt:BRp)(hg:AAf)(O:AFm)
  (h:Q (((BJg Ap6 es)[given]?).map (Lv (e.2,LN))) s):BfO ep:=by
 refine Ab8;refine Apx;rw[hbt,ET,Cc A1]
 refine AZD (setWalk S);show BG Ab8 Apx;rw[hbt,ET];exact No ask (BJY BQH)
theorem z9n(hg:AAf)(O:AFm)(hx:IS es p x)(h:Q x.2 s):Kb (BJf S p ep):=by
 refine Ab8;dsimp only;rw[Cc A1,hx]
 exact IB h
theorem zzs(hg:AAf)(O:AFm)(h:Q (! BQw &&Ab6) s):Kb (setDrawn S):=by
 refine Ab8;refine Apx;exact IB h
theorem ybk(nx:Á):∀(f k:Δ) (l:DE) (out:ABR α),HE=f ->(BJh nx f k l out).toList.Perm (out.toList++l)
 | 0,k,l,out,hl=>by
  unfold BJh;rw[BJd hl];simp
 | f+1,k,l,out,hl=>by
  unfold BJh;have hi:AEb BY2:=BJc _ Θ
  show BNS;refine(ybk nx f LY (l.eraseIdx (BY2)) _ (by show BNT;show AF)).Ff ?_
  rw[Br8,Ŀ];exact BsI _ (z3u hi)
theorem zp7(nx:Á)(xs:ABR α):(BJg nx xs).toList.Perm xB:=IU (ybk nx _ 0 _ #[] A1)
#where
theorem yhh:BN4 "__iter__" BJi := BmF "__iter__"
theorem ymx:BNu BJi:=BQm
theorem ymf(v:AJ):argsOk BJi (GY [v]):=oP
theorem DP.RG(x:ARJ h)(v:AJ):AIA (h.update I (Obj.mapFields (·.setIfInBounds 0 v))) v i:=by
 obtain⟨o,ho,hc,hd⟩:=x;exact Bn4 (by rw[Aew hd];simp)
theorem DP.RJ(x:ARJ h):AIA (h.update I (Obj.mapFields (·.setIfInBounds 1 (rawInt ((i:Int)+1))))) fst Db:=by
 obtain⟨o,ho,hc,hd⟩:=x;exact BBc
section
variable{CY:A0}{w:An}{κ:Ch}[ώ]{knd:AGJ}{kf:AFa}
structure Steps (CY:A0) (w:An) (A:Bi) (I S:Ζ) (n ep:Δ) (o:Obj) (ex:d8) (IQ:At) (fst:ME AJ):Ι where
 SL:∀i (s:AC) (Q:Akr) (E:dW),i<n ->Hb (AIA A9 (fst i) i) AAf BPf (∀v h',AHr IQ ->AIA h' (fst Db) Db ->AeJ I A9 h' ->Q (Ε v) Sk) (AKB I)
 KM:∀(s:AC) (Q:Akr) (E:dW),Hb (AIA A9 (fst n) n) AAf BPf (Am_ (AT0 I A9 h')) (AKB I)
theorem ybj(T:Bn8 n ex IQ fst)(hS:S≠I)(hX:VS ex (DJ≠I)):
  Walks CY w A I (I::S::ex.map (·.1)) [I] n BNW (U' h (AIA h (fst i) i/\AFI S/\VS ex (ANm Me))) where
 B_:=BZe
 frame:=fun i h h' st hk=>⟨BcM,hk S A1 o Ajr,õ (hk DJ (by simp only [Ģ,aE];exact C_ (FV (ZZ p hp))) p.2 (Aj_ p hp))⟩
 SL:=Bkj (Atg i s Q E hi nX Ajr Aj_ fun v h' hv st' sb=>hQ v h' Mc hv ⟨st',(sb.2 S hS).Ff Ajr,õ ((sb.2 DJ (hX p hp)).Ff (Aj_ p hp))⟩ (AI6 hb (Æ sb (Au (Afs z)) e)))
 KM:=fun s Q E st hQ=>Atf s Q E nX Ajr Aj_ fun h' eb=>hQ h' Mc (AI6 hb (eb b o (FI (Afs z)) e))
 PF:=fun i s Q E st hQ=>by
  refine BsJ (nX).ty yhh (ANk yhh (nX).ty ymx ymf);exact IB ⟨_,Β,AMA,_,(nX).ty,ur.lookup,hQ⟩
variable{A:Bi}{I S:Ζ}{n ep:Δ}{o:Obj}{es:AAt}{t:qi}{ks:vn}
def qT(t:qi)(i:Δ):Δ:=Aja (0<i/\BLh) (Br5[i - 1]' Θ+1) 0
theorem zqi(hr:BMz)(hi:BLh):AfH AfJ A7t=i:=by
 have:=z4e hr hi;unfold qT;by_cases h0:0<i
 ·rw[AT5 ⟨h0,hi⟩];show Aad (AT5 h0)
 ·rw[dif_neg (FI (h0 z.1))];show Aad (dif_neg h0)
theorem z19(h:t.fits n=Μ):BJj=n:=by
 simp only [SetTable.fits,eS,AuN] at h
 simpa using Ee
theorem ylu(hh:P3)(hbt:BSG)(O:AVE Μ)(hdr:PR Ab6):
  A9I [] (es.toList.map (·.2)) (FK (ť A7t)) where
 SL:=BQr (by
  have hl:=z19 O.fit;have hb:=ϲ BQz Θ
  have hp:i<t.place.size:=C6 (Υ:i<BJj)
  show BG ASV Blr;rw[BZ7 i i,hb,A2v,AMC hp];show ASI;refine AR6
  have ABy:=hit.RG (ϝ BRe);show BEy;refine A'G
  refine sv (OS (hQ _ _ (LG hi) ?_ (Aca Ff A_E)))
  have e:(BG8 (qT t Db) 0)=aw BRe:=by
   unfold qT;rw[AT5 AVq]
   simp [aw]
  rw[e];exact hit2.RJ)
 KM:=BQo (by
  have hl:=z19 O.fit;have hb:=BQz (i:=FU) Θ
  refine ASV;refine Blr;rw[BZ7 FU FU,hb,BJk (AK3 _)];show ASI;refine AR6
  exact SI (z0p (I:=I) hh hQ (Aca extBut)) (AQc) nr)
theorem ylq(hh:P3)(hbt:BRp)(O:AFm):
  A9I [] ((pickOrder (w.params.setOrder S ep) es).toList.map (·.2)) (FM AEJ) where
 SL:=BQr (by
  have hp:=(zp7 Ap6 es).Auw;show Axq hp;refine ASV;refine Bia;have hi' :i< (BJg Ap6 es).size:=Υ
  rw[AMC hi'];show ASI;refine AR6
  have ABy:=hit.RG (ϝ APw);show BEy;refine A'G
  exact IB (OS (hQ _ _ (LG hi') hit2.RJ (Aca Ff A_E))))
 KM:=BQo (by
  have hp:=(zp7 Ap6 es).Auw;show Axq hp;refine ASV;refine Bia;rw[BJk Θ]
  show ASI;refine AR6
  exact SI (z0p (I:=I) hh hQ (Aca extBut)) (AQc) nr)
theorem yl0{led:AT}(hh:P3)(O:AFm){Tp:Ζ}{ot:Obj}{ps:DA}(hps:AiM ps.Perm FU)(hot:∃m,ot.data= .seq BAd m):
  A9I [(Tp,ot)] (LV fun p=>AqB) (FM (.B9 Tp)) where
 SL:=fun i s Q E hi hit hg hx hQ=>by
  obtain⟨m,hm⟩:=hot;have hl:LP=FU:=BK2
  have hi' :i<LP:=Υ
  have A_:WI<FU:=XX (hps.mem_iff.mp (yV hi'));show BG ASV (ADm (BJe _) Auh BY8 hm)
  dsimp only;have e:FG BAd (.AU (MC WI) 0):=c8 hi' aw
  rw[e];refine X9 (BJf _ _ _) (z9n (x:=es[WI]) hg O (gc qh AMC A_) ?_)
  show ASI;refine AR6
  exact IB (OS (hQ _ _ (by simp [hi',A_]) hit.RJ (ATz A9 I _)))
 KM:=fun s Q E hit hg hx hQ=>by
  obtain⟨m,hm⟩:=hot;have hl:LP=FU:=BK2
  show BG ASV (ADm (BJe _) Auh BY8 hm)
  dsimp only;have e:BAd[FU]?=Η:=DL hl
  rw[e];show ASI;refine AR6
  have ABy:=hit.RG (ϝ 0);show BEy;refine A'G
  exact SI (z0p (I:=I) hh hQ (Aca Ff A_E).extBut) (AQc) nr
#where
section
variable{CY:A0}{w:An}{κ:Ch}[ώ]{knd:AGJ}{kf:AFa}{A:Bi}{E:dW}{s:AC}{S:Ζ}{ep:Δ}{o:Obj}{es:AAt}{t:qi}{ks:vn}
structure Laid (knd:AGJ) (kf:AFa) (s:AC) (S:Ζ) (o:Obj) (ks:vn) (I:Ζ) (h' :AM) (n:Δ) (IQ:At) (St:AZ5) (fp:CH):Ι where
 wk:BaA (Walks CY w A' I fp [I] n BNW St)
 st:St 0 h'
 len:Aux=n
 lem:n=OH
 A6:BBG
 mem:∀v∈IQ,(∃k,Ag8)/\AV5
 new:tT I
 inF:I∈fp
 fpl:l9 (b<ATS)
 fpn:l9 (b=S\/tT b)
 kep:Aos
 siz:tT ATS
theorem yf8(hg:AAf)(O:AVE ADo)(hb:A0Y)
  (h:∀(I:Ζ) (h' :AM) d n IQ St fp,Laid knd kf s S o ks I h' n IQ St fp ->M_ I (BCI h')):Alm S:=by
 have hT:AOx S j' :=A1b hg;show FL hSl (P1 S) (zG hg) hlk (FU=OH) AkP scn (∀v∈Auo (·.2),(∃k,Ag8)/\AV5) (AZj (by
  show Ů e he hv;obtain⟨⟨k,hk,_⟩,hs⟩:=O.el e he;exact ë k hk hs)) EC (∀(h1:AM) d (IQ:At) (ex:d8) (fst:ME AJ),BME ->(∀b ob,Awe ->ACo Ĭ) ->(∀p∈ex,ANm Ĭ/\tT DJ) ->
   BC (BaA (Steps CY w A' AL4 S FU ep o ex IQ fst)) BN0 BBG BVu (M_ AL4 (BCI (h1.push (cq AMA #[fst 0,Aiy,.B9 S,aw FU,aw ep]))))) (by
  intro h1 d IQ ex fst hsz hk hx' hs hl hp hm;have hx:VS ex (ANm Ĭ):=fun p q=>(hx' p q).1;refine h _ _ d FU IQ _ _ ⟨fun A' hh=>ybj (hs A' hh) (zK (zM hSl hsz)) (fun p q=>zK (zG (hx p q))),⟨iq,z8 _ (hk S o hg),fun p q=>z8 _ (hx p q)⟩,hl,hlk,hp,hm,hsz,DB,Akx,Akx,AMP ob (z8 _ (hk b ob e)),?_⟩
  ·rw[UI];simp only [Ģ,aE] at q;rcases q with Β | Β | ⟨p,hp',Β⟩
   ·exact Aec _
   ·show AYA (zM hSl hsz)
   ·show AYA (zG (hx p hp'))
  ·simp only [Ģ,aE] at q;rcases q with Β | Β | ⟨p,hp',Β⟩
   show AAL hsz
   ·exact CS Β
   ·exact C_ (hx' p hp').2
  ·rw[UI];exact BJl hsz)
 refine BBT BsL BsL ygj PySem.F.args_set_iter_1;unfold Builtin.«frozenset.__iter__»;refine AZD (Builtin.Frozenset.slot0 _ _);show BG (AXU (slotArgs _ _ _)) AJ4;show BG (AZD (Builtin.Frozenset.sizeOf S)) (X9 (setEntries S) (BsG hg O.dat O.fit (IB ?_)));refine ADm (setDrawn S) zzs hg O;cases hbt:BQw with
 | Μ=>
  rw[AX7 (PR (! Μ&&Ab6)),i5];refine AXU (Hn _);show BG (BM9 BJm) (AXO BJn pv BBn);have hp:=zp7 (BsH S ep) es;refine EC A9 ALA ((pickOrder (w.params.setOrder S ep) es).toList.map (·.2)) [] (De AEJ) Gc AjS BPw (fun A' hh=>ylq hh hbt O) (DT BJo) ?_ (AZj (scn v ((hp.map _).mem_iff.mp hv)))
  rw[NV];exact TL hp.map _ O.key
 | AE=>
  have abN:nJ w=Μ:=Agq nJ hbt
  cases hdr:Ab6 with
  | AE=>
   rw[AX7 (PR (! AE&&AE)),i5];refine AXU (Hn _);show BG (BM9 BJm) (AXO BJn pv BBn);rw[abN] at O;refine EC A9 ALA (es.toList.map (·.2)) [] (sx (ť A7t)) Gc AjS BPw (fun A' hh=>ylu hh hbt O hdr) A1 ?_ scn
   show BRk
  | Μ=>
   rw[AX7 (VW (! AE) Μ),ET];refine X9 (drawOrder _ _) (zw1 FU (AGa FU) A1 (As ps d hps))
   have EI:LP=FU:=C6 BsK
   refine No (newTuple _) (BJH ?_ (by show ŧ EI;exact hb))
   have hgt:ϧ BZx S=Ε o:=z8 _ hg;show BG (Agh setEpoch BJm hgt) (AXO BJn pv BBn);have hpm:(LV fun p=>AqB).ei (es.toList.map (·.2)):=by
    refine î hps.map _ ?_;have:b9 FU (BA p AqB)=Auo (·.2):=by
     show oC
     ·simp
     ·show AFr;have:AwZ:=C6 h1
      simp [Τ]
    rw[Τ]
   refine EC _ d (LV fun p=>AqB) [(Cl,BZx)] (De my) (A3u UI) (AMP ob zn) (TM p q) (fun A' hh=>yl0 hh O hps E7) (LG EI) ?_ (AZj (scn v (hpm.mem_iff.mp hv)))
   ·show GU (p=_) (C6 q)
    exact⟨Si,OZ⟩
   ·refine î hpm.map kf ?_;show BRk
abbrev lA:Obj:=AWT
theorem zrt(hh:P3)(hg:AAf)(O:AVE ADo)(hb:A0Y)
  (h:∀(IQ:At) (h' :AM) d tk,Hb BBG BVu BQ' Aos (Q IQ BlA)):
  AMg AfQ S:=by
 have hSl:P1 S:=zG hg;refine BXF (Aus BsM ?_);rw[AI8 BsN];refine BaD;refine AbM Auy BNH;rw[AI8 Auy];show FY hg1 (ϧ lA S=Ε o) (z8 _ hg) hT1 (A7N (AVn lA) (BY S)) (A1b hg1) (A'r hT1);have n1:BSQ (BY S):=BLt (AX2 hSl)
 show A7 (AV' n1)
 refine X9 (ALb _) (yf8 hg1 O hb fun I h1 d n IQ St fp L=> ?_);refine BSr;show FY hg2 (Ĭ S=Ε o) (L.kep S o hg1) hT2 (A7N (BCI h1) (BY S)) (A1b hg2) (BAb PySem.F.slot_set_len.lookup);dsimp only;rw[APx (A2y "set.__len__" j' "__len__")]
 refine ADm (AG6 _ _) BJL hT2 BsC;rw[Cc Φ,DZ Su]
 refine A'r hT2;refine AJ4;show DU Su
 refine ŝ (p_ _) AeR;have hS1:ADR Ĭ lA:=L.kep _ _ ApN;have hNI:Cl≠I:=zK (zM (gc UI Aec _) L.new)
 show BG (AZD (Builtin.List.listTouch _)) (X9 (updateSeq _ _) (BJp hS1 Β ?_));have hS2:=AGx (Obj.mapSeq (·.push Value.none)) hS1 Β;refine BJp hS2 Β ?_;have hS3:=AGx (Obj.mapSeq (·.pop)) hS2 Β;have oth:∀b ob,AiU ->ACo Ĭ ->ACo ((h1.update s.heap.objs.size (Obj.mapSeq (·.push Value.none))).update s.heap.objs.size (Obj.mapSeq (·.pop))).Hm:=
  fun b ob q e=>(AN_ (lr q)).Ff ((AN_ (lr q)).Ff e)
 have hNf:Cl∉fp:=Ps (by
  rcases L.fpn _ q with z | z
  ·exact gS z ALa hSl
  ·have z' :Bpd (AOE lA):=z;show ND UI z' (gS z' Nat.not_succ_le_self _))
 have JC:D7 n:=by
  have e1:=L.lem;have e2:FU=OH:=AkP
  show AF
 have W:=L.wk qf A1Y
 refine AbM BsP (BsQ W.toS JC _ hNf _ n 0 _ _ _ Β ì (W.frame 0 h1 _ L.st fun b q ob e=>oth b ob (FI (hNf (z ▸ q))) e) hS3 BKr BkL);show BG Bbg AJ4;have ev:Auz=IQ:=by
  apply BsR;intro i;by_cases q:i<n
  ·have hi:i<AfR:=CL AX4 q
   have:=ľ.2 i A2[i] (AMC hi);rw[AfI,A2v,Τ]
  ·exact TL Aet (by rw[pr,AX4];show AF) (dA Aet (ACs L.len))
 rw[ev];show BBb;show BCG;show A_A d;show A8j;refine h IQ h' d' tk' L.key L.mem (zG hS') (OQ ob e);have A_:=zG e;have hbN:AiU:=zK A_;refine Aut b ob ?_ (oth b ob hbN (L.kep b ob gu));show Ace;exact⟨hbN,Au (hbN (by
  subst z;have z2:AOE lA<=b:=L.new;show ND UI z2 (gS A_ Nat.not_lt_of_ge (Aua z2))))⟩
#where
def Hj:AHz AB | AbK=>i | _=>0
theorem yiz:∀k v,AXq AfS k v=Μ ->Hj v=k:=fun k v h=>by
 show PY (BG_ h)
 rfl
theorem z77:NA vs At (BVt AfS) (AuH vs (Atv Hj))
 | [],_=> Eg
 | AQn,h=>by
  obtain⟨⟨k,hk⟩,_⟩:=h v zY;show PY (BG_ hk);exact A1k (z77 (AMz u hu h u hu))
theorem ymg(hob:gT (Ð xs n)):∃e,Fr Bip (Ð out e):=by
 have hal:AX6 a:=zG hob;have h1:=BsS hob AhR;have h2:BZP (AgR Aup a (FM #[]) P7) (Ð #[] _):=z8 _ (z8 _ h1);exact BRr h2 out
theorem yhy(hb:t6)(hne:MY):LA Bip:=by
 have h1:LA (AgR Aup a (FM (#[]:Lm)) Hm):=î APy hne hb;exact TL APy hne (Aap h1)
section
variable{CY:A0}{w:An}{A:Bi}{E:dW}{s:AC}{S:Ζ}{ks:CI}
theorem z4l(hh:P3)(hS:vH (AfS CY w) Hj ADo A9 S ks)(h64:OH<64)
  (h:∀(l:Ζ) (h' :AM) d tk (out:At) (ms:CI) e,Alq ->AuH out ms ->Hb (ATy ks) BO5 (BTE out.toArray) Aos (M_ l BlA)):
  Kb (A3t [.B9 S]):=by
 obtain⟨o,es,ep,t,hg,O⟩:=hS;have hlk:FU=OH:=AkP
 have line:AY_:=B'
 refine Bj7;show Bpc;refine Bi8;refine No (AfQ _) (zrt A1Y hg O Θ Bk8)
 have JC:Aux=OH:=C6 hk.length_eq
 refine No (newList _) (BsT ?_ Θ)
 have hoL:(h1.push BNK).Hm AL4=Ε BNK:=Si;have hI:=z77 hm;refine Bi7 (list_sort_tree (ns:=vals.map Hj) hoL hI Θ fun out ms a1 a2 a3=>AFK)
 refine sv AFK;show FX e he (ymg (vs:=IQ) (out:=out)) hoL;have hle:BME:=AGb A_;refine h AL4 _ d tk out.toList ms e hle a1 (a2.trans hk) a3 (EM BsU he) (AP8 ob)
 have e1:=NW b ob eb;exact yhy A2L (zK (zG e1))
#where
def JD(P:A0)(w:An)(a:Ζ)(ns:CI):HO:= AoD (vH (AfS P w) Hj ADo h a (mY AZm IO))
theorem ygy(I:AV)(d):yk A_r:=A6K xc
inductive Pa (Acn):Ι
 | mk:∀(p:Ζ) (ns:CI),Hb (vs= [RI]) (nZ AG H p AMo) (IO+1<Auq) (Aar q q q q A8T) (ANb Pa)
def YF(X:Cx):ĕ:=Aal Pa
inductive Pb (Acn):Ι
 | mk:∀(q:Ζ) (ns:CI),BC A6m (Sl q A8T) (Sc mY AZm IO<64) (∀(l:Addr) (ms:List Int),H l=none ->ms.Perm (mY (fun i=>ns.getD i 0) ns.length) ->ms.Pairwise (· <= ·) ->Q (.ref l) (upd H l (.lst (ms.map .int)))) (ANb Pb)
def abO(X:Cx):ĕ:=Aal Pb
theorem yei(AFs):fj X AYs (YF X):=by
 rintro Ο s σ H xs us Q I r ⟨p,ns,e0,hq,hb,k⟩;subst e0;show Tu;show AGP;show BVL;rw[C8] at hl;have hI:=ztm rv;have hsz:xy=IO:=C6 hl.symm
 refine zq2 (κ:=AB) (knd:=AfS HR X.w) (kf:=Hj) yiz (val:=BSn) To kX BXH BR8 Bcj
 ·show PY (IntsAre.int_at hI i v (DT hv))
  exact AHg (LX intKind_is)
 ·rw[hsz] at hS;have I2:AOr (Ard JD) ZO:=
   AKW NW Gc (Ard JD) (Bex BYY)
  exact IF my I2 (k _ AIq)
theorem ygh(AFs):ACz eA (abO X):=by
 rintro Ο s σ H xs us Q I r ⟨q,ns,e0,hq,h64,k⟩;subst e0;show Tu;show KA;obtain⟨hS,_,_⟩:=KI q _ hq;refine z4l To hS h64 fun l h' d tk out ms e hle a1 a2 a3 hl NW=> ?_;have Fh:D7 (D_ eg V.int):=by
  show ŧ a2.length_eq;have:AY_:=B'
  show AF
 have I2:AYO BLm ZO:=
  AKW NW hle (FF BLm) ⟨Fh,out,e,Xw a1,hl⟩
 exact IF N2 (ygy I2 d) (k l ms (AiK hle) a2 a3)
def z6v:TD:=AJB (∃ns,Aoe/\IO<63/\∀ms:CI,AjR AfA ->(A8x ns) ->AXH mI)
theorem z2q:AIS j' AYs:=AI
section
variable{X:Cx}{F0 H0:Hp}{a e:AK}{Ψ p qo p2:AN}{t:c7}
theorem yi8(ns:CI)(k:AB):k∈mY AZm IO↔k∈ns:=by
 rw[zpe];constructor
 ·show APW j hj;show AEW Akt;exact yV hj
 ·intro h;show à j hj BKc;exact⟨j,hj,by show B1 (kg j 0=k);show AEW Akt;exact e⟩
theorem yi4(BmM):
  Bgh z6v:=fun z E cx=>by
 have inner:PE JO Ayd (U0 (YF (yA z)) (ō Va t E)):=Da zl5 (yei hc) hg2 hm2 z2q G1 Φ Φ he Β
 refine Blc ygh
 show Bau z6v;split at h1
 ·show AcS;obtain⟨ns,hns,A_,h1⟩:=h1;show A8P;refine BhD
  have hml:=zuw AZm IO;refine Bfk Υ
  have R2:BMO A8T:=ATn Bhi
  obtain⟨R3,q1,q2,q3,ap⟩:=BQp zl3;refine BFN zl3 ?_ (FK (BsV (yi8 ns i)));have nd:ms.Nodup:=BsW (zmn _ _);have:=List.Pairwise.and hs nd;exact this.imp fun{a b} hz=>by obtain⟨q1,q2⟩:=hz;show AF
 ·show ê
#where
def Itv(K:AA)(a:Ζ)(xs:AQ):It:=⟨fun i H=>wn/\vv,fun i H x H' =>H' =H/\r6 ATV,fun i _=>AQL⟩
theorem ye2(AKm)(a it:Ζ)(xs:AQ):APA BQK (AZe/\h.IsRevIter it a (AJX - 1 - MU)) where
 mem:=DB
 obj:=AF_ (by
  show AFS
  obtain⟨_,o,e,c,d⟩:=st;exact AmQ)
 KG:=AWP (A9f nX (AhC e))
 SL:=by
  show WU;show On;show AKk;show AaS AI9;show Aio;show dy
  have hj:AmN<By:=Υ
  show F6 u hu ru (AGk (zZ hj));have hit:=mh;rw[JY (AJX - 1 - MU=FA AmN)] at hit
  refine wpAny_pyNext_rev_item hit ALc (x:=u) Aj' (iX e_ sb)
  have I1:AJe:=AZ3;show VI o e c d e_;refine VO u (Oq (s:=Sk) e c d Φ ⟨xs[AmN],H,I1,ru,Ϲ,C5 hx,AOS⟩)
  ·rw[BsX hx,Akt]
  ·rw[JY (FA AmN - 1=AJX - 1 - A0v)] at e_
   exact e_
 KM:=by
  show WU;show On;show dy
  have hle:AQL:=hg;have hit:=mh;rw[show AJX - 1 - MU= -1 by show AAP nX] at hit
  exact wpAny_pyNext_rev_end (ATA hc) hit AGI
 PF:=Agt (BJq mh h)
theorem zlk:AIS ai (Nc ai):=AI
def YG(A7S):TI:=Bg0 (ϓ ->R BQK H1)
theorem yot{X:Cx}{a tg:AK}(BFY)(hg:Gl X ai)(hm:Q4 ai)(ha:AKQ [a])(hs:Aby:=by rfl):
  vi (AXX ai) (YG AG ta):=by
 show DO R;refine Call_ (Ĝ zlk (ATE Amf hs Β));show BdT;have hit:BpG IsRevIter E3 l (AJX - 1 - APw):=KW _ Si (by show B1 (Data.fields _=_);show A3X;simp [aw])
 refine BJq hit (APM (ye2 l _ xs) ⟨MZ,hit⟩ (q hz));show APE
def zm3(uk):c7:=Z' (la [VU] BLL)
theorem yis(Blf):Jr K F MK (Itv K a vs) ATV:=by
 show AnJ;refine⟨BMg,AKw (Lv (by show B1 A1f;rw[e,AG'];show AF))⟩
 obtain⟨v,hv,rv⟩:=yN (zpl rs) hd;have hi:i<KO:=ACf (OT hv) AG'
 refine ë AjE hi ARb;show AEX z z;rw[hv] at z;show MR;exact⟨F2,ef s3,ATs s2⟩
section
variable{X:Cx}{F0 H0:Hp}{a e tg:AK}{Ψ p qo p2:AN}{t:c7}
theorem z0s(hc:F7)(hg:Gl X ai)(hm:Q4 ai)(ha:AOp)(hs:Aby:=by rfl):
  QI X F0 H0 tg (AXX ai) (zm3 t):=BhV yot (BBQ (by
  unfold zm3 at*;show AJS
  ·show AcS;exact BCK (AyR (yis hq rs hz))
  ·show ê))
#where
theorem z7q:AyS (Nc Au0) "__len__" Η:=BNR
theorem yc3:AyS (Nc Au0) BsY (D9 (US BsZ)):=BNR
section
variable{CY:A0}{w:An}{A:Bi}{E:dW}{s:AC}
abbrev pW:Obj:=AUs #[]
theorem zzu(hh:P3)(hit:s.heap.IsRevIter I l (Ajm - 1))(hl:AlF OF)(hz:A0W)
  (h:∀h' c tk,(Ank (b≠I)) ->AzL BHg c ->Agj ZO):
  Kb (qA AIU [.B9 I]):=by
 have hIl:P1 I:=BNh hit
 show FY hll (P1 l) (BNh hl) hne (l≠I) (by
  show AWY e c hit;obtain⟨o',e',c',_⟩:=hl;rintro Β;rw[e] at e';show Ϯ;rw[c] at c';exact Ā Value.type.inj c' Φ) (callType_codes (Q₁:=Bef (AVn pW)) PySem.F.called_list (PySem.F.typeCall_list_1 _) PySem.F.entry_list_init (code_list_new _ ue) (As obj EU a_));show AMM a_;have hS:ADR (ϧ pW) pW:=Si;refine CU (N0 hS) (PySem.F.args_list_init_2 _ _);show BG (X9 (Builtin.List.listItems _) (Bsa hS Β ?_)) (AXO Builtin.List.listUpdate (BJr hS Β ?_ ì) ì);have hS2:=AGx (AGv AhR) hS Β;refine ŝ (letGo _) BJG;have oth:Yf AiU (LA (ϧ pW)) (LA (BCu Hm)):=
  AI6 q ((AN_ (lr q)).Ff e)
 have ABy:BCu IsRevIter I l (Ajm - 1):=ANt hit.at (oth I o (zK hIl) gu);have hl2:BCu IsList l OF:=ANt hl.at (oth l o (zK hll) gu);generalize Bnn Cl (AGv AhR)=h2 at*;have hT2:BsE (cE h2) AN4 Au0 :=BJB;refine A'r hT2;have n1:BSQ AN4:=BLt (AX2 hIl)
 show A7 (AV' n1)
 refine No (ALb _) (BJq ABy ?_);show ADx BSr (BAb z7q) (BAb yc3);dsimp only;rw[APx (A2y BsZ Au0 BsY)]
 refine ADm (AG6 _ _) (BJL (b:=Μ)) hT2 Boe
 rw[Cc Φ,DZ Su]
 show A7 Su
 refine AJ4;show A7 Su
 have hSf:Cl∉ [I,l]:=by
  show Ace;exact⟨AX2 hIl,AX2 hll⟩
 have W:=Walks.listRev (CY:=CY) (w:=w) (A:=A.in1.in1) A1Y I l hne OF
 refine AbM BsP (BsQ W.toS hz _ hSf _ XG 0 _ _ _ Β ì ⟨MZ,CL (JY (Ajm - 1 - APw=Ajm - 1)) ABy,hl2⟩ hS2 BKr BkL)
 have ev:A2=BHg:=by
  apply Array.ext_getElem?;intro i;by_cases q:i<XG
  ·have hi:i<AfR:=CL AX4 q
   have:=ľ.2 i A2[i] (AMC hi);rw[A2v,Array.getElem?_reverse q,Τ]
  ·rw[Azk (ACs AX4),Azk i_]
 subst ev;show BBb;show BCG;show A_A ALA;show A8j;refine Ic (h h' c' tk' (AMc ?_) hS');have A_:=zG e;exact Aut b o (by show Ace;exact⟨zK A_,hb⟩) (oth b o (zK A_) gu)
#where
theorem yi1(hc:F7)(hg:Ak6)(hm:Akv)(hg2:Gl X ai)(hm2:Q4 ai)(ha:AKQ [a])(hb:BTe:=by show XY)
  (BWt):
  PE X Bc1 (Pe ta vs (∃l xs,vs= [N2]/\nZ AG H1 l xs/\Bf8 A0M)):=by
 show DO Q;refine ARs (Ĝ hb) Φ Φ
 show A'Q (A1M ?_ he2);show BG (ARs (Io I hg2 hm2 zlk) Φ Φ) (A1M (AVr (Av3 qo)) he);show BdT;refine AiX;have I2:AJd (AHQ s1 (ATC (revObj l (AWb - 1))) ATD):=AtX Å;refine zzu (I:=E3) (OF:=SD) (I2.ok.hd hc) iq (pl.isList.push _) AZz (Jn h' c tk NW hS)
 have Vp:BQl=sQ:=APU;have kp:Ś AL9 ACp:=Q1 (NW b o AbY gu);have I3:BW8 (k_ BQl A0M):=
  BMv kp (A3u Vp) A0M ⟨BMg,its.reverse,c,rv.reverse,by rw[hS];simp⟩
 exact IF (.B9 _) I3 (q _ (Ķ (A3u Vp)))
def yfd:TD:=AJB (P ATV)
theorem z9o(hc:F7)(hg:Ak6)(hm:Akv)(hg2:Gl X ai)(hm2:Q4 ai)(ha:AOp)
  (BWt):
  AXf Bc1 yfd:=fun z E cx=>by
 refine oh (Da yi1 hc hg hm hg2 hm2 G1 Su he he2) (Sf Ar ?_)
 show RU Ar;refine l6 ?_;unfold yfd at h1;split at h1
 ·show AcS;refine BCK AyN;show uC R2 q1 q2 q3 ap (Jh R1 hq0 (zpl rs)) (k _ Ω F1 _ q _ R2 s1 q1 q2 q3 (zpl rs) ap h1)
 ·show ê
theorem zj3{K:AA}(PF:AJ):NA l At (BSI l) (refuseLoop PF Ad0 l=Hn ())
 | [],e=>Acv
 | v::r,e=>by
  rcases Bool.or_eq_true_iff.mp e with q | q
  ·rw[AGp q];exact PySem.F.store_ValueError.passes PF
  ·split at q
   ·split at q
    ·show BnH AuN q;rw[Bsb];exact zj3 PF q.2
    ·show pS
   ·show pS
structure iU (AFh):Ι where
 cls:ē
 g:Jp K C
 sa:A'p
 hd:AlT
section
variable{CY:A0}{w:An}{A:Bi}{E:dW}{K:AA}{h:AM}{g:Ϣ}{d:AS0}{t:Δ}{os:ABH}{x C:Ζ}{o:Obj}{EB:Κ}{v:AJ}
theorem z70{Q:ĉ}(X:Tl)(c:AOq)(hn:A3q)(hx:A3_)(hc:AmM)(hnc:A9v)(hd:Akf)
  (hq:∀h' tk',h'.Ns1 Mm (BCb Η) ->A0l (BmQ Mm) ->(AO9 x Me) ->BVr):
  AQ0 A'8:=by
 show BQ8;have J:A8q Η:=⟨hx,hc,hnc,by rw[hd];trivial⟩
 refine BhT;obtain⟨bm,N,nm,qn,bs,PM,sn,B_,ab,col,dd,k0,k1,k2,k3,k5,e1,T,ht,cd,hcd,yb⟩:=Ec X c.cls;have B_:AT7 OP h (AG6 h_ BK3) Μ:=Be5;refine Auu Bsc SF.entry (BpZ OP _ _ AU0 Asp Ac3 Ad0 h_ BTg [] _ SF.kind SF.split B_ BVD ?_);have hm:BeH:=BiD;show BlK;rw[hd'];show vz
 show A7 (LG typeHasDict)
 have L6:r9 qf (alloc mw>>=fun d=>(update x (AXc d))>>=FM (dictMade KU x d)) (zI s' (∃dx,a=Ε dx/\Ble)) AVZ AU0:=by
  have hx₁:GT (AN2 mw Hm) ⟨HU,Η,oda,osl⟩:=z8 _ hx;have hxs:x≠Mm:=zK (zG hx);show BG (z6 (wpAny_alloc' (z6 (wpAny_update' hx₁ ?_)))) (z7 AFK);have hgd:(BPl x (AXc Mm)).Hm Mm=Ε mw:=
   TL APy (lr hxs) (Heap.get?_push_at Β Β)
  have hnd:(BPl x (AXc Mm)).Ns Mm (De Η):=
   ⟨_,#[],_,hgd,Β,fun e he=>eI he A1,APl⟩
  refine BU4 (Bq0 hnd);show BYo Within.nil;refine BEe Bdq
  have hx' :A0l ⟨HU,Ε Mm,oda,osl⟩:=by
   refine(hs.2 x hxs).Ff (BKs hx₁ ?_);have hfr:=(Heap.get?_some_iff.mp hx).2;(show MQ oda oda oda oda oda oda oda oda oda oda oda oda oda oda)<;>first | rfl | exact hfr
  refine sv (Ic (hq h' _ ?_ hx' fun b ob hbx hb=> ?_))
  ·exact hn'
  ·exact AaZ (zK (zG hb)) (TL APy hbx (z8 _ hb))
 have EC:∀a s',(∃dx,a=Ε dx/\Ble) ->r9 qf (match a with | Ε d=>Bsd d (BG9 EB t) EB v | Η=>Builtin.ObjectAttr.noDictFor (T' x) (T' C) EB AE) (u7 EC (match EC with
     | Fin.done f=>
      match Au1 f with
      | BZG=>ANL
      | Au1 a=>D6
      | BLV=>E e s'
     | Fin.again c' =>
      c'.quiet=Μ/\
       ALn OP A c'
        (ANJ (match r with
         | BZG=>ANL
         | Au1 a=>D6
         | BLV=>E e s'))
        s')) (u7 e (E e s')) s' :=by
  rintro a s' ⟨dx,Β,z⟩;exact SI z (fun f s2 hz=>by show APR q hz;subst e;exact q) AQc
 cases oda with
 | cls c=>show fT hnc hnc hnc hnc hnc hnc hnc hnc hnc hnc hnc hnc hnc hnc
 | _=>exact SI L6 EC AQc
#where
section
variable{CY:A0}{w:An}{A:Bi}{E:dW}{K:AA}{h:AM}{g:Ϣ}{d:AS0}{t:Δ}{os:ABH}{x C dx:Ζ}{o:Obj}{EB:Κ}{v:AJ}{mA:EN}
theorem z8i(X:Tl)(c:AOq)(hn:A3q)(hx:A3_)(hc:AmM)(hnc:A9v)(hd:BNA)(hA:Aqe)(hv:BVk)(hv' :A0p v)
  (hq:Q v AU0):AQ0 (Aea h_ EB expr):=by
 show BU od ho hl zya hA;have J:A8q (D9 od):=⟨hx,hc,hnc,CL hd ho⟩
 have LF:AT7 OP h (Builtin.ObjectAttr.find h_ KU EB) (.FE v):=W.looks_find X J (Bqx c.hd hn Β (Ϟ hl hv))
 have L0:AT7 OP h (At5 h_) KU:=J.type;have L1:=BAh X c.g.ga;have L2' :=BAh X c.g.gn;have b3:=PySem.F.excAttr_ValueError.ga.bind h_;unfold Aea getAttrBy;refine z6 (wpAny_mkText (ABc (z6 (L0.at (z6 (L1.at ?_))))));have hx2:PR (BJs (T' C)&&BNw ==BNx):=IC (APx (ky BNw BNx)) Ae4
 show BoZ hx2;unfold getAttrByItsOwn hookBefore callGetattribute;simp only [AX7 (BJs (T' C)=Μ),xx];refine lP L2'.at;simp only [AX7 (BJs (BJt AGY)=AE),Ae4,Ae6,ALw];unfold boundAndCalled;refine AkR (ABc (z6 (BJD b3 ?_)));refine BRq PySem.F.excAttr_ValueError.ga.plain F.entry_bexc_ga (zul X c.g hx hc ?_);unfold Builtin.«object.__getattribute__»;refine AZM;show BG AZM (z6 (L0.at (z6 (LF.at ?_))));exact IB (W.handed_on hv' hq)
theorem z6h{f:Ζ}{HM:At}{Q:PZ Fin}(X:Tl)(hC:ē)(hi:AJI)(hf:AcW)
  (hq:r9 A (Anj APf HM) (AmF (Q (.KM (.ret (BY APf))) s')) E BiQ) (hrest:A0Z):
  AQ0 (Builtin.«type.__call__» (GY (HU::HM))):=by
 obtain⟨bm,N,nm,qn,bs,PM,sn,B_,ab,col,dd,k0,k1,k2,k3,k5,hC,T,ht,cd,hcd,yb⟩:=AKU;have Fv:=BIZ
 repeat (first | show ADt hC | with_reducible refine wpAny_madeBy_exc hC ?_ | wp_step)
 refine codeAny_call_builtin_code (BKo Fv.quiet) (wpAny_check_new_subU Fv Fv.hasB T hC ?_);refine codeAny_exc_new_subU Fv Fv.hasB Fv T hC ?_ hrest;have X1:İ (AN2 AXP P7 AXZ):=X.keeps AY';have hC₁:=z8 AXZ
  (z8 AXP hC)
 have hget:Agf ATb AXP AXZ APf=Ε
   AXZ:=by heap_get
 have hcC:AcF KU=Μ:=DB
 have LI:=BAh X1 hi
 repeat (first | show ADt hget | show Aiz hC₁ hcC | wp_step)
 refine LI.at ?_;refine ABc (z6 ?_);show BG ((W.bind_fn X1 (BY APf) hf).at ?_) (æ hq (As r s' hr) A5M);show AEX hQ hr
 wp_walk
 exact hQ
theorem z3c{f:Ζ}{HM:At}{Q:dW}(X:Tl)(hC:ē)(hi:AJI)(hf:AcW)
  (hq:r9 (AbC (GY (HU::HM))) (Anj APf HM) (AmF (M_ APf s')) E BiQ) (hrest:A0Z):
  AQ0 (qA KU HM):=by
 obtain⟨bm,N,nm,qn,bs,PM,sn,B_,ab,col,dd,k0,k1,k2,k3,k5,hC',T,ht,cd,hcd,yb⟩:=AKU;have f1:=tc_lookup;have f2:=tc_bind KU;have hT:(AM0:AC).TypeIs KU "type" :=N0 hC';refine BOV
 repeat (any_goals (first | assumption | show ADt hC' | wp_step))
 refine Ϲ;exact codeAny_call_builtin_at (BKo Su) entry_typeCall (wpAny_check_type_call_sub hC' (z6h X hC hi hf hq hrest))
theorem z8h{t0:Ζ}{od:N4}{sl:AEO}{HM:At}{Q:dW}(X:Tl)(hC:ē)(hx:GT Me (AWw t0 sl))(hrest:A0Z)
  (hq:ADZ (AO9 x Me) (A0l (AWw Mm sl)) (Q BM (ACT h' t))):
  AQ0 (AgN BGu (.B9 x::HM)):=by
 obtain⟨bm,N,nm,qn,bs,PM,sn,B_,ab,col,dd,k0,k1,k2,k3,k5,hC,T,ht,cd,hcd,yb⟩:=AKU;have Fv:=BIZ;refine BRq Fv.init.plain Fv.initEntry (wpAny_check_init_subU Fv T hC hx Β ?_);have hx1:GT (AN2 AXP Hm) (AWw t0 sl):=z8 _ hx
 wp_walk
 refine hq _ (zk u e ?_) ?_
 ·rw[ApR];exact zn
 ·rw[Apc hx1]
  rfl
theorem z8t(hC:ē)(hh:P3)
  (hm:NO M A m (gN EU (∃e oe fv,Bbe (ArU (Ai3 EU)))) E s):u8 (raiseStmt Be (D9 m) Η):=by
 refine æ hm (Abu v) vk;obtain⟨e,oe,fv,Β,X,he,hc,hda,hE⟩:=a_;obtain⟨bm,N,nm,qn,bs,PM,sn,B_,ab,col,dd,k0,k1,k2,k3,k5,hC,T,ht,cd,hcd,yb⟩:=AKU;have hcB:ApW AcF:=BYH
 show AM4 EU;show GB oc od oda osl oe;subst hc hda
 show Bin
 exact wpAny_raiseNew_none hh hE
theorem yaa(Blx){E8:C7}{Q:Akq}(hC:ē)(hh:P3)(ALy:AMU Ao2)
  (hi:AJI) (hf:AcW)
  (h:AqL (IA y np) fv (fv= HU/\AXV (evalArgs KU Μ Ao2 []) (zI KK (a.kw= []/\D7 a.pos.length/\BL2/\
    r9 (AbC (GY (HU::a.pos))) (Anj AOh a.pos) (AmF (∃oe fv,BL1/\BW2/\ArU (E (BY AOh) s'))) E (BRt (sB a.pos.toArray) BMC))))):
  BZn Η:=by
 rw[Bse];refine A1L (z8t hC hh ?_);refine BOS (û h (Abu fv) vk) BfL;show AEX a_ a_;refine AI5 (û a_ (fun a KK qS=>A1y) vk);show n_ LS akw a;show BiA;show GU (akw= []) hkw;show AM4 KK;obtain⟨bm,N,nm,qn,bs,PM,sn,B_,ab,col,dd,k0,k1,k2,k3,k5,hC',T,ht,cd,hcd,yb⟩:=AKU;simp only [ALy];refine BSq;refine z6 (z3c X hC hi hf (û qS (fun r s' hr=>Bb1) A5M) Fh);obtain⟨_,oe,fv,X',he,hc,hda,hE⟩:=hr;exact⟨_,oe,fv,Β,X',he,hc,hda,hE⟩
#where
def XO(e C:Ζ)(od:N4):HO:= AoD (∃t,A'_)
theorem Vr(D4:du)(q:Sl e (XO e C od)):∃t,A'_:=(D4 e _ q).1
theorem ydi(q:A'_):bB P w H h e (XO e C od):=
 ⟨⟨t,q⟩,E6 q,AKY hz st (by obtain⟨u,z⟩:=hz;exact⟨u,st _ z⟩)⟩
theorem zyn(k:bB P w H h b u):∃o,t6:=by
 cases u with
 | DC xs=>show Azp k;exact E6 e
 | Dx xs=>obtain⟨_,_,_,o,e,_⟩:=k;exact E6 e
 | dK AH=>show Ap2
 | dT AH=>show Ap2
 | set S n=>show AV2 o k;exact E6 e
 | ins C dx fs=>show Azr k;exact E6 e
 | A5 y=>exact k
 | xd fs=>show Azs k;exact E6 e
 | rng lo hi=>show Azq k;exact E6 e
 | frz ob u=>obtain⟨e,_⟩:=k;exact E6 e
 | Mr ps=>show BOr
 | met f y=>show BOr
 | ext φ=>obtain⟨_,e,_⟩:=k;exact e
section
variable{X:Cx}{Ο:d8}{σ:St}{H:Hp}{s:AC}{A:Bi}{E:dW}{a C dx:Ζ}{f:Κ}{y v:V}{u:AJ}{fs:oy}
theorem ylw(I:AV)(e:Nl Avx)(c:Ó)(n:hG)(ry:RY)
  (h:∀dx s',RC dx ->dx≠a ->QY (EH (EH H a ARG) dx (.xd [(f,y)])) s' ->ANL):BCg:=by
 show A_4;show AFe;have A_:a<AT8:=zG hx;refine z70 av c n hx Β Β Β fun h' tk' ns hx' kp=>h AT8 _ AIq (AEe A_) ?_;have gs:Fr (BXa a) ⟨HU,Ε AT8,Af1 t,#[]⟩:=Apc hx;have I1:È a (Aga AT8) (AHQ (ACT hp tk:AC) (hp.update a (AXc AT8)) tk):=
  AbR a a Ai1 YR (zk u z ((A4U).Ff z)) (E6 gs) (ydi gs)
 refine ATJ (t' :=tk') (OQ u z) (ALq BMD) (EL ns (II g))
 ·by_cases hb:b=a
  ·subst hb;rw[show BXa b b=_ from gs] at z;show MR;exact hx'
  ·exact kp b u hb ((A4U).BIV z)
 ·by_cases q:g=f
  ·have hb:A5S:=BLP;show AhG L3;exact ry
  ·have hb:AEq f:=A1j;show AhG TN;trivial
theorem ylr(I:AV)(e:Nl ARG)(ed:Sl dx AlA)(c:Ó)(n:hG)(l:ARR)
  (h:BDn):BDf:=by
 show A_4;obtain⟨mA,ns,r⟩:=A_V;show BC'
 show AFe;exact z8i av c n hx Β Β Β ns hu A9W BBN
#where
def YH(C:Ζ)(f:Κ)(ta:TE):TE:=Ϩ (∃a dx fs v,x= CF/\AN6 ARG/\H1 dx=Ε AlA/\ARR/\Q v H1)
def YJ(BlP):TS:=BBZ (∃a,x= CF/\Fr H2 Avx/\∀dx,H2 dx=Η ->dx≠a ->AHv (EH (EH H2 a ARG) dx (.xd [(f,y)])))
structure JF (K:AA) (B:Ζ):Ι where
 sp:BYC (BY B)
 rd:BSJ B
 fi:W.findCls K (BY B) Axw K0 =Ε (.val (US BGu))
section
variable{X:Cx}{o e FE:AK}{f:Κ}{Ψ KL LS p:AN}{ta tv:TE}{C B:Ζ}{x:Κ}
theorem ykk(BlT):BAu (YH C f ta):=by
 show DO Q;refine zzq hb (bZ o4 AyE);obtain⟨x,H1,I1,rx,a,dx,fs,v,ex,ea,ed,l,q⟩:=BO;subst ex;show ß;exact ylr I1 ea ed c n l BFR
theorem z9f(BmG):BeE YJ:=by
 show DO D;refine AWp BHz Ako Cn hs;obtain⟨y,H1,I1,ry,q⟩:=Cn;refine ADG A_p ov hz2;obtain⟨x,H2,I2,rx,a,ex,ea,q2⟩:=hz2;subst ex;show A2_;exact ylw I2 ea c n ry fun dx s3 h1 h2 I3=>⟨σ,_,I3,q2 dx h1 h2⟩
theorem yea(c:Ó)(cb:JF AG B)(hg:J_)(hm:AU5 (BY B))(ha:PA X [e,e2] t)(hd:HH:=by decide)
  (hst:fR [e,e2] e [e2]:=by rfl) (EI:AHf [e2]:=by rfl)
  (ht:AJo BYE (do
   let ov<- XZ (rX p)
   AFf
   let (f,first)<- AGH ĸ ov K0 pl
   AGO (ŗ [e,e2]) AKO):=by rfl):
  PE X BYE (Pe t vs (∃a od v,vs= [CF,v]/\AN6 (XO a C od)/\Q BH (k_ a (XO a C od)))):=by
 show DO Q;refine Axj (Gf I hg hm ?_ hd) ht;refine W.method_cls av cb.sp (W.cls_value av cb.rd cb.fi Β ?_);have I0:=I.tok (Mc+1);refine BH7 (AVr (ha Ψ Ο _ σ H _ I0 h)) hst EI;obtain⟨vs,H1,I1,r,a,od,v,ev,ea,q⟩:=Cn;subst ev;show Fu u u2 ru ru2 (vals2 r);show GU AMb ru;obtain⟨t0,hx⟩:=Vr ATl ea;show AM4 s1;refine z8h Ļ c.cls hx Bdq fun h' kp hx' =>(IF BH (I1.write (x:=a) (e:=a) (AwJ ea) YR (zk u z (kp b u hb z)) (E6 hx') (ydi hx')) q)
#where
def yer(bn:Κ)(p LS Ψ:AN)(E8:C7)(Be:Env)(pl:AZl):Ι:=eL (Bod (IA bn p) E8) Be=(do
   let ov<- eL (IA bn p) Be
   AFf
   let (f,first)<- AGH ĸ ov K0 pl
   AGO (BnA Ψ) (backToKw Ψ (keywordEach [] Be)))
theorem zj7:∀(l:CH) {h:AM},a∈l ->MI (ASs h l).Hm:=fun l h m=>BqG l m
section
variable{X:Cx}{F0 H0:Hp}{tg OG elt:AK}{ifs:C7}{Ψ:AN}{sc:Op}{A5:Ρ}{Fk:DA}{N' :Ρ}{ti:c7}{g:vP}{tc:TT2}{te:cD}
open x_ in
theorem ydf(hN:XA)(hi' :FG X.N y)(hy:Abz)(S:AR0)(hc:F7)(hi:wy Aqo)
  (hg:AcQ) (ht:AcR) (he:Aqn)
  (hn:AZi:=by rfl) (hsw:AGi nv (D9 (IA y py)) spos.line BE=Hn Μ:=by rfl) (AFw):
  BfN (aR i (Jz (Yz BGA))):=by
 subst hn;rintro z E cx Ο s σ H Dn I ⟨F,Γ,D2,R,h,k⟩;obtain⟨F1,s1,R1,n1,o1⟩:=zus R;rw[BVI];refine BTY;refine Bmq (pig hc (hi F1 H z jO (M6 cx)))
 ·rintro C K_ SG fp Ο s σ H v u Q I r ⟨wj,wu,q⟩;exact AsT q
 show Am6
 show Am7
 ·refine⟨F1,gH Γ,_,R1,h,fun ds Ω F2 H2 J Hx R2 s2 hx hJ h1 A2 ha=>zrk R2 hJ hx ha h1 (BpV ?_)⟩;have s3:=(z31 R'.g a1 a2).1;have R3:=R'.frzA a1 a2 a3 ap;have s' :=TL ĺ sF s3;show FY gr (A_T (AqX b) H') (by
   refine A8Q R3.gr.h
   ·show A7 (BA hb (AO6 (Sj o1)))
    exact s' _ _ A3d
   ·show BOk (AM1 Q3 Η (AqX b)) (R3.g _ _)
   ·show BWO (AqX b) (BpD R3.gr.n)) rep (EJ AG (kO F1 AqX) A0L ϰ) (IU (TU A2 (z7i (R'.gr.f.free a2) (HG (HG gU))) (zmh (z7w R3.gr.f) ys vs hp.1 (AL7 s3)))) (Po ((ABq gr).set i (rep.up MX)) L_ hp.2);have hb:¬Q3:=APQ (by
   obtain⟨_,w,ev,ld⟩:=o1 b hb;exact z2o e w ld ev)
  show A7 hb;exact zxx _ _ e
 ·show AsN;refine BHc (Da zqo I5 hN hi' A1G (v:= Ajo) Β BZ0 A1R);show Ż a hsb ha;have ha' :BXU:=ha;have hac:C≠a:=by
   rcases ha' with Β | ha'
   ·exact c2
   ·exact BhR
  refine Biw
#where
section
variable{K:AA}{F H:Hp}
theorem Nb:BDK (fu K F H (ŏ ALC) vs [])
 | [],_,h=>by subst h;rw[AuA];exact ue
 | Z3,_,h=>by
  show Fu v us h1 h2 h;rw[GL];exact⟨v,us,[],[],Β,Β,IU (Ic h1),Nb h2⟩
theorem RK:∀{ts us:ID} {vs ws:AQ} {as bs:CH},ADd ->fu K F H us ws bs ->fu K F H (ts++us) A7U (as++bs)
 | [],us,vs,ws,as,bs,h1,h2=>by
  show AMM h1;exact h2
 | R_,us,vs,ws,as,bs,h1,h2=>by
  obtain⟨v,vs',a1,a2,Β,Β,q1,q2⟩:=h1;rw[KP];exact⟨v,vs' ++ws,a1,a2++bs,Β,NH Ŀ,q1,RK q2 h2⟩
theorem RL(h:AIe):Af3 [t] [v]:=by
 refine⟨v,[],as,[],Β,DB,h,?_⟩
 exact ue
theorem z1v:∀{ts:ID} {vs:AQ} {as:CH} {j:Δ} {t:T},ADd ->VQ ts t ->∃v b1 bs b2,VQ vs v/\as=ANM bs/\Aq5 bs/\
  BGE cs BSZ cs (Ah7 (ts.set j t') (ANQ cs))
 | [],_,_,j,t,_,e=>AZu
 | t0::ts,_,_,0,t,h,e=>by
  show Do;show BF_;refine⟨v,[],a1,a2,Β,Β,q1,BWT⟩;rw[Mo];exact⟨v,vs',cs,a2,Β,Β,r,UM f ts vs' a2 (l5 (k a ha)) q2⟩
 | t0::ts,_,_,j+1,t,h,e=>by
  show BF_;obtain⟨w,b1,bs,b2,g1,Β,g3,g4⟩:=z1v q2 AJg
  refine⟨w,a1++b1,bs,b2,C6 g1,DB,g3,BWT⟩
  rw[My];exact⟨v,vs',a1,Aiq,Β,DB,ABm f t0 v a1 BNc q1,g4 f BjA r⟩
#where
mutual
def abP:APk
 | RR=>rJ d
 | di=>BK ts
 | AbE=>BK ts
 | Anp=>BK ts
 | Aok=>BK ts
 | Ϸ=>IM
def BK:A0O
 | []=>IM
 | R_=>abP t/\BK ts
end
abbrev pY:=AR_ T
section
variable(K:AA)(F0 H0:Hp)
inductive UpN (t:pY) (E:XW) (σ:St) (H:Hp) (Q:VK):Ι
 | mk:AW5 (∀tr B4 F' H' v as,WC AH' Go qc BaU (AIZ tr v as) (c9 tr) ϋ) UpN
def upN(t:pY)(E:XW):TE:=AFU UpN
#where
def QN(V_)(e:AK)(t:pY):Ι:=Aaq upN
def YK(uk):pY:=Z' (HZ (APi ALC))
section
variable{X:Cx}{F0 H0:Hp}{e:AK}{es:C7}{Ψ p:AN}{te:cD}{tf:c7}{tn:pY}
theorem yem(h:A7h):YO QN (YK tf):=fun z E cx=>
 oh om (NI BO BO (BGN (by
  refine k _ _ _ _ _ [a] R1 s1 A1 (BPQ e2 e3 ap) ?_ h1
  exact⟨a,vs,[],Β,Β,e1,Nb r1⟩)))
def RM:pY:=AaC (.dic [] [])
theorem Vt:ADy (.Dict [] [] Ψ) RM:=fun z E cx=>
 oh ygk fun σ H Q Bz q hq=>by
  show RU Bz;have R2:k9 F (EH H q A1K) Γ:=ABq (AEQ (Axh R.g hq R.g) (Ax6 (iB e hq)))
  refine k _ _ _ _ _ [q] R2 GH A1 (BPQ (BIa hq) (BIb hq) (ATm hq)) ?_ h
  exact⟨q,[],[],Β,Β,gU,Β,A0K⟩
def BL(i:Δ)(t:pY):aF:=cy D t tr (∀as,ARk tr as tr)
theorem zuo(hN:XA)(hi:IG)(hx:AEH)(he:AAm)(hs:AGL APo:=by rfl)
  (hf:AAr:=by show ARm):AqR BL tn:=fun z E cx=>
 sU (AZN i hN hi hx Mb hs hf) (dr Ef Ef (APP r1 (Po (Bht (AC_ t)) s1 (h1 as))))
def wA(t:pY):aF:=fun D Γ E=>t Γ (fun tr _=>D.rT (.DV tr)) E
theorem Vu(he:AAm):fS (.AtT AYS Ψ) (wA tn):=fun z E cx=>
 sU (z9q Mb) (dr Ar Ar (APP r1 (k.rT (.DV t) _ _ _ _ R1.gr nd (l5 ⟨AIL ha,(hn a ha).2.1⟩) r1 h1)))
def nV(AJ_):pY:=ANC (UV AJu (Ε (.tr _ t)) (P t ď))
theorem ycr(hN:IG)(hv:OY)(AKv):ADy v4 (nV i):=fun z E cx=>
 oh ja (Sf Ip (by
  show RU Ip;show D' nV;split at h
  ·rename_i as t e;obtain⟨o,e0,v,Β,nd,hn,r⟩:=AZt;exact⟨v,e0,k t _ F H v as (ATi e0) GH nd (l5 ⟨AIL ha,(hn a ha).2,AG2 e e0 (E_ (gV (AB_ as t) É a) ha)⟩) r h⟩
  ·show HL))
#where
section
variable{X:Cx}{F0 H0:Hp}{Ψ p px:AN}{x:Κ}{i:Δ}
theorem zz9:AW1 ks GE iA (C4 bE vs (·.1)=ks)
 | [],[],_=>Β
 | [],EF,h=>EG
 | EF,[],h=>EG
 | AKD,AQn,h=>BaI zz9
#where
section
variable{K:AA}{F0 H0 F H F' H' :Hp}{σ:St}{Γ:AEf}
theorem z5b(e1:AFZ)(h:AFX):AHb ď a:=fun j q=>by
 have q' :A5z ď:=Bai
 rcases XH q' with ⟨_,z⟩ | ⟨_,z⟩
 ·exact z
 ·exact h j z
theorem SR.wrT(R:IJ)(e:AZv)(e1:AFZ)(h:Ϙ)(r:pP K F AQ4 H0 t o)(ht:MH (gV t o b) (gV s o b\/AHu b)):
  yy F AQ4 (se t):=by
 have R1:=R.wrO (t:= B8) (u:=u) e e1 h IP (YI z z.elim);have R2:=AuL i r (E4 (by
  rcases ht b hb with z | z
  ·rw[vS (se Slot.no) (Aes i B8)];exact AG2 e e1 z
  ·exact z5b e1 z))
 show ApD R2;exact R2
#where
abbrev uV:=A_q APk
inductive JG (AsL uV):Ι
 | mk:Bhg (∀t v as F' H',tw ->BC qc AoZ (AIZ t v as) (P t) ϋ) JG
def yP(K:AA)(sp:uV):Sp:=An4 JG
def BP(sp:uV):dM:=BkD (BA t (P (toD t)))
open x_ in
theorem z1u{K:AA}{sp:uV}{vs:AQ}{H:Hp}{Q:VK}{E:XK}(h:pA K (BP sp) vs H Q E):AVz yP:=by
 obtain⟨F,ds,P,Ex,h1,h2,h3,h4,h5⟩:=h;refine⟨F,ds,fun t=>P (toD t),Ex,h1,h2,h3,fun t v as F' H' g nd hn r p=> ?_,h5⟩;have s1:L9 F' Bdx:=Sr (by
  show Bbh;show A7 (APQ (AO6 Ϥ))
  exact e)
 refine h4 (toD t) v Bdx H' (Ahg (g.f.trans s1) MX g.h) (Aeq s1 t v as (fun a ha u hu=> ?_) r) p
 ·have e' :Bbh:=e;split at e'
  ·exact e'
  ·exact g.g b u e'
 ·have e' :(CD (b∈as) (H' b) Ŵ)=Ε o:=e;split at e'
  ·show AI1;exact CS Đ
  ·exact g.n b o e' n
 ·show DU ha;exact hu
structure wB (AKt) (mg:EN) (C3:AM) (x:Κ) (k:Δ) (ps:Ρ) (sp:uV):Ι where
 ex:BBS yP
theorem wB.fn(Bld){x:Κ}{k:Δ}{ps:Ρ}{sp:uV}(G:ACO wB x k ps sp):ACO cL x k ps (BP sp):=by
 obtain⟨f,fd,h1,h2⟩:=G.ex;exact⟨f,fd,BYp,h2⟩
section
variable{P:A0}{w:An}{K:AA}{mg:EN}{C3:AM}
theorem Hl(Ě)(Acq uV)(Fn:A3 x E2 st)(S:AKa ps)(len:ASN)
  (xw:AKy (∀F0:Hp,
   ∃t,Aom m_/\Aqq (BBR (Mz Q)))):
  AmH yP:=by
 show AFt;refine QK lk hcd S (ARL H Q E BO) (AKx E hr Bz)
 ·obtain⟨F,ds,P',Ex,_,rs,hs,_⟩:=BO;show AqK
 obtain⟨F0,ds,Pd,Ex,sF,rs,hsp,hQ,hE⟩:=Bz;show Aor;have cx:ASL:=by
  refine⟨fun Ο σ Γ F H1 s1 e s' I R hx=> ?_,AKV⟩;refine AKz;show APY F' x R' xr z1 z ASW
 exact⟨_,ht _ _ cx,F0,Anw,BBR (Mz Pd),Ve sF rs,hq ds Pd Ex hsp,⟨vT,đ,đ,vT,vT,fun t v as F' H' gr nd hn r q=>by(cases t with | DV t=>exact hQ t v as F' H' gr nd hn r q | tp ts=>exact SO),fun _ _ _ _ _ _ _ _ q=>SO⟩⟩
#where
def rM(sp:uV)(t:c7):pY:=Z' (AhJ (BA tr (HZ tr)))
section
variable{X:Cx}{F0 H0:Hp}{e:AK}{es:C7}{Ψ p:AN}{x:Κ}{ps:Ρ}{k:Δ}{sp:uV}{t:c7}
theorem Vv(Ar9 wB):
  ADy nE (rM sp t):=by
 show AcJ Fn hm hk hb;show AFv;refine AcK;refine ATo (h₀:=SH) ATp hk BPk he EI;obtain⟨vs,H1,I1,r,F1,Ω,ds,R1,sF,rs,q⟩:=Cn;refine AYm;have hs:yP AG sp vs H1 Q BE_:=⟨F1,ds,_,_,LU,rs,q,Bju,Acl⟩;have hl:Aof:=Arw
 have hbs:=hb s1 us Ļ hl;show AGB;refine ARg X.A s1 H1 us us vs Q hr I1.env0 r AQ';cases r with
 | kT e=>exact ABt Ο σ Ω F1 H1 s1 e s' I1 R1 hq
 | ok fl=>
  cases fl with
  | ret u=>show A4Q
  | Kx=>show Zl
  | brk=>show Zl
  | OE=>show Zl
#where
#print _3
namespace _3
open KB P4 LL _2
def lB(ks:GE)(k:Key):AT:=ks.any fun k' =>(Χ (k' =k))
theorem wC:ARi↔AnT:=by
 unfold lB;rw[ATu];exact AYD (fun hz=>by show à x h hz;exact yB e ▸ h) ⟨k,h,BLs⟩
def jQ(ks:GE)(k:Key):GE:=AjT ARi ks ks k
def ig(AFg)(ks:GE)(xs:DE)(k:Key)(x:α):DE:=AjT ARi (Ł (AzJ x) ks xs) xs x
theorem ztc:AW1 ks GE iA (C4 bE vs (BA kv (AcV v))=bE BYZ)
 | [],_,_=>Β
 | EF,[],h=>EG
 | Alv,w::vs,h=>by
  rw[AGz,GL,BJv,AGz,ztc (DT h)]
  by_cases q:k' =k<;>simp [q]
theorem YL(h:iA):ka (bE vs) k v=(jQ ks k).zip Bf6:=by
 unfold ka jQ ig;have e:((bE vs).any fun kv=>(Χ (kv.1=k)))=Μ↔ARi:=by
  rw[wC,ATu];constructor
  ·rintro⟨kv,hm,q⟩;have:=List.mem_map_of_mem (f:=(·.1)) hm;show D5 (zz9 h);rw[<- yB q];exact Τ
  ·intro hm;rw[<- zz9 h] at hm;show BU kv h1 h2 ko hm;exact⟨kv,h1,BL3⟩
 by_cases q:ARi
 ·rw[uS e.mpr q,L3,L3];exact ztc h
 ·rw[Cc (FI (q (e.mp z))),TN,TN,List.zip_append h]
  rfl
theorem z0j(h:AhP By):Sc jQ ks k=VA (ig ks xs k x):=by
 unfold jQ ig;split
 ·rw[AfC,<- h,AMD]
 ·simp [h]
theorem z9a{K:AA}{F:Hp}{k:Key}{d:D}{v:V}(r:TC):Bk6 (Qr (Ł (AzJ d) ks xs) BYZ)
 | [],xs,vs,h=>DL aL
 | EF,[],vs,h=>A'K
 | Alv,WO,vs,h=>by
  show Fu u us h1 h2 h;rw[BJv,BJv];refine uc ?_ (z9a r h2);by_cases q:k' =k
  ·rw[L3,L3];exact r
  ·rw[Cc q,TN];exact h1
theorem zqk{K:AA}{F:Hp}{ks:GE}{xs:AR}{vs:AQ}{k:Key}{d:D}{v:V}(h:AIV)(r:TC):Qr (ig ks xs k d) Bf6:=by
 unfold ig;split
 ·exact z9a r h
 ·exact Mw h (Lr r)
theorem YM(Ĕ):∀{xs:AR} {vs:AQ} {as:CH},Af3 AZF vs ->as= []/\AIV
 | [],vs,as,h=>by rw[AuA] at h;exact⟨h.2,Ee⟩
 | WO,vs,as,h=>by
  rw[GL] at h;obtain⟨v,us,bs,cs,Β,Β,h1,h2⟩:=h;show AEX r h1;show AqG h2;exact Ic (uc r rs)
#print _3
namespace _3
open KB P4 LL _2 AK7
structure Ord (lt:vF) (n:Δ):Ι where
 tri:∀i j,BC (i<n) (j<n) AAn (lt i j=AE) (lt j i=Μ)
 irr:AxN (j<n ->A7y ->lt j i=AE)
 tr:∀i j k,i<n ->BC (j<n) (k<n) A7y (lt j k=Μ) (lt i k=Μ)
def Sat(AFg)(lt:vF)(n:Δ)(t:KasT α)(Q:GN α):Ι:=Vo lt n t=Μ/\Q (YB lt t)
section
variable{lt:vF}{n:Δ}{α β:Ch}
theorem JH(h:Q a):ic (.ret a) Q:=Ic h
theorem Vw(hi:i<n)(hj:j<n)(hij:AAn)(h:ic BfA Q):ic (.ask i j k) Q:=by
 refine AJV h.2;unfold Vo;show Bpi eS;exact⟨hi,hj,hij,Ee⟩
theorem Vx:NA t (KasT α) (ic t (BA a (ic (f a) Q))) (ic (t.bind f) Q)
 | .ret a,h=>h.2
 | ArR,h=>by
  have h1:=Ee;unfold Vo at h1;show A7K h1;exact Vw n9 h1.2.1 Ϝ.2.1 (Vx ⟨h1.2.2.2,h.2⟩)
theorem Sat.imp(h:ic t Q)(k:∀a,Q a ->Q' a):ic t Q' :=⟨Ee,k _ h.2⟩
def Pm(n:Δ)(p:u_):Ι:=AiM p.toList.Perm n
theorem Pm.size(h:Z_):AT4=n:=C6 (List.Perm.length_eq h)
theorem YQ{p:u_}{k:Δ}(hk:k<AT4):QU k 0=p.toList[k]' AkA:=c8 Array.getD hk
theorem Pm.below{p:u_}(h:Z_){k:Δ}(hk:k<n):A4k<n:=by
 have hk' :k<AT4:=CL h.size hk
 rw[YQ hk'];exact XX (Bsf (yV _))
theorem Pm.ne{p:u_}(h:Z_){k j:Δ}(hk:k<n)(hj:j<n)(hkj:k≠j):A4k≠QU j 0:=by
 have nd:p.toList.Nodup:=h.nodup_iff.mpr Bsg;rw[YQ (EM h.size hk),YQ (EM h.size hj)]
 have A6:=AfF nd;rcases BJw hkj with q | q
 ·exact A6 k j _ _ q
 ·exact Au (A6 j k _ _ q ABv)
def Lp(lt:vF)(p:u_)(i j:Δ):AT:=lt (QU i 0) (QU j 0)
def Up(Bjk):Ι:=BXx (ik i j)
def Dn(Bjk):Ι:=BXx (ik j i)
theorem ycp(O:w9)(P:Z_)(hi:i<n)(hj:j<n)(hij:AAn)(h:PR (Lp lt p i j)):ik j i:=O.tri _ _ (ACq hi) (ACq hj) (P.ne hi hj hij) h
theorem ydn(O:w9)(P:Z_)(hi:i<n)(hj:j<n)(hk:k<n)(h:ik i j)(h' :ik j k):ik i k:=O.tr _ _ _ (ACq hi) (ACq hj) (ACq hk) h h'
theorem ylk(O:w9)(P:Z_)(hr:r<n)(h1:1<=r)(U:AQz r)(h:ik AZC r):AQz (r+1):=AbS (by
 rcases A2w r with q | q
 ·exact AqH q
 ·show ZA j r
  rcases AYP AOn with q' | q'
  ·exact ydn O P Θ Θ hr Bgq h
  ·show ZA i (j - 1)
   exact h)
theorem yjy(O:w9)(P:Z_)(hr:r<n)(h1:1<=r)(U:ARx r)(h:ik r AZC):ARx (r+1):=AbS (by
 rcases A2w r with q | q
 ·exact AqH q
 ·show ZA j r
  rcases AYP AOn with q' | q'
  ·exact ydn O P hr Θ Θ h Bgq
  ·show ZA i (j - 1)
   exact h)
theorem yjw(O:w9)(P:Z_):Bei (AQz m) (ic (kas_asc p f m) (Pc (m<=r/\r<=m+f/\AQz r/\ (r<m+f ->ik r AZC))))
 | 0,m,h1,_,U=>JH ⟨OZ,OZ,U,Au (AFp z)⟩
 | f+1,m,h1,hn,U=>by
  refine Aqw
  cases q:lt (QU m 0) (QU (m - 1) 0) with
  | Μ=>
   show Û;exact JH ⟨OZ,Υ,U,FM q⟩
  | AE=>
   show vz
   refine(yjw O P f (m+1) Θ Θ (ylk O P Θ h1 U (ycp O P Θ Θ Θ q))).imp fun r hz=>by obtain⟨a1,a2,a3,a4⟩:=hz;exact⟨Υ,Υ,a3,Au (a4 Θ)⟩
theorem yh7(O:w9)(P:Z_):Bei (ARx m) (ic (kas_desc f p m 0) (Pc (B6=p/\m<=Co/\Co<=m+f/\fb=0/\ARx Co)))
 | 0,m,h1,_,U=>JH ⟨Β,OZ,OZ,Β,U⟩
 | f+1,m,h1,hn,U=>by
  refine Aqw
  cases q:lt (QU m 0) (QU (m - 1) 0) with
  | Μ=>
   rw[ET,Cc Φ]
   exact(yh7 O P f (m+1) Θ Θ (yjy O P Θ h1 U q)).imp fun r BO=>by obtain⟨a1,a2,a3,a4,a5⟩:=BO;exact⟨a1,Υ,Υ,a4,a5⟩
  | AE=>
   show vz
   refine Aqw
   have q' :lt (QU (m - 1) 0) (QU m 0)=Μ:=ycp O P (i:=m) (j:=m - 1) Θ Θ Θ q
   rw[q',ET];exact JH ⟨Β,OZ,AXB (m<=_),Β,U⟩
theorem yh3(P:Z_)(i j:Δ):Pm n (kas_rev p i j):=BTV (mirror_perm p i j ((j - i)/2))
theorem BJx{p q:u_}(AoR)(h:p[i]?=q[j]?):QU i 0=q.getD j 0:=by
 rw[Bsh,Bsh,h]
theorem yhs{p:u_}{m k:Δ}(hm:m<=AT4)(hk:k<m):(kas_rev p 0 m).XL k 0=QU (m - 1 - k) 0:=by
 have e:=ADS getElem?_mirror_all hm k;rw[DZ ⟨MZ,hk⟩] at e;have:=BJx e;show D5 (JY (0+m - 1 - k=m - 1 - k))
 exact Τ
theorem yly(O:w9)(P:Z_)(h1:1<=m)(hm:m<=n)(D:ARx m):Bhc (kas_tail3 m n p):=by
 have U:Up lt (kas_rev p 0 m) m:=AbS (by
  unfold Lp;rw[yhs BPO Θ,yhs BPO hj]
  exact D (m - 1 - j) (m - 1 - i) Θ Θ)
 exact Vx ((yjw O (yh3 P 0 m) (n - m) m h1 Θ U).imp fun r hz=>by obtain⟨a1,a2,a3,_⟩:=hz;exact JH ⟨yh3 P 0 m,AXB (1<=r),AXB (r<=n),a3⟩)
theorem yln(O:w9)(P:Z_)(h1:1<=n):Bhc (kas_count n p):=by
 refine Vx ((yjw O P (n - 1) 1 Gc Θ (fun i j a b=>Υ)).imp (Cb r Cn))
 obtain⟨a1,a2,a3,a4⟩:=Cn;by_cases e:r=n
 ·show DU (LG e)
  exact JH BYa
 ·show A7 (LG e)
  by_cases g:r>1
  ·show DU g;refine Aqw
   have q:lt (QU 0 0) (QU AZC 0)=Μ:=a3 0 AZC Θ Θ
   rw[q,ET];exact JH BYa
  ·show A7 g;show ZA r 1
   have q:=a4 Θ
   have D:ARx 2:=AbS (by
    show ZA i 0
    show ZA j 1
    exact q)
   refine Vx ((yh7 O P (n - (1+1)) (1+1) Θ Θ D).imp (Cb r Bz))
   obtain⟨b1,b2,b3,b4,b5⟩:=Bz;rw[Cc Θ,b1]
   exact yly O P Θ Θ b5
theorem z0d(O:w9)(P:Z_)(hk:k<n)(U:AQz k):∀(f l r:Δ),l<=r ->Hb (r<=k) (r - l<=f) (Y' l (ik j k)) (BU6 (r<=j)) (ic (kas_place p k f l r) (Tk (x<=k/\ (Y' x (ik j k))/\BU6 (x<=j))))
 | 0,l,r,h1,h2,h3,h4,h5=>JH ⟨Υ,h4,fun j a b=>h5 j Θ b⟩
 | f+1,l,r,h1,h2,h3,h4,h5=>by
  unfold kas_place;by_cases g:l≥r
  ·show DU g;exact JH ⟨Υ,h4,fun j a b=>h5 j Θ b⟩
  ·show A7 g;have m1:l<=AGF:=Υ
   have m2:AGF<r:=Υ
   refine Bm9 (ACq hk) hk
   cases q:lt (QU k 0) (QU (AGF) 0) with
   | Μ=>
    show Û;refine z0d O P hk U f l _ m1 Θ Θ h4 (As j a b)
    rcases BIW (AGF) j with z | z
    ·exact ydn O P hk Θ Θ q (U _ j z b)
    ·show ZA j AGF
     exact q
   | AE=>
    show vz
    have q' :ik (AGF) k:=ycp O P hk Θ Θ q
    refine z0d O P hk U f _ r Θ h2 Θ (TM j a) h5
    rcases A2w (AGF) with z | z
    ·exact ydn O P Θ Θ hk (U j _ z Θ) q'
    ·show ZA j AGF
     exact q'
theorem yn9(P:Z_)(k d:Δ):Pm n (bubble p k d):=BTV (bubble_perm p k d)
theorem ymi(O:w9):∀(f:Δ) (p:u_) (k:Δ),Z_ ->k+f=n ->AQz k ->BTB (kas_bin f p k)
 | 0,p,k,P,h,U=>by
  show ZA k n
  exact JH ⟨P,U⟩
 | f+1,p,k,P,h,U=>by
  have hk:k<n:=Υ
  refine Vx ((z0d O P hk U k 0 k ì Gc Θ (fun j a=>Υ) (fun j a b=>Υ)).imp (Cb l Cn))
  show Ż a1 a2 a3;refine ymi O f _ LY (yn9 P k ApO) Θ (M' i j hij hj)
  have at' :∀x,(bubble p k ApO).XL x 0=Nn x l A4k (if l<x/\x<=k then QU (x - 1) 0 else QU x 0):=Tk (by
   have e:=getElem?_bubble (xs:=p) (src:=k) (EM P.size hk) ApO Θ x
   rw[JY (k - ApO=l)] at e
   split
   ·show Ki;show A4j L3
   ·show Ki;rw[TN] at e;split
    ·rename_i q2;show A4j (DZ q2)
    ·rename_i q2;show A4j (Cc q2))
  show BQ (lt _ _=Μ);rw[at',at'];by_cases e1:i=l
  ·rw[DZ e1,vx,ϳ]
   exact a3 AOn Θ Θ
  ·show A7 e1;by_cases e2:j=l
   ·rw[DZ e2,vx]
    exact a2 i Θ
   ·show A7 e2;by_cases e3:l<i/\i<=k
    ·rw[DZ e3,ϳ]
     exact U (i - 1) AOn Θ Θ
    ·show A7 e3;by_cases e4:l<j/\j<=k
     ·show DU e4;exact U i AOn Θ Θ
     ·show A7 e4;exact AqH Θ
theorem ymo(O:w9):BTB (kas_sort n):=by
 have P0:Pm n (BJP (AGa n)):=re Bsi _
 by_cases h0:n=0
 ·subst h0;exact⟨Β,(A8 Bsi _),fun i j _ hj=>(BMh hj)⟩
 ·refine Vx ((yln O P0 Θ).imp (Cb r Cn))
  show GB a1 a2 a3 a4 Cn;by_cases g:B6<n
  ·rw[DZ g,JY (max B6 1=B6)]
   exact ymi O _ _ _ a1 Θ a4
  ·show A7 g;obtain e:B6=n:=Υ
   exact JH ⟨a1,e ▸ a4⟩
#where
#print _3
namespace _3
open KB P4 LL _2
def wD(lt:vF)(is:DA):Ι:=is.Pairwise (AHZ A7y)
theorem yoc(P:Pm n q)(U:Up lt q n):wD lt q.toList:=by
 unfold wD;rw[Bsj];intro i j hi hj hij;have hj' :j<q.size:=C6 hj
 have hi' :i<q.size:=Υ
 have:=AqH (VZ P.size hj')
 unfold Lp at Τ;show ng (YQ hi') (YQ hj');exact Τ
structure JK (CY:A0) (w:An) (A:Bi) (E:dW) (vs:At) (lt:vF) (T:A0N) (κ:Au4):Ι where
 kind:∀(s:AC) (Q:PZ Au4),A7H ->2<=KO ->Q κ s ->Kb (keyKind' qa)
 ask:∀(s:AC) (i j:Δ) (C:A1h),A7H ->BC (i<KO) (j<KO) AAn (C AlI s) (BJy CY w A κ vs i j C s)
section
variable{CY:A0}{w:An}{A:Bi}{E:dW}{s:AC}
theorem zu0{a:Ζ}{vs:At}{lt:vF}{T:A0N}{κ:Au4}{n:Δ}{P:PZ PySem.Fin}(hob:A0V (Ð qa n))(O:BPn)(hT:A7H)
  (hst:∀h',(∀x o,BMu ->x≠a ->GT SE o) ->T h') (K:JK CY w A E vs lt T κ) (h64:BMZ)
  (h:∀is:DA,BPx ->A8G ->P (.KM (.ret BM)) (cE (sortedHeap A9 a vs A7w))):AV9 (Builtin.«list.sort» (GY NG)) P:=by
 have hal:P1 a:=zG hob;have Vy:AOj:=BMe
 rw[list_sort_plain];refine fw (Bsa (n:=n)) hob Β;refine z6 (BJr (n:=n) hob Β ?_ (EM XI Vy) ì)
 obtain⟨ea,hoa⟩:∃ea,Fr (AxU Hm) BPd:=BRr hob #[];refine BA_ hoa;show ADx (z6 (BJH ?_ (DT Vy))) (BNI ì) (ABc (m:=_) ?_);have Nf:BZP (AxU P7) BPd:=by
  refine AHA Ap9 (AHA Ap9 hoa)
  ·rw[BJz,Au3];exact zK (Azu hal)
  show BOC hal
 have T2:T (Bo6 (Ð #[] 0)):=hst _ fun x o hx hxa=>by
  have A_:=zG hx;refine AHA Ap9 (AHA Ap9 (AHA (APy hxa) hx))
  ·rw[BJz,Au3];exact zK (Azu A_)
  show BOC A_
 dsimp only;have hsv:AHV Bsk:=XI ..;by_cases xz:Bsk<2
 ·rw[DZ xz,DZ xz];refine AZM;rw[StateT.run_pure];refine AZM;refine BA_ Nf;have eo:C4 arrOf (SortSt.mk' general' (Bsl qa) #[] 7 Η) (·.2)=(b9 KO Ahx).pz:=by
   show Bpl;show oC
   ·simp
   ·intro i q1 q2;have:i<KO:=C6 q2
    simp [Τ]
  rw[eo];refine BfU
  ·show BQE;refine sv (h _ GH ?_);unfold wD;rw[Bsj];intro i j hi hj hij;have:j<KO:=C6 hj
   show AF
  ·simp;show AF
 ·show ZN xz xz;refine lP (K.kind _ _ T2 Θ)
  show BU ok Pq Uq ymo O;refine æ (W.kat_run (Q:=fun st' s' =>∃p:u_,AT4=KO/\arrOf st' =p.map (W.kas_item (Bsl qa))/\failedOf st' =Η/\p=BYA/\s' =BiE)
   (G:=fun p s' =>p=BYA/\s' =BiE)
   Β Θ Θ (fun p st' s' a1 a2 a3 a4=>⟨p,a1,a2,a3,a4⟩) ?_) ?_ AxY
  ·exact yh1 (fun i j C hi hj hij hC=>K.ask _ i j C T2 hi hj hij hC) _ _ ok ue
  ·rintro⟨⟨⟩,st'⟩ s' ⟨p,hp,har,hf,Β,Β⟩;have eo:=W.kat_snds (vs:=vs) Β har;rw[eo];refine BA_ Nf;refine BfU
   ·rw[hf];show BQE;exact IB (h _ Pq (yoc Pq Uq))
   ·exact zO (ALq (yct hp)) Θ
theorem zmo{src:AJ}{Q:dW}
  (hc:NO OP qf (AfQ src) (AIB s1 (∃lt T κ,BPn/\BMZ/\JK CY w A.in1.in1 E vs lt T κ/\ (∀h2:AM,(∀x o,GT AL9 o ->GT h2.get? o) ->T h2)/\
   ∀(l:Ζ) (h' :AM) (is:DA) e,E3<=l ->Hb BPx A8G (BTE A7w) (∀b ob,ACo AL9 ->ACo SE) (M_ l (AXD h')))) E s):
  Kb (A3t [src]):=by
 refine Bj7;show Bpc;refine Bi8;refine X9 (AfQ _) (û hc (UT vs Ei) AxY);obtain⟨lt,T,κ,O,h64,K,hT2,h⟩:=Ei;have Vy:AOj:=BMe
 refine BNI Vy;have hoL:BKT (AU4 BNJ Hm) BNJ:=Si;show BG (Bi7 (zu0 (T:=T) hoL O (hT2 _ fun x o e=>zn) (fun h' k=>hT2 _ fun x o e=>k x o gu AbY) K h64 fun is a1 a2=>AFK)) (sv AFK);show FX e he (ymg (vs:=vs) (out:=A7w)) hoL;refine h E3 _ is e Gc a1 a2 he (AP8 ob);exact yhy (z8 _ eb) (zK (zG eb))
#where
def nA(Aln):AT:=Χ (BJ0<Bsm)
theorem zzh(a:Κ):nA a a=AE:=by unfold nA;simpa using List.lt_irrefl BJ0
theorem yh5(h1:AUl)(h2:ŕ b c):ŕ a c:=by
 unfold nA at*;simp only [ATq] at*;exact List.lt_trans h1 h2
theorem z8r(h1:nA a b=AE)(h2:a≠b):ŕ b a:=by
 unfold nA at*;simp only [decide_eq_false_iff_not,ATq] at*;cases q:Χ (Bsm<BJ0) with
 | Μ=>exact yB q
 | AE=>
  have:=List.le_antisymm (Bsn h1) (Bsn (of_decide_eq_false q));exact cf (by show AD a a a a a a a a a a a a a a;show AD b b b b b b b b b b b b b b;simp at Τ;rw[Τ]) h2
theorem z3z(h:AUl):nA b a=AE:=by
 cases q:nA b a with
 | AE=>rfl
 | Μ=>have:=yh5 h q;show D5 zzh;show LH
def RP(xs:Ρ)(i j:Δ):AT:=nA AnY (ya j Ty)
theorem Em{α:Ch}{xs:DE}{i:Δ}{d:α}(h:vv):ya i d=xs[i]:=A2k vt
theorem z1a{xs:Ρ}(nd:AfU):Ord (RP xs) By:=by
 show A3w nd;refine⟨fun i j hi hj hij h=> ?_,fun i j _ _ h=>z3z h,fun i j k _ _ _ h1 h2=>yh5 h1 h2⟩;refine z8r h ?_;rw[Em hi,Em hj];rcases BJw hij with q | q
 ·exact BXg q
 ·exact Au (A6 j i hj hi q ABv)
def Ń(AFg)(d:α)(xs:DE)(is:DA):DE:=ABz (A2g d)
theorem zub{α:Ch}{d:α}{xs:DE}{is:DA}(h:AiM is.Perm By):Ayr d xs xs:=by
 have e:b9 By (sx (ya i d))=xs:=by
  show oC
  ·simp
  ·intro i q1 q2;show BRD;exact Em q2
 have:=h.map (A2g d);show D5 e;exact Τ
theorem zwm(h:wD (RP xs) is):AWN (Ń Ty xs is).AuW:=by
 unfold Ń;rw[Ae8];exact h
theorem zo9{xs:Ρ}{vs:At}(r:BP4){i:Δ}(hi:vv):∃t,AfE i eC= .AX AnY t:=by
 show BU u e ru (AoS r.get (.AX AnY)) (BoK ui (Em (d:=Ty) hi))
 show AEW e;exact ru
theorem z12{CY:A0}{w:An}{A:Bi}{E:dW}{xs:Ρ}{vs:At}(r:BP4):BeW (De IM) :=by
 have hl:KO=By:=ð SK this.symm
 refine⟨fun s Q _ h2 hQ=>W.kas_kind (T:= SS "str") h2 (gN hv ?_) Φ Φ hQ,fun s i j C _ hi hj _ hC=> ?_⟩
 ·show AFN k hk hv;show FX t e (zo9 r (i:=k)) Θ
  rw[Em hk] at e;rw[e];exact W.Looks.of_pure Β
 ·show FX t e (ϲ (zo9 r)) Θ
  show FX u e' (zo9 r (i:=j)) Θ
  unfold BJy;rw[e,e',Bsp];exact oneLt_str hC
def Ng:AHz Key | AbK=> APu | A7x=> ž | _=> .DH 0
theorem yj6:∀k v,AXq pK k v=Μ ->Ng v=k:=fun k v h=>by
 rcases Dv h with ⟨i,t,Β,Β⟩ | ⟨x,t,Β,Β⟩<;>rfl
theorem zxo:l_ vs At ys Ρ (BVt pK) (Atv Ng=AHC SC) (KF (AHC AHB) vs)
 | [],[],_,_=> Eg
 | [],EF,_,h=>EG
 | EF,[],_,h=>EG
 | AQn,y::ys,h,e=>by
  obtain⟨⟨k,hk⟩,_⟩:=h v zY;rw[GL,GL] at e;injection e with e1 e2;refine .AY ?_ (zxo (fun u hu=>h u (zW _ hu)) e2);rcases Dv hk with ⟨i,t,Β,Β⟩ | ⟨x,t,Β,Β⟩
  ·show fT e1 e1 e1 e1 e1 e1 e1 e1 e1 e1 e1 e1 e1 e1
  ·have:x=y:=Azy e1
   show oB;exact⟨t,Β⟩
theorem ygb:∀{ks:GE} {xs:Ρ},ks.Perm (kD SC) ->∃ys:Ρ,ks=AHC SC/\ys.Perm xs:=fun{ks xs} h=>by
 have e:ks=C4 PH (iP Ar3) SC:=by
  rw[NV];refine Be2 ks;show AEc x (ko (Bsf hk))
  rfl
 refine i6 e;have:=h.map fun k:Key=>Ar3
 show D5 NV;refine this.trans ?_;rw[sN (MA ((fun k:Key=>Ar3) ∘ SC) xs) xs (BJ1 xs)]
def uw(xs:Ρ):Ρ:=(mY AzR By).map (iP Ar3)
theorem zty(xs:Ρ):BUZ=C4 uw xs SC:=by
 unfold uw;rw[NV];refine Be2 _;show AEc j ((zpe _).mp hk)
 rfl
theorem BR{xs:Ρ}{x:Κ}:x∈uw xs↔x∈xs:=by
 have e:x∈uw xs↔ (SC x:Key)∈BUZ:=by
  rw[zty,aE];constructor
  ·exact EX (ZZ x h)
  ·show AJT y h;have:y=x:=Azy e
   show ú;exact h
 rw[e,zpe];constructor
 ·show AJT j hj;have:ya j Ty=x:=Azy e
  rw[<- Τ,Em hj];exact yV hj
 ·intro h;show à j hj BKc;exact⟨j,hj,IC (Em hj) e⟩
theorem zth(xs:Ρ):ϟ uw xs:=by
 have:=zmn AzR By;show D5 zty;exact List.Pairwise.imp (fun{a b} h z=>h (by rw[z])) (Bsq Τ)
def JL(P:A0)(w:An)(a:Ζ)(xs:Ρ):HO:= AoD (vH ϔ Ng ADo h a (C4 uw xs SC))
inductive JM (Acn):Ι
 | mk:∀(p:Ζ) (xs:Ρ),Hb (vs= [RI]) (nZ AG H p Ak4) (By+1<Auq) (Aar q q q q BUs) (ANb JM)
def Pg(X:Cx):ĕ:=Aal JM
inductive JN (Acn):Ι
 | mk:∀(q:Ζ) (xs:Ρ),Hb A6m (Sl q BUs) (D_ uw xs<64) (∀(l:Ζ) (ms:Ρ),Ak3 ->ATy (uw xs) ->Ai5 ->Anf (eg .AX)) (ANb JN)
def YS(X:Cx):ĕ:=Aal JN
theorem z95(AFs):fj X AYs (Pg X):=by
 rintro Ο s σ H xs us Q I r ⟨p,ns,e0,hq,hb,k⟩;subst e0;show Tu;show AGP;show BVL;show ARN;have hsz:xy=IO:=C6 hl.symm
 refine zq2 (κ:=Key) (knd:=pK HR X.w) (kf:=Ng) yj6 (val:=FK (.BD BNn)) To kX BXH BR8 Bcj
 ·have hi:i<IO:=CL hl (OT (DT hv))
  show VX t (zo9 rv hi);show BMt (show A2z by simpa using hv)
  have e' :v= .AX BNn t:=e;subst e';exact⟨LX zrz,Β⟩
 ·rw[hsz,zty] at hS;have I2:AOr (Ard JL) ZO:=
   AKW NW Gc (Ard JL) (Bex BYY)
  exact IF my I2 (k _ AIq)
theorem zq0(r:KF xs vs)(h:Ais vv):KF (Axk xs) (ABz Ahx):=zxj r h
theorem zpj(Aqi){f:Akd}{d:α}{xs:DE}{is:DA}{e:β}(h:Ais vv):Ń e (kD f) is=AwC d xs f:=by
 unfold Ń;rw[NV];refine Ay';show(kD f).XL i e=f (ya i d);rw[Em (EM C8 AlN),Em (h i hi),AT9]
theorem yau{X:Cx}(hc:F7):ACz eA (YS X):=by
 rintro Ο s σ H xs us Q I r ⟨q,ns,e0,hq,h64,k⟩;subst e0;show Tu;show AGP;obtain⟨⟨o,es,ep,t,hg,O⟩,_,_⟩:=KI q _ hq;show FY hlk (FU=A6a) AkP line AY_ B' (zmo (zrt BR' hg O Θ Bk8))
 show BU ys e1 hp ygb hk;have rv:=zxo hm e1;show FY JC BNz BPi hly (NR=A6a) BJo (BlM (BsW (zth ns)))
 have hlt2:Alq:=BZ5;have hix:BcB:=Rl (by
  rw[C8,<- JC];exact XX BN2)
 have hrv:=zq0 rv hix;rw[zpj (d:=Ty) BNp] at hrv
 have hms:BWQ (uw ns):=î zub (VZ JC a1) hp
 have Fh:BUf:=BNC
 have I2:AYO Ak5 ZO:=
  AKW (BFq NW) hlt2 (FF Ak5) (BCe hl)
 exact IF N2 (ygy I2 d) BlN
def wF:AR ->AGC Κ
 | []=>Aj6
 | oq::r=>C4 wF r (x:: ·)
 | EF=>Η
theorem zy2(OA):∀{ds:AR} {vs:AQ} {xs:Ρ},MV ->wF ds=Ε xs ->vs=kD .AX
 | [],vs,xs,r,h=>A_c
 | Z3,vs,xs,r,h=>by
  show Fu v us r1 r r;cases d with
  | AX x=>
   show D' wF;unfold EJ at r1;subst r1;cases q:wF ds with
   | Η=>rw[q] at h;show HK
   | Ε ms=>show BCq zy2
  | _=>show Pw
theorem YT(OA):∀xs:Ρ,Qr Ak4 (kD AHB)
 | []=>OU
 | n::ns=>uc JS (YT ns)
def zv9:TD:=AJB (∃ns,wF xs=Ε ns/\IO<4095/\ A6a<64/\Bcy (A8x ns))
section
variable{X:Cx}{F0 H0:Hp}{a e:AK}{Ψ p qo p2:AN}{t:c7}
theorem yd3(BmM):
  Bgh zv9:=fun z E cx=>by
 have inner:PE JO Ayd (U0 (Pg (yA z)) (ō Va t E)):=Da zl5 (z95 hc) hg2 hm2 z2q G1 Φ Φ he Β
 refine Blc yau
 show Bau zv9;split at h1
 ·show AcS;obtain⟨ns,hns,A_,hme,h1⟩:=h1;show U_ (zy2 rs hns);refine BhD
  refine Bfk hme;have R2:BMO (JL HR X.w q ns):=ATn Bhi
  show uC R3 q1 q2 q3 ap (BQp YT) (BFN YT hs (FK (BsV BR)))
 ·show ê
#where
open BH8 (Aeh)
open BH9 BH_ in
theorem yev(Bmg):
  Meets (Builtin.«list.__eq__.loop» (GY [N2,AI2,Aiy,Aiy]))
   (fun A R s=>(BAn dd sl (BbD sl2) (s0 (nA x y)) s)):=by
 intro CY w A R s h;show AFe;show BAs
 show A9R
 have hi1:IS OF (TH).eQ AXk:=h1;have hi2:IS AB' (TH).eQ (.AX y u):=h2;rw[hi1,hi2];have hne:ky Bss Bst:=by
  cases q:(Bss==Bst) with
  | AE=>rfl
  | Μ=>
   have e:=BIC q;exact cf (by show AD x x x x x x x x x x x x x x;show AD y y y y y y y y y y y y y y;simp at e;rw[e]) hxy
 refine z6 (SeqRoads2.EqGives.str x y t u CY w _ _ _ _ ?_);rw[hne]
 show A9R
 rw[hi1,hi2];refine No (richCompare .Lt _ _) (wpAny_richCompare_same (At4 _ x t) (At4 _ y u) slot_str_lt (call_str_lt (C5 DB)) Β)
 wp_walk
 exact h
open BH9 BH_ in
theorem yd4(Bmg):
  Bcf Builtin.«list.__lt__» (fun A R s=>(BAn dd sl (BbD sl2) (s0 (nA x y)) s)):=by
 intro CY w A R s h;show AFe;show BAs;have f3:=Bsu
 show A9R
 exact⟨AwL Bsv,Aus entry_eq_loop (gc (AI8 Bsv) (yev l b OF AB' n n2 dd dd2 sl sl2 x y t u h1 h2 hxy CY w A R _) ⟨hl,hb,h⟩)⟩
def Lz(h:AM)(v:AJ)(x:Κ):Ι:=∃a AW t,v= CF/\PlainL h a AW/\IS AW 0 AXk
theorem yd8(h1:Lz A9 v x)(h2:Lz A9 v' y)(hxy:x≠y)(hu:Akn)(h:Q (nA x y) s):Kb (oneLt' Μ v v'):=by
 obtain⟨a,AW,t,Β,⟨o,n,e1,c1,d1,s1⟩,z1⟩:=h1;obtain⟨b,its2,u,Β,⟨o2,n2,e2,c2,d2,s2⟩,z2⟩:=h2;obtain⟨cls,dict,ABT,ALR⟩:=o;show GB cls2 acp data2 RQ o2;show AD c1 c1 c1 c1 c1 c1 c1 c1 c1 c1 c1 c1 c1 c1;show AD d1 d1 d1 d1 d1 d1 d1 d1 d1 d1 d1 d1 d1 d1;show AD s1 s1 s1 s1 s1 s1 s1 s1 s1 s1 s1 s1 s1 s1;show Bmn;show AD s2 s2 s2 s2 s2 s2 s2 s2 s2 s2 s2 s2 s2 s2;rw[oneLt'_eq];refine gi wpAny_cRoomFor_or (FV hu);refine z6 (wpAny_callSpecialIfBound?_slot (T:= L7) (N0 e1) Bsw (BIM Bsw (N0 e1) F.entry_list_lt (F.args_list_lt_2 _ _) (yd4 a b AW its2 n n2 Η Η ALR RQ x y t u z1 z2 hxy) (CU e1 e2)));exact AGg h
theorem Lz.up(q:Lz h v x)(k:BNZ):Lz h' v x:=by
 obtain⟨a,AW,t,e,p,z⟩:=q;exact⟨a,AW,t,e,p.keeps k,z⟩
theorem Lz.looks(q:Lz h v x):AT7 M h (At5 v) AIU:=by
 obtain⟨a,AW,t,Β,⟨o,n,e,c,_,_⟩,_⟩:=q;intro A Q E s k hQ;exact wpAny_typeOf_ref (k _ _ e) (EM c hQ)
theorem yiw(hl:AX3 KO)(nd:AfU)(hu:Akn):
  BeW (TK (∀i,vv ->Lz h (Axu AfE) AnY)) :=by
 refine⟨fun s Q hT h2 hQ=>W.kas_kind (T:= AMa) h2 (gN hv ?_) Φ Φ hQ,fun s i j C hT hi hj hij hC=> ?_⟩
 ·show AFN k hk hv;have:=hT k Θ
  show D5 (Em hk);exact this.looks
 ·unfold BJy;rw[Bsp];refine yd8 (hT i Θ) (hT j Θ) ?_ hu hC
  have A6:=AfF nd;rw[Em Θ,Em Θ]
  rcases BJw hij with q | q
  ·exact A6 i j Θ Θ q
  ·exact Au (A6 j i Θ Θ q ABv)
def gl(g:Ρ):D:= .DC (g.map .AX)
def hdS(g:Ρ):Κ:=g.headD Ty
theorem yo4(I:AV)(sF:i8)(r:EJ AG F (gl g) v)(ru:OX)(hg:g≠ []):Lz A9 u (hdS g):=by
 show Fu a vs hq rs r;show AD ru ru ru ru ru ru ru ru ru ru ru ru ru ru;obtain⟨AW,rv,pl,hz⟩:=AKi;cases g with
 | D8=>show AFL hg
 | AY x g=>
  show Fu w us Β rs rs;cases rv with
  | AY r0 rr=>
   show PY r0;exact⟨a,_,t,Β,pl,DL hdS⟩
def z6f:TD:=AJB (∃gs:N1,xs=AME gl/\ (∀g∈gs,g≠ [])/\ ϟ AME hdS/\BMb/\
   ∀ms:N1,ATy gs ->AfA (zI b BCS) ->AXH gl)
theorem abQ{γ:Ch}{v:V}{u:AJ}{Q:VK}{Ο:d8}(d0:γ){f:γ ->D}{T:AM ->D1 AJ γ}{lt:vF}{κ:Au4}{gs:EO γ}(I:AV)(sF:i8)(r0:EJ AG F (FF (AME f)) v)(ru:OX)(h64:BMb)
  (up:∀h h' v g,T h v g ->(BNZ) ->T h' v g) (tt:∀g∈gs,∀v u,EJ AG F (f g) v ->OX ->T A9 u g) (od:Ord lt AHD)
  (sk:∀AW:At,AGy=AHD ->JK HR X.w X.A.in1.in1 xi AW lt (TK (BM7 (T h BN7 BRl))) κ)
  (k:∀l is ws,g6 (AwC d0 gs f) ws ->BC Ak3 (Ayr d0 gs gs) A8G (∀i∈is,i<AHD) (Anf ws)):
  ADs (A3t [u]):=by
 show AFY r0;show AD ru ru ru ru ru ru ru ru ru ru ru ru ru ru;obtain⟨AW,rv,pl,hz⟩:=AKi;show Aio;have hl2:=kE rs;show Av5 hl2;have line:AY_:=B'
 have hT:BM7 (T A9 BN7 BRl):=Rl (by
  show BU v e1 r1 (yN rs (i:=i) (d:=f gs[i])) (A4i ui)
  show BU u e2 r2 AGk e1;rw[QQ,e2,Em hi];exact tt _ (yV hi) v u r1 r2)
 have hup:∀x o,BMu ->GT ((s.heap.push (seqObj "list" #[] 0)).update s.heap.objs.size (Obj.mapSeq (· ++its.toArray))).Hm o:=fun x o e=>(AgX A_ zG e (AHA (APy (zK A_)) gu))
 show BG (zmo (collect_list (vs:=AW) kX ?_ Θ)) ⟨lt,_,κ,CL (JY (AGy=AHD)) od,Υ,sk AW Θ,fun h2 k2 i hi=>(sL up (hT i hi) (fun b o e=>k2 b o (lj hup))),BpT hl'⟩
 have hsz:Alq:=zO (ATx _) (zO (ALq (dA (BMD).Ff (BJz ..))) hle);have hix:Ais (i<AHD):=Rl (NE (XX (Bsr hi)))
 have hrv:=zq0 rv (is:=is) (Rl (NE Ax'))
 have hrs:g6 (Axk (AME f)) A6z:=zx6 rs (Rl (BK4 Ax'))
 rw[zpj (d:=d0) hix] at hrs;have Fh:D7 (Í Ń V.non vs is):=by
  unfold Ń;show AIQ a1.length_eq AMF;show AF
 have I2:AYO A6z (AMV Mc):=
  A2o (BFq hup) hsz (ACW _ _ _ (FF A6z) (BCe hl'))
 exact IF N2 I2 (k l is _ hrs (AiK hsz) (zub (EM (JY (AHD=AGy)) a1)) a2 hix)
theorem you(hu:AVg Ael):ACz eA (El AG z6f):=by
 show pV;show D' z6f;split at h
 ·show ANz r0 rs;obtain⟨gs,Β,hne,nd,h64,h⟩:=h;show Tu;refine abQ [] (T:=fun h v g=>Lz h v (hdS g)) (lt:=RP (AME hdS)) (κ:=oneType') I sF r0 rx h64 (ASJ q k (q.up k)) (fun g hg v u r1 r2=>yo4 I sF r1 r2 (hne g hg)) (by have:=z1a nd;rwa [C8] at Τ) (TM AW hl) fun l is ws hrs hn pm od hix=>k _ _ l hrs hn (h _ pm ?_)
  ·have e:=UY yiw CY HR w X.w A X.A.in1.in1 E xi (vs:=AW) (xs:=AME hdS) (EM C8 hl) nd (Axy (AMY (Ael+1)))
   rw[C8] at e;refine⟨fun s Q hT=>e.kind s Q A9s,fun s i j C hT=>e.ask s i j C A9s⟩
   all_goals
    have q:=hT i hi;rw[show gs.getD i []=gs[i] from Em hi] at q;rw[show(AME hdS).XL i Ty=hdS gs[i] by rw[Em (EM C8 hi),AT9]]
    exact q
  ·have hp:=zwm od;rw[zpj (d:= []) hix] at hp;exact Bsq hp
 ·show HL
#print _3
namespace _3
open KB P4 LL _2
open BH8 (Aeh)
theorem zrb(l:Ζ)(OF:Lm)(n:Δ)(b:Ζ)(AB':Lm)(n2:Δ)(sl:AEO)(hc0:BQ7 items.isEmpty BQ4)(hc1:A0W)(hs2:BQ4<=ASn+1):
  Bcf Builtin.«list.extend» (fun _ R s=>(BAn Η #[] (AVW Η (.seq AB' n2) sl) eC (Ő (AGw l (AGv (Tk (x++AB')))) Mc))):=
 Bj3 (by
  show AFe;show BAs;have f1:=AutoSeq1.idx_int;have f2:=AutoSeq1.sub_tuple_tuple;have f3:=Bsu;have f4:=AutoSeq1.sub_tuple_list;have f5:=AutoSeq1.sub_list_tuple;have hz' :(OF++AB').size<=ASn+1:=CL Array.size_append hs2
  wp_walk using (BJp hl Β (hz:=hc1) (_hz' :=hz')),BnM,BnN;exact OS h)
theorem yb5:Vj X "list.extend" zwa:=by
 intro Ο s σ F H l vs E8 xs ds us P Q I hl sF rs ra rv h k;show D' zwa;split at h
 ·obtain⟨v,_,Β,⟨b,zs,Β,hq,rz⟩,Β⟩:=ra;show BU u Β ru ALm rv;show AD ru ru ru ru ru ru ru ru ru ru ru ru ru ru;obtain⟨z,AW,n,r,hle,e⟩:=At9 hl;obtain⟨its2,r2,⟨o,n2,e2,c2,d2,s2⟩,hz2⟩:=AKi;show GB cls dict ABT ALR o;show Bmn;show AD s2 s2 s2 s2 s2 s2 s2 s2 s2 s2 s2 s2 s2 s2;have acu:=r2.length;have l1:=kE rs;have l2:=kE rz;have hsz:D7 (xy+Bsx):=AYa XI XI
  have YW:BQ7 its.toArray.isEmpty (xy+Bsx):=mi (yc0 hsz) Ae4 zJ
  show BG (BIM Bsy (N0 e) PySem.F.entry_list_extend (PySem.F.args_list_extend_2 _ _)
   (zrb l SD n b its2.toArray n2 ALR YW AZz Θ) (CU e e2)) (IF BH (At_ (eP :=AW++its2) hl e A1 (BIN r2) ?_) (k _ _ (Mw rs rz) h.2))
  rw[P9];show AF
 ·show HL
def z1h:TD:=BTK (AI7 _)
theorem YX:∀{xs:AQ} {us:At},BNO ->(∀(i:Δ) (x:V) (u:AJ),Ţ ->FG us u ->å) ->ia
 | [],[],_,_=> Eg
 | [],EF,h,_=>EG
 | EF,[],h,_=>EG
 | WO,u::us,h,k=> .AY (k 0 x u Β Β) (YX (DT h) fun i y w e1 e2=>k Db y w (DT e1) (DT e2))
theorem Nh:∀{AH:t_} {ws:AWu} {i:Δ} {p:κ×AJ},A3V ->FG ws p ->∃v,Ajz (DJ,v)/\HQ v p.2
 | _,_,_,_,Eg,e=>AZu
 | _,_,0,p,iO (a:=q) h _,e=>by
  simp at e;subst e;show ARV h;exact⟨q.2,Aj5 h1,h2⟩
 | _,_,EZ,p,iO _ r,e=>by
  show Ct v e1 e2 (ϲ Nh) r AJg
  exact⟨v,C6 e1,e2⟩
theorem Ph:∀{ks:vn} {vs:AQ} {i:Δ} {k:κ} {v:V},FG AHX (k,v) ->FG ks k/\AQl:=fun{ks vs i k v} e=>by
 rw[List.getElem?_zip_eq_some] at e;exact e
theorem yli(AFs):A7k z1h:=by
 show pV;show D' z1h;split at h
 ·rename_i ks ds';obtain⟨v,_,Β,⟨a,vs,Β,hq,EK,rs⟩,Β⟩:=rs;show Tu;show AD rx rx rx rx rx rx rx rx rx rx rx rx rx rx;obtain⟨hz,hsm,ws,kv,hd⟩:=QV KI A9';show VI ob es ep hd hd;have hm:A4c:=⟨ob,es,hd⟩;have Ni:A9z=NS:=AT_;have hlk:BNP:=Bev
  rw[Ni] at hz;refine BJ2 (AsB W.kdl_dict hsm) To hm hz fun h' tk A2 c NW hg hac=> ?_;have hv:BQO:=by
   refine BFG (BSR hlk.trans (hac.1).kA)
   obtain⟨k,w,e3,e4⟩:=BaH
   show BBj;show BhQ
  have I2:A9p AZ1 ZO:=
   AKW NW Gc (FF AZ1) (BCf ϵ)
  exact IF my I2 Bdu
 ·show HL
#print _3
namespace _3
open KB P4 LL _2
theorem zwf(I:AV)(e:AE')(ho:A3b):È a z_ s:=by
 have ne:s_ AEt (Arn) MY:=Aoo z (by rw[z,e] at q;show LZ;exact n _ Β)
 refine I.un (h' :=A9) (t' :=Mc) ⟨fun _ _ q _ _ _=>q,BZa,Jn b ob q n _,A'n ⟨ob,q⟩,A5N,BXn,Pl ps (C5 #[])⟩ ć
 ·show AJk (by rw[z,e] at n;show AD n n n n n n n n n n n n n n);exact n
 ·rw[bJ (ne b _ q AOW)];exact q
 ·rw[bJ (ne b _ q AOW)];exact q
 ·rw[bJ (ne b _ q AOW)];simpa using q
 ·by_cases hb:b=a
  ·subst hb;rw[gU] at q;show LZ;refine C5 ho;exact(AIP b PU b e)
  ·rw[ub] at q;exact ANs KI q Ay1 (hZ z BiN) fun c xs z=>BiN
def Itw(BFf):It:=BWJ (∃k,Ajz (k,x))
theorem Vz(I:AV)(e:AWg)(LC:Bny):∃ws,A3V/\A4c:=by
 obtain⟨ho,_,_,ws,kv,o',es,ep',h1,h2,h3,h4⟩:=(AIP a z_ a e);rw[ho] at h1;show Acu;obtain⟨es',h5⟩:=LC;rw[h3] at h5;show AD h5 h5 h5 h5 h5 h5 h5 h5 h5 h5 h5 h5 h5 h5;exact⟨ws,kv,o,es,ho,h2,h3,h4⟩
theorem z79(AKm)(BGH):BgY Itw h.IsValIter where
 mem:=DB
 obj:=AF_ (by
  show AFS
  show Axn;exact AmQ)
 KG:=AqO
 SL:=by
  show WU;show On;show AKk;show dy
  show ASS;show ASA;show BFS
  show BCs;refine wpAny_pyNext_values_item st hd hw (iX e_ sb);have I1:AJe:=AZ3;show Ayp;exact⟨u,Β,BVQ v rv ⟨Β,k,hv⟩⟩
 KM:=by
  show WU;show On;show AKk;show dy
  show ASS;show ASA;exact wpAny_pyNext_values_end To st hd (Aet hx) AGI
 PF:=AbU wpAny_pyIter_valiter
def YZ(AQi):TI:=Ay9 (BQS (AVF ->∀o,R (AXm Itw) A3Q))
theorem ycj(he:dq)(JE:AKE:=by rfl)(Mn:mv:=by rfl):
  vi Ag_ (YZ te):=by
 show DO R;refine Arb o4 BO;obtain⟨x,H1,I1,r1,a,AH,ex,ea,q⟩:=BO;subst ex;show AoK;show BFt (.DH ea);refine Beb;show BmT (QV ATl ea);have I2:=zwf I1 ea h1;have vw:A2l (Ayn Bs1):=iq;have I3:QY A3Q (AHQ s1 (Bom Bs0) ATD):=I2.kept Å;show BG (wpAny_pyIter_values vw A0T ?_) ⟨_,[BOj],_,_,_,Β,Avd I3.kept Å,BFX z79,?_,NF,q hz o⟩
 show A3K iq
 ·show GU (b=BOj) ACX
  exact I3.fpOk Gc (I3.hok.fresh Gc)
section
variable{K:AA}{F0 H0 F H:Hp}{σ:St}{Γ:AEf}
theorem SR.chg(R:IJ)(h2:AEx)(h3:ï)(ap:AFX):y_ F AQ4:=by
 refine⟨⟨R.gr.f,ć,ć,cc q (R.gr.n b o q n)⟩,AG1,BTF,R.ap⟩
 ·show sK q h2;exact AQU q
 ·show sK q h3;exact Aeu b u q
 ·show ie p1 p2 (XN j s' q);refine⟨o,p1,U7 p2 GH BZf⟩;have:MY:=Au (Az6 (ap j BgQ))
  rw[bJ Τ];exact q'
#where
theorem ye0(Bl2):A5t Itw xs:=by
 show AnJ;have hlz:AHV A9z:=BCc
 refine AMm (AKw (Ps ⟨ARq,Υ⟩))
 show AbQ hd;have hi:i<KO:=OT hv;refine ë ARq Υ ARb
 show F6 Β k z z;show AnL (Ph z).2 hv ⟨F2,ef s3,ATs s2⟩
def z18(tn:pY):c7:=Apj (UV t AbE (P (jg ts) Ω))
section
variable{X:Cx}{F0 H0:Hp}{e tg:AK}{LS HC:AN}{tn:pY}
open x_ in
theorem ybe(he:AAm)(JE:AKE:=by rfl)(Mn:mv:=by rfl):
  QI X F0 H0 tg Ag_ (z18 tn):=Bgf ycj (AxO (AOZ (fun t Ω F1 H1 v as R1 s1 nd hn r h1=>by
  show AJS
  ·rename_i ks ts;show AAz;refine⟨a,_,Β,ea,Cb hz o⟩;have nab:a∉bs:=ADM;have sF:ACa (A4H ADY (gE (b∈bs) H1 (F1 b))):=Sr (by
    show ASM ADY H1 (F1 b);show ZN (FI (Ap7 BMi)) BcJ
    exact e)
   have R2:=Bh9 R1.chg (.frz o ACi) sF (MX) (fun b u e n=> ?_)
   ·refine k _ Ω _ _ _ R2 Ak9 (ye0 ?_ EK (AL1 sF ts vs bs (fun c hc u hu=> ?_) r) hz) h1
    ·show Û
    ·rw[APb UA (¬c=a) (Ž nab hc),DZ hc];exact hu
   ·have e' :ASM ADY H1 (F1 b):=e;by_cases hb:b=a
    ·subst hb;rw[ET] at e';rw[gU];exact e'
    ·rw[AIh] at e';rw[bJ hb];split at e'
     ·exact e'
     ·exact LU b u e'
   ·have e' :ASM ADY H1 (F1 b):=e;show Anx
    ·subst hb;exact(hn b zY).2
    ·rw[AIh] at e';show BgT e' e' e' e' e' e' e' e' e' e' e' e'
  ·exact h1.elim)))
#where
theorem JQ{K:AA}{F:Hp}{k:Key}{v:V}(h:EJ K F Ahc v):v=kV k:=by
 cases k with
 | DH i=>exact h
 | BD x=>exact h
theorem zt4(h:iA)(k:Key):(jF AHX k).Į=Anm:=by
 unfold jF lB;rw[AuB];induction ks generalizing vs with
 | D8=>rfl
 | AY k' ks ih=>
  cases vs with
  | D8=>show Pw
  | AY v vs=>
   rw[AGz,At',ALx];by_cases q:k' =k
   ·simp [q]
   ·simp only [q,BJ4,BrS];exact ih (DT h)
theorem yca{ks:GE}{vs:AQ}{k:Key}{v:V}{q:Δ}(nd:Au5)(h1:A_Y)(h2:ACc vs v):Bil:=by
 unfold jF;induction ks generalizing vs q with
 | D8=>simp at h1
 | AY k' ks ih=>
  cases vs with
  | D8=>simp at h2
  | AY u vs=>
   show BNg;cases q with
   | UN=>
    have e1:k' =k:=C6 h1
    have e2:u=v:=C6 h2
    simp [e1,e2]
   | UO q=>
    have hm:AnT:=yX (DT h1)
    have ne:k' ≠k:=Al4 hm;simp only [ne,BJ4];exact ih ARv AJh APt
def Y0(i:Δ)(tk:cD):TT2:=cK tk kd (∃k as ks ts,kd=jX k/\A4T/\HZ (! Anm))
def Y4(i j:Δ)(tn:pY):aF:=A_j (∃k as ks ts,A6b A7i A4T (lB ks k=AE) (∀cs,AQ3 (ADN A6X (ks++ [k]) AyH)))
def Y5(i j l:Δ)(tv:cD):aF:=A4t (∃k k2 as ks ts q RT xs,A7i/\IS Ω l (.pu (jX k2))/\A4T/\Au5/\A_Y/\
 ACc ts (.dic RT AZF)/\Ũ RT.length/\AQ3 (ADN as ks BgC))
section
variable{X:Cx}{F0 H0:Hp}{ke FE:AK}{Ψ ABx BZ Pj KL qo:AN}{x y w:Κ}{i j l:Δ}{tk tv:cD}{tn:pY}
theorem yom(hu:im)(hk:EW ke tk)(hN:IG)(hv:OY)(hd:HH:=by decide)(hcd:AHh:=by decide)
  (hb:BHZ AJP NC=AE:=by show AgB):
  Ù (.AtN ke [AJP] [.kK x ABx] Ψ) (Y0 i tk):=fun z E cx=>
 Vb (A1N (Da zx7 hu A0n ja) hb) (NI BO BO (b_ (fun kd Ω F1 H1 v R1 s1 rk Bz=>by
  obtain⟨kk,as,ks,ts,e1,e2,h1⟩:=Bz;subst e1;have ev:=JQ rk;subst ev;show BAY;show AAz;refine⟨CF,e3,a,_,Β,Bcg,_,Β,?_⟩;rw[zt4 EK];exact A'7 h1)))
theorem ym9(hu:im)(hN:IG)(hv:OY)(Y6:AKb)(hv2:Aog)(hval:BTn)(hs:AaT NC Aik:=by rfl)
  (AiI) (hd2:ã y:=by decide) (En:AN9 y:=by decide):
  AXe (ANo NC Aik) (Y4 i j tn):=fun z E cx=>
 sU (Aam zua ja A8' hval hs) (AWJ Ef Ef (b_ (fun t Ω F1 H1 v cs R1 s1 ndc hnc rt Ar=>by
  obtain⟨kk,as,ks,ts,e1,e2,hh,hl,q⟩:=Ar;show BAY;show BYf;have ev:=JQ rk;subst ev;show AAz;refine⟨CF,e3,kV kk,e4,a,_,Β,BeI,?_⟩
  have A5:AQI BWZ:=E4 ⟨_,_,e2,e3,hb⟩;have dis:AQI (b∉cs):=Bd9;have nab:a∉bs:=ADM;rw[YL EK];unfold jQ ig;show ZN Ams Ams
  refine Po (AfW e2 e3 (E_ (gV BOg YV a) zY) (t:= .tr (š++cs) (.dic ANZ AyH)) ⟨_,Β,?_,NF,?_⟩ NF) s1 (q cs)
  show BLC (BRV nd (e ▸ hy))
  ·show Bd2 AQG
  ·refine⟨a,vs++ [v],ApA,Β,Β,gU,A1P,?_⟩
   have m:=Abd UM BRx GH ts vs bs (AyU (Ž nab hb)) r
   have l:=Abd ABm BRx GH t v cs BeD rt
   exact RK m (RL l)
  ·show BWg)))
theorem ymm(hu:im)(hN:IG)(hv:OY)(Y6:AKb)(hv2:Aog)(hN3:BVq)(hv3:BTN)(hval:A9w)
  (hs:AaT Ba4 (IA w Pj):=by rfl)
  (BFk)
  (hd3:ã w:=by decide) (RV:AN9 w:=by decide) (hns:Mv Aik:=by exact AJv):
  AXe (ANo Ba4 (IA w Pj)) (Y5 i j l tv):=fun z E cx=>
 sU (Aam zua (Da z6e hu ja A8' hns) (Bfa hN3) hval hs) (Amv Ip Ip Rb (by
  obtain⟨kk,k2,as,ks,ts,q,RT,xs,e1,e1',e2,ndk,hq,ht,hl,hnx⟩:=Rb;show BAY;show BYf;obtain⟨o3,e5,w3,Β,rk2⟩:=R1.sl l _ e1';have ev:=JQ rk;subst ev;have ev:=JQ rk2;subst ev;show AAz;obtain⟨u,b1,bs',b2,hu',hbs,rc,back⟩:=A_B;subst hbs;obtain⟨c,us,ds,Β,Β,ec,RW,rc⟩:=rc;show AqG rc;have nab:a∉ANM [c]:=ADM;have RX:=ARv;have hac:a≠c:=BRo
  have hc1:BSE:=AO1 (by
   subst z;have p:=AT' RX;rcases ADV with hb | hb
   ·exact p.2.2 b hb b A1 Β
   ·have:=Afv p.2.1;exact Τ hb)
  have gd:sO H1 a (kV kk) (D9 (BY c)):=ACf Bcg BER
  refine⟨CF,e3,kV kk,e4,a,Ajn,Β,gd,kV k2,e5,c,_,Β,Bt.k (k:=k2) ec (by show AWR RW;exact hl),?_⟩
  rw[YL RW];refine Po (AfW e2 e3 (E_ (gV BOh YV c) A6i) (t:= .tr Axx (.dic ks BgC)) ⟨_,Β,nd,hn,?_⟩ AP2) s1 hnx
  show BG (BYO (MS hac ea)) (back GH (Õ (MS (hc1 b hb) q)) ?_)
  exact BYh RW))
#where
abbrev RZ:=T ->AR ->D1 (D1 T D) (D1 T XV)
def jR(as:CH)(H:Hp):Hp:=ir (AhQ (b∈as) (H b))
theorem ya7:ā (jR as H):=Sr (by
 show ZY jR;split at e
 ·show AJN
 ·exact e)
theorem zt3(h:b∈as):jR as H b=Η:=by unfold jR;show DU h
theorem z8k(h:b∉as):jR as H b=H b:=AY9 jR h
theorem TR.root(Ĕ):∀{t:T} {v:V} {a:Ζ} {cs:CH},Aq5 AV_ ->Ý
 | .QP _,_,_,_,h=>Bmk
 | og,_,_,_,h=>BFK
 | ă,_,_,_,h=>BFK
 | Ċ,_,_,_,h=>BFK
 | .ob _ _ _,_,_,_,h=>by obtain⟨b,_,_,_,Β,e,_⟩:=h;cases (e);rfl
 | Ϸ,_,_,_,h=>Bmk
inductive JR (AsL RZ):Ι
 | mk:∀F a bs t ds HM P Ex,(vs=V.ref a::HM) ->BC AIy (A2r) ((U1 š Š)) (TR K F H t ED sC) (Hb BoH (sp t ds P Ex) ((∀t' d v cs F' H',WC (Apq AKc) (AV_).OC BSV BXe nK (P t' d) ϋ)) (∀x C dx t' cs F' H',WC (Apq AKc) (AV_).OC BSV BXe (BTS AKc) (Ex t' x) AcY) (AVz JR))
def Gn(K:AA)(sp:RZ):Sp:=An4 JR
def AUA(n:Δ)(s:ER)(ds:AR):G2:=s::(ALC .pu++AX' (n - 1 - OI) B8)
theorem ya2{K:AA}{F0 H:Hp}{N:Ρ}{a:Ζ}{bs:CH}{t:T}{ds:AR}{vs:AQ}(h:ā F0)(nd:A2r)(hn:AQI (SV F0))(rt:TR K F0 H t ED sC)(r:BZY):
  SR K F0 AKc F0 H (AG4 N (CF::vs)) A8u:=by
 have hl:=kE r;have LN:∀(i:Δ) s,FG A8u s ->∃o,FG (AG4 N (V.ref a::vs)) o/\pP K F0 H AKc s o/\ (i≠0 ->∀o c,¬gV s o c):=fun i s e=>by
  show ZY AUA;unfold AG4;cases i with
  | UN=>show Do;exact⟨_,Β,⟨_,Β,nd,ſ AQG (zt3 hb),rt⟩,Au A_M⟩
  | UO i=>
   simp only [LW] at e;simp only [GL,KP,LW];show A6o
   ·rw[AFW,FS] at e
    cases q:ds[i]? with
    | Η=>rw[q] at e;show Do
    | Ε d=>
     rw[q] at e;show Do;show Ct v e1 r1 yN r q;refine⟨AIi,?_,AJ0 r1,AKY _ z z⟩;rw[ATO (A5P hi),FS,e1];rfl
   ·show AmY AFV
    show BhU ⟨Η,?_,IP,AKY _ z z⟩ (by simp only [C8,H_];show AF)
 refine⟨AEQ h ya7,by simp [AG4,AUA,hl];show AF,li i s,fun i j c ⟨s,o,e,_,hs⟩ ⟨s',o',e',_,hs'⟩=> ?_⟩
 ·show AWY h1 h2 (LN i s e);exact Ane
 ·by_cases hi:i=0
  ·by_cases hj:j=0
   ·rw[hi,hj]
   ·show Azx h3 (LN j s' e') (h3 hj _ _ hs').UC
  ·show Azx h3 (LN i s e) (h3 hi _ _ hs).UC
abbrev R9(a:Ζ)(Q:D1 T D):rB:={nx:=fun Γ=>(BEb (Q t' BH)),rt:=tj,rm:=fun d Γ=>(BEb (Q t' d))}
abbrev Sd(a:Ζ)(Ex:D1 T XV):XW:=fun Γ C=>(BEb (Ex t' C))
section
variable{P:A0}{w:An}{K:AA}{mg:EN}{C3:AM}
theorem abR{x E2 p0:Κ}(Acq RZ)(Fn:A3 x E2 st)(S:AKa (p0::ps))(len:∀t ds Q E,sp t ds Q E ->Blq)
  (xw:AKy (∀F0 H0:Hp,
   ∃tt,pR lT F0 H0 m_ tt/\∀a bs t ds Q Ex,sp t ds Q Ex ->tt (R9 a Q) A8u A_P)):
  U2 gK X0 LY f fd (p0::ps) (Gn K sp):=by
 show AFt;refine QK lk hcd S (fun vs H Q E hh=>by
  obtain⟨F,a,bs,t,ds,HM,P',Ex,ev,_,_,_,_,rs,hs,_⟩:=hh;show BBl ev (len _ _ _ _ hs)) (AKx E hr hh)
 obtain⟨F0,a,bs,t,ds,HM,Pd,Ex,ev,sF,nd,hn,rt,rs,hsp,hQ,hE⟩:=hh;subst ev;obtain⟨tt,ht,hq⟩:=xw cdv A DD s H E hr F0 AKc;have cx:Ctx BmW F0 AKc A_P:=by
  refine⟨fun Ο σ Γ F H1 s1 e s' I R hx=> ?_,AKV⟩;refine AKz;obtain⟨B4,F',x,R',_,xr,_,⟨cs,t',e0,z1⟩⟩:=z;obtain⟨o,e1,v,Β,nd',hn',Pk⟩:=A'4;have hv:=Pk.root;subst hv;exact hE x C dx t' cs F' H' R'.gr nd' hn' Pk BmN z1
 refine⟨_,ht _ _ cx,F0,AUA ALt AxM ds,R9 a Pd,ya2 sF nd hn rt rs,hq a bs t ds Pd Ex hsp,⟨fun Γ F' H' σ R' _ Be1=> ?_,đ,đ,AsC SO,vT,fun _ _ _ _ _ _ _ _ _ q=>SO,fun d v Γ F' H' σ R' rv Be1=> ?_⟩⟩
 ·obtain⟨o,e1,v,Β,nd',hn',Pk⟩:=A'4;have hv:=Pk.root;subst hv;exact hQ t' BH BH cs F' H' R'.gr nd' hn' Pk JS q
 ·obtain⟨o,e1,u,Β,nd',hn',Pk⟩:=A'4;have hv:=Pk.root;subst hv;exact hQ t' d v cs F' H' R'.gr nd' hn' Pk rv q
#where
def tu(h:AM)(d:Ζ)(es:AY1)(ep:Δ):Ι:=∃o,AFI d/\BHJ/\pj= AhK
theorem tu.at(x:AmK)(k:∀o,AFI d ->ADK d):AgH h':=let ⟨o,e,r⟩:=x;⟨o,k o e,r⟩
theorem tu.lt(x:AmK):AX6 d:=let ⟨_,e,_⟩:=x;zG e
theorem tu.typeIs{s:AC}{d:Ζ}{es:AY1}{ep:Δ}(x:AaI):AOx d xo :=let ⟨o,e,c,_⟩:=x;ANV c.1
section
variable{CY:A0}{w:An}{A:Bi}{E:dW}{s:AC}{d it:Ζ}{es:AY1}{ep i:Δ}
theorem yes(wp)(hd:Avk d)(hm:AaI)
  (hQ:Aaj (cq BJ5 #[.B9 d,AEJ,ť FU,ť ep])):Alm d:=by
 show VI o ho hc hdat hm;have hT:=BJ6;refine BBT Bs2 Bs2 PySem.F.entry_dict_iter PySem.F.args_dict_iter_1;unfold Builtin.«dict.__iter__»;refine Y_;refine gi wpAny_notOrdered_dict hT;show Tm ADz (AXh (Bs3 d));unfold Bs3;show A7 (AY3 hd)
 refine AIX;show BG (fw Bs4 ho hdat) (fw Bs5 ho hdat);refine z6 (pv (z7 ⟨_,Β,BJ5,_,AWj,PySem.F.slot_dict_keyiterator_next.lookup,?_⟩))
 simpa [aw] using hQ
theorem yfh(hit:BWi)(hm:AaI)(A_:AwZ)
  (hQ:ADZ (AzI h'.IsKeyIter Db) (A8H it) (Q (Ε es[i].A6) Sk)):AKB it:=by
 show VI o ho hc hd hit;show VI od hod hcd hdd hm;refine AkR (APD AUB Au6
  (ANk Au6 AUB Bs6 Bs7))
 show Blu (AMC A_);show BG AzF (gi wpAny_isOneOf_keyiter AUB);show Ă (AXh (Ai_ ANe 1 (MU+1))) Bbm
 have e_ :AzI (s.heap.update it (Obj.mapFields (·.setIfInBounds 1 (rawInt ((i:Int)+1))))).IsKeyIter Db:=
  BBc
 show BG (lP ABc) (z6 (wpAny_isOneOf_keyiter (s:={s with heap:=s.heap.update it (Obj.mapFields (·.setIfInBounds 1 (rawInt ((i:Int)+1))))}) hit'.typeIs ?_));exact z7 (z7 (OS (z7 (hQ _ e_ AyB))))
theorem yk4(hh:P3)(hit:BWi)(hm:AaI)(hge:FU<=i)
  (hQ:Am_ Bep):AKB it:=by
 show VI o ho hc hd hit;show VI od hod hcd hdd hm;refine AkR (APD AUB Au6
  (ANk Au6 AUB Bs6 Bs7))
 show Blu (Azk hge);show Tm AzF (AXh (Aex ANe 0 BM));show BG Bbm Y_;show BG A8J BEm
 show BG A8W A1z;rw[show Akg from hh];refine BTX;refine fw BEn AWj BJM;exact z7 (hQ _ (BgV _))
theorem yay(hh:P3)(I d:Ζ)(hne:d≠I)(es:AY1)(ep:Δ):
  Walks CY w A I [I,d] [I] FU AzV (U' h (h.IsKeyIter I d i FU ep/\AmK)) where
 B_:=BZe
 frame:=AIz st hk (A9f BcM (hk d A1 o e))
 SL:=Bkj (yfh nX mh hi fun h' e_ hs' =>hQ _ h' Mc (AHg hi) (A9f e_ (hs'.extBut d o hne e)) (BWB hs'.extBut))
 KM:=fun s Q E st hQ=>yk4 hh nX mh Gc fun h' he' =>hQ h' Mc (BWB he')
 PF:=ASJ st hQ (Bs8 nX hQ)
theorem z02{Q:PZ At}(hh:P3)(hsm:Avk d)(hm:AaI)(hb:A0Y)
  (h:∀(IQ:At) (h' :AM) tk,IQ=Auo (·.key) ->BQ' ->(Aos) ->Q IQ ZO):
  AMg AfQ d:=by
 have K:W.KdlSrc CY w xo d d FU AzV (TK AmK):={
  type:=YI hm BJ6
  ASq:=YI hm ⟨hm.lt,hm.lt⟩
  KG:=AKY hm hk (ANt hm.at (hk d YR o e))
  notList:=B'
  notTuple:=B'
  hint:=ASJ hm hq (W.kdl_hint_dict BJ6 hq)
  OG:=AKY hh hm ⟨_,_,(fun _ _ hq=>yes hsm hm hq),yay hh _ d (zK hm.lt) es ep,⟨iq,ANt hm.at zn⟩⟩}
 have A6:BP9 "proto.collect" (GY [.B9 d]) (ANJ BmS):=by
  refine AWh BsM;rw[AI8 BsN];refine BaD;refine AbM Auy BNH;rw[AI8 Auy];have hm1:AgH (ALd lA):=ANt hm.at zn;have hSl:=hm.lt;have hS:ADR (ϧ lA) lA:=Si;exact W.kdl_extend (s:=AVn lA) (R:=fun r s' =>BmS) K hh hm1 Cl (AEe hSl) (AEe hSl) ADh 0 hS (fun h' tk A2 c' NW hS' ľ=>⟨h',tk,A2,c',Β,Β,NW,hS',ľ⟩) hb
 refine BXF (AL0 A6 (AVe BO));obtain⟨h',tk,A2,c',er,es',NW,hS',ľ⟩:=BO;subst er es';refine Bbg;show BG AJ4 (h Auz h' tk ?_ (zG hS') (AMP ob (NW b ob AbY gu)));show oC
 ·rw[pr,C8,pr];exact AX4
 ·intro j q1 q2;have hj:j<AfR:=C6 q1
  show FC A_ e ľ.2 j A2[j] (LG hj)
  simp [e]
#where
def wG:Ρ ->ID ->Κ ->M1 T
 | pE,R_,g=>Abq (Ε t) (wG fs ts g)
 | _,_,_=>Η
def wH :BC Ρ ID Κ T ID
 | pE,R_,g,t' =>Abq (t' ::ts) (t::wH fs ts g t')
 | _,ts,_,_=>ts
theorem zpg(Ĕ){g:Κ}{t:T}:∀{fs:Ρ} {ts:ID} {vs:AQ} {bs:CH},BXv ->wG fs ts g=Ε t ->∃v b1 cs b2,Aa3 g=Ε v/\bs=Aiq/\Aq5 cs/\
  BGE ds BSZ ds (Ah7 (wH fs ts g t') (ANQ ds))
 | [],_,_,_,_,e=>Acv
 | EF,[],_,_,_,e=>Acv
 | pE,t0::ts,_,_,h,e=>by
  show BF_;show ZY wG;show A6S;by_cases hg:g=f
  ·rw[DZ hg] at e;show Do;subst hg;refine⟨v,[],a1,a2,DB,Β,q1,BWR⟩
   unfold wH;show Û;exact⟨v,vs',ds,a2,Β,Β,r,UM s ts vs' a2 (l5 (k a ha)) q2⟩
  ·rw[Cc hg] at e;obtain⟨w,b1,cs,b2,g1,Β,g3,g4⟩:=zpg q2 e;refine⟨w,a1++b1,cs,b2,BMc hg g1,DB,g3,BWR⟩
   unfold wH;show A7 hg;exact⟨v,vs',a1,ANM ds,Β,DB,ABm s t0 v a1 BNc q1,g4 s BjA r⟩
section
variable{X:Cx}{F0 H0:Hp}{ke FE e:AK}{es:C7}{Ψ ABx Sg LS HC KL x1:AN}{x f:Κ}{C:Ζ}{i:Δ}{tk tv:cD}{tf:c7}
theorem ykq(Ĕ){σ:St}{Γ:G2}{as:CH}{fs:Ρ}{ts:ID}{t:T}(R:IJ)(e0:Ì AzA)(hl:Ayt t):
  ∃a dx vs v bs b1 cs b2,Alu/\as=AYx/\Nl A2i/\ Aa3 f=Ε v/\bs=Aiq/\qc/\ Aon/\Aq5 cs/\
  BGE ds (∀c∈a::dx::(b1++b2),∀u,Sl c u ->H' c=Ε u) ds (AIZ (.ob C fs (wH fs ts f t')) ED (a::dx::(ANQ ds))):=by
 obtain⟨o,e1,v,Β,nd,hn,r⟩:=AIK;obtain⟨a,dx,vs,bs,Β,Β,ea,ed,Nj,Y7,r⟩:=r;obtain⟨v,b1,cs,b2,g1,g2,g3,g4⟩:=zpg r hl;refine⟨a,dx,vs,v,bs,b1,cs,b2,e1,Β,ea,g1,g2,nd,hn,g3,fun{F' H' t' ds} s k rt=> ?_⟩;exact⟨a,dx,vs,_,Β,Β,k a A1 _ ea,k dx A1 _ ed,Nj,Y7,g4 s (hZ hc (k c (by simp at hc⊢;exact C_ (FV hc)))) rt⟩
#where
theorem zvg:l_ fs Ρ vs AQ AQY (f∉fs) (pN f y (ATf vs)=(AVT).zip (vs++ [y]))
 | [],[],_,_=>Β
 | [],EF,h,_=>EG
 | EF,[],h,_=>EG
 | g::fs,AQn,h,hf=>by
  have hg:g≠f:=Lv (hf (LG e))
  rw[AGz];unfold pN;rw[Cc hg,zvg (DT h) (Lv (BLu hf e))]
  rfl
def Ca(C:Ζ)(i:Δ)(f:Κ)(te:cD):aF:=AnI (BhJ (ARk tr as BOH))
def Az(C:Ζ)(i:Δ)(f:Κ)(tn:pY):aF:=A_j (BhJ (∀cs,ARk tr A6X BOG))
section
variable{X:Cx}{F0 H0:Hp}{FE e:AK}{es:C7}{Ψ ABx KL p:AN}{x f:Κ}{C fa:Ζ}{fd:GA}{ps:Ρ}{i k:Δ}{te:cD}{tn:pY}{sp:RZ}{t:c7}
theorem zu6(hc:Ϧ)(hn:hG)(he:BTn)(hN:IG)(hv:OY)(hd:HH:=by decide)(hcd:AHh:=by decide)
  (hs:AjH NC:=by rfl):Bbf Az tn:=AXM sU z9b ja Mb hs (AWJ Bz Bz (b_ (fun t Ω F1 H1 v cs R1 s1 ndc hnc rt Ef=>by
  obtain⟨as,fs,ts,e0,hf,hl,Y7,q⟩:=Ef;obtain⟨o,e1,w,Β,nd,hn',r⟩:=AaQ;obtain⟨a,dx,vs,bs,Β,Β,ea,ed,Nj,_,r⟩:=r;refine BmR
  have A5:MM AYx BWZ:=E4 ⟨_,_,e0,e1,hb⟩;have dis:MM AYx (b∉cs):=Bd9;show A8V;show BEJ;rw[zvg Nj hf];refine Po (BeS (t:= .tr (AYx++cs) BOG) ⟨_,Β,?_,NF,?_⟩ NF) s1 (q cs)
  show BLC (BRV (BM1 n1 (BM1 n2 n3)) (e ▸ hy))
  ·show Bd2 (hn' b hb)
  ·have na:MH (b∈bs) MY:=BXm;refine⟨a,dx,vs++ [v],ApA,Β,Β,gU,?_,DL Nj,Y7,?_⟩
   ·show AJk (n1 (LG z));exact ed
   ·have m:=Abd UM Apy GH ts vs bs BPs r
    have l:=Abd ABm Apy GH t v cs BeD rt
    exact RK m (RL l)
  ·show BWg)))
theorem zvv(hc:Ϧ)(hn:hG)(he:AUZ FE)(hN:IG)(hv:OY)(hd:HH:=by decide)(hcd:AHh:=by decide)
  (hs:AjH NC:=by rfl):Bbf Ca te:=AXM sU z9b ja Mb hs (Amv Ar Ar Ip (by
  obtain⟨as,fs,ts,e0,hf,hl,Y7,q⟩:=Ip;obtain⟨o,e1,w,Β,nd,hn',r⟩:=AaQ;obtain⟨a,dx,vs,bs,Β,Β,ea,ed,Nj,_,r⟩:=r;refine BmR
  have nd0:=nd;show A8V;show BEJ;rw[zvg Nj hf];refine Po (BeS (t:= .tr (a::dx::bs) BOH) ⟨_,Β,nd0,hn',?_⟩ AP2) s1 q;have na:MH (b∈bs) MY:=BXm;refine⟨a,dx,vs++ [v],bs,Β,Β,gU,?_,DL Nj,Y7,?_⟩
  ·show AJk (n1 (LG z));exact ed
  ·have m:=Abd UM Apy GH ts vs bs BPs r
   have l:fu AG F1 (k_ a Apy) [RR] [v] []:=RL (B0 (Ic rd))
   have:=RK m l
   rwa [UK] at Τ))
def JT(C:Ζ)(sp:RZ)(t:c7):pY:=Z' Bja
structure Sh (BGL) (C3:AM) (x:Κ) (C:Ζ) (k:Δ) (ps:Ρ) (sp:RZ):Ι where
 ex:∃f fd,AWr Gn/\Mk K C f/\AyO/\ADe
 non:∀ds Q Ex,AzN Q Ex ->AzN (fun t d=>d= BH/\Q t d) Ex
theorem yjv(G:Sh HR X.w AG pk SH x C k ps sp)(hr:AKX)(hg:J_)
  (ha:TZ) (hdb:HH:=by decide) (uB):
  ADy nE (JT C sp t):=by
 show AcJ Fn M hm hb;show AFv;refine AcK;refine ATo (h₀:=SH) ATp M.kp (lc (AjO Bja) us Ei) he EI;obtain⟨vs,H1,I1,r,F1,Ω,ds,R1,sF,rs,q⟩:=Ei;refine AYm;have I2:=BW0 I1;show FL n1 (Ë cS) Amu n2 Als Amt ne BQ9 Aps kp Bd_ AY';show FL sH (L9 H1 APK) (A_F n1 n2) hid (jR BRa APK=H1) (by
  funext b
  by_cases hb1:b=sQ
  ·subst hb1;rw[zt3 A1,n1]
  ·by_cases hb2:b=E3
   ·subst hb2;rw[zt3 A1,n2]
   ·rw[z8k (by simp [hb1,hb2]),bJ hb1,Ak0]) hs (Gn AG sp BUH APK BQR (A_z (∃B4 F' x,A8l /\AZg /\BEa/\ (x.bare=x\/MH AYu (AHb B4 b))/\E B4 x))) (by
  refine⟨F1,sQ,[E3],.ob C [] [],ds,vs,_,_,Β,A4d,DL ne.symm,NF,?_,rs,G.non _ _ _ q,?_,?_⟩
  ·have:AYu:=by
    rcases WJ with Β | hb
    ·exact n1
    ·show AEI;exact n2
   exact R1.g.free Τ
  ·exact⟨_,_,[],[],Β,Β,gU,A4m,Β,Β,A0K⟩
  ·rintro t' d v cs F' H' gr nd hn rt rv ⟨ed,hp⟩;rw[hid] at gr hn;subst ed;exact⟨rv,kk t' Ω F' H' _ _ AIa AhA nd (MO (Axg Ϥ Đ Đ)) rt hp⟩
  ·intro x C' O9 t' cs F' H' gr nd hn rt xr hE;rw[hid] at gr xr;exact⟨Ω,F',x,ATn gr,L_,xr,A1I R1.apart,hE⟩) hl (ANp AQq) (by
  have e:=AV8 hs;rw[H_,<- SK,<- H_ (a:=AyD),e])
 have hbs:=hb BbR AQq AfD AoO
 show AGB;refine Blz;refine AL0 (AuS _ O_ _ _ (GY (Av9::us)) AQq _ _ _ Am5 A4b hbs BWh hs) (AVe hq');cases r with
 | kT e=>
  refine cx.pX Ο σ Ω F1 H1 s1 e s' I1 R1 (BCd ?_);have u1:A6n AgG Ayx:=BcY;have u2:BgO:=BQZ (by rw[bJ ne.symm];exact n1)
  exact Aum u2
 | ok Yw =>
  cases Yw with
  | ret u=>
   obtain⟨v,H',I3,rv,ev,q3⟩:=BQv;subst ev;exact⟨rv,BXt⟩
  | Kx=>show ϱ
  | brk=>show ϱ
  | OE=>show ϱ
#where
def Eo(BeR dM):cD:=Ŷ (AAa (C' =C/\AFT/\A8w))
section
variable{X:Cx}{F0 H0:Hp}{o:AK}{Ψ LS:AN}{m:Κ}{C:Ζ}{ps:Ρ}{k:Δ}{sp:dM}{te:cD}
theorem z2p(G:Aqx DN)(hc:Ϧ)(hr:Ÿ)(ho:AQW)
  (ht:AJo Aph (do
   let ov<- XZ o
   AFf
   let (f,first)<- AGH ĸ ov m pl
   AGO (ŗ []) AKO):=by rfl):
  EW Aph (Eo C m sp te):=by
 show ApC fa Fn hm hb;show AFv;refine BDw (AAa (C' =C/\AFT/\A8w)) A_m Ei
 obtain⟨x,H1,I1,rx,F1,Ω,d,R1,sF,rd,q⟩:=Ei;cases d with
 | obj C' fs ds=>
  show AoQ q q;show Arf (Ar7 I1 A7b) (Bs_ (first:= NG) Ļ hm.kp ?_);exact Rh (us:= NG) (vs:= NG) Fn hr hb cx I1 R1 A5e (uc Rz JS) q BDz
 | _=>show tz
#where
def AUC(AQe):Ρ:=x.cps.toList.map fun c=>AaR
def Itx(AQe):It:=⟨fun i _=>BKl,fun i H v H' =>H' =H/\∃c,FG x.cps c/\v= .AX AaR,fun i _=>BLJ⟩
theorem z2c(AKm)(wide:AT)(it:Ζ)(x:Κ)(t:Tok):APA (Itx x) (i<=Au7/\h.IsStrIter it (CD wide "str_iterator" "str_ascii_iterator") x t i) where
 mem:=DB
 obj:=AF_ (by
  show AFS
  obtain⟨_,o,e,c,d⟩:=st;exact AmQ)
 KG:=AWP ⟨nX,BnI mh (AhC ho)⟩
 SL:=by
  show WU;show On;show dy
  have hx:BKl:=hg;cases wide with
  | Μ=>
   show Bl_ wpAny_pyNext_wide_item
  | AE=>
   show Bl_ wpAny_pyNext_ascii_item
 KM:=by
  show WU;show On;show dy
  have hx:BLJ:=hg;cases wide with
  | Μ=>exact wpAny_pyNext_wide_end To mh Ax0 AGI
  | AE=>exact wpAny_pyNext_ascii_end To mh Ax0 AGI
 PF:=Agt (by
  cases wide with
  | Μ=>exact wpAny_pyIter_striter_wide mh h
  | AE=>exact wpAny_pyIter_striter_ascii mh h)
def abS(AQi):TI:=Ay9 (∃x,v= oq/\R (Itx x) H1)
theorem yoa{X:Cx}{e tg:AK}{te:TE}(he:dq):vi e (abS te):=by
 show DO R;refine Aaz o4 BO;obtain⟨y,H1,I1,r1,x,ey,q⟩:=BO;subst ey;show PY r1;cases ha:x.cps.all (· <128) with
 | AE=>
  refine wpAny_pyIter_wide ha (APM (z2c Μ _ x t) BZq q);show APE
 | Μ=>
  refine wpAny_pyIter_ascii ha (APM (z2c AE _ x t) BZq q);show APE
def ynr(jS):c7:=AZ0 oq (D7 BJ7/\P (C4 AUC x .AX) Ω)
section
variable{X:Cx}{F0 H0:Hp}{e tg:AK}{te:cD}
theorem yop(he:Rc):A8L ynr:=Ak' (Da yoa) Mb (AxO (AOZ (fun d Ω F1 H1 v R1 s1 r1 h1=>by
  show AJS
  ·rename_i x;refine⟨x,r1,k _ Ω F1 H1 _ R1 s1 (AJV (AKw (II e))) Ϝ⟩
   ·unfold AUC;show BNt;exact n9
   ·rw[e];unfold AUC;show BNt;exact zN _
   ·unfold AUC at hd;show AjZ FS AfI hd;cases q:x.cps[i]? with
    | Η=>show Lc q hd hd hd hd hd hd hd hd hd hd hd hd hd hd hd
    | Ε c=>
     rw[q] at hd;show ASX;have hi:i<Au7:=AYj q;refine⟨hi,ARb⟩;show GB Β c' q' Β z;rw[q] at q';show BGU;exact⟨F2,ef s3,OU⟩
  ·exact h1.elim)))
#where
theorem zv8:AjC "proto.unchain" Builtin.«proto.unchain»:=entryFor_of_fast (by kernel_rfl)
section
variable{CY:A0}{w:An}{A:Bi}{E:dW}{s:AC}
theorem zw3(hh:A9a)(ho:A3b)(hd:AmL)(h2:AWz)(ne:a≠e)(he:PD e=Ε oe)(hde:Aev= ACU ws)(hz:2<ws.size)
  (h:Ai3 (cE (AGw e (Obj.mapFields (·.setIfInBounds 2 (.ref a)))))):AMg (Auv (α:=α)) e:=by
 simp only [Auv];refine A1z;rw[hh];have hne:(ANA !=T' e)=Μ:=DL ne
 simp only [hne,xx];refine AI5 (BJZ (Aus zv8 ?_));unfold Builtin.«proto.unchain»;refine Bnc ho h2;show DU Φ
 refine ADz;refine z6 (z6 (BHj he ?_));rw[hde];refine(?_:AVX (AOO (2<ws.size)));show DU hz;exact wpAny_update he (BJE h)
#where
def Pn(i:Δ)(t:pY):aF:=cy D t tr ((BfM tr tr)/\∀a bs,ARk tr sC tr)
theorem TR.cons(Ĕ):∀{t:T} {v:V} {as:CH},AIe ->(BfM t t) ->∃a bs,as=š
 | RR,_,_,_,n=>gS Β n.1 d
 | .kt d,_,_,_,n=>gS Β n.2 d
 | og,_,_,h,_=>BDZ
 | ă,_,_,h,_=>BDZ
 | Ċ,_,_,h,_=>BDZ
 | .ob _ _ _,_,_,h,_=>by obtain⟨b,_,_,_,_,e,_⟩:=h;exact EL _ e
theorem yi5(Aci){e:AK}{Ψ:AN}{tn:pY}{i:Δ}{x:Κ}{KL :AN}(hN:XA)(hi:IG)(hx:AEH)(he:AAm)(hs:AGL APo:=by rfl)
  (hf:AAr:=by show ARm):AqR Pn tn:=fun z E cx=>
 sU (AZN i hN hi hx Mb hs hf) (dr Bz Bz (APP r1 (by
  show BU a bs Β r1.cons n9;exact AAV (Bht (.tr sC t)) s1 (Ϝ a bs))))
structure Ep (BGL) (C3:AM) (C:Ζ) (m:Κ) (k:Δ) (ps:Ρ) (sp:uV):Ι where
 ex:BfS (AWr yP)
theorem Ep.mt(Bkq C Ζ){m:Κ}{k:Δ}{ps:Ρ}{sp:uV}(G:Ep P w K mg C3 C m k ps sp):DN P w K mg C3 C m k ps (BP sp):=by
 obtain⟨f,fd,h1,h2⟩:=G.ex;exact⟨f,fd,BYp,h2⟩
def JV(BeR uV):pY:=Ŷ (AAa (C' =C/\AFT/\Bnz (BA t (HZ t))))
section
variable{X:Cx}{F0 H0:Hp}{o:AK}{Ψ LS:AN}{m:Κ}{C:Ζ}{ps:Ρ}{k:Δ}{sp:uV}{te:cD}
theorem yd9(G:Aqx Ep)(hc:Ϧ)(hr:Ÿ)(ho:AQW)
  (ht:AJo Aph (do
   let ov<- XZ o
   AFf
   let (f,first)<- AGH ĸ ov m pl
   AGO (ŗ []) AKO):=by rfl):
  ADy Aph (JV C m sp te):=by
 show ApC fa Fn hm hb;show AFv;refine BDw (AAa (C' =C/\AFT/\A8w)) A_m Bjw
 cases d with
 | obj C' fs ds=>
  show AoQ q q;show Arf (Ar7 I1 A7b) (Bs_ (first:= NG) Ļ hm.kp ?_);have hs:yP AG sp NG H1 Q BE_:=⟨F1,_,_,_,LU,uc Rz JS,q,Bju,Acl⟩
  have hl:ANp ([ANA]++ []):=mo UK AV8 hs
  have hbs:=hb s1 NG Ļ hl;show AGB;refine ARg X.A s1 H1 NG NG NG Q hr I1.env0 A5e AQ';cases r with
  | kT e=>exact ABt Ο σ Ω F1 H1 s1 e s' I1 R1 hq
  | ok fl=>
   cases fl with
   | ret u=>show A4Q
   | Kx=>show Zl
   | brk=>show Zl
   | OE=>show Zl
 | _=>show tz
#where
def Gp:D ->ĥ (GE×AR)
 | AI7 xs=>Ε (ks,xs)
 | .dik ks xs=>Ε (ks,xs)
 | _=>Η
def iu:GE ->AR ->Key ->APj
 | Alv,WO,k=>Nn k' k (Ε x) (iu ks xs k)
 | _,_,_=>Η
theorem Pr(OA){d:D}{v:V}{ks:GE}{xs:AR}(h:AxT)(r:TC):∃a vs,v= CF/\Rd F a ACi/\iA/\AIV:=by
 cases d with
 | dic ks' xs' =>
  cases (h);show zw a vs e l rs r;exact⟨a,vs,Β,.DH e,l,rs⟩
 | dik ks' xs' =>
  cases (h);obtain⟨a,o,vs,Β,e,l,rs⟩:=r;exact⟨a,vs,Β,.BD (sw e),l,rs⟩
 | _=>show Pw
theorem zql{K:AA}{F:Hp}{k:Key}:Bk6 ((∀d,A8a xs ->AaL Bil)/\ (iu ks xs k=Η ->jF AHX k=Η))
 | [],xs,vs,_=>by
  refine APZ d h APl;show HK
 | EF,[],vs,r=>by
  subst r;refine APZ d h APl;show HK
 | Alv,WO,vs,r=>by
  show AbV;have ih:=Bde k r2;unfold jF at ih⊢;show BNg;unfold iu;by_cases q:k' =k
  ·refine APZ d h AkU
   ·rw[L3] at h;show HK;exact⟨v,AkV,r1⟩
   ·show AXp L3
  ·show A7 q;simp only [q,BJ4];exact ih
def vI:Iq:=ø (∃ks xs k d,GT Gp (ks,xs)/\y=jX k/\A8a xs/\P d)
def Nk(neg:AT):Iq:=ø (∃ks xs k,Gp y=Ε (ks,xs)/\x=jX k/\Ya (CD neg (! Anm) Anm))
def Pu(td ty tx:cD):cD:=cK td d (BCQ (Ϛ ty kd (tx BF (fun df Γ3=>∃k,kd=jX k/\P ((iu ks xs k).XL df) Γ3) E)))
def z2s:WN:=AU7 d (BCQ (Y3 OH))
section
variable{X:Cx}{F0 H0:Hp}{a b o e f:AK}{Ψ LS HC:AN}{ta tb td ty tx:cD}
theorem Nm(hu:im)(ha:ZT)(hb:Ϭ)(hs:Mv b:=by exact AJv):Al5 a b (cB vI ta tb):=fun z E cx=>
 oh (Da z6e hu G1 N_ hs) (NI DW DW (AcI (by
  obtain⟨ks,xs,kk,d,e1,Β,hl,hp⟩:=h2;show zw c vs ec EK rs (Pr e1 (AG3 s2));have ev:=JQ r2;subst ev;show Ct v hv rv (zql rs).1 d hl;exact⟨c,v,Β,AzX R2.g hv.symm,Bm8 rv hp⟩)))
theorem ynn(hu:im)(ha:ZT)(hb:Ϭ)(hm:Av' .In):BQf .In (Nk AE):=fun z E cx=>
 Vb (A1N (Da ym8 hu G1 N_) hm) (NI DW DW (AcI (by
  obtain⟨ks,xs,kk,e1,Β,hp⟩:=h2;show AKf r2;show BCZ r1 ⟨c,_,Β,BP',_,Β,?_⟩;rw[zt4 EK];exact k _ BF F2 H2 R2 tq hp)))
theorem yj8(hu:im)(ho:EW o td)(he:EW e ty)(hf:EW f tx)(m:BFo "get"):EW (Â o "get" [e,f]) (Pu td ty tx):=fun z E cx=>
 oh (Aam yfx (OO ho) Mb hf Be0) (NI DW DW (AMR d1 v1 (by
  obtain⟨ks,xs,e1,h1⟩:=h1;show AKf r1;exact⟨c,Β,.DH (E6 Am1),F1,Ω,_,R1,h1,AV1 d2 v2 ⟨F2,BF,_,R2,h2,fun d3 Γ3 F3 H3 v3 R3 s3 r3 h3=>by
   show ZU kk hp h3;have ev:=JQ r2;subst ev;have q:=Bde kk (AL7 (ĺ s3));refine i6 (AzX (ApL R3.g) Β);cases el:iu ks xs kk with
   | Η=>
    rw[q.2 el];rw[el] at hp;exact k d3 Γ3 F3 H3 v3 R3 Am0 r3 hp
   | Ε d=>
    show Ct v hv rv q.1 d el;rw[hv];rw[el] at hp;exact k d Γ3 F3 H3 v R3 Am0 rv hp⟩⟩)))
theorem yhz:AQw ALK z2s:=by
 show pV;show D' z2s;split at h
 ·show ANz rd rs;show GB ks xs e1 h h;show AKf rd;show Tu;show KA;refine yph I (Lq sF ec) fun t s' I' =>⟨.AU OH,H,I',C5 t,AAj⟩
  show AWR EK
 ·show HL
#where
section
variable{X:Cx}
theorem zyq(he:dq)(I:AV)
  (h0:te σ H Q0) (h:∀v H1,Q0 v H1 ->∃a AH,v= CF/\Rd H1 a PU/\∀(s1:AC) (ws:A3n) (ep:Δ) (r:Ζ),WC (AJd s1) Agc AVF A3V Aix (s1.heap.IsValuesView r a) (M_ r s1))
  (JE:AKE) (Mn:mv):
  AHW (r8 Ag_) Q:=by
 refine Arb (AMQ he _ I h0) BO;obtain⟨x,H1,I1,r1,q0⟩:=BO;obtain⟨a,AH,ex,ea,q⟩:=h x H1 q0;subst ex;show AoK;show BFt ea;refine Beb;show BmT (Ln ATl ea);have vw:A2l (Ayn Bs1):=iq;exact q _ ws ep _ (AtX Å) hsm hz kv A0T vw
theorem z4u{ks:GE}{vs:AQ}{ws:A3n}{A2:Lm}(EK:iA)(kv:KV (bE vs) ws)(h1:AfR=NS)(h2:∀(i:Δ) (u:AJ),FG A2 u ->∃k,FG ws (k,u)):KF vs Auz:=by
 have hl:=AT_;show BY3 hl;refine BFG (ACs (sN acc.toList.length AfR pr))
 show FC k e3 h2 i u Boh
 show Ct v e4 r Nh kv e3;show AnL (Ph e4).2 e1 r
theorem yf4{e:AK}{te:TE}{LS HC Ψ p:AN}(hc:F7)(hg:Ak6)(hm:Akv)(he:dq)(hb:BTe:=by show XY)
  (JE:AKE:=by rfl) (Ary):
  PE X Bc0 (Pe te v (∃(a:Ζ) (ks:GE) (vs:AQ),v= CF/\Rd H1 a ACi/\iA/\Bf8 cn)):=by
 show DO Q;refine ARs (Ĝ hb) Φ Φ
 show A'Q (A1M ?_ he2);refine zyq he I h BXI JE Mn;obtain⟨a,ks,vs,ev,ea,EK,q⟩:=hq;refine⟨a,bE vs,ev,ea,fun s1 ws ep r I1 hsm hz kv hd vw=> ?_⟩;refine AiX;show A9O;refine BJ2 (AsB Bs') (I1.ok.hd hc) A9e Θ fun h' tk A2 c NW hg hac=> ?_
 have hv:=z4u EK kv hac.1 hac.2;have JC:=hv.length;show BY3 hz;have I2:BW8 (Be' cn):=
  BMv NW Gc cn (BCf Υ)
 exact IF Az' I2 (q _ (AMs Ķ))
theorem ylj(hc:F7)(hg:Gl X Ī)(hm:Q4 Ī)(he:dq)(hb:AIS Ī (US Ī):=by show XY)
  (JE:AKE:=by rfl) (Ary):
  PE X BgS (Pe te v (∃(a:Ζ) (ks:GE) (ns:CI),v= CF/\Rd H1 a (.dK (bE (x5 mI)))/\AhP IO/\Q BKb H1)):=by
 show DO Q;refine ARs (Ĝ hb) Φ Φ
 show A'Q (BH7 ?_ he2 Β);refine zyq he I h BXI JE Mn;obtain⟨a,ks,ns,ev,ea,EK,q⟩:=hq;refine⟨a,bE (x5 mI),ev,ea,fun s1 ws ep r I1 hsm hz kv hd vw=> ?_⟩;refine AiX;show A9O;have hlk:NS=IO:=by rw[<- Ni,AfV,C8,<- EK,AMD]
 have K:=AsB (UY Bs' CY HR w X.w r r d a);refine call_sum_walkAnyS ?_;obtain⟨oI,St,hit,W,st⟩:=K.iter X.A.in1 s1 (I1.ok.hd hc) A9e;refine hit _ _ ⟨E3,_,_,_,_,_,_,BSn,Β,W.toS,st,NF,As i u hu,As s' t' hm'⟩
 ·rw[UI];rcases WJ with e | hb
  ·rw[e];show Ale
  ·show AEI;show AYA (K.there _ A9e).2
 ·obtain⟨k,e3⟩:=hu;show Ct v e4 rv Nh kv e3;have e5:=(Ph e4).2;rw[FS] at e5;cases en:ns[i]? with
  | Η=>show Lc en e5 e5 e5 e5 e5 e5 e5 e5 e5 e5 e5 e5 e5 e5 e5
  | Ε n=>
   rw[en] at e5;show AD e5 e5 e5 e5 e5 e5 e5 e5 e5 e5 e5 e5 e5 e5;show ACu (BG8 A6Z t);show AEW en;exact rv
 ·have hk:BoI Au2:=Q1 (hm'.heap b o (BA hI (Ā zG e (by show lf hI;exact yU _))) gu)
  rw[hlk,z7n ns _ (U' _ Β),Moved.eq_with hm'];exact zo5 (s:=s1) (v:= .AU ns.sum) I1 hk E7 q
#where
def Er(jS):c7:=Ŷ (BCQ (HZ xs))
def Px(jS):cD:=Ŷ (∃ks xs ns,AxT/\Aoe/\HZ BKb)
section
variable{X:Cx}{F0 H0:Hp}{e:AK}{LS HC Ψ p:AN}{te:cD}
theorem z4b(hc:F7)(hg:Ak6)(hm:Akv)(he:Rc)
  (JE:AKE:=by rfl) (Ary):
  AH6 Bc0 (Er te):=fun z E cx=>
 oh (Da yf4 hc hg hm Mb Su JE Mn he2) (Sf Ar (by
 show RU Ar;refine ib ?_;obtain⟨ks,xs,e1,h1⟩:=h1;show AKf r1;refine⟨c,ks,vs,Β,Am1,EK,AyN⟩;show uC R2 q1 q2 q3 ap (Jh R1 hq0 rs) (k _ Ω F1 _ q _ R2 s1 q1 q2 q3 rs ap h1)))
theorem yjm(hc:F7)(hg:Gl X Ī)(hm:Q4 Ī)(he:Rc)
  (JE:AKE:=by rfl) (Ary):
  EW BgS (Px te):=fun z E cx=>
 oh (Da ylj hc hg hm Mb Su JE Mn he2) (Sf Ar (by
 show RU Ar;refine ib ?_;obtain⟨ks,xs,ns,e1,hns,h1⟩:=h1;show AKf r1;show A8P;exact⟨c,ks,ns,Β,Am1,BLK EK,AhB JS⟩))
#where
def Itf(BFf):It:=BWJ (∃k v,Ajz (k,v)/\x=kV k)
theorem z40(AKm)(BGH):BgY Itf h.IsKeyIter where
 mem:=DB
 obj:=AF_ (by
  show AFS
  show Axn;exact AmQ)
 KG:=AqO
 SL:=by
  show WU;show On;show AKk;show dy
  show ASS;show ASA;show BFS
  show BCs;refine wpAny_pyNext_dict_item st hd hw (Jn A6 h' hkey e_ sb);have I1:AJe:=AZ3;show Ayp;have rk:BOu:=by
   rcases Dv hkey with ⟨j,t,Β,Β⟩ | ⟨x,t,Β,Β⟩
   ·exact nI
   ·exact nI
  exact VO A6 (BVQ (kV k) rk ⟨Β,k,v,hv,Β⟩)
 KM:=by
  show WU;show On;show AKk;show dy
  show ASS;show ASA;exact wpAny_pyNext_dict_end To st hd AYY AGI
 PF:=AbU Bs8
def Sv(AQi):TI:=BjY (AXm Itf)
theorem ydb(he:dq):vi e (Sv te):=by
 show DO R;refine Aaz o4 BO;obtain⟨x,H1,I1,r1,a,o,AH,ex,ea,q⟩:=BO;subst ex;show AoK;obtain⟨ho,hz,hsm,ws,kv,o',es,ep,h1,h2,h3,h4⟩:=BiW;rw[ho] at h1;show Acu;have hm:Aix:=AjN ho;show BG (wpAny_pyIter_dict hsm hm ?_) ⟨_,[E3],_,_,_,Β,AgT,BFX z40,?_,NF,q hz⟩
 show A3K iq
 ·show Avy
  exact AeU Gc (Ķ Gc)
theorem yh9(OA)(k:Key):EJ K F Ahc (kV k):=by
 cases k with
 | DH i=>rfl
 | BD x=>rfl
theorem z80(OA){a:Ζ}{o:Obj}{ks:GE}{vs:AQ}(e:AyK)(EK:iA)(hz:Bor):A5t Itf (PH jX):=by
 have hlz:Ba8:=BCc
 refine⟨ϵ,AKw (Ps ⟨ARq,AYa q C8⟩)⟩
 rw[FS] at hd;cases qk:ks[i]? with
 | Η=>show AsS qk
 | Ε kk=>
  rw[qk] at hd;show ASX;have hik:i<OH:=OT qk;refine ë ARq Υ ARb
  obtain⟨Β,k,v,z,Β⟩:=z;show AnL (Ph z).1 qk ⟨F2,ef s3,yh9 kk⟩
def ybl(jS):c7:=AZ0 (.dik ks _) (P (PH jX) Ω)
section
variable{X:Cx}{F0 H0:Hp}{e tg:AK}{te:cD}
theorem z94(he:Rc):A8L ybl:=Ak' (Da ydb) Mb (AVo Bz (by
 show AwU;refine AOZ (fun d Ω F1 H1 v R1 s1 r h1=> ?_);show BkZ (z80 ea EK hz)))
#where
def Gq(tn:pY):cD:=Apj (UV t wc (HZ BAp))
def Es(i:Δ)(t:aF):aF:=A5r (∃as ks ts,Ì AxP/\t D (se (.pu BAp)) E)
section
variable{K:AA}{F0 H0 F H:Hp}{σ:St}{Γ:AEf}
open x_ in
theorem SR.nailU{w:HO}(R:IJ)(hn:AQI BBt):
  ∃F',Go /\y_ F' (ANI w)/\Fr F' w/\ (U1 bs (MY ->∀u,AEt ->AVa))/\BCT š:=by
 have sF:kz (A4H w (gE (b∈bs) H (F b))):=Sr (by
  show ASM w H (F b);show ZN (FI (Ap7 BMi)) BcJ
  exact e)
 refine⟨_,sF,Bh9 R.chg w sF (MX) (fun b u e n=> ?_),ET,Jn b hb z u hu,NF⟩
 ·have e' :ASM w H (F b):=e;by_cases hb:b=a
  ·subst hb;rw[ET] at e';rw[gU];exact e'
  ·rw[AIh] at e';rw[bJ hb];split at e'
   ·exact e'
   ·exact AQU e'
 ·have e' :ASM w H (F b):=e;show Anx
  ·subst hb;exact(hn b zY).2
  ·rw[AIh] at e';show BgT e' e' e' e' e' e' e' e' e' e' e' e'
 ·exact TL UA z (TL ABS hb hu)
 ·rw[Ģ,not_or] at hb;exact TL UA hb.1 (UA hb.2)
theorem SR.nail(R:IJ)(nd:A2r)(hn:AQI BBt)(ea:Nl ACi)(EK:iA)(r:BXv):
  ∃F',Go /\y_ F' (ANI ADY)/\AMe BAp ED/\BCT š:=by
 obtain⟨F',sF,R',e,k,k2⟩:=R.nailU (w:= .frz o ACi) hn;exact⟨F',sF,R',⟨a,o,vs,Β,e,EK,AL1 sF ts vs bs (hZ hc (k c hc (Al4 hc))) r⟩,k2⟩
#where
section
variable{X:Cx}{F0 H0:Hp}{e:AK}{st:AO}{tn:pY}{ts:aF}
theorem zzd(he:AAm):EW e (Gq tn):=BQB (by
 show RU hq;refine Bg_ (BQS (∀o,Q ED A3Q))
 ·split at h1
  ·rename_i ks ts;show AAz;refine⟨a,_,Β,ea,II o⟩;obtain⟨F',sF,R2,rp,_⟩:=R1.nail (o:=o) nd hn ea EK r;exact k _ Ω F' _ _ R2 Ak9 rp h1
  ·show ê
 ·obtain⟨x,H1,I1,r1,a,AH,ex,ea,q⟩:=BO;subst ex;show GU AMb r1;obtain⟨_,_,ws,kv,o,es,ep,h1,_⟩:=QV ATl ea;exact IF CF (zwf I1 ea h1) (q o))
theorem z74(i:Δ)(h:AJt ts):AJt (Es i ts):=fun z E cx Ο s σ H D I hq=>by
 obtain⟨F,Γ,D2,R,⟨as,ks,tr,e0,hp⟩,k⟩:=hq;obtain⟨o',e1,v,Β,nd,hn,r⟩:=AIK;show AAz;obtain⟨_,_,ws,kv,o,es,ep,h1,_⟩:=QV KI ea;obtain⟨F',sF,R2,rp,_⟩:=(ATi e1).nail (o:=o) nd (MO ⟨Ϥ,Đ,AG2 e0 e1 (E_ (gV (AB_ sC (X2 ks tr)) YV b) hb)⟩) ea EK r;have R3:=R2.set i rp;show ApD R3;exact h z E cx Ο s σ _ D (zwf I ea h1) ⟨F',_,D2,R3,hp,Ae1 sF⟩
#where
def Sw(i:Δ)(tk tv:cD):aF:=A4t ((∃as t,AV6 (.tr as t))/\Ϛ tk kd (∃k as ks xs,kd=jX k/\FG BF (ADN as ks AZF)/\Ũ OH/\UD (Γ2.set i (ADN as (jQ ks k) (Awh ks k)))))
section
variable{X:Cx}{F0 H0:Hp}{ke FE:AK}{Ψ ABx KL :AN}{x:Κ}{i:Δ}{tk tv:cD}
theorem z4d(hu:im)(hN:IG)(hv:OY)(hk:EW ke tk)(hval:A9w)(hs:AaT NC ke:=by rfl)
  (AKv):AXe (ANo NC ke) (Sw i tk tv):=fun z E cx=>
 sU (Aam zua ja A0n hval hs) (Amv BO BO Bz (by
  obtain⟨⟨as,t,e0⟩,q⟩:=Bz;obtain⟨o,e1,w,Β,_⟩:=AaQ;refine⟨w,e1,F1,Ω,_,R1,q,fun kd BF F2 H2 y R2 s2 rk q2=> ?_⟩;obtain⟨kk,as',ks,xs,Β,e2,hl,q2⟩:=q2;obtain⟨o,e3,w',Β,nd,hn,r⟩:=BSa;rw[e1] at e3;show Acw;show AAz;show FX Β rs YM r;show BCZ rk ⟨a,_,Β,BeI,?_⟩
  rw[YL EK];refine Po (R2.wrT e2 e1 (E_ (gV (AB_ [a] (X2 ks AZF)) YV a) zY) (t:= .tr [a] (Boi kk kk)) ⟨_,Β,nd,hn,?_⟩ AP2) (ABr s2) q2;exact⟨a,_,[],Β,Β,gU,z0j EK,Nb (zqk rs (rd.up s2))⟩))
#where
def VB:TD:=AU7 d (∃xs:Ρ,∃ys,Gp d=Ε (kD C_,ys)/\AfU/\By<64/\∀ms:Ρ,ATy xs ->Ai5 ->AXH .AX)
inductive Gs (Acn):Ι
 | mk:∀(q:Ζ) (AH:mS) (xs:Ρ),A6m ->(Rd H q PU) ->Hb (kvs.map (·.1)=xs.map .inr) (AfU) (By<64) (∀(l:Ζ) (ms:Ρ),Ak3 ->ATy xs ->Ai5 ->Anf (eg .AX)) (ANb Gs)
def Sx(X:Cx):ĕ:=Aal Gs
theorem z50(AFs):ACz eA (Sx X):=by
 rintro Ο s σ H xs us Q I r ⟨q,AH,ys,e0,hq,hk,nd,h64,k⟩;subst e0;show Tu;show AGP;obtain⟨hz,hsm,ws,kv,ob,es,ep,hd⟩:=Ln KI hq;obtain⟨ho,hec,hdt,hko,hpr,_⟩:=hd;show A9O;have hlk:kC=NR:=C6 (P6 LT hk)
 show FY hls (FU=NS) (AWa hpr.length pr) line AY_ B' (zmo (z02 BR' hsm ⟨ob,ho,hec,hdt⟩ Θ fun IQ h1 tk hv A_ NW=> ?_))
 show FY rv (KF (AHC AHB) IQ) (by
  have l1:D_ AHC AHB=NR:=C8 ..;have l2:BN0:=BLw hv pr
  refine YX Θ fun i x u e1 e2=> ?_
  show AX8 hv e2;cases ee:Asz[i]? with
  | Η=>show Lc ee e2 e2 e2 e2 e2 e2 e2 e2 e2 e2 e2 e2 e2 e2 e2
  | Ε e=>
   rw[ee] at e2;show AD e2 e2 e2 e2 e2 e2 e2 e2 e2 e2 e2 e2 e2 e2;have hi:A0R:=by
    have:=OT ee;show BK7;show AF
   have e3:FG ws VY:=zZ hi;have e4:=(hpr.get? ee e3).1;show BBj;have e6:FG (kvs.map (·.1)) VY.1:=AZn e5
   show AX8 hk e6;rw[FS] at e1;cases ey:ys[i]? with
   | Η=>show Lc ey e1 e1 e1 e1 e1 e1 e1 e1 e1 e1 e1 e1 e1 e1 e1
   | Ε y=>
    rw[ey] at e1 e6;show AD e1 e1 e1 e1 e1 e1 e1 e1 e1 e1 e1 e1 e1 e1;have e7:VY.1= .BD y:=C6 e6.symm
    have e8:vY VY.1 e.key=Μ:=e4;rcases Dv e8 with ⟨j,t,z,_⟩ | ⟨x,t,z,zz⟩
    ·show ARu e7
    ·rw[e7] at z;show MR;refine(?_:HQ (AHB y) e.key);rw[zz];exact nI) JC BNz BPi (BlM nd)
 have hlt2:Alq:=BZ5;have hix:BcB:=Rl (by
  rw[C8,<- JC];exact XX BN2)
 have hrv:=zq0 rv hix;rw[zpj (d:=Ty) BNp] at hrv
 have hms:BWQ ys:=zub (VZ JC a1)
 have Fh:BUf:=BNC
 have I2:AYO Ak5 ZO:=
  AKW (BFq NW) hlt2 (FF Ak5) (BCe hl)
 exact IF N2 I2 BlN
section
variable{X:Cx}{F0 H0:Hp}{a:AK}{Ψ p:AN}{t:c7}
theorem zpa(hc:F7)(hg:BoA)(hm:Bn')(ha:AOp)(hb:Bo0:=by show XY)
  (he:Aby:=by rfl):AXf (AXX eA) VB:=fun z E cx=>by
 refine Box (AbW U3 (z50 hc) hb Φ Φ)
 show RU BO;refine l6 ?_;unfold VB at h1;split at h1
 ·show ANz r1 r1;obtain⟨xs,ys,e1,nd,h64,h1⟩:=h1;show AKf r1;refine⟨c,_,xs,Β,Am1,?_,nd,h64,Jn l2 ms hl2 pm pw⟩
  ·rw[List.map_fst_zip Θ]
  ·obtain⟨R3,q1,q2,q3,ap⟩:=Jh R1 hl2 (YT (K:=AG) (F:=F1) ms);exact BFN YT pm pw
 ·show ê
#where
theorem hu1(h:AVg n):AMY n:=zL (Nat.add_le_add_left (AZB (1<=21)) _) h
theorem qv(i:Δ)(hN:IG:=by exact Β)(hv:OY:=by first | exact Au8 Β | show BVe | show BVf)(AKv):EW v4 (cV i):=ynk hN hv hd hcd
#print _3
namespace _Hd
open KB AK7 Ase LL
theorem yel{l:Azv}{i a:Δ}(e:ADT (Iz i l).ABj):∃k,a=i+k/\IS l k o/\PR o.isFreed:=by
 induction l generalizing i with
 | D8=>show AJN
 | AY b r ih=>
  show ZY Iz;split at e
  ·show BU k hk hr ih e;exact AEj (k+1) hr
  ·rename_i hf;rw[XU] at e;split at e
   ·show Ki;show Do;exact KW 0 (AGp q) hf
   ·show BU k hk hr ih e;exact⟨k+1,Υ,hr⟩
theorem ymp(h:AM)(n:Δ):(cut h n).In h:=MG e (by
 obtain⟨k,hk,hr,hf⟩:=yel e;rw[hk,BJa];exact Heap.get?_some_iff.mpr ⟨Nw AfI hr,hf⟩)
noncomputable section
theorem size(Abh):((AK_ AK').isNs pe&&(BGk []:Ϣ).size==0,(AK_ AK').į,(AK_ AK').nsMap pe "__annotations__")=(Μ,11,ann):=oP
theorem left
  (e:opening p=plainProg p.main.scope.names) (f:∀s,fenceModules? p s=Ε s)
  (hA:∀w os,topGo T_ p w 11 ann 12 A6w A2u=Ε (Bi3,⟨denote T_ (cB p),cB p,z,AbD⟩))
  (hB:∀w os,segRun T_ p w 11 ann 1 1 BDm (blockOf BL6 (Be p) (cB p) z AbD)=Ε (ADf,Bi3,cB p,z))
  (hC:∀w os,(Ta BDm).abs=fore T_ topGo p w os)
  (hD:∀w os,shot T_ topGo segRunT topRun execs p (HM openSeen p q aS Xt obs n w) w os=Ε (BWx (cB p) (openGood q aS))):
  BkI p Xt:=GV (by
 obtain⟨⟨h,gs,d,k,os⟩,e1,e2⟩:=zE.mp (boot_open (N:=40000) e Φ f w)
 obtain⟨Β,Β,Β,Β⟩:h=AK_ AK'/\gs=BGk []/\d=boot_drawn/\k=boot_toks:=C6 e2
 obtain⟨z1,z2,z3⟩:_/\_/\_:=by simpa only [Prod.mk.injEq] using size w
 obtain⟨⟨fl,S,c,ps⟩,r1,r2⟩:=BtA (hD w os);show BU s t1 t2 zE.mp r2;show A2S u1 u2 t2;show A2S v1 v2 u1;show A2S y1 y2 u2;show A1W y3 y4 y2;subst v1 v2;have g1:topRun T_ p w 11 ann (30000+2) BDm (restOf (BGj p++ []) (Be p) (cB p) z AbD)=Ε s:=
  piece_app (by have:=segRun_of r1;show D5 (hC w os);exact Τ) (piece_nil t1)
 rw[UK] at g1;have g2:=go_top (hA w os) (piece_block (hB w os) g1);have g3:=topRun_mono (40000 - (12+ (1+ (30000+2)))) _ _ _ _ g2;unfold openEnds;rw[e1];show C4 (topFrom T_ p w 40000) A6w _=_;unfold topFrom S0;dsimp only;rw[z1,z2,z3];have g4:topRun T_ p w 11 ann 40000 BiO A2u=Ε s:=g3;rw[g4];show(APF BmD (Ε s) Η).map _=_
 rw[y1];show B1 (Ε (Bjj openSeen,AzW)=_);rw[y3,y4])
#where
open _2 _3
theorem adr_of(h:ACe isRef):x=Ε (D9 (BY (adr x))):=by
 show D' isRef;show N9
 ·rfl
 ·show Pw
theorem ix{_:BJ8 p}(h:allB l=Μ)(i:Δ)(e:nth l i=O0 p):p:=by
 refine yB (BtB ?_);clear e;induction l generalizing i with
 | D8=>rfl
 | AY b l ih=>cases b with
  | AE=>show Pw
  | Μ=>cases i with
   | UN=>rfl
   | UO i=>exact ih h i
theorem zxw{K:JA}{f:Ζ}{E2:Κ}{g:GA}(h:fnO K f E2=Ε g):∃oc od fd sl,Ay4 (.func fd) sl/\codeIn K fd.code E2=Μ/\fN keepIn MD/\HP fd=g:=by
 show D' fnO;split at h
 ·rename_i oc od fd sl e;split at h
  ·show Ki;show FX q1 q2 BtC q;exact⟨oc,od,fd,sl,e,q1,q2,zF h⟩
  ·show Pw
 ·show Pw
theorem z9t{fd:GA}{x E2:Κ}{st:AO}{dV:AJ}(h:HP fd=fnOf x E2 AIo m_ zC dV BM BM BM Η BM BM):
  fd=fnOf x E2 AIo m_ zC dV fd.kwdefaults fd.doc fd.pyModule fd.annotations fd.code fd.closureTuple:=by
 obtain⟨⟩:=fd;injection h with h1 h2 h3 h4 h5 h6 h7 h8 h9 _ _ _ _ _ h10;subst h1 h2 h3 h4 h5 h6 h7 h8 h10
 rfl
theorem fun_of{K:JA}{f:Ζ}(Ě){st:AO}(h:fnO K f E2=Ε BGK):∃fd,Aa8:=by
 obtain⟨oc,od,fd,sl,e,c,k,b⟩:=zxw h;exact⟨fd,Bl5 (z9t b)⟩
theorem ykr{K:JA}{f:Ζ}(Ě){st:AO}(h:fnD K f E2=Ε BGK):
  ∃fd T Sy dn SJ,BdB E2/\aI T=Ε (BEV #[BM]):=by
 obtain⟨g,h1,h2⟩:=BtA h;obtain⟨oc,od,fd,sl,e,c,k,b⟩:=zxw h1;split at h2
 ·show Ki;subst b;unfold WQ at q;split at q
  ·rename_i T hT;split at q
   ·rename_i t Sy xs dn SJ eT;show FX q1 q2 BtC q;show U_ (AGp q1);have q3:xs= #[BM]:=by
     split at q2
     ·rename_i ex;exact Brn ex
     ·show fT q2 q2 q2 q2 q2 q2 q2 q2 q2 q2 q2 q2 q2 q2
    subst q3;refine⟨fd,T,Sy,dn,SJ,Bl5 (z9t (dV:= .B9 T) ?_),eT⟩;have h3:=zF h2;have h4:(HP fd).BGf= .B9 T:=hT;generalize HP fd=g at h3 h4⊢;obtain⟨⟩:=g;injection h3 with a1 a2 a3 a4 a5 a6 a7 _ a9 a10 a11 a12 a13 a14 a15;subst a1 a2 a3 a4 a5 a6 a7 a9 a10 a11 a12 a13 a14 a15 h4
    rfl
   ·show pS
  ·show pS
 ·show fT h2 h2 h2 h2 h2 h2 h2 h2 h2 h2 h2 h2 h2 h2
theorem yaq(BdO fnN):∃f,AcP/\fnO K f x=Ε g:=by
 show D' fnN;show N9
 ·rename_i e;exact EL e h
 ·show Pw
theorem yan(BdO fnM):∃f,AcP/\fnD K f x=Ε g:=by
 show D' fnM;show N9
 ·rename_i e;exact EL e h
 ·show Pw
theorem yn3(BdN fnN):∃f fd,AcP/\A3 x x st:=
 let ⟨f,e,h⟩:=yaq h;let ⟨fd,F⟩:=fun_of h;⟨f,fd,e,F⟩
theorem funM_at(BdN fnM):∃f fd T Sy dn SJ,AcP/\BdB x/\aI T=Ε (BEV #[BM]):=
 let ⟨f,e,h⟩:=yan h;let ⟨fd,T,a,b,c,F,d⟩:=ykr h;⟨f,fd,T,a,b,c,e,F,d⟩
inductive Py (K:JA) (x:Κ) (st:AO):Ι
 | mk:∀f fd,AcP ->A3 x x st ->Py K x st
theorem fun_ix{K:JA}{ds:Aku}{x:Κ}{st:AO}(h:seen K ds=due ds)(i:Δ)(e:FG ds (x,st)):Py K x st:=by
 have q:=P6 (BA l l[i]?) h;unfold seen due at q;show AjZ FS e q;obtain⟨f,fd,a,F⟩:=yn3 (zF q);exact⟨f,fd,a,F⟩
theorem nthM{α:Ch}{l l' :DE}{x y:α}(h:l=l')(i:Δ)(e:r6 l)(e' :FG l' y):x=y:=by
 rw[h,e'] at e;exact dA zF e
def Pz:Sum AB Κ ->D
 | APu=> GG
 | ž=> oq
theorem zne{K:JA}:BhW (∃vs,KF vs xs/\∀F,Qr (as.map Pz) vs)
 | [],as,h=>by show HK;exact⟨[],Eg,fun F=>OU⟩
 | v::r,as,h=>by
  show BRJ
  case AU i t=>
   show BDu;obtain⟨vs,q1,q2⟩:=zne (K:=K) e;exact⟨GG::vs,.AY E7 q1,BWy⟩
  case AX x t=>
   show BDu;obtain⟨vs,q1,q2⟩:=zne (K:=K) e;exact⟨oq::vs,.AY E7 q1,BWy⟩
theorem zws:BhW (AW8 as.length)
 | [],as,h=>by show HK;rfl
 | v::r,as,h=>by
  show BRJ
  all_goals (show BDu;simp [zws e])
theorem glb_tup{K:JA}{h:AM}{mg:EN}{x:Κ}{as:EO AjK}(X:Tl)(G:A4a)(q:isRef (nsIn K pe x)=Μ)(l:tupO K (adr (Avn nsIn x))=Ε as)(hz:D7 as.length):Ru K mg x (GW (as.map Pz)):=by
 unfold tupO at l;split at l
 ·rename_i t od xs n sl e;split at l
  ·rename_i et;subst et;exact _3.glb_tup (mg_of X G (adr_of q)) e (by have:=zws l;show BK7;show AF) (zne l)
  ·show fT l l l l l l l l l l l l l l
 ·show fT l l l l l l l l l l l l l l
theorem walk_ex{l:Aen}{n k:Δ}{q:A0}{aS:Ρ}{XP:BUy}{YP:BO'}{d:Ash}{Fx:D1 An JA}{CX:An ->Lk}{sp:JA ->Sp}{x:Κ}
  (hn:A9b) (hn2:D7 n) (hdf:BLv) (hr:BLq)
  (hY:∀(w:An) (h:AM),YP w h ->∃K:JA,Tl/\Fx w K)
  (F:∀(w:An) (K:JA) (mg:EN) (fa:Ζ) (h:AM),BC (Fx w K) Tl A4a BPU (∃fd:GA,(A8c u BBX)/\∀b:AM,İ b ->Agu b.Ns ->gK ATd w K mg b (CX w) k fa fd [x] (sp K)))
  (hsp:∀(K:JA) (H:Hp) (a:Ζ) (ns:CI),Akl ->Only H ->Apu ->sp K NG H A_S ϖ)
  (hCX:∀(w:An) (H:Hp) (s:AC) (e:AJ) (s' :AC),CX w [] H s (ϖ) e s' ->D6):
  BYi:=by
 refine Att.Bu hn hdf fun w K_ EU mg mb fa o pm cd doc a vs ns G Y ho hd hcd hmg hobj hints Fh hg=> ?_;obtain⟨K,KX,fx⟩:=hY w _ Y;obtain⟨fd,hb,hF⟩:=F w K mg fa _ fx KX G.T.g hmg;exact yc9 KX G.T.g G.T.b G.T.builtins G.T.nolimit hg hobj hints (zO Fh hn2) hr hF hb (fun H hO hS=>hsp K H a ns Fh hO hS) fun H e s' =>hCX w H EU e s'
theorem start_binds{K:JA}{fd:GA}{x:Κ}{st:AO}{f:Ζ}(F:A3 T1 T1 st)
  (h:Bl4 u AJ (bindArgs (fnOf T1 T1 AIo m_ zC BM kV doc pm an cdv ct) (GY [u])=Hn [(x,u)])) (s:AC) (u:AJ):BBX:=by
 show BMs;exact .of_eq (h kV doc pm an cdv ct u)
theorem holds{l:Aen}{q:A0}{aS:Ρ}{β:Ch}{obs:JA ->β}{good:An ->β}{n:Δ}{d:Ash}(said:l.wellSaid=Μ)
  (L:BkI l.row.prog (De Μ))
  (hd:defOf q l.row.name=Ε (d,[])) (hp:l.row.prog.theDef l.row.name=Ε (d.params,d.body,d.scope)) (hk:kwWritten? d.params.kwonlyargs d.params.kw_defaults=Ε [])
  (ok:VW (chainsOk q&&opensWell l.row.prog) (frees AuI&&l.row.within.isEmpty)) (hb:l.row.prog.bare) (hw:l.row.toRowW.promised) (wr:PR l.row.writes)
  (walk:WalkO q aS BKx (fun w h=>∃K:JA,Tl/\AcX) AuI d [] AzC):l.Holds:=
 holds_law said fun k1=>holds_open (XP:=FR _ IM) (YP:=fun w h=>∃K:JA,Tl/\AcX) L (fun _ s e=>(EL (ymp A9 n) e)) (AIz hz k (by show à K x hz;exact⟨K,x.keeps k,e⟩))
  (KS _ IP) (AIz _ _ IP) hd hp hk (uv s (recFacts_of Β)) (WB wr) k1 ok hb hw walk
#print _Hd
namespace _3
open KB P4 LL _2
def SM(g:vP)(tc:TT2)(t:c7)(Γ0:G2)(x:D)(P:Ajw):Ι:=Bi1 (t BF (uv ds (P [ds])) jO)
def wJ(DV:yo D (rh D)):yo AR (rh D)
 | [],P=>í
 | WO,P=>DV x fun ys=>wJ DV xs fun zs=>AzM
def SN(ds:AR):T:= .DC (ŏ ALC)
def JW(A5:Δ)(Fk:DA)(ti:c7)(g:vP)(tc:TT2)(t:c7):pY:=cK ti ds (wJ (SM g tc t (rD A5 Fk Ω)) ds fun ys=>(HZ BU1))
def fX(K:AA)(t:c7):TE:=BCi upF
theorem yj3(gr:tw)(h:AEx)(e:AH2)(ld:va):tm:=by
 cases q:F' a with
 | Η=>rfl
 | Ε w=>
  show Aba (gr.n a w q h)
  ·show ARu e
  ·rw[e] at z;show MR;subst e';exact ld.tup.elim
section
variable{F0 H0:Hp}{A5:Ρ}{Fk:DA}{g:vP}{tc:TT2}{t:c7}
theorem z53(Ĕ){σ:St}{Γ:G2}{J:It}{Hx:Hp}{ds:AR}{A2:Ζ}{P:Ajw}{Q:AQE}(R:IJ)(hJ:A'D J)(hx:ā Hx)(ha:RC A2)
  (h:wJ (Aqd SM t) ds P)
  (EC:∀ys F' H' as,WC Aay Go (A9m).OC (∀a∈A2::as,tm/\Ü) (AIZ BU1 ϰ A9m) (P ys) A4l):
  Bjv fX t:=by
 obtain⟨R1,e1,e2,e3,ap⟩:=Jh (ds:= []) (vs:= []) R ha JS
 show FY hx1 (L9 Hx Ay3) BcQ xa BaG BhZ (AoM vs H' OI A2W (∃F' ys as,Aay/\Go /\AQj /\AHl Hx /\A'R/\A6W/\ (A9m).OC/\ AoZ/\Ah7 (AHC SN) as/\A1f/\wJ (Aqd SM t) (ds.drop i) BRX) ⟨OI,DB,MZ,F,[],[],R1,sf,Sr (by(show č ha;exact e)),hx1,e1,e2,DB,fun a h=>by(show Pw),A0K,OZ,C6 h⟩)
 rintro i m vs H' ⟨Β,hi,F',ys,as,R',sF,sH,hx',ha',Rq,nd,hn,rs,lv,hc⟩;have hz:=hJ.1;refine CU ha' Υ
 obtain⟨hstop,hgo⟩:=Bjp;have Y8:A2∉as:=ADM;by_cases A_:Ajx
 ·show BBf A_;refine .BD (AEj go BVo)
  show F6 F2 gr rx (yl x H2 y);show Bi6 gr ⟨F2,H2,F2,Abg rD Γ,_,ds[i],Abg z13 R2,rx,hc,BlJ⟩;refine BlY;have sZ:BVO:=BI4 R4.gr;have KG:∀{F5 H5},Bow ->An_ (MI F5/\Ü):=fun g5 a h=>by
   show AEa e ld (ABn _ _ _ rs a h);exact⟨yj3 g5 (AIL h) e ld,A5b⟩
  cases b with
  | AE=>
   rw[i5] at q4;refine⟨Aac,Υ,Β,A_,F4,ys,as,Ae_ sZ,ļ sZ.f,sH.trans sZ.h,BYQ,BRn,Beo,nd,KG sZ,UM sZ.f _ _ _ (fun a _ u e=>sZ.h a u e) rs,Υ,?_⟩
   simpa using q4
  | Μ=>
   rw[ET] at q4;refine⟨F2,H2,F4,Γ4,_,R4,q4,fun es Γ5 F5 H5 a us R5 s5 p1 p2 p3 rv apa q5=> ?_⟩;show Bfi;have a5:=DK.h _ _ ha';have f5:=zwi DK Rq ha';show FL Y9 (MI H') (gr.h.free p3) Za (a≠A2) (Anb ha' Y9 Y9 Y9 Y9 Y9 Y9 Y9 Y9 Y9 Y9 Y9 Y9 Y9 Y9 Y9) aas (a∉as) (Au (by
    show APT e (ABn _ _ _ rs a z);rw[e] at Y9;show AD Y9 Y9 Y9 Y9 Y9 Y9 Y9 Y9 Y9 Y9 Y9 Y9 Y9 Y9)) a0 Ü (sH.free Y9);refine⟨a5,Aac,Υ,Β,A_,F5,ys++ [es],as++ [a],?_,ļ DK.f,Sr (by(show č ha;exact A1t (sH b u e))),MX,gU,f5,?_,NF,?_,AkC,?_⟩
   ·have R6:=Ae_ DK;show Bj4
    ·show č f5;show tI R6.g
    ·show č e3;show tI R6.gr.h
    ·show ie p1 p2 Ba9;refine⟨o,p1,U7 p2 GH BgJ⟩;have:c≠A2:=Au (Az6 (ap j BcD))
     rw[bJ Τ];exact q
   ·show AJk (xa u (VZ z e));exact A1t AyG
   ·rw[<- KP];exact AfX (ϯ nd (fun x hx y hy e=>by
     rw[ł hy] at e;rcases EQ hx with z | z
     ·exact Za (BtB z)
     ·exact aas (e ▸ z)))
   ·rcases ADV with hb | hb
    ·exact KG DK b hb
    ·show AEI;exact⟨p2,a0⟩
   ·show Azo;refine RK (UM DK.f _ _ _ (AlU ?_) rs) (RL ?_)
    ·show AJk (Y8 (VZ z hb));show tI DK.h
    ·exact⟨a,us,[],Β,Β,MS Za p1,Nb rv⟩
   ·simpa [Ŀ] using q5
 ·show A4r
  refine .DH (A7O (EC ys F' H' as R' sF nd (zI h ?_) (B0 ⟨A2,vs,as,Β,Β,ha',rs⟩) ?_))
  ·rcases AJa with Β | h
   ·exact⟨Rq,ha⟩
   ·exact hn a h
  ·rw[Bri] at hc
   simpa [wJ] using hc
theorem yey{X:Cx}{elt tg OG:AK}{ifs:C7}{sc:Op}{N' :Ρ}{Ψ:AN}{ti:c7}(S:AR0)(hc:F7)(hi:Aqo)
  (hg:AcQ) (ht:AcR) (he:Afy QF elt t)
  (hn:AZi:=by rfl) (AFw):ADy nv (JW n Fk ti g tc t):=by
 subst hn;rintro z E cx Ο s σ H Q I ⟨F,Γ,P,R,h,k⟩;rw[show eL nv BMw=BI1 nv sc BE _ A9X AE AZG from Bpf];refine BZl (tc:=tX AG tc) (te:=fX AG t) (Q:=Q) AyX (pig hc APr) ?_ ?_ ?_ Β hs I ?_ ?_
 ·rintro C K_ SG fp Ο s σ H v u Q I r ⟨wj,wu,q⟩;exact AsT q
 show Am6
 show Am7
 ·refine b_ (fun ds Ω F1 H1 J Hx R1 s1 hx hJ h1 A2 ha=>z53 R1 hJ hx ha h1 fun ys F' H' as R' sF nd hn tr hp=>k _ Ω F' H' _ _ R' Ak9 nd (zI h (Axg (AIL h) A5b A5b)) tr hp)
 ·show AsN;exact⟨m,hn,AyA ⟨Ajo,H',BWv,Β,q5⟩⟩
#where
inductive yQ (Bmm uV):Ι
 | mk:∀x HM F ds Pd Ex,Hb BQD (BWn) AIy (F x=Η) (BdK (∀t as F' H3 v dx H',WC (Gr F H F' H3) qc AoZ (TR K F' H3 t v as) (Pd t) (H3 dx=Η) (BkM (.xd Amw) H3)) yQ)
def Zb(BYS uV):Sp:=Awu (Azg yQ)
section
variable{P:A0}{w:An}{K:AA}{mg:EN}{C3:AM}
theorem ycs(Ě)(Acq uV){C B:Ζ}{fl bn:Κ}{FE:AK}{p1 p2 p3 p4 p5 p6 p7 p8 p9 p10:AN}(Fn:Aa8)
  (hbd:yM st= [.ALZ [.xn AmC fl p2] FE p3,.AK (ň (yz (IA bn p4) K0 p5) Bjq p9) p10]) (S:AKa AyY)
  (hc:AOq) (hB:JF K B) (hmB:fq bn B) (hn:ADk fl) (hN:IS N 0 AvY) (RB:A6_) (len:ASN)
  (hdb:ã bn)
  (xw:AKy (∀F0:Hp,
   Gl lT bn/\
   AHU (AGi FE (D9 (yz AmC fl p2)) p3.line (lT).Be)/\
   (∃pl,yer bn p4 p5 p9 Bjq (lT).Be pl)/\
   ∃tn,QN lT F0 H FE tn/\
    Bgg (tn (iw N AXR) BUw (FM Ex)))):
  BWs Zb:=by
 show AFt;refine QK lk hcd S (ARL H Q E BO) (AKx E hr Bz)
 ·obtain⟨x,HM,F,ds,Pd,Ex,e,_,_,_,rs,hs,_⟩:=BO;show BBl e Awo
 obtain⟨a,HM,F0,ds,Pd,Ex,ev,hx,sF,fx,rs,hsp,hQ,hE⟩:=Bz;subst ev;obtain⟨hgB,hsw,⟨pl,EI⟩,tn,hte,hq⟩:=Aw2;have cx:ASL:=by
  refine⟨fun Ο σ Γ F H1 s1 e s' I R hx=> ?_,AKV⟩;refine AKz;show APY F' x R' xr z1 z ASW
 rw[hbd];have JX:∀q,PE lT (AIF q) (Ms 0):=Ps (ADS sy hN RB);show BG (i6 (zpk (z9f hc hn (JX p1) BPN hsw) (zt7 (UJ (yea hc hB hgB hmB (Lj (JX p6) (Lj (ykk hc hn (JX p7) Β) Ou)) hdb Β Β EI))))) (BlE (fun t Ω F1 H1 v as R1 s1 nd hn tr hp=> ?_))
 show n_ h0 hp hp;show F6 o eo ro BUz;show ZU u ru ro;subst ru;refine⟨CF,eo,a,Β,Aj8 hx,As dx n1 n2⟩;refine⟨CF,eo,CF,eo,a,dx,_,v,Β,A4n,gU,DL Ĺ,?_⟩
 refine⟨a,Ε dx,v,Β,A4n,?_⟩
 refine hQ t as F1 H1 v dx _ R1.gr nd (MO ⟨Ϥ,AN5 hn⟩) tr hp n1 n2 gU (Ϟ (bJ n2) gU) (BZS (bJ q1))
#where
def zzy(C:Ζ)(fl:Κ)(sp:uV)(t:c7):aF:=A6v (AZs BgM)
section
variable{X:Cx}{F0 H0:Hp}{e:AK}{es:C7}{Ψ np HC:AN}{t:c7}{x fl:Κ}{C f:Ζ}{fd:GA}{ps:Ρ}{k:Δ}{sp:uV}
theorem z4v(hh:F7)(hg:J_)(hm:AEM)(hC:Ó)(hi:Bg6)(hf:BQJ)
  (Fn:BcI Zb) (hr:AKX) (hb:APB) (ha:TZ)
  (hd:HH:=by decide) (AlV):
  Bdr:=by
 rintro z E cx Ο s σ H D I ⟨F,Γ,D2,R,h,k'⟩;refine yaa (K:=AG) (C:=C) (f:=f) hC.cls BO8 ?_ hi (AGp hf) (Da Gf I hg hm Ϲ hd)
 ·rw[he];show PR (false || (backTo cpos (starEach es X.env)).any (·.1))
  rw[EI];rfl
 ·have A6:=ha z E cx HC Ο s σ H (AIB H1 (∃F1 Ω ds,AVN/\AwW/\D7 OI/\BgM)) I (l6 ⟨F1,Ω,ds,R1,r1,h1⟩);show BES he (fun us s2 ⟨vs,H1,I1,r,F1,Ω,ds,R1,rs,Fh,q⟩=>⟨Β,by show B1 (D7 kB);rw[<- SK,<- tP];exact Fh,Ļ,?_⟩)
  have ge:AzS Ajp=Ε BXf:=by
   have:=z9 (ABw AWD) (o:=AWM) Β;show D5 UI;exact Τ
  have kp:BT2:=AY';generalize hh2:(ABw AWD).P7 AWM=h2 at ge kp⊢;have n1:Ë Ajp:=Amu;generalize hea:BKW=a at ge n1⊢;have hle:AG8<=a:=Υ
  have I2:ADb AOy (Apg h2):=Bh6;have sH:L9 H1 AOy:=Q1 (MS (iB e n1) e)
  show FL f1 (MI F1) (by
   cases q:F1 a with
   | Η=>rfl
   | Ε o=>show BGZ) u1 BcC BcX hs (Zb AG C fl sp (CF::vs) AOy (gN H' (v= BH/\Ag7 /\∃p u F' as tr,Fr H' (Aga p)/\H' p=Ε (.xd [(fl,u)])/\p≠a/\Ë p/\F' p=Η/\tm/\AZg /\AHl F' /\ (Yf (LA F') (SV F1) (yr H1 b o))/\qc/\ (U1 as (SV F'/\AYu))/\a∉as/\TR AG F' H' tr u as/\Bov)) (A_z (∃x F',E Ω x/\Gr F1 H1 F' H' /\BEa))) (by
   refine⟨a,vs,F1,ds,_,_,Β,gU,A4d,f1,rs,q,?_,BgZ⟩;intro t as F' H3 v dx H' gr nd hn tr hp n3 n4 e1 e2 e3;have fa:tm:=by
    cases q:F' a with
    | Η=>rfl
    | Ε o=>
     show Aba (gr.n a o q f1)
     ·show ARu gU
     ·rw[gU] at z;show MR;show Ϯ
   have SQ:MM as (MY/\b≠dx/\AYu):=E4 (by
    have h0:=Đ;have ba:MY:=Anb gU h0 h0 h0 h0 h0 h0 h0 h0 h0 h0 h0 h0 h0 h0 h0
    rw[bJ ba] at h0;show APT e (ATg _ _ _ tr b hb);exact⟨ba,iB e n3,h0⟩)
   have JZ:Yf MY (LA H3) (LA H'):=AI6 ba (CL (e3 b ba (iB e n3)) e)
   refine⟨Β,fun b o eb=>JZ b o Av1 (gr.h _ _ (sH _ _ eb)),dx,v,F',as,t,e1,e2,n4,(sH.trans gr.h).eJ n3,gr.g.free n3,fa,L_,Q1 (JZ b o (iB e fa) (lj gr.g)),cc e (AuJ sH (gr.n b o e n)),nd,ſ Ϥ (AOk SQ),APQ ((SQ a hb).1 Β),A6j GH (AlU (JZ b u (Sj SQ) e)) tr,hp⟩) hl (ANp AQp) (by
   have e:=AV8 hs;rw[H_,<- SK,<- H_ (a:=V.ref a),e])
  have hbs:=hb (yn s2 h2) AQp AfD AoO
  show AGB;refine ARg _ _ _ (ANA::us) AQp _ _ Am5 A4b (AzG ED a) BTG;cases r' with
  | kT e' =>exact ABt Ο σ Ω F1 H1 s2 e' s' I1 R1 (BCd u1)
  | ok Yw =>
   cases Yw with
   | ret u=>
    obtain⟨v,H',os,HP,un,D4,rv,ev,sS,p,pu,F',as,tr,ea,ep,pa,p1,fp,fa,sF,sFH,nT,nd,oL,aas,rG,hE⟩:=hq';subst ev;refine C5 rv;have I3:ADb H' s' :=I2.call' (s' :=s') os un D4 HP Ai2
    obtain⟨t0,gx⟩:=Vr D4 ea;refine⟨_,t0,I3.kIn,gx,Β,Β,?_⟩;have Ce:=Aum un;have nH:BSd:=AXo (by
     show Anx
     ·simp [hb] at eb
     ·exact BZB)
    show FY yH Bak BXN nfr (f_ H' (b∉io)) (YY eb hm (by
     have:=I3.stkFree b hm;show D5 eb;show LH)) (ABt Ο σ Ω F1 H1 s2 ED s' I1 R1 ⟨a,HU,AiA,BY4,Ε p,Β,os,HP,?_,?_,?_,?_,?_,.pay C [fl] [tr],F',hE,⟨sF,?_,?_,nT⟩,Β,p,[pu],as,Β,Be8,Β,fp,p1,nd,oL,RL (ABm GH tr pu as (AlU (yH b u (FI (aas (z ▸ hb))) e)) rG)⟩)
    ·refine⟨Ce.keep,Ce.slot,Jn b o eb n hx,Ce.there,AP8 xs,ADJ u eb,AP8 ps⟩
     ·have:=BcK;simp [Τ]
     ·exact BNd xs
     ·exact Bbt
     ·show FC more q Ce.o8 b ps eb;exact⟨more,Ah6 q⟩
    ·intro b u eb;show Arx;refine Bk3 (AUM q q)
     ·show ArX
     ·show ArX
    ·refine⟨Pl o BMn,zj7 _ zY,?_,BB_ gx APv⟩;exact A9N (a::io) I3.stack BeJ
    ·intro b o eb n;show tF e' (A7a A1)
     refine BRR;rcases EQ hm with Β | hm
     ·exact BVX eb
     ·exact n hm
    ·intro b u eb;show Arx;obtain⟨o,eo⟩:=zyn (D4 b u eb);refine BSv;show BiV
    ·exact AXo (yH b u (iB eb fa) (sFH b u eb))
    ·exact BX5
   | Kx=>show ϱ
   | brk=>show ϱ
   | OE=>show ϱ
structure SX (BdQ uV):Ι where
 ex:Bhf (BWr Zb) ADe
theorem z8w(hh:F7)(G:Bha SX)(hr:AKX)(hg:J_)(ha:TZ)
  (hd:HH:=by decide) (AlV):
  Bdr:=by
 obtain⟨f,fd,h1,h2,h3,h4,h5,h6⟩:=G.ex;exact z4v hh hg h5 h4 h2 h3 h1 hr h6 ha hd he EI
#where
section
variable{X:Cx}{Ο:d8}{σ:St}{H:Hp}{s:AC}{A:Bi}{E:dW}{a C dx:Ζ}{f:Κ}{y v:V}{u:AJ}{fs:oy}{oe:Obj}
theorem ye1(I:AV)(e:Nl AHa)(eo:A4f)(ed:Sl dx AlA)(c:Ó)(n:hG)(l:ARR)
  (h:BDn):BDf:=by
 obtain⟨hx,⟨o,vs,ho,hc,hd,_⟩,_⟩:=(AIP a AHa a e);rw[hx] at ho;show AD ho ho ho ho ho ho ho ho ho ho ho ho ho ho;show F6 mA ns r A_V;show BC'
 show AFe;exact z8i av c n hx hc (by unfold W.notCls;rw[hd]) eo ns hu A9W BBN
def S5(C:Ζ)(f:Κ)(ta:TE):TE:=Ϩ (∃a oe dx fs v,x= CF/\AN6 AHa/\A4f/\H1 dx=Ε AlA/\ARR/\Q v H1)
theorem zum{e:AK}{Ψ:AN}{ta:TE}(BlT):BAu (S5 C f ta):=by
 show DO Q;refine zzq hb (bZ o4 AyE);obtain⟨x,H1,I1,rx,a,oe,dx,fs,v,ex,ea,eo,ed,l,q⟩:=BO;subst ex;show ß;exact ye1 I1 ea eo ed c n l BFR
#where
def Et(AJ_):aF:=A5q (ut AJu (Ε AFM) (D.rt d) (Ε (.nt _ ts)) (D.rT (.tp ts)))
inductive RN where
 | pl (d:D) | nt (ts:ID)
abbrev PB:=A_q Ajv
def tpT(Q:Ajv):GN TW
 | .DV _=>D6
 | .tp ts=>Q (.nt ts)
abbrev S6(Q:Ajv):rB:={nx:=FM (Q (.pl BH)),rt:=fun d=>Q (.pl d),rT:=tpT Q}
inductive J0 (AsL PB):Ι
 | mk:∀F ds P Ex,WC AIy Ahr (sp ds P Ex) ((BDj nK (P (.pl d)))) ((∀ts p vs as F' H',WC tw (F' p=Ε (GW vs)) qc AoZ A8S (P (.nt ts)) (M_ p H'))) Axd (AVz J0)
def J1(K:AA)(sp:PB):Sp:=An4 J0
structure S7 (AKt) (mg:EN) (C3:AM) (x:Κ) (k:Δ) (ps:Ρ) (sp:PB):Ι where
 ex:BBS J1
section
variable{X:Cx}{F0 H0:Hp}{Ψ KL py ep ap tp:AN}{x y fl c:Κ}{C:Ζ}{i j k:Δ}{e:AK}{es:C7}{te:cD}{t:c7}{sp:PB}{ps:Ρ}
theorem yfw(hi:IG)(hv:OY)(AKv):fS (.AtT APo Ψ) (Et i):=fun z E cx=>
 sU (z9q AZq) (fc D hq (by
  obtain⟨F,Γ,D2,R,h,k⟩:=hq;show D' Et;show N9
  ·rename_i d e0;obtain⟨o,eσ,v,Β,rv⟩:=AIK;exact⟨v,eσ,k.rt d v F H R.gr rv h⟩
  ·rename_i as ts e0;obtain⟨o,eσ,p,vs,Β,ep,nd,hn,rt⟩:=AIK;exact⟨RI,eσ,k.rT (.tp ts) AYF as F H R.gr nd hn (TU p ep rt) h⟩
  ·show HL))
#where
section
variable{P:A0}{w:An}{K:AA}{mg:EN}{C3:AM}
theorem abT(Ě)(Acq PB)(Fn:A3 x E2 st)(S:AKa ps)(len:ASN)
  (xw:AKy (∀F0:Hp,
   ∃t,Aom m_/\Aqq (S6 Q))):
  AmH J1:=by
 show AFt;refine QK lk hcd S (ARL H Q E BO) (AKx E hr Bz)
 ·obtain⟨F,ds,P',Ex,_,rs,hs,_⟩:=BO;show AqK
 obtain⟨F0,ds,Pd,Ex,sF,rs,hsp,hQ,hT,hE⟩:=Bz;show Aor;have cx:ASL:=by
  refine⟨fun Ο σ Γ F H1 s1 e s' I R hx=> ?_,AKV⟩;refine AKz;show APY F' x R' xr z1 z ASW
 refine⟨_,ht _ _ cx,F0,Anw,S6 Pd,Ve sF rs,hq ds Pd Ex hsp,⟨fun Γ F' H' σ R' _ q=>BCN,đ,đ,AsC (hQ d v F' H' gr rv q),vT,fun t v as F' H' gr nd hn r q=> ?_,fun _ _ _ _ _ _ _ _ q=>SO⟩⟩
 cases t with
 | DV t=>exact SO
 | tp ts=>
  show Fu p us ep rt r;exact hT ts p us as F' H' gr ep nd hn rt q
#where
abbrev LK:=AR_ RN
def abU(APJ)(t:LK)(E:XW):TE:=AUv (∃F Γ P,IJ/\t Γ P E/\ (Ah0 d v nK (.pl d) ϋ)/\
 ∀ts B4 F' H' p vs as,AH' ->Go ->F' p=Ε (GW vs) ->BC qc BaU A8S (c9 (.nt ts)) (M_ p H'))
def VD(V_)(e:AK)(t:LK):Ι:=Aaq abU
def Eu(sp:PB)(t:c7):LK:=Z' (AhJ BnQ)
def wK(i:Δ)(t:LK):aF:=cy D t r (Axp (.pl d) (AQ3 AFM) (.nt ts) (∀as,ARk nt as ts))
section
variable{X:Cx}{F0 H0:Hp}{e:AK}{es:C7}{Ψ p py:AN}{x y:Κ}{ps:Ρ}{k j:Δ}{sp:PB}{t:c7}{tr:LK}
theorem z22(Ar9 S7):
  E9 VD nE (Eu sp t):=by
 show AcJ Fn hm hk hb;rintro z E cx Ο s σ H Q I ⟨F,Γ,P,R,h,kk,kt⟩;refine AcK;refine ATo (h₀:=SH) ATp hk BPk he EI;obtain⟨vs,H1,I1,r,F1,Ω,ds,R1,sF,rs,q⟩:=Cn;refine AYm;have hs:J1 AG sp vs H1 Q BE_:=⟨F1,ds,_,_,LU,rs,q,BDz,fun ts p vs as F' H' gr ep nd hn rt hp=>kt ts Ω F' H' p vs as AIa AhA ep nd BpE rt hp,Acl⟩;have hl:Aof:=Arw
 have hbs:=hb s1 us Ļ hl;show AGB;refine ARg X.A s1 H1 us us vs Q hr I1.env0 r AQ';cases r with
 | kT e=>exact ABt Ο σ Ω F1 H1 s1 e s' I1 R1 hq
 | ok fl=>
  cases fl with
  | ret u=>show A4Q
  | Kx=>show Zl
  | brk=>show Zl
  | OE=>show Zl
theorem zpm(hN:XA)(hj:AKb)(hy:Loc ASx y)(he:YO VD tr)(hs:AGL (D9 (IA y py)):=by rfl)
  (hf:X.fn y=Μ\/Abz:=by show ARm):AMr [.kK y py] e (wK j tr):=fun z E cx=>
 sU (AZN j hN hj hy Mb hs hf) (dr hq hq ⟨F,Γ,_,R,h,fun d Ω F1 H1 v R1 s1 rv h1=>(ARI (R1.set j rv)),fun ts Ω F1 H1 p vs as R1 s1 ep nd hn rt h1=>Po (AuL j (s:= .nt as ts) (o:=Ε AYF) ⟨p,vs,Β,ep,nd,ſ Ϥ (AN5 hn),rt⟩ (E4 (AOk hn))) s1 (h1 as)⟩)
#where
theorem isV_of{o:BKk}{s:KE}(h:isV o s=Μ):o=Ε (.val (US s)):=by
 show D' isV;show N9
 ·rw[AGp h]
 ·show Pw
def Ba:aF:=ϖ
theorem z03(Aci){st:AO}:AJt Ba:=fun _ _ _ _ _ _ _ _ _ h=>by obtain⟨_,_,_,_,h,_⟩:=h;exact AG0
mutual
def szT:T ->Δ
 | .QP _=>0
 | di=>J2 ts+1
 | AbE=>J2 ts+1
 | Anp=>J2 ts+1
 | Aok=>J2 ts+2
 | Ϸ=>0
def J2:ID ->Δ
 | []=>0
 | R_=>szT t+J2 ts
end
#print _3
namespace _Hd
open KB AK7 Ase LL _2 _3
#print _Hd
namespace _3
open KB P4 LL _2
def Itm(BFf):It:=
 AXs (AWg/\i<kC) (∃c k v,x= Ajn/\RC c/\H' =EH H c BPW/\Ajz (k,v)) (AWg/\kC<=i)
theorem z6o:BNu "dict_itemiterator.__iter__":=
 BQm
theorem zu3{it d:Ζ}{i n ep:Δ}{ok ov:AJ}{Q:dW}{s:AC}{P:A0}{w:An}{A:Bi}{E:dW}(hit:IsItemIter A9 it d i n ep ok ov)(h:M_ it s):Bob:=by
 have hT:AOx it BHi :=N0 hit;refine BBT BtD BtD z6o PySem.F.args_dict_itemiterator_iter_1;exact z7 ⟨_,Β,BHi,_,hT,PySem.F.slot_dict_itemiterator_next.lookup,h⟩
theorem z6b(BCx)(BGH):Turn P w K A8N (AXm Itm) [it] it (U' h (∃ok ov,IsItemIter h it a i kC ep ok ov)) where
 mem:=DB
 obj:=AF_ (by
  show AFS
  show BCn;exact AbI e)
 KG:=AWP (by
  show BCn;exact⟨ok,ov,k it A1 _ e⟩)
 SL:=by
  show WU;show On;show AKk;show F6 ok ov st st;show ASS;show ASA;show BFS
  show BCs;have A_:∀c∈ [it],P1 c:=Ϫ (by
   show GU (c=it) (C6 hc)
   exact zG st)
  refine wpAny_pyNext_items_item st hd hw fun A6 h1 hkey hit ht hsz k1=>(BEZ wpAny_letOwnedTupleGo_items hit);have Hg:A'P it:=sb;have rk:BOu:=by
   rcases Dv hkey with ⟨j,t,Β,Β⟩ | ⟨x,t,Β,Β⟩
   ·exact nI
   ·exact nI
  have I2:BPr BPW:=
   z1o (fp:= [it]) (AW:= [A6,u]) I (BQg (k1 c o iF e))
    A_ ((Hg.2 _ (ALa (A_ it A1))).Ff ht) (BCM rk rv) AoI hf
  exact⟨my,_,I2,Β,⟨_,k,v,Β,Auf,Β,hv⟩,EL _ (CL hl e2),Ϫ (Bdk A_)⟩
 KM:=by
  show WU;show On;show AKk;show F6 ok ov st st;show ASS;show ASA;exact wpAny_pyNext_items_end To st hd AYY (BMr [it] (AMc (eb b o iF e)))
 PF:=Agt (by
  show BCn;exact zu3 e h)
def S8(AQi):TI:=BjY (AXm Itm)
theorem ydw{X:Cx}{e:AK}{te:TE}{LS HC:AN}{elts:C7}{x1}{pt:AN}(he:dq)(JE:BMK:=by rfl)(Mn:mv:=by rfl):
  PI X AiF BMj (S8 te):=by
 show DO R;refine Arb o4 BO;obtain⟨x,H1,I1,r1,a,o,AH,ex,ea,q⟩:=BO;subst ex;show AoK;have ea' :Rd H1 a PU:= .BD (sw ea);show BFt ea';refine Ayz xo "dict.items" AuG BtE PySem.F.type_dict_items hT hN ?_;obtain⟨ho,hz,_,ws,kv,o',es,ep,h1,h2,h3,h4⟩:=BiW;rw[ho] at h1;show Acu;have hm:Aix:=AjN ho;refine Aem BtE hT PySem.F.entry_dict_items (PySem.F.args_dict_items_1 _) (meets_dict_items AMy a hsm) (C5 ⟨ws,o,es,ep,ho,h2,h3,h4⟩);have vw:A2l (AU4 (cq BtF #[CF]) IsItemsView):=iq;have I2:AJd (AXD BQQ):=AgT;show BG (wpAny_pyIter_items (s:=AXD BQQ) vw A0T ?_) ⟨_,[_],_,_,_,Β,Avd I2.kept Å,BFX z6b,?_,NF,q hz⟩
 show A3K (EL _ Si)
 ·show U_ (zR.mp hb);exact I2.fpOk Gc (I2.hok.fresh Gc)
def rN:GE ->AR ->AR:=Ł fun k x=> .Dx [jX k,x]
theorem ybb(Bl2):A5t Itm (rN ks xs):=by
 have hlz:Ba8:=BCc
 have l1:=kE rs;have lp:Sc rN ks xs=min OH By:=AfC;refine AMm (AKw (Ps ⟨ARq,Υ⟩))
 unfold rN at hd;rw[BJN] at hd;cases e1:ks[i]? with
 | Η=>show AsS e1
 | Ε k=>
  cases e2:xs[i]? with
  | Η=>rw[e1,e2] at hd;show ASX
  | Ε x=>
   rw[e1,e2] at hd;show AD hd hd hd hd hd hd hd hd hd hd hd hd hd hd;show AbQ e2;have hik:i<OH:=OT e1;refine ë ARq Υ ARb
   obtain⟨c,k2,v2,Β,hc,Β,z⟩:=z;have z1:=(Ph z).1;have z2:=(Ph z).2;rw[e1] at z1;show AD z1 z1 z1 z1 z1 z1 z1 z1 z1 z1 z1 z1 z1 z1;rw[hv] at z2;show AD z2 z2 z2 z2 z2 z2 z2 z2 z2 z2 z2 z2 z2 z2;show AR9 [kV k,v] s3 hc;refine i6 gr;exact Al8 c (uc (yh9 k) (uc (A8X L_) JS))
def yab(jS):c7:=AZ0 (.dik ks xs) (P (rN ks xs) Ω)
section
variable{X:Cx}{F0 H0:Hp}{e:AK}{te:cD}{elts:C7}{LS HC pt:AN}
theorem yd7{x1}(he:Rc)(JE:BMK:=by rfl)(Mn:mv:=by rfl):A_l BMj (yab te):=Bgf ydw (AVo Bz (by
 show AwU;refine AOZ (fun d Ω F1 H1 v R1 s1 r h1=> ?_);show BkZ (ybb ea EK rs hz)))
#where
def J3(C:Ζ)(i:Δ)(f:Κ)(j:Δ)(tv:cD):aF:=A4t (∃k as fs ts ks xs,A6b A7i (AV6 AzA) (Ayt (.dic ks AZF)) (ARk tr as (BQP k k)))
section
variable{X:Cx}{F0 H0:Hp}{FE:AK}{Ψ ABx Sg KL :AN}{x f:Κ}{C:Ζ}{i:Δ}{tv:cD}
theorem yfp{y:Κ}{j:Δ}{yp:AN}(hu:im)(hc:Ϧ)(hn:hG)(hval:A9w)(hN:IG)(hv:OY)(Y6:AKb)(hv2:Aog)
  (BFk)
  (hb:ANc NC f NC NC:=by rfl)
  (hs:AaT BUJ (IA y yp):=by rfl):
  AXe (ANo BUJ (IA y yp)) (J3 C i f j tv):=fun z E cx=>
 sU (Aam zua (Da ygu ja hb) A8' hval hs) (Amv Qw Qw Ja (by
  obtain⟨k1,as,fs,ts,ks,xs,g1,e0,hl,hsz,hnx⟩:=Ja;obtain⟨o2,e2,v2,Β,r2⟩:=R1.sl j _ g1;have ev2:=JQ r2;subst ev2;obtain⟨a,dx,vs,v0,bs,b1,cs,b2,e1,Β,ea,hv0,Β,nd,hn',rt,back⟩:=ykq R1 e0 hl;obtain⟨c,ws,ds,Β,Β,ec,EK,rl⟩:=rt;show AqG rl;refine⟨CF,e1,a,C,dx,_,Ajn,Β,ea,hc,hn,hv0,kV k1,e2,c,_,Β,BoW k1 ec hsz,?_⟩
  rw[YL EK];refine Po (Bo2 BPK c A6i (t:= .tr BPK (BQP k1 k1)) ⟨_,Β,nd,hn',?_⟩ AP2) s1 hnx
  refine back GH (Õ ?_) ?_
  ·have hbc:b≠c:=Au (by
    subst z;show A8V;show BEJ;rcases WJ with Β | hb
    ·exact n1 A1
    ·show APS WJ hb
     ·exact n2 A1
     ·have p:=AT' n3;show BWf)
   rw[bJ hbc];exact q
  ·exact BYh EK))
#where
theorem yeb{H1:Hp}(S:Aju)(I:AV)(hS:AiW (∃AH o,Aif/\mM/\NY H1 z_))(hN:ci (¬S b) H1 H):AJd s:=by
 have ne:s_ AEt (Arn) (SU H1):=Aa0 (CL (AaU (by show ApE;rw[e] at q;show LZ;exact n _ Β)) q)
 refine I.un (h' :=A9) (t' :=Mc) ⟨fun _ _ q _ _ _=>q,BZa,Jn b ob q n _,A'n ⟨ob,q⟩,A5N,BXn,Pl ps (C5 #[])⟩ ć
 ·rw[AaU (by show ApE;rw[e] at n;show AD n n n n n n n n n n n n n n)];exact n
 ·exact A'a
 ·exact A'a
 ·rw[A'a];simp
 ·have st:BYg H1:=iP (k.stay Ay1 (hZ z (ne c _ z Ay2)) fun c xs z=>ne c _ z Ay2)
  by_cases hb:S b
  ·obtain⟨AH,o,e1,e2,e3⟩:=ADj;rw[e3] at q;show LZ;exact⟨e2,st (KI b _ e1)⟩
  ·rw[Akh] at q;exact st (KI b u q)
theorem ybv{H2:Hp}(S:Aju)(I:AV)(hS:Bb3)(hN:ci (¬S b) H2 H)(n0:AiW Bm'):QY H2 s:=by
 have ne:s_ AEt (BTk) (SU H2):=Aa0 (CL (AaU (by show ApE;rw[e] at q;show LZ;exact n _ _ Β)) q)
 show FY nn (Aka (SV H2)) (fF q (CL (AaU (by show ApE;rw[e] at q;show LZ)) q)) st (BYg H2) BYj ⟨xc,I.os,Ĳ,⟨AtC,AtE,Aoo hx (nn b (BS4 q hx)),BHV,Pl xs (ne b _ (AeG b xs q) (MG z Ř)),YY w q ?_,OQ ps q⟩,pp,kG,nn _ xN,fun x c q=>nn c (AGc x c q),ip,ć,AGd⟩
 ·rw[AaU (n0 b z _ _ q)];exact AS1 b u w q
 ·show FC m k AeH b ps q;exact⟨m,ne b _ k (MG z Ř)⟩
 ·show Ct h1 h2 h3 ABX p hp;exact⟨h1,nn _ h2,h3⟩
 ·by_cases hb:S b
  ·show A8s;rw[e2] at q;show LZ;exact st (KI b _ e1).2
  ·rw[Akh] at q;exact st (KI b u q)
mutual
def jq:T ->D
 | RR=>d
 | di=> PV nM ts
 | wc=> .dik ks (nM ts)
 | AAb=> .qJ ks (nM ts)
 | AAo=> .obj C fs (nM ts)
 | .kt k=> BR7
def nM:ID ->AR
 | []=> []
 | R_=>jq t::nM ts
end
section
variable{K:AA}{F H F' :Hp}
def rO(H F' :Hp)(a:Ζ):Ι:=Agr ((∃o AH,u= .dK AH/\Fr F' ACt)\/ (Arn)/\Alz)
theorem rO.d(h:Aqk)(e:AE'):∃o,Fr F' z_:=by
 rcases h _ e with ⟨o,_,_,q⟩ | ⟨n,_⟩
 ·exact sw q
 ·exact(n _ Β).UC
theorem rO.o(h:Aqk)(e:AH2)(n:Arn):Alz:=by
 rcases h _ e with ⟨o,_,q,_⟩ | ⟨_,q⟩
 ·exact(n _ q).UC
 ·exact q
mutual
theorem TR.repN(f:Go):BFi Aqk (AMe (jq t) v)
 | RR,v,as,k,h=>BZg
 | di,v,as,k,h=>by
  show Acb Β;exact⟨a,vs,e1,AHc (BBH e3 AOW),A4M⟩
 | wc,v,as,k,h=>by
  show ARB;show VX o ((k a zY).d e3);exact⟨a,o,vs,e1,e,e4,A4M⟩
 | AAb,v,as,k,h=>by
  show ARB;exact⟨a,vs,e1,.DH (BBH e3 AIu),e4,A4M⟩
 | AAo,v,as,k,h=>by
  show Acp Β;exact⟨a,dx,vs,e1,BBH e3 AIu,e5,BEo AfY⟩
 | .kt k,v,as,_,h=>by
  obtain⟨_,a,e1,e2⟩:=h;exact Bfe
theorem AfY(f:Go):BFj Aqk (AU2 (nM ts))
 | [],vs,as,k,h=>IU Ee
 | R_,vs,as,k,h=>by
  show Aoz;exact⟨v,us,e1,BAc TR.repN,BAg AfY⟩
end
#where
def Zc:ER ->ER | .ow ds=> NB ds | .tr _ t=> .pu (jq t) | .nt _ ts=> .pu (GW (nM ts)) | .xe _ C _ _=> .pu A9Z | s=>s
def mF(Γ:G2):G2:=Γ.map Zc
def LDn(u:HO):Ι:=va\/∃o AH,u= .frz o PU
def cZ(Γ:G2)(σ:St)(H:Hp)(b:Ζ):Ι:=Q3/\∃AH,Aif
open x_ in
theorem yda(Ayv){σ:St}{Γ:G2}(R:IJ)(ob:Ζ ->Obj):∃F1 H1,ű/\BdM/\ (BbU)/\ (BVU)/\
  (BbJ)/\A'B:=by
 let H1:Hp:=ir (if ce then BaL else H b)
 have hS:BbJ:=E4 (by
  show VX AH hb.2;refine CU AH e;show(CD ce BaL (H b))=_;rw[DZ hb,e];rfl)
 have hN:A'B:=A1Q
 let F1:Hp:=ir (gE AOX F AyT)
 have fo:AjB (∃u,AEt/\va):=E4 (by
  obtain⟨j,s,o,e1,e2,hs⟩:=id hb;obtain⟨o',e3,r⟩:=XN j _ e1;rw[e2] at e3;show AD e3 e3 e3 e3 e3 e3 e3 e3 e3 e3 e3 e3 e3 e3;obtain⟨h1,_,u,h2,ld⟩:=Ea r hs;exact⟨h1,u,h2,ld⟩)
 have s1:ű:=Bb8
 show FL at1 (ci Q3 F1 H1) (fF h2 (by
  show BOn=_;rw[Cc (AY3 (fo b h2).1),DZ h2])) s2 (ACa H1) (Sr (by
  by_cases ho:Q3
  ·rw[at1 b ho] at e;exact e
  ·have e' :AM1 AOX (F b) AyT:=e;split at e'
   ·rw[hN b (Au (ho z.1))];exact AQU e'
   ·first | cases e' | (rw[Cc ho] at e';show Ϯ))) Jt (BFP (mF Γ)) (BDs (by
  show ZY mF;show BLD;cases q:AJu with
  | Η=>rw[q] at e;show Do
  | Ε t=>
   rw[q] at e;(show MQ t t t t t t t t t t t t t t)<;>(show Do;exact AkT))) A5 BVU (E4 (by
  obtain⟨h1,u,h2,ld⟩:=fo b hb;refine C5 h1;rw[at1 b hb];by_cases hn:ce
  ·show AX9 AH (hS b hn);exact EL e (.BD AQS)
  ·exact⟨u,CL (hN b hn) h2,.DH ld⟩))
 refine⟨F1,H1,s1,Bho mF,OQ hb hn,A5,hS,hN⟩
 ·show ZY mF;rw[FS] at e;cases q:AJu with
  | Η=>rw[q] at e;show Do
  | Ε sl=>
   show BTH i sl o e1;have mine:MH (gV sl o b) (rO H F1 b):=fun b hb u hu=>by
    have ho:Q3:=BkA;rw[at1 b ho];by_cases hn:ce
    ·obtain⟨AH,e,e'⟩:=hS b hn;rw[e] at hu;show AD hu hu hu hu hu hu hu hu hu hu hu hu hu hu;exact CS (AAT e')
    ·refine .BD ⟨fun AH z=>hn ⟨ho,AH,IC hu z⟩,CL (hN b hn) hu⟩
   cases sl with
   | no=>show Do;trivial
   | pu d=>show Do;show ZU v rv r;exact AJ0 A3W
   | ow ds=>
    show BlX ((mine a Β).o h1 AOW)
   | tr as t=>
    show Do;obtain⟨v,Β,nd,h1,rv⟩:=r;exact AJ0 (TR.repN s1 t v as BT4 rv)
   | nt as ts=>
    show Do;obtain⟨p,vs,Β,e2,nd,h1,rv⟩:=r;refine CU RI Β;exact TU p (Ax_ s1) (AfY s1 ts vs as BT4 rv)
   | xe as C fs ts=>
    show BlW
 ·show BOn=Η;show ZN (AY3 hb) hn
section
variable{K:AA}{F F' :Hp}
mutual
theorem yds(BT7):BFy (rJ d)
 | BH,_,_,h=>J'
 | ly,_,_,h=>J'
 | dc,_,_,h=>J'
 | i7,_,_,h=>J'
 | AEr,_,_,h=>J'
 | AEy,_,n,h=>by
  show AAw a vs;refine BDa (zlh hA ds vs n h2);show BEw
  ·rcases ARr with (z | ⟨_,_,z⟩) | z
   ·exact z.tup.elim
   ·show AIf
   ·exact CS (HG z)
  ·rcases ARr with (z | ⟨_,_,z⟩) | z
   ·exact z.frz.elim
   ·show AIf
   ·show AZK z
  ·exact C_ h1
 | AZZ,_,n,h=>by
  show Ar6;refine⟨a,dx,vs,h0,?_,h3,zlh hA ds vs n.2 h4⟩;rcases ARr with (z | ⟨_,_,z⟩) | z
  ·have:=z.ins;show ng (z26 h3) n.1;show LH
  ·show AIf
  ·exact z
 | og,_,n,_=>WF
 | ϸ,_,n,_=>WF
 | ă,_,n,_=>WF
 | Ċ,_,n,_=>WF
 | AQR,_,n,_=>WF
theorem zlh(BT7):BFz AI'
 | [],_,_,h=>J'
 | Z3,_,n,h=>by
  show AAw v r;exact⟨v,r,h0,yds hA d v n.1 h1,BCv zlh⟩
end
#where
structure J4 (Bkc) (σ:St) (Γ:G2) (F1 H1:Hp):Ι where
 R:BdM
 back:∀{F' H' :Hp} {B4 :G2},SR K F1 H1 F' H' σ B4 ->AZg ->∃F2 H2,y_ F2 H2/\kz F2/\ (∀ds vs,AI' ->AIc ->aL K F2 ds vs)/\ (∀a u,MI H1 ->AwM ->Fr H2 u/\ï/\AFX/\ (tm ->MI F2))/\
  (Awr)/\Awp
 hS:MH ce (∃o AH,Aif/\NY H1 z_)
 hN:A'B
section
variable{X:Cx}{F0 H0:Hp}{e:AK}{te:cD}{tf:c7}
open x_ in
theorem lent{K:AA}(I:AV)(R:IJ):∃F1 H1,AJd s/\Bkd/\AnB:=by
 obtain⟨F1,H1,s1,R1,n1,o1,hS,hN⟩:=yda R (ir ((PD b).XL bP));refine⟨F1,H1,yeb BCm I AZA hN,⟨R1,fun{F' H' B4} R' s' => ?_,NF,hN⟩,Jn b hb o u w⟩
 ·obtain⟨AH,e1,e2⟩:=ADj;obtain⟨_,_,_,_,o,_,_,e,_⟩:=(AIP b PU b e1);exact⟨AH,o,e1,e,Ş e2 e⟩
 ·have gr:A_T Ŵ (gI (gE ce H (H' b))):=by
   refine A8Q MX
   ·show A7 (BA hb (AO6 (Sj o1)))
    exact s' _ _ A3d
   ·have e' :Aow:=e;split at e'
    ·show AW7
    ·show AI1;show A7 (GV (hb w.1));exact R'.g _ _ e'
   ·split
    ·exact e
    ·show AI1;exact Aud _ _ (EM Akh e)
   ·have e' :Bot Ŵ:=e;split at e'
    ·show AW7
    ·show AI1;have:=BQj;unfold yr at Τ⊢;show D5 (hN b (GV (hb w.1)));exact Τ
  refine⟨_,_,ABq gr,L_,fun ds vs hd hr=>zlh (MX) ds vs hd hr,M' a u h1 h2,E4 Aj7,A1Q⟩
  ·by_cases hb:Q3
   ·obtain⟨_,w,ev,ld⟩:=o1 b hb;show Abs (s' _ _ ev) e;show LH;exact CS ld
   ·exact C_ (by show Aow;show A7 hb;exact e)
  ·have nn:¬cZ Γ σ H a:=GV (by obtain⟨_,_,e⟩:=hS a w;rw[e] at h1;show AD h1 h1 h1 h1 h1 h1 h1 h1 h1 h1 h1 h1 h1 h1)
   have hH:Ü:=Nw (hN a nn) h1
   refine⟨by show(CD (cZ Γ σ H a) (H a) (H' a))=_;show A7 nn;exact h2,?_,ATm hH,II hF⟩
   ·cases q:H0 a with
    | Η=>rfl
    | Ε w=>show A4Z (Aeu _ _ q) hH
   ·split
    ·rfl
    ·exact hF
 ·obtain⟨AH,e1,e2⟩:=ADj;exact⟨_,AH,e1,e2⟩
 ·obtain⟨AH,e1,_⟩:=ADj;show A4Z (AS1 b o u w) e1
theorem J4.thaw{K:AA}{H2:Hp}(L:Bkd)(n0:AnB)(I' :ACh s)(sm:Ag7)(h1:Awr)(h2:Awp):QY H2 s:=by
 refine ybv BCm I' AZA h2 n0;obtain⟨o,AH,e1,e2⟩:=A1X;exact⟨o,AH,sm _ _ e2,CL (h1 b hb) e1⟩
def Bb(jS):cD:=A8U te d (rJ d) d
theorem zv5(h:wy Rc):EW e (Bb te):=fun z E cx=>by
 show Acr;show Arh;refine BDI q (BGD hp) hq
 ·obtain⟨F2,H2,R2,sF,rs,_,e1,e2⟩:=BAl;have r2:=BQk rs r
  show BZL (A8p (k d Γ F2 H2 v R2 sF r2 hp.2))
 ·show AsJ hq;exact A9G
def Ew(tf:c7):c7:=A8U tf ds AI' ds
theorem z2j(h:wy A7h):YO QF (Ew tf):=fun z E cx=>by
 show Acr;show Arh;refine BDI q (fun ds B4 F' H' a vs R' s' ea fa ha rs ap hp=> ?_) hq
 ·obtain⟨F2,H2,R2,sF,rc,at2,e1,e2⟩:=BAl;obtain⟨q1,q2,q3,q4⟩:=at2 a _ ha ea;exact A8p (k ds Γ F2 H2 a vs R2 sF q1 (q4 fa) q2 (rc ds vs hp.1 rs) q3 hp.2)
 ·show AsJ hq;exact A9G
#where
#print _3
namespace _3
open KB P4 LL _2
section
variable{X:Cx}{F0 H0:Hp}{Ψ:AN}{L6:Re}{hs:APX}{h0:Au_}{tb:aF}
theorem z7l{a b:AK}{ta tb:cD}(hu:im)(ha:ZT)(hb:Ϭ)(hm:Av' AJP):BQf AJP (Nk Μ):=fun z E cx=>
 Vb (A1N (Da zx7 hu G1 N_) hm) (NI DW DW (AcI (by
  obtain⟨ks,xs,kk,e1,Β,hp⟩:=h2;show AKf r2;show BCZ r1 ⟨c,_,Β,BP',_,Β,?_⟩;rw[zt4 EK];exact k _ BF F2 H2 R2 tq hp)))
#where
section
variable{CY:A0}{w:An}{A:Bi}{E:dW}{K:AA}{h:AM}{g:Ϣ}{d:AS0}{t:Δ}{os:ABH}{x C dx:Ζ}{o:Obj}{EB:Κ}{v:AJ}
theorem z5a{Q:ĉ}{m:EN}{ns:Ρ}(X:Tl)(c:AOq)(hn:A3q)(hx:A3_)(hc:AmM)(hnc:A9v)(hd:BNA)(hns:h.Ns1 dx m)(hw:Within m ns)(hz:D7 (IO+1))
  (hq:∀h' tk',h'.Ns1 dx (BCb (m y)) ->AeJ dx h h' ->BVr):
  AQ0 A'8:=by
 show BQ8;obtain⟨od0,es0,ep0,hod,_⟩:=id hns;have J:A8q (D9 od0):=⟨hx,hc,hnc,CL hd hod⟩
 refine BhT;obtain⟨bm,N,nm,qn,bs,PM,sn,B_,ab,col,dd,k0,k1,k2,k3,k5,e1,T,ht,cd,hcd,yb⟩:=Ec X c.cls;have B_:AT7 OP h (AG6 h_ BK3) Μ:=Be5;refine Auu Bsc SF.entry (BpZ OP _ _ AU0 Asp Ac3 Ad0 h_ BTg [] _ SF.kind SF.split B_ BVD ?_);have hm:BeH:=BiD;show BlK;rw[hd'];show vz
 refine ADz;refine BU4 hns;show BYo hw;refine BEe (gc H_ BJl hz)
 exact z7 (hq h' _ hn' hs)
#where
section
variable{CY:A0}{w:An}{A:Bi}{E:dW}{K:AA}{s:AC}{C a:Ζ}{Be:Env}{Q:Akq}
theorem z4m{m c:AVJ}(hC:ē)(hh:A9a)(hc:Bej c)
  (hm:AV9 m (gN EU (∃e oe fv o vs,Bbe (ArU (ADT ATc/\AmL/\AWz/\a≠e/\
   ADZ (SE e=Ε Bee) (AO9 e ATc) (Ai3 (yn EU h'))))))):Kb (raiseStmt Be (D9 m) (Ε c)):=by
 refine æ hm (Abu v) vk;obtain⟨e,oe,fv,o,vs,Β,X,he,hc',hda,ha,hd,h2,ne,hE⟩:=a_;obtain⟨bm,N,nm,qn,bs,PM,sn,B_,ab,col,dd,k0,k1,k2,k3,k5,hC,T,ht,cd,hcd,yb⟩:=AKU;have hcB:ApW AcF:=BYH
 show AM4 EU;obtain⟨oc,od,oda,osl⟩:=oe;subst hc' hda;refine AI5 (hc _ _ Ayb)
 show Bin
 show FL hCe (e≠C) (Au (by rw[<- z] at hC;rw[show hp.get? e=_ from hC] at he;show AD he he he he he he he he he he he he he he)) g1 (∀(h:AM) f b u,b≠e ->SU Me ->SU (Aup e f).Hm) (fun h f b u n q=>(AN_ (lr n)).Ff q) he3 ((hp.update e (Obj.mapFields (·.setIfInBounds 3 Value.none))).Hm e=Ε (AWw fv osl)) (Apc he) he4 (((hp.update e (Obj.mapFields (·.setIfInBounds 3 Value.none))).update e (Obj.mapFields (·.setIfInBounds 4 (Value.bool true)))).Hm e=Ε ⟨HU,od,ACU (AvR fv AXJ),osl⟩) (Apc he3);have hC4:=g1 _ (Obj.mapFields (·.setIfInBounds 4 (Value.bool true))) C _ (lr hCe) (g1 hp (Obj.mapFields (·.setIfInBounds 3 Value.none)) C _ (Ne.symm hCe) hC);have ha4:=g1 _ (Obj.mapFields (·.setIfInBounds 4 (Value.bool true))) a _ ne (g1 hp (Obj.mapFields (·.setIfInBounds 3 Value.none)) a _ ne ha)
 repeat (first | show ADt he4 | show ADt hC4 | wp_step)
 refine zw3 hh ha4 hd h2 ne he4 Β (AZB (2<6)) (hE _ (BKs he4 Β) (YY n q (g1 _ _ b u n (g1 _ _ b u n (g1 _ _ b u n q)))))
theorem z4p(Blx){E8:C7}{cause:AK}{Q:Akq}(hC:ē)(hh:A9a)(ALy:AMU Ao2)
  (hi:AJI) (hf:AcW) (hca:Bej (ADX cause))
  (h:AqL (IA y np) fv (fv= HU/\AXV (evalArgs KU Μ Ao2 []) (fun ar KK=>ar.kw= []/\D7 ar.pos.length/\BL2/\
    r9 (AbC (GY (HU::ar.pos))) (Anj AOh ar.pos) (AmF (∃oe fv o vs,BL1/\BW2/\ArU (ADT Au2/\AmL/\AWz/\a≠BKX/\
      ADZ (SE AOh=Ε Bee) (AO9 BKX Au2) (E (BY AOh) (AUg h'))))) E (BRt (sB ar.pos.toArray) BMC)))):
  BZn (D9 cause):=by
 rw[Bse];refine A1L (z4m hC hh (fun EU P hP=>z6 (hca _ _ (z6 (ATB (z7 hP))))) ?_);refine BOS (û h (Abu fv) vk) BfL;show AEX a_ a_;refine AI5 (û a_ (fun ar KK qS=>A1y) vk);show n_ LS akw ar;show BiA;show GU (akw= []) hkw;show AM4 KK;obtain⟨bm,N,nm,qn,bs,PM,sn,B_,ab,col,dd,k0,k1,k2,k3,k5,hC',T,ht,cd,hcd,yb⟩:=AKU;simp only [ALy];refine BSq;refine z6 (z3c X hC hi hf (û qS (fun r s' hr=>Bb1) A5M) Fh);obtain⟨_,oe,fv,o,vs,X',he,hc,hda,ho,hdo,h2,ne,hE⟩:=hr;exact⟨_,oe,fv,o,vs,Β,X',he,hc,hda,ho,hdo,h2,ne,hE⟩
#where
section
variable{X:Cx}{Ο:d8}{σ:St}{H:Hp}{s:AC}{A:Bi}{E:dW}{a C dx:Ζ}{f f1:Κ}{y v1:V}{u:AJ}
theorem ydh(I:AV)(e:Nl ARG)(ed:Sl dx BVB)(c:Ó)(n:hG)(nf:f≠f1)(ry:RY)
  (h:Aaw (È dx BWo s')):BCg:=by
 show A_4;obtain⟨mA,ns,r⟩:=A_V;have hw:Within mA [f1]:=fun g hg=>by
  by_cases q:g=f1
  ·rw[q];exact AfZ Β
  ·have:=r g;have hb:AEq f1:=A1j;simp only [Ĺ,hb] at Τ;cases z:mA g with
   | Η=>show MT z hg
   | Ε w=>show D5 z;exact this.elim
 obtain⟨hp,gg,d,tk,os⟩:=s;refine z5a av c n hx Β Β Β ns hw (by rw[ATW,ALl];show AF) fun h' tk' ns' sb=>h _ ?_
 obtain⟨o',es,ep,EA,_⟩:=id ns';refine I.write (t' :=tk') (x:=dx) (e:=dx) (AwJ ed) YR (zk u z (Ame hb z)) (E6 EA) (EL ns' (II g))
 have rg:=r g;by_cases q:g=f
 ·have hb:AEq f1:=ALP (q ▸ nf);have hb2:A5S:=BLP;simp only [Ĺ,hb,hb2,L3];exact ry
 ·have hb2:AEq f:=A1j;show A7 q;by_cases q1:g=f1
  ·have hb:Ŕ g f1:=BHw q1;simp only [Ĺ,hb] at rg⊢;exact rg
  ·have hb:AEq f1:=ALP q1;simp only [Ĺ,hb,hb2] at rg⊢;exact rg
#where
def S9(BlP):TS:=BBZ (∃a dx f1 v1,x= CF/\Fr H2 ARG/\H2 dx=Ε BVB/\f≠f1/\AHv (EH H2 dx BWo))
section
variable{X:Cx}{o FE:AK}{f:Κ}{Ψ KL :AN}{ta tv:TE}{C:Ζ}
theorem yc6(BmG):BeE S9:=by
 show DO D;refine AWp BHz Ako BO hs;obtain⟨y,H1,I1,ry,q⟩:=BO;refine ADG A_p ov Bz;obtain⟨x,H2,I2,rx,a,dx,f1,v1,ex,ea,ed,nf,q2⟩:=Bz;subst ex;show A2_;exact ydh I2 ea ed c n nf ry (AOY ⟨σ,_,I3,q2⟩)
#where
structure Tc (Azh) (k:Δ) (f:Ζ) (fd:GA) (C:Ζ) (f1 f2 a1 a2:Κ):Ι where
 run:∀(b0:Ζ) (A:Bi) (DD:Lo) (s:AC) (H:Hp) (E8:Args) (us:At) (x:Ζ) (v1 v2:V) (Q:VK),Aij ->Ao5 ->Hb (BYc (ź).zip) (ř [.B9 x,v1,v2]) BWn (∀dx H',RC dx ->BkM BWp H) (AJA ACr (A.mark (Ε (BY b0))) MD E8 (ANJ (∃u,r= .ok (.ret u)/\BGF)) s)
section
variable{P:A0}{w:An}{K:AA}{mg:EN}{C3:AM}
theorem ya5(Ě){st:AO}{f:Ζ}{fd:GA}{k:Δ}{C:Ζ}{f1 f2 a1 a2:Κ}{p1 p2 p3 p4 p5 p6 p7 p8:AN}(Fn:Aa8)
  (hbd:yM st= [.ALZ [.xn AmC f1 p2] (IA a1 p3) p4,.ALZ [.xn (AIF p5) f2 p6] (IA a2 p7) p8]) (S:DF ź ź st)
  (hc:AOq) (hn1:ADk f1) (hn2:ADk f2) (nf:f2≠f1) (hv0:A6_) (hv1:qI (aZ st) a1) (hv2:qI (aZ st) a2)
  (hs1:∀Be:Env,AHU (AGi (IA a1 p3) (D9 (yz AmC f1 p2)) p4.line Be)) (hs2:∀Be:Env,AHU (AGi (IA a2 p7) (D9 (yz (AIF p5) f2 p6)) p8.line Be))
  (hd1:ã a1:=by decide) (hc1:AN9 a1:=by decide) (hd2:ã a2:=by decide) (hc2:AN9 a2:=by decide):
  BeZ LY:=by
 show AFt;refine⟨fun b0 A DD s H E8 us a v1 v2 Q hr e0 hb r hx hQ=> ?_⟩;have KX:AJ8:=Bq_ Ayk;have lim:Bq':=BQt;have hkind:∀y∈ (ź).zip us,Bg8 AMx\/ (Bg8 cz/\ (Ana oa (aZ st).I_ [] y.1).Į=Μ):=fun y hy=>by
  obtain⟨n,v⟩:=y;rcases BSN with q | q
  ·exact CS q
  ·exact C_ BUu
 show BG (BrA (A:=A.mark (Ε (BY b0))) hr.depth (KX _ _ lk) Β S.co S.gen Β BY9 BLi) Bhu;subst he;refine BZC;have I0:Inv A_L [] BBo H s1:=Bj_ Β;have I:Inv (((A_L).ACG b0).wsh AUz) [] BBo H s1:=ya0 (z:=E6 []) (Ο:= []) (Rk I0 b0);have W:=(zpk (X:=((A_L).ACG b0).wsh AUz) (z9f (Ψ:=p4) (KL :=p2) hc hn1 (AqQ p1 0 Β hv0) (AqQ p3 1 Β hv1 hd1 hc1) (hs1 _)) (zt7 (yc6 (Ψ:=p8) (KL :=p6) hc hn2 (AqQ p5 0 Β hv0) (AqQ p7 2 Β hv2 hd2 hc2) (hs2 _)))) [] s1 BBo H Ba7 I
  ⟨v1,Β,CF,Β,a,Β,hx,fun dx n1 n2=>⟨v2,Β,CF,Β,a,dx,f1,v1,Β,A4n,gU,nf,hQ dx _ n1 n2 (by rw[ADc n2,ADc n2,gU]) gU (BZS (bJ q2))⟩⟩
 rw[<- hbd] at W;refine SI W (As fl s' hs) fun e s' z=>z.elim;cases fl with
 | ret u=>
  obtain⟨v,DI,H',J,rv,q⟩:=hs;exact⟨_,Β,v,H',J.os,J.bare,J.base,J.hok,rv,q⟩
 | Kx=>
  obtain⟨DI,H',J,q⟩:=hs;exact⟨_,Β,V.non,H',J.os,J.bare,J.base,J.hok,Β,q⟩
 | brk=>
  show ArZ
 | OE=>
  show ArZ
#where
def Ey(F:Hp)(a:Ζ):Ι:=∃o C,A3a/\Akf
def zvb(C:Ζ)(f1 f2:Κ)(uk):aF:=A6v (∃d1 d2,ds= [d1,d2]/\BVC)
section
variable{X:Cx}{F0 H0:Hp}{e1 e2:AK}{Ψ np HC cp:AN}{t:c7}{x f1 f2 a1 a2:Κ}{C f b0:Ζ}{fd:GA}{k:Δ}
theorem z4r{j}(hA:Ey F0 b0)(hg:J_)(hm:AEM)(hC:Ó)(hi:Bg6)(hf:BQJ)
  (Fn:AgU Tc k f fd C f1 f2 a1 a2) (hr:AKX) (hb:ATK AG fd ź []) (ha:QA (ABu b0) F0 H0 APG t)
  (hd:HH:=by decide) (he:fR APG e1 [e2]:=by rfl) (EI:AMU (ANE [e2]):=by rfl):
  BhN:=by
 rintro z E cx Ο s σ H D I ⟨F,Γ,D2,R,h,k'⟩;refine UY z4p K AG C C f f a b0 hC.cls Β ?_ hi (AGp hf) (fun EU P hP=>Bqd hP) (Gf (X:=BBr z) I hg hm Ϲ hd)
 ·rw[he];show PR (false || (backTo cpos (starEach [e2] X.env)).any (·.1))
  rw[EI];rfl
 ·have A6:=ha z E cx HC Ο s σ H (AIB H1 (∃F1 Ω d1 d2,AVN/\aL AG F1 [d1,d2] vs/\BVC)) I (l6 (by
   obtain⟨d1,d2,Β,hE⟩:=h1;exact⟨F1,Ω,d1,d2,R1,r1,hE⟩))
  show BES (show AS6 APG ((ABu b0).wsh z).Be=_ from he) (As us s2 hq);obtain⟨vs,H1,I1,r,F1,Ω,d1,d2,R1,rs,hE⟩:=hq;have Fh:D7 kB:=by rw[<- SK,<- tP,ALl];show B1 (2<=_);show AF
  refine⟨Β,Fh,Ļ,?_⟩;have ge:AzS Ajp=Ε BXf:=by
   have:=z9 (ABw AWD) (o:=AWM) Β;show D5 UI;exact Τ
  have kp:BT2:=AY';generalize hh2:(ABw AWD).P7 AWM=h2 at ge kp⊢;have n1:Ë Ajp:=Amu;have hle:AG8<=AG8+1:=ATx _;generalize hea:BKW=a at ge n1 hle⊢;have I2:Inv (BBr z) Ο σ AOy (Apg h2):=Bh6;have f1n:MI F1:=by
   cases q:F1 a with
   | Η=>rfl
   | Ε o=>show BGZ
  have u1:BcC:=BcX;obtain⟨v1,_,Β,rv1,v2,_,Β,Vm,Β⟩:=rs;have hl:VA AQp= VA ź:=by
   rw[H_,<- SK];rfl
  have hbs:=hb (yn s2 h2) AQp AfD AoO
  rw[UK] at hbs;have E0:=I2.env0;have E1:Bbu (Apg h2) AOy:=⟨E0.frames,E0.mod,E0.bs,E0.bsz,E0.funs,E0.frf,E0.hok,E0.bare⟩;refine Av6 Ae2 (AuS b0 (X.A.under (Av0 (GY (HU::us)))) O_ _ _ (GY (ANA::us)) AQp a v1 v2 (gN H' (v= BH/\∃p,Fr H' (Aga p)/\H' p=Ε BWp/\p≠a/\Ë p/\∀b,MY ->AP4 ->H' b=H1 b)) Am5 (E1.make C us []) hbs (AzG ED a) gU fun dx H' n3 n4 e1 e2 e3=>⟨Β,dx,e1,e2,n4,by rw[bJ n4] at n3;exact n3,BZR (e3 b h1 h2)⟩) BTG
  show F6 u Β hq' hq';obtain⟨v,H',os,HP,un,D4,rv,ev,p,ea,ep,pa,p1,e3⟩:=hq';subst ev;refine C5 rv;have I3:Inv (BBr z) Ο σ H' s' :=I2.call' (s' :=s') os un D4 HP Ai2
  obtain⟨t0,gx⟩:=Vr D4 ea;have sS:Ag7 :=Q1 (CL (e3 b (iB e n1) (iB e p1)) e)
  obtain⟨o0,C0,ho0,hd0⟩:=hA;have g0:H' b0=Ε (.frz o0 (jf b0 C0)):=sS _ _ (LU _ _ (R1.gr.f _ _ ho0));obtain⟨k1,⟨o1,vs1,k2,k3,k4,k5⟩,_⟩:=I3.hok b0 _ g0;rw[k1] at k2;show AD k2 k2 k2 k2 k2 k2 k2 k2 k2 k2 k2 k2 k2 k2;show FY k6 (IS vs1 2 eC) (k5.resolve_right fun n=>n hd0) ne0 (b0≠a) (Anb ea g0 g0 g0 g0 g0 g0 g0 g0 g0 g0 g0 g0 g0 g0 g0) ⟨_,t0,o0,vs1,I3.kIn,gx,Β,Β,k1,k4,k6,ne0,iX gh kh⟩;have Ce:=Aum un;have nH:BSd:=AXo (by
   show Anx
   ·simp [hb] at eb
   ·exact BZB)
  have yH:Bak:=BXN
  show FL nfr (f_ H' (b∉io)) (YY eb hm (by
   have:=I3.stkFree b hm;show D5 eb;show LH)) old (Ś Aez MY) (fun b o eb z=>(BVX (z ▸ eb))) nfa (a∉io) (nfr a _ ea) fp (F1 p=Η) (R1.g.free p1);refine ABt Ο σ Ω F1 H1 s2 ED (AUg h') I1 R1 ⟨a,HU,AiA,BY4,Ε p,Β,os,HP,?_,?_,?_,?_,?_,.pay C [f1,f2] Bo1,F1,hE,AEQ ?_ ?_,Β,p,[v1,v2],[],Β,Be8,Β,fp,p1,AfN,(MO (sq hb hb hb hb hb hb hb hb hb hb hb hb hb hb)),?_⟩
  ·refine⟨fun b o eb n h1 h2=>kh b o A_w (Ce.keep b o eb n h1 h2),fun b o eb n h1 h2=> ?_,Jn b o eb n hx,ADJ eb hx,AP8 xs,ADJ u eb,AP8 ps⟩
   ·obtain⟨sl,q⟩:=Ce.slot b o eb n h1 h2;exact⟨sl,kh b _ A_w q⟩
   ·have:=BcK;simp [Τ]
   ·show tF q (A7a hx);exact⟨o',kh b _ A_w q⟩
   ·exact BNd xs
   ·exact Bbt
   ·show FC more q Ce.o8 b ps eb;exact⟨more,Ah6 q⟩
  ·intro b u eb;show Arx;refine Bk3 (fun c o hc q=>kh c o (BA hca ?_) q)
   ·rcases hc with hc | hc
    ·exact hb (hc ▸ hca)
    ·rw[hca,ea] at hc;show AD hc hc hc hc hc hc hc hc hc hc hc hc hc hc
   ·show ArX
   ·show ArX
  ·refine⟨Pl o (kh b o (FI (A_o (zj7 _ ġ))) BRg),zj7 _ zY,?_,BB_ gh (.BD (Au Ř))⟩
   have k:=A9N (a::io) I3.stack BeJ;exact k.of_keeps (A5U (kh b o (FI (by subst z;rw[gx] at q;show LZ;exact n _ Β)) q))
  ·intro b o eb n;show tF e' (A7a A1)
   refine BRR;rcases EQ hm with Β | hm
   ·show AFL (old _ _ eb)
   ·exact n hm
  ·intro b u eb;show Arx;obtain⟨o,eo⟩:=zyn (D4 b u eb);refine BSv;show BiV
  ·exact AXo (yH b u (iB BNs n1) (sS b u BNs))
  ·exact BX5
  ·refine⟨v1,[v2],[],[],Β,Β,?_,?_⟩
   ·exact Ic rv1
   ·refine⟨v2,[],[],[],Β,Β,?_,?_⟩
    ·exact Ic Vm
    ·exact ue
#where
theorem zq7{A B C:Bi}(h:AuP A B)(k:AuP B C):AuP A C:=fun B4 e=>by
 obtain⟨Ω,a1,a2,a3⟩:=h B4 e;obtain⟨BF,b1,b2,b3⟩:=k Ω a1;exact⟨BF,b1,b2.trans a2,b3.trans a3⟩
theorem caught{X:Cx}{z:Ow}{Ο:d8}{σ1:St}{H1 H' :Hp}{s1 s' :AC}{B h6:AM}{l:Lo}{a C:Ζ}{dx:N4}(BpP)(I1:A'M)(os:s'.os=s1.os)(HP:AIs)(un:A6n H' am)(D4:Aab)(b1:An8)
  (inB:Yf (LA AL9) (b∉io) ANa) (vo:Anh) (Td:v7 B l a KU dx BM h6) (up:Bra h6):∃oe:Obj,MI H'/\Aer=dx/\AOF AOH AXW:=by
 have I6:AOF H' AXW:=Bof I1 hex os HP un D4 b1 Td.1 inB vo up;obtain⟨oe,vs,T,oT,ts,g1,⟨g2,gd,g4⟩,g3,_⟩:=Td.2.2.2;show FL nB (MI AL2) Td.2.1 nH (MI H') (by
  cases q:H' a with
  | Η=>rfl
  | Ε u=>show FC o' e' vo a u q;rw[nB] at e';show Ϯ) nfs (a∉io) (fun hm=>by
  obtain⟨_,o2,e2,nf⟩:=I1.stack.mem hm;show FC sl e3 un.any e2 (I1.stkFree a hm) A1
  obtain⟨sl',e4⟩:=up a _ e3 nf;rw[g1] at e4;show AD e4 e4 e4 e4 e4 e4 e4 e4 e4 e4 e4 e4 e4 e4;exact nf _ g3) J5 (MI AL9) (by
  cases q:AL9 a with
  | Η=>rfl
  | Ε o=>
   show BQN inB nfs nB)
 show FL Zd (MI AeE) (by
  cases q:AeE a with
  | Η=>rfl
  | Ε o=>
   show BQN I1.base.there (by refine(?_:a∉ABW);rw[hex];simp) J5) abV BMI (Au (nfs (by rw[hst];unfold frs;rw[AtD,hfr,z];exact zY))) Ze (ADv a) (fun x c e z=>by
  obtain⟨v,o,ho,_⟩:=I1.cell x c e;rw[z,J5] at ho;show AD ho ho ho ho ho ho ho ho ho ho ho ho ho ho) abW (VS (ABp++Ο) (DJ≠a)) (fun p hp z=>by
  have ho:=AO2 I1.pin;rw[z,J5] at ho;show AD ho ho ho ho ho ho ho ho ho ho ho ho ho ho)
 have IT:AOF AOH AXW:=Inv.track I6 nH ⟨g1,⟨oe,vs,g1,g2,g3,CL gd g4⟩,⟨oe,g1⟩,fun h1 h2 BO st=>by obtain⟨o,ws,p1,p2,p3,p4⟩:=BO;exact⟨o,ws,st o p1,p2,p3,p4⟩⟩ Zd abV Ze abW
 exact⟨oe,nH,gd,IT⟩
def J6(pl:AT)(F:Hp)(a:Ζ):Ι:=rA F a/\ (pl=Μ ->Ey F a)
inductive Te (X:Cx) (H0:Hp) (pl:AT):D1 APX (A6P)
 | DV:Blm BDW (BaZ (Aig Ajy Η AH7 hp) (Aq6=Μ/\th D Γ E))
 | AY:∀{x np C b su hp th hs tt},WC J_ AEM Aib BDW HH A'u (BaZ (Akm Ajy Η AH7 hp::hs) (JU Aq6 (th D Γ E) (tt C' D Γ E)))
def J7(pl:AT)(K:AA)(tb:aF)(tt:A6P):aF:=fun D Γ E=>tb D Γ fun Ω x=>(Bhw (jh K x.cls) D)
def J8(pl:AT)(K:AA)(C1:Ζ)(tb Cg:aF):aF:=Bga (fh C C1/\Amy)
def J9(pl:AT)(K:AA)(C1 C2:Ζ)(tb Cg Np:aF):aF:=Bga (BYx Amy (Np D Γ E))
section
variable{X:Cx}{F0 H0:Hp}{Ψ:AN}{hs:APX}{L6:Re}{tb:aF}{tt:A6P}{pl:AT}
theorem z6r(hex:ADq)(hst:AOc)(hfr:AIx)(hb:ASO)(hh:A'u):ASG hs (J7 pl AG tb tt):=by
 rintro z E cx Ο s σ H D I ⟨F,Γ,D2,R,h,k⟩;obtain⟨h0,hr,eh⟩:∃h0 hr,hs=h0::hr:=by show AEd hh hh hh hh hh hh hh hh hh hh hh hh hh hh AQS
 rw[eh];refine BK_;rw[<- eh];have A6:=hb F ⟨fun e EU=>(BUp KK Bhj EU),AxG⟩
  (fun Ω x=>(Bhw (jh AG x.cls) D2)) BRT [] s σ H D (ya0 I) Bc'
 ·refine SI A6 (UT f q) nr;have q' :=yms q;cases f with
  | Kx=>exact AS_ q'
  | ret v=>exact q'
  | brk=>exact q'
  | OE=>exact q'
 ·intro sJ σ1 Ω F1 H1 s1 e s' I' R1 hx;have I1:A'M:=Vf I';obtain⟨a,Cv,H',B,dx,Β,os,HP,un,D4,Gi,inB,vo,BF,F2,xv,R2,Iv,xr,apx,EI,PJ,hth⟩:=hx;have Tf:Cv= .B9 xv.cls:=xr.1;subst Tf;have pl0:pl=Μ ->dx=Η:=Ps (by
   show yi C (EI q);exact xr.2)
  generalize xv.cls=C at PJ hth Gi D4 vo inB un;refine Blg
  refine Bkk;have I5:AOF H' AOI:=Bmd;obtain⟨ob,hob,hobc⟩:=fl.there;have suite:∀(th:aF) (b:AO) (su:Re) (hp:AN),BDW ->th D2 BF E ->
    Blb Η (Aot KK):=by
   intro th b su hp hh hth;refine Be6 codeAny_handlers_suite;show GB oe nH gd IT Bmf;have sZ:BbK:=BY6;have IH:BZy Bag:=BmY z.xe;have R7:=Ae0 sZ;have R8:=R7.unbase R.gr;have cxs:Ctx Bag AII H0 E:=by
    refine⟨fun Zh σ2 Γ3 F4 H4 s4 e s5 I4 R4 hx4=> ?_,fun A' A'' hS=>cx.pq A' A'' (zq7 hS (BtG _ _))⟩;refine cx.pX Zh σ2 Γ3 F4 H4 s4 e s5 (Yh I1.ok I4) (R4.unbase R8.gr) (hx4.imp (M' C dx H' hq));obtain⟨B4,F',x,R',s,xr,ap,hE⟩:=hq;exact⟨B4,F',x,R'.unbase R8.gr,s,xr,ap,hE⟩
   have run:=hh a AII ⟨⟨oe,C,gU⟩,Ps ⟨oe,C,gU,gd.trans (pl0 q)⟩⟩ ⟨z.xe,ABp⟩ E cxs Ο AXW σ1 AOH D IH ⟨_,BF,D2,R7.base,hth,(((k.base R.gr).ń R2.gr.f).ń sZ.f).C3 R7.gr⟩;exact SI run (fun f s2 q=>zy3 I1.ok q) (cx.pq _ _ (BtG _ _))
  obtain⟨bm,N,nm,qn,bs,PM,sn,B_,ab,col,dd,k0,k1,k2,k3,k5,e1,_,_,_⟩:=Ec Au' PJ;have go:∀{hs tt},A'u ->tt C D2 BF E ->AIY (BJ9 ED BE hs) (SP JO Ο D) AOI:=by
   intro hs tt hh hth;induction hh with
   | DV hg hm hC hh hd=>
    refine AvA (AvB (ArJ hd)) ApS
    obtain⟨bm',N',nm',qn',bs',BJ,Ye,sub',Yg,col',G5,j0,j1,j2,j3,j5,e2,tl,_,_⟩:=An0;refine AsG ATk;rw[Ars,hth.1];exact Apv hth.2
   | AY hg hm hC hh hd _ ih=>
    refine AvA (AvB (ArJ hd)) ApS
    obtain⟨bm',N',nm',qn',bs',BJ,Ye,sub',Yg,col',G5,j0,j1,j2,j3,j5,e2,tl,_,_⟩:=An0;refine AsG ATk;rw[Ars];split at hth
    ·show Ki;rw[q];exact Apv hth
    ·show Ki;rw[BtH q];exact ih hth
  exact go hh hth
#where
def Gu(i:Δ)(D:rB):rB:=BjW
inductive Zi (X:Cx) (H0:Hp) (n:Κ):D1 APX (A9y)
 | DV:Blm A6J (Zi X H0 n (Aig Ajy APn AH7 hp) fun C' A=>Aq6=Μ/\A th)
 | AY:∀{x np C b su hp th hs tt},WC J_ AEM Aib A6J HH A'v (Zi X H0 n (Akm Ajy APn AH7 hp::hs) fun C' A=>(JU Aq6 (A th) (tt C' A)))
def Ez(K:AA)(i:Δ)(tb:aF)(tt:A9y):aF:=Bo5 (Bc8 Aih (AzB D ABs Ai7))
def Ka(K:AA)(C1:Ζ)(i:Δ)(tb Cg:aF):aF:=Bey (fh C C1/\A Cg)
def Kc(K:AA)(C1 C2:Ζ)(i:Δ)(tb Cg Np:aF):aF:=Bey (BYx (A Cg) (A Np))
section
variable{X:Cx}{F0 H0:Hp}{Ψ:AN}{n:Κ}{L6:Re}{tb:aF}{tt:A9y}{i:Δ}{hs:APX}
theorem z36(hex:ADq)(hst:AOc)(hfr:AIx)(hN:XA)(hi:Ayy)(hl:Ayc)(hb:ASO)(hh:A'v):ASG hs (Ez AG i tb tt):=by
 rintro z E cx Ο s σ H D I ⟨F,Γ,D2,R,h,k⟩;obtain⟨h0,hr,eh⟩:∃h0 hr,hs=h0::hr:=by show AEd hh hh hh hh hh hh hh hh hh hh hh hh hh hh AQS
 rw[eh];refine BK_;rw[<- eh];have A6:=hb F ⟨fun e EU=>(BUp KK Bhj EU),AxG⟩
  (fun Ω Cv=>(Bc8 Aib (AzB D2 ABs Ai7))) BRT [] s σ H D (ya0 I) Bc'
 ·refine SI A6 (UT f q) nr;have q' :=yms q;cases f with
  | Kx=>exact AS_ q'
  | ret v=>exact q'
  | brk=>exact q'
  | OE=>exact q'
 ·intro sJ σ1 Ω F1 H1 s1 e s' I' R1 hx;have I1:A'M:=Vf I';obtain⟨a,Cv,H',B,dx,Β,os,HP,un,D4,Gi,inB,vo,BF,F2,xv,R2,Iv,xr,apx,⟨C,fs,us,Β,PJ,abX⟩⟩:=hx;have Tf:Cv= HU:=xr.1;subst Tf;obtain⟨p,ws,as,Β,ep,el,fp,hpn,ndx,oL,rG⟩:=xr.2;have ap:MH AYu (Apart σ1 BF b):=apx.resolve_left (Lv (by(show AJN)))
  show BG Blg Bkk;have I5:AOF H' AOI:=Bmd;obtain⟨ob,hob,hobc⟩:=fl.there;have suite:∀(th:aF) (b:AO) (su:Re) (hp:AN),A6J ->(BX6) ->
    Blb APn (AIY Bek (KS qV (Aot qV)) KK):=by
   intro th b su hp hh hth;refine Be6 codeAny_handlers_suite_as;obtain⟨oe,nH,gd,IT⟩:=Bmf;have sZ:BbK:=BY6;have IH:BZy (BTU a):=BmY zt;have pa:p≠a:=Anb nH ep ep ep ep ep ep ep ep ep ep ep ep ep ep ep
   show FL F3a (BCY a=Ε AHa) (IC (ADc pa) gU) F3p (BCY p=Ε AhI) gU s3 (L9 AII (x6 AII p AhI)) (Ax6 (FI (by rw[z,bJ pa,fp] at e;show Do))) out (∀b,MY ->AP4 ->BCY b=F2 b) (BZR (bJ h2))
   have R3:=(Ae0 sZ).frzM (F' :=BdZ) s3 (Sr (by
    by_cases hb:b=p
    ·subst hb;rw[gU] at e;show Do;rw[bJ pa];exact ep
    ·rw[ub] at e;show tI sZ.g)) (fun b u e n=>by
    show GU (b=p) (by
     by_cases hb:b=p
     ·exact hb
     ·show BDH)
    exact⟨AfT hpn,ap b hpn⟩)
   generalize BdZ=F3 at F3a F3p s3 out R3;have SQ:MM as (MY/\AP4):=E4 (by
    show AEa q ld (ABn us ws as rG b hb);refine⟨vy,vy⟩
    ·rw[z,nH] at q;show LZ
    ·rw[z,ep] at q;show LZ;show BpN ld)
   have R7:=R3.put i (s:= .xe as C fs us) (o:=Ε ED) ⟨a,oe,p,ws,Β,F3a,gd,F3p,el,ndx,ſ (CL (out b (Sj SQ) (sj SQ)) (Sj oL)) (AfT (sj oL)),UM (sZ.f.trans s3) us ws as (AlU (MS (Sj SQ) e)) rG⟩ (E4 (ap b (sj oL)))
   refine UG (X:=BTU a) IH hN hi (HG hl) (E_ (HQ ED ED) Β) (TM s7 I7) (FV hl)
   
   have EC:∀{σ2:St} {H2:Hp} {s2:AC} {Q2:GN AC},Inv JO Ο σ2 H2 s2 ->σ2.length=X.N.length ->(∀s3,Inv JO Ο (σ2.set i Η) H2 s3 ->Q2 s3) ->AIY Bek (KS s3 (Q2 s3)) s2:=by
    intro σ2 H2 s2 Q2 I2 Fh hQ;refine z6 (BHh (Da UG I2 hN hi (HG hl) (E_ (HQ BH eC) Β) (TM s3 I3) (FV hl)));refine Brw (Da yam I3 hN hi hl (v:= BH) ?_ (Cb s4 I4))
    ·rw[ABY (EM Fh (List.getElem?_eq_some_iff.mp hi).1)]
    ·rw[AuK] at I4;exact hQ s4 I4
   have kb:=(k.base R.gr).ń R2.gr.f;have kh:yt AG F H0 F3 {nx:=AW4 ABo,rt:=D2.rt,bk:=AW4 D2.bk,ct:=AW4 D2.ct} BdC:=
    BmK (BGG kb.nx) (BGG kb.bk) (BGG kb.ct) kb.rt
   have run:=hh a F3 ⟨oe,C,F3a⟩ ⟨zt,ABp⟩ jO Hf Ο s7 (σ1.set i YV) AOH BdC I7
    ⟨_,_,_,R7.base,hth as,kh.base R7.gr⟩
   refine SI run (As f s2 q) AQc;have q' :=zy3 I1.ok q;cases f with
   | Kx=>show BDy
   | brk=>show BDy
   | OE=>show BDy
   | ret u=>obtain⟨v,DI,H',I2,r,q⟩:=q';exact EC I2 I2.len (AOY ⟨v,_,_,I3,r,q⟩)
  obtain⟨bm,N,nm,qn,bs,PM,sn,B_,ab,col,dd,k0,k1,k2,k3,k5,e1,_,_,_⟩:=Ec Au' PJ;have go:∀{hs tt},A'v ->tt C (BA th BX6) ->AIY (BJ9 ED BE hs) (SP JO Ο D) AOI:=by
   intro hs tt hh hth;induction hh with
   | DV hg hm hC hh hd=>
    refine AvA (AvB (ArJ hd)) ApS
    obtain⟨bm',N',nm',qn',bs',BJ,Ye,sub',Yg,col',G5,j0,j1,j2,j3,j5,e2,tl,_,_⟩:=An0;refine AsG ATk;rw[Ars,hth.1];exact Apv hth.2
   | AY hg hm hC hh hd _ ih=>
    refine AvA (AvB (ArJ hd)) ApS
    obtain⟨bm',N',nm',qn',bs',BJ,Ye,sub',Yg,col',G5,j0,j1,j2,j3,j5,e2,tl,_,_⟩:=An0;refine AsG ATk;rw[Ars];split at hth
    ·show Ki;rw[q];exact Apv hth
    ·show Ki;rw[BtH q];exact ih hth
  exact go hh abX
#where
section
variable{X:Cx}{F0 H0:Hp}{Ψ np1 hp1 PK hp2:AN}{x1 x2 n:Κ}{C1 C2:Ζ}{L6 Bc Kd:Re}{b1 b2:AO}{tb Cg Np:aF}{i:Δ}
theorem yft(Bli)(hm1:BX')(Tg:jh AG C1)(hb:ASO)
  (hh1:A4O ApJ Cg) (hd1:ã x1:=by decide):ASG (Aig BW_ APn ApJ hp1) (Ka AG C1 i tb Cg):=
 Bjb (.DV hg1 hm1 Tg hh1 hd1)
theorem yej(Bli)(hm1:BX')(Tg:jh AG C1)(hg2:Gl X x2)(hm2:pk x2=Ε (BY C2))(hC2:jh AG C2)(hb:ASO)
  (hh1:A4O ApJ Cg) (hh2:A4O (b2::Kd) Np) (hd1:ã x1:=by decide) (hd2:ã x2:=by decide):ASG [Akm BW_ APn ApJ hp1,Akm (D9 (IA x2 PK)) APn (b2::Kd) hp2] (Kc AG C1 C2 i tb Cg Np):=
 Bjb (.AY hg1 hm1 Tg hh1 hd1 (.DV hg2 hm2 hC2 hh2 hd2))
#where
theorem z27(Ĕ){f:Κ}{d:D}:∀(ts:ID) (fs:Ρ) (vs:AQ) (as:CH),ADd ->BaS ->AaL (Aa3 f=Ε v)
 | [],fs,vs,as,_,l=>by rw[List.zip_nil_right] at l;show AD l l l l l l l l l l l l l l
 | R_,[],vs,as,_,l=>sq l l l l l l l l l l l l l l
 | R_,g::fs,vs,as,h,l=>by
  obtain⟨v,us,bs,cs,Β,Β,rt,rts⟩:=h;rw[AGz,XU] at l⊢;cases q:(f==g) with
  | Μ=>
   rw[q] at l;show AD l l l l l l l l l l l l l l;exact AJ0 rt.2
  | AE=>
   show ND q l (z27 ts fs us cs rts l)
def EY(A'g):cD:=ANC (∃as fs ts d,Ì Ai7/\ BaS/\P d Γ)
section
variable{X:Cx}{F0 H0:Hp}{Ψ ep:AN}{x f:Κ}{C:Ζ}{i:Δ}
theorem z3q(BGJ):BYI EY:=fun z E cx=>
 oh (Da zum hc hn AZq hb) (Sf hq (by
  obtain⟨F,Γ,P,R,⟨as,fs,ts,d,e0,l,h⟩,k⟩:=hq;show BGX;obtain⟨v,lv,rv⟩:=z27 ts fs vs as rt l;exact BGM (BeV rv)))
#where
open x_ in
theorem yga{P:A0}{w:An}{DD:Lo}{s s' :AC}{e:AJ}{E E' :XK}{H H2:Hp}(S:Aju)(h:AbX fU)(hS:Bb3)(hN:ci (¬S b) H2 H)
  (k:∀C dx H' H2',(AiW (H' b=H b/\H2' b=H2 b)) ->(ci (¬S b) H2' H') ->AcY ->E' C dx H2'):fU P w DD H2 s E' e s' :=by
 obtain⟨a,C,H',B,dx,h1,h2,h3,un,D4,Gi,inB,vo,hE⟩:=h;show FL fz (ci (S b) H' H) (E4 (by
  show AWY AH e1 ADj;rw[e1];exact un.mR b _ _ e1)) i1 (ci (S b) BAt H2) (E4 Aj7) i2 (ci (¬S b) BAt H') A1Q no (s_ (H2 b=u) (∀AH,u≠Ε PU) (¬S b/\H b=u)) (Aa0 (by
  have hb:¬S b:=APQ (by
   obtain⟨_,AH,_,e2⟩:=ADj;rw[e2] at q;exact n AH AuY)
  exact⟨hb,Nw Akh q⟩))
 generalize BAt=H3 at i1 i2;show FY ne (s_ (SU H') (BTk) (SU H3)) (Aa0 (by
  rw[i2 b (II hb)];exact q;obtain⟨_,_,e1,_⟩:=ADj;rw[fz b hb,e1] at q;show AD q q q q q q q q q q q q q q;exact n _ _ Β)) st (∀{u:HO} {b:Ζ},BaJ H' ->BaJ H3) BYj ⟨a,C,H3,B,dx,h1,h2,h3,⟨BXW,BXW,Jn b o eb n q2,un.there,A5N,ADJ u q,OQ ps q⟩,ć,Gi,inB,ć,k C dx H' H3 (MO ⟨fz b hb,i1 b hb⟩) i2 hE⟩
 ·exact un.keep b o eb (no b _ n AIu).2 q1 q2
 ·exact un.slot b o eb (no b _ n AIu).2 q1 q2
 ·obtain⟨hb,n'⟩:=no b _ n AIu
  rw[AJr];exact un.free b o eb n' q2
 ·show BAi
  rw[AJr];exact un.tups b xs q'
 ·show BAi
  rw[AJr];exact un.mR b o u q'
 ·show BAi
  rw[AJr];exact un.o8 b ps q'
 ·by_cases hb:S b
  ·show A8s;rw[i1 b hb,e2] at q;show LZ;exact st (D4 b _ (AHn fz hb e1)).2
  ·rw[AJr] at q;exact st (D4 b u q)
 ·by_cases hb:S b
  ·show A8s;exact vo b _ (AHn fz hb e1)
  ·rw[AJr] at q;exact vo b u q
#print _3
namespace _3
open KB P4 LL _2
mutual
def Nq:APk
 | RR=>rJ d
 | di=>AJx
 | AbE=>AJx
 | Anp=>AJx
 | Aok=>AJx
 | Ϸ=>D6
def uW:A0O
 | []=>IM
 | R_=>Nq t/\AJx
end
section
variable{K:AA}{F F' H:Hp}
mutual
theorem z9p(Biq):Bl0 (Nq t)
 | RR,v,as,n,h=>by
  have:=hA [d] [v] (B0 (AiL n)) (Lr h.2)
  obtain⟨v',_,ev,r2,Β⟩:=Τ;cases (ev);exact⟨Ee,r2⟩
 | di,v,as,n,h=>by
  show Acb e2;exact⟨a,vs,bs,e1,e2,e3,Am3⟩
 | wc,v,as,n,h=>by
  show AmX;exact⟨a,vs,bs,e1,e2,e3,e4,Am3⟩
 | AAb,v,as,n,h=>by
  show AmX;exact⟨a,vs,bs,e1,e2,e3,e4,Am3⟩
 | AAo,v,as,n,h=>by
  show Acp e2;exact⟨a,dx,vs,bs,e1,e2,e3,e4,e5,e6,Am3⟩
 | Ϸ,v,as,n,h=>WF
theorem VF(Biq):Bl1 AJx
 | [],vs,as,n,h=>J'
 | R_,vs,as,n,h=>by
  obtain⟨v,us,bs,cs,e1,e2,h1,h2⟩:=h;exact⟨v,us,bs,cs,e1,e2,z9p hA t v bs n.1 h1,BVb VF⟩
end
#where
def Ho:GN XV
 | .pay _ _ ts=>AJx
 | _=>IM
section
variable{X:Cx}{F0 H0 F H F1 H1 Nr Hq :Hp}{z:Ow}{E:XW}{Ο:d8}{σ:St}{Γ Ω:G2}{s1 s' :AC}{e:AJ}
theorem ydv(cx:AvV)(R:AKj)(L:Blh)(n0:AnB)(I1:ADb Hq s1)(R1:BdA)(sF:ACa Nr)
  (hq:fU HR X.w O_ Hq s1 BjK e s'):z.xe e s' :=by
 obtain⟨F2,H2,R2,Iv,_,_,e1,e2⟩:=L.back R1 sF;have I2:ADb H2 s1:=Da L.thaw n0 I1 R1.gr.h e1 e2;show FY sH (L9 H H2) (Pl u (by
  by_cases hb:ce
  ·rw[e1 b hb];exact q
  ·rw[e2 b hb];exact R1.gr.h b u (EM (L.hN b hb) q))) R3 (k9 F H2 Γ) (BbN (fun b u q=>sH b u (R.g b u q)) sH) (cx.pX Ο σ Γ F H2 s1 e s' I2 R3 (yga BCm hq AZA e2 fun C dx H' H3 fz i2 hx=> ?_))
 ·obtain⟨o,AH,q1,q2⟩:=A1X;exact⟨o,AH,Aj8 q2,CL (e1 b hb) q1⟩
 obtain⟨x,F',⟨nx,hE⟩,gr,xr⟩:=hx;obtain⟨F4,H4,R4,sF4,rs4,at4,f1,f2⟩:=BiP;show GU (H4=H3) (funext fun b=>by
  by_cases hb:ce
  ·rw[f1 b hb,sj fz,e1 b hb]
  ·rw[f2 b hb,AJr])
 refine⟨Γ,F4,x,R4,sF4,C5 xr.1,A1I R3.apart,hE⟩;have nn:MH (SV Hq) (¬ce):=fun b q hb=>by
  obtain⟨o,AH,_,q2⟩:=A1X;rw[Aj8 q2] at q;show LZ
 cases x with
 | B9 C=>exact xr.2
 | any C=>trivial
 | pay C fs ts=>
  obtain⟨p,vs,as,e3,ep,el,fp,hp,nd,hn,rt⟩:=xr.2;refine⟨p,vs,as,e3,CL (i2 p (nn p hp)) ep,el,(at4 p _ (AfT hp) ep).2.2.2 fp,CL (e2 p (nn p hp)) hp,nd,NF,?_⟩
  ·show APT q (ABn ts vs as rt b hb);exact⟨(at4 b _ (AfT Đ) q).2.2.2 Ϥ,CL (e2 b (nn b Đ)) Đ⟩
  ·exact VF rs4 ts vs as nx (UM GH ts vs as (Õ (CL (i2 b (nn b Đ)) q)) rt)
#where
def zzz(BmA):cD:=fun Γ P E=>te (mF Γ) (fun d Ω=>(AAa (C' =C/\AFT/\t Ω (uv es BEu) jO))) jO
section
variable{X:Cx}{F0 H0:Hp}{e o:AK}{es:C7}{Ψ p LS:AN}{x m:Κ}{f fa C:Ζ}{fd:GA}{ps:Ρ}{k:Δ}{sp:dM}{t:c7}{te:cD}{pl:AZl}
theorem Ti{z:Ow}{E:XW}{F H F1 H1 Nr Hq :Hp}{Ο:d8}{σ:St}{Γ Ω:G2}{s:AC}{us:At}{vs:AQ}{ds:AR}{P:D1 D G2}{Q:VK}(BlV)
  (R:AKj) (L:Blh) (n0:AnB) (I:ADb Hq s) (R1:BdA) (sF:ACa Nr) (r:AZS) (rs:aL AG Nr ds vs) (h:sp ds (ż (rJ d/\P d Γ)) fun x=>Ho x/\Agp)
  (kk:∀d B4 F' H' v,BC A8l Go BaT (c9 d) ϋ):
  BfV:=by
 have hs:pA AG sp vs Hq Bn7 BjK:=
  ⟨Nr,ds,_,_,LU,rs,h,Axi (by
   obtain⟨F2,H2,R2,Iv,Lx,_,e1,e2⟩:=BiP;have r2:=BQk Lx rv
   show BZL ⟨R1.gr.h.trans gr.h,H2,e1,e2,kk d Γ F2 H2 v R2 Iv r2 hp.2⟩),Acl⟩
 have hl:Aof:=Arw
 have hbs:=hb s us av hl;show AGB;refine ARg X.A s Hq us us vs _ hr I.env0 r AQ';cases r with
 | kT e=>exact ydv cx R L n0 I R1 sF hq
 | ok fl=>
  cases fl with
  | ret u=>
   show AsJ (I.after hq);exact Bn5 (Da L.thaw)
  | Kx=>show Zl
  | brk=>show Zl
  | OE=>show Zl
theorem z66(Bix)(hr:Ÿ)(hb:APB)(ho:wy AQW)(ha:wy TZ)
  (hst:AKq:=by rfl) (EI:AHf es:=by rfl)
  (ht:AJo AWI (do
   let ov<- XZ o
   AFf
   let (f,first)<- AGH ĸ ov m pl
   AGO (ŗ LE) AKO):=by rfl):
  AsH zzz:=by
 show AFv;show Arh;refine AWp Axj (ho F1 H1 z jO Agx Ο s σ H1 (gN H2 (∃F2 BF d,Ayq F2 H2 BF/\AgO/\EJ AG F2 d v/\ (AAa (C' =C/\AFT/\t BF (uv es BEu) jO)))) I1 ⟨F1,mF Γ,_,L.R,h,fun d Ω F2 H2 v R1 s1 r1 h1=>⟨F2,Ω,d,R1,s1,r1,h1⟩⟩) ⟨x,H2,I2,rx,F2,BF,d,R2,sF,rd,q⟩ ht
 cases d with
 | obj C' fs ds=>
  show AoQ q q;show Arf (Ar7 I2 (R2.g _ _ ea)) (BlU (bZ (ha F1 H1 z jO Agx Ψ Ο s1 σ H2 (AIB H3 (∃F3 Γ3 es,Ayq F3 H3 Γ3/\L9 F2 F3/\aL AG F3 es vs/\BEu)) I2 ⟨F2,BF,_,R2,q,fun es Γ3 F3 H3 vs R3 s3 r3 h3=>⟨F3,Γ3,es,R3,s3,r3,h3⟩⟩)
   fun us s2 ⟨ws,H3,I3,r,F3,Γ3,es,R3,sF3,rs3,q3⟩=>(C5 I3.kIn)) hst EI)
  exact Ti (us:= CF::us) (vs:= CF::ws) Fn hr hb cx R L n0 I3 R3 (ļ sF3) (.AY Β r) (uc (Rz.up sF3) rs3) q3 kk
 | _=>show tz
theorem z5v(G:Aqx DN)(hc:Ϧ)(hr:Ÿ)(ho:wy AQW)(ha:wy TZ)
  (hst:AKq:=by rfl) (EI:AHf es:=by rfl)
  (ht:AJo AWI (do
   let ov<- XZ o
   AFf
   let (f,first)<- AGH ĸ ov m pl
   AGO (ŗ LE) AKO):=by rfl):AsH zzz:=by
 show ApC f h1 h2 h3;exact z66 hc h2 h1 hr h3 ho ha hst EI ht
#where
def Ke(t:pY):pY:=A8U t tr (Nq tr) tr
theorem ye8(Aci){e:AK}{tn:pY}(h:wy AAm):YO QN (Ke tn):=fun z E cx=>by
 show Acr;show Arh;refine BDI q (fun t B4 F' H' v as R' s' nd hn rt hp=> ?_) hq
 ·obtain⟨F2,H2,R2,sF,rc,at2,e1,e2⟩:=BAl;have hh:An_ (MI F2/\ï/\AFX/\∀u,AwM ->Fr H2 u):=fun a ha=>by
   obtain⟨g1,g2,_⟩:=hn a ha;show APT eu (ATg t v as rt a ha);obtain⟨q1,q2,q3,q4⟩:=at2 a u g2 eu;exact⟨q4 g1,q2,q3,fun w ew=>by rw[eu] at ew;show AD ew ew ew ew ew ew ew ew ew ew ew ew ew ew;exact q1⟩
  exact A8p (k t Γ F2 H2 v as R2 sF nd (l5 ⟨(hh a ha).1,(hh a ha).2.1,(hh a ha).2.2.1⟩) (ABm GH t v as (l5 (hh a ha).2.2.2) (z9p rc t v as hp.1 rt)) hp.2)
 ·show AsJ hq;exact A9G
def Gv:T ->D
 | AI7 us=> .dik ks (jg us)
 | t=>toD t
theorem Zj(Aci){Ο:d8}{σ:St}{s:AC}{Γ:G2}:∀(ts:ID) {vs:AQ} {bs:CH} {F H:Hp},WC AV AKj bs.Nodup (U1 bs BBt) Bh8 (fu AG F H ts vs bs) (∃F' H',ACh s/\k9 F' H' Γ/\Go /\ (ci (b∉bs) H' H)/\ (BCT bs)/\aL AG F' (ts.map Gv) vs):=by
 intro ts;induction ts with
 | D8=>
  intro vs bs F H I R _ _ _ r;show AMM r;exact⟨F,H,I,R,sf,AJv,AJv,OU⟩
 | AY t ts ih=>
  intro vs bs F H I R nd hn hd r;obtain⟨v,us,b1,b2,Β,Β,r1,r2⟩:=r;show F6 ks xs Β (hd _ zY);obtain⟨a,ws,c1,Β,Β,ea,EK,r1⟩:=r1;show BU nd1 RX dis AT' nd;obtain⟨_,_,zs,kv,o,es,ep,h1,_⟩:=QV KI ea;obtain⟨F1,sF,R1,rp,XT⟩:=R.nail (o:=o) nd1 (MO (hn b (zP _ hb))) ea EK r1;have I1:=zwf I ea h1;have off:MM b2 (b∉a::c1):=fun b hb hc=>dis b hc b hb Β;obtain⟨F2,H2,I2,R2,Iv,hH,hF,rs⟩:=ih I1 R1 RX (MO (CL (XT b (off b hb)) (hn b (zQ _ hb)))) (fun t ht=>hd t (zW _ ht))
   (UM sF ts us b2 (AyU (Au (off b hb BN_))) r2)
  refine⟨F2,H2,I2,R2,ļ Iv,NF,NF,uc (rp.up Iv) rs⟩
  ·rw[BQI hH,APb bJ MY (Au (hb (BGc _ BN_)))]
  ·rw[BQI hF,XT b (EX (hb (BGc _ h)))]
def yap(tn:pY):pY:=Apj (∃ks ts,t= wc/\ Bh8/\HZ BV5)
theorem ybc(Aci){e:AK}{tn:pY}(he:AAm):YO QN (yap tn):=BQB (by
 show RU hq;refine Bg_ (∀s1,ADb H1 s1 ->∃H2,ADb H2 s1/\Q v H2)
 ·intro s2 I1;show Fu ks ts hd hp h1;show AAz;show FX n1 RX Atu nd;obtain⟨F2,H2,I2,R2,Iv,hH,hF,rs⟩:=Da Zj ts I1 R1 RX (MO (hn b AHe)) hd r;show Ct g1 g2 g3 hn a zY;exact⟨H2,I2,k BV5 Ω F2 H2 _ [a] R2 (AUc Iv) A1 (MO (by rw[AY0,hF a n1];exact⟨g1,g2,g3⟩)) ⟨a,vs,[],Β,Β,CL (hH a n1) ea,EK,Nb rs⟩ hp⟩
 ·obtain⟨x,H1,I1,r1,q⟩:=BO;show Ct H2 I2 q q s1 I1;exact⟨x,H2,I2,r1,q⟩)
structure Xo2 (AKt) (mg:EN) (C3:AM) (x:Κ) (C:Ζ) (f1 f2 a1 a2:Κ) (k:Δ):Ι where
 ex:Bhf (BeZ k) (ATK K fd ź [])
def PL(A'g):cD:=BYk (P (toD t) ď)
section
variable{X:Cx}{F0 H0:Hp}{e1 e2:AK}{Ψ np HC cp:AN}{t:c7}{x f1 f2 a1 a2:Κ}{C b0:Ζ}{k:Δ}
theorem zy9{j}(hA:Ey F0 b0)(hg:J_)(G:Xo2 HR X.w AG pk SH x C f1 f2 a1 a2 k)(hr:AKX)(ha:QA (ABu b0) F0 H0 APG t)
  (hd:HH:=by decide) (he:fR APG e1 [e2]:=by rfl) (EI:AMU (ANE [e2]):=by rfl):
  BhN:=by
 obtain⟨f,fd,Fn,hi,hf,hC,hm,hb⟩:=G.ex;exact z4r hA hg hm hC hi hf Fn hr hb ha hd he EI
#where
section
variable{X:Cx}{F0 H0:Hp}{Ψ ep:AN}{x f:Κ}{C:Ζ}{i:Δ}
open x_ in
theorem yin(BGJ):BYI PL:=fun z E cx=>
 oh (Da zum hc hn AZq hb) (Sf hq (by
  obtain⟨F,Γ,P,R,⟨as,fs,ts,t,e0,l,h⟩,k⟩:=hq;show BGX;obtain⟨v,b1,cs,b2,lv,Β,rv,_⟩:=zpg rt l;have mem:BVx:=BR1;have s1:kz (gI (gE (b∈cs) H (F b))):=Pl u (by
   show ArV;show A7 (BA hb (A9g Arz.1));exact q)
  refine BGM (k _ _ _ H v ((ATi eσ).frzM s1 (ć) (Aa0 ?_)) s1 (Aeq s1 t v cs (Õ (by show ArV;show DU hb;exact q)) rv) h)
  ·change ArV at q
   split at q
   ·exact q
   ·exact AQU q
  ·change ArV at q
   by_cases hb:b∈cs
   ·exact⟨Arz.2,AG2 e0 eσ (E_ (gV Bhy YV b) (mem b hb))⟩
   ·rw[AIh,n] at q;show LZ))
#where
section
variable{X:Cx}{Ο:d8}{σ:St}{H:Hp}{s:AC}{a:Ζ}{A:Bi}{E:dW}{AH:mS}{k:Key}{u r:AJ}{d:V}
theorem yo3(wp)(I:AV)(e:AE')(ry:HQ (kV k) u)(rd:HQ d r)(hl:AlX)
  (h1:∀v w' s',A8O v ->ANh ->HQ v w' ->Q w' s') (h2:∀s',jF AH k=Η ->È a (.dK (ka AH k d)) s' ->Q r s'):
  Aim "dict.setdefault" [CF,u,r]:=by
 obtain⟨z,hd,vs,rel,dd⟩:=sg QV;have hz:D7 (Í ka AH k d):=NE (zkm AH k d)
 refine Aem BtI ALz PySem.F.entry_dict_setdefault (PySem.F.args_dict_setdefault_3 _ _ _) (kt_meets_setdefault AMy a Abf hd r)
  ⟨vs,dd,BNV,Cb v hv,fun hn h' G5 hs=>h2 _ ?_ ?_⟩
 ·obtain⟨v0,l,rv⟩:∃v0,A8O v0/\HQ v0 v:=by
   have q:=ATa k;rw[hv] at q;cases l:Ap1 with
   | Η=>rw[l] at q;exact SO
   | Ε v0=>rw[l] at q;exact⟨v0,Β,q⟩
  exact h1 v0 v _ l ACx rv
 ·have q:=ATa k;rw[hn] at q;cases l:Ap1 with
  | Η=>rfl
  | Ε v0=>rw[l] at q;exact SO
 ·have he:BDX:=BRG;exact BfY (ygp hz hd (rel.put k rd) G5)
def abY(td ty tx:TE):TE:=Bd3 (∃AH k,Fr H3 PU/\y=kV k/\AlX/\
 (∀v,A8O v ->Q v H3)/\ (jF AH k=Η ->Q z (EH H3 a (.dK (ka AH k z)))))
theorem yn5{o e f:AK}{LS HC:AN}{td ty tx:TE}(ho:AXl)(he:ACY ty)(hf:PE X f tx)(m:BFo AvC):BXA AvC abY:=by
 show DO Q;refine BrX m.base m.few m.line AuG BtI PySem.F.type_dict_setdefault BP3;obtain⟨x,H1,I1,rx,a,ex,d,q1⟩:=Q6;subst ex;show ß;obtain⟨t1,t2,_⟩:=Xv I1 d;refine CU t1 t2;rw[m.trees];refine Ag0 Β At6 (Atr (bZ (ϙ he) fun iv s2 (Aqs ry)=>
  (Bd1 ⟨z,H3,I3,rz,AH,k,ea,ey,hl,q3,q4⟩)))
 subst ey;exact yo3 I3 ea ry rz hl (fun v w' s4 l I4 tZ =>⟨v,H3,I4,tZ,q3 v l⟩) fun s4 l I4=>⟨z,_,I4,rz,q4 l⟩
#where
def Zk(i j l:Δ):aF:=A5q (∃k d as ks ts,VQ Γ (.pu Ahc)/\A6b (IS Γ l AFM) (Ì AxP) Au5 ((lB ks k=AE/\∀c,UD (Aes i (ADN (as++ [c]) (ks++ [k]) BNb)))\/
  ∃q xs,A_Y/\ACc ts (APi kD)/\AlW/\UD (Aes i (.tr as Bhv))))
section
variable{X:Cx}{F0 H0:Hp}{Ψ np PK VG lp ap cp ap2 Zm:AN}{x y w:Κ}{i j l:Δ}{e:AK}{es:C7}{tn:pY}{ta:c7}{tr:LK}
theorem yn2(hi:IG)(hv:OY)(hj:AKb)(hv2:Aog)(hl:BVq)(hv3:BTN)
  (m:M2 X AUr AvC ap (IA y PK) (.EO [] lp) cp)
  (JE:ANc AjP "append" AjP AjP)
  (xz:VW (Am2 (AvP Zm AzP)&&AqP Zm) (Aq7 (VA [Expr.Name w VG]) 1 30):=by rfl)
  (Mn:Ŕ ap2.endLine Zm.line:=by rfl) (hs:AMn AzP (IA w VG):=by rfl)
  (hsw:AU1 Biy Η:=by rfl)
  (BFk)
  (hd3:ã w:=by decide) (RV:AN9 w:=by decide):
  Aai Biy (Zk i j l):=fun z E cx=>by
 refine sU (Da UJ (Sb ync T L7 (id:= At8) (r:=z86) Aue AvD AvE ?_
  (Da yn5 AZq (Sb sy i j hj hv2 hd2 En) (Da yhq (Da Ou)) Be0) (Da Lj (Bfa hl) (Da Ou) hs) JE xz Mn hs Β) hsw) (fc Dn hq ?_)
 ·exact fun Ο s σ H x xs v us Q I rx rs h=>zq6 Ο s σ H x xs v us Q I rx rs h
 obtain⟨F,Γ,D2,R,⟨kk,d,as,ks,ts,e1,e2,e0,ndk,hkz,h⟩,k⟩:=hq;obtain⟨o,e3,v,Β,nd,hn,r⟩:=AIK;obtain⟨o2,e4,v2,Β,rk⟩:=XN j _ e1;obtain⟨o3,e5,v3,Β,rd⟩:=XN l _ e2;have ev:=JQ rk;subst ev;show AAz;refine⟨CF,e3,a,Β,.DH (E6 (.DH ea)),kV kk,e4,MZ,ip⟩;have VH:a≠p:=iB ea hp;refine⟨bE vs,kk,MS VH ea,Β,by show AWR EK;exact hkz,Cb v lv,II lv⟩
 ·
  rcases h with ⟨hh,_⟩ | ⟨q,xs,hq,ht,hxl,hnx⟩
  ·have:=zt4 EK kk;show ng lv hh;show LH
  obtain⟨u,b1,bs',b2,hu',hbs,rc,back⟩:=A_B;subst hbs;obtain⟨c,us,ds,Β,Β,ec,rc⟩:=rc;show AqG rc;rw[BER] at lv;show AD lv lv lv lv lv lv lv lv lv lv lv lv lv lv;have nab:a∉ANM [c]:=ADM;have RX:=ARv;have hac:a≠c:=BRo
  have hc1:BSE:=AO1 (by
   subst z;have p:=AT' RX;show BWf)
  have gr:=Aep (o:=HO.lst []) R.g hp;have R1:=ABq gr;have ncp:c≠p:=iB ec hp;show BG ⟨Abo us (by rw[bJ ncp];exact ec),v3,e5,c,us,v3,Β,Β,MS ncp ec,Nw tP hxl,?_⟩ (Po (AfW e0 e3 (E_ (gV BOh YV c) A6i) (t:= .tr Axx Bhv) ⟨_,Β,nd,NF,?_⟩ AP2) L_ hnx)
  ·obtain⟨o',q1,r'⟩:=AaQ;rw[e3] at q1;show AD q1 q1 q1 q1 q1 q1 q1 q1 q1 q1 q1 q1 q1 q1;exact⟨(Ea r' hb).1,(Ea r' hb).2.1⟩
  refine BYO (mi (bJ hac) (bJ VH) ea)
  refine back L_ (Õ (mi (Ap4 hc1) (bJ (iB q hp)) q)) ?_
  exact⟨c,_,[],Β,Β,gU,Nb (Mw (AL7 L_) (Lr (rd.up L_)))⟩
 ·
  rcases h with ⟨hh,hnx⟩ | ⟨q,xs,hq,ht,hxl,hnx⟩
  rotate_left
  ·obtain⟨u,_,_,_,hu',_⟩:=A_B;rw[BER] at lv;show AD lv lv lv lv lv lv lv lv lv lv lv lv lv lv
  have pa:AQI AP4:=AO1 (by
   show APT q1 (Ea (E_ (pP AG F H H0 (ADN sC ks ts) YV) ⟨_,Β,nd,hn,a,vs,bs,Β,Β,ea,EK,r⟩) hb).2.2;rw[z,hp] at q1;show AD q1 q1 q1 q1 q1 q1 q1 q1 q1 q1 q1 q1 q1 q1)
  have fp:F p=Η:=BIa hp;have h0p:H0 p=Η:=BM0;show FL app (AHu p) (ATm hp) nab (a∉bs) ADM R1 (k9 F (cr p []) Γ) (BbN (Pl u (by show sK (R.g b u q) hp;exact AQU q)) (Pl u (MS (iB q hp) q))) trl (∀t v bs',(U1 bs' AP4) ->(U1 bs' MY) ->fu AG F H t v bs' ->fu AG F (EH (EH (cr p []) a (.dK BT3)) p (FF [v3])) t v bs') (fun t v bs' h1 h2 r=>UM GH t v bs' (Õ (by rw[Ap4 h1,Ap4 h2,Ap4 h1];exact q)) r)
  rw[YL EK];unfold jQ ig;show ZN Ams Ams
  refine⟨Abo [] (EM (ADc VH) gU),v3,e5,p,[],v3,Β,Β,BR4,by show Ũ (MC 0);decide,?_⟩
  have R2:=APb (AfW e0 e3 (u:= .dK BT3)) (gV BOg YV a) zY (t:= .tr AxZ (.dic ANZ Bnb)) ⟨_,Β,AfX ⟨nd,DB,fun b hb c hc e=>BXd⟩,E4 (by
   rcases ADV with hb | hb
   ·exact AQG
   ·show AEI;exact⟨fp,h0p⟩),a,vs++ [RI],bs++ [p],Β,Β,gU,A1P,RK (UM GH ts vs bs (Õ (mi (APb bJ MY (Ž nab hb)) (bJ (pa b (AK2 _ hb))) q)) r) (RL (E_ (TR AG F _ AUq AYF [p]) ⟨p,[],[],Β,Β,BR4,ue⟩))⟩ (E4 (by
   rcases ADV with hb | hb
   ·exact CS hb
   ·show AEI;exact C_ app))
  have e0' :FG (se BC_) BC_:=ABY (OT e0);have R3:=APb (R2.wrT e0' e3 (u:= .DC [v3])) (gV BC_ YV p) (by show p∈_;simp) (t:= .tr AxZ (.dic ANZ BNb)) ⟨_,Β,AfX ⟨nd,DB,fun b hb c hc e=>BXd⟩,E4 (by
   rcases ADV with hb | hb
   ·exact AQG
   ·show AEI;exact⟨fp,h0p⟩),a,vs++ [RI],bs++ [p],Β,Β,MS VH gU,A1P,RK (trl ts vs bs (MO (pa b AHe)) (AO1 (nab (z ▸ hb))) r) (RL (E_ (TR AG F _ (FF [RR]) AYF [p]) ⟨p,[v3],[],Β,Β,gU,Nb (ds:= [d]) (Lr rd)⟩))⟩ AP2
  rw[AuK] at R3;exact AAV R3 GH (hnx p)
#where
section
variable{X:Cx}{F0 H0:Hp}{Ψ:AN}{hs:APX}{L6:Re}{C1 C2:Ζ}{tb Cg Np:aF}{pl:AT}
theorem z73(hex:ADq)(hst:AOc)(hfr:AIx)(hb:ASO)(hh:Te X H0 pl hs fun C D Γ E=>aV AG C C1=Μ/\Amy):ASG hs (J8 pl AG C1 tb Cg):=Bj8
theorem z82(hex:ADq)(hst:AOc)(hfr:AIx)(hb:ASO)(hh:Te X H0 pl hs fun C D Γ E=>(JU (aV AG C C1) Amy (aV AG C C2=Μ/\Np D Γ E))):ASG hs (J9 pl AG C1 C2 tb Cg Np):=Bj8
#where
abbrev R3:=Κ×Κ×AB
mutual
def Fb:AEp
 | og=>D6
 | ϸ=>D6
 | ă=>D6
 | Ċ=>D6
 | .dik _ xs=>yR xs
 | da=>yR xs
 | .obj _ _ xs=>yR xs
 | _=>IM
def yR:c0
 | []=>IM
 | Z3=>Fb d/\yR ds
end
mutual
def Tj:APk
 | RR=>Fb d
 | di=>AJy
 | AbE=>AJy
 | Anp=>AJy
 | Aok=>AJy
 | Ϸ=>D6
def tD:A0O
 | []=>IM
 | R_=>Tj t/\AJy
end
def abZ:Ajv
 | .pl d=>Fb d
 | .nt ts=>AJy
section
variable{K:AA}{F F' H:Hp}
mutual
theorem zzx(AqN):BFy (Fb d)
 | BH,_,_,h=>J'
 | ly,_,_,h=>J'
 | dc,_,_,h=>J'
 | i7,_,_,h=>J'
 | AEr,_,_,h=>J'
 | AEy,_,n,h=>by
  show AAw a vs;refine BDa (A6r h2);show BEw
  ·exact CS (HG (BZ1 (hA _ _ h1)))
  ·show AZK (BDc Ř)
  ·exact C_ h1
 | AZZ,_,n,h=>by
  show Ar6;exact⟨a,dx,vs,h0,BDc AOe,h3,A6r h4⟩
 | .dik ks ds,_,n,h=>by
  obtain⟨a,o,vs,h0,h1,h3,h4⟩:=h;exact⟨a,o,vs,h0,BDc AOe,h3,A6r h4⟩
 | og,_,n,_=>WF
 | ϸ,_,n,_=>WF
 | ă,_,n,_=>WF
 | Ċ,_,n,_=>WF
theorem zpf(AqN):BFz (yR ds)
 | [],_,_,h=>J'
 | Z3,_,n,h=>by
  show AAw v r;exact⟨v,r,h0,zzx hA d v n.1 h1,BCv zpf⟩
end
mutual
theorem ymy(AqN):Bl0 (Tj t)
 | RR,v,as,n,h=>IU ⟨Ee,zzx hA d v n h.2⟩
 | di,v,as,n,h=>by
  show Acb e2;exact⟨a,vs,bs,e1,e2,e3,Am4⟩
 | wc,v,as,n,h=>by
  show AmX;exact⟨a,vs,bs,e1,e2,e3,e4,Am4⟩
 | AAb,v,as,n,h=>by
  show AmX;exact⟨a,vs,bs,e1,e2,e3,e4,Am4⟩
 | AAo,v,as,n,h=>by
  show Acp e2;exact⟨a,dx,vs,bs,e1,e2,e3,e4,e5,e6,Am4⟩
 | Ϸ,v,as,n,h=>WF
theorem VJ(AqN):Bl1 AJy
 | [],vs,as,n,h=>J'
 | R_,vs,as,n,h=>by
  obtain⟨v,us,bs,cs,e1,e2,h1,h2⟩:=h;exact⟨v,us,bs,cs,e1,e2,ymy hA t v bs n.1 h1,BVb VJ⟩
end
#where
def owS:AEV ER
 | .tr _ _=>AE
 | .nt _ _=>AE
 | LX .xe=>AE
 | _=>Μ
def Kf(t:LK):LK:=ANC (Γ.all owS=Μ/\t (gH Γ) (ft _ (abZ r/\P r Γ)) jO)
def Kg(d:Κ)(tn:pY):LK:=Apj (HZ (.nt [.QP (M3 d),t]))
def nXT(A'g):pY:=BYk (P t ď)
def PN(tn:pY):aF:=A_j (∃ts,t= di/\A3j)
section
variable{X:Cx}{F0 H0:Hp}{e:AK}{Ψ p1 LS HC:AN}{tn:pY}{tr:LK}
open x_ in
theorem ygg(h:wy (YO VD tr)):YO VD (Kf tr):=fun z E cx=>by
 rintro Ο s σ H Q I ⟨F,Γ,P,R,⟨hw,q⟩,kd,kt⟩;obtain⟨F1,s1,R1,n1,o1⟩:=zus R;have gr:∀{B4 F' H'},SR AG F1 H F' H' σ B4 ->AZg ->A_T Ŵ H' :=fun{B4 F' H'} R' s' =>by
  refine A8Q Aud
  ·show A7 (BA hb (AO6 (Sj o1)))
   exact s' _ _ A3d
  ·show BOk Aow (R'.g _ _)
  ·show BWO Ŵ BQj
 have cut:NA F' Hp AZg (f_ F' (Awq Aow)):=fun{F'} s' b u e=>by
  by_cases hb:Q3
  ·obtain⟨_,w,ev,_⟩:=o1 b hb;show Abs (s' _ _ ev) e;show Bmj;obtain⟨j,sl,o,e1,e2,q1⟩:=hb;show F6 o' e3 r (XN j sl e1);rw[e2] at e3;show Acw;have hs:=List.all_eq_true.mp hw sl (yX e1);have hu:=LU _ _ ev;cases sl with
   | ow ds=>
    show Ai6 ha;show AD q1 q1 q1 q1 q1 q1 q1 q1 q1 q1 q1 q1 q1 q1;rw[ha] at hu;show AD hu hu hu hu hu hu hu hu hu hu hu hu hu hu;exact CS (AHg vs)
   | tr=>show BGW
   | nt=>show BGW
   | xe=>show BGW
   | _=>exact q1.elim
  show AAL (by show A7 hb;exact e)
 refine BGQ ⟨F1,gH Γ,_,R1,q,BGD hp,fun ts B4 F' H' p vs as R' s' ep nd hn rt hp=> ?_⟩
 ·exact kd d Γ _ H' v BfB Be7 (zzx (cut s') d v hp.1 r) hp.2
 ·refine kt ts Γ _ H' p vs as BfB Be7 (BZ1 (cut s' p _ ep)) nd (l5 ?_) (VJ (cut s') ts vs as hp.1 rt) hp.2
  obtain⟨g1,g2,_⟩:=hn a ha;exact⟨by show(CD (gO Γ σ a) Η (F' a))=Η;rw[g1];split<;>rfl,BIb g2,ATm g2⟩
theorem z3l{x1 j}{d:Κ}(he:AAm)(hs:fR Bh1 (.AS7 (M3 d) j p1) [e]:=by rfl)
  (hs2:AMn [e] e:=by rfl):E9 VD (.ABa Bh1 x1 Ψ) (Kg d tn):=fun z E cx=>by
 refine oh (Da ygr (Da Lj yhk (Da Lj Mb (Da Ou) hs2) hs)) (Sf hq ?_);obtain⟨F,Γ,P,R,h,kd,kt⟩:=hq;refine APP rt (So (A2X (D7 2)) p hp0)
 show AR9 [.AX d,v] LU hp0;have lv:MM as AP4:=AO1 (by
  show APT q (ATg t v as rt b hb);rw[z,hp0] at q;show LZ)
 refine kt _ Ω _ _ p _ as AIa A2U gU nd (MO ⟨MS (lv b hb) Ϥ,Đ⟩) ?_ h1
 exact⟨_,_,[],as,Β,Β,ue,v,[],as,[],Β,dA UK _,A6j L_ (Õ (gr.h b u q)) rt,Β,Β⟩
theorem ypg{ep:AN}{x f:Κ}{C:Ζ}{i:Δ}(BGJ):ADy (.xn AVA f Ψ) (nXT C f i):=fun z E cx=>
 oh (Da zum hc hn AZq hb) (Sf hq (by
  obtain⟨F,Γ,P,R,⟨as,fs,ts,t,e0,l,h⟩,k⟩:=hq;show BGX;obtain⟨v,b1,cs,b2,lv,Β,rv,_⟩:=zpg rt l;have mem:BVx:=BR1;exact BGM (k t _ F H v cs (ATi eσ) GH (AT' (AT' nd).2.1).1 (MO ⟨Arz.1,Arz.2,AG2 e0 eσ (E_ (gV Bhy YV b) (mem b hb))⟩) rv h)))
theorem yi7(he:AAm)(JE:AMw "clear":=by rfl)(Mn:mv:=by rfl)
  (hsw:AU1 BMk Η:=by rfl):Aai BMk (PN tn):=fun z E cx=>by
 refine BpL (upN AG F0 H0 tn E σ H (y0 v (BpC/\ ([]:AQ)= []/\Bjo)))
 ·refine Sb yia T L7 (id:= BIO) (r:=fun v vs H1 Q=>vs= []/\Bjo) Aue BtK BtL ?_ Mb JE Mn;rintro Ο s σ H x xs v us Q I rx rs ⟨e0,l,ws,e1,h1,h2⟩;subst e1 e0;show KA;exact z3e Ο s σ H AEk [] AEk us Q I Β rs ⟨l,ws,Β,Β,h1,h2⟩
 ·rintro Dn σ H ⟨F,Γ,D2,R,h,k⟩;refine APP rt ?_;show ZU ts h1 h1;obtain⟨a,vs,bs,Β,Β,ea,_⟩:=rt;show Ct g1 g2 g3 hn a zY;exact⟨Abo vs ea,Β,a,vs,Β,ea,ARI (R1.chg g1 g2 g3)⟩
#where
def z1r:TD:=BTK (.dik ks _)
theorem ykz{X:Cx}(hc:F7):A7k z1r:=by
 show pV;show D' z1r;split at h
 ·rename_i ks ds';obtain⟨v,_,Β,⟨a,o,vs,Β,hq,EK,rs⟩,Β⟩:=rs;show Tu;show AD rx rx rx rx rx rx rx rx rx rx rx rx rx rx;obtain⟨ho,hz,hsm,ws,kv,o',es,ep,h1,h2,h3,h4⟩:=(AIP a ADY a A9');rw[ho] at h1;show Acu;have hm:A4c:=AjN ho;have Ni:A9z=NS:=AT_;have hlk:BNP:=Bev
  rw[Ni] at hz;refine BJ2 (AsB W.kdl_dict hsm) To hm hz fun h' tk A2 c NW hg hac=> ?_;have hv:BQO:=by
   refine BFG (BSR hlk.trans (hac.1).kA)
   obtain⟨k,w,e3,e4⟩:=BaH
   show BBj;show BhQ
  have I2:A9p AZ1 ZO:=
   AKW NW Gc (FF AZ1) (BCf ϵ)
  exact IF my I2 Bdu
 ·show HL
#print _3
namespace _HM
theorem z1z(a b:AB):bS b (Afa b)=bS a b:=by
 rw[Int.fmod_def,Int.gcd_sub_mul_left_right,BJ_]
theorem zft(AlP)(h:Ŭ):(Afa b).ACH<AUD:=by
 rw[Int.fmod_eq_emod];have h1:=BJ' a h;have h2:=Int.emod_lt a h;split
 ·show q_
 ·show Ki;have q1:b<0:=Υ
  have q2:a % b≠0:=Au (q (FV (Int.dvd_of_emod_eq_zero z)));show AF
def dv(ARw):AB:=if b<0 then -(C9 we) else we
def fr(ARw):AB×AB:=(t.fdiv (dv t b),b.fdiv (dv t b))
theorem Zn(AFu):AAd≠0:=by
 unfold dv;have:we≠0:=by
  intro e;exact h (BLM e)
 show Ö
theorem yic(ARw):AAd∣t:=by
 unfold dv;split
 ·exact BtN (BtO ..)
 ·exact Bpg
theorem ybm(ARw):AAd∣b:=by
 unfold dv;split
 ·exact BtN (BKB ..)
 ·exact Bph
theorem VL(AlP)(h:b∣a):b*a.fdiv b=a:=by
 rw[Int.fdiv_eq_ediv_of_dvd h];exact Int.mul_ediv_cancel' h
theorem z3o(ARw):AAd* ZH=t:=VL (yic t b)
theorem VN(ARw):AAd* WA=b:=VL (ybm t b)
theorem z9m(AFu):0< WA:=by
 have e:=VN t b;have n:=Ann h;generalize WA=y at*;unfold dv at e n;split at e
 ·show AI1;have g0:TH<we:=by
   rw[Aj7] at n;have:TH<=we:=BKu;show AF
  rcases A3l y with h | h
  ·exact h
  ·have:0<= -(C9 we)*y:=by
    rw[Int.neg_mul,<- Int.mul_neg];exact Int.mul_nonneg Θ Θ
   show AF
 ·show AI1;have g0:TH<we:=by
   rw[AIh] at n;have:TH<=we:=BKu;show AF
  rcases A3l y with h | h
  ·exact h
  ·have:C9 we*y<=0:=BLE Θ
   show AF
theorem z91(AFu):bS ZH WA=1:=by
 have e1:=z3o t b;have e2:=VN t b;have n:=Ann h;have e3:bS (AAd* ZH) (AAd* WA)=ARy*bS ZH WA:=Int.gcd_mul_left ..;rw[e1,e2] at e3;have e4:ARy=we:=by
  unfold dv;split<;>simp
 rw[e4] at e3;have g0:we≠0:=Au (h BN1);exact(Nat.eq_of_mul_eq_mul_left (BKO g0) (EM Nat.mul_one e3)).kA
theorem zvs{t b:AB}:ZH*b=t* WA:=by
 have e1:=z3o t b;have e2:=VN t b
 calc ZH*b=ZH* (AAd* WA):=NH e2
  _=(AAd* ZH)* WA:=AWa Int.mul_assoc (Afb ZH)
  _=t* WA:=NH e1
theorem ztq{a b c d:AB}(hb:0<b)(hd:0<d)(h1:BVM)(h2:bS c d=1)(h:a*d=c*b):a=c/\b=d:=by
 have bd:b∣d:=by
  have:b∣a*d:=⟨c,IC h Afb⟩
  show BO9 Τ;rw[BJ_,h1] at z
  simpa using z
 have db:d∣b:=by
  have:d∣c*b:=⟨a,AWa h Afb⟩
  show BO9 Τ;rw[BJ_,h2] at z
  simpa using z
 have e:b=d:=Int.dvd_antisymm (BKC hb) (BKC hd) bd db;subst e;exact⟨BtP (BtQ hb) h,Β⟩
theorem yo6{t b t' b' :AB}(h:Ŭ)(h' :b' ≠0)(e:t*b' =t' *b):fr t b=fr t' b' :=by
 have c1:=zvs (t:=t) (b:=b);have c2:=zvs (t:=t') (b:=b');have p1:=z9m (t:=t) h;have p2:=z9m (t:=t') h';have k:ZH* BSk=BSm* WA:=by
  generalize ZH=x at*;generalize WA=y at*;generalize BSm=x' at*;generalize BSk=y' at*
  
  have:(x*y')* (b*b')=(x' *y)* (b*b'):=by
   calc (x*y')* (b*b')=(x*b)* (b' *y'):=Ajg
    _=(t*y)* (b' *y'):=NH c1
    _=(t*b')* (y*y'):=Ajg
    _=(t' *b)* (y*y'):=AOg
    _=(t' *y')* (b*y):=Ajg
    _=(x' *b')* (b*y):=NH c2
    _=(x' *y)* (b*b'):=Ajg
  exact BtP (BKD h h') Τ
 show AEZ e1 (ztq p1 p2 (z91 h) (z91 h') k);exact BTM
theorem ymk(AlP)(hb:0<b)(h:BVM):fr a b=(a,b):=by
 have c1:=zvs (t:=a) (b:=b);show AEZ e1 (ztq (BRc (z9m (t:=a))) hb (BRc z91) h (by rw[c1]))
 exact BTM
theorem yhr(AFu):g9 ZH<=Afc:=by
 have e:=P6 AvF (z3o t b);rw[Ľ] at e;have n:=Ann h;have:1<=ARy:=Υ
 calc A2t=1* A2t:=NH AMG
  _<=ARy* A2t:=BRb
  _=Afc:=e
theorem yhn(AFu):g9 WA<=AUD:=by
 have e:=P6 AvF (VN t b);rw[Ľ] at e;have n:=Ann h;have:1<=ARy:=Υ
 calc A2s=1* A2s:=NH AMG
  _<=ARy* A2s:=BRb
  _=AUD:=e
#print _HM
namespace _3
open KB _2 _HM
def qD(AKP):D:= AP' ACI AUG
theorem yid(AFu):fr t b=(AmG,C9 AaE):=by
 have hb:TH< AaE:=NE (AgE den_pos)
 have hg:bS AmG AaE=1:=by
  have:=AgE reduced
  simpa [bS] using Τ
 have e:AmG*b=t* AaE:=by
  have q:=BtR (Rat.divInt t b);rw[Rat.divInt_eq_divInt_iff Θ h] at q
  exact q
 have:=UY yo6 t t b b t' AmG b' AaE h Θ kq
 rw[Τ,ymk hb hg]
theorem Zo(AFu):fr t b=((YN t b).num,C9 (YN t b).den):=IC (yid h) BKE
theorem PX(AKP):A7X:=by
 have:=q.den_pos;intro e;have:AJY=0:=ý e
 show AF
theorem Qa(AKP):YN ACI AJY=q:=by
 have:=BLQ;show D5 BKE;exact Τ
def Sz(n:Δ)(q:AL):Ι:=dD ACI<=n/\dD AJY<=n
theorem Sz.up{m n:Δ}{q:AL}(h:Sz m q)(k:m<=n):Sz n q:=⟨zO Ee k,zO h.2 k⟩
theorem Qc{t b:AB}(o5)(h:Ŭ)(h1:dD t<=n)(h2:dD b<=n):Sz n (YN t b):=by
 have e:=Zo (t:=t) h;have e1:ZH=_:=AAQ Prod.fst;have e2:WA=_:=AAQ BKF;show A9T;refine⟨zO (MJ ?_) h1,zO (MJ ?_) h2⟩
 ·rw[<- e1];exact yhr h
 ·rw[<- e2];exact yhn h
theorem yhg(AQm):a+b=A7u (Amp+kr*bc):=by
 have ha:=PX a;have hb:=PX b;show AsE;rw[AvG,PQ,PQ,PQ];show Art
theorem ygx(AQm):a - b=A7u (Amp - kr*bc):=by
 have ha:=PX a;have hb:=PX b;show AsE;rw[AUH,PQ,PQ,PQ];show Art
theorem yhp(AQm):a*b=A7u (AHE*kr):=by
 have ha:=PX a;have hb:=PX b;show AsE;rw[PQ,PQ];show Art
theorem Ci{b:AL}:kr=0↔b=0:=Rat.num_eq_zero
theorem ygq(a b:AL)(h:Ŭ):a/b=AVb Amp (C9 (bc*kr)):=by
 have ha:=PX a;have hb:=PX b;show AsE;rw[PQ,PQ];show Art
theorem yjb(AQm):Χ (a<b)=O0 (Amp<kr*bc):=CL decide_eq_decide (Rat.lt_iff a b)
theorem VP(AQm):fg (bc*AMH):=BRL (AWf b.den_pos)
theorem yne(AFu):ACJ (AUt ZH WA)=qD (YN t b):=by rw[Zo h];rfl
theorem ygs(BBP):Sz (m+n+1) (a+b):=by
 rw[yhg];refine A8K
 ·show A5v;have h2:=G9 kr bc;have h3:=zi4 BRz BR0;show BUC
 ·show A5w;show ñ ha.2 hb.2
theorem Nt(BBP):Sz (m+n+1) (a - b):=by
 rw[ygx];refine A8K
 ·show A5v;have h2:=G9 kr bc;have h3:=znm BRz BR0;show BUC
 ·show A5w;show ñ ha.2 hb.2
theorem yg3(BBP):Sz (m+n) (a*b):=by
 rw[yhp];refine A8K
 ·have h1:=G9 AHE kr;show ñ ha.1 hb.1
 ·show A5w;show ñ ha.2 hb.2
theorem ycc(Bnf)(ha:Sz m a)(hb:Sz n b)(h0:Ŭ):Sz (m+n) (a/b):=by
 rw[ygq a b h0];have hn:fg (bc*kr):=BRL (FI (h0 (Ci.mp z)))
 refine Qc hn ?_ ?_
 ·show A5v;show ñ ha.1 hb.2
 ·have h1:=G9 bc kr;show ñ ha.2 hb.1
theorem Qd(ARW):qD (BB i)= .Dx [GG,.AU 1]:=Β
theorem VR{i:AB}{n:Δ}(h:gy<=n)(hn:1<=n):Sz n (BB i):=⟨h,zO (ACn 1 (AZB (MC 1<2^1))) hn⟩
def gJ:BI ->AL | []=>0 | q::qs=>q+gJ qs
theorem z05(a b:BI):gJ (a++b)=gJ a+gJ b:=by
 induction a with
 | D8=>simp [gJ,BtS]
 | AY x xs ih=>simp only [KP,gJ,ih,Rat.add_assoc]
theorem yhw{m:Δ}:BAr (Sz m q) (Sz (IR* (m+2)+1) (gJ qs))
 | [],_=>⟨by show B1 (dD 0<=_);exact BXb,by show B1 (dD 1<=_);exact BXb⟩
 | q::qs,h=>by
  have i:=yhw (qs:=qs) AnQ;refine(ygs (h q zY) i).up ?_;have:(IR+1)* (m+2)=IR* (m+2)+ (m+2):=IC BKG AMG
  simp only [H_];show AF
abbrev Tn(l:BI):Ι:=BIy (· <= ·)
def cnt(BDq):Δ:=D_ AMI BaQ
def yw(l:BI)(q:AL):BI:=BOv++q::BOw
def pI(i'):BI:=BKH yw []
theorem yoj(BDq):AjX (cnt q l):=A0b
theorem z2v{q:AL}:NA l BI (Tn l) ((∀o∈BOv,o<=q)/\∀o∈BOw,q<o)
 | [],_=>⟨DB,DB⟩
 | x::l,hs=>by
  show FX p1 p2 Ae9 hs;show FX i1 i2 (z2v (q:=q) (l:=l)) p2;by_cases hx:q<x
  ·have all:∀o∈x::l,q<o:=by
    intro o ho;rcases EQ ho with Β | ho
    ·exact hx
    ·exact Std.lt_of_lt_of_le hx (p1 o ho)
   have e:cnt q (x::l)=0:=by
    unfold cnt;rw[AvI]
    ·rfl
    ·intro o ho;simp [all o ho]
   rw[e];exact⟨DB,C6 all⟩
  ·have e:cnt q (x::l)=cnt q l+1:=by
    unfold cnt;rw[ku,DZ AYY,H_]
   rw[e,BtT,BtU];refine APZ o ho i2;rcases EQ ho with Β | ho
   ·exact BtV hx
   ·exact i1 o ho
theorem ye5{l:BI}{q:AL}(h:Tn l):Tn (yw l q):=by
 show ARV (z2v (q:=q) h);unfold yw Tn;rw[BJR];refine⟨h.sublist (Bq9 _ _),BIt ⟨fun o ho=>Afg (h2 o ho),h.sublist (List.drop_sublist _ _)⟩,BX2⟩;rcases WJ with Β | hb
 ·exact h1 a ha
 ·exact AMJ (h1 a ha) (Afg (h2 b hb))
theorem zxs(l:BI)(q:AL):(yw l q).ei (q::l):=by
 refine List.perm_middle.trans ?_;rw[AfO]
theorem z1b:∀(qs A2:BI),Tn A2 ->Tn (BKH yw A2)/\ (BKH yw A2).ei (qs++A2)
 | [],A2,h=>⟨h,sf⟩
 | q::qs,A2,h=>by
  show ARV (z1b qs (yw A2 q) (ye5 h));refine⟨h1,BJO ?_⟩;refine(BsI qs (zxs A2 q)).Ff ?_;exact List.perm_middle
theorem yjc(i'):Tn (pI qs):=(z1b qs [] ATe).1
theorem Tq(i'):(pI qs).ei qs:=ACf (z1b qs [] ATe).2 UK
theorem Zq(i'):BTu pI:=(Tq qs).Auw
def Tr(l:BI):AL:=Nn A9S 1 AmE ((ADW (mr - 1)+AmE)/2)
def wd(l:BI)(j:Δ):AL:=ADW APe - ADW j
structure Best (l:BI) (b:Δ):Ι where
 lt:AEb (b+1)
 le:BXM (AEb (j+1))
 gt:BU7 (AEb (j+1))
theorem Best.unique{l:BI}{a b:Δ}(x:Best l a)(y:Best l b):a=b:=by
 rcases BJQ a b with h | h | h
 ·exact A2R (x.gt b y.lt h) (y.le a x.lt)
 ·exact h
 ·exact A2R (y.gt a x.lt h) (x.le b y.lt)
abbrev Pt:=AL×AL
def pD(p:Pt):D:= .Dx [qD DJ,qD p.2]
def Cj(l r:Pt)(x:AL):AL:=l.2+ (x - l.1)* ApP/ AaV
def LQ(a b:Pt):AT:=BSb&& !(Χ (b.2<a.2))
def Gd:GN FD
 | []=>IM
 | [_]=>IM
 | AkW=>(a.1<b.1/\a.2<=b.2)/\Gd AZW
def pC:BTy
 | [],_=>0
 | [p],_=>p.2
 | AnS,x=>BWz (CD (l.1<x) BAq l.2) pC
def Bf:BTy
 | [],_=>0
 | [p],_=>p.2
 | AnS,x=>BWz BAq Bf
theorem ynz(Be4):∃k:AL,0<=k/\ (l.2<r.2 ->0<k)/\k* AaV=r.2 - l.2/\∀x,BAq=l.2+ (x - l.1)*k:=by
 have hd:0<AbB:=P2
 have hi:0< AaV⁻¹:=BtW hd;have hn:AbB≠0:=P2
 refine⟨ApP* AaV⁻¹,BKI Azz (Afg hi),EX (Rat.mul_pos Azz hi),?_,II x⟩
 ·rw[ye,AJZ hn,AMK]
 ·unfold Cj;rw[M0,ye]
theorem yj5(Be4):Cj l r l.1=l.2:=by
 obtain⟨k,_,_,_,e⟩:=ynz h h2;rw[e];grind
theorem z39:∀{ps:FD} {x:AL},AAk ->(∀p,ps.head?=Ε p ->DJ<=x) ->BX4
 | [],_,_,_=>Β
 | [p],_,_,_=>Β
 | AnS,x,hg,hx=>by
  have hl:=hx l Β;obtain⟨⟨h1,h2⟩,h3⟩:=hg;unfold Bf pC;by_cases h:x<B6
  ·rw[AYJ,AYJ];by_cases h' :l.1<x
   ·show DU h'
   ·show A7 h';have:x=l.1:=P2
    show oB;exact yj5 h1 h2
  ·rw[APc,APc];exact z39 h3 (õ (by show AD hp hp hp hp hp hp hp hp hp hp hp hp hp hp;grind))
def nO:FD ->Pt | []=>Ô | [p]=>p | _::r::t=>nO (r::t)
theorem ydl{x:AL}{l:Pt}{t:FD}(hg:Gd (l::t))(hx:¬l.1<x):pC (l::t) x=l.2:=by
 cases t with
 | D8=>rfl
 | AY r t=>
  obtain⟨⟨h1,h2⟩,h3⟩:=hg;unfold pC;rw[DZ Azz,Cc hx]
#print _3
namespace _HM
abbrev Bd:=AB×AB
def Br(b:Bd)(x:AB):AT:=Χ (b.1<=x)&&Χ (x<=b.2)
def Ck(S l:CI)(b:Bd):CI:=A7I BQM
def rk(S:CI)(bs:Hd):ME CI
 | 0=> [0]
 | EZ=>Ck S (rk S bs i) (ŀ i Ô)
def gk(S:CI)(n:AB)(rb:Hd):ME CI
 | 0=> [n]
 | EZ=>A7I ((gk S n rb i).any fun DV=>Br BRm (DV - e))
def lC(S:CI)(n:AB):CI:=BtX (n - ·)
theorem yef{S:CI}{n e:AB}:AQx∈lC S n↔AXa:=by
 unfold lC;rw[aE];constructor
 ·rintro⟨x,hx,h⟩;show ZA x e
  exact BtY hx
 ·exact EX (ZZ e (List.mem_reverse.mpr h))
theorem tE{S l:CI}{b:Bd}{e:AB}:e∈Ck S l b↔AXa/\∃s∈l,Br b AXg=Μ:=Ć Ck ģ ATu
theorem wL{S:CI}{n e:AB}{rb:Hd}{i:Δ}:e∈gk S n rb Db↔AXa/\∃DV∈gk S n rb i,Br BRm (DV - e)=Μ:=by
 show B1 (e∈BKJ _↔_);rw[ģ,ATu]
theorem z1p{S:CI}{n:AB}{rb:Hd}:∀(i:Δ) (e:AB),e∈gk S n rb i↔ AQx∈rk AOa rb i
 | 0,e=>by
  show B1 (e∈ [n]↔ AQx∈ [0]);rw[ABG,ABG];show AF
 | EZ,e=>by
  rw[wL];refine(?_:_↔ AQx∈Ck AOa (rk AOa rb i) _);rw[tE,yef];refine and_congr_right (FM ⟨fun(AFH w)=>(CU (n - o) ((z1p i o).mp ho)),fun⟨s,hs,w⟩=>(CU (n - s) ((z1p i (n - s)).mpr ?_))⟩)
  ·rw[JY (n - e - (n - o)=o - e)];exact w
  ·rw[JY (n - (n - s)=s)];exact hs
  ·rw[JY (n - s - e=n - e - s)];exact w
theorem z62{S:CI}{n:AB}{rb:Hd}(hn:AXb):BiU (e∈gk S n rb i)
 | 0,e,h=>Axr h hn
 | _+1,_,h=>(wL.mp h).1
theorem ynq{S:CI}{bs:Hd}(h0:TH∈S):BiU (e∈BAv)
 | 0,e,h=>Axr h h0
 | _+1,_,h=>(tE.mp h).1
theorem zt1{bs:Hd}{i:Δ}(h:i<JI):bs.reverse.getD (AgC Db) Ô=ŀ i Ô:=by
 rw[QQ,QQ,BsX Θ]
 congr 2
 show AF
theorem meet(Bc7):∀i,i<=JI ->((∃e∈BAv,Agd e (AgC i))↔ Ab4)
 | 0,_=>AYD (AR1 e (by rw[ł h1] at h2;exact h2)) ⟨0,AfZ Β,h⟩
 | EZ,hi=>by
  rw[<- meet h0 hn i Θ]
  have e1:JI - i=JI - Db+1:=Υ
  constructor
  ·rintro⟨e,h1,h2⟩;obtain⟨_,s,hs,w⟩:=tE.mp h1;refine CU s hs;rw[e1,wL];exact⟨ynq h0 hs,e,h2,ϒ zt1 Θ w⟩
  ·rintro⟨e,h1,h2⟩;rw[e1,wL] at h2;obtain⟨_,o,ho,w⟩:=h2;refine⟨o,tE.mpr ⟨z62 hn ho,e,h1,?_⟩,ho⟩;show ND (zt1 Θ) w w
theorem z5f(Bc7):n∈rk S bs JI↔ Ab4:=by
 rw[<- meet h0 hn JI BKp];rw[Nat.sub_self];exact⟨EX ⟨n,h,AfZ Β⟩,AR1 e (by rw[ł h2] at h1;exact h1)⟩
def V0:CI ->AB
 | []=>0
 | [x]=>x
 | x::y::r=>if V0 (y::r)<=x then x else V0 (y::r)
theorem z6j:NA l CI (l≠ []) (V0 l∈l/\∀i∈l,i<=V0 l)
 | [],h=>A_G
 | [x],_=>⟨AfZ Β,Rl (by show lf hi;exact Auc _)⟩
 | x::y::r,_=>by
  show ARV (z6j (l:=y::r) A1)
  unfold V0;split
  ·show Ki;refine So zY i hi;rcases EQ hi with Β | hi
   ·exact Auc _
   ·exact BtZ (h2 i hi) q
  ·show Ki;refine So (zW _ h1) i hi;rcases EQ hi with Β | hi
   ·show q_
   ·exact h2 i hi
def cand(S:CI)(n:AB)(bs:Hd)(k:Δ)(f:AB):CI:=A7I (BEY (e - f)&&(gk S n AML AWq).ABe e)
def fk(S:CI)(n:AB)(bs:Hd):Ą
 | 0=>0
 | k+1=>V0 (cand S n bs k (AWU k))
theorem wM{S:CI}{n:AB}{bs:Hd}{k:Δ}{f e:AB}:e∈cand S n bs k f↔AXa/\BVs (e - f)/\Agd e AWq:=by
 unfold cand;rw[ģ,eS,AvJ]
theorem z0b{S:CI}{n:AB}{bs:Hd}(hn:AXb)(hg:Ab4):∀k,k<=JI ->BXh/\ (A2Q ->Ao6≠ [])
 | k,hk=>by
  have a:BXh:=by
   cases k with
   | UN=>exact hg
   | UO k=>
    have ih:=BYv Θ
    exact(wM.mp (z6j ih).1).2.2
  refine AYD a ?_;rw[JY (JI - k=JI - LY+1),wL] at a
  obtain⟨_,o,ho,w⟩:=a;rw[zt1 h] at w;intro e;have:=UY wM S S n n bs bs k k (f:=Ag9) (e:=o) |>.mpr ⟨z62 hn ho,w,ho⟩
  show D5 e;show LH
theorem yn8{S:CI}{n:AB}{bs:Hd}(hn:AXb)(hg:Ab4){k:Δ}(hk:A2Q):
  AZ_∈Ao6/\∀i∈Ao6,i<=AZ_:=z6j (BYv hk)
theorem z7s:∀{a b:CI},AjR a.Pairwise ->AjR b.Pairwise ->(∀i,i∈a↔i∈b) ->a=b
 | [],[],_,_,_=>Β
 | [],y::b,_,_,h=>Ā (h y).mpr zY A1
 | x::a,[],_,_,h=>Ā (h x).mp zY A1
 | x::a,y::b,ha,hb,h=>by
  rw[AL_] at ha hb;have e:x=y:=by
   rcases Ap' x zY with e | e
   ·exact e
   ·rcases Aqh y zY with e' | e'
    ·exact e'.symm
    ·have:=hb.1 x e;have:=ha.1 y e';show AF
  subst e;rw[z7s ha.2 hb.2 (FK ?_)];constructor
  ·intro hi;rcases Ap' i (zW _ hi) with Β | q
   ·show AAP (ha.1 i hi)
   ·exact q
  ·intro hi;rcases Aqh i (zW _ hi) with Β | q
   ·show AAP (hb.1 i hi)
   ·exact q
section
variable{α:Ch}[AZf]
def eE(g hs:DE):AT:=hs.any (EX (Χ (h∈g)))
theorem uz{g hs:DE}:AbH g↔∃x,AYy/\x∈hs:=by
 unfold eE;rw[ATu];exact⟨AR1 x ⟨x,yB h2,h1⟩,AR1 x ⟨x,h2,P_ h1⟩⟩
theorem yb7{g hs:DE}(h:AEn (eE g hs)){x:α}(h1:AYy):x∉hs:=fun h2=>by
 rw[uz.mpr ⟨x,h1,h2⟩] at h;show HK
structure oA (Ss fs:c_):Ι where
 ne:AbA (f≠ [])
 dj:fs.Pairwise fun a b=>Bnm
 co:∀x,(∃f∈fs,AP3)↔∃S∈Ss,x∈S
 B_:AWt (ApG (Ŝ S f))
 min:∀C:GN α,(∀S∈Ss,Acd S S) ->AbA (Acd f f)
theorem oA.nil:oA ([]:c_) []:=by
 refine⟨?_,ATe,?_,?_,?_⟩
 ·intro _ h;show HK
 ·intro x;constructor
  ·rintro⟨_,h,_⟩;show HK
  ·rintro⟨_,h,_⟩;show HK
 ·show Aqr
 ·intro _ _ _ h;show HK
theorem Zr:NA fs c_ A_3 (∀{a b:DE} {x:α},BC (a∈fs) (b∈fs) (x∈a) (x∈b) (a=b))
 | [],_,_,_,_,ha,_,_,_=>sq ha ha ha ha ha ha ha ha ha ha ha ha ha ha
 | pE,h,a,b,x,ha,hb,xa,xb=>by
  show A1a;rcases EQ ha with e1 | ha1
  ·subst e1;rcases WJ with e | hb
   ·exact kq
   ·show MT xb (Ee b hb x xa)
  ·rcases WJ with e | hb
   ·show ü (cf xa (Ee a BKU x xb))
   ·exact Zr h.2 BKU hb xa xb
theorem oA.step{Ss fs:c_}{S g:DE}(h:ARS)(hS:S≠ [])(hg:Af' g (x∈S\/ApG (eE f S=Μ/\AP3))):
  oA (Ss++ [S]) (AUI (BA f (! AFP))++ [g]):=by
 have mf:∀f,f∈Apl AFP ->(f∈fs/\ AEn AFP)\/f=g:=ARl (by
  rcases LO hf with hf | hf
  ·exact CS (ASt hf)
  show AAL (zR.mp hf))
 show FY mg (g∈Apl AFP) A4h ml (AbA (AEn AFP ->f∈Apl AFP)) (fun f h1 h2=>zP _ (AeC AnW)) ⟨Cb f hf,?_,Tk AkJ,Cb T hT,Jn C hC f hf hx⟩
 ·rcases mf f hf with hf | Β
  ·exact h.ne f hf.1
  ·intro z;cases S with
   | D8=>exact hS Β
   | AY x S=>
    have:=A6p zY;show D5 z;show LH
 ·rw[BJR];refine⟨h.dj.filter _,Bta _ _,fun a ha b hb x xa=> ?_⟩;show AEI;show FX ha hn ASt ha;intro xg;rcases(hg x).mp xg with xs | ⟨f,hf,hm,xf⟩
  ·exact yb7 hn xa xs
  ·have:=Zr h.dj ha hf xa xf;show oB;rw[hm] at hn;show AD hn hn hn hn hn hn hn hn hn hn hn hn hn hn
 ·rintro⟨f,hf,xf⟩;rcases mf f hf with hf | Β
  ·show BU T hT xT (h.co x).mp ⟨f,hf.1,xf⟩;exact⟨T,zP _ hT,xT⟩
  ·rcases(hg x).mp xf with xs | ⟨f,hf,_,xf⟩
   ·exact⟨S,A4h,xs⟩
   ·show BU T hT xT (h.co x).mp ⟨f,hf,xf⟩;exact⟨T,zP _ hT,xT⟩
 ·rintro⟨T,hT,xT⟩;rcases LO hT with hT | hT
  ·show BU f hf xf (h.co x).mpr ⟨T,hT,xT⟩;cases q:AFP with
   | Μ=>exact⟨g,mg,BcE xf⟩
   | AE=>exact⟨f,ml f hf (WB q),xf⟩
  ·rw[ł hT] at xT;exact⟨g,mg,A6p xT⟩
 ·rcases LO hT with hT | hT
  ·show Ct f hf k h.sub T hT;cases q:AFP with
   | Μ=>exact⟨g,mg,AQu (BcE (k x hx))⟩
   | AE=>exact⟨f,ml f hf (WB q),k⟩
  ·show lf hT;exact⟨g,mg,AQu (A6p hx)⟩
 ·have Tg:∀T∈Ss,Acd T T:=fun T hT=>hC T (zP _ hT);have hCS:=hC S (zQ _ BnJ);rcases mf f hf with hf | Β
  ·exact h.min C Tg f hf.1 hx
  ·have all:Agk S:=by
    obtain⟨x,xf,cx⟩:=hx;rcases(hg x).mp xf with xs | ⟨f,hf,hm,xf⟩
    ·exact hCS ⟨x,xs,cx⟩
    ·have:=h.min C Tg f hf ⟨x,xf,cx⟩;show BU y y1 y2 uz.mp hm;exact hCS ⟨y,y2,Τ y y1⟩
   intro y hy;rcases(hg y).mp hy with ys | ⟨f,hf,hm,yf⟩
   ·exact all y ys
   ·show BU z z1 z2 uz.mp hm;exact h.min C Tg f hf ⟨z,z1,all z z2⟩ y yf
theorem oA.incl(Bid)(h:ARS)(h' :oA LR fs')(e:A'd){f f' :DE}{x:α}(hf:f∈fs)(hf' :f' ∈fs')(h1:AP3)(h2:x∈f'):∀y∈f,y∈f' :=by
 refine h.min (· ∈f') (Jn S hS ⟨z,z1,z2⟩ y hy) f hf ⟨x,h1,h2⟩;show Ct S' hS' k e S hS;show Ct f2 hf2 k2 h'.sub S' hS';have:=Zr h'.dj hf' hf2 z2 (k2 z ((k z).mp z1));show oB;exact k2 y ((k y).mp hy)
theorem oA.same(Bid)(h:ARS)(h' :oA LR fs')(e:A'd)(e' :∀S∈LR,Bnu Ss){f:DE}(hf:f∈fs):∃f' ∈fs',AVu f f' :=by
 cases q:f with
 | D8=>show MT q (h.ne f hf)
 | AY x r=>
  rw[<- q];have hx:AP3:=CL q zY
  show BU S hS xS (h.co x).mp A6u;show Ct S' hS' k e S hS;show BU f' hf' xf' (h'.co x).mpr ⟨S',hS',(k x).mp xS⟩;exact⟨f',hf',fun y=>⟨fun hy=>h.incl h' e hf hf' hx xf' y hy,fun hy=>h'.incl h e' hf' hf xf' hx y hy⟩⟩
theorem oA.perm{Ss fs gs:c_}(h:ARS)(p:gs.Perm fs):oA Ss gs:=by
 refine⟨ARl (h.ne f (BKK hf)),?_,II x,Cb S hS,fun C hC f hf=>h.min C hC f (BKK hf)⟩
 ·exact(p.pairwise_iff (fun{a b} k x xb xa=>k x xa xb)).mpr h.dj
 ·rw[<- h.co x];exact⟨Bf4 BKK,Bf4 Btb⟩
 ·show Ct f hf k h.sub S hS;exact⟨f,Btb hf,k⟩
theorem V1{β:Ch}{R:D1 β β}(as:∀a b,R a b ->¬R b a):∀{l m:RF},BNN ->m.Pairwise R ->(AVu l m) ->l=m
 | [],[],_,_,_=>Β
 | [],b::m,_,_,h=>by have:=(h b).mpr zY;show LH
 | F_,[],_,_,h=>by have:=(h a).mp zY;show LH
 | F_,b::m,h1,h2,h=>by
  rw[AL_] at h1 h2;have e:a=b:=by
   rcases Ap' a zY with e | q
   ·exact e
   ·show A2m (Aqh b zY) e q' kq (eI (n9 b q') (as _ _ (h2.1 a q)))
  subst e;have irr:¬R a a:=Au (as a a z z);rw[V1 as Ϝ h2.2 (Tk ⟨II hx,II hx⟩)]
  ·rcases Ap' x A1Z with e | q
   ·show ü (cf (n9 _ hx) irr)
   ·exact q
  ·rcases Aqh x A1Z with e | q
   ·show ü (cf (h2.1 _ hx) irr)
   ·exact q
theorem Hr:∀{l U:DE},l.Nodup ->(∀x∈l,x∈U) ->AjW Ņ
 | [],U,_,_=>MZ
 | F_,U,nd,h=>by
  have nd' :=Atu nd;have ha:=h a zY;have:=Hr (l:=l) (U:=U.erase a) nd'.2 (AQu (by
   have ne:x≠a:=Ž nd'.1 hx;exact(List.mem_erase_of_ne ne).mpr (h x (zW _ hx))))
  rw[List.length_erase_of_mem ha] at Τ;have:0<Ņ:=Brk ha;rw[H_];show AF
theorem zi5:∀{fs:c_},A_3 ->(Abn f.Nodup) ->fs.flatten.Nodup
 | [],_,_=>DB
 | pE,h,k=>by
  show A1a;rw[Afh,AL'];refine⟨k f zY,zi5 h.2 (AMz g hg k g hg),Jn a ha b hb e⟩;subst e;show AYX g hg ag hb;exact Ee g hg a ha ag
#where
def dB(g:ę):Ak1
 | []=>0
 | ċ=>g c cs - sR d ds (g d wS) cs
abbrev Row:=dS
def dt:FB ->DA ->AL
 | [],[]=>1
 | [],EF=>0
 | o_,cs=>A'w (r c)
theorem znt{g h:ę}:Ay_ (∀c ds,g c ds=h c ds) (dB g cs=dB h cs)
 | [],_=>Β
 | ċ,e=>Ć dB e (znt (cs:=cs) fun d ds=>e d wS)
theorem zur{g h:ę}:BY1 (g c ds+h c ds) (dB g cs+dB h cs)
 | []=>ϊ dB
 | ċ=>AxJ dB (zur (cs:=cs))
theorem Zt{g:ę}(k:AL):BY1 (k*g c ds) (k*dB g cs)
 | []=>ϊ dB
 | ċ=>AxJ dB (Zt k (cs:=cs))
theorem zls{g:ę}:NA cs DA (∀c∈cs,∀ds,g c ds=0) (dB g cs=0)
 | [],_=>Β
 | ċ,h=>Al9 dB (h c ġ) (zls (cs:=cs) fun d hd ds=>h d (APp hd) _)
def two(r s:Row)(h:Ak1)(cs:DA):AL:=sR c ds (r c*A7G ds) cs
theorem z38(r s:Row):∀(cs:DA) (h:Ak1),two r s h cs= - two s r h cs
 | [],h=>by unfold two dB;grind
 | ċ,h=>by
  have A6:∀r s:Row,two r s h (c::cs)=r c*BCr (s d) - s c*BCr (r d)+two r s (BA es (h (c::es))) cs:=by
   intro r s;refine(?_:r c*BCr (s d) - sR x ds (r x*A7G wS) cs=_);have e:(fun(MC x) (ds:DA)=>r x*A7G wS)=fun x ds=>(s c* (r x*h ds))+ Kj* (r x*BVc):=by
    funext x ds
    show B1 (r x* (s c*h ds - BVc)=_)
    grind
   rw[e,zur,Zt,Zt];unfold two
   grind
  rw[A6 r s,A6 s r,z38 r s cs]
  grind
theorem ybx(r s:Row)(rs:FB)(cs:DA):dt (r::s::rs) cs= - dt (s::o_) cs:=z38 r s cs (dt rs)
theorem half{x:AL}(h:x= -x):x=0:=P2
theorem yg8{r:Row}:BEc (r∈rs) (dt AQf cs=0)
 | [],_,h=>EG
 | s::rs,cs,h=>by
  rcases AJa with e | h
  ·subst e;exact half (ybx r r rs cs)
  ·rw[ybx];show AaD (dt (s::o_) cs=0) (zls fun c _ ds=>by
    rw[yg8 h];grind)
def fA:BI ->FB ->Row
 | AKD,o_=>Fs (k*r j+AKH)
 | _,_=>â
theorem ynw(r s:Row)(k:AL)(rs:FB)(cs:DA):ADu (VT (r j+k*s j)) cs (dt AQf cs+k*dt (s::rs) cs):=by
 show B1 (dB (hZ ds ((r c+k*s c)*VM ds)) cs=A'w (r c)+k*A'w (s c));rw[<- Zt,<- zur];exact znt fun c ds=>P2
theorem Zu{rs:FB}{cs:DA}:∀{ks:BI} {ss:FB} {r:Row},(∀s∈ss,s∈rs) ->ADu (VT (r j+fA ks ss j)) cs (dt AQf cs)
 | [],ss,r,_=>by
  have:(VT (r j+fA [] ss j))=r:=BPc
  rw[Τ]
 | AKD,[],r,_=>by
  have:(BVS [])=r:=BPc
  rw[Τ]
 | AKD,s::ss,r,h=>by
  have e:(BVS (s::ss))=Fs ((VT (r j+fA ks ss j)) j+k*s j):=by
   funext j
   show B1 (r j+ (k*s j+fA ks ss j)=_)
   grind
  rw[e,ynw,Zu (ks:=ks) fun t ht=>h t (APp ht),yg8 (h s ġ)]
  grind
theorem zue{r:Row}{rs:FB}{j:Δ}{cs:DA}(h:∀c∈cs,r c=0):ADu r ul A5s:=by
 show B1 (A5s - A5x d (r d)=_);rw[zls fun c hc ds=>(AAe (h c hc))]
 grind
def Zv(f:Ak1):Ι:=∀DS c d E5,f AlK= - f (DS++d::ACm)
theorem zwy:∀(DS:DA) (g:ę) (c d:Δ) (E5:DA),(∀x,Zv (g x)) ->dB g AlK= - dB g A2e
 | [],g,c,d,E5,h=>by
  have A6:∀c d,dB g (c::Ag5)=g c (d::E5) - g d (c::E5)+BDl:=by
   intro c d;show B1 (g c (d::E5) - (g d (c::E5) - BDl)=_)
   grind
  have e:dB (fun x es=>g x (d::c::es)) E5=Kj*BDl:=l4 Zt znt (fun x es=>by
    have:=h x [] d c es;simp only [MB] at Τ;rw[Τ];grind)
  refine(?_:dB g (c::Ag5)= - dB g (d::ACm));rw[A6 c d,A6 d c,e]
  grind
 | a::DS,g,c,d,E5,h=>by
  show B1 (g a AlK - BVZ AlK= - (g a A2e - BVZ A2e));rw[h a DS c d E5,zwy DS (fun x ds=>g x (a::ds)) c d E5 fun x p c d q=>h x (a::p) c d q]
  grind
theorem zi8:∀rs:FB,Zv (dt rs)
 | []=>BcW (by (show MQ DS DS DS DS DS DS DS DS DS DS DS DS DS DS)<;>(unfold dt;grind))
 | o_=>BcW (zwy DS _ c d E5 fun x p a b q=>(AAe (zi8 rs p a b q)))
theorem Zw(rs:FB):∀{E5 DS:DA} {c:Δ},c∈E5 ->dt rs AOG=0
 | [],_,_,h=>EG
 | Ag5,DS,c,h=>by
  rcases AJa with e | h
  ·subst e;exact half (zi8 rs DS c c E5)
  ·rw[zi8 rs DS c d E5];have:=Zw rs (DS:=DS++ [d]) h;show D5 Ŀ;rw[vS (DS++d::ACm) (DS++ ([d]++ACm)),Τ];grind
def mZ(rs:FB)(f:Row):Ι:=∃ks:BI,OH=ACN/\∀j,f j=AKH
theorem z15:∀{ks ls:BI} {rs:FB},BNQ ->ls.length=ACN ->BeQ (Al2=AKH+fA ls rs j)
 | [],[],[],_,_=>A_R (ϊ fA)
 | AKD,l::ls,o_,h1,h2=>by
  show Ct ms h3 h4 (z15 (ks:=ks) (ls:=ls) (rs:=rs)) AJh APt
  refine⟨(k+l)::ms,DL h3,AQC⟩
  show(k+l)*r j+Al2=(k*r j+AKH)+ (l*r j+fA ls rs j);rw[h4];grind
 | [],_,EF,h,_=>EG
 | EF,_,[],h,_=>EG
 | _,[],EF,_,h=>EG
 | _,EF,[],_,h=>EG
theorem z2l(x:AL):∀{ks:BI} {rs:FB},BNQ ->BeQ (Al2=x*AKH)
 | [],[],_=>A_R (ϊ fA)
 | AKD,o_,h1=>by
  show BU ms h3 h4 (z2l x (ks:=ks) (rs:=rs)) AJh
  refine⟨(x*k)::ms,DL h3,AQC⟩
  show(x*k)*r j+Al2=x* (k*r j+AKH);rw[h4];grind
 | [],EF,h=>EG
 | EF,[],h=>EG
theorem mZ.add(BcH)(h1:AAZ)(h2:AZd):AJ2 (f j+g j):=by
 obtain⟨ks,a,b⟩:=h1;obtain⟨ls,c,d⟩:=h2;show Ct ms e q z15 a c;exact⟨ms,e,Fs (by show B1 (f j+g j=_);rw[q,b,d])⟩
theorem mZ.mul{rs:FB}{f:Row}(x:AL)(h:AAZ):AJ2 (x*f j):=by
 show RE ks a b;show Ct ms e q z2l x a;exact⟨ms,e,Fs (by show B1 (x*f j=_);rw[q,b])⟩
theorem zrl:∀(rs:FB),∀j,BFZ=0
 | [],j=>OU
 | o_,j=>by
  show B1 (0*r j+BFZ=0);rw[zrl rs j];grind
theorem AvK(rs:FB):mZ rs â:=ϯ (AUJ â) (Fs (zrl rs j).kA)
theorem mZ.cons{rs:FB}{f:Row}(r:Row)(h:AAZ):mZ AQf f:=by
 show RE ks a b;refine⟨0::ks,DL a,AQC⟩
 refine(?_:f j=0*r j+AKH);rw[b];grind
theorem AvL(r:Row)(rs:FB):mZ AQf r:=by
 refine ϯ (1::AUJ â) AQC
 refine(?_:r j=1*r j+BFZ);rw[zrl];grind
theorem mZ.mem{r:Row}:NA rs FB (r∈rs) (mZ rs r)
 | s::rs,h=>by
  rcases AJa with e | h
  ·subst e;exact AvL r rs
  ·exact(mZ.mem h).AY s
theorem mZ.congr(BcH)(h:AAZ)(e:∀j,g j=f j):AZd:=by
 show RE ks a b;exact⟨ks,a,Fs (IC e b)⟩
theorem yaw{rs:FB}:∀{cs:DA} {g:ME ę},(∀x ds,AJ2 (g j x ds)) ->AJ2 (dB (g j) cs)
 | [],g,_=>AvK rs
 | ċ,g,h=>by
  have h1:=h c cs;have h2:=(yaw (cs:=cs) (g:=fun j x ds=>g j x wS) fun x ds=>h x wS).mul Kj;exact(h1.add h2).AUK (Aax (g j c cs - sR d ds (g j d wS) cs=_))
theorem z3r:∀(rs:FB) (cs:DA),AJ2 (VM ul)
 | [],cs=>A_R OU
 | o_,cs=>by
  have h1:=(AvL r rs).mul (dt rs cs);have h2:mZ AQf (Fs (A5x x (r x))):=yaw fun x ds=>(((z3r rs ds).AY r).mul (r x));exact(h1.add (h2.mul Kj)).AUK (Aax (A5s - A5x d (r d)=_))
theorem ybg(rs:FB):∀(n:Δ) (DS E5:DA),pre.length=n ->AJ2 (VM A2d)
 | 0,DS,E5,h=>by
  have:=BJd h;show oB;exact z3r rs E5
 | n+1,DS,E5,h=>by
  have hne:DS≠ []:=Au (by subst z;show HK)
  have e:=List.dropLast_concat_getLast hne;have ih:=(ybg rs n BKM (BQ0::E5) (LG h)).mul Kj
  refine ih.congr AQC;have e2:BKM++BQ0::Ahl=DS++Ahl:=by
   have:=AAQ (· ++j::post)
   simpa only [Ŀ,List.singleton_append] using Τ
  rw[<- e2,zi8 rs BKM (pre.getLast hne) j E5]
  grind
def wN(x:AL):Ι:=∃z:AB,x=BB z
theorem wN.sub(BWa):wN (x - y):=by
 show yi a h1;show yi b h2;exact⟨a - b,DL AUH⟩
theorem wN.mul(BWa):wN (x*y):=by
 show yi a h1;show yi b h2;exact⟨a*b,DL PQ⟩
theorem z72{g:ę}:Ay_ (∀c ds,wN (g c ds)) (wN (dB g cs))
 | [],_=>⟨0,OU⟩
 | ċ,h=>(h c cs).B_ (z72 (cs:=cs) fun d ds=>h d wS)
theorem yb2:BEc (∀r∈rs,AW2 r) (wN (dt rs cs))
 | [],[],_=>⟨1,OU⟩
 | [],EF,_=>⟨0,OU⟩
 | o_,cs,h=>z72 fun c ds=>Bg9 (yb2 (AMz s hs h s hs))
theorem zu2{rs:FB}{cs:DA}{f:Row}(h:AAZ)(z:Aoi)(d:VM cs≠0)(j:Δ):f j=0:=by
 show AX9 ks h;have h1:A5y:=zue z;have h2:ADu f ul (dt BLl ul):=by
  show AsK (j::cs) â;show ú
  congr 2
  funext i
  rw[e];grind
 have h3:dt BLl ul=0:=zls fun c _ ds=>by show B1 (0*VM ds=0);grind
 rw[h3,h1] at h2;rcases AUL h2 with q | q
 ·exact q
 ·show MT q d
theorem yih(Aqc){a f g:Row}(hf:A7g)(hg:AZd)(z:Aoi)(wa:AW2 a)(wr:A5R)(j:Δ):wN (VM cs*f j):=by
 show AX9 ks hg;have h1:A5y:=zue z;have h2:ADu f ul (dt ϻ ul):=by
  show AsK (j::cs) a;show ú
  show BBq
 rw[ASa,<- h1,h2];exact yb2 (ZE (by
  rcases EQ hr with q | q
  ·subst q;exact wa
  ·exact wr r q))
theorem yoy(BkH)(h:AAZ)(DV:f c=1)(z:BSP)(wr:A5R)(d:VM AOG≠0)(j:Δ):wN (A3e):=by
 have hl:=Be9 Β;have e:dt rs A2d=A3e:=by
  have A6:=zu2 (cs:=DS++ACm) (hl.add ((h.mul (dt rs AOG)).mul Kj)) AoV d j
  ·grind
  ·by_cases hc:x=c
   ·subst hc;rw[DV];grind
   ·have hx' :x∈AyI:=by
     rcases LO hx with q | q
     ·exact zP _ q
     ·show BdF
    rw[z x hx'];show AaD (dt rs BLp=0) (by
     rcases LO hx' with q | q
     ·show BU p1 p2 Β AsU q;have:=Zw rs (DS:=p1) (E5:=p2++x::E5) (c:=x) A1
      rw[Ŀ];exact Τ
     ·exact Zw rs q)
 rw[<- e];exact yb2 wr
structure Low (rs:FB) (cs:DA) (a f:Row):Ι where
 g:∃g:Row,AZd/\A7g
 z:Aoi
structure Up (rs:FB) (cs:DA) (c:Δ) (f:Row):Ι where
 l:AAZ
 o:f c=1
 z:∀x∈cs,x≠c ->f x=0
theorem Low.dt{rs:FB}{cs:DA}{a f:Row}(h:AbT f)(p:Δ):Ac0 ϻ AJ3=BY0:=by
 obtain⟨⟨g,⟨ks,_,e⟩,hf⟩,z⟩:=h;have h1:Ac0 (f::rs) AJ3=BY0:=zue z;have h2:Ac0 (f::rs) AJ3=Ac0 ϻ AJ3:=by
  show AsK (p::cs) a;show ú
  show BBq
 rw[<- h2,h1]
theorem Low.lin{rs:FB}{cs:DA}{a f:Row}(h:AbT f):mZ ϻ f:=by
 obtain⟨⟨g,l,hf⟩,_⟩:=h;exact((AvL a rs).add (l.cons a)).AUK hf
theorem Low.step(Aqc){a b q f:Row}{p:Δ}(hq:AbT q)(hp:q p≠0)(h:Low rs cs b f):Low ϻ AJ3 b BSf:=by
 obtain⟨g,l,hf⟩:=h.g;refine So (EL ((l.cons a).add (BGb (-(AJD)))) (Fs (by show B1 (f j - AJD*q j=b j+ (g j+ -(AJD)*q j));rw[hf j];grind))) c hc
 rcases EQ hc with e | hc
 ·subst e;rw[Bpm hp];grind
 ·rw[h.z c hc,hq.z c hc];grind
theorem Up.step(Aqc){a q f:Row}{p c:Δ}(hq:AbT q)(hp:q p≠0)(h:Up rs cs c f)(hc:c∈cs):Up ϻ AJ3 c BSf:=by
 refine⟨((h.l.cons a).add (BGb (-(AJD)))).AUK (Aax (f j - AJD*q j=f j+ -(AJD)*q j)),?_,BVn⟩
 ·rw[h.o,hq.z c hc];grind
 ·rcases EQ hx with e | hx
  ·subst e;rw[Bpm hp];grind
  ·rw[h.z x hx n,hq.z x hx];grind
theorem Up.new{rs:FB}{cs:DA}{a q:Row}{p:Δ}(hq:AbT q)(hp:q p≠0):Up ϻ AJ3 p (VT (q j/q p)):=by
 refine⟨(BGb (1/q p)).AUK (Aax (q j/q p=1/q p*q j)),?_,BVn⟩
 ·grind
 ·rcases EQ hx with e | hx
  ·show MT e n
  ·rw[hq.z x hx];grind
def jn:ME DA
 | 0=> []
 | p+1=>p::AOB
theorem lD{x:Δ}:∀{p:Δ},x∈AOB↔x<p
 | 0=>DL jn
 | p+1=>by
  unfold jn;rw[Ģ,lD];show AF
theorem zn1:∀p,ϟ jn p
 | 0=>AfN
 | p+1=>re Bs9 ⟨EX (NE (lD.mp h)),zn1 p⟩
def jr(A:lS)(k:Δ):Row:=Fs (BB (A k j))
theorem z3j(A:lS)(k j:Δ):wN (jr A k j):=E7
structure BT (n:Δ) (A:lS) (p:Δ) (d:AB) (tb:lS) (rs:FB) (fs:AMq) (ix:Á):Ι where
 w:∀r∈rs,BW'
 de:BB d=ArQ
 nz:d≠0
 up:∀i,i<p ->Up rs AlY i (fs i)
 lo:Aa7 p (ix i<n/\Low rs AlY (jr A (ix i)) (fs i))
 all:∀k,k<n ->jr A k∈rs\/∃i,p<=i/\i<n/\ix i=k
 t:AFR (∀j,BB (tb i j)=d*fs i j)
theorem yd1(n:Δ)(A:lS):BT n A 0 1 A [] (jr A) id:=by
 refine⟨fun r h=>(by (first|subst h|exact aaz h|exact aaA h|exact aaC h|exact aaB h|exact aaE h|exact aaD h|exact aaF h|show Ň|show ON h|show OL h|show NX h|show OM h|cases (h))),?_,B',fun i h=>(BMh h),fun i _ h=>⟨h,EL (AvK []) (Aax (jr A i j=jr A i j+0)),fun c h=>EG⟩,fun k h=> .BD ⟨k,MZ,h,Β⟩,As i _ j⟩
 ·rfl
 ·show BB AQO=1* BB AQO
  grind
theorem BT.dz(Ah9)(h:AIw):ArQ≠0:=Nw h.de (Au (Aly h.nz))
theorem yit{n:Δ}{rs:FB}{p:Δ}{f:Row}(wr:A5R)(dz:ArQ≠0)(h:(∃c,c<p/\Up rs AlY c f)\/∃a,(AW2 a)/\Low rs AlY a f)(j:Δ):wN (ArQ*f j):=by
 rcases h with ⟨c,hc,u⟩ | ⟨a,wa,l⟩
 ·show à DS E5 (AsU (AsV hc));have nd:=zn1 p;rw[e] at nd;have A6:=yoy (rs:=rs) (DS:=DS) (E5:=E5) (c:=c) (f:=f) u.l u.o AoV wr (VZ e dz) j
  ·rw[e];exact A6
  ·refine u.z x ?_ vy
   ·rw[e];show BWq
   ·subst z;show BlF
 ·obtain⟨g,lg,hf⟩:=l.g;exact yih hf lg l.z wa wr j
def uD(p s i:Δ):Δ:=vE p s (vE s p i)
def AA'(p s:Δ)(d:AB)(tb:lS):lS:=AHZ (vE p (tb s j) BjZ)
theorem yki{x d z:AB}(d0:d≠0)(e:x=d*z):x.fdiv d=z:=by
 rw[e,Afb,Int.mul_fdiv_cancel _ d0]
theorem Tt(AlP)(h:BB a=BB b):a=b:=ý h
theorem BT.step{n p s:Δ}(Av4)(h:AIw)(ps:p<=s)(sn:s<n)(nz:AOs≠0):
  ∃rs' fs' Tv,BT n A (p+1) (tb s p) (AA' p s d tb) rs' fs' Tv :=by
 show FC hk lq h.lo s ps sn;have ts:BB AOs=d*Air:=h.t s sn p;have qz:Air≠0:=Au (nz (Tt (by rw[ts,z];grind)))
 have d0:AnA:=Au (h.nz (Tt (WB z)))
 let rs' :FB:=jr A (ix s)::rs
 let fs' :AMq:=FK (vE p (VT (fs s j/Air)) (VT Bg3))
 let Tv :Á:=FK (ix (uD p s i))
 have dd:dt rs' A9Y=BB AOs:=by
  show B1 (ADu (jr A (ix s)) A9l _);rw[lq.dt p,<- h.de,ts,ASa]
 have w' :∀r∈rs',BW':=ZE (by
  rcases EQ hr with q | q
  ·exact EL hk q
  ·exact h.w r q)
 show FL wr' (∀r∈rs',AW2 r) (BAj (by show AEc k (w' r hr);exact z3j A k j)) nz' (BB AOs≠0) (Au (nz (Tt (WB z)))) up' (∀i,i<p+1 ->Up rs' A9Y i (fs' i)) (Rl (by
  by_cases e:i=p
  ·subst e;show BQ (Up rs' (i::jn i) i (CD (i=i) _ _));show Û;exact Up.new lq qz
  ·have hip:i<p:=Υ
   have es:ArB=i:=by unfold uD;show ZN e Θ
   show BQ (Up rs' A9l i BP7);rw[Cc e,es];exact Up.step lq qz (h.up i hip) (AsV hip))) Zx (Aa7 (p+1) (Tv i<n/\Low rs' A9Y (jr A (Tv i)) (fs' i))) (fun i hi hn=>by
  have hs:p<=ArB/\ArB<n:=by
   unfold uD;show A7 Θ
   show Ö
  show FC g1 g2 h.lo _ hs.1 hs.2;refine C5 g1;show BQ (Low rs' A9l _ BP7);show A7 Θ
  exact Low.step lq qz g2)
 refine⟨rs',fs',Tv,w',dd.symm,nz,up',Zx,Cb k hk',As i hi j⟩
 ·rcases h.all k hk' with q | ⟨i,q1,q2,q3⟩
  ·exact CS (zW _ q)
  ·by_cases e:i=s
   ·subst e;exact CS (VZ q3 zY)
   ·by_cases ep:i=p
    ·subst ep;show Tm (.BD ⟨s,Υ,sn,?_⟩) (ix (uD i s s)=k);unfold uD;rw[Cc Θ,ET];exact q3
    ·show Tm (.BD ⟨i,Υ,q2,?_⟩) (ix (uD p s i)=k);unfold uD;show ZN ep e;exact q3
 ·by_cases e:i=p
  ·subst e;show OR (vE i (tb s j) _)=BB (tb s i)* (CD (i=i) (VT (fs s j/fs s i)) _) j;rw[ET,ET,h.t s sn j,ts]
   grind
  ·have hs:ArB<n:=by unfold uD;show A7 e;show Ö
   have iz:wN (dt rs' (jn (p+1))*fs' i j):=yit (n:=n) wr' (EM dd nz') (by
    by_cases q:i<p
    ·exact CS (AEj i (up' i Θ))
    ·show FC g1 g2 Zx i Θ hi
     exact C_ (EL (z3j A _) g2)) j
   obtain⟨z,hz⟩:=iz;rw[dd] at hz;have hf:fs' i j=Bg3:=by
    show(vE p _ _:Row) j=_;show A7 e
   show OR (vE p _ BjZ)=BB AOs*fs' i j;rw[Cc e,hz]
   congr 1
   refine yki h.nz (Tt ?_);rw[AUH,PQ,PQ,PQ,h.t _ hs j,h.t _ hs p,h.t s sn j,<- hz,hf,ts]
   grind
def eF:ACR (dS) AL
 | 0,_=>0
 | n+1,g=>eF n g+g n
theorem Qe{g h:dS}:NA n Δ (AFR (g i=h i)) (eF n g=eF n h)
 | 0,_=>Β
 | n+1,e=>Ć eF (Qe (Rl (e i Θ))) (e n Θ)
theorem z2y{g:dS}{c:Δ}:∀{n:Δ},c<n ->(∀i,i<n ->i≠c ->g i=0) ->eF n g=g c
 | n+1,hc,h=>by
  unfold eF;by_cases e:c=n
  ·subst e;show AaD (eF c g=0) (by
    rw[Qe (h:=â) (Rl (h i Θ Θ))]
    clear h hc;induction c with
    | UN=>rfl
    | UO c ih=>show A'X)
  ·rw[z2y (n:=n) Θ fun i hi n' =>h i Θ n',h n Θ (Au (e ABv))];grind
theorem z7c{rs:FB}{fs:AMq}(a:dS):NA p Δ (∀c,c<p ->mZ rs (fs c)) (AJ2 (eF p (ACk (a c*fs c j))))
 | 0,_=>AvK rs
 | p+1,h=>((z7c a (Ϫ (h c Θ))).add ((h p Θ).mul (a p))).AUK (Fs Β)
theorem BT.span(A6H){f:Row}(l:AAZ)(j:Δ):f j=eF p (ACk (f c*fs c j)):=by
 have hl:=l.add ((z7c (rs:=rs) (fs:=fs) f (p:=p) (Ϫ (h.up c hc).l)).mul Kj);have A6:=zu2 (cs:=AOB) hl (TM c hc) h.dz j
 ·grind
 ·have hc' :=lD.mp hc;rw[z2y hc' fun i hi ni=>(AAe ((h.up i hi).z c hc (AGe ni))),(h.up c hc').o]
  grind
theorem BT.eqn(A6H){j:Δ}(z:Aa7 p (fs i j=0)){k:Δ}(hk:k<n):
  jr A k j=eF p (AEU (fs c j)):=by
 rcases h.all k hk with q | ⟨i,q1,q2,Β⟩
 ·exact h.span (mZ.mem q) j
 ·obtain⟨_,l⟩:=h.lo i q1 q2;obtain⟨g,lg,hf⟩:=l.g;have h1:=h.span lg j;have h2:∀c,c<p ->g c= - BiJ:=Ϫ (by
   have:=hf c;show D5 (l.z c (AsV hc))
   grind)
  have h3:=hf j;rw[z i q1 q2] at h3;have h4:(eF p (ACk (g c*fs c j)))= - eF p (ACk (BiJ*fs c j)):=by
   have neg:Bgn:=fun m u=>by
    induction m with
    | UN=>unfold eF;grind
    | UO m ih=>show A'X
   rw[<- neg];exact Qe (Ϫ (AAe (h2 c hc)))
  rw[h4] at h1
  grind
theorem BT.sol{n:Δ}{A:lS}{d:AB}{tb:lS}{rs:FB}{fs:AMq}{ix:Á}(h:Bhs n){k:Δ}(hk:k<n)(j:Δ):jr A k j=eF n (AEU (fs c j)):=
 h.eqn (fun i h1 h2=>Υ) hk
theorem BT.diag(A6H)(AQQ)(hi:i<p)(hn:i<n):tb i i=d:=by
 have:=h.t i hn i;show D5 (h.up i hi).o;exact Tt (by rw[Τ];grind)
theorem BT.stuck(Ah9)(h:AIw)(pn:p<n)(z:Aa7 p (tb i p=0)):
  ∃x:dS,x p=1/\∀k,k<n ->(eF n (AEU (x c)))=0:=by
 have d0:AnA:=Ps (h.nz (Tt (WB q)))
 have z' :Aa7 p (fs i p=0):=A_5 (by
  have:=h.t i h2 p;show D5 (z i h1 h2);rcases AUL (show BB d*fs i p=0 by show ú;rfl) with q | q
  ·show MT q d0
  ·exact q)
 refine ϯ (ACk (if c<p then - AXd else AzE c)) (Cb k hk)
 have e:=h.eqn z' hk;have cut:∀m,p<m ->m<=n ->BhE=(eF p (AEU (- AXd)))+jr A k p:=fun m=>by
  induction m with
  | UN=>intro hm;show AF
  | UO m ih=>
   intro hm hn;show BhE+jr A k m* (CD (m<p) (- fs m p) (AzE m))=_;by_cases q:m=p
   ·subst q;rw[Cc Θ,ET]
    rw[Qe (h:=AEU (- fs c m)) (Ϫ (by show DU hc))]
    grind
   ·rw[ih Θ Θ,vx,TN];grind
 rw[cut n pn (AK3 _),e];have neg:(eF p (AEU (- AXd)))= - eF p (AEU AXd):=by
  have:Bgn:=fun m u=>by
   induction m with
   | UN=>unfold eF;grind
   | UO m ih=>show A'X
  show ú;exact Qe (FR c P2)
 rw[neg];grind
def aC{α:Ch}:DE ->(G_) ->AL
 | [],_=>0
 | F_,f=>f a+dl
section
variable{α β:Ch}
theorem nC{f g:G_}:Ab7 (f a=g a) (aC l f=aC l g)
 | [],_=>Β
 | F_,h=>Ć aC BR6 (nC (AP1 (AK2 _ hb)))
theorem V2{f g:G_}:A'F (f a+g a) (dl+aC l g)
 | []=>Al7
 | F_=>BAI V2
theorem Nu{f g:G_}:A'F (f a - g a) (dl - aC l g)
 | []=>Al7
 | F_=>BAI Nu
theorem Ma(k:AL){f:G_}:AIt (HI l a (k*f a) (k*dl))
 | []=>Al7
 | F_=>BAI (Ma k)
theorem Qf{f:G_}:Ab7 (f a=0) (aC l f=0)
 | [],_=>Β
 | F_,h=>Al9 aC BR6 (Qf (AP1 (AK2 _ hb)))
theorem Qg(k:AL):AIt (aC l (De k)=BKh*k)
 | []=>by
  show BB 0=AZ2*k;have:AZ2=0:=Β;rw[Τ];grind
 | F_=>by
  show B1 (k+aC l (De k)=ACw (HE+1)*k);rw[Qg k];have:ACw (HE+1)=BKh+1:=ý Β
  rw[Τ];grind
theorem Zy{f:α ->β ->AL}{m:RF}:A'F BCy (aC m (ir (AJw (f a b))))
 | []=>IU (dA Qf AJv)
 | F_=>by
  show B1 (BCy+aC l (BA a BCy)=aC m (ir (f a b+AJw (f a b))));rw[Zy (l:=l),<- V2]
theorem zp0{f:G_}:∀{l m:DE},aC (l++m) f=dl+Ama
 | [],m=>by show B1 (aC m f=0+Ama);grind
 | F_,m=>by show B1 (f a+aC (l++m) f=(f a+dl)+Ama);rw[zp0];grind
theorem z9r{f:G_}{l m:DE}(h:l.Perm m):aC l f=Ama:=by
 induction h with
 | D8=>rfl
 | AY x _ ih=>show B1 (f x+_=f x+_);rw[ih]
 | swap x y l=>show B1 (f y+ (f x+dl)=f x+ (f y+dl));grind
 | Ff _ _ h1 h2=>rw[h1,h2]
theorem Mf{f:G_}{p:AEz}:AIt (aC (AMI p) f=AJw BSU)
 | []=>Β
 | F_=>by
  rw[ku];refine(?_:_=(CD AO7 (f a) 0)+AJw BSU);rw[<- Mf (l:=l)];by_cases h:AO7
  ·rw[AYJ,AYJ];rfl
  ·rw[APc,APc];grind
theorem Mg{f:Pp}{g:Akd}:AIt (aC (EV g) f=AJw (f (g a)))
 | []=>Β
 | F_=>AlC (f (g a)+_=f (g a)+_) Mg
theorem Zz{f:G_}:Ab7 (0<=f a) (0<=dl)
 | [],_=>IU AK5
 | F_,h=>by
  have h1:=h a zY;have h2:=Zz (AP1 A_O);show B1 (0<=f a+dl)
  grind
theorem V3{f:G_}:AIt ((AVC (0<=f a)) ->aC l f=0 ->∀a∈l,f a=0)
 | F_,h,e=>by
  have h1:=h a zY;have h2:=Zz (AP1 A_O);have e' :f a+dl=0:=e;have e1:f a=0:=P2
  have e2:aC l f=0:=P2
  intro b hb;rcases WJ with q | q
  ·rw[q];exact e1
  ·exact V3 (MO (h b A_O)) e2 b q
 | [],_,_=>fun a h=>EG
#where
section
variable{α:Ch}[AZf]
theorem V4{f:G_}{s hs:DE}(ns:s.Nodup)(nh:AK6)(B_:Ŝ s hs):HI hs h (X_ ţ (f h)) (aC s f):=by
 have p:(hs.filter (EX (Χ ţ))).ei s:=by
  rw[List.perm_ext_iff_of_nodup (nh.filter _) ns];intro a;rw[ģ];exact AYD (EX (Azj h.2)) ⟨B_ a h,P_ h⟩
 rw[<- z9r p,Mf];exact nC (FR a (by by_cases h:a∈s<;>simp [h]))
def dg(s:DE)(x:G_):AL:=Avo (aC s x)
theorem ya6{s:DE}(h:s≠ [])(x:G_):BKi*AMf=aC s x:=by
 have z:BB AsW≠0:=by
  have:=BKd;intro e;have:AsW=0:=ý e
  show AF
 unfold dg;rw[M0,ASa,ye,AJZ z];grind
theorem zu8(s:DE)(x:G_):HI s h An' 0:=by
 rw[Nu,Qg];by_cases h:s= []
 ·subst h;show BB 0 - AZ2*_=0;have:AZ2=0:=Β;rw[Τ];grind
 ·rw[ya6 h];grind
def rP(S:c_)(x:G_)(h:α):AL:=AQ6 An'
theorem z1x(Arc)(ns:AZx)(nh:AK6)(B_:AoX)(c x:G_):HI hs h (c h*ARh) (aC S fun s=>aC s (EX (c h* é))):=by
 unfold rP;have e:HI hs h (c h*AQ6 An') (aC hs (EX (AQ6 (c h* é)))):=
  nC (FR h (l4 Ma nC (FR s (by split<;>grind))))
 rw[e,Zy];exact nC fun s hS=>BX0
theorem yjk(Arc)(ns:AZx)(nh:AK6)(B_:AoX)(x:G_):aC hs A_b=0:=by
 have e:=z1x ns nh B_ (De 1) x;have e1:HI hs h (1*ARh) (aC hs A_b):=nC (FR h P2)
 rw[<- e1,e];exact Qf (FR s (by
  have e2:A_' 1 (aC s (TK An')):=nC (FR h P2)
  rw[e2,zu8]))
theorem zk6(r:AL):0<=r*r:=by
 rcases Rat.le_total (a:=0) (b:=r) with h | h
 ·exact BKI h h
 ·have h' :0<= -r:=P2
  have:=BKI h' h'
  grind
theorem ycn{r:AL}(h:r*r=0):r=0:=by
 rcases AUL h with h | h<;>exact h
theorem yc5(Arc)(ns:AZx)(nh:AK6)(B_:AoX){x:G_}(z:AZQ (ARh=0)):AHx (∀h∈s,x h=AMf):=by
 have e:=z1x ns nh B_ x x;rw[Qf fun h hh=>(AAe (z h hh))] at e
 have e2:∀s,A_' (x h) (aC s (EX (é* é))):=by
  intro s;have a1:=zu8 s x;have a2:A_' é (aC s (EX (x h* é - AMf* é))):=nC (FR h P2)
  rw[a2,Nu,Ma,a1];grind
 have e3:HI S s (aC s (EX (é* é))) 0:=by
  rw[e];exact nC (FR s (dA e2 s))
 intro s hs h hh;have h1:=V3 (uv s (Zz (FR h (zk6 _)))) e3 s hs;have h2:=V3 (uv h (zk6 _)) h1 h hh;have:=ycn h2
 grind
def jC(S:c_)(h:α):AL:=AQ6 1
theorem ztp(S:c_)(h:α):0<=AJG:=Zz (FR s BKR)
theorem yiy{S:c_}{h:α}(i:∃s∈S,ţ):0<AJG:=by
 obtain⟨s,hs,hh⟩:=i;refine Rat.lt_of_le_of_ne (ztp S h) vy;have:=V3 (l:=S) (f:=AMh ţ (BB 1)) (uv s BKR) ABv s hs
 show D5 (DZ hh);exact Aky Τ
theorem z7x{S:c_}{h0:α}{hs:DE}(ns:AZx)(nh:(Ahs).OC)(B_:AHx (Ŝ s AVy))(on:AZR (∃s∈S,ţ))
  (min:∀C:GN α,(∀s∈S,Acd s s) ->(∃x∈AVy,C x) ->Agk AVy)
  {x:G_} (z:AZQ (ARh=0)) (w:Ba1 0):AZR (x h=0):=by
 have z' :AZR (ARh=0):=by
  have e:=yjk ns nh B_ x;have e' :rP S x h0+aC hs A_b=0:=e;rw[Qf z] at e';intro h hh;rcases EQ hh with q | q
  ·rw[q];grind
  ·exact z h q
 have ev:=yc5 ns nh B_ z';have XT:AZR (x h=x h0):=min (TK (x h=x h0)) (fun s hS hx b hb=>by
  obtain⟨a,ha,ea⟩:=hx;have ea' :x a=x h0:=ea;rw[ev s hS b hb,<- ev s hS a ha,ea']) (ZZ h0 zY)
 have e1:Ba1 (x h0*Be3):=l4 Ma nC (Ė (AAe (XT h hh)))
 rw[e1] at w;have Ψ:Be3≠0:=fun zz=>by
  have:=V3 (uv h (ztp S h)) zz h0 zY;have p:=yiy (on h0 zY);show ND Τ p (Aky p)
 rcases AUL w with q | q
 ·intro h hh;rw[XT h hh,q]
 ·show MT q Ψ
def gB(S:c_)(h o:α):AL:=(CD (h=o) AJG 0) - AVP AR8 AmP
theorem z8u(Arc)(ns:AZx)(nh:AK6)(B_:AoX)(x:G_){h:α}(hh:wE):BYF ARh:=by
 have e1:BYF (aC hs (BA o (X_ (o∈ [h]) (AJG*x o))) - aC hs (Ű (AVP AR8 AaN))):=by
  rw[<- Nu];refine AQr o;unfold gB;have e2:(aC S (AMh AR8 AaN))=x o*AVP AR8 AmP:=l4 Ma nC (FR s (by split<;>first | (simp only [M0];grind) | grind))
  rw[e2];by_cases q:h=o
  ·subst q;rw[ET,BMM Β];grind
  ·show ZN q BVv;grind
 rw[e1,V4 A1 nh (BOb hh),Zy]
 have e3:HI [h] o (AJG*x o) (AQ6 (x h)):=by
  show B1 (AJG*x h+0=_);unfold jC;show AaD ((aC S (AMh ţ (x h)))=x h*AQ6 1) (l4 Ma nC (FR s (by split<;>grind)))
 rw[e3,<- Nu];refine nC (Cb s hS);by_cases q:ţ
 ·rw[L3,L3]
  congr 1
  have e4:HI hs o (X_ AR8 AaN) (aC hs (Ű (X_ (o∈s) AaN))):=nC (FR o AkV)
  rw[e4,BX0];unfold dg;have e5:HI s o AaN (BKi⁻¹*aC s x):=l4 Ma nC (FR o (AAe M0))
  rw[e5,M0];grind
 ·rw[TN,TN,Qf (FR o AkV)];grind
variable{σ:Ch}
def oE(k:Ao_)(y:AqJ)(S:Aje)(h:α):AL:=BTc
theorem yeh{k:Ao_}{S:Aje}{hs:DE}(ns:BaR)(nh:AK6)(B_:AHx (Ŝ (k s) hs))(y:AqJ):aC hs (oE k y S)=0:=by
 show B1 (HI hs h BTc 0);rw[Zy];refine Qf (Cb s hS);rw[V4 (f:=EX BpM) (ns s hS) nh (B_ s hS)];exact zu8 _ _
theorem z6w(s:DE)(x y:G_):dg s (BA o (x o - y o))=AMf - dg s y:=by
 unfold dg;rw[Nu,M0,M0,M0];grind
theorem yen{k:Ao_}(y:AqJ)(x:G_)(S:Aje)(h:α):AcD AcB=AcD y - BhB:=by
 unfold oE rP;rw[Mg,<- Nu];exact nC (FR s (by
  rw[z6w];split<;>grind))
theorem yeu{k:Ao_}{S:Aje}{h0:α}{hs:DE}(ns:BaR)(nh:(Ahs).OC)(B_:AHx (Ŝ (k s) AVy))(y:AqJ)(x:G_)
  (e:AZQ (BhB=AcD y)):AZR (AcD AcB=0):=by
 have e' :AZQ (AcD AcB=0):=Ė (by rw[yen,AaX];grind)
 have q:=yeh ns nh B_ fun s o=>y s o - x o;have q' :oE k AcB S h0+aC hs (oE k AcB S)=0:=q;rw[Qf e'] at q';intro h hh;rcases EQ hh with r | r
 ·rw[r];grind
 ·exact e' h r
theorem zw4{β:Ch}(AKM)(f:Pp):∀(l:RF),eF HE (VT (f (OK j bP)))=dl:=by
 intro l;have A6:∀(m:RF) n,n<=Kk ->eF n (VT (Awm f))=aC (Ac2 n) f:=by
  intro m n;induction n with
  | UN=>intro _;rfl
  | UO n ih=>
   intro h;have e:Ac2 VC=Ac2 n++ [m[n]]:=Ş List.take_succ vt
   show BQ (eF n (VT (Awm f))+f (Ĥ n bP)=_);rw[ih Θ,e,zp0]
   have:Ĥ n bP=m[n]:=A2k vt
   rw[Τ];show B1 (_+f m[n]=_+ (f m[n]+0))
   grind
 have:=A6 l HE (zN _)
 show BLg
#where
def ZB(B:Δ)(x:AL):Ι:=∃z:AB,x=BB z/\A3v
theorem ZB.sub(Bbq):ZB (A+B) (x - y):=by
 show ZU a ha h1;show ZU b hb h2;exact⟨a - b,DL AUH,AqW Bpu ha hb⟩
theorem ZB.mul(Bbq):ZB (A*B) (x*y):=by
 show ZU a ha h1;show ZU b hb h2;exact⟨a*b,DL PQ,CL Ľ (Ac4 ha hb)⟩
theorem ZB.mono(Ah5){x:AL}(h:ZB A x)(l:A<=B):ZB B x:=by
 show AJz a ha;exact VO a (zO ha l)
theorem ZB.zero(B:Δ):ZB B 0:=VO 0 MZ
theorem ygz{B:Δ}{g:ę}:BWe (ZB B (g c ds)) (ZB (ASc*B) (dB g cs))
 | [],_=>BPM
 | ċ,h=>by
  have h1:=(h c cs Β).B_ (ygz (cs:=cs) (g:=fun d ds=>g d wS) fun d ds e=>h d wS i_)
  refine BSL;show A6R;show AF
theorem yeg{M N:Δ}:l_ rs FB cs DA (∀r∈rs,BEd) (ASc<=N) (ZB (A5H) (dt rs cs))
 | [],[],_,_=>⟨1,OU,DB⟩
 | [],EF,_,_=>BPM
 | o_,cs,h,l=>by
  have h1:ZB (ASc* (M* A5H)) (dB (hZ ds (r c*VM ds)) cs):=ygz fun c ds e=>Bg9 (yeg (fun s hs=>h s (zW _ hs)) Θ)
  refine BSL;rw[H_,BIg,Bpx (A5H),Nat.mul_assoc];exact AUF _ l
theorem zkr{g:ę}:BWe (g c ds=0) (dB g cs=0)
 | [],_=>Β
 | ċ,h=>Al9 dB (h c cs Β) (zkr (cs:=cs) fun d ds e=>h d wS i_)
theorem yho:BEc (ACN≠ASc) (dt rs cs=0)
 | [],[],h=>A_G
 | [],EF,_=>Β
 | o_,cs,h=>zkr fun c ds e=>by
   rw[yho (by simp at h;show AF)];grind
theorem ZC:∀p,D_ jn p=p
 | 0=>Β
 | p+1=>Ć jn H_ (ZC p)
theorem BT.len(Ah9)(h:AIw):ACN=p:=by
 have z:=h.dz;rcases Nat.decEq ACN (D_ jn p) with q | q
 ·exact Ā yho q z
 ·rw[q,ZC]
theorem ymj(Aqc){a f g:Row}(hf:A7g)(hg:AZd)(z:Aoi)(j:Δ):VM cs*f j=dt ϻ ul:=by
 show AX9 ks hg;have h1:A5y:=zue z;have h2:ADu f ul (dt ϻ ul):=by
  show AsK (j::cs) a;show ú
  show BBq
 rw[ASa,<- h1,h2]
theorem yps(BkH)(h:AAZ)(DV:f c=1)(z:BSP)(d:VM AOG≠0)(j:Δ):A3e=VM A2d:=by
 have hl:=Be9 Β;have A6:=zu2 (cs:=DS++ACm) (hl.add ((h.mul (dt rs AOG)).mul Kj)) AoV d j
 ·grind
 ·by_cases hc:x=c
  ·subst hc;rw[DV];grind
  ·have hx' :x∈AyI:=by
    rcases LO hx with q | q
    ·exact zP _ q
    ·show BdF
   rw[z x hx'];show AaD (dt rs BLp=0) (by
    rcases LO hx' with q | q
    ·show BU p1 p2 Β AsU q;have:=Zw rs (DS:=p1) (E5:=p2++x::E5) (c:=x) A1
     rw[Ŀ];exact Τ
    ·exact Zw rs q)
theorem z0c{z w:AB}{B:Δ}(e:BB z=BB w)(h:w.natAbs<=B):A3v:=ϒ Tt e h
theorem BT.small(BkQ)(h:AIw)(hA:BDi A M)(hp:p+1<=N)(h1:1<=N*M)(AQQ)(hi:i<n)(j:Δ):(tb i j).ACH<=(N*M)^ (p+1):=by
 have wr:∀r∈rs,BEd:=BAj (by
  show Ct k hk Β h.w r hr;exact Bdw)
 have hl:=h.len;have pw:(N*M)^p<=(N*M)^ (p+1):=BLk h1
 have ht:=h.t i hi j;rw[h.de] at ht;by_cases q:i<p
 ·have u:=h.up i q;show F6 DS E5 e (AsU (AsV q));have nd:=zn1 p;have dz:=h.dz;have ll:=ZC p;rw[e] at nd dz ht ll;have A6:=yps (rs:=rs) (DS:=DS) (E5:=E5) (c:=i) (f:=fs i) u.l u.o AoV dz j
  ·rw[A6] at ht;obtain⟨z,ez,hz⟩:=yeg (cs:=DS++Ahl) wr (N:=N) (by simp at ll⊢;show AF)
   rw[hl] at hz;rw[ez] at ht;exact zO (z0c ht hz) pw
  ·refine u.z x ?_ vy
   ·rw[e];show BWq
   ·subst z;show BlF
 ·show FC hx lo h.lo i Θ hi
  show F6 g lg hf lo.g;rw[ymj hf lg lo.z j] at ht;show Ct z ez hz (UY yeg rs (jr A (ix i)::rs) cs (j::AOB) M M N N) (ft hr (by
   rcases EQ hr with q | q
   ·subst q;exact Fs (VO (A (ix i) j) (hA _ hx j))
   ·exact wr r q)) (by show Aw4 ZC;show AF)
  rw[H_,hl] at hz;rw[ez] at ht;exact z0c ht hz
theorem BT.lead(BkQ)(h:AIw)(hA:BDi A M)(hp:p<=N):BGg<=(N*M)^p:=by
 have wr:∀r∈rs,BEd:=BAj (by
  show Ct k hk Β h.w r hr;exact Bdw)
 obtain⟨z,ez,hz⟩:=yeg (cs:=AOB) wr (N:=N) (EM ZC hp)
 show ND h.len hz (z0c (h.de.trans ez) hz)
section
variable{α β:Ch}[AZf][AMd β]
def gD(BAw):HV:=Azl BU_
def DQ(Ξ:HV)(h:β):HV:=Azl A'6
def ofM(Ξ:HV)(m:RF):HV:=Azl (Pc (Χ ό))
def Uq(Ξ:HV):Ι:=rows.Pairwise fun a b=>Bgv
def kW(BAw):RF:=Ahy (Pc Co)
def yW(Ξ:HV)(w:α)(h:β):AL:=match rows.find? (gL (Χ BEi)) with | Ε r=>ADH | Η=>0
theorem cN{Ξ:HV}{w:α}{r:Ę}:r∈AM6↔AQ2/\AOL:=Ć gD ģ Asd
theorem jz{Ξ:HV}{h:β}{r:Ę}:r∈ApT↔AQ2/\Co=h:=Ć DQ ģ Asd
theorem mG{Ξ:HV}{m:RF}{r:Ę}:r∈ApU↔AQ2/\ό:=Ć ofM ģ Asd
theorem Uq.M{Ξ:HV}(u:Lu)(m:RF):Uq (ofM Ξ m):=BGi _
theorem z2n{γ δ:Ch}{f:γ ->δ}{R:D1 γ γ}:∀{l:EO γ},BNN ->(AVC (MM l (R a b ->f a≠f b))) ->(EV f).OC
 | [],_,_=>AfN
 | F_,h,k=>by
  show A1a;rw[GL,Ae7];refine⟨vy,z2n h.2 fun a ha b hb=>k a (zW _ ha) b AHe⟩;show à b hb (ko z);exact k a zY b AHe (Ee b hb) kq
theorem zux{Ξ:HV}(u:Lu)(w:α):(kW Ξ w).OC:=by
 refine z2n (BGi _) (BBa (n ⟨?_,e⟩));rw[Ag4 ha,Ag4 hb]
theorem ydp{Ξ:HV}(u:Lu)(h:β):ϟ (DQ Ξ h).map (Pc B6):=by
 refine z2n (BGi _) (BBa (n (C5 e)));rw[(AGR ha).2,(AGR hb).2]
theorem jL{Ξ:HV}{w:α}{h:β}:AIH↔vj BEi:=by
 unfold kW;rw[aE];exact⟨AR1 r ⟨r,(AK8 h1).1,Ag4 h1,h2⟩,fun BXk=>⟨r,Ac5 AnW,h3⟩⟩
theorem ylp:NA Ξ HV Lu (∀{a b:Ę},BC (a∈Ξ) (b∈Ξ) (a.1=b.1) (a.2.1=b.2.1) (a=b))
 | r::Ξ,u,a,b,ha,hb,e1,e2=>by
  unfold Uq at u;rw[AL_] at u;rcases EQ ha with q | q
  ·rcases WJ with q' | q'
   ·rw[q,q']
   ·subst q;exact eI ⟨e1,e2⟩ (u.1 b q')
  ·rcases WJ with q' | q'
   ·subst q';exact eI ⟨e1.symm,e2.symm⟩ (u.1 a q)
   ·exact ylp u.2 q q' e1 e2
theorem Tw{Ξ:HV}(u:Lu){r:Ę}(hr:AQ2):yW Ξ B6 Co=ADH:=by
 unfold yW;cases e:rows.find? (BA s (Χ Bfl)) with
 | Η=>
  have:=Bp0 e r hr;simp at Τ
 | Ε s=>
  have h1:=Bpy e;have h2:Bfl:=ð (Bpz e) Τ
  rw[ylp u h1 hr h2.1 h2.2]
theorem ygt{Ξ:HV}{w:α}(f:Pp):aC ŭ f=aC AHw (Pc AO0):=Mg
theorem Tz(BAw):AJ5=AU6:=by unfold kW;show Pf
theorem yhl(A'q)(u:Lu)(nw:pb)(cw:Apo)(h:β)(F:G_):HI ws w BU' (aC (DQ Ξ h) (Pc (F B6))):=by
 have e:HI ws w BU' (aC ws (GV (X_ Bed (F w)))):=by
  refine AQr w;have:AIH↔Bed:=mi jL aE ⟨fun BXk=>⟨r,jz.mpr ⟨h1,h3⟩,h2⟩,AR1 r ⟨r,BPI,h2,(AGR h1).2⟩⟩
  by_cases q:AIH
  ·rw[L3,uS this.mp q]
  ·show ZN q (Au (q (this.mpr z)))
 rw[e,V4 (ydp u h) nw (ϗ (by
  show BU r h1 h2 ko hw;rw[<- h2];exact cw r BPI)),Mg]
def yS(Ξ:HV)(x:Pp)(h:β):Ι:=
 HI (DQ Ξ h) r Bj0 0
def ZD(Ξ:HV)(x:Pp)(m:RF):Ι:=HI ě r ACj 0
theorem ZF{Ξ:HV}(u:Lu)(x:Pp)(w:α):dg ŭ (BA o BTv)=Ami:=by
 unfold dg;rw[Tz,ygt]
 congr 1
 refine AKe;have:=Tw u Ai8;show D5 AnE;rw[Τ]
theorem yc1(A'q)(u:Lu)(nw:pb)(cw:Apo)(x:Pp)(h:β)(e:oE AM8 (fun w o=>BTv) ws h=0):AKI:=by
 show ZY oE;rw[Bft] at e;unfold yS;rw[<- e];refine AKe;have hr' :=AGR hr;have y:=Tw u hr'.1;rw[hr'.2] at y;rw[ZF u,hr'.2];show B1 (_=yW Ξ B6 h - x h - _);rw[y]
theorem yfg(A'q)(u:Lu)(nw:pb)(cw:Apo)(h:β):jC Pi h=Bo7:=by
 unfold jC;rw[Mg,Bft,Qg];grind
theorem yb9{Ξ:HV}{m:RF}(nm:m.Nodup)(B_:RA ό)(f:Pp):Ba0 (AaK AO0):=by
 have e:Ba0 (aC m (EX (AaK BbT))):=by
  refine AQr h;rw[<- Qg (l:=ApT)];unfold DQ;rw[Mf];refine nC (Cb r _);by_cases q:Co=h
  ·rw[uS P_ q,L3,q]
  ·rw[Cc (LG q),TN]
 rw[e,Zy];refine AKe;have e2:HI m h BbT (aC m (EX (X_ (h∈ [Co]) AO0))):=nC (FR h (by
  by_cases q:Co=h
  ·rw[L3,BMM AuY]
  ·show ZN q BVv))
 rw[e2,V4 (f:=FM AO0) A1 nm (BOb (B_ r hr))]
 show B1 (AO0+0=_)
 grind
structure wO (Ξ:HV) (ws:DE) (m:RF):Ι where
 u:Lu
 nw:pb
 cw:Apo
 nm:m.Nodup
 B_:RA ό
 on:AAS (vj (Co=h))
 min:∀C:GN β,(∀w∈ws,Acd Œ Œ) ->(∃x∈m,C x) ->Agk m
theorem wO.sub'(ASQ)(L:ARd):BaB (Ŝ s m):=fun s hs x hx=>by
 show AEc w (ko hs);obtain⟨r,h1,_,h3⟩:=AK9 hx;rw[<- h3];exact L.sub r h1
theorem wO.ns(ASQ)(L:ARd):BaB s.Nodup:=fun s hs=>by
 show AEc w (ko hs);exact zux L.u w
def pF (AKM)(Ξ:HV)(ws:DE)(m:RF)(i j:Δ):AL:=
 if j<Kk then(CD (i=0) (jC Pi (Ĥ j bP)) (gB Pi AjA A_a))
 else vE 0 0 (oE AM8 AgY ws AjA)
theorem ZG{γ:Ch}[Ac1 γ]{m:EO γ}{i:Δ}(h:i<Kk):Ĥ i bP∈m:=by
 show AEW vt;exact yV h
theorem z3m (AKM)(ASQ)(x:Pp):A6q (AzO 0) (aC m (EX (jC Pi h*x h))):=by
 rw[<- zw4];refine Qe (Cb j hj);unfold pF;rw[DZ hj,ET]
theorem z8z (AKM)(ASQ)(L:ARd)(x:Pp)(AQQ)(hi:i<Kk)(h0:i≠0):A6q (AzO i) (rP Pi x AjA):=by
 rw[<- z8u L.ns L.nm L.sub' x (ZG hi),<- zw4];refine Qe (Cb j hj);unfold pF;rw[DZ hj,Cc h0]
theorem z23 (AKM){m:RF}{h0:β}{hs:RF}(e:m=h0::hs){h:β}(hh:wE):∃i,i<Kk/\i≠0/\Ĥ i bP=h:=by
 show BU i hi q List.getElem_of_mem hh;subst e;refine⟨EZ,AkC,Υ,?_⟩
 rw[QQ,LW,ui,q];rfl
theorem wO.null (AKM)(ASQ)(L:ARd)(x:Pp)(z:A4W (eF Kk BLf=0)):AAS (x h=0):=by
 cases em:m with
 | D8=>intro h hh;show AD hh hh hh hh hh hh hh hh hh hh hh hh hh hh
 | AY h0 hs=>
  have nm:=L.nm;have B_:=L.sub';have on:=L.on;have mn:=L.min;rw[em] at nm B_ on mn;refine z7x L.ns nm B_ (TM h hh) (fun C hC=>mn C (ϗ (hC _ (ASd (ZZ w hw))))) (TM h hh) ?_
  ·show Ct r h1 h2 on h hh;exact⟨AVl kW,ASd (ZZ B6 (L.cw r h1)),jL.mpr (KW r h1 h2)⟩
  ·obtain⟨i,hi,i0,e⟩:=z23 em hh;rw[<- e,<- Bgo];exact z i hi
  ·rw[<- em,<- z3m];exact z 0 (AXK em)
theorem wO.ans (AKM)(ASQ)(L:ARd)(x:Pp)(z:A4W (BNe i=eF Kk BLf)):(∀h∈m,AKI)/\A8R:=by
 have e0:m≠ [] ->A8R:=fun ne=>by
  have q:=z 0 (AGQ ne);rw[z3m] at q;unfold pF at q;rw[Apt,ET] at q;rw[<- yb9 L.nm L.sub,q];exact nC (FR h (NH (yfg L.u L.nw L.cw)))
 cases em:m with
 | D8=>
  refine C5 (Ė (by (first|subst hh|exact aaz hh|exact aaA hh|exact aaC hh|exact aaB hh|exact aaE hh|exact aaD hh|exact aaF hh|show UQ hh|show ON hh|show OL hh|show NX hh|show OM hh|cases (hh))))
  cases er:Ξ with
  | D8=>rfl
  | AY r rs=>
   show A4Z (L.sub r (EM er zY)) em
 | AY h0 hs=>
  refine⟨Ė (yc1 L.u L.nw L.cw x h (UY yeu S ws k (kW Ξ) h0 h0 hs hs (uv w (zux L.u w)) (em ▸ L.nm) (fun w hw y hy=>(Nw em (L.sub' _ (ASd (ZZ w hw)) y hy))) AgY x (TM g hg) h hh)),e0 (AXK em)⟩
  show GB i hi i0 e (z23 em hg);have q:=z i hi;rw[Bgo] at q;unfold pF at q;rw[Apt,Cc i0,e] at q;exact AuY
#where
section
variable{α γ:Ch}[AMd γ]
theorem z5u{f:G_}{p:AEz}:AIt (aC l f=aC (AMI p) f+aC (AMI fun a=> ! p a) f):=by
 intro l;rw[Mf,Mf,<- V2];refine AQr a;cases p a
 ·simp [BtS]
 ·simp [AGS]
theorem yad(A6:α ->γ)(g:G_)(φ:γ ->AL):∀(n:Δ) (l:DE),HE<=n ->(∀c,aC (AMI fun a=>(Χ (A6 a=c))) g=0) ->HI l a (φ (A6 a)*g a) 0:=by
 intro n;induction n with
 | UN=>
  intro l hl _;show GU (l= []) (AGT Θ)
  rfl
 | UO n ih=>
  intro l hl h;cases l with
  | D8=>rfl
  | AY a r=>
   rw[z5u (p:=ir AJL)];have e1:BkP 0:=by
    have:BkP (aC (AXu (ir AJL)) (gI (φ (A6 a)*g b))):=
     nC (E4 (by rw[yB (List.mem_filter.mp hb).2]))
    rw[Τ,Ma,h,Bp1]
   rw[e1,ih]
   ·show XY
   ·have:D_ AXu (ir (! AJL))<=SK:=ϒ List.filter_cons_of_neg A1 A0b
    simp only [H_] at hl;show AF
   ·intro c;rw[Ac6];by_cases e:c=A6 a
    ·subst e;rw[AJR AXu (gI (AJL&& ! AJL)) [] (AvI (fF _ DB))]
     rfl
    ·rw[show(a::r).ĭ (gI (Χ (A6 b=c)&& ! AJL))=AXu (gI (Χ (A6 b=c))) from BGl (fF _ (by
      by_cases q:A6 b=c
      ·simp [q,e]
      ·simp [q]))]
     exact h c
theorem yio{l:DE}{f d:G_}(o:HI l a (d a*f a) 0):BVY (aC l (BA a (f a*f a))+AJw (d a*d a)):=by
 have:BVY (aC l (BA a (f a*f a+d a*d a+2* (d a*f a)))):=nC (FR a P2)
 rw[Τ,V2,V2,Ma,o,Bp1,AGS]
#where
section
variable{α β:Ch}[AZf][AMd β]
def gF(Ξ:HV)(x:Pp)(r:Ę):AL:=Bj0
theorem z7z(Ξ:HV)(x:Pp)(w:α):aC AHw Apz=0:=by
 have e:aC AHw Apz=aC AHw AwS - aC AHw (FM Ami):=by
  rw[<- Nu];refine AKe;unfold gF;rw[AnE]
 rw[e,Qg];by_cases z:BWF
 ·rw[z];show BB 0 - AZ2* (0/ BB (MC 0))=0
  show XY
 ·have n0:BB AU6≠0:=Ps (z (AGT (by exact_mod_cast q)))
  rw[M0,ASa (BB AU6),ye,AJZ n0,AMK,Rat.sub_self]
theorem zz6{Ξ:HV}{x:Pp}(ev:Abt)(p:G_)(q:Pp):A6x uu 0:=by
 have e:A6x uu (A6l (p B6)+AaK (q Co*uu)):=l4 V2 nC (FR r P2)
 rw[e,yad (fun r:Ę=>B6) Apz p jp Ξ BKp (VV (z7z Ξ x w)),
  yad (fun r:Ę=>Co) Apz q jp Ξ Gc AkU]
 ·show XY
 ·by_cases z:vj (Co=h)
  ·show AWW r hr z;exact ev r hr
  ·rw[AJR BGh (gL (Χ (Co=h))) [] (AvI fun r hr=>by
    simp only [ATq];exact Lv (z ⟨r,hr,e⟩))]
   rfl
theorem zyu{Ξ:HV}{x:Pp}(ev:Abt)(p:G_)(q:Pp){g:Ę ->AL}(hg:RA (g r=uu+ AI0)):
  A6l uu<=BVK/\ (HI Ξ r (uu*uu) BVK ->RA (g r=uu)):=by
 have e:HI Ξ r (g r*g r) (A6l uu+AaK (AI0* AI0)):=l4 (yio (zz6 ev p q)) nC (ZE (NH (hg r hr)))
 have n:0<=AaK (AI0* AI0):=Zz (FR r (zk6 _));refine⟨P2,As z r hr⟩
 have z2:A6x AI0 0:=P2
 have:=ycn (V3 (ft _ (zk6 _)) z2 r hr);rw[hg r hr,Τ,AGS]
#where
section
variable{α β:Ch}[AZf][AMd β]
theorem zxc(BEr)(ev:Abt)(ev' :BCV):RA (gF Ξ x' r=uu):=by
 have h1:=zyu ev (VV (Ami - ANx (BA s (AVI (x' YU))))) (TK (x h - x' h)) (g:=gF Ξ x') (FR r (ϊ gF))
 have h2:=zyu ev' (VV (ANx (BA s (AVI (x' YU))) - Ami)) (TK (x' h - x h)) (g:=gF Ξ x) (FR r (ϊ gF))
 exact Ϝ (Rat.le_antisymm n9 h2.1)
theorem ya9(BEr)(ev:Abt)(ev' :BCV){r s:Ę}(hr:AQ2)(hs:s∈Ξ)(e:B6=s.1):ACj - x' Co=x YU - x' YU:=by
 have h1:=zxc ev ev' r hr;have h2:=zxc ev ev' s hs;unfold gF at h1 h2;rw[e] at h1
 grind
theorem z92(BEr){m:RF}(ev:Abt)(ev' :BCV)(em:A_N)(em' :ZD Ξ x' m)
  (min:∀C:GN β,(AVK (∀s∈Ξ,B6=s.1 ->C Co ->C YU)) ->(∃h∈m,C h) ->AAS (C h)) (on:AAS (vj (Co=h))):AAS (x h=x' h):=by
 intro h0 hh;have XT:=min (TK (x h - x' h=BRC)) (fun r hr s hs e c=>by
  have:=ya9 ev ev' hr hs e;show ú;exact c) (ZZ h0 hh)
 have z:HI ě r (ACj - x' Co) 0:=by rw[Nu,em,em'];show XY
 have z2:HI ě r (ACj - x' Co) (aC (ofM Ξ m) (FM BRC)):=nC fun r hr=>XT _ A_I;rw[z2,Qg] at z;show Ct r hr e on h0 hh;have Ψ:0< AMX ofM m:=AGQ fun q=>by
  have:=mG.mpr ⟨hr,e ▸ hh⟩;show D5 q;show LH
 rcases AUL z with q | q
 ·have:AMX ofM m=0:=ý q
  show AF
 ·grind
#where
#print _HM
namespace _3
open KB _2 _HM
def V5(EE):dM:=Hc (∃i j,BSK)
def Mh(IL):dM:=AAq (∃i j:AB,ds= AOV/\Ak8/\A2T/\Nn j 0 D6 (dP (YN i j)))
def TF(IL):dM:=A8Z (a+b)
def Kh(IL):dM:=A8Z (a - b)
def ZJ(IL):dM:=A8Z (a*b)
def V6(IL):dM:=AAq (∃a b:AL,Axo (Nn b 0 D6 (dP (a/b))))
def Hs(IL):dM:=AxV (Axo (Ya (O0 (a<b))))
def fY(ns:CI)(k:Δ):AB:=Aja A2P ns[k] (let m:AB:=Nn ns [] (F9*7919+5) ((kg ((k*7) % IO) 0*48271+ F9*7919).SA 2147483647)
 (m*m).SA 2147483629)
def zc(EE):dM:=m4 ns CI k Δ (ds= [AV7,.AU k]/\AhF/\k<1000/\Y3 (fY ns k))
def z4a(EE):dM:=zvd
def TJ(IL):dM:=Hc (∃qs:BI,ds= [AIp]/\ AOz/\ (Ayo)/\dP (gJ qs))
def TQ(IL):dM:=AAq (∃qs:BI,ds= [AIp]/\Aii/\ AOz/\ (Ayo)/\Nn qs [] D6 (dP (gJ qs/ APa)))
def TV(IL):dM:=BQe Aii (ZI A2')
abbrev Mx:=lS
abbrev Mq:=AUR AL
def ZK(k s:Δ)(a:Mx):Mx:=FK (a (uD k s i))
def iV(m:Δ)(f:Ą):D:= PV AJm (AQD (f j))
def qY(n m:Δ)(a:Mx):D:= PV IE Ah'
def qO(m:Δ)(f:dS):D:= PV AJm BR9
def Kl(n m:Δ)(a:Mq):D:= PV IE (FK (qO m (a i)))
def SzE(AKP):Ι:=dD ACI<=128/\ AJY∣27720
def yj(N:Δ)(d:AB)(q:AL):Ι:=∃t:AB,q=YN t d/\dD t<=N
def Km(n:Δ):Δ:=147* VC+1
def ZL(EE):dM:=m4 m Δ f dS (ds= [qO m f]/\m<=13/\ (Y' m (SzE (f j)))/\∀(μ:AB) (g:Ą),0<μ ->(Y' m (BB (g j)=BB μ*f j)) ->(BVA) ->P (iV m g))
def ZM(EE):dM:=Hc (∃(m k:Δ) (f g:Ą) (p:AB),ds= [iV m f,iV m g,AEo,.AU p]/\k<m/\p≠0/\S_ (dD p)/\ (∀j,S_ (dD (f j)))/\ (∀j,S_ (dD (g j)))/\P (iV m (Fs ((BZO).Ġ p))))
def Ht(k:Δ)(p:AB)(a:Mx):Mx:=AHZ (vE k (a k j) Bkx)
def ZP(EE):dM:=Hc (∃(a:Mx) (n m k:Δ) (p:AB),ds= [Aol,AEo,.AU p]/\k<n/\k<m/\p≠0/\S_ (dD p)/\ (AxN (S_ (dD (a i j))))/\P (qY n m (Ht k p a)))
def ZQ(EE):dM:=Hc (∃(a:Mx) (n m k s:Δ),ds= [Aol,AEo,.AU s]/\k<n/\s<n/\Bdi)
def ZR(IL):dM:=AAq (∃(a:Mx) (n m k:Δ),ds= [Aol,.AU k]/\n<=1000/\k<n/\k<m/\ (∀s,k<=s ->s<n ->a s k≠0 ->Bdi)/\ ((BZm (s<n)) ->D6))
def Sys(n:Δ)(A:Mq)(ds:AR):Ι:=ds= [Kl n n A,qO n (FK (A i n))]/\n<=12/\∀i j,i<n ->j<=n ->SzE (A i j)
def Slv(n:Δ)(A:Mq)(x:dS):Ι:=∀r,r<n ->A r n=eF n (Fs (A r j*x j))
def ZS(IL):dM:=AAq (∃(n:Δ) (A:Mq),Sys n A ds/\ (∀(y:dS) (k:Δ),k<n ->y k=1 ->(∀r,r<n ->(eF n (Fs (A r j*y j)))=0) ->D6)/\∀x,Slv n A x ->(Ap_ (Km n) (AFR (yj (Km n) d (x i)))) ->P (qO n x))
def zf:Κ:=AJO ALD
def V7:Κ:=AJO ALG
def oO:Κ:=AJO ALE
def d4(l:BI):BI:=Nn A9S 1 [AmE] [ADW (mr - 1),AmE]
def ZV(EE):dM:=ANq l BI A2n (1<=HE) (ZI (C4 d4 l qD))
def TX(EE):dM:=AxV (ds= [.DC [qD a,qD b]]/\Sz 1900 a/\Sz 1900 b/\dP (b - a))
def ZW(EE):dM:=ANq l BI A2n (AjX 2) (HE<=1000/\ BPa/\BR5)
def ZX(IL):dM:=AAq (∃(l:BI) (g:AL),ds= [A2n,qD g]/\AjX 2/\HE<=1000/\ BPa/\AXN/\
 if HE=2/\g<wd l 0 then E (BY d5) else BR5)
theorem yf5(BV ZV):L4:=We
theorem yje(BV TX):L4:=Iy
theorem yar(BV ZW):L4:=We
theorem yox(BV ZX):GI:=Iy
def Z0(EE):dM:=Hc (∃r:Κ,ds= [.AX r]/\Y3 Arj)
def Iw(n:Δ)(p:Pt):Ι:=Sz n DJ/\Sz n p.2
def zj(ps:FD):AT:=Χ (1<LP)&&(Ł LQ ps ps.tail).all id
def Z1(EE):dM:=Hc (∃a b:Pt,ds= [pD a,pD b]/\Iw 4000 a/\Iw 4000 b/\Ya (LQ a b))
def Z2(EE):dM:=ANq ps FD BSF (∀p∈ps,Iw 4000 p) (Ya (zj ps))
def Z4(EE):dM:=Hc (∃(l r:Pt) (x:AL),ds= [pD l,pD r,qD x]/\Iw 300 l/\Iw 300 r/\A9u/\l.1<B6/\dP (Cj l r x))
def Nv(IL):dM:=AAq (∃ps:FD,ds= [BSF]/\ (∀p∈ps,Iw 4000 p)/\Afz zj ps (P (GW AFb)) D6)
def yx(c:Cls)(ps:FD):D:= .obj js [ac] [.Dx AFb]
def V8(IL):dM:=m4 ps FD x AL (ds= [yx c ps,qD x]/\Amn/\AAk/\ A6y/\A9u/\dP (pC ps x))
def intD(n:Δ):D:= .AU Lw
def uE(i'):BI:=(pI qs).ASe
def Ko(f:BI)(k:Δ):AT:=Χ (k+1=xC) || Χ (ABJ LY 0<AnC)
def jj(f:BI):DA:=0::C4 (AGa xC).ĭ (Ko f) (· +1)
def Fall(f:BI):Ι:=∀i j,i<=j ->j<xC ->ABJ j 0<=ABJ i 0
def pZ(l:CI):D:= .DC A2a
def Fd(b:Bd):D:= AP' b.1 b.2
def yC(bs:Hd):D:= A1c Fd
def jt(qs:BI)(m:AL):Δ:=D_ qs.filter (Tk (!(Χ (x<m))))
def iW(i'):CI:=C4 jj AMu BGm
def Last(S:CI)(n:AB):Ι:=ϫ S.map HA Kj (GM n)
def oR(Aop):AT:=(gk AQa IR AML JI).ABe 0
def zm(Aop):CI:=AOm fun k=>fk AQa IR bs LY
def V9(EE):dM:=m4 x AB b Bd (ds= [.AU x,Fd b]/\Ya (Br b x))
def Z5(EE):dM:=Hc (∃(S l:CI) (b:Bd),ds= [pZ S,pZ l,Fd b]/\P (pZ (Ck S l b)))
def TY(EE):dM:=m4 S CI bs Hd (ds= [pZ S,yC bs]/\AlJ/\ZI (AbJ (FK (pZ (rk S bs i)))))
def Kp(ls:AAG):T:= PV AGU BdS
def uF(Aop):AAG:=AbJ (FK (rk (iW qs) bs i))
def Wa(EE):uV:=Hc (∃ls:AAG,ds= [ARZ]/\P (Kp ls))
def Z6(EE):dM:=m4 m AL qs BI (ds= [qD m,AIp]/\UZ m/\ AOz/\Y3 (jt qs m))
def Z7(EE):dM:=BQe BQ_ (P (pZ AQa))
def Z8(EE):dM:=Bkl (ds= [pZ S,yC bs]/\AlJ/\Last S n/\ZI BeM)
def Z9(EE):dM:=Bkl (ds= [pZ S,yC bs]/\AlJ/\Last S n/\AXb/\ Ab4/\P (pZ (AOm fun k=>AZ_)))
def Wb(IL):dM:=AAq (∃(qs:BI) (bs:Hd),ds= [AIp,yC bs]/\BQ_/\ AOz/\AlJ/\ (BUe ->P (pZ (zm qs bs)))/\ (BVz ->E (Be_ qs bs)))
def bD:Ajt ->D | Η=> BH | Ε q=>qD q
def Hu(f:BI)(c:Δ):Ajt:=Nn c 0 Η (Ε (ABJ (c - 1) 0))
def isIn(m:AL):AEV Ajt | Η=>AE | Ε q=> !(Χ (m<q))
def qb(bs:Y2)(m:AL):Δ:=bs.findIdx (isIn m)
def Wc(n:Δ)(b:Ajt):Ι:=∀q,b=Ε q ->Sz n q
def Wd(EE):uV:=m4 qs BI cs DA (ds= [AIp,PV cs.map intD]/\Aii/\ AOz/\0<ASc/\ (∀c∈cs,BO7)/\ZI (uA BZN bD))
def Wf(EE):dM:=m4 bs Y2 m AL (ds= [A1c bD,qD m]/\ A6d/\UZ m/\Y3 (qb bs m))
abbrev Rw:=Κ×Κ×AB
def zu(r:Rw):D:= BUj Af_
def eG(rs:B7):D:= PV AUJ zu
def yD(AqI):Ρ:=C4 BGh BU_ (Pc Co)
structure Fam (Ξ:B7) (Ss:N1):Ι where
 of:AWt (BTR S)
 to:RA (∃S∈Ss,AVu S (AVl yD))
structure Gw (Ξ:B7) (ms:N1):Ι where
 sr:Abe (AWN m.Pairwise)
 up:AfA fun a b=>BCS
 pi:∃Ss,Fam Ξ Ss/\oA Ss ms
def Gx(p:Ρ×AR):T:= A7r Aid (p.2).map
structure Qh (Ξ:B7) (ws:Ρ) (ps:AXv):Ι where
 len:BMH
 nd:pb
 lw:NS<=jp
 wm:AW3 ws (vj AOL)
 pt:Bjg
 ex:BYq
def T3(EE):uV:=ANq Ξ B7 AhY BLo (∀ws ps,Ay8 ->P AxS)
def Wg(EE):dM:=Hc (∃g hs:Ρ,ds= [gl g,gl hs]/\Ya (eE g hs))
def zij(EE):dM:=Hc (∃(fs:N1) (hs U:Ρ),ds= [PV Aeb gl,gl hs]/\ASf+Asj<4000/\ALQ<4000/\A9Q/\ (∀x∈hs,x∈U)/\ (Abn (AAc f))/\
 ∀g:Ρ,AwP g.Pairwise ->(Af' g (x∈hs\/ApG (AbH f/\AP3))) ->ZI ((AUI (BA f (! ANX))++ [g]).map gl))
def ziw(EE):uV:=Bo4 (ds= [AhY]/\BLo/\A9Q/\ AyM/\∀ms,APH ->ZI (uA eg gl))
def Cds(N:Δ)(m:Ρ)(x:D3):Ι:=Ap_ N (AAS (yj N d (x h)))
def Qi(AqI):D:= X2 (Amg .BD) (Aaa AIm)
def yE(A'C):D:= .DC (Os (Qi Ξ))
structure LB (Ξ:B7):Ι where
 few:jp<=200
 mm:RA (g9 fb<2^100)
 wk:∀w,AU6<=12
def Cm(A'C):Ι:=NS<=200/\AOw AQZ
def Qj(EE):dM:=Bkm (ds= [AiS,Aip]/\P (yE Ξ (AGV A3o)))
def zkw(EE):dM:=Hc (∃(Ξ:B7) (ws:Ρ) (h o:Κ),Bib (.AX o) (dP (gB Pi h o)))
def ziv(EE):dM:=Hc (∃(Ξ:B7) (ws m:Ρ) (h:Κ),Bib (gl m) (ZI (jv fun o=>(ASK h))))
def zd7(EE):dM:=m4 Ξ B7 w Κ (ds= [Ŋ Qi]/\t7/\AQZ/\dP (ANx (gL ADH)))
def zh1(EE):dM:=Bkm (ds= [AiS,Aip]/\Lu/\t7/\AOv/\dP ASP)
def zb0(EE):dM:=Hc (∃(Ξ:B7) (ws m:Ρ),ds= [gl m,Aip]/\ARd/\t7/\AOv/\m≠ []/\BMY/\
 ∀x:D3,(∀h∈m,AKI) ->A8R ->BFa ->ZI (jv vb))
structure Lean (Ξ:B7) (ms:N1) (x:D3):Ι where
 g:APH
 ev:Abe (AAS AKI)
 em:Abe A_N
 sz:Abe BFa
def iY(ArE):T:= A7r Oy (AiQ vb)
def jk(ArE):D:= AZy Oy Oy vb
def T4(EE):uV:=Bhk (Ņ<=12) (P (iY ABK x))
def ab0(c:Δ):AT:=Χ (97<=c)&&Χ (c<=122)
def nmS(AQe):AT:=Χ (1<=BJ7)&&(Χ (BJ7<=8)&&x.cps.toList.all ab0)
structure T5 (r:Rw):Ι where
 w:nmS B6=Μ
 h:nmS Co=Μ
 m0:0<=fb
 m1:fb<=10^12
def Wh(EE):dM:=m4 n AB m Δ (ds= AUt n m/\m<=8/\∀xs:Ρ,AW8 m ->AfU ->(∀x∈xs,ACe nmS) ->ZI Ak4)
def zdl(EE):dM:=Hc (∃a b d e n:AB,ds= [APg,APh,.AU d,.AU e,.AU n]/\e≠0/\∀t:AT,Ya t)
def zfb(EE):dM:=Hc (∃(ns:CI) (Wp AGW:Δ),ds= [AV7,.AU Wp,.AU AGW]/\AhF/\1<=Wp/\Wp<=5/\AGW<=8/\
 ∀(Ξ:B7) (U:Ρ),A3k ->Ņ<=Wp ->Hb AyM Lu A3i (∃W:Ρ,W.length<=8/\RA (B6∈W)) (P (eG Ξ)))
def zcp(EE):dM:=Hc (∃i j:AB,BSK)
theorem yaj(BV T3):L4:=We
theorem ymc(BV Wg):GI:=Iy
theorem ydy(BV zij):GI:=w4
theorem yez(BV ziw):L4:=Iy
theorem zwk(BV Qj):GI:=w4
theorem ykc(BV zkw):v6:=ApQ
theorem yfi(BV ziv):v6:=ApQ
theorem z1n(BV zd7):L4:=Iy
theorem yfk(BV zh1):GI:=w4
theorem zoq(BV zb0):GI:=w4
theorem z5c(BV T4):L4:=Iy
theorem zze(BV Wh):GI:=Iy
theorem zwz(BV zdl):AkS:=w8
theorem z41(BV zfb):v6:=w4
theorem zwc(BV zcp):GI:=Iy
def uG(hs:Ρ)(h:Κ):Ρ:=AjT wE hs hs h
def T6(EE):dM:=Hc (∃i j:AB,ds= AOV/\Ak8/\A2T/\AOl/\dP (YN i j))
theorem ybq(BV T6):GI:=Iy
def pG(r:Κ)(g:AL)(qs:BI):Ajs:=if IR< Arj then Ε AE else AX5 (r=oO/\IR=2/\BdV) (Ε Μ)
inductive tG (i'):D1 Κ AL
 | mean:tG qs zf (gJ qs/ APa)
 | mid:tG qs V7 (Tr (pI qs))
 | pair:MH (Best (pI qs) b) (tG qs oO ((AHy b 0+ AHy (b+1) 0)/2))
def rQ(r:Κ):Ι:=r=zf\/r=V7\/r=oO
def Bg(c:Cls)(r:Κ)(g:AL)(qs:BI)(P:GN AL)(E:GN AT):Ι:=match pG r g qs with
 | Ε f=>E f
 | Η=>∀v,A8n ->P v
def T7(IL):dM:=AAq (∃(r:Κ) (qs:BI) (g:AL),BmC (dP v) (E (BY (CD (f=Μ) d5 d_))))
theorem yk7(BV T7):v6:=w4
structure fB where
 p_:D
 gap:D
 scale:D
 leans:D
 sheets:D
 marks:D
def fB.fs:Ρ:= [ad,ae,ABP,ASk,OB,LM]
def fB.xs(S:fB):AR:= [ASg,ASh,ASi,AGX,Asl,Ħ]
def fB.d(c:Cls)(S:fB):APj ->D
 | Η=> .obj Hk fB.fs S.xs
 | Agi=> .obj Hk BRu (S.xs++ [b])
structure mj where
 p_:D
 gap:D
 scale:D
 leans:D
 sheets:T
 marks:T
def mj.ts(S:mj):ID:= [.QP ASg,.QP ASh,.QP ASi,.QP AGX,Asl,Ħ]
def mj.t(c:Cls)(S:mj):AGC D ->T
 | Η=> .ob Hk fB.fs S.ts
 | Agi=> .ob Hk BRu (S.ts++ [.DC (ŏ b.map)])
def mj.pl(S:mj):fB:=⟨ASg,ASh,ASi,AGX,jq Asl,jq Ħ⟩
def T8(IL):dM:=fun ds Q _=>∃S b ACG ks ys,ds= [AaH,.AX ACG]/\AxK AGX/\Q ((iu ks ys (FV ACG)).XL AkZ)
def zbh(IL):dM:=BFM b AaH (lB ks AWd=Μ/\Q BH\/A9L)
def Qk(IL):dM:=BFM b AaH ((∃d,iu ks ys AWd=Ε d/\Q d)\/A9L)
def wQ(bs:Y2):D:= A1c bD
def T9(IL):dM:=BFM bs AQ7 ((∃d,iu ks ys AWd=Ε (qD d)/\UZ d/\ A6d/\AXT (qb bs d))\/A9L)
def Gy(L:Ρ)(f:ANS):D:= AZy ay ay A1O
def Gz(BFL):BI:=ay (EX (BB (f h) - x h))
structure Fe (BFL):Ι where
 few:ATU<=12
 mm:∀h∈L,(f h).ACH<2^100
 cd:Ap_ 736 (∀h∈L,yj 736 d (x h))
structure Nx (ps:FD):Ι where
 len:Amn
 gd:AAk
 sz:VS ps (Iw 300 p)
structure Hv where
 r:Κ
 g:AL
 ps:FD
 hs:Ρ
 x:D3
def Hv.xf(p:Hv)(h:Κ):AL:=X_ (h∈p.hs) (p.x h)
structure Hv.Ok (p:Hv):Ι where
 r:rQ p.r
 g:UZ p.g
 sc:Nx p.ps
def opX(c:Cls)(w:Κ)(f:AT):XV:= .pay P5 [Md,Ĩ] [.QP (M3 w),.QP (.bl f)]
def zbq(IL):dM:=fun ds Q E=>∃(S:fB) (b:APj) (T0:Κ) (L:Ρ) (f:ANS) (p:Hv),ds= [AaH,Aw_,Gy L f]/\AGX=jk p.hs p.x/\ASg= .AX p.r/\ASh=qD p.g/\ASi=yx c p.ps/\p.Ok/\Fe qE L f/\
 Bg c p.r p.g Bdb (BA v (Q (qD (pC p.ps v)))) fun f=>E (opX c T0 f)
def Cp(Ar'):AR:=Ä (GV (.Dx [.AX w,Af6,.AU (qb bs (v w))]))
def Wi(IL):uV:=Hc (∃(S:fB) (ws:Ρ) (v:D3) (bs:Y2),ds= [AQ7]/\Bg2/\AwP ws.Pairwise/\BMa/\ (∀w∈ws,A_e v)/\ A6d/\ZI (ŏ BDd))
abbrev Ks:=Κ ->Ρ
abbrev Vs:=Κ ->Κ ->AB
def stS(BhO)(K:Ks)(V:Vs)(u:D3):mj:=
 ⟨.AX p.r,qD p.g,yx c p.ps,jk p.hs p.x,A7r ABk (C4 ABk BFu),iY ws (GV (pC p.ps (u w)))⟩
def stT(BhO)(bs:Y2)(K:Ks)(V:Vs)(u:D3):T:=mj.t c (stS c p sI ws K V u) (Ε (ki bD))
structure aac (p:Hv) (sI ws:Ρ) (bs:Y2):Ι where
 p:p.Ok
 so:Amz
 few:BMa
 acv:sI.length<64
 sm:AW3 sI (w∈ws)
 bz:MM bs Ahv
def up(AFg)(f:Κ ->α)(w:Κ)(a:α):Κ ->α:=fun u=>(Nn u w a (f u))
def isW(AqI):Ι:=∃s∈Ξ,s.1=w
structure Sorted (A'C):Ι where
 so:Amz
 wm:A6t
def mW(Ξ:B7):Vs:=fun w h=>(A8v h)
def vJ(Ξ:B7)(x:D3)(w:Κ):BI:=Gz x ŭ AgD
structure yF (Ξ:B7) (r:Κ) (g:AL) (x:D3) (ws:Ρ) (u:D3):Ι where
 so:Sorted Ξ ws
 ok:AOw (pG r g (AM' x)=Η/\tG (AM' x) r (u w))
structure uH (Ξ:B7):Ι where
 u:Lu
 few:A3k
 hs:∃U:Ρ,Ņ<=4/\RA (Co∈U)
 mm:RA (g9 fb<2^82)
def Kq(qs:BI)(bd:Hd):Y2:=(((zm qs bd).map AuE).dropLast).map (Hu AMu)
def pJ(ps:FD)(ws:Ρ)(u:D3):BI:=Ä (GV (AVQ u))
def lE(r:Κ)(g:AL)(ps:FD)(ms:N1)(x:D3):Hv:=⟨r,g,ps,ABK,x⟩
def Ql(IL):RZ:=fun t ds P E=>∃(Ξ:B7) (r:Κ) (g:AL) (ps:FD) (bd:Hd),t= .ob Hk [] []/\ds= BiM/\AY8/\rQ r/\AXN/\Nx ps/\0<AuF/\AuF<=90/\∀ms x,nL ->
 (∀w f,AhW ->BEf (AM' ADQ) ->(Bjc) ->∀t',E t' (opX c w f))/\
 ∀ws u,Ayf ->
  (BV0 ->∀t',E t' (Be_ AU8 bd))/\
  (A8M ->∀sI,Bgb ->P Bl8 BH)
theorem z75(BiC):AkS:=A9t
theorem z7a(BiC):Ql c t ds (fun t d=>d= BH/\P t d) E:=by
 obtain⟨Ξ,r,g,ps,bd,h1,h2,h3,h4,h5,h6,h7,h8,h⟩:=h;exact⟨Ξ,r,g,ps,bd,h1,h2,h3,h4,h5,h6,h7,h8,fun ms x G=>⟨AzT.1,fun ws u A=>⟨Bcb.1,fun a sI O=>(Ic (Bcb.2 a sI O))⟩⟩⟩
theorem znl(BV T8):GI:=w8
theorem zka(BV zbh):GI:=w8
theorem zss(BV Qk):GI:=w8
theorem zp6(BV T9):GI:=w8
theorem zll(BV zbq):v6:=A9t
theorem zr0(BV Wi):L4:=ApQ
def zdj(EE):dM:=Arq (∀bs:Hd,0<JI ->JI<=12 ->P (yC bs))
def zex(EE):dM:=Arq (∀r g,rQ r ->AXN ->P (GW [.AX r,qD g]))
def zbo(EE):dM:=Arq (∀ps:FD,Nx ps ->ZI AFb)
def lvD(x:D3)(r:Rw):D:= BUj A3z
def zfd(EE):dM:=Bhk (Ņ<=4) (ZI (ħ (lvD x)))
inductive Out where
 | op (w:Κ) (f:AT) | ba (ls:AAG) | ma (Ar')
inductive Res (Bhp):GN Out
 | op:∀ms x w f,Hb nL AhW (BEf (AM' ADQ)) Bjc (AAx Axl)
 | ba:BkR BV0 (AAx (.ba (uF AU8 bd)))
 | ma:BkR A8M (AAx (.ma ws BLj Ahq))
def Cq:Κ:=AJO "open"
def uX:Κ:=AJO Adz
def Kr:Κ:=AJO BGq
def ABO:Out ->D
 | .op w f=> .Dx [AkO,.Dx [.AX w,.bl f]]
 | .ba ls=> .Dx [AI4,ARZ]
 | .ma ws v bs=> .Dx [AXF,BS5]
def zbw(IL):uV:=m4 S fB bs Y2 (ds= [AQ7]/\ZI (uA ki bD))
def zd1(IL):dM:=Hc (∃(r:Κ) (qs:BI) (g:AL),BmC (P (GW [ADi,qD v])) (P (GW [AP7,.bl f])))
structure Hnd (Bhp):Ι where
 o:AY8
 r:rQ r
 g:AXN
 c:Nx ps
 b0:0<AuF
 b1:AuF<=12
def aad(Bk_):AR:= BiM
def zf1(IL):dM:=Bln (∀o,AAx o ->P (ABO o))
inductive zy (Bk_):T ->Ρ ->D1 (D3) Y2
 | mk:∀ms x ws u sI,BC nL Ayf A8M Bgb (zy c Ξ r g ps bd Bl8 ws BLj Ahq)
def Wj(IL):PB:=Bln ((∀w f,AAx Axl ->P (.pl A6T))/\ (∀ls,AAx AoC ->BPF Kr (Kp ls))/\
 ∀t ws v bs,AAx (.ma ws v bs) ->BD_ ->BPF uX t)
def Wk(EE):dM:=ANq L Ρ (.DC (ay .AX)) (ATU<13) (∀x,x∉L ->P Ϻ)
def zco(IL):dM:=Hc (∃(S:fB) (bs:Y2) (T0:Κ) (ks:GE) (ys:AR),ds= [AQ7,Aw_]/\AxK Ħ/\lB ks AWd=AE/\A2f)
structure aae (S:fB) (ws hs:Ρ) (v x:D3) (bs:Y2):Ι where
 em:Bg2
 el:AGX=AnZ
 so:Amz
 wf:NS<13
 hf:ASf<13
 zv:AOw (A_e v)
 zb:MM bs Ahv
def Wl(IL):dM:=Hc (∃(S:fB) (ws hs:Ρ) (v x:D3) (bs:Y2),ds= [AQ7,AnZ,BS5]/\aae S ws hs v x bs/\A2f)
theorem zw8(BV zdj):L4:=We
theorem z4h(BV zex):L4:=We
theorem zks(BV zbo):L4:=We
theorem z5g(BV zfd):L4:=Iy
theorem zmw(BV zbw):L4:=Iy
theorem z0n(BV zd1):v6:=w4
theorem z7y(BV zf1):AkS:=w8
theorem z5w(BV Wj):AkS:=w8
theorem zzi(BV Wk):L4:=We
theorem zvw(BV zco):GI:=w8
theorem z1f(BV Wl):v6:=A9t
def zf4(Ν):aF:=(aR 7 (cB cR oQ (OV CA (Q_ (cB cR þ (RH Th (fe um (d9 (cB mC i3 Id) (JJ pU A3R 1))))) 26))))
def zh8(Ν):aF:=(aD (aR 9 (BPS (cB cR (AOi (WH Ap 24) 48271) (AOi (RH i3 i3) 69621)) (AOi i3 7)))
 (zf4 K c))
def zmu(Ν):aF:=(Aoj 5 oQ)
def znw(Ν):aF:=(aD (uT (gf (cB cR Ev (RH Th (fe um (Ali A3R))))) (IZ 8)
 (zh8 K c))
 (zmu K c))
def zqv(Ν):aF:=(aD (aR 7 (tJ ""))
 (znw K c))
def zsm(Ν):aF:=(aW WE)
def zsw(Ν):aF:=(aD (uT Ahd (IZ 6)
 (zqv K c))
 (zsm K c))
def zsc(Ν):aF:=(aD (cQ 5 (fG ak))
 (zsw K c))
def zfv(Ν):aF:=(aD (aR 4 (cB cj (WH Ap 24) Ev))
 (zsc K c))
def zjw(Ν):aF:=(aD (cO (cT (Ali A3R))
 (aR 3 YA)
 bA)
 (zfv K c))
def zjo(Ν):aF:=(aD (aR 3 (AQg (Q_ (WH Ap 3) 8)))
 (zjw K c))
def zin(Ν):aF:=(aD (aR 2 (tJ Ast))
 (zjo K c))
def zu7(Ν):aF:=(aW (Q_ (RH CA CA) 2147483629))
def zvm(Ν):aF:=(aD (cO (cT (AOu ve))
 (aR 2 (BPS (AOi (OV Ap (cB cj (AOi AS 7) ve)) 48271) BPo))
 bA)
 (zu7 K c))
def zvl(Ν):aF:=(aD (aR 2 (JJ cR BPo 5))
 (zvm K c))
def zp3(Ν):aF:=(aD (cO (cT (cB ud AS ve))
 (aW A5V)
 bA)
 (zvl K c))
def zqg(Ν):aF:=(aW (cC AN'))
def zhp(Ν):aF:=(aD (cO (cT (JJ mC Ap 2))
 (aW (d9 (cB mC (Q_ AS 2) (Q_ CA 2)) (AOu (Q_ Id 4))))
 bA)
 (zqg K c))
def zhz(Ν):aF:=(aD (cO (cT (Ali Ap))
 (aW (jY (cB mC CA (cB cj AS Ev)) (cB mC CA (cB cj (AJ' AS) Ev))))
 bA)
 (zhp K c))
def zg4(Ν):aF:=(aD (cO (cT (JJ mC Ap 0))
 (aW (AOu (ç Id)))
 bA)
 (zhz K c))
def zhg(Ν):aF:=(cO (cT (aA (zdl c) (aj Ev (aj i3 (aj þ (GS AS AYE))))))
 (Aoj 7 (cP (aj (OV WE i3) (GS (OV Th þ) (cB cj (WH AYE 12) Id)))))
 bA)
def zfx(Ν):aF:=(aD (WP 10 zc Ap (cB cR (AlG 6 (RH i3 AS)) þ))
 (zhg K c))
def zfz(Ν):aF:=(uT Ahd (IZ 9)
 (zfx K c))
def zlz(Ν):aF:=(dk (iR (dO (qF oQ (pB AW9) qN)) (dO (qF oQ qN (pB AW9)))))
def zk8(Ν):aF:=(aD (aR 11 (cB cj (WH (ADw 3) 4) (AJ' (fW (ACg oQ)))))
 (zlz K c))
def zkx(Ν):aF:=(aD (uT (gf CA) (IZ 8)
 (zfz K c))
 (zk8 K c))
def zme(Ν):aF:=(aD (cQ 7 (fG ak))
 (zkx K c))
def zlj(Ν):aF:=(aD (WP 6 Wh (ADw 5) AS)
 (zme K c))
def zg6(Ν):aF:=(aD (WP 5 Wh (ADw 4) CA)
 (zlj K c))
def zk1(Ν):aF:=(aD (aR 4 (OV (ė (aj A0I (aj (bi 4) (GS A0I (JJ j4 A0I 12))))) (A5T 3)))
 (zg6 K c))
def zg7(Ν):aF:=(aD (aR 3 (A5T 2))
 (zk1 K c))
def znp(Ν):aF:=(jZ 0 1 (GS AS BOR))
def zos(Ν):aF:=(aW Ap)
def zot(Ν):aF:=(aD (Eh (cT (AOu AS))
 (znp K c))
 (zos K c))
def zoz(Ν):aF:=(aD (aR 1 (fe uf AS))
 (zot K c))
def zju(Ν):aF:=(aD (aR 0 BOD)
 (zoz K c))
def zx3(Ν):aF:=Bbs
def zxa(Ν):aF:=(aD (cO (cT (JJ ud AS 0))
 (aR 2 (cB gq á CA))
 bA)
 (zx3 K c))
def ztv(Ν):aF:=(aD (WP 2 zcp Ap AS)
 (zxa K c))
def zui(Ν):aF:=(AXx (OV (ė (aj BL_ (GS BMA BL'))) (ç AS)) (Ll T6 (Q_ (WH AS 3) 40) (AQg (ç (WH AS 120)))))
def zrs(Ν):aF:=(aD (WP 1 zc Ap (bi 58))
 (zui K c))
def zgn(Ν):aF:=(aR 2 (cB cR (RH (bi 6) (AJ' (fe uf CA))) (ç (WH Th 105))))
def zc0(Ν):aF:=(aD (aR 1 (cB cR (AJ' AS) (Q_ (WH Th 15) 7)))
 (zgn K c))
def zc1(Ν):aF:=(aD (qG 4 rF (Aqv (Ll T6 AS Ev) oQ))
 (zc0 K c))
def zgf(Ν):aF:=(aD (cO (jB (cT (AOu WE)) (cT (JJ mC (Q_ Th 5) 4)))
 (aR 7 (zh (jK 4 (JJ gq WE 1))))
 bA)
 (zc1 K c))
def zgd(Ν):aF:=(aD (WP 7 T6 CA (AQg (ç (WH Th 5))))
 (zgf K c))
def zhi(Ν):aF:=(aD (WP 6 zc Ap (AlG 49 WE))
 (zgd K c))
def zie(Ν):aF:=(aW Id)
def zh7(Ν):aF:=(aD (uT (gf (AlG 2 (ç (ADw 48)))) (IZ 5)
 (zhi K c))
 (zie K c))
def ziz(Ν):aF:=(aD (cQ 4 (fG ak))
 (zh7 K c))
def zhn(Ν):aF:=(aD (aR 3 (AQg (ç (WH (ADw 46) 15))))
 (ziz K c))
def zii(Ν):aF:=(aD (aR 2 (JJ gq (Q_ (ADw 47) 21) 4))
 (zhn K c))
def ze5(Ν):aF:=(aD (aR 1 (JJ gq (Q_ (ADw 46) 15) 9))
 (zii K c))
def zku(Ν):aF:=(qG 1 rF (Aqv Id (cB cR Id (OV (ė (aj (bi 60) (aj (bi 2) (GS (bi 4) (Q_ (WH Ev 36) 7))))) (Q_ (WH Ev 9) 4)))))
def zl1(Ν):aF:=(aD (aR 4 (RH (ç Ev) (fe um (Ali (ç (WH Ev 3))))))
 (zku K c))
def zow(Ν):aF:=(aD (WP 3 zc Ap (AlG 54 CA))
 (zl1 K c))
def zrv(Ν):aF:=AZH
def zrh(Ν):aF:=(aD (uT (gf (AQg (A5T 53))) (IZ 2)
 (zow K c))
 (zrv K c))
def zl6(Ν):aF:=(aD (cQ 1 (fG ak))
 (zrh K c))
def z78(Ν):aF:=(aW (fe ye4 (Amd [0] AS (cB Am8 Ap AS))))
def zx4(Ν):aF:=(cO (AHp cT Wg Id AS)
 (qG 3 zwa (gf Id))
 bA)
def zrc(Ν):aF:=(dk (iR CA (ė (aj (dO (l7 zv9 Ev)) ak))))
def z0m(Ν):aF:=(aD (vq Ap (IZ 4)
 (zx4 K c))
 (zrc K c))
def zzj(Ν):aF:=(aD (cQ 3 (AJ6 AS))
 (z0m K c))
def zyp(Ν):aF:=(aD (aR 2 (AaY [1] Ap (ANw (Ll Wg Ap AS))))
 (zzj K c))
def zhq(Ν):aF:=(Y5 1 2 3 Id)
def zt2(Ν):aF:=(aD (cO (Y0 1 CA)
 (Y4 1 2 RM)
 bA)
 (zhq K c))
def zoa(Ν):aF:=(wA (nV 1))
def zxh(Ν):aF:=(aD (vq Ap (fK 3 (aY (IZ 2) (AIJ 3 4)))
 (zt2 K c))
 (zoa K c))
def ztr(Ν):aF:=(aD (BL 1 RM)
 (zxh K c))
def zxg(Ν):aF:=(WP 1 zij AS (dO (l7 z1h CA)))
def zzf(Ν):aF:=(wA (YK (l7 z6f AS)))
def z1s(Ν):aF:=(aD (dR (z18 (Abm T3 Ap)) (IZ 2)
 (zxg K c))
 (zzf K c))
def zwq(Ν):aF:=(aD (aR 1 (ė ak))
 (z1s K c))
def zqh(Ν):aF:=(aR 1 CA)
def zqm(Ν):aF:=(aD (aR 0 AS)
 (zqh K c))
def zwg(Ν):aF:=(aD (aR 2 BOR)
 (zqm K c))
def zy7(Ν):aF:=(aW BOD)
def ztt(Ν):aF:=(aD (Eh (cT (JJ pU AS 0))
 (zwg K c))
 (zy7 K c))
def zpx(Ν):aF:=(aR 1 (RH AS (cB dN A1q (Ll V5 AS A1q))))
def zsk(Ν):aF:=(dk (Alo [1] dH (RH ADa (cB dN AS uj))))
def zr4(Ν):aF:=(aD (vq Ap (IZ 2)
 (zpx K c))
 (zsk K c))
def zn4(Ν):aF:=(aD (aR 1 YA)
 (zr4 K c))
def ztf(Ν):aF:=(dk (BBV [0,1,2,3] AS dH (cB dN (cB gq (RH (OV Ev Id) Ap) (RH (OV CA Id) AS)) WE)))
def zxf(Ν):aF:=(dk (cY 2 [1,2,3] BPe Ah_ dH (sW (cT (AZ4 CA)) AS (aA (ZM c) (aj AS (aj Id (GS CA Ev)))))))
def zs8(Ν):aF:=(aD (aR 3 A5V)
 (zxf K c))
def zwl(Ν):aF:=Bbs
def zuz(Ν):aF:=(aD (cO (cT (JJ ud AS 0))
 (aR 2 (cU gM CA))
 bA)
 (zwl K c))
def zvi(Ν):aF:=(aD (WP 2 V5 Ap AS)
 (zuz K c))
def zq9(Ν):aF:=(aD (cO (cT (JJ mC AS 0))
 Ba
 bA)
 (zvi K c))
def zr5(Ν):aF:=(aW Ev)
def zsa(Ν):aF:=(aD (RD 3 CA A5V)
 (zr5 K c))
def zr8(Ν):aF:=(aD (RD 3 AS BNX)
 (zsa K c))
def zn8(Ν):aF:=(aD (cQ 3 (AJ6 Ap))
 (zr8 K c))
def z7j(Ν):aF:=(cO (cT (JJ pU (OV BNX AS) 0))
 (aW (BAK ZQ))
 bA)
def ygd(Ν):aF:=Ba
def yg0(Ν):aF:=(aD (Jl (GS AS ve) (IZ 2)
 (z7j K c))
 (ygd K c))
def zs1(Ν):aF:=(aR 3 (OV (OV CA Id) Id))
def zw5(Ν):aF:=(aD (aR 2 (ϑ ZP (Ll ZR CA Id) Id Ev))
 (zs1 K c))
def zz0(Ν):aF:=(dk (Afq (cY 2 [] (Ñ uh CA) Ah_) dH Mh Aye (OV AS Ap)))
def z00(Ν):aF:=(aD (uT (gf (ACg CA)) (IZ 4)
 (zw5 K c))
 (zz0 K c))
def zrd(Ν):aF:=(aD (aR 3 YA)
 (z00 K c))
def zyt(Ν):aF:=(aD (aR 2 (dO (BBV [] AS dH (sD ZL (dO (iR Ap (ė Ahd)))))))
 (zrd K c))
def zjs(Ν):aF:=(dk (AMi [0] AS (cT (Ahk (Nk AE))) Ap))
def zof(Ν):aF:=(aW (dw vA vA AOD Ap AIW))
def ztu(Ν):aF:=(dk (Alo [1,2] (cT (fe ye4 (Ahf (AMi [0,2] AS) V9 (Ahk gq) CA))) Ap))
def ybp(Ν):aF:=(wo Mh (cB cR AnG A_U) (RH uj AIW))
def z09(Ν):aF:=(WP 1 TF AS CA)
def z5i(Ν):aF:=AZH
def z5t(Ν):aF:=(aD (vq Ap (IZ 2)
 (z09 K c))
 (z5i K c))
def z2t(Ν):aF:=(aD (aR 1 A4I)
 (z5t K c))
def z4t(Ν):aF:=(aW (sW (cT (AZ4 AS)) (Ll TF (AIr (ACg Ev)) Id) Id))
def z4w(Ν):aF:=(aD (aR 4 (sD TJ (Amd [] Ev (AMv (cU gM YA) BSS))))
 (z4t K c))
def z3h(Ν):aF:=(aD (WP 3 Qj AS (Ll Qj Ap CA))
 (z4w K c))
def zxk(Ν):aF:=(dk (AMi [0,2] AS dH (ϑ zkw AS Ap CA)))
def z4c(Ν):aF:=(wo Mh (cB gq AnG A_U) (RH uj AIW))
def zog(Ν):aF:=(wo Mh (Px Ap) BSS)
def zxz(Ν):aF:=(aW (sD TJ (Ahf (cY 1 [0] (AHp iL Qj Ap AS) lI) Kh (AIr (cB vI Ap AS)) (wP zd7))))
def zfe(Ν):aF:=(wo ZS (dO (iR (ė (gf Id)) CA)) (dO (iR (ė (Aqv á YA)) Ev)))
def zey(Ν):aF:=(aD (aR 4 (Amd [1] Ap (AIr (ACg (Ll Qj Ap AS)))))
 (zfe K c))
def zjz(Ν):aF:=(aD (aR 3 (A'o (BXy [1]) zh1))
 (zey K c))
def zgl(Ν):aF:=(aD (aR 2 (dO (BXy [0,1] dH (BAK ziv))))
 (zjz K c))
def zjr(Ν):aF:=(Sw 1 Id WE)
def zhb(Ν):aF:=(dR (O8 (GS CA (Ll zb0 CA Ev))) (AaF 4 5)
 (zjr K c))
def zjq(Ν):aF:=(aD (aR 3 (dO (Er (ņ aA (BP (T3 c)) (AaY [2] Ap (cT (cB Am8 uj AS)))))))
 (zhb K c))
def zvr(Ν):aF:=(wA (nV 1))
def zl9(Ν):aF:=(aD (vq (ņ aA (BP (ziw c)) Ap) (IZ 2)
 (zjq K c))
 (zvr K c))
def zqw(Ν):aF:=(aD (BL 1 RM)
 (zl9 K c))
def zlr(Ν):aF:=(dk (cY 3 [1] (iL Ap) (fK 3 (aY lI (AIJ 1 2))) dH (A8m AS (Ll Kh (AIr CA) (cB vI Ev AS)))))
def zpy(Ν):aF:=(aD (aR 1 (Gq (Abm T4 Ap)))
 (zlr K c))
def z3w(Ν):aF:=(aW (cB ud AnG A_U))
def z24(Ν):aF:=(wo Mh (RH ADa AOD) (RH uj AIW))
def z8q(Ν):aF:=(wo Mh AnG (RH uj AOD))
def zx0(Ν):aF:=(wo TF uj (Ll V6 Ev (Ll Kh AOD ADa)))
def zts(Ν):aF:=(aD (WP 3 ZJ (Ll Kh CA ADa) (Ll Kh AIW uj))
 (zx0 K c))
def zma(Ν):aF:=(cO (AHp cT Hs AS (zo Ev))
 (aW (ϑ Z4 CA Ev AS))
 bA)
def znf(Ν):aF:=(aW (zh (OV Abv (cU gM YA))))
def zns(Ν):aF:=(aD (dR (O8 (GS Abv (Yx Abv AXr qN))) (AaF 2 3)
 (zma K c))
 (znf K c))
def zhx(Ν):aF:=(aD (cO (Amh (zo (zo Abv)) AS)
 (aW (zh (zo Abv)))
 bA)
 (zns K c))
def zsp(Ν):aF:=(qG 1 vG (GS Ev CA))
def zwu(Ν):aF:=(aD (aR 3 (fW (ACg (AaY [2] AS (Amh AS Ap)))))
 (zsp K c))
def z0r(Ν):aF:=AZH
def zzw(Ν):aF:=(aD (vq Ap (IZ 2)
 (zwu K c))
 (z0r K c))
def zy1(Ν):aF:=(aD (cQ 1 (fG ak))
 (zzw K c))
def zjn(Ν):aF:=(wA (YK (cY 1 [2] (iL (dO (qF AS qN (pB (cU gM YA))))) lI dH Bbb)))
def zfj(Ν):aF:=(aD (aR 2 (wP TV))
 (zjn K c))
def yce(Ν):aF:=(wo V6 (wP TJ) (AIr ve))
def zit(Ν):aF:=(aW (sW (cT (AZ4 BL')) (bi 2) YA))
def z3y(Ν):aF:=(wo Kh uj ADa)
def zhv(Ν):aF:=(cO (Amh (AZY TX) (sD TX Ev))
 (aR 1 Ev)
 bA)
def zt8(Ν):aF:=(aD (aR 3 (dO (qF Ap (pB CA) (pB (JJ cR CA 2)))))
 (zhv K c))
def zxe(Ν):aF:=AZH
def zoe(Ν):aF:=(aD (Jl (GS YA BPZ) (IZ 2)
 (zt8 K c))
 (zxe K c))
def ztg(Ν):aF:=(aD (aR 1 (dO (qF Ap qN (pB (cC (GM 2))))))
 (zoe K c))
def yaz(Ν):aF:=(aW (wP ZW))
def z6l(Ν):aF:=(aD (cO (jB (cT (JJ mC ve 2)) (AHp cT Hs AS (wP TX)))
 (A9o d5 "two marks lie farther apart than the gap")
 bA)
 (yaz K c))
def zxt(Ν):aF:=(dk (qF Ap (pB (WH BPZ 2)) (pB (AJ' (WH ve 2)))))
def z4f(Ν):aF:=(aW (sD TQ (Ll ZX (AZY TV) (sW (cT (cB uU CA ϡ)) (cC Bm5) CA))))
def z6a(Ν):aF:=(aD (cO (cT (AZ4 BMA))
 (aW (sD TQ (sD ZV (AZY TV))))
 bA)
 (z4f K c))
def z5d(Ν):aF:=(aD (cO (cT (AZ4 BL_))
 (aW (AZY TQ))
 bA)
 (z6a K c))
def zuj(Ν):aF:=(aD (cO (cT (cB ud (ACg AS) (wP Z0)))
 (A9o d_ "the rule needs more marks than these")
 bA)
 (z5d K c))
def zsu(Ν):aF:=(aW Ev)
def zr9(Ν):aF:=(aD (J9 Μ K d_ d5 (aR 3 (cP (GS A0H (BAK T7))))
 (BP_ AiN)
 (BP_ A0H))
 (zsu K c))
def zob(Ν):aF:=(aD (aR 3 (AMv AiN ϡ))
 (zr9 K c))
def zz2(Ν):aF:=(Aoj 2 (ϑ Z5 Ap (jK 2 (cU gM YA)) Ev))
def z43(Ν):aF:=(aW CA)
def z4z(Ν):aF:=(aD (vq AS (IZ 3)
 (zz2 K c))
 (z43 K c))
def z3v(Ν):aF:=(aD (cQ 2 (Ñ fG (ė (gf á))))
 (z4z K c))
def zfk(Ν):pY:=(JW 1 [] (iL AS) lI dH (AJ6 Ap))
def zjt(Ν):aF:=(aW (ACg (AaY [0] AS (ANw (Ll Hs Ap AS)))))
def yb6(Ν):aF:=(dk (l7 z6v (dO (iR (ė (gf á)) (A'o (Alo [0]) Z6)))))
def zgj(Ν):aF:=(dk (qF (dO (l7 yfd Ev)) AXr qN))
def zmm(Ν):aF:=(aD (WP 3 TY CA (dO (l7 yfd AS)))
 (zgj K c))
def zid(Ν):aF:=(aD (aR 2 (dO (cY 1 [0] (Ñ zm3 Ap) lI dH BUx)))
 (zmm K c))
def zi1(Ν):aF:=(Aoj 2 (fe yae (AaY [0,4] WE (cT (cB Am8 BUx CA)))))
def zkg(Ν):aF:=(aD (aR 5 (Jz (Yz (Alo [2,3] (AHp cT V9 (cB gq Ap Aye) CA) Ap))))
 (zi1 K c))
def zky(Ν):aF:=(dk (qF CA AXr qN))
def zmj(Ν):aF:=(aD (dR (O8 (GS AS (Ll Z8 Ap AS))) (AaF 3 4)
 (zkg K c))
 (zky K c))
def zha(Ν):aF:=(aD (cQ 2 (Ñ fG á))
 (zmj K c))
def z96(Ν):aF:=(wo Z9 CA AS)
def z81(Ν):aF:=(aD (cO (cT (cB A4e ve (OV Ev (cU gM YA))))
 (zzy NL aT (Wa c) (gf Ev))
 bA)
 (z96 K c))
def ya8(Ν):aF:=(aD (WP 3 TY CA AS)
 (z81 K c))
def z7g(Ν):aF:=(aD (aR 2 (wP Z7))
 (ya8 K c))
def zj8(Ν):aF:=(cO (jB (cT (cB jH Ev ϡ)) (Amh AS Ev))
 (aW CA)
 bA)
def zlf(Ν):aF:=(aW ve)
def zg9(Ν):aF:=(aD (dR BPe (AaF 2 3)
 (zj8 K c))
 (zlf K c))
def zvu(Ν):aF:=(Zk 5 6 8)
def zq5(Ν):aF:=(Sw 9 Th (Ñ (BaY Ev) i3))
def zqf(Ν):aF:=(aD (cO (ANw AYE)
 (AXx (tJ "open") (AMv Th i3))
 bA)
 (zq5 K c))
def zt9(Ν):aF:=(aD (jG (ϑ zd1 AS (cB vI WE Th) CA) (fK 2 (AIJ 10 8)))
 (zqf K c))
def zmg(Ν):aF:=(AXx (tJ Adz) (AMv (dO (cY 1 [9,15] (iL (dO (l7 VB þ))) lI dH (A8m A5f (Ll Wf CA A5f)))) (cV 15)))
def zyc(Ν):aF:=(aD (aR 15 (aA (BP (Wd c)) (GS AW9 (cV 12))))
 (zmg K c))
def zoj(Ν):aF:=(aD (cO (cT (cB uU (cV 12) ϡ))
 (AXx (tJ BGq) (cV 13))
 bA)
 (zyc K c))
def zyb(Ν):aF:=(aD (Ka K NL 14 (WP 12 Wb AW9 Id)
 (aR 13 (PL NL aT 14)))
 (zoj K c))
def zxb(Ν):aF:=(aD (aR 13 ϡ)
 (zyb K c))
def zwn(Ν):aF:=(aD (aR 12 ϡ)
 (zxb K c))
def zxi(Ν):aF:=(aD (Es 9 (aR 11 (dO (cY 1 [9] (ybl þ) lI dH A5f))))
 (zwn K c))
def zxr(Ν):aF:=(aD (Es 5 (vq (dO (l7 VB WE)) (IZ 6)
 (zt9 K c)))
 (zxi K c))
def zyh(Ν):aF:=(aD (BL 9 RM)
 (zxr K c))
def zyo(Ν):aF:=(aD (vq (wP zfd) (fK 3 (aY (IZ 6) (AIJ 7 8)))
 (zvu K c))
 (zyh K c))
def zte(Ν):aF:=(aD (BL 5 RM)
 (zyo K c))
def zyd(Ν):aF:=(aW (d9 (Ll Hs ADa AOD) (AHp gC Hs AIW uj)))
def zpt(Ν):aF:=(aW (d9 (JJ rC ve 1) (fe yjo (A'o (BBV [] (dO (qF Ap AXr qN))) Z1))))
def ze0(Ν):cD:=(fe vC AS)
def zf5(Ν):aF:=(cO (ANw (AZY Z2))
 Ba
 bA)
def zfn(Ν):aF:=(aW (Pu (AH9 ASk) AS A4I))
def zh2(Ν):aF:=(J9 Μ K d5 d_ (aW (BaY (AH9 ABP) (gf (ϑ T7 (AH9 ad) Ev (AH9 ae)))))
 (Bhx A0H)
 (Bhx AiN))
def zet(Ν):aF:=(aD (aR 3 (Ahf (cY 2 [0] (yab CA) Ah_) Kh (AIr AS) (Ñ (AVL xF T8 CA) Ap)))
 (zh2 K c))
def zhh(Ν):aF:=(J3 Hk 0 LM 6 (zzz Hk AGZ (zbq c) Ap (GS Th (cB vI BMT Th))))
def zh6(Ν):aF:=(Az Hk 0 Ad1 (rM (Wd c) (GS oQ (Ll Wb oQ WE))))
def zil(Ν):aF:=(aD (aR 7 (dO (Ew (Er Al_))))
 (zh6 K c))
def zia(Ν):aF:=(aD (vq (dO (Ew (l7 VB BMT))) (IZ 6)
 (zhh K c))
 (zil K c))
def zir(Ν):aF:=(aD (Az Hk 0 LM RM)
 (zia K c))
def zi2(Ν):aF:=(aD (Az Hk 0 OB (yap (Abm T3 AS)))
 (zir K c))
def zhm(Ν):aF:=(aD (Ca Hk 0 ASk (Gq (Abm T4 AS)))
 (zi2 K c))
def zh3(Ν):aF:=(aD (Ca Hk 0 ABP (Bn3 (dO (AJ6 (ou js ac Id)))))
 (zhm K c))
def zib(Ν):aF:=(aD (Ca Hk 0 ae Ev)
 (zh3 K c))
def zcz(Ν):aF:=(aD (Ca Hk 0 ad CA)
 (zib K c))
def zu9(Ν):aF:=(Et 5)
def zvz(Ν):aF:=(aD (Kc K P5 NL 7 (aD (Pn 6 (JT Hk (Ql c) (aj Ap (aj AS (aj CA (GS Ev Id))))))
 (Bew Adz (nV 6)))
 (aR 5 (cP (GS (tJ "open") (AMv (EY P5 Md 7) (EY P5 Ĩ 7)))))
 (Bew BGq (nXT NL aT 7)))
 (zu9 K c))
def zqj(Ν):aF:=(aD (aR 5 ϡ)
 (zvz K c))
def zec(Ν):aF:=(cO (cT (cB (Nk Μ) AS Al_))
 (A9o ABL "no such work is in the sitting")
 bA)
def zn0(Ν):aF:=(aW (cB vI Al_ AS))
def zhw(Ν):aF:=(aD (BBv ABQ zbh)
 (zn0 K c))
def zhf(Ν):aF:=(wo Wf BMU (Ait K2 Qk AS))
def zhe(Ν):aF:=(wA (YK (cY 1 [0] (iL (dO (l7 VB Al_))) lI dH (A8m (Ñ (AVL K2 Qk AS) Ap) (Ñ (AVL W_ T9 AS) Ap)))))
def zq1(Ν):aF:=(cO (cT (Ahk A4e))
 AZH
 bA)
def zsy(Ν):aF:=(aW (cC (Afr "nobody")))
def zol(Ν):aF:=(aD (dR (ynr (cC (Afr BHB))) (IZ 1)
 (zq1 K c))
 (zsy K c))
def zfo(Ν):aF:=(wA (YK (AJ6 BMU)))
def zon(Ν):aF:=(aW (JJ mC CA 2))
def zor(Ν):aF:=(aD (J8 Μ K ABL (BBv W_ T9)
 (aR 2 (AJ' CA)))
 (zon K c))
def zoy(Ν):aF:=(aD (J8 Μ K ABL (BBv K2 Qk)
 (aR 2 (AJ' CA)))
 (zor K c))
def zjp(Ν):aF:=(aD (aR 2 á)
 (zoy K c))
def zm1(Ν):aF:=(cO (sV (AKJ (Ait K2 Qk Id) WE) (sV (AKJ oQ Th) (cT (jJ ASl oQ))))
 Ang
 bA)
def zru(Ν):aF:=(aD (aR 7 (Ait W_ T9 Id))
 (zm1 K c))
def zr2(Ν):aF:=(cO (cT (cB pU (BVN i3) (cB vI AS i3)))
 Ang
 bA)
def zsi(Ν):aF:=(aW (Afq d9 (cB mC (BVN þ) A4I) zco Ap Id))
def zsz(Ν):aF:=(aD (aR 4 (sD Wk (Amd [] A2H ADa)))
 (zsi K c))
def zsf(Ν):aF:=(aD (aR 9 (sD Wk (dO (l7 z1r AS))))
 (zsz K c))
def zsv(Ν):aF:=(aD (dR (ybl AS) (IZ 8)
 (zr2 K c))
 (zsf K c))
def zsx(Ν):aF:=(aD (vq A2H (fK 3 (aY (IZ 4) (AIJ 5 6)))
 (zru K c))
 (zsv K c))
def zjv(Ν):aF:=(aD (cO (sV (ANw (jJ L7 Ev)) (sV (AKJ Ev A2H) (AKJ (Eo Hk j_ (BP (zbw c)) Ap) A1q)))
 Ang
 bA)
 (zsx K c))
def zn9(Ν):aF:=(aD (aR 3 (Eo Hk SB (BP (Wi c)) Ap))
 (zjv K c))
def ycg(Ν):aF:=(aW (Bb (d9 (Baf (zh þ)) (Baf (zh AYE)))))
def ya4(Ν):aF:=(aD (aR 11 (Gq (Abm T4 AS)))
 (ycg K c))
def z6u(Ν):aF:=(aD (PN (Ke (JV Hk SB (Wi c) (zh AYE))))
 (ya4 K c))
def z8y(Ν):aF:=(aD (wK 10 (Eu (Wj c) (aj AS (aj CA (aj Ev (GS A8_ WE))))))
 (z6u K c))
def z6m(Ν):aF:=(aD (qG 8 rF (Aqv á á))
 (z8y K c))
def z76(Ν):aF:=(aD (qG 7 z1i ak)
 (z6m K c))
def yet(Ν):aF:=(aD (cO (cT (cB pU (zo Th) (tJ Adz)))
 (aW (Bb (cB mC þ Th)))
 bA)
 (z76 K c))
def ydq(Ν):aF:=(aD (cO (dG (sV (AKJ (Bb (zo þ)) (zo Th)) (sV (AKJ oQ AS) (AKJ i3 WE))))
 Ang
 bA)
 (yet K c))
def z11(Ν):aF:=(aD (wK 9 (Kf (Eu (Wj c) (aj oQ (aj CA (aj Ev (GS A8_ i3)))))))
 (ydq K c))
def yew(Ν):aF:=(aD (cQ 8 (AJ6 WE))
 (z11 K c))
def ydk(Ν):aF:=(aD (cQ 7 (AJ6 AS))
 (yew K c))
def yd5(Ν):aF:=(aD (aR 6 (aA (zf1 c) (aj AS (aj CA (aj Ev (GS A8_ WE))))))
 (ydk K c))
def yed(Ν):aF:=(aD (aR 5 (wP zdj))
 (yd5 K c))
def yek(Ν):aF:=(aD (aR 4 (wP zbo))
 (yed K c))
def yfy(Ν):aF:=(aD (jG (wP zex) (fK 2 (AIJ 2 3)))
 (yek K c))
def z7b(Ν):aF:=(aD (aR 1 (ϑ zfb Ap (AQg (Q_ (Ll zc Ap á) 4)) (Q_ (Ll zc Ap YA) 9)))
 (yfy K c))
abbrev Cr(Q:APk):rB:=BBR (Mz Q)
theorem ycl(BV V5):GI:=Iy
theorem z42(BV Mh):GI:=Iy
theorem ynm(BV TF):GI:=Iy
theorem ylm(BV Kh):GI:=Iy
theorem yim(BV ZJ):GI:=Iy
theorem yoh(BV V6):GI:=Iy
theorem ykm(BV Hs):GI:=Iy
theorem wR{j:AB}(h:AuT<2^64):A2T:=zO (lU h) Φ
abbrev EC(Q:AEp):rB:=BAQ
theorem z89(CB V5):v_ ztt:=by
 show AZw i j;refine CU (fun m Γ=>∃a b r,Γ= [ES a,AJj,r]/\m=AUD/\Ba3) ⟨_,i,j,B8,Β,Β,Β⟩;rintro m _ ⟨a,b,r,Β,Β,hg⟩;refine Ϲ;by_cases hb:b=0
 ·subst hb;have:PR (! jy AIC AIC):=AEv
  rw[Τ];refine(?_:AXT Bd7);have e:Bd7=AYk:=by
   rw[<- hg,Bp8];show Ö
  show Zp e
 ·have:AEn (jy (GM b) AIC):=c8 jy hb
  rw[Τ];exact⟨hb,_,zft hb,b,Afa b,ES (Afa b),Β,Β,IC z1z hg⟩
theorem zys{i j:AB}(hj:AOl):dv i j≠0/\∀n,gy<=n ->Î<=n ->dD (dv i j)<=n:=by
 refine⟨Zn hj,fun n h1 h2=>zO (MJ ?_) h2⟩;show VX k (ybm i j);have h:=AAQ AvF;rw[Ľ] at h;rw[h];have:k≠0:=Au (hj (by rw[e,z,Bp9]))
 exact BM4
theorem z4g(CB Mh):v_ zq9:=by
 show AFi i j b1 b2;refine Ϲ;by_cases hj:j=0
 ·subst hj;have:jy AIC AIC=Μ:=AEv
  rw[Τ];exact AG0
 ·have:jy (GM j) AIC=AE:=c8 jy hj
  rw[Τ];rw[Cc hj,<- yne hj] at h;refine KW i j ?_;show FX d0 d1 (ϲ zys) hj;refine(?_:wx (j<0));by_cases hn:j<0
  ·show DU (DT hn)
   show Ar8 (-AYk) (by unfold dv;show DU hn)
  ·show A7 (DT hn)
   show Ar8 AYk (AY9 dv hn)
theorem at0{x y:D}:o9 [x,y] 0=Ε x:=md
theorem at1{x y:D}:o9 [x,y] 1=Ε y:=Č
theorem vK(BWj):Ej i j:= AmZ
theorem yG(BWj):dD (i*j)<=8000:=NE (G9 i j)
theorem ab1(BWk):S_ (dD (i+j)):=NE (zi4 i j)
theorem ab2(BWk):S_ (dD (i - j)):=NE (znm i j)
theorem Wm{i:AB}(h1:gy<=8000):Ak8:=Υ
theorem yow(CB TF):Of ybp:=by
 show AX_ b Β a1 a2 b1 b2 h h;refine⟨_,at0,_,at1,AnM,_,at0,_,at1,A_y,_,at1,_,at1,A4x,_,_,Β,ab1 (yG a1 b2) (yG b1 a2),An1 b2,?_⟩;rw[A's,<- yhg];exact h
theorem yif(CB Kh):Of z4c:=by
 show AX_ b Β a1 a2 b1 b2 h h;refine⟨_,at0,_,at1,AnM,_,at0,_,at1,A_y,_,at1,_,at1,A4x,_,_,Β,ab2 (yG a1 b2) (yG b1 a2),An1 b2,?_⟩;rw[A's,<- ygx];exact h
theorem yk3(CB ZJ):Of z24:=by
 show AX_ b Β a1 a2 b1 b2 h h;refine⟨_,at0,_,at0,vK a1 b1,_,at1,_,at1,A4x,_,_,Β,Wm (yG a1 b1),An1 b2,?_⟩;rw[A's,<- yhp];exact h
theorem ymd(CB V6):Of z8q:=by
 show AX_ b Β a1 a2 b1 b2 h h;refine⟨_,at0,_,at1,AnM,_,at1,_,at0,vK a2 b1,_,_,Β,Wm (yG a1 b2),An1 b1,?_⟩;by_cases hb:b=0
 ·show ϣ hb;show DU (gc hb Bp9 _);exact h
 ·show oz hb;rw[UA (BKD BoL (Au (hb (Ci.mp z)))),<- ygq a b hb];exact h
theorem ykp(CB Hs):Of z3w:=by
 show AX_ b Β a1 a2 b1 b2 h h;refine⟨_,at0,_,at1,AnM,_,at0,_,at1,A_y,?_⟩;rw[yjb] at h;exact h
theorem z6y(o5)(AQm):nu VC (qD a) (qD b):=by
 show AGM
 match i with
 | 0=>show BcL
 | 1=>show BcL
 | i+2=>simp at h1
theorem vU:Ũ (MC 1000):=B'
theorem Cu{i m:AB}(hm:0<m):0<=AeY m/\AeY m<m:=CL BM5 ⟨BJ' _ Θ,Int.emod_lt_of_pos _ hm⟩
theorem Qm(AKS):jy AEm (GM j)=O0 (i=j):=by
 simp only [jy];by_cases h:i=j<;>simp [h]
theorem Qn{i:AB}{n:Δ}(h:0<n):∃k:Δ,AeY Lw=F9/\k<n:=by
 have:=hV i Lw Θ
 exact⟨(AeY Lw).eQ,Υ,Υ⟩
theorem z47(BV zc):GI:=Iy
theorem ypc(BV z4a):L4:=We
theorem z45(CB zc):v_ zp3:=by
 show AFi ns k hl hk;refine(?_:wx (F9< A'2));show A1U;by_cases A_:A2P
 ·show DU (DT A_)
  refine CU (.AU ns[k]) (pO (LG A_))
  show D' fY;rw[AT5 A_] at h;exact h
 ·show A7 (DT A_)
  show D' fY;rw[dif_neg A_] at h;have bk:dD F9<=10:=lU (by simp only [Bp_];show AF)
  show Tm (C5 ARX) (wx (TH< A'2));show Pf;have fin2:∀m:AB,m.natAbs<2^40 ->Bbd ->Ej m m/\ fg 2147483629/\Bbd:=fun m hm hq=>
   ⟨Abp lU hm,B',hq⟩
  by_cases he:ns= []
  ·subst he;show A7 A1
   rw[ET] at h;exact fin2 _ Θ h
  ·have hp:0<IO:=(by cases ns with | D8=>show AFL he | AY _ _=>exact BHG _)
   show DU (DT hp)
   show oz he;refine CU ARX (show fg (D_ x5 HA) by show Pf;show AF)
   have hm:(F9*7).SA A'2=FA AoA:=by
    show APV BM5 Int.natCast_emod Ad8
    rfl
   dsimp only [aD,bA,cC,cV,cB,cT,jB,sV,iC,d9,jY,gC,sW,ak,aj,cP,fG,dO,fL,aW,gY,cO,aR,cQ,L',fJ,aY,fK,jG,jZ,aA,cU,je,gM,cR,gq,cW,dN,cj,j4,ud,vA,rC,xZ,uU,jH,mC,pU,cM,wI,sX,uf,mV,yc,yd,cX,lV,gZ,jJ,lW,LT,Mo,My,NN,LW,fV,kY,rE,vC,qN,pB,qF,lX,fW,dG,jK,qG,rF,vG,iR,rH,dw,dY,um,yh,uh,lY,lZ,iL,dR,gH,kZ,dH,MA,NM,KP,MB];rw[hm];have hlt2:AoA<IO:=BJc _ hp;show ADx (CU (.AU (kg (AoA) 0)) (pO (by simp [FS,QQ,hlt2]))) ⟨ARX,ARX,B',?_⟩ (fin2 _ ?_ h);have h1:=zft (a:=kg (AoA) 0*48271+ F9*7919) (b:=2147483647) Φ
   exact AuC h1 Φ
theorem yjg(BV TJ):L4:=We
theorem yl4(BV TQ):L4:=We
theorem yjq(CB TJ):v_ z2t:=by
 show A'9 s1 s2;refine AmR (AgA 2) (∃x,Γ= [NB (ALB qD),Ê (gJ (Asg i)),x]) E7
 ·rintro i x _ hi ⟨y,Β⟩;rw[FS] at hi;cases q:qs[i]? with
  | Η=>show BGY
  | Ε a=>
   rw[q] at hi;show Aw3;refine⟨_,_,Β,s2 i,s1 a (yX q),Ê a,?_⟩;rw[Ae',q,z05];simp only [Option.toList_some,gJ,AGS]
   rfl
 ·show Ajb y;have h' :=h;show ŧ yY;exact h'
theorem yob(CB TQ):AJp yce:=by
 obtain⟨qs,Β,hl,s1,s2,h⟩:=h;refine⟨qs,Β,s1,s2,?_⟩;have e:ACJ BbB=qD BLN:=BLK Qd
 refine⟨AgA 2,gJ qs,BLN,by show B1 ([_,ACJ BbB]=_);rw[e],?_,BZM ?_,?_⟩
 ·have:=s2 IR;show BLg
 ·exact zL (JY (g9 APa<=1000)) Φ
 ·by_cases hq:qs= []
  ·subst hq;rw[ET] at h;show DU A1;exact h
  ·show oz hq;rw[UA]
   ·exact h
   ·intro z;have z' :APa=0:=ý z
    exact hq (AGT Θ)
theorem zrn(BeG):FG (IE f) (f i):=DL h
theorem Mi(BeG):ϫ IE f MU (f i):=pO (zrn h)
theorem z83(o5)(f g:ŵ):Bk4:=by
 unfold nG;show oC
 ·simp
 ·show AFr;simp
theorem yh2{n:Δ}(f:ŵ):Ly 0 (IE f)=IE (FK (.Dx [.AU (MC i),f i])):=by
 apply BsR;intro i;rw[zwd];by_cases h:i<n
 ·rw[zrn h,zrn h];simp
 ·simp [h]
theorem zye(BcG):l_ is DA P c0 (∀i∈is,ARj (P [g i]) i) (P (ABz g)) (AWV ABz)
 | [],_,_,h=>h
 | i::is,P,k,h=>k i zY _ (zye BZE h)
theorem zmd(BcG){n:Δ}{P:c0}(k:AFR (ARj (P [g i]) i))(h:P (IE g)):AWV IE:=
 zye (U' hi (k i (XX hi))) h
theorem znk{m:Δ}{f g:Ą}(h:Y' m (f j=g j)):iV m f=iV m g:=by
 unfold iV
 congr 1
 exact qq (BS9 h)
theorem z4k{n m:Δ}{a b:Mx}(h:∀i j,i<n ->j<m ->a i j=b i j):Aol=qY n m b:=by
 unfold qY
 congr 1
 exact qq (Rl (znk fun j hj=>h i j (XX hi) hj))
theorem z1m(BV ZL):L4:=Iy
theorem z0y(BV ZQ):v6:=w8
theorem yo5(BV ZR):GI:=ApQ
theorem z88(BV ZM):AHP 4:=w8
theorem z7r(BV ZP):v6:=w8
theorem yep(BV ZS):GI:=by obtain⟨_,_,⟨Β,_⟩,_⟩:=h;rfl
theorem z9j(CB ZM):i9 ztf:=by
 obtain⟨m,k,f,g,p,Β,hk,p0,bp,bf,bg,h⟩:=h;refine(?_:ù (nG (AJm (AQD (f j))) (AJm (AQD (g j)))));rw[z83];refine zmd (g:=AQD ((BZO).Ġ p)) BWU h;have b1:=bg k;have b2:=bf j;have b3:=bf k;have b4:=bg j;exact⟨Β,Β,.AU (g k),Mi hk,AmZ,.AU (f k),Mi hk,AmZ,⟨p0,bp⟩,hP⟩
theorem z7e(CB ZP):i9 zs8:=by
 obtain⟨a,n,m,k,p,Β,hk,hkm,p0,bp,ba,h⟩:=h;refine CU (iV m (a k)) (Mi hk);show AJl (ù (Ly 0 (IE Ah'))) yh2 (zmd (g:=FK (iV m BQh)) BWV h);refine KW Β Β ?_;rw[Qm];by_cases e:i=k
 ·subst e;show AYI Β;have:iV m (Ht i p a i)=iV m (a i):=znk (FR j ET);rw[Τ] at hP;exact hP
 ·rw[al Θ]
  have:iV m BQh=iV m (Fs Bkx):=znk (FR j (Cc e));rw[Τ] at hP;exact⟨m,k,a i,a k,p,Β,hkm,p0,bp,Fs (ba i j hi),Fs (ba k j hk),hP⟩
theorem yi6(o5)(f:ŵ){k s:Δ}(hk:k<n)(hs:s<n):((IE f).set k (f s)).set s (f k)=IE (FK (f (uD k s i))):=by
 show oC
 ·simp
 ·show AFr;simp only [List.getElem_set,AT9,Bso];unfold uD;by_cases e1:s=i
  ·subst e1;by_cases e2:k=s
   ·subst e2;simp
   ·rw[ET,vx,ET]
  ·show A7 e1;by_cases e2:k=i
   ·subst e2;rw[ET,ET]
   ·rw[Cc e2,vx,vx]
theorem z8j{n k:Δ}(h:k<n):yq n F9=Ε k:=by
 unfold yq;rw[DZ Θ,ϳ];simp
theorem z1c(CB ZQ):i9 zn8:=by
 obtain⟨a,n,m,k,s,Β,hk,hs,h⟩:=h;refine⟨iV m (a s),Mi hs,E7,k,z8j (LG hk),iV m (a k),Mi hk,E7,s,z8j (LG hs),?_⟩
 have e:=yi6 (sx (iV m (a i))) hk hs;show Zp e
theorem ypo(CB ZR):v_ yg0:=by
 obtain⟨a,n,m,k,Β,hn,hk,hm,h1,h2⟩:=h;have el:D_ IE Ah'=n:=DB
 show(Az7<=F9/\ F9<2^62/\ Az7<=A6f/\ A6f<2^62)/\Jk F9 (A6f - F9).eQ _ _ _ _ _;rw[el,JY ((Lw - F9).eQ=n - k)]
 refine AmR ⟨Υ,Υ,Υ,Υ⟩ (∃y:ER,Γ= [.pu (qY n m a),AYp,y]/\BZm (s<k+i)) (OS (fun s hs hs' =>Υ))
 ·rintro i _ hi ⟨y,Β,hz⟩;show FY e0 (F9+ MU=FA (k+i)) Υ A_ (k+i<n) Υ ⟨iV m (a (k+i)),?_,.AU (a (k+i) k),Mi hm,Β,?_⟩
  ·rw[e0];exact Mi A_
  rw[Qm];by_cases ez:a (k+i) k=0
  ·show AYI ez;refine OS (As s hs hs');by_cases es:s=k+i
   ·rw[es];exact ez
   ·exact hz s hs Θ
  ·show Az8 ez;refine⟨a,n,m,k,k+i,?_,hk,A_,h1 _ Θ A_ ez⟩
   rw[e0]
 ·rintro _ ⟨y,Β,hz⟩;exact(h2 fun s hs hs' =>hz s hs Θ).UC
theorem ykn(AKP):OR ACI=q* OR AUG/\ A7X:=by
 have hd:A7X:=by
  have:=q.den_pos
  exact_mod_cast (JY (fg AUG))
 have e:AVb ACI AJY=q:=by
  have:=BLQ;show D5 BKE;exact Τ
 refine AJV hd;rw[M0] at e;have:=AAQ (· * ((q.den:Int):Rat));simp only [ye,AJZ hd,AMK] at Τ;exact Τ
theorem ycw{μ d:AB}(hμ:0<μ)(hd:0<d):fg Afw/\0<ArN/\μ∣ArN/\d∣ArN/\ (As1 Ø).ACH<=BGg/\ g9 Ø<=BGg:=by
 have g0:Afw≠0:=Au (NE BN1)
 have gd:Ø∣d:=Bph;have gm:Ø∣μ:=Bpg;have e:=VL gd;obtain⟨u,eu⟩:=gm;have gp:TH< Ø:=Υ
 generalize Ø=g at*;generalize As1 g=t at*;have tp:0<t:=by
  rcases A3l t with h | h
  ·exact h
  ·show AAP (BLE (Υ:0<=g))
 refine⟨Υ,Int.mul_pos hμ tp,nI,C5 u,?_,?_⟩
 ·rw[eu,<- e];ac_rfl
 ·rw[<- e,Ľ];exact BqA _ Θ
 ·rw[<- e,Ľ];exact BM4
theorem GC{d:AB}(h:d∣27720):dD d<=15:=zO (BUY (Nat.le_of_dvd Φ (Int.natAbs_dvd_natAbs.mpr h))) (lU Φ)
theorem lcm_dvd{μ d n:AB}(hμ:0<μ)(hd:0<d)(h1:μ∣n)(h2:d∣n):ArN∣n:=by
 have g0:fg Afw:=Au (NE (BLM (Υ:bS μ d=0)))
 have e:=VL (BKB μ d);have e2:Ø* (μ*As1 Ø)=Ø* C9 (Int.lcm μ d):=by
  rw[<- Ad8,Int.gcd_mul_lcm,Int.mul_left_comm,e,Ad8,BLI,BLI]
 rw[Int.eq_of_mul_eq_mul_left g0 e2];have:=Int.lcm_dvd (c:=n.natAbs) (BqB h1) (BqB h2);exact Int.ofNat_dvd_left.mpr Τ
theorem z0a(CB ZL):v_ zn4:=by
 show AFi m f hm hz;refine WV (∃(μ:AB) (y:ER),Γ= [.pu (qO m f),ES μ,y]/\0<μ/\μ∣27720/\∀j,j<i ->j<m ->AJK∣μ) ⟨1,_,Β,B',AHg 27720,iE Υ⟩
 ·rintro i d _ hi ⟨μ,y,Β,hμ,bμ,hd⟩;have him:i<m:=ð o6 Τ
  rw[zrn him] at hi;show Aw3;have dp:TH< (f i).den:=NE (f i).den_pos
  obtain⟨g0,p1,p2,p3,p4,p5⟩:=ycw hμ dp;have zi:=GC BYu;have b4:=zO (MJ p4) zi;have b5:=zO (MJ p5) zi;have bμ' :=GC bμ;refine⟨_,at1,_,at1,μ,(f i).den,Β,⟨g0,Υ⟩,AmZ,_,_,Β,p1,lcm_dvd hμ dp bμ BYu,As j hj hjm⟩
  by_cases e:j=i
  ·show ü p3
  ·exact Int.dvd_trans (hd j Θ hjm) p2
 ·rintro _ ⟨μ,y,Β,hμ,bμ,hd⟩;have el:D_ AJm BR9=m:=DB
  rw[el] at hd;have bμ:=GC bμ
  let g:Ą:=Fs (X_ (j<m) BbO)
  show FY gv (Y' m (g j=BbO)) (iE (by show(AOO (j<m))=_;show DU hj)) bt (Y' m (dD (Ad_ AJK)<=dD μ)) (iE (by
   refine MJ ?_;have e:=P6 AvF (VL BX_);rw[Ľ] at e;rw[<- e];exact BqA _ (AWf BMJ))) (zmd (g:=AQD (g j)) BWU (h μ g hμ (TM j hj) AQC))
  ·have z:=hz j hj;have b:=bt j hj;refine⟨_,at0,_,at1,⟨NE BMJ,zO (GC z.2) Φ⟩,ANj (AWf z.1),?_⟩
   show BQ (P [.AU (AyF*Ad_ AJK)]);rw[<- gv j hj];exact hP
  ·rw[gv j hj];have e:=VL BX_;obtain⟨n1,n2⟩:=ykn (f j);have e' :BB μ=AJK* C9 (Ad_ AJK):=ý kq
   rw[PQ,n1,e']
   grind
  ·by_cases hj:j<m
   ·rw[gv j hj];have:=G9 AyF (Ad_ AJK);have:=bt j hj;have:=(hz j hj).1;show AF
   ·show BQ (dD (X_ (j<m) _)<=_);show A7 hj;exact ALk _
theorem zy6(AFg) [Ac1 α]{DV:ADn}{f:ŵ}(F:ACR α D)(Good:AU_ α):∀{n s:Δ} {P:c0},(BUU (ARj BYr i)) ->(∀as:ME α,(BUU BZ4) ->P (A7l s BCl)) ->AWV (A7l s)
 | 0,s,P,_,h=>h (De bP) (A_5 Υ)
 | n+1,s,P,k,h=>by
  rw[BqC];refine k s Θ Θ _ (Cb a ha)
  refine BZX (fun i h1 h2=>k i Θ Θ)
  have:=h (sx (vE s a (as i))) (A_5 (by
   by_cases e:i=s
   ·subst e;simpa using ha
   ·simp only [Cc e];exact has i Θ Θ))
  rw[BqC,GL,ET] at Τ;have e:(List.range' (s+1) n).map (sx (F i (CD (i=s) a (as i))))=A7l (s+1) BCl:=qq (Rl (by
   have:=List.mem_range'_1.mp hi;show A7 Θ))
  show D5 e;exact Τ
theorem z5z(AFg) [Ac1 α]{DV:ADn}{f:ŵ}(F:ACR α D)(Good:AU_ α){n:Δ}{P:c0}(k:AFR (ARj BYr i))(h:∀as:ME α,(AFR BZ4) ->P (IE BCl)):AWV IE:=by
 rw[BqD];refine BZX (fun i _ h2=>k i Θ)
 rw[<- BqD];exact h as (Rl (has i Θ Θ))
theorem ynd(ArT):BcA:=by
 have e:BV9:=by
  show BL5;unfold yq;rw[Cc Φ,ϳ]
  congr 1;show AF
 unfold o9;rw[e];exact zrn Θ
theorem Wn{z:AB}{e k:Δ}(h:z.natAbs<=(16*2^e)^k):dD z<=(e+4)*k+1:=by
 refine lU (zL h ?_);rw[show MC 16*2^e=2^ (e+4) by rw[Nat.pow_add,Bpx],<- Nat.pow_mul]
 exact Nat.pow_lt_pow_right Φ Θ
theorem zt0{f g:dS}(t:AL):NA m Δ (Y' m (f j=t*g j)) (eF m f=t*eF m g)
 | 0,_=>ϊ eF
 | m+1,h=>Al9 eF (zt0 t fun j hj=>h j Θ) (h m Θ)
theorem yeo(CB ZS):SY zyt 5:=by
 obtain⟨n,A,⟨Β,hn,hz⟩,hE,hP⟩:=h;have s1:=vU;refine(?_:ù (nG (IE (FK (qO n (A i)))) (IE (FK (qD (A i n))))));rw[z83];refine z5z (α:=Ą) (KS g (iV VC g)) (U' g ((BVA)/\∃μ:AB,0<μ/\Y' (n+1) (BB (g j)=BB μ*AQO))) BWV (TM as has)
 ·refine⟨Β,Β,AQ1,?_,n+1,A i,?_,Υ,iE (hz i j hi Θ),fun μ g h0 h1 h2=>hP g ⟨h2,μ,h0,h1⟩⟩
  ·show D7 (D_ IE (Fs (qD (A i j)))+1);simp only [C8,AMF];show AF
  ·unfold qO;show AJQ Ad';rfl
 change ŉ zrd [.pu (Kl n n A),BXY,.pu (qY n VC as),B8,B8]
 have ba:BDi as (2^143):=fun k hk j=>AGb (Ri ((has k hk).1 j));have hμ:∃μ:dS,AFR (μ i≠0/\Y' (n+1) (BB (as i j)=μ i*AQO)):=by
  refine So (FK (Aja (i<n) (C9 ((has i h).2).AfP) 1)) i hi;simp only [AT5 hi];have sp:=((has i hi).2).choose_spec;refine AJV (fun j hj=>sp.2 j hj);have:=sp.1;intro z;have:((has i hi).2).AfP=0:=ý z
  show AF
 obtain⟨μ,hμ⟩:=hμ;have el:D_ IE (AmW as)=n:=DB
 show(Az7<=ş IE (AmW as)/\_)/\Jk 0 (Ajd (ş IE (AmW as))) _ _ _ _ _;rw[el,qh];have mx:∀k,k<=13 ->(143+4)*k+1<=1912:=fun k hk=>Υ
 have h1:1<=16*2^143:=Nat.mul_pos Φ (Nat.pow_pos Φ)
 refine AaP (fun k Γ=>∃(d:AB) (tb:Mx) (rs:FB) (fs:AMq) (ix:Á) (y:ER),Γ= [.pu (Kl n n A),BXY,.pu (qY n VC tb),ES d,y]/\BT n as k d tb rs fs ix) ⟨1,as,_,_,_,_,Β,yd1 n as⟩
 ·rintro k _ hk ⟨d,tb,rs,fs,ix,y,Β,bt⟩;have e0:(0+ F9)=FA k:=Υ
  show FY bd (dD d<=1912) (zO (Wn (A'i ba Θ)) (mx k Θ)) be (BAV 1912) (BjX LY) ⟨tb,n,n+1,k,?_,Υ,hk,Υ,M' s hs hsn hne,II hall⟩
  ·rw[e0]
  ·obtain⟨rs',fs',Tv,bt'⟩:=bt.step hs hsn hne;show FY sk (uD k s k=s) (Aki uD) et (qY n VC (Ht k d (ZK k s tb))=qY n VC (AA' k s d tb)) (z4k fun i j _ _=>by
    unfold Ht ZK AA';rw[sk]) ⟨ZK k s tb,n,n+1,k,d,?_,hk,Υ,bt.nz,zO bd Φ,Ay6 (zO (be (uD k s i) j ?_) Φ),?_⟩
   ·rw[e0]
   ·unfold uD;split
    ·exact hsn
    ·show Ö
   ·rw[et];refine⟨iV VC (AA' k s d tb k),?_,.AU (AA' k s d tb k k),?_,tb s k,AA' k s d tb,rs',fs',Tv,ES (0+ F9),?_,bt'⟩
    ·rw[e0];exact Mi hk
    ·rw[e0];exact Mi Θ
    ·have:AA' k s d tb k k=tb s k:=Aki AA'
     rw[Τ];rfl
  ·show Ct x x1 hx bt.stuck hk hall;refine hE x k hk x1 Aaf;have q:=hx r hr;rw[Bh3 (Fs (A r j*x j)) (by
    show BB (as r j)*x j=_;rw[BBz j Θ];grind)] at q
   rcases AUL q with q | q
   ·show MT q BZV
   ·exact q
 ·rintro _ ⟨d,tb,rs,fs,ix,y,Β,bt⟩;have d0:AnA:=Au (Aly bt.nz)
  have bd:dD d<=1912:=zO (Wn (A'i ba Θ)) (mx n Θ)
  have be:BAV 1912:=BjX VC
  show FL bd' (dD d<=147*n+1) (Wn (A'i ba Θ)) be' (BAV (Km n)) (Ay6 (Wn (BpS j))) ex (AFR (fs i n=YN (tb i n) d)) (Rl (by
   rw[bt.t i hi n,M0,ASa,<- ye,AJZ d0,BHK])) hs (Slv n A (FK (fs i n))) (ZE (by
   have q:=bt.sol hr n;have q' :BB (as r n)=eF n (ACk (BB (as r c)*fs c n)):=q;rw[Bh3 (Fs (A r j*fs j n)) (AAe (BBz j Θ)),BBz n Θ] at q'
   have m0:=BZV;have:=P6 (FI ((μ r)⁻¹*z)) q';simp only [<- ye,AJZ m0,BHK] at Τ;exact Τ))
  show AJl (ù (Ly 0 (IE (AmW tb)))) yh2 (zmd (g:=FK (qD (fs i n))) (AJ1 i hi) (hP _ hs ⟨d,bt.nz,zO bd' AY4,Rl ⟨tb i n,ex i hi,be' i n hi⟩⟩))
  refine⟨Β,Β,.AU (tb i n),ynd,.AU (tb i i),Mi Θ,tb i n,tb i i,Β,zO (be i n hi) Φ,zO (be i i hi) Φ,?_⟩
  rw[bt.diag hi hi,Cc bt.nz,<- ex i hi];exact hp
theorem ydr(BV TV):L4:=We
theorem zst(BV Z0):L4:=We
theorem Ua(Aln):jy (M3 a) (M3 b)=O0 (a=b):=by
 rw[Aub];simp [jy]
theorem ycx(BDq):(EV qD).flatMap (ż (Aw9 (AP' a b) (AFn (ACI*b) (a*AUG) [d] []) []))=C4 AMI BaQ qD:=by
 induction l with
 | D8=>rfl
 | AY x l ih=>
  rw[GL,BI3,ih,ku,yjb q x];show(CD (AEn (Χ (ACI* C9 x.den<x.num* AJY))) [qD x] [])++_=_;split<;>simp
theorem ygm(CB TV):i9 zy1:=by
 show A'9 hl hz;refine AmR MZ (∃(l:BI) (x y:ER),Γ= [NB (ALB qD),.ow ANn,x,y]/\l=(Asg i).foldl yw []/\l.Perm (Asg i)) ⟨[],_,_,Β,Β,DB⟩
 ·rintro i d _ hi ⟨l,x,y,Β,hl',hp⟩;rw[FS] at hi;cases q:qs[i]? with
  | Η=>show BGY
  | Ε a=>
   rw[q] at hi;show AsR;show FL hil (i<IR) (OT q) llen (HE=i) (AYa BJo qB) lz (∀o∈l,UZ o) (fun o ho=>hz o (ASp (hp.mem_iff.mp ho))) az (UZ a) (hz a (yX q));refine zqr (ż (Aw9 (AP' u v) (AFn (AHE*v) (u*bc) [d] []) [])) ?_ ?_
   ·intro x hx P hP;show Ů o ho hx;refine⟨a,o,Β,az,lz o ho,?_⟩;show BQ (AFn a o _ _);rw[yjb];have hP' :P (AFn (AHE* C9 o.den) (o.num* C9 bc) [qD o] []):=hP;split
    ·rename_i hc;show ND (DZ hc) hP' hP'
    ·rename_i hc;show ND (Cc hc) hP' hP'
   ·rw[ycx];refine CU IP E7;show Pf;have hc:=yoj a l;refine⟨Υ,by show Pf;exact_mod_cast hc,BOF vU,yw l a,Ê a,ES (cnt a l),?_,?_,?_⟩
    ·unfold Yp yw;rw[qh,UP,GL,As4,AeA]
     rfl
    ·rw[Ae',q,List.foldl_append,<- hl'];rfl
    ·rw[Ae',q];show BG ((zxs l a).Ff ?_) (î hp.cons a ?_);exact List.perm_append_singleton a _ |>.kA
 ·rintro _ ⟨l,x,y,Β,hl',hp⟩;have e:l=pI qs:=by rw[hl',C8,yY];rfl
  subst e;exact h
theorem zsl(CB Z0):AJp zit:=by
 show AJz r h;refine AkK
 rw[Ua];refine(?_:wx (r=oO));split
 ·rename_i e;show ϣ AJg;exact h
 ·rename_i e;show oz AJg;exact h
theorem z1j(l:BI){a b:Δ}(h1:a<=b)(h2:AjX b):A6s Ajj Ajk=C4 A_8 (b - a) qD:=by
 show AFx;simp only [C8,As4,AeA];have e1:(BXw Ajj Ajj Ajj)=a:=A0r
 have e2:(BXw Ajk Ajk Ajk)=b:=A0r
 rw[e1,e2]
theorem z2x{l:BI}{a:Δ}(h:AEb a):A_8 1= [OK a 0]:=by
 rw[Az_,QQ,vt];rfl
theorem zun{l:BI}{a:Δ}(h:AEb (a+1)):A_8 2= [OK a 0,ADW (a+1)]:=by
 show Azn A1d BtT (z2x h) QQ (AK1 (JY (AEb a)));rfl
theorem ydm(CB ZV):AJp zxt:=by
 show AAi l h1;refine CU (Abj 2) (Abj 2)
 have e1:BYt 2=FA AQK:=by
  show ŧ BNl;show ũ
 have e2:(AJH).Ġ 2+1=FA (mr+1):=by
  show ŧ BNl;show ũ
 show BQ (Q (FF (BBJ (Ε (BYt 2)) ((AJH).Ġ 2+1))));rw[e1,e2,z1j l AYC AYC]
 have A6:(AvH (AQK)).take (mr+1 - AQK)=d4 l:=by
  unfold d4;by_cases ho:A9S=1
  ·rw[DZ ho,AYl (AQK=mr),AYl (mr+1 - mr=1),z2x (by show ũ)]
  ·rw[Cc ho,AYl (mr+1 - AQK=2),zun (by show ũ),AYl (AQK=mr - 1),AYl (mr - 1+1=mr)]
 show Zp A6
theorem yiq(CB TX):AJp z3y:=by
 show AFi a b ha hb;exact⟨_,at1,_,at0,b,a,Β,hb.up Φ,ha.up Φ,h⟩
theorem Wo{l:BI}{i:Δ}(h:i<HE):OK i 0∈l:=by
 show AEW vt;exact yV h
theorem z9c(CB ZW):i9 ztg:=by
 obtain⟨l,Β,h2,hl,hz,h⟩:=h;have ab3:BVP= [qD (OK 0 0),qD (OK 1 0)]:=by
  have:=z1j l (a:=0) (b:=2) Θ h2
  have e:BVP=A6s APw AkF:=by
   show AFx;simp
  rw[e,Τ];show C4 (AvH 0).take 2 qD=_;rw[zun Θ];rfl
 show BQ (ŉ zoe [NB ANn,NB (BBJ Η 2),B8,B8]);rw[ab3];have hn:AJH=AW':=by show Pf
 refine AmR (ADU hn) (∃(b:Δ) (x y:ER),Γ= [NB ANn,NB [qD (OK b 0),qD (OK (b+1) 0)],x,y]/\b<=i/\ (BXM (j<=i))/\BU7 (j<=i)) ⟨0,_,_,Β,OZ,iE (by show GU (j=0) Θ;exact AK5),fun j hj hb=>Υ⟩
 ·rintro i _ hi ⟨b,x,y,Β,hb,hle,hgt⟩;have hi' :AEb (i+2):=by rw[hn] at hi;show AF
  show BQ (yv zhv _ [NB ANn,NB [qD (OK b 0),qD (OK (b+1) 0)],ES Am',NB (BBJ (D9 Am') (1+ MU+2))]);have ec:A6s Am' (1+ MU+2)= [qD (OK Db 0),qD (OK (EZ+1) 0)]:=by
   rw[AZI Am' EZ,AZI (A0v+2) (i+3),z1j l Θ Θ,JY (i+3 - Db=2),zun Θ];rfl
  rw[ec];have z:BaK:=BaP;show Tm ⟨_,_,Β,z b Θ,z (b+1) Θ,_,_,Β,z Db Θ,z (i+2) Θ,_,_,Β,iN (Nt (z (b+1) Θ) (z b Θ)),Bfs (i+2) Db,?_⟩ (AFn Ahp (wd l Db) _ _);by_cases hw:Ahp<wd l Db
  ·show A7 AI3
   refine⟨b,_,_,Β,Υ,ARp,As j hj hbj⟩
   ·by_cases e:j=EZ
    ·subst e;exact Afg hw
    ·exact hle j Θ
   ·by_cases e:j=EZ
    ·show ü hw
    ·exact hgt j Θ hbj
  ·show DU AI3
   refine⟨EZ,_,_,Β,Υ,ARp,fun j hj hbj=>Υ⟩
   have hw' :=BtV hw;by_cases e:j=EZ
   ·show ü AK5
   ·exact AMJ hw' (hle j Θ)
 ·rintro _ ⟨b,x,y,Β,hb,hle,hgt⟩;have e:(AJH - 1 - 1).eQ=HE - 2:=ADU hn
  rw[e] at hb hle hgt;exact h b ⟨Υ,fun j hj=>hle j Θ,fun j hj hbj=>hgt j Θ hbj⟩
theorem yng(CB ZX):Of z6l:=by
 obtain⟨l,g,Β,h2,hl,hz,hg,h⟩:=h;refine AkK
 rw[Qm];have hn:AJH=AW':=by show Pf
 have z:BaK:=BaP;show BQ (wx (AJH=2));rw[hn];by_cases h22:HE=2
 ·show DU i_
  have e2:EV qD= [qD (OK 0 0),qD (OK 1 0)]:=by
   match l,h22 with
   | si,_=>rfl
  show Tm ⟨ADW 0,ADW 1,NH e2,z 0 Θ,z 1 Θ,g,_,Β,hg,Bfs 1 0,?_⟩ (wx (g<wd l 0));by_cases hw:g<wd l 0
  ·show ϣ ⟨h22,hw⟩;show DU AI3
   exact⟨B',h⟩
  ·show oz (FI (hw z.2));show A7 AI3
   exact⟨l,Β,h2,hl,hz,h⟩
 ·show oz (FI (h22 z.1));show A7 i_
  exact⟨l,Β,h2,hl,hz,h⟩
theorem Aa{l:BI}:gJ (d4 l)/ ş d4 l=Tr l:=by
 unfold d4 Tr;split
 ·show(_+0)/ BB (FA 1)=_;rw[AGS];have:BB (FA 1)=1:=Β;rw[Τ];grind
 ·show(_+ (_+0))/ BB AkF=_;rw[AGS];rfl
theorem yhd{l:BI}(h:∀q∈l,AON)(hl:AjW 2)(k:Δ):Aws Afd:=by
 refine(yhw (m:=1900) (BP5 h)).up ?_;have:D_ Afd k<=2:=zO (List.length_take_le' _ _) hl;have:=AUF 1902 Τ;show AF
theorem sM:V7≠zf:=B'
theorem sP:oO≠zf:=B'
theorem sP2:oO≠V7:=B'
theorem yd0(BV Z1):GI:=Iy
theorem z5r(BV Z2):L4:=We
theorem z8o(BV Z4):v6:=w4
theorem yj0(BV Nv):L4:=We
theorem zsn(BV V8):GI:=Iy
theorem Wq(f:Κ)(d:D):oN [f] [d] f=Ε d:=Aki oN
theorem zyz(xs:AR){k:Δ}(h:k<=By):PP xs (D9 F9) Η=Ad7 k:=by
 have e1:(CD (F9<0) (mT F9 AJX) (min (F9).eQ By))=k:=A0r
 show AFx;simp only;rw[e1,BI_ A1]
theorem z2a{ps:FD}(h:AAk)(hl:Amn):zj ps=Μ:=by
 unfold zj;rw[BK1,As5];clear hl;induction ps with
 | D8=>rfl
 | AY a t ih=>
  cases t with
  | D8=>rfl
  | AY b t=>
   obtain⟨⟨h1,h2⟩,h3⟩:=h;show(LQ a b::Ł LQ AZW t).all id=Μ;rw[ATR];have hc:LQ a b=Μ:=by
    unfold LQ;have:¬b.2<a.2:=P2
    simp [h1,Τ]
   have h4:=ih h3;have h5:(Ł LQ AZW t).all id=Μ:=h4;rw[h5];simp [hc]
theorem yfu(CB Z1):Of zyd:=by
 show AFi a b za zb;refine⟨_,at0,_,at0,a.1,b.1,Β,za.1,zb.1,?_⟩;show D' LQ;cases e:BSb with
 | AE=>show Ak2
 | Μ=>
  rw[e] at h;exact⟨_,at1,_,at1,b.2,a.2,Β,zb.2,za.2,h⟩
theorem zwp{DV:ADn}(g:Pt ->Pt ->D):∀{as bs:FD} {P:c0},(AMt (MM bs (∀P,P [g a b] ->DV (GW [pD a,pD b]) P))) ->P BOq ->dU DV (nG (as.map pD) (ki pD)) P
 | [],_,_,_,h=>h
 | EF,[],_,_,h=>h
 | a::as,b::bs,P,k,h=>k a zY b zY _ (zwp g (fun x hx y hy=>k x A1Z y (zW _ hy)) h)
theorem z28(g:Pt ->Pt ->AT):∀(as bs:FD),vD BWb=Ε BOq
 | [],_=>Β
 | EF,[]=>Β
 | a::as,b::bs=>A6g vD BWb (z28 g as bs)
theorem z4j(CB Z2):AJp zpt:=by
 show AAi ps hz;show D' zj;show(ut (D.bl (O0 (iS< ş LV pD))) ADi _ AP7 _)
 show A1U;by_cases hl:Amn
 ·show AYI (Υ:iS< BKZ)
  rw[BK1,As5] at h;refine(?_:ù (nG (LV pD) (PP (LV pD) AIT Η)));have e1:Bk2:=mo AeA (zyz (LV pD) (k:=1)) BK9
  rw[e1];refine zwp (zI b (D.bl (LQ a b))) (fun a ha b hb P hp=>⟨Β,Β,a,b,Β,hz a ha,hz b (List.mem_of_mem_drop hb),hp⟩) (i6 (z28 LQ _ _));show Zp BqE
 ·show Az8 (Υ:¬iS< BKZ)
  rw[al hl] at h;exact h
theorem yjj(Bc2 Nv):yv zf5 (ANu (fun Γ=>(yv ze0 Γ BZF)) tj) (aG 2 AXR):=by
 show AAi ps hz;refine⟨ps,Β,hz,?_⟩;cases e:zj ps with
 | Μ=>
  rw[e,ET] at h;exact Ic h
 | AE=>
  rw[e,i5] at h;exact AG0
theorem z9y(CB Z4):i9 zts:=by
 obtain⟨l,r,x,Β,zl,zr,zx,A_,h⟩:=h;have s1:=Nt zx zl.1;have s2:=Nt zr.2 zl.2;have s3:=Nt zr.1 zl.1;have s4:=yg3 s1 s2;have hn:AbB≠0:=P2
 show BG ⟨_,at0,x,l.1,Β,A2c,iN zl.1,_,at1,_,at1,r.2,l.2,Β,iN zr.2,iN zl.2,x - l.1,r.2 - l.2,Β,s1.up Φ,s2.up Φ,?_⟩ ⟨_,at1,_,at0,_,at0,B6,l.1,Β,iN zr.1,iN zl.1,(x - l.1)* ApP,AbB,Β,s4.up Φ,s3.up Φ,?_⟩
 show A7 hn;exact⟨l.2,(x - l.1)* ApP/ AaV,Β,iN zl.2,(ycc s4 s3 hn).up Φ,h⟩
theorem yb4:∀{ps:FD} (i:Δ),AAk ->Gd (ABU i)
 | [],i,_=>by rw[List.drop_nil];trivial
 | ps,0,h=>h
 | a::t,EZ,h=>by
  rw[BtU];refine yb4 i ?_;cases t with
  | D8=>trivial
  | AY b t=>exact h.2
theorem z2b{ps:FD}{i:Δ}(h:Amo):ABU i=WI::AZc::ABU (i+2):=IC A1d Az_
theorem ypu{ps:FD}{i:Δ}(h:Amo)(hg:AAk):WI.1<AaJ/\WI.2<=AZc.2:=by
 have:=yb4 i hg;show D5 (z2b h);exact Τ.1
theorem z8l{ps:FD}{i:Δ}{x:AL}(h:Amo):Bf (ABU i) x=if x<AaJ then Cj WI AZc x else Bf (ABU Db) x:=Ş (z2b h) Az_
theorem zly:∀{ps:FD} (h:AJs),nO ps=ps[AZE]
 | [p],_=>Β
 | AkW,_=>by
  show B1 (nO AZW=_);rw[zly (ps:=b::t) A1]
  simp
theorem yii(ps:FD)(h:AJs):ϫ LV pD Kj BZI:=by
 unfold o9;have e:yq BRv Kj=Ε (LP - 1):=by
  unfold yq;show AIQ Aj2 ϳ
  congr 1;show AF
 rw[e];show AFb[AZE]?=_;rw[FS,Akk,zly h]
 rfl
theorem ylo{ps:FD}{i:Δ}(h:i<LP):ϫ LV pD MU (pD WI):=pO (A4i vt)
theorem zsg(CB V8):i9 zhx:=by
 obtain⟨ps,x,Β,hl,hg,hz,zx,h⟩:=h;show FY z4 (∀{i:Δ} (hi:i<LP),Iw 300 WI) (fun hi=>hz _ (yV hi)) h0 AJs Υ ⟨Β,_,AXA,_,ylo h0,_,at0,ps[0].1,x,Β,iN (z4 h0).1,A2c,?_⟩
 have hd:ps=ps[0]::ABU 1:=ACf (ATt (l:=ps) (i:=0) h0) As6
 show BQ (AFn ps[0].1 x _ _);by_cases hx:ps[0].1<x
 ·show A7 AYY
  have eW:BX4:=z39 hg (õ (by
   rw[hd] at hp;show AD hp hp hp hp hp hp hp hp hp hp hp hp hp hp;exact Afg hx))
  refine⟨Β,_,AXA,Β,_,AXA,?_⟩;have e1:Bk2:=mo AeA (zyz (LV pD) (k:=1)) BK9
  refine AkJ
  ·rintro⟨e,_⟩;have:ax BRv 0 (Ε 1)=1:=by
    unfold ax;show Pf;simp only;show vz
    have:(iS).eQ=1:=Β;show AF
   rw[Τ] at e;show Do
  rw[e1];have zl:Sc nG AFb (C4 ABU 1 pD)=AZE:=by
   unfold nG;rw[AfC,C8,C8,AGt];show AF
  refine WV (∃(u v:ER),Γ= [ArD,Ê x,u,v]/\Bf (ABU i) x=Bf ps x) (AAT (NH As6))
  ·rintro i d _ hi ⟨u,v,Β,hw⟩;have hil:Amo:=by
    have:=o6;show D5 zl;show AF
   have hi2:Ε d=Ε (GW [pD WI,pD AZc]):=by
    rw[<- hi];unfold nG;rw[BJN,FS,FS,List.getElem?_drop,Akk,BqH 1 i,zS hil]
    rfl
   show AD hi2 hi2 hi2 hi2 hi2 hi2 hi2 hi2 hi2 hi2 hi2 hi2 hi2 hi2;refine⟨Β,Β,_,at0,x,AaJ,Β,A2c,iN (z4 hil).1,?_⟩
   rw[z8l hil] at hw;refine(?_:wx (x<AaJ));by_cases hxr:x<AaJ
   ·show DU (DT hxr)
    rw[DZ hxr] at hw;refine⟨WI,AZc,x,Β,z4 Θ,z4 hil,zx,(ypu hil hg).1,?_⟩
    rw[hw,eW];exact h
   ·show A7 (DT hxr)
    show ND (Cc hxr) hw (AAT hw)
  ·rintro _ ⟨u,v,Β,hw⟩;rw[zl,A1d,List.drop_of_length_le Θ] at hw
   refine Bhb (yii ps h0);rw[zly h0];have:ps[AZE].2=Bf ps x:=hw;rw[<- eW,<- Τ] at h;exact h
 ·show DU AYY
  refine Bhb (ylo h0);have:pC ps x=ps[0].2:=by
   generalize ps[0]=p0 at*;rw[hd] at hg⊢;exact ydl hg hx
  rw[Τ] at h;exact h
theorem ztz(i'):BTu uE:=Ć uE AG' Zq
theorem z0v{qs:BI}{q:AL}(h:q∈uE qs):q∈qs:=AbL (BtY h)
theorem Wr(BYV):OK i d=l[i]:=DL h
theorem ZG(BYV):OK i d∈l:=by rw[Wr h];exact yV h
theorem ygc(i'):Fall (uE qs):=by
 intro i j hij hj;have hi:i< D_ uE qs:=by show ũ
 rw[Wr hj,Wr hi];unfold uE at*;rw[As7,As7];by_cases e:i=j
 ·show ü AK5
 ·show ND AG' hj (AfF (yjc qs) _ _ AYC AYC AYC)
theorem zri(Aqi)(f:Akd):ó (l.flatMap (AH4 [f x])=EV f)
 | []=>Β
 | x::l=>Ş BI3 zri
theorem z1y{α:Ch}(f:AEz):ó (vD BP1=Ε Alc)
 | []=>Β
 | x::l=>A6g vD BP1 z1y
theorem ybo(f:BI):(jj f).XL (D_ jj f - 1) 0=xC/\0< D_ jj f:=by
 refine AJV (by unfold jj;simp)
 cases hn:xC with
 | UN=>unfold jj;rw[hn];rfl
 | UO n=>
  have e:jj f=(0::((List.range n).filter (Ko f)).map (· +1))++ [n+1]:=by
   unfold jj;rw[hn,Ad',AeD,ku,DZ (by unfold Ko;simp [hn])]
   simp
  show Azn e P9 ATW Nat.add_sub_cancel BoU;simp
theorem zzm(BV V9):GI:=Iy
theorem yax(BV Z5):v6:=w4
theorem yj2(BV TY):GI:=Iy
theorem ydd(BV Wa):L4:=We
theorem zup(BV Z6):GI:=Iy
theorem ymu(BV Z7):L4:=We
theorem zsb(BV Z8):GI:=w4
theorem zqt(BV Z9):GI:=w4
theorem ym3(BV Wb):GI:=Iy
theorem Ws{α:Ch}{DV:ADn}(f:AD_)(p:AEz):Azb (ARj (CD AO7 (P [f a]) í) a) BRf f
 | [],_,_,h=>h
 | F_,P,k,h=>by
  refine k a zY _ ?_;by_cases q:AO7
  ·show DU q;rw[ku,L3] at h;exact Ws f p AUy h
  ·show A7 q;rw[ku,TN] at h;exact Ws f p AUy h
theorem zle(Beu)(f g:AD_):Azb (ARj (P [g a]) a) EV g
 | [],_,_,h=>h
 | F_,P,k,h=>BCw zle
theorem z0x(CB V9):Of zof:=by
 show AZw x b;refine AFK;show BQ (Afz O0 (b.1<=x) (∃d,o9 [HA b.1,.AU b.2] 1=Ε d/\_) _);by_cases q:b.1<=x
 ·show DU (DT q)
  refine AFK;have e:Br b x=O0 (x<=b.2):=BSB
  show Ak2
 ·show A7 (DT q)
  have e:Br b x=AE:=BSB
  show Ak2
theorem yn4{α:Ch}(l:DE)(f:AEz):(EV f).any id=l.any f:=BLd
theorem z97(CB Z5):v_ ztu:=by
 obtain⟨S,l,b,Β,h⟩:=h;refine Ws HA (BA e BQM) (AJ1 e he) h;show BG (zle HA (BA s (.bl (Br b AXg))) (fun s hs P' hp' =>(KW (e - s) b hp')) ?_) (CU (EV fun s=>Br b AXg) (z1y _ l));rw[yn4];refine(?_:JU (l.any fun s=>Br b AXg) (P [.AU e]) í);show Aqa
theorem Ub(ArT):BcA:=by
 unfold o9;have e:BV9:=by
  unfold yq;show APV AMF Aj2 ϳ
  congr 1
  show AF
 rw[e];show(AIl f)[n]?=_;show Aw5 (BqJ Θ);rfl
theorem yla(CB TY):i9 z3v:=by
 show Fu S bs hl h h;have s1:=vU;refine CU AQ1 AQ1
 refine WV (∃x,Γ= [A_C,Amq,.ow (b9 Db (Fs (pZ (rk S bs j)))),x]) E7
 ·rintro i d _ hi ⟨x,Β⟩;have hi' :i<JI:=vc o6
  show Ape eb (ŀ i Ô=bs[i]) (DL hi')
  show BG ⟨E7,E7,_,Ub,S,BAv,bs[i],Β,?_⟩ (CU BND (.pu (Fd bs[i])))
  rw[BMQ EZ,UP,<- eb]
  rfl
 ·show Ajb x;show Zp C8
theorem zza{α:Ch}{DV:yo D (rh D)}(f:AD_)(g:α ->AR):l_ l DE P Ajw (AVC (∀P:Ajw,P [g a] ->DV (f a) P)) (P (EV g)) (wJ DV (EV f) P)
 | [],_,_,h=>h
 | F_,P,k,h=>BCw zza
theorem yde(Bc2 Wa):yv zfk (aG 2 AXR) BUw:=by
 show AJz ls h;refine(?_:wJ _ (AGU pZ) _);refine zza pZ (BA l (EV HA)) (fun l hl P hp=>hp) Ϲ;show Zp NV
theorem zv0(CB Z6):Of zjt:=by
 show AFi m qs hm hz;refine ų Ws qD (AH4 (!(Χ (x<m)))) x hx ⟨x,m,Β,hz x hx,hm,?_⟩
 ·show BQ (AFn x m (P [qD x]) í);show Aqa
 ·show BQ (AXT (MC (D_ (C4 qs.filter _) qD)));show Zp C8
theorem yb3{x:AL}{xs:BI}(h:Fall AKT):Fall xs/\A2q (A3p<=x):=
 ⟨AbS (ð (h Db APe Θ AYZ) Τ),iE (ð (h 0 APe Θ AYZ) Τ)⟩
theorem z2u{m:AL}:NA xs BI (A2q (A3p<m)) (jt xs m=0)
 | [],_=>Β
 | WO,h=>by
  unfold jt;have h0:=h 0 A1
  rw[ku,Cc (DT h0)]
  exact z2u (iE (ð (h APe AYZ) Τ))
theorem Wt{m:AL}:NA f BI (Fall f) (Y' xC (m<=ABJ j 0↔j<jt f m))
 | [],_,j,hj=>AMk hj
 | WO,hf,j,hj=>by
  show FX h1 h2 yb3 hf;by_cases q:m<=x
  ·have e:jt AKT m=jt xs m+1:=AQy jt ku (DZ BW3)
   rw[e]
   match j,hj with
   | 0,_=>simpa using q
   | j+1,hj=>
    have:=AQA m h1 j AYZ
    rw[BqK,Τ];show AF
  ·have lt:A2q (A3p<m):=iE (BqL (Au (q (AMJ z (h2 j hj)))));have e:jt AKT m=0:=by
    unfold jt;rw[ku,Cc BW3]
    exact z2u lt
   rw[e]
   match j,hj with
   | 0,_=>simpa using q
   | j+1,hj=>
    have:=lt j AYZ
    rw[BqK];constructor
    ·intro z;exact A2R Τ z
    ·intro z;show AF
theorem z7o(f:BI)(m:AL):jt f m<=xC:=IU A0b
theorem z3i{a b:BI}(h:a.Perm b)(m:AL):jt a m=jt b m:=IU (h.filter _).Auw
theorem zuk(i'):(uE qs).ei qs:=TL List.reverse_perm _ (Tq qs)
theorem ye3{f:BI}(hf:Fall f)(e:Δ):e∈jj f↔e=0\/∃m∈f,e=jt f m:=by
 unfold jj;rw[Ģ];refine or_congr_right ?_;rw[aE];constructor
 ·show APW k hk;show A8k hk;have hk:=XX h1;refine CU AnC (ZG hk);have a:=(AQA AnC hf k hk).mp AK5;have le:=z7o f (ABJ k 0);unfold Ko at h2;simp only [BqN,ATq] at h2;rcases h2 with h2 | h2
  ·show q_
  ·by_cases q:k+1<xC
   ·have:¬k+1<jt f (ABJ k 0):=Au (Rat.not_le.mpr h2 ((AQA AnC hf LY q).mpr z));show AF
   ·show q_
 ·show APW m hm;show AFN i hi hm;have hi' :=(AQA f[i] hf i hi).mp (by rw[Wr hi];exact AK5)
  have le:=z7o f f[i];refine⟨AnD - 1,AeC (C5 (BqF Θ)),Υ⟩
  unfold Ko;show Bpi BqN;by_cases q:jt f f[i]=xC
  ·left;show AF
  ·right;rw[JY (AnD - 1+1=AnD)]
   have a:¬f[i]<=ABJ (jt f f[i]) 0:=Au (AFp ((AQA f[i] hf (jt f f[i]) Θ).mp z))
   have b:=(AQA f[i] hf (AnD - 1) Θ).mpr Θ
   exact BqL (Au (a (AMJ b z)))
theorem Ab{qs:BI}{i:AB}:i∈iW qs↔i∈0::BCX:=by
 unfold iW;rw[aE,Ģ,aE];have A6:=ye3 (ygc qs);constructor
 ·show APW e he;rcases(A6 e).mp he with Β | ⟨m,hm,Β⟩
  ·left;rfl
  ·right;exact⟨m,z0v hm,YE (z3i (zuk qs))⟩
 ·rintro(Β | ⟨m,hm,Β⟩)
  ·exact⟨0,(A6 0).mpr YR,Β⟩
  ·exact⟨jt qs m,(A6 _).mpr (FV ⟨m,(zuk qs).mem_iff.mpr hm,(z3i (zuk qs) m).kA⟩),Β⟩
theorem ybw(i'):(iW qs).AuW (· < ·):=by
 unfold iW jj;show AjU AL_ NV;refine C5 A9s
 ·show AEc k (ko hi);exact BqP (BHG k)
 ·rw[Ae8];refine(List.Pairwise.filter _ (BJT)).imp fun{a b} h=> ?_;exact BqP Θ
theorem znv:∀l:CI,oM A2a=Ε l
 | []=>Β
 | n::l=>A6g oM A2a znv
theorem ynx(CB Z7):AJp yb6:=by
 show A'9 hl hz;have s1:=vU;refine C5 AQ1
 show ADx (ų zle qD (BA m (.AU (jt qs m))) m hm ⟨m,qs,Β,hz m hm,hz,hp⟩) (C5 (by show B1 (D7 (1+ D_ ALB (fun m=>HA (jt qs m))));show Pf;show AF)) ⟨0::BCX,?_,?_,As ms hp hm⟩
 ·have:=znv (0::BCX);show ng GL NV;exact Τ
 ·show Aw4 C8;show AF
 ·show GU (ms=iW qs) (z7s hp (ybw qs) (FK (î hm i Ab.symm)));exact h
theorem ym1(bs:Hd):(ki Fd).ASe=bs.reverse.map Fd:=NH BqQ
theorem yll(ArT):(AIl f).ASe=AIl (FK (f (n - i))):=by
 show oC
 ·simp
 ·show AFr;rw[As7];simp
theorem aaf(xs:AR):PP xs AIT Η=Ad7 1:=by
 show AFx;dsimp only;show vz
 cases xs with
 | D8=>rfl
 | AY x xs=>
  rw[AiR (min (Ajd 1) (VA AKT)=1)]
  simp
theorem z21(ArT):(AIl f).drop 1=IE (FK (f (EZ))):=by
 rw[AuU,GL,BqE,List.tail_cons,NV]
 rfl
theorem zsj(CB Z8):i9 zid:=by
 obtain⟨S,n,bs,Β,hl,hn,h⟩:=h;refine(?_:ù (S.map HA).ASe);rw[<- BqQ];refine ų zle HA (BA e (.AU AQx)) e he (EL hn hp);have eb:(BtX (Lv (HA (n - e))))=(lC S n).map mI:=Aan lC
 rw[eb];refine(?_:TY c [pZ (lC S n),.DC (ki Fd).ASe] (ż (ŉ zgj [A_C,Amq,.pu (pZ (lC S n)),.pu d])) Ex);show mE ym1 ⟨lC S n,AML,Β,CL AG' hl,?_⟩ AG' (?_:BXL (AbJ _).ASe);rw[aaf,yll,z21];exact h
theorem ymr(o5)(f g:ŵ):Bk4:=by
 unfold nG;show oC
 ·simp
 ·show AFr;simp
theorem ynv(bs:Hd):ki Fd=AOm (iP (Fd (ŀ k Ô))):=by
 show oC
 ·simp
 ·show AFr;show Bn9 h1;simp [h1]
theorem yh4:∀l:CI,jP (EV HA)
 | []=>DL jP
 | i::l=>CL GL ⟨DL rJ,yh4 l⟩
theorem yl2(x:AB)(l:CI):inD (GM x) (EV mI)=l.contains x:=by
 unfold inD;rw[BqI,<- List.any_beq']
 congr 1
theorem ynp(l:CI):(EV HA).all Iu=Μ:=mi BIh BI8 AJv
theorem zq3(CB Z9):SY zha 6:=by
 obtain⟨S,n,bs,Β,hl,hn,nS,hg,h⟩:=h;have s1:=vU;refine C5 AQ1
 show BG ⟨S,n,bs,Β,hl,hn,?_⟩ (?_:v8 (nG (ki Fd) BeM) _ _ _ _ _);rw[ynv,ymr];refine⟨fun k Γ=>∃x y z,Γ= [A_C,Amq,.ow (b9 LY (AQD (AWU j))),x,y,z],BUL,?_,?_⟩
 ·rintro k d _ hk ⟨x,y,z,Β⟩;have hk' :A2Q:=by
   have:=OT hk
   rwa [C8,AMF] at Τ
  show Af5 (BqJ hk') hk;show AD hk hk hk hk hk hk hk hk hk hk hk hk hk hk;refine CU Β Β;refine ų Ws HA (BA e (BEY A3Z)) e he ⟨_,Ub,e - Ag9,ŀ k Ô,Β,?_⟩
  ·show BQ (Bpa (BVs A3Z) í);show Aqa
  refine CU (yh4 _) E7;refine ų Ws HA (BA e Bh2) e he ⟨_,hn,Β,ynp _,?_⟩
  ·show BQ (Bpa (inD (GM AQx) ((rk AOa AML AWq).map .AU)=Μ) í);rw[yl2];show Aqa
  show FC m1 m2 yn8 nS hg hk';have mm:∀e,e∈ ((BKJ (Lv (BEY A3Z))).ĭ (Lv Bh2))↔e∈Ao6:=Lv (by
   rw[ģ,ģ,wM,AvJ,z1p,and_assoc])
  refine⟨_,AZ_,znv _,(mm _).mpr m1,Rl (m2 i ((mm i).mp hi)),BND,?_⟩
  show∃x y z,_= [As' (pZ S),Amq,.ow (b9 (k+1+1) (Fs (HA (AWU j)))),x,y,z];show AJQ (BMQ (k+1));exact BUL
 ·rintro _ ⟨x,y,z,Β⟩;show BL5;refine(?_:BXL (AbJ _));rw[aaf,z21];have e:AOm (sx (HA (AWU Db)))=C4 AOm (iP AZ_) mI:=AZO
  show Zp e
theorem aag(i'):TH∈iW qs:=Ab.mpr zY
theorem zzo(i'):Last (iW qs) IR/\ APa∈iW qs:=by
 show AEZ e1 (ybo (uE qs));rw[ztz] at e1;have A_:Apb - 1< Apb:=Υ
 rw[Wr A_] at e1;refine AkJ
 ·unfold Last o9 iW;have e:yq (D_ (C4 (C4 jj AMu) BGm) HA) Kj=Ε (Apb - 1):=by
   unfold yq;show APV C8 Aj2 ϳ
   congr 1
   show AF
  rw[e];show(C4 (C4 jj AMu) BGm HA)[Apb - 1]?=_;rw[FS,FS,zS A_,e1]
  rfl
 ·unfold iW;rw[aE];exact ZZ IR (l4 e1 yV A_)
theorem yie(Aop):(rk AQa bs JI).ABe APa=oR qs bs:=by
 unfold oR;have:=z5f (bs:=bs) (aag qs) (zzo qs).2;rw[Aub,AvJ,AvJ];exact Τ
theorem yoo(CB Wb):i9 z7g:=by
 obtain⟨qs,bs,Β,hl,hz,hb,h1,h2⟩:=h;refine⟨qs,Β,hl,hz,iW qs,bs,Β,hb,?_⟩;show∃d,ϫ AbJ (FK (pZ (rk AQa bs i))) Kj d/\_;refine⟨_,Ub,Β,ynp _,?_⟩;show BQ (JU (! inD (GM BMp) ((rk AQa bs JI).map mI)) _ _);show AIQ yl2 yie;by_cases g:BUe
 ·show A7 (AV' g)
  show FX k1 k2 zzo qs;exact⟨iW qs,IR,bs,Β,hb,k1,k2,BqT g,h1 g⟩
 ·have g' :BVz:=C6 g
  show DU (WB g')
  exact⟨AQ1,uF qs bs,Aan uF,h2 g'⟩
theorem zna(BV Wd):GI:=Iy
theorem zqb(BV Wf):GI:=Iy
theorem yn0{qs:BI}{c:Δ}(h0:0<c)(hc:BO7):ϫ AxW qD (-(C9 c)) (qD ((uE qs).XL (c - 1) 0)):=by
 have hl:=Zq qs;unfold o9;have e:yq (D_ AxW qD) (-(C9 c))=Ε (IR - c):=by
  unfold yq;show APV hl vx ϳ
  congr 1;show AF
 rw[e];show A2'[BRB]?=_;show Aw5 Akk
 unfold uE;have h2:c - 1< (pI qs).reverse.length:=AYa AG' hl
 rw[Wr h2,As7];simp only [hl,Option.map_some,JY (IR - 1 - (c - 1)=BRB)]
theorem z0t(xs:AR)(h:0<By):PP xs Η (Ε Kj)=xs.dropLast:=by
 show AFx;simp only [As6,BqU];rw[DZ Φ,List.dropLast_eq_take]
 congr 1;show AF
theorem yg5{f:BI}{c:Δ}{q:AL}(hc:c<=xC)(h:Hu f c=Ε q):q∈f:=by
 show D' Hu;show N9
 ·show Pw
 ·show HK;exact ZG Θ
theorem zmx(CB Wd):ARP zfj 3:=by
 obtain⟨qs,cs,Β,hl,hz,hc0,hc,h⟩:=h;refine⟨qs,Β,hl,hz,?_⟩;show BQ (ù (PP (cs.map intD) Η (D9 Kj)));rw[z0t _ (BK8 hc0),<- List.map_dropLast]
 have A6:∀d∈BGn intD,∀P,P [BD'] ->MP lI dH Bbb [B8,NB A2'] d P:=by
  intro d hd P hp;show Abx hd;have hk' :=hc k BoS;refine(?_:wx (TH< F9))
  change P [AiC (Ajd F9)] at hp
  rw[qh] at hp;by_cases h0:k=0
  ·subst h0;show vz
   exact hp
  ·show DU i_
   refine i6 (yn0 Θ hk')
   unfold Hu at hp;rw[Cc h0] at hp;exact hp
 refine zqr (ż [BD']) A6 ?_
 rw[zri,NV];have e:(fun d:D=>BD') ∘ intD=iP (AiC k):=by
  funext k
  show B1 (bD (Hu (uE qs) (Ajd F9))=_);rw[qh]
 rw[e];have e2:BGn (BA k (AiC k))=BZN bD:=AZO
 show Zp e2
theorem zmy{α:Ch}{p:AEz}:∀{l:DE} {i:Δ},(∀j b,j<i ->VQ l b ->p b=AE) ->(MH (FG l b) (p b=Μ)) ->i<=HE ->l.findIdx p=i
 | [],i,_,_,h=>by simp at h;subst h;rfl
 | x::l,0,_,h2,_=>Ş BqV (h2 x Β)
 | x::l,EZ,h1,h2,h3=>by
  rw[BqV,h1 0 x Θ Β]
  show B1 (l.findIdx p+1=EZ);rw[zmy (fun j b hj hb=>h1 APe b Θ hb) (MO (h2 b hb)) (DT h3)]
theorem zp5(CB Wf):i9 zg9:=by
 show AFi bs m hz hm;refine WV (∃(x y:ER),Γ= [NB (ki bD),Ê m,x,y]/\∀j b,j<i ->VQ bs b ->BTa) (AAT (fun j b hj=>Υ))
 ·rintro i d _ hi ⟨x,y,Β,hn⟩;show AX8 zwd hi;cases q:bs[i]? with
  | Η=>show BGY
  | Ε b=>
   rw[q] at hi;show AsR;have hil:i<JI:=OT q;have Kx:BTa ->∀j b',j<EZ ->VQ bs b' ->isIn m b' =AE:=fun hb j b' hj e=>by
    by_cases ej:j=i
    ·subst ej;show AFy q hb
    ·exact hn j b' Θ e
   refine A6c;cases b with
   | Η=>exact AAT (Kx Β)
   | Ε p=>
    show Tm ⟨m,p,Β,hm,hz _ (yX q) p Β,?_⟩ (AFn m p _ _);by_cases hw:AEn (Χ (m<p))
    ·show DU hw;have e:qb bs m=i:=zmy hn (fun b' hb' =>by rw[q] at hb';show AD hb' hb' hb' hb' hb' hb' hb' hb' hb' hb' hb' hb' hb' hb';exact hw) Θ
     rw[e] at h;rw[BJa];exact h
    ·show A7 hw;exact AAT (Kx (by simpa [isIn] using hw))
 ·rintro _ ⟨x,y,Β,hn⟩;show BQ (AXT (ş ki bD));rw[zve] at hn;rw[C8] at hn⊢;have e:qb bs m=JI:=zmy hn (MO (AMk hb)) (zN _)
  show Ak2
theorem zuc{x:Κ}:∀{g:Ρ},inD Ϻ (g.map .AX)=O0 (AYy)
 | []=>DL inD
 | y::g=>by
  have ih:=zuc (x:=x) (g:=g);unfold inD at ih⊢;show AjU ALx ih;by_cases h:y=x
  ·subst h;simp [eqD]
  ·have h' :¬x=y:=Au (h ABv);simp [eqD,h,h']
theorem zz1(g:Ρ):(g.map UB).all Iu=Μ:=mo BIh List.all_eq_true.mpr AJv
theorem zti{α:Ch}(f:AEz):ó (vD (EV fun x=> .bl (f x))=Ε Alc)
 | []=>Β
 | F_=>c8 vD (zti f l)
theorem GD{α:Ch}{DV:ADn}(f:AD_)(g:AD_):BQA (P [g a]) EV
 | [],_,_,h=>h
 | F_,P,k,h=>BCw GD
theorem zgq(Beu)(f g:AD_)(p:AEz):BQA (P (Afz p a [g a] [])) BRf
 | [],_,_,h=>h
 | F_,P,k,h=>k a zY _ (zgq f g p AUy (by
   rw[ku] at h;by_cases q:AO7
   ·rw[L3] at h⊢;exact h
   ·rw[TN] at h⊢;exact h))
theorem yna(CB Wg):Of z78:=by
 show AZw g hs;refine Aho (AH4 (.bl (O0 (AYy)))) x hx ?_
 ·refine CU Β (zz1 g);rw[zuc];exact hp
 ·refine i6 (zti _ hs);have e:(Oy (Tk (Χ AYy))).any id=eE g hs:=BLd
  show Zp e
theorem yfe{hs:Ρ}{h x:Κ}:x∈uG hs h↔x∈hs\/x=h:=by
 unfold uG;split
 ·exact⟨CS,Ps (by rcases q with q | Β;exact q;assumption)⟩
 ·show BTl
theorem z5y{hs:Ρ}{h:Κ}(nd:AK6):(uG hs h).OC:=by
 unfold uG;split
 ·exact nd
 ·show Ki;rw[AL'];exact ϯ nd (BEv (q (by rw[AY0] at e;exact e ▸ ha)))
theorem yc4(BAS):Sc uG hs h<=ASf+1:=by
 unfold uG;split
 ·show q_
 ·simp
theorem GF(Aqi){x:β}{l:RF}:(SC x:Sum α β)∈EV SC↔x∈l:=CL aE (AYD (fun⟨y,h,e⟩=>by show ANv;exact e ▸ h) (ZZ x h))
theorem Ny(BAS):lB (Oy C_) ą=O0 (wE):=by
 by_cases q:wE
 ·show A3m;exact wC.mpr (GF.mpr q)
 ·show AmO;cases z:lB (Oy SC) (SC h:Key) with
  | AE=>rfl
  | Μ=>show MT (GF.mp (wC.mp z)) q
theorem zyg(BAS):jQ (Oy C_) ą=(uG hs h).map C_:=by
 unfold jQ uG;rw[Ny];by_cases q:wE
 ·rw[AQN,ET,L3]
 ·rw[AQM,Aj2,TN,UP];rfl
theorem z8m{hs:Ρ}{xs:AR}{h:Κ}{d:D}(e:AX3 ASf):Sc uG hs h=VA (ig AQP xs ą d):=by
 unfold ig uG;rw[Ny];by_cases q:wE
 ·rw[AQN,ET,L3,AfC,C8,e,AMD]
 ·rw[AQM,TN,i5];simp [e]
structure Wu (Ξ:B7) (n:Δ) (ws:Ρ) (ps:AXv):Ι where
 len:BMH
 nd:pb
 lw:NS<=n
 pt:Bjg
 ex:BYq
theorem zk0{Ξ:B7}{r:Rw}{w:Κ}:gD Al6 w=BEK AM6 [r]:=by
 unfold gD;rw[AeD]
 congr 1
 show A5_
theorem z8g{Ξ:B7}{r:Rw}{w:Κ}:kW Al6 w=BEK Œ [Co]:=by
 unfold kW;show AJQ zk0
 congr 1
 show A5_
theorem z3k{Ξ:B7}{w:Κ}(h:¬(vj AOL)):BWF:=re AvI (fun r hr z=>h ⟨r,hr,BKm⟩)
theorem zx8{Ξ:B7}{r:Rw}{w:Κ}:yD Al6 w=BEK (Ŋ yD) [Co]:=by
 unfold yD;show AJQ AeD
 congr 1
 show A5_
theorem eO{Ξ:B7}{w h:Κ}:h∈Ŋ yD↔vj BEi:=by
 unfold yD;rw[aE];constructor
 ·show AJT r hr;show A8k hr;exact⟨r,h1,yB h2,e⟩
 ·rintro⟨r,h1,h2,e⟩;exact⟨r,AeC ⟨h1,BL3⟩,e⟩
theorem Wu.new{Ξ:B7}{ws:Ρ}{ps:AXv}{w:Κ}(B:Ay8)(hw:w∉ws):Wu Ξ BKg A7Y BVR:=by
 refine⟨DL xI,?_,C6 B.lw,Jn q v p h1 h2,fun u q v p h1 h2=> ?_⟩
 ·rw[AL'];exact ϯ B.nd (BEv (hw (by rw[AY0] at e;exact e ▸ ha)))
 ·by_cases hq:A3N
  ·rw[BLX] at h1;rw[ATO BSp] at h2
   exact B.pt q v p h1 h2
  ·have hl:q< VA A7Y:=OT h1;rw[P9,ATW] at hl;have hq' :q=NS:=Υ
   show Bb7
   simp at h1;simp [xI] at h2;subst h1 h2;refine⟨Β,DB,MZ,EX (BRS vy)⟩
   obtain⟨r,hr,e,_⟩:=eO.mp z;exact Ā (ı w).mpr A'T hw
 ·by_cases hq:A3N
  ·rw[BLX] at h1;show ND (ATO BSp) h2 (B.ex u q v p h1 h2)
  ·have hl:q< VA A7Y:=OT h1;rw[P9,ATW] at hl;have hq' :q=NS:=Υ
   show Bb7
   simp at h1;simp [xI] at h2;subst h1 h2;have:=z3k (Ξ:=Ξ) (w:=w) fun A'T=>hw ((ı w).mpr A'T);unfold kW;rw[Τ];rfl
theorem z3b{ws:Ρ}(nd:pb)(AoR)(hi:A0R)(hj:j<NS)(e:VY=ws[j]):i=j:=by
 show A3w nd;rcases BJQ i j with q | q | q
 ·exact gS e BXg q
 ·exact q
 ·exact gS kq (A6 j i hj hi) q
theorem Wu.put{Ξ:B7}{ws:Ρ}{ps:AXv}{r:Rw}{q:Δ}{p:Ρ×AR}(B:Wu Ξ BKg ws ps)(wm:Bfd (vj (B6=v)) B6)(h1:AWK B6)(h2:ACc ps p)(d:D)(hd:d= Af_):
  Qh Al6 ws (ps.set q (uG DJ Co,ig (Aid .BD) p.2 (FV Co) d)):=by
 obtain⟨b1,b2,b3,b4⟩:=B.pt q B6 p h1 h2;have hq:A3M:=OT h2;refine⟨CL BrM xI,B.nd,C6 B.lw,II v,Jn q' v p' e1 e2,fun u q' v p' e1 e2=> ?_⟩
 ·rw[wm v];constructor
  ·show A8Y r' h e e r' (zP _ h) e r DB kq
  ·show AJT r' h;rcases LO h with h | h
   ·exact CS ⟨r',h,e⟩
   ·rw[ł h] at e;exact C_ kq
 ·by_cases Ei:q=q'
  ·subst Ei;show Ayi h1;rw[ABY hq] at e2;show ny;refine⟨z8m b1,z5y b2,zO yc4 (DT b3),AkU⟩
   rw[yfe,zx8,ET,ASb,b4 h,ABG]
  ·show A5d Ei;obtain⟨c1,c2,c3,c4⟩:=B.pt q' v p' e1 e2;have hv:¬B6=v:=Au (by
    have l1:=(xh h1);have l2:=(xh e1);obtain⟨l1,l1'⟩:=l1;obtain⟨l2,l2'⟩:=l2;exact Ei Bhz)
   refine⟨c1,c2,C6 (BpX c3),AkU⟩
   rw[c4 h,zx8,Aj1,UK]
 ·have u0:Lu:=(BqX u).1;by_cases Ei:q=q'
  ·subst Ei;show Ayi h1;rw[ABY hq] at e2;show AD e2 e2 e2 e2 e2 e2 e2 e2 e2 e2 e2 e2 e2 e2;have ep:=B.ex u0 q B6 p h1 h2;have hn:Co∉DJ:=Au (by
    rw[ep] at z;obtain⟨r',hr',g1,g2⟩:=AK9 z;exact(BKP u).2.2 r' hr' r A1 ⟨g1,g2⟩)
   rw[z8g,zk0,ET,ET];unfold uG ig;rw[Cc hn,Ny,al hn,i5,ep,hd,UP]
   rfl
  ·show A5d Ei;have hv:¬B6=v:=Au (by
    have l1:=(xh h1);have l2:=(xh e1);obtain⟨l1,l1'⟩:=l1;obtain⟨l2,l2'⟩:=l2;exact Ei Bhz)
   rw[z8g,zk0,Aj1,Aj1,UK,UK];exact B.ex u0 q' v p' e1 e2
theorem zuy{ws:Ρ}(nd:pb):ϟ Os AXt:=by
 unfold BIx;rw[Ae8];exact nd.imp fun h z=>h Az0
theorem ycq(CB T3):ARP ztr 5:=by
 show AAi Ξ hl;have s1:=vU;intro as;refine WV (BpR i) ?_
 ·exact⟨as,[],[],_,_,_,⟨Β,DB,DB,GV (BRS (fun⟨r,hr,_⟩=>by(simp at hr))),fun q w p e=>(by simp at e),fun _ q w p e=>AZu⟩,Β⟩
 ·rintro i d _ hi ⟨as,ws,ps,x,y,z,B,Β⟩;have hi' :i<jp:=vc o6
  show Ape tk (xL Db=AwI++ [Ť]) A7p
  show FY A_ (D_ xL i=i) BMf EC (∀as ws ps,Wu Aic (A9_+1) ws ps ->(Bfd (∃r∈AwI,B6=v) ADg) ->
    yv zhq {nx:=BUW,ct:=BUW,bk:=fun Γ=>(yv zoa (Cr Q) Γ),rt:=tj,rT:=Mz Q} [tS,AC_ AxS,OW ADg,OW Ť.2.1,ES Ť.2.2]) (by
   intro as ws ps B wm;have hm:ADg∈ws:=(wm _).mpr (FV Β);show BU q hq eq ATv hm;have Bz:A3M:=Nw xI hq
   have e1:AWK ADg:=IC (zS hq) eq
   have e2:ACc ps ps[q]:=zZ Bz;show GB b1 b2 b3 b4 (B.pt q _ _ e1 e2);have BW:=B.put wm e1 e2 (GM Ť.2.2) Β;rw[<- tk] at BW;refine⟨A1H,.BD Ť.2.1,as,AFO,A5I,q,(ps[q].1).map C_,ps[q].2,Β,Β,Β,zuy B.nd,AZn e1,AZn e2,ϵ,?_⟩
   refine⟨as,ws,_,OW ADg,OW Ť.2.1,ES Ť.2.2,BW,?_⟩;rw[zyg,List.map_set]
   rfl) ⟨Β,Β,A1H,as,AFO,A5I,Β,Β,?_⟩;rw[Ny];by_cases hw:ADg∈ws
  ·show AYI hw;refine EC as ws ps ⟨xI,B.nd,BpX B.lw,B.pt,B.ex⟩ (II v);rw[ı v];exact⟨CS,Au (by rcases z with z | Β;exact z;exact(ı _).mp hw)⟩
  ·show Az8 hw;refine⟨A1H,as,AFO,A5I,Β,Β,IC Ny (al hw),BOF B.lw,II cs⟩
   have:=EC A6X (ws++ [ADg]) BVR (Wu.new B hw) fun v=>by
    rw[ASb,ı v,ABG]
   show ng UP UP;exact Τ
 ·rintro _ ⟨as,ws,ps,x,y,z,B,Β⟩;show BXX xL ħ zu Ξ
  rw[e] at B;exact h ws ps B
theorem zxy:∀xs:Ρ,wF Ak4=Ε xs
 | []=>Β
 | WO=>by rw[GL];unfold wF;rw[zxy xs];rfl
theorem yjx{xs U:Ρ}(h:AAc xs):D_ uw xs<=Ņ:=Hr (zth xs) (AQu (h x (BR.mp hx)))
theorem yky{xs U:Ρ}{P:c0}(h1:By<4095)(h2:A9Q)(h3:AAc xs)(h:Bcy (A8x xs)):zv9 [gl xs] P:=
 ⟨xs,zxy xs,h1,zL (yjx h3) Θ,h⟩
theorem zfp{p:AEV Ρ}:∀fs:N1,BW1 AUI p
 | []=>DB
 | pE=>by
  have:=zfp (p:=p) fs;rw[ku];split<;>simp only [Afh,P9]<;>(show qr)
theorem zw2(fs:N1)(i:Δ):BW1 ASz i:=by
 conv=>rhs;rw[<- AiO fs,AeF,P9]
 show AF
theorem yc2(CB zij):SY zyp 5:=by
 obtain⟨fs,hs,U,Β,hl,hfl,hU,u1,u2,h⟩:=h;have line:ACS 8000:=B'
 refine zgq gl gl BRW (AJ1 f hf) ?_
 ·show Tm (KW f hs ?_) (JU (! ANX) (P [gl f]) í);show A_0 (AEn ANX) L3 TN
 ·refine WV (∃x,Γ= [BPq,.pu (gl hs),NB (C4 AUI (fun f=> ! ANX) gl),.ow ((hs++ ((ASz i).ĭ Amm).flatten).map .AX),x]) ⟨B8,by simp [gl];rfl⟩
  ·rintro i d _ hi ⟨x,Β⟩;have hi' :i<ALQ:=vc o6
   show Ape tk (ASz Db=ASz i++ [AJf]) A7p
   show Tm (KW AJf hs ?_) (if AbH AJf then _ else _);by_cases q:AbH AJf
   ·show DU q;refine⟨E7,?_,.pu (gl AJf),?_⟩
    ·have h1:=zfp (p:=Amm) (ASz Db);have h2:=zw2 fs Db;rw[tk,AeD,AeF,P9] at h1;simp only [ku,q,xx,BHS,Afh,Bqa,UK] at h1;rw[tk] at h2;show AIQ P9 C8;show AF
    ·show BYy;show Beh xx BHS Afh;rw[<- Ŀ,UP (l₂:=AJf)]
     rfl
   ·show A7 q;refine C5 (.pu (gl AJf));show BYy;show Beh Ae6 ALw BHS
    rfl
  ·show Ajb x;show BXX ASz Aeb gl fs
   rw[e];have hx:Af' (hs++ (AUI Amm).flatten) (x∈hs\/ApG (AbH f/\AP3)):=Tk (by
    rw[ASb,List.mem_flatten];constructor
    ·rintro(a | ⟨f,hf,a⟩)
     ·exact CS a
     ·show A8k hf;exact C_ ⟨f,h1,h2,a⟩
    ·rintro(a | ⟨f,h1,h2,a⟩)
     ·exact CS a
     ·exact C_ ⟨f,AeC AnW,a⟩)
   unfold zrc;dsimp only [aD,bA,cC,cV,cB,cT,jB,sV,iC,d9,jY,gC,sW,ak,aj,cP,fG,dO,fL,aW,gY,cO,aR,cQ,L',fJ,aY,fK,jG,jZ,aA,cU,je,gM,cR,gq,cW,dN,cj,j4,ud,vA,rC,xZ,uU,jH,mC,pU,cM,wI,sX,uf,mV,yc,yd,cX,lV,gZ,jJ,lW,LT,Mo,My,NN,LW,fV,kY,rE,vC,qN,pB,qF,lX,fW,dG,jK,qG,rF,vG,iR,rH,dw,dY,um,yh,uh,lY,lZ,iL,dR,gH,kZ,dH,MA,NM,KP,MB];refine yky (U:=U) ?_ hU (TM x q) (UT ms s2)
   ·have:=zfp (p:=Amm) fs;rw[P9];show AF
   ·rcases(hx x).mp q with a | ⟨f,h1,_,a⟩
    ·exact u1 x a
    ·exact u2 f h1 x a
   ·refine AYw (AHd 1)
    ·have:=Afe BRW fs;show Pf;show AF
    ·have:=h ms s1 fun x=>TL s2 x (hx x);show Aad UP
theorem Nz{g:Ρ}(h:AWN g.Pairwise):g.Nodup:=h.imp fun{a b} q z=>(A_o zzh)
theorem Wv(a b:Κ)(h:AUl):¬(ŕ b a):=ϒ z3z h zJ
theorem z34{Ξ uY :B7}{Ss LR :N1}(F:Fam Ξ Ss)(F' :Fam uY LR)(e:BpF):A'd :=fun S hS=>by
 show Ct r hr k F.of S hS;obtain⟨S',hS',k'⟩:=F'.to r ((e r).mp hr);refine⟨S',hS',II x⟩;rw[k x,k' x,eO,eO];exact⟨Bd5 ((e r).mp h),Bd5 ((e r).mpr h)⟩
theorem Gw.sub(BeY):Abe (m∈vV) :=Ahm (by
 show AKr h.pi;obtain⟨LR,F',p'⟩:=h'.pi;obtain⟨m',hm',k⟩:=p.same p' (z34 F F' e) (z34 F' F (Pc (dA e r))) hm;rw[V1 Wv (h.sr m hm) (h'.sr m' hm') k];exact hm')
theorem Gw.uniq(BeY):ms=vV :=
 V1 (R:=fun a b=>BCS) (fun a b q=>Wv _ _ q) h.up h'.up fun m=>⟨h.sub h' e m,h'.sub h (gL (dA e r)) m⟩
theorem ygw{f:Ρ}(h:f≠ []):hdS f∈f:=by
 cases f with
 | D8=>show AFL h
 | AY x f=>exact zY
theorem z10:∀{fs:N1},(Abn (f≠ [])) ->A_3 ->ϟ Aeb hdS
 | [],_,_=>DB
 | pE,ne,d=>by
  rw[AL_] at d;rw[GL,Ae7];refine⟨vy,z10 (fun g hg=>ne g (zW _ hg)) d.2⟩;show à g hg (ko z);exact d.1 g hg (hdS f) (ygw (ne f zY)) (e ▸ ygw (ne g (zW _ hg)))
theorem ybn:NA fs N1 (Abn (f≠ [])) (ALQ<=Asj)
 | [],_=>DB
 | pE,ne=>by
  have:=ybn (fs:=fs) (AMz g hg ne g hg);have h1:0<xC:=AGQ (ne f zY);rw[H_,Afh,P9];show AF
theorem z2w(BjF)(p:ARS)(h:AWt (AAc S)):AbA (AAc f):=fun f hf x hx=>by
 show BU S hS q (p.co x).mp A6u;exact h S hS x q
theorem z3x(BjF)(p:ARS)(nd:AbA f.Nodup)(h:AWt (AAc S)):Asj<=Ņ:=
 Hr (zi5 p.dj nd) (AQu (by
  show AYX f hf q hx;exact z2w p h f hf x q))
theorem Uc:∀l:AR,jg (ŏ EV)=l
 | []=>Β
 | d::l=>by rw[GL];unfold jg;rw[Uc l];rfl
theorem zmf{α:Ch}(f:α ->T):BTb jg (Tk (toD (f x)))
 | []=>Β
 | d::l=>by rw[GL];unfold jg;rw[zmf f l];rfl
theorem ycu(hs:Ρ):BfW:=AZO
theorem yfa(CB ziw):ARP zwq 3:=by
 obtain⟨Ξ,U,Β,hl,hU,hu,h⟩:=h;refine⟨MZ,Ξ,Β,hl,As ws ps B⟩;have hpU:VS ps (((DJ).OC/\DJ≠ []/\AAc DJ)/\BTR DJ):=õ (by
  show Bdj hp;have Bz:A3N:=CL xI hq
  obtain⟨b1,b2,b3,b4⟩:=B.pt q _ p (zZ Bz) BTf
  obtain⟨r,hr,er⟩:=(ı ws[q]).mp (yV Bz);refine⟨⟨b2,vy,AoH⟩,r,hr,Tk (mo er b4 x)⟩
  ·have:=(b4 Co).mpr (AtG ⟨r,hr,er,Β⟩);show D5 z;show LH
  ·obtain⟨r',h1,_,h3⟩:=eO.mp ((b4 x).mp hx);exact h3 ▸ hu r' h1)
 have few:∀i,∀S∈ C4 AtF i (·.1),AAc S:=fun i S hS x hx=>by
  show Ů p hp hS;exact(hpU p (ASp hp)).1.2.2 x hx
 refine WV (∃fs x,oA ((ps.take i).map (·.1)) fs/\ (Abn (AWN f.Pairwise))/\Γ= [tS,BPq,x]) ⟨[],_,C6 oA.nil,ARl (by(show AA_)),Β⟩
 ·rintro i d _ hi ⟨fs,x,p,sr,Β⟩;rw[zmf] at hi;have hi' :i<LP:=vc o6
  show Ape tk (AtF Db=AtF i++ [WI]) A7p
  obtain⟨⟨q1,q2,q3⟩,_⟩:=hpU WI (yV hi');have l1:=Hr q1 q3;have l2:=z3x p BUb (few i);have l3:=ybn p.ne;refine⟨fs,WI.1,U,?_,Υ,Υ,hU,q3,z2w p (few i),As g g1 g2⟩
  ·rw[ycu];rfl
  ·refine⟨Apl (eE f WI.1),_,?_,Cb f hf,Β⟩
   ·show AJQ tk;exact p.step q2 g2
   ·rcases LO hf with hf | hf
    ·exact sr f (AYi hf)
    ·show lf hf;exact g1
 ·rintro _ ⟨fs,x,p,sr,Β⟩;have e:AtF (D_ jg (LV Gx))=ps:=BLw zmf yY
  rw[e] at p;have ab4 :∀S∈LV (·.1),AAc S:=ACf (few LP) yY
  have l2:=z3x p BUb ab4;have l3:=ybn p.ne;refine⟨fs,Β,p.ne,z10 p.ne p.dj,Υ,fun ms pm up=>h ms ⟨Ahm (sr m (BHW hm)),up,_,So (Cb S hS) r hr,p.perm pm⟩⟩
  ·show Ů p hp hS;exact(hpU p hp).2
  ·have hw:=(ı B6).mpr (ZZ r hr);show Bdj hw;have Bz:A3M:=Nw xI hq
   obtain⟨b1,b2,b3,b4⟩:=B.pt q B6 ps[q] BTf (zZ Bz)
   exact⟨ps[q].1,ASd (N0 (yV Bz)),b4⟩
theorem q27{q z k:AL}(k0:k≠0)(e:q*k=z):q=z/k:=by rw[<- e,M0,ye,BKa k0,AMK]
def GZ(B:Δ)(q:AL):Ι:=∃z:AB,q*27720=BB z/\A3v
theorem GZ.add(Bbr):GZ (A+B) (p+q):=by
 obtain⟨a,ea,ha⟩:=h1;obtain⟨b,eb,hb⟩:=h2;refine⟨a+b,?_,AqW Ae3 ha hb⟩;rw[AvG,<- ea,<- eb];grind
theorem GZ.sub(Bbr):GZ (A+B) (p - q):=by
 obtain⟨a,ea,ha⟩:=h1;obtain⟨b,eb,hb⟩:=h2;refine⟨a - b,?_,AqW Bpu ha hb⟩;rw[AUH,<- ea,<- eb];grind
theorem GZ.mono(Ah5){q:AL}(h:GZ A q)(l:A<=B):AO8:=by
 show RE a ea ha;exact⟨a,ea,zO ha l⟩
theorem yco{B:Δ}:BAr AO8 (GZ (IR*B) (gJ qs))
 | [],_=>⟨0,ϊ gJ,DB⟩
 | q::qs,h=>by
  refine((h q zY).add (yco AnQ)).ń ?_;show A6R;show AF
theorem Ud(o5)(h1:1<=n)(h2:n<=12):n* (27720/n)=27720:=by
 match n,h1,h2 with
 | 1,_,_=>rfl
 | 2,_,_=>rfl
 | 3,_,_=>rfl
 | 4,_,_=>rfl
 | 5,_,_=>rfl
 | 6,_,_=>rfl
 | 7,_,_=>rfl
 | 8,_,_=>rfl
 | 9,_,_=>rfl
 | 10,_,_=>rfl
 | 11,_,_=>rfl
 | 12,_,_=>rfl
theorem z9d{t:AB}{n B:Δ}(h1:1<=n)(h2:n<=12)(ht:Afc<=B):AQh B (YN t (MC n)):=by
 have e:=Ud h1 h2;have n0:ACw n≠0:=Au (by
  have:n=0:=ý z
  show AF)
 refine AYw (t* FA (27720/n))
 ·have e' :BB 27720=ACw n* ACw (27720/n):=ý kq
  rw[e',PQ,M0,ye,<- ye (Inv.inv (ACw n)),AJZ n0,BHK]
  rfl
 ·rw[Ľ];refine Ac4 ht ?_;rw[Bp_];exact Nat.div_le_self _ _
theorem yg9{t:AB}{B:Δ}(ht:Afc<=B):AQh B (BB t):=by
 refine CU (t*27720) (YE PQ)
 rw[Ľ];exact Ac4 ht (zN _)
theorem yju{B n:Δ}{q:AL}(h:AO8)(hB:B<2^n):dD ACI<=n/\dD AJY<=15:=by
 show RE z e hz;have eq:q=BSc:=q27 Φ e
 have b1:dD z<=n:=lU Θ
 have f:=BXo Φ
 have e1:(fr z 27720).1=_:=BOZ;have e2:(fr z 27720).2=_:=BOa;show A9T;rw[eq];refine⟨zO (MJ ?_) b1,zO (BUY ?_) (lU Φ)⟩
 ·rw[<- e1];exact yhr Φ
 ·rw[<- e2];exact yhn Φ
theorem Ww{B n:Δ}{q:AL}(h:AO8)(hB:B<2^n)(hn:15<=n):Sz n q:=⟨BZW,zO (yju h hB).2 hn⟩
theorem NK{B n:Δ}{q:AL}(h:AO8)(hB:B<2^n)(hn:n<=128):SzE q:=by
 refine C5 (zO BZW hn);show RE z e hz;have eq:q=BSc:=q27 Φ e
 have f:=P6 BKF (BXo Φ)
 dsimp only at f;rw[eq,<- f];exact⟨dv z 27720,CL Afb (VN z 27720).kA⟩
theorem ykh(o5)(h:1<=n):qD (Aoc n)= AP' Kj n:=by
 have f:=Zo (t:= -1) (b:=Lw) Θ
 have e1:(fr Kj Lw).1=_:=BOZ;have e2:(fr Kj Lw).2=_:=BOa;show A9T;have g:dv Kj Lw=1:=by unfold dv;show A7 Θ;simp
 have t1:=z3o Kj Lw;have t2:=VN Kj Lw;rw[g,Int.one_mul] at t1 t2;unfold qD;have c:(Aoc n)=AVb (-1) (FA n):=Β;rw[c,<- e1,<- e2,t1,t2]
theorem z61{α:Ch}(f:G_):ó (gJ Alc=dl)
 | []=>Β
 | F_=>AlC (f a+gJ (EV f)=f a+dl) (z61 f l)
theorem ybs(AqI):Gp (AHR Qi)=Ε ((kW Ξ w).map C_,Ahy AIm):=Β
theorem zwh(CB Qj):Of zjs:=by
 obtain⟨Ξ,ws,h0,Β,h⟩:=h;refine zgq Ax3 Ax3 (VV (Χ ů)) (AJ1 w hw) h;refine⟨_,_,.BD h0,AYz,Β,?_⟩;rw[Ny];show A_0 ů AQN AQM
theorem Ku(BWN){w:Κ}(h:AQZ):1<=AJ5/\ AJ5<=12:=CL Tz ⟨BKd,L.wk w⟩
theorem ykd(CB zkw):SY z3h 5:=by
 obtain⟨Ξ,ws,h0,o0,Β,L,⟨W1,W2⟩,h⟩:=h;have s1:=vU;refine⟨Ξ,ws,h0,Β,Ξ,AGV (VV (Χ ů)),o0,Β,?_⟩
 let both:=(AGV AQ9).ĭ (GV (Χ AxF))
 have hb:∀w∈both,AQZ:=fun w hw=>W2 w (AYi (AYi hw));have hbl:AeI<=200:=zO (zO AZT (Afe _ _)) W1
 let f:D3:=GV (Aoc AJ5)
 have gz:∀w∈both,GZ 27720 (f w):=ϗ (by
  have:=z9d (t:= -1) (B:=1) (Azm hb) (Ku L (hb w hw)).2 Φ
  show D5 AMG;exact Τ)
 show FL gs (BUE A3L AS2) (iP (by
  refine(yco AXj).ń (Bgc BNE hbl)
  show AWW w hw BS6;exact gz w hw)) e2 (gJ (AS2 f)=aC ws (GV (X_ A9K (f w)))) (by
  rw[z61];rw[Mf,Mf];refine AQr w;by_cases q1:ů
  ·by_cases q2:AxF<;>simp [q1,q2]
  ·simp [q1]) e3 ((aC Pi (AMh (h0∈s/\o0∈s) AmP))= - BAo) (by
  rw[e2,Mg];have: - (aC ws (GV (X_ A9K (f w))))=aC ws (GV (Kj* (CD A9K (f w) 0))):=AAe Ma
  rw[Τ];refine AQr w;split
  ·show BQ (1/ BB (MC AJ5)=Kj* (Aoc AJ5));rw[M0,M0];have:OR (-1)= -1:=Β;rw[Τ];grind
  ·grind) pw (∀n,23<=n ->200*27720<2^n) (fun n hn=>zM (AZB (200*27720<2^23)) (Asb Φ hn))
 refine BeO (AP' Kj (FA AJ5))
 ·refine⟨_,_,AYz,wb,?_⟩
  rw[C8];exact hp
 refine BkN AS2 ?_
 ·show AjV;refine BnZ (FI [eK z]) (Cb w hw);exact dA ykh (Azm hb)
 ·show Aqm;exact Ww (gz w hw) A8y Φ
 have gt:=gs BNE;rw[yY] at gt;refine AkK
 rw[Ua];by_cases q:h0=o0
 ·subst q;show AYI Β;show FY eb (AeI=D_ AGV AQ9) (by
   show D_ (AGV AQ9).ĭ AQ9=_;rw[Ac6];simp) ec (jC Pi h0=BMN) (by
   unfold jC;rw[Mg,eb];show Bjz AQ9;rw[Mf] at Τ;rw[AMK] at Τ;show ú;exact nC (BPp ů)) ⟨wb,BLO,BAo,?_,?_,Ww gt Boq Φ,?_⟩
  ·rw[Qd,C8]
  ·exact BZM (zL (JY (g9 (FA AeI)<=200*27720)) (pw 4000 Φ))
  ·have:BLO+BAo=gB Pi h0 h0:=by
    unfold gB;rw[ET,e3,ec];show BMN+_=_
    grind
   show Zp Τ
 ·show AmO;have:gJ (AS2 f)=gB Pi h0 o0:=by
   unfold gB;rw[Cc q,e3];grind
  rw[Τ];exact h
theorem ye7(CB ziv):v_ zxk:=by
 obtain⟨Ξ,ws,m,h0,Β,L,W,h⟩:=h;refine GD UB (BA o (ASK h0)) (AJ1 o ho) h;exact⟨Ξ,ws,h0,o,Β,L,W,hp⟩
theorem zyj{α:Ch}(f:α ->AB):ó (oM (EV fun a=> .AU (f a))=Ε Alc)
 | []=>Β
 | F_=>by unfold MA oM;rw[zyj f l];rfl
theorem zuf{α:Ch}(f:α ->AB):ó (OR BPb=AJw (BB (f a)))
 | []=>Β
 | F_=>by
  rw[GL,Bqb,AvG,zuf f l];rfl
theorem z0w{α:Ch}(f:α ->AB){B:Δ}:Ab7 ((f a).ACH<=B) (g9 (BPb)<=HE*B)
 | [],_=>DB
 | F_,h=>by
  have h1:=h a zY;have h2:=z0w f (l:=l) (AP1 AHe);rw[GL,Bqb,H_,BKG,AMG,BqH];exact AqW Ae3 h1 h2
theorem z06(CB zd7):AJp zog:=by
 show AFi Ξ w L ne;have hp:=AGQ ne;have h12:=L.wk w;refine⟨_,_,Ahy (gL fb),AYz,zyj _ _,_,_,AYz,_,_,Β,?_,?_,?_⟩
 ·have:=BmB;refine AOQ 104 (zL Τ ?_)
  exact zL BRh Φ
 ·rw[C8,Tz];exact AOQ 4 Θ
 ·show APV Tz vx zuf
  exact h
theorem yfs{L:B7}{h:Κ}:iu (ay (Pc (.BD Co))) (ay AIm) ą=C4 L.find? A'6 AIm:=by
 induction L with
 | D8=>rfl
 | AY r L ih=>
  show AjU GL At';unfold iu;by_cases q:Co=h
  ·rw[DZ (by rw[q]),AQN];rfl
  ·rw[Cc (FI (q Az0)),AQM];exact ih
theorem z6c(BWM)(Bce):vj (B6=w/\Co=h/\iu (Amg .BD) (Aaa AIm) ą=Ε (GM fb)/\Ai0 h=ADH):=by
 obtain⟨r,hr,e1,e2⟩:=AK9 hh;refine⟨r,hr,e1,e2,?_,?_⟩
 ·unfold kW;show AjV;have:=yfs (L:=AM6) (h:=h);refine(?_:iu (Aaa (Pc (.BD Co))) _ _=_);rw[Τ];cases q:(gD Ξ w).find? A'6 with
  | Η=>
   have:=Bp0 q r (Ac5 ⟨hr,e1⟩);simp [e2] at Τ
  | Ε s=>
   have s1:=AK8 (Bpy q);have s2:YU=h:=C6 (Bpz q)
   rw[ylp u s1.1 hr ((s1.2).Ff e1.symm) (ĺ e2.symm)];rfl
 ·have:=Tw u hr;show ng e1 e2;exact Τ
theorem Qo(BX7):dg ŭ (AHR yW)=ANx (gL ADH):=by
 unfold dg;rw[Tz,ygt]
 congr 1
 refine AKe;have:=Tw u Ai8;show D5 AnE;rw[Τ]
theorem yak(BWN){w:Κ}(ne:AQZ):AQh (2^104) (ANx (gL ADH)):=by
 have hp:=AGQ ne;have h12:=L.wk w;have:=BmB;rw[<- zuf];refine z9d hp h12 (zO Τ (zO BRh Φ))
theorem z9e{Ξ:B7}(u:Lu)(L:t7)(Bce):AQh (2^105) (Ai0 h - dg ŭ (AHR yW)):=by
 obtain⟨r,hr,e1,e2,_,ey⟩:=z6c u hh;rw[ey,Qo u];have ne:AQZ:=Au (by
  have:=Ac5 ⟨hr,e1⟩;show D5 z;show LH)
 exact((yg9 (B:=2^104) (zO (AGb (L.mm r hr)) Φ)).B_ (yak L ne)).ń Φ
theorem yfo(CB zh1):Of zxz:=by
 obtain⟨Ξ,ws,h0,Β,u,L,⟨W1,W2⟩,h⟩:=h;have s1:=vU;have pw:∀n,128<=n ->200* Al0<2^n:=fun n hn=>zM (AZB (200* Al0<2^128)) (Asb Φ hn)
 let wh:=AGV AQ9
 have Qp:∀w∈wh,w∈ws/\ů:=ϗ ⟨AYi hw,Azj (ASt hw).2⟩
 let f:D3:=GV (Ai0 h0 - dg ŭ (AHR yW))
 refine⟨Ξ,ws,h0,Β,?_⟩;refine BeO (qD (f w))
 ·obtain⟨r,hr,e1,e2,lk,ey⟩:=z6c u (AJM Qp);show BG ⟨_,_,.BD h0,Af_,AYz,Β,lk,wb,Ξ,w,Β,L,W2 w (Qp w hw).1,?_⟩ ⟨OR fb,_,NH Qd,?_,Ww (yak L (W2 w (Qp w hw).1)) A8y Φ,?_⟩
  ·exact Bea
  ·rw[<- Qo u,<- ey];exact hp
 ·have gs:BUE (200* Al0) AtI:=iP (by
   refine(yco AXj).ń (Bgc (D_ AtI f) (zO AZT W1))
   show AWW w hw BS6;exact z9e u L (AJM Qp))
  refine BkN AtI AZO
  ·show Aqm;exact Ww (z9e u L (AJM Qp)) A8y Φ
  ·have:gJ (AtI f)=oE AM8 AgY ws h0:=by
    rw[z61];rw[Mf];exact nC (FR w (by by_cases q:ů<;>simp [q,f]))
   show Zp Τ
theorem zvj{α:Ch}{B:Δ}{f:G_}:Ab7 (GZ B (f a)) (GZ (HE*B) (aC l f))
 | [],_=>⟨0,Al7,DB⟩
 | F_,h=>by
  refine((h a zY).add (zvj (AP1 AHe))).ń ?_;show A6R;show AF
theorem zq4(B:Δ):GZ B 0:=⟨0,P2,DB⟩
theorem yg2{Ξ:B7}{ws:Ρ}(W:AOv)(h:Κ):GZ A3L (jC Pi h):=by
 unfold jC;rw[Mg];refine BFe 27720 _;split
 ·have:=yg9 (t:=1) (B:=1) Φ
  show Aad AMG
 ·exact zq4 _
theorem yf7{Ξ:B7}{ws:Ρ}(L:t7)(W:AOv)(h o:Κ):AQh 400 (gB Pi h o):=by
 have g1:AQh 200 (CD (h=o) (jC Pi h) 0):=by
  split
  ·exact yg2 W h
  ·exact zq4 _
 have g2:GZ A3L (aC Pi (AMh AR8 AmP)):=by
  rw[Mg];refine BFe 27720 hw;split
  ·have:=z9d (t:=1) (B:=1) (Azm W.2) (Ku L (W.2 w hw)).2 Φ
   show Aad AMG
  ·exact zq4 _
 exact(g1.sub g2).ń Φ
theorem yjl{Ξ:B7}{ws:Ρ}(u:Lu)(L:t7)(W:AOv)(h:Κ):GZ (200* Al0) ASP:=by
 refine BFe (2^105*27720) _;split
 ·show Ki;exact z9e u L q
 ·exact zq4 _
theorem zvh(Aqi) [Ac1 α](g:Akd)(l:DE):EV g=b9 HE (Fs (g (OK j bP))):=by
 show oC
 ·simp
 ·show AFr;show BRD;have hi:Axt:=C6 h1
  show AEW ui;rfl
theorem ydj(x:D)(xs:AR):PP AKT AIT Η=xs:=by
 show AFx;simp
theorem zo2(CB zb0):SY zgl 5:=by
 obtain⟨Ξ,ws,m,Β,S,L,W,ne,m12,h⟩:=h;have s1:=vU;obtain⟨h0,hs,em⟩:∃h0 hs,m=h0::hs:=by
  cases m with
  | D8=>show AFL ne
  | AY a b=>exact⟨a,b,Β⟩
 have hn:Kk=ASf+1:=AZP
 have gs:∀i,Ĥ Db bP=hs.getD i bP:=FK AZP
 have ct:PP (jv UB) AIT Η=Oy UB:=CL em (ydj _ _)
 let A:=pF Ξ ws m
 refine(?_:Bao);rw[ct];refine BDQ (AQJ (Ű (ASK h))) ⟨Ξ,ws,m,h,Β,L,W,hp⟩;show AJl Bao ct (BDQ (qD ASP) ⟨Ξ,ws,h,Β,S.u,L,W,hp⟩);have ec:∀h,jC Pi h=OR (D_ AGV A3o):=EX (by
  unfold jC;rw[Mg];show Bjz A3o;show ng Mf AMK;refine AHA ?_ Τ;exact nC (BPp AIH))
 show BQ (ŉ zey [Aah,.pu (yE Ξ ws),NB (Oy (EX (AQJ (Ű (ASK h))))),NB (Oy (EX (qD ASP))),B8]);show Ă (dU _ (jv UB) _) (BDQ BZ6 ?_)
 ·refine⟨Ξ,ws,h,Β,wb,?_⟩
  rw[ec,Qd] at hp;show Pf;exact hp
 unfold zfe;dsimp only [aD,bA,cC,cV,cB,cT,jB,sV,iC,d9,jY,gC,sW,ak,aj,cP,fG,dO,fL,aW,gY,cO,aR,cQ,L',fJ,aY,fK,jG,jZ,aA,cU,je,gM,cR,gq,cW,dN,cj,j4,ud,vA,rC,xZ,uU,jH,mC,pU,cM,wI,sX,uf,mV,yc,yd,cX,lV,gZ,jJ,lW,LT,Mo,My,NN,LW,fV,kY,rE,vC,qN,pB,qF,lX,fW,dG,jK,qG,rF,vG,iR,rH,dw,dY,um,yh,uh,lY,lZ,iL,dR,gH,kZ,dH,MA,NM,KP,MB];have l1:ASf<=1000:=Υ
 refine⟨AHd 1,BOE,wb,AHd 1,BOE,?_⟩
 have aah:A4W (ApI (A i) (AQJ (Ű BgL))):=Rl (by
  unfold qO;rw[zvh (BA o BgL) m];refine A8I ARp;refine(?_:qD (pF Ξ ws m i j)=_);unfold pF;rw[uS XX hj])
 show FY idx (Y' Kk (AeK A_a=j)) (iE (mi QQ Akt (S.nm.idxOf_getElem j hj))) conv (∀(X:dS) i,A6q (AQO*X j) (eF Kk (Fs (AQO*X (AeK A_a))))) (fun X i=>Qe fun j hj=>(NH (idx j hj))) ⟨Kk,A,⟨?_,m12,M' i j hi hj⟩,Jn y k hk y1 hy,As X hX hsz⟩
 ·have t1:Kl Kk Kk A= .DC ([AQJ (EX BZ6)]++Oy (EX (AQJ (Ű (ASK h))))):=by
   unfold Kl;rw[hn,AuU,GL,NV,<- hn,aah 0 Θ]
   rw[zvh (TK (eK (jv (Ű (ASK h))))) hs];refine P6 eK ?_;show BG (?_:EF=EF) BQ1;have hi' :=XX hi;refine(?_:ApI (A Db) _);rw[aah Db Θ]
   refine A8I (Cb o _);rw[Cc Θ,gs]
  have t2:ApI (sx (A i Kk)) (.DC ([.Dx Awl]++Oy (EX (qD ASP)))):=by
   unfold qO;rw[hn,AuU,GL,NV,<- hn];rw[zvh (TK (qD ASP)) hs];have a0:A 0 Kk=OR 0:=by
    show B1 (BNe 0=_);unfold pF;rw[Apt,ET];rfl
   show BG (P6 eK ?_) (?_:qD (A 0 Kk)::_=EF);rw[a0,Qd];refine BQ1;refine(?_:qD (pF Ξ ws m Db Kk)=_);unfold pF;rw[Apt,vx,gs]
  rw[t1,t2]
  rfl
 ·show BQ (SzE (pF Ξ ws m i j));unfold pF;split
  ·show BS_ (NK (yg2 W _)) 23 (NK (yf7 L W _ _)) 24
  ·show BS_ (NK (zq4 0)) 1 (NK (yjl S.u L W _)) 128
 ·have z:=S.null (TK (y (AeK h))) (U' hi (by
   have:=hy i hi;show D5 conv;exact Τ)) (Ĥ k bP) (ZG hk)
  rw[idx k hk,y1] at z;exact cf z Φ
 ·have a:=S.ans (TK (X (AeK h))) (U' hi (by
   have:=hX i hi;show D5 conv;exact Τ))
  have e:ApI X (AQJ (EX BSC)):=by
   unfold qO;rw[zvh (TK BSC) m];exact A8I (BS9 idx)
  rw[e];show AKs hsz;exact h _ a.1 a.2 ⟨d,d0,bd,fun g hg=>hd _ (List.idxOf_lt_length_of_mem hg)⟩
theorem zt6(o5)(a b:B7):nu (n+2) (eG a) (eG b):=by
 show AGM;rw[FS] at h1 h2;cases q1:a[i]? with
 | Η=>show Acy
 | Ε u=>
  cases q2:b[i]? with
  | Η=>show Lc q2 h2 h2 h2 h2 h2 h2 h2 h2 h2 h2 h2 h2 h2 h2 h2
  | Ε v=>
   rw[q1] at h1;rw[q2] at h2;show AsQ;show AK0;show AcU
   match j with
   | 0=>show BDk
   | 1=>show BDk
   | 2=>show BDk
   | j+3=>simp at g1
theorem yj7(ms:N1):toD (FF (uA eg gl))= PV eg gl:=BSA
theorem Gw.sys(A'c)(G:APH)(u:Lu){m:Ρ}(hm:m∈ms):(AVK Bnw)/\∀ws:Ρ,pb ->(AW3 ws (∃r∈ApU,AOL)) ->wO ě ws m:=by
 show AKr G.pi;have cl:A2I:=fun r hr hh h hk=>by
  show Ct S hS e F.to r hr;show BYL;have h1:Co∈f:=B_ _ ((e _).mpr (AtG Bou));have h2:h∈f:=B_ _ ((e _).mpr hk);rw[Zr p.dj hm hf hh h1];exact h2
 refine⟨cl,fun ws nw hw=>⟨u.M m,nw,ZE ((hw _).mpr (ZZ r hr)),BbQ,ZE A_I,ApM,As C hC hx⟩⟩
 ·show BU S hS hs (p.co h).mp ⟨m,hm,hh⟩;show Ao1;obtain⟨r',hr',_,e2⟩:=AbP h hs;exact⟨r',mG.mpr ⟨hr',CL e2 hh⟩,e2⟩
 ·have A6:=p.min (AH4 (x∈m ->C x)) (fun S hS hx y hy ym=> ?_) m hm (by
   obtain⟨x,h1,h2⟩:=hx;exact⟨x,h1,FM h2⟩)
  ·exact AQu (A6 x hx hx)
  ·show Ao1;show BYL;have fm:m=f:=Zr p.dj hm hf ym (B_ y hy);have inm:∀z∈S,z∈m:=ô (CL fm (B_ z hz))
   have XT:∀z,z∈S↔z∈kW (ofM Ξ m) B6:=Au (by
    rw[jL];constructor
    ·intro hz;obtain⟨r',h1,h2,h3⟩:=AbP z hz;exact⟨r',mG.mpr ⟨h1,CL h3 (inm z hz)⟩,h2,h3⟩
    ·rintro⟨r',h1,h2,h3⟩;exact(e z).mpr (AtG ⟨r',(mG.mp h1).1,h2,h3⟩))
   show F6 x hx1 hx2 hx;obtain⟨r',h1,h2,h3⟩:=AK9 ((XT x).mp hx1);exact hC B6 ((hw _).mpr ⟨r',h1,h2⟩) ⟨x,(XT x).mp hx1,hx2 (inm x hx1)⟩ y ((XT y).mp hy)
theorem ymw{Ξ:B7}{m:Ρ}{w:Κ}:gD (ofM Ξ m) w=(gD Ξ w).ĭ (Pc (Χ ό)):=by
 unfold gD ofM;rw[Ac6,Ac6];exact BGl (FR r (Bool.and_comm _ _))
theorem ylz{Ξ:B7}{m:Ρ}{w:Κ}(h:Ŝ Œ m):gD ě w=AM6:=by
 rw[ymw];refine List.filter_eq_self.mpr fun r hr=>P_ (h _ ?_);exact jL.mpr ⟨r,Ai8,AnE,Β⟩
theorem ypd{Ξ:B7}{m:Ρ}{h:Κ}(hm:Ag3):DQ ě h=ApT:=by
 unfold DQ ofM;rw[Ac6];refine BGl (Cb r _);by_cases q:Co=h
 ·simp [q,hm]
 ·simp [q]
theorem ypi{Ξ:B7}{m:Ρ}{x:D3}(cl:A2I){h:Κ}(hm:Ag3)(e:yS ě x h):AKI:=by
 unfold yS at e⊢;rw[ypd hm] at e;rw[<- e];refine AKe;have hr' :=AGR hr;rw[ylz (cl r hr'.1 (EM hr'.2 hm))]
theorem ygl{Ξ:B7}{x y:D3}{h:Κ}(e:∀r∈ApT,∀s∈AVl gD,x YU=y YU)(q:AKI):yS Ξ y h:=by
 unfold yS at q⊢;rw[<- q];refine AKe;have hr' :=AGR hr;have e1:=e r hr r (Ac5 (AHg hr'.1));rw[e1];have e2:HI (gD Ξ B6) s (AVI (y YU)) (aC (gD Ξ B6) fun s=>(AVI (x YU))):=nC fun s hs=>(NH (e r hr s hs))
 rw[e2]
theorem LB.M{Ξ:B7}(L:t7)(m:Ρ):LB (ofM Ξ m):=by
 refine⟨zO AZT L.few,ZE (L.mm r (mG.mp hr).1),AkX⟩;rw[ymw];exact zO AZT (L.wk w)
theorem yhf(Bgj):ps=Os (GV BoY):=by
 show oC
 ·rw[C8];exact B.len.symm
 ·show AFr;have hw:i<NS:=CL xI h1
  rw[AT9];exact B.ex u i VY WI (zZ hw) (zZ h1)
theorem yi9(p:Ρ×AR):toD (Gx p)= .dic (Aid .BD) p.2:=by
 unfold Gx toD;rw[Uc]
structure Gm (Ξ:B7) (m:Ρ) (x:D3):Ι where
 ev:AAS AKI
 em:A_N
 sz:BFa
theorem BHY{Ξ:B7}{m:Ρ}{x y:D3}(cl:A2I)(g:AoL x)(e:AAS (x h=y h)):AoL y:=by
 refine⟨Ė (ygl (fun r hr s hs=>e _ ?_) (g.ev h hh)),?_,by show AKs g.sz;exact⟨d,d0,bd,Ė (Nw AaX (hd h hh))⟩⟩
 ·have hr' :=AGR hr;have hs' :=AK8 hs;exact cl r hr'.1 (EM hr'.2 hh) _ (jL.mpr ⟨s,hs'.1,hs'.2,Β⟩)
 ·have:=g.em;unfold ZD at Τ⊢;show ú;exact nC (ZE (e _ A_I).kA)
theorem z4y{hs:Ρ}{x y:D3}(e:AZQ (x h=y h)):iY hs x=iY hs y:=by
 unfold iY;rw[qq (g:=ś y) (Ė (NH AaX))]
theorem zv6{hs:Ρ}{h:Κ}{x:D3}(n:h∉hs):T.dic (jQ AQP ą) (AVH (ig AQP (Oy vb) ą A'm))=iY (hs++ [h]) x:=by
 rw[zyg];unfold uG ig iY;rw[Cc n,Ny,al n,i5];simp
theorem Wx{α:Ch}{l:DE}{i:Δ}(h:Axt):Afd Db=Afd i++ [l[i]]:=BnS vt
theorem Gw.hand(A'c)(G:APH){m:Ρ}(hm:m∈ms){x:Κ}(hx:x∈m):vj (Co=x):=by
 show AKr G.pi;show BU S hS hs (p.co x).mp ⟨m,hm,hx⟩;show Ao1;obtain⟨r',hr',_,e2⟩:=AbP x hs;exact⟨r',hr',e2⟩
theorem z59(CB T4):ARP zqw 6:=by
 obtain⟨Ξ,U,Β,u,L,hU,hr,h⟩:=h;have s1:=vU;have few:=L.few;intro as;refine(?_:yv zl9 (Cr Q) [tS,AC_ (.dic [] []),B8,B8,B8,B8]);refine⟨Ξ,U,Β,Υ,Υ,hr,Cb ms G⟩
 simp only [yj7];show AKr G.pi;have nd:ms.flatten.Nodup:=zi5 p.dj (ARl (Nz (G.sr f hf)));refine WV (∃(as:CH) (x:D3) (y2 y3 y4 y5:ER),(∀m∈AS4 i,AoL x)/\Γ= Aoy y2 y3) ⟨as,â,_,_,_,_,Ahm (AMk hm),Β⟩
 ·rintro i d _ hi ⟨as,x,y2,y3,y4,y5,hg,Β⟩;have hi' :i<ms.length:=vc o6
  show ANy;cases (hi);have hm:APs∈ms:=yV hi';have apart:∀h∈APs,h∉ AM2:=fun h hh z=>by
   have:=nd;show BRK (AiO ms) Τ;refine Τ.2.2 h z h ?_ Β;refine AtJ ⟨APs,?_,hh⟩;show A7R;exact zY
  have cl:=(G.sys u hm).1;have tk:AS4 Db=AS4 i++ [APs]:=Wx hi';have fl:Ava Db=AM2++APs:=by rw[tk,AeF];simp
  generalize em:APs=m at*;have B_:∀z∈m,z∈U:=Bio
  have ndm:m.Nodup:=BbQ;have m12:BMY:=zO (Hr ndm B_) hU;show BQ (AGD zjq (Aoy Aah y3));show BG (?_:dU _ (ħ zu) _) (zgq zu zu (gL (Χ ό)) (AJ1 r hr) ?_)
  ·show Tm ⟨.AX Co,Č,Β,zz1 m,?_⟩ (JU (CD AE _ (inD (M3 Co) (jv .AX))) _ _);rw[zuc];show A_0 ό AQN AQM
  refine⟨ApU,Β,zO AZT Θ,As ws ps B⟩
  have ep:=yhf B (u.M m);have ex:jg (LV Gx)=Os (Qi (ofM Ξ m)):=by
   rw[zmf,ep,NV];exact qq (FR w (yi9 _))
  refine⟨AFO,jg (LV Gx),by simp only [toD];rfl,?_⟩
  rw[ex];have W:Cm (ofM Ξ m) ws:=⟨zO B.lw (L.M m).few,fun w hw z=>by
   show BU r h1 h2 (ı w).mp hw;have:=Ac5 AnW;show D5 z;cases (Τ)⟩
  show Ă (AGD zhb (Aoy Aah (.pu (yE ě ws)))) ⟨ApU,ws,m,Β,(G.sys u hm).2 ws B.nd ı,L.M m,W,p.ne m hm,m12,M' xm ev sm sz⟩
  let x' :D3:=Au (if z∈m then xm z else x z)
  have ex1:∀z∈m,x' z=xm z:=ô (DZ hz);show FL ex0 (∀z∈ AM2,x' z=x z) (ô (Cc (Ps (apart z q hz)))) gm (AoL x') (BHY cl ⟨ô (ypi cl hz (ev z hz)),sm,sz⟩ (ô (ex1 z hz).kA)) gms (∀f∈AS4 (EZ),Gm Ξ f x') (ARl (by
   rw[tk] at hf;rcases LO hf with hf | hf
   ·exact BHY (G.sys u (ASp hf)).1 (hg f hf) (ô (ex0 z (AtJ ⟨f,hf,hz⟩)).kA)
   ·show lf hf;exact gm)) ez (nG (jv UB) (jv (ś xm))=jv (EX (.Dx [AiS,qD (x' h)]))) (by
   unfold nG;show oC
   ·simp
   ·intro j h1 h2;simp only [List.getElem_zipWith,AT9];rw[ex1 _ (Bps _)])
  show BQ (v8 (nG (jv UB) (jv (ś xm))) (AaF 4 5) (zjr K c) _ _ (Aoy Aah (.pu (yE ě ws))));rw[ez];have fll:(AS4 i).BqZ+Kk<=1000:=by
   have h1:(Ava Db).OC:=by
    show BRK (AfO Db ms) nd;exact nd.1
   have:=Hr h1 (U:=U) (ô (by
    show AYX f hf hzf hz;obtain⟨r,g1,g2⟩:=G.hand (ASp hf) hzf;rw[<- g2];exact hr r g1))
   show ng fl P9;show AF
  refine⟨fun j Γ=>∃(as:CH) (y4 y5:ER),Γ= [tS,AC_ (iY Ai9 x'),Aah,.pu (yE ě ws),y4,y5],⟨as,y4,y5,?_⟩,?_,?_⟩
  ·rw[List.take_zero,UK,z4y fun z hz=>ex0 z hz]
  ·rintro j d _ hj ⟨as,z4,z5,Β⟩;have hj' :j<Kk:=vc (OT hj)
   show Af5 (zS hj') hj;cases (hj);have nn:m[j]∉ AM2++Ac2 j:=Au (by
    rcases LO z with z | z
    ·exact apart _ (yV hj') z
    ·show A3w ndm;show à q hq (ATv z);rw[qB] at hq;rw[Br4] at e;exact A6 q j Θ hj' Θ e)
   refine⟨Β,Β,ZZ as _,.BD m[j],as,_,(Ai9).map (ś x'),Β,Β,?_,?_⟩
   ·show AIQ P9 qB;show AF
   ·refine⟨as,OW m[j],.pu BUd,?_⟩;show B1 ([As' (eG Ξ),AB_ as (T.dic (jQ BLS (FV m[j])) (AVH (ig BLS ((Ai9).map (ś x')) (FV m[j]) BUd))),_,_,_,_]=_);rw[zv6 nn,Ŀ,<- Wx hj']
  ·rintro _ ⟨as,z4,z5,Β⟩;rw[C8,yY,<- fl];exact⟨as,x',_,_,_,_,gms,Β⟩
 ·rintro _ ⟨as,x,y2,y3,y4,y5,hg,Β⟩;show ApF hg;exact h ms x ⟨G,BDP ev,BDP em,BDP sz⟩
theorem Lean.uniq(BhG)(A:nL)(B:BS7):ms=vV /\∀h∈ABK,x h=x' h:=by
 have e:=A.g.uniq B.g (De Iff.rfl);subst e;refine Ic ApM;show AYX m hm hx hh;show AKr A.g.pi;have all:RA (∃m∈ms,ό):=ZE (by
  show Ct S hS e F.to r hr;exact(p.co Co).mpr ⟨S,hS,BW6⟩)
 refine z92 (ft hr ?_) (ft hr ?_) (A.em m hm) (B.em m hm) (As C hC hx) (fun g hg=>A.g.hand hm hg) h hx
 ·show Ct m hm h all r hr;exact A.ev m hm _ h
 ·show Ct m hm h all r hr;exact B.ev m hm _ h
 ·refine p.min C (Jn S hS hx b hb) m hm hx;show F6 a ha ca hx;show Ao1;show GB r1 h1 h2 h3 (AbP a ha);obtain⟨r2,g1,g2,g3⟩:=AbP b hb;rw[<- g3];exact hC r1 h1 r2 g1 (BJO g2.symm) (EM h3 ca)
theorem Cw(o5)(AKS):nu n AEm (GM j):=by show AhO
theorem zx1(CB zdl):SY zg4 5:=by
 obtain⟨a,b,d,e,n,Β,he,h⟩:=h;unfold zg4;dsimp only [aD,bA,cC,cV,cB,cT,jB,sV,iC,d9,jY,gC,sW,ak,aj,cP,fG,dO,fL,aW,gY,cO,aR,cQ,L',fJ,aY,fK,jG,jZ,aA,cU,je,gM,cR,gq,cW,dN,cj,j4,ud,vA,rC,xZ,uU,jH,mC,pU,cM,wI,sX,uf,mV,yc,yd,cX,lV,gZ,jJ,lW,LT,Mo,My,NN,LW,fV,kY,rE,vC,qN,pB,qF,lX,fW,dG,jK,qG,rF,vG,iR,rH,dw,dY,um,yh,uh,lY,lZ,iL,dR,gH,kZ,dH,MA,NM,KP,MB];refine AYn;split
 ·exact AN3 (h _)
 ·unfold zhz;dsimp only [aD,bA,cC,cV,cB,cT,jB,sV,iC,d9,jY,gC,sW,ak,aj,cP,fG,dO,fL,aW,gY,cO,aR,cQ,L',fJ,aY,fK,jG,jZ,aA,cU,je,gM,cR,gq,cW,dN,cj,j4,ud,vA,rC,xZ,uU,jH,mC,pU,cM,wI,sX,uf,mV,yc,yd,cX,lV,gZ,jJ,lW,LT,Mo,My,NN,LW,fV,kY,rE,vC,qN,pB,qF,lX,fW,dG,jK,qG,rF,vG,iR,rH,dw,dY,um,yh,uh,lY,lZ,iL,dR,gH,kZ,dH,MA,NM,KP,MB];refine AYn;split
  ·refine CU he g_;cases jy (GM d) (GM (b.fmod e)) with
   | Μ=>exact h Μ
   | AE=>exact⟨he,g_,h _⟩
  ·unfold zhp;dsimp only [aD,bA,cC,cV,cB,cT,jB,sV,iC,d9,jY,gC,sW,ak,aj,cP,fG,dO,fL,aW,gY,cO,aR,cQ,L',fJ,aY,fK,jG,jZ,aA,cU,je,gM,cR,gq,cW,dN,cj,j4,ud,vA,rC,xZ,uU,jH,mC,pU,cM,wI,sX,uf,mV,yc,yd,cX,lV,gZ,jJ,lW,LT,Mo,My,NN,LW,fV,kY,rE,vC,qN,pB,qF,lX,fW,dG,jK,qG,rF,vG,iR,rH,dw,dY,um,yh,uh,lY,lZ,iL,dR,gH,kZ,dH,MA,NM,KP,MB];refine AYn;split
   ·refine⟨B',B',g_,?_⟩
    cases jy (GM (b.fmod 2)) (GM (d.fmod 2)) with
    | Μ=>exact⟨B',h _⟩
    | AE=>exact h AE
   ·exact h Μ
theorem Qq:A8f= Bmo:=AI
theorem Ue:D_ AGu Ast=26:=by
 show Bnj cps.size=26;rw[<- pr,Qq];rfl
def Kv(b:AT):AB:=X_ b 1
theorem Qs{i:AB}{k:Δ}(h:AZV k)(hk:S_ k:=by decide):Ak8:=zO (lU h) hk
theorem yjn(BeK):PP (AUJ zu) (D9 F9) Η=C4 rs.drop k zu:=by
 show AFx;show Bpj;rw[vx,qh,BKe,<- AeA,<- As4,BI_ (ACs AGt)]
theorem yjp(BeK):PP (AUJ zu) Η (Ε F9)=C4 rs.take k zu:=by
 show AFx;show Bpj;rw[vx,qh,BKe,As6,BqU,<- As4]
theorem ygv{α:Ch}{f:AD_}{xs:DE}{k:Δ}(h:k<By):ϫ kD f F9 (f xs[k]):=pO (A4i vt)
theorem aai{k:Δ}(h:k<26):o9 A8f F9=Ε (97+k):=by
 refine pO ?_;rw[Qq];have:∀k:Fin 26,IS Bmo k.1 (97+k.1):=B'
 exact Τ ⟨k,h⟩
theorem aaj{i:AB}(h:0<=i/\i<26):AIb A8f (97+ALv):=by
 have e:i=FA ALv:=Υ
 have:=aai (k:=ALv) Θ
 rw[<- e] at Τ;exact Τ
def txt(A_6):Κ:=⟨BOJ⟩
theorem yd2(A_6):txt n f++ (⟨#[f n]⟩:Κ)=txt VC f:=by
 show(⟨BOJ++ #[f n]⟩:Κ)=⟨(AIl f).pz⟩
 congr 1
 show AJQ Ad';simp
theorem yjd{n m:Δ}{f g:Á}(h:txt n f=txt m g):n=m/\Y' n (f j=g j):=by
 have e:IE f=AJm g:=by
  have:=P6 (fun s:Κ=>s.cps.toList) h
  simpa [txt] using Τ
 have l:n=m:=C6 (AAQ LT)
 subst l;refine Ic ARp;have:=AAQ (BA l l[j]?)
 simpa [hj] using Τ
theorem z9u(A_6):Sc txt n f=n:=by
 show(IE f).BrE=n;simp
theorem z9h{α:Ch}{g:ME α}{m:Δ}(h:BUN (g i=g j)):ϟ AJm g:=by
 refine z2n (R:=fun a b=>a≠b) Bsg (BBa (n (h a b (XX ha) (XX hb) e)))
theorem z1g(CB Wh):SY zin 10:=by
 show Fu n m hm h h;have line:ACS 1000:=B'
 let L:Κ:=AJO Ast
 have main:∀sz:Δ,1<=sz/\sz<=8/\ (A'l ->sz=1) ->ŉ zfv [AkL,AYq,AZa,AYr,B8,B8,B8,B8,B8,B8]:=by
  intro sz hsz;unfold zfv;dsimp only [aD,bA,cC,cV,cB,cT,jB,sV,iC,d9,jY,gC,sW,ak,aj,cP,fG,dO,fL,aW,gY,cO,aR,cQ,L',fJ,aY,fK,jG,jZ,aA,cU,je,gM,cR,gq,cW,dN,cj,j4,ud,vA,rC,xZ,uU,jH,mC,pU,cM,wI,sX,uf,mV,yc,yd,cX,lV,gZ,jJ,lW,LT,Mo,My,NN,LW,fV,kY,rE,vC,qN,pB,qF,lX,fW,dG,jK,qG,rF,vG,iR,rH,dw,dY,um,yh,uh,lY,lZ,iL,dR,gH,kZ,dH,MA,NM,KP,MB];refine CU (A'J 5) Υ
  show BU at_ ea hat (AFz (AtL 24) sz) Θ
  rw[ea]
  let DV:AT:=Χ A'l
  let num:Ą:=Fs ((AtL 24*48271+ ij* ij*69621+ ij*7).SA 2147483647)
  let f:AUR Δ:=fun k j=>97+ AzU BP6
  let ln:Á:=iP An2
  have Vy:∀k,k<20 ->ln k<=28:=fun k hk=>by
   show B1 (An2<=28);show Ö
  let nm:ME Κ:=iP (txt (ln k) (f k))
  have inj:BUN (nm i=nm j):=fun i j hi hj e=>by
   show FX e1 e2 yjd e;have e1' :sz+i* (CD AV4 1 0)=sz+j* (CD AV4 1 0):=e1;by_cases o:AV4
   ·rw[DZ o] at e1';show AF
   ·have e3:=e2 at_ (Axy (at_<sz+_))
    have e3' :BXp (MU*AjI AVk)=BXp (ij*AjI AVk):=e3;rw[BLs] at e3';have ob:PR DV:=C6 o
    rw[ob] at e3';have l1:=Bct MU Φ
    have l2:=Bct ij Φ
    have b1:Kv (Μ&& ! AE)=1:=Β;rw[b1,Atd] at l1 l2;rw[b1,Atd,Atd] at e3';rw[BNk] at e3' l1 l2
    rw[BNk] at e3'
    show ũ
  show BG (C5 MZ) (AaP (fun k Γ=>∃(x1 x2 x3 x4:ER),Γ= [AkL,AYq,AZa,AYr,AkM,ArW,x1,x2,x3,x4]) BDO)
  ·rintro k _ hk ⟨x1,x2,x3,x4,Β⟩;have ab5:k<20:=Υ
   rw[AtM];refine CU (by show fg 3;decide) g_
   dsimp only [aD,bA,cC,cV,cB,cT,jB,sV,iC,d9,jY,gC,sW,ak,aj,cP,fG,dO,fL,aW,gY,cO,aR,cQ,L',fJ,aY,fK,jG,jZ,aA,cU,je,gM,cR,gq,cW,dN,cj,j4,ud,vA,rC,xZ,uU,jH,mC,pU,cM,wI,sX,uf,mV,yc,yd,cX,lV,gZ,jJ,lW,LT,Mo,My,NN,LW,fV,kY,rE,vC,qN,pB,qF,lX,fW,dG,jK,qG,rF,vG,iR,rH,dw,dY,um,yh,uh,lY,lZ,iL,dR,gH,kZ,dH,MA,NM,KP,MB];rw[Qm];have hb:(CD (O0 (A'l)=Μ) iS 0)=FA BZo:=by
    show(CD AV4 iS 0)=_;split<;>rfl
   rw[hb];refine C5 (Abp (ACn 5) Θ)
   have hr:C9 sz+ F9* FA BZo=FA (ln k):=IC AeM Ad8
   rw[hr];have acw:=Vy k ab5;refine AaP (fun j Γ=>∃x3 x4,Γ= [AkL,AYq,AZa,AYr,AkM,ArW,AYp,OW (txt j (f k)),x3,x4]) AQS
   ·rintro j _ hj ⟨y3,y4,Β⟩;have acy:j<28:=Υ
    rw[AtM];have bj:dD ij<=64:=AOQ 5 Θ
    unfold zh8;dsimp only [aD,bA,cC,cV,cB,cT,jB,sV,iC,d9,jY,gC,sW,ak,aj,cP,fG,dO,fL,aW,gY,cO,aR,cQ,L',fJ,aY,fK,jG,jZ,aA,cU,je,gM,cR,gq,cW,dN,cj,j4,ud,vA,rC,xZ,uU,jH,mC,pU,cM,wI,sX,uf,mV,yc,yd,cX,lV,gZ,jJ,lW,LT,Mo,My,NN,LW,fV,kY,rE,vC,qN,pB,qF,lX,fW,dG,jK,qG,rF,vG,iR,rH,dw,dY,um,yh,uh,lY,lZ,iL,dR,gH,kZ,dH,MA,NM,KP,MB];refine⟨A'J 5,ARX,.DH bj,ARX,.DH bj,B',?_⟩
    unfold zf4;dsimp only [aD,bA,cC,cV,cB,cT,jB,sV,iC,d9,jY,gC,sW,ak,aj,cP,fG,dO,fL,aW,gY,cO,aR,cQ,L',fJ,aY,fK,jG,jZ,aA,cU,je,gM,cR,gq,cW,dN,cj,j4,ud,vA,rC,xZ,uU,jH,mC,pU,cM,wI,sX,uf,mV,yc,yd,cX,lV,gZ,jJ,lW,LT,Mo,My,NN,LW,fV,kY,rE,vC,qN,pB,qF,lX,fW,dG,jK,qG,rF,vG,iR,rH,dw,dY,um,yh,uh,lY,lZ,iL,dR,gH,kZ,dH,MA,NM,KP,MB];refine AYn;have ABg:∀t:AT,t=(Χ (ij=AVk)&& ! DV) ->Ej F9 (Kv t)/\ fg 26/\∃ch:Δ,D7 ATU/\o9 L.cps.toList ((num j+ F9*Kv t).SA 26)=Ε ch/\ D7 (Sc txt j (f k)+ VA (⟨#[ch]⟩:Κ))/\∃z3 z4,[As' (GM n),AYq,AZa,AYr,AkM,ArW,AYp,OW (txt j (f k)++ (⟨#[ch]⟩:Κ)),ES j,BRw]= [AkL,AYq,AZa,AYr,AkM,ArW,AYp,OW (txt APe (f k)),z3,z4]:=fun t et=>by
     have hch:=aaj (BOI (Kv t) Φ)
     refine⟨Abp (ACn 5) Θ,B',_,ADU (sN ATU 26 Ue),hch,by rw[z9u];show B1 (D7 (j+1));show AF,ES j,BRw,?_⟩
     subst et;rw[vS (97+ AzU BP6) (f k j),yd2]
    rw[Qm];by_cases q:ij=AVk
    ·show A3m;rw[AQN] at ABg;refine CU B' g_
     rw[Qm];exact ABg _ Β
    ·show AmO;show ND AQM ABg (ABg AE Β)
   ·rintro _ ⟨y3,y4,Β⟩;rw[qh];refine⟨E7,by show A6k;show AF,AYp,OW (txt (ln k) (f k)),y3,y4,?_⟩
    rw[Ad',UP,UP]
    rfl
  ·rintro _ ⟨x1,x2,x3,x4,Β⟩;rw[qh];refine h _ A1 (z9h inj) AoH
   show Abx hx;have hk:=XX hk;have l8:1<=ln k/\ln k<=8:=by
    show B1 (1<=An2/\An2<=8);split
    ·rename_i o;have:=hsz.2.2 (yB o);show AF
    ·show q_
   unfold nmS;rw[show D_ nm k=ln k from z9u _ _,P_ l8.1,P_ l8.2,As5,As5,BI8];intro ch hch;show AEc j (APb ko (ch∈ b9 (ln k) (f k)) hch);have l:=BOI (AjI ij) Φ
   show VW (Χ (97<=97+_)) (Χ (97+_<=122));rw[BLG,BLG];rfl
 unfold zin;dsimp only [aD,bA,cC,cV,cB,cT,jB,sV,iC,d9,jY,gC,sW,ak,aj,cP,fG,dO,fL,aW,gY,cO,aR,cQ,L',fJ,aY,fK,jG,jZ,aA,cU,je,gM,cR,gq,cW,dN,cj,j4,ud,vA,rC,xZ,uU,jH,mC,pU,cM,wI,sX,uf,mV,yc,yd,cX,lV,gZ,jJ,lW,LT,Mo,My,NN,LW,fV,kY,rE,vC,qN,pB,qF,lX,fW,dG,jK,qG,rF,vG,iR,rH,dw,dY,um,yh,uh,lY,lZ,iL,dR,gH,kZ,dH,MA,NM,KP,MB];unfold zjo;dsimp only [aD,bA,cC,cV,cB,cT,jB,sV,iC,d9,jY,gC,sW,ak,aj,cP,fG,dO,fL,aW,gY,cO,aR,cQ,L',fJ,aY,fK,jG,jZ,aA,cU,je,gM,cR,gq,cW,dN,cj,j4,ud,vA,rC,xZ,uU,jH,mC,pU,cM,wI,sX,uf,mV,yc,yd,cX,lV,gZ,jJ,lW,LT,Mo,My,NN,LW,fV,kY,rE,vC,qN,pB,qF,lX,fW,dG,jK,qG,rF,vG,iR,rH,dw,dY,um,yh,uh,lY,lZ,iL,dR,gH,kZ,dH,MA,NM,KP,MB];refine CU (A'J 2) B'
 show BU t8 e8 h8 (AFz (AtL 3) 8) Φ
 rw[AJR (AtL 3).SA 8 (C9 t8) e8];unfold zjw;dsimp only [aD,bA,cC,cV,cB,cT,jB,sV,iC,d9,jY,gC,sW,ak,aj,cP,fG,dO,fL,aW,gY,cO,aR,cQ,L',fJ,aY,fK,jG,jZ,aA,cU,je,gM,cR,gq,cW,dN,cj,j4,ud,vA,rC,xZ,uU,jH,mC,pU,cM,wI,sX,uf,mV,yc,yd,cX,lV,gZ,jJ,lW,LT,Mo,My,NN,LW,fV,kY,rE,vC,qN,pB,qF,lX,fW,dG,jK,qG,rF,vG,iR,rH,dw,dY,um,yh,uh,lY,lZ,iL,dR,gH,kZ,dH,MA,NM,KP,MB];refine CU B' g_
 rw[Qm];split
 ·exact main 1 (AEj Υ APl)
 ·show Ki;have:=main (1+t8) (AEj Υ (Lv (Ā P_ e q)))
  show D5 AeM;exact Τ
theorem yj4{a b:B7}(p:a.Perm b)(u:Uq b):Uq a:=(List.Perm.pairwise_iff (R:=fun(a b:Rw)=>Bgv) (fun h z=>h ⟨A6Q,(z.2).kA⟩) p).mpr u
theorem z4q(CB zfb):SY zg7 12:=by
 obtain⟨ns,Wp,AGW,Β,hl,h1,h5,h8,h⟩:=h;have line:ACS 1000:=B'
 let S:D:= AV7
 have main:∀(way ABZ:AB),0<ABZ ->ABZ<=10^12 ->ŉ zg6 [ANf,Awa,Awb,ES way,ES ABZ,B8,B8,B8,B8,B8,B8,B8]:=by
  intro way ABZ hm0 hm1;have aak:ABZ≠0:=Υ
  unfold zg6;dsimp only [aD,bA,cC,cV,cB,cT,jB,sV,iC,d9,jY,gC,sW,ak,aj,cP,fG,dO,fL,aW,gY,cO,aR,cQ,L',fJ,aY,fK,jG,jZ,aA,cU,je,gM,cR,gq,cW,dN,cj,j4,ud,vA,rC,xZ,uU,jH,mC,pU,cM,wI,sX,uf,mV,yc,yd,cX,lV,gZ,jJ,lW,LT,Mo,My,NN,LW,fV,kY,rE,vC,qN,pB,qF,lX,fW,dG,jK,qG,rF,vG,iR,rH,dw,dY,um,yh,uh,lY,lZ,iL,dR,gH,kZ,dH,MA,NM,KP,MB];refine⟨ns,4,Β,hl,Υ,_,AGW,Β,Υ,M' nms hnm nnd nmo⟩
  unfold zlj;dsimp only [aD,bA,cC,cV,cB,cT,jB,sV,iC,d9,jY,gC,sW,ak,aj,cP,fG,dO,fL,aW,gY,cO,aR,cQ,L',fJ,aY,fK,jG,jZ,aA,cU,je,gM,cR,gq,cW,dN,cj,j4,ud,vA,rC,xZ,uU,jH,mC,pU,cM,wI,sX,uf,mV,yc,yd,cX,lV,gZ,jJ,lW,LT,Mo,My,NN,LW,fV,kY,rE,vC,qN,pB,qF,lX,fW,dG,jK,qG,rF,vG,iR,rH,dw,dY,um,yh,uh,lY,lZ,iL,dR,gH,kZ,dH,MA,NM,KP,MB];refine⟨ns,5,Β,hl,Υ,_,Wp,Β,Υ,M' NP hpp pnd pmo⟩
  unfold zme;dsimp only [aD,bA,cC,cV,cB,cT,jB,sV,iC,d9,jY,gC,sW,ak,aj,cP,fG,dO,fL,aW,gY,cO,aR,cQ,L',fJ,aY,fK,jG,jZ,aA,cU,je,gM,cR,gq,cW,dN,cj,j4,ud,vA,rC,xZ,uU,jH,mC,pU,cM,wI,sX,uf,mV,yc,yd,cX,lV,gZ,jJ,lW,LT,Mo,My,NN,LW,fV,kY,rE,vC,qN,pB,qF,lX,fW,dG,jK,qG,rF,vG,iR,rH,dw,dY,um,yh,uh,lY,lZ,iL,dR,gH,kZ,dH,MA,NM,KP,MB];refine C5 MZ;unfold zkx;refine AaP (fun w Γ=>∃(Ξ:B7) (x8 x9 x10:ER),jp<=w*Wp/\ BMl/\ (Lu/\ A3i/\RA (∃v,v<w/\BZJ))/\Γ= Ar1 x8 x9) ⟨[],_,_,_,DB,A_f,⟨ATe,A_f,A_f⟩,Β⟩
  ·rintro w _ hw ⟨Ξ,x8,x9,x10,hrl,Mj,⟨uq,mk,wv⟩,Β⟩;have hw8:w<AGW:=Υ
   have Qp:w*Wp<=8*5:=Ac4 Θ h5
   change AGD zfz (Ar1 (ES (0+ Ajl)) x9)
   rw[AtM];unfold zfz;refine AaP (fun q Γ=>∃(Ξ:B7) (x9 x10:ER),jp<=w*Wp+q/\ BMl/\ (Lu/\ A3i/\RA (∃v,BZJ/\ (v<w\/v=w/\∃o,o<q/\IS NP o Co)))/\Γ= Ar1 (ES Ajl) x9) ⟨Ξ,_,_,hrl,Mj,⟨uq,mk,ZE (by show Arv;exact⟨v,h2,.DH h1⟩)⟩,Β⟩
   ·rintro q _ hq ⟨Ξ,x9,x10,hrl,Mj,⟨uq,mk,wv⟩,Β⟩;have Ip:q<Wp:=Υ
    change AGD zfx (Ar1 (ES Ajl) (ES (0+ C9 q)))
    rw[AtM];unfold zfx;dsimp only [aD,bA,cC,cV,cB,cT,jB,sV,iC,d9,jY,gC,sW,ak,aj,cP,fG,dO,fL,aW,gY,cO,aR,cQ,L',fJ,aY,fK,jG,jZ,aA,cU,je,gM,cR,gq,cW,dN,cj,j4,ud,vA,rC,xZ,uU,jH,mC,pU,cM,wI,sX,uf,mV,yc,yd,cX,lV,gZ,jJ,lW,LT,Mo,My,NN,LW,fV,kY,rE,vC,qN,pB,qF,lX,fW,dG,jK,qG,rF,vG,iR,rH,dw,dY,um,yh,uh,lY,lZ,iL,dR,gH,kZ,dH,MA,NM,KP,MB];refine⟨Abp (ACn 4) Θ,ns,6+w*Wp+q,?_,hl,Υ,?_⟩
    ·rw[AeM,AeM,Ad8];rfl
    generalize fY ns (6+w*Wp+q)=cv;unfold zhg;dsimp only [aD,bA,cC,cV,cB,cT,jB,sV,iC,d9,jY,gC,sW,ak,aj,cP,fG,dO,fL,aW,gY,cO,aR,cQ,L',fJ,aY,fK,jG,jZ,aA,cU,je,gM,cR,gq,cW,dN,cj,j4,ud,vA,rC,xZ,uU,jH,mC,pU,cM,wI,sX,uf,mV,yc,yd,cX,lV,gZ,jJ,lW,LT,Mo,My,NN,LW,fV,kY,rE,vC,qN,pB,qF,lX,fW,dG,jK,qG,rF,vG,iR,rH,dw,dY,um,yh,uh,lY,lZ,iL,dR,gH,kZ,dH,MA,NM,KP,MB];refine⟨way,Ajl,C9 q,C9 Wp,cv,Β,Υ,II t⟩
    cases t with
    | AE=>exact⟨Ξ,_,_,Υ,Mj,⟨uq,mk,ZE (by show Arv;exact⟨v,h1,BgK⟩)⟩,Β⟩
    | Μ=>
     show BG ⟨E7,_,ygv Θ,_,ygv Θ,AN3 (Qs (k:=4) Φ),aak,?_⟩ ⟨AZh,ϵ,Ξ++ [(nms[w],NP[q],(cv.fdiv 12).SA ABZ)],_,_,AYa P9 ATW,Aaf,⟨?_,Aaf,Aaf⟩,BLc⟩
     ·rcases LO hr with hr | hr
      ·exact Mj r hr
      ·show lf hr;exact yV _
     ·refine List.pairwise_append.mpr ⟨uq,Bta _ _,Jn a ha b hb z⟩;rw[AY0] at z;show Ct v h1 h2 wv a ha;rw[z.1] at h1;show FX hv ev xh h1;have evw:v=w:=z3b nnd hv Θ ev
      rcases h2 with h2 | ⟨_,o,ho,h3⟩
      ·show q_
      ·rw[z.2] at h3;show FX hv' ev' xh h3;have:=z3b pnd hv' Θ ev'
       show AF
     ·rcases LO hr with hr | hr
      ·exact mk r hr
      ·show lf hr;have l:=hV (cv.fdiv 12) ABZ hm0;exact⟨nmo _ (yV _),pmo _ (yV _),l.1,BtZ (BKC l.2) hm1⟩
     ·rcases LO hr with hr | hr
      ·show Arv;exact⟨v,h1,BgK⟩
      ·show lf hr;exact⟨w,zZ _,.BD ⟨Β,q,Υ,zZ _⟩⟩
   ·rintro _ ⟨Ξ,x9,x10,hrl,Mj,⟨uq,mk,wv⟩,Β⟩;refine⟨Ξ,_,_,_,?_,Mj,⟨uq,mk,Aaf⟩,Β⟩
    ·rw[Nat.succ_mul];show AF
    ·show Arv;exact⟨v,by rcases h2 with h2 | h2<;>(show qr),h1⟩
  ·rintro _ ⟨Ξ,x8,x9,x10,hrl,Mj,⟨uq,mk,wv⟩,Β⟩;have Qp:AGW*Wp<=8*5:=Ac4 h8 h5;have acz:A3k:=zO hrl (DT Qp)
   dsimp only;unfold zk8;dsimp only [aD,bA,cC,cV,cB,cT,jB,sV,iC,d9,jY,gC,sW,ak,aj,cP,fG,dO,fL,aW,gY,cO,aR,cQ,L',fJ,aY,fK,jG,jZ,aA,cU,je,gM,cR,gq,cW,dN,cj,j4,ud,vA,rC,xZ,uU,jH,mC,pU,cM,wI,sX,uf,mV,yc,yd,cX,lV,gZ,jJ,lW,LT,Mo,My,NN,LW,fV,kY,rE,vC,qN,pB,qF,lX,fW,dG,jK,qG,rF,vG,iR,rH,dw,dY,um,yh,uh,lY,lZ,iL,dR,gH,kZ,dH,MA,NM,KP,MB];refine⟨ns,3,Β,hl,Υ,AN3 (Qs (k:=3) Φ),IP,?_,?_⟩
   ·show Pf;show AF
   show F6 t et ht (AFz ((fY ns 3).Ġ 4) BKY (BHG _));rw[show ş ħ zu+1=FA BKY by show Pf;rfl,et]
   unfold zlz;dsimp only [aD,bA,cC,cV,cB,cT,jB,sV,iC,d9,jY,gC,sW,ak,aj,cP,fG,dO,fL,aW,gY,cO,aR,cQ,L',fJ,aY,fK,jG,jZ,aA,cU,je,gM,cR,gq,cW,dN,cj,j4,ud,vA,rC,xZ,uU,jH,mC,pU,cM,wI,sX,uf,mV,yc,yd,cX,lV,gZ,jJ,lW,LT,Mo,My,NN,LW,fV,kY,rE,vC,qN,pB,qF,lX,fW,dG,jK,qG,rF,vG,iR,rH,dw,dY,um,yh,uh,lY,lZ,iL,dR,gH,kZ,dH,MA,NM,KP,MB];rw[yjn Ξ Θ,yjp Ξ Θ]
   refine C5 (by show APV C8 AGt qB;show AF)
   rw[<- UP];have pm:(A2O++A2N).ei Ξ:=ACf (List.perm_append_comm (l₁:=A2O) (l₂:=A2N)) AfO
   refine h (A2O++A2N) NP (by rw[P9,AGt,qB];show AF) Θ (ft hr (A8g Mj)) (yj4 pm uq) (ft hr (A8g mk)) (AEj nms (ZE (by show AX9 v (A8g wv);exact yX e)))
 change ŉ zg7 [ANf,Awa,Awb,B8,B8,B8,B8,B8,B8,B8,B8,B8]
 unfold zg7;dsimp only [aD,bA,cC,cV,cB,cT,jB,sV,iC,d9,jY,gC,sW,ak,aj,cP,fG,dO,fL,aW,gY,cO,aR,cQ,L',fJ,aY,fK,jG,jZ,aA,cU,je,gM,cR,gq,cW,dN,cj,j4,ud,vA,rC,xZ,uU,jH,mC,pU,cM,wI,sX,uf,mV,yc,yd,cX,lV,gZ,jJ,lW,LT,Mo,My,NN,LW,fV,kY,rE,vC,qN,pB,qF,lX,fW,dG,jK,qG,rF,vG,iR,rH,dw,dY,um,yh,uh,lY,lZ,iL,dR,gH,kZ,dH,MA,NM,KP,MB];refine⟨ns,2,Β,hl,Υ,B',?_⟩
 unfold zk1;dsimp only [aD,bA,cC,cV,cB,cT,jB,sV,iC,d9,jY,gC,sW,ak,aj,cP,fG,dO,fL,aW,gY,cO,aR,cQ,L',fJ,aY,fK,jG,jZ,aA,cU,je,gM,cR,gq,cW,dN,cj,j4,ud,vA,rC,xZ,uU,jH,mC,pU,cM,wI,sX,uf,mV,yc,yd,cX,lV,gZ,jJ,lW,LT,Mo,My,NN,LW,fV,kY,rE,vC,qN,pB,qF,lX,fW,dG,jK,qG,rF,vG,iR,rH,dw,dY,um,yh,uh,lY,lZ,iL,dR,gH,kZ,dH,MA,NM,KP,MB];refine⟨show QJ 10 12 from ⟨B',B',B'⟩,AHd 4,ns,3,Β,hl,Υ,B',?_⟩
 show BU t et ht (AFz (fY ns 3) 4) Φ
 rw[vS (C9 4) (FA 4),et]
 match t,ht with
 | 0,_=>show Ara
 | 1,_=>show Ara
 | 2,_=>show Ara
 | 3,_=>show Ara
theorem zvf(CB zcp):Of zju:=by
 show AZw i j;refine CU (fun m Γ=>∃a b:AB,Γ= [ES a,AJj]/\0<=a/\0<=b/\m=AUD/\Ba3) ⟨_,AcT,BaV,Β,Ajh,Ajh,Β,?_⟩
 ·have e1:AcT=C9 Atk:=Ajh
  have e2:BaV=C9 AuT:=Ajh
  rw[e1,e2];rfl
 rintro m _ ⟨a,b,Β,ha,hb,Β,hg⟩;refine(?_:wx (0<b));by_cases hz:0<b
 ·show DU (DT hz)
  have h0:Ŭ:=Υ
  refine⟨h0,_,zft h0,b,Afa b,Β,hb,?_,Β,IC z1z hg⟩
  rw[BHF _ hb];exact BJ' _ h0
 ·show A7 (DT hz)
  have:b=0:=Υ
  show oB;rw[Bp8] at hg;have e:a=FA Av7:=Υ
  show Zp e
theorem Qt{x:Κ ->D}{h:Κ}:∀{hs:Ρ},iu AQP (Oy x) ą=AX5 wE (Ε (x h))
 | []=>Β
 | g::hs=>by
  show AnU;unfold iu;by_cases q:g=h
  ·rw[DZ (by rw[q]),DZ (EM q ġ),q]
  ·rw[Cc (FI (q Az0)),Qt (hs:=hs)]
   by_cases p:wE
   ·rw[DZ p,BLu ABS p]
   ·show ZN p (Au (by
     rcases AhS with z | z
     ·exact q ABv
     ·exact p z))
theorem zrp{hs:Ρ}{x:D3}{h:Κ}(hh:wE){P:AEp}(hp:dP (x h)):vI A7o (M3 h) P:=
 ⟨_,_,.BD h,_,Β,Β,IC (Qt (x:=vb)) (DZ hh),hp⟩
theorem zvo(hs:Ρ):BfW:=AZO
theorem z98(CB T6):v_ ztv:=by
 obtain⟨i,j,Β,b1,b2,hj,h⟩:=h;rw[<- yne hj] at h;refine KW i j ?_;show FX d0 d1 (ϲ zys) hj;refine(?_:wx (j<0));by_cases hn:j<0
 ·show DU (DT hn)
  show Ar8 (0 - AYk) (by unfold dv;show DU hn;show AF)
 ·show A7 (DT hn)
  show Ar8 AYk (AY9 dv hn)
theorem yj.sz{N:Δ}{d:AB}{q:AL}(h:Aa_)(d0:d≠0)(bd:dD d<=N):Sz N q:=by
 show AJz t bt;exact Qc d0 bt bd
theorem yj.up{M N:Δ}{d:AB}{q:AL}(h:yj M d q)(l:M<=N):Aa_:=by
 show RE t e bt;exact⟨t,e,zO bt l⟩
theorem yj.add{N:Δ}{d:AB}{p q:AL}(h1:yj N d p)(h2:Aa_):yj (N+1) d (p+q):=by
 show ZU t bt h1;show ZU u bu h2;refine CU (t+u) (by rw[AvG,M0,M0,M0,Rat.add_mul])
 have:=zi4 t u;show AF
theorem AtP{N:Δ}{d:AB}:BAr Aa_ (yj (N+IR) d (gJ qs))
 | [],_=>⟨0,by show Ajq=OR 0/_;rw[M0];show BB 0=0*_;rw[Rat.zero_mul],MZ⟩
 | q::qs,h=>by
  have h1:=AtP (qs:=qs) AnQ;exact((h q zY).up (Br1 _ _)).add h1
theorem yj.less{N:Δ}{d m:AB}{q:AL}(h:Aa_)(d0:d≠0)(bd:dD d<=N)(hm:m.natAbs<2^100):yj (N+101) d (BB m - q):=by
 show AJz t bt;refine AYw (m*d - t)
 ·have dz:AnA:=Au (Aly d0)
  rw[AUH,PQ,M0,M0,Bqg,Bqg,Rat.add_mul,ye,BKa dz,AMK,Rat.neg_mul]
 ·have:=znm (m*d) t;have:=G9 m d;have:=lU hm;show AF
theorem Lean.mem(BgE)(G:nL){r:Rw}(hr:AQ2):Co∈ABK:=by
 show AKr G.g.pi;show Ct T hT e F.to r hr;show BU f hf hx (p.co Co).mpr ⟨T,hT,BW6⟩;exact AtJ A6u
theorem Gw.small(A'c)(G:APH){U:Ρ}{n:Δ}(hU:Ņ<=n)(hr:RA (Co∈U)){m:Ρ}(hm:m∈ms):Kk<=n:=
 zO (Hr (Nz (G.sr m hm)) Bio) hU
theorem NQ{c:Ι}[BJ8 c]{a b:Ι}(h:¬c)(k:b):BYw:=by show A7 h;exact k
theorem Ml{c:Ι}[BJ8 c]{a b:Ι}(h:c)(k:a):BYw:=by show DU h;exact k
theorem z8v{l:BI}(h:1<=HE):∀q∈d4 l,q∈l:=by
 intro q hq;unfold d4 at hq;split at hq
 ·simp only [ABG] at hq;subst hq;exact Wo Θ
 ·show ASB hq;show Bd' Wo Wo
theorem z3f(l:BI):D_ d4 l<=2/\d4 l≠ []:=by unfold d4;split<;>simp
theorem fB.look{c:Cls}{S:fB}{b:APj}:∃fs xs,AaH= .obj Hk fs xs/\ART ASk AGX/\ART LM Ħ/\ART OB Asl/\ART ABP ASi/\ART ad ASg/\ART ae ASh/\ Alb ABQ/\ Alb xF/\ Alb K2/\ Alb W_:=by
 cases b with
 | Η=>exact⟨_,_,Β,Β,Β,Β,Β,Β,Β,B',B',B',B'⟩
 | Ε d=>exact⟨_,_,Β,Β,Β,Β,Β,Β,Β,B',B',B',B'⟩
theorem zno(CB T8):Of zfn:=by
 obtain⟨S,b,ACG,ks,ys,Β,hk,hq⟩:=h;obtain⟨fs,xs,e,h1,_⟩:=Ao8;rw[e];exact⟨Β,AGX,h1,ks,ys,hk,Φ,.BD ACG,Β,hq⟩
theorem yi0{ks:GE}{ys:AR}{k:Key}{d:D}(h:A8a ys):ARi:=by
 induction ks generalizing ys with
 | D8=>cases (h)
 | AY a r ih=>
  cases ys with
  | D8=>cases (h)
  | AY y ys=>
   show D' iu;unfold lB;by_cases q:a=k
   ·simp [q]
   ·simp only [q,ALw,Ae6] at h;have:=ih h;unfold lB at Τ;simp [Τ]
theorem zkh(CB zbh):Of zec:=by
 obtain⟨S,b,T0,ks,ys,Β,hk,hw⟩:=h;obtain⟨fs,xs,e,_,h1,_⟩:=Ao8;rw[e];refine⟨Β,Ħ,h1,ks,ys,.BD T0,hk,Β,?_⟩;rcases hw with ⟨hw,hq⟩ | ⟨hw,hq⟩
 ·rw[hw];exact hq
 ·rw[hw];exact AN3 hq
theorem zs0(CB Qk):Of zhw:=by
 obtain⟨S,b,T0,ks,ys,Β,hk,h⟩:=h;obtain⟨fs,xs,e,_,h1,_,_,_,_,nm,_⟩:=Ao8;rw[e];refine⟨Β,nm,S,b,T0,ks,ys,AOg,hk,?_⟩
 rcases h with ⟨d,hl,hq⟩ | ⟨hw,hq⟩
 ·exact CS ⟨yi0 hl,Β,Ħ,h1,ks,ys,.BD T0,d,hk,Β,hl,hq⟩
 ·exact C_ ⟨hw,hq⟩
theorem zry(CB T9):Of zhf:=by
 obtain⟨S,bs,T0,ks,ys,Β,hk,h⟩:=h;refine⟨Β,wQ bs,Β,Β,B',S,AXy,T0,ks,ys,Β,hk,?_⟩
 rcases h with ⟨d,hl,zd,zb,hq⟩ | ⟨hw,hq⟩
 ·exact CS ⟨_,hl,bs,d,Β,zb,zd,hq⟩
 ·exact C_ ⟨hw,hq⟩
theorem zqe(CB Wi):ARP zhe 1:=by
 obtain⟨S,ws,v,bs,Β,em,so,l64,zv,zb,hq⟩:=h;have s1:=vU;obtain⟨fs,xs,e,_,h2,_,_,_,_,_,_,n1,n2⟩:=BnE AXy;rw[e];refine⟨Β,Ħ,h2,ws,Ä AJn,AZP,Nz so,l64,As ms pm so2⟩
 show GU (ms=ws) (V1 Wv so2 so (Tk pm.mem_iff));refine GD UB Bd0 (AJ1 w hw) hq;have lk:iu (eg .BD) (eg AJn) (FV w)=Ε (qD (v w)):=IC (Qt (x:=AJn)) (DZ hw)
 refine⟨Β,n1,S,_,w,eg C_,eg AJn,AOg,AZP,.DH ⟨_,lk,Β,n2,S,bs,w,eg C_,eg AJn,AOg,AZP,BfF zv zb⟩⟩
 exact⟨AZh,hp⟩
theorem yag(L:Ρ)(f:ANS):rN (ay .BD) (ay A1O)=ay (EX (.Dx BSY)):=AQy rN List.zipWith_map List.zipWith_self
theorem zmk(ArE):D.dik AQP (jg (AiQ vb AIg))=AnZ:=YE Uc
theorem Wy{α:Ch}(f:α ->T):BTb nM (fun a=>jq (f a))
 | []=>OU
 | F_=>by show AjU nM (Wy f l);rfl
theorem zwt(ArE):jq (iY hs x)=AnZ:=by
 unfold iY jq;rw[NV,Wy]
 rfl
theorem ych(l:AR):jq (APi EV)= .DC l:=by
 show B1 BSw;rw[Wy,vS (BA a (jq (.QP a))) (fun a:D=>a),BJ1]
theorem mj.dn(c:Cls)(S:mj)(b:AGC D):jq (mj.t c S b)=fB.d c S.pl (b.map .DC):=by
 cases b with
 | Η=>simp only [mj.t,mj.ts,fB.d,mj.pl,fB.xs,jq,nM,Option.map]
 | Ε b=>simp only [mj.t,mj.ts,fB.d,mj.pl,fB.xs,jq,nM,KP,MB,Wy,Option.map,BJ1]
theorem yhu{α:Ch}(f:G_):ó (jP (EV fun a=>qD (f a)))
 | []=>AEg
 | F_=>IU ⟨Bat,yhu f l⟩
theorem z2k:∀l:Ρ,jP (EV UB)
 | []=>AEg
 | F_=>CL GL ⟨DL rJ,z2k l⟩
theorem ymn(AKP):rJ (qD q):=Bat
theorem yns(Ar'):Nq (APi BDd):=by
 show B1 (uW _);unfold Cp;induction ws with
 | D8=>trivial
 | AY w ws ih=>exact⟨⟨AEg,ymn _,AEg,AEg⟩,ih⟩
theorem zxd(l:AR):toD (APi EV)= .DC l:=BSA
theorem ynf(o5)(Ar'):nu (n+3) (FF AW6) (FF AW6):=by
 show AGM;rw[h1] at h2;show AK0;unfold Cp at h1;rw[FS] at h1;cases q1:ws[i]? with
 | Η=>show Acy
 | Ε w=>
  rw[q1] at h1;show AsQ;show AcU;rw[g1] at g2;show AsP
  match j with
  | 0=>show AqZ
  | 1=>show A9n (z6y _ _)
  | 2=>show AqZ
  | j+3=>simp at g1
theorem ypj(ws:Ρ)(K:Ks)(V:Vs):jq (.dic AwK (uA Os BFu))= AZy Os Os BFu:=AQy jq NV Wy
theorem zo4{qs:BI}{i:Δ}(h:i<IR):AHy i 0∈qs:=AbL (Wo (EM Zq h))
theorem yk5(CB T7):v_ zuj:=by
 obtain⟨r,qs,g,Β,hg,hl,hz,hr,hs,h⟩:=h;refine CU r Β;have z4:∀q∈qs,UZ q:=BAz hz
 have ls:=Zq qs;refine(?_:wx (BMp< Arj));show A1U;unfold Bg pG at h;by_cases hf:IR< Arj
 ·show ϣ hf;show DU BZT
  exact⟨B',h⟩
 ·show oz hf;show FY h1 (1<=IR) (by split at hf<;>(show qr)) ne (qs≠ []) (Au (by rw[z] at h1;show AD h1 h1 h1 h1 h1 h1 h1 h1 h1 h1 h1 h1 h1 h1)) (NQ BZT AkK)
  rcases hr with Β | Β | Β
  ·show oz (Au (sP A6Q));refine Ml BRN ⟨qs,Β,hl,z4,hs,?_⟩
   show A7 ne;exact h _ .mean
  ·show oz (Au (sP2 A6Q));refine NQ (A_D sM) ⟨DL nu,Ml BRN ?_⟩
   have mz:∀q∈A7z,AON:=ϐ (hz q (AbL (z8v Θ q hq)))
   have ml:=z3f (pI qs);refine⟨qs,Β,hl,z4,pI qs,Β,Υ,A7z,Β,Υ,BAz mz,yhd mz ml.1,?_⟩
   rw[Cc ml.2,Aa];exact h _ .mid
  ·rw[ET] at hf;show BG (NQ (A_D sP) ⟨DL nu,NQ (A_D sP2) ?_⟩) ⟨qs,Β,hl,z4,pI qs,g,Β,Υ,Υ,ϐ (hz q (AbL hq)),hg,?_⟩
   rw[ls];by_cases hw:IR=2/\BdV
   ·show ϣ (Ic hw);show DU hw;exact h
   ·show oz (Au (hw z.2));show A7 hw;intro b hb;have hb1:=hb.lt;have mem:∀q∈ Abk,AON:=by
     intro q hq;show ASB hq;show A2m hq Β Β BVG BVG
    refine⟨Abk,Β,DB,BAz mem,yhd mem A1,?_⟩
    show A7 A1
    have e:gJ Abk/ FA (Abk:BI).ALY=(AHy b 0+ AHy (b+1) 0)/2:=by
     show(_+ (_+0))/ BB AkF=_;rw[AGS];rfl
    rw[e];exact h _ (.pair b hb)
theorem tG.some{qs:BI}{r:Κ}{v:AL}(ne:qs≠ [])(h:A8n):∃l:BI,l≠ []/\AjW IR/\ (∀q∈l,q∈qs)/\v=gJ l/ AW':=by
 have h1:=AGQ ne;have ls:=Zq qs;cases h with
 | mean=>exact⟨qs,ne,OZ,fun q h=>h,Β⟩
 | mid=>
  refine⟨A7z,(z3f _).2,?_,ϐ (AbL (z8v Θ q hq)),Aa.symm⟩
  unfold d4;split
  ·exact h1
  ·show B1 (2<=_);show AF
 | pair b hb=>
  have hb1:=hb.lt;refine⟨Abk,DB,AXB (2<=_),AXj,?_⟩
  ·show ASB hq;show Bd' zo4 zo4
  ·refine(?_:_=(_+ (_+0))/ BB AkF);rw[AGS];rfl
theorem ybh(BFL):Bfu=ATU:=C8 _
theorem Fe.lv(Bly):Ap_ 837 (∀q∈Gz x L f,yj 837 d q):=by
 show AKs O.cd;refine⟨d,d0,Υ,AXj⟩
 show Ů h hh hq;exact(hd h hh).less d0 bd (O.mm h hh)
theorem tG.ok(Bl9 v)(O:Fe x L f)(ne:L≠ [])(h:tG (Gz x L f) r v):Sz 900 v:=by
 have ll:=ybh x L f;have few:=O.few;obtain⟨l,ne,len,B_,Β⟩:=h.some (Au (ne (List.map_eq_nil_iff.mp z)));have len' :AjW ATU:=Nw ll len
 show AKs O.lv;have l0:fg HE:=NE (AGQ ne)
 have l1:OR HE≠0:=Au (Aly l0)
 have s:Sz 849 (gJ l):=((AtP (ϐ (hd q (B_ q hq)))).up Θ).sz d0 Θ
 exact(ycc s (VR (i:=AW') (n:=4) (lU Θ) Φ) l1).up Φ
theorem zrg(Bl9 g)(h:pG r g (Gz x L f)=Η):L≠ []:=Au (by
 subst z;show D' pG;show ϣ (by show B1 (0<_);split<;>decide)
 show HK)
structure ab6 (Ν):Ι where
 a:BMS
 f:jh K d_
 aa:AoT
 fa:BTr
 ff:AoU
theorem Fe.szs(Bly):Bfu<=1000/\ (∀q∈Gz x L f,AON)/\∀k,Aws (Gz x L f).take:=by
 show AKs O.lv;have ll:=ybh x L f;have few:=O.few;exact⟨Υ,ϐ (((hd q hq).sz d0 bd).up Φ),iP (((AtP (BP5 hd)).up (N:=849) BoF).sz d0 Θ |>.up Φ)⟩
theorem zlv(Acg ab6 zbq):i9 zet:=by
 obtain⟨S,b,T0,L,f,p,Β,e1,e2,e3,e4,O,H,hq⟩:=h;have s1:=vU;obtain⟨fs,xs,e,h1,h2,h3,h4,h5,h6,_,nl,_⟩:=Ao8;show AKs H.cd;refine(?_:ù (rN (ay .BD) (ay A1O)));rw[yag];refine ų GD (fun h:Κ=>ACJ BSY) (TK BTm) h hh A6c
 ·refine C5 wb
  rw[e];refine⟨Β,nl,S,b,h,AtS C_,AtS (ś p.x),AOg,YE e1,?_⟩
  have ex:(iu (AtS .BD) (AtS (ś p.x)) ą).XL AkZ=qD (qE h):=by
   rw[Qt (x:=ś p.x)];unfold Hv.xf;split
   ·rfl
   ·show B1 (ACJ Awl=qD (OR 0));rw[Qd]
  rw[ex];exact⟨BB (f h),qE h,NH Qd,VR (zO (lU (H.mm h hh)) Φ) Φ,((hd h hh).sz d0 bd).up Φ,hp⟩
 rw[e];have el:(ay (EX BTm))=(Gz qE L f).map qD:=Aan Gz
 show mE el ⟨Β,ASi,h4,?_⟩ e4 ⟨Β,B',Β,ASg,h5,Β,ASh,h6,?_⟩
 rw[e2,e3];refine⟨p.r,Gz qE L f,p.g,Β,O.g,H.szs.1,H.szs.2.1,O.r,H.szs.2.2,?_⟩;unfold Bg at hq⊢;cases eb:pG p.r p.g Bdb with
 | Η=>
  show ND eb hq (AZj ⟨p.ps,v,Β,O.sc.len,O.sc.gd,O.sc.sz,(hv.ok H (zrg eb)).up Φ,hq v hv⟩)
 | Ε f=>
  rw[eb] at hq;cases f with
  | Μ=>exact⟨APm,C.a,Ml C.aa (AAT hq)⟩
  | AE=>exact⟨APm,C.f,NQ (Ayw (¬(fh d_ d5)) C.fa zJ) (IF C.ff _ hq)⟩
theorem uH.lb{Ξ:B7}(O:AY8):t7:=by
 show BQb;have few:=O.few;refine⟨Υ,ZE (zM (O.mm r hr) (Asb Φ Φ)),AkX⟩
 have:=Hr (zux O.u w) fun y hy=>by
  obtain⟨r,h1,_,e⟩:=AK9 hy;rw[<- e];exact hr r h1
 show D5 Tz;show AF
theorem Lean.lv(BgE)(G:nL)(O:AY8)(r:Κ)(g:AL)(ps:FD)(w:Κ):Fe ADQ ŭ AgD:=by
 have L:=O.lb;obtain⟨U,hU,hr⟩:=O.hs;refine CU (mo Tz L.wk w) ApM
 ·obtain⟨r,hr,e1,e2⟩:=AK9 hh;show(yW Ξ w h).num.natAbs<_;rw[<- e1,<- e2,Tw O.u hr,BHb];exact L.mm r hr
 by_cases q:kW Ξ w= []
 ·rw[q];exact⟨1,B',B',Ė (sq hh hh hh hh hh hh hh hh hh hh hh hh hh hh)⟩
 show n_ h0 hh0 (List.exists_mem_of_ne_nil _ q);show GB r0 m0 e0 e1 (AK9 hh0);show F6 m hm hx (BKL (G.mem m0));have cl:=(G.g.sys O.u hm).1 r0 m0 hx;show AKs (G.sz m hm);have n4:=G.g.small hU hr hm;refine⟨d,d0,zO bd AY4,ApM⟩
 have hm' :Ag3:=cl h (EM e0 hh)
 rw[show ADQ h=x h from uS AtJ ⟨m,hm,hm'⟩];exact(hd h hm').up AY4
theorem z20{qs:BI}{bd:Hd}(g:oR qs bd=Μ):Biu (zm qs bd) (k<=IR):=Rl (by
 obtain⟨_,hn⟩:=zzo qs;have g:=BqT g;show Abx hi;have hk:=XX hk;show à m hm (ko (z62 hn (z0b hn g LY Θ).1))
 refine CU m kq;unfold jj at hm;show APS (EQ hm) hm
 ·exact ALk _
 ·show Ů j hj hm;have:=XX (AYi hj);show D5 ztz;exact Τ)
theorem z71{l:CI}{n:Δ}(h:Biu l (k<=n)):pZ l= PV (A0S AuE) intD/\∀k∈EV AuE,k<=n:=by
 refine So ?_ k hk
 ·unfold pZ;show AjV
  congr 1
  refine Ay';obtain⟨k,Β,_⟩:=AlN
  rfl
 ·show Ů i hi hk;show ZU k q AlN;exact q
theorem yff(BX7):Gy ŭ AgD= AZy Amg Aaa AIm:=by
 unfold Gy
 congr 1
 unfold kW;show AjV;refine AWB r hr;have hr:=AK8 hr;show B1 (HA (A8v Co)=_);rw[<- hr.2,Tw u hr.1,BHb]
theorem yf6(Bgj):C4 LV Gx Gv=Os AP5:=by
 rw[yhf B u,NV,NV];refine AWB w _;show B1 (D.dik (Amg .BD) (jg (C4 Aaa (Pc (HA fb)) AIg))=_);rw[Uc,yff u]
theorem z35:∀{ps:FD} {x:AL},AAk ->A6y ->A9u ->UZ (pC ps x)
 | [],x,_,_,_=>⟨A2X (dD 0<=_),A2X (dD 1<=_)⟩
 | [p],x,_,hz,_=>iN (hz p A1).2
 | AnS,x,hg,hz,zx=>by
  have zl:=hz l A1
  have zr:=hz r A1
  have sb:UZ (Cj l r x):=by
   have hn:AbB≠0:=by have:=hg.1.1;grind
   have s4:=yg3 (Nt zx zl.1) (Nt zr.2 zl.2);exact(ygs zl.2 (ycc s4 (Nt zr.1 zl.1) hn)).up Φ
  have ih:=z35 (ps:=r::t) (x:=x) hg.2 (fun p hp=>hz p (zW _ hp)) zx;unfold pC
  repeat' split
  all_goals first | exact (zl.2).up Φ | exact sb | exact ih
theorem yao{ws:Ρ}(so:Amz)(AQQ)(hi:A0R){u:Κ}(hu:u∈ws)(h:ŕ u VY):u∈AWe:=by
 rw[<- AiO ws] at hu so;rcases LO hu with hu | hu
 ·exact hu
 ·rw[BL8] at hu so;have so:=(Ae9 (BKP so).2.1).1;rcases EQ hu with Β | hu
  ·show AXp zzh
  ·show MT h (Wv _ _ (so u hu))
theorem z85{K:AA}{c:Cls}{a:Ζ}{bs:CH}{t ds Q Ex}(h:Ql c t ds Q Ex):zcz K c (R9 a Q) (AUA 8 AxM ds) A_P:=by
 obtain⟨Ξ,ru,g,ps,bd,Β,Β,O,Mj,zg,C,b0,b90,h⟩:=h;have s1:=vU;have L:=O.lb;have hl:=O.few;have uq:=O.u;show BQb
 let Z:Hb T T N1 D3 mj:=fun sh mk ms x=>⟨.AX ru,qD g,yx c ps,jk ABK x,sh,mk⟩
 refine AnR
 show BG AnR ⟨Β,_,AXA,ps,Β,BXc C.sz C.sz,?_⟩
 show DU (z2a C.gd C.len);refine AnR
 show BG (BX8 L) AnR
 rw[zmk];refine⟨Ξ,Β,Υ,As sI ps0 B⟩
 refine⟨_,_,Β,Cb t ht,?_⟩
 ·show AEc q (ko ht);exact AQS
 rw[yf6 B uq];refine AhN (II cs)
 refine AhN (II cs')
 generalize esh:T.dic (ABk .BD) (C4 ABk AP5 AIg)=sh;have dsh:jq sh= AZy ABk ABk AP5:=l4 esh (ypj _ _) _
 have lw:=B.lw;refine⟨Β,jq sh,Β,sI,ABk AP5,YE dsh,B.nd,Υ,fun ws pm so=>(C5 (z2k ws))⟩
 have nd:pb:=Bqk B.nd;have wm:A6t:=BR3 ı;have wl:BMm:=ADU Bql
 let p:Hv:=lE ru g ps ms x
 have P:p.Ok:=⟨Mj,zg,C⟩;have lv:=G.lv O ru g ps;show FC hO h h ms x G;refine WV (∃(v:D3) (y6:ER),Γ= [.tr (a::(ApA++cs')) (mj.t c BFI Η),tS,OW ru,Alk,ArD,Amr,y6,B8]/\Bik) (KW â _ Bml)
 ·rintro i d _ hi ⟨v,y6,Β,hv⟩;have hi' :i<NS:=vc o6
  show ANy;show AD hi hi hi hi hi hi hi hi hi hi hi hi hi hi;have tk:=Wx hi';have hw:VY∈ws:=yV hi';have ahead:Bjd:=Bjy;have AG_:VY∉AWe:=Au (by
   have:=nd;show BRH Τ;refine Τ.2.2 _ z VY ?_ Β;show A7R;exact zY)
  show Bj2;have isw:=(wm w).mp hw;refine⟨Β,B',Β,jq sh,Β,ABk C_,ABk (VV AwF),AkI,AwF,YE dsh,Β,BVy AP5,?_⟩
  refine⟨(BFI).pl,Η,w,Œ,Ŋ mW,p,?_,Β,Β,Β,Β,P,lv w,?_⟩
  ·refine(?_:[jq (mj.t c BFI Η),_,_]=_);rw[mj.dn];rfl
  refine(?_:Bg c ru g AwO _ _);unfold Bg;cases eb:Aya with
  | Ε f=>exact IF ⟨AEg,AEg,AEg⟩ _ (hO w f isw eb ahead _)
  | Η=>
   intro q hq;have ev:up v w q w=q:=ET;have eo:BdW:=Bcx;refine⟨ymn _,AkI,_,_,_,AoW C_,AoW AoN,Β,Β,Β,BNB,up v w q,OW w,?_,Cb u hu⟩
   ·rw[tk,<- zv6 (x:=fun u=>pC ps Arl) AG_,ev,show(C4 AGj i fun u=>qD (pC ps Arl))=C4 AGj i AoN from Bb4]
    rfl
   ·rw[tk] at hu;show Bih
 ·rintro _ ⟨v,y6,Β,hv⟩;show ApF hv;have A:Big:=Bah;show FC hB h h ws v A;have zs:AOw (UZ (pC ps (v w))):=ϗ (z35 C.gd C.sz (((AJM hv).ok (lv w) (zrg (hv w hw).1)).up Φ))
  let s:D3:=Ahu
  refine⟨Β,jq (iY ws s),Β,AFO,Ä AiV,YE zwt,yhu s ws,?_⟩
  have eq:Bk9:=Aan pJ
  have zq:∀q∈AiD,UZ q:=ϐ (by
   show Aqm;exact zs w hw)
  have ln:BgG:=Bdg
  rw[eq];refine BkF Β (fun g0=>(AAT (hB g0 _)))
  obtain⟨g3,g4⟩:=z71 (z20 g1);rw[g3];refine BjI Β
  ·unfold zm;show A6k;exact b0
  refine AhN (fun cs2=>(AAT ?_))
  rw[<- esh];refine h g1 sI ⟨P,so,Υ,Υ,GV pm.mem_iff.symm,fun b hb q e=> ?_⟩
  show Abx hb;exact zq q (z0v Bbz)
theorem zyx(CB zdj):SY zl6 5:=by
 show AAi ns hn;have s1:=vU;refine⟨MZ,ns,53,Β,hn,Υ,lm 4,?_⟩
 have f4:=hV (fY ns 53) 4 Φ
 obtain⟨N,eN,n1,n4⟩:∃N:Δ,mT 1 (Aa9 53 4)=N/\1<=N/\N<=4:=⟨_,Β,Υ,Υ⟩
 refine C5 AVq
 rw[eN];refine WV (∃(bs:Hd) (y2 y3 y4:ER),Γ= [A1s,.ow (ki Fd),y2,y3,y4]/\JI=i) ⟨[],_,_,_,Β,Β⟩
 ·rintro i _ hi ⟨bs,y2,y3,y4,Β,hl⟩;refine⟨ns,54+i,AlC ([eK _,HA (54+ AQ8)]=_) (AZI (54+ AQ8) (54+i)),hn,Υ,?_⟩
  generalize fY ns (54+i)=z;show BU k ek hk (AFz (Ĵ 9) 4) Φ
  obtain⟨M,eM⟩:∃M:AB,o9 [HA 60,.AU 2,.AU 4,.AU (AoE 36 7)] (AoE 9 4)=Ε (GM M):=by
   rw[AJR (AoE 9) 4 F9 ek]
   match k,hk with
   | 0,_=>exact E6 md
   | 1,_=>exact E6 Č
   | 2,_=>exact E6 (AUY 2)
   | 3,_=>exact E6 (AUY 3)
  have dv:∀m:AB,0<m ->m<100 ->BXq:=BcV
  refine⟨AZk,Ab2 3,AZk,g_,Abp (ACn 4) (AWf (hV z 3 Φ)),?_⟩
  let v:AB:=AtU 3* (CD (jy (HA (AoE 3 3)) (HA 1)=Μ) 1 0)
  refine⟨E7,Ab2 36,lm 7,AHd 4,Ab2 9,lm 4,_,eM,wb,ϵ,?_⟩
  refine⟨bs++ [(v,v+M)],ES AQ8,AYo,ES v,?_,BSx⟩
  show Azo;rfl
 ·rintro _ ⟨bs,y2,y3,y4,Β,hl⟩;exact h bs Θ Θ
theorem z4i(CB zex):Of zrs:=by
 show AAi ns hn;have s1:=vU;refine⟨ns,58,Β,hn,Υ,?_⟩
 generalize fY ns 58=z;show BU k ek hk (AFz z 3) Φ
 obtain⟨r,eM,hr⟩:∃r:Κ,o9 [UB zf,.AX V7,.AX oO] (AtU 3)=Ε (M3 r)/\rQ r:=by
  rw[AJR AtU 3 F9 ek]
  match k,hk with
  | 0,_=>exact EL md APv
  | 1,_=>exact EL Č (.BD YR)
  | 2,_=>exact EL (AUY 2) (ANj Β)
 have dv:∀m:AB,0<m ->m<200 ->BXq:=BcV
 have g40:=hV (Ĵ 3) 40 Φ
 have g3:=A5c 120 Φ
 refine⟨AZh,AZk,_,eM,Ab2 3,lm 40,Ab2 120,AZk,_,_,Β,wR Θ,wR Θ,Υ,wb,h r _ hr ?_⟩
 exact(Qc (n:=60) Θ (BDM (((Ĵ 3).SA 40).ACH<=40)) (BDM (g9 (1+ (Ĵ 120).SA 3)<=3))).up Φ
theorem z5k(CB zfd):Of zpy:=by
 obtain⟨Ξ,U,Β,u,L,b1,b2,h⟩:=h;have s1:=vU;refine⟨Ξ,U,Β,u,L,Υ,b2,AzD⟩
 show AJl (ŉ zlr [tS,.pu (.dik (AtV .BD) (jg (C4 AtV vb AIg)))]) zmk (?_:dU _ (ħ zu) _);refine GD zu (lvD x) (fun r hr P hp=>A6c) AzT;show Tm (C5 wb) (vI (jk ABK x) (M3 Co) _);show F6 m hm hx (BKL (G.mem hr));show GB d d0 bd hd (G.sz m hm);have n4:=G.g.small b1 b2 hm;have bd:dD d<=736:=zO bd AY4
 refine zrp (G.mem hr) ⟨ADH,ACj,NH Qd,Bea,(((hd _ hx).up (N:=736) AY4).sz d0 bd).up Φ,?_⟩
 exact⟨AZh,hp⟩
theorem yah:∀{ps:FD} {p:Pt},AAk ->(AJs ->(nO ps).1<DJ/\ Abr<=p.2) ->Gd (ps++ [p])
 | [],_,_,_=>IP
 | [a],p,_,h=>AiL (h A1)
 | AkW,p,hg,h=>⟨hg.1,yah (ps:=b::t) hg.2 (FM (h A1))⟩
theorem ztd:∀(ps:FD) (p:Pt),nO (ps++ [p])=p
 | [],_=>Β
 | [a],_=>Β
 | AkW,p=>ztd AZW p
theorem yck{Y e:AB}(e1:1<=e)(e3:e<=3):YN Y e<=AJc/\ (0<=Y ->AYL/3<=YN Y e):=by
 have h1:AYL<=AJc:=Bqm Θ
 have h2:Ajq<=AJc:=Bqn Θ
 have h3:0<=Y ->Ajq<=AYL:=EX (Bqn h);generalize AJc=z at h1 h2⊢;generalize AYL=y at h1 h3⊢;have e:e=1\/e=2\/e=3:=Υ
 rcases e with Β | Β | Β
 ·rw[vS (BB (iS)) 1];constructor<;>grind
 ·show BY7 2 2
 ·show BY7 3 3
theorem ybu{K:AA}{c:Cls}{Dn:rB}{E:XW}{S y5:D}{X Y b z:AB}{ps:FD}{H:AL}(hb:Ŭ)(bX:S_ (dD X))(bb:S_ (dD b))(l:LP<100)
  (h:Dn.nx [ANf,ES (X+1+ A_x),ES (6* (AVB+1)+ AyP),AJj,.ow (BCR pD),.pu y5,AYo,Alj]):
  zc1 K c Dn [ANf,ES X,ES Y,AJj,.ow AFb,.pu y5,AYo,Alj] E:=by
 have s1:=vU;refine⟨E7,X,b,Β,bX,bb,hb,wb,ϵ,?_⟩
 have e3:LV pD++ [BcS]=BCR pD:=BLc
 show AJl (zc0 K c Dn [ANf,ES X,ES Y,AJj,.ow (LV pD++ [BcS]),.pu y5,AYo,Alj] E) e3 ⟨Abj 15,lm 7,.DH Φ,Abj 105,AZk,?_⟩
 rw[<- show(CD (Y<0) (-Y) Y)=FA AtW by show Ö] at h
 exact h
theorem ab7{X t:AB}(AQQ)(h0:0<=t)(h7:t<7)(h:BVg):g9 (X+1+t)<=9+7* Db:=by
 refine zO (Ae3 (X+1) t) (zO (Bpw (Ae3 X 1) (E_ (Afc<=6) ?_)) ?_)
 ·show ũ
 ·exact Bqo (Bqo h 1) 6
theorem ab8{n k:Δ}{t:AB}(h0:0<=t)(h3:t<3)(h:n+2<=20*k):g9 (6* (Lw+1)+t)+2<=20* (k*8):=Υ
inductive PtI (ns:CI) (b:AB) (i:Δ) (Γ:G2):Ι
 | mk:∀(X Y:AB) (ps:FD) (y5 y6 y7:ER),Γ= [A1s,ES X,ES Y,AJj,.ow AFb,y5,y6,y7] ->LP=i ->AAk ->Hb A6y BVg (AtW+2<=20*8^i) (AJs ->(nO ps).1< ANr/\ Abr<=AYL/3/\0<=Y) Bf5
theorem zml(CB zbo):SY ze5 8:=by
 show AAi ns hn;have s1:=vU;show FY d15 (fg 15/\S_ (dD 15)) (AN3 (wR Φ)) z3 (fg 3) B' ⟨ns,46,Β,hn,Υ,lm 15,ns,47,Β,hn,Υ,lm 21,ns,46,Β,hn,Υ,d15,z3,MZ,ns,48,Β,hn,Υ,z3,?_⟩
 have f1:=hV (fY ns 46) 15 Φ
 have f2:=hV (fY ns 47) 21 Φ
 have f3:=hV ((fY ns 46).Ġ 15) 3 Φ
 have f4:=hV (fY ns 48) 3 Φ
 refine C5 AVq
 obtain⟨N,eN,n2,n4⟩:∃N:Δ,mT 2 (Aa9 48 3)=N/\2<=N/\N<=4:=⟨_,Β,Υ,Υ⟩
 rw[eN];obtain⟨b,eb,b1,b3⟩:∃b:AB,1+ ((fY ns 46).Ġ 15).SA 3=b/\1<=b/\b<=3:=⟨_,Β,Υ,Υ⟩
 have bz:Ŭ:=Υ
 have bq:Ajq< BB b:=Rat.intCast_pos.mpr Θ
 refine WV Bf5 ⟨Aa9 46 15 - 9,Aa9 47 21 - 4,[],_,_,_,Aj5 eb,Β,IP,AIu,Υ,Υ,EX (AFp h)⟩
 ·rintro i _ hi ⟨X,Y,ps,y5,y6,y7,Β,hl,hg,hz,bX,bY,GJ⟩;have p8:8^i<=8^3:=BLk Φ
  show FY zX (Sz 60 (ANr)) (Qc bz (BDM (BHe<=30)) (lU BQU)) bY' (dD Y<=60) (lU (zL (JY (AtW<=20*8^3)) Φ)) ⟨ns,49+i,AlC ([eK _,HA (49+ AQ8)]=_) (AZI (49+ AQ8) (49+i)),hn,Υ,?_⟩
  generalize fY ns (49+i)=z;have g3:=A5c 5 Φ
  have g7:=hV (Ĵ 15) 7 Φ
  have g2:=A5c 105 Φ
  have bX' :S_ (dD X):=AOQ 10 (zL (JY (BHe<=30)) Φ)
  have bb:S_ (dD b):=AOQ 10 BQU
  have Ug:∀H:AL,(AJs ->Abr<=H) ->H<=AJc ->Sz 300 H ->PtI ns b Db [As' (FF AMo),ES (X+1+ A_x),ES (6* (AVB+1)+ AyP),AJj,.ow (BCR pD),ES AQ8,AYo,Alj]:=by
   intro H h1 h2 zH;refine⟨_,_,ps++ [(ANr,H)],_,_,_,Β,BSx,yah hg (Ps ⟨(GJ q).1,h1 q⟩),ip,ab7 g7.1 g7.2 bX,mo BIg (ab8 g2.1 g2.2) bY,FM ?_⟩
   ·rcases LO hp with hp | hp
    ·exact hz p hp
    ·show lf hp;exact⟨zX.up Φ,zH⟩
   ·rw[ztd];refine⟨?_,?_,Υ⟩
    ·show ANr<_;have:BB X< OR (X+1+ A_x):=Rat.intCast_lt_intCast.mpr Θ
     rw[M0,M0];exact Rat.mul_lt_mul_of_pos_right Τ (BtW bq)
    ·show BQ (H<=_);have:AJc*3<=BfP:=mo (show AJc*3=BB (C9 (AVB*3)) by rw[PQ];rfl) Bqm Θ
     generalize BfP=u at Τ⊢
     grind
  have ll:=yck (Y:=Y) (e:=Axf) Θ Θ
  refine⟨Abj 5,z3,Y,Axf,Β,zO bY' Φ,wR Θ,Υ,?_⟩
  have zl:Sz 300 (A6e):=(Qc Θ bY' (lU Θ)).up Φ
  have hA:(AJs ->Abr<=A6e):=Ps (AMJ (GJ q).2.1 (ll.2 (GJ q).2.2));generalize A6e=H at ll zl hA⊢;by_cases hk:0<i
  ·refine Ml (P_ (JY (TH<0+ MU))) (CU (lm 5) g_)
   rw[Qm];by_cases q:AtU 5=4
   ·refine Ml (P_ q) (C5 E7);have lp:=zly (ps:=ps) Θ
    have e1:ϫ LV pD (0+ MU - 1) BZI:=by
     rw[lp,AZI (0+ MU - 1) AZE];exact ylo Θ
    have hq:=GJ Θ
    refine⟨_,e1,_,at1,ybu bz bX' bb Θ (Ug Abr (De AK5) (AMJ hq.2.1 (AMJ ((Bgr Φ Φ).2 hq.2.2) (Bgr Φ Φ).1)) ?_)⟩
    rw[lp];exact(hz _ (yV _)).2
   ·exact NQ (FI (q (yB z))) (ybu bz bX' bb Θ Bh0)
  ·exact NQ (FI (hk (by have:TH<0+ MU:=BKm;show AF))) (ybu bz bX' bb Θ Bh0)
 ·rintro _ ⟨X,Y,ps,y5,y6,y7,Β,hl,hg,hz,_⟩;exact h ps ⟨Υ,hg,hz⟩
theorem tG.uniq{qs:BI}{r:Κ}{v v' :AL}(h:A8n)(h' :tG qs r v'):v=v' :=by
 cases h with
 | mean=>
  generalize e:zf=s at h';cases h' with
  | mean=>rfl
  | mid=>show MT kq sM
  | pair b hb=>show MT kq sP
 | mid=>
  generalize e:V7=s at h';cases h' with
  | mean=>show MT e sM
  | mid=>rfl
  | pair b hb=>show MT kq sP2
 | pair a ha=>
  generalize e:oO=s at h';cases h' with
  | mean=>show MT e sP
  | mid=>show MT e sP2
  | pair b hb=>rw[ha.unique hb]
theorem Lean.xf(BhG)(G:nL)(G' :BS7)(r:Κ)(g:AL)(ps:FD):(lE r g ps vV x').xf=ADQ:=by
 show FX Β e G'.uniq G
 funext h
 unfold Hv.xf lE;dsimp only;split
 ·rename_i hh;exact AaX
 ·rfl
theorem yF.uniq{Ξ:B7}{r:Κ}{g:AL}{x:D3}{ws ws' :Ρ}{u u' :D3}(A:Awt x)(A' :yF Ξ r g x ws' u'):ws' =ws/\BbL:=by
 show U_ (V1 Wv A'.so.so A.so.so (GV (î A'.so.wm w (dA A.so.wm w))));exact Ic (ϗ ((AJM A'.ok).uniq (AJM A.ok)))
theorem zpq{ps:FD}{ws:Ρ}{u u' :D3}(e:BbL):pJ ps ws u' =pJ ps ws u:=AiY w hw (NH (e w hw))
theorem Wz{Ξ:B7}{r:Κ}{g:AL}{ps:FD}{bd:Hd}{o o' :Out}(h:AAx o)(h' :AAx o'):ABO o' =ABO o:=by
 have Η:∀{x:D3} {ws:Ρ} {u:D3} {w:Κ} {f:AT},Awt x ->AhW ->BEf (AM' x) ->D6:=fun A hw eb=>by
  rw[(A.ok _ ((A.so.wm _).mpr hw)).1] at eb;show AD eb eb eb eb eb eb eb eb eb eb eb eb eb eb
 cases h with
 | op ms x w f G hw eb ah=>
  cases h' with
  | op vV x' w' f' G' hw' eb' ah' =>
   rw[ĵ G'] at eb';have e:w' =w:=by
    apply Classical.byContradiction;intro n;cases q:nA w' w with
    | Μ=>show Lc (ah w' hw' q) eb' eb' eb' eb' eb' eb' eb' eb' eb' eb' eb' eb' eb' eb' eb'
    | AE=>
     have k:=ah' w hw (z8r q n);rw[ĵ G',eb] at k;show AD k k k k k k k k k k k k k k
   subst e;rw[eb] at eb';show AD eb' eb' eb' eb' eb' eb' eb' eb' eb' eb' eb' eb' eb' eb'
   rfl
  | ba vV x' ws' u' G' A' =>show ND (ĵ G') A' (Η A' hw eb).UC
  | ma vV x' ws' u' G' A' =>show ND (ĵ G') A' (Η A' hw eb).UC
 | ba ms x ws u G A gd=>
  cases h' with
  | op vV x' w' f' G' hw' eb' ah' =>show ND (ĵ G') eb' (Η A hw' eb').UC
  | ba vV x' ws' u' G' A' gd' =>
   rw[ĵ G'] at A';show FX Β e AtZ A';rw[zpq e]
  | ma vV x' ws' u' G' A' gd' =>
   rw[ĵ G'] at A';show FX Β e AtZ A';rw[zpq e,gd] at gd';show AD gd' gd' gd' gd' gd' gd' gd' gd' gd' gd' gd' gd' gd' gd'
 | ma ms x ws u G A gd=>
  cases h' with
  | op vV x' w' f' G' hw' eb' ah' =>show ND (ĵ G') eb' (Η A hw' eb').UC
  | ba vV x' ws' u' G' A' gd' =>
   rw[ĵ G'] at A';show FX Β e AtZ A';rw[zpq e,gd] at gd';show AD gd' gd' gd' gd' gd' gd' gd' gd' gd' gd' gd' gd' gd' gd'
  | ma vV x' ws' u' G' A' gd' =>
   rw[ĵ G'] at A';show FX Β e AtZ A';rw[zpq e];show B1 (ACJ Bj'=ACJ Bj');rw[sN (Bca (AVQ u')) (Bca (AVQ u)) (AiY w hw (by simp only [e w hw]))]
theorem znz(CB zbw):ARP zfo 1:=by
 show sA S bs Β hq;exact KW Β (wQ bs) hq
structure ab9 (Ν):Ι where
 a:BMS
 f:jh K d_
 aa:AoT
 af:BTp
 ff:AoU
theorem zzl(Acg ab9 zd1):i9 zob:=by
 obtain⟨r,qs,g,Β,h1,h2,h3,h4,h5,h⟩:=h;have s1:=vU;have n2:Akj:=Υ
 refine⟨n2,r,qs,g,Β,h1,h2,h3,h4,h5,?_⟩;unfold Bg at h⊢;cases eb:pG r g qs with
 | Η=>rw[eb] at h;exact AZj ⟨n2,h v hv⟩
 | Ε f=>
  rw[eb] at h;cases f with
  | Μ=>exact⟨APm,C.a,NQ (Ayw (¬(fh d5 d_)) C.af zJ) ⟨C.aa,n2,h⟩⟩
  | AE=>exact⟨APm,C.f,Ml C.ff ⟨n2,h⟩⟩
structure acd (Ν):Ι where
 o:jh K P5
 b:jh K NL
 oo:BSX
 bo:BTq
 bb:Apn
theorem z5s(Acg acd Wj):yv zqj (S6 Q) (aG 8 ds):=by
 obtain⟨Ξ,r,g,ps,bd,Β,H,h1,h2,h3⟩:=h;have s1:=vU;have n2:Akj:=Υ
 have b1:=H.b1;refine⟨Ξ,r,g,ps,bd,Β,Β,H.o,H.r,H.g,H.c,H.b0,Υ,fun ms x G=>⟨fun w f hw hb ah t' => ?_,fun ws u A=>(APZ g0 t' (As g1 sI S))⟩⟩
 ·exact⟨P5,_,_,Β,C.o,Ml C.oo fun as=>⟨_,_,_,_,Β,Β,_,_,_,_,Β,Β,n2,n2,h1 w f (.op ms x w f G hw hb ah)⟩⟩
 ·exact⟨NL,_,_,Β,C.b,NQ (EM C.bo zJ) ⟨C.bb,fun as=>⟨_,_,_,_,Β,Β,fun as' =>h2 _ (BX9 u)⟩⟩⟩
 ·exact⟨⟨fun d z=>AOe,fun k z=>AOe⟩,fun a as as' =>(sL h3 (.ma ms x ws u G A g1) (.mk ms x ws u sI G A g1 S))⟩
def Hw:Ρ:=AUC (AGu BHB)
theorem z08(CB Wk):Of zol:=by
 show AAi L hl;have s1:=vU;show FY nd Hw.Nodup AI ln (Hw.length=13) AI (C5 (zO (show D_ AGu BHB<=13 by show XY) Θ))
 show Ă (v8 (Hw.map .AX) _ _ _ _ _) (WV (∃y,Γ= [Avv ay,y]/\∀z∈Hw.take i,z∈L) (OS (ô (sq hz hz hz hz hz hz hz hz hz hz hz hz hz hz))))
 ·rintro i d _ hi ⟨y,Β,hn⟩;have hi' :i<Hw.length:=vc o6
  show ANy;show AD hi hi hi hi hi hi hi hi hi hi hi hi hi hi;have tk:=Wx hi';generalize Hw[i]=x at tk⊢;refine CU Β (zz1 L);show BQ (JU (! inD Ϻ (ay .AX)) _ _);rw[zuc];by_cases q:x∈L
  ·show A3m;refine OS (Cb z hz);rw[tk] at hz;rcases LO hz with hz | hz
   ·exact hn z hz
   ·show lf hz;exact q
  ·show AmO;exact h x q
 ·rintro _ ⟨y,Β,hn⟩;rw[C8,yY] at hn;have:=Hr nd hn;show AF
structure ace (Ν):Ι where
 n:jh K ABL
 nn:BSW
theorem zuv(Acg ace zco):v_ zjp:=by
 obtain⟨S,bs,T0,ks,ys,Β,hk,hh,h⟩:=h;refine⟨Β,B',S,AXy,T0,ks,ys,Β,hk,.BD ⟨hh,APm,C.n,C.nn,?_⟩⟩
 exact⟨Β,B',S,bs,T0,ks,ys,Β,hk,.BD ⟨hh,APm,C.n,C.nn,g_,h⟩⟩
theorem ylb{n:Δ}(bs:Y2):nu (n+2) (wQ bs) (wQ bs):=by
 show AGM;rw[h1] at h2;show AK0;rw[FS] at h1;cases q1:bs[i]? with
 | Η=>show Acy
 | Ε q=>
  rw[q1] at h1;show Acu;cases q with
  | Η=>simp [bD,nu,Bx]
  | Ε q=>exact z6y q q
theorem z1k(CB Wl):SY zn9 10:=by
 obtain⟨S,ws,hs,v,x,bs,Β,R,h⟩:=h;have s1:=vU;have wf:=R.wf
 let G:WC ER ER ER ER ER ER G2:=fun y4 y5 y6 y7 y8 y9=> [.pu (fB.d c S AwG),.pu A7o,BZK,NB AW6,y4,y5,y6,y7,y8,y9]
 refine⟨Β,B',S,ws,v,bs,Β,R.em,R.so,Υ,R.zv,R.zb,?_⟩
 show BQ (AGD zjv [.pu (fB.d c S AwG),.pu A7o,BZK,.pu (toD (APi BDd)),B8,B8,B8,B8,B8,B8]);show mE zxd ⟨_,md,ynf ws v bs,?_⟩ yu ⟨Β,B',S,bs,Β,_,Č,?_⟩
 show mE zxd (C5 (ylb bs)) (AKN ki bD (wQ bs)) (i6 md);have mk:∀w,iu AwK (Os AJn) (FV w)=AX5 (w∈ws) (Ε (qD (v w))):=GV (Qt (x:=AJn));refine WV (∃y4 y5 y6 y7,Γ=Bj9 B8) BDO
 ·rintro i d _ hi ⟨y4,y5,y6,y7,Β⟩;unfold Cp at hi;rw[FS] at hi;cases q1:ws[i]? with
  | Η=>show Lc q1 hi hi hi hi hi hi hi hi hi hi hi hi hi hi hi
  | Ε w=>
   rw[q1] at hi;show AsR;have hw:=yX q1;have lk:=TL mk w (ABS hw);refine⟨Β,Β,Β,B',S,bs,w,AFO,A7n,Β,A2G,BfF R.zv R.zb⟩
   refine⟨Β,B',S,AXy,w,AFO,A7n,Β,A2G,.DH ⟨_,lk,z6y _ _,?_⟩⟩
   rw[yu];refine AYn;rw[yu];exact BDO
 rintro _ ⟨y4,y5,y6,y7,Β⟩;have lx:∀h,iu AQP (Oy vb) ą=AX5 wE (Ε (qD (x h))):=EX (Qt (x:=vb));show BQ (v8 (AiQ AXt jX) _ _ _ _ _);rw[zvo];refine WV (∃y8,Γ=Bj9 y8) E7
 ·rintro i d _ hi ⟨y8,Β⟩;rw[FS] at hi;cases q1:hs[i]? with
  | Η=>show Lc q1 hi hi hi hi hi hi hi hi hi hi hi hi hi hi hi
  | Ε h=>
   rw[q1] at hi;show AsR;have hh:=yX q1;have lk:=TL lx h (ABS hh);refine BhL h
   rw[lk];refine zrp hh (C5 (z6y _ _));rw[AVR ((Ε A'm).XL _) A'm];exact E7
 show Ajb y8;refine⟨hs,P6 (BA l [eK l]) (zvo hs),R.hf,ô (i6 md)⟩;show Ă (ù (Os _)) (ų GD Bd0 UB w hw (EL md hp));show BG ⟨ws,Β,wf,Cb y hy⟩ (BhL z)
 have e:=TL lx z (UA hz);rw[e];refine CU wb (z6y 0 0)
 rw[AVR ((Η:APj).XL AkZ) AkZ];exact⟨S,bs,y,AFO,A7n,Β,A2G,BTA hy,h⟩
def NT(x:D3)(L:B7):BI:=ay (Pc Axc)
theorem ypt(BWM){ms:N1}{x:D3}(G:nL)(r:Κ)(g:AL)(ps:FD)(w:Κ):NT x AHw=vJ Ξ ADQ w:=by
 unfold NT vJ Gz kW;rw[NV];refine AWB s hs;have hs:=AK8 hs;show B1 (_=BB (A8v YU) - BlL);rw[<- hs.2,Tw u hs.1,BHb,show BlL=x YU from uS G.mem hs.1]
theorem zuu{a:Κ}{f f' :Κ ->T}:∀{ws:Ρ} {q:Δ},pb ->AWK a ->(∀w∈ws,w≠a ->f' w=f w) ->BgW=Os f'
 | [],_,_,h,_=>EG
 | w::ws,0,nd,h,e=>by
  show HK;show B1 (f' w::Ä f=f' w::Ä f');rw[qq fun u hu=>e u (APp hu) (Al4 hu)]
 | w::ws,q+1,nd,h,e=>by
  have h' :AWK a:=h;show B1 (f w::BgW=f' w::Ä f');rw[zuu ARv h' fun u hu=>e u (APp hu),e w ġ (Al4 (Bpr h'))]
theorem yni{l:Ρ}(h:l.Nodup):ϟ EV AXt:=List.pairwise_map.mpr (h.imp fun n e=>n (Sum.inr.inj e))
def Fg(x:D3)(R:B7)(w:Κ):T:= .DC (uA (NT x (gD R w)).map qD)
theorem z29{x:D3}{R:B7}{r:Rw}{w:Κ}(h:B6≠w):Fg x A3P w=Fg x R w:=by
 unfold Fg;rw[zk0,APc,UK]
theorem z2d{x:D3}{R:B7}{r:Rw}:NT x (gD A3P B6)=NT x (gD R B6)++ [Axc]:=by
 rw[zk0,ET];unfold NT;show Azo;rfl
theorem z3p{R:B7}{r:Rw}{w:Κ}:isW A3P w↔isW R w\/AOL:=by
 unfold isW;constructor
 ·show AJT s hs;rcases LO hs with hs | hs
  ·exact CS A'S
  ·rw[ł hs] at e;exact C_ e
 ·show A8Y s hs e e s (zP _ hs) e r A4h e
theorem yo0(ls:AAG):toD (Kp ls)= ARZ:=by
 have A6:∀ls:AAG,jg (AGU fun l=>T.lst (A0S HA AIg))=AGU pZ:=by
  intro ls;induction ls with
  | D8=>rfl
  | AY l ls ih=>
   show AnU;refine(?_:toD (FF (uA EV HA))::jg _=_);rw[ih,zxd];rfl
 unfold Kp;show B1 (eK (jg _)=_);rw[A6]
structure acf (Ν):Ι where
 b:jh K NL
 bb:Apn
theorem z7d(Acg acf zf1):SY zte 16:=by
 obtain⟨Ξ,ru,g,ps,bd,Β,H,h⟩:=h;have s1:=vU;have n2:Akj:=Υ
 have O:=H.o;have few:=O.few;have b1:=H.b1;show F6 U hU hr O.hs
 let Z:ER ->BC ER ER ER ER Bh5:=fun y5 y6 y7 y8 y9 y10 y11 y12 y13=> [tS,OW ru,Alk,ArD,Amr,y5,y6,y7,y8,y9,y10,y11,y12,y13,B8,B8]
 intro as0;refine⟨Ξ,U,Β,O.u,O.lb,hU,hr,AzD⟩;refine WV (∃(as:CH) (ks:Ρ) (y6 y7 y8:ER),Γ=Z (ADN as (PH .BD) (PH (Fg x Aic))) y6 y7 y8 B8 B8 B8 B8 B8/\Au5/\AW3 ks (isW (xL i) w)) ⟨as0,[],_,_,_,Β,AfN,GV ⟨(FI Ř),fun(EL z _)=>AOe⟩⟩
 ·rintro i d _ hi ⟨as,ks,y6,y7,y8,Β,nd,km⟩;have hi' :i<jp:=vc o6
  show ANy;show AD hi hi hi hi hi hi hi hi hi hi hi hi hi hi;have tk:=Wx hi';generalize Ť=r at tk⊢;show FY kl (OH<=A9_) (by
   refine zO (Hr nd (U:=(rows.take i).map (·.1)) fun w hw=> ?_) (ALq (C8 _));show BU s hs e (km w).mp hw;exact ASd A'S) l1 (A9_<=40) BMf ⟨Β,Β,.BD B6,A3z,as,_,_,Β,Β,Β,yni nd,ϵ,?_⟩
  by_cases hk:B6∈ks
  ·show FX q hq List.mem_iff_getElem?.mp hk;refine .BD ⟨q,Bgt,AZn hq,AZn hq,?_,?_⟩
   ·unfold NT;show ŧ C8;have:=Afe (fun s:Rw=>(Χ (s.1=B6))) (xL i);unfold gD;show AF
   ·refine⟨as,ks,OW B6,OW Co,Ê Ai',?_,nd,AkX⟩
    ·rw[tk];have e:=zuu (f:=Fg x (xL i)) (f' :=Fg x AZ6) nd hq fun w _ hw=>(AUx z29 hw);rw[<- e,show Fg x AZ6 B6= .DC (AVH (Bgt++ [A3z])) by unfold Fg;show AJQ z2d;rfl]
     rfl
    ·rw[tk,z3p,<- km];exact⟨CS,EX (AG0 id (Lv (e ▸ hk)))⟩
  ·refine .DH ⟨BTA hk,fun a=>⟨as++ [a],ks++ [B6],OW B6,OW Co,Ê Ai',?_,?_,AkX⟩⟩
   ·rw[tk];have e1:PH (Fg x AZ6)=PH (Fg x Aic):=AiY w hw (z29 (Ž hk hw));have e2:Fg x AZ6 B6= .DC [.QP (qD Ai')]:=AQy Fg z2d (z3k (Au (hk ((km _).mpr z))))
    rw[UP,UP,e1];refine(?_:_=Z (AB_ _ (X2 _ (_++ [Fg x AZ6 B6]))) _ _ _ _ _ _ _ _);rw[e2];rfl
   ·exact AfX (ϯ nd (BEv (hk (by rw[<- AY0,<- e];exact ha))))
   ·rw[tk,z3p,<- km,ASb,ABG];exact or_congr Iff.rfl eq_comm
 rintro _ ⟨as,ks,y6,y7,y8,Β,nd,km⟩;show ApF km;intro as1
 let p:Hv:=lE ru g ps ms x
 show FY e1 (jg (PH (Fg x Ξ))=PH AkY) (by
  rw[zmf];refine AWB w _;unfold Fg;rw[zxd,ypt O.u G ru g ps]) kl (OH<=40) (by
  refine zO (Hr nd (U:=rows.map (·.1)) fun w hw=> ?_) (BK8 few)
  show BU s hs e (km w).mp hw;exact ASd A'S) BV1;rw[e1];generalize eD:D.dik (PH .BD) (PH AkY)=Dk;refine⟨ks,PH AkY,Aj5 eD,nd,Υ,As ws pm so⟩
 have wm:A6t:=BR3 km;have wl:BMm:=CL Bql kl
 have nw:pb:=Bqk nd;have lv:=G.lv O ru g ps;refine WV (∃(as:CH) (v:D3) (y6 y8 y10:ER),Γ=Z (.pu Dk) y6 y7 y8 (.tr as (iY (AGj i) Ahu)) y10 B8 B8 B8/\Bik) ⟨as1,â,_,_,_,Β,Bml⟩
 ·rintro i d _ hi ⟨as,v,y6,y8,y10,Β,hv⟩;have hi' :i<NS:=vc o6
  show ANy;show AD hi hi hi hi hi hi hi hi hi hi hi hi hi hi;have tk:=Wx hi';have hw:VY∈ws:=yV hi';have ahead:Bjd:=Bjy;have AG_:VY∉AWe:=Au (by
   have:=nw;show BRH Τ;refine Τ.2.2 _ z VY ?_ Β;show A7R;exact zY)
  show Bj2;refine⟨PH C_,PH (VV Awy),AkI,Awy,Aj5 eD,Β,BVy AkY,?_⟩
  have lo:=(lv w).szs;refine⟨ru,vJ Ξ qE w,g,Β,H.g,lo.1,lo.2.1,H.r,lo.2.2,?_⟩;unfold Bg;cases eb:Aya with
  | Ε f=>exact⟨Β,Β,n2,n2,h _ (.op ms x w f G ((wm w).mp hw) eb ahead)⟩
  | Η=>
   intro q hq;have ev:up v w q w=q:=ET;have eo:BdW:=Bcx;refine⟨Β,Β,Β,B',ps,q,Β,H.c.len,H.c.gd,H.c.sz,(hq.ok (lv w) (zrg eb)).up Φ,AQS,AkI,as,AoW C_,AoW AoN,Β,Β,BNB,as,up v w q,OW w,Ê q,.pu AN',?_,Cb u hu⟩
   ·rw[tk,<- zv6 (x:=fun u=>pC ps Arl) AG_,ev,show(C4 AGj i fun u=>qD (pC ps Arl))=C4 AGj i AoN from Bb4]
    rfl
   ·rw[tk] at hu;show Bih
 rintro _ ⟨as,v,y6,y8,y10,Β,hv⟩;show ApF hv;have A:Big:=Bah
 let s:D3:=Ahu
 have zs:AOw (A_e s):=BYn hv (lv w) hv
 refine BV1;show mE Uc (?_:dU _ (C4 Os AXt jX) _) zvo (Aho (VV Agm) w hw (A_J hw hp));have eq:Bk9:=Aan pJ
 have zq:∀q∈AiD,UZ q:=ϐ (by
  show Aqm;exact zs w hw)
 have ln:BgG:=Bdg
 refine BkF (Ba2 (yC bd)) (II g0)
 ·obtain⟨g3,g4⟩:=z71 (z20 g1);show AJl (AGD zoj (Z (.pu Dk) y6 y7 y8 (.pu (jk ws s)) y10 (.pu (FF (Os AiV))) (.pu (pZ (zm Aov bd))) (.pu BH))) g3 (BjI (Ba2 _))
  ·unfold zm;show A6k;exact H.b0
  refine(?_:AGD zmg [tS,OW ru,Alk,ArD,Amr,.pu Dk,y6,y7,y8,.pu (jk ws s),y10,NB (Os AiV),_,.pu BH,B8,.pu (toD (FF (uA (Kq Aov bd).map bD)))]);rw[zxd];have zb:MM (Kq Aov bd) Ahv:=fun b hb q e=>by
   show Abx hb;exact zq q (z0v Bbz)
  refine⟨ws,Ä (VV Agm),Β,nw,Υ,As ws' pm' so'⟩
  show GU (ws' =ws) (V1 Wv so' so (Tk pm'.mem_iff));refine Aho (VV (.Dx [.AX w,Agm,.AU (qb (Kq (pJ ps ws' v) bd) (s w))])) w hw (A_J hw (A_J hw ⟨_,s w,Β,zb,zs w hw,AZh,hp⟩))
  exact⟨n2,n2,h _ (.ma ms x ws' v G A g1)⟩
 ·show Tm ⟨NL,_,_,Β,C.b,C.bb,fun as=>⟨_,_,_,_,Β,Β,n2,?_⟩⟩ (Q (GW [AI4,toD (Kp (uF Aov bd))]));rw[yo0];exact h _ (BX9 v)
theorem WD(AKP):Fb (qD q):=BOi
theorem ztx(BiY):ó (yR (EV f))
 | []=>IP
 | F_=>⟨h a,ztx h l⟩
theorem zxu(BiY):ó (tD (A0S f AIg))
 | []=>IP
 | F_=>⟨h a,zxu h l⟩
theorem yhc:∀ls:AAG,tD (AGU BdS)
 | []=>IP
 | l::ls=>⟨zxu (f:=HA) BKf l,yhc ls⟩
theorem z8x(ls:AAG):jq (Kp ls)= ARZ:=by
 unfold Kp;refine(?_:BSw);rw[Wy]
 congr 1
 exact qq (FR l (ych _))
theorem zy.nod(Bmb)(I:BD_):Tj t:=by
 obtain⟨ms,x,ws,u,sI,_,_,_,_⟩:=I;refine⟨IP,WD _,AiL (ztx (f:=pD) (BA p ⟨WD _,WD _,IP⟩) ps),ztx (f:=vb) (De (WD _)) _,zxu (f:=AP5) (VV (ztx (f:=EX (HA (mW Ξ w h))) BKf _)) _,zxu (f:=GV (qD (pC ps (u w)))) (De (WD _)) _,zxu (f:=bD) (gI ?_) _,IP⟩;cases b with
 | Η=>trivial
 | Ε q=>exact WD q
theorem zy.rt(Bmb)(I:BD_)(H:Azd){W:Ρ}(hW:W.length<=8)(wW:∀s∈Ξ,s.1∈W)
  {ms:N1} {x:D3} (G:nL):∃S,jq t=AQ7/\aae S ws ABK v x bs:=by
 obtain⟨vV,x',ws,u,sI,G',A,g1,S⟩:=I;show FX Β e G'.uniq G;refine⟨(stS c (lE r g ps vV x') sI ws AM8 (mW Ξ) u).pl,Agq stT mj.dn,zwt ws _,?_,S.so,?_,?_,BYn A.ok (G'.lv H.o _ _ _ w) A.ok,S.bz⟩
 ·show BQ (jk vV.flatten x' =jk vV.flatten x);unfold jk
  congr 1
  exact qq (Ė (NH AaX))
 ·show AAP (Hr (Nz S.so) (ϗ (by
   show BU s hs e (A.so.wm w).mp hw;rw[<- e];exact wW s hs)))
 ·obtain⟨U,hU,hr⟩:=H.o.hs;show AKr G.g.pi;have:=Hr (zi5 p.dj (ARl (Nz (G.g.sr f hf)))) (Ė (by
   show AYX m hm hx hh;show Ct s hs e G.g.hand hm hx;rw[<- e];exact hr s hs))
  show AF
theorem ykb{n:Δ}(ls:AAG):nu (n+2) BU2 BU2:=by
 show AGM;rw[h1] at h2;show AK0;rw[FS] at h1;cases q1:ls[i]? with
 | Η=>show Acy
 | Ε l=>
  rw[q1] at h1;show AsQ;show AcU;rw[g1] at g2;show AsP;rw[FS] at g1;cases q2:l[j]? with
  | Η=>show Lc q2 g1 g1 g1 g1 g1 g1 g1 g1 g1 g1 g1 g1 g1 g1 g1
  | Ε a=>rw[q2] at g1;show AD g1 g1 g1 g1 g1 g1 g1 g1 g1 g1 g1 g1 g1 g1;exact g_
theorem z6q{n:Δ}(bs:Hd):nu (n+2) (yC bs) (yC bs):=by
 show AGM;rw[h1] at h2;show AK0;rw[FS] at h1;cases q1:bs[i]? with
 | Η=>show Acy
 | Ε b=>
  rw[q1] at h1;show AsQ;show AcU;rw[g1] at g2;show AsP
  match j with
  | 0=>show A9n g_
  | 1=>show A9n g_
  | j+2=>simp at g1
theorem WK(o5)(Aln):nu n (M3 a) (M3 b):=by show AhO
theorem ypb(CB z4a):SY z7b 12:=by
 show AAi ns hl;have s1:=vU;show BU t4 e4 h4 (AFz (fY ns 0) 4) Φ
 show BU t9 e9 h9 (AFz (fY ns 1) 9) Φ
 refine⟨ns,0,Β,hl,Υ,lm 4,ns,1,Β,hl,Υ,lm 9,ns,1+t4,t9,?_,hl,Υ,Υ,Υ,fun Ξ U few hU hr uq nm ⟨W,hW,wW⟩=> ?_⟩
 ·refine(?_:[eK _,HA (1+ Aa9 0 4),HA (A8h 1 9)]=_);rw[AJR (A8h 0) 4 (C9 t4) e4,AJR (A8h 1) 9 (C9 t9) e9,AeM];rfl
 have O:AY8:=⟨uq,few,AEj U hr,ZE (by have:=(nm r hr).m0;have:=(nm r hr).m1;show AF)⟩
 refine A_9 (fun r g r0 zg=>⟨Β,Β,ns,Β,hl,fun ps P=>(A_9 (As bd b0 b12))⟩);have H:Azd:=⟨O,r0,zg,P,b0,b12⟩;have zp:VS ps (Iw 4000 p):=BXc P.sz P.sz
 have pC:=z2a P.gd P.len;have n2:Akj:=Υ
 refine⟨ps,Β,zp,Ml pC ⟨Ξ,r,g,ps,bd,Β,H,Cb o ho⟩⟩
 let Z:D ->Bh5:=fun d6 y7 y8 y9 y10=> [A1s,tS,OW r,Alk,NB AFb,Amr,.pu d6,y7,y8,y9,y10,B8]
 refine(?_:AGD z11 (Z (ABO o) (.ow (ħ zu)) (.ow (Atc Fd)) B8 .no));refine⟨Β,ps,Β,zp,Ml pC ⟨Ξ,r,g,ps,bd,Β,H,fun w f EA =>(C5 (Ayh BOi)),fun ls EA =>⟨⟨IP,yhc ls,IP⟩,II as⟩,fun t ws v bs EA I=>⟨Ayh I.nod,II as⟩⟩⟩
 ·rw[<- Wz ho EA];refine BEg AkO AkO;show mE yu A7Z (AKN ħ zu A1x) A1J;show mE (AKN Atc Fd (yC bd)) ⟨AkO,md,AhU,?_⟩ (APx (jy (UB Cq) A2b=AE)) BR2
  ·show AGM;rw[h1] at h2;show AK0
   match i with
   | 0=>simp at h1;subst h1;simp [nu]
   | 1=>
    show GU (ACJ [.AX w,.bl f]=x) (zF h1);show AcU;rw[g1] at g2;show AsP
    match j with
    | 0=>show AqZ
    | 1=>show AqZ
    | j+2=>simp at g1
   | i+2=>simp at h1
  ·show Zp (AVR A6T A6T)
 ·rw[<- Wz ho EA];refine BEg AI4 AI4;show mE yu A7Z (AKN ħ zu A1x) A1J;show mE (AKN Atc Fd (yC bd)) ⟨AI4,md,AhU,?_⟩ (APx (jy (UB Kr) A2b=AE)) BR2
  ·show BQ (nu 20 BX3 (ABO AoC));rw[z8x];show AGM;have h1' : FG [UB Kr,ARZ] y:=h2;rw[h1] at h1';show AD h1' h1' h1' h1' h1' h1' h1' h1' h1' h1' h1' h1' h1' h1'
   match i with
   | 0=>simp at h1;subst h1;simp [nu]
   | 1=>
    show GU (eK (AGU pZ)=x) (zF h1);exact ykb ls
   | i+2=>simp at h1
  ·show BQ (Q (.bl (jy BX3 (ABO AoC))));rw[z8x,AVR (GW [AI4,ARZ]) (ABO AoC)];exact h
 rw[<- Wz ho EA];refine BEg AXF AXF;show mE yu A7Z (AKN ħ zu A1x) A1J;show mE (AKN Atc Fd (yC bd)) ⟨AXF,md,AhU,?_⟩ (APx (jy (UB uX) A2b=Μ)) ⟨E7,E7,n2,ϵ,?_⟩
 refine⟨ps,Β,zp,Ml pC ⟨Ξ,r,g,ps,bd,Β,H,As w f ho2,Cb ls ho2,fun t2 ws2 v2 bs2 ho2 I2 as2=> ?_⟩⟩
 show BiX
 show BiX
 have e:=Wz EA ho2;obtain⟨ms0,x0,G0⟩:∃ms x,nL:=by obtain⟨ms,x,_,_,_,G,_⟩:=I2;exact⟨ms,x,G⟩
 obtain⟨S2,e2,R2⟩:=I2.rt H hW wW G0;refine i6 Č;show(UV (jq t2) Aft _)
 rw[e2];refine⟨Β,B',S2,ws2,v2,bs2,Β,R2.em,R2.so,NE R2.wf,R2.zv,R2.zb,yns _ _ _,_,Β,?_⟩
 refine BX8 O.lb
 obtain⟨S1,e1,R1⟩:=I.rt H hW wW G;obtain⟨S2,e2,R2⟩:=I2.rt H hW wW G;refine⟨_,Č,_,Č,S1,ws,ABK,v,x,bs,?_,R1,_,Č,_,Č,S2,ws2,ABK,v2,x,bs2,?_,R2,IP,h⟩
 ·show B1 ([jq t,Bd4,_]=_);rw[zmk,e1]
 ·show BQ ([jq t2,Bd4,_]=_);rw[zmk,e2];show ANv;injection e with _ e;show ANv;rw[<- e]
#print _3
namespace _Lw
open KB P4 LL _2 _3
seal QE QF QT QW QA QS pR QG X7 QI Vh OJ QIg QO QR QRA QN VD
theorem bU{k:Δ}{A:Bi}{e:Env}(hr:Ave k e):Bmw e:=AQX
theorem m5{us:At}{n:Δ}(h:kB=n+1):∃a r,us=a::r/\SK=n:=by
 cases us with
 | D8=>show Pw
 | AY a r=>exact KW a r (Nat.succ.inj h)
theorem len1{us:At}(h:kB=1):∃a0,us= [a0]:=by
 show ASR;show U_ (AGT h0);exact AHg a0
theorem len2{us:At}(h:kB=2):∃a0 a1,us= [a0,a1]:=by
 show ASR;show Acj;show U_ (AGT h1);exact⟨a0,a1,Β⟩
theorem vL{us:At}(h:kB=3):∃a0 a1 a2,us= [a0,a1,a2]:=by
 show ASR;show Acj;show Aro;show U_ (AGT h2);exact⟨a0,a1,a2,Β⟩
theorem acg{us:At}(h:kB=4):∃a0 a1 a2 a3,us= [a0,a1,a2,a3]:=by
 show ASR;show Acj;show Aro;show AVD a3 u3 h3 h2;show U_ (AGT h3);exact⟨a0,a1,a2,a3,Β⟩
theorem Uh{us:At}(h:kB=5):∃a0 a1 a2 a3 a4,us= [a0,a1,a2,a3,a4]:=by
 show ASR;show Acj;show Aro;show GB a3 u3 Β h3 (m5 h2);show AVD a4 u4 h4 h3;show BPT h4;exact⟨a0,a1,a2,a3,a4,Β⟩
theorem ach{us:At}(h:kB=6):∃a0 a1 a2 a3 a4 a5,us= [a0,a1,a2,a3,a4,a5]:=by
 show ASR;show Acj;show Aro;show GB a3 u3 Β h3 (m5 h2);show GB a4 u4 Β h4 (m5 h3);show AVD a5 u5 h5 h4;show BPT h5;exact⟨a0,a1,a2,a3,a4,a5,Β⟩
section
variable(P:A0)(w:An)(K:AA)(mg:EN)(C3:AM)(c:Cls)
abbrev Ui:Ι:=Bfn
abbrev zkc:Ι:=Bi9
abbrev zs5:Ι:=Bfw
abbrev zke:Ι:=BV_
abbrev zcv:Ι:=BV'
abbrev zgz:Ι:=BbY
abbrev zf8:Ι:=Bbn
abbrev zs3:Ι:=BWW
abbrev WL:Ι:=Bfy
abbrev zfu:Ι:=Bfq
abbrev zn3:Ι:=Bfr
abbrev ztk:Ι:=Bi'
abbrev z0q:Ι:=BT9
abbrev zut:Ι:=Bck
abbrev zk5:Ι:=BT_
abbrev Uj:Ι:=Bbp
abbrev Uk:Ι:=BWX
abbrev yav:Ι:=BUA
abbrev ziu:Ι:=BkW
abbrev zlc:Ι:=Bba
abbrev zca:Ι:=BgR
abbrev z0z:Ι:=Bcm
abbrev zfc:Ι:=BbV
abbrev z3g:Ι:=Bcl
abbrev z1t:Ι:=BiG
abbrev zpz:Ι:=BbW
abbrev z2i:Ι:=Bh_
abbrev zo6:Ι:=Bf'
abbrev zu4:Ι:=Bge
abbrev zhd:Ι:=Bf2
abbrev zmr:Ι:=BfE
abbrev zrf:Ι:=Bay
abbrev WM:Ι:=Bkv
abbrev zfm:Ι:=BgH
abbrev zcw:Ι:=BgI
abbrev zkj:Ι:=Bh'
abbrev zdg:Ι:=Bbk
abbrev zd9:Ι:=Bbl
abbrev zcq:Ι:=BdH
abbrev zh4:Ι:=BjQ
#where
section
variable{P:A0}{w:An}{K:AA}{mg:EN}{C3:AM}{f:Ζ}{fd:GA}{cdv:AJ}{A:Bi}{DD:Lo}{s:AC}{H:Hp}{E:XK}{F0:Hp}(c:Cls)
theorem tH:DF [AGl,BHr,"_law_letters","_law_size","_law_at",AeX,ATF,"_law_name","_law_j",BHs] [AGl,BHr] zkd:=BN
theorem zzc(F:A3 Ac7 Ac7 zkd)(hm:CM Ac7)(cG:AEs)(wU:A0y):Bfm:=
 ⟨f,fd,Bn iG tH zze zin (by
  have nd:=tH.nd;show B2 bU;exact(bF  (AIk 2 Bp)  (bv (Bcs B5) (ACy (Aao A2K (Nd (AIk 3 aU))) (Tb 4 n6 (AHt B5) F8) (AaB 5) (ARf AZ 6 (SZ (AIk 7 Bp) (ARf (ū F8 (À mB (BDt (AFo A2K aU)))) 8 (bv (Tb 9 n6 (ū (ū (UU sG (AHt B5)) (UU sG (À i4 i4))) (UU sG i4)) aU) (Nd (Tb 7 sE oS (UR DM (r_ (ū ÿ (À mB (BDt (Vd (AFo i4 L2) (Ra (Ed AM7 A2K aU UX)))))))))))) (ArS 5 (B0 (au oS aK))))) (ADL 5))))) (CC z1g),hm,CO,BS (by show Fc;exact Β)⟩
theorem uZ:DF [UF,ATF,BHs] [UF,ATF] znq:=BN
theorem z0f(F:A3 Ac8 Ac8 znq)(hm:CM Ac8)(bw:RS):Bfn:=
 ⟨f,fd,Bn iG uZ z47 zp3 (by
  have nd:=uZ.nd;show B2 bU;exact(bF  (ACv AYK AZ ò (ck (eY B5 AZ) fE))  (SZ (Tb 2 sE BNF aU) (A4Y AJb ò (Tb 2 n6 (ū (UU sG (UR B5 (ST n6 BNF ò))) (UU sG AZ)) aU)) (ck (bV (De n6) (À DM DM)) aU)))) (CC z45),hm,CO,BS (by show Fc;exact Β)⟩
theorem qU:DF Azc Azc ziq:=BN
theorem zvy(F:A3 Ac9 Ac9 ziq)(hm:CM Ac9):Bch:=
 ⟨f,fd,Bn iG qU zwz zg4 (by
  have nd:=qU.nd;show B2 bU;exact(bF  (Aao B5 (ACZ (B0 (Ed AJb (r_ L2) aU UX))))  (SZ (Aao B5 (AVp (ype (AFo DM (ST n6 AZ F8)) (Ra (AFo DM (ST n6 (UU sE AZ) F8)))))) (Aao B5 (AVp (Vd (AFo (r_ AZ) (r_ DM)) (Ra (Ed AJb (r_ L2) aU UX))))) AaW))) (CC zx1),hm,CO,BS (by show A9U;exact Β)⟩
theorem u6:DF [UF,Ate,BHl,"_law_way","_law_most",AeX,"_law_people",AeV,"_law_w","_law_h",AGl,"_law_turn"] [UF,Ate,BHl] zm6:=BN
theorem z0u(F:A3 Ac_ Ac_ zm6)(hm:CM Ac_)(mH:Bfm)(aO:A4 Ui)(oF:Bch)(cG:AEs)(bw:RS):Bi9:=
 ⟨f,fd,Bn iG u6 z41 zg7 (by
  have nd:=u6.nd;show B2 bU;exact(bF  (Tb 3 n6 AM_ aU)  (SZ (Ú 4 (eY (iQ  (Bfj (UU ypn aU))) AWk) fE) (dE 5 mH AM_ DM) (ACy (dE 6 mH AM_ AZ) (AaB 7) (ARf DM 8 (Nd (ARf AZ 9 (bv (Ano 10 (ū (AOK (À i4 AZ)) ÿ)) (ARK Dy (rq oF (au F8 (AN7 i4 ÿ AZ AYG))) (ArS 7 (Ao0 (Ū (UR ii i4) (UR mB ÿ) (ST n6 (AHt AYG) L2))))))))) (Tb 11 n6 (AHt AM_) (UU sE (z8e (jb (AHo oS))))) (ck iQ (B0 (zs2 (iQ  (A8 (Ju oS (Gj AW_)) Ls)) (iQ  (A8 (Ju oS Ls) (Gj AW_)))))))))) (CC z4q),hm,CO,BS (by show wq;exact Β)⟩
theorem qd:DF [AGm,Atl] [AGm,Atl] zgx:=BN
theorem zse(F:A3 Ac' Ac' zgx)(hm:CM Ac')(qW:AkG):Bfo:=
 ⟨f,fd,Bn iG qd zwc zju (by
  have nd:=qd.nd;show B2 bU;exact(bF  (Ú 0 BCU RO)  (SZ (Ú 1 BCU V') (B0 (z3d  (AUj AJb AZ aU)  (ő (yon (i:=0) (j:=1) Β nd Β Β Φ Β Β (HT AZ (ST n6 B5 AZ))) Β))) (ADL 0)))) (CC zvf),hm,CO,BS (by show Fc;exact Β)⟩
theorem wV:DF [BHm,BHn,"_law_by"] [BHm,BHn] zpw:=BN
theorem z5m(F:A3 AdA AdA zpw)(hm:CM AdA)(m7:Bfo):Bfw:=
 ⟨f,fd,Bn iG wV ybq ztv (by
  have nd:=wV.nd;show B2 bU;exact(bF  (dE 2 m7 B5 AZ)  (bv (A4Y AYK AZ (Tb 2 Ir aU DM)) BcO))) (CC z98),hm,CO,BS (by show Fc;exact Β)⟩
theorem u9:AlD [UF,AGl] zmt:=BN
theorem z0o(F:A3 AdB AdB zmt)(hm:CM AdB)(aO:A4 Ui)(ju:A4 zs5):BV_:=
 ⟨f,fd,Bn iG u9 z4h zrs (by
  have nd:=u9.nd;show B2 bU;exact(bF  (Ano 1 aU)  (AjD (UR (iQ  (AUp (Ū Bp Bp Bp))) (r_ AZ)) (Se ju (AVc AZ) (AOK (AVc AZ)))))) (CC z4i),hm,CO,BS (by show NJ;exact Β)⟩
theorem jT:AlD [UF,"_law_x","_law_y","_law_by",Bqu,ATF,AGl,"_law_height"] zdk:=BN
theorem zki(F:A3 AdC AdC zdk)(hm:CM AdC)(aO:A4 Ui)(ju:A4 zs5)(cG:AEs)(qW:AkG):BV':=
 ⟨f,fd,Bn iG jT zks ze5 (by
  have nd:=jT.nd;show B2 bU;exact(bF  (Tb 1 Ir AWk aU)  (ACy (Tb 2 Ir AWk aU) (Bcs AM_) (AaB 4) (ARf A4X 5 (bv (Ano 6 (AOK ii)) (ACy (dE 7 ju DM (AOK A3s)) (AQb G8 (yby (oK AJb ii aU UX) (z0i (oK ACb (r_ mB) aU UX))) (Nd (SW 7 (A8 (eY (yhi (i:=4) Β Fm (UU Ir ii) fE) aU) fE)))) (BbF 4 (Ao0 (HT (Se ju AZ F8) oS))) (Tb 1 sE (UU sE AZ) A3s) (Nd (Tb 2 sE (À aU (UU sE (lL (ACV ydo qW boot_abs) DM))) A3s))))) (ADL 4)))) (CC zml),hm,CO,BS (by show NJ;exact Β)⟩
theorem qX:AlD [UF,AeW,ATF,AGl,"_law_least"] zhu:=BN
theorem zv4(F:A3 AdD AdD zhu)(hm:CM AdD)(aO:A4 Ui)(cG:AEs)(wU:A0y):BbY:=
 ⟨f,fd,Bn iG qX zw8 zl6 (by
  have nd:=qX.nd;show B2 bU;exact(AEw (AaB 1) (ARf A4X 2 (SZ (Ano 3 (AOK DM)) (Tb 4 sG (r_ F8) (BDt (AFo A3r aU))) (ArS 1 (Ao0 (HT L2 (ū L2 (UR (iQ  (Bfj A3r)) A3r))))))) AZ7)) (CC zyx),hm,CO,BS (by show NJ;exact Β)⟩
theorem GK:DF [AGn,eR] [AGn,eR] z32:=BN
theorem yk6(F:A3 AdE AdE z32)(hm:CM AdE)(Ac:A0z):Bfp:=
 ⟨f,fd,Bn iG GK ymc z78 (by
  have nd:=GK.nd;show B2 bU;exact(ŷ (lL (ACV (ymb Β) Ac boot_any) (MW (yg (A5:= [IN]) (N' := A3G) (by show BQ (eZ Am9 _ [IN] [0] (aZ z32) A3G);exact⟨Β,AI,AI,AI,Β,AI⟩) Β  (A8 qR AlR)  (LJ A3G)  L5  (zD (Ed A0G B5 AZ AEh))))))) (CC yna),hm,CO,BS (by show Fc;exact Β)⟩
theorem Ad:DF BiL [ABh,eR] zpi:=BN
theorem z63(F:A3 AdF AdF zpi)(hm:CM AdF)(Bh:Bfp)(bx:mP)(bO:AIj)(Ae:A0_):Bfx:=
 ⟨f,fd,Bn iG Ad ydy zyp (by
  have nd:=Ad.nd;show B2 bU;exact(bF (AJW (AF' 2 (A5:= [AGn]) (N' := Am9) (by show BQ (eZ BiL _ [AGn] [1] (aZ zpi) Am9);exact⟨Β,AI,AI,AI,Β,AI⟩) Β  (A8 qR AlQ)  (LJ Am9)  (AFG (MF (Dy (AHk Bh AZ))))  (ML qv 0)))  (SZ (AmD 3 V') (ARH AZr 4 (ARK Dy (Se Bh L2 AZ) (Awc 3 yb5 Bsy PySem.F.type_list_extend (B0 (au L2 aK))))) (ck iQ (B0 (zs2 DM (iQ  (AWo (MW (yd3 Β Β bO Β Ae (IY F8))))))))))) (CC yc2),hm,CO,BS (by show Fc;exact Β)⟩
theorem wX:AlE [kM,OB,Md,IN,K2] zrr:=BN
theorem z44(F:A3 AdG AdG zrr)(hm:CM AdG):Bbn:=
 ⟨f,fd,Bn Hl wX yaj ztr (by
  have nd:=wX.nd;show B2 bU;exact(AEw (ApZ 1) (BCz AZr 2 3 4 (bv (AUd (B0 (yom (i:=1) AAg  AlZ Β Fm)) (Nd (B0 (ym9 (i:=1) (j:=2) AAg Β Fm Β Fm  AwY)))) (AhX (ymm (i:=1) (j:=2) (l:=3) AAg Β Fm Β Fm Β Fm  (Ç 4))))) (ő Vu BOU))) (CC ycq),hm,CO,BS (by show NJ;exact Β)⟩
theorem Af:AlE [kM,ABh,XB] zwj:=BN
theorem z99(F:A3 AdH AdH zwj)(hm:CM AdH)(wY:Bfx)(dI:AYV)(bO:AIj)(bx:mP):Bbo:=
 ⟨f,fd,Bn Hl Af yez zwq (by
  have nd:=Af.nd;show B2 bU;exact(AEw (SW 1 (AN8 Bw aK)) (AQk (A8 ybe (AQH dI RO)) (Ã 2) (Nd (dE 1 wY AZ (iQ  (A8 (AN0 (yli Β)) AkQ))))) (ő Vu (rS yem (ycv (De (you hu)) Β bO boot_sorted) V')))) (CC yfa),hm,CO,BS (by show NJ;exact Β)⟩
theorem wZ:DF [ALe,UH,"rest"] [ALe,UH] zro:=BN
theorem z54(F:A3 AdI AdI zro)(hm:CM AdI)(qW:AkG):BWW:=
 ⟨f,fd,Bn iG wZ ycl ztt (by
  have nd:=wZ.nd;show B2 bU;exact(bF  (B0 (z3d  (AUj AM7 AZ aU)  (SZ (Tb 2 n6 B5 AZ) (SW 0 (Ç 1)) (Nd (SW 1 AlZ)))))  (ck BCU RO))) (CC z89),hm,CO,BS (by show Fc;exact Β)⟩
theorem tK:DF [kQ,BHt,xl] [kQ] zgw:=BN
theorem zyv(F:A3 AdJ AdJ zgw)(hm:CM AdJ)(j9:A4 zs3):BbZ:=
 ⟨f,fd,Bn iG tK z1m zn4 (by
  have nd:=tK.nd;show B2 bU;exact(A2p 1 (ARH AZr 2 (Nd (Tb 1 sG AZ (ST v9 AY7 (Se j9 AZ AY7))))) (ŷ (MW (yg (A5:= [xl]) (N' := A6V) (by show BQ (eZ [kQ,BHt,xl] _ [xl] [1] (aZ zgw) A6V);exact⟨Β,AI,AI,AI,Β,AI⟩) Β  (A8 qR (vQ B5))  (LJ A6V)  L5  (ML (bV (De sG) lh) (ST v9 AZ lh))))))) (CC z0a),hm,CO,BS (by show NJ;exact Β)⟩
theorem w6:DF AjM AjM zk7:=BN
theorem z4n(F:A3 AdK AdK zk7)(hm:CM AdK)(jl:AJi):Bci:=
 ⟨f,fd,Bn iG w6 z88 ztf (by
  have nd:=w6.nd;show B2 bU;exact(AQt (yg (A5:= BNj) (N' := AsD) (by show BQ (eZ AjM _ BNj [0,1,2,3] (aZ zk7) AsD);exact⟨Β,AI,AI,AI,Β,AI⟩) Β  (A8 qR (Ē Vn jl BPD))  (zD (DG Β (pH (Zs 0 AsD) (pH (Zs 1 AsD) Dz))))  L5  (ML (bV (De v9) (ST Ir (À (UR F8 L2) B5) (À BPJ AZ))) ii)))) (CC z9j),hm,CO,BS (by obtain⟨_,_,_,_,Β⟩:=acg hl;exact Β)⟩
theorem xq:Bgx xk AeZ xk zkt:=BN
theorem z52(F:A3 AdL AdL zkt)(hm:CM AdL)(uI:Bci)(eU:AkH):Bi_:=
 ⟨f,fd,Bn iG xq z7r zs8 (by
  have nd:=xq.nd;show B2 bU;exact(ze (SW 3 (A8 (eY B5 AZ) fE)) (AQt (yg (A5:= BM3) (N' := Aru) (by show BQ (eZ [SB,XE,xk,AeZ] _ BM3 [1,2,3] (aZ zkt) Aru);exact⟨Β,AI,AI,AI,Β,AI⟩) Β  (A8 qR (Ē zif eU RO))  (zD (DG Β (pH (Zs 0 Aru) (pH (Zs 1 Aru) Dz))))  L5  (ML (A7L DM AZ) (rq uI (AN7 AZ L2 DM F8))))))) (CC z7e),hm,CO,BS (by show wq;exact Β)⟩
theorem vd:DF ["top",BHo,"common"] ["top",BHo] znb:=BN
theorem z1e(F:A3 AdM AdM znb)(hm:CM AdM)(j9:A4 zs3):Bfy:=
 ⟨f,fd,Bn iG vd z42 zq9 (by
  have nd:=vd.nd;show B2 bU;exact(bF  (Aao AZ A5O)  (SZ (dE 2 j9 B5 AZ) (A4Y AYK AZ (Ú 2 Jo DM)) BcO))) (CC z4g),hm,CO,BS (by show Fc;exact Β)⟩
theorem tL:Bgx ATG UH ATG zkl:=BN
theorem zyk(F:A3 AdN AdN zkl)(hm:CM AdN)(bx:mP):BkS:=
 ⟨f,fd,Bn iG tL z0y zn8 (by
  have nd:=tL.nd;show B2 bU;exact(bF  (AmD 3 RO)  (SZ (Bfh (Ç 1) DM) (Bfh AlZ AZ) (ADL 3)))) (CC z1c),hm,CO,BS (by show wq;exact Β)⟩
theorem Kw:DF [SB,XE,ATG] [SB,XE] yi3:=BN
theorem ynb(F:A3 "led" "led" yi3)(hm:CM "led")(qe:BkS)(cG:AEs)(bw:RS):Bfz:=
 ⟨f,fd,Bn iG Kw yo5 yg0 (by
  have nd:=Kw.nd;show B2 bU;exact(bF  (B0 (yac Β Β cG  (B0 (au AZ (IY ò)))  (Ã 2)  (Age (AUj AM7 (UR (UR B5 DM) AZ) aU) (AQd qe A7'))))  A5O)) (CC ypo),hm,CO,BS (by show Fc;exact Β)⟩
theorem Ag:DF BEs [kM,Atm] WR:=BN
theorem ybt(F:A3 AdO AdO WR)(hm:CM AdO)(qg:BbZ)(uJ:Bi_)(bL:A4 WL)(Ky:Bfz)(cG:AEs)(bw:RS)(jl:AJi)(eU:AkH):Bf_:=
 ⟨f,fd,Bn iG Ag yep zyt (by
  have nd:=Ag.nd;show B2 bU;exact(ze (AJW (AF' 2 (A5:= AQv) (N' := AQv) (by show BQ (eZ BEs _ AQv [] (aZ WR) AQv);exact⟨Β,AI,AI,AI,Β,AI⟩) Β  (A8 qR (Ē Vn jl BPD))  (zD (DG Β (pH (Zs 0 AQv) (pH (Zs 1 AQv) Dz))))  L5  (AgV qg (IY (MW (zs2 B5 (iQ  (AUp V')))))))) (A2p 3 (B0 (Rg Β Β cG  (B0 (au (BZv AkQ) aK))  (Ã 4)  (bv (AEu 2 uJ (Ū (Se Ky DM L2) L2 F8)) (Nd (SW 3 (A8 (eY BPJ L2) fE)))))) (AQt (yg (A5:= ARO) (N' := ARO) (by show BQ (eZ BEs _ ARO [] (aZ WR) ARO);exact⟨Β,AI,AI,AI,Β,AI⟩) Β  (A8 qR (Ē zif eU AkQ))  (zD (DG Β (pH (Zs 0 ARO) (pH (Zs 1 ARO) Dz))))  L5  (AWy bL Anc (UR AZ B5))))))) (CC yeo),hm,CO,BS (by show Fc;exact Β)⟩
theorem qj:BXD zef:=BN
theorem zsr(F:A3 AdP AdP zef)(hm:CM AdP):Bfq:=
 ⟨f,fd,Bn iG qj zwk zjs (by
  have nd:=qj.nd;show B2 bU;exact(ŷ (MW (yg (A5:= [XB]) (N' := ARo) (by show BQ (eZ ϩ _ [XB] [0] (aZ zef) ARo);exact⟨Β,AI,AI,AI,Β,AI⟩) Β  (A8 qR (vQ AZ))  (LJ ARo)  (AFG (ynn AAg AZ B5 AEh))  (ML qv 0))))) (CC zwh),hm,CO,BS (by show Fc;exact Β)⟩
theorem tM:DF ["step",ķ] ["step",ķ] zkp:=BN
theorem zw9(F:A3 AdQ AdQ zkp)(hm:CM AdQ):Bfr:=
 ⟨f,fd,Bn iG tM zzm zof (by
  have nd:=tM.nd;show B2 bU;exact(A1' (ydx (De Yb) (De Yb) AHm B5) AHm)) (CC z0x),hm,CO,BS (by show Fc;exact Β)⟩
theorem xu:DF A_u A_u WT:=BN
theorem z5j(F:A3 ASj ASj WT)(hm:CM ASj)(iK:A4 zn3)(Ac:A0z):Bi':=
 ⟨f,fd,Bn iG xu yax ztu (by
  have nd:=xu.nd;show B2 bU;exact(ŷ (MW (yg (A5:= [kR]) (N' := AnK) (by show BQ (eZ A_u _ [kR] [1,2] (aZ WT) AnK);exact⟨Β,AI,AI,AI,Β,AI⟩) Β  (A8 qR (vQ B5))  (LJ AnK)  (AFG (Dy (ACV (ymb Β) Ac boot_any (IY (MW (yg (A5:= ["start"]) (N' := A_v) (by show BQ (eZ AnK _ ["start"] [0,2] (yfr _ (aZ WT)) A_v);exact⟨Β,AI,AI,AI,Β,AI⟩) Β  (A8 qR AlR)  (LJ A_v)  L5  (AWy iK (ST Ir AZ B5) DM)))))))  (ML qv 0))))) (CC z97),hm,CO,BS (by show wq;exact Β)⟩
theorem GP:Ack yci:=BN
theorem ylv(F:A3 AdR AdR yci)(hm:CM AdR)(bL:A4 WL):BT9:=
 ⟨f,fd,Bn iG GP ynm ybp (by
  have nd:=GP.nd;show B2 bU;exact(AFq bL (ū AAu A_Z) AAu)) (CC yow),hm,CO,BS (by show Fc;exact Β)⟩
theorem Cy:DF [L8,ASj,xl] [L8] zz7:=BN
theorem yeq(F:A3 AdS AdS zz7)(hm:CM AdS)(nP:A4 ztk)(oG:A0f):Bck:=
 ⟨f,fd,Bn iG Cy yjg z2t (by
  have nd:=Cy.nd;show B2 bU;exact(AEw (Ú 1 qQ A3c) (ARH AZr 2 (Nd (dE 1 oG AZ DM))) AZ7)) (CC yjq),hm,CO,BS (by show NJ;exact Β)⟩
theorem Cz:DF BiK [IN,UH,OB] zv1:=BN
theorem ygn(F:A3 AdT AdT zv1)(hm:CM AdT)(cF:A4 zfu)(j6:A4 zut)(oG:A0f)(bw:RS):BjP:=
 ⟨f,fd,Bn iG Cz ykc z3h (by
  have nd:=Cz.nd;show B2 bU;exact(AZJ (dE 3 cF AZ (AHk cF DM)) (Ark 4 (AP9 j6 (MW (yg (A5:= [XB]) (N' := Az2) (by show BQ (eZ BiK _ [XB] [] (aZ zv1) Az2);exact⟨Β,AI,AI,AI,Β,AI⟩) Β  (A8 qR (vQ F8))  (LJ Az2)  L5  (ML qQ (HT AWO BSz)))))) (ck (A7L AZ (Se oG (AKK (AHo F8)) L2)) L2))) (CC ykd),hm,CO,BS (by show wq;exact Β)⟩
theorem Ah:DF ARc ARc zpd:=BN
theorem z6n(F:A3 AdU AdU zpd)(hm:CM AdU)(Bj:BjP):BkT:=
 ⟨f,fd,Bn iG Ah yfi zxk (by
  have nd:=Ah.nd;show B2 bU;exact(AQt (yg (A5:= [UH]) (N' := A'5) (by show BQ (eZ ARc _ [UH] [0,2] (aZ zpd) A'5);exact⟨Β,AI,AI,AI,Β,AI⟩) Β  (A8 qR AlR)  (LJ A'5)  L5  (AgV Bj (Ū AZ B5 DM))))) (CC ye7),hm,CO,BS (by show wq;exact Β)⟩
theorem CG:Ack zz5:=BN
theorem yc8(F:A3 AdV AdV zz5)(hm:CM AdV)(bL:A4 WL):BT_:=
 ⟨f,fd,Bn iG CG ylm z4c (by
  have nd:=CG.nd;show B2 bU;exact(AFq bL (ST Ir AAu A_Z) AAu)) (CC yif),hm,CO,BS (by show Fc;exact Β)⟩
theorem tO:DF [XB] [XB] zj9:=BN
theorem zyi(F:A3 AdW AdW zj9)(hm:CM AdW)(bL:A4 WL)(Kz:Na Ī)(bw:RS):Baw:=
 ⟨f,fd,Bn iG tO z1n zog (by
  have nd:=tO.nd;show B2 bU;exact(AFq bL (Ē yjm Kz B5) BSz)) (CC z06),hm,CO,BS (by show NJ;exact Β)⟩
theorem Ai:BXD zpo:=BN
theorem z9k(F:A3 AdX AdX zpo)(hm:CM AdX)(j6:A4 zut)(eV:A4 zk5)(ql:Baw)(cF:A4 zfu):Bg':=
 ⟨f,fd,Bn iG Ai yfk zxz (by
  have nd:=Ai.nd;show B2 bU;exact(ŷ (AP9 j6 (MW (yg (A5:= [XB]) (N' := ARo) (by show BQ (eZ ϩ _ [XB] [0] (aZ zpo) ARo);exact⟨Β,AI,AI,AI,Β,AI⟩) Β  (A8 qR (vQ BNq))  (LJ ARo)  L5  (AWy eV (AKK (APN B5 AZ)) (AY2 ql))))))) (CC yfo),hm,CO,BS (by show Fc;exact Β)⟩
theorem mJ:DF Ar0 [eR,OB] Uy:=BN
theorem zmq(F:A3 AdY AdY Uy)(hm:CM AdY)(xG:Bf_)(xH:BkT)(xJ:Bg')(cF:A4 zfu)(bw:RS):BhA:=
 ⟨f,fd,Bn iG mJ zoq zgl (by
  have nd:=mJ.nd;show B2 bU;exact(Ŧ (AJW (AF' 2 (A5:= [IN]) (N' := ARc) (by show BQ (eZ Ar0 _ [IN] [0,1] (aZ Uy) ARc);exact⟨Β,AI,AI,AI,Β,AI⟩) Β  (A8 qR (Abl A7Q))  (LJ ARc)  L5  (AgV xH A7'))) (AJW (AF' 3 (A5:= [IN]) (N' := ϩ) (by show BQ (eZ Ar0 _ [IN] [1] (aZ Uy) ϩ);exact⟨Β,AI,AI,AI,Β,AI⟩) Β  (A8 qR (Abl A7Q))  (LJ ϩ)  L5  (A'f xJ))) (ANU (Xs O4 (AF' 4 (A5:= [IN]) (N' := ϩ) (by show BQ (eZ Ar0 _ [IN] [1] (aZ Uy) ϩ);exact⟨Β,AI,AI,AI,Β,AI⟩) Β  (A8 qR AlQ)  (LJ ϩ)  L5  (ML qQ (HT (AHo BNq) aU)))) (ACZ (Ŏ xG (HT (MW (zs2 (iQ  (AWo L2)) DM)) (MW (zs2 (iQ  (AWo (AKK aU))) F8)))))))) (CC zo2),hm,CO,BS (by show Fc;exact Β)⟩
theorem vf:AlE BkO zjd:=BN
theorem z01(F:A3 AdZ AdZ zjd)(hm:CM AdZ)(xK:Bbo)(jw:BhA)(dI:AYV)(bx:mP)(jl:AJi):Bbp:=
 ⟨f,fd,Bn Hl vf z5c zqw (by
  have nd:=vf.nd;show B2 bU;exact(AZJ (ApZ 1) (Jj Β  (Ŏ xK.fn RO)  (Ã 2) (B0 (ANU (Ark 3 (MW (Ē z4b bx (AP9 dI.fn (MW (yg (A5:= [kQ]) (N' := A4g) (by show BQ (eZ BkO _ [kQ] [2] (aZ zjd) A4g);exact⟨Β,AI,AI,AI,Β,AI⟩) Β  (A8 qR (vQ B5))  (LJ A4g)  (AFG (oK A0G lh AZ AEh))  (ML qv 0))))))) (Nd (AQk (A'U (HT DM (Se jw DM F8))) (AnN 4 5) (Nd (rS (z4d (i:=1) AAg Β Fm  (Ç 4)) qv 5))))))) (ő Vu BOU))) (CC z59),hm,CO,BS (by show NJ;exact Β)⟩
theorem vg:AlE BRZ zji:=BN
theorem zz8(F:A3 Ada Ada zji)(hm:CM Ada)(bQ:AhV)(eV:A4 zk5):BfQ:=
 ⟨f,fd,Bn iG vg z5g zpy (by
  have nd:=vg.nd;show B2 bU;exact(ze (Ú 1 zzd (AQH bQ RO)) (AQt (yg (A5:= BU3) (N' := Ach) (by show BQ (eZ BRZ _ BU3 [1] (aZ zji) Ach);exact⟨Β,AI,AI,AI,Β,AI⟩) Β  (A8 qR AlQ)  (zD (DG Β (pH (Zs 0 Ach) (pH (Zs 1 Ach) (pH (Zs 2 Ach) Dz)))))  L5  (ML qQ (AOJ AZ (Se eV (AKK DM) (APN F8 AZ)))))))) (CC z5k),hm,CO,BS (by show NJ;exact Β)⟩
theorem CJ:Ack z1d:=BN
theorem ycy(F:A3 Adb Adb z1d)(hm:CM Adb):BWX:=
 ⟨f,fd,Bn iG CJ ykm z3w (by
  have nd:=CJ.nd;show B2 bU;exact(bM  (A8 fM (B0 (Ed AYK AAu A_Z UX))))) (CC ykp),hm,CO,BS (by show Fc;exact Β)⟩
theorem CK:Ack zzt:=BN
theorem yge(F:A3 Adc Adc zzt)(hm:CM Adc)(bL:A4 WL):BT':=
 ⟨f,fd,Bn iG CK yim z24 (by
  have nd:=CK.nd;show B2 bU;exact(AFq bL AAu AAu)) (CC yk3),hm,CO,BS (by show Fc;exact Β)⟩
theorem GQ:Ack z9s:=BN
theorem ykf(F:A3 Ade Ade z9s)(hm:CM Ade)(bL:A4 WL):BUA:=
 ⟨f,fd,Bn iG GQ yoh z8q (by
  have nd:=GQ.nd;show B2 bU;exact(AFq bL AAu AAu)) (CC ymd),hm,CO,BS (by show Fc;exact Β)⟩
theorem xM:DF [ALo,AGo,"x",xl] [ALo,AGo,"x"] zqn:=BN
theorem z5q(F:A3 Adf Adf zqn)(hm:CM Adf)(Bk:BT')(oG:A0f)(eV:A4 zk5)(uK:A4 yav):BkU:=
 ⟨f,fd,Bn iG xM z8o zts (by
  have nd:=xM.nd;show B2 bU;exact(bF  (dE 3 Bk (Se eV DM lh) BPz)  (ACZ (Ŏ oG (HT lh (Se uK F8 BPz)))))) (CC z9y),hm,CO,BS (by show wq;exact Β)⟩
theorem oU:AWi [NU,"x",ALo,AGo] "x" zfr:=BN
theorem zrw(F:A3 ALH BGw zfr)(M:Meth K js ALH f)(cH:AYW)(uL:BkU)(jl:AJi)(bG:AIn)(aN:Ah4):BkW:=
 AGK (Bn iG oU zsn zhx (by
  have nd:=oU.nd;show B2 bU;exact(AEw (AQb MF (Dy (AFJ (k8 (k8 Abw)) AZ)) (ck (eY (k8 Abw) aU) fE)) (AQk (A'U (HT Abw (yaf Abw (Gj aU) Ls))) (AnN 2 3) (ARK Dy (AFJ AZ (k8 F8)) (AQd uL (Ū DM F8 AZ)))) (ck (eY (UR Abw AWO) aU) fE))) (CC zsg)) (BS (by show Fc;exact Β))
theorem Aj:DF Bb5 [L8] zpp:=BN
theorem yat(F:A3 Adg Adg zpp)(hm:CM Adg)(cH:AYW)(bw:RS):Bba:=
 ⟨f,fd,Bn iG Aj ydr zy1 (by
  have nd:=Aj.nd;show B2 bU;exact(AZJ (AaB 1) (Jj Β  AZr  (Ã 2) (B0 (ANU (Ark 3 (z8e (jb (AHo (MW (yg (A5:= [UH]) (N' := A9h) (by show BQ (eZ Bb5 _ [UH] [2] (aZ zpp) A9h);exact⟨Β,AI,AI,AI,Β,AI⟩) Β  (A8 qR (vQ AZ))  (LJ A9h)  (AFG (MF (Dy (AFJ AZ B5))))  (ML qv 0))))))) (Awc 1 z8s Brm PySem.F.type_list_insert (B0 (au F8 AkQ)))))) AZ7)) (CC ygm),hm,CO,BS (by show NJ;exact Β)⟩
theorem lF:DF [LM,ALf,kN] [LM,ALf] zcj:=BN
theorem zlp(F:A3 j_ j_ zcj)(hm:CM Asr)(gP:A4 zlc):BgR:=
 ⟨f,fd,Bn Hl lF zna zfj (by
  have nd:=lF.nd;show B2 bU;exact(ze (AEu 2 gP RO) (Xs bM (Xs Vu (Xs yem (yg (A5:= ["count"]) (N' := A9j) (by show BQ (eZ [LM,ALf,kN] _ ["count"] [2] (aZ zcj) A9j);exact⟨Β,AI,AI,AI,Β,AI⟩) Β  (A8 qR (Abl (A8 (Ju AZ Ls) (Gj (Jo aU)))))  (LJ A9j)  L5  (ML (X5 (oK AJb B5 aU UX) (UR AZ (Jo B5))) Ox))))))) (CC zmx),hm,CO,BS (by show Fc;exact Β)⟩
theorem GR:DF [L8] [L8] ya1:=BN
theorem yk1(F:A3 ALD ALD ya1)(hm:CM ALD)(uK:A4 yav)(j6:A4 zut)(bw:RS):Bcm:=
 ⟨f,fd,Bn iG GR yl4 yce (by
  have nd:=GR.nd;show B2 bU;exact(AFq uK (AY2 j6) (AKK ò))) (CC yob),hm,CO,BS (by show NJ;exact Β)⟩
theorem oV:DF [ad] [ad] zfw:=BN
theorem zqa(F:A3 Adh Adh zfw)(hm:CM Adh):BbV:=
 ⟨f,fd,Bn iG oV zst zit (by
  have nd:=oV.nd;show B2 bU;exact(A1' (A7L Bp aU) aU)) (CC zsl),hm,CO,BS (by show NJ;exact Β)⟩
theorem CN:DF ["two"] ["two"] z0e:=BN
theorem yfl(F:A3 Adi Adi z0e)(hm:CM Adi)(eV:A4 zk5):Bcl:=
 ⟨f,fd,Bn iG CN yje z3y (by
  have nd:=CN.nd;show B2 bU;exact(AFq eV lh lh)) (CC yiq),hm,CO,BS (by show NJ;exact Β)⟩
theorem xO:DF [kN,"best",XE,"two"] [kN] zqq:=BN
theorem z51(F:A3 Adj Adj zqq)(hm:CM Adj)(cH:A4 Uk)(oH:A4 z3g)(cG:AEs)(bw:RS):Bcn:=
 ⟨f,fd,Bn iG xO yar ztg (by
  have nd:=xO.nd;show B2 bU;exact(AEw (SW 1 (AN8 (Ju B5 Ls) (Gj aU))) (B0 (yac Β Β cG  (B0 (au aU (IY BPP)))  (Ã 2)  (bv (SW 3 (BT0 DM DM)) (ARK MF (Dy (AFJ (rq oH V') (AP9 oH F8))) (Nd (SW 1 (Ç 3))))))) AZ7)) (CC z9c),hm,CO,BS (by show NJ;exact Β)⟩
theorem GX:DF [kN,ae] [kN,ae] ybz:=BN
theorem yko(F:A3 ALE ALE ybz)(hm:CM ALE)(uM:Bcn)(cH:AYW)(oH:A4 z3g)(bw:RS)(gG:ArA):BiG:=
 ⟨f,fd,Bn iG GX yox z6l (by
  have nd:=GX.nd;show B2 bU;exact(bF  (AQb G8 (yby (oK ACb ò aU UX) (z0i (Dy (AFJ AZ (AY2 oH))))) (BFJ gG gG))  (AQd uM RO))) (CC yng),hm,CO,BS (by show Fc;exact Β)⟩
theorem Ak:DF [kN] [kN] zvc:=BN
theorem yas(F:A3 ALG ALG zvc)(hm:CM ALG)(bw:RS):BbW:=
 ⟨f,fd,Bn iG Ak yf5 zxt (by
  have nd:=Ak.nd;show B2 bU;exact(bM  (A8 fM (BT0 (AHt BPP) (AHt ò))))) (CC ydm),hm,CO,BS (by show NJ;exact Β)⟩
theorem CP:DF AjL [ad,LM,ae] Oj:=BN
theorem yix(hr:AVM 6 ī (aZ Oj))(oJ:A0g)(dJ:A0h)(BGR):pR (fQ X0 P w K mg C3 AjL ī (aZ Oj) f cdv A DD s H E) F0 H (yM Oj) (zuj K c):=by
 have nd:=CP.nd;have hu:AbZ ī Oj:=AQX
 exact(bF  (ACv AYK (AHo AZ) (AY2 dJ) (BFJ jm jm))  (SZ (ACv ACb B5 Bp (AQd oJ V')) (ACv ACb B5 Bp (AQd oJ (IY (AP9 lG BN9)))) (AQd oJ (IY (Se rR BN9 (X5 (oK (De Yc) DM Ox UX) (yl3 Β lH) DM))))))
theorem ygo{f:Ζ}{fd:GA}{vW:Ζ}(c:Cls)(F:BhK)(oJ:A0g)(dJ:A0h)(BGR):U2 gK X0 7 f fd AjL (pA K (T7 c)):=
 Bn abJ CP yk7 zuj (yix c hr oJ dJ rR lG gP bw jm lH) (CC yk5)
theorem yf3{f:Ζ}{fd:GA}{vW:Ζ}{Sy:N4}{dn:Δ}{SJ:AEO}(c:Cls)(F:BhK)(hT:aI vW=Ε (BEV (BJP [BM])))(hm:CM ī)(oJ:A0g)(dJ:A0h)(BGR):Bh_:=by
 have FO:=BW5 ygo P c F oJ dJ rR lG gP bw jm lH;have kp:=CO;obtain⟨oc,od,kV,doc,pm,an,cdv,ct,osl,e0,lk,hcd⟩:=F.ex;subst e0;refine⟨f,_,FO,hm,kp,Bds,Bds⟩
 ·obtain⟨_,_,_,Β⟩:=vL (us:=us) A0q;exact Bf7 Β
 ·have hl2:kB=2:=C6 hl
  obtain⟨_,_,Β⟩:=len2 (us:=us) (DT hl2);exact Bf7 Β
theorem tQ:DF [ALi,Ato,ALh,BHy] [ALi,Ato,ALh] zkf:=BN
theorem zxv(F:A3 Adk Adk zkf)(hm:CM Adk)(qH:A4 z2i)(jm:AiE)(gG:ArA)(gb:AoT)(qm:BTp)(kj:AoU):BkV:=
 ⟨f,fd,Bn iG tQ z0n zob (by
  have nd:=tQ.nd;show B2 bU;exact(AZJ (Aqu Ox) (Xs (Aza z82 (Aqu (z17 qH Qb Β A7'))) (iO Β jm.1 (jm.2).k (AiG (bM  (Aqu G7))) Φ (A8 (.DV Β gG.1 (gG.2).k (AiG (bM  (Aqu G7)))) Φ))) (ADL 3))) (fun ds Q Ex h=>zzl (Bez qm) h),hm,CO,BS (by show wq;exact Β)⟩
theorem CQ:A7f [L8,kP,"lists",ķ] z1l:=BN
theorem yd6(F:A3 aT aT z1l)(hm:CM aT)(nP:A4 ztk):Bf':=
 ⟨f,fd,Bn iG CQ yj2 z3v (by
  have nd:=CQ.nd;show B2 bU;exact(bF  (AHF Ji 2 (AWo (iQ  A4s)))  (bv (ARH (Ç 1) 3 (ArS 2 (B0 (au (rq nP (AOJ (yhi (i:=2) Β Fm AWO fE) F8)) aK)))) (ADL 2)))) (CC yla),hm,CO,BS (by show Fc;exact Β)⟩
theorem lJ:AWi Aie aT Uz:=BN
theorem zl8(F:A3 K0 Ad3 Uz)(dh:Aae)(iZ:A7V)(jA:A4 zo6)(bx:mP)(jD:BCj)(bH:Apf):U2 gK X0 4 f fd Aie (Zb K NL aT (Wa c)):=by
 have nd:=lJ.nd;refine ycs F Β lJ dh iZ jD.1 bH Β AYH (ACP ydd) Φ (AvN ?_)
 have hu:AbZ Ad3 Uz:=AQX
 exact⟨Β,Β,E7,zfk K c,IU (yey (A5:= [ALf]) (N' := Az1) (by show BQ (eZ Aie _ [ALf] [] (aZ Uz) Az1);exact⟨Β,AI,AI,AI,Β,AI⟩) Β  (A8 qR AlR)  (LJ Az1)  L5  (ML (AN0 Rr) RO)),BjC yde⟩
theorem zk3(F:A3 K0 Ad3 Uz)(M:Bhq NL)(hm:fq xD NL)(dh:Aae)(iZ:A7V)(jA:A4 zo6)(bx:mP)(jD:BCj)(bH:Apf):Bkw:=
 ⟨f,fd,zl8 c F dh iZ jA bx jD bH,M.1,M.2,dh,hm,BS (by show Fc;exact Β)⟩
theorem qp:DF [Aed,LM] [Aed,LM] zem:=BN
theorem zr6(F:A3 Adl Adl zem)(hm:CM Adl)(cH:AYW)(bw:RS):Bf0:=
 ⟨f,fd,Bn iG qp zup zjt (by
  have nd:=qp.nd;show B2 bU;exact(ŷ (AHo (MW (yg (A5:= [K2]) (N' := A5L) (by show BQ (eZ [Aed,LM] _ [K2] [0] (aZ zem) A5L);exact⟨Β,AI,AI,AI,Β,AI⟩) Β  (A8 qR (vQ AZ))  (LJ A5L)  (AFG (MF (Dy (AHk cH AZ))))  (ML qv 0)))))) (CC zv0),hm,CO,BS (by show Fc;exact Β)⟩
theorem G3:DF [LM] [LM] z2r:=BN
theorem yk8(F:A3 Adm Adm z2r)(hm:CM Adm)(m8:Bf0)(bO:AIj)(Ae:A0_):Bax:=
 ⟨f,fd,Bn iG G3 ymu yb6 (by
  have nd:=G3.nd;show B2 bU;exact(AQt (yi4 Β Β bO Β Ae (au (MW (zs2 (iQ  A4s) (MW (yg (A5:= [K2]) (N' := A5K) (by show BQ (eZ [LM] _ [K2] [0] (aZ z2r) A5K);exact⟨Β,AI,AI,AI,Β,AI⟩) Β  (A8 qR AlQ)  (LJ A5K)  L5  (A'f m8))))) aK)))) (CC ynx),hm,CO,BS (by show NJ;exact Β)⟩
theorem oW:A7f BXu zdy:=BN
theorem zr1(F:A3 Adn Adn zdy)(hm:CM Adn)(jA:A4 zo6)(bx:mP)(lK:BKz):Bc4:=
 ⟨f,fd,Bn iG oW zsb zid (by
  have nd:=oW.nd;show B2 bU;exact(bF (AJW (AF' 2 (A5:= [kR]) (N' := A9i) (by show BQ (eZ BXu _ [kR] [0] (aZ zdy) A9i);exact⟨Β,AI,AI,AI,Β,AI⟩) Β  (A8 qR (Ē z0s lK RO))  (LJ A9i)  L5  (ML (bV (De Ir) Anc) B5)))  (bv (dE 3 jA DM (BeL V')) (BZ_ (BeL (IY F8)))))) (CC zsj),hm,CO,BS (by show Fc;exact Β)⟩
theorem nQ:A7f BFw WW:=BN
theorem zom(F:A3 Ado Ado WW)(hm:CM Ado)(lM:Bc4)(iK:A4 zn3)(jl:AJi)(KC:Na "max"):Bc5:=
 ⟨f,fd,Bn iG nQ zqt zha (by
  have nd:=nQ.nd;show B2 bU;exact(AZJ (AHF Ji 2 A4s) (Rp Β  (A'U (HT AZ (AHk lM AZ)))  (AnN 3 4) (B0 (ze (B0 (ydf (i:=5) nd Β Β (A5:= [kR]) (N' := A4v) (by show BQ (eZ BFw _ [kR] [2,3] (aZ WW) A4v);exact⟨Β,AI,AI,AI,Β,AI⟩) Β (jb (qR (vQ B5)))  (LJ A4v)  (AFG (Dy (Se iK (ST Ir B5 Anc) DM)))  (ML qv 0))) (Xs bM (M7 (i:=2) (De zev) AvD AvE Β Fm (B0 (IY (lL (ACV (yoe Β) KC boot_max) (MW (yg (A5:= [kR]) (N' := BBx) (by show BQ (eZ BFw _ [kR] [0,4] (aZ WW) BBx);exact⟨Β,AI,AI,AI,Β,AI⟩) Β  (A8 qR (vQ ii))  (LJ BBx)  (AFG (oK A0G (ST Ir Anc B5) DM AEh))  (ML qv 0))))))))))) (BZ_ DM))) (CC zq3),hm,CO,BS (by show Fc;exact Β)⟩
theorem G4:DF [LM,kP,L8,"lists"] [LM,kP] ycd:=BN
theorem yj1(F:A3 Adp Adp ycd)(hm:CM Adp)(jc:Bkw)(Fi:Bax)(jA:A4 zo6)(jM:Bc5)(bw:RS):Bge:=
 ⟨f,fd,Bn iG G4 ym3 z7g (by
  have nd:=G4.nd;show B2 bU;exact(bF  (AEu 2 Fi RO)  (SZ (dE 3 jA DM AZ) (AUd (B0 (oK (De ynl) ò (UR F8 AWO) AEh)) (ő (z8w Β jc Qb Β) (IY F8))) (ACZ (Ŏ jM (HT DM AZ)))))) (CC yoo),hm,CO,BS (by show Fc;exact Β)⟩
theorem nR:DF [L8,K2,XE,"border"] [L8,K2] ze9:=BN
theorem zo0(F:A3 W_ W_ ze9)(hm:CM Ass)(cH:AYW)(eU:AkH)(bw:RS):Bf2:=
 ⟨f,fd,Bn iG nR zqb zg9 (by
  have nd:=nR.nd;show B2 bU;exact(bF  (AQk (B0 (zif Β Β eU RO)) (AnN 2 3) (ARK G8 (yby (oK (De ypw) F8 Ox UX) (z0i (MF (Dy (AFJ AZ F8))))) (ADL 2)))  (ck BZv RO))) (CC zp5),hm,CO,BS (by show Fc;exact Β)⟩
theorem xP:DF BGa AiJ WX:=BN
theorem z5l(F:A3 Adq Adq WX)(hm:CM Adq)(rW:BfQ)(fC:A4 ziu)(bC:A4 zca)(qt:BkV)(m9:A4 zu4)(dZ:A4 zhd)(bO:AIj)(nU:BDe)(bG:AIn)(bH:Apf)(dh:Aae)(iM:BPL)(d7:Apn):BfE:=
 ⟨f,fd,Bn iG xP z7y zte (by
  have nd:=xP.nd;show B2 bU;exact(Ŧ (ApZ 5) (BCz (Ŏ rW RO) 6 7 8 (AhX (yn2 (i:=5) (j:=6) (l:=8) Β Fm Β Fm Β Fm BU5 Β))) (Ŧ (ApZ 9) (B0 (z74 5  (ARH (A8 iQ (BDG ii)) 6 (SZ (B0 (yht (rq qt (Ū AZ (APN ii mB) DM)) (DG Β (Agg 10 8)))) (AQb MF (Dy AYG) (AjD Bp (qQ (HT mB i4)))) (Nd (rS (z4d (i:=9) AAg Β Fm  (Ç 6)) (Hh fC bG Qb F8) (IY i4))))))) (Ŧ (B0 (z74 9 (AJW (AF' 11 (A5:= [xp]) (N' := A9k) (by show BQ (eZ BGa _ [xp] [9] (aZ WX) A9k);exact⟨Β,AI,AI,AI,Β,AI⟩) Β  (A8 qR (z94 ÿ))  (LJ A9k)  L5  (ML (Nm (hu1 hu) AZ) B5))))) (AIk 12 Ox) (Ŧ (AIk 13 Ox) (A8 (yft (i:=14) Β Β Β nd Β Β Β nU.1 dh.cls (BA F0 (IU (bM  (dE 12 m9 AW_ L2))))) (A'E (SW 13 (B0 (yin (i:=14) dh bH Β Fm))))) (Ŧ (ACv (De Yc) (qv 12) Ox (AjD Bp (qv 13))) (dE 15 bC.fn AW_ (qv 12)) (ŷ (qQ (HT Bp (qQ (HT (MW (yg (A5:= [xp]) (N' := BBy) (by show BQ (eZ BGa _ [xp] [9,15] (aZ WX) BBy);exact⟨Β,AI,AI,AI,Β,AI⟩) Β  (A8 qR (Abl (BDG ÿ)))  (LJ BBy)  L5  (ML qQ (AOJ BPt (Se dZ DM BPt))))) (qv 15)))))))))))) (fun ds Q Ex h=>z7d ⟨iM,d7⟩ h),hm,CO,BS (by show A9U;exact Β)⟩
theorem Al:DF AKG [ALo,AGo] zvk:=BN
theorem ybd(F:A3 Adr Adr zvk)(hm:CM Adr)(cH:A4 Uk):Bf1:=
 ⟨f,fd,Bn iG Al yd0 zyd (by
  have nd:=Al.nd;show B2 bU;exact(bM  (A8 fM (B0 (Vd (AFJ lh AHm) (Ra (ymv (AFJ AHm lh)))))))) (CC yfu),hm,CO,BS (by show Fc;exact Β)⟩
theorem vh:DF [ac] [ac] zjb:=BN
theorem zzv(F:A3 Ads Ads zjb)(hm:CM Ads)(xQ:Bf1)(KD:Na "all")(bw:RS)(jl:AJi):Bay:=
 ⟨f,fd,Bn iG vh z5r zpt (by
  have nd:=vh.nd;show B2 bU;exact(ŷ (Vd (Ed AJb ò aU UX) (Ra (ACV (ypq Β) KD boot_all (IY (MW (yg (A5:= AKG) (N' := AKG) (by show BQ (eZ [ac] _ AKG [] (aZ zjb) AKG);exact⟨Β,AI,AI,AI,Β,AI⟩) Β  (A8 qR (Ē Vn jl (HT B5 (iQ  A7Q))))  (zD (DG Β (pH (Zs 0 AKG) (pH (Zs 1 AKG) Dz))))  L5  (A'f xQ))))))))) (CC z4j),hm,CO,BS (by show NJ;exact Β)⟩
theorem mK:AWi Ax7 ac WY:=BN
theorem zmp(F:A3 K0 Ad4 WY)(lN:A4 zrf)(tR:A0x)(bG:AIn)(aN:Ah4):U2 gK X0 4 f fd Ax7 (wz K js ac (Nv c)):=by
 have nd:=mK.nd;refine ykg F Β mK bG aN Β AYH (ACP yj0) (AvN ?_);have hu:AbZ Ad4 WY:=AQX
 exact⟨Β,zf5 K c,ze0 K c,IU (qL  (A8 MF (Dy (rq lN V')))  A5O  AvQ),
 IU (lL (zpc (De ylt) Β tR boot_tuple) AZ),BjC yjj⟩
theorem zng(F:A3 K0 Ad4 WY)(M:Mk K js f)(hm:fq ABM js)(lN:A4 zrf)(tR:A0x)(bG:AIn)(aN:Ah4):Bkv:=
 ⟨f,fd,zmp c F lN tR bG aN,M,hm,BS (by show Fc;exact Β)⟩
theorem zou:DF [NU,Md,Ĩ] [NU,Md,Ĩ] zes:=BN
theorem zoo(F:A3 K0 BGx zes)(M:Bhq P5)(hm:fq xE P5)(j7:A4S)(gW:BN')(gj:BOB):Bma:=
 ⟨f,fd,ya5 F Β zou j7 gW gj Φ AYH AYH AYH (De Β) (De Β),M.1,M.2,j7,hm,BS (by show wq;exact Β)⟩
theorem lO:AWi (AMZ IN) IN zdp:=BN
theorem zk2(F:A3 xF BGy zdp)(M:AKR xF)(aq:me)(aP:BnO):BgH:=
 AGK (Bn iG lO znl zfn (by
  have nd:=lO.nd;show B2 bU;exact(A1' (yj8 AAg (Ϗ aP) AZ (qQ A3c)) BU5)) (CC zno)) (BS (by show Fc;exact Β))
theorem jU:DF [NU,Md,XB,"levels"] [NU,Md,XB] zcb:=BN
theorem zj4(F:A3 AGZ BGz zcb)(M:AKR AGZ)(iD:Bma)(fC:A4 ziu)(eV:A4 zk5)(cI:A4 zfm)(qH:A4 z2i)(gG:ArA)(jm:AiE)(bG:AIn)(aq:me)(bK:BnP)(bR:Ŗ ad)(bW:Ŗ ae)(gb:AoT)(qu:BTr)(kj:AoU):BgI:=
 AGK (Bn iG jU zll zet (by
  have nd:=jU.nd;show B2 bU;exact(ze (AJW (AF' 3 (A5:= BMF) (N' := AqA) (by show BQ (eZ [NU,Md,XB,"levels"] _ BMF [0] (aZ zcb) AqA);exact⟨Β,AI,AI,AI,Β,AI⟩) Β  (A8 qR (yd7 DM))  (zD (DG Β (pH (Zs 0 AqA) (pH (Zs 1 AqA) Dz))))  L5  (AWy eV (AKK AZ) (lL (Hh cI aq Qb DM) B5)))) (Xs bM (Xs (Aza z82 (rS fM (Hh fC bG Qb (Ϗ bK)) (IY (z17 qH Qb Β (Ū (Ϗ bR) F8 (Ϗ bW)))))) (iO Β gG.1 (gG.2).k BjB Φ (A8 (.DV Β jm.1 (jm.2).k BjB) Φ)))))) (fun ds Q Ex h=>zlv (Bez qu) h)) (BS (by show wq;exact Β))
theorem jV:DF [NU,kM,ad,ae,ABP,kP,Md,"dealt"] Aze Ol:=BN
theorem zl4{f:Ζ}{cdv:AJ}{A:Bi}{DD:Lo}{s:AC}{H H1:Hp}{E:XK}{F0:Hp}(c:Cls)(hr:AVM 8 ALO (aZ Ol))(aQ:A4 WM)(bQ:AhV)(dI:AYV)(cu:A0i)(BGO):pR (fQ X0 P w K mg C3 [NU,kM,ad,ae,ABP,kP,Md,"dealt"] ALO (aZ Ol) f cdv A DD s H E) F0 H1 (yM Ol) (zcz K c):=by
 have nd:=jV.nd;have hu:AbZ ALO Ol:=AQX
 exact(AEw (An3 bR AlZ) (An3 bW (Ç 3)) (SZ (An3 bK (AUQ zo7 aQ (IY (iQ  (A8 (AN0 Rr) (IY (Bq bG aN L2))))))) (An3 aP (A8 zzd (AQH bQ V'))) (ACy (A8 (ADS zu6 aq bN  (A8 ybc (AQH dI V')) Β) Fm) (A8 (ADS zu6 aq aM  AwY Β) Fm) (ARH (AN8 z2j (jb (Ē zpa bO (IY (Ϗ bN))))) 6 (AhX (yfp (i:=0) (j:=6) AAg aq aM  (A8 (z5v cu aq Qb (jb B5)) (jb (HT mB (APN (Ϗ bN) mB)))) Β Fm Β Fm))) (SW 7 (AN8 z2j (jb (Ē z4b bx Al')))) (ő (ADS zu6 aq aH  (AQH bC (HT oS (Se m9 oS ii))) Β) Fm))))
theorem zkk(F:A3 K0 ALO Ol)(aQ:A4 WM)(bQ:AhV)(dI:AYV)(cu:A0i)(BGO):U2 gK X0 9 f fd Aze (Gn K (Ql c)):=
 abR F jV (AIz _ h (z75 h)) fun cdv A DD s H E hr F0 H0=>⟨zcz K c,BmX (zl4 c hr aQ bQ dI cu bC m9),fun a bs t ds Q Ex h=>z85 h⟩
theorem zj2(F:A3 K0 ALO Ol)(M:Mk K Hk f)(hm:fq ABN Hk)(aQ:A4 WM)(bQ:A4 Uj)(dI:AYV)(cu:A0i)(BGO):BkX:=
 ⟨⟨f,fd,BmX (zkk c F aQ bQ dI cu bC m9),M,hm,BS (by obtain⟨_,_,_,_,_,_,Β⟩:=ach hl;exact Β)⟩,ĝ z7a⟩
theorem vm:DF [AeV,ALi,ALh,BHp,AeW,BHy,ALj,"e"] AiJ znu:=BN
theorem zzp(F:A3 Adt Adt znu)(hm:CM Adt)(iH:BkX)(Fj:Bb9)(nU:BDe)(gW:BN')(gj:BOB)(bH:Apf)(j7:A4S)(dh:Aae)(uN:fN nD P5)(iM:BPL)(qw:BSX)(nj:BTq)(d7:Apn):Bh':=
 ⟨f,fd,Bn abT vm z5w zqj (by
  have nd:=vm.nd;show B2 bU;exact(AEw (AIk 5 Ox) (A8 (yej (i:=7) Β Β Β nd Β Β Β Fj.1 j7.cls Β nU.1 dh.cls (BA F0 (IU (bF  (AHF yi5 6 (AUQ yjv iH (au B5 (AN7 AZ DM F8 L2))))  (Nd (ApY 5 (z3l  (AyL (ycr (i:=6))))))))) (A'E (Ú 5 qQ (HT Bp (qQ (HT (BYB gW) (BYB gj))))))) (A'E (ApY 5 (z3l (ypg (i:=7) dh bH Β Fm))))) (Nd (AyL (yfw (i:=5)))))) (fun ds Q Ex h=>z5s ⟨uN,iM,qw,nj,d7⟩ h),hm,CO,BS (by show A9U;exact Β)⟩
theorem jE:A'Y zcy:=BN
theorem zjm(F:A3 ABQ BG0 zcy)(M:AKR ABQ)(gQ:BCk)(aq:me)(aM:Aha):Bbj:=
 AGK (Bn iG jE zka zec (by
  have nd:=jE.nd;show B2 bU;exact(bM  (AUd (B0 (z7l AAg AZ Al' AEh)) (BFJ gQ gQ)))) (CC zkh)) (BS (by show Fc;exact Β))
theorem oX:A'Y zfs:=BN
theorem zrq(F:A3 K2 BG1 zfs)(M:AKR K2)(iy:Bbj)(aq:me)(aM:Aha):Bbk:=
 AGK (Bn iG oX zss zhw (by
  have nd:=oX.nd;show B2 bU;exact(bF  (rS z0g (AJF iy) V')  (ck (Nm (hu1 hu) Al') AZ))) (CC zs0)) (BS (by show Fc;exact Β))
theorem nW:A'Y ze4:=BN
theorem zov(F:A3 W_ BG2 ze4)(M:AKR W_)(dZ:A4 zhd)(bI:A4 zdg)(aq:me)(aH:AxE):Bbl:=
 AGK (Bn iG nW zp6 zhf (by
  have nd:=nW.nd;show B2 bU;exact(AFq dZ (Ϗ aH) (lL (AJF bI) AZ))) (CC zry)) (BS (by show Fc;exact Β))
theorem nY:BTs zdh:=BN
theorem zop(F:A3 SB BG3 zdh)(M:AKR SB)(bI:A0j)(cg:A0k)(bO:AIj)(aq:me)(aM:Aha):BdH:=
 AGK (Bn Hl nY zr0 zhe (by
  have nd:=nY.nd;show B2 bU;exact(Xs bM (Xs Vu (Xs yem (yg (A5:= [Md]) (N' := A7P) (by show BQ (eZ Aw7 _ [Md] [0] (aZ zdh) A7P);exact⟨Β,AI,AI,AI,Β,AI⟩) Β  (A8 qR (Abl (BDG Al')))  (LJ A7P)  L5  (ML qQ (AOJ (BQL bI) (BQL cg)))))))) (CC zqe)) (BS (by show NJ;exact Β))
theorem tU:DF [AeX,"_law_letter"] [AeX] zj5:=BN
theorem zx2(F:A3 Adu Adu zj5)(hm:CM Adu):BbX:=
 ⟨f,fd,Bn iG tU zzi zol (by
  have nd:=tU.nd;show B2 bU;exact(bF  (AQk (A8 yop Bp) (Ã 1) (Age (B0 (oK (De ynl) AZ B5 AEh)) AZ7))  (AVp Bp))) (CC z08),hm,CO,BS (by show NJ;exact Β)⟩
theorem lQ:BTs zdt:=BN
theorem zl7(F:A3 j_ BG4 zdt)(M:AKR j_)(bx:mP)(aq:me)(aH:AxE):BdI:=
 AGK (Bn Hl lQ zmw zfo (by
  have nd:=lQ.nd;show B2 bU;exact(bM  (A8 Vu (rS yem (AN0 Rr) (IY (Ϗ aH)))))) (CC znz)) (BS (by show NJ;exact Β))
theorem qx:DF [ALj,xp,"_law_refused"] [ALj,xp] zgs:=BN
theorem zsq(F:A3 Adv Adv zgs)(hm:CM Adv)(bI:A0j)(cg:A0k)(gQ:BCk)(aq:me)(jN:BSW):BiH:=
 ⟨f,fd,Bn iG qx zvw zjp (by
  have nd:=qx.nd;show B2 bU;exact(A2p 2 (B0 (Bem bI)) (ANU (Bem cg) (ACZ (B0 (Ed ACb DM aU UX)))))) (fun ds Q Ex h=>zuv ⟨(gQ.2).k,jN⟩ h),hm,CO,BS (by show Fc;exact Β)⟩
theorem tV:DF BmJ [ALj,Ath,Ati] zg3:=BN
theorem zww(F:A3 Adw Adw zg3)(hm:CM Adw)(bT:A4 zcq)(cg:A0k)(mL:BbX)(jd:BdI)(cI:A4 zfm)(nq:BiH)(bI:A0j)(bx:mP)(j8:BK0)(Fl:Na ASl)(aq:me):BjQ:=
 ⟨f,fd,Bn iG tV z1f zn9 (by
  have nd:=tV.nd;show B2 bU;exact(ze (SW 3 (B0 (z2p bT.mt aq Qb B5))) (Ŧ (AQb G8 (Vc (MF (Dy (yhe F8 Β j8 Β bx Β))) (Vc (AKC F8 AY7) (z7h (AKC (z2p jd.mt aq Qb B5) AY7)))) AaW) (BCz (A8 (eY DM aU) fE) 4 5 6 (bv (Ú 7 (AJF cg) (IY L2)) (ARK G8 (Vc (AKC (lL (AJF bI) L2) ii) (Vc (AKC oS mB) (z7h (Dy (yhe oS Β j8 Β Fl Β))))) AaW))) (Ŧ (AQk (A8 z94 AZ) (Ã 8) (Age (AUj AM7 (lL (AJF cI) i4) (APN AZ i4)) AaW)) (AEu 9 mL (IY (iQ  (A8 (AN0 (ykz Β)) V')))) (ANU (Ark 4 (AP9 mL (MW (yg (A5:= [AGm]) (N' := Az3) (by show BQ (eZ BmJ _ [AGm] [] (aZ zg3) Az3);exact⟨Β,AI,AI,AI,Β,AI⟩) Β  (A8 qR (vQ AY7))  (LJ Az3)  L5  (ML (eY B5 aU) fE))))) (AVp (Vd (AFo (lL (AJF cI) ÿ) (AKK aU)) (Ra (AHk nq L2))))))))) (CC z1k),hm,CO,BS (by show wq;exact Β)⟩
theorem KH:AlD BmU Bs:=BN
theorem yo7(hr:AVM 11 T1 (aZ Bs))(iI:A4 zkc)(iJ:A0d)(cA:A0e)(BGS):pR (fQ X0 P w K mg C3 BmU T1 (aZ Bs) f cdv A DD s H E) F0 H (yM Bs) (z7b K c):=by
 have nd:=KH.nd;have hu:AbZ T1 Bs:=AQX
 exact(bF  (AEu 1 iI (AOJ A4X AWk))  (SZ (B0 (yht (AY2 iJ) (DG Β (Agg 2 3)))) (AEu 4 cA RO) (ACy (AEu 5 fP RO) (AEu 6 jx BYe) (AmD 7 V') (AmD 8 (IY ii)) (ACy (ApY 9 (A8 ygg (jb (z22 gR Qb Β (au oS (AN7 DM F8 Bo9 i4)))))) (AQb yiv (jb (G8 (Vc (AKC (zv5 (jb (k8 ÿ))) Axz) (Vc (AKC oS AZ) (z7h (AKC i4 ii)))))) AaW) (ACv AM7 Axz Bp (ck zv5 (jb (AFo ÿ mB)))) (A8 (yke (i:=7) (De ydc) BtK BtL Β) Fm) (ACy (BbF 8 (Ao0 A3c)) (ApY 10 (AUQ z22 gR BYe)) (A8 yi7 (ye8 (jb (yd9 bT aq Qb (k8 AYG))))) (Ú 11 zzd (AQH bQ V')) (ck zv5 (jb (Vd (Bdp (k8 ÿ)) (Ra (Bdp (k8 AYG)))))))))))
theorem yg6(F:A3 T1 T1 Bs)(iI:A4 zkc)(iJ:A0d)(cA:A0e)(BGS):U2 gK X0 12 f fd BKV (pA K (z4a c)):=
 Bn iG KH ypc z7b (yo7 c hr iI iJ cA fP jx gR bQ aQ bT fO aO bx aq) (CC ypb)
theorem ypx(F:A3 T1 T1 Bs)(hm:CM T1)(iI:A4 zkc)(iJ:A0d)(cA:A0e)(BGS):Uf T1 12 UF z4a:=
 ⟨f,fd,yg6 c F iI iJ cA fP jx gR bQ aQ bT fO aO bx aq,hm,CO,BS (by show NJ;exact Β)⟩
#where
theorem yl8{l:W.OpenLaw}{w:An}{K:AA}{h:AM}{mg:EN}{fa:Ζ}(O:AcX)(X:Tl)(G:A4a)(hfa:fq T1 fa):
 ∃fd:GA,(A8c v (Ats s fd (GY [v]) [(UF,v)]))/\Bd6 (gK ATd w K mg C3 (fU ATd w) 12 fa fd BKV (pA K zvd)):=by
 show A1W B L O;show A1W L M L;have NZ:=_Hd.ix B 0 Β;show AvM aal 1 CT 2;show JP CV 3 KJ 4 KN 5 N5 6;show JP Hy 7 KQ 8 KR 9 KY 10;show JP KZ 11 K1 12 K3 13 Fo 14;show JP Fp 15 Fq 16 Ft 17 Fw 18;show JP Fy 19 aN 20 bH 21 gW 22;show JP gj 23 aP 24 bK 25 bR 26;show JP bW 27 bN 28 aM 29 aH 30;show JP FJ 31 CW 32 CZ 33 Dc 34;show JP Dd 35 Df 36 Dg 37 Dh 38;show JP K4 39 Hz 40 HB 41 HD 42;show JP HF 43 HJ 44 HN 45 HS 46;show JP xR 47 xU 48 xV 49 a38 50;show JP n38 51 a50 52 n50 53 a60 54;show JP n60 55 a61 56 n61 57 a62 58;show JP n62 59 a63 60 n63 61 a64 62;show JP n64 63 a66 64 n66 65 a67 66;show JP n67 67 a68 68 n68 69 a69 70;show JP n69 71 a71 72 n71 73 a40 74;show JP a56 75 N6 76 aam 77 Di 78;show JP K5 79 Ul 80 K6 81 N7 82;show JP aan 83 aao 84 aap 85 aaq 86;show JP Um 87 K7 88 aar 89 aat 90;show JP Dj 91 aau 92 FN 93 aav 94;show JP aaw 95 N8 96 Bl 97 Uo 98;show JP HW 99 HX 100 gb 101 qm 102;show JP kj 103 iM 104 d7 105 qu 106;show JP uN 107 qw 108 nj 109 jN 110
 let c:Cls:={Apart:=AGA Asm,qM:=AGA "Few",fZ:=AGA Ady,bh:=AGA xD,Open:=AGA xE,gA:=AGA Asn,Scale:=AGA ABM,ao:=AGA ABN}
 have bG:AIn:=⟨KQ,KR,KY,KZ⟩;show FL aq me ⟨Fo,Fp,Fq,Ft⟩ gG ArA (ASD NZ N6) jm AiE (ASD aal aam) jD BCj (ASD CT Di);show FL nU BDe (ASD CV K5) Fj Bb9 (ASD KJ Ul) gQ BCk (ASD KN K6) dh Aae ⟨FJ,⟨CW,CZ,Dc,Dd,Df⟩,Dg,Dh⟩;show FL j7 A4S ⟨K4,⟨Hz,HB,HD,HF,HJ⟩,HN,HS⟩ iZ A7V ⟨xR,xU,_3.isV_of xV⟩ cG AEs (Ts N7) wU A0y (Ts aan);show FL bw RS (Ts aao) qW AkG (Ts aap) Ac A0z (Ts aaq) bx mP (Ts Um);show FL bO AIj (Ts K7) Ae A0_ (Ts aar) jl AJi (Ts aat) eU AkH (Ts Dj);show FL Kz (Na Ī) (Ts aau) lK BKz (Ts FN) KC (Na "max") (Ts aav) KD (Na "all") (Ts aaw);show FL tR A0x (Ts N8) j8 BK0 (Ts Bl) Fl (Na ASl) (Ts Uo) lH Bnr (_Hd.glb_tup X G HW HX AoI)
 show He f0 fd0 a0 Dl 0 f1 fd1 a1 FP 1;show He f2 fd2 a2 Bm 2 f3 fd3 a3 FQ 3;show He f4 fd4 a4 yI 4 f5 fd5 a5 HY 5;show He f6 fd6 a6 FT 6 f7 fd7 a7 rY 7;show He f8 fd8 a8 Bo 8 f9 fd9 a9 Ur 9;show He f10 acA a10 K8 10 f11 acB a11 Ia 11;show He f12 acC a12 K9 12 f13 acD a13 Ib 13;show He f14 acE a14 Dm 14 f15 acF a15 Ie 15;show He f16 acG a16 Ig 16 f17 acH a17 FW 17;show He f18 acI a18 Dp 18 f19 acJ a19 aax 19;show He f20 acK a20 La 20 f21 acL a21 yJ 21;show He f22 acM a22 Dq 22 f23 acN a23 Ih 23;show He f24 acO a24 Us 24 f25 acP a25 Oa 25;show He f26 acQ a26 Ob 26 f27 acR a27 Lb 27;show He f28 acS a28 Oc 28 f29 acT a29 Dr 29;show He f30 acU a30 Ld 30 f31 acV a31 uO 31;show He f32 acW a32 FZ 32 f33 acX a33 Ga 33;show He f34 acY a34 Od 34 f35 acZ a35 Oe 35;show He f36 ac0 a36 Ut 36 f37 ac1 a37 Ii 37;show He f39 ac2 a39 Le 38 f41 ac3 a41 Uu 39;show He f42 ac4 a42 xW 40 f43 ac5 a43 Og 41;show He f44 ac6 a44 Ij 42 f45 ac7 a45 Uv 43;show He f46 ac8 a46 Lf 44 f48 ac9 a48 Ds 45;show He f49 ada a49 Oh 46 f51 adb a51 yK 47;show He f52 ade a52 Uw 48 f53 adf a53 xX 49;show He f54 adg a54 vM 50 f55 adh a55 Ux 51;show He f57 adi a57 Ik 52 f58 adk a58 Lg 53;show He f59 adl a59 Gb 54 f65 adn a65 Ge 55;show He f70 ado a70 Dt 56 f72 adp a72 yL 57;show He f73 adq a73 Du 58 f74 aci a74 Qu 59;show AH_ adt qy 0 adu tW 1;obtain⟨f47,_,_,_,_,_,a47,Oi,acj⟩:=_Hd.funM_at (Avb 2);show AH_ adw tY 3 adx vN 4;show AH_ ady uP 5 adz vO 6;show AH_ adA mO 7 adB lR 8;show AH_ adC rZ 9 adD jW 10;show AH_ adE qC 11 adF oY 12;show AH_ adG oZ 13 adH mQ 14;have e:=hfa.symm.trans (ACQ a74);show Do;refine⟨aci,_Hd.start_binds Qu (fun _ _ _ _ _ _ _=>Β),As C3 kb nb⟩;have mH:=Ix zzc Dl a0 cG wU;have aO:=Ix z0f FP a1 bw;show AKp oF zvy Bm a2;have iI:=AAv z0u FQ a3 mH aO oF cG bw;have m7:=Ix zse yI a4 qW;have ju:=Ix z5m HY a5 m7;have iJ:=Ix z0o FT a6 aO ju;have cA:=WZ zki rY a7 aO ju cG qW;have fP:=WZ zv4 Bo a8 aO cG wU;have Bh:=Ix yk6 Ur a9 Ac;have wY:=WZ z63 K8 a10 Bh bx bO Ae;show AKp dI z44 Ia a11;have xK:=WZ z99 K9 a12 wY dI bO bx;have j9:=Ix z54 Ib a13 qW;have qg:=Ix zyv Dm a14 j9;have uI:=Ix z4n Ie a15 jl;have uJ:=Ix z52 Ig a16 uI eU;have bL:=Ix z1e FW a17 j9;have qe:=Ix zyk Dp a18 bx;have Ky:=WZ ynb aax a19 qe cG bw;have xG:=Ix ybt La a20 qg uJ bL Ky cG bw jl eU;show AKp cF zsr yJ a21;show AKp iK zw9 Dq a22;have nP:=Ix z5j Ih a23 iK Ac;have oG:=Ix ylv Us a24 bL;have j6:=Ix yeq Oa a25 nP oG;have Bj:=WZ ygn Ob a26 cF j6 oG bw;have xH:=Ix z6n Lb a27 Bj;have eV:=Ix yc8 Oc a28 bL;have ql:=WZ zyi Dr a29 bL Kz bw;have xJ:=WZ z9k Ld a30 j6 eV ql cF
 have jw:=AAv zmq uO a31 xG xH xJ cF bw;have bQ:=AAv z01 FZ a32 xK jw dI bx jl;have rW:=Ix zz8 Ga a33 bQ eV;show AKp cH ycy Od a34;have Bk:=Ix yge Oe a35 bL;have uK:=Ix ykf Ut a36 bL;have uL:=WZ z5q Ii a37 Bk oG eV uK;have fC:=ğ zrw c qy (AEi a38 n38 qy.kp) cH uL jl bG aN;have gP:=Ix yat Le a39 cH bw;have bC:=Ix zlp tW (Af9 a40) gP;have oJ:=WZ yk1 Uu a41 uK j6 bw;show AKp dJ zqa xW a42;have oH:=Ix yfl Og a43 eV;have uM:=WZ z51 Ij a44 cH oH cG bw;have rR:=AAv yko Uv a45 uM cH oH bw gG;have lG:=Ix yas Lf a46 bw;have qH:=ŋ yf3 c Oi acj (ACQ a47) oJ dJ rR lG gP bw jm lH;have qt:=AAv zxv Ds a48 qH jm gG gb qm kj;have jA:=Ix yd6 Oh a49 nP;have jc:=ŋ zk3 c tY ⟨AU9 a50,n50⟩ (Akb CV) dh iZ jA bx jD bH;have m8:=Ix zr6 yK a51 cH bw;have Fi:=WZ yk8 Uw a52 m8 bO Ae;have lM:=WZ zr1 xX a53 jA bx lK;have jM:=WZ zom vM a54 lM iK jl KC;have m9:=AAv yj1 Ux a55 jc Fi jA jM bw;have dZ:=WZ zo0 vN (Af9 a56) cH eU bw;have jx:=AAv z5l Ik a57 rW fC bC qt m9 dZ bO nU bG bH dh iM d7;have xQ:=Ix ybd Lg a58 cH;have lN:=WZ zzv Gb a59 xQ KD bw jl;have aQ:=ğ zng c uP ⟨K1,AU9 a60,n60,K3⟩ (Akb N5) lN tR bG aN;have iD:=ŋ zoo c vO ⟨AU9 a61,n61⟩ (Akb KJ) j7 gW gj;have cI:=ğ zk2 c mO (AEi a62 n62 mO.kp) aq aP;have cu:=ğ zj4 c lR (AEi a63 n63 lR.kp) iD fC eV cI qH gG jm bG aq bK bR bW gb qu kj;have iH:=ğ zj2 c rZ ⟨Fw,AU9 a64,n64,Fy⟩ (Akb Hy) aQ bQ dI cu bC m9 bO bx aq bG bR bW bK aP bN aM aH aN;have gR:=AAv zzp Ge a65 iH Fj nU gW gj bH j7 dh uN iM qw nj d7;have iy:=ğ zjm c jW (AEi a66 n66 jW.kp) gQ aq aM;have bI:=ğ zrq c qC (AEi a67 n67 qC.kp) iy aq aM;have cg:=ğ zov c oY (AEi a68 n68 oY.kp) dZ bI aq aH;have bT:=ğ zop c oZ (AEi a69 n69 oZ.kp) bI cg bO aq aM;show AKp mL zx2 Dt a70;have jd:=ğ zl7 c mQ (AEi a71 n71 mQ.kp) bx aq aH;have nq:=AAv zsq yL a72 bI cg gQ aq jN;have fO:=ŋ zww c Du (ACQ a73) bT cg mL jd cI nq bI bx j8 Fl aq;exact ŋ yg6 c Qu iI iJ cA fP jx gR bQ aQ bT fO aO bx aq
theorem hd_wit:lw.row.toRowW.promised:=by w_witness2
theorem hd_w:W.WalkO vw aS BKx (fun w h=>∃K:AA,Tl/\AcX) Bp3 (BG7 Bs) [] AzC:=
 UY _Hd.walk_ex n 63 k 12 x UF CX (GV (fU lw.prog w)) (sp:=fun K=>pA K zvd) (Fx:=fun w K=>AcX) Β Φ hd_z ⟨Β,B',B'⟩ (A3O) (fun w K mg fa h O X G hm=>yl8 O X G (hd_n ▸ hm)) (fun K H a ns hl hO hS=>z8b hl hS) (ASJ _ z (yfc z))
#print _Lw
end
theorem PySem.Challenge.cw_hall_k71_whole_sitting_by_stages_holds : PySem.Challenge.rw_hall_k71_whole_sitting_by_stages.Holds :=
 _Hd.holds _Lw.hd_said (_Hd.left _Lw.hd_e _Lw.hd_f _Lw.hd_A _Lw.hd_B _Lw.hd_C _Lw.hd_D) _Lw.hd_d _Lw.hd_p _Lw.hd_k _Lw.hd_ok _Lw.hd_bare _Lw.hd_wit rfl _Lw.hd_w
