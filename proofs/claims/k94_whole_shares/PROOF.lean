import PyProof.Rows.All
import Wide.All
import OpenK.AllK
import Wide.FinOn
import Lean
import PyProof.EqAt
import PyProof.EqKinds
import PyProof.TupleCall
import PyProof.NeKinds
import PySem.Challenge.RW_hall_k94_whole_shares
set_option Elab.async false
set_option linter.all false
set_option maxRecDepth 100000
set_option maxHeartbeats 4000000
set_option compiler.extract_closed false
set_option genSizeOf false
set_option genInjectivity false
set_option bootstrap.genMatcherCode false
open Lean in
local macro_rules|`(command|mutual $cs* end)=>do
 let cs:=cs.map fun c=>c.raw
 unless cs[0]!.isOfKind ``Parser.Command.where do Macro.throwUnsupported
 let ps:Array Name:=#[`ε,`ζ,`η,`θ,`ι,`ν,`ξ,`ο,`π,`ρ,`τ,`υ,`χ,`ψ,`ω,`Α]
 let ap:= ``Parser.Term.app
 let un:=fun(s:Syntax)=>if s.isOfKind `par then s[0] else s
 let more:=fun(f:Syntax)(as:Array Syntax)=>if as.isEmpty then f else if f.isOfKind ap then .node .none ap #[f[0],mkNullNode (f[1].getArgs++as)] else .node .none ap #[f,mkNullNode as]
 let put:=fun(b:Syntax)(as:Array Syntax)=>b.rewriteBottomUp fun s=>match s with
  |.ident _ _ n _=>match ps.idxOf? n with
   |some i=>.node .none `par #[as.getD i s]
   |none=>s
  |.node i k l=>
   if k==ap&&s[0].isOfKind `par then
    let f:=s[0][0]
    more (if f.isOfKind ``Parser.Term.paren then f[1] else f) (s[1].getArgs.map un)
   else .node i k (l.map un)
  |s=>s
 let ex:=fun(tb:Std.HashMap Name (Nat×Syntax))(c:Syntax)=>c.rewriteBottomUp fun s=>
  let spl:=fun(l:Array Syntax)(k:SyntaxNodeKind)=>if l.any (·.isOfKind `spl) then l.flatMap fun x=>if x.isOfKind `spl then if k==nullKind then x.getArgs else #[x[0]] else #[x] else l
  match s with
  |.ident _ _ n _=>match tb[n]? with
   |some (0,b)=>b
   |_=>s
  |.node i k l=>
   if k==ap then match s[0] with
    |.ident _ _ n _=>match tb[n]? with
     |some (m,b)=>let as:=s[1].getArgs;more (put b (as.extract 0 m)) (as.extract m as.size)
     |_=>s
    |f=>if f.isOfKind ap then more f s[1].getArgs else s
   else if k== ``Parser.Tactic.show&&s[1].isOfKind ``Parser.Term.byTactic then .node .none `spl s[1][1][0][0].getArgs
   else if k== ``Parser.Term.explicitBinder&&s[2].getNumArgs==0 then
    let as:=s[1].getArgs
    match s[1][0] with
    |.ident _ _ n _=>match tb[n]? with
     |some (_,b)=>.node .none `spl (put b (as.extract 1 as.size))[1].getArgs
     |_=>s
    |b=>if b.isOfKind ``Parser.Term.forall then .node .none `spl b[1].getArgs else s
   else if k== ``Parser.Term.paren&&s[1].isOfKind ``Parser.Term.typeAscription then s[1]
   else .node i k (spl l k)
  |s=>s
 let mut tb:Std.HashMap Name (Nat×Syntax):={}
 for a in cs[1]![1][3][0][0][0].getArgs do
  let b:=ex tb a[3]
  let b:=if b.isOfKind ``Parser.Term.paren&&b[1].isOfKind ``Parser.Term.byTactic then b[1] else b
  let mut n:=0
  for x in b.topDown do
   if ps.contains x.getId then n:=n+1
  tb:=tb.insert a[1][0][0].getId (n,b)
 let mut au:Array Syntax:=#[]
 let mut o:=#[]
 for c in cs.extract 2 cs.size do
  if c.isOfKind ``Parser.Command.print then o:=o.push (<-`(command|end $(⟨c[1]⟩):ident)).raw
  else if c.isOfKind ``Parser.Command.where then o:=o.push (<-`(command|end)).raw
  else
   let c:=ex tb c
   for b in c.topDown do
    if b.isOfKind ``Parser.Term.binderTactic&& !au.contains b[2] then
     au:=au.push b[2]
     o:=o.push (<-`(command|theorem $(mkIdent (.str (.mkSimple "_root_") s!"_a{au.size}")) (h:True:=by $(⟨b[2]⟩)):True:=h)).raw
   let v:=au
   o:=o.push (c.rewriteBottomUp fun d=>match d with
    |.atom _ v=>.atom .none v
    |.ident _ r n p=>.ident .none r n p
    |.node _ k l=>
     let d:=Syntax.node .none k l
     if k== ``Parser.Command.declaration&&(d[1].isOfKind ``Parser.Command.definition||d[1].isOfKind ``Parser.Command.abbrev)&&d[1][1][0].getId != `lw then d.setArg 0 (d[0].setArg 4 (mkNullNode #[.node .none ``Parser.Command.noncomputable #[mkAtom "noncomputable"]]))
     else if k== ``Parser.Term.explicitBinder&&d[3][0].isOfKind ``Parser.Term.binderTactic then
      match v.idxOf? d[3][0][2] with
      |some i=>(d.setArg 3 (mkNullNode #[])).setArg 2 (mkNullNode #[d[2][0],.node .none ap #[mkIdent ``autoParam,mkNullNode #[d[2][1],mkIdent (.str (.str (.mkSimple "_root_") s!"_a{i+1}") "_auto_1")]]])
      |none=>d
     else d
    |s=>s)
 return mkNullNode o
mutual
#where
def q
|Β=>rfl|Δ=>Nat|Ε=>some|Ζ=>Addr|Θ=>Prop|Ι=>none|Κ=>Str|Μ=>true|Ξ=>pins|Ο=>rows|Τ=>this|Ω=>Int|AB=>pos|AC=>Γ1|AD=>W.Frag|AF=>Shared|AG=>false|AH=>Value|AI=>kvs|AJ=>X.K|AK=>Expr|AL=>Heap|AM=>Rat|AN=>int|AO=>its|AR=>Stmt|AS=>str|AU=>Bool|AX=>Pos|AY=>cons|Ap=>World|Au=>own|A0=>Program|A1=>acc|A6=>hlt|A8=>s.heap|A9=>key|BF=>Γ2|BN=>xs.length|BO=>inr|BQ=>Around|BV=>env|Bi=>hq2|By=>lst|B3=>top|B4=>ref|B5=>Γ'|B9=>X.env|B_=>hq1|CA=>sub|CH=>Type|CI=>prog|CL=>s.heap.objs.size|Cn=>zV.mp|Co=>F.kp|C6=>List.length_map|C_=>pre|DE=>outer|DL=>nil|DS=>base|DT=>σ'|DV=>hok|D3=>fin|D6=>inl|D7=>False|D8=>hz1|D9=>l.length|EA=>Rep|EB=>one|EI=>tup|EJ=>s1.heap.objs.size|EO=>name|EV=>List|EW=>post|EZ=>s₁|E3=>l.map|E9=>args|E_=>D.int|FA=>List.map_cons|FE=>qual|FF=>value|FH=>ws.map|FI=>hlen|FK=>es.size|FU=>caps|Fc=>FuncData|Fr=>X.prog|Fs=>qs.length|GL=>c.ao|GM=>List.length_cons|GN=>List.getElem?_map|GY=>rest|Gc=>bare|Go=>pure|HM=>Str.empty|HP=>pos'|HQ=>ns.length|HR=>cpos|IB=>m.length|IC=>"list"|ID=>True|IE=>get?|IF=>vals|IG=>List.map_map|IR=>PySem|IS=>names|IU=>Frag|IY=>Vals|IZ=>wpAny|Ic=>Slot|Id=>bs.length|JI=>scope|JJ=>zU.mp|KK=>PyProof.Rows|KL=>String|KM=>bd.length|KO=>RelV|KP=>D.str|KS=>I.hok|LA=>"marks"|LE=>"__init__"|LG=>keep|LH=>s₀|LJ=>s₂|LL=>"hand"|LM=>ws.length|LV=>s.toks|LW=>done|LX=>apos|LY=>leaf|LZ=>R1.g|L9=>body|L_=>next|L'=>h.get?|MA=>"some"|MB=>vs.length|MC=>Same|MU=>"mark"|MV=>"set"|MW=>h.objs.size|MX=>X.stack|MY=>s.heap.get?|MZ=>ys.length|Mb=>List.getD_eq_getElem?_getD|NI=>slot|NJ=>congrArg|NL=>items|NM=>iter|NN=>ds.length|NO=>"self"|NR=>Rat.intCast_mul|NS=>Rat.div_def|OI=>PySem.Spec|OK=>Scope|OL=>fmod|OM=>hs.map|ON=>trans|OO=>"_law_k"|OP=>ps.length|OQ=>hbase|OR=>ks.length|OS=>gr.f|OT=>List.map_append|OU=>hold|OV=>List.filter_cons|OW=>l.getD|Pc=>"work"|Pe=>"sheets"|Pf=>treeTable|Pi=>if_neg|Pl=>Nodup|Po=>wpAny_mono|Pp=>r.length|Ps=>push|Pw=>sc.names|P1=>List.length_append|P2=>items.size|P3=>hdct|RR=>Sum.inr|RS=>h'.get?|RU=>cont|RY=>self|Rc=>hline|Re=>zero|Rl=>succ|Rs=>cutD|R_=>List.mem_range.mp|Su=>c.cj|S4=>c.Open|S_=>"law"|TC=>decide|TD=>"table"|TH=>its.toArray|TK=>H₀|TL=>turn|TM=>_HT.sIx|TN=>decide_eq_true|TU=>Perm|TZ=>ps.map|Tb=>Int.gcd|Uf=>f.length|U1=>hs.length|U2=>"sorted"|U_=>"range"|U'=>Value.ref|VA=>X.env.locals|VC=>D.nx|VI=>I.kIn|VM=>length|VO=>"other"|VQ=>"sheet"|VS=>item|VT=>"place"|VU=>List.size_toArray|VV=>trivial|VW=>same|VX=>a.den|VY=>cols|X9=>List.mem_map|X_=>K.lookup|YA=>loose|YE=>"tuple"|YI=>m.map|YN=>work|YO=>"points"|YR=>"reversed"|YU=>xs.map|YV=>elim|YY=>s'.heap|Ya=>Ends|Yf=>rawInt|Y1=>Heap.size_push|Y2=>List.append_nil|Y3=>Bool.and_eq_true|Y_=>h₁|Y'=>List.lookup_cons|ZA=>ns.getD|ZE=>e.symm|ZH=>zF.mp|ZI=>p.getD|ZN=>default|ce=>mids|cf=>"rule"|ci=>"gap"|ck=>"grade"|cn=>"zip"|cq=>symm|cr=>free|cv=>List.range|cy=>X.base|cz=>eval|c0=>"_law_script"|c8=>"_law_bounds"|c9=>"hands"|c_=>if_true|dA=>_Hd.fun_of|dC=>pl.isList|dE=>h₂|dL=>getD|dP=>ks.zip|dQ=>eZ.move|dS=>R.sl|da=>Int.toNat_natCast|dc=>xs.getD|di=>mono|hZ=>c.Scale|h_=>"reach"|iA=>"borders"
|iE=>"len"|iF=>filter|iN=>X.fs|iO=>I.list|iP=>its'|iS=>wpAny_newObj_type|iX=>"order"|ia=>"row"|ib=>call|ic=>"end"|ie=>take|ii=>slice|ij=>A.in1|ik=>pick|im=>b.num|io=>comb|mw=>rows.length|my=>mainGlobals|m_=>_Hd.ex|nE=>Value.none|nI=>us.length|nK=>o.data|nL=>absurd|nN=>I.loc|nX=>I.cell|ng=>zW.mp|nk=>wpAny_holding|nr=>rule|nv=>"rows"|ny=>"bounds"|n9=>"_law_some"|n_=>cLine|oB=>error|oC=>vs.toArray|oP=>ms.map|oQ=>SetTable|oS=>bs.reverse|u8=>List.mem_filter|u_=>ws.Nodup|vE=>c.Apart|vF=>isIn|vS=>xs.toList|vT=>L.map|va=>"Barred"|vb=>"sum"|vc=>decide_eq_false|ve=>I.ok|vi=>X.N.Nodup|vj=>Name|vk=>holding|vn=>Array.length_toList|vt=>toArray|vv=>j.toNat|vx=>"part"|vy=>I.laid|vz=>"dict"|v4=>cellsFrom|v6=>List.length_take|v_=>its.toArray.size|wE=>hfew|wP=>ns.map|wS=>as.Nodup|wT=>of_decide_eq_true|wb=>sF.seq|wc=>z.symm|we=>List.length_reverse|wf=>List.take_length|wo=>hit2|wp=>first|wq=>hmro|wt=>pos2|wv=>hit'|ww=>List.cons_append|wx=>List.map_congr_left|wy=>List.length_range|w4=>Rat.mul_assoc|ú=>m.getD|û=>List.mem_cons|ü=>Option|ý=>qs.map|þ=>c.v9|ÿ=>p.xf|Ā=>"apart"|ā=>"leaning"|Ă=>"enumerate"|ă=>"worth"|Ą=>kvs.length|ą=>h1.get?|Ć=>isSome|ć=>objs.size|Ĉ=>K.In|ĉ=>B.len|Ċ=>B.wm|ċ=>X.mg|Č=>X.ex|č=>Nat.le_of_lt|Ď=>I.bare|ď=>σ.set|Đ=>X.xe|đ=>wpAny_truthy_bool|Ē=>I.tuple|ē=>"ahead"|Ĕ=>"_law_one"|ĕ=>contains|Ė=>List.lookup|ė=>hbody|Ę=>putK|ę=>s₃|Ě=>Gr.refl|ě=>h.elim|Ĝ=>Classical|ĝ=>X.wsh|Ğ=>s2.trans|ğ=>sF.trans|Ġ=>q.elim|ġ=>Int.natAbs_mul|Ģ=>G.ex|ģ=>hacc|Ĥ=>s2.heap.push|ĥ=>List.append_assoc|Ħ=>bs.getD|ħ=>List.mem_singleton.mp|Ĩ=>a.num|ĩ=>fdiv|AAa=>List.mem_cons_self|AAb=>OsState|AAc=>ls.map|AAd=>S.marks|AAe=>mJ.map|AAf=>"Open"|AAg=>"Scale"|AAh=>"must_have"|AAi=>Array|AAj=>if_pos|AAk=>data|AAl=>ps.drop|AAm=>B.nd|AAn=>I.free|AAo=>"bound"|AAp=>stop|AAq=>"_law_table"|AAr=>"group"|AAs=>W.emptyDict|AAt=>Attribute|AAu=>List.length|AAv=>List.getElem?_append_left|AAw=>if_false|AAx=>s₁.heap|AAy=>_2.upd|AAz=>TR.move|AA_=>z.xe|AA'=>s1.trans|ABG=>I1.kIn|ABH=>X.hand|ABJ=>mem_of_lookup|ABK=>s2.heap.objs.size|ABL=>bs.map|ABM=>npos|ABN=>Eq.trans|ABO=>items2|ABP=>List.getElem?_cons_succ|ABQ=>natAbs|ABR=>q.num|ABS=>q.den|ABT=>l.filter|AFy=>List.length_pos_iff.mpr|AFz=>List.getElem?_eq_getElem|AF_=>List.mem_singleton|AF'=>iI.mp|AGA=>Rat.add_zero|AGB=>List.eq_nil_of_length_eq_zero|AGC=>ws.filter|AGD=>"scale"|AGF=>"BaseException.__getattribute__"|AGG=>"reckoned"|AGH=>"int"|AGI=>List.range_succ|AGJ=>X.outer|AGK=>rows.take|AGL=>rows.map|AGM=>I.freeC|AGN=>I.len|AGO=>I.pin|AGP=>whole|AGQ=>n.fdiv|AGR=>swapsWith|AGS=>"_law_many"|AGT=>rv.get|AGU=>"right"|AGV=>"found"|AGW=>beq_iff_eq.mp|AGX=>lookup|AGY=>A.units|AGZ=>A.deeper|AGa=>kindOf|AGb=>envOfC|AGc=>scope.names|AGd=>Obj.mapSeq|AGe=>s.heap.update|AGf=>Heap.get?_update_self|AGg=>its.length|AGh=>Gr.laid|AGi=>R.len|AGj=>D2.nx|AGk=>r1.up|AGl=>hName|AGm=>_2.start|AGn=>decide_eq_true_eq|AGo=>own.length|AGp=>hs3.extBut|AGq=>V.str|AGr=>List.map|AGs=>gs.length|AGt=>a.fmod|AGu=>U.length|AGv=>List.nil_append|AGw=>rs.length|AGx=>nextT|AKl=>hs.Nodup
|AKm=>Bool.false_ne_true|AKn=>PySem.W|AKo=>iW.mp|AKp=>"str"|AKq=>boot_heap|AKr=>w.params|AKs=>s.drawn|AKt=>f.getD|AKu=>S.leans|AKv=>"mean"|AKw=>"pair"|AKx=>"middle"|AKy=>"Sitting"|AKz=>"scaled"|AK0=>"isinstance"|AK1=>"Sitting.__init__"|AK2=>beq_eq_false_iff_ne.mpr|AK3=>List.mem_of_mem_take|AK4=>fs.length|AK5=>List.filter_append|AK6=>slots|AK7=>sc.names.lookup|AK8=>X.env.kindOf|AK9=>I.ok.above|AK_=>I.ok.kind|AK'=>ms.take|ALA=>Ne.symm|ALB=>List.getElem?_set_self|ALC=>Int.zero_add|ALD=>"__debug__"|ALE=>compareOp|ALG=>Tuple|ALH=>Subscript|ALJ=>Assign|ALK=>"one"|ALN=>Nat.ne_of_gt|ALO=>pyIter|ALP=>p.isList|ALQ=>s.heap.push|ALR=>"left"|ALS=>again|ALU=>i.fmod|ALV=>sizeLine_eq|ALW=>vals1|ALX=>codeAny|ALY=>"_law_end"|ALZ=>True.intro|ALa=>I1.laid|ALb=>Nat.le_of_eq|ALc=>bindL|ALd=>bindC|ALe=>N.length|ALf=>List.getElem?_append_right|ALg=>s3.heap.objs.size|ALh=>List.any_cons|ALi=>hplain|ALj=>ks.map|ALk=>codeAny_mono|ALl=>List.zip_cons_cons|ALm=>eZ.there|ALn=>eZ.rep|ALo=>wpAny_setField|ALp=>h1.objs.size|ALq=>R.grow|ALr=>R1.grow|ALs=>Γ1.set|ALt=>cx.px|ALu=>is1.toArray.size|ALv=>isInstance|ALw=>pushCells|ALx=>List.pairwise_cons.mp|ALy=>List.drop_eq_getElem_cons|ALz=>rs.up|AL0=>List.take_add_one|AL1=>R1.sl|AL2=>FW.extBut|AL3=>hs1.extBut|AL4=>List.zipWith|AL5=>s1.heap.get?|AL6=>is.map|AL7=>List.pairwise_cons|AL8=>scanBound|AL9=>List.nodup_append|AL_=>"set_iterator"|AL'=>Array.getElem?_eq_getElem|AMA=>List.set_cons_zero|AMC=>List.set_cons_succ|AMD=>Nat.min_self|AME=>ys.map|AMF=>gs.map|AMG=>Nat.one_mul|AMH=>Rat.mul_one|ARu=>Rat.le_refl|ARv=>List.mem_cons_of_mem|ARw=>m.take|ARx=>cs.length|ARy=>Nat.le_refl|ARz=>cN.mp|AR0=>W.findIn|AR1=>qs.take|AR2=>reverse|AR3=>ds.map|AR4=>S.rule|AR5=>S.gap|AR6=>S.scale|AR7=>Int.toNat|AR8=>"reached"|AR9=>"kept_leanings"|AR_=>W.topGo|AR'=>List.getElem?_cons_zero|ASA=>List.append|ASB=>Paired|ASD=>sizeLine|ASE=>tupleKind|ASF=>there|ASG=>Un.kept|ASI=>W.hideAll|ASJ=>zE.mp|ASK=>env.kindOf|ASL=>env.cells.lookup|ASM=>fs.take|ASN=>X.H₀|ASO=>I.base.free|ASP=>both.map|ASQ=>D.lst|ASR=>I.base.slot|ASS=>Drawn|ASU=>I.base.lu|ASV=>Model|ASW=>List.getElem?_set_ne|ASX=>model|ASY=>starEach|ASa=>Constant|ASb=>b.fmod|ASc=>assign|ASd=>I.ok.hd|ASe=>wpAny_standAt|ASf=>s1.heap.push|ASg=>s1.toks|ASh=>"_law_cell_here"|ASi=>wpAny_rule|ASj=>pyNext|ASk=>"_law_marks"|ASl=>I1.hok.fresh|ASm=>"spot"|ASn=>"_law_least"|ASo=>"_law_most"|ASp=>Binds|ASq=>NameKind|ASr=>start|ASs=>List.getElem?_replicate|ASt=>wpAny_loadPart'|ASu=>getItem|ASv=>z.length|ASw=>typeIs_str|ASx=>sliceBounds|ASy=>List.all_cons|ASz=>h'.objs.size|AS0=>xs.reverse|AS1=>call_meets|AS2=>valueAt|AS3=>atKey|AS4=>dd.typeIs|AS5=>h.push|AS6=>s₁.heap.get?|AS7=>l.prog|AS8=>List.Pairwise.nil|AS9=>Γ.length|AS_=>List.getElem?_eq_none|AS'=>B.StaysIn|ATA=>HO.tup|ATB=>wpAny_call|ATC=>Fn.run|ATD=>is2.toArray.size|ATE=>Bool.false_eq_true|ATF=>Nat.le_of_succ_le|ATG=>rv.up|ATI=>hstop|ATJ=>R'.grow|ATK=>List.mem_iff_getElem.mp|ATL=>Nat.le_succ|ATM=>ms.Perm|ATN=>Heap.SameBut.update|ATO=>Heap.ExtBut|ATP=>wpAny_of_eq
|ATQ=>IsPair|ATR=>hs2.extBut|ATS=>g5.objs.size|ATU=>p.size|ATV=>vs.getD|ATW=>dif_pos|ATY=>fresh|ATZ=>relayAll|ATa=>es1.size|ATb=>Slot.tr|ATc=>List.getElem_map|ATd=>kv.length|ATe=>startM|ATf=>hit.typeIs|ATg=>topGo|ATh=>Nat.mul_le_mul_right|ATi=>Rat.intCast_sub|ATj=>l.take|ATk=>l.drop|ATl=>List.filter_eq_nil_iff.mpr|ATm=>fs.filter|ATn=>congr|ATo=>Rat.mul_eq_zero.mp|ATp=>Rat.mul_comm|Abo=>Type _|Abp=>Inhabited|Abq=>List.mem_append|Abr=>cN.mpr|Abs=>List.filter_filter|Abt=>ms.flatten|Abu=>"under"|Abv=>"_law_names"|Abw=>"_law_cell"|Abx=>"_law_stream"|Aby=>"_law_rows"|Abz=>"_law_low"|Ab0=>"_law_laid"|Ab1=>"climbs"|Ab2=>"is_scale"|Ab3=>"meet"|Ab4=>"joined"|Ab5=>"by_work"|Ab6=>"groups"|Ab7=>"divisor"|Ab8=>"whole_row"|Ab9=>"without"|Ab_=>"cleared"|Ab'=>"fraction"|AcA=>"exchanged"|AcB=>"solved"|AcC=>"sheets_with"|AcD=>"is_within"|AcE=>"plus"|AcF=>"total"|AcG=>"share"|AcH=>"shares"|AcI=>"minus"|AcJ=>"mean_mark"|AcK=>"excess"|AcL=>"group_leanings"|AcM=>"leanings"|AcN=>"times"|AcO=>"over"|AcP=>"between"|AcQ=>"least_number"|AcR=>"width"|AcS=>"nearest"|AcT=>"rising"|AcU=>"number_from"|AcV=>"ends"|AcW=>"rests_behind"|AcX=>"greatest_cuts"|AcY=>"cuts"|AcZ=>"_law_sitting"|Aca=>"_law_less"|Acb=>"_law_sorted"|Acd=>"_law_ends"|Ace=>"_law_leading"|Acf=>"_law_greatest"|Acg=>"_law_borders"|Ach=>"_law_parted"|Aci=>W.nsIn|Acj=>"HallError"|Ack=>W.hasDictIn|Acl=>"kept_borders"|Acm=>"__getattribute__"|Acn=>"Scale.__init__"|Aco=>"Barred.__init__"|Acp=>Nat.succ_pos|Acq=>Prod.mk.inj|Acr=>μ.fdiv|Acs=>xs.drop|Acu=>List.map_drop|Acv=>W.instObj|Acw=>Un.laid|Acx=>zE.mpr|Acy=>List.flatten_append|Acz=>X.env.scope|Ac0=>σ.length|Ac1=>both.length|Ac2=>m.idxOf|Ac3=>I.base.tups|Ac4=>I.base.nR|Ac5=>Heap.SameBut|Ac6=>"__classdict__"|Ac7=>ws.take|Ac8=>Compare|Ac9=>standAt|Ac_=>UnaryOp|Ac'=>wpAny_execs_nil|AdA=>target|AdB=>f.fdiv|AdC=>assignEach|AdD=>rv.length|AdE=>"_law_first"|AdF=>s1.heap|AdG=>"counts"|AdH=>"_law_rows_here"|AdI=>"_law_other"|AdJ=>s2.heap|AdK=>"_law_good"|AdL=>"lead"|AdM=>Nat.zero_le|AdN=>"least"|AdO=>W.looks_findIn|AdP=>fs.map|AdQ=>Nat.lt_succ_self|AdR=>W.kitOne|AdS=>ps.zip|AdT=>List.length_drop|AdU=>Str.ofString|AdV=>wpAny_call_entry|AdW=>Calls.evalArgs_plain|AdX=>List.length_singleton|AdY=>o.isSome|AdZ=>Nat.lt_trans|Ada=>call_meetsIn|Adb=>OpenLaw|Adc=>callerA|Ade=>fs.zip|Adf=>TR.there|Adg=>TR.rep|Adh=>oe.dict|Adi=>R.gr.h|Adj=>R.less|Adk=>oe.data|Adl=>B.get?|Adm=>Obj.data_mapFields|Adn=>setField|Ado=>noteFrame|Adp=>beq_iff_eq|Adq=>s2.heap.get?|Adr=>W.callWith_K|Ads=>I.ok.mod.J4|Adt=>Bool.and_false|Adu=>Nat.lt_succ_of_lt|Adv=>List.nodup_cons|Adw=>Bool.eq_iff_iff|Adx=>List.any_eq_true|Ady=>Int.le_refl|Adz=>R'.gr.h|Ad0=>ms.Pairwise|Ad1=>Nu.extBut|Ad2=>List.length_zipWith|Ad3=>List.pairwise_iff_getElem.mp|Ad4=>xs.toList.length|Ad5=>SetTable.below|Ad6=>t.place|Ad7=>knd.is|Ad8=>w.params.followText|Ad9=>"set-order"|Ad_=>codeAny_builtin|Ad'=>choose|AeA=>length_eq|AeB=>collect|AeC=>acc.size|AeD=>PySem.intKind|AeE=>W.Looks|AeF=>hp.objs.size|AeG=>xs.Nodup|AeH=>List.length_zip
|AeI=>R1.wrT|AeJ=>x.length|AeK=>eZ.repN|AeL=>zT.mpr|AeM=>b.natAbs|AeN=>Int.mul_comm|AeO=>List.length_filter_le|AeP=>Rat.le_of_lt|AeQ=>List.flatten_cons|AeR=>_HM.dt|Aqc=>s.length|Aqd=>Nat.mul_le_mul|Aqe=>Nat.pow_le_pow_right|Aqf=>decide_eq_true_iff|Aqg=>FunctionDef|Aqh=>"BaseException"|Aqi=>"object"|Aqj=>"type"|Aqk=>zF.mpr|Aql=>cd.mro|Aqm=>builtin|Aqn=>"ValueError.__new__"|Aqo=>"object.__eq__"|Aqp=>PySem.Calls|Aqq=>s.gens|Aqr=>cs.dropLast.map|Aqs=>fs.flatten.length|Aqt=>DefRec|Aqu=>S.sheets|Aqv=>L.length|Aqw=>"abcdefghijklmnopqrstuvwxyz"|Aqx=>"Apart"|Aqy=>_Hd.adr|Aqz=>"__setattr__"|Aq0=>"object.__class__"|Aq1=>"grade_borders"|Aq2=>"borders_borders"|Aq3=>_Hd.fore|Aq4=>PySem.W.Fast.te14364793385576792824|Aq5=>Sum.inl|Aq6=>Value.str|Aq7=>Int.natCast_mul|Aq8=>False.elim|Aq9=>d.fdiv|Aq_=>Value.bool|Aq'=>Value.type|ArA=>xs.set|ArB=>List.map_take|ArC=>es.toList|ArD=>fs.lookup|ArE=>fields|ArF=>Paired.mapP|ArG=>List.drop_zero|ArH=>List.getElem_reverse|ArI=>builtinsNs|ArJ=>X.env.scope.kind|ArK=>X.env.cells.lookup|ArL=>List.filter_nil|ArM=>X.s₀.heap.get?|ArN=>AllBare|ArO=>dI.mpr|ArP=>ps.take|ArQ=>I.base.keep|ArR=>List.filterMap_cons|ArS=>wh.map|ArT=>List.mem_flatten.mpr|ArU=>I.hok.fresh|ArV=>wj.sum|ArW=>p.hs.map|ArX=>isTrue|ArY=>bd.reverse|ArZ=>_3.brs|Ara=>o.dict|Arb=>pos.line|Arc=>Return|Ard=>e.fdiv|Arf=>I.kept|Arh=>I1.kept|Ari=>IsTup.new|Arj=>I2.kept|Ark=>"_law_laid_here"|Arl=>"_law_counts"|Arm=>wpAny_load|Arn=>I.list_inj|Aro=>"_law_mark"|Arp=>T.done|Arq=>T.item|Ars=>"rights"|Art=>binaryOp|Aru=>i.natAbs|Arv=>getAttr|Arw=>getMethod|Arx=>A.under|Ary=>"_law_told"|Arz=>"_law_row"|Ar0=>A.depth|Ar1=>Calls.spliced_cons|Ar2=>BindsTo|Ar3=>List.nodup_cons.mp|Ar4=>vs.map|Ar5=>S.kind|Ar6=>PySem.mem_of_lookup|Ar7=>scope.names.lookup|Ar8=>W.fnOf|Ar9=>Builtin.Slice.slicePlaces|Ar_=>IsPart|Ar'=>wpAny_field|AsA=>ht.typeIs|AsB=>eq_of_beq|AsC=>i.toNat|AsD=>subscripted|AsE=>Str.length|AsF=>its.toArray.any|AsG=>typeOf|AsH=>List.reverse_cons|AsI=>List.find?_cons|AsJ=>List.map_nil|AsK=>Option.isSome_map|AsL=>rel.val|AsM=>dd.mapOf|AsN=>IntsAre|AsO=>l.row.toRowW|AsP=>wz.back|AsQ=>List.set_set|AsR=>oe.cls|AsS=>hm.keeps|AsT=>SameStack|AsU=>R.apart|AsV=>R2.grow|AsW=>k.mono|AsX=>wpAny_pyIter_list|AsY=>List.range_succ_eq_map|AsZ=>checkBuiltinCall|Asa=>NameKind.cell|Asb=>Pairwise|Asc=>NameKind.free|Asd=>q.symm|Ase=>S.free|Asf=>List.Nodup|Asg=>List.pairwise_map|Ash=>s2.toks|Asi=>gr.trans|Asj=>I.fresh|Asl=>wpAny_seqItems|Asm=>wpAny_setField_rec|Asn=>Nt.extBut|Aso=>F.slot_zip_next|Asp=>_2.Cls|Asq=>u1.trans|Asr=>Array.getElem?_toList|Ass=>List.pairwise_lt_range|Ast=>es.toList.map|Asu=>h.update|Asv=>knd.hash|Asw=>List.nodup_nil|Asx=>hm.heap|Asy=>wpAny_askSetting|Asz=>Shared.TypeIs|As0=>codeAny_call_builtin|As1=>List.take_append_drop|As2=>Nat.mod_lt|As3=>raiseNew|As4=>vals.length|As5=>acc.toList|As6=>"list_reverseiterator"|As7=>Except.ok|As8=>s'.heap.get?|As9=>Heap.size_update|As_=>SortKind|As'=>a.cps.toList|AtA=>decide_false|AtB=>PySem.F.slot_dict_keyiterator_next|AtC=>Str.append|AtD=>Or.inl
|AtE=>Or.inr|AtF=>ExceptHandler|AtG=>I5.kIn|AtH=>ms.length|AtI=>t.natAbs|AtJ=>Int.natAbs|AtK=>Rat.intCast_add|AtL=>Rat.le_trans|AtM=>List.contains_iff_mem|AtN=>List.mem_flatten.mp|AtO=>rs.map|AtP=>j9.zero|AtQ=>j9.head|AtR=>List.append_of_mem|AtS=>jz.mpr|BCX=>List.mem_append_left|BCY=>Nat.mul_comm|BCZ=>Heap.lt_size|BCa=>Option.some.inj|BCb=>d.natAbs|BCc=>rows.filter|BCd=>u.filter|BCe=>defaults|BCf=>List.filter_congr|BCg=>Array.mk|BCh=>Int.ofNat|BCi=>W.plainOver|BCj=>"object.__setattr__"|BCk=>W.makesIn|BCl=>"__getattr__"|BCm=>"__class__"|BCn=>"ValueError.__init__"|BCo=>"NO_GAP"|BCp=>"Sitting.must_have"|BCq=>"Sitting.mark"|BCr=>"Sitting.grade"|BCs=>"Sitting.table"|BCt=>"Open.__init__"|BCu=>"Scale.scaled"|BCv=>"Sitting.leaning"|BCw=>"Sitting.reckoned"|BCx=>"Sitting.borders"|BCy=>PySem.W.Fast.te15667345088766844465|BCz=>_Hd.recOf|BC_=>Value.int|BC'=>Value.isInt_shape|BDG=>Value.float|BDH=>Vals.append|BDI=>Rat.one_mul|BDJ=>sysModules|BDK=>o.ExactDict|BDL=>Nat.add_comm|BDM=>List.getElem?_range|BDN=>Rat.not_le.mp|BDO=>Bool.or_eq_true|BDP=>List.map_reverse|BDQ=>ob.slots|BDR=>W.hideAll_get|BDS=>List.findIdx_cons|BDT=>W.of_hideAll|BDU=>filterMap|BDV=>bootBuiltins|BDW=>flatten.length|BDX=>s.heap.FunFrames|BDY=>I.ok.frf|BDZ=>I.stkSub|BDa=>I.base.there|BDb=>Gm.congr|BDc=>cps.toList|BDd=>behindInMarks|BDe=>its.toList|BDf=>wpAny_assign_Name|BDg=>assignInOrder_cons|BDh=>items.reverse|BDi=>"_law_works"|BDj=>"_law_hands"|BDk=>"bottom"|BDl=>"dict_itemiterator"|BDm=>h.IsListIter|BDn=>I.tuple_inj|BDo=>"_law_top"|BDp=>"_law_bottom"|BDq=>PyProof.Rows.callWith_type1|BDr=>"multiple"|BDs=>I7.unpinned|BDt=>W.looks_clsIn|BDu=>wpAny_nsSet1|BDv=>beq_iff_eq.mpr|BDw=>"_law_due"|BDx=>"_law_ahead"|BDy=>"_law_work"|BDz=>attributeBase|BD_=>plainObj_wpAny_Assign_Attribute|BD'=>W.kitx_list|BEG=>W.kitx_dict|BEJ=>Around.under|BEK=>Code.isFrame|BEM=>W.cellsFrom_some|BEO=>List.length_replicate|BEQ=>PyProof.Rows.callWith_builtin1|BER=>PySem.AutoSeq1|BES=>PySem.MeetsSeq|BEU=>PySem.MeetsSeq3|BEV=>s.TypeIs|BEW=>evalPart_none|BEY=>Subscript_|BEZ=>s3.heap.push|BEa=>tail_any|BEb=>seqIndex_of|BEc=>slot_list_getitem.lookup|BEd=>Heap.get?_update_other|BEe=>Option.getD_none|BEf=>SeqAt.EqAt|BEg=>r'.length|BEh=>Builtin.List.listTooLong|BEi=>"list.append"|BEj=>r.append|BEk=>h1.trans|BEl=>rel.length|BEm=>X.A.units|BEn=>PySem.F.slot_dict_get|BEo=>PySem.F.plainAttrs_dict|BEp=>s₁.heap.Ns|BEr=>symm.trans|BEs=>Nat.lt_or_ge|BEt=>R.dropAt|BEu=>h.FunFrames|BEv=>excClassObj|BEw=>Bool.not_eq_true'|BEx=>W.funFrames_hide|BEy=>PySem.F.excBase_ValueError|BEz=>PySem.F.excBase_ValueError.hasBase|BE_=>wpAny_pyIter_tuple|BE'=>R1.g.seq|BFG=>R2.g.seq|BFH=>Builtin.Int.intBits|BFI=>j.natAbs|BFJ=>Int.natAbs_add_le|BFK=>List.all_map|BFL=>int_tuple|BFM=>int_list|BFN=>str_tuple|BFO=>str_list|BFP=>tuple_int|BFQ=>tuple_str|BFR=>list_int|BFS=>list_str|BFT=>beq_false_of_ne|BFU=>pushCells_keeps|BFV=>List.pairwise_cons.mpr|BFW=>names.lookup|BFX=>caps.map|BFY=>l.Pairwise|BFZ=>ListComp|BFa=>compPost|BFb=>comprehension|BFc=>gr.f.trans
|BFd=>List.flatMap_cons|BFe=>Wn.names.lookup|BFf=>PySem.preSum|BFg=>"list_iterator"|BFh=>PySem.argBest|BFi=>ws.toArray|BFj=>List.getElem_range|BFk=>"__next__"|BFl=>hit2.typeIs|BFm=>"StopIteration"|BFn=>wpAny_throw|BFo=>wpAny_updateSeq_pair|BFp=>wpAny_letGo|BFq=>wpAny_newTuple|BFr=>D.TOz.symm|BFs=>D.i1z.symm|BFt=>wpAny_attempt|BFu=>wpAny_isInstance|BFv=>List.getElem?_zipWith|BFw=>h2.trans|BFx=>List.toArray|BFy=>Nat.lt_trichotomy|BFz=>List.pairwise_append|BF_=>t.dummies|BF'=>SetTable.has|BGA=>Obj.putSet|BGB=>storeSet|BGC=>"set.__new__"|BGD=>wpAny_runValue|BGE=>Nat.zero_add|BGF=>"set_iterator.__next__"|BGG=>List.length_eq_zero_iff.mp|BGH=>seqItems?|BGI=>setNextDrawn|BGJ=>pickOrder|BGK=>pickOrder.go|BGL=>"set_iterator.__iter__"|BGM=>t.place.toList.length|BGN=>Array.getElem?_eq_none|BGO=>Nat.le_succ_of_le|BGP=>wpAny_setEpoch_of|BGQ=>newFields|BGR=>hp.length_eq|BGS=>mem_iff.mp|BGT=>wpAny_updateSeq|BGU=>wpAny_pyIter_revIter|BGV=>listUpdate_at|BGW=>onTheHeap|BGX=>Value.builtin|BGY=>s₂.heap.objs.size|BGZ=>hp.update|BGa=>R1.gr.h.free|BGb=>List.zipWith_cons_cons|BGc=>h.mem_iff.mp|BGd=>Nat.lt_or_gt_of_ne|BGe=>getD_get?|BGf=>W.kas_ask|BGg=>b.cps.toList|BGh=>a1.mem_iff.mp|BGi=>x.cps.toList|BGj=>Array.size_append|BGk=>PySem.F.slot_dict_values|BGl=>List.nodup_append.mp|BGm=>"dict_keyiterator"|BGn=>hm.typeIs|BGo=>List.nodup_cons.mpr|BGp=>StrLaws.glued_eq_join|BGq=>Decidable|BGr=>tryCompare|BGs=>J.type.here|BGt=>Int.gcd_comm|BGu=>Int.emod_nonneg|BGv=>Int.gcd_dvd_right|BGw=>Int.mul_ne_zero|BGx=>Rat.divInt_eq_div|BGy=>Prod.snd|BGz=>Nat.add_mul|BG0=>qs.foldl|BG1=>List.take_succ_cons|BG2=>Rat.mul_nonneg|BG3=>S.filter|BG4=>bs.reverse.getD|BG5=>p.mem_iff.mp|BG6=>pre.dropLast|BG7=>hq.lin.mul|Blb=>List.getElem?_eq_some_iff|Blc=>Int.natAbs_sub_le|Bld=>List.mem_append_right|Ble=>Nat.lt_of_lt_of_le|Blf=>Nat.ne_of_lt|Blg=>List.getElem_mem|Blh=>Nat.lt_irrefl|Bli=>List.mem_of_find?_eq_some|Blj=>List.find?_some|Bll=>List.find?_eq_none.mp|Blm=>"ValueError"|Bln=>Rat.mul_zero|Blo=>behindTheImports|Blp=>importedModules|Blq=>lw.row.toRowW|Blr=>Value.isStrOf|Bls=>Int.gcd_zero_right|Blt=>Nat.le_mul_of_pos_right|Blu=>Int.mul_zero|Blv=>Int.fmod_eq_emod_of_nonneg|Blw=>Int.natAbs_natCast|Blx=>SeqAt.EqAt.int_str|Bly=>SeqAt.EqAt.str_int|Blz=>Nat.le_mul_of_pos_left|Bl0=>Int.dvd_natAbs.mpr|Bl1=>Paired.length|Bl2=>List.range'_succ|Bl3=>List.range_eq_range'|Bl4=>List.foldl_append|Bl5=>Int.fdiv_eq_ediv_of_nonneg|Bl6=>PySem.Within|Bl7=>Bool.true_and|Bl8=>List.drop_one|Bl9=>List.any_map|Bl_=>List.getD_cons_succ|Bl'=>List.reverse_perm|BmA=>Int.ofNat_lt.mpr|BmB=>List.contains_iff_mem.mp|BmC=>Option.map_some|BmD=>Nat.sub_zero|BmE=>List.mem_range.mpr|BmF=>W.hideAll_none|BmG=>List.pairwise_append.mp|BmH=>X.env.globals|BmI=>X.s₀.heap.objs.size|BmJ=>List.flatten_nil|BmK=>X.base.objs.size|BmL=>pm.mem_iff.mp|BmM=>I.ok.funs.mem|BmN=>List.sum_cons|BmO=>List.filter_eq_self.mpr|BmP=>Rat.sub_eq_add_neg|BmQ=>X.env.scope.names.lookup|BmR=>nm.cps.toList|BmS=>Constant_none|BmT=>I.mod.glob.keeps|BmU=>Rat.num_intCast
|BmV=>wpAny_isTrue_Compare1|BmW=>Nat.not_le.mp|BmX=>Nat.min_eq_left|BmY=>List.filter_map|BmZ=>decide_eq_decide.mpr|Bma=>splitDisjunctions|Bmb=>wpAny_execs_cons|Bmc=>Nat.div_add_mod|Bmd=>Rat.intCast_le_intCast.mpr|Bme=>assignInOrder_nil|Bmf=>wpAny_bindName|Bmg=>letOwnedTupleGo|Bmh=>h.IsTupleIter|Bmi=>s.heap.IsTuple|Bmj=>PySem.F.slot_list_append|Bmk=>PySem.F.type_list_append|Bml=>"_law_number"|Bmm=>List.mem_filterMap.mpr|Bmn=>es.toList.any|Bmo=>W.plainGet_of|Bmp=>W.findObj_own|Bmq=>wpAny_loadPart|Bmr=>"_law_later"|Bms=>"_law_fitting"|Bmt=>Heap.Ns1.of_empty|Bmu=>W.kitx_tuple|Bmv=>recursionLimit|Bmw=>Calls.spliced_nil|Bmx=>List.replicate|Bmy=>Option.isSome_iff_exists.mp|Bmz=>e0.hok.fresh|Bm0=>name_of_addr|Bm1=>List.take_sublist|Bm2=>e0.mod.J4.keeps|Bm3=>s.heap.NoLimit|Bm4=>e0.mod.nolimit.keeps|Bm5=>codeAny_call_function|Bm6=>wpAny_Call_Name_kw|Bm7=>slicePart_none|Bm8=>"__getitem__"|Bm9=>PyProof.Rows.slot_tuple_getitem|Bm_=>wpAny_typeOf|Bm'=>evalPart_some|BnA=>pl.isList.typeIs|BnB=>its'.toArray|BnC=>List.length_set|BnD=>ht.isList.typeIs|BnE=>wpAny_getItem_list_slice|BnF=>SeqAt.EqAt.same|BnG=>SeqAt.in_tupleAt|BnH=>call_list_seq|BnI=>Calls.callWith_builtin|BnJ=>Option.isSome_some|BnK=>Bool.false_or|BnL=>List.length_nil|BnM=>h1.symm.trans|BnN=>tupleKind_room_in1|BnO=>wpAny_specialOf|BnP=>PySem.F.entry_dict_get|BnQ=>Obj.mapFields|BnR=>Array.getElem?_eq_some_iff.mp|BnS=>Obj.cls_mapFields|BnT=>s'.heap.UpToSlots|BnU=>Int.natAbs_eq_zero.mp|BnV=>Nat.pow_succ|BnW=>SeqAt.RcNeAt|BnX=>s.heap.IsList|BnY=>wpAny_loadPart_at|BnZ=>Option.bind_some|Bna=>beq_eq_false_iff_ne|Bnb=>List.forIn_cons|Bnc=>newFunctionEnv|Bnd=>List.drop_length|Bne=>List.mem_range|Bnf=>List.all_eq_true|Bng=>List.length_pos_of_mem|Bnh=>Builtin.List.listFitsIndex|Bni=>PySem.F.slot_list_insert|Bnj=>Array.toList_inj.mp|Bnk=>List.take_of_length_le|Bnl=>wpAny_pyIter_enum|Bnm=>"tuple_iterator"|Bnn=>F.slot_tuple_iterator_next|Bno=>firstArgMember|Bnp=>wpAny_handled|Bnq=>F.entry_zip_next|Bnr=>F.args_zip_next_1|Bns=>isSubtype_stop|Bnt=>List.not_mem_nil|Bnu=>wpAny_pyIter_zip|Bnv=>Nat.le_add_right|Bnw=>SetTable.below.go|Bnx=>List.getElem_drop|Bny=>List.getElem_take|Bnz=>t.place.toList|Bn0=>SetTable.probe.go|Bn1=>wpAny_setState_of|Bn2=>Array.toList_push|Bn3=>SetTable.grown|Bn4=>wpAny_storeSet_of|Bn5=>PyProof.Rows.F.plain_set_update_loop|Bn6=>codeAny_of_tree|Bn7=>PySem.F.plain_set_new|Bn8=>sub_set_self|Bn9=>Code.quiet_builtin|Bn_=>Nat.pos_of_ne_zero|Bn'=>wpAny_fieldsOf|BoA=>wpAny_setEntries_of|BoB=>w.params.setOrder|BoC=>List.Perm.append_left|BoD=>wpAny_pyIter_slot|BoE=>hps.length_eq|BoF=>PySem.F.slot_set_iter|BoG=>PySem.F.entry_proto_collect|BoH=>PySem.F.plain_proto_collect|BoI=>PySem.F.plain_list_iadd|BoJ=>Builtin.List.listSameRef|BoK=>PySem.F.plain_extend_loop|BoL=>codeAny_extend_loopS|BoM=>List.ext_getElem?|BoN=>get?_update_seq|BoO=>wpAny_newList|BoP=>Array.toArray_toList|BoQ=>hp.mem_iff.trans|BoR=>hp.nodup_iff.mpr|BoS=>List.getElem?_reverse|BoT=>"__length_hint__"|BoU=>"list_reverseiterator.__length_hint__"
|BoV=>listItems_at|BoW=>refuseLoop_ref|BoX=>Builtin.ObjectAttr.storeInDict|BoY=>arm_exec_Raise|BoZ=>Array.getD_eq_getD_getElem?|Boa=>List.Perm.refl|Bob=>List.pairwise_iff_getElem|Boc=>vs.toArray.size|Bod=>vs.toArray.zip|Boe=>decide_eq_false_iff_not|Bof=>List.not_lt.mp|Bog=>keyLt'_oneType|Boh=>List.pairwise_map.mp|Boi=>y.cps.toList|Boj=>AutoSeq1.sub_list_list|Bok=>plain_eq_loop|Bol=>F.slot_list_lt|Bom=>its2.toArray.size|Bon=>PySem.F.slot_list_extend|Bop=>PySem.F.entry_dict_values|Boq=>PySem.F.args_dict_values_1|Bor=>meets_dict_values|Bos=>"dict_values"|Bot=>IsValuesView|Bou=>List.nodup_append.mpr|Bov=>PySem.F.slot_dict_iter|Bow=>Builtin.Dict.showsAll|Box=>wpAny_dictEntries|Boy=>wpAny_dictEpoch|Boz=>PySem.F.entry_dict_keyiterator_next|Bo0=>PySem.F.args_dict_keyiterator_next_1|Bo1=>W.callWith_K0|Bo2=>PySem.F.slot_str_join|Bo3=>W.kdl_values|Bo4=>Option.bind_eq_some_iff.mp|Bo5=>e.symm.trans|Bo6=>Bool.and_eq_true_iff.mp|Bo7=>PySem.F.slot_dict_itemiterator_iter|Bo8=>PySem.F.slot_dict_items|Bo9=>"dict_items"|Bo_=>SameStack.mark|Bo'=>wpAny_handleBy_cons|BpA=>codeAny_handlers_test|BpB=>Bind.checkArgs|BpC=>Bool.not_false|BpD=>PySem.F.slot_str_eq|BpE=>List.getElem_of_mem|BpF=>Int.gcd_eq_zero_iff.mp|BpG=>Int.neg_dvd.mpr|BpH=>Int.gcd_dvd_left|BpI=>Int.le_of_lt|BpJ=>Int.eq_of_mul_eq_mul_right|BpK=>Int.ne_of_gt|BpL=>Rat.num_divInt_den|BpM=>Rat.zero_add|BpN=>Std.lt_of_lt_of_le|BpO=>List.drop_succ_cons|BpP=>Rat.not_lt.mp|BpQ=>Rat.le_antisymm|BpR=>Rat.not_lt.mpr|BpS=>S.reverse.map|BpT=>List.mem_reverse.mp|BpU=>Nat.sub_self|BpV=>List.pairwise_singleton|BpW=>p.mem_iff.mpr|w8=>by obtain⟨ε,Β⟩:=ζ|AGy=>by show w8 Β ε|Mc=>by (have hx:=Acq ε;show AGy hx)|w9=>(by first|lia|omega (Bma:=Μ))|NU=>by (have hx:=List.cons.inj ε;show AGy hx)|NV=>by show Mc (BCa ε)|NW=>by (have hx:=BCa ε;subst hx)|w_=>by (show w9)|B6=>fun ε=>ζ|Bn=>.B4 ε|SA=>by exact Aq8 ε|A3=>by exact ε|CB=>(ε:Ω)|dk=>by decide+kernel|A4=>by exact ε ζ|II=>.AN ε|Η=>(by show w_)|Χ=>by show dk|Ψ=>(by decide)|AE=>(by (first|subst ε|exact aad ζ|exact aae η|exact aag θ|exact aaf ι|exact aai ν|exact aah ξ|exact aaj ο|show SA π|show NW ρ|show NU τ|show Mc υ|show NV χ|cases (ψ)))|AV=>fun ε ζ η=> ?_|AA=>by (show w9)|Ρ=>EV Κ|DZ=>ε ->ζ ->Θ|Da=>B6 _ ε|G0=>ε X F0 H0 ζ η|Md=>ε b=Ε ζ|Υ=>by show w_|Ν=>∀(K:AD)(c:Cls),_|OX=>cC (II ε)|BA=>.Ι|Iq=>ε[ζ]?=Ε η|ip=>ε ζ (aj η ak)|FG=>.By ε|AQ=>EV D|Φ=>TC (ε)|BS=>(ε:AM)|BVm=>by exact AtE (AtD Β)|BVn=>by exact AtE (AtE Β)|IJ=>((by (first|exact AtD Β|show BVm|show BVn|exact AtE Β|trivial)))|ZO=>Inv X Ξ σ ε ζ|LN=>(ε:Δ)|A5=>(cV 0)|B7=>(ε ζ).map|JO=>by exact ε|MD=>ü ε|BB=>ε ->ζ ->η ->θ ->ι|HT=>ε ->Θ|Ff=>fun _=>ε|JP=>fun _ ε=>ζ|BG=>(qv 0)|Cf=>fun ε ζ=> ?_|CM=>Pi ε|LO=>cB ε ζ (OX η)|BE=>by refine ε;refine ζ|AT=>EV V|SB=>.type ε|D'=>ε<=ASD|Dx=>Ε ε|oa=>EV (ε×ζ)|Ch=>AAj ε|E4=>Iq ε i ζ|An=>(cV 1)|Ī=>ZO H ε|ME=>.vj ε ζ|IL=>ε a=Ε ζ|BH=>(qv 1)|G1=>ip aj ε ζ|OY=>au ε (au ζ aJ)|AZ=>fun z=>ε|A7=>(by simp)|AGz=>ε P w K mg DS ζ η θ ι|NX=>ε z E cx|VZ=>(hr.mono Ψ)|Fu=>ε x=Ε ζ|AW=>Ī s|BC=>ε P w K mg DS c|D4=>⟨_,ε,ζ⟩
|CC=>by simpa using ε|Me=>ε=AG|Lc=>(Bn f)|JS=>(JP _ Β)|C7=>(ε ζ).VM|og=>A4 ε (A4 ζ η)|BI=>by obtain⟨ε,ζ,η⟩:=θ ι|B'=>.B4 a|AMI=>{cls:= ε,AAk:= ζ}|A2=>EV AM|ī=>by exact Aq8 h|Ee=>G0 QE ε ζ|HU=>AGz cJ ε ζ η (θ c)|OZ=>mg ε =Ι|MG=>B7 cv ε|ABU=>bY (Da ε) ζ η|At=>EV AH|JU=>(ASX CI w)|AtT=>by have ε:=_Hd.ix B ζ Β;have η:=_Hd.ix B θ Β|DH=>if ε then ζ else η|As=>by refine(?_:ε)|CU=>r.1|KU=>Md ε o|ZT=>ε K F0 H0 ζ|CO=>EV α|ER=>CB (LN ε)|BD=>by rw[Pi ε]|Ct=>r.2.1|AG0=>ĝ z|xA=>Aqy (Aci K my ε)|Th=>Ff Ex|G_=>Me (ε==ζ)|JY=>AGl ε|Fh=>by obtain⟨ε,ζ,η,θ⟩:=ι|DA=>p.1|Jn=>fun _ _ ε=>ζ|Fk=>⟨_,ε⟩|CD=>by rw[ε];exact ζ|KW=>(e::es)|B8=>.non|EK=>A3 (ε  ζ  η)|AeS=>ε Fr X.w|om=>by exact ε ζ|Ĭ=>DZ ε (HT ζ)|HV=>.D6 ε|ATq=>AMI (SB ε) (.ζ η)|A_=>dO K ε ζ η f fd|CF=>EV Δ|ATr=>fun _ _ _ ε=>ζ|Mm=>Δ ->ε|C8=>by refine(?_:ε)|Ll=>au ε aJ|AeT=>by exact Aq8 e|AG1=>by exact aad z|AG2=>by exact aae z|AG3=>by exact aaf z|AG4=>by exact aag z|AG5=>by exact aah z|AG6=>by exact aai z|AG7=>by exact aaj z|AG8=>by exact Aq8 z|ABV=>LO bT ε ζ|ABW=>.Call ε ζ [] η|xB=>{ε with heap:=ζ}|Cc=>by simpa using ε|V_=>cz ε B9|LP=>(ĝ z)|GS=>show ε from ζ|NY=>.type ε|xC=>MC F ε|CY=>by simp [ε]|C3=>⟨ε,?_⟩|SC=>ε b=Ι|ES=>aA ε ζ (aU η)|xD=>A3 (ε (i:=ζ) nd Β IJ  η)|ĭ=>NN=ε|AG9=>ATr h (ε h)|Tk=>fun i ε=>ζ|DB=>by decide|F6=>.pu (II ε)|MH=>ε _ _ _ _|HA=>by obtain Β:ε:=ζ|iq=>cF ε aQ JS|V'=>ε K c (D3 Q) ζ Th|dl=>fun b ε=>ζ|MI=>Md ε u|Ix=>fun _ _ _ _ _ _=>(om ε ζ)|C9=>⟨ε,ζ,?_⟩|EL=>i+1|Cb=>EV Ζ|Bz=>EV Ω|C4=>EV Rw|WA=>⟨F,Γ,_,R,h,ε⟩|BM=>JO ⟨Β,Β,Β,Χ,Β,Χ,Χ⟩|P4=>.Aqm ε|DI=>(i+1)|ir=>(AeS ASX)|ATs=>IZ ε A ζ Q E s|BY=>F.binds fun _ _ _ _ _ _ us hl=>ε|C5=>(cV 2)|EC=>(Bn a)|J_=>.pu (FG ε)|ZU=>ε K ζ=Μ|ZY=>ME x ε|BU=>∀{c:Cls}{ds P E}(h:ε c ds P E),_|AtU=>fun cdv A DE s H E hr F0=>ε|DM=>(by (first|subst e|exact aad e|exact aae e|exact aag e|exact aaf e|exact aai e|exact aah e|exact aaj e|show AeT|show NW e|show NU e|show Mc e|show NV e|cases (e)))|dq=>MD AH|Eg=>(k+1)|Be=>ε F ζ (AG9 η) (AtU ⟨θ K c,ι,ν⟩)|Mn=>∀b,ε ->ζ|Į=>ε Ο w|Lm=>BS (CB ε)|xE=>ZT SR ε ζ σ η|B0=>by have hu:=ε hr|B1=>∀{K:AD}{c:Cls}{ds Q Ex}(h:ε c ds Q Ex),_|B2=>fun ds Q Ex h=>ε h|DF=>by rw[ε] at Τ|Na=>AV b ε ζ|DU=>ε (X:=AG0)|DJ=>by rw[AAj ε]|i3=>W.mg_of X G ε|Db=>(cV 3)|Nc=>ε a=Ι|BXC=>ε (P:=ζ) (w:=w) (DS:=DS)|Lo=>fun _ ε=>ζ|ABX=>Δ ->ε ->ζ|DC=>by simp|IM=>⟨ε,[]⟩|Ev=>B6 z ε|P5=>V' ε (aF ζ ds)|FL=>dl hb ε|dr=>BXC ε AS7|ABY=>ε Ξ s σ H|DO=>.no|Kb=>.EI ε|LS=>xD fP ε ζ|ED=>h.1|ATt=>Bn (xA ε)|EQ=>(qv 2)|HC=>.B4 C|D5=>Κ ->AM|CS=>mg ε =Ε Lc|FM=>.BO ε|E5=>(qv 3)|P6=>A4 bK ε|oq=>EV (EV ε)|D1=>by obtain⟨ε,ζ⟩:=η θ|DD=>EV AK|P7=>aM K F ε ζ|AtV=>ASY ε B9= ζ|ABZ=>ε AJ F0 H0 ζ|GG=>by obtain⟨ε,ζ,Β,η,θ⟩:=ι|Cl=>_Hd.d ε ζ|HE=>(Bn C)
|E2=>by
 have ε:ζ:=η
 have θ:ι:=ν
 have ξ:ο:=π;have ρ:τ:=υ
|į=>DZ ε Hp|ox=>E4 ε x|Nd=>IL H ε|du=>cO ε VZ Β ζ|ET=>by rw[ε];exact ζ|i4=>AV ε s1 ζ|ZZ=>upd H ε ζ|Mo=>A3 (bI  ε  ζ)|F7=>fun ds P _=>ε|FB=>fun h=>ε|Nl=>if ε= ζ then η else θ|İ=>(match ε with | ζ=>η | _=>D7)|Zl=>xB s ε|E6=>EV Row|Lu=>⟨ε,ζ,Β,η⟩|My=>z6 (m:=ε)|xF=>ABU ε ζ aQ|J'=>by show AtT ε ζ η θ;show AtT ι ν ξ ο|D_=>Fk Β|EX=>Κ ->dq|AG_=>ε (Da ζ) Β η θ|oy=>D' (LN ε)|dy=>fun b o ε ζ=> η|oz=>AtV ε ((AG,V_ ζ)::ASY η B9)|BXk=>show(ε:Ρ).Pl by show dk|E7=>fun j=>ε|EM=>by obtain⟨ε,ζ,η⟩:=θ|De=>by unfold ε at h|GH=>EV Key|ABa=>.AAt ε ζ η|P8=>(.dK AI)|Do=>by intro Ξ s σ H ε I h|EE=>.DL|F8=>CB k|FV=>.AN i|o4=>(fD P w)|ı=>fun ε H1=>ζ|Iy=>(by rfl)|HZ=>(ε ζ η).ON|SD=>Sz 4000 ε|Hb=>⟨Β,ε⟩|o5=>fun _ _ _ _ _ _=>(JO ε)|ATu=>ABW ε ζ AB|xI=>xE ε ζ Γ|AeU=>ABX Δ ε|HG=>fun w=>ε|Nn=>fun b hb=>ε|AG'=>{ε with heap:=ζ,toks:=η}|WB=>z6 (m:=ε) ζ|Lv=>(by first|subst ε|exact aad ζ|exact aae η|exact aag θ|exact aaf ι|exact aai ν|exact aah ξ|exact aaj ο|show SA π|show NW ρ|show NU τ|show Mc υ|show NV χ|cases (ψ))|GT=>if ε=Μ then ζ else η|FX=>X.calm=Μ|EF=>Ch Β|EG=>∀(_:Cls),_|EH=>_::_|GI=>aB ε (B6 ζ η)=θ|Zp=>fun Γ P E=>ε Γ (fun ζ AC=>η) E|HH=>fun i=>ε|F9=>EV Bd|d4=>(JY 0)|F_=>xC F'|Of=>fun b o e=>ε|M0=>by obtain⟨F,Γ,P,R,h,k⟩:=ε|AHA=>A3 (ε ζ VZ Β η)|EN=>(by (first|subst h|exact aad h|exact aae h|exact aag h|exact aaf h|exact aai h|exact aah h|exact aaj h|show ī|show NW h|show NU h|show Mc h|show NV h|cases (h)))|EU=>by obtain⟨ε,ζ⟩:=η θ ι ν|AHB=>ε Ο w|KA=>ATs JU ε|AMJ=>WA (fun ε AC F1 H1 ζ R1 s1 r1 h1=>η)|HI=>(by (first|subst h|exact aad h|exact aae h|exact aag h|exact aaf h|exact aai h|exact aah h|exact aaj h|show ī|show NW h|show NU h|show Mc h|show NV h|cases (h)))|On=>∀b∈ε,ζ|No=>by show w8 t ε|M1=>Q (Bn ε) ζ|Ĳ=>(aU st)|xL=>EK bI ε ζ|Hc=>z7 (α:=_)|GU=>oa α (β×Ω)|o6=>ip iR ε ζ|ABb=>(aX _)|Zs=>(EJ+1)|Op=>DZ ε AF|ABc=>G0 ε ζ t|E8=>(NX ha)|GV=>P ε AC|ĳ=>Į kW|AeV=>backTo ε (ASY ζ B9)|d5=>(by (first|subst ε|exact aad ζ|exact aae η|exact aag θ|exact aaf ι|exact aai ν|exact aah ξ|exact aaj ο|show SA π|show NW ρ|show NU τ|show Mc υ|show NV χ|cases (ψ)))|Lw=>(by (first|subst z|show AG1|show AG2|show AG4|show AG3|show AG6|show AG5|show AG7|show AG8|show NW z|show NU z|show Mc z|show NV z|cases (z)))|o_=>(OX 1)|Z3=>MG ε fun ζ=> η|FR=>by exact .D6 ε|FC=>a::l|M3=>du ε (OY ζ η)|xN=>ABa ε ζ LX|FD=>by obtain⟨_,_,Β⟩:=len2 hl|FY=>fun ε ζ η θ ι=> ?_|GA=>by obtain⟨ε,ζ,η⟩:=θ ι ν|P9=>ε (ζ:=η) (θ:= ι) (ν :=ξ) (ο :=π)|P_=>ε (i:=ζ) (η:=θ)|pE=>ABZ SR ε ζ σ η|d6=>fun σ H Q ε=>ζ|ABd=>AHA cO ε ζ|KB=>.BO|KE=>by rw[ε,ζ]|KF=>ċ ε=Ι|AMK=>oa Κ ε|xc=>og bK ε ζ|Ĵ=>ABV ε 1|FS=>ĭ 2|L2=>by exact nL ε ζ|d_=>AG' s ε ζ|I_=>(ε).toNat|Fm=>show ε by show w_|GB=>EV Pt|xh=>fun a ε=>ζ|pM=>ER (C7 ε ζ)|pS=>ABY ε _ I h|SE=>z9 _ Β|ĵ=>ε (au ζ aJ)|ABe=>⟨ε,g,d,ζ,os⟩|ABf=>AFz ε|JA=>CB i|pV=>CB ε≠0|Ki=>AAi AH|AML=>.bool AG|pb=>fun ε σ H ζ=>η|M_=>if ε then ζ else 0|AeW=>by obtain⟨_,Β⟩:=ε|SG=>by obtain Β:=ε|Hd=>EV T|Tl=>G0 QS ε ζ|GE=>α ->AM|xk=>upd H1 ε ζ|eA=>z6 (ε ?_)|xl=>ABV ε 0|AMM=>(ATt AKy)|WC=>ε (by simp [ζ])|ATv=>ABc QA ε
|AeX=>jP (j:=ε) Β|HK=>Ix (dF (i:=0) (BXk ε) Β) IJ|Nw=>by rw[C6]|Os=>∀{ε:ζ} {η:θ},ι ->ν|pd=>ε .LY|AHC=>Fu ε c|ML=>D4 ε Β|He=>by exact .BO ε|MM=>aC (ε c) (G1 ζ η)|Z_=>cL Γ σ H b|IN=>by show AE Τ Τ Τ Τ Τ Τ Τ Τ Τ Τ Τ Τ Τ Τ|N0=>∀{ε :ζ},η ->θ|Kj=>by rename_i q|GW=>by exact ě|Ķ=>[.By ε]|Hk=>BB ε ζ η (θ) ι|WE=>∀b∈ε,ζ|Z'=>Mn ε (ζ b=η b)|AtW=>Ĭ D D|pe=>cz ε B9|IO=>(-1)|AtX=>#[.B4 ε,BA,BA,BA,ζ,BA]|BZT=>AG_ lY ε aO boot_len|AHD=>.ArE ε|N1=>by rfl|AMN=>(A3 ql)
|HL=>by
 have ε:ζ:=η
 have θ:ι:=ν
 refine ξ
|pf=>r.2.2|MO=>by rw[ε] at ζ;show AE η θ ι ν ξ ο π ρ τ υ χ ψ ω Α|ķ=>aN K GL ε|L3=>P7 ds vs|Hm=>xI F H|AeY=>fG o4 P w K mg DS ε ζ η f cdv A|ATw=>(ε).any (·.1)=AG|AHE=>bh Fr X.w ε ζ η θ|ATx=>blk X sc N' ε|Oy=>fun ε ζ η θ=> ?_|LT=>EV Env|Tm=>H ε=Ε ζ|N2=>B6 j ε|i5=>nL ε (ζ η)|ĸ=>(ε==ζ)=Μ|SH=>D4 Β ε|WF=>HU ε ζ [η] θ|QP=>(ng ε).1|SI=>Zl h'|ABg=>o6 nM ε|Hn=>D ->AtW|IP=>(.refl _)|AeZ=>BZT qF|H_=>by obtain⟨_,_,Β,_⟩:=h;rfl|IA=>by show Fh ε ζ η θ (_Hd.fun_ix L ι Β);show Fh ν ξ ο π (_Hd.fun_ix L ρ Β)|To=>ε P w K mg DS ζ η θ|eC=>gU Γ σ b|aE=>nL ε ζ|Ĺ=>fun v ε=>ζ|QQ=>(n+1)|aI=>(FG vs)|SK=>MD Ω|N3=>LO dW ε ζ|Kk=>Ch q|aS=>by rw[ε];rfl|Kt=>(zO _)|ATy=>Ee ε te|WG=>ATq ε ArE ζ|SL=>(ZY ABM)|ĺ=>2^62|Ļ=>ε=Go AG|MQ=>oq Κ|Kx=>(o5 qX)|i6=>AeU Ω|xn=>∀(hd:G_ x (ALD :Κ):=by decide),_|ļ=>AeV AB ε|O0=>fun σ H Q=>ε σ H (ı ζ η)|Ts=>aj ε ak|IQ=>dr ε c ζ (i3 η) θ|ph=>ε (X:=AG0) (ζ:=η)|KG=>Gl X x|M'=>.D6|ATz=>(ALQ ε).ζ|KI=>⟨ε,Β,ζ⟩|L4=>(cV 4)|L5=>CB n|N4=>H ε=Ι|Ľ=>mZ ε ζ=Μ|L6=>OZ iE|NA=>by have:=ε;show AA|AT0=>EV (ü ε)|JE=>∀(c:Cls),_|eI=>J_ (ε qD)|MR=>⟨ε,_,ζ,Β,η⟩|aT=>P6 (og eV ε ζ)|i7=>z6 (ε ζ η ?_)|pj=>ATq YE seq ε|K0=>Na u e|AtY=>ε=U' a|AHF=>IZ ir X.A ε ζ Đ s|QU=>(FH (kW Ο))|AtZ=>AeY ε FE Ĳ|ABh=>(by (first|subst z|show AG1|show AG2|show AG4|show AG3|show AG6|show AG5|show AG7|show AG8|show NW z|show NU z|show Mc z|show NV z|cases (z)))|AHG=>ε=MB|Tu=>.cr|Tx=>(ε).VM|QY=>by obtain⟨ε,ζ,η⟩:=h|N9=>[B']|Ty=>fun i ε=>ζ|O_=>CB 0|Qb=>by rw[<- ε];exact ζ|SO=>cB d9 ε ζ|T0=>HT AQ|K2=>AdM _|WH=>fun b ε q=>ζ|Qr=>MG n|NB=>SC H|T1=>dt rs ε|eJ=>(iq BG)|SS=>fun b u e=>ε|xo=>z8 _ e|K_=>ox X.N|xp=>fun b ε hb ζ=>η|Aea=>AR0 K ε ζ =Ε (Dx η)|Aeb=>(fZ Ο w).ε|WI=>∀r∈Ο,ε|WJ=>(ε b hb).2|eK=>(ε b hb).1|N_=>fun k=>ε|ABi=>if ε then ζ b else η|ST=>⟨ε,Cf ζ η⟩|eL=>B6 r ε|pk=>A4 qU ε|Aec=>show ε by decide|WN=>(HV Β)|SU=>į St|PD=>Mo ε (Mo ζ η)|ľ=>İ ds ε ζ|MS=>Uq Ο|NC=>cT (cB ε ζ η)|eP=>ABd ε (OY ζ η)|pp=>k _ _ F H (Ě sF) ε ζ|Q2=>by rw[ε] at ζ;exact η|SV=>(by show dk)|xt=>fun r ε=>ζ|PF=>(qv 4)|xw=>ZO (ZZ ε ζ) η|AHI=>Aqy (AR0 K ε ζ)|ac=>Mm Δ|T_=>by obtain⟨ε,ζ,η,θ⟩:=id ι|SW=>b≠a|Q3=>bU (gJ e ε)|ABj=>ĵ AeZ ε|L7=>Cf b hb|AT1=>AtZ N|AMO=>o7 (OY ε ζ)|LU=>by show AE rx rx rx rx rx rx rx rx rx rx rx rx rx rx|Ŀ=>by obtain⟨ε,ζ,Β,η,θ,ι⟩:=ν|eQ=>by obtain⟨ε,ζ,η,θ⟩:=h|WO=>∀p∈ε,ζ|AMP=>AA' ε|ad=>by rw[ε];exact ζ η|Q4=>EV β|pr=>B6 b ε|pv=>EJ+1|AMQ=>[NO,ε]|T'=>Iq ε j ζ|ND=>MD Ζ|OA=>CM q|AMR=>SB IC|eR=>IL L' ε|i8=>mg ε=Ε (Bn ζ)|xx=>ABW ε ζ HR|xy=>(iq BH)|L8=>x::xs|eS=>xL ε (xL ζ η)|ABk=>(dP vs)|pz=>cR (fun ε ζ=>η) θ|i9=>ip aC (ε c) ζ|AHJ=>dY (G1 ε ζ)|AMS=>bO 1 ε (iL ζ) d4|SY=>by show AE q q q q q q q q q q q q q q|NE=>by rw[ε]|SZ=>.B4 l|ŀ=>G0 ε e ζ|p_=>Md H ε|i_=>.pu (.AS ε)|NF=>zO _|xz=>ABU qp ε ζ|qA=>.refl _|AHK=>GS (AHE ε ζ η θ) ι|MT=>ĭ 1|AHL=>Apart σ ε ζ|Ata=>by obtain⟨F,Γ,D2,R,h,k⟩:=ε|x0=>HU ε 1 [ζ,η] θ|ef=>ox xs|ae=>i4 ε D8|i'=>İ d ε ζ|AMT=>(zX _ hb)|jI=>z6 (ε ζ ?_)|AMU=>ε (zO _)|x4=>ε KS e|af=>(0,0)|ai=>Aec (pV ε)|Ł=>∀b o,KU ε ->ζ|qB=>[a,b]|Bau=>.AS (AdU ε)|Sb=>EA K F d v|AMV=>DecidableEq ε|ł=>.cell|al=>fun e=>ε|am=>fun r=>ε
|PH=>fun q=>ε|AT2=>if ε ζ=Μ then η else θ|NG=>by split at h|av=>ε=Ε u|ABl=>A4 qv ε|PM=>β ->AM|OB=>(NX hb)|WP=>P (.bl ε)|x5=>(match ε with | ζ=>η | _=>AG)|WS=>fun b u ε ζ=>η|ABm=>xF o8 ε|OC=>KO v u|Atb=>dF (i:=ε) nd Β IJ|NH=>d6 ε (by show M0 ζ;exact η)|UA=>Ĭ AQ AQ|AHM=>.ins C dx ε|AMW=>AtY u|qE=>IZ JU A ε ζ E η|x6=>lV (Da ε) ζ η ABb|eg=>∀b u,MI ε ->ζ|qS=>z7 (α:=_) ε|Atc=>Ctx LP F0 H0 E|OE=>(by (first|subst h|exact aad h|exact aae h|exact aag h|exact aaf h|exact aai h|exact aah h|exact aaj h|show ī|show NW h|show NU h|show Mc h|show NV h|cases (h)))|OF=>fun x=>ε|qV=>ALA ε|Q_=>by grind|qa=>B6 i ε|PP=>B6 h ε|UB=>(ε&&ζ)=Μ|OG=>JO h|qc=>MC F1 ε|AHN=>CD ε q|PQ=>ES ε [ζ] η|PR=>MH k.nx|AHO=>(a::bs)|AMX=>fun ε Γ E=>ζ Γ (fun η AC=>θ) E|WU=>∀b o,ε ->ζ ->η|Ń=>∀x∈ε,x∈ζ|ABn=>xc eV ε|Sc=>by show AeW (len1 hl)|ń=>My ε (ζ ?_)|AHP=>AHC ArK|AHQ=>Lo _ D7|AHR=>ATw (ļ ε)|qf=>dy e n ε|e9=>(z8 _ e)|x8=>A4 (dF (i:=ε) nd Β) IJ|AMY=>cQ s x|OH=>∀{K:AD}{F:Hp},_|AMZ=>pb ε ζ (by show Ata η;exact θ)|jS=>P_ xK ε m ζ|Ņ=>(by (first|subst ε|exact aad ζ|exact aae η|exact aag θ|exact aaf ι|exact aai ν|exact aah ξ|exact aaj ο|show SA π|show NW ρ|show NU τ|show Mc υ|show NV χ|cases (ψ)))|UC=>by obtain⟨ε,e⟩:=ζ|PU=>ε<CL|aw=>by simp [ε,ζ]|x9=>by cases (show ε from ζ)|ABo=>⟨Υ,ε⟩|UD=>fun ε ζ=> ?_|PV=>(cV 5)|ja=>AV ε ζ e|AMa=>(FG [])|qh=>s.2.1|PY=>by show BE ε (?_:ζ)|AHS=>MC ε H'|RA=>(NX he)|jb=>.bl _|ax=>P ε B5|WV=>(Ll BG)|ņ=>SC F|RC=>Tk hi ε|Se=>z6 ?_|x_=>AKt ε 0|WZ=>(Kb xs)|qi=>LS 3 ε|Ň=>h∈s|PZ=>A.handled=Ι|Sf=>⟨ε,vs,Β,ζ,η⟩|yA=>ATu (ME ε p) ζ|RE=>KO y u|Si=>ATv KW|RF=>ATy e|AT3=>jl X (ALE .ε) ζ|e_=>ε _ _ _ _ ζ η|Aed=>.obj C' fs ds|UE=>∀j,j<ε ->ζ|Aee=>fun ds P=>ε|jn=>AMJ ds vs ε|UF=>∀(X:Cx) (F0 H0:Hp),_|ay=>.AN|a_=>.AY|ň=>fun c=>ε|jp=>∀{ε:ζ} {η :θ},ι ->ν ->ξ|qk=>.bool ε|UH=>(ε ζ).cq|We=>⟨o,ε⟩|RH=>(qv 5)|Wp=>.B4 p|fA=>by rw[ħ ε]|ŉ=>cC (Bau ε)|qo=>(OX 0)|ABp=>ZO H' ε|yB=>by rw[ε,ζ];rfl|Sj=>P (II ε)|ABq=>ε x=Μ|Ŋ=>Γ.set i ε|ABr=>Cc hb|ABs=>.D6 (HV ε)|ŋ=>(E3 qD)|bE=>oq α|UI=>by show HA (ε=ζ) Υ|UK=>by rw[<- ε];exact ζ|Ō=>.AN ε 0|js=>On fp ε|W_=>by show No rx|qq=>∀b u,ε ->ζ ->η|W'=>dF (i:=ε) (BXk ζ) Β IJ|ABt=>.dic ks ε|AMb=>EA K F' ε ζ|UM=>AT0 AM|RI=>e _ _ ?_|AT4=>ε P w K mg DS ζ η θ ι (ν c)|RO=>dr ε c ζ (i3 η) θ ι ν|qr=>A4 (qm  ε  ζ) AMN|UN=>(fr t b).2|ABu=>ε (aC (ζ c) (G1 η θ))|AT5=>{ε with nx:=ζ,ct:=η,bk:=θ}|AT6=>∀z E,Atc ->ε|BcA=>(ATx C LH TK fp)|BcC=>fun _ _ _ _ _ _ q=>ε|fE=>(ε).ABQ|Sk=>fun ε=> ?_|yT=>by rw[C6,ε]|fF=>by simp [ε]|bP=>by exact zJ e|Sl=>Ĉ h|yY=>ip qt ε ζ|AT7=>Id - ε|bS=>P (FG ε)|ABv=>Ο[i]|Sm=>P5 ε 2|UO=>.EI xs|fI=>dB i|jv=>(kW Ο)|Sn=>Ĭ AQ D|AT8=>MY ε=Ε o|ABw=>AR0 K ε ζ =Ε Ι|ABx=>by have:=ε;rwa [ζ] at Τ|ABy=>c::EW|q_=>xh ha ε|rL=>ε b o e|ya=>(.frz o P8)|j_=>bQ K ε ζ=Μ|ABz=>n8 hu|AB_=>dD X (P4 ε) ζ|AHT=>(Nn (k b AMT))|So=>sW Acz x|XA=>fun j hj=>ε|Aef=>by show oy ε;decide|AMc=>seqObj IC ε ζ|AB'=>cY (fH ε)|Sr=>by show BI u Β rx ALW r|AHU=>-(ĺ)|AHV=>xp o e ε|AT9=>Ľ a b|yb=>AT2 TC ε _ _|XB=>(fr t b).1|ACG=>lX ε (lX ζ zy)|XE=>by rw[show ε from ζ]|UP=>by unfold ε at e
|ye=>by exact ε b u e|bX=>fun c ε=>ζ|yi=>(Bn x)|ACH=>Md ε ob|yk=>Iq ε q ζ|UQ=>MD V|j'=>Ff D7|AHW=>E4 ε v|kA=>OZ IC|UR=>ps[i]|ACI=>KU RS|kB=>KU MY|AHX=>by show oy ε;show AA|US=>by show C8 (ε=_)|yn=>A3 (ε Β  ζ  η  θ)|ō=>(.dK ABk)|UT=>(by simp;show AA)|yo=>Of xo|AT_=>ATq IC seq ε|AMd=>KA (ε (Bn ζ))|ACJ=>(mH qs)|UU=>by rw[ε];rfl|AT'=>Fu ε .local|kC=>by show BI ε ζ Β ZH η|Atd=>Lu _ ε Β|bc=>fun ε ζ P hp=> ?_|AMe=>AMO ε aQ|Ŏ=>AHJ ε o_|rS=>h0∈ĳ|UV=>W.mg_none_of X G ε|AMf=>.BoolOp .ε ζ AB|AHY=>VC σ ε|UX=>∀(I:AW),_|fN=>(B6 y (WC hb y))|bi=>Ee a ta|kD=>(ε).up Ψ|fR=>AMJ d v ε|Aeg=>Tb μ d|ŏ=>ε DE s H E|UY=>Aci K my ε =Ε Ι|Ate=>AMI HC (.ArE (AtX ε AML))|UZ=>by subst hP hw hK|AUA=>ALQ ε|ACN=>AdU ε|AMg=>.function|AMh=>by obtain⟨o',ε⟩:=ζ|fS=>by obtain⟨ε,ζ,e⟩:=η|rV=>CL<=ε|AHZ=>by omega+Bma|AHa=>P.below ε|XG=>EV AR|AMi=>by simp at ε|XI=>(ε ζ).ON|XL=>⟨ε,ζ,Β⟩|yv=>H1 ε=Ι|rX=>(FG xs)|bj=>by show BE (?_:ε) ζ|re=>(Dx v)|XN=>by rw[ε];exact h|bo=>Δ ->AM|ACO=>I.tok _|XT=>D4 ε ?_|Atf=>(NO :Κ)|Ő=>Mm D|kF=>by rw[<- ε];exact ζ η|yy=>xC F1|yz=>ZU ε (xA ζ)|ő=>by rw[ε];show AA|XU=>P5 ε 4|AUB=>z8 _ q|bq=>F7 (∃(ε:ζ) (η:θ),ι)|AMj=>oz ε ζ []|kG=>P (qD ε)|kH=>D9/2|Œ=>(AHB kW)|kK=>(Ĵ A5)|y0=>(xl A5)|kL=>AHG OR|fT=>IY xs us|kM=>d_ h' tk|XX=>by obtain⟨x,H1,I1,r1,q1⟩:=ε|kN=>(AMP s2)|XY=>Pm n p|XZ=>∀(qs:A2),_|AMk=>AHL Γ ε|Xs=>t::ts|AHb=>∀s∈S,ε|AHc=>(jO qs).dL|AHd=>Aee (ľ ε ζ)|ACP=>qD (v w)|X0=>Zp t ds ε|BdX=>(xN e "values")|Atg=>⟨tg,NM,ifs,0⟩|Ath=>(AT1 DE s H E).ε|fb=>Sat lt n ε ζ|fc=>∀(xn)(hcd:G_ x (Ac6 :Κ):=by decide),_|Ati=>ε ->DZ Hp VK|kP=>ATq vz dict #[]|X2=>_Hd.nthM M ε Β Β|AMl=>IsZip ε z TI TO ζ|Aeh=>∀C LH TK fp F0 H0,ε BcA F0 H0 ζ η|Aei=>ε=OP|AHe=>AH ->ε|br=>by obtain⟨o,ε,ζ⟩:=η|bv=>by obtain⟨ε,Β,ζ⟩:=η|œ=>(by rcases ε with Β | ζ)|AUC=>[Arz]|rh=>B6 w ε|kQ=>G0 QT ε ζ|fe=>Lp lt p ε ζ=Μ|b9=>.AN _|AHf=>_Hd.fnO K ε ζ|Ŕ=>(Dx EC)|ACQ=>(ASX P w)|AHg=>b≠0|kR=>OZ U_|fg=>ws[i]|kT=>(ε ζ).ON η|rq=>KU L'|kU=>au ε (OY ζ η)|AMm=>Mm Row|y_=>Ll (eN ε)|r6=>by rw[ε];exact ζ η|Aej=>MI RS|ŕ=>C9 ε Β|Ŗ=>ATs ir ε|r8=>Nc F'|AUD=>IM AHQ|AHh=>Nd u|r9=>oa κ V|ACR=>(AHB fZ)|ACS=>(cM qs)|r_=>lB ε ζ=Ε η|fh=>ABf hi|b_=>d::ds|AUF=>Ķ xs|Aek=>AHD (AtX ε AML)|kX=>∀(t:cW),_|fq=>.LY d|AMn=>[.AN ε,.AN ζ]|sA=>aM AJ F ε ζ|cE=>aB l f|Ael=>ε (t' :=LV)|Atj=>(.Au Zs)|Aem=>ABe h (t+1)|Aen=>AHF ε (ζ X Ξ σ Q)|zC=>jQ rs|AHi=>(wP .AN)|ft=>BEm+1<n_|AUG=>fun σ H Q=>ε|zD=>Asp K GL|cK=>(ASd hc)|ACT=>bV ε (AV ζ s2 η)|ŗ=>(TZ pD)|zI=>ε σ H1 fun ζ H2=>η|AHj=>ε K F0 H0 ζ E σ H Q|Ř=>∃t,u=ε|fw=>frs MX|cS=>nD P w H h|ka=>lB (ε ζ) η=Ε θ|ACU=>IZ ir X.A ε ζ η θ|kg=>fun q hq=>ε|ř=>.pu (gq Ο)|Ś=>ε (aj ζ ak)|cc=>by obtain⟨_,Β,_⟩:=h;rfl|ACV=>fun F0 H0=>(JO ε)|AUH=>(um ps ws u)|ki=>W.kia_one ε VI ζ e (Ev (nomatch z)) h|f_=>fun b=>ε|gE=>by subst Τ|zS=>by obtain⟨ε,ζ,Β⟩:=η|kl=>by rw[ε,ζ] at Τ|AUI=>(ASf ε).ζ|AHk=>B6 x ε|ze=>by show SA q|km=>CB 1|zh=>CB Aeg|Aeo=>(II 1)|zk=>.B4 CL|gI=>AV h' ε ζ|gL=>(ε ζ η).VM|AUJ=>DZ Δ ε|ACW=>G0 QF ε ζ|ACX=>BS (LN ε)|gN=>CM AKm|gS=>(NX h)|gT=>.By xs|sB=>og eN ε ζ|zn=>(ε ζ η θ).VM|gc=>.AS _|ACY=>PE X (.ε ζ η AB) θ|ko=>(Ll BH)
|sC=>(NY T)|gi=>xC H|ś=>Tk H ε|kq=>Ix FJ ε|sD=>LB Ο|sK=>oa Key V|zo=>v= B'|Atk=>(kW Ο w).ε|Atl=>by have:=ε;simpa using ζ|AMo=>fun ε ζ=>η θ (zX _ ι)|kr=>AMK ASq|gu=>by rw[CM ε,CM ζ]|AUK=>∀a∈l,ε|AMp=>∀a∈as,ε|Aep=>∀x,x∈ε↔ζ|gy=>aY (cY ε)|AMq=>ABe h t|AHl=>Aeb VM|ACZ=>.tr as ε|sL=>(yd st)|sN=>(j::cs)|sQ=>(ATu (ZY p) KW)|ku=>Zp te d ε|zt=>AMX D ε ζ η|g_=>aV ε (aC (ζ c) (G1 η θ))|ACa=>ZA i 0|ACb=>ε fun o e=>ζ|ky=>Atd SE|zw=>Gr F H F' H'|Ŝ=>AT6 (ε LP ζ (ABZ η t E))|AMr=>⟨ε,H,I,Β,ζ⟩|AHm=>(AK' i).flatten|z0=>[Atf,a1,a2]|sR=>(match ε with | ζ=>η | θ=>ι | _=>D7)|hV=>by obtain⟨_,_,_,Β,_⟩:=h;rfl|Aeq=>GT ε _ _
|sT=>∀(hdb:G_ x (ALD :Κ):=by decide)
 (he:oz KW e es:=by rfl) (hpl:AHR es:=by rfl),_
|hW=>A4 (bY (Da ε) ζ) η|AUL=>aM K F' ε vs|z_=>ĸ apos.endLine cpos.line|sd=>fB Ο x r|Aer=>∀x c,AHP ->ε|kz=>(.BFZ elt [Atg] sc AB)|AMs=>by obtain⟨hp,g,d,tk,os⟩:=ε|AHn=>IZ _ ε ζ _ _ s|Aes=>(ZT SR F H σ Γ)|Beh=>ph uL i i ε hv hd hcd|AUM=>_Hd.adr_of ε|k7=>nomatch e|se=>st.1|k8=>h1.1|ŝ=>by obtain⟨ε,ζ,η⟩:=D8|ACc=>ε<ASD|Atm=>by obtain⟨_,Β,_,ε⟩:=ζ|k9=>by apply List.ext_getElem|k_=>by exact h1.elim|lI=>by kernel_rfl|sf=>fun ε _=>ζ|sg=>fun ε s' =>ζ|lL=>(cV 6)|À=>(cV 7)|Á=>AAj (ε ζ)|lP=>by show SA hq|ACd=>(qv 7)|Â=>by rw[ε,ζ];exact η|AUN=>A4 eV ε|lT=>AFz h|lc=>(CL+1)|Ş=>ε (i:=0)|ACe=>.AN j|ACf=>.AN pf|lf=>nL (ε ζ) η|lx=>i<BN|ly=>.By ts|si=>P []|AHo=>ABU qW ε ζ|l4=>by show BD Ψ|AMt=>z6 (ε (ζ ?_))|ş=>.BO x|Aet=>(Ar3 ε).1|AUO=>xB s' ε|ACg=>F6 m|Ã=>MH k|ACh=>(P4 id)|AHp=>a::bs|AMu=>Į fZ|l5=>.bl b|Š=>by show DJ Β|sj=>AAi Δ|Ä=>Nc H|AHq=>(.bl AG)|ACi=>i4 u ε|sq=>Nl i ε ζ η|š=>by unfold ε;grind|l6=>by rw[CM ε] at h|Ţ=>xF qW ε|l7=>⟨ε,_,Β,ζ,η⟩|l8=>oa Κ V|Å=>Hb Β|sv=>z6 (Po ε ζ η)|sw=>AeU AU|ACj=>RS ε=Ε o|AHr=>b∈as|AHs=>.pu (qD ε)|AHt=>cB bT An ε|ACk=>(Ĵ An)|AUP=>Tl (.ALJ ε ζ AB) η|Be_=>xk EJ ε|l9=>QP hi|sx=>(ABg A5)|ACl=>aT qv ε|ţ=>c7 k X.A|AHu=>xt s' ε|l_=>KO x v|Æ=>KO x u|Ç=>Tk j (.AN ε)|mB=>fun r hr=>ε|Ť=>ATQ ε TO ζ η|ACm=>(0+ F8)|Atn=>_Hd.isRef (AR0 K ε ζ)=Μ|ť=>AMV κ|mE=>LD u|mI=>r::rs|Aeu=>sp ε ζ fun η=>E AC θ|Aev=>eZ K F H ε ζ as|mM=>AMZ D ε ζ η|AMv=>ABo Υ|AHv=>LO d8 ε 1|Ato=>ZU W.isFn (Bn ε)|AHw=>Ct∈m|Atp=>(ME MV p2)|mP=>PE X e te|Ŧ=>Inv LP Ξ σ ε ζ|Aew=>bG (JY ε) (bG (JY ζ) iT)|È=>t σ H Q|AHx=>mj GL ε A5|ŧ=>zf aq ε BG|mT=>∀(te:bZ),_|Ũ=>A3 (au ε aJ)|md=>by intro X hP hw hK hc i Ξ s σ H E I hf st hg|AMw=>x5 b ε ζ|s0=>fun p hp=>ε|É=>i5 ε yX _|AUQ=>A3 (lV (Da ε) ζ η ABb)|s_=>∃r∈Ο,ε|ACn=>lW (cT ε)|tF=>AMb d v|BfN=>(ε t1 t2 A8 l1 l2).ζ|me=>f::fs|mh=>Cf p hp|AHy=>A3 (eV (A3 ε))|tI=>aN AJ C f|mi=>(Beh hN)|ACo=>FZ led ε|Ê=>(x h - AMY)|mo=>Jn x x|AHz=>ε X vs H Q|tJ=>fun x y P=>ε|AH0=>xE F' H' B5|AMx=>BDz e ε B9 (pe e)=V_ e|AH1=>BX ε I ζ η S n ep|AUR=>pW knd kf ε o ks es ep t|mr=>by show d5 q q q q q q q q q q q q q q|mv=>by rintro Ξ s σ H xs us Q I r ⟨F,ds,P,sF,rs,h,k⟩|ACp=>fun Γ=>ε|tN=>by obtain⟨Β,ε⟩:=ζ|AH2=>by obtain⟨v,ε,ζ⟩:=η|Ë=>by split at e'|Aex=>_Hd.adr_of ε|tP=>EV κ|tS=>ε ->ζ ->BB η θ ι ν ξ|tT=>by subst e;exact ε|AH3=>by simpa [ε] using ζ|AUS=>BDV ε =Ε ζ|ACq=>ε CL=Ε ζ|tj=>(by with_unfolding_all rfl)|ũ=>B6 d ε|tm=>(qv 6)|Ì=>CB j|AH4=>(II 0)|tq=>JO n.elim|Ū=>Ff 0|Í=>LO gR ε ζ|ū=>D' BN|AH5=>ME NO ε|ACr=>IL ε o|AUT=>Ε ł|AUU=>Fu ċ ε|AH6=>(I.tok _)|AMy=>U' a|AH7=>OZ U2|Atq=>G_ ε BDJ|Aey=>.BO (HV ε)|AMz=>SC H'|Aez=>(iq E5)|Î=>ATs M ε|tw=>(ZY AB)|ACs=>OW ε 0|Ï=>Nc H0|Ŭ=>(pQ P w)|AH8=>LS 1 ε|tz=>LS 2 ε|AUV=>(ý qD)|ŭ=>h∈ĳ|ACt=>i4 v ε|ACu=>dy ε ζ ?_|AH9=>IY ε us|Ů=>WB ε (ζ η θ ?_)|t6=>bU hb|ACv=>cz ε BV|t7=>by have ε:=ζ;have η:=θ;have ι:=ν ξ|ACw=>∀h',ε ->ζ ->η|t8=>c::cs|Ð=>⟨ε,Β,ζ,η,?_⟩|AUW=>ABf hi'|AM0=>(v w)|ACx=>eA z7|t9=>AeX 1|ACy=>Ĭ D AQ|ů=>α ->AU|Ű=>Q v H'|t_=>A3 (Ii ε)|AUY=>WH ε AUB|ű=>Aeb map|Bf8=>W.Looks.here (s:=ε)|Ñ=>(ABj BG)|uA=>(c::ds)|Bf9=>x≠ "__name__"
|Ò=>Jn _ D7|uB=>Tb t b|AH_=>fk S n bs k|AUZ=>Sem AH|Ó=>Jn q q|uC=>AT3 ε (qx AJ ζ)|Ų=>lA K H a xs|uS=>(g i j)|Ô=>by have:=ε;have:=ζ;show AA|ua=>ABu aY ε ζ η|Ae0=>(zJ e)|Ae1=>(Rat.divInt t b).ε|Ae2=>BS s.2.2 - ε|Atr=>ε (t' :=ASg) ζ|ub=>pp Iy h|AUa=>(AMe aQ)|Bf'=>Ļ (AGR ε ζ Arb B9)|ue=>⟨Tk Γ ε,ζ,?_,?_⟩|AM1=>pE F1 H1 AC|ų=>PE X a ta|AH'=>by show HA AMW rx|AM2=>⟨F1,AC,_,R1,ε,ζ⟩|Ŵ=>iw s o a|AM3=>ε Ξ s1 σ H1 _ I1 q1|AIA=>a==b|AIB=>(DQ aQ)|AIC=>h0::hs|Ae3=>ε∈gk S n oS ζ|Ae4=>∃m',m' <m/\ε|ŵ=>Ee b tb|ui=>by show SG b;exact⟨ε,ζ,η⟩|AUb=>aB S fun s=>(M_ ε ζ)|uj=>k _ _ WN e|Ats=>(Be_ Atj)|uk=>Ih (i:=ε) nd Β Β|ul=>∀F0 H0,ε|AUc=>Ω ->Ω ->ε|Atu=>DZ Hp VK|AUd=>by show AeW b;exact⟨ε,ζ,η⟩|AUe=>(fs++ [f])|ut=>Ord lt n|uu=>(lo+hi)/2|Ŷ=>ε AC (fun ζ BF=>η) E|AUf=>(upd H2 A1 AMa)|ACz=>fY xs ys|uv=>Lean Ο ms x|BgQ=>backToKw ε (keywordEach [] B9)|Ae5=>qH ε d es ep|Ae6=>∀x,foldedSetIterable ε B9 x=Go x|AUg=>{cls:= AMR,dict:=ε,AAk:= ζ,AK6:= η}|AUh=>IZ _ _ ε _ _ _|AM4=>(iY r g ps ms x).xf|u7=>by show AE e2 e2 e2 e2 e2 e2 e2 e2 e2 e2 e2 e2 e2 e2|ŷ=>BN=ε|AC_=>.L_|Ÿ=>.AS|AC'=>ABv.1|Ź=>show ε from Β|AM5=>by rw[GN,ε] at ζ|Õ=>by rw[<- Τ]|Ö=>by split<;>(show w9)|ź=>Yf ε|Ż=>Po ε ζ η|ż=>by refine ε;show BE ζ η|Ø=>by exact_mod_cast ε|Ù=>by rw[ε,ζ]|AM6=>⟨h1,ε⟩|Ae7=>LV+1|AIE=>fun vs ε=>ζ|ADG=>(Bn I)|ADH=>(Bn CL)|AM7=>ε (ALA ζ)|ADJ=>by rw[ε ζ];exact η|Ž=>by rw[bU ε];exact ζ|Atv=>(Id+1)|Ú=>ε (i:=i)|AUi=>D' Ą|AUj=>(Dx 1)|Û=>MC ε H|AM8=>E4 Γ ε|AIF=>IL F ε|AUk=>(JP _ D7)|ADK=>Ε v|Ü=>AZ ?_|Ý=>.By _|ž=>(AdM _)|ſ=>(CC hw)|AM9=>cF BH ε JS|ϊ=>by rw[ε];show AA|ADL=>by show BD Η|AM_=>(AeS pQ)|AIH=>IZ JU A ε ζ E s|Þ=>ĭ 3|AII=>F6 n|AM'=>Κ ->Ω|ß=>.AS x|ϋ=>AAi GenState|à=>P5 ε 3|Ae8=>ABY h|ANA=>ZZ ε (FG ζ)|ό=>by rw[Ch ε] at h|ANB=>xF wU ε|ADM=>hS b hb|ADN=>aN K C ε|ύ=>oa GH V|ADP=>HG (Φ ε)|Ae9=>(AHB mW)|Atw=>ε/ BS Aqc|AIJ=>P7 xs vs|á=>Op Unit|â=>Na u q|ADQ=>BE' hq|ώ=>AMK Ζ|ã=>(pS ha)|ADR=>(lF w)|ANC=>Fu ε .cell|AIK=>(xl An)|AIL=>pd (B7 ε ζ)|Ae_=>aE ε A7|AUl=>Ĺ H' ε|Ϗ=>ATz ε IE|AIM=>(YU .AS)|ϐ=>Asp AJ C|AUm=>fun σ2 H2=>ε|ADS=>jI ε Β|ANE=>Z3 ε j (.AN ζ)|ä=>(.ow ds)|å=>by rw[ε];grind|ANI=>(n,k)|æ=>ε Β Β ζ η|Ae'=>qc F2|AfA=>(ε ζ (AGd η)).θ|ANJ=>Q () s'|ADT=>dG f hs|AIO=>lA AJ H ε ζ|AfB=>ABq X.fn|ç=>ZU lU C|è=>ABt ts|é=>by show GG a vs hq rs ε|ADU=>BcC Ġ|AIP=>(AT7 Eg)|ϑ=>ABx ε C6|AIQ=>TR K F' H' ε ζ η|AfC=>AT' BmQ|Atx=>Aea HE ε Lc|AfD=>AHY H|ê=>(hu1 hu)|ϒ=>[LL,Pe]|ë=>Ati AT|ì=>fun v s1 ε=>ζ|ϓ=>fun c hc=>ε|í=>ε=TC (ζ)|AIS=>(hn a ε).1|AfE=>bU (gJ q hn)|ADV=>Aen ε EP|AUn=>AT4 BR GL ε ζ η θ|Aty=>{s with toks:=ε}|AIT=>Lm ε/ Lm ζ|ADW=>by with_reducible refine BnY ε ?_|ADX=>dt (ε::rs) ζ=η|ϔ=>PI X tg ε ζ|î=>Atl ε Τ|ANK=>Aep ε (x∈ζ)|ADY=>Aer (c≠ε)|ï=>∀(hc:FX),_|ANL=>∃o',Md Adl o'|ð=>α×β×Ω|ñ=>by obtain⟨_,_,_,Β⟩:=vA hl|ò=>ABX CF AM|ADZ=>tZ K H ε (NY ζ)|Atz=>Bf8 Aem|AIU=>ASp K fd ps []|ó=>ε Ξ s σ H ζ _ η θ Q I rx ry|ϕ=>EP X Ξ σ Q ε ζ|ô=>(xz eJ xy)|õ=>_Hd.isRef (Aci K my ε)=Μ|At0=>[.Call ε [a] [] wt]|AUo=>AT5 D ε ζ VC|ADa=>(ofM Ο m)|ADb=>⟨qA,ε,ζ,qf (by rw[e] at n;show AE n n n n n n n n n n n n n n)⟩|ANM=>sIx P2 0 lo
|AIV=>by obtain⟨v,_,Β,ε,Β⟩:=ζ|At1=>upd ε Zs (.ins C EJ ζ)|ö=>G8 I hg hm ε|AfF=>ε Fr X.w AJ ċ cy ζ η θ|BhC=>Bf' FF (Dx ε)|At2=>P6 (A3 (Hq (i:=ε) (Da ζ) η θ Β IJ  ι))|ø=>by obtain⟨f0,f1,f2,f3,f4,f5⟩:=hf it A7|AIW=>by show Atm k2 b;exact⟨ε,ζ,η⟩|ADc=>fun _ _ _ h=>ε h|At3=>nU X Ξ H b|AfG=>o5 (cO ε VZ Β ζ)|AfH=>∀F Γ P,Aes ->(t Γ P E) ->(ε) ->ζ|BhF=>BT n A ε d tb rs fs ix|ù=>P9 ε mg mg P AS7 w w DS DS|ϖ=>by show AE e' e' e' e' e' e' e' e' e' e' e' e' e' e'|AIX=>(by (first|subst z|show AG1|show AG2|show AG4|show AG3|show AG6|show AG5|show AG7|show AG8|show NW z|show NU z|show Mc z|show NV z|cases (z)))|ϗ=>by rw[Mb,ε]|Ϙ=>by obtain⟨ε,e2⟩:=ζ|AIY=>BmI<=ε|ADd=>(ε ζ).Pl|ϙ=>⟨⟨ε,ζ⟩,η⟩|Ϛ=>(cV 8)|ANP=>(Bn it)|ϛ=>(Bn A1)|Ϝ=>by show SA h1|ϝ=>by show SA hq'|Ϟ=>(qv 8)|ANQ=>(FG ds)|At4=>ε K my ζ|AIZ=>CM hb|ϟ=>CM Η|Ϡ=>Ch Η|ANR=>Fu mg ε|ϡ=>Fu BDV ε|AUp=>ε Ο CU|ADe=>MG Id|AIa=>ABU wU ε ζ|Ϣ=>.exc _
|ADf=>by
 show As ε
 rw[ζ];refine η
|ANS=>.BO (FM ε)|ϣ=>Mm Ω|AUq=>CY mU|Ϥ=>C3 Β|ANU=>F6 (1+ ε)|AfI=>ZU W.keepIn ε|AIb=>z7 ?_|ϥ=>fun ds P E=>ε|Ϧ=>(a::rs)|AIc=>FL ⟨ε,ζ⟩|ϧ=>(ATt AAf)|ADg=>(ATt AAg)|Ϩ=>(FM h)|ϩ=>h∈hs|Ϫ=>by unfold ε;rw[ζ,η]|AUr=>Zl (AUA ε)|AUs=>(yW Ο)|ϫ=>x::l|ANV=>AdV ε ζ η ?_ (θ _)|ADh=>iO hq|AId=>cB bT A5 ε|Ϭ=>KF x|ϭ=>(pS he)|ADi=>ATv [a]|ADj=>α ->D|ANW=>AHD vs|AIe=>dy q n ε|Ϯ=>∀h∈m,ε|AUt=>jl X (Art .ε) ζ|ϯ=>Lu _ _ ε|ADk=>jw AJ C|ϰ=>WJ hn|ϱ=>xw CL ε ζ|ANX=>ib (P4 ε) ζ|AfJ=>pr (Nl b a ε ζ)|AfK=>AMQ Pc|ϲ=>eR o|ϳ=>j9 rs f|AIf=>(J3 st)|ANZ=>ε DA=Ε p.2|AUu=>Pv (EL)|ϴ=>i' Aed ε|AfL=>AL1 i _ ε|AfM=>(AHM fs)|ϵ=>Ń ε U|Ϸ=>dv t b|At5=>(XO a C Ι)|AfN=>XO a C (Dx ε)|ADl=>Ō 0|ϸ=>fun w hw=>ε|Ϲ=>fun x hx=>ε|Ϻ=>AT8 S|AIg=>Aef 1|ADm=>cY (AMS ε ζ η A5)|ADn=>∀l:CO,ε|At6=>(AHa Η)|ANa=>[.ALH ε ζ HP]|ADo=>AHd AUF ε|ϻ=>pM E3 qD|AIh=>ArN s'.gens|AUv=>AV r s' ε|AAG=>∀(K:AD)(C:Ζ),_|At7=>E4 ys y|ANb=>(∀q∈qs,SD q)|AIi=>AUL ds|AUw=>(.dT AI)|AAH=>by show Ŀ ε ζ η θ h h|At8=>ε f ts vs bs AHT h|AUx=>Un (frs MX) [] ε ζ η θ|AUy=>KV AI vs|AUz=>(cU jT o_)|At9=>(.frz oe (qZ a C))|ADp=>fun z hz=>ε|AAL=>by have hl:=AdD|At_=>.Aqm "type.__call__" ε|AfO=>Atq a|At'=>Atr Arh ε|AuA=>(gJ eb n1)|AAP=>bh P w H h a ε|ADq=>AAi (ü AH)|AIj=>∀{l:CO},ε|ANc=>(JP z ABh)|AU0=>(vs++ [v])|AIk=>Aev ts vs|AIl=>(ε b u ζ).stay|AIm=>gV t ε it l i|Bhf=>Ael I.turned (AHV ε) f0 f1 f3 f4 f5|AIn=>BhF p|ANd=>{nx:=ε,rt:=ζ}|AU1=>∀(K:AD),_|AAQ=>AAi (Ω×AH)|AAR=>(BV::DE)|AIo=>(p CU+q Ct)|AAS=>∀(hn:Bf9 :=by decide),_|ANe=>(wJ n j)|AfP=>((ε ζ).Ps η).IE|AuB=>ACG (Atb ε) (Atb ζ)|ADr=>ň (iD A k c*ε)|AU2=>fun ε BF F2 H2 ζ R2 s2 r2 h2=>η|AIp=>fun _ _ _ ε ζ=>η|AU3=>cG EB (ε f) P|AfQ=>Ju Ο ε w|AAT=>[BDy,Aro,Ary]|Bhl=>AG_ K9 ε aW boot_list|AU4=>AHK H A8 ε ζ (KS η _ θ)|AfR=>WB (ε S) (ζ η O.dat O.fit ?_)|AAV=>by obtain⟨v,_,Β,⟨p,vs,Β,hq,rs⟩,Β⟩:=rs|Bhn=>WB (Adn _ _ _) (ALo ε ζ A7 ?_)|AuC=>∀{A:i6}{d:Ω}{tb:i6}{rs:E6}{fs:AMm}{ix:ac},_|AU5=>by show AE hi hi hi hi hi hi hi hi hi hi hi hi hi hi|AAX=>by show AE rx rx rx rx rx rx rx rx rx rx rx rx rx rx|AfS=>by show Lv b b b b b b b b b b b b b b|AAZ=>by show d5 hf hf hf hf hf hf hf hf hf hf hf hf hf hf|ANf=>ε=BN|AU6=>.local|ANg=>fun B5 =>ε|ANh=>by rw[C6,ε,ζ]|AuD=>by rw[C6] at ε|AIq=>by obtain⟨ε,ζ,Β,η,_⟩:=θ|ADs=>by split at h1|ADt=>ALN ε|ADu=>EV Ic|ADv=>by trivial|ANi=>(AS5 ε).ζ|ANj=>L' ε=Ε ζ|ADw=>⟨AUM ε,ζ,η⟩|ADx=>⟨ε,DC,ζ⟩|AIr=>B6 e ε|ADy=>(cV 10)|ADz=>(qv 10)|AIs=>A3 (bK ε)|AfT=>CB AHU|AD_=>(II i)|AD'=>Pi h|AEH=>Cn h|AIt=>.B4 b|AIu=>G0 QN ε ζ|AEI=>(?_:yb ε)|AU7=>Md H' ε|AU8=>v.scannable=Μ|AEJ=>.AN k|AU9=>BS pf|AfU=>Ε b|AEM=>HT T|AEO=>CM Ψ|AU_=>E4 AC ε|AEP=>AZ (ε (z ▸ ζ))|AEQ=>(CC e)|ANk=>MG QQ|AIv=>ABU DN ε ζ|AEU=>.kt _|AEV=>.ptr _|AIw=>z6 (nk ε)|AEW=>CY fW|AEX=>MI H|AfV=>(ZY np)|AEZ=>Lm 0|ANl=>.bl Μ|AU'=>(a::cs)|AEa=>Nc F|AVA=>b≠VA|AEb=>(ATt va)|ANm=>į It|ANn=>BEd _ _ ε|AIx=>(c - 1)|AEc=>by unfold ε;rw[ζ]|AIy=>(mW Ο)|ANo=>VY p|AEd=>ε ζ η (fun θ ι P hp=>ν) ?_|AEe=>L' ε=Ε o|AVB=>fun σ H R ε=>ζ|AfW=>M1 CL ε|AEf=>xL (A3 ε) ζ|AEg=>⟨o,ho,ε⟩|AEh=>.dic _ _|AEi=>.pC _ _|AfX=>∀x∈ε,C x|AEj=>M3 cu ε ζ|AEk=>by show L2 Β ε
|AEl=>AeX 0|AEm=>AeX 2|ANp=>(.frz o u)|AEn=>yK Ψ|ANq=>Around.under_plainId ε _|AfY=>Tm ε (.Au ζ)|AEo=>SH ?_|AEp=>N3 ε 3|AEq=>aS IG|ANr=>ATz ε ć|AVC=>pj us.toArray|ANs=>dD X (NY ε) ζ|AEr=>by show BI ε ζ Β ATK η|ANt=>IY xs AO|AVD=>Aea ε ζ (P4 η)|ANu=>pk (Ll ε)|AIz=>Loc Acz x|ANv=>d_ h' t'|AVE=>Tk j (.bl (TC (ε)))|AEs=>by obtain⟨vs,H1,I1,r1,q1⟩:=ε|ANw=>Asp K hZ|AEt=>i9 ε A5|AVF=>i_ L|ANx=>(AMU ArU)|AuE=>(AMU ASl)|AVG=>Ł ε (KU ζ)|AVH=>(ATu (xN o m) KW)|AEu=>k ε A7 _ ζ|ANy=>x6 ABz ε ζ|AVI=>by rw[ε (CC hi),ζ] at e|AuF=>(qV hb)|AVJ=>(C_++ABy)|AfZ=>Jn _ N1|AEv=>(x8 2)|ANz=>fk S n bs Eg|Afa=>AHS H1|AEw=>dG f S|AEx=>v8 K H a xs|AEy=>∀i,i<n ->ε|AEz=>(Ŋ DO)|AE_=>ABs gP|AE'=>by show GG p vs hq rs ε|AFG=>qr (AUQ ε ζ η) θ|Afb=>BcC q|AN0=>n∈S|AVK=>yY BK ε|AN1=>jf ds|AFH=>m∉fs|AVL=>Ate ABK|AVM=>z6 (ε ?_)|AuG=>ABi (b∈bs) ε (ζ b)|AFI=>AMk a|AFJ=>∀{K:AD}{F H:Hp},_|AFK=>uh bd|AN2=>Aei (Tx ε)|AFL=>AHe κ|AI0=>ALX ε ζ (.ib η θ) ι ν|AuH=>U' (pv)|AFM=>AHf (AHI AMM ε) ζ|AFN=>E4 σ o|Afc=>E Γ x|AI1=>O0 ta x ε|AFO=>AUG (AHj ε t)|AFP=>Pv i σ H|AVN=>bB bs (v w)|AFQ=>by obtain⟨a,ε,ζ,η,θ,ι,ν⟩:=h|AI2=>AMr jb ε|AFR=>by show AMs s|AFS=>Ac9 apos.atName|AN3=>∀w∈ws,ε|AI3=>f p/q p|AFT=>∀{α:CH},_|AFU=>AUN (eP ε ζ η)|Afd=>∀u,AHh ->ε|AI4=>Aet nd|AFV=>Atn AMM ε|AFW=>Ato (AHI AMM ε)|AFX=>G6 (B3 71) ε|AFY=>AUR led|AFZ=>fun h hh=>ε|AFa=>vk [ov] ε|AN4=>(Cj x)|AN5=>DH ε _ _|AuI=>BDd ε b=AG|AFb=>.pC ks ts|AVO=>bV ε (ae us)|AN6=>zP (kY (k:=ε) ζ) Ψ|AI5=>[LL,c9,Pe]|AFc=>by have e' :av ε:=e|AFd=>ε (t' :=tk) ζ η (AHK _ _ _ θ ι)|AFe=>i≠j|AuJ=>Acv C ε|AFf=>Hh (yV ε)|AI6=>iK S h|AFg=>[FV,.AN j]|AFh=>aC (ε c) (aj ζ (G1 η θ))|AI7=>Atx LE|Bhz=>p.2= Tu ->∃c,ε DA=Ε c|AuK=>k _ AC F1 H1 _ R1 s1 ε ζ|AFi=>A_ x FE st|AFj=>by rintro z E cx Ξ s σ H Q I ⟨F,Γ,P,R,h,kk⟩|AN7=>∀(hs:Ae6 NM:=by intro _;rfl),_|Afe=>ε my mg|AFk=>by have ε:=jS ζ η Ψ|Afg=>AA' (Ğ ε)|AFl=>by rw[ε] at e;show DM;exact ζ|Bh0=>Iq vs ε nE|AI8=>p a=Μ|AN8=>PE X b tb|AN9=>Lo z ABh|AFm=>wX ε zc (Ts ζ)|AuL=>(F b).Ć|Bh1=>ε==Asc&&ζ== AMg|AN_=>fun b hb u q=>(AHN ε)|AFn=>∀{t b:Ω}(h:AHg),_|AI9=>fun x y H Q=>ε|AN'=>Bhl Nq|AVP=>(Le cx)|AuM=>by rw[ε] at z;show Lw|AI_=>CB (f j).den|AI'=>F (k+1)|AJA=>Φ (A9 b=A9 a)|AuN=>ε K ζ (NY η)=Ε Μ|AFo=>xc (qm  ε  ζ) AMN|AuO=>ABi eC ε Ι|AVQ=>Ar' hz Β (x:= ε)|AFp=>(l+r)/2|AFq=>∀{x FE:Κ},_|AuP=>(ik ε ζ is).map|AOA=>(MC F H)|AOB=>(jy S n)|Afh=>HU ε 3 [ALK,VO] ζ|AVR=>AT_ ([]:At).vt|Bh2=>(hi _ _ _ q)|AFr=>jU X.N sc Au FU B9 N'|AOC=>gW m (a i)|AFs=>by intro i h1 h2|AuQ=>fun b o e n ε hx=> ?_|AuR=>Inv X Ξ DT H' s'|AFt=>.ob C fs ts|AFu=>KeyKind CI w κ|Bh3=>wpAny_callSpecial?_slot (EO:=ACN ε)|AFv=>callWith AB f ε ζ η|AFw=>⟨f,fd,ε,M,ζ⟩|AOD=>TR K F H t v as|Afi=>[.Call BdX [] [] HR]|AVS=>sIx P2 P2 hi|AuS=>⟨F1,AC,ε,R1,s1,r1,h1⟩|AFx=>by intro Ξ s σ H x y v u Q I rx ry h|AOE=>ABY ε _ us Q I r ζ|AVT=>[c0,BDi,BDj,AdH,Ark,"_law_sitting_here","_law_plain",ASk,n9,AdK,AAq,Arl]|Bh4=>Ņ w w w w w w w w w w w w w w|AJB=>.NotIn|AOF=>fun hz=>ε|AJC=>¬S b|AOG=>by obtain⟨o,ε,_⟩:=ζ|AVU=>by obtain⟨o,ε,ζ,_⟩:=η|AJD=>by rename_i hb|AJE=>by obtain⟨ε,_,Β⟩:=ζ
|AuT=>(by rcases ε with ζ | ⟨⟨xs,η⟩,θ⟩)|AJF=>by (show Lv ε ζ η θ ι ν ξ ο π ρ τ υ χ ψ)<;>exact ω|Afj=>AL4 ε ζ η|AJG=>EV AU|AVV=>by rw[<- ε,ζ]|AOH=>by rw[e]|AJH=>⟨?_,ε⟩|AJI=>⟨ε,FB ζ⟩|AVW=>CB v_|AJJ=>CB Fs|AJK=>Rat.inv_mul_cancel _ ε|AJL=>AAj h|AuU=>ε (ALk ζ η)|AJM=>(j+1)|AOI=>(BGY+1)|AOJ=>AV ε ζ D8|AJN=>by rw[vc ε]|AOK=>(cC B8)|Afk=>BS t|AJO=>ZO H1 ε|AJP=>MD D|AJQ=>HT D|AVX=>HT AT|AOL=>D' MB|AVY=>Ī s'|AJR=>C6 _|AOM=>(CC h1)|AJS=>j≠0|AJT=>Ee e ε|AJU=>OZ cn|AJV=>fs[i]|AON=>by show C8 ε;show AA|AOO=>(Ll EQ)|AJW=>.D6 Β|Afl=>F6 k|AVZ=>MH Fn.len|AJX=>(.AS x)|AJY=>cz ε B9=ζ|AVa=>by have:=ε;show AA|AJZ=>P5 ε 1|AJa=>į AU|AJb=>Nd P8|Afm=>h∈m|AJc=>.EI ds|AJd=>.EI (AMn ε ζ)|AOP=>(j - 1)|AJe=>i2 b hb|Afn=>(ε Ο ζ).VM|AJf=>Γ[i]?|AOQ=>by rw[ε];simp|AJg=>by rw[ε];decide|AVb=>ES ε [NO,ζ] η|AJh=>NJ ε e|AOS=>AMK AH|Afo=>d::EW|Afp=>(ARz ε).2|AVc=>ML SE|AJi=>by rw[bU (Ev ε)]|AJj=>Lo _ Β|AuV=>plainId_quiet ε _|Afq=>wx (Cf ε ζ)|AJk=>by show QY ε Β ζ|AJl=>eK hn|AVd=>(qx AJ g)|AJm=>tK ts|AVe=>xw ε (FG ζ) η|Afr=>(z7 ?_)|AOT=>ds= Ķ ε/\ζ/\η|AJn=>j9 rs (E7 ε)|AJo=>ai 3|AJp=>GZ (ε*27720) ζ|AJq=>(p::cs)|AJr=>qS ?_|AOV=>jw K C|AJs=>AHN AfE|AJt=>(ABn (A3 K3))|AVf=>ZU W.isFn Lc|AJu=>x_ k|AJv=>∀(a b:AM),_|AVg=>(qk Μ)|AJw=>ABp s'|AJx=>Ĉ A8|AJy=>ABw AMM ε|AJz=>AB_ ε (ud AJ ζ)|AJ0=>AMd ASj ε|AOW=>cY (AMS ε ζ eO η)|AJ1=>by show AMh e' ε|AJ2=>∀(i:Δ),_|AJ3=>k::ks|AOX=>tb s p|AJ4=>⟨AMv,ε,ζ,?_,?_⟩|AVh=>ACU ε ζ Đ η|AOY=>(ALr gr)|AJ5=>[ALR,AGU]|AOZ=>PS X (.ALJ ε ζ AB) η|AuW=>IL H' u|AOa=>Ao Ο ws|AOb=>Sz 1900 q|AuX=>by unfold ε;rw[ζ];rfl|AJ6=>Atk VM|AJ7=>io ks rs j|AOc=>f Ct|AJ8=>Gd ps|AJ9=>fun k Γ=>ε|AOd=>BEV (Bn ε) ζ|AVi=>ZI ε 0|AOe=>(xk a At5)|AJ_=>MM Js A5 ε|AJ'=>xH Ο x h|Afs=>Ad7 k v=Μ|AuY=>BfN ε ć|Aft=>AMx "values"|AuZ=>ε (xh b AT9)|AKB=>AUU HE|AKC=>.AY r t|AKD=>∀[Abp β],_|AKE=>xD Fe ε (pk aJ)|Aua=>Ae4 (W DI m' ε ζ)|Afu=>Ck AJ F' ε H' C dx x|AKF=>(BgQ AB)|AKG=>b1++ (ε++b2)|AVj=>∀S∈Ss,ε|AKH=>PA X ε ta|AVk=>oa κ AH|Aub=>Ar' ε ζ (x:=η)|AOf=>ŀ QN tn|Afv=>(.ob C fs ts)|AVl=>⟨HC,od,Aek ε,ζ⟩|AVm=>Aty Ae7|AKI=>∀(i j:Ω),_|AVn=>ε fun a b=>AT9|AKJ=>Meth K GL ε f|AVo=>AfG ε (OY ζ η)|AVp=>nk (vs:= ε)|AOg=>B7 jO qs|AOh=>(ε p hp).1|AOi=>Jn e e|AKK=>Hf X hC|Afw=>(xx BdX [])|AVq=>yn Hj (ABl 0) ε ζ|Auc=>Z' Z_ H2 H|Aud=>⟨.AN ε,H,ACO,ζ,q⟩|Aue=>(B6 s (Ae2 (x qh)))|AKL=>c7 Eg X.A|AOj=>At' yo|AKM=>by obtain⟨oc,od,kV,doc,pm,an,cdv,ct,osl,Β,lk,hcd⟩:=Fn.ex|AOk=>qw ε a y o|AOl=>(yC AGo FU σ)|AOm=>⟨#[ε]⟩|AKN=>by obtain⟨h1,h2⟩:=ε|AKO=>fun _ _ ε ζ=>η|AKP=>by unfold Rs TM|AVr=>by rw[AeH,<- ε,AMD]|AKQ=>by show w8 t' ry|Auf=>fun Γ P _=>ε|AOn=>GZ B q|AKR=>(jg AHO H)|AKS=>kZ (Cf r hr)|Afx=>fun C dx H' =>ε|AOo=>qq (b≠ε) (MI ζ) Aej|AOp=>AMI AMR (.seq TH n)|Auh=>Bhz ASL|AVs=>Bh0 2|Afy=>M8 e ds vs ε|AKT=>∀P:T0,ε ->EB (f ζ) P|Aui=>(fk S n bs k)|AOq=>Bh3 BFk|AOr=>ASp AJ fd ps []|AOs=>ε K sp vs H Q E|AKU=>by show Ŀ c vs ec hkl rs (NT e1 ε)|AKV=>Aqy (At4 Aci ε)|AOt=>(match ε with | Μ=>ζ | AG=>η)|AOu=>by rw[Y2] at hbs|AKW=>by subst r1 r2|Afz=>by simp only [Ė,hb,ε]|Af0=>∀{K:AD},_|AKX=>(BCz uz).ε|Af1=>[e1,e2]|AOv=>oa GH (Ζ×AH)
|AOw=>b1++ (ε++b2)|AOx=>Eh Ο ms|AKY=>(ε w hw).2|Auj=>aB ACR ε/ BS AHl|AVt=>Os ε ζ vs AT η θ|AVu=>∀j,vd (ε j)|Bh5=>c7 k (AGZ (AGb FE ε CL f cdv))|AOy=>∀(K:AD) (F0 H0:Hp),_|AKZ=>iO (wb hq)|Auk=>(AdC ε B9).map|Aul=>Z' (¬Z_) H2 H'|AKa=>pE F H Γ|AKb=>AV x H' y|Bh6=>{o with dict:=Ε ε}|AOz=>Ae3 O_ Id|Bh7=>(iY r g ps ms x)|AO0=>(At1 Ats [])|AVv=>AfH ε (ζ t E σ H Q)|Af2=>Gp Œ Ae9|AO1=>wpAny_passesOwn hp (bV ε ζ)|AKc=>⟨_,_,_,Β⟩|Af3=>(ha AB Ξ s σ H _ I h)|AKd=>AH ->AH ->AUZ|AKe=>(aM K F ds)|AKf=>by have ε:=dr ζ c η (i3 θ)|AKg=>oz KW e es|Bh8=>∃F2 BF,pE F2 H BF/\Ae'/\ε|AVw=>fun D σ H=>ε σ H (ı ζ η)|AO2=>(ATx ALg s3 AUf fp)|AKh=>At2 ε Lg Bmj Bmk ζ|AKi=>by obtain⟨d,d0,bd,hd⟩:=ε|Af4=>∀(i:Δ) x y,ef ->At7 ->ε|AKj=>⟨ε,ζ,η,k.rt,k.rf,k.rT,k.rm⟩|Af5=>AMo p hp ε p hp|AKk=>by obtain⟨a,vs,bs,Β,Β,ea,hkl,r⟩:=r|AO3=>(by (first|subst e|exact aad e|exact aae e|exact aag e|exact aaf e|exact aai e|exact aah e|exact aaj e|show AeT|show NW e|show NU e|show Mc e|show NV e|cases (e)))|AO4=>fun hb=>ε|Aum=>by rw[GN,ε]|AO5=>by rw[ε,OT]|AO6=>by obtain⟨e,ε⟩:=ζ|AO7=>by injection ε with ζ _|AO8=>(by rcases ε with ζ | h)|AO9=>Y1 ..|Aun=>by simp only [Y3,ε] at ζ|AO_=>by rintro⟨ε,ζ,Β⟩|AO'=>by obtain⟨a,ε,ζ,⟨η,θ⟩,⟨ι,ν⟩,ξ⟩:=ο|APA=>by exact Adu ε|Bh9=>(by kernel_rfl)|AVx=>CB D9|APB=>(MW+1)|APD=>by rw[TN ε]|Af6=>(Da yw)|Af7=>(Da (#[]:Ki))|APE=>(?_:cG _ ε _)|APF=>(! ε)=Μ|AVy=>(ε b hb).2.1|AVz=>Ff Β|Auo=>i<FK|APG=>CM e
|APH=>by
 show BE ε ζ
 rw[η];refine θ
|APJ=>Ī SI|AV0=>IL H1 ε|Af8=>Cn z|APK=>au ε (au ζ (OY η θ))|APM=>(NX hi)|APN=>BC RG|AV1=>(CC h2)|APO=>(CC hj)|AV2=>Um _ _|Af9=>OZ MV|AV3=>MG Atv|AV4=>show ε by simp|APP=>ms[i]|AV5=>(cv ε).ζ η|Af_=>E3 fun ε=>ζ|AV6=>by rw[ε,ζ];show AA|APQ=>by show Nw;show AA|Af'=>by show yT ε;show AA|APR=>ER 0|APS=>(match ε with | Ε ζ=> η | _=> θ)|APT=>(ASJ ε).1|AV7=>xB s1 ε|APU=>by show No r;rfl|APV=>by show AE r r r r r r r r r r r r r r;rfl|Bh_=>ĭ OP|APW=>.D6 i|APX=>MH Heap.get?_update_ne|APY=>x∈f|AV8=>MI F1|APZ=>J_ (ε .AS)|AV9=>J_ AHi|AgA=>Lm (-1)|APa=>.bl AG|APb=>Na ε eb|AV_=>IM us|APc=>FL (h b ε)|APd=>(.bl b)|APe=>(Kb ys)|APf=>Uo (m:=ε)|APg=>show ε by decide|APh=>į V|APi=>į AT|APj=>Nd aI|APk=>Nd AfM|Aup=>ET ε ALZ|AV'=>FB (qD (ε h))|AgB=>by simp only [ε];exact ζ|AWA=>P (oP ε)|APl=>(D9 - 1)/2|AWB=>.bool Μ|AgC=>Ad_ ε ?_|APm=>by have:=ε;show AA|AWD=>BN<=i|APn=>⟨o,e,ε⟩|APo=>.dik _ _|AWF=>AG_ lY (ε Β) ζ η|AWG=>fun z E cx=>Nk ε ζ|APp=>A i j|APq=>(Lk w)|AWH=>Fu ε .cr|APr=>AeX 3|AWI=>My (ε _ _) (ζ η)|AWJ=>W.plainGet K ε ζ=Μ|AgD=>(FH .BO)|APs=>wC xs|AgE=>ķ LA|APt=>cY (qG ε ζ)|APu=>ATy o|APv=>AMu≠ []|APw=>NA hr.units|AgF=>AT0 Fc|AWK=>pj rest.toArray|APx=>AHG AK4|AWL=>Q (II ε)|AWM=>Id<=1000|APy=>(.pu d)|AWN=>(.ptr a::ds)|APz=>ŀ QT ε|AWO=>(.ow xs)|AP0=>(r::rs)|AP1=>qE ε ζ EZ|Auq=>(n,Asa)|AgG=>(TZ Ei)|AP2=>ABn (ABd ε ζ)|AWP=>ń ε Hc|AP3=>AHS H|AWR=>yA ε [a]|AP4=>by show fA hb|Aur=>(ME YR p2)|AP5=>Inv LP Ξ σ1 ε ζ|AP6=>cM qs|AWS=>e∈S|AgH=>cY (ε eO (aC (ζ c) (G1 η θ)))|AP7=>AB' (Ts ε)|Aus=>ACH MY|AP8=>aj ε (aj ζ (G1 η θ))|AWT=>tn i A8|AP9=>AHW vs|AP_=>AHX 2|Aut=>Aea HE ε (P4 ζ)|AP'=>(Ŏ qo)|AWU=>Ate MW|AQA=>v::vs|AQB=>AMi h|Auu=>(b::GY)|AWV=>(AMy::us)|AWW=>(AuH::us)|AQC=>kZ (Cf ε _)|AgI=>[.AAt ε ζ HP]|AQD=>AMl ε .ellipsis|AQE=>fun s _=>ε|AQF=>ŕ Β|AWY=>fs c p|AgJ=>(WE fp AMz)|AQG=>Ś ε A5|AQH=>[ia,AGU]|AWa=>ACW ε (qt ζ t)|AQI=>by show HA (b=it) ABr|AWb=>by show HA (b=EJ) ABr|AQJ=>Aeq B|AQK=>Č= []|AQL=>AQ ->UA|AQM=>(n - e)|AWc=>AHo aQ ε|Bh'=>HH (ε i nE)|AWd=>AUP ε FF ζ|AQN=>qE ε Q AMq|AQO=>Up lt p ε|AQP=>iU 2 (Aew ε ζ)|AQQ=>QI X F0 H0 tg ε ζ|AQR=>AHy (eN ε)|AQS=>r∈Ο|AgK=>fun m hm=>ε|AgL=>MY l=Ε ε|AWe=>Cf q hq|AQT=>Aey (kY Ψ)|AgM=>(hn a ha).2|AWf=>AHn _ (ε>>=_)|AQU=>AUb Ň ε|AWg=>AUh (ε>>=_)|AgN=>o.cls= SB ε|AgO=>j::EW|Auv=>fun o=>(Bh6 ε)|AgP=>by simp [ε,AsI,ζ]|Auw=>by rw[ε] at e;show DM|AQV=>C7 mC ns|AQW=>i7 Asl ε Β|AWh=>(.AS x t)|AQX=>k a zY _ e3|AgQ=>Gf ε=Ε (ks,xs)|Aux=>At0 Atp|AgR=>(AUY u)|AQY=>∀(q:AM),_|AQZ=>⟨t,Β⟩|AWi=>AfI Lc|AQa=>by show L2 (GS (AG=Μ) ε) zK|AgS=>wd l b|AQb=>fun vs H Q=>(AHz ε)|AQc=>(AfN dx)|AQd=>AH1 ε fst i|BiA=>ASK n==AUT|AQe=>To fV o4 k f fd ps (ε K sp)|AQf=>(.AS b u)|AWj=>∀(Ξ:dN) (s:AF) (σ:St) (H:Hp) (ε:ζ),AW ->η ->AHF θ ι|AQg=>(GS D7 r).YV|AQh=>by obtain⟨sl,e1⟩:=ε|AQi=>by show AuD hl|AQj=>[VT,ia]|AQk=>z7 (z7 ε)|Auy=>AGz uU ε ζ [nv] (η c)|AQl=>DH ε 1 0|AQm=>ε K c (Ar Q) (aF ζ ds) Th|AWk=>Z3 Id k ε|AWl=>.pu (uh bs)|AQn=>by show SG (ε rs hns)|Auz=>ATw (AeV HR es)|AgT=>(.AN i t)|AQo=>by show x9 AMW rx|Au0=>fun _ _ _ _ _ st h=>ε|AQp=>mF Ss fs
|AQq=>by have h1:=Fg ε b.den|AgU=>AuI op|AQr=>mY fs xs ε =Ε ζ|Au1=>ε (ú j ZN)|AWm=>AuK ε h1|AQs=>by intro Ξ s σ H xs us Q I r h|AgV=>fun i h h' st k=>ε|BiB=>Bh1 ε env.scope.kind|AQt=>∃W:AeU ε,(∃m,ζ)/\η|AQu=>mq ks k=Μ|AQv=>ST (al ε) d hd|AQw=>AuQ hb|AQx=>by obtain⟨a,vs,bs,e1,Β,e3,e4,h⟩:=h|AQy=>by simp [fW] at h|AQz=>∀(i:Ω),_|AgW=>(h0::hs)|AWn=>fun b u eb=>ε|AQ0=>ES N ε st|AQ1=>Z3 n i ε|AQ2=>(aY (cC AHq))|AgX=>R (.ok (.ret ε)) ζ|AQ3=>ja x c|AQ4=>vf Ο ws m|AQ5=>Jn h (PassesOwnAt.leavingOf h)|AgY=>WO (X.pn++Ξ) (DA≠ε)|AQ6=>qd S x h|AWo=>(brs AUH bd)|AWp=>(wW (cC Aeo))|AWq=>(ε CI w).is|AQ7=>fun i h st b hb=>ε|Au2=>∀z,jl LP (ALE ε) ζ|AQ8=>(Arw ov m pl)|AgZ=>∀ε B5 F' H' ζ,BB AH0 F_ η (ax θ) ι|AQ9=>by rintro Ξ s σ H Q I ⟨F,Γ,P,R,q,k⟩|AWr=>(a::r).iF|Au3=>(wP V.int)|BiC=>(xr.back Adi)|AQ_=>(Bn3 ATa)|Aga=>ε ACS Fs ζ η|AQ'=>∀(K:AD),_|Agb=>AUi/\ AfO/\ε|ARA=>ü (EV ε)|ARB=>[VQ,LL]|AWs=>oa Ρ AQ|ARD=>hA _ _ h1|ARF=>Bm6 (ε ?_ ζ η)|ARG=>Jn h' h'.elim|Au4=>⟨F,Γ,_,S,q,ε⟩|AWt=>by rw[ε] at h;show HI|AWu=>by rw[ε] at z;show Lw|Au5=>(a::b::GY)|Au6=>AtV ε [(AG,ζ)]|Agc=>aN K hZ YO|Agd=>yH b _ AuA ε|ARH=>∀(t b:Ω),_|ARI=>Dn lt p ε|ARJ=>(dv t b).ABQ|ARK=>by show œ (Cn hb) hb|ARL=>fun _ _ _ H _ I h=>ε|ARN=>cP X.N sc Au FU Acz N'|ARO=>fun⟨ε,h1,h2⟩=>ζ|ARP=>P (d i j)|ARQ=>um ps ws ε|Age=>fun v z=>(AuM d)|Agf=>(iU 2 (bG d4 (bG (JY 1) iT)))|BiD=>(Ath wsh (IM (Ath xe)))|ARR=>IZ ir X.A ε Q E s|ARS=>iC t1 A8 l1 xs|Agg=>by rw[ε] at hp⊢;exact hp|Agh=>(AfJ Ι (H' b))|ART=>Bhn h1 h3|BiE=>Φ (FK>1)|ARU=>KT H AI xs|Agi=>∀{n p:Δ}(AuC),_|AWv=>I1.fpOk (zO _) AuE|BiF=>AuP HM ys|ARV=>Ň/\o∈s|Agj=>∃DT H',AuR /\ε|ARW=>G2 ->DZ (DZ ε G2) XW|ARX=>HZ hs.2 b (zL (zN Ae0 ε))|Au7=>yJ Ο r g ε ws u|ARZ=>Un fs ex H ε h ζ|BiG=>ε z TI TO i1 i2 l1 l2|ARa=>by obtain⟨Ss,F,p⟩:=ε|ARb=>by simp only [û,Bnt,or_false] at ε|Agk=>Tv X H0 pl ε ζ|Agl=>bD (wD ACJ ε)|Agm=>(lG ns ε).OL|Agn=>.dict es ep|BiH=>AGf _ ε (Obj.isFreed_of_fields ζ)|ARc=>ε fun _ _ _ _ _ _ _ q=>ζ q|Au8=>nU X Ξ ε b|Au9=>fun xs H Q=>ε|ARd=>(AAy H a u)|ARe=>Ļ (AGR e ε Arb B9)|Au_=>SS (by rw[bU (gJ (ε b u e) ζ)];show ye η)|ARf=>DH (b=a) ε (AuG ζ η)|ARg=>iC t2 A8 l2 ys|ARh=>by obtain⟨v,_,Β,⟨l,us,Β,hq,rs⟩,Β⟩:=r1|Ago=>(.ALG elts x1 pt)|ARi=>(.ALG qB k2 O1)|Agp=>DH AuL (F b) (AuO ε)|BiI=>∃N:SU,(∀DT H',N DT H' ->ε)/\ζ|ARj=>by show T_ oi h1 h2 h3 hit|AWw=>∀(P:A0) (w:Ap) (K:AD),_|Agq=>fun Ξ s σ H ε I q=>Ae8 ζ I Bh2|ARk=>fun _ _ _ _ ε ζ=>η|ARl=>by (show AfS)<;>simp [fW] at h<;>simp [h]|Au'=>(j7 sc CL B9).ε|Agr=>qD (fu QU ε o)|AvA=>[SB Blm,SB "Exception",SB Aqh,SB Aqi]|AvB=>WG U_ #[.AN lo t,.AN hi u,.AN 1 v]|AWx=>∀{X:Cx}{F0 H0:Hp},_|ARm=>∀{Ο:GU}{ws:CO}{m:Q4},_|AvC=>⟨ε,I.os,Ď,I.base,nN,nX,AAn,AGM,ζ,KS,AGN⟩|AvD=>ds= [qD a,qD b]/\SD a/\SD b/\ε|ARn=>∀(X:Cx) (vs:AT) (H:Hp) (Q:VK),_|ARo=>[.ALG [.vj x px,.vj y py] kt pt]|ARp=>Tj hit hg O Β ?_|AWy=>Gs c Ο r g ps bd ε|AvE=>⟨_,_,_,Β,DB,DB,DB,ε⟩|AvF=>fun Γ4 F4 H4 σ4 R4 s4 q=>ε|Ags=>ε z E cx Ξ s σ H (Ĺ H1 ζ)|ARq=>fun A DE s H vs Q ε ζ η=> ?_|ARr=>∀(cdv:AH) (A:BQ) (DE:LT) (s:AF) (H:Hp) (E:XK),Bh5 Ĳ ->ε
|ARs=>bV (SM (E:=fun C dx H' =>E C dx H') I Β Β Β (hx.imp (Oy C dx H' z))) fun _ s'' z=>z|ARt=>by show AE ry ry ry ry ry ry ry ry ry ry ry ry ry ry|AWz=>by show Lv d' d' d' d' d' d' d' d' d' d' d' d' d' d'|AW0=>by (show AE hf hf hf hf hf hf hf hf hf hf hf hf hf hf;done)|AW1=>by (show AE r' r' r' r' r' r' r' r' r' r' r' r' r' r';done)|AW2=>ALN ε|AW3=>ģ.1|Agt=>if ε then Ι else ζ|AvG=>by rw[GM,ε]|AW4=>LM<=ε|AW5=>by rw[ε,GN] at ζ|AW6=>by rw[C6,ε,ζ,η]|AW7=>Bmx ε ζ|Agu=>ArU ε|AW8=>BDq ε ζ η|AW9=>by obtain⟨B5,ε,ζ,η,_,θ,_,ι⟩:=ν;exact ξ|AW_=>(by show AHZ)|AvH=>[NO]|AW'=>[AdG]|AXA=>CL+1|AXB=>(cV 9)|Agv=>ε (cv ζ)|AXC=>(qv 9)|AXD=>(AtD Β)|AXF=>.AN a|AXG=>.AN b|AXH=>.AN (f ε)|Agw=>FG (pd ε)|Agx=>BS i|Agy=>BS z|Agz=>LN i|AXI=>BEs i ε|AXJ=>MD Fc|AXK=>MD AK|AXL=>MD AM|Ag0=>HT G2|AXM=>D' MZ|AXN=>(Dx e)|Ag1=>IL ε (AMc ζ η)|AXO=>ASc ε B9|AXP=>Ε w|Ag2=>Ε u|AXQ=>(NX hc)|AXR=>.By ds|AXS=>.By ys|AXT=>(CC hx)|AXU=>(CC hk)|Ag3=>(ho z)|AXV=>show ε by show AHZ|AXW=>.EI _|AXX=>cF EQ ε JS|AXY=>(xA va)|AXZ=>(xA AAf)|AXa=>fun z E cx=>ε ζ|AvI=>(match d with | ε=>ζ | _=> η)|AXb=>j<BN|AXc=>.ALH ε ζ AB|AXd=>Cc O.key.length_eq|Ag4=>(NY S)|AvJ=>(NY BFm)|AXe=>CY fY|AXf=>C3 AUq|AXg=>F6 ACm|AXh=>(iq PF)|AXi=>x∈g|AXj=>a::dx::bs|Ag5=>Mn (S b) ε|AXk=>Į isW|AXl=>Į Za|Ag6=>.AS h|AXm=>AAi DictEntry|Ag7=>IM N9|Ag8=>b≠CL|AXn=>P6 (AH8 ε)|AvK=>Nd ya|AXo=>du ε WV|AXp=>ET ε AKm|AXq=>(r - 1)|BiJ=>(KM - 1)|AXr=>by intro Ξ s σ H Q I ε|AXs=>Lu ε Β ζ|AvL=>k<KM|AXt=>by rw[C6]|AXu=>oy 64|AXv=>E7 ?_|Ag9=>gq Ο|AXw=>rY Ο|Ag_=>SD g|AvM=>SD (fJ (ε k))|AXx=>AFz Η|AXy=>Aq Η|AXz=>(Nn ?_)|AX0=>WB ε ?_|AX1=>Of (z8 _ e9)|AX2=>AGY<n_|AX3=>On AHp ε|AX4=>ε/ BS (ER ζ)|AX5=>⟨o,h1,ε⟩|AX6=>Op dq|Ag'=>vc q|AhA=>TN q|AX7=>M3 ε EQ ζ|AhB=>b∉ch|AX8=>cB bT C5 ε|AX9=>(aY C5)|AvN=>xI F' H|AX_=>eA Hc|AX'=>(pd YU)|AYA=>AHC ASL|AhC=>(.frz o ō)|AYC=>(OM .BO)|AYD=>(pe NM)|AvO=>(Ade vs)|AvP=>ķ Acl|AvQ=>Q B8 H'|AYE=>(ABg An)|AYF=>∀h∈hs,ε|AYG=>∀h∈AIC,ε|AYH=>(AeO _ _)|AYI=>aS em|AYJ=>aB l fun a=>ε|AYK=>(pH BH)|BiK=>(ME U_ p)|AhD=>c7 k A|AYL=>IZ JU A ε ζ AUk η|AYM=>Q (II ε) H|AYO=>Q (FG ε)|AYP=>AGY+1<n_|AhE=>Fs<=1000|AYQ=>ps[EL]|AhF=>AMQ h_|AYR=>j9 rs g|AYS=>i9 ε An|AYT=>i<=BN|AYU=>Aru<2^ε|AhG=>p_ P8|AYV=>AMV α|AvR=>AGo=n|AvS=>o0∈ĳ|AYW=>by exact AdQ _|AYX=>(ABl 2)|AYY=>(ABm Aez)|AYZ=>(ABm (iq ACd))|AYa=>x6 (Cp hu) ε ζ|AhH=>(DA).map|AYb=>(qa ACa)|AYc=>Sem AU|AhI=>qi (A3 ε)|AYd=>qi (eP ε ζ η)|AYe=>∀(a b:Κ),_|AYf=>js At3|AYg=>AAy H a ε|AhJ=>Aef 2|AhK=>D' BN/\ε|AYh=>D' NN/\ε|AYi=>dB j<=9000|AYj=>AHX 1|AhL=>AT_ oC|AYk=>Ļ (swapsWithSole ε ζ Arb B9)|AYl=>by have:=R_ ε|AYm=>AMi e|AYn=>cB d8 o_ ε|AYo=>(ő VU)|AhM=>AHb s.Nodup|AvT=>L' e=Ε ε|AYp=>⟨ε,Tk Γ ζ,η,?_,?_⟩|AYq=>bB B (v w)|AYr=>AUJ AL|AYs=>AUJ G2|AYt=>ACX 0|AhN=>wG Ο ws|AvU=>by unfold ε;rw[ζ];grind|AYu=>Atk map|AYv=>Aeq (!(Φ (ε<ζ)))|AhO=>Ε (Ε ε)|AhP=>by have hl:=AdD|AYw=>AUO h6|AhQ=>AHs a|AhR=>(AHt AUz)|AYx=>(ACl 2)|AYy=>(AHv Db)|AYz=>AMw ε AIA|AY0=>∀(t:cW)(E:XW),_|AY1=>ACo t|AY2=>FH KB|AY3=>(x,c)∈ε|AY4=>by show DF ε;exact Τ|AY5=>.dik (ε .BO) (ζ η)|AvV=>Cf q hq0|AY6=>ε fun h=>qD (ζ h)
|AY7=>AH9 vs|AY8=>by unfold ε;rw[ζ,η];rfl
|AhS=>by
 have:ε:=ζ
 rw[Τ];grind
|AY9=>Ae1 den|AY_=>(match ε,ζ with | η,θ=>ι | _,_=>D7)|AY'=>Ae5 A8|AhT=>ε=CL+1|AZA=>ps[EL].1|AZB=>∀q∈ε,SD q|AZC=>AM6 h2|AvW=>ε (t' :=LV) (ζ:= η)|AZD=>AM8 s|AZE=>aB Ο (am ε)|AZF=>(AM9 AIB)|AhU=>fs s p|AZG=>Atw (x o)|AZH=>ANC AK7|AZI=>by show eQ ε Β ζ h|AZJ=>dS i _ e|AZK=>dS i _ e0|AZL=>by show Fh AO rv p hz ε|AZM=>BhC (.ALH ε ζ HP)|AZN=>∀i∈is,ε|AZO=>hN b (AZ ε)|AZP=>(CU - l.1)|AZQ=>(ABV L4 3)|AZR=>Na o e|AZS=>CB BN - 1|AZT=>AUt ε (qx AJ ζ)|AvX=>(AMc #[] 0)|AhV=>[MA,ē,AAo]|AZV=>AUv hq|AZW=>Ib K F Nj ε ζ|AZX=>nD Fr X.w H' YY|AZY=>b.1<=x|AZZ=>NN - DI|AvY=>NJ ε (wx ζ)|AZa=>gY qs ε=Μ|AZb=>(ZZ a o)|AZc=>AfW (AUr ε)|AZd=>.pu (gl m)|AZe=>VC (ALs i ε)|AZf=>pM OM KP|AZg=>pb v Q ε|AhW=>(SO y0 ACk)|AZh=>(AAy H' a At9)|AZi=>DU ε hu ζ η (NX θ)|AZj=>qI a1 b2|AZk=>Ŝ PE e ε|AhX=>Afd AuW|AZl=>∀ε,N4 ζ ->M1 η (ZZ θ ι)|AZm=>z8 _ (z8 _ ε)|AZn=>A3 (Aa Β (AuB ε ζ))|AhY=>∃a ε,x= B'/\ζ/\η|AZo=>(AGM x c e)|AZp=>W i m σ H|AhZ=>(j8 val i)|AZq=>gB.d c S b|AZr=>(zL (zJ e))|AvZ=>(aM K F ds vs)|Aha=>by rw[z,ε] at q;show AE q q q q q q q q q q q q q q|Ahb=>Yf 0|Ahc=>(ğ OS)|AZs=>.any C|Ahd=>by (with_reducible refine wpAny_isSubtype_exc ε ?_;rw[ζ])|AZt=>.dic _ ts|AZu=>(x::xs)|Ahe=>∀r∈Ο,ε|Ahf=>PE X o td|Ava=>CD (Q3 ε) e|Ahg=>yW Ο w ε|AZv=>FL (eK hf)|Ahh=>(fun b z=>(Ae_ z))|AZw=>xI F' H'|Ahi=>E (Bn e) ε|AZx=>WS q n ε|AZy=>e_ k.nx R2 ε|Ahj=>v8 AJ H ε ys|Avb=>∀i j,i<n ->ε|AZz=>AuX ε IG|Avc=>AuZ Ad0|AZ0=>ZT HN ε E|Avd=>AM7 bU n2|AZ1=>Aud ε D_|AZ2=>AsN vs ns|AZ3=>Auf (P ε Γ)|AZ4=>∀i,ε<=i ->i<n ->ζ|AZ5=>wj N d q|Ave=>Py xs ys h.2|AZ6=>by show AH2 hv rv (wQ rs ε)|AZ7=>(.Ac8 a [op] [b] AB)|Avf=>AfF fV (AeS fD) k f fd ps ε|AZ8=>∀f∈fs,ε|AZ9=>CU - l.1|BiL=>by simp only [ε,Y3,ζ] at h|AZ_=>Arx (At_ ε)|AZ'=>[topFrame z]|AaA=>Auk ε (·.2)=ζ|AaB=>DZ AT Cb|AaC=>BC_ i t|AaD=>dG ε hs=Μ|Ahk=>(JP q q)|AaE=>D4 ε (fun v z=>ABh)|Ahl=>(ARz hr).1|AaF=>.AN i _|Ahm=>.pu (lH S)|AaG=>NC uG A5 ε|AaH=>by have:=ε;rw[ζ] at Τ|Avg=>(.tr AHO t)|AaI=>T' X.N y|Ahn=>qS ⟨AuV ε,ζ⟩|AaJ=>by obtain⟨AO,rv,p,hz⟩:=ε hq|BiM=>TM BN 0 lo|Avh=>Bh' ATV|AaK=>dI.mp ((e ε).mp ζ)|AaL=>by obtain⟨z,hd,vs,rel,dd⟩:=x4 J6|AaM=>I.write (x:=ε) (e:=ζ)|Avi=>kZ fun h _=>ε|AaN=>fun i j hij hj=>ε|Aho=>V ->AT ->Atu|AaO=>nZ Γ σ ε a|AaP=>Low rs cs a ε|AaQ=>by show GG v us r1 r2 r|AaR=>AuU ATB (ε ζ hs) η|AaS=>ε P w DE H s E e s'|BiN=>AfA AGe a (Ff #[]) ε|AaT=>AU4 a ε a ea|AaU=>Turn P w K tg ε [it] it (Ty h ζ)|Ahp=>by show AuT ε z e' z|AaV=>BiG ZipApart|BiO=>BiH ε (Adm ζ _)|AaW=>fP (i:=ε) nd Β IJ (A3 ζ)|Ahq=>cand S n bs k Aui|BiP=>B9::AGJ|AaX=>ε (H' :=upd H1 a ζ)|AaY=>fun f hf=>ε|AaZ=>HQ<=63|Aaa=>∀m∈ms,ε|Avj=>by simp only [VU]<;>(show w9)|BiQ=>(Ě sF)|Aab=>ε AGo FU ζ|Aac=>X.env.frame=Ε VA|Aad=>∀(w:Ap),_|Aae=>[AHc b 0,AHc (b+1) 0]|Ahr=>Adn ε ζ (Yf η)|Aaf=>Cf j hj|Aag=>by obtain⟨_,_,_,_,Β,_⟩:=h;rfl|Aah=>by obtain⟨_,_,_,_,_,_,Β,_⟩:=h;rfl|Aai=>by obtain⟨_,_,_,_,_,Β,_⟩:=h;rfl|Aaj=>∀f∈fs,ε|Ahs=>(ú i ZN)|Aak=>Jn y y|Avk=>len _ _ _ hs|Aht=>Mn eC (ņ/\ε)|Aal=>Nl g f ε ζ|Avl=>(nJ AJ sp)|Aam=>by show AM5 AUW hi;show AU5;have ε:ζ:=η|Ahu=>entryFor table ε =Ε ζ
|Avm=>pM Qr (HH ε)|Aan=>WI (xH Ο x Ct)|Ahv=>AV ε EZ Y_|BiR=>qa (RR (ε i HM):Key)|Ahw=>s3.seq (s2.seq hq)|Ahx=>AT5 ε (I (EL)) (I (EL)) ζ|Aao=>(mj hZ YO A5)|Aap=>(zf bL aL BG)|Aaq=>eZ K F' H' ε vs ζ|BiS=>(Kb [AH4,Aeo])|Avn=>[eI ý,eI f.map,.ow ε,ζ]|Avo=>BfN S9 IE|Ahy=>Rs ε AUj Ι|BiT=>(TZ fun ε=>ζ).vt|Ahz=>bU (show SW from ε)|Aar=>by by_cases e:DA=k|Ah0=>BhC (ABa ε f HP)|Aas=>by obtain⟨hq,hx⟩:=hg|Aat=>G0 uD L9 tb|Ah1=>fun σ H R=>ta σ H (ı vs ε)|Aau=>(! t.plain&&BiE)|Aav=>N0 l CO (AUK ε) ζ|Avp=>.tr as (.dic ks ε)|Aaw=>AfR setState Bn1 hg|Aax=>∀{P:A0}{w:Ap}{K:AD}{tg:AK},_|Aay=>G0 QG tg g|Aaz=>swappedStores ε ζ B9=Go η|Ah2=>(Ma ws v ε).map|Avq=>Aeu ds ε C C|Aa0=>fun h' eb=>(Hb (Bhf (eb b o hb e)))|Aa1=>pF K F H H0 s o|Aa2=>(fun s o=>y s o - x o)|Aa3=>by show x9 (u=U' b) ry|Aa4=>(eZ K F H ts)|Aa5=>by show kC w hw hq|BiU=>TM BN BN hi|Aa6=>mG k ε S h|Ah3=>sp vs H Q E|Aa7=>(U' C::bm).ĕ|Aa8=>by intro _ h;show HI|Aa9=>R (ε K a) H1|Aa_=>AMJ d1 v1 (AM2 h1 (AU2 d2 v2 ε))|Aa'=>Wa ε (AG9 Wb) AfZ|AbA=>∀(w:Ap)(os:AAb),_|AbB=>by show(AfT<=ε/\_)/\yu 0 (AR7 ζ) _ _ _ _ _|Avr=>W.methodCall_KW (pl:=pl)|AbC=>Ze G G'|Ah4=>(Sum Ω Κ)|Avs=>ik B8 ε is|AbD=>⟨W.mg_of X G (Aex ε),ζ⟩|AbE=>Ē (rA sF ε)|Ah5=>[cf,LA,ci]|AbF=>by obtain⟨a,_,Β,_⟩:=r;rfl|AbG=>fun vs H Q E=>ε|Avt=>(seqObj YE oC 0)|AbH=>nsIn K my x=Ε (Dx Lc)|Ah6=>BDz ε ζ B9 (pe η)=V_ θ|AbI=>Aeh QG tg g|AbJ=>Aeh Nm ifs tc|Avu=>i8 "Few" þ/\nG K þ|AbK=>(DH (i<0) (-i) i)|Ah7=>Nl kv.1 k (kv.1,ε) kv|BiV=>∀o u,ASN b≠Ε (.frz o u)|AbL=>W.typeIn K Lc=Ε (NY "function")|AbM=>obs K=good w|AbN=>E C dx H'|Avv=>E_ (wJ n j)|Ah8=>[ia,AdL,VT,ē]|AbO=>V ->SK ->SK ->Atu|BiW=>backTo ε (ASY E9 BV)|Ah9=>vh (Ħ k af)|AbP=>(ATN A8 I _).ε|AbQ=>[BDy,Aro,Ary,OO]|AbR=>.EI [.AS w,ACP,.AN (bB bs AM0)]|BiX=>ATQ ε TI (Bn i1) (Bn i2)|Avw=>Z3 ε j (lH (gk S n oS ζ))|AbS=>(∃x∈ε,C x) ->AfX ζ|AbT=>by simp only [û,Bnt,or_false,not_or]|AbU=>by obtain⟨⟨old,q⟩,st⟩:=q|BiY=>AGz yh ε DE s H|AbV=>Ctx BiD F0 H (Da Ex)|AbW=>by obtain⟨F1,H1,I1,L,n0⟩:=lent I R|AbX=>ES [ALK,VO] [ALK,VO] ε|BiZ=>(AUl (Afa /\∃H2,(Auc)/\ (Aul)/\Q v H2))|AbY=>∀ds Q E,sp ds Q E ->Bh_|AbZ=>by intro i x y h1 h2|Aba=>by obtain⟨a0,u0,Β,h0⟩:=pA h|Abb=>(ε/\AfD)\/ (ζ/\BiI (Aua DT H') (∀x H',η i H x H' ->θ))|Ah_=>jp l CO P T0 (AUK ε) (P (ζ η)) (AU3 E3)|Abd=>fun i H2 F2 s2 s3 _=>ε|Abe=>WA (fun c AC F1 H1 R1 s1 q=>ε)|Abf=>by obtain⟨e,n,ne,nf,d⟩:=AGO p hp|Bia=>∀c o,c≠z ->BB (c≠TO) (c≠i1) (c≠i2) (AT8 c) ε|Bib=>gB.look (c:=c) (S:=S) (b:=ε)|Avx=>ė cdv A DE s H E hr F0|Abg=>hE x C dx F' H' z1 R'.gr BiC|Abh=>(AGZ (AGb ε (aU ζ) CL f cdv)).units+21<n_|Bic=>∀{z TI TO i1 i2 l1 l2:Ζ},_|Abi=>by rintro Ξ s σ H xs us Q I r ⟨ε,ns,e0,hq,ζ,k⟩|Abj=>by show AE t t t t t t t t t t t t t t|Abk=>by show AE h1 h1 h1 h1 h1 h1 h1 h1 h1 h1 h1 h1 h1 h1|Abl=>(by (first|subst e|exact aad e|exact aae e|exact aag e|exact aaf e|exact aai e|exact aah e|exact aaj e|show AeT|show NW e|show NU e|show Mc e|show NV e|cases (e)))|Abm=>by show d5 e' e' e' e' e' e' e' e' e' e' e' e' e' e'|Abn=>by show d5 hS hS hS hS hS hS hS hS hS hS hS hS hS hS
|Ah'=>by rw[ε] at ha;show AE ha ha ha ha ha ha ha ha ha ha ha ha ha ha|AiA=>ε (· < ·)|AiB=>EJ+ε|AiC=>if ε then ζ else η++ [θ]|AiD=>by rw[FA,ε,ζ]|AiE=>ε<=D9|Avy=>by simp only [vn] at ε|Avz=>by simp only [ε,AGn]|AiF=>(by rcases ε with (ζ | ⟨o,η⟩) | θ)|AiG=>by unfold ε at ih⊢|AiH=>if h:ε then ζ else η|AiI=>by rintro _ ⟨ε,Β⟩|AiJ=>by rintro _ ⟨ε,ζ,η,Β⟩|AiK=>EV σ|AiL=>EV AtF|AiM=>A.frames=Ε ε|AiN=>by ac_rfl|AiO=>[(0,60)]|AiP=>(Bn l)|AiQ=>(Bn l1)|Av0=>(A3 zu1)|AiR=>CB a|AiS=>CB b|AiT=>CB ABS|AiU=>A4 ε (ACV ζ)|AiV=>.B4 _|AiW=>.B4 c|AiX=>.B4 A1|AiY=>(ABK+1)|AiZ=>.pu (Kb ε)|Aia=>(FG ys)|Aib=>Φ rS|Aic=>LN k|Aid=>As1 i ε|Aie=>st.2.1|Aif=>MD AU|Aig=>HT Ζ|Aih=>HT (oq D)|Av1=>Ff Ι|Aii=>i<MB|Aij=>i<NN|Av2=>i<D9|Aik=>ARv _ ε|Ail=>CM hv|Aim=>D' n|Ain=>Ch hb|Aio=>CF ->AM|Aip=>Ε []|Aiq=>BC zn7|Air=>.By AUV|Ais=>R1.gr.h _ _ ε|Ait=>(CC q)|Aiu=>Bnv _ _|Aiv=>AeO _ _|Aiw=>zt3 _ _|Aix=>OZ Ă|Aiy=>OZ "max"|Bid=>OZ AK0|Aiz=>MG BiJ|Ai0=>(hc z)|Av3=>KU ArM|Ai1=>by simp;show AA|Ai2=>ER EL|Ai3=>ER AVN|Ai4=>(xA Aqx)|Ai5=>(xA "Few")|Av4=>ε i nE|Ai6=>z6 (BFt ε)|Ai7=>st.2.2|Ai8=>Mm SU|Ai9=>(Ll E5)|Bie=>(List.of_mem_zip ε).1|Av5=>(NY Aqj)|Av6=>(NY IC)|Ai_=>C3 ?_|Ai'=>C3 ABG|AjA=>SC H1|Bif=>MH setNext|AjB=>(.AS Oq)|AjC=>Mn NB ε|AjD=>.AS z|AjE=>.AS YN|AjF=>Lm 9|AjG=>Bmw ?_|AjH=>i3 (Aex ε)|Av7=>FL (.D6 hb)|AjI=>(.bl Μ)|AjJ=>(FM YN)|AjK=>⟨f,fd,ε,hm,Co,BY (by show Sc;exact Β)⟩|AjL=>by show D1 ε ζ ALx η|AjM=>Nd o|AjN=>du ε (y_ ζ)|AjO=>.EI ys|AjP=>Ac7 i|AjQ=>FB h|AjR=>Ara=Ι|AjS=>A.in1.handled=Ι|AjT=>by unfold ε;show Š|Av8=>(Oj Ο)|AjU=>hn b hb|AjV=>hN b hb|AjW=>ε (by exact_mod_cast z)|AjX=>HG Af2|Av9=>0<KM|AjY=>HQ<=n|AjZ=>OP - 1|Big=>ASt hb|Aja=>Op Flow|Ajb=>b∉iN|Ajc=>(aY An)|Ajd=>AMK AR|Aje=>(pS hv)|Ajf=>(pS ho)|Ajg=>ABf hj|Ajh=>ML _|Aji=>α ->β|Bih=>ķ AR9|Bii=>ķ AGD|Av_=>Q DT H'|Ajj=>SH (z7 h)|Ajk=>(ABg Db)|Ajl=>aE ε Ψ|Ajm=>Cf b q|Ajn=>by obtain⟨ε,H1,I1,ζ,q1⟩:=D8|Av'=>ATz AAs ε|AwA=>pj TH|Ajo=>(pH BG)|Ajp=>by rw[e] at h;exact h|Ajq=>(BiF .AS)
|Ajr=>by
 show BE ε ζ
 replace η:θ:=ι;refine ν
|AwB=>is1.toArray[j]|AwC=>is2.toArray[j]|Ajs=>(E3 f)|Ajt=>e _ _ h1|Aju=>(ABj BH)|Ajv=>(ABj E5)|Ajw=>TN Β|Ajx=>(AMP sF)|AwD=>AMQ YO|Ajy=>.obj C fs ds|Ajz=>AMS ε A5|Aj0=>bU hb2|Aj1=>BnX l ε|Aj2=>(FH t)|Aj3=>(.pu ANQ)|Aj4=>x4 Vj|Aj5=>Ł X.base.get? ε|Aj6=>(ABl 1)|Aj7=>P [g a]|Aj8=>(AHm++ARw j).map|Aj9=>ε (bV (ABY ζ η I h) θ)|Aj_=>Cls K C|Aj'=>(C_++c::Afo)|AkA=>h i hi|AwE=>hix i hi|AkB=>x_ Eg|AwF=>(ŉ "barred")|AkC=>ABp s2|AkD=>yB Mb ε|Bij=>yB AL0 ε|AkE=>ABs (ε _ _ e2)|AkF=>ZU Ack C|AkG=>ABw HE ε|AkH=>AB_ ε (Au9 ζ)|AwG=>(ATN ..)|AkI=>(ε :Κ)∉fs|AkJ=>J.go i H|AkK=>J.stop i H|AkL=>AMd ALO ε|AkM=>pp Iy h.2|AwH=>ALf (CC hi)|AkN=>AAv (CC hi)|AkO=>by intro X hP hw hK hc i Ξ s σ H E I hf q hg|AkP=>rV l|AkQ=>(BnN hu)|AkR=>m_ LE ε ζ|AkS=>h _ AH6|AkT=>yv EJ|AkU=>yz ε AKy|AkV=>∀(hs:AMj [a] a:=by rfl),_|AkW=>Ati V|AkX=>k' ::ks|AwI=>fun h' hs' =>ε|AwJ=>V.ref (pv)|AkY=>E4 σ Ŕ|AwK=>(ME y np)|AwL=>(ME y Ah)|AwM=>(hx' b u e)|AkZ=>(WE fp At3)|AwN=>(f j).num|Aka=>IL F' u|Akb=>(2^105*27720)|Akc=>My (Builtin.Tuple.tupleExact _)|Akd=>io ms rs j|Ake=>fun k hk=>ε|Akf=>AUO h5|Akg=>š aB|Akh=>AHu (r= BA/\ε)|Aki=>gW QQ (ε i)|Akj=>(AHx LA)|Akk=>(ŧ aK)|Akl=>Rd H a P8|Akm=>(x,Asc)∈ε|AwO=>C_++EW|AwP=>.LW (.ret ε)|Akn=>AUS ε (NY ζ)|Ako=>(AH5 p1)|Akp=>by show Aum ε;rfl|AwQ=>by rw[GN,ε,ζ];rfl|Akq=>FH fun w=> ε|Akr=>ACs (kH)|Aks=>by unfold ε;rw[ζ,η];grind|Akt=>Ae1 num|Aku=>(AM3 hb)|Akv=>BEm+21<n_|Akw=>AUc D|Akx=>AUc V|Aky=>Ae5 h|Akz=>nK= ANW|Ak0=>o.cls= HC|Ak1=>BN - 1 - i|AwR=>by rw[<- ε];exact ζ η|Ak2=>by rw[z,ε] at e;show DM|Ak3=>C7 mC xs|Ak4=>Ee (.ALH ε ζ AB) η|AwS=>(ď i re)|Ak5=>Atw 1|Bik=>(.AS EO t)|Ak6=>(AMf And Auu)|Ak7=>(AMf And Au5)|Ak8=>∀xs:Ρ,ε|Ak9=>ANS Η|Ak_=>(ABV Db 3)|Ak'=>aB m f|AwT=>s.heap.IsCell c v|AlA=>PA X es t|AlB=>PA X KW t|Bil=>ANZ MY|AlC=>AfL e0|AlD=>[ic,ē,AAo]|AlE=>Ε (.frz o ō)|AlF=>nD Fr X.w H' h'|AlG=>(AfQ ÿ)|AlH=>Iu vS|AlI=>s'.os=s.os|AlJ=>a∈as|AlK=>fun y hy=>ε|AlL=>1<OP|AlM=>EL<OP|AlN=>Ĩ*b.den|AlO=>VX*b.den|AlP=>ε I1.hok ea|Bim=>(R.unbase g)|Bin=>(Kb (k.map kV))|AwU=>typeLookup ε ζ =Go η|Bio=>HZ hs'.2 b hb e|AlQ=>[(f,v)]|AlR=>ASl (zO _)|AlS=>ASl (ATL _)|Bip=>by show AVI ε ASs|AlT=>fun o e=>ε _ o ζ e|AwV=>(AVM z7)|AlU=>(AVO Af3)|AlV=>(AuJ dx)|AlW=>(Afg s3)|AwW=>cT (LO Fq ε 0)|AlX=>J7 LZ ec|AlY=>(AeV HR ε).all (AHk ζ)|AlZ=>AVQ (.B4 ε)|Biq=>(hr.make C us [])|Ala=>by ·rintro C LH TK fp Ξ s σ H Q I ⟨uQ,uR,q⟩;exact ht C LH TK fp uQ uR AUD jR Ho Ξ s σ H Q I q|Alb=>by ·rintro C LH TK fp Ξ s σ H Q I ⟨uQ,uR,q⟩;exact he C LH TK fp uQ uR AUD jR Ho Ξ s σ H Q I q|Alc=>(cv ε).iF|Bir=>[.vj x HP]|Ald=>[OO,AAq]|Ale=>[AAr,c9]|Bis=>BnI ε (ζ ?_)|Alf=>jw K Su|Alh=>∃v,ε/\Sb|Ali=>BS d≠0|Alj=>Mn Z_ BiV|Alk=>iG f f[i]|Biu=>z6 (iS ?_ ε)|Alm=>Afp hr|Aln=>(n,k)::r|Alo=>by have hl:=jQ rs|Biv=>(M3 bH BG aQ)|Alp=>zt te d ε|Alq=>mX xs=Ε ns|Alr=>AuN W.mroIn ε Aqi|Als=>Afy h4|Alu=>Auj Aue|AwX=>Bh8 (I i BF)|Alv=>Af5 h|Alw=>fun Γ P _=>ε (jh Γ) (fun ζ _=>η) jR|Alx=>l::r::t|Aly=>k∈ks|Alz=>ε+1<D9|AwY=>AK4<1000|Al0=>by simp only [Y',hx]|Al1=>by show Aun AGn ε|AwZ=>⟨AA_,z.pn⟩|Awa=>(NO ::ps)
|Al2=>by
 have:=ε
 show DF ζ;exact η
|Al3=>∀s',ε ->ANJ|Al4=>(v4 ε ζ η).AGX|Al5=>(P6 (A3 zvo))|Al6=>(Aup e)|Awb=>(ts++ [t])|Awc=>M1 l (ANA l ε)|Al7=>by show Nw;have:=ε;show AA|Al8=>cY (bO 1 ε ζ d4 eO η)|Awd=>(e _).mpr|Al9=>A4 (Ş Xj aq ε  ζ Β) IJ|Awe=>Last S n|Al_=>zP (K6 ?_) ε|Al'=>ib Lc (.B4 ε::ζ)|AmA=>(ABm (ANB Aez))|AmB=>eg H' ANL|AmC=>eg L' Aej|AmD=>WU ε kB ACI|AmE=>aw fW (Px xs)|AmF=>mq ks k|Awf=>fun i j hi=>ε|AmG=>Xy (t:=t)|AmH=>ACn (MM Gj ε ζ)|AmI=>(AsL k).lC|AmJ=>.pC _ ts|AmK=>ACu e hx|AmL=>by show AIV Β rs|AmM=>(qD (v w))|Biw=>z6 (Ar' ε hd ζ ?_)|AmN=>ANa SL k|AmO=>(kvs.any fun kv=>(Φ (kv.1=k)))|AmP=>Ť A8 a b|AmQ=>Uj (wH a2 ε)|AmR=>A3 (K5 Β Β aR  (Ũ ε)  (x8 ζ)  η)|AmS=>(yj xs lo hi)|AmT=>Au7 AM4|AmU=>Au8 H'|AmV=>s1.heap.DictAt AM_ a ws ep|AmW=>∀(AU1) (F H H0:Hp),_|Bix=>Au' cells.lookup|AmX=>AvE ?_|AmY=>AS' YY|AmZ=>MX=BiP|Awg=>show ε by rw[ζ];exact η|Ama=>∀a∈as,ε|Amb=>x h - AMY|Amc=>k*7 % HQ|Awh=>(DU cP.cs S)|Amd=>.ext (FB ε)|Awi=>B6 hb (Auw ε)|Ame=>fun H s=>ε|Amf=>(by show oy 2;decide)|Amg=>AZ (by rw[z,ε] at ζ;show AE η θ ι ν ξ ο π ρ τ υ χ ψ ω Α)|Amh=>∃m,m<n/\ε|Awj=>by rw[ε] at e1;show AE e1 e1 e1 e1 e1 e1 e1 e1 e1 e1 e1 e1 e1 e1|Awk=>PE X i ty|Ami=>Aq6 x t|Amj=>Gm Ο m ε|Amk=>C9 (fun i m ε ζ=>m=η - i/\θ/\ι) ν|Biy=>(ET Y2 hl)|Aml=>by show EM Β Qd ε ζ|Amm=>Of (rL e0.bs).1|Amn=>bV ε (i4 us ζ)|Amo=>(Od qs).BGS|Amp=>(UD x hx)|Amq=>(List.range' ε n).map|Awl=>D.rt v H|Awm=>AHb (Ń s hs)|Amr=>AMl A8 BA|Ams=>(Afk/ BS b)|Awn=>AUI (WG Bos #[B']) ε|Amt=>AV y H' z|Amu=>Ŧ H s|Amv=>by obtain⟨z,hd,xs,rel,dd⟩:=x4 O8|Amw=>ArD f=Ε v|Amx=>.ob _ _ ts|Amy=>fun Γ P E=>t Γ (fun c B5 =>ε) E|Amz=>∀c∈cs,f c=0|Am0=>pP n m a|Am1=>by have ev:=Kg rk|Awo=>ε c Bh7 mJ ws|Am2=>(WE as (ņ/\SC H0))|Am3=>fun b u q n ε=>ζ|Am4=>∀(qs:A2)(bs:F9),_|Am5=>ε R2 (AA' s2) p|Am6=>Au0 (ε st h)|Awp=>BiN Ps|Am7=>∀b ob,Aus ->ACH RS|Am8=>by obtain⟨v,us,bs,cs,e1,Β,h1,h2⟩:=h|Am9=>fun ds Q _=>ε|Am_=>tG GL ε (ζ c) η|Awq=>lA K F a vs|Am'=>by show D1 h1 h2 ASJ ε|AnA=>A4 (cF BG ε) JS|AnB=>(.Ac_ .Not a AB)|Awr=>(BiR dc)|AnC=>SP ε Ξ D f ζ|Biz=>F7 (∃qs:A2,ds= Ķ AUV/\ε/\ ANb/\ζ)|Bi0=>L.thaw n0 I' sm e1 e2|AnD=>[ř,ACZ (iy AHm x),ε,ζ,y4,y5]|Aws=>BDR _ ε fun hm=> ?_|AnE=>(BiW HR)|AnF=>BiX A8|AnG=>yq K F0 H0 ε D2 D|AnH=>BiY A|AnI=>by rw[ε] at q⊢;exact⟨F1,AC,ζ,R1,q,η⟩|Awt=>∀(Af0){F0 H0 F H:Hp},_|AnJ=>Bia (ACj c)|AnK=>Bib b|AnL=>by intro wh Ξ s σ H Q I h|AnM=>σ ->CO|AnN=>St ->DZ Hp (ε)|Bi1=>by rw[typeLookup_type,builtinLookup_eq_fast]|AnO=>fun s3 I3=>ε|AnP=>x.2≠y.2|AnQ=>by obtain⟨ε,fd,ζ,η,θ⟩:=Ģ|AnR=>∀(i:Δ) ε,ζ|AnS=>by obtain⟨_,_,e,_⟩:=hS b z|AnT=>∃f∈fs,ε|AnU=>ElemsOf knd ε|AnV=>by simp only [h,ε]<;>(show w9)|Bi2=>(ASf AAs)|AnW=>(Sh ry)|AnX=>(Ğ s3)|AnY=>Go (ForInStep.yield ε)|AnZ=>A4 Hh (yV ε)|Ana=>Ğ (s3.trans ε)|Anb=>(q::qs)|Anc=>DZ Ω Ω|Bi3=>cz b B9|Ane=>(k - l)|Anf=>(EB - e)|Ang=>(r.2 - l.2)|Anh=>(z9 _ Β)|Ani=>Cf h hh|Awu=>s3 _ _ (s2 _ _ e)|Anj=>BEd _ _ AuF|Ank=>BZ Ο h|Anl=>ofM Ο m|Anm=>C7 fU ACJ|Ann=>ε (NY Aqh)=Μ|Ano=>fun _ H Q=>ε|Awv=>PE X FF tv|Anp=>.BO (rA sF hq)|Aww=>(ATr z z)|Anq=>AGf _ ε Β|Anr=>Wq rs h2|Ans=>.D6 (wb hq)|Awx=>Lo w Bh4
|Awy=>(ZZ A1 AMa)|Ant=>(Ο++ [r])|Anu=>(ATu (xN o m) [])|Anv=>by show UC t (GS (Ř ε) r);show DM;rfl|Anw=>TC (ε)=AG|Anx=>AG' s2 ε Ash|Anz=>Zp tn t ε|Bi4=>∀x∈a,x∉b|An0=>(Ar3 nd).2|An1=>ATm (B6 f (! ε))++ [g]|An2=>∀(xn) (he:oz KW e es:=by rfl) (hpl:Auz:=by rfl),_|Bi5=>ATz oA update|Awz=>(SO AIK kK)|An3=>WI (CU∈ws)|An4=>zL (AdQ _)|An5=>Pi (Blh _)|An6=>Gr F ε F' H'|An7=>lA K H a Au3|An8=>(AMO AUa AUa)|An9=>Φ (Ct=h)|An_=>(xz xy eJ)|Bi6=>x0 ε ASh AGS ζ|An'=>(AHM ((AUe).zip AU0))|Aw0=>⟨ε,BGa ζ,R1.apart η⟩|AoA=>ń setsByText zkv|AoB=>R J H'|AoC=>AT3 ε (KJ (AVE ζ))|AoD=>ε K F0 H0 t E σ H R|AoE=>by obtain⟨_,_,_,_,o,_,_,e,_⟩:=k;exact Fk e|AoF=>(BoB S ep)|AoG=>(fB Ο x)|AoH=>(AAy F a aI)|AoI=>h v zY|AoJ=>Ac5 a A8 ε|AoK=>[LL,MU,NO]|AoL=>EA AJ F d x|AoM=>qI b1 a2|AoN=>.AS b u|AoO=>(zB _ _ _ ?_)|Bi7=>AUI AAs Ps|AoP=>AMt z6 wpAny_onRaise|Aw1=>T.keep _ _ _ ε fun b hb o e=>ζ|Bi8=>(KZ K F H Ex E)|AoQ=>AH3 Blb (ng ε).2|AoR=>BmQ y=Ε AU6|AoS=>Cn ((h ε).mp ζ)|Aw2=>(es.getD p (0,BA)).2|Aw3=>Oi Ο ws ps|AoT=>(iY r g ps vq x')|AoU=>VR (Da ε) (Ff N1)|Aw4=>∃o,ε/\∀v,nK≠ .cell v|AoV=>Ee (.ASa ε j AB) ζ|AoW=>AIH (ACv ε) (fun ζ EZ=>η)|AoX=>iC t A8 l xs|AoY=>X_ f=Ε ⟨oc,od,ε,ζ⟩|AoZ=>U i j hij ε|Aoa=>∃c,x= .bl c/\ε|Aob=>∀(Ο:C4)(w:Κ),_|Aoc=>Bhf (HZ sb.2 b hb e)|Aod=>Ij h1 r1|Aoe=>σ ->α ->AM|Aw5=>N0 cs CF (ε) ζ|Aof=>AVD ε Aqz BCj|Aog=>AMZ Dn ε ζ (WA (fun d AC F1 H1 v R1 s1 rd η=>θ))|Aoh=>WA (fun d AC F1 H1 v R1 s1 r q=>ε)|Aoi=>(BgQ HR).all (AHk (x.1).Ć)|Aoj=>∀(hf:AfB\/AfC:=by first | exact M' Β | exact KB Β),_|Aok=>dv ε Ψ Ψ|Aol=>uL (AB:=ε) (i:=ζ)|Aw6=>(.tr as Afv)|Aom=>∀h',ε ->Q Ι SI|Aw7=>Afq i hi|Aon=>(Z7 b o e hx)
|Aoo=>by
 split
 ·show Kj;show Q2 Kk hp hp
 ·show Kj;show Q2 OA hp hp
|Aop=>gV t1 A8 i1 l1 k1|Aoq=>gV t2 A8 i2 l2 k2|Aor=>by obtain⟨a,vs,h0,h1,h2⟩:=h|Aw8=>(fun f vs=>PySem.call f vs)|Aos=>fY xs ys=Μ|Aot=>uP d d' =Μ|Aou=>ER (sIx n 0 lo)|Aov=>zP (ε _ _) (Nat.add_le_add ζ η)|Aw9=>Nl ε p 1 0|Aw_=>z6 (wpAny_typeNameOfWhole_keyiter ATf Afr)|Aw'=>(AAy F' A1 aI)|Aow=>∀w,w∈ws↔ε|Aox=>by show AMh e1 (BDa b o e hx)|Aoy=>(Vh r ta tb)|AxA=>.AY (GS (KO ε (U' ζ)) Β) r|Bi9=>[eI ý,.ow ŋ,x,y]|Bi_=>Atz J.type (z6 (Atz ε ζ))|Aoz=>fun ds AC F1 H1 vs R1 s1 r1 h1=>ε|AxB=>(.Raise (Dx (xx AfV KW)) Ι AB)|Ao0=>(.ASa (Bau "") j spos)|Ao1=>∀{rs:E6}{cs:CF},_|Ao2=>ε g tc ζ (pU AGo FU Γ)|Bi'=>PX K mg BCo BiS|BjA=>ne c _ z (Jn w Bh4)|BjB=>L.back R' s'|Ao3=>h.Ns1 dx mA|AxC=>fun k' y=>(Nl k' k ε y)|Ao4=>Cn ((h ε).mpr ζ)|Ao5=>(Ε (Ca bs))|Ao6=>∀{α β:CH},_|BjC=>.By (YI fun o=>ε)|Ao7=>by by_cases hb:b=a|AxD=>g ε Γ (B6 B5 ζ) E|Ao8=>pZ H F' a|Ao9=>∀[ť](val:Mm κ),_|Ao_=>Aeh QE elt te|Ao'=>S6 X F0 H0 tg NM ti|AxE=>ACq RS (AUg Ι (.seq ε ζ) #[])|ApA=>ACw ε (s.heap.UpToSlots h') (Q () SI)|BjD=>Pi (show¬(ĸ ε nE) from AKm)|ApB=>⟨y,H2,I2,ε,q2⟩|AxF=>P (ys++zs)|ApC=>g x σ H' (AUm (tb (AUo N N) σ2 H2))|ApD=>tD ε _ _ _ _ _|BjE=>by show BiL fW AGn|BjF=>∃S' ∈ε,ANK S S'|AxG=>sp (.ob C [] []) ds ε ζ|ApE=>AVB Bi (by obtain⟨F,Γ,P,S,q,k⟩:=Bi;exact Au4 ε)|ApF=>by rw[hc,ea] at q;show SY|ApG=>by obtain⟨qs,Β,hl,hz,h⟩:=h|ApH=>fun _ _ _ _ _ _ _ _ q=>Ġ|BjG=>∃(l:A2) (x y:Ic),ε|BjH=>k d BF F2 H2 v R2 kN ε ζ|ApI=>fun d v F' H' gr rv hp=>ε|ApJ=>ε Fr X.w AJ ċ cy C m k ps sp|BjI=>AHw ->∀h∈AUp kW,Afm|BjJ=>Iq B5 0 (.pu (.ptr a))/\ε|AxH=>nP Ο ws m ε j*Au1 x|ApK=>by rw[hl] at st hx|ApL=>(Sv KS eb)|ApM=>by (obtain⟨_,_,z,_⟩:=r';show Lw)|ApN=>Bm6 (DU Hw I hg hm ?_ hdb)|ApO=>ε H2 (Ğ s3)|ApP=>W.excIn K ε AvA Aqn =Μ|AxI=>SR AJ F1 H1 ε ζ σ η|ApQ=>TR K F H t v ε|ApR=>T.obj _ _ ε b hb|ApS=>⟨0,0,0,0⟩|ApT=>fun x e n=>ε x fun o ho=>e _ o n ho|ApU=>zk0 I S e|AxJ=>UB (BiB k0) BiA|ApV=>Tw hA ts vs bs n h|ApW=>rO p s i|AxK=>(b.fdiv 40).OL 6|ApX=>by show ŝ H1 I1 q1|ApY=>yH c _ (B6 hc ?_) q|BjK=>Aeu [Aed] ε Cx Cx|ApZ=>∀(hs:Ρ)(x:D5),_|Apa=>ε e1 e2 e3 ζ ap η|Apb=>by show AUd (MH .ε) (MH .ζ) (MH .η)|Apc=>by show AUd (.ε _ _ k1 hu0) (.ζ _ _ k1 hu0) (.η _ _ k1 hu0)|Apd=>IZ ACQ X.A (ASj (Bn it)) (xt s1 ε) E s|Ape=>by show GG ε r h1 h2 h|Apf=>by show AIW (.ε _ _ k2 hu0) (.ζ _ _ k2 hu0) (.η _ _ k2 hu0)|AxL=>AfP Ĥ AVC AVL|Apg=>(HD lo n).ε i H|Aph=>ACT (h F1 H1 z jR AVP Ξ s σ H1 BiZ I1 ⟨F1,jh Γ,_,L.R,ε,ζ⟩) u η|Api=>∀(hf:AfB\/AfC:=by first | exact M' Β | exact KB Β | assumption),_|BjL=>⟨Qb e d0,kF e (d1 _ b1) b2⟩|Apj=>dt rs (VY p)|Apk=>[ALY,ASn,ASo,Bmr]|Apl=>(.Ac8 a [op,op'] [b,c] AB)|Apm=>VC (ALs i (.tr ε ζ))|Apn=>μ*Aq9 zh|Apo=>ε k1 k2 hz hu0|Apq=>by show W_;exact ε a t' b t
|BjM=>by
 refine i7 ε hod hdd;show BD A7
 refine ζ
|Aps=>∀{n:Δ}{f:Ő},_|Apt=>AsR= HC/\Adk= Aek fv/\ε|AxM=>(Ty v (∃h:Auo,v=es[i].A9))|Apu=>HZ far b (Sy hT hdT q n)|Apv=>97+ (wJ n j).toNat|Apw=>nC.some_of (v:=v) (o:=ε)|AxN=>obs (cut A8 n)|BjN=>∀{t1 t2:AU}(Bic),_|Apx=>[.AS r,qD g,.By ŗ,ε]|AxO=>.D6 ⟨_,kk,J7 ε ec,Β,ζ⟩|AxP=>(ε (TM BN 0 lo)).ie (BiU - BiM)|Apy=>Tn At6 At6 (P.ne Η Η Η) ?_|Apz=>by subst r;show AE hS hS hS hS hS hS hS hS hS hS hS hS hS hS;exact zla I rx ε e h|Ap0=>by obtain⟨_,_,_,q⟩:=hs;show ze|Ap1=>fun DT H' p' =>⟨ε,Υ,Β,A6,p'⟩|AxQ=>∀{S:bE}{hs:CO},_|Ap2=>by have Qe:=rd;obtain⟨a,dx,vs,Β,ea,hl,rs⟩:=rd;show AH';refine ε;refine ζ|Ap3=>.ask i j k|Ap4=>(ArZ (FH v) bd)|Ap5=>Φ (ε+ ([]:EV Keyword).VM+ (DH ([]:EV Keyword).isEmpty 0 1)<ζ)|AxR=>(DH (r=m5) 2 1)|Ap6=>Gr F0 H0 F H|BjO=>⟨_,BiO ho hd,(BnS ..).ON hc,ε⟩|Ap7=>by obtain⟨z,AO,n,r,e⟩:=ε|Ap8=>∃d:Ω,d≠0/\dB d<=ε/\ζ|Ap9=>∀AI,u≠ .dK AI|Ap_=>by obtain⟨a1,u1,Β,h1⟩:=pA h0
|Ap'=>by
 generalize BS Ĩ=x at*;generalize BS im=y at*;generalize Lm VX=u at*;generalize Lm b.den=v at*;subst h1 h2
 grind
|BjP=>∀{m n:Δ}{a b:AM},_|AqA=>[ASm,ia,VT,ē,AdL]|BjQ=>(zR _ (zih hb e))|AqB=>Tl (.For tg ε L9 [] AB) (ζ η g tb)|BjR=>3+ (Ard 3).OL 9|AqC=>[c9,Pe,"lefts",Ars,"numbers"]|AqD=>∀(t1 t2:AU)(h:AL)(l1 l2:Ζ),_|AqE=>(match k with | ş=>x | .D6 _=>HM)|AqF=>by show EM ws kv hd (zoj I hq Qn);have hl:=ATd|AqG=>[z,TI,TO,i1,i2]|BjS=>∀(q:Δ) w p,yk ws w ->yk ps p ->ε|AqH=>ALm ts vs bs h a ha|BjT=>Steps CI w A I S ε ep o|AqI=>zir ε (ζ _ _ ea) hc hm (Wv η) ?_|AqJ=>AvF ⟨F4,Γ4,R4,Ğ (s3.trans s4),q⟩|AxS=>F7 (∃(S:Bz) (n:Ω) (bs:F9),ε)|AqK=>qD (mG jv AUs ws h)|AxT=>[NO,nv,cf,ci,AGD,ny]|AqL=>[vx,"head",ia,AdL,VT,ē]|AqM=>by have h1:=Oc a;have h2:=Oc b
|AqN=>∀(OQ:Aft:=by rfl) (Rc:z_:=by rfl)
 (he2:AMj Afi Afw:=by rfl),_
|AxU=>ε K C f sp vs H Q E|AqO=>Ee AVH (ε C m sp te t)|AqP=>ha z E cx AB Ξ s σ H (AIE H1 (∃F1 AC ds,AM1/\yy/\aM AJ F1 ds vs/\ε)) I (jn (AuS ds))|AxV=>((N2 (match xs[j]?,ys[j]? with | Ε a,AfU=>fW a b | _,_=>AG)))|AqQ=>by obtain⟨q1,q2,⟨u,v,q3⟩,q4,q5⟩:=q|AqR=>by obtain⟨x,H',I',rv,sm,H2,e1,e2,hQ⟩:=ε|AqS=>∀{st:AR}{f:Ζ}{fd:Fc}{N ps:Ρ},_|AqT=>by have:=P9 XJ rs rs cs ε ks ks ss rs (r:=ζ) fun s hs=>hs|AqU=>∀(X:Cx),BB (Fr=P) (X.w=w) (AJ=K) ε (∀(i:Δ) (Ξ:dN) (s:AF) (σ:St) (H:Hp) (E:dM),ζ)|AxW=>∀(P:A0) (w:Ap) (K:AD) (mg:EX) (DS:AL),_|AqV=>eN (EK (qY (Au:= [Arz]) (N' := AUC) (by show As (cP AVT _ [Arz] [] (aU uz) AUC);exact⟨Β,Χ,Χ,Χ,Β,Χ⟩) Β  (A4 lD (pH ε))  (HK AUC)) Kx (Ix (cF BG aQ) JS))|AqW=>by rintro A1 C H' s5 I5 q5 ⟨m,hn⟩ c1 c2 c3 c4 c5 c6|AqX=>by show AE h2 h2 h2 h2 h2 h2 h2 h2 h2 h2 h2 h2 h2 h2|AqY=>by show AE rv rv rv rv rv rv rv rv rv rv rv rv rv rv|AqZ=>by show AE e3 e3 e3 e3 e3 e3 e3 e3 e3 e3 e3 e3 e3 e3|AxX=>Ņ q q q q q q q q q q q q q q|Aqa=>by show MO q hi hi hi hi hi hi hi hi hi hi hi hi hi hi hi|AxY=>by (show Lv n n n n n n n n n n n n n n)<;>simp [mU]|Aqb=>hg C LH TK fp uQ uR AUD jR Ho Ξ s σ H v u Q I r|AxZ=>vc ε|Axa=>BGN ε|Axb=>(Jv L (ε w hw)).1|Axc=>if ε then Ε ζ else η|Axd=>by rw[ε,Adx]|Axe=>by rw[ε,ζ,η,θ,Mb,ι]|Axf=>by rw[Y1]|Axg=>by rw[P1]|Axh=>by rw[Asg]|Axi=>by obtain⟨_,_,_,_,e⟩:=ε|Axj=>by obtain⟨_,_,_,e⟩:=ε|Axk=>by obtain⟨_,_,_,e,_⟩:=ε|Axl=>by obtain⟨_,⟨_,_,_,e,_⟩,_⟩:=ε|BjU=>by simp only [C6] at ε|Axm=>EV Obj|Axn=>EV _2.Key|Axo=>by obtain⟨_,_,_,ε⟩:=ζ;exact η|Axp=>by injection ε|Axq=>(by grind)|Axr=>(by show Avj)|Axs=>[VQ]|Axt=>(Bn sl)|Axu=>(Bn C')|Axv=>by rw[ε] at ζ;exact η|Axw=>by show eQ ε ζ η θ;exact ι|Axx=>by subst z;exact ε|Axy=>(AeL Β)|Axz=>iO h|Ax0=>ALy h|Ax1=>ħ h|Ax2=>.B4 EJ|Ax3=>(0+ F8+1)|Ax4=>(CB l+1)|Ax5=>.AN (lo+i)|Ax6=>(FG AS0)|Ax7=>Φ AHw|Ax8=>JO Å|Ax9=>HT AU|Ax_=>HT AL|Ax'=>HT Hd|AyA=>i<HQ|BjV=>D' its.size|AyB=>D' P2|AyC=>D' ASv|AyD=>D' FK|AyE=>D' rest.length|AyF=>Ī ANv|AyG=>by subst r;rfl|AyH=>(NX h1)|AyI=>(NX hk)|AyJ=>Fu RS ε|AyK=>BC zdw|AyL=>BC zhu|AyM=>BC zcc|AyN=>BC zym|AyO=>BC zeq|AyP=>.By AHi|AyQ=>(ARy _)|AyR=>(hm.push _)|AyS=>W.handedIn ε=Μ|AyT=>OZ YE|AyU=>OZ "abs"|AyV=>OZ "any"|AyW=>show ε by simp [ζ]|AyX=>show ε by show dk|AyY=>.none_bool _|AyZ=>.bool_none _|Aya=>by show ADL;show AA|Ayb=>ER (Tb i j)|Ayc=>z6 (ASe ε)|Ayd=>.BO AC'|Aye=>.BO (FL (ε hb))|Ayf=>(HV hy)|Ayg=>(Ll aQ)|Ayh=>j<D9|Ayi=>BDq ε ζ Β|BjW=>(NY Aqi)|Ayj=>C3 AIg|Ayk=>F6 (0+ JA)|Ayl=>(.dK [])|Aym=>G_ ε (ALD :Κ)|Ayn=>đ ?_|Ayo=>(a::dx::bs)|Ayp=>Nc Adl|Ayq=>(by unfold LQ;show AA)|BjX=>by show C8 (ε+1<n_);show AA|Ayr=>FL AIZ|Ays=>(FM hy)|Ayt=>oq Ω|Ayu=>by show D1 ε ζ Acq η|Ayv=>į SK|Ayw=>Nd AUw|Ayx=>(zX _ hx)|Ayy=>by rw[AL7] at h|Ayz=>k<HQ|Ay0=>k<Id|Ay1=>L.hS b hb|Ay2=>oy 1000|Ay3=>ε (by injection z)|Ay4=>ALy Η|Ay5=>0<OP|BjY=>ħ hb|Ay6=>MB<=i|Ay7=>⟨o,ε,O.ex.1⟩|Ay8=>b∈iN|Ay9=>Op AU|Ay_=>Op Result|Ay'=>.AY _ _|AzA=>.none_int _ _|AzB=>.none_str _ _|AzC=>.bool_bool _ _|AzD=>.int_none _ _|AzE=>.str_none _ _|AzF=>GV AS0|AzG=>AK2 q|AzH=>AFz hq|AzI=>Ē hq
|AzJ=>KE Y1 ε|AzK=>(Ĵ À)|AzL=>eA ASe|AzM=>eA Bnp|AzN=>ATv qB|AzO=>AHC Bix|AzP=>zx.up Ψ|AzQ=>i5 ε BpR ζ|AzR=>(ABg C5)|AzS=>aS OT|AzT=>aB l (B6 a ε)|AzU=>(z8 _ e1)|AzV=>AHF ε (JP s' ζ)|AzW=>Cls AJ C|AzX=>WI BjI|AzY=>N_ ANz|AzZ=>(eL AU9)|Aza=>(E3 .AN)|Azb=>Q (.bl (fW (ε ζ) η))|Azc=>ε ζ a TH|Azd=>by show pV ε;decide|Aze=>i<=NN|Azf=>p_ Bin|Azg=>(AMU Pu)|Azh=>al (kf e.2)|Azi=>am ACf|Azj=>by exact AdM _|Azk=>WP Μ|Azl=>(AHM AvO)|Azm=>by rw[Mb,ε] at e|Azn=>BEs j ε|Azo=>(qV hne)|Azp=>(C_++AgO)|Azq=>(C_++d::ABy)|Azr=>UE BN ε|Azs=>AGI (n:=ε)|Azt=>(ŉ AKv)|BjZ=>(ŉ "open")|Azu=>yB GN ε|Bja=>Ĉ AAx|Azv=>(AHO).Pl|Azw=>fE UN|Azx=>fE XB|Azy=>by show yT wy|Azz=>(Blo p)|Az0=>(topStub p)|Az1=>(fF hh)|Az2=>(AB' ak)|Az3=>AL' hi|Az4=>fI<=9000|Bjb=>tn i YY|Az5=>AHW AO|Az6=>F.to r hr|Az7=>AT' AK7|Az8=>(ŏ AT1)|Az9=>k<=D9|Az_=>splitId ε =Ε (ζ,η)|Az'=>[LL,AAr]|A0G=>yz ε AAf|Bjc=>(ő v6)|A0H=>pE F1 (xk q ε) AC|A0I=>Ath BV|Bjd=>Aei MB|A0J=>q<OP|A0K=>q<LM|A0L=>(rh ACP)|A0M=>(e - AH_)|A0N=>by show HA (AtY ov) rx|A0O=>pM f.map qD|A0P=>Ael vy|A0Q=>⟨F1,nO Γ,_,R1,ε,ζ⟩|A0R=>AS' h'|A0S=>(g.unbase gr)|A0T=>ACY ALH ε ζ η|A0U=>ACc BN|A0V=>ACc Ą|A0W=>c7 ε (AGZ (AGb ζ η CL f cdv))|A0X=>by have hl:=Pp|A0Y=>ACi B_|A0Z=>(Ţ E5)|A0a=>(xk a ya)|A0b=>Atn ε LE|A0c=>Ato (AHI ε LE)|A0d=>Rd H a AUw|A0e=>KV AI ws|A0f=>fun b hb u e=> ε|A0g=>ATG s1|A0h=>a<MW|A0i=>by rw[VU,<- hl]|A0j=>(ALj kV)|Bje=>ArK y=Ε ε|A0k=>Blv _ Η|A0l=>ACr MY|A0m=>Aey (kY Η)|A0n=>AGC fun w=>ε|A0o=>T1 AVJ*f j|A0p=>ad ε ATL _|A0q=>(hn a h).2|Bjf=>[LL,VO,Pe]|A0r=>AGk s2|A0s=>MW<=a|A0t=>Int.lt_or_le 0 ε|A0u=>ε EJ a|A0v=>oa Key AH|A0w=>AIF (.frz o (qZ a C))|A0x=>.By (ABL ε)|A0y=>Jn h h|A0z=>BCc fun r=>ε|A0_=>ADN EO|A0'=>.obj _ _ _|A1G=>.bool_str _ _ _|A1H=>.str_bool _ _ _|A1I=>BEf A s ε ζ η|A1J=>ADc ye8|A1K=>z.natAbs<=B|A1L=>(AR7 F8)|A1M=>∀(ha:kQ a tA),_|A1N=>∀(ha:PT X a tA),_|A1O=>Fu L' o|A1P=>h'.IsCell c v|A1Q=>(AId An)|A1R=>AIe ⟨o,ε,Β⟩|A1S=>ANX U2 ε|A1T=>(vs= [.B4 q])|A1U=>by have:=ε;show DF ζ;show IN|A1V=>At8 dQ|A1W=>At8 ALn|A1X=>At8 AeK|A1Y=>(At_ ⟨HC::us,kw⟩)|A1Z=>To fV o4 Eg f fd ps (ε K sp)|A1a=>by show ANh ε wy|A1b=>by have A9:=Ad3 ε|A1c=>o=Ε EC|A1d=>by rw[ε] at e;exact BGe e|A1e=>dc j 0|A1f=>(ANn AuF)|A1g=>pM FH KP|A1h=>ANr AvB|A1i=>ANs IC ε|Bjg=>AVG AL5 ε|A1j=>∀i,i<IB ->ε|A1k=>(AVK A5)|A1l=>(AAy F2 a At9)|A1m=>qI a2 b2|A1n=>AN3 (u' w=u w)|A1o=>ATb ε (.dic ks ζ)|Bjh=>Afe base.Ns|A1p=>Afe h.Ns|A1q=>cT (LO ε An 0)|Bji=>(aM K F ds GY)|A1r=>by rw[ε] at q;show AE q q q q q q q q q q q q q q|A1s=>R1.g.trans sH|A1t=>seqIndex_neg Η ε|A1u=>by show C8 ε;rw[ζ]|A1v=>[OO,ASh]|A1w=>[ia,c9]|A1x=>PW X (AMf Or ε) ζ|A1y=>(_+ (_+0))|A1z=>jw K S4|Bjj=>(AVa a.den_pos)|A1_=>AS_ (CC h)|A1'=>k b o hc e|A2G=>by show UI i NN|A2H=>rA LZ hq|A2I=>(AVi (m - 1))|A2J=>pJ xs=Ε ns|A2K=>AVn ws.Pairwise|A2L=>(by rcases Cn hr with q | q)|A2M=>gV t1 ε i1 l1 (k1+1)|A2N=>gV t2 ε i2 l2 (k2+1)|A2O=>AuN W.mroIn ε Aqh|A2P=>(ĝ z).Ok|A2Q=>nW f v ((k,x)::r)|A2R=>(N*M)^AGw|A2S=>u=nE|A2T=>FK=OR|Bjk=>BF_= #[]|A2U=>200*27720|A2V=>(.EB t)|A2W=>[MU,LA]|A2X=>[MU,AdN]|A2Y=>F' A1=Ι
|A2Z=>G0 QW (AMf Or ε) ζ|A2a=>Cf r hr|A2b=>(ABV Db 2)|A2c=>Na xs q|A2d=>(xF qp BH)|Bjl=>by rw[C6,<- hl];exact ε|A2e=>by rw[VU,<- hl];exact ε|A2f=>M1 A1 H'|A2g=>KE (bU ne) gP|A2h=>KE Avd gP|A2i=>∀r∈rs,AVu r|A2j=>Tm p rX|A2k=>ĸ g f|A2l=>Ł MY ACI|A2m=>(k,x)::r|A2n=>ASO b o e n|A2o=>(.AY Β EE)|A2p=>∀k,k<=KM ->ε|A2q=>by obtain⟨AO,r',pl,hz⟩:=iO hq|A2r=>by obtain⟨AO,r',pl,hz⟩:=Ē hq|A2s=>.none_tuple k2 hu0|A2t=>.none_list k2 hu0|A2u=>.tuple_none k1 hu0|A2v=>.list_none k1 hu0|A2w=>.bool_tuple _ k2 hu0|A2x=>.bool_list _ k2 hu0|A2y=>.tuple_bool _ k1 hu0|A2z=>.list_bool _ k1 hu0|A2_=>Auv AeF|A2'=>r j*T1 cs|A3G=>(jt F0 F)|A3H=>pz ε ds (ζ*T1 (j::ds)) cs|A3I=>ADX f sN (f j*T1 cs)|A3J=>by by_cases q:CU=w<;>simp [q]|Bjm=>(Aq5 a:Key)=ε b|Bjn=>(RR a:Key)=ε b|A3K=>Ej x L f|A3L=>.tuple_list k1 k2 hu0|A3M=>.list_tuple k1 k2 hu0|A3N=>∀(Agi)(h:AIn),_|A3O=>Agj (ε DT H')|A3P=>(Agp H1)|A3Q=>AvC ε AGO|A3R=>by show eQ DT H' I q;exact⟨DT,H',Wd I,q⟩|A3S=>by show eQ DT H' I q;exact⟨DT,H',Wf ok I,q⟩|A3T=>W.KasT α|A3U=>FH v|A3V=>sc.kind= AMg|A3W=>Ζ ->aD|A3X=>(Jn q Ġ)|A3Y=>by show AvG BGz|A3Z=>by rw[ALl,Y']|A3a=>by have FI:=BEg|A3b=>BDX cy ε|A3c=>[vx,BDr]|A3d=>MC H H1|A3e=>(as++cs)|A3f=>C7 FH v|A3g=>(dc i HM)|A3h=>(Ix qv 0)|A3i=>AGj (ALs i ε)|A3j=>.dik ks xs|A3k=>(WE bs (OSz 4000 b))|Bjo=>Qb Pp z|A3l=>by show B7 ε ζ _=_;rw[η];rfl|A3m=>IY (YU AGq) ε|A3n=>by have:=ε;show DF e;show IN;exact ζ|A3o=>AUP Bir e ε|A3p=>Rs ŋ ε (Dx ζ)|A3q=>aB Ο (eL (ε*sd))|Bjp=>AIl KS e|A3r=>AvY ASQ ε|Bjq=>(Cu Fr X.w q xs)|A3s=>bt.lead (N:=16)|A3t=>by by_cases hi:i<NN|A3u=>dH IB (N2 ε)=ζ|A3v=>AVe l ε kM|A3w=>Rs ŋ (Dx ε) (Ε ζ)|A3x=>⟨f,hf,hx⟩|A3y=>AMX _ t ds ε|A3z=>Avi Q_|A3_=>F7 (∃a b:AM,AvD (kG ε))|A3'=>(S0 w os)|A4G=>(hμ r hr).2|A4H=>(DH eC Ι (F' b))|A4I=>(ok r hr).1|A4J=>Avm AOC|A4K=>GI Ο r (AIo*ε) ζ|A4L=>(hg x).mpr (HV ε)|A4M=>A3 (au (AeZ ε) aJ)|A4N=>Avq (ũ (GV d))|A4O=>(Avs vs)|A4P=>sW (aU st) NO|A4Q=>by have hb:ε:=BDv h;show Afz ζ|A4R=>pz d es (s d*h es) ε|A4S=>T A8|A4T=>by obtain⟨ks,_,e⟩:=ε|A4U=>k/U1|A4V=>k % U1|A4W=>V4 (ANy BG ε) ζ|A4X=>(newList [])|A4Y=>(ALU ε).toNat|Bjr=>(AdU ε).BDc|A4Z=>[Pc,NO]|A4a=>∀(K:AD)(ta:TA),_|A4b=>Iz K c.eY|A4c=>Cf x hx|A4d=>E4 ds d|A4e=>C7 AGC (ADP ε)|Bjs=>xs.all pB=Μ|A4f=>Lm ABS≠0|A4g=>by show HA (AtY v) r1|A4h=>Aj.there b o eb ε|A4i=>P7 es us|A4j=>(ws++ [w])|A4k=>ZT SR F H ε (Ŋ ζ)|A4l=>ES ε [MA,ny] ζ|A4m=>Tm l rX|A4n=>∀j,f j=a j+g j|A4o=>MR _ Β ε|Bjt=>ALf (ARy _)|A4p=>WO r Auh|A4q=>(TJ a b)|A4r=>ŀ QF tf|A4s=>(iR g t)|A4t=>KS p _ hk|A4u=>Bij AUW|A4v=>(Ŏ (OX 9))|A4w=>Đ e s'|A4x=>.AS x _|A4y=>AgA/ BS (LN ε)|A4z=>(∀p∈IS,Auh)|A4_=>(AMp (r8/\Ä))|A4'=>(AGQ ε).OL ζ|A5G=>.dic (ε .BO) (ζ .LY)|A5H=>(pI t i)|A5I=>AIO a xs|A5J=>Gf AAd=Ε (ks,ys)|A5K=>ce (jO qs)|A5L=>lt i j=Μ|A5M=>Ib K F Hx ε ds|A5N=>(fY xs ys)|A5O=>AfY dx a|A5P=>by show Bip ALf|A5Q=>AN2 (us++ [])|A5R=>uW lt is|A5S=>(ASr N vs)|A5T=>Ac5 ε A8 h'|A5U=>fJ (ASP f)|A5V=>Biu (by size_fits)|A5W=>rR qs r v|A5X=>∀k,AvM AR1|A5Y=>Z' (¬Z_) H1 H|A5Z=>GI Ο r (x Ct) 0|A5a=>uD (ŏ AT1) F0 H ε t|A5b=>Agk hs tt|A5c=>by rw[Adv,Adv] at nd
|A5d=>⟨DB,AN6 8 Ψ⟩|A5e=>(cM (FH v))|A5f=>ε (FH v) bd|A5g=>gM ks ε k=Ε d|A5h=>by obtain⟨t,ht,hq⟩:=Avx|A5i=>∀{B n:Δ}{q:AM},_|A5j=>Aga fk bd k|A5k=>Ci A8 x dx C mA|Bju=>∃(x:Ic),Γ= Avn ε x|A5l=>(AL6 Avh).vt|A5m=>Avo (AuY ε)=Ε _|A5n=>(k,x)::nW f v r|A5o=>by show HA (os' =s.os) hm.os|A5p=>pE F' H' B5|A5q=>ACY ASa ε j (tC ζ)|A5r=>(yg h H).IE|A5s=>⟨Adz,H2,e1,e2,ε⟩|A5t=>W.InstAt h x o C ε|A5u=>Mf Bh7 mJ ws ε|A5v=>BjC (Agr h)|A5w=>(zH1 t1 ε l1).ć|A5x=>by obtain⟨o,AI,e1,e2⟩:=ADM|A5y=>ε t es (Asv k) x|A5z=>(ATe ALe Avg ds)|A5_=>BjK (eL (GV r))|A5'=>∀i,i∈ms↔i∈ε|A6G=>(zM Ψ (pw 4000 Ψ))|A6H=>nQ (DU O7 (ε hc) hg hm hb ζ Ψ Ψ η Β) (d6 B_ ?_)|A6I=>BjT FK|A6J=>fun z E cx Ξ s σ H Q I hq=>ε|Bjv=>ANj C (BEv nm qn C N bs bm P3 sn CA ab col dd k0 k1 k2 k3 k5 ε)|A6K=>_Hd.cB pg|A6L=>TZ Ei|Bjw=>(ĳ,ű fun r=> ACf)|A6M=>(σ[j]?).join|A6N=>(Ur qs).2|A6O=>rS/\AvS|A6P=>by have Tt:=ATd|A6Q=>∃u,RS e=Ε u|A6R=>AGu<60|A6S=>by obtain⟨_,_,_,_,Β⟩:=RD hl|Bjx=>by simp only [ε,ATE,AAw]|A6T=>let ⟨o,ho,r⟩:=x;⟨o,ε o ho,r⟩|A6U=>D9 % 2|A6V=>by dsimp only at e1 e2|A6W=>(AME QC)|A6X=>(VY (p+1))|A6Y=>HZ FW.2 _ ε ζ|A6Z=>A.handled=Ε EC|A6a=>l.most=Ε n|A6b=>env.frame=Ε L|A6c=>(by (repeat (any_goals (first | assumption | wp_step))))|A6d=>⟨vw,hd⟩|A6e=>[VO,vx]|A6f=>[Ĕ,n9]|A6g=>[ic,MA]|A6h=>["count",iX]|A6i=>[Arz,OO]|A6j=>(p::ANo)|A6k=>(A1::as)|A6l=>∀H1,xC H1 ->ε|A6m=>B7 ABT p|A6n=>Cf i hi|A6o=>(xs++ys)|A6p=>Sz 1000 x|A6q=>C7 bd.map vh|A6r=>W.notCls o=Μ|A6s=>Ee FF tv|Bjy=>W.specialIn K ε ζ =Ε (Dx (P4 η))|Bjz=>ATs ACQ (ALO (Bn it))|A6t=>BG3 fun e=>ε|A6u=>by show HA (d' =ε) hm.drawn|A6v=>by rw[Rr,Aqf];exact ε|Bj0=>z6 (Asm ε A7 ζ)|Bj1=>ATu (xN ε LE) ζ|A6w=>HH (F i (as i))|A6x=>(ATN _ I _)|A6y=>(ABY h _ I hw)|A6z=>nL Β h|Bj2=>(by rw[isSubtype_type];kernel_rfl)|A6_=>pM bd.map vh|A6'=>(jV.mp hr).2|A7G=>ĸ k Asc|A7H=>X5 Ο x m|A7I=>aE Β z|A7J=>(Ĺ _ (v= ANl))|A7K=>aT zvq (ACV (K4 (Da ABz) ε ζ ABb))|A7L=>PS X st t|Bj3=>min v.toNat n|A7M=>(zX a hb)|A7N=>(Qt a Ex)|A7O=>T' AC (.pu (nY k))|A7P=>(Z3 8 j Avv)|A7Q=>AuY ε=CL+ζ|A7R=>Sz 4000 (v w)|A7S=>ph z54 i i|A7T=>by show HI;subst r;rfl|A7U=>KS q _ hq|A7V=>(h2 a h).2|A7W=>(ú j ZN)|Bj4=>by rw[List.contains_cons,ε,Bool.or_true]|A7X=>(y,k)::r|A7Y=>(qd S x)|Bj5=>(q_ (k a ha).2)|Bj6=>.dic (jx ks ε) (pd (gj ks xs ζ d).map)|A7Z=>AVs\/ε≠Ι|A7a=>fun i h1 h2=>ε|A7b=>∀i x,ef ->ε|A7c=>[ic,AGV,AAo]|A7d=>["start",ic,AAo]|A7e=>I_ (JA+ CB m*1)|A7f=>QI X F0 H0 Ago ε ζ|A7g=>(ha Ξ s1 σ H1 _ I1 q)|A7h=>{s with drawn:=d}|A7i=>UW (H x)|A7j=>ε (AsX dC ?_)|A7k=>(old b o eb)|A7l=>by obtain⟨AO,rv,pl,hz⟩:=I1.list hq|A7m=>AQ ->Ĭ (ε) XV|A7n=>(AKt at' 0)|A7o=>fs.Pairwise (xh b Bi4)|A7p=>.dik _ xs|A7q=>(ABW BiK [a] pc)|A7r=>(ad z yX _)|Bj7=>ASf (WG ε #[B'])|Bj8=>newExc AvJ []|A7s=>H' A1=Ε aI|A7t=>IM [SB MV,v]|A7u=>Ae_ (GS (b∈ ([]:Cb)) ε)|A7v=>i7 (seqEpoch_at (n:=ea)) ε Β|A7w=>GI s h (ε* Ê) ζ|A7x=>AIT BjR 2|A7y=>by obtain⟨t,hx⟩:=x4 zs1|A7z=>by subst h;simp [aM]|A7_=>∀(Ο:C4)(ws:Ρ),_|A7'=>AIj (GI l a ε ζ)|A8G=>Bhn g1 g3|A8H=>∀(Ξ:dN) (s:AF) (σ:St) (H:Hp) (Q:ε),AW ->È ->ζ|A8I=>fun D σ H=>ε
|A8J=>fun ys hy=>(CD (ε hy hq) hx)|A8K=>PE LP (ABW Atp [a] wt) ε|A8L=>by refine ε;rw[he2];refine Ar1 ?_|A8M=>gY AUH bd=Μ|A8N=>AU_ (Avp ts)|A8O=>.obj _ _ xs|A8P=>wu BN ε=Ε j|A8Q=>ACT (AM3 ho) u hz2|A8R=>(z8 _ (z9 _ Β))|A8S=>(Iw Fr X.w q ns)|A8T=>fun Γ P E=>ta Γ (fun d B5 =>ε) E|Bj9=>ASX CI w|A8U=>Ac5 ε h1 h2|A8V=>∀(h:AL)(H:Hp),_|A8W=>tb B5 P E|A8X=>by unfold dH;rw[ih];grind|A8Y=>AVb AfK Pc ε|A8Z=>I_ (hi - lo)|A8a=>mU n d d'|A8b=>ne b _ q AN9|A8c=>k b o (Ev (WC hc z)) e|A8d=>∀{Ο:C4}{ms:MQ},_|A8e=>AVj (BjF Kl)|A8f=>Aub hos hds ε|A8g=>AVo ε BG BH|A8h=>by obtain⟨o,e,c,d⟩:=st;exact⟨o,e,Age⟩|A8i=>Af4 (mU n x y)|A8j=>Ar_ vl lo|A8k=>Ar_ vu hi|A8l=>by rw[<- zC];exact Avk|A8m=>Cn (BDZ b ε)|A8n=>fun b ob q _=>ε|A8o=>by show D1 Β rs zkg ε|A8p=>AgH ε ζ A5 An|A8q=>Aut Aqz BCj|A8r=>∀{Ο:GU}{ws:CO},_|A8s=>My (AsG _) (Bm_ ε ?_)|A8t=>(mm _).mpr m1|A8u=>(DH AHr (H' b) (F' b))|A8v=>(DH AHr (H1 b) (F1 b))|A8w=>(hm b _ q (AZ z))|A8x=>pz c ds (ε*T1 ds) cs|A8y=>AgV (ACb st.at (k it A7 o e))|A8z=>Au6 [a] (V_ a)|A8_=>Agq Q Q|A8'=>(ABL vh).AR2|A9G=>⟨r,hr,e⟩|A9H=>CB (C7 wP E_)|A9I=>(wD (mH qs))|A9J=>(.ALG elts x1 AB)|A9K=>⟨_,ε,Β,yii _,?_⟩|A9L=>gY AUH bd=AG|Bj_=>E AC (.pay C [fl] [tr])|A9M=>e_ k R1 s1|A9N=>AvT (AVl t #[])|A9O=>(setAttr yi EO v)|A9P=>∀k,k<n ->∀j,(ε k j).ABQ<=ζ|A9Q=>AvU aB (ε (l:=l))|Bj'=>(kS hl1 AL3 D.l1z)|A9R=>ANd (Ff (Q B8)) Q|A9S=>∀{hs:Ρ}{h:Κ},_|A9T=>⟨v,H,I,r,h⟩|A9U=>Avb (dB (tb i j)<=ε)|BkA=>∀(hb:AUS U2 (P4 U2):=by show dk),_|A9V=>(KQ inner O5 he2)|A9W=>Gr F' H' F5 H5|A9X=>Ů (specialOf _ _) BnO hT2 ε|A9Y=>[AII,ACg,AVF,ANU sz,F6 at_,J_ (ANE 8 ANe),.ow AIM,Afl,i_ ε,ζ]|A9Z=>BiT (LN p) (Yf p)|A9a=>fD Fr X.w MX H s ε e s'|A9b=>∀k v,Afs ->kf v=k|A9c=>(Avw Atv (AT7 j))|BkB=>∀(he:oz [a] a []:=by rfl) (he2:AMj Aux (ABW Atp [a] wt):=by rfl),_|A9d=>WA (fun t AC F1 H1 v as R1 s1 nd hn r h1=> ?_)|A9e=>by obtain⟨hb,q'⟩:=no b _ q ANc|A9f=>fun r hr j=>ε|A9g=>fun w hw q=>ε|A9h=>by wp_walk using ASt hl,Big|A9i=>(a.free c ob q n hx)|A9j=>(ABH b0).wsh|A9k=>(Ĥ AVR).ć|A9l=>AgL (AUg ε (.seq NL n) ζ)/\Md MY η/\AgX θ ι|A9m=>⟨ε,ACb (st.2).at ζ⟩|A9n=>(FG (AIL B.map bD))|A9o=>by rw[Y2,<- Pp];exact AVZ hs|BkC=>ys[k2]?=Ι|BkD=>Lu r hr Β|A9p=>Am l r x|A9q=>N0 qs A2 (∀q∈qs,ε) ζ|A9r=>W.codeIn K cdv FE=Μ|A9s=>by show QY hl hb h|A9t=>DH (k=f) ((k,v)::r) ε|A9u=>kg ((ε q hq).up Ψ)|A9v=>rk S bs i|A9w=>∀(Ο:GU)(w:α),_|A9x=>IY (wP ay) AO|A9y=>ADV (ib ACh (ε::us))|A9z=>(vals.map kf).TU ks|A9_=>AIc (eK k) (WJ h)|A9'=>∀ds Q Ex,sp ds Q Ex ->t ε (gQ N ds) Th|A_A=>(ĝ ⟨xe,z.pn++Ξ⟩)|BkE=>Bis Β PySem.evalArgs_none|A_B=>∀(C:Ζ)(f:Κ)(ε:ζ),_|A_C=>(pr (ABi (S b) H2 (H' b)))|A_D=>AL6 fun i=>ε i B8|A_E=>Biw he h1|A_F=>by obtain⟨o,e3,w,Β,nd,hn,r⟩:=AfL e2|A_G=>∀(f:Κ)(v:V),_|A_H=>rM (Ħ k af) ε|BkF=>∀{np HR AB:AX},_|A_I=>AB' (aj (dY (G1 qo ε)) ak)|A_J=>(AGQ 64).OL 3=ε|A_K=>BoD hT ε (ANV ζ hT η θ)|BkG=>[.LY d1,.LY d2]|A_L=>bO 2 ε (Nv (G1 A5 ζ)) Agf|A_M=>ε.2.1 x c e Β|BkH=>Ar2 s fd (IM [u]) [(x,u)]|A_N=>AVw tv y (zI ta x ε)|A_O=>Avr (bV (Ags ho (∃F1 AC d,AM1/\yy/\EA AJ F1 d v/\ ε) I (fR (AuS d))) (ACi ζ)) ht
|A_P=>{nx:=j',rt:=j',rT:=ε}|A_Q=>by obtain⟨h',g',d',tk',os'⟩:=s'|A_R=>BjO (by rw[Adm hd];simp [Yf])|A_S=>∀(BjP)(ha:Sz m a)(hb:Sz n b),_|A_T=>ε=operate ζ (ASu η θ)|A_U=>(match t with | AG=>ε | Μ=>ζ)|A_V=>e=x\/AfY e x|A_W=>fun σ H=>(Bh8 (I DI BF))|A_X=>ε[Ad5 Ad6 ζ]?|A_Y=>∀{xs ys:AQ},ε|A_Z=>by rw[ε,GM,GM,<- zC,ζ]|A_a=>sW Acz y|A_b=>(BFY fun a b=>a.1≠b.1)|A_c=>(Hc ⟨_,Β,AL_,_,AVc,rH.lookup,?_⟩)|A_d=>(AGm z0 [B',v1,v2])|BkI=>(pw 4000 Ψ)|A_e=>j7 sc ε B9|A_f=>a_ ε (a_ ζ EE)|A_g=>ņ/\SC H0/\AMk b|BkJ=>(A4 (Ka BG (FP aQ)) Ld)|A_h=>(cB g ta tb)|BkK=>BS (Afn BZ h)|A_j=>R'.sl 0 _ e0|A_l=>Q (.AN ε LV) AVm|BkL=>by subst z;rw[ε] at mu;exact mu|A_m=>∀(hn:AvR:=by rfl) (AN7),_|A_o=>[VO,LL,Pe]|A_p=>[ic,MA,"rests"]|A_q=>.BO ⟨_,_,ε,Β,Β,Β,Β,ζ⟩|A_r=>Zl (ALQ (Lk w))|A_s=>by show HA (g' =Aqq) hm.gens|A_t=>{s with heap:=ε,drawn:=d}|BkM=>(BZ Ο h).map|A_u=>g ε σ H (AUm (tb (AUo AUu AUu) σ2 H2))|A_v=>(Bmg tg ANP u)|BkN=>∃es,nK= Agn|A_w=>Z' (b∉ε) F' F|A_x=>∃ks xs,AgQ d/\ε|A_y=>(ATx CL s H fp)|A_z=>Ľ (hdS a) (hdS b)|A_0=>WI (xH Ο x' Ct)|A_3=>iU 3 (bG (JY ε) (Aew ζ η))|A_4=>B6 y (Nl y EO ADK ε)|A_5=>O6 (ε (ĝ z)) (ABZ Ph t ζ)|A_6=>by show fS ok ov st|A_7=>⟨FI,_,e,hrv,ε⟩|A_8=>Ŗ (setAttr EC f u)|A_9=>AUG (∃F0 H0,ε K F0 H0 t jR σ H Q)|A__=>(cL Γ σ H)|A_'=>(Ę AI k v)|A'A=>by show M0 B_;refine jn ?_;unfold ε at h1|A'B=>⟨x,H2,Bi0,rv,ε⟩|A'C=>by rw[q] at h;show HI;rw[ε r q];rfl|A'D=>AMw (.ε ks' ys) (Φ (ks=ks')&&ACz)|BkO=>Un (frs DE) [] H ε A8 ζ|A'E=>by show BjE;rw[ED,Ave]|BkP=>(kI h1 AL3 D.i1z)|A'F=>pz d es (ε*h es) cs|A'G=>i8 Aqx vE/\nG K vE|A'H=>i8 Acj c.eY/\nG K c.eY|A'I=>jB qs bd F|BkQ=>(ε fun ANI=>if (ζ&&η) then Auq else ANI).AGX|A'J=>aB m (f a)|BkR=>Gr F0 H0 F' H|A'K=>AfA Bi5 CL Af7 ε|A'L=>E_ (fk S n bs ε)|A'M=>∀{P:A0}{w:Ap}{K:AD}{elts:DD}{x1}{AB:AX},_|A'N=>iS ?_ (by size_fits)|A'O=>[ALY,BDx,ASn,ASo]|A'P=>AVq (A3 (Aa Β (lX (Atb ε) (AuB ζ η)))) θ|A'Q=>AVt ds AQ L3 ε|A'R=>by obtain⟨od,J,hl⟩:=I.look
|A'S=>by
 congr 2
 funext i
 rw[hf,ε]
|A'T=>AgK (hg m hm).ε|A'U=>Sq t1 K H a xs|A'V=>Sq t2 K H b ys|A'W=>∀{H:Hp}{a b:Ζ},_|A'X=>Agb (∃vs,AUy/\h.DictOf Ŭ a vs)|BkS=>sp (Aed::es) (eL (P r BF)) fun Cx=>E BF Cx|A'Y=>by show AVU n e pl;show bP|A'Z=>(relabel sc B9).BFW|A'a=>.pu (wG ADa ws)|A'b=>A3 (Te Β Β iB (OY ε ζ))|BkT=>(iy (Ac7 i) (HG (uH ps (v w))))|BkU=>Zp ta d (i' (.exc C0) ((ε)/\GV ζ))|A'c=>by show zS bs e (zG.mp h)|A'd=>∀x y c,ε ->ζ ->x=y|A'e=>pz x es (g x (c::d::es)) EW|A'f=>0::ý fun m=>(CB (iG qs m))|A'g=>(by rcases ε with z | ⟨z1,z2,z3⟩)|A'h=>(Ma ws v bs)|A'i=>∀(q:AM)(l:A2),_|A'j=>Ctx X F0 H0 E|A'k=>HG (Gp (K w) (V w))|A'l=>⟨F2,Ě s3,ATG s2⟩|BkV=>((items.toList.drop (sIx P2 0 lo)).ie (AVS - ANM)).ε|A'm=>zn Ę AI k v|A'n=>ε f t v bs (Nn (k b (zQ _ hb))) h1|A'o=>(A.ok w ((A.so.wm w).mpr hw)).1|A'p=>∀b xs,p_ WZ ->AU7 WZ|A'q=>Ã _ R1 s1 Iy ε|A'r=>⟨o,es,ε,h2,h3,h4⟩|A's=>(.Slice lo hi Ι p2)|A't=>∃i j,x= FV/\y= ACe/\C i j/\ε|A'u=>CE DE P w H s Q u s'|A'v=>(AvI FV (Agl AsC) B8)|A'w=>fun xs ds P=>(ľ ε ζ)|A'x=>by obtain⟨xs,hq,hx⟩:=hg|A'y=>by obtain⟨U,hU,hr⟩:=O.hs|A'z=>ε++ (DH (CU=w) ζ [])|A'0=>∃(AO:At) (n:Δ),ε|A'1=>by obtain⟨b1,b2,b3,b4⟩:=ε|A'2=>by rename_i dd cd sl ho|A'3=>(ArQ b o e n hb hx)|A'4=>wpAny_Call_method0_late OQ Rc (bV ε (ACt B_))|BkW=>∀{α:CH}{EB:ACy},_|A'5=>Itz K t1 t2 a|A'6=>∀σ H,Pv ε σ H ->AfD|A'7=>zs2 (zP ε Ψ) Ψ|BkX=>[c0,AdE,BDi,BDj]|A'8=>[Ĕ,ALY,ASn,ASo]|BkY=>[Arl,n9,c8,AdK]|BkZ=>J_ ([a,b,e,f].map .AN)|A'9=>On ch ((b∈Č\/AIY b)/\AVA/\ (ADY b)/\AgY b)|A'_=>Ck AJ F' H1 H' C' Nx x|BAI=>Os rs E6 cs CF ε ζ|BAJ=>∃cs t',Iq Γ 0 (.tr AU' t')/\ε|BAK=>fun i s o a e=>ε|BAM=>SH (ε ζ (AV h2 e2 sb))|BAO=>∀j,ZB M (r j)|BAQ=>i7 wpAny_lookBehind hoD (ad hdD pastItsLine_dict (zP hcD ε))|BAS=>by show T_ oj g1 g2 g3 ε|BAV=>∀(UF)(tg e:AK)(kX),_|Bka=>∀r,r∈Ο↔r∈tL|BAW=>CU=w/\Ct=h|BAY=>kD (LC (z ε Η) (z ζ Η))|BAZ=>(ŏ (fG CX P w K mg DS N FE JI f cdv A))|BAa=>∀(fc) (hd2:G_ y (ALD :Κ):=by decide) (Jc:G_ y (Ac6 :Κ):=by decide),_|BAb=>Sq t AJ H a ε|BAc=>ug knd kf led ε a ζ|Bkb=>AUI (revObj l (AVW - 1)) ε|BAd=>(My (Bno _ _) (ATP (a:=nE) (by first | rfl | (simp only [Bno];rfl)) ?_))|Bkc=>BFu (T:= BFm) (b:=Μ)|BAe=>ε f ts vs bs (Nn (k b (zX _ (zX _ hb)))) h|BAf=>∃AO:At,ANt/\ε/\ū|BAg=>k a zY _ (ε f g AHT h)|BAh=>by obtain⟨a2,u2,Β,h2⟩:=pA h1|BAi=>PassesOwn ir X.A B9 Đ|BAj=>DU z2j cx.po hc ε (NX hg)|BAk=>by obtain⟨I,i0,TL,LW⟩:=h1|BAl=>∀{Ο:GU}{x x' :PM},_|BAm=>[nv,Ars,TD,ē,VT]|BAn=>⟨l,ns,Β,ADQ,by unfold AL8;show AA,AvV⟩
|Bkd=>(by
 rcases Af8 with Β | z
 ·exact É Ae0
 ·show AIX)
|BAo=>sp (Aed::es) (eL (ou r/\P r Γ)) fun x=>Gg x/\Afc|BAp=>⟨F1,AC,R1,qA,i0⟩|BAq=>⟨SB YE,Qy,.seq ε dn,Qz⟩|BAr=>⟨_,ε,_,_,_,_,Β⟩|BAs=>fun p hp=>nL (GS (p∈ ([]:dN)) hp) A7|BAt=>(f AgT (ay j u))|BAu=>(I.ok.cab x c hfn hc)|BAv=>by obtain⟨b,_,_,Β,e,_⟩:=h;cases (e);rfl|BAw=>ε f ts us cs (Nn (k b (zR _ hb))) h2|BAx=>k _ AC F1 _ l2 _ R3 s1 q1 q2 q3 (ε ms) ap (h1 ms ζ η)|BAy=>∃i j,x= FV/\y= ACe/\ε|BAz=>∀(i:Δ) s o a,E4 ε s ->¬Ŵ|BA_=>ADb (Au_ LZ hq0 LZ) (SS (Ava hq0))|BA'=>∀{n:Δ}{f:Ő}{i:Δ}(h:i<n),_|Bke=>BjG (Γ= Bi9/\l=ε qb []/\l.Perm (AR1 ζ)/\Gi l)|BBG=>∀f,nC (ArD f) (mA f)|BBH=>∀C LH TK fp,ε BcA ζ η|BBJ=>s.heap.IsSliceOf sl vl vu BA|BBK=>∀{ta:TA}{p AB:AX},_|BBL=>io (AtO Ū) rs j|BBM=>Cds (LQ IB) m x|BBN=>∀(K:AD)(F H:Hp),_|BBP=>rQ r g (AfQ AM4)=Ε f|Bkf=>zod (s:=s) (v:= ε) I (Of (kp b o (Ev ?_) e9)) ζ (k _ _ F H BiQ Iy h)|BBQ=>(zt1 (B:=ε) (Cf w ζ)).di (ATh _ W.1)|BBR=>(ph uL i j Xg hv2 hd2 Jc)|Bkg=>entryFor_alias (id' := ε) Bh9 Β SV Bh9|Bkh=>(AHu (r= .ok (.ret AVg)/\OldK AAx YY/\s'.os=s₁.os/\AIh))|BBS=>fun d BF F2 H2 v R2 s2 r p=>(BjH r p)|BBT=>∀(x:D5)(L:Ρ)(f:AM'),_|Bki=>y s h - cQ (k s) (y s)|BBV=>by obtain⟨t,q⟩:=(GS (Ř ε) rx);show SY;exact ki ζ ALZ|BBW=>(GS (iw (Slot.ow ds) Ŕ a) Β)|BBX=>∀(t:T) (v:V) (as:Cb),(AMp ε) ->AOD ->ζ|BBZ=>∀(ts:Hd) (vs:AT) (as:Cb),(AMp ε) ->AIk ->ζ|BBa=>∀Γ F' H σ,AvN ->F_ ->ε Γ ->ζ|BBb=>∀(G:ε Fr X.w AJ ċ cy x k ps sp)(hr:ţ)(hg:KG)(ha:Si)(sT),_|BBc=>I.step (g' :=Aqq) (d' :=AKs) (ch:= ε)|BBd=>nr i j t t' s _ _ ε|BBe=>⟨_,ht _ _ cx,F0,gQ N ds,ε,V9 sF rs,hq ds Pd Ex hsp,ζ⟩|BBf=>fun b ob eb=>Ag b ob (ε b ob eb)|BBg=>(by rcases hc with Β | Β | Β | Β | Β)|BBh=>.of_wp fun CI w A R s h=>ε|BBi=>ε (knd:=pQ Fr X.w) (AI:=ws) (ep:=ep)|Bkj=>fun Γ5 F5 H5 σ5 R5 s5 q=>ε|BBj=>by show GA hT hN hsm z2k I1 (HV ⟨AI,ε⟩)|BBk=>[MA,ny,AGV,AAo,"rests","steps"]|BBl=>fun d v F' H' gr r h=>ε|BBm=>(bO n FU ti g tc te)|BBn=>Walks.list (toI (ASd hc)) CL p (zL S7) TH|BBo=>by obtain⟨go,yl⟩:=hgo ds[i] (zZ A6)|BBp=>tD ds g tb D0 E AC|BBq=>(∀a F,Jo pl F a ->uD (ABH a) F H0 (b::su) th)|Bkk=>∃as ws ps x y z,Oi (AGK ε) ws ps/\Γ= [ř,ACZ (.dic AgD AgG),x,y,z]|BBr=>∀{F' H' :Hp} {t' :T} {ε:Cb},F_ ->ζ ->AIQ t' v η ->θ|BBt=>by obtain⟨v,vs',a1,a2,Β,Β,q1,q2⟩:=h|BBu=>fun Γ F' H' σ R s h=>ε Γ F' H' σ Bim s h|BBv=>fun Γ F1 H σ R s1 h=>ε Γ F1 H σ R (s.trans s1) h|BBw=>by obtain⟨F2,H2,R2,sF,rc,at2,e1,e2⟩:=BjB|BBx=>(fnOf x FE AIf sL Ĳ BA BA BA BA Ι BA BA)|BBy=>∀(P:A0) (w:Ap) (K:AD) (mg:EX),_|Bkl=>fun l h' is e hle a1 a2 ε Ag=> ?_|BBz=>∀{ws:Ρ}{v:D5}{bd:F9}{F:ac}(C:jB (FH v) bd F){k:Δ}(hk:AvL),_|Bkm=>fun v u s2 x y H2 I2 rx ry q=>ε|BB_=>∀(K:AD) (sp:ε) (vs:AT) (H:Hp) (Q:VK) (E:XK),_|BB'=>[ASh,AGS,n9,"_law_size","_law_at","_law_base","_law_names_here",OO,"_law_name","_law_j"]|BCG=>bV (ho Ξ s2 σ H2 x y v u _ I2 r1 r2 q2) (AV ε s3 ⟨z,H3,I3,r3,k,e,q3⟩)|BCH=>∀(qe:BC z0a)(jE:BC zpy)(fK:BC zki)(aO:L6)(lQ:Avu)(jF:Bi'),_|BCI=>WA (fun ds AC F1 H1 a vs R1 s1 e1 e2 e3 r1 ap h1=>ε)
|BCK=>∀(cA:BC zc1)(qg:BC zz2)(aZ:AH7)(aW:kA)(aq:zD)(bL:ANw)(bJ:ķ cf)(bR:ķ ci)(bw:Bii)(aP:Bih)(bF:ķ Pe)(aK:AgE)(aH:AvP)(aL:Agc),_|BCL=>ATC _ MX _ _ (IM (ε::us)) ζ _ _ _ Biq (I2.env0.make C us []) hbs|BCM=>∀(i j:Ω) (t u:Tok) (s:AF) (Q:dM) (E:dM),ε|Bkn=>fun ys F' H' vs R' sF a1 a2 a3 rs ap hp=>ε|BCN=>∀(gF:BC zj1)(gG:BC zjz)(cX:BC zfm)(gH:BC zja)(dR:BC zfj)(cD:BC zc2)(bH:BC Zh)(dh:BC zey)(dU:BC zfl)(eF:BC zgn)(aO:L6)(jX:Af9)(eG:Bid)(aW:kA)(aZ:AH7)(aR:kR)(aq:zD)(d7:ZU Ce GL),_|BCO=>by intro FF ii Ξ s σ H x y v u Q I rx ry h hs|BCP=>by show AE hd hd hd hd hd hd hd hd hd hd hd hd hd hd|BCQ=>by show AE r3 r3 r3 r3 r3 r3 r3 r3 r3 r3 r3 r3 r3 r3|BCR=>by show AE rr rr rr rr rr rr rr rr rr rr rr rr rr rr|BCS=>ε dR cD bH dh dU eF aO jX eG aW aZ aR aq d7|BCT=>(AZ (by (first|subst z|show AG1|show AG2|show AG4|show AG3|show AG6|show AG5|show AG7|show AG8|show NW z|show NU z|show Mc z|show NV z|cases (z))))|BCU=>by show MO (LZ _ _ q) n1 n1 n1 n1 n1 n1 n1 n1 n1 n1 n1 n1 n1 n1 n1|BCV=>⟨ε,Afb,Afb,fun d v F' H' gr rv q=>ζ,ADU,fun _ _ _ _ _ _ _ _ _ q=>Ġ,η⟩|BCW=>by show MO q1 h1 h1 h1 h1 h1 h1 h1 h1 h1 h1 h1 h1 h1 h1 h1|Bko=>BGO ε|Bkp=>BDM ε|Bkq=>ε EJ|Bkr=>.notImplemented|Bks=>if ε then P [.AN e] else ζ|Bkt=>by rw[BCy,ε,ζ]|Bku=>by unfold Builtin.«sorted»|Bkv=>by rw[ATl]|Bkw=>ε<=CL|Bkx=>ε<=Aqs|Bky=>ε<EJ|Bkz=>by simp only [AF_] at ε|Bk0=>eval_ListComp ..|Bk1=>BpH ..|Bk2=>BGv ..|Bk3=>(by rcases zob hc with ε | ⟨_,_,_,ζ,_⟩ | ⟨_,_,_,η,_⟩)|Bk4=>by apply Bnj|Bk5=>Adu ε|Bk6=>Bn_ ε|Bk7=>BmG ε|Bk8=>by split<;>decide|Bk9=>by rw[<- hs3]|Bk_=>ε EJ=Ε ζ|Bk'=>(by assumption)|BlA=>[c0]|BlB=>[Ĕ]|BlC=>ABK+1|BlD=>BGY+1|BlE=>CB OP|BlF=>(II ns.sum)|BlG=>(II (lo+i))|BlH=>Blv _ ε|BlI=>Rat.mul_inv_cancel _ ε|BlJ=>ATK h|BlK=>AFy h|BlL=>Nat.succ.inj h|BlM=>(mw+1)|BlN=>(KM+1)|BlO=>BS D9|BlP=>BS Aqc|BlQ=>MD W.CFound|BlR=>Bn9 _ ε|BlS=>D' HQ|BlT=>AGf _ ε ζ|BlU=>BnU z|BlV=>(JP _ ID)|BlW=>da _|BlX=>Int.natCast_nonneg _|BlY=>(ATL _)|BlZ=>(ItemsOf.nil _)|BG8=>Aru≠0|BG9=>OZ YR|BG_=>KU AS6|BG'=>(xA Acj)|BHB=>CD C6 ε|BHC=>CD we ε|BHD=>TN hl|BHF=>Cc BoE|BHG=>(P4 Aqo)|BHH=>(P4 Aq0)|BHJ=>Lm Fs|BHK=>Lm Ac1|BHL=>by show DF vn|BHM=>Nc ArM|BHN=>(by show Nw;show AA)|BHP=>(Kb (AMn 0 1))|BHQ=>(ATt Acj)|BHR=>by rw[GN] at e|BHS=>vc Η|BHT=>ALf Η|BHV=>List.set_eq_of_length_le Η|BHW=>BoS Η|BHX=>Int.natAbs_of_nonneg Η|BHY=>Rat.intCast_lt_intCast.mpr Η|BHZ=>vc e|BHa=>BnM e|BHb=>Except.error e|BHc=>BmM hb|BHd=>BDv q|BHe=>BpL q|BHf=>AAv hq|BHg=>Int.mul_nonpos_of_nonneg_of_nonpos ε h|BHh=>by ·rintro C LH TK fp Ξ s σ H v u Q I r ⟨uQ,uR,q⟩;exact ε ζ|BHi=>KE ε C6|BHj=>IntMulOk i j|BHk=>(BpF ε).2|BHl=>eA ASi|BHm=>(pd AR3)|BHn=>(N2 (AxH i))|BHo=>Bl1 r|BHp=>(Nat.log2_lt ε).mpr|BHq=>aS Bl9|BHr=>c7 k Adc|BHs=>subscriptTail_builtinR (x:=ε)|BHt=>(YU .AN)|BHu=>(oP .AN)|BHv=>AK4<=1000|BHw=>(MH hb ?_)|BHx=>by show C8 (dB ε<=_);decide|BHy=>i<=BGM|BHz=>ε (ARv _ ζ)|BH0=>ai 2147483647|BH1=>((Da 0)::rs)|BH2=>aw BoJ ε|BH3=>Jn q Ġ|BH4=>TN h2|BH5=>by rw[ε,C6,ζ]|BH6=>We (BDR _ ε ζ)|BH7=>(ŉ AKw)|BH8=>(ŉ AKx)|BH9=>Sj BN|BH_=>ZU BCi C|BH'=>ZU BCk C
|BIA=>Ĉ YY|BIC=>Ĉ s₂.heap|BID=>(sc.names.map (·.1)).Pl|BIF=>(rL I.ok.Hu)|BIH=>ALB hi|BII=>ALy hi|BIJ=>(Heap.IsSliceOf.new ..)|BIK=>(As9 ..)|BIL=>AHW TH|BIM=>Ate BGY|BIN=>k<=BN|BIO=>rV ALp|BIQ=>[LL,MU]|BIR=>(CL+2)|BIS=>i5 ε Nat.not_lt_zero _|BIU=>Aei LM|BIV=>by ·exact Bou ε|BIW=>pM ý qD|BIY=>(f j).den_pos|BIZ=>ArN Aqq|BIa=>BnT h'|BIb=>HQ<64|BIc=>MB<64|BId=>LM<64|BIe=>AGs<64|BIf=>by show kl Mb ε|BIg=>(AsV gr)|BIh=>ACX Ac1|BIi=>Bmm ⟨ε,ζ,η⟩|BIj=>d.params.defaults= []|BIk=>vS[k]|BIl=>Á List.mem_singleton.mpr ε|BIm=>(AHx Acl)|BIn=>(AHx Pe)|BIo=>∃o',Md RS o'|BIp=>ASW hj|BIq=>(x,Asa)∈ε|BIr=>by rw[AAv ε] at ζ|BIs=>a≠VA|BIt=>Ar7 y=Ε ε|BIu=>ACr X_|BIv=>ŷ nI|BIw=>ADJ BFT ε ζ|BIx=>BDT _ q|BIy=>ϊ ALV|BIz=>AIS AAa|BI0=>IB<=12|BI1=>Fu MY o|BI2=>CB P2 - 1|BI3=>(xx (xN e "items") [])|BI4=>(AMc oC 0)|BI5=>(AMc vals.toArray 0)|BI6=>AK8 n==AUT|BI7=>by obtain⟨oc,od,kV,doc,pm,an,cdv,ct,osl,Β,lk,hcd⟩:=F.ex|BI8=>(yC Au FU σ)|BI9=>Iu Bnz|BI_=>ANf MB|BI'=>ANf ALu|BJA=>[ASm,ia]|BJB=>(Kb (ALj kV))|BJC=>ANq BoI|BJD=>∀i,i<AGs ->ε|BJE=>fun _ _ _ _ _ q h=>ε|BJF=>(AuJ CL)|BJG=>Bh1 ε ArJ|BJH=>AfR setEpoch ε hg|BJI=>AGL (·.1)|BJJ=>(rL I.ok.bs).1|BJK=>by (with_reducible refine BnY ε ?_;rw[ζ])|BJL=>C7 ASP f|BJM=>h a AAa|BJN=>z6 (BoO ?_ ε)|BJO=>(M3 bH BG BH)|BJP=>AsN AO ns|BJQ=>fun h' eb=>(Hb (AvW zua fp ε I ζ hf))|BJR=>s₁.gens= #[]|BJS=>by show Bi1;kernel_rfl|BJT=>by rw[AFz hi]|BJU=>by rw[List.length_eraseIdx_of_lt hi]|BJV=>(CL+4)|BJW=>by unfold ε;show Nw;exact ζ|BJX=>Af' hms.length_eq|BJY=>Af' wy|BJZ=>AgC PyProof.Rows.F.entry_set_update_loop|BJa=>d6 B_ (by show M0 B_;exact ε h)|BJb=>AWH AK7|BJc=>by show Nw;simp;show AA|BJd=>(Ty v (AHW IF))|BJe=>Ł L' ACI|BJf=>(ABm (ANB BG))|BJg=>eg MY Aej|BJh=>(AWR Ă)|BJi=>AgN YE|BJj=>Auv MW|BJk=>ε (ŏ AT1) F0 H FF ζ|BJl=>Agd (Aj.tups b ε eb)|BJm=>s.heap.DictAt AM_ a ws ep|BJn=>nP Ο ws m ε IB|BJo=>BFY R|BJp=>by rw[ALl,AsI]|BJq=>c<=Fs|BJr=>X.s₀.heap.FunFrames cy ε|BJs=>by show AOG e ε;show bP|BJt=>Ara=Ε dx|BJu=>[vx,"head"]|BJv=>C7 AAc v|BJw=>(ZA i HM)|BJx=>(BnR h1).1|BJy=>(AF' h1).1|BJz=>E7 (by show C8 ε;grind)|BJ0=>IY ys iP|BJ1=>(ĵ (BZT yfq) BG)|BJ2=>∀{K:AD}{F F' :Hp}(e:F_),_|BJ3=>(LZ b u eb)|BJ4=>(M3 cg BG BH)|BJ5=>AhT ASz|BJ6=>ADZ EC IC|BJ7=>ADZ EC vz|BJ8=>(Ahe (Ct∈U))|BJ9=>(pH (eN  BkJ))|BJ_=>(DH eC Ι (Aw' b))|BJ'=>(hμ r hr).1|BKB=>Ahu ε Builtin.«dict_keyiterator.__iter__»|BKC=>Good i (as i)|BKD=>by have hb:ε:=AK2 h;show Afz ζ|BKE=>WA (fun t AC F1 H1 v as R1 s1 nd hn r1 h1=>ε)|BKF=>BGX AGF|BKG=>BGX "object.__getattribute__"|BKH=>E_ (CB AI')|BKI=>hc.keeps LG|BKJ=>Ad0 (· <= ·)|BKK=>OR=AGw|BKL=>As4=MZ|BKM=>As4=FK|BKN=>(BpF z).2|BKO=>x++HM|BKP=>by show Avz Y3|BKQ=>(ALQ kP)|BKR=>(Av4 its.getD)|BKS=>(PySem.F.args_dict_get_3 _ _ _)|BKT=>(du fK ko)|BKU=>(ET z AAa)|BKV=>(xF DN Ñ)|BKW=>(o6 J9 A5)|BKX=>(o6 z2t A5)|BKY=>WH ps ⟨#[],by rw[ε,q];simp⟩|BKZ=>(LO jr sx 1)|BKa=>(yA IC Afi)|BKb=>(yA IC (At0 Aur))|BKc=>(.ob C AUe Awb)|BKd=>(.ob C AUe (ts++ [fq]))|BKe=>(∀p∈ps,Kv 300 p)|BKf=>by obtain⟨AO,r,pl,hz⟩:=iO hq|BKg=>by obtain⟨AO,r,pl,hz⟩:=Ē hq|BKh=>Go (Ε Μ)
|BKi=>Ç (ALU j)|BKj=>Ç (i.fdiv j)|BKk=>ATB (Bn6 ?_)|BKl=>z6 (ASi (z6 ε))|BKm=>NJ Prod.fst f|BKn=>NJ BGy f|BKo=>AOo e L'|BKp=>AgP AS2 e'|BKq=>AgP AS3 e'|BKr=>Awn ć|BKs=>ε it d DI FK ep|BKt=>fun b o _ _ hc e _=>⟨o.slots,ε⟩|BKu=>Ah_ (∀P,ε ->EB (f a) P) ζ g|BKv=>fun b ob q _ _ _=>ε|BKw=>by show BI f hf ε AtN ζ|BKx=>(Afj g as bs)|BKy=>((ABH a).wsh AwZ)|BKz=>((ABH a).wsh ⟨xe,z.pn⟩)|BK0=>by exact Fk (GS (Md L' _) k)|BK1=>by exact Fk (GS (Md Adq _) k)|BK2=>ATj (cnt q l)|BK3=>ATk (cnt q l)|BK4=>(GS (Bmi a TH) p)|BK5=>(GS (s1.heap.IsTuple a TH) p)|BK6=>∀(k:Δ) (h:k<BN),ε ->ζ|BK7=>∀(k:Δ) (h:k<Ad4),ε ->ζ|BK8=>AxP Acs|BK9=>(Iw Fr X.w CL ns)|BK_=>(Cu Fr X.w CL ns)
|BK'=>by
 refine ε AN4 dC (fun w hw=>Vq rx fx r fs w ſ) (AI2 ?_)
 rw[AV4 (AsF (Cj x)=its.any AN4),Vp r fs]
 exact q
|BLB=>Fs* (m+2)|BLC=>by simp only [C6,GM]|BLD=>PySem.Slot AL_ ε ζ|BLE=>seqIndex? i ε=Ε j|BLF=>ε AGa (P.zip vs) m x=Ε v|BLG=>by unfold gY at ε;simpa using ζ|BLH=>Bl5 _ Ψ|BLI=>by rw[ALy hi']|BLJ=>DZ Ap AL|BLK=>DZ V AH|BLL=>(CL+3)|BLM=>Ε (P4 Aqn)|BLN=>(OY BG BH)|BLO=>(Ħ i AG)|BLP=>om ZB.zero _|BLQ=>by rw[ANq Bn5];refine ε|BLR=>(a::dx::(AOw [c]))|BLS=>wx fun ε ζ=>(NE η)|BLT=>(BjX (AGY+1+n))|BLU=>(hte _ _ cx)|BLV=>(ET P.size hm)|BLW=>g5.get? c=Ε o|BLX=>(p.co Ct).mpr|BLY=>i8 d.name fa|BLZ=>bV (ε Ξ s2 σ H2 _ I2 q2) (AV ζ s3 η)|BLa=>(yA cn qB)|BLb=>(∀q∈l,AOb)|BLc=>j_ þ þ|BLd=>j_ S4 S4|BLe=>by funext j;unfold io;grind|BLf=>by rw[FA];unfold ε;rw[ζ η];rfl|BLg=>(∀p∈ex,Bil)|BLh=>(Kb [kV k,v])|BLi=>Atl AdD this.symm|BLj=>s.heap.Ns VA m|BLk=>(A3 (ygc (i:=1) Β IJ))|BLl=>(cB jr A5 An)|BLm=>(cB jr AhR A5)|BLn=>(ANE m (f j))|BLo=>ANi kP update|BLp=>Ord lt MB|BLq=>(LO d9 An 7919)|BLr=>(Af_ x (D.bl (f x)))|BLs=>Bjm Aq5|BLt=>Bjn RR|BLu=>(fun p q=>AxX)|BLv=>Agv is.Perm MB|BLw=>(Agw (Ah2 bs))|BLx=>W.isFn AJ Lc=Μ|BLy=>ĵ (Tf ε aq VZ BH) BG|BLz=>∀(q:Ζ) (xs:Ρ),ε|BL0=>(AOW [] Db y0)|BL1=>(N2 (r j+io ks ss j))|BL2=>Bl6 mA (fs.map (·.1))|BL3=>Bjr Aqw|BL4=>(Hc (Hc h))|BL5=>l.any fun s=>rM b (e - s)|BL6=>nX x c e|BL7=>fun w _=>by by_cases q:ε<;>simp [q]|BL8=>(DH (i=p) _ _)|BL9=>⟨BN,DC,K2,h0⟩|BL_=>fun b o hc e=>(We ε)|BL'=>ALX JU A (.Aqm ε ζ) η s|BMA=>∀(t:cW)(g:uF)(tb:aD),_|BMB=>Bjv Aqn|BMC=>(Tm q Bjq)|BMD=>∀{cs:CF},cR (bX ds ε) cs=ζ|BME=>by show Bjx bne_self_eq_false|BMF=>by rw[GN] at h1 h2|BMG=>∀{elts:DD}{x1}{pt:AX},_|BMH=>AV k hk hle|BMI=>(W.looks_subIn VI ε).here|BMJ=>(Itv K a xs)|BMK=>(DH (j>i) j i)|BML=>ABg (ADm [0] An ε)|BMM=>[eI E3,J_ [qD (OW b 0),qD (OW (b+1) 0)],ε,ζ]|BMN=>Bj7 Bo9|BMO=>(AUl (v= B8/\M1 Zs H'))|BMP=>.ob C fs (uY fs ts f (Bj6 ε ζ))|BMQ=>∃a AI,v= B'/\AV0 P8/\ ε|BMR=>(AN_ (bU (na b hb)))|BMS=>(.BinOp a op b AB)|BMT=>by obtain⟨m,hn,hl⟩:=nN|BMU=>(fun i σ H=>AwX)|BMV=>(PIE X Ξ σ tg R)|BMW=>Ky (t B) ε (fun w _ P' h' =>ζ) ?_|BMX=>Acw AgR (ALb (Y1 _ _)) ε|BMY=>(.IfExp c a b AB)|BMZ=>(AwR l r f)|BMa=>(.ATY 0 0 ADR)|BMb=>fun D σ H=>te σ H ε|BMc=>(zml hq' Β ?_ kp)|BMd=>fun c o hb e=>AL2 c o fN ε|BMe=>BkV vt|BMf=>⟨⟨vs,v,Ahw,hv⟩,ε⟩|BMg=>ε [d] [v] (A3 ⟨hp.1,VV⟩) (Nb ζ)|BMh=>Bkb ć|BMi=>AT6 (PI LP tg e (ABZ ε t E))|BMj=>Bkg "dict_keyiterator.__iter__"|BMk=>∀(AWw) (mg:EX) (DS:AL) (x:Κ) (k:Δ) (ps:Ρ) (sp:dw),_|BMl=>fun s Q E hit hg _ hQ=>ε|BMm=>∀(F:Hp) (ks:GH) (R:AVX) (v:V),_|BMn=>fun i s Q E hi hit hg _ hQ=>ε|BMo=>BmM hf|BMp=>Ĥ AVR|BMq=>Ad8 Ad9|BMr=>As3 (<- Bj8)|BMs=>unsupported "internal:set_iterator"|BMt=>zpu O.tok.ris|BMu=>Manifest.signature? Aqo|BMv=>pre.getLast hne|BMw=>List.cons_eq_cons.mpr (Hb Aw7)|BMx=>BmZ Int.ofNat_le|BMy=>v_=Id|BMz=>oT.data= AHD ts|BM0=>(RR:Κ ->Key)|BM1=>(rL I.ok.bs).2|BM2=>by rw[P1,AdX]|BM3=>by rw[size_push',As9]|BM4=>by rw[ε b (FB (hb (Bld _ h))),ζ]|BM5=>by have SF:=PySem.F.store_ValueError|BM6=>EJ≠pv|BM7=>CL<ASz|BM8=>Fs< AxR|BM9=>x h0 - x' h0|BM_=>by simp only [ATc,BFj]|BM'=>by rw[ALh,ALh,ε,ζ]|BNA=>by unfold dB BFH|BNB=>by rw[C6,wf] at ε⊢
|BNC=>by (show Lv v v v v v v v v v v v v v v)<;>try (show OE)|BND=>by rw[<- ε,Acy,AL9] at ζ|BNE=>BGw Bjj ε|BNF=>(U' C)|BNG=>(ASd hh)|BNH=>wpAny_Call_ofName (Ż h (Ahv ε) ζ)|BNI=>(by rw[Rr];exact TN Β)|BNJ=>Ar7 y.1=Ε ε|BNK=>(by rw[VU]<;>(show w9))|BNL=>(by simpa [Rat.not_lt] using q)|BNM=>[W.topFrame _Hd.z]|BNN=>⟨VV,h⟩|BNO=>⟨AZ (by(show AIX)),ε⟩|BNP=>⟨fg,CY hx⟩|BNQ=>⟨ai 2,Aq Ψ⟩|BNR=>(B6 f (! ADT))|BNS=>(B6 zs AxF)|BNT=>bU (Blf ε)|BNU=>[pv,EJ]|BNV=>by obtain⟨o,_,_,_,e,_⟩:=hS;exact ε|BNW=>ATh _ Τ|BNX=>ε (BpK hb)|BNY=>.pu (.exc C)|BNZ=>hA b (AOQ q)|BNa=>LN (Ad6[i]+1)|BNb=>B7 OM (AV' x)|BNc=>B7 Ac7 i|BNd=>(Fs - c)|BNe=>(BDT _ q)|BNf=>(ATh _ h12)|BNg=>(List.dropLast_subset _ hk)|BNh=>IL AS6 AhL|BNi=>(Μ==Μ)|BNj=>(jS i 2147483647 Ψ)|BNk=>(by intro q;show SY)|BNl=>.By (ε++OM fun h=> ζ)|BNm=>wg.h _ _ ha'|BNn=>C7 dP vs|BNo=>C7 TZ pD|BNp=>Ad8 Ad9 =Μ|BNq=>(ĝ z).hand a|BNr=>ATB (As0 ε ζ η)|BNs=>(gs.getD i d0)|BNt=>Fk (BoN ε (Da ζ))|BNu=>(Bmo hg).1|BNv=>(BnR h3).1|BNw=>xB LJ ((s₂.heap.push ε).Ps ζ)|BNx=>(Ĩ*b.den)|BNy=>(im*VX)|BNz=>(.dK ((ks++ [kk]).zip AU0))|BN0=>J_ (OM fun h=> ε)|BN1=>J_ (AdP gl)|BN2=>Mn (b∈bs) SW|BN3=>Mn (Best l b) (bS [qD (OW b 0),qD (OW (b+1) 0)])|BN4=>(ET hsz hb)|BN5=>.EI (k.map nY)|BN6=>by unfold rM;simp [q]|BN7=>Zl (ALw (ALQ kP) ε)|BN8=>(ps++ [([],[])])|BN9=>(gB.fs++ [(Acl :Κ)])|BN_=>Ħ k af|BN'=>(eN  (pk aJ))|BOB=>eN  (A3 (PL ε (eN  (ANu ζ))))|BOC=>aN K Su h_|BOD=>(by rw[BjY] at e;exact e ▸ ha)|BOE=>S.par n (Bie hy)|BOF=>Ad8 Ad9 =AG|BOG=>W.tail_of_in X ht|BOH=>h s (zX _ hs)|BOI=>call_reversed_list dC ?_|BOJ=>ZB.mono h1 ?_|BOK=>Op (AH×At)|BOL=>∀x∈AwO,f x=0|BON=>by subst e;rw[Rat.div_mul_cancel hp];grind|BOQ=>qD (X (Ac2 h))|BOR=>KE e2 Array.append_assoc|BOS=>BoJ ADH ε=AG|BOU=>pM ADe (N_ Ah9)|BOV=>by show SG (AGB h3)|BOZ=>by show D' (ε+1);show Nw;show AA|BOa=>W.tailIn K KC ε=Μ|BOb=>W.readsIn K ε Av5=Μ|BOc=>(WE bd (0<=b.1))|BOd=>(WE (a::cs) (SC F'/\jg AHO H b=Ι))|BOe=>(N2 (f j - AI3*q j))|BOf=>[Ag6,.AN (f h)]|BOg=>(∀a∈b1++b2,AhX)|BOh=>Inv.landed (t' :=s'.toks)|BOi=>(mH qs).dL|BOj=>i7 Bkc ε Bns|BOk=>Qb ĉ hq|BOl=>[a,.vj x pt]|BOm=>(AHI ADg AKz)|BOn=>(.AS (rK xs))|BOo=>T' ys ys[j]|BOp=>eR (W.methodObj Lc ε)|BOq=>(AR1 i).foldl|BOr=>(fr t' b').2|BOs=>jI wpAny_keeperOf_exc hC'|BOt=>R2.sl i _ e2|BOu=>(fr t' b').1|BOv=>Gr F H (pr (Agt eC ε)) ζ|BOw=>eg Agh (SW/\MI H')|BOx=>BEY (bV ε (ACt ζ))|BOy=>ń (vk _ _) (AVp [_])|BOz=>∀(x:ü (ü AH)),_|BO0=>Q () (ABe h' tk')|BO1=>jn ⟨Qb (jQ r1) ε,ζ⟩|BO2=>(o9 n (HH (A i n)))|BO3=>(yg AAx H)|BO4=>We (Aws eo)|BO5=>ASO b u ε n|BO6=>(UK Asr e2)|BO7=>(UK ĉ hq)|BO8=>(fF (ASd hc))|BO9=>j_ vE vE|BO_=>j_ Su Su|BO'=>BEV v T|BPA=>by show c∈_;simp|BPB=>Arf (t' :=LV) ε|BPC=>AMd Builtin.SmallTypes.nextOf it|BPD=>Ad5 xs j|BPE=>fb ε (PH (Pm n q/\Up lt q n))|BPF=>(.BFZ elt [⟨AdA,NM,ifs,0⟩] JI AB)|BPG=>kT Array.perm_iff_toList_perm.mp ε P|BPI=>y_ (A4 AN' (Ll ε))|BPJ=>r6 Bna ALA ε|BPK=>Agy/ Lm 27720|BPL=>AV j s' q|BPM=>AV r' s' hq'|BPN=>sB (Ka BG (FP ε)) (FP (Ţ ζ))|BPO=>xD Fe 3 (A4 AN' ε)|BPP=>Lean Ο vq x'|BPQ=>[eI ý,ε,DO,DO]
|BPR=>Prod.ext e1 e2|BPS=>Á BnM e|BPT=>AMt z7 BFn|BPU=>AMt ASe z6|BPV=>AMt BFp z7|BPW=>HH (Ħ i AG)|BPX=>p.2= ł ->DA≠x|BPY=>s_ (ANK ε (AUp wF))|BPZ=>ACp (Bju ((0::((List.range (k+1)).filter (jA f)).map (· +1)).map intD))|BPa=>ACp (Bkk DI)|BPb=>(cv k).iF|BPc=>RS l=Ε (AMc ε e)|BPd=>oP fun w=>ACP|BPe=>vF m b=AG|BPf=>AUb (h∈k s) Bki|BPg=>Ck K F' ε H' C dx x|BPh=>Go (Ι:dq)|BPi=>tn 0 AdJ|BPj=>release [v,ov,iv] []|BPk=>(Builtin.«zip.__next__» (IM [.B4 z]))|BPl=>(AV3 _).AR2|BPm=>Inv X Ξ AwS H s'|BPn=>AMI AMR (.seq BnB n')|BPo=>AIT (ASb 40) (1+ AxK)|BPp=>ϔ NM wi|BPq=>C7 ε qs=Fs|BPr=>∀o w,u≠ .frz o w|BPs=>∀i∈ε,∃k:Δ,i=F8/\ζ|BPt=>by rw[Abq,AF_]|BPu=>(qD (x' m[j]))|BPv=>(.EV es AB)|BPw=>r=Ι/\Ī s1|BPx=>fW (II Ì) (II ε)=Μ|BPy=>HZ fz b hb|BPz=>fun σ H R=>te σ H (ı v ε)|BP0=>∀{x y:AM}(h1:vd x)(h2:vd y),_|BP1=>PQ [NO] NO ε|BP2=>r_ z.cps.toList i c|BP3=>⟨.AS ε,H,ACO,D_,q⟩|BP4=>ANg (ε (Γ'.set i DO))|BP5=>ANg (Ae4 (W m' B5))|BP6=>tn DI AdJ|BP7=>(Ad5 xs j)|BP8=>GB ->AM ->AM|BP9=>ANi (WG BFg #[Wp,Ahb]) ε|BP_=>AIu FF tn|BP'=>(kvs.map fun kv=>(Ah7 y))|BQA=>AVG Adq AxL|BQB=>(q_ (mine a ha))|BQC=>AI1 (zI tb y (r x y H2 ε))|BQD=>Afg (BFc (s4.trans ε))|BQE=>ST (PH ⟨Awu,Υ⟩) d hd|BQF=>Afh AcE Ra|BQG=>Afh AcI Ku|BQH=>Afh AcN X7|BQI=>Afh AcO T6|BQJ=>AOE zkq (Lu p vs ε)|BQK=>by show GG l xs hq q q1;show BI u Β rx ALW r1;show AE rx rx rx rx rx rx rx rx rx rx rx rx rx rx|BQL=>by have:=ha.1;have:=ha.2;show Ô hb.1 hb.2|BQM=>MY p=Ε AOp|BQN=>by rw[FA,FA];refine ε|BQO=>(.B4 Zs::vs)|BQP=>G7 X L9 tb|BQQ=>(ABa SL f Qu)|BQR=>I_ (j - i)|BQS=>v8 AJ H a xs|BQT=>AOd z cn|BQU=>(.ALH SL k HP)|BQV=>∀i,s<=i ->i<s+n ->ε|BQW=>Auj (B6 s (Ae2 (x' qh)))|BQX=>SlO K F H H0 ds o|BQY=>∀(hb:AUS IC Av6:=by show dk),_|BQZ=>j8 Awr BN|BQa=>(.EB (.LY d))|BQb=>(E3 f).sum|BQc=>by rw[lh,ALC,ε];rfl|BQd=>Me (bQ K þ vE)|BQe=>Me (bQ K S4 Su)|BQf=>AV5 MW ε (fun a=>ζ)|BQg=>(Af_ j (AOm (f j):Κ))|BQh=>AV6 BGR v6|BQi=>ER (sIx n n hi)|BQj=>AWJ (xA ε) HM|BQk=>AsR=cls/\Adh=ε/\ ζ|BQl=>(AAy H p aI)|BQm=>Aut BCm Aq0|BQn=>AWa (yA U2 Aux) ε|BQo=>[eI ý,.ow ŋ,AhQ,Afl]|BQp=>ACn (MM Rn C5 ε)|BQq=>AWg (Builtin.SmallTypes.ownedTupleIsFree (Bn z))|BQr=>HZ far b (AZ (Aha hB))|BQs=>fun d AC F1 H1 v R1 s1 r1 h1=>ε|BQt=>WU Av3 (b∉iN) ANL|BQu=>Au6 [b] Bi3
|BQv=>(by
 rcases JJ hb with hb | hb
 ·exact ε
 ·exact⟨eK hnc,AVy hnc⟩)
|BQw=>(by
 rcases JJ hb with hb | hb
 ·show FR hb
 ·show He (WJ hnc).2)
|BQx=>∀o∈l,SD o|BQy=>by have z:=Int.dvd_gcd_mul_iff_dvd_mul.mpr Τ|BQz=>(fun t B5 =>(BjJ (Q t)))|BQ0=>As7 (Flow.ret v)|BQ1=>hs8.extBut _ _ ε (hs7.extBut _ _ ζ η)|BQ2=>D' (C7 BiF AGq)|BQ3=>AZ (e (BEk z))|BQ4=>(hz i him).2|BQ5=>(.ALG es k AB)|BQ6=>(xD W0 1 Av0)|BQ7=>∀j,ε ->j<k ->fe k j|BQ8=>∀j,ε ->b<j ->AgS<wd l j|BQ9=>d_ (AUA AvB) tk|BQ_=>d_ (AUA AwA) LV|BQ'=>gY qs bs=AG|BRB=>M_ ŭ (F w)|BRC=>∀j,dB (g j)<=143|BRD=>E AC (.pay C [f1,f2] BkG)|BRE=>(qa (Ħ i AG))|BRF=>hz _ (zn8 Η)|BRG=>(kU BG BH EQ)|BRH=>AMn (CB (C7 ý qD)) 1|BRJ=>exec_Assign_Name_used _ _ _ _ hsw|BRK=>aB Ο (eL (g r*g r))|BRL=>by show Fh AO rv pl hz ADh;show AhP|BRM=>Tb a b=1|BRN=>Rs ŋ Ι (Ε 2)|BRO=>(iL (cY (Ae A5 AWp BL)))|BRP=>N2 (r j+io (k::ks) ε j)|BRQ=>Gr F' H' F4 H4|BRR=>Ahn BoI (AgC PySem.F.entry_list_iadd)|BRS=>F7 (∃a b:AM,AvD (WP (TC (a<b))))|BRT=>[AII,ACg,AVF,ANU sz,F6 at_,J_ (ANE 8 ANe),.ow AIM,ε,x2,x3]|BRU=>ü (AF×Thread)|BRV=>Aht (∃u,AV8/\LDn u)|BRW=>GI l a ((f a+d a)* (f a+d a)) ε|BRX=>pz x ds (g x (a::ds)) ε|BRY=>(Ahy (YI KP))|BRZ=>MR zk I2 (k _ ANx)|BRa=>pz d es (s d*h (c::es)) ds|BRb=>∀(he:oz [a] a []:=by rfl) (he2:AMj (At0 Aur) (ABW Aur [a] wt):=by rfl),_|BRc=>(AIp _ n n)|BRd=>K6 (j:=27720)|BRe=>u=Aq' n|BRf=>D ->D ->AU|BRg=>(AK' DI).flatten|BRh=>⟨q,BEM _ _ _ (HV q)⟩|BRi=>⟨u,Cc e1,e2⟩|BRj=>⟨ob,h1,h2.2.1⟩|BRk=>j6 (TZ Ei)|BRl=>ZH (zA hi)|BRm=>qD (BS (f h) - ÿ h)|BRn=>AV x H2 y|BRo=>DZ (EX) AL|BRp=>G0 V6 es gs|BRq=>rM (Ħ k af) ε=Μ|BRr=>∀v∈vs,(∃k,AWq ε k v=Μ)/\AU8|BRs=>(∀v∈IF,(∃k,Afs)/\AU8)|BRt=>AZ (q (UH ħ z))|BRu=>Lu a oe (s1 _ _ e2)|BRv=>MR SZ (ygv I2 d) ε|BRw=>pp (hd i j F) hp|BRx=>WS e n ?_|BRy=>BGB a es1 t2|BRz=>(.dic ks (AIL ts.map Ea))|BR0=>(rD BV AGc [])|BR1=>(rD B9 Pw [])|BR2=>(.xd [(f1,v1)])|BR3=>Ŗ (ANX AK0 [u,c])|BR4=>k1 c o fN fN|BR5=>(AwQ Mb fh)|BR6=>dy hb e (ε b o (PP (WC hb h)) e)|BR7=>wu (C7 ANk f) IO=Ε n|BR8=>AVV p1.length (jQ q1)|BR9=>AVV p2.length (jQ q2)|BR_=>fZ Ο w= []|BR'=>(fun a F0 hA=>(JO (bK  (AhI yU))))|BSA=>(AS3 xs k).Ć|BSB=>by show Awj h1;rw[ALB hq] at e2|BSC=>Ahr ADG 1 (JA+1)|BSE=>s.heap.IsKeyIter it d i FK ep|BSF=>Biz AhE (bS (AOg qD))|BSG=>Biz (Fs<=61) (P (lH ACS))|BSH=>(fun j hj P hP=> ?_)|BSI=>(fun i hi P hP=> ?_)|BSJ=>x0 Abu ALK VO Gj|BSK=>x0 Ab7 ALK VO T5|BSL=>Bi6 Abv Ud|BSM=>Bi6 Abx Ue|BSN=>SlT K F H H0 as t o|BSO=>SlN K F H H0 as ts o|BSP=>Aw5 (∀c ds,NN+1=ARx ->ε) ζ|BSQ=>[(f1,v1),(f2,v2)]|BSR=>(Afj (xh b (D.bl (g a b))) as bs)|BSS=>(AxA (Bn Zs) Zs)|BSU=>∀{i j:Ω}(h1:fI<=4000)(h2:dB j<=4000),_|BSV=>∀{i j:Ω}(h1:fI<=8000)(h2:dB j<=8000),_|BSW=>∃x y z,Γ= [Ahm,AWl,.ow ε,x,y,z]|BSX=>(kn I sF r rv)|BSY=>(kn I sF r' ru)|BSZ=>Fu H (XO x C Ι)|BSa=>∀w' s',AVY ->ε ->Q w' s'
|BSb=>(by
 rcases JJ hx with q | q
 ·exact zQ _ q
 ·exact zR _ (zX _ q))
|BSc=>∃f fd,ε/\ANR Lc/\AWi/\AIU|BSd=>∃f fd,ε/\Mk K C f/\ANR HE/\AIU|BSe=>To fV o4 k f fd ps (ε K C fl sp)|BSf=>To fV o4 Eg f fd Awa (ε K C fl sp)
|BSg=>by
 show BE (AsX ALP ?_) ⟨EJ,[EJ],_,_,H1,Β,AOj,ε a _,ky,L7,ζ⟩;show AWb
 exact AWv
|BSh=>I5.turned (t' :=s5.toks) (it:=C) (AHV Bio) c1 c2 (FM c3) c4 c5|BSi=>.B4 x::GY|BSj=>w∈ BkM (eL CU)|BSk=>(fun b ps e=>⟨#[],by rw[e];simp⟩)|BSl=>((AC_,ε),(Μ,ζ,good w))|BSm=>fun F=>qT Iy (q2 F)|BSn=>if x<CU then ε else ζ (r::t) x|BSo=>by rw[tk,AK5,Acy]|BSp=>a=VA\/Bje a|BSq=>Inv.made (C:=C)|BSr=>Ahg o - x o|BSs=>by rw[AGI,AK5,OV,ε]|BSt=>by rw[AwH,GN,BEO] at ε|BSu=>BEV EC vz|BSv=>raiseStmt BV (Dx m) ε|BSw=>by simp at h1 h2;subst h1 h2;show AxY|BSx=>(Ade vs).AGX|BSy=>As8 AOI=Ε oe|BSz=>⟨?_,rc,rn⟩|BS2=>t.slot j= .empty|BS3=>Slot.pu (lH S)|BS4=>Awd (ArO BkD)|BS5=>UnR X ε (rU fun i=> .AN ζ)|BS6=>wpAny_Name (ε D3) hd|BS7=>ZO ε (AG' s1 h' tk)|BS8=>C.up _ _ Η Η|BS9=>i< C7 AME AGq|BS_=>∃k,k<n/\r=iD A k|BS'=>(C.en Eg hk).1|BTA=>Cc (NJ Array.toList d1)|BTB=>I.pins_of fun p hp=>ε|BTC=>GZ (200*27720) (ε QU ζ)|BTD=>Of (Â (Q3 n1) (Q3 n2) e)|BTE=>⟨n2,Β,Atd _,?_⟩|BTF=>ES ϒ [LL,Pe] ε|BTG=>My (runValue _) (BGD ε)|BTH=>N0 is CF (∀i∈is,ε) ζ|BTI=>(AV i v hv)|BTJ=>(AV v H1 hq)|BTK=>(ad I.ok.glob BmT I.bk)|BTL=>ds= [Ag9]/\mw<=1000/\ε|BTM=>fun r s' =>r=w/\ϕ r s'|BTN=>∀j,ε ->AgS<=wd l j|BTO=>WS hb eb (aw hb eb)|BTP=>ε (bV (pS hc) (ae d))|BTQ=>ABn (sB (Ka ε (FP aQ)) Ld)|BTR=>∃sl,Md RS {o with AK6:=sl}|BTS=>R.put i ε (Lo h ě)|BTT=>D' (BN+MZ)/\ε|BTU=>by have e:ε (C7 ζ η)=θ:=KE C6 wf|BTV=>z8a r _ _ hr|BTX=>kG (Agx/ BS j)|BTY=>Aen (ArX e B9 ε) TP|BTZ=>⟨z,H,I,sY,q⟩|BTa=>∀(UF)(es:DD)(t:cW),_|BTb=>s0 ⟨kD (AOh ε),kD (ζ p hp).2⟩|BTc=>∀(sc:OK)(x:Κ),_|BTd=>∀a vs,zo ->ε ->R vs ->ζ|BTe=>Ae3 AH_ (AT7 k)|BTf=>fun b o eb n q1 q2=> ?_|BTg=>AIQ t' EC AU'|BTh=>⟨HC,Ι,Aek ABK,#[]⟩|BTi=>A9 i j hi hj|BTj=>bindArgs ε AV_=Go (AdS us)|BTk=>∀{AGa:Κ ->MD ASq}{x:Κ},_|BTl=>AOF (AWm (ε hq rs hz))|BTm=>R6.sl j sl e|BTn=>(pr (ABi AHr H' (F' b)))|BTo=>fun Γ P _=>te (nO Γ) (fun d _=>ε) jR|BTp=>fun h' M7 hs=>h _ ?_|BTq=>⟨Β,DB,tab ε ζ _ (C3 (ygw _ _ _))⟩|BTr=>⟨r,h1,h2,h3⟩|BTs=>fun b hb z=>n1 (z ▸ zX _ hb)|BTt=>fun b ob u q=> ?_|BTu=>Xz (t:=z) (b:=27720)|BTv=>∀i j,i<j ->j<r ->ε|BTw=>ε AK_ hk hc hcell|BTx=>Meets (ε (IM [SZ,AIt])) ζ|BTy=>Ag1 (AfP ε Avt AvX) #[] ζ|BTz=>(∀x∈xs,0<=x/\x<2147483647)|BT0=>[MA,ny,"backward","lists"]|BT1=>⟨AwJ,H',I3,Β,q3⟩|BT2=>eZ K F H ts vs bs|BT3=>Os ns Bz AO At ε ζ|BT4=>∀ms:Ρ,Avc ->(ε) ->AWA Ÿ|BT5=>AUx H1 Ats AdF Bi2|BT6=>DH (ε<0) (I_ (ζ+ AVx)) (min (I_ η) D9)|BT7=>MR zk (AvW vy o ε (AUY ob) Kt ?_) (q _ ANx)|BT8=>{D with nx:=u D}|BT9=>EA K (jt F0 F') d v|BT_=>(h u _ AH6 ru)|BT'=>Oy a ha b hb|BUA=>∀{Ο:C4}(L:sD),_|BUB=>k b u (hb b n) q|BUC=>yG ps x=uH ps x|BUE=>AWn (yH b u AuA (sS b u eb))|BUF=>∀(s:AF) (u:AH),BkH
|BUH=>by
 show Ahp ε
 ·show AWu gP
 ·rw[gP] at z;show Lw;show ϖ
|BUI=>∀{α:CH}(l:CO)(ε:ů),_|BUJ=>fun C D Γ E=>(GT ε (th1 D Γ E) ζ)|BUK=>∀{Ο:C4}(u:MS)(w:Κ),_|BUL=>ALt Ξ σ AC F1 H1 s2 EC ε I1 R1 ζ|BUM=>(hd j hj hj)|BUN=>(Arw ov LE pl)|BUQ=>WD lt (W.kas_sort MB)|BUU=>(((AwG).extBut.push _).Ps _)|BUV=>Bjy ε Acm "type.__getattribute__"|BUW=>Bj0 hz (AV g1 D8 hs1)|BUY=>(Bj1 (ZY p) [e,e2])|BUZ=>GI hs o (fu S h o*x o) ε|BUa=>Aee (sR ds AUF ε [UO] ζ)|BUb=>Bj4 (T.hasType BEz)|BUc=>bq Ο C4 U Ρ ε|BUd=>by show zS w hw (ZH (AK3 hq))|BUe=>ε (WG (Wu t1) #[.B4 l1,ADl])|BUf=>by show GA f hf CA p.sub S hS|BUg=>(gj ks vs k v)|BUh=>(Afj (AxC v) ks vs)|BUi=>zn9 e r _ ε (Cf c' q)|BUj=>∀{K:AD}{F:Hp}{d:D}{v:V},_|BUk=>fun b u e=>wg.h b u AwM|BUl=>∀(K:AD)(C:Ζ)(f:Κ)(sp:ε),_|BUm=>∀vs H Q E,Ah3 ->Bjd|BUn=>∀{α:CH}{l:CO}{i:Δ}{d:α}(h:Av2),_|BUo=>⟨ε,ds,_,_,LZ,rs,ζ,η,fun x C dx F' H' hE gr xr=>⟨x,F',hE,gr,xr⟩⟩|BUp=>fun h1 h2 q st=>q.stay st|BUq=>(yD 2 (cU jT o_))|BUr=>⟨P,a1,AON (r<=n),a3⟩|BUs=>FY l2 ms hl2 hp hs|BUt=>∀b o u,p_ ANp ->AU7 ANp|BUu=>Ar2 s fd E9 (ε us)|BUv=>k _ _ _ _ _ R IP ε|BUw=>BkO H' YY|BUx=>fun a ha b hb n e=>ε|BUy=>CZ (CW ws v bs k)|BUz=>Os u HO b Ζ (AHE H A8 b u) (AHE ε A8 b u)|BU0=>fun x hx y hy e=>dis x hx (e ▸ hy)|BU1=>⟨ś (∃xs x,Ų/\ef),fun i H x H' =>ε,ś (∃xs,Ų/\AWD)⟩|BU2=>WalkO q YA XP YP AsO d [] Aw8|BU3=>∀{ds:AQ} {vs:AT} {ns:ε},L3 ->ζ ->vs=wP η|BU4=>N_ (k.stay Aww (bX z BjA) fun c xs z=>BjA)|BU5=>WA (fun ds AC F1 H1 J Hx R1 s1 hx hJ h1 A1 ha=>zqh R1 hJ hx ha h1 (Bkn ε))|BU6=>MS ->BjS (p=Bjw)|BU7=>(∀a,Good i a ->P [F i a])|BU8=>(XD hn hg k Η).2|BU9=>if c then a else b|BU_=>by rw[GM,BnL,ALV]|BU'=>xs[k1]?=Ι\/BkC|BVA=>∃q,IL RS q|BVB=>by obtain⟨od,J,_⟩:=O.look|BVC=>f p*AeR rs cs|BVD=>by show zn yC AGo FU σ=N'.length|BVE=>nx k % D9|BVF=>by rw[AeH,<- hkl,AMD] at ε|BVG=>let ⟨j,a,b⟩:=(ok r hr).2;⟨j,Υ,b⟩|BVH=>ASI YY (a::fw)|BVI=>(hx (Tp,ot) A7)|BVJ=>(W.codeRec_of KX hcd)|BVK=>by unfold frs;rw[ArR,hf];exact ε|BVL=>ε ->G2 ->DZ (Ag0) XW|BVM=>mA EO=Ε v|BVN=>(by rw[l1',l2',z])|BVO=>⟨hb,AH3 hb eb⟩|BVP=>⟨hr.1,AIw (wpAny_point (z7 ?_))⟩|BVQ=>⟨lim.keeps x.toInCall.keep,codeAny_func ?_⟩|BVR=>⟨z.1,ht _ _ z.2.1,z.2.2⟩|BVS=>(fun y hy=>k y (zX _ hy))|BVT=>(fun d B5 =>(BjJ (Q d)))|BVU=>by show C8 (dB ε<=_);exact zP (kY (k:=1) Ψ) Η|BVV=>(s3.seq (s2.seq hq))|BVW=>.B4 (ε t1 t2 h l1 l2).ć|BVX=>(.dik ks (j6 ts))|BVY=>by obtain⟨v',_,ev,r2,Β⟩:=r2;cases (ev);exact ε|BVZ=>zs2 (kY (k:=4000) ε) Ψ|BVa=>(g k*f j - f k*g j)|BVb=>(OY (AIa BG EQ) (AIa BH EQ))|BVc=>(by simp;split at hf<;>(rename_i e;simp [e];show AA))|BVd=>fun _ ob q _ _ _=>⟨BDQ,q⟩|BVe=>fun b q1 q2=>by rw[ε,bU q2,bU q1]|BVf=>∃w,LD w/\Md F0 w|BVg=>(yik h hB).1|BVh=>aM K F0 ds vs|BVi=>zxs F Good ε (Cf as has)|BVj=>(TZ fun p=>Aw2)|BVk=>PE X sQ (O6 r t)|BVl=>om (h.2).up f|BVo=>(ABW BiK qB pc)|BVp=>ε ->EA AJ F d v ->EA AJ F d' v ->fW d d' =Μ|BVq=>W.takerIn K C ε=Ε Ι|BVr=>C3 (Ź (uP (KP ε) (KP ζ)=Μ))|BVs=>C9 (Aef 0) (z6q _)|BVt=>ε fun v hv=>AI4 (Bie hv)|BVu=>FL (by simp at hb;simp [hb])|BVv=>FL (ST (G9 p2 hb).1 u q')|BVw=>FL ((JJ hb).YV (b0 b) ε)|BVx=>AsG ACh=Go (NY "method_descriptor")
|BVy=>AtV qB [(AG,V_ a),(AG,Bi3)]|BVz=>Zl (Av' Ps (Acv C CL))|BV0=>by rw[z x hx'];show AhS (dt rs (C_++x::EW)=0) ε|BV1=>AdO (M:=Bj9) X ε|BV2=>∀s,k<=s ->ε ->a s k=0|BV3=>(ASw s b u)|BV4=>(Rs xs l u)|BV5=>AG_ lY ylg xP boot_abs|BV6=>(M3 fC xy eJ)|BV7=>(aY (cB Fo AhW Awz))|BV8=>eA (BGV (n:=ea) Ln Β ?_ ž)|BV9=>MH hQ R'.gr Iy q|BV_=>Z' (b≠T) (ε).IE MY|BV'=>i5 (zJ ε) Nat.not_lt.mpr hle|BWB=>Ĺ s1 (AVh (ALO v) ε s1)|BWC=>ph zlf g (gX AJ g)|BWD=>pj (BiT Agz (Yf i))|BWF=>zP (zo0 xs lo hi) hz|BWG=>(Ty j (Φ (ACa>ZA j 0)))|BWH=>(AV s6 I6 D8)|BWJ=>∀b o,AVA ->BB ε AhB kB NB ζ|BWK=>∀A' :BQ,A'.handled=Ι ->ε|BWL=>(ad l AsL k)|BWM=>rF AhZ (val i)|BWN=>eR (AMI BA (.ArE ps))|BWO=>ALm _ _ _ rs a ε|BWP=>Ε (.tr _ t)|BWQ=>To fV CX k f fd ps ε|BWR=>AHU<=j/\j<ĺ|BWT=>qD (iK QU h)|BWU=>ń (newList []) iS|BWV=>∀s∈FH (kW Ο),ε|BWW=>Mod AJ ċ cy|BWX=>RC (m2 i ((mm i).mp hi))|BWY=>AT3 ε (fun x y H Q=>y= B8/\Q (.bl ζ) H)|BWZ=>UE D9 (Sz 1900 (OW j 0))|BWa=>by rw[ALl,FA,ε (CC h)]|BWb=>by rw[AeH,hkl,AMD]|BWc=>bh P w ε YY b u|BWd=>(AtZ z0 DE s H Ò).hand|BWe=>XA (hz _ (Ul hj))|BWf=>VI a o hk|BWg=>∀i h,tn i h ->js (Aw4 rq)|BWh=>AHb (ADd k s)|BWi=>B7 H b (.frz (ob b))|BWj=>∀u,Hx A1≠Ag2|BWk=>(.xd [(f1,v1),(f,y)])|BWl=>CP (cT (cB (QM GL) ε (AHJ BjZ AwF)))|BWm=>⟨ε,_,c,hv,CD BoP hg⟩|BWn=>r6 sm zkc _|BWo=>Ŗ (Arv EC f b)|BWp=>Ŗ (ALE ε u EC)|BWq=>ACT h1 itv h2|BWr=>ACV (z1s cH aq VZ ε)|BWs=>(wX 1 Kc (G1 Db C5))|BWt=>EA AJ F' d v|BWu=>ACY AAt e f ε|BWv=>(AMp (r8/\Ï/\AHL B5 a))|BWw=>O6 (ε K g) (ZT Ph t E) σ H Q|BWx=>vk [v,ov,iv] (setItem ov iv v)|BWy=>ε c o (I.cne x c e) hc|BWz=>Î (storeName B9 x u)|BW0=>qq SW (MI H') (MI Agh)|BW1=>nD P w H' YY|BW2=>Ŷ t es BkS|BW3=>vc (B6 q (nomatch q))|BW4=>fun o=> !(Φ (q<o))|BW5=>by simp [el1,el2,hl]|BW6=>by simp [qD,ou,jf]|BW7=>(ε fun f=>ADT).flatten|BW8=>ADJ Sx e1 q|BW9=>(DH (a<0) (-a) a)|BW_=>GI m h (BkK*f h) ε|BW'=>GI AgW h (AI6*x h) ε|BXA=>Tb a b=Tb i j|BXB=>(.ALH SL AwL wt)|BXD=>ADn (ε (E3 f)=E3 ζ)|BXE=>ADo (∃bs,uf xs=Ε bs/\WP (ε id))|BXF=>ANd (Lo H' AvQ) Q|BXH=>(cv ε).all ζ=ACz|BXI=>∃d,r_ xs i d/\P d|BXJ=>HU Aby 2 BkX YM|BXK=>HU Ab_ 2 [TD,VT,ē] Yc|BXL=>HU AR8 2 AhV Yp|BXM=>Oy x c e z|BXN=>WF Ab8 2 ia zdt|BXO=>WF AcT 2 MA Rg|BXP=>WF Acb 2 n9 Uh|BXQ=>WF Ach 2 AAq YZ|BXR=>WF Ab2 3 YO Ym|BXS=>WF AcJ 3 VQ YC|BXT=>WF AcV 3 LA Yr|BXU=>WF Acd 3 ASk YT|BXV=>zyx I S hk e|BXW=>nZ AC σ i b|BXX=>AUg dd2 (.seq ABO n2) ε|BXY=>N' =Au++BFX fun j=>N.getD j ""|BXZ=>(ε++ζ).η=As'++BGg|BXa=>E HE Ι H1|BXb=>(z5k Η q hq)|BXc=>∀h',AMl h' (ź CL) ->ε|BXd=>V ->V ->V ->Ĭ Hp Hp|BXe=>Mn Z_ (∃AI,AhG/\Md H1 (.frz (ob b) P8))|BXf=>AOT ŗ (∀p∈ps,Kv 4000 p) ε|BXg=>(Afx (∃x F',Afc/\zw /\Afu H))|BXh=>∀(AOy) (t:cW) (E:XW) (σ:St) (H:Hp) (R:ANm),_|BXi=>AwN*Acr AI_|BXj=>AdR [] Ag4 sC|BXl=>by rw[hl',C6,wf];rfl|BXm=>HU Ab9 1 Ah8 Yb|BXn=>HU AcA 1 [TD,VT,ASm] Yd|BXo=>HU Acf 1 BkY YX|BXp=>∀b ps,p_ (.KD ps) ->∃more,Md H' (.KD (ps++more))|BXq=>Nl Ct h AOc 0|BXr=>v= .B4 e/\Bja/\AS6 e=Ε oe/\ε|BXs=>AWG (DU ε RA OQ Rc) ζ|BXt=>AWL ((m*m).OL 2147483629)|BXu=>∀v,v∈ws↔ (ε)\/v=ζ|BXv=>My (load _) (Arm hS' ?_)
|BXw=>AWd (AgI SL f) (ε C i f ζ)|BXx=>AUn AAh 1 AfK YJ|BXy=>AUn MU 2 AfK Uc|BXz=>AUn ck 3 AfK YK|BX0=>z6 (ALo ho hd A7 ?_)|BX1=>Auy Ab5 1 Rk|BX2=>Auy Ab6 3 Yy|BX3=>Auy AcM 8 YG|BX4=>Agd (Aj.lu b o u eb)|BX5=>Au_ hx ha hx|BX6=>AvC (z7v ve _) (fun p hp=>AGO p ε)|BX7=>AU×AgF×AgF|BX8=>(vs++ws).vt|BX9=>fun c ε r z=>(BkL r)|BX_=>Calls.Name_function_global AK_ hg ε hd|BX'=>aA N ps JI|BYA=>(Arv yi EO expr)|BYB=>∀{w h:Κ}(hh:ŭ),_|BYC=>.pu (CT c ps)|BYD=>[MA,iX,vx,VT]|BYE=>xD W0 ε (AHA W4 cX (kU E5 PF ζ))|BYF=>Ag5 (∃o AI,p_ ya/\Md H2 P8)|BYG=>⟨.bl ε,H2,I3,Β,q2⟩
|BYH=>by
 rw[ε];by_cases q:ζ
 ·show Agg AhA
 ·show Agg Ag'
|BYI=>(max (dB i) (dB j))|BYJ=>∀b,ņ ->¬eC ->SC F1|BYK=>SS (by show(AN5 _)=_;show DJ (by rw[e];rfl);exact e)|BYL=>ALa (t' :=ASg) (SS xo) Kt ?_|BYM=>∀(X:Cx)(id:KL)(r:Aho),_|BYN=>ka Qr f JA (f i)|BYO=>AUx H1 AOe AdJ h2|BYQ=>⟨sl,o,e,p1,hc⟩|BYS=>Avf (ε AJ C fl sp)|BYU=>∀{EB:ACy}{f g:Ő},_|BYV=>∀{rs:E6}{f g:Row},_|BYW=>⟨ś (AvK/\i<Ą),fun i H x H' =>ε,ś (AvK/\Ą<=i)⟩
|BYY=>(by
 rcases Cn q with q | q
 ·show L2 q hc
 ·exact zR _ q)
|BYZ=>(hg x).mpr (FM ⟨f,hf,q,ε⟩)|BYa=>EqD A s v u (fW d d')|BYb=>yh Fr X.w AJ ċ cy X.A MX ε ζ|BYc=>Ah6 SL ε SL SL|BYd=>(DH (v<0) (max (v+ L5) 0) (min v L5))=ER ε|BYe=>AOt ε (nr "set.scan.the-table-gave-way") (Go ())|BYf=>g<wd (jO qs) 0|BYg=>fun C_ c d EW=>ε|BYh=>Acw kp hle n1|BYi=>Acw AgR Kt n2|BYj=>qD (sq 0 (iK QU o) (fu QU Ahs o))|BYk=>Pi (fun e:g=f=>ε)|BYl=>(LW _ (by rw[jQ rs];exact hI))|BYm=>by show BI q hq e ATK ε|BYn=>∀{m:Ρ}(hm:m∈ms),_|BYo=>KA (exec (.Raise (Dx (xx AwK E9)) ε AB) BV)|BYp=>WF AcQ 1 cf Yk|BYq=>WF AKx 1 iX Yh|BYr=>WF AcF 4 MA Rb|BYs=>WF AcR 4 "two" Rh|BYt=>WF AKv 5 MA Rf|BYu=>WF AcS 5 iX Yi|BYv=>AdR AJ ε c=Ε b|BYw=>Ĺ EZ (AVh (pe b) (fun u LJ=>ε) EZ)|BYx=>fun v hv=>scn v (ε hv)|BYy=>i8 va Su/\ZU Ew Su|BYz=>i8 AAf S4/\ZU Ew S4|BY0=>fun us s1 ⟨xs,H1,I1,r,z,q⟩=>(C3 Bjo)|BY1=>AwU sC Bm8 (Dx ACh)|BY2=>⟨f,fd,h1.imp (AIp _ q (z1m q)),h2⟩|BY3=>HU AcW 4 [MA,ny] Ys|BY4=>HU AcX 5 [MA,ny] Yt|BY5=>(AgB EA (Sf l1 h1 q1))|BY6=>Awi (hn b (ARv _ ε)).1|BY7=>Il K x ε st f fd (Bn T)|BY8=>P (lE xs ys) AC|BY9=>∀(K:AD) (x FE:Κ),_|BY_=>fun i a b z1 z2=>by simp only [z1,z2]|BY'=>QA (ABH b0) F0 H0 Af1 t|BZA=>AT4 Cy GL TD 4 AvH Rm|BZB=>AT4 Cy GL iA 1 AvH YS|BZC=>Aw1 ε (ζ (b,o) (zR _ BjQ)).1|BZD=>∀(ho:Au2 op AVd)(ha:bi)(hb:ŵ)(hm:AgU),_|BZE=>AxG (sf t' (GV t')) (Lo Cx (E AC Cx))|BZF=>AxI Lz Gh AC|BZG=>∀u s',AVY ->OC ->Q u s'|BZH=>∀{K:IU}{x:Κ}{st:AR}(h:ε K x=ex x x st),_|BZI=>∀{K:IU}{x:Κ}{g:Fc}(h:ε K x=Ε g),_|BZJ=>SR K F1 H F1 H σ (nO Γ)|BZK=>SR K F1 H1 F1 H1 σ (jh Γ)|BZL=>BB Bji (sp ds Pd Ex) ((ε)) Bi8 (AxU ζ)|BZM=>AIm h ->ATO c h h' ->it≠c ->AIm h'|BZN=>∀(AxW) (x:Κ) (C:Ζ) (fl:Κ) (k:Δ) (ps:Ρ) (sp:ε),_|BZO=>∀tk,Q (qk b) (Aty tk)|BZP=>CB sh - 1 - f.fmod 2|BZQ=>∀(IS:kr) (cs:ώ),ε|BZR=>Adn ADG 2 BA|BZS=>(Ej ÿ L f)|BZU=>ABq Hr/\xs.all Hr=Μ/\WP (DH neg (! inD x xs) (inD x xs))|BZV=>⟨Cf d h,AVz⟩|BZW=>(fun A1 x=>A1+AeJ+Str.empty.length)|BZX=>zqn (k:=ε) (ks:=ks)|BZY=>⟨BjL,BjL,AhJ,Qb e h⟩|BZZ=>hq H1 (AA' s2)|BZa=>nK= .seq AO n/\BjV/\IY xs BDe|BZb=>P (pP n m (X8 k s a))|BZc=>dl z (i5 z Vl b)|BZd=>∀h' e,ε ->(∃o,ACj e/\AgN BFm) ->Ahi SI|BZe=>(fun b u e n=> ?_)|BZf=>ĵ (AWF ygh qK boot_max) ε|BZg=>Tl AxB (zzn C fl sp t)|BZh=>by show C8 (D' Aqv);show XE (Aqv=26) z79;show AA|BZi=>Oy s us X hl|BZj=>Oy h' tk hS OU|BZk=>(aY (dY (G1 (cB gR A5 C5) (cB gR An C5))))|BZl=>ds= [.AS h,ε,AhN]/\sD/\AOa/\ζ|BZm=>KI (A k j) (hA k hk j)|BZn=>(eP dZ Biv (AWc (ABm Biv)))|BZo=>by subst hq';rw[Bjt] at h1;rw[ALf (ad ĉ ARy _)] at h2|BZp=>WO Pw (p.2= Tu ->ε DA=Ε ł\/ζ DA=Ε Tu)|BZq=>(xx (xN SL EO) KW)|BZr=>ATQ h' CL x y|BZs=>∃u,us= [u]/\Æ|BZt=>∃l,v= SZ/\∃is,ε|BZu=>∀DS:AL,Ĉ DS ->Bjh ->ε|BZv=>BindsTo.of_defaults Β (X _ _ hT) Β Β|BZw=>∃a r,ε=a::r/\Pp=n|BZx=>fun⟨r,h,q⟩=>⟨r,ε h,q⟩|BZy=>∃ms:A2,AtH=AGw/\∀j,ε|BZz=>tJ (sR y B8 ε (.bl d) (İ x (.bl c) (WP ζ)))|BZ0=>Bjg (AfP ASf AAs (AuJ EJ))|BZ1=>Ė x ((DH AxJ Auq (n,k0))::_)=_|BZ2=>ka ANk f IO (f n)|BZ3=>∀{x:V}{u:AH}(r:Æ),_|BZ4=>∀{op:CmpOp}{r:R2}(ho:jl X (ALE op) r)(ha:ų)(hb:AN8)(hm:AgU),_|BZ5=>(AN_ (Ahz (AZ (dis a AAa (z ▸ hb)))))
|BZ6=>AOZ (AgI o f) FF (ε C f ta tv)|BZ7=>⟨_,_,_,Β,Β,Β,hc⟩|BZ8=>fun i x v e1 e2 e3=> ?_|BZ9=>zj.k (k:=kk) ea (by show AVr hkl;exact hl)|BZ_=>(fun a ha u hu=>mine a u ha hu)|BZ'=>fun BV he b hb=>zX _ (Bmm ⟨BV,he,hb⟩)|BaA=>fun C' Nx H' =>∃x F',E AC x/\Gr F1 H1 F' H' /\ε|BaB=>PR (ε (Ð _ nd ζ) Av7) s1 hnx|BaC=>(At1 (upd F' EJ Atj) [(fl,v)])|BaD=>∀(C:Ζ)(m:Κ)(sp:ε)(te:bZ),_
|BaE=>∀(hc:FX)(hg:Gl X U2)(hm:KF U2)(hg2:Gl X MV)(hm2:KF MV)(ha:ADi)(BkA)
 (BkB),_
|BaF=>∀{K:AD}{F:Hp}{d:D}{v:V}(h:Sb),_|BaG=>BkQ names.map (BiB k) BiA|BaH=>IV CI w A E vs (Qk xs) ε oneType'|BaI=>BkU (n6 K C0/\HY K C0) (.bl ε)|BaJ=>∀(BkW)(f g:ADj)(p:ů),_|BaK=>∀{Ο tL :C4}{ms vq :MQ}(h:AOx)(h' :Eh tL vq)(e:Bka),_|BaL=>To QK ε f fd C f1 f2 a1 a2|BaM=>⟨vz,"dict.values",BEo,BGk,PySem.F.type_dict_values,hT,hN,BkE⟩|BaN=>[AV9,F6 4,ACg,BkZ,i_ r,AHs g,J_ ŗ,.ow (bd.map vh),F6 l,ε,ζ]|BaO=>{oe with AAk:= AHD #[.B4 fv,BA,B',BA,AWB,BA]}|BaP=>fun obj EZ=>obj= zk/\EZ=ε|BaQ=>∀i j F,EA AJ F (d i j) (v i j)|BaR=>by simp only [List.zipIdx_cons,List.zipIdx_nil,Bnb,List.forIn_nil]|BaS=>by simp only [OV,q,ε,ζ,η,BmJ,Y2]|BaT=>∀(f m:Δ),1<=m ->m+f<=n ->ε ->ζ|BaU=>ε Ag3 (ho' z) E8 OB|BaV=>zt5 wg PK ha'|BaW=>ATO it A8 h'|BaX=>putSet_of es' t' hd|BaY=>(SP LP Ξ D)|BaZ=>(x.above y c (Ar6 h))
|Baa=>by
 refine⟨BDe,r,ε,?_⟩
 have e:=Pp;show Avy e;show AA
|Bab=>by
 refine Bkf (.bl (ε id)) Β
 show Bkd
|Bac=>⟨d0,d1 _ b1 b2⟩|Bae=>Jq (CN (Cz GL TD (Rm c) ε))|Baf=>(hl.add ((h.mul (dt rs AVJ)).mul IO))|Bag=>J.type.andThen (W.looks_mroIn X c.g.ob)|Bah=>⟨cs,t',e0,q⟩|Bai=>∀{l r:Pt}(h:l.1<CU)(h2:l.2<=r.2),_|Baj=>ABN (UH List.map_id ε) (wx (Cf k hk))|Bak=>aB AgW (iK S)|Bal=>yH p _ pa ep|Bam=>.pay Su [h_] [lsT (yI ε ζ)]|Ban=>ε _ _ e' (n1 b n hb)|Bao=>(ε (b,o) (zR _ BjQ)).2.1|Bap=>qw.k (k:=kk) ea|Baq=>(k (lt i j))|Bas=>(E_ (bB bs AM0))|Bat=>DA=q.1/\Tm q.2.1 (Kb (AhH kV))/\KO p.2 q.2.2|Bav=>HU AcG 5 Bjf Yz|Baw=>HU AcH 6 AI5 YB|Bax=>HU AcP 4 [ALR,AGU,"x"] Yn|Bay=>ER (bB bs (v w'))|Ba0=>(.While c L9 [] AB)|Ba1=>fun σ H Q h=>ε (yj0 h)|Ba2=>by rw[AAv (Bjl hi),GN,ε];rfl|Ba3=>Ag_/\Gq ps/\Av9/\KM<=90/\ε|Ba4=>∀{K:AD}{c:Cls}{ds Q Ex}(C:ε K c)(h:ζ c ds Q Ex),_|Ba5=>PIg X tg NM wi|Ba6=>ε AGa ((p,w)::P.zip vs) m p=_|Ba7=>İ AC[i]? (Ε AWO) (g xs ds fun ys=>ε)|Ba8=>Zl ((Awp Avt).Ps AvX)|Ba9=>eN  (A3 (PL (eN  (ANu ε)) ζ))|Ba_=>eN  (A3 (z7s Β Β aW Β jK ε))|Ba'=>(fun v ę h₃=>z6 (ASe (z7 h₃)))|BbA=>z1a AtG hCc _ e1|BbB=>KA (setNext S NI given ε)|BbC=>d6 ⟨F,Γ,P,R,h,k⟩ ε|BbD=>Tl (.ALJ [.vj y py] kz spos) ε|BbE=>∃f fd,ε/\Meth K C m f/\AIU|BbF=>N0 H' Hp AgJ (js ε)|BbG=>IZ ir X.A (ib Lc us) (EP LP Ξ σ Q) AA_ s|BbH=>aB l fun a=>(M_ AI8 (f a))|BbI=>NA (zou AI k v)|BbJ=>far b _ (Sy he hd q n) k|BbK=>∀x:Κ,Bf9 ->mb x=BDV x|BbL=>BFU _ _ b o e9|BbM=>x0 Abw c0 OO Js|BbN=>x0 Abz BDo BDp Ug|BbO=>x0 Ab3 AAr c9 Ua|BbP=>x0 AcC LL Pe Ol|BbQ=>x0 AcD "step" AAo T8|BbR=>x0 Aca Ĕ AdI Rn|BbS=>x0 Ace n9 c8 YW|BbT=>(AHM (nW f y fs))|BbU=>∀{t:oQ}(hd:Bjk),_|BbV=>[.AtF ε Ι (b::su) hp]|BbW=>(up v w q u)
|BbX=>by
 by_cases h1:ε
 ·show ό h1;have e:ζ:=zH h;exact⟨KE η e,Υ,θ,ι⟩
 ·show AWt (CM h1)
|BbY=>pF K F' H' H0 s o|BbZ=>s.1=CU/\qh=Ct|Bba=>HU AcB 3 [nv,Ars] Yg|Bbb=>HU h_ 3 [MA,ny] Rj|Bbc=>HU Acg 3 [AAq,c8] Y0|Bbd=>HU Aq2 3 [LA,AdG] Yv|Bbe=>fun⟨f,hf,k⟩=>⟨f,ε hf,k⟩|Bbf=>ACb (se).at (hk I A7 o e)|Bbg=>(ts.set q (.dic (jx Qo k2) (pd (gj Qo xs k2 d).map)))|Bbh=>∀q,yv q ->M1 q (xk q ε)|Bbi=>C (lt i j) s|Bbj=>HU Ab1 2 [ALR,AGU] Yl|Bbk=>HU Ab4 2 [AGV,c9] Yx|Bbl=>HU Ab' 2 ["top",BDk] Kr|Bbm=>HU "led" 2 [TD,VT] Ye|Bbn=>HU AcU 2 [AdN,LA] Yq|Bbo=>HU Aq1 2 [MA,MU] Yw|Bbp=>(gk S n oS ε).map|Bbq=>∀F ds P,Hk AOA AvZ (g ds P) ε (ζ K g vs H Q)|Bbr=>ACp (Bke (AR1 DI).foldl DI)|Bbs=>{o with AAk:= .set es' (ep+1) t'}|Bbt=>yfi u nw cw h|Bbu=>∀{Ο:C4}{ms:MQ}{x:D5},_|Bbv=>nK= .set es ep t|Bbw=>ϓ (ST (G9 p2 hc).1 u q)|Bbx=>AUn ā 1 (AMQ LL) YH|Bby=>AUn AGG 8 [NO,Pc,VQ] YL|Bbz=>dB (ε)<=max (dB i) (dB j)+1|Bb0=>fun σ H R=>tl σ H (ı x (∃a,x= B'/\ ((ε)\/ (ζ))))|Bb1=>AUx H H' A8 YY|Bb2=>AUx Ats AO0 Bi2 (Bi7 (Acv C EJ))|Bb3=>∀(i:Δ) x Γ,ox ds ->I i Γ ->AxD x (tb (Ahx ε ζ) B5 E)|Bb4=>AGz uU AcZ 11 [AdH,Ark,c8] (Ui c)|Bb5=>HU Ab0 2 [c0,AdE,AGS] YQ|Bb6=>fun o e=>Asx S o hw e|Bb7=>∀l,N4 l ->M1 l (ANA l ε)|Bb8=>z81 (pl:=ε) Β Β Β (B6 F0 (JO (bK  ζ)))|Bb9=>(nW f v fs).map (·.1)|Bb_=>(match Pz d T with | AfU=>ε | Ι=>D7)|Bb'=>⟨s',o,q,p1,hb⟩|BcB=>∀e,e∈ ε↔e∈Ahq|BcD=>Aeu ds (B6 tr Bj_) Cx Cx|BcE=>fun b o _ hb _ e n=>ε b o e n hb A7|BcF=>(Fd (AwW A5) (AHt (cU jT A5)) AOK)|BcG=>ATh _ (zP Bjc (Awg (ε<=200) C6 ζ))|BcH=>(aU st).BFW y.1=Ε ε|BcI=>HU AcY 6 [LA,ny] Yu|BcJ=>Tl (.Try L9 hs [] [] AB) ε|BcK=>fun i j hi hj hij ε=> ?_|BcL=>∀a ds Q Ex,sp ds Q Ex ->ε|BcM=>∀{Ο:C4}{ws:Ρ}{ps:AWs}(B:Aw3)(u:MS),_|BcN=>dQ f ts vs as Bj5 r|BcO=>(AWk (lH (rk AOB oS AIP)))|BcP=>fun x C' Nx F' H' hE gr xr=>⟨x,F',hE,gr.low sH,xr.back sH⟩|BcQ=>(h ms x G).2|BcR=>∃m xs ys,n=m+1/\d= ε/\d' = ζ/\Af4 (mU m x y)|BcS=>∀(m:Δ) (u:bo),(dH m (ň (- u c)))= - dH m u|BcT=>Builtin.Slice.sliceAdjust lo hi 1 L5|BcU=>(mG jv AUs ws h)|BcV=>(Awo Om AWo jv AIy u)|BcW=>∀{K:AD}{F F' :Hp}{d:D}{v:V},_|BcX=>∀x c v,AHP ->AwT ->ε|BcY=>ES [TD,VT,ε,ζ] [TD,VT,η] θ|BcZ=>∀(l:Ζ) (ms:Ρ),N4 l ->ε ->Avc ->Awc (oP .AS)|Bca=>Ee sQ (aC (DW C fl sp) t)|Bcb=>(DH (v<0) (I_ (v+ L5)) Bj3)|Bcc=>Ah1 (∃a xs,vs= N9/\lA K H1 a xs/\ ε)|Bcd=>fs (rO p s i) j - fs (rO p s i) p/AhU*fs s j|Bce=>∀EZ (P:dM),P BA EZ ->ε|Bcf=>ya6 L x hi i0|Bcg=>∀{AI:r9}{vs:AVk}(r:AUy)(k:κ){y:V}{u:AH}(ry:RE),_|Bch=>(U i AOP q' Η)|Bci=>W.set_plain (s:=AMq) X J c.sa ?_|Bcj=>HU AcK 5 [LL,Pe] YD|Bck=>HU AcL 7 [c9,Pe] YF|Bcl=>qd (S.map k) x h|Bcm=>by show EU sl hL u.any ho AAn ε|Bcn=>AR0 AJ HE LE =Ε (Dx Lc)|Bco=>(dH m (ADr (DH (c<p) (- AWY) (Aw9 c))))|Bcp=>AOE znf (Sf p ε (fun l hl=>k _ _ l rs hl h))|Bcq=>∀{Ο:C4}{ms vq :MQ}{x x' :D5},_|Bcr=>Kz Av8 (rh ε) (bc w hw) ?_|Bcs=>AVv (AgZ d v ε d Ű) ζ|Bct=>AVv (AgZ ds vs ε ds (Q vs H')) ζ|Bcu=>(AgB EA ⟨l2,us,AOH,h2,q2⟩)|Bcv=>∀d v F' H,BkR ->ε ->ζ d ->Awl|Bcw=>∀d v F' H',zw ->ε ->P d ->Ű|Bcx=>Il K ă ă MN f fd (Bn uI)|Bcy=>SlX K F H H0 as C fs ts o|Bcz=>fun i a b h1 h2=>ε DI a b AOM AV1
|Bc0=>QS (ABH b0) F0 H0 (.Raise (Dx (xx AfV Af1)) (Dx (.ASa BA j cp)) AB) (zui C f1 f2 t)|Bc1=>⟨c,_,Β,AxO R2.g Β,_,Β,?_⟩|Bc2=>(Afx (∃x F',E AC x/\Gr F1 H1 F' H' /\Afu H1))|Bc3=>∀{X:Cx}{Ξ:dN}{σ:St}{H:Hp},_|Bc4=>hQ d v F' H' gr rv q|Bc5=>∀{A B:Δ}{p q:AM}(h1:GZ A p)(h2:AOn),_|Bc6=>∀{A B:Δ}{x y:AM}(h1:ZB A x)(h2:ZB B y),_|Bc7=>∀(BjN){k1 k2:Δ}{xs ys:Ki}{a b:AH},_|Bc8=>∀{S:Bz}{n:Ω}{bs:F9}(hn:AN0)(hg:AOz),_|Bc9=>∀{S:Bz}{n:Ω}{bs:F9}(h0:O_∈S)(hn:AN0),_|Bc_=>by simp only [show¬(JA<0) from Υ,AAw,da,ε]|Bc'=>zgb ε (FY i x u e1 e2)|BdA=>AGx k s d tb|BdB=>∀(c:Cls)(p:Hs)(mJ ws:Ρ),_|BdC=>VL K F H H' dx fs ts|BdD=>⟨⟨xs,q,NF⟩,hd σ H p⟩|BdE=>(k a zY _ e3)|BdF=>(Gk k p a i)|BdG=>(h r zY c).mul|BdH=>(zon (hf c hc) (zL (ε c hc))).1|BdI=>((gk S n oS AIP).iF fun e=>rM b (e - AH_))|BdJ=>Os xs At as (EV Ah4) (uJ xs=Ε as) ε|BdK=>AMo j hj k j hj|BdL=>∀(K:IU)(f:Ζ)(FE:Κ),_|BdM=>by ·show As ([E_ _,E_ (1+ Agm ε ζ)]=_);rw[show Agm η θ=CB ι from ν,Int.natCast_add];rfl|BdN=>fun u e=>(Ah' (hx A1 u e))|BdO=>fun b hb hc=>(hnc b hc).2.2 i (Au b hb)|BdP=>AfF ε x C fl k ps sp|BdQ=>Fm (Fs - 1 - AIx=Fs - c)|BdR=>fb ε (am (Pm n r.2/\1<=CU/\CU<=n/\Up lt r.2 CU))|BdS=>ug knd kf ADR h' CL (j8 val P2)|BdT=>(match nsIn K my x with | AhO Lc=>ε K f x | _=>Ι)|BdU=>∃f fd,ε/\AI7/\AVf/\AOV/\ANR HE/\ζ|BdV=>jp ds AQ vs AT L3 (ds.all Hr=Μ) ε|BdW=>∀F ds P Ex,AOA ->BB AvZ (sp ds P Ex) ((ε)) Bi8 (AOs ζ)|BdY=>∀{K:AD}{c:Cls}{a:Ζ}{ds Q Ex}(h:ε c ds Q Ex),_|BdZ=>∀{h:AL}{H:Hp}{b:Ζ}{o:Obj},_|Bda=>⟨Ě s2,Â ε C6 AGi,ja i s,fun i j a hz=>by obtain⟨s,o,e,_,h⟩:=hz;exact i5 h (Ig i s o a) e⟩|Bdb=>Aea (Bn ε) LE Lc/\AVf|Bdc=>fun u' s2 I2 ru=>⟨v,H1,I2,ru,q⟩|Bdd=>∀j∈FU,j<ALe/\AK7 (N.getD j "")=Ε Tu|Bde=>(hc j _ _ e1 e2)|Bdf=>wpAny_newFunctionEnv_cells Ar5 hkind (Oy BV he s1 x)|Bdg=>(pl=Μ ->∃C,x= HC)/\ε/\tt x.cls ζ AC E|Bdh=>(ASx lo hi Ι n)|Bdi=>zui S4 Pc Ā (G1 An (cC ε))|Bdj=>(Z sh BkT ms x)|Bdk=>[.vj NO p6,.AAt (AH5 p7) fl p8]|Bdl=>(rk AOB oS AIP).ĕ (n - e)|Bdm=>ztz (g:=ε) (μ r) (XA ζ)|Bdn=>IZ M A ε Q E AMq|Bdo=>ALa kp hle (ybj ge)|Bdp=>yfd R1 h1.2 (AsW s1)|Bdq=>(∀t∈ts,∃ks us,t= ABt us)|Bdr=>AGz Qa ă 7 Ah5 (Ub c)|Bds=>(ε (u:= ζ) (AIS zY) (hn a zY).2.1 (hn a zY).2.2).frzM|Bdt=>Bil/\N4 DA/\DA≠VA/\DA∉iN/\∀v,(p.2).AAk≠ .cell v|Bdu=>∀{c:Cls}{t ds P E}(h:Oo c t ds P E),_|Bdv=>HU AKw 6 [iX,ci] Yj|Bdw=>Aa Β (lX (W' 0 ε) (ACG (W' 1 ζ) (W' 2 η)))|Bdx=>AHU<=i/\i<ĺ/\ AHU<=j/\j<ĺ|Bdy=>iD A (ix i) c|Bdz=>Hb (by rw[e];exact k _ _ F H BiQ Iy h)
|Bd0=>(by
 rcases Cn hm with hm | hm
 ·exact hb hm
 ·exact nfr b u eb hm)
|Bd1=>⟨AKq AKr,BCg [],boot_drawn,boot_toks,os⟩|Bd2=>fun o ho=>hz o (AK3 (hp.mem_iff.mp ho))|Bd3=>[LL,VO,Pe,"both","through_works"]|Bd4=>ABe ((AS5 AWK).Ps AWU) t|Bd5=>fG CX P w K mg DS N FE JI f cd A|Bd6=>∀(te:bZ)(tl th:Lb),_|Bd7=>Os i Δ e Ω ε AWS|Bd8=>k l _ (Agu hlt2) hms (zuy a2)|Bd9=>∀a vs bs,zo ->BB (as=AHp) ε kL (R vs bs) ζ|Bd_=>jt F0 F b=Ε u|Bd'=>∀(xn) (he:oz Af1 e1 [e2]:=by rfl) (hpl:ATw (AeV HR [e2]):=by rfl),_|BeA=>O0 ty y (zI td x (AhY o (AOk H2) (Q (.bl ε) H2)))|BeB=>ip aC (DW hZ YO (Ri c)) (cY (AVK ε))|BeC=>bO 3 ε (iL ζ) (iU 3 (bG d4 (Aew 1 2)))|BeD=>∀(lo hi:SK)(n:Δ),_|BeE=>AAz ε t0 v a1 (q_ (k a (fF ha))) q1|BeF=>WB Bif (zvw hbt hg O ?_)|BeG=>(1+ (AGQ 64).OL 3*2)|BeH=>(hc Ξ s3 σ H3 _ I3 q3)|BeI=>∀{Ss Kl fs fs' :bE},_|BeJ=>nF (dP vs) k=Ε v|BeK=>fW (qD a) (qD b)|BeL=>L.back (ALr gr) (ğ OS)|BeM=>∀i v,ε ->Ad7 (val i) v=Μ/\AU8|BeN=>Un (frs MX) ch H H' A8 ε|BeO=>ku (Ŷ tl l (th BF (fun u Γ3=>ε) E))|BeP=>(by repeat (first | show ADW he | show ADW hC | show Ahd hC hcB | wp_step))|BeQ=>Ž (ne c _ z Awx) z|BeR=>∀{k:Δ}{A:BQ}(r:AhD),_|BeS=>(At2 1 zv0 Bni PySem.F.type_list_insert (A3 (au E5 AOO)))|BeT=>⟨m,hn.sameBut hsb hac,AwI ⟨_,H',I6.turned (t' :=s6.toks) (it:=C) (AHV Bio) c1 c2 (FM c3) c4 c5,q5⟩⟩|BeU=>∀(hc:ϐ)(hm:Meth AJ C m fa)(Fn:AfF fV (AeS fD) k fa fd ps Avl),_|BeV=>ADp (by show GA r h1 h2 G.hand hm hz;rw[<- h2];exact hr r h1)|BeW=>AGb FE JI CL f cd
|BeX=>by
 show Ë
 ·rename_i hm;exact(hn b (zX _ hm)).2
 ·show MO n e' e' e' e' ε ζ η θ ι ν ξ ο π ρ τ
|BeY=>O0 t xs (AhK (∀p,yv p ->M1 p (xk p ε)))|BeZ=>g x Γ0 (B6 AC (tc AC (fun b BF=>(GT b ε si)) jR)) jR|Bea=>∀(a:Ζ)(o:Obj)(AI:sK),_|Beb=>Mg E_ (AIr ε) (bc e he) ?_
|Bec=>by
 by_cases e:l1=l2
 ·rw[VW e];subst e;exact BnF _
 ·exact SeqAt.EqAt.of_refs e rc
|Bed=>fore Pf ATg p w os|Bee=>∀(hA:∀ds vs,AN1 ->L3 ->AIi),_|Bef=>(Ade vs).AGX g=Ε v|Beg=>∀{Ss fs:MQ}{U:Ρ},_|Bei=>by have hrv:=zp1 rv hix;rw[zof (d:=HM) (Ty hi (ϑ AwE))] at hrv|Bej=>AWI vk (AVp [_]) (AdV slot_list_sort (ML hoL) entry_list_sort ε (args_list_sort _))|Bek=>AWP (checkCount U2 1 1 _)|Bem=>((q_ (k a (by rcases JJ ha with z | z<;>simp [z]))))|Ben=>∀b o,BB rq NB ε (b∉ex) ζ|Beo=>fun i H1 F1 s1 s2 s3=>ε|Bep=>hb (xB s2 h2) AWV I2.kIn Biy|Beq=>ATR _ _ D.TOi1 (AL3 _ _ D.TOz hTO)|Ber=>∀i h h',tn i h ->(WE fp (∀o,rq ->ACI)) ->tn i h'|Bes=>⟨SB t,_,.seq xs _,_⟩|Bet=>tc BF (fun w Γ3=>g' y w fun d=>P d Γ3) E|Beu=>Ad1 _ _ ε (ζ _ _ c4 (AGp _ _ c2 (ATR _ _ c3 (AL3 _ _ c1 η))))|Bev=>(fore Pf ATg p w os)|Bew=>(L9 ds vs rs I TL)|Bex=>∀(K:AD)(H:Hp)(a:Ζ)(xs:AT),_|Bey=>∀(K:AD) (F:Hp) (R:AVX) (v:V),_|Bez=>AI0 ACQ Adc (Bn fa) Ag7 Bkh EZ|Be0=>∀{P:Ρ} {vs:At} {i:Δ} {m:EX},ε|Be1=>(AOX*tb (rO p s i) j - tb (rO p s i) p*tb s j).ĩ d|Be2=>(Afx (∃x F',(Gg x/\Afc)/\Gr Lz Gh F' H' /\Afu Gh))
|Be3=>∀(ho:Au2 op AVd)(ho' :Au2 op' (qx AJ g'))(ha:bi)(hb:ŵ)(hc:Ee c tc)
 (hm:lastMarks [op,op'] [b,c]=AG:=by with_unfolding_all rfl),_
|Be4=>AxS (ds= [lH S,uh bs]/\AWM/\Awe/\bS ε)|Be5=>fun c ob q n hc hx=>ε|Be6=>ε q YA (Blp p.main.body) Xt Μ s|Be7=>∀(lt:sw)(p:sj)(r:Δ),_|Be8=>∀(AI:r9)(k:κ)(v:V),_|Be9=>(by show BE (HZ zo4 l a ?_) (kT hp.cons a ?_);exact List.perm_append_singleton a _ |>.cq)|Be'=>xB s3 (BEZ (WG "slice" #[vl,vu,BA]))
|BfA=>by
 split at e
 ·show DM;rename_i A6;show BjU A6;refine ε;rw[ALf (by rw[C6,<- hl];show AA),ASs,Ch ζ]
 ·show AO3
|BfB=>∀(hN:vi)(hi:K_)(hx:AIz),_|BfC=>fun Ξ s σ H Q I h=>ε|BfD=>∀(hs:oz qB a [b]:=by rfl)(hpl:AHR [b]:=by rfl),_|BfE=>T3 (ns s hS) nh (CA s hS)|BfF=>hJ.2 i H' F' sF R'.g hx'|BfG=>hs i x σ _ (y xs q) p|BfH=>⟨Β,_,AV2,_,ε,_,at1,?_⟩|BfI=>AWj D Ya (t D σ H) (ε st B9) (SP X Ξ D)|BfJ=>Os binds AOS m EX (∀v,(x,v)∉binds) (ε AGa binds m x=m x)|BfK=>(N3 (cB d8 (cB gR (Í An 192) (AHv A5)) (SO (SO (OX 5) A5) A5)) 26)|BfL=>∃p ys,xs= [Wp]/\ (AIO p ys\/Ahj p)/\ε|BfM=>⟨F2,BF,_,R2,h2,fun u Γ3 F3 H3 R3 s3 h3=>ε⟩|BfO=>Ia A1 J AOl (gX K g) (tX K tc) (ε K ζ) Q Awy|BfP=>∀(A:BQ) (i:Δ) (s:AF) (Q:dM) (E:dM),AWT ->M1 it s ->Bjz|BfQ=>⟨x,H1,I1,rx,F1,AC,d,R1,sF,rd,q⟩|BfR=>Bkj ⟨F5,Γ5,R5,Ğ (BFc (s4.trans s5)),q⟩|BfS=>(AU9 - x Ct) - aB (fZ Ο CU) Aue/ BS (Afn fZ CU)|BfT=>∀j (g1:j<ALu) (g2:j<ATD),BEf ij s AwB AwC (AxV j)|BfU=>Aq3 Pf AR_ pg w os|BfV=>I.call' os un DV Gc Ahh|BfW=>Calls.call_function_entry kind_sorted plain_sorted entry_sorted (args_sorted1 _) (GS (AUh (Builtin.«sorted» _)) ?_)|BfX=>zw9 S hr.hd e0 ε r x|BfY=>⟨i,sl,o,q,e1,hb⟩|BfZ=>∀(hu:ft)(hi:Awk)(ho:Ahf),_|Bfa=>∀(ws:Ρ)(v:D5)(bs:UM),_|Bfb=>∀(he:RF)(hl:G0 QO lo tl)(hh:G0 QO hi th),_|Bfc=>fun ds P E=>sp ds ε E|Bfd=>V1 K g x y H Q|Bfe=>∀{H:Hp}{AI:ύ}{xs:AOv},_|Bff=>∃od,ε/\∀EO,W.lookIn EO od=Ε (mA EO)|Bfg=>∀{rs:E6}{C_ EW:CF}{c:Δ}{f:Row},_|Bfh=>LeftO ε q YA ζ (B6 s AxN) good 40000|Bfi=>(sortedHeap h a vs out).IE|Bfj=>∀(X:Cx)(tg NM:AK)(wi:TI),_|Bfk=>⟨ε f,ζ,AWe,N_ (Uu (gs k) BkI Ψ),?_⟩|Bfl=>[nv,AGV,c9,Pe,LL,ā]|Bfm=>[n9,c8,AdK,ASn,ASo,Bmr]|Bfn=>fun j y v' e1 e2 e3=> ?_|Bfo=>fun s' A1 c' hm hS' ģ=> ?_|Bfp=>Hk (dx≠x) (Fu H' (XO x C (Dx dx))) (H' dx=Ε (.xd ε)) (∀b,b≠x ->b≠dx ->H' b=ζ b) AvQ|Bfq=>GI (AWr fun b=>AJA) b (φ (A9 b)*g b) ε|Bfr=>jn ⟨F1,ds,_,LZ,r1,h1,ε⟩|Bfs=>∀{n p M N:Δ}(AuC),_|Bft=>jp xs AT us At fT Bjs ε|Bfu=>AT4 BR hZ AKz 5 (AMQ "x") Yo|Bfv=>AT4 Qw AKy GL 9 AxT Oo|Bfw=>(kq (z26 Af6 Af6 EQ (AIv BG BH) E5))|Bfx=>Rs (TZ pD) AUj Ι=B7 AAl 1 pD|Bfy=>∀(AU1) (F0 H0 F H:Hp),_|Bfz=>ZT Jl F H σ Γ F1 H1|Bf0=>∀{AGa:Κ ->MD ASq}{x:Κ}{v:AH},_|Bf1=>zhg (JI:=sc) (BV:=B9) Pw ε|Bf2=>F7 (∃(Ο:C4) (ws:Ρ) (h:Κ),ε)|Bf3=>∀d z F' H',zw ->AMb d z ->P d ->Q z H'|Bf4=>(by simp only [EA] at r;show AIq a vs h1 r;(show AWz) <;>simp only [EA] at r' <;>first | show AW0 | show AW1 | (obtain⟨_,_,z,h2,_⟩:=r';show Lw;exact(zv5 I ε ζ).YV))|Bf5=>∀(AWx){e:AK}{tn:qu}(he:AOf),_|Bf6=>∀a vs,BB zo ε kL (R vs) (ζ F ks R v)|Bf7=>fun i s Q E hi st hQ=>ε|Bf_=>∀B5 F' H' DT,ZT SR F' H' DT B5 ->F_ ->P B5 ->Av_|BgA=>(fun a F0 hq=>by have hA:=hq.2 Β;exact(bK  (A4 (zx8 hA Β gA VZ) (OY BH K3))))|BgB=>∀{P:A0}{w:Ap}{K:AD}{mg:EX}{DS:AL}{ε:ζ},_|BgC=>∀{xs:AT} {us:At} (n:Δ),fT ->IY (ε n) (ζ n)|BgD=>∀{ds:AQ} {vs:AT} (n:Δ),L3 ->P7 (ε n) (ζ n)|BgE=>∀(Awt){σ:St}{Γ:G2}(R:Hm),_|BgF=>To Mk2 AAg hZ YO 4 AwD (Ri c)|BgG=>To QD va Su h_ 4 AhF (T9 c)|BgH=>(a k k*a i j - a i k*a k j).ĩ p|BgI=>∀(BjN){k1 k2:Δ}{xs ys:Ki}{x y a b:AH},_|BgJ=>∀(AxQ)(ns:AhM)(nh:AKl)(CA:Awm),_|BgK=>fun c o c1 c2 c3 c4 e=>ε|BgL=>TrY h B e cls dd fl|BgM=>UB (ER ANM==0&&km==1) ((AVS - ANM)==P2)
|BgN=>ε b o eb (no b _ n ANc).2 q1 q2|BgO=>⟨⟨R6.gr.f,K0,K0,R6.gr.n⟩,R6.len,ja j sl,R6.ap⟩|BgP=>∀{ks:GH} {xs:AQ} {vs:AT},AIJ ->ε|BgR=>lE (Qr f) (Qr g)=Qr (HH (.EI [f i,g i]))|BgS=>fun d B5 F' H' v R' s' r ε=> ?_|BgT=>∀{AI:r9}{vs:AVk}(r:AUy)(k:κ),_|BgU=>fun IF h1 d tk hk hm A6 OU=> ?_|BgV=>z6 (zmm BkP Bj' hx fun g2 q1 hs2=>AIb)|BgW=>fun D Γ _=>tb D Γ fun AC Cv=>∃C,Cv.cls=C/\n6 K C/\j_ C Cd/\th ε ζ jR|BgX=>{s with heap:=h',drawn:=d,toks:=tk}|BgY=>∃l xs ws F Pd ds,v= SZ/\H2 l=Ε (FG ws)/\xC H2/\sA xs ws/\sA ds vs/\g xs ds Pd/\∀ys us,sA ys us ->Pd ys ->Q B8 (upd H2 l (FG us))|BgZ=>(by rcases h with ⟨_,z⟩ | ⟨_,z⟩ | ⟨_,z⟩ | ⟨_,_,_,z,_⟩ | ⟨_,z⟩<;>(first|subst z|show AG1|show AG2|show AG4|show AG3|show AG6|show AG5|show AG7|show AG8|show NW z|show NU z|show Mc z|show NV z|cases (z)))|Bga=>⟨F0,gQ N AWN,_,V9 sF (qT Iy rs),hq a ds Pd Ex hsp,ε⟩
|Bgb=>(by
 rw[AL9] at nd;rcases JJ hx with q | q
 ·exact nd.2.2 x q x zY Β
 ·exact Aet nd.2.1 q)
|Bgc=>fun ε Ξ s σ H Q I q=>h ζ Ξ s σ H Q I Bh2
|Bgd=>(by
 refine ε;obtain⟨u,r,l⟩:=hl i x v e1 e2 e3;refine C9 u r;rcases l with l | ⟨k,c,e,z⟩
 ·show FR l
 ·show He ⟨k,c,e,ζ⟩)
|Bge=>∀{op op' :CmpOp}{r r' :R2}(ho:jl X (ALE op) r)(ho' :jl X (ALE op') r')(ha:ų)(hb:AN8)(hc:PE X c tc)
 (hm:lastMarks [op,op'] [b,c]=AG:=by with_unfolding_all rfl),_
|Bgf=>fR (AM2 h1 (fun l BF F2 H2 R2 s2 h2=>ε))|Bgg=>fun i v s' Q' E' hv hQ=> ?_|Bgh=>fun Γ3 F3 H3 σ3 R3 s3 q3=> ?_|Bgi=>W.kas_kind (T:= ε) h2 (Ĺ hv ?_) Ψ Ψ hQ|Bgj=>⟨Qk ys,_,_,r6 Iv zyw ε,Υ,z14 rv,Lo _ VV,Bkl hl⟩|Bgk=>∀(d:D) (v:V),ou d ->Sb ->tF|Bgl=>∀(ds:AQ) (vs:AT),AN1 ->L3 ->AIi|Bgm=>AeE JU h (ALv yi BjW) Μ|Bgn=>(kS (kS (kS hl2 AL3 D.l2z) ATR D.l2i1) AGp D.l2TO)|Bgo=>∀(C:Ζ)(f:Κ)(ta tv:TE),_|Bgp=>∀{g' :ϋ}{t' :Δ}{d' :ASS}{ch:Cb},_|Bgq=>∃i vs DT H',Inv AO2 [] DT H' s' /\Bjb/\ AgJ/\ε|Bgr=>zo8 e1 e2 hob hobc (tl.hasType BEz) ?_|Bgs=>[Ă,cn,BDl,"dict_reverseitemiterator","odict_iterator","itertools.zip_longest","itertools.pairwise"]|Bgt=>∃as fs ts,AU_ Aw6/\f∉fs/\AwY/\Ez AUe=Μ/\ε|Bgu=>by obtain⟨y,ε,ζ,ry,a,η,ex,g,θ⟩:=ι;subst ex;show AH';exact ν|Bgv=>by have wo:s.heap.IsTupleIter it l i:=hit;show T_ o ho hc hd wo;obtain⟨ol,hol,_,nl,hdl⟩:=(GS (Bmi l xs) hl);refine z6 (AOq BFl Bnn (ANV Bnn BFl F.entry_tuple_iterator_next F.args_tuple_iterator_next_1));show bj (AWf (field ANP 0)) (ADS (Aub ho hd SZ));rw[BjD (U' l)];refine ADS (Aub ho hd (Ō i));refine i7 Asl hol hdl;simp only [da,hx];refine ε|Bgw=>z2g I S ε i x v h1 h2|Bgx=>∀(Fn:Avf Avl)(hr:ţ)(hb:AOr)(cx:Atc),_|Bgy=>∀(ws:Ρ)(v:D5)(bs:UM)(k:Δ),_|Bgz=>⟨F2,H2,F3,Γ3,_,R3,q3,fun b Γ4 F4 H4 R4 s4 q4=> ?_⟩|Bg0=>BjS (Tx DA=Tx p.2/\(DA).Pl/\Tx DA<=mw/\∀h,h∈DA↔h∈Į wF)
|Bg1=>(by
 refine Bjp (fun c v hc q=>k c v ?_ q) Ahk Ó;rcases hc with z | z
 ·rw[z];show ye U4
 ·exact U4 c _ z)
|Bg2=>M2 X o "get" LX e f HR|Bg3=>xL ε (AIs (EK (Hq (i:=2) (Da Lg) Bmj Bmk Β) IJ (A3 ζ)))|Bg4=>∀{x:D5}{L:Ρ}{f:AM'}(O:CV x L f),_|Bg5=>∀{P:A0}{w:Ap}{K:AD}{mg:EX}{DS:AL},_|Bg6=>IZ JU ij (BoX dx Bik EO v) (sg D3 (D3= AwP BA/\ANJ)) AUk s'|Bg7=>∀{K:AD}{F:Hp}{a:Ζ}{vs:AT}{xs:AQ}(hq:Awq)(rs:AIJ)(hz:AOL),_|Bg8=>Jl AJ F0 H0 F H σ Γ F1 H1|Bg9=>ń Bif (zxu (ep:=ep) hbt hg O hdr)|Bg_=>(kI (kI (kI h2 AL3 D.i2z) ATR D.i12.symm) AGp D.TOi2.symm)
|Bg'=>by
 show ż ACx Se Se;show BE Aw_ (i7 Bn' ho hd);have hown:Builtin.Dict_items.ownsTuple BGm =AG:=DB
 show ADf (AHn _ (AN5 (ĸ (U' d) nE))) (BjD (U' d)) ACx;show BjM Box ACx;show BjM Boy AIb
|BhA=>BB TB A0 Ap Δ (BB dq Δ AF Thread ε)|BhB=>AI9 (∃p xs i v,x= Wp/\y= FV/\ε/\r_ xs i v/\Q v H)|BhD=>∀{BV:Env}{s:AF}{f:Ζ}{y:Κ}(BkF),_|BhE=>∀(a it:Ζ)(o:Obj)(AI:sK)(ep:Δ)(Qn:BkN),_|BhG=>[NO,nv,cf,ci,AGD,ny,Pc,"dealt"]|BhH=>∀{x:D5}{L:Ρ}{f:AM'}{r:Κ}{ε:AM},_|BhI=>∀(C:Ζ)(m:Κ)(sp:dw)(te:bZ)(t:cW),_|BhJ=>staticsOk (Blp p.main.body) (AKq AKr) A8&&namesBound p A8&&gensDone s&&laidKept (AKq AKr) A8|BhK=>∀(kV doc pm:AH) (an:ND) (cdv ct:AH) (ε:ζ),η|BhL=>⟨⟨oc,od,_,_,_,_,_,_,sl,ε,e,c⟩,k⟩
|BhM=>(by
 rcases Dz hv with ⟨j,u,Β,Β⟩ | ⟨y,u,Β,Β⟩
 ·rw[ε] at h;exact ζ h
 ·rw[η] at h;exact θ h)
|BhN=>ABp {s with heap:=h',gens:=g',drawn:=d',toks:=t'}|BhO=>zyo (fun r:Rw=>pf) (B:=2^100) (l:=AMu) fun r hr=>č (L.mm r Ahl)
|BhP=>by
 have hbs:=hb (AV7 (Bi7 (Acv C EJ))) AWW I2.kIn Biy
 show AOu;refine ATB (z21 (f:=f) ABG M.makes M.init (AGW M.fn) ?_)
|BhQ=>Awf (zP (Uk (bt.small (N:=16) ba Η h1 hi j)) (mx ε Η))|BhR=>Adr (wp:= N9) (h₀:=cy) Ads hm.kp ε hst hpl|BhS=>fun t v as F' H' gr nd hn rt hp=>kk t AC F' H' v as AOY Ahc nd (q_ (Aw0 (AIS ha) AgM AgM)) rt hp|BhT=>(.of (owner:= AL_) (n:= ε) (by show Bi1;kernel_rfl) SV SV SV (by first | show FR SV | show He SV) Bj2)|BhU=>∀(c:ADk)(n:tI)(ha:PE X o ta)(hv:Awv)(hs:Ah0 o),_|BhV=>∀{X:Cx}{Ξ:dN}{σ:St}{H:Hp}{s:AF}{ε:ζ},_|BhW=>fun Ξ s σ H v u Q I r q=>Ae8 v u Q I r (MH hi q)|BhX=>ε (AGb FE JI CL f cd).AGa (AdS us) Av1|BhY=>fun Γ3 F3 H3 σ3 R3 s3 hz=>by obtain⟨m',l,w3⟩:=hz;exact⟨m',l,F3,Γ3,R3,AA' (Ğ s3),w3⟩|BhZ=>∀{t:AU} {h h' :AL} {l c:Ζ} {ws:Ki},iC t h l ws ->ATO c h h' ->l≠c ->iC t h' l ws|Bha=>∀{E:dM}{Ξ:dN}{s:AF}{σ:St}{H:Hp}{x:Κ}{u:AH}{AB:AX}{Q:dM},_|Bhb=>⟨B',e1,a,C,dx,_,Β,ea,hc,hn,by show AVr Lr;exact hl,?_⟩|Bhc=>∃h' tk A1 c',r= .ok (.ret ADH)/\s' =kM/\ (WU Ag8 (KU (Ϗ ju)) ACI)/\AxE A1 c'/\ItemsOf AxM A1 FK|Bhd=>⟨_,_,Β,Β,Β,Β,Β,Β,Β,DB,DB,DB,DB⟩|Bhe=>Bkm (ho Ξ s2 σ H2 x y v u Q I2 rx ry q)|Bhg=>ε aZ aW aq bL bJ bR bw aP bF aK aH aL|Bhh=>⟨fun _ _ _ _ _ _ _ _ _ _ h=>by obtain⟨_,_,_,_,_,_,_,_,_,_,_,_,_,_,_,_,_,_,_,_,h⟩:=h;exact ě,ε⟩|Bhi=>AO1 (ε X Β Β Β hc i Ξ s3 σ3 H3 Đ I3 (stat fr3) st3 ζ) (AOJ r s4)|Bhj=>(Ar8 EO FE params L9 JI dV kV doc pm an cdv ct)|Bhk=>Xo2 P w K mg DS AAf S4 Pc Ā Pc Ā 1|Bhm=>∀(X:Cx)(Ξ:dN)(σ:St)(tg:AK)(R:ANm)(itv:AH)(s2:AF),_|Bho=>∀(l b:Ζ)(NL ABO:Ki)(n n2:Δ)(dd dd2:ND)(sl sl2:ADq)(x y:Κ)(t u:Tok)(h1:Iq NL 0 AWh)(h2:Iq ABO 0 (.AS y u))(hxy:x≠y),_|Bhp=>⟨ok.mod,ok.kind,ok.glob,ok.blt,ok.above,ok.inj,ok.has,ok.cab,ε,ok.frames,ok.stk,ok.Z6,ok.bs,ok.bsz,ok.Hu,ok.Hv,ok.funs,ok.frf⟩|Bhq=>Ņ ED ED ED ED ED ED ED ED ED ED ED ED ED ED|Bhr=>∀(K:AD) (C:Ζ) (f:Κ) (sp:ε) (vs:AT) (H:Hp) (Q:VK) (E:XK),_|Bhs=>by show AE c2 c2 c2 c2 c2 c2 c2 c2 c2 c2 c2 c2 c2 c2;show AE d2 d2 d2 d2 d2 d2 d2 d2 d2 d2 d2 d2 d2 d2|Bht=>by have z' :ε:=z;show AE z' z' z' z' z' z' z' z' z' z' z' z' z' z'|Bhu=>∀{K:AD}{F:Hp}{a:Ζ}{o:Obj}{ks:GH}{vs:AT}{xs:AQ}(e:AIF AhC)(hkl:kL)(rs:AIJ)(hz:D' (C7 dP vs)),_|Bhv=>∀{c:Cls}{Ο:C4}{r:Κ}{g:AM}{ps:GB}{bd:F9}{t:T}(h:AWy t),_|Bhw=>sv (P9 zlf X AG0 use (Ε (ASc (ME y py) B9)) Qv (Lo s' (SP LP Ξ Dn AC_ s')) g (gX AJ g) (tc:=tX AJ tc) (te:=eX AJ te) (Q:=fun v H' =>Dn.nx (ď i re) H') Awh ε ?_ ?_ ?_ Β hs I ?_ ?_) (fun _ s' hq=>z7 (z7 hq)) AOi|Bhx=>by show GG l1 vs h1 q1 r;show GG l2 us h2 q2 r';show AE rv rv rv rv rv rv rv rv rv rv rv rv rv rv;show AE ru ru ru ru ru ru ru ru ru ru ru ru ru ru|Bhy=>by refine As0 SF.slot.plain SF.entry (@W.check_slot JU _ _ Aem BCj Aqi Aqz yi [.AS EO t,v] [] _ SF.kind SF.split CA (SF.args yi Bik v) ?_);have hm:AeE JU h (mroOf HE) Aql:=(BDt X hcd).andThen .now;rw[W.osa_eq,refuse_eq];refine z6 (z6 (Bi_ hm ?_));rw[wq,BoW,zjv _ ht];refine z7 (z6 (Bi_ (AdO X hn) AwV));show BI cd' hc' hd' W.any_some c.hd;obtain⟨oc,od,oda,osl⟩:=o;subst hc hd;refine z6 (z7 (z6 (z6 (Bmq hx (z6 (Atz (BDt X hc') ?_))))))
theorem aad{α:Abo}{a:α}{P:Θ}(e:Ι=Ε a):P:=k7
theorem aae{α:Abo}{a:α}{P:Θ}(e:Nc Ε):P:=k7
theorem aaf{P:Θ}(e:Me Μ):P:=k7
theorem aag{P:Θ}(e:AG=Μ):P:=k7
theorem aah{α:Abo}{a:α}{l:CO}{P:Θ}(e: []=FC):P:=k7
theorem aai{α:Abo}{a:α}{l:CO}{P:Θ}(e:FC= []):P:=k7
theorem aaj{α:Abo}{a:α}{P:Θ}(e:a∈ ([]:CO)):P:=k7
abbrev dM:=DZ PySem.Value PySem.Shared
abbrev dN:=oa PySem.Addr PySem.Obj
section
open IR OI KK
abbrev z6:= @wpAny_bind
abbrev z7:= @wpAny_pure
abbrev z8:= @Heap.get?_push_of_some
abbrev z9:= @Heap.get?_push_size
abbrev zZ:= @AFz
abbrev zY:= @AAa
abbrev zX:= @ARv
abbrev zW:= @Blb
abbrev zV:= @û
abbrev zU:= @Abq
abbrev zT:= @AF_
abbrev zR:= @Bld
abbrev zQ:= @BCX
abbrev zP:= @Nat.le_trans
abbrev zO:= @ARy
abbrev zN:= @Ble
abbrev zM:= @Nat.lt_of_le_of_lt
abbrev zL:= @Blf
abbrev zK:= @AKm
abbrev zJ:= @BCZ
abbrev zH:= @BCa
abbrev zG:= @Option.map_eq_some_iff
abbrev zF:= @X9
abbrev zE:= @u8
abbrev zB:= @Heap.get?_push_ne
abbrev zA:= @List.mem_of_getElem?
abbrev yZ:= @Blg
abbrev yX:= @Blh
#where
namespace _2
open IR OI KK
def G6(s:AR)(j:Δ):AR:=match s with
 | .ClassDef _ _ _ L9 _ _ _ _ _ _ _=>body.getD j (.Pass ApS)
 | _=> .Pass ApS
def J3(s:AR):Arguments:=match s with
 | e_ (.Aqg _ a _ _) _ _=>a
 | _=>{posonlyargs:= [],E9:= [],vararg:=Ι,kwonlyargs:= [],kw_defaults:= [],kwarg:=Ι,BCe:= []}
def yd(s:AR):XG:=match s with
 | e_ (.Aqg _ _ b _) _ _=>b
 | _=> []
def aU(s:AR):OK:=match s with
 | MH .Aqg _ _ sc _ _ _=>sc
 | _=>{kind:= AMg,IS:= [],isGenerator:=AG,isCoroutine:=AG}
#print _2
namespace _3
open IR AKn KK _2
abbrev KC:At:= AvA
def lU(AAG):AU:=x5 (X_ C) (Ε ⟨SB Aqj,_,.cls cd,sl⟩) (match Aql,sl.toList with
  | .B4 C' ::bm,[_,_,_,_,Ε (P4 n),_]=>C' ==C&&n== Aqn && ! cd.hasDel&&W.tailIn K KC bm
  | _,_=>AG)
def bQ(K:AD)(C D:Ζ):AU:=x5 (X_ C) (Ε ⟨_,_,.cls cd,_⟩) (cd.mro.contains (Bn D))
def Ew(AAG):AU:=x5 (X_ C) (Ε ⟨SB Aqj,_,.cls cd,_⟩) (x5 Aql (.B4 C' ::_) (C' ==C))
def isV(o:BlQ)(s:KL):AU:=x5 o (Ε (.val (P4 t))) (t==s)
def Ce(AAG):AU:=(W.subIn K HE (NY AKp)==Ε AG)&&((AR0 K HE "__eq__" ==AhO BHG)&&(W.subIn K HE BjW==Ε Μ))
#print _3
namespace _Hd
open IR AKn Aqp KK _2 _3
noncomputable section
def Ht:ABX Axm IU
 | _,[]=> []
 | i,o::r=>AOt o.isFreed (Ht DI r) ((i,o)::Ht DI r)
def cut(h:AL)(_:Δ):IU:=Ht 0 h.objs.toList
def treeOf:Axm ->Δ ->BT ->BT
 | [],_,t=>t
 | o::r,i,t=>treeOf r DI (t.ins i o)
abbrev ann:dq:=Ε (Bn 6)
abbrev z:AX:=ApS
def BV(p:A0):Env:={JI:=p.main.scope,locals:=mainNs,globals:=mainNs,cells:= [],code:= .B4 13,frame:=Ε 14}
def cB(p:A0):Code:= .L9 Azz (BV p)
def S0(AbA):AF:=Bd1
def Sa(x:BRU)(w:Ap)(os:AAb):AF:=match x with | Ε y=>y.1 | Ι=>S0 w os
def Ta(s:AF):SharedT:=⟨treeOf s.heap.objs.toList 0 EE,15,s.heap.life,Aqq,AKs,LV,s.os⟩
abbrev TB:=KL ->MD Builtin
abbrev GoT:=BhA BRU
abbrev aak:=TB ->BB A0 Ap Δ dq (BB Δ Δ SharedT Thread (ü (Flow×SharedT×Code×AX)))
abbrev aal:=BhA (MD AF)
def fore(tb:TB)(GO:GoT)(p:A0)(w:Ap)(os:AAb):AF:=Sa (GO tb p w 11 ann 12 A3' Az0) w os
def shot(AFT)(tb:TB)(GO:GoT)(RUN:aak)(TOP:aal)(EXS:XG ->Env ->Sem Flow)(p:A0)(obs:AF ->α)(w:Ap)(os:AAb):ü ((Flow×Code)×α):=
 (RUN tb p w 11 ann 1 30000 (Ta (fore tb GO p w os)) ⟨(EXS Azz (BV p)).wrap doneF deadEnd id id,cB p,z,AZ'⟩).bind (OF ((TOP tb p w 11 ann 2 (x.2.1).abs ⟨doneF AC_,x.2.2.1,x.2.2.2,AZ'⟩).map fun s=>((x.1,x.2.2.1),obs s)))
def GY(AFT)(SEEN:tS A0 Ρ Ρ (AF ->AU) AU AF α)(p q:A0)(YA:Ρ)(Xt:AF ->AU){β:CH}(obs:IU ->β)(n:Δ)(w:Ap)(s:AF):AU×α×β:=
 (BhJ,Be6 SEEN,AxN)
def adr(BOz):Ζ:=match x with | AhO Lc=>f | _=>0
def isRef(BOz):AU:=x5 x (AhO (Bn _)) Μ
def allB:AJG ->AU
 | []=>Μ
 | b::l=>AOt b (allB l) AG
def nth(l:AJG)(i:Δ):AU:=match l,i with
 | [],_=>Μ
 | b::_,0=>b
 | _::l,EL=>nth l i
def Gc(fd:Fc):Fc:={fd with kwdefaults:= BA,doc:= BA,pyModule:= BA,annotations:=Ι,code:= BA,closureTuple:= BA}
def fnO(BdL):AXJ:=APS (X_ f) ⟨_,_,.func fd,_⟩ (AOt (codeIn K fd.code FE&&keepIn K Lc) (Ε (Gc fd)) Ι) Ι
def Uw(K:IU)(v:AH):AU:=x5 v (.B4 T) (x5 (X_ T) (Ε Bes) (t== YE &&(x5 vS [BA] Μ)))
def fnD(BdL):AXJ:=(fnO K f FE).bind fun fd=>(AOt (Uw K fd.defaults) (Ε {fd with BCe:= BA}) Ι)
def Zy(K:IU)(x:Κ):AXJ:=BdT fnO
def fnM(K:IU)(x:Κ):AXJ:=BdT fnD
abbrev ex(x FE:Κ)(st:AR):AXJ:=Ε BBx
abbrev d(x:Κ)(s:AR):Κ×AR:=(x,s)
def seen(K:IU)(ds:Ajd):AgF:=AR3 fun d=>Zy K d.1
def due(ds:Ajd):AgF:=AR3 fun d=>ex d.1 d.1 d.2
def recOf(s:AR):Aqt:=match s with
 | .Aqg n a b _ _ _ sc _ _ ps=>⟨n,a,b,sc,ps⟩
 | _=>⟨HM,J3 s,[],aU s,z⟩
def uJ:At ->ARA Ah4
 | []=>Aip
 | AaF::r=>B7 uJ r (.inl i:: ·)
 | A4x::r=>B7 uJ r (.inr x:: ·)
 | _=>Ι
def tupO(K:IU)(a:Ζ):ARA Ah4:=APS (X_ a) Bes (Nl t YE (uJ vS) Ι) Ι
def pP(w:Ap)(AI:AMK Ρ):ARA (Ω×Κ×Ρ):=Ε (kvs.map fun p=>(hashStr w DA,DA,p.2))
#where
#print _Hd
namespace _Lw
open IR OI KK _2 _3
def B3(AJ2):AR:=PySem.Challenge.pw_hall_k94_whole_shares.main.body.getD i (.Pass ApS)
abbrev zcr:AR:=AFX 3
abbrev zfh:AR:=AFX 4
abbrev zzr:AR:=B3 18
abbrev zex:AR:=B3 25
abbrev zei:AR:=AFX 5
abbrev Zz:AR:=AFX 2
abbrev Ux:AR:=B3 81
abbrev zlu:AR:=B3 73
abbrev zhk:AR:=B3 74
abbrev zmz:AR:=B3 82
abbrev zp2:AR:=B3 75
abbrev zmw:AR:=B3 83
abbrev zvl:AR:=B3 58
abbrev ZC:AR:=B3 57
abbrev Uy:AR:=G6 (B3 60) 0
abbrev ZD:AR:=B3 32
abbrev ZF:AR:=B3 31
abbrev zo1:AR:=B3 28
abbrev ztb:AR:=B3 30
abbrev zpb:AR:=B3 12
abbrev ZG:AR:=B3 35
abbrev ZJ:AR:=B3 39
abbrev ZK:AR:=B3 38
abbrev zmp:AR:=B3 13
abbrev zji:AR:=B3 37
abbrev ykj:AR:=B3 36
abbrev Uz:AR:=B3 34
abbrev ZL:AR:=B3 43
abbrev zjl:AR:=B3 66
abbrev UG:AR:=B3 65
abbrev z5p:AR:=B3 14
abbrev zzj:AR:=B3 19
abbrev ZM:AR:=B3 45
abbrev ZP:AR:=B3 44
abbrev z0g:AR:=B3 15
abbrev zjc:AR:=B3 47
abbrev ZQ:AR:=B3 46
abbrev RX:AR:=B3 42
abbrev ZR:AR:=B3 41
abbrev zeo:AR:=G6 (B3 9) 0
abbrev zz9:AR:=B3 16
abbrev yac:AR:=B3 17
abbrev zoy:AR:=B3 59
abbrev zfd:AR:=G6 (B3 60) 1
abbrev zde:AR:=AFX 6
abbrev z9e:AR:=B3 20
abbrev zff:AR:=B3 51
abbrev zze:AR:=B3 55
abbrev zpa:AR:=B3 54
abbrev yan:AR:=B3 53
abbrev zs6:AR:=B3 52
abbrev ZS:AR:=B3 21
abbrev MN:AR:=B3 50
abbrev ZV:AR:=AFX 1
abbrev ZW:AR:=B3 23
abbrev zz7:AR:=B3 64
abbrev RZ:AR:=G6 (B3 8) 0
abbrev ZX:AR:=B3 63
abbrev Z0:AR:=B3 62
abbrev Z1:AR:=B3 69
abbrev UJ:AR:=B3 68
abbrev z6p:AR:=B3 67
abbrev MP:AR:=AFX 0
abbrev zgo:AR:=B3 86
abbrev zm3:AR:=B3 78
abbrev zh4:AR:=B3 79
abbrev zmh:AR:=B3 84
abbrev UL:AR:=B3 85
abbrev zdc:AR:=AFX 7
abbrev Z2:AR:=B3 88
abbrev Z4:AR:=B3 89
abbrev zhs:AR:=B3 87
abbrev uz:AR:=B3 90
def ds:Ajd:= [Cl Abu zzr,Cl Abv Ux,Cl Abw zlu,Cl Abx zhk,Cl Aby zmz,Cl Abz zp2,Cl Ab0 zmw,Cl Ab1 zvl,Cl Ab2 ZC,Cl Ab3 ZD,Cl Ab4 ZF,Cl Ab5 zo1,Cl Ab6 ztb,Cl Ab7 zpb,Cl Ab8 ZG,Cl Ab9 ZJ,Cl Ab_ ZK,Cl Ab' zmp,Cl AcA zji,Cl "led" ykj,Cl AcB Uz,Cl AcC ZL,Cl AcD zjl,Cl AR8 UG,Cl AcE z5p,Cl AcF zzj,Cl AcG ZM,Cl AcH ZP,Cl AcI z0g,Cl AcJ zjc,Cl AcK ZQ,Cl AcL RX,Cl AcM ZR,Cl AcN zz9,Cl AcO yac,Cl AcP zoy,Cl AKv z9e,Cl AcQ zff,Cl AcR zze,Cl AcS zpa,Cl AKw yan,Cl AKx zs6,Cl AcT ZS,Cl h_ zz7,Cl AcU ZX,Cl AcV Z0,Cl AcW Z1,Cl AcX UJ,Cl AcY z6p,Cl AcZ zgo,Cl Aca zm3,Cl Acb zh4,Cl Acd zmh,Cl Ace UL,Cl Acf Z2,Cl Acg Z4,Cl Ach zhs,Cl S_ uz]
def fts(AQ'):AJG:= [
 Φ (õ Aqx),
 Φ (õ "Few"),
 Φ (õ Acj),
 Φ (õ va),
 Φ (õ AAf),
 Φ (õ AKy),
 Φ (õ AAg),
 Φ (BQj AKy),
 Φ (AkU Ack),
 Φ (AkU BCi),
 Φ (Aof AMM),
 Φ (AkU BCk),
 Φ (AfI AMM),
 Φ (BQj AAg),
 Φ (yz Ack AAg),
 Φ (yz BCi AAg),
 Φ (Aof ADg),
 Φ (yz BCk AAg),
 Φ (AfI ADg),
 Φ (AJy LA),
 Φ (AJy Acl),
 Φ (ABw ADg YO),
 Φ (ABw ϧ Pc),
 Φ (ABw ϧ Ā),
 Φ (AJy AR9),
 Φ (AJy AGD),
 Φ (AJy cf),
 Φ (AJy ci),
 Φ (ABw AEb h_),
 Φ (AJy Pe),
 Φ (yz lU AAf),
 Φ (AVD ϧ Acm AGF),
 Φ (ABw ϧ BCl),
 Φ (AVD ϧ BCm Aq0),
 Φ (Alr AXZ),
 Φ (A2O AXZ),
 Φ (Aof ϧ),
 Φ (A0G Ack),
 Φ (yz lU va),
 Φ (AVD AEb Acm AGF),
 Φ (ABw AEb BCl),
 Φ (AVD AEb BCm Aq0),
 Φ (Alr AXY),
 Φ (A2O AXY),
 Φ (Aof AEb),
 Φ (yz Ack va),
 Φ (BUV BHQ),
 Φ (BOb BG'),
 Φ (_3.isV (W.findCls K BHQ Av5 LE) BCn =Μ),
 Φ (AFV AAh),
 Φ (AFW AAh),
 Φ (AFV MU),
 Φ (AFW MU),
 Φ (AFV ck),
 Φ (AFW ck),
 Φ (AFV TD),
 Φ (AFW TD),
 Φ (A0b ADg),
 Φ (A0c ADg),
 Φ (A0b ϧ),
 Φ (A0c ϧ),
 Φ (Atn ADg AKz),
 Φ (Ato BOm),
 Φ (AFV ā),
 Φ (AFW ā),
 Φ (AFV AGG),
 Φ (AFW AGG),
 Φ (A0b AEb),
 Φ (A0c AEb),
 Φ (AFV LE),
 Φ (AFW LE),
 Φ (AFV iA),
 Φ (AFW iA),
 Φ (õ Aq1),
 Φ (õ Aq2),
 Φ (ApP Ai4),
 Φ (ApP Ai5),
 Φ (ApP BG'),
 Φ (yz Ew va),
 Φ (A0G Ew),
 Φ (UY Ă),
 Φ (UY iE),
 Φ (UY U2),
 Φ (UY U_),
 Φ (UY AGH),
 Φ (UY "abs"),
 Φ (UY "max"),
 Φ (UY "all"),
 Φ (UY cn),
 Φ (UY YE),
 Φ (UY "any"),
 Φ (UY IC),
 Φ (UY MV),
 Φ (UY vb),
 Φ (UY YR),
 Φ (UY AK0),
 Φ (õ BCo),
 Φ (_Hd.tupO K (Aqy (At4 Aci BCo))=Ε [.D6 0,.D6 1]),
 Φ (j_ Ai4 Ai4),
 Φ (Me (bQ K Ai5 Ai4)),
 Φ (j_ Ai5 Ai5),
 Φ (yz lU va),
 Φ (A0G lU),
 Φ (j_ AXY AXY),
 Φ (Me (bQ K AXZ AXY)),
 Φ (j_ AXZ AXZ),
 Φ (AkU Ce)]
def obs(AQ'):BX7:=(_Hd.allB (fts K),
 _Hd.seen K ds,[AFM AAh BCp,
  AFM MU BCq,
  AHf (xA Aq1) ck,
  AFM ck BCr,
  AFM TD BCs,
  AHf (AHI ADg LE) Acn,
  AHf (AHI ϧ LE) BCt,
  AHf BOm BCu,
  AFM ā BCv,
  _Hd.fnM K ă,
  AFM AGG BCw,
  AHf (xA Aq2) iA,
  AHf (AHI AEb LE) Aco,
  AFM LE AK1,
  AFM iA BCx])
def good(Aad):BX7:=(Μ,_Hd.due ds,
 [m_ AAh BCp zcr,
  m_ MU BCq zfh,
  m_ ck ck zex,
  m_ ck BCr zei,
  m_ TD BCs Zz,
  AkR Acn Uy,
  AkR BCt zeo,
  m_ AKz BCu zfd,
  m_ ā BCv zde,
  m_ ă ă MN,
  m_ AGG BCw ZV,
  m_ iA iA ZW,
  AkR Aco RZ,
  AkR AK1 MP,
  m_ iA BCx zdc])
abbrev pg:A0:=PySem.Challenge.pw_hall_k94_whole_shares
abbrev lw:W.OpenLaw:=PySem.Challenge.rw_hall_k94_whole_shares
abbrev vw:A0:=W.view pg [90]
def YA:Ρ:=pg.boundNames.filter fun x=>x != S_
theorem hd_e:W.opening pg=W.plainProg pg.main.scope.names:=lI
theorem hd_f(s:AF):PySem.fenceModules? pg s=Ε s:=lI
theorem hd_A(AbA):AR_ Pf pg w 11 _Hd.ann 12 (_Hd.S0 w os) (W.topStub pg)=Ε (BfU,⟨denote Pf (_Hd.cB pg),A6K,_Hd.z,BNM⟩):=by
 show Bkt PySem.W.Fast.te11892475500146522536 Aq4;kernel_rfl
theorem hd_B(AbA):W.segRun Pf pg w 11 _Hd.ann 1 1 (Aq3 Pf AR_ pg w os) (W.blockOf (W.behindTheImports pg) (_Hd.env pg) (_Hd.cB pg) _Hd.z BNM)=Ε (AC_,BfU,A6K,_Hd.z):=by
 show Bkt PySem.W.Fast.te14374325043358763698 Aq4;kernel_rfl
theorem hd_C(AbA):(_Hd.Ta (Aq3 Pf AR_ pg w os)).abs=Aq3 Pf AR_ pg w os:=by
 rw[BCy,Aq4];kernel_rfl
theorem hd_D(AbA):_Hd.shot Pf AR_ W.segRunT W.topRun execs pg (_Hd.rest W.openSeen pg vw YA (Da Μ) obs 1500 w) w os=Ε (BSl A6K (W.openGood vw YA)):=by
 rw[BCy,PySem.W.Fast.te10110043849684766642,PySem.W.Fast.te14082659384304107361,PySem.W.Fast.te12563942051412417395,PySem.W.Fast.te4187177175401517315,Aq4];kernel_rfl
theorem hd_s:lw.row.wellSaid=Μ:=lI
theorem hd_said:lw.wellSaid=Μ:=by
 unfold W.OpenLaw.wellSaid;rw[hd_s]
 kernel_rfl
theorem hd_ok:UB (W.chainsOk vw&&W.opensWell lw.row.prog) (W.frees Blq&&lw.row.within.isEmpty):=lI
theorem hd_bare:lw.row.prog.bare:=⟨Β,Β,Β,Β,Β,Χ⟩
theorem hd_d:W.defOf vw lw.row.name=Ε (BCz uz,[]):=lI
theorem hd_p:lw.row.prog.theDef lw.row.name=Ε (AKX params,AKX L9,AKX JI):=lI
theorem hd_k:W.kwWritten? (AKX params.kwonlyargs) (AKX params.kw_defaults)=Ε []:=lI
theorem hd_n:AKX EO= S_ :=lI
theorem hd_z:AKX params.defaults= []:=lI
#print _Lw
namespace _2
open IR OI KK
abbrev Key:=Sum Ω Κ
def uK:Key ->AH ->AU
 | .D6 k,v=>Value.isInt k v
 | ş,v=>Blr x v
def aam(Aad):Key ->Ω
 | .D6 k=>hashInt k
 | ş=>hashStr w x
theorem Dz:Os k Key v AH (uK k v=Μ) ((∃i t,k=Aq5 i/\v=AaC)\/ (∃x t,k=RR x/\v=Ami))
 | APW,v,h=>by
  show UC t (BC' (k:=i) (v:=v) h);exact M' (Lu i t e)
 | ş,v,h=>by
  show UC t (Value.isStrOf_shape (x:=x) (v:=v) h);exact KB (Lu x t e)
theorem z6z(i:Ω)(t:Tok):uK (HV i) AgT=Μ:=aw uK Value.isInt
theorem yaf(x:Κ)(t:Tok):uK (FM x) AWh=Μ:=aw uK Blr
theorem ynv(a b:Ω):TC (BLs)=(a==b):=by
 by_cases e:a=b
 ·subst e;simp
 ·have h:¬BLs:=PH (e (Sum.inl.inj q));rw[vc h];exact UH AK2 e
theorem ym0(AYe):í (Φ BLt) (a=b):=by
 by_cases e:a=b
 ·subst e;simp
 ·have h:¬BLt:=PH (e (Sum.inr.inj q));rw[vc h,BHZ]
theorem ymv(a:Ω)(b:Κ):Anw (Bjm RR):=BW3
theorem ymj(a:Κ)(b:Ω):Anw (Bjn Aq5):=BW3
def pQ(CI:A0)(w:Ap):PySem.KeyKind CI w Key where
 is:=uK
 hash:=aam w
 inj:=fun v a b ha hb=>by
  rcases Dz ha with ⟨i,t,Β,Β⟩ | ⟨x,t,Β,Β⟩
  ·rcases Dz hb with ⟨j,u,Β,e⟩ | ⟨y,u,Β,e⟩
   ·show AO7 e e1;rw[e1]
   ·exact k7
  ·rcases Dz hb with ⟨j,u,Β,e⟩ | ⟨y,u,Β,e⟩
   ·exact k7
   ·show AO7 e e1;rw[e1]
 byValue:=fun k v h=>by
  rcases Dz h with ⟨i,t,Β,Β⟩ | ⟨x,t,Β,Β⟩<;>rfl
 pyHash:=fun hv h=>by
  rcases Dz hv with ⟨i,t,Β,Β⟩ | ⟨x,t,Β,Β⟩
  ·exact wpAny_pyHash_int h
  ·exact wpAny_pyHash_str h
 eqBool:=fun hu hv h=>by
  rcases Dz hu with ⟨i,t,Β,Β⟩ | ⟨x,t,Β,Β⟩
  ·show BhM ynv wpAny_eqBool_int ymv (Blx i t y u _ _ _ _)
  ·show BhM ymj (Bly x t j u _ _ _ _) ym0 wpAny_eqBool_str
 «strs»:=fun k x t v h=>by
  rcases Dz h with ⟨i,u,Β,e⟩ | ⟨y,u,Β,e⟩
  ·exact k7
  ·show AO7 e e1;subst e1;(show Lv v v v v v v v v v v v v v v)<;>rfl
theorem zzm(CI:A0)(w:Ap)(i:Ω)(t:Tok):AWq pQ (HV i) AgT=Μ:=z6z i t
theorem zqs(CI:A0)(w:Ap)(x:Κ)(t:Tok):AWq pQ (FM x) AWh=Μ:=yaf x t
inductive V where
 | non | bl (b:AU) | AN (AQz) | AS (x:Κ) | Z5 (b:AAi UInt8) | flt (b:UInt64) | B4 (a:Ζ) | ty (n:KL)
 deriving DecidableEq
def KO:BLK
 | B8,u=>A2S
 | l5,u=>u=Aq_ b
 | FV,u=>Ř AaC
 | ß,u=>Ř Ami
 | .Z5 b,u=>Ř (Value.bytes b t)
 | .flt b,u=>Ř (BDG b t)
 | B',u=>AMW
 | .ty n,u=>BRe
abbrev IY:DZ AT At:=ASB KO
theorem Vals.length{xs:AT}{us:At}(r:fT):BIv:=BHo
theorem Vals.get:∀{xs:AT} {us:At} {i:Δ} {x:V},fT ->ef ->∃u,E4 us u/\Æ
 | _,_,_,_,EE,e=>AYm
 | _,_,0,_,.AY r _,e=>by simp at e;subst e;exact SH r
 | _,_,EL,x,a_ _ t,e=>by
  show GA u h1 h2 (P_ Vals.get i x x) t AEQ
  exact⟨u,Cc h1,h2⟩
theorem Vals.set(BZ3):∀{xs:AT} {us:At} (i:Δ),fT ->IY (ArA i x) (us.set i u)
 | _,_,_,EE=> EE
 | _,_,0,a_ _ t=> AKC
 | _,_,EL,.AY q t=> .AY q (Vals.set r i t)
theorem BDH:∀{xs ys:AT} {us ws:At},fT ->IY ys ws ->IY A6o (us++ws)
 | _,_,_,_,EE,s=>s
 | _,_,_,_,AKC,s=> .AY r (BDH t s)
theorem Vals.take:BgC xs.take us.take
 | _,_,0,_=> EE
 | _,_,_+1,EE=> EE
 | _,_,n+1,AKC=> .AY r (Vals.take n t)
theorem Vals.drop:BgC Acs us.drop
 | _,_,0,r=>r
 | _,_,_+1,EE=> EE
 | _,_,n+1,a_ _ t=>Vals.drop n t
def nC:DZ UQ dq
 | ADK,Ag2=>OC
 | Ι,Ι=>ID
 | _,_=>D7
def KV{κ:CH}:DZ r9 AVk:=ASB fun(p:κ×V) (q:κ×AH)=>DA=q.1/\KO p.2 q.2
def kV:Key ->V
 | APW=> FV
 | ş=> ß
inductive HO where
 | By (xs:AT)
 | EI (xs:AT)
 | dK (AI:sK) | dT (AI:ύ)
 | set (S:Ω ->AU) (n:Δ)
 | ins (C dx:Ζ) (fs:l8)
 | Au (x:Ζ)
 | xd (fs:l8)
 | met (f x:Ζ)
 | rng (lo hi:Ω)
 | frz (o:Obj) (u:HO)
 | KD (ps:Ki)
 | ext (φ:Ax_)
abbrev Hp:=Ζ ->MD HO
def upd(H:Hp)(a:Ζ)(o:HO):Hp:=f_ (Nl b a (Ε o) (H b))
theorem gP{H:Hp}{a:Ζ}{o:HO}:upd H a o a=Ε o:=AjT upd
theorem bU(A'W){o:HO}(h:SW):upd H a o b=H b:=AEc upd AD'
theorem yoe(A'W){o u:HO}(h:AjM)(h' :AEX)(d:o≠u):a≠b:=by
 intro e;subst e;rw[h] at h';exact d (zH h')
theorem gJ(A'W){o:HO}(h:AjM)(h' :NB):a≠b:=by
 intro e;subst e;rw[h] at h';show AE h' h' h' h' h' h' h' h' h' h' h' h' h' h'
section
variable(P:A0)(w:Ap)
def bh(H:Hp)(h:AL)(a:Ζ):HT HO
 | gT=>AhK (A'0 (ANt/\eR AOp))
 | UO=>AhK (∃AO:At,ANt/\Azc IsTup h)
 | .dK AI=>A'X
 | .dT AI=>Agb (∃xs:AOv,
   ASB (fun(p:GH×V) (q:GH×Ζ×AH)=>Bat) AI xs/\
   ∃o es ep,ϲ/\BDK/\nK= Agn/\ArC=YU (entryOfKey (ASE Ŭ))/\ (xs.map (·.1)).Pl)
 | .set S n=>h.SetOf (intKind P w) a S n
 | .ins C dx fs=>A5O/\BHv/\dx≠a/\eR AlV/\
   ∃mA,Ao3/\ (BBG)/\BL2
 | .Au _=>∃o,ϲ
 | .xd fs=>∃mA,h.Ns1 a mA/\BBG
 | .rng lo hi=>∃t u v,eR AvB
 | .frz o u=>ϲ/\bh H h a u
 | .KD ps=>BWN
 | .met f x=>BOp yi
 | .ext φ=>φ h/\ (∃o,ϲ)/\∀h1 h2:AL,φ h1 ->(∀o,ACr ą ->ACr h2.get?) ->φ h2
def nD(H:Hp)(h:AL):Θ:=∀a o,AjM ->AAP o
#where
section
variable{P:A0}{w:Ap}{H H' :Hp}{h h' :AL}{a:Ζ}{o:HO}
theorem bh.lt(x:AAP o):A0h:=by
 cases o with
 | By xs=>show Axi x;show bP
 | EI xs=>show Axo p x p.lt
 | dK AI=>obtain⟨_,_,_,_,o,_,_,e,_⟩:=x;show bP
 | dT AI=>obtain⟨_,_,_,_,o,_,_,e,_⟩:=x;show bP
 | set S n=>obtain⟨o,_,_,_,e,_⟩:=x;show bP
 | ins C dx fs=>show Axk x;show bP
 | Au y=>obtain⟨_,e⟩:=x;show bP
 | xd fs=>show Axl x;show bP
 | rng lo hi=>show Axj x;show bP
 | frz ob u=>obtain⟨e,_⟩:=x;show bP
 | KD ps=>exact zJ (GS (eR _) x)
 | met f y=>exact zJ (GS (eR _) x)
 | ext φ=>obtain⟨_,⟨_,e⟩,_⟩:=x;show bP
theorem ArF{α β:CH}{F G:DZ α β}:∀{l₁:CO} {l₂:Q4},ASB F l₁ l₂ ->(∀a b,F a b ->G a b) ->ASB G l₁ l₂
 | _,_,EE,_=> EE
 | _,_,AKC,f=> .AY (f _ _ r) (ArF t f)
theorem bh.stay(x:AAP o)(k:qq (b=a\/p_ (.Au a)) (MI L') Aej)
  (ho:Mn (p_ (.Au a)) (AU7 (.Au a))) (ht:A'p):bh P w H' h' a o:=by
 induction o with
 | By xs=>show Ap7 x;exact⟨z,AO,n,r,uj⟩
 | EI xs=>obtain⟨z,AO,r,ob,e,c⟩:=x;exact⟨z,AO,r,ob,uj,c⟩
 | dK AI=>obtain⟨z,y,vs,r,ob,es,ep,e,c⟩:=x;exact⟨z,y,vs,r,ob,es,ep,uj,c⟩
 | dT AI=>
  obtain⟨z,y,xs,r,ob,es,ep,e,c⟩:=x;exact⟨z,y,xs,ArF r fun p q z=>BVR,ob,es,ep,uj,c⟩
 | set S n=>obtain⟨ob,es,ep,t,e,c⟩:=x;exact⟨ob,es,ep,t,uj,c⟩
 | ins C dx fs=>
  obtain⟨d,z,ne,e,mA,⟨od,es,ep,e2,c⟩,r⟩:=x;exact⟨ho _ d,z,ne,uj,mA,⟨od,es,ep,k _ _ (FM d) e2,c⟩,r⟩
 | Au y=>show UC ob x;exact⟨ob,uj⟩
 | xd fs=>obtain⟨mA,⟨od,es,ep,e,c⟩,r⟩:=x;exact⟨mA,⟨od,es,ep,uj,c⟩,r⟩
 | rng lo hi=>obtain⟨t,u,v,e⟩:=x;exact⟨t,u,v,uj⟩
 | frz ob u ih=>show AO6 q x;exact⟨uj,ih q⟩
 | KD ps=>
  have e:BWN:=x;exact k a _ WN e
 | met f y=>
  have e:BOp (Bn y):=x;exact k a _ WN e
 | ext φ=>obtain⟨p,⟨o,e⟩,st⟩:=x;exact⟨st _ _ p fun o q=>k _ _ WN q,We uj,st⟩
theorem nD.lt(x:cS)(e:AjM):A0h:=(x a o e).lt
theorem nD.fresh(x:cS)(e:A0s):Ä:=by
 cases q:H a with
 | Ι=>rfl
 | Ε u=>exact É (zN (x.lt q) e)
theorem nD.kept(x:cS)(k:AmC):nD P w H h' :=fun a o e=>
 (x a o e).stay (fun b u _ q=>k b u q) Ahk Ó
theorem nD.laid(x:cS)(k:AmC)(hp:A0s)(new:bh P w AZb h' a o):nD P w AZb h' :=SS (by
 have hn:=x.fresh hp;by_cases hb:b=a
 ·subst hb;show AFl gP new
 ·rw[t6] at e;exact AIl x e (fun c v _ q=>k c v q) (bX q AJs) fun c xs q=>AJs)
#where
def Rd(H:Hp)(a:Ζ)(u:HO):Θ:=AHh\/∃o,Nd ANp
theorem Rd.ok{P:A0}{w:Ap}{H:Hp}{h:AL}{a:Ζ}{u:HO}(r:Rd H a u)(x:cS):AAP u:=by
 rcases r with r | ⟨o,r⟩
 ·exact x a u r
 ·obtain⟨_,q⟩:=x a _ r;exact q
def UW:HT (MD HO)
 | Ε (FG _)=>ID
 | Ε (.dK _)=>ID
 | Ε (.dT _)=>ID
 | Ε (.set _ _)=>ID
 | Ε (.ins _ _ _)=>ID
 | Ε (.ext _)=>ID
 | Ε (.xd _)=>ID
 | _=>D7
section
variable{P:A0}{w:Ap}{H:Hp}{h h' :AL}{x e:Ζ}{o' :HO}
theorem nD.write(ok:cS)(mu:A7i)(he:A_V)(k:BKo)(heo:A6Q)
  (new:bh P w (ZZ x o') h' x o'):nD P w (ZZ x o') h' :=WH u (by
 have U0:∀c y,AfY c y ->c≠x:=BX9 y
 have aan:∀c xs,Tm c WZ ->c≠x:=BX9 xs
 by_cases hb:b=x
 ·subst hb;rw[gP] at q;show SY;exact new
 ·rw[t6] at q;by_cases hbe:b=e
  ·have q' :p_ (.Au x):=by
    rcases he with z | z
    ·exact lf hbe.trans z hb
    ·rw[hbe];exact z
   rw[q] at q';show AE q' q' q' q' q' q' q' q' q' q' q' q' q' q';obtain⟨v,hv⟩:=heo;exact⟨v,CD hbe hv⟩
  ·refine AIl ok q (fun c v hc r=>k c v ?_ r) (bX r (Ž (U0 c b r) r)) fun c xs r=>(Ž (aan c xs r) r)
   show œ hc hc
   ·exact hbe
   ·rintro Β;rcases he with z | z
    ·exact U0 c b hc z
    ·rw[hc] at z;show Lw;exact hb Β)
#where
structure Un (fs ex:Cb) (H H' :Hp) (h h' :AL):Θ where
 LG:Ben (b∉fs) ACI
 NI:Ben (b∈fs) BTR
 cr:Ł L' (NB ->b∉ex ->AMz)
 ASF:WU rq (b∉ex) BIo
 tups:A'p
 lu:BUt
 nR:BXp
section
variable{fs fs' ex ex' :Cb}{H H1 H2:Hp}{h h1 h2 h' :AL}{a x e:Ζ}{o:HO}
theorem Un.any(u:ARZ H1 h1){b:Ζ}{ob:Obj}(q:ACH L')(n:NB)(hx:b∉ex):∃sl,Md ą {ob with AK6:=sl}:=by
 by_cases hb:b∈fs
 ·exact u.slot b ob q n hb hx
 ·exact⟨BDQ,u.keep b ob q n hb hx⟩
theorem Un.trans(a:ARZ H1 h1)(b:Un fs ex H1 H2 h1 h2):ARZ H2 h2 where
 LG:=Be5 (b.keep c ob (a.keep c ob q n hc hx) A9i hc hx)
 NI:=Be5 (by
  show AQh (a.slot c ob q n hc hx);show Ϙ sl' (b.slot c _ e1 A9i hc hx);exact⟨sl',e2⟩)
 cr:=fun c ob q n hx=>by
  show AMh e1 (a.there c ob q hx);exact b.free c o' e1 A9i hx
 ASF:=fun c ob q hx=>by
  show AMh e1 (a.there c ob q hx);exact b.there c o' e1 hx
 tups:=fun c xs q=>b.tups c xs (a.tups c xs q)
 lu:=fun c ob xs q=>b.lu c ob xs (a.lu c ob xs q)
 nR:=fun c ps q=>by
  show EU m1 e1 a.nR c ps q;show Ϙ m2 (b.nR c _ e1);exact⟨m1++m2,BOR⟩
theorem ASG(k:AmC):ARZ H h' :=
 ⟨BKv (k b ob q),BKv ⟨BDQ,k b ob q⟩,AIp n _ n,A8n ⟨ob,k b ob q⟩,Ó,AKO _ q q,fun _ ps q=>⟨#[],by rw[q];simp⟩⟩
theorem Un.refl:Un fs ex H H h h:=ASG Ó
theorem Acw(k:AmC)(hp:A0s)(hn:Ä):ARZ AZb h' where
 LG:=fun b u q _ _ _=>k b u q
 NI:=fun b u q _ _ _=>⟨u.slots,k b u q⟩
 cr:=Am3 _ (CD (BNT (Ble (BCZ q) hp)) n)
 ASF:=WS q _ ⟨u,k b u q⟩
 tups:=WH xs AJs
 lu:=WS xs q AJs
 nR:=BKY AfE
theorem Un.write(mu:A7i)(he:A_V)(k:BKo)(heo:A6Q):ARZ (ZZ x o) h' :=by
 have hx:AjC (b≠x):=fun b n z=>(BkL n)
 show HL hb (AjC (b≠e)) (fun b n z=>by
  subst z;rcases he with r | r
  ·exact hx b n r
  ·show MO n r r r r r r r r r r r r r r r) hm (qq AEX (¬UW (Ε u)) (b≠x)) (fun b u q nm z=>by subst z;rw[q] at mu;exact nm mu) ⟨fun b u q n _ _=>BUB,fun b u q n _ _=>⟨u.slots,BUB⟩,Am3 _ (CD (bU (hx b n)) n),WS q _ ?_,
  WH xs (Ž A8w q),WS xs q (Ž A8w q),BKY (bU A8w)⟩
 by_cases hbe:b=e
 ·subst hbe;exact heo
 ·exact⟨u,k b u hbe q⟩
#where
def v7(A8V):Cb:=BQf iF (H a).Ć
def yg(A8V):AL:=ASI h (v7 h H)
theorem z5y(A8V):(yg h H).ć=MW:=W.hideAll_size _ _
theorem ybo(BdZ)(e:rq)(n:NB):KU A5r:=
 BDR _ e fun hm=>by
  have q:(H b).Ć=Μ:=(ASJ hm).2;rw[n] at q;simp at q
theorem ykp(BdZ)(e:KU A5r):rq/\NB:=by
 have e' :rq:=BDT (v7 h H) e;refine C3 e';cases q:H b with
 | Ι=>rfl
 | Ε x=>
  have hm:b∈v7 h H:=Acx ⟨BmE (zJ e'),CY q⟩
  have z:SC A5r:=BmF (v7 h H) hm;rw[z] at e;show DM
def yhe(g h:AL)(L:Ζ):dN:=BQf BDU (Agt (a=L\/ (g.get? a).Ć=Μ) (B7 L' a fun o=>(a,o)))
def GY(g h:AL)(L d:Ζ):dN:=(yhe g h L).iF fun p=>(Φ (DA≠d))
structure Mod (K:AD) (mg:EX) (DS:AL):Θ where
 J4:Ĉ DS
 glob:Bjh
 blt:∃mb,base.Ns ArI mb/\BbK
 nolimit:base.NoLimit
structure Cx where
 CI:A0
 w:Ap
 K:AD
 mg:EX
 DS:AL
 A:BQ
 N:Ρ
 LH:AF
 TK:Hp
 BV:Env
 DE:LT
 stack:LT
 ex:Cb
 fn:Κ ->AU
 calm:AU
 pn:dN
 xe:dM
def frs(l:LT):Cb:=l.filterMap (·.frame)
abbrev Cx.fs(X:Cx):Cb:=frs AGJ
def sW(BTc):Θ:=Az7\/AZH\/BJb
def Loc(BTc):Θ:=Az7\/AZH
def Look(BV:Env)(h:AL)(m:EX)(x:Κ)(u:AH):Θ:=
 (AT' ASK/\Fu m u)\/ ((ANC ASK\/AWH ASK)/\∃c,AYA/\h.IsCell c (Ε u))
structure Cx.Ok (X:Cx):Θ where
 mod:BWW
 kind:ArJ= AMg
 glob:BmH=my
 blt:X.env.builtins=ArI
 above:AIY VA
 inj:A'd AHP (Bje c)
 has:∀x,(ANC AK8\/AWH AK8) ->∃c,AHP
 cab:∀x c,AfB ->AHP ->AIY c
 hd:FX ->X.A.handled=Ι
 frames:X.A.frames=Ε MX
 stk:MX=AGJ\/ (MX=BiP/\Aac)
 Z6:On Č (AVA/\ADY b)
 bs:Aj5 (Av3/\SC ASN)
 bsz:BmK<=BmI
 Hu:Aj5 (b∉Č)
 Hv:On Č Ajb
 funs:BJr AGJ
 frf:On iN (SC ASN)
structure Inv (X:Cx) (Ξ:dN) (σ:AT0 V) (H:Hp) (s:AF):Θ where
 ok:X.Ok
 os:s.os=X.s₀.os
 Gc:BIZ
 DS:Un iN Č ASN H X.s₀.heap A8
 loc:∃m,BLj/\∀(i:Δ) (x:Κ) (v:V),K_ ->E4 σ re ->So ->∃u,OC/\Look B9 A8 m x u
 cell:Aer (∃v,AwT)
 cr:N4 VA
 freeC:Aer (N4 c)
 pin:WO (X.pn++Ξ) Bdt
 DV:nD Fr X.w H A8
 len:Ac0=X.N.length
section
variable{X:Cx}{Ξ:dN}{σ:AT0 V}{H H' :Hp}{s:AF}{h' :AL}
theorem Cx.Ok.nofr(ok:X.Ok){b:Ζ}{o:Obj}(e:KU X.base.get?):Ajb:=AO4 (by
 have:=(ok.funs.mem hb).1;show DF e;show IN)
theorem Inv.bs(UX):Aj5 (kB/\NB):=Of ⟨ArQ b o BJJ BM1 (I.ok.nofr e) BIF,ASO b o BJJ BM1 BIF⟩
theorem Inv.bk(UX):Aj5 kB:=Of (rL I.bs).1
theorem Inv.mod(UX):BWW:=I.ok.mod
theorem Inv.kIn(UX):X.K.In A8:=I.ok.mod.J4.keeps I.bk
theorem Inv.lt(UX):PU VA:=let ⟨_,hn,_⟩:=nN;hn.lt
theorem Inv.sz(UX):AIY CL:=zP AK9 (č I.lt)
theorem Inv.nofs(I:AW){a:Ζ}(h:rV a):a∉iN:=AO4 (by
 obtain⟨_,o,ho,_⟩:=BHc;exact É (zN (zJ ho) (zP I.sz h)))
theorem Inv.cne(UX):ADY VA:=fun x c e z=>by
 obtain⟨v,o,ho,hd⟩:=BL6;obtain⟨m,⟨o',es,ep,ho',hd',_⟩,_⟩:=nN;rw[z,ho'] at ho;show AE ho ho ho ho ho ho ho ho ho ho ho ho ho ho;rw[hd'] at hd;show BCP
theorem Inv.funs(UX):A3b AGJ:=by
 have all:∀(l:LT),(WE (frs l) Ay8) ->BJr l ->A3b l:=by
  intro l;induction l with
  | DL=>intro _ _;trivial
  | AY BV r ih=>
   intro hs hl;obtain⟨hk,⟨L,o,hf,hn,ho,hd⟩,hr⟩:=hl;have hL:L∈iN:=hs L (BVK zY)
   show UC sl (ASR L o ho (BDY L hL) hL (AZ (I.ok.Hv L z hL)));exact⟨hk,⟨L,_,hf,hn,e,hd⟩,ih (Nn (hs b (BVK (zX _ hb)))) hr⟩
 exact all AGJ (JP hb hb) I.ok.funs
theorem Inv.stack(UX):A3b MX:=by
 rcases I.ok.stk with e | ⟨e,hf⟩
 ·rw[e];exact I.funs
 ·rw[e];obtain⟨m,hn,_⟩:=nN;refine a_ (AJg AK_) hf hn ?_ I.funs
  exact Heap.get?_none_of_le (zP I.ok.bsz AK9)
theorem Inv.stkSub(UX):On fw (b∈VA::iN):=FL (by
 rcases I.ok.stk with e | ⟨e,hf⟩
 ·rw[e] at hb;exact zX _ hb
 ·rw[e] at hb;unfold frs at hb;rw[ArR,hf] at hb;exact hb)
theorem Inv.stkFree(UX):On fw NB:=FL (by
 rcases A8m hb with e | hb
 ·rw[e];exact AAn
 ·obtain⟨_,o,ho,_⟩:=BHc;exact ASO b o ho (BDY b hb) (AZ (I.ok.Hv b z hb)))
theorem Inv.step(Bgp)(I:AW)
  (hch:A'9)
  (LG:BWJ Ajb ACI)
  (NI:BWJ Ay8 BTR) (cr:∀b o,AhB ->kB ->NB ->AMz)
  (ASF:WU AhB kB BIo)
  (tups:A'p) (lu:BUt) (nR:BXp)
  (ns:∀m,BLj ->h'.Ns VA m) (DV:AlF) (hg:ArN g'):
  BhN:=by
 have neL:Ł ArM AVA:=Of (zL (zN Ae0 AK9));show HL Z7 (WU Av3 (b∉Č) AhB) (fun b o e hx hb=>by
  rcases eK hch with z | z
  ·exact hx z
  ·exact É (zN (zJ e) z)) cellK (Aer (∀v,AwT ->A1P)) (fun x c e v (AEg hd)=>by
  have U3:c∉ch:=AZ (A_M (hch c z).2);by_cases hc:c∈iN
  ·show EU sl q (BWy NI) U3 ho AZo;exact D4 q hd
  ·exact⟨o,BWy LG U3 ho AZo,hd⟩) ⟨ve,I.os,hg,⟨AQw,AQw,FY b o e n hx,AmK,fun b xs e=>tups b xs (Ac3 b xs e),dy xs e (lu b o xs (ASU b o xs e)),Na ps e⟩,?_,AQ3,?_,AQ3,mh,DV,AGN⟩
 ·exact LG b o (rL neL) hb Aon A'3 (A2n hx)
 ·show AQh (ASR b o e n hb hx);show Ϙ sl' (NI b _ (rL neL) hb Aon e1 (A2n hx));exact⟨sl',e2⟩
 ·show Aox;exact cr b o' Aon e1 (A2n hx)
 ·show Aox;exact ASF b o' Aon e1
 ·show EU m1 e1 Ac4 b ps e;show Ϙ m2 (nR b _ e1);exact⟨m1++m2,BOR⟩
 ·show BMT;show Bgd ⟨m,ns m hn,BZ8⟩ (cellK x c e _ z)
 ·show EU v z nX x c e;exact⟨v,cellK x c e v z⟩
 ·obtain⟨m,⟨o,_,_,ho,_⟩,_⟩:=nN;exact cr _ o (Ev ((hch _ z).2.1 Β)) ho AAn
 ·obtain⟨v,o,ho,hd⟩:=BL6;exact cr c o (Ev (A_M (hch c z).2)) ho AZo
 ·show Abf;have U3:DA∉ch:=AZ ((hch DA z).2.2.2 p hp Β);exact⟨LG DA p.2 ne nf U3 e n,cr DA p.2 U3 e n,ne,nf,d⟩
theorem Inv.un{t' :Δ}(I:AW)(u:Un iN [] H H' A8 h')(DV:AlF):ABp ANv:=by
 obtain⟨m,⟨o,es,ep,ho,r⟩,_⟩:=id nN;show Bcm A7
 exact BBc [] (JP z (nomatch z)) (BcE u.keep) (BcE u.slot) (fun b o _ e n=>u.free b o e n A7) (fun b o _ e=>u.there b o e A7) u.tups u.lu u.nR (fun m' hm=>by
  obtain⟨o',es',ep',ho',r'⟩:=hm;rw[ho] at ho';show AE ho' ho' ho' ho' ho' ho' ho' ho' ho' ho' ho' ho' ho' ho';exact⟨_,es',ep',hL,r'⟩) DV Ď
theorem Inv.call(Bgp)(I:AW)(u:BeN h')(DV:AlF)(hg:ArN g')
  (hch:A'9):
  BhN:=by
 obtain⟨m,⟨o,es,ep,ho,r⟩,_⟩:=id nN;show Bcm (AZ ((hch _ z).2.1 Β));exact I.step (ch:=ch) hch (fun b o hL hb hc e n=>u.keep b o e n (Ev ((Cn (BDZ b z)).YV hL hb)) hc) (fun b o _ _ hc e n=>u.any e n hc) (fun b o hc e n=>u.free b o e n hc) (fun b o hc e=>u.there b o e hc) u.tups u.lu u.nR (fun m' hm=>by
  obtain⟨o',es',ep',ho',r'⟩:=hm;rw[ho] at ho';show AE ho' ho' ho' ho' ho' ho' ho' ho' ho' ho' ho' ho' ho' ho';exact⟨_,es',ep',hL,r'⟩) DV hg
theorem Inv.turned{t' :Δ}{it:Ζ}(I:AW)(k:AmD (b≠it))(hn:N4 it)(hL:it≠VA)
  (h1:it∈Č\/AIY it) (h2:ADY it) (h3:AgY it):AyF:=by
 have U4:eg H (b≠it):=WS e z (Ak2 hn)
 refine BBc [it] AXz (fun b o _ _ hc e _=>A8c) (BKt A8c) BRc
  (BL_ A8c) (AOi) (ATr e e) BSk (UD m hm) (K0) Ď
 ·have e:b=it:=ABr
  subst e;exact⟨h1,hL,h2,h3⟩
 ·obtain⟨o,es,ep,ho,r⟩:=hm;exact⟨o,es,ep,k _ o (ALA hL) ho,r⟩
 ·show Bg1
theorem Inv.tok(I:AW)(t:Δ):Ī (Aty t):=I.un (h' :=A8) (t' :=t) Un.refl KS
theorem Inv.kept{t' :Δ}(I:AW)(k:BJg):AyF:=I.un (ASG k) (I.hok.kept k)
theorem Inv.laid{a:Ζ}{o:HO}{t' :Δ}(I:AW)(k:BJg)(hp:rV a)(new:AHE AZb h' a o):
  xw a o ANv:=I.un (Acw k hp (Agu hp)) (I.hok.laid k hp new)
theorem Inv.write{x e:Ζ}{o:HO}{t' :Δ}(I:AW)(mu:A7i)(he:A_V)(k:AOo e MY)(heo:A6Q)
  (new:AHE (ZZ x o) h' x o):xw x o ANv:=I.un (Un.write mu he k heo) (I.hok.write mu he k heo new)
theorem Inv.pins_of{sX :dN}(I:AW)(h:WO sX Bdt):Inv X sX σ H s:=
 AvC ve (s0 ((JJ hp).YV (Ev (AGO p (zQ _ z))) (h p)))
theorem z1f{N:Ρ}(hN:N.Nodup){i j:Δ}{x:Κ}(a:ox N)(b:T' N x):i=j:=by
 obtain⟨h1,e1⟩:=ng a;show Ϙ h2 (ng b);exact(List.getElem_inj hN).mp (e1.trans e2.symm)
theorem zqf{M:ASV}{A:BQ}{E:dM}{i:Δ}{x:Κ}{v:V}{u:AH}{Q:á}(I:AW)(hN:vi)(hi:K_)(hx:AIz)(r:OC)
  (h:∀s',BPm ->(∃a,AoJ YY/\ (a=VA\/Fu ArK a)) ->ANJ) (Api):BWz:=by
 show BI m hn hl id nN;have hcls:Me (ArJ== .class || (ArJ== .module&&VA !=BmH)):=aS AK_
 have hiσ:i<Ac0:=CD AGN l9
 have cne:=I.cne;have tracked:jp a Ζ h' AL (∃o,A0l/\Ä) (AoJ h') (nD Fr X.w H h') :=fun{a h'} ha hs b ob e=>by
  obtain⟨_,_,hfree⟩:=ha;refine(KS b ob e).stay (fun c w' hc q=>HZ hs.2 c ?_ q) Ahk Ó;rintro Β;rcases hc with Β | hc
  ·rw[hfree] at e;show DM
  ·show MO hfree hc hc hc hc hc hc hc hc hc hc hc hc hc hc hc
 rcases hx with hk | hk
 ·refine wpAny_storeName_local hk hn (AV h' hn' hs) hcls;obtain⟨oL,_,_,hoL,_⟩:=id hn;refine h _ ⟨ve,I.os,Ď,⟨AQw,AQw,ASO,AmK,Ac3,ASU,Ac4⟩,D4 hn' Bfn,ja y c,AAn,AGM,mh,tracked ⟨oL,hoL,AAn⟩ hs,Cc AGN⟩ (D4 hs AJW)
  ·exact ARX AK9 A'3
  ·show AQh (ASR b o e n hb hx);exact⟨sl,ARX AK9 e1⟩
  ·show Aox;exact⟨o',ARX AK9 e1⟩
  ·by_cases hj:j=i
   ·subst hj;show Awj hi;rw[ALB hiσ] at e2;show u7;exact⟨u,r,.D6 ⟨hk,DC⟩⟩
   ·rw[AM7 ASW hj] at e2;obtain⟨u',r',q⟩:=hl j y v' e1 e2 e3;refine C9 u' r';rcases q with ⟨k,e⟩ | ⟨k,c,e,z⟩
    ·refine .D6 (C3 k);have:y≠x:=al (hj (z1f hN e1 (e ▸ hi)));simp [Τ,e]
    ·show He ⟨k,c,e,z.sameBut hs (cne y c e)⟩
  ·show EU w' z nX y c e;exact⟨w',z.sameBut hs (cne y c e)⟩
  ·show Abf;exact⟨HZ hs.2 DA ne e,n,ne,nf,d⟩
 ·have hfn:AfB:=by
   rcases hf with z | z
   ·exact z
   ·show MO z hk hk hk hk hk hk hk hk hk hk hk hk hk hk hk
  obtain⟨c,hc⟩:=I.ok.has x (HV hk);show EU w' z nX x c hc;refine wpAny_storeName_cell AK_ hk hc z (AV h' hc' hs);obtain⟨oc,hoc,aao⟩:=id z;refine h SI ⟨ve,I.os,Ď,⟨AQw,AQw,ASO,AmK,Ac3,ASU,Ac4⟩,⟨m,hn.sameBut hs (ALA (cne x c hc)),Bfn⟩,ja y c',AAn,AGM,mh,tracked ⟨oc,hoc,AGM x c hc⟩ hs,Cc AGN⟩ ⟨c,hs,.BO hc⟩
  ·exact ARX BAu A'3
  ·show AQh (ASR b o e n hb hx);exact⟨sl,ARX BAu e1⟩
  ·show Aox;exact⟨o',ARX BAu e1⟩
  ·by_cases hj:j=i
   ·subst hj;show Awj hi;rw[ALB hiσ] at e2;show u7;exact⟨u,r,.BO ⟨.D6 hk,c,hc,hc'⟩⟩
   ·rw[AM7 ASW hj] at e2;obtain⟨u',r',q⟩:=hl j y v' e1 e2 e3;refine C9 u' r';rcases q with q | ⟨k,c',e,z'⟩
    ·show FR q
    ·refine .BO ⟨k,c',e,z'.sameBut hs ?_⟩;rintro Β;exact hj (z1f hN e1 (I.ok.inj _ _ _ e hc ▸ hi))
  ·by_cases hcc:c' =c
   ·subst hcc;exact Fk hc'
   ·show EU w2 z2 nX y c' e;exact⟨w2,z2.sameBut hs hcc⟩
  ·show Abf;refine⟨HZ hs.2 DA ?_ e,n,ne,nf,d⟩;intro q;rw[q,hoc] at e;have q' :oc=p.2:=zH e;exact d w' (UK q' aao)
theorem Z8{M:ASV}{A:BQ}{E:dM}{i:Δ}{x:Κ}{v:V}{u:AH}{Q:á}(I:AW)(hN:vi)(hi:K_)(hx:AIz)(r:OC)
  (h:Al3 BPm) (Api):BWz:=
 zqf I hN hi hx r (fun s' I' _=>h s' I') hf
theorem Inv.call'{s' :AF}{ch:Cb}(I:AW)(ho:AlI)(u:BeN YY)(DV:AZX)(hg:AIh)
  (hch:A'9):AJw :=by
 obtain⟨h',g',d',t',o'⟩:=s';have e:o' =s.os:=ho;show tT (I.call (g' :=g') (t' :=t') (d' :=d') u DV hg hch)
#where
abbrev XK:=AHe (į ND)
abbrev St:=AT0 V
abbrev VK:=APh
abbrev TE:=Ati St
abbrev TT:=AnN AJa
abbrev TA:=AnN APi
structure Ya where
 nx:SU
 rt:VK
 bk:SU:=AHQ
 ct:SU:=AHQ
abbrev TS:=Ya ->SU
inductive EP (X:Cx) (Ξ:dN) (σ:St) (Q:VK) (u:AH) (s' :AF):Θ
 | mk:∀v H',(Inv X Ξ σ H' s') ->(KO v u) ->(Q v H') ->ϕ u s'
def TP(X:Cx)(Ξ:dN)(σ:St)(Q:AJa)(b:AU)(s' :AF):Θ:=∃H',AJw /\Q b H'
inductive AP (X:Cx) (Ξ:dN) (σ:St) (Q:APi) (us:At) (s' :AF):Θ
 | mk:∀vs H',(Inv X Ξ σ H' s') ->(IY vs us) ->(Q vs H') ->AP X Ξ σ Q us s'
def SP(X:Cx)(Ξ:dN)(D:Ya)(f:Flow)(s' :AF):Θ:=
 match f with
 | AC_=>A3O VC
 | .brk=>A3O D.bk
 | .RU=>A3O D.ct
 | .ret u=>∃v DT H',AuR /\OC/\D.rt v H'
def PE(X:Cx)(e:AK)(t:TE):Θ:=
 A8H VK (ADV (pe e))
def PT(X:Cx)(e:AK)(t:TT):Θ:=
 A8H AJa (BTY (pe e))
def PW(X:Cx)(e:AK)(t:TT):Θ:=
 ∀(AGP:AUZ) (Ξ:dN) (s:AF) (σ:St) (H:Hp) (Q:AJa),AW ->È ->BTY AGP
theorem PW.pt{X:Cx}{e:AK}{t:TT}(h:PW X e t):PT X e t:=h _
def PA(X:Cx)(es:DD)(t:TA):Θ:=
 ∀(AB:AX) (Ξ:dN) (s:AF) (σ:St) (H:Hp) (Q:APi),AW ->È ->Aen (spliced (ļ es)) AP
def PS(X:Cx)(st:AR)(t:TS):Θ:=
 BfI exec
def G7(X:Cx)(st:XG)(t:TS):Θ:=
 BfI execs
theorem bV{α:CH}{t:Sem α}{Q Q' :Op α}{M:ASV}{A:BQ}{E:dM}{s:AF}(h:Î t)(hQ:∀a s,Q a s ->Q' a s):IZ M A t Q' E s:=Po h hQ mo
section
variable{X:Cx}
def Ox(AJ2):TE:=AUG (∃v,E4 σ re/\Q v H)
def tC(v:V):TE:=Ano (Q v H)
theorem uL{i:Δ}{x:Κ}{AB:AX}(hN:K_)(hv:So)(fc):PE X tw (Ox i):=by
 show Do Q;show QY v e h;show BMT;obtain⟨u,r,l⟩:=hl i x v hN e hv;have D3:ϕ u s:=A9T;rcases l with ⟨hk,hm⟩ | ⟨hk,c,hc,hcell⟩
 ·exact BS6 (wpAny_loadName_local AK_ hk hn hm)
 ·rcases hk with hk | hk
  ·exact BS6 (BTw wpAny_loadName_cell)
  ·exact wpAny_Name (BTw wpAny_loadName_free D3 hcd) hd
theorem ygp{i j AB}:A5q AD_ AD_:=ARL (wpAny_Constant_int ⟨FV,H,ACO,D_,h⟩)
theorem yn3{b j AB}:A5q (qk b) APd:=ARL (Constant_bool (AMr l5 h))
theorem yln{j AB}:ACY ASa BA j (tC .non):=ARL (BmS (AMr B8 h))
theorem yf9{x j AB}:A5q AJX AJX:=ARL (Calls.Constant_str ⟨ß,H,ACO,D_,h⟩)
def Gl(X:Cx)(x:Κ):Θ:=Fu AK8 .globalImplicit
theorem Hw(Bha)(I:AW)(hg:KG)(hm:AUU u)(h:Q u s)
  (xn):ARR (pe tw):=
 BX_ (Calls.loadGlobal_global BTK hm h)
theorem G8(Bha)(I:AW)(hg:KG)(hm:Ϭ)(hv:ϡ u)(h:Q u s)
  (AAS) (xn):ARR (pe tw):=by
 obtain⟨mb,h1,h2⟩:=I.mod.blt;exact BX_ (Calls.loadGlobal_builtin BTK hm (ad I.ok.blt h1.keeps I.bk) (HZ h2 x hn hv) h)
theorem yg1{x:Κ}{v:V}{u:AH}{AB:AX}(hg:KG)(hm:AUU u)(r:OC)(xn):PE X tw (tC v):=
 ARL (Hw I hg hm A9T hd)
theorem yj2{x:Κ}{v:V}{u:AH}{AB:AX}(hg:KG)(hm:Ϭ)(hv:ϡ u)(r:OC)(AAS)(xn):PE X tw (tC v):=
 ARL (G8 I hg hm hv A9T hn hd)
variable{a b:AK}{ta tb:TE}{AB:AX}
def PC(X:Cx)(op:CmpOp)(a b:AK)(t:TE):Θ:=
 AWj Q VK È (pe a) (BYw (AVh (ALE op v u) (EP X Ξ σ Q) LJ))
def tB(t:TE):TT:=O0 t x (Aoa (Q c H1))
theorem z9g{op:CmpOp}{t:TE}(h:PC X op a b t)(h1:AgU:=by first | exact U5 _ Ψ Ψ | rfl):PT X AZ7 (tB t):=by
 show AXr hw;refine BmV (bV A6y (ì h1 (bV h1 fun u s2 h2=>bV h2 (AV c s3 D8)))) h1;show XX D8;show EM d Β q q1;show AE r1 r1 r1 r1 r1 r1 r1 r1 r1 r1 r1 r1 r1 r1;exact đ ⟨H1,I1,q⟩
theorem ymx{e:AK}{t:TE}(h:PE X e t)(he:∀AGP,ArX e B9 AGP=(do let v<- AGP;Ac9 e.pos;vk [v] (truthy v)):=by intro _;rfl):PT X e (tB t):=by
 show AXr hw;refine isTrue_plain (bV A6y (ae v)) (he _);show XX D8;show EM d Β q q1;show AE r1 r1 r1 r1 r1 r1 r1 r1 r1 r1 r1 r1 r1 r1;exact đ ⟨H1,I1,q⟩
variable{tA KH :TT}{GY:DD}
def aap(t u:TT):TT:=O0 t c (GT c (u σ H1 Q) (Q AG H1))
def tOr(t u:TT):TT:=O0 t c (GT c (Q Μ H1) (u σ H1 Q))
def aaq(t:TT):TT:=O0 t c (Q (! c) H1)
theorem yhy(A1N):PW X (AMf And [a]) tA:=by
 show AnL;refine Aj9 isTrue_and ha Q (i4 c e);cases c with
 | Μ=>exact isTrue_and_nil e
 | AG=>exact e
theorem ymi(A1N):A1x [a] tA:=by
 show AnL;refine Aj9 isTrue_or ha Q (i4 c e);cases c with
 | AG=>exact isTrue_or_nil e
 | Μ=>exact e
theorem yk8(ha:PT X a tA)(hb:PW X Ak6 KH):PW X Ak7 (aap tA KH):=by
 show AnL;refine isTrue_and (bV ã (ae c));show ApX;cases c with
 | Μ=>exact hb wh Ξ s1 σ H1 Q I1 q1
 | AG=>exact⟨H1,I1,q1⟩
theorem yol(ha:PT X a tA)(hb:A1x Auu KH):A1x Au5 (tOr tA KH):=by
 show AnL;refine isTrue_or (bV ã (ae c));show ApX;cases c with
 | Μ=>exact⟨H1,I1,q1⟩
 | AG=>exact hb wh Ξ s1 σ H1 Q I1 q1
theorem yl7(A1N):PT X AnB (aaq tA):=by
 show Do Q;exact isTrue_not (ABY ha (bX H1 (Q (! c) H1)) I h)
def U6(ta tb:TE):TE:=AI1 (Aoa (GT c (tb σ H1 Q) (Q AHq H1)))
def U7(ta:TE):TE:=AI1 (Aoa (Q (.bl (! c)) H1))
theorem ymu{op}{t:TE}(h:PE X a t):ACY BoolOp op [a] t:=fun Ξ s σ H Q I hw=>BoolOp_one (Ae8 Q I hw)
theorem yns(ha:ų)(hb:PE X Ak6 tb):PE X Ak7 (U6 ta tb):=by
 show Do Q;refine BoolOp_and (bV ã (ACt Ey));show XX Ey;show EM c Β q1 q1;show AE r1 r1 r1 r1 r1 r1 r1 r1 r1 r1 r1 r1 r1 r1;refine Ayn;cases c with
 | Μ=>exact hb Ξ s1 σ H1 Q I1 q1
 | AG=>exact⟨APa,H1,I1,Β,q1⟩
theorem ym1(ha:ų):PE X AnB (U7 ta):=by
 show Do Q;refine UnaryOp_ (bV ã (ACt U8));show XX U8;show EM c Β q1 q1;show AE r1 r1 r1 r1 r1 r1 r1 r1 r1 r1 r1 r1 r1 r1;exact not_of (đ ⟨.bl (! c),H1,I1,Β,q1⟩)
def tIf(t:TT)(ta tb:TE):TE:=O0 t c (GT c (ta σ H1 Q) (tb σ H1 Q))
theorem yep{c:AK}(hc:PT X c tA)(ha:ų)(hb:AN8):PE X BMY (tIf tA ta tb):=by
 show Do Q;refine BTP wpAny_IfExp;show ApX;cases d with
 | Μ=>exact ha Ξ s1 σ H1 Q I1 q1
 | AG=>exact hb Ξ s1 σ H1 Q I1 q1
#where
def lA(Bex):Θ:=
 Rd H a rX\/
  ∃(o:Obj) (AO:Ki) (n:Δ),BIu/\o.cls= AMR /\AjR/\BZa
def v8(Bex):Θ:=
 Rd H a WZ\/
  ∃(o:Obj) (AO:Ki) (n:Δ),BIu/\BJi /\BZa
def aar:AHe UQ
 | BA=>Ε B8
 | .bool b=>Ε APd
 | AaF=>Ε AD_
 | A4x=>Ε AJX
 | .bytes b _=>Ε (.Z5 b)
 | .float b _=>Ε (.flt b)
 | B'=>Ε EC
 | SB n=>Ε (.ty n)
 | _=>Ι
theorem RelV.abs(BZ3):aar u=Ε x:=by
 cases x with
 | non=>show APV
 | bl _=>show APV
 | AN _=>show APU
 | AS _=>show APU
 | Z5 _=>show APU
 | flt _=>show APU
 | B4 _=>show APV
 | ty _=>show APV
theorem RelV.inj{x y:V}{u:AH}(r:Æ)(q:RE):x=y:=zH (r.abs.symm.trans q.abs)
theorem Vals.inj:∀{xs ys:AT} {us:At},fT ->AH9 ys ->xs=ys
 | _,_,_,EE,EE=>Β
 | _,_,_,AKC,.AY r' t' =>KE (r.inj r') (Vals.inj t t')
section
variable{X:Cx}{Ξ:dN}{σ:St}{H:Hp}{s:AF}{a:Ζ}{xs ys:AT}
theorem Inv.list(I:AW)(h:A5I):BAf (Azc PlainL A8):=by
 rcases h with h | ⟨o,AO,n,hk,hc,hd,hs,hz,r⟩
 ·show Ap7 (h.ok KS);exact⟨AO,r,⟨_,n,e,Β,Β,Β⟩,z⟩
 ·show Baa ⟨o,n,BWf,hc,hd,Cc hs⟩
theorem Inv.tuple(I:AW)(h:BQS):BAf (Azc IsTup A8):=by
 rcases h with h | ⟨o,AO,n,hk,hc,hs,hz,r⟩
 ·obtain⟨z,AO,r,p⟩:=h.ok KS;exact⟨AO,r,p,z⟩
 ·show Baa ⟨o,BWf,hc,n,Cc hs⟩
theorem Inv.list_inj(I:AW)(h:A5I)(h' :AIO a ys):xs=ys:=by
 obtain⟨AO,r,⟨o,n,e,_,_,d⟩,_⟩:=Axz;obtain⟨iP,r',⟨o',n',e',_,_,d'⟩,_⟩:=iO h';rw[e] at e';show AE e' e' e' e' e' e' e' e' e' e' e' e' e' e';rw[d] at d';show AO7 d' d1;have:AO=iP :=BTA
 show gE;exact r.inj r'
theorem Inv.tuple_inj(I:AW)(h:BQS)(h' :Ahj a):xs=ys:=by
 obtain⟨AO,r,⟨o,e,_,n,d⟩,_⟩:=Ē h;obtain⟨iP,r',⟨o',e',_,n',d'⟩,_⟩:=Ē h';rw[e] at e';show AE e' e' e' e' e' e' e' e' e' e' e' e' e' e';rw[d] at d';show AO7 d' d1;have:AO=iP :=BTA
 show gE;exact r.inj r'
#where
section
variable{X:Cx}{st:AR}{GY:XG}{t u:TS}{e:AK}{te:TE}{AB:AX}
def U9:TS:=A8I AfD
def aat(t u:TS):TS:=fun D σ H=>t BT8 σ H
theorem ykl:G7 X [] U9:=fun _ _ σ H _ I h=>Ac' ⟨σ,H,I,h⟩
theorem Z9(h1:A7L)(h2:G7 X GY u):G7 X (st::GY) (aat t u):=by
 show Do D;refine Aj9 Bmb h1 BT8 (i4 f q);cases f with
 | L_=>
  obtain⟨DT,H',I',q⟩:=q;exact h2 Ξ s1 DT H' D I' q
 | ret v=>exact q
 | brk=>exact q
 | RU=>exact q
theorem zta(h1:A7L):G7 X [st] t:=by
 show Do D;refine Aj9 Bmb h1 D (i4 f q);cases f with
 | L_=>exact Ac' q
 | ret v=>exact q
 | brk=>exact q
 | RU=>exact q
theorem Inv.quiet{Ξ:dN}{σ:St}{H:Hp}{s:AF}(UX):interactive B9=AG:=aw interactive AK_
def Va(te:TE):TS:=BMb (Lo H1 (AHY H1))
theorem zyu(he:mP)(hs:ARe Ι:=by rfl):PS X (.AK e AB) (Va te):=by
 show Do D;exact wpAny_Expr_any (bV ϭ (ì Oz (by show XX Oz;exact⟨σ,H1,I1,q1⟩))) I.quiet hs
def aau(te:TE):TS:=BMb D.rt
theorem yat(he:mP):PS X (.Arc AXN AB) (aau te):=by
 show Do D;exact wpAny_Return_some (bV ϭ (ì Hy (by show XX Hy;exact⟨x,σ,H1,I1,r1,q1⟩)))
def aav(c:TT)(t u:TS):TS:=fun D σ H=>c σ H (dl H1 (GT b (t D σ H1) (u D σ H1)))
theorem yof{c:AK}{a b:XG}{tc:TT}(hc:PT X c tc)(ha:G7 X a t)(hb:G7 X b u):PS X (.If c a b AB) (aav tc t u):=by
 show Do D;refine BTP wpAny_If;show ApX;cases d with
 | Μ=>exact ha Ξ s1 σ H1 D I1 q1
 | AG=>exact hb Ξ s1 σ H1 D I1 q1
#where
abbrev TG:=V ->St ->DZ Hp (SU)
abbrev M4:=AT ->St ->DZ Hp (SU)
def PG(X:Cx)(AdA:AK)(t:TG):Θ:=
 ∀(Ξ:dN) (s:AF) (σ:St) (H:Hp) (v:V) (u:AH) (Q:SU),AW ->OC ->t v σ H Q ->
  AzV (ASc AdA B9 u) (Agj Av_)
def OD(X:Cx)(ts:DD)(t:M4):Θ:=
 ∀(Ξ:dN) (s:AF) (σ:St) (H:Hp) (vs:AT) (us:At) (Q:SU),AW ->AY7 ->t vs σ H Q ->
  AzV (assignInOrder ((assignEach ts X.env).map (·.2)) us) (Agj Av_)
abbrev OJ:=BXd
def Vb(X:Cx)(t:OJ):Θ:=
 ∀(Ξ:dN) (s:AF) (σ:St) (H:Hp) (o i v:V) (ov iv u:AH) (Q:HT Hp),AW ->BB (KO o ov) (KO i iv) OC (t o i v H Q) (AzV (setItem ov iv u) (∃H',AJw /\Q H'))
section
variable{X:Cx}{AB:AX}
def M5(AJ2):TG:=AZg (Q AwS H)
theorem yhu{i:Δ}{x:Κ}(BfB)(Api):PG X tw (M5 i):=by
 intro Ξ s σ H v u Q I r h;exact BDf (Z8 I hN hi hx r (fun s' I' =>⟨_,H,I',h⟩) hf)
def aaw:M4:=pb vs Q (vs= []/\Q σ H)
def Vc(t:TG)(u:M4):M4:=pb vs Q (∃v r,vs=v::r/\t v σ H fun DT H' =>u r DT H' Q)
theorem yhr:OD X [] aaw:=by
 intro Ξ s σ H vs us Q I r h;show AO6 h h;subst e;show AE r r r r r r r r r r r r r r;exact Bme ⟨σ,H,I,h⟩
theorem ycx{e:AK}{es:DD}{t:TG}{u:M4}(h1:PG X e t)(h2:OD X es u)
  (hs:AaA KW (AXO e::Auk es (·.2)):=by rfl):OD X KW (Vc t u):=by
 intro Ξ s σ H vs us Q I r h;show eQ v vr e1 h;subst e1;cases r with
 | AY r rr=>
  rw[hs];refine BDg (bV (h1 Ξ s σ H _ _ _ I r h) (ae _));obtain⟨σ1,H1,I1,q1⟩:=D8;exact h2 Ξ s1 σ1 H1 _ _ Q I1 rr q1
def aax(K:AD)(n:Δ)(t:M4):TG:=AZg (∃a xs,v= B'/\AEx/\BN=n/\t xs σ H Q)
theorem ynx{es:DD}{k:Δ}{t:M4}{n:Δ}(hc:FX)(h:OD X es t)
  (hn:gL AdC es B9=n:=by rfl) (hst:(AdC es B9).findIdx? (·.1)=Ι:=by rfl):PG X BQ5 (aax AJ n t):=by
 intro Ξ s σ H v u Q I r hw;obtain⟨a,xs,e1,hq,hl,hw⟩:=hw;subst e1;show AE r r r r r r r r r r r r r r;obtain⟨AO,rv,ht,hz⟩:=Ē hq;refine assign_Tuple_tuple cK ht (by simp [hn,<- hl,AdD]) hst (Cf h' hx)
 have I1:APJ:=BPB (Of (hx b o AZr e));exact h Ξ _ σ H xs _ Q I1 (CC rv) hw
def jr(to ti:TE)(t:OJ):TG:=AZg (to σ H (ı o (ti σ H1 (Tk H2 (t o i v H2 fun H3=>Q σ H3)))))
theorem ymo{o i:AK}{to ti:TE}{t:OJ}(ho:PE X o to)(hi:PE X i ti)(hs:Vb X t)
  (ha:∀v,ASc (AXc o i) B9 v=(do
   let ov<- vk [v] (cz o B9)
   let iv<- vk [v,ov] (cz i B9)
   Ac9 AB
   BWx
   BPj):=by intro _;rfl):PG X (AXc o i) (jr to ti t):=by
 intro Ξ s σ H v u Q I r h;rw[ha];refine AIw (bV Ajf (i4 ov Hz));show XX Hz;refine AIw (bV (AM3 hi) (AV iv s2 HB));obtain⟨y,H2,I2,r2,q2⟩:=HB;refine Ayc (z6 (nk (bV (hs Ξ s2 σ H2 x y v ov iv u _ I2 r1 r2 r q2) (AOJ _ s3))));show ŝ H3 I3 q3;exact wpAny_release ⟨σ,H3,I3,q3⟩
def Vd(te:TE)(g:TG):TS:=AVw te x (g x σ H1 VC)
theorem yfj{tg e:AK}{te:TE}{g:TG}(he:mP)(hg:PG X tg g)(hs:AYk [tg] e:=by rfl)(hw:Aaz [tg] e Ι:=by rfl)
  (h1:AaA [tg] [AXO tg]:=by rfl):AOZ [tg] e (Vd te g):=by
 show Do D;refine wpAny_Assign_stores (bV ϭ (ae v)) hs hw;show XX D8;rw[h1];exact bV (hg Ξ s1 σ H1 x v _ I1 r1 q1) fun _ s2 q=>q
theorem z54{i:Δ}{x:Κ}{e:AK}{te:TE}{HP :AX}(hN:vi)(hi:K_)(hx:AIz)(he:mP)(hs:ARe (Dx (ZY HP)):=by rfl)(Api):
  AOZ Bir e (Vd te (M5 i)):=by
 show Do D;refine wpAny_Assign_Name (bV ϭ (ae v)) hs;obtain⟨y,H1,I1,r1,q1⟩:=D8;exact Z8 I1 hN hi hx r1 (fun s2 I2=>⟨_,H1,I2,q1⟩) hf
def aay(i j:Δ)(ta:TA):TS:=AVw ta vs (∃v w,vs= [v,w]/\VC ((ď i re).set j (Dx w)) H1)
theorem ymk{i j:Δ}{x y:Κ}{a b:AK}{ta:TA}{px py pt:AX}{kt k2 O1}(hc:FX)(hN:vi)(hi:K_)(hj:AaI)(hij:AFe)
  (hx:AfC) (hy:AoR) (ha:AKH qB)
  (hw:Aaz ARo ARi (Dx [x,y]))
  (hs:AYk ARo ARi:=by rfl):
  AOZ ARo ARi (aay i j ta):=by
 show Do D;rw[exec_Assign_arm];refine AzL;rw[hs];refine ACx;show l4
 refine z6 (Tuple_ (Amn (ha _ Ξ s σ H _ I h) aaz));show AEs aaz;show Fh v w e1 q1 q1;subst e1;obtain⟨u1,u2,Β,rv,sY⟩:∃u1 u2,us= [u1,u2]/\KO v u1/\KO w u2:=by
  cases r1 with
  | AY p q=>
   cases q with
   | AY p' q' =>
    show AE q' q' q' q' q' q' q' q' q' q' q' q' q' q';exact l7 _ p p'
 refine iS ?_ (by show C8 (D' 2);decide)
 have I2:AJO (AV7 (ASf (pj [u1,u2].vt))):=AOj;rw[hw];refine ACx;show BE (?_:ACU (do nr "assign.swapped-stores";let NL<- unpackItems (Bn EJ) 2 Ι;assignInOrder [fun v=>bindName B9 y v,fun v=>bindName B9 x v] BDh;Go Flow.next) _ _ _) (BKl (unpackItems_tuple (NL:= #[u1,u2]) cK (Ari AdF _) (Cf h' hx')));have I3:=Arj (h' :=h') (t' :=ASg) (Of (hx' b o AZr e));refine z6 (BDg (Bmf (Z8 I3 hN hj Ayf sY (UD s2 I4) Ays)));refine BDg (Bmf (Z8 I4 hN hi (HV hx) rv (fun s3 I5=>Bme (z7 ?_)) (FM hx)));show Q2 (List.set_comm _ _ (qV hij)) I5 ⟨_,H1,I5,q1⟩
#where
section
variable{X:Cx}{AB:AX}
def O2(c:TT)(tb:TS):TS:=A8I (∃W:Ai8,(∃m,W m σ H)/\∀m σ H,W m σ H ->
 c σ H (dl H1 (GT b (BiI (Ae4 (W m' DT H')) (tb (AUo N N) σ H1)) (AHY H1))))
theorem ybu{c:AK}{L9:XG}{tc:TT}{tb:TS}(hp:BAi)(hc:PT X c tc)(hb:BQP):PS X Ba0 (O2 tc tb):=by
 show Do D;obtain⟨W,⟨m0,w0⟩,TL⟩:=h;refine wpAny_While (codeAny_whileLoop (sg n (Agj (W n DT H'))) ?_ m0 ⟨σ,H,I,w0⟩);rintro n s1 ⟨σ1,H1,I1,w1⟩;refine AO1 (hc Ξ s1 σ1 H1 _ I1 (TL n σ1 H1 w1)) (Na s2 D8);show ŝ H2 I2 q2;cases b with
 | Μ=>
  show EM N hN q2 q2;show Š;refine AO1 (hb Ξ s2 σ1 H2 _ I2 q2) (AV f s3 q3);cases f with
  | L_=>
   obtain⟨σ3,H3,I3,n3⟩:=q3;obtain⟨m',hm,w3⟩:=hN σ3 H3 n3;exact⟨m',hm,σ3,H3,I3,w3⟩
  | RU=>
   obtain⟨σ3,H3,I3,n3⟩:=q3;obtain⟨m',hm,w3⟩:=hN σ3 H3 n3;exact⟨m',hm,σ3,H3,I3,w3⟩
  | brk=>exact q3
  | ret v=>exact q3
 | AG=>
  show BD AKm;exact Ac' ⟨σ1,H2,I2,q2⟩
#where
structure It where
 go:į Δ
 yld:ABX Hp APh
 AAp:į Δ
def nU(X:Cx)(Ξ:dN)(H:Hp)(b:Ζ):Θ:=
 NB/\AVA/\Ajb/\ (b∈Č\/AIY b)/\ (ADY b)/\AgY b
theorem Inv.fpOk{X:Cx}{Ξ:dN}{σ:St}{H H' :Hp}{s:AF}{b:Ζ}(I:AW)(hb:rV b)(hn:AMz):AmU:=by
 refine⟨hn,ALN (zN I.lt hb),I.nofs hb,.BO (zP I.sz hb),BXM,AV p hp z⟩
 ·show EU v q nX x c e;exact É (zN q.lt (ET z hb))
 ·exact É (zN (zJ (AOh AGO)) (ET z hb))
structure Turn (P:A0) (w:Ap) (K:AD) (tg:AK) (J:It) (fp:Cb) (it:Ζ) (tn:AYr):Θ where
 mem:it∈fp
 obj:BWg
 LG:Ber
 VS:AqU FX (BB AW AkZ AWT AkJ (Apd (∃u,av r/\
   IZ ACQ X.A A_v (JP s2 (∃x H',AkC/\Æ/\J.yld i H x H' /\BP6/\js AMz)) E s1)))
 LW:AqU FX (BB AW AkZ AWT AkK (Apd BPw))
 RY:BfP
abbrev TI:=AnN ANm
def PIE(Bhm):Θ:=
 ∃(it:Ζ) (fp:Cb) (tn:AYr) (J:It) (H' :Hp),itv= .B4 it/\AkC/\Turn Fr X.w AJ tg J fp it tn/\BPi/\ (WE fp AmU)/\AoB
def PI(Bfj):Θ:=
 AWj R ANm (wi σ H R) AYD (BWB BMV)
theorem Ve{M:ASV}{A:BQ}{E:dM}{s:AF}{tg:AK}{it:Ζ}{u:AH}{o:Obj}{n:KL}{vs:Ki}{Q:á}(ho:AT8 it)(hc:AgN n)(hd:Akz)
  (hn: (Bgs).ĕ n=AG) (hQ:Q () s):Î A_v:=by
 (show Lv tg tg tg tg tg tg tg tg tg tg tg tg tg tg)<;>first
  | exact z7 hQ
  | (
    (show Lv u u u u u u u u u u u u u u)<;>first
    | exact z7 hQ
    | (
      refine jI Arm ho;rw[hc,hd];refine(?_:Î (AN5 (UB ((Bgs).ĕ n) (vs[0]?==Ε (Yf _)))));show BD (by intro h;rw[hn,Bool.false_and] at h;show HI)
      exact z7 hQ))
def R9(K:AD)(a:Ζ):It:=
 BU1 (H' =H/\∀xs,Ų ->ef)
def O3(K:AD)(a:Ζ):It:=
 ⟨ś (∃xs x,AEx/\ef),fun i H x H' =>H' =H/\∀xs,AEx ->ef,ś (∃xs,AEx/\AWD)⟩
def HD(lo:Ω)(n:Δ):It:=⟨Tk _ (i<n),fun i H x H' =>H' =H/\x= Ax5,Tk _ (n<=i)⟩
theorem zxo(Aax)(a it:Ζ):AaU (R9 K a) (BDm it a i) where
 mem:=DC
 obj:=AQ7 (by
  have e:b=it:=ABr
  subst e;show A8h)
 LG:=A8y
 VS:=by
  show md;show UZ;obtain⟨xs,x,hq,hx⟩:=hg;show AZL ADh;show BI u hu ru AGT hx;show ø
  refine wpAny_pyNext_list_item st ALP (x:=u) (CC hu) (gI st' sb)
  have I1:APJ:=Aoc;show T_ o e c d st';exact⟨u,Β,Ve (s:=SI) e c d Ψ ⟨x,H,I1,ru,Hb (A8J Arn),st',AZv⟩⟩
 LW:=by
  show md;show UZ;show A'x;show AZL ADh;show ø
  show AAL;exact wpAny_pyNext_list_end cK st ALP UT Aa0
 RY:=Am6 wpAny_pyIter_listiter
theorem zsm(Aax)(a it:Ζ):AaU (O3 K a) (Bmh it a i) where
 mem:=DC
 obj:=AQ7 (by
  have e:b=it:=ABr
  subst e;show A8h)
 LG:=A8y
 VS:=by
  show md;show UZ;obtain⟨xs,x,hq,hx⟩:=hg;show AZL AzI;show BI u hu ru AGT hx;show ø
  refine wpAny_pyNext_tuple_item st BK4 (x:=u) (CC hu) (gI st' sb)
  have I1:APJ:=Aoc;show T_ o e c d st';exact⟨u,Β,Ve (s:=SI) e c d Ψ ⟨x,H,I1,ru,Hb (A8J BDn),st',AZv⟩⟩
 LW:=by
  show md;show UZ;show A'x;show AZL AzI;show ø
  show AAL;exact wpAny_pyNext_tuple_end cK st BK4 UT Aa0
 RY:=Am6 wpAny_pyIter_tupleiter
theorem z4q(Aax)(it:Ζ)(lo:Ω)(n:Δ):AaU (HD lo n) (IsRangeIter h it (lo+ Agz*1) (L5 - Agz) 1) where
 mem:=DC
 obj:=AQ7 (by
  have e:b=it:=ABr
  subst e;exact D4 st (fun v z=>(Bht (Data.fields _=Data.cell v))))
 LG:=AgV (AEu it st)
 VS:=by
  show md;show UZ;show ø
  have W:=Walks.range (CI:=Fr) (w:=X.w) cK it lo 1 n;refine W.item i s _ _ hg st fun v h' tk hv st' kk=> ?_;show No hv;have I1:Ī kM:=I.turned (AHV (kk b o (CC hb) e)) f0 f1 f3 f4 f5
  refine SH (Ve (s:=kM) (n:= "range_iterator") st' Β Β Ψ ⟨Ax5,H,I1,C3 t,Å,st',AZv⟩)
  rw[Int.mul_one]
 LW:=by
  show md;show UZ;show ø
  exact wpAny_pyNext_range_end cK st (by have:n<=i:=hg;show AA) Aa0
 RY:=Am6 wpAny_pyIter_rangeiter
section
variable{X:Cx}{tg:AK}
theorem z1r{Ξ:dN}{σ:St}{H:Hp}{s:AF}{R:ANm}{E:dM}{lo hi:Ω}{t u v:Tok}{tk:Δ}(I:AW)(h1: AHU<=lo)(h2:lo<ĺ)(h3: AHU<=hi)(h4:hi<ĺ)
  (q:R (HD lo A8Z) H):ACU (ALO (Bn CL)) BMV E BQ9:=by
 refine wpAny_pyIter_range (IsRange.new ..) (small_one h1 h2 h3 h4) ?_;have I1:Ī BQ9:=Arf yo;refine⟨A1h,[A1h],_,_,H,Β,
  Arh (t' :=tk) yo,z4q _ lo A8Z,?_,L7,q⟩
 ·have e1:lo+ APR*1=lo:=DC
  have e2:ER A8Z - APR=Builtin.Range.rangeSize lo hi 1:=by rw[rangeSize_one];show Ö
  rw[e1,e2];exact SE
 ·have e:b=A1h:=ABr
  show tT AWv
def Vf(ta:TA):TI:=Ah1 (∃j:Ω,vs= [ACe]/\ AHU<=j/\j<ĺ/\R (HD 0 vv) H1)
def Vg(ta:TA):TI:=Ah1 (∃i j:Ω,vs= AFg/\ (Bdx)/\R (HD i BQR) H1)
theorem zwy{a:AK}{ta:TA}{p AB:AX}(hg:Gl X U_)(hm:KF U_)(ha:AKH [a])(hs:A8z:=by rfl):ϔ (AWR U_) (Vf ta):=by
 show Do R;refine Call_ (ö boot_range (AW8 AlU hs Β));show AEs D8;obtain⟨j,e,q1,q2,q⟩:=q1;subst e;cases r1 with
 | AY r rr=>
  show BCR;show No r;exact call_range_1 (z1r I1 Η Η q1 q2 Ait)
theorem ya1{a b:AK}(BBK)(hg:Gl X U_)(hm:KF U_)(ha:AKH qB)(hs:BVy:=by rfl)(hs2:BQu:=by rfl):
  ϔ (yA U_ qB) (Vg ta):=by
 show Do R;refine Call_ (ö boot_range (AW8 (Amn Af3 ⟨vs,H1,I1,r1,q1⟩) (Ù hs hs2) (UU hs2)))
 obtain⟨i,j,e,⟨q1,q2,q3,q4⟩,q⟩:=q1;subst e;cases r1 with
 | AY r rr=>
  cases rr with
  | AY r' rr=>
   show BCR;show No r;show w8 t' r';exact call_range_2 (z1r I1 q1 q2 q3 q4 q)
def aaA(wi:TI)(g:TG)(tb:TS):TS:=AVw wi J (AQt SU (W 0 m σ H1) (∀i m σ H,AZp ->
 Abb AkK AkJ J.yld ApC))
def uM(fp:Cb)(h:AL):dN:=fp.filterMap fun b=>B7 L' b fun o=>(b,o)
theorem zih{fp:Cb}{h:AL}{b:Ζ}{o:Obj}(hb:b∈fp)(e:rq):(b,o)∈uM fp h:=BIi b hb (by rw[e];rfl)
theorem ybd{fp:Cb}{h:AL}{p:Ζ×Obj}(hp:p∈uM fp h):DA∈fp/\ANZ L':=by
 show BI b hb e List.mem_filterMap.mp hp;cases q:L' b with
 | Ι=>rw[q] at e;show DM
 | Ε o=>
  rw[q] at e;have e' :(b,o)=p:=zH e;subst e';exact⟨hb,q⟩
theorem Inv.pinned{Ξ:dN}{σ:St}{H:Hp}{s:AF}{fp:Cb}(I:AW)(hf:AYf)(ho:js (Aw4 kB)):Inv X (Ξ++uM fp A8) σ H s:=
 BTB ((JJ hp).YV (Ev (AGO p (zR _ z))) (AZ (by
  show UC hb (ybd z);obtain⟨f0,f1,f2,_⟩:=hf DA hb;show GA o e' d ho DA hb;rw[e] at e';show ϖ;exact⟨e,f0,f1,f2,d⟩)))
theorem Inv.unpinned{Ξ pl:dN}{σ:St}{H:Hp}{s:AF}(I:Inv X (Ξ++pl) σ H s):AW:=BTB (AGO p (zR _ (zQ _ hp)))
theorem z2j{NM:AK}{L9:XG}{wi:TI}{g:TG}{tb:TS}{AB:AX}(hp:BAi)(hc:FX)(hi:BPp)(hg:PG X tg g)(hb:BQP)
  (AN7):PS X (.For tg NM L9 [] AB) (aaA wi g tb):=by
 show Do D;refine wpAny_For (bV (pS hi) (ì h1 BWq)) hs;obtain⟨it,fp,tn,J,H2,e,I2,T,st2,f2,W,⟨m0,w0⟩,TL⟩:=h2;subst e
 
 have stat:BbF AmU:=fun hn b hb=>⟨AjU,WJ f2⟩;refine codeAny_forLoop_any (sg n (∃i DT H',AuR /\Bjb/\ AgJ/\W i n DT H')) ?_ m0 ⟨0,σ,H2,I2,st2,FL (eK f2),w0⟩;rintro n s3 ⟨i,σ3,H3,I3,st3,fr3,w3⟩;rcases TL i n σ3 H3 w3 with ⟨AAp,qn⟩ | ⟨go,N,hN,step⟩
 ·refine Bhi Arp AAp;obtain⟨hr,I4⟩:=D8;subst hr;exact Ac' ⟨σ3,H3,I4,qn⟩
 ·refine Bhi Arq go;show ŝ u hr h4;subst hr;refine AO1 h4 (AV _ s5 aaB);obtain⟨x,H5,I5,r5,y5,Sd,fr5⟩:=aaB;have I5' :=I5.pinned (stat fr5) (T.obj _ _ Sd);refine AO1 (hg _ s5 σ3 H5 x u _ I5' r5 (step x H5 y5)) (AOJ _ s6);obtain⟨σ6,H6,I6,q6⟩:=D8;refine AO1 (hb _ s6 σ6 H6 _ I6 q6) (AV f s7 q7);have ALS:jp σ7 St H7 Hp (Inv X (Ξ++uM fp s5.heap) σ7 H7 s7) (N σ7 H7) (Amh (∃i DT H',Inv X Ξ DT H' s7/\tn i s7.heap/\ AgJ/\W i m DT H')) :=fun{σ7 H7} I7 n7=>by
   obtain⟨m',hm,w7⟩:=hN σ7 H7 n7;refine⟨m',hm,EL,σ7,H7,BDs,BZC Sd I7.pin,L7,w7⟩;show br e d (ApR Sd);exact Bao I7.pin
  cases f with
  | L_=>obtain⟨σ7,H7,I7,n7⟩:=q7;exact ALS I7 n7
  | RU=>obtain⟨σ7,H7,I7,n7⟩:=q7;exact ALS I7 n7
  | brk=>obtain⟨σ7,H7,I7,q7⟩:=q7;exact⟨σ7,H7,BDs,q7⟩
  | ret v=>obtain⟨x7,σ7,H7,I7,r7,q7⟩:=q7;exact⟨x7,σ7,H7,BDs,r7,q7⟩
#where
theorem ydl{K:AD}{a:Ζ}{xs:AT}{g:TG}{tb:TS}{D:Ya}{σ:St}{H:Hp}(Pv:Ai8)(h0:Pv 0 σ H)(hl:∀i σ H,AYT ->AFP ->Ų)
  (hs:∀i x σ H,ef ->AFP ->A_u x) (hd:A'6 BN):
  AQt SU (W 0 m σ H) (∀i m σ H,AZp ->
   Abb ((R9 K a).AAp i H) ((R9 K a).go i H) (R9 K a).yld ApC):=by
 refine Amk σ H BN AYT AFP BL9
 rintro i m σ H ⟨Β,hi,p⟩;have q:=hl i σ H hi p;by_cases A6:lx
 ·refine .BO ⟨⟨xs,xs[i],q,CY A6⟩,AUu,Ap1 (BN - DI),AKb⟩
  show AO6 y y;subst e;exact BfG
 ·have e:i=BN:=Υ
  subst e;exact M' BdD
theorem yj8{K:AD}{a:Ζ}{xs:AT}{g:TG}{tb:TS}{D:Ya}{σ:St}{H:Hp}(Pv:Ai8)(h0:Pv 0 σ H)(hl:∀i σ H,AYT ->AFP ->AEx)
  (hs:∀i x σ H,ef ->AFP ->A_u x) (hd:A'6 BN):
  AQt SU (W 0 m σ H) (∀i m σ H,AZp ->
   Abb ((O3 K a).AAp i H) ((O3 K a).go i H) (O3 K a).yld ApC):=by
 refine Amk σ H BN AYT AFP BL9
 rintro i m σ H ⟨Β,hi,p⟩;have q:=hl i σ H hi p;by_cases A6:lx
 ·refine .BO ⟨⟨xs,xs[i],q,CY A6⟩,AUu,Ap1 (BN - DI),AKb⟩
  show AO6 y y;subst e;exact BfG
 ·have e:i=BN:=Υ
  subst e;exact M' BdD
theorem yay{lo:Ω}{n:Δ}{g:TG}{tb:TS}{D:Ya}{σ:St}{H:Hp}(Pv:Ai8)(h0:Pv 0 σ H)
  (hs:∀i σ H,i<n ->AFP ->A_u BlG) (hd:A'6 n):
  AQt SU (W 0 m σ H) (∀i m σ H,AZp ->
   Abb (Apg AAp) (Apg go) (HD lo n).yld ApC):=by
 refine C9 (fun i m σ H=>m=n - i/\i<=n/\AFP) ⟨n,DC,K2,h0⟩
 rintro i m σ H ⟨Β,hi,p⟩;by_cases A6:i<n
 ·refine .BO ⟨A6,AUu,Ap1 (n - DI),AKb⟩
  show AO6 y y;subst e y;exact hs i σ _ A6 p
 ·have e:i=n:=Υ
  subst e;exact M' ⟨NF,hd σ H p⟩
abbrev R2:=V ->V ->Atu
def jl(X:Cx)(f:AKd)(r:R2):Θ:=
 ∀(Ξ:dN) (s:AF) (σ:St) (H:Hp) (x y:V) (v u:AH) (Q:VK),BB AW l_ RE (r x y H Q) (ADV (f v u))
def UnR(X:Cx)(f:AHe AUZ)(r:AkW):Θ:=
 ∀(Ξ:dN) (s:AF) (σ:St) (H:Hp) (x:V) (v:AH) (Q:VK),AW ->l_ ->r x H Q ->
  ADV (f v)
def dD(X:Cx)(f:AH)(r:ë):Θ:=
 ∀(Ξ:dN) (s:AF) (σ:St) (H:Hp) (xs:AT) (us:At) (Q:VK),AW ->fT ->r xs H Q ->
  ADV (ib f us)
def Vh(r:R2)(ta tb:TE):TE:=BQC Q
def tUn(r:AkW)(ta:TE):TE:=AI1 (r x H1 Q)
def rI(C:Anc)(g:Akx):R2:=AI9 (A't (Q uS H))
def KJ(g:Akx):R2:=AI9 (BAy (Q uS H))
def rU(g:Ω ->V):AkW:=fun x H Q=>∃i,x= FV/\Q (g i) H
section
variable{X:Cx}{a b c:AK}{ta tb tc:TE}{AB:AX}
theorem O4(ha:ų)(hb:AN8){Ξ:dN}{s:AF}{σ:St}{H:Hp}{R:V ->APh}(I:AW)
  (h:ta σ H (ı x (zI tb y (R x y H2)))) {Q:dM} {f:AKd}
  (hf:∀v u s2 x y H2,BB (ZO H2 s2) l_ RE (R x y H2) (AVh (f v u) Q s2)):
  AHF (pe a) (BYw (AVh (f v u) Q LJ)):=by
 refine bV ã (ACt aaC);show XX aaC;refine ACT Aku u aaD;obtain⟨y,H2,I2,r2,q2⟩:=aaD;exact hf v u s2 x y H2 I2 r1 r2 q2
theorem ylz{op:Operator}{r:R2}(ho:jl X (Art op) r)(ha:ų)(hb:AN8):PE X BMS Aoy:=by
 show Do Q;exact wpAny_BinOp (O4 ha hb I h Bhe)
theorem yk4{op:Ac_}{r:AkW}(ho:UnR X (unaryOp op) r)(ha:ų):ACY Ac_ op a (tUn r ta):=by
 show Do Q;exact UnaryOp_ (bV ã (ì aaE (by show XX aaE;exact ho Ξ s1 σ H1 x v Q I1 r1 q1)))
theorem opI{f:AKd}{C:Anc}{g:AUc Ω}
  (nr:BCM (C i j ->A_l uS ->ARR BAt)):
  jl X f (rI C (Ç uS)):=by
 show AFx;show Ŀ i j Β hc q h;show W_;show AKQ;exact BBd hc (AZ1 uS)
theorem Vi{f:AKd}{g:AUc Ω}
  (nr:BCM (A_l uS ->ARR BAt)):
  jl X f (KJ (Ç uS)):=by
 show AFx;show GG i j Β q h;show W_;show AKQ;exact BBd (AZ1 uS)
theorem KN{f:AKd}{g:AUc AU}
  (nr:BCM (Q (qk uS) s ->ARR BAt)):
  jl X f (KJ (Tk j (.bl uS))):=by
 show AFx;show GG i j Β q h;show W_;show AKQ;exact BBd (AMr (.bl uS) q)
def aaF(AKI):Θ:=0<=j/\j<=1000000/\AYU 64
theorem ymp:AUt Add (KJ (Ç (i+j))):=ARc Vi add_int
theorem ylk:AUt Sub (KJ (Ç (i - j))):=ARc Vi sub_int
theorem yhh:AUt Mod (rI (JP j AJS) BKi):=opI fun _ _ _ _ _ _ _ hc q=>mod_int' hc q
theorem unI{f:AHe AUZ}{g:Ω ->Ω}
  (nr:∀(i:Ω) (t:Tok) (s:AF) (Q:dM) (E:dM),A_l (g i) ->ARR (f AgT)):
  BS5 f (g i):=by
 intro Ξ s σ H x v Q I rx h;show AJk i q;show W_;exact nr i t s _ _ (AZ1 (g i))
theorem yf2:BS5 (unaryOp .USub) (-i):=unI (ARk _ q (neg_int q))
#where
section
variable{X:Cx}{a b c:AK}{ta tb tc:TE}{AB:AX}
theorem yfn{Ξ:dN}{σ:St}{H:Hp}{s:AF}{Q:VK}{k k' :AU}(I:AW)(q:Q (.bl k) H)(e:k=k'):ϕ (qk k') s:=by
 subst e;exact AMr (.bl k) q
theorem yoc:AoC Lt (i<j):=ARc KN lt_int
theorem yoj:AoC LtE (i<=j):=ARc KN le_int
theorem yom:AoC Gt (j<i):=ARc KN gt_int
theorem yn2:AoC GtE (j<=i):=ARc KN ge_int
theorem yl9:BWY Is (TC (x= B8)):=by
 show AFx;show tN q h;show ARt;refine is_none_gen (yfn I q ?_);(show Lv x x x x x x x x x x x x x x)<;>first
  | (show LU;rfl)
  | (show W_;rfl)
theorem yg7:BWY IsNot (!(Φ (x= B8))):=by
 show AFx;show tN q h;show ARt;refine isnot_none_gen (yfn I q ?_);(show Lv x x x x x x x x x x x x x x)<;>first
  | (show LU;rfl)
  | (show W_;rfl)
theorem aX(b:AK){op:CmpOp}(h:op≠ .In:=by decide)(h2:op≠ AJB:=by decide):AgU:=by
 have e1:G_ op CmpOp.In:=by (show Lv op op op op op op op op op op op op op op)<;>first | rfl | show AEk h
 have e2:G_ op CmpOp.NotIn:=by (show Lv op op op op op op op op op op op op op op)<;>first | rfl | show AEk h2
 (show AfS)<;>simp [BDd,e1,e2]
theorem yhk(BZ4):PE X AZ7 Aoy:=by
 show Do Q;exact wpAny_Compare1 (O4 ha hb I h Bhe) hm
def M6(t:TE):TT:=fun σ H Q=>t σ H fun x H' =>∃k,x= .bl k/\Q k H'
theorem yji(BZ4):PT X AZ7 (M6 Aoy):=by
 show Do Q;refine BmV (bV ã (ì ⟨x,H1,I1,r1,q1⟩ (bV Aku fun u s2 (ApB r2)=>
  (BCG c)))) hm
 subst e;show BCQ;exact đ ⟨H3,I3,q3⟩
def Cg(r r' :R2)(ta tb tc:TE):TE:=BQC (fun z H3=>∃k,z= .bl k/\
 (DH (k=Μ) (tc σ H3 fun w' H4=>r' y w' H4 Q) (Q AHq H3)))
theorem ybm(Bge):PE X Apl (Cg r r' ta tb tc):=by
 show Do Q;refine Compare_chain (bV ã (ì ⟨x,H1,I1,r1,q1⟩ (chain_link (bV Aku fun u s2 (ApB r2)=>
  (BCG d))))) hm
 subst e;show BCQ;refine Ayn;cases k with
 | AG=>exact ite_ff ⟨APa,H3,I3,Β,q3⟩
 | Μ=>exact ite_tt (chain_last (bV BeH fun w' s4 aaG=>by obtain⟨z',H4,I4,r4,q4⟩:=aaG;exact ho' Ξ s4 σ H4 y z' u w' Q I4 r2 r4 q4))
theorem ydc(Bge):PT X Apl (M6 (Cg r r' ta tb tc)):=by
 show Do Q;refine isTrue_chain (bV ã (ì ⟨x,H1,I1,r1,q1⟩ (test_link (bV Aku fun u s2 (ApB r2)=>
  (BCG d))))) hm
 subst e;show BCQ;refine Ayn;cases k with
 | AG=>
  show EM k' e' q' q3;show AE e' e' e' e' e' e' e' e' e' e' e' e' e' e';exact ite_ff ⟨H3,I3,q'⟩
 | Μ=>
  refine ite_tt (test_last (bV BeH (AOJ w' s4)));obtain⟨z',H4,I4,r4,q4⟩:=D8;refine bV (ho' Ξ s4 σ H4 y z' u w' _ I4 r2 r4 q4) (AV d' s5 hz2);obtain⟨z2,H5,I5,r5,k2,e2,q5⟩:=hz2;subst e2;show AE r5 r5 r5 r5 r5 r5 r5 r5 r5 r5 r5 r5 r5 r5;exact đ ⟨H5,I5,q5⟩
theorem pR:LN ASD<2^63:=by rw[ALV];decide
theorem z4v:AUt Add (fun x y H Q=>∃i j,x= .AS i/\y= .AS j/\D' (i.length+j.length)/\Q (.AS (i++j)) H):=by
 show AFx;show Ŀ i j Β hz q h;show W_;show AKQ;exact add_str (fun t' tk=>(BP3 (i++j))) hz
theorem ALW{x:V}{us:At}(r:AH9 [x]):BZs:=by
 cases r with
 | AY r1 r2=>show AE r2 r2 r2 r2 r2 r2 r2 r2 r2 r2 r2 r2 r2 r2;exact SH r1
theorem vals2{x y:V}{us:At}(r:AH9 [x,y]):∃u w',us= [u,w']/\Æ/\KO y w' :=by
 cases r with
 | AY r1 r2=>
  cases r2 with
  | AY r3 r4=>show AE r4 r4 r4 r4 r4 r4 r4 r4 r4 r4 r4 r4 r4 r4;exact l7 _ r1 r3
theorem ydt:AkH "abs" (∃i,xs= [FV]/\AYM AbK):=by
 show AQs;show AJk i q;obtain⟨u,Β,t,Β⟩:=ALW r;exact call_abs_int fun u tk=>(AZ1 AbK)
theorem yag(ï):AkH "max" (∃i j,xs= AFg/\AYM BMK):=by
 show AQs;show eQ i j Β q;obtain⟨u,w',Β,⟨t,Β⟩,⟨t',Β⟩⟩:=vals2 r;refine max_two_ints (ASd hc) fun h' tk k=>⟨_,H,Arf k,?_,q⟩;by_cases hj:j>i
 ·rw[Ch hj,Ch hj];exact D_
 ·rw[CM hj,CM hj];exact D_
#where
structure Ci (h:AL) (x dx C:Ζ) (mA:EX):Θ where
 obj:Fu L' AlV
 ns:Ao3
 ne:dx≠x
theorem zxz{h:AL}{dx:Ζ}{mA:EX}(n:Ao3):Bff (ANj dx od):=by
 obtain⟨o,es,ep,ho,hd,hk,_,hm⟩:=n;refine AEg (Sk EO);have e:=hm EO;unfold nsFind findBy at e;rw[<- Array.find?_toList] at e;unfold W.lookIn;rw[hd];dsimp only;split
 ·rename_i y q;rw[q] at e;exact AJh Ε
 ·show Kj;rw[q] at e;have a:Bmn (·.refKey)=AG:=by
   rw[List.any_eq_false];intro y hy;obtain⟨z,t,hkey⟩:=hk y (Array.mem_toList_iff.mp hy);simp [DictEntry.refKey,hkey]
  have a' :¬Bmn (·.refKey)=Μ:=CD a zK
  show BD a';exact AJh Ε
theorem Ci.look{h:AL}{x dx C:Ζ}{mA:EX}(I:Ci h x dx C mA):Bff (W.InstAt h x AlV C (Dx od)):=
 let ⟨od,ho,hl⟩:=zxz I.ns
 ⟨od,AXs I.obj ho,hl⟩
section
variable{CI:A0}{w:Ap}{A:BQ}{E:dM}{s:AF}{K:AD}{x dx C f:Ζ}{mA:EX}{EO:Κ}{v:AH}
theorem yi7{expr:AU}{Q:dM}(X:AJx)(I:A5k)(hg:AWJ C EO)(hh:AkF)
  (ha:AkG EO) (hv:BVM) (hv' :AyS v) (h:Q v AVm):
  KA BYA:=by
 show A'R;exact W.get_value X J BNu (Bmp hh ha Β (Ù hl hv)) hv' h
theorem ycr{pl:AYc}{Q:BOK}(X:AJx)(I:A5k)(hg:AWJ C EO)
  (hf:Atx EO) (ht:AVf) (hv:mA EO=Ι) (h:Q (.B4 f,[.B4 x]) s):
  KA (Arw yi EO pl):=by
 show A'R;exact W.method_fn X J BNu (Bmo hg).2 hf (AGW ht) (by show(W.lookIn name od).map (·.isSome)=some false;rw[hl,hv];rfl) h
theorem yhw{ns:Ρ}{Q:á}(X:AJx)(I:A5k)
  (hs:A8q) (hp:BH_) (ht:BVq EO) (hh:AkF)
  (hw:Bl6 mA ns) (hsz:BlS)
  (h:ACw (Ci h' x dx C (A_4 (mA y))) (A5T dx) (Q () (d_ h' (LV+2)))):
  KA A9O:=by
 show A'R;refine W.set_plain X J hs (W.osa_open (s:=AVm) (r:=Ι) X J hp ht fun b=> ?_);show BI cd hc hd' W.any_some hh;have hx:Fu MY ⟨HC,Ε dx,.plain,#[]⟩:=I.obj;refine z6 (z7 (z6 (z6 (Bmq hx (z6 (Bf8 AVm (BDt X hc) ?_))))));rw[hd'];refine z7 (a:=Ε dx) (z6 (z7 (z6 ?_)));refine BDu (s:=AVm) I.ns (gI hn2 hs2);obtain⟨oD,esD,epD,hoD,hdD,hcD⟩:=hn2.count (PySem.Within.cons EO v hw);refine BAQ (ő GM)
 exact z7 (h _ ⟨HZ hs2.2 _ (qV I.ne) I.obj,hn2,I.ne⟩ hs2)
theorem z21{R:Ay_}{vs:At}{kw:AOS}(X:AJx)(hm:BH')
  (hi:AI7) (hf:AbL)
  (h:AI0 JU (AZ_ ⟨HC::vs,kw⟩) Lc ⟨.B4 lc::vs,kw⟩ (W.InitBack lc R) BVz):
  AI0 JU A HE ⟨vs,kw⟩ R s:=by
 obtain⟨hh,g,d,t,os⟩:=s;exact W.make_core (W.makes_of X hm) (AdO X hi) (B6 RY (W.bind_fn X RY hf)) WN h
#where
def nW(A_G):l8 ->l8
 | []=> AlQ
 | (g,x)::r=>Aal ((g,v)::r) ((g,x)::nW f v r)
theorem zp6(f g:Κ)(v:V):∀fs:l8,(nW f v fs).AGX g=Aal ADK (ArD g)
 | []=>by
  show C8 (Ė g AlQ=_);by_cases h:g=f
  ·show A4Q A2k AJL
  ·show BKD (G_ g f) AD'
 | A2m=>by
  have ih:=zp6 f g v r;show XE (A2Q=(A9t A5n)) Β;by_cases hk:k=f
  ·show DJ hk;by_cases h:g=k
   ·show A4Q (ĸ g k) (Á h.trans hk)
   ·show BKD (G_ g k) (BYk (h (e.trans hk.symm)))
  ·show BD hk;by_cases h:g=k
   ·show A4Q (ĸ g k) (BYk (hk (h.symm.trans e)))
   ·have hb:G_ g k:=AK2 h;simp only [Ė,hb];exact ih
theorem zqd(A_G):∀fs:l8,f∈ Bb9/\∀g,g∈AdP (·.1) ->g∈ Bb9
 | []=>⟨CY nW,fun g h=>AQB⟩
 | A2m=>by
  show EU i1 i2 zqd f v r;show XE (A2Q=(A9t A5n)) Β;by_cases hk:k=f
  ·show DJ hk;subst hk;exact⟨DC,fun g h=>(Cc h)⟩
  ·show BD hk;refine ST ?_ g h
   ·rw[FA];exact zX _ i1
   ·rw[FA] at h⊢;rcases AEH with e | e
    ·exact zV.mpr (HV e)
    ·exact zX _ (i2 g e)
theorem zpx(A_G):∀fs:l8,zn nW f v fs<=AK4+1
 | []=>CY nW
 | A2m=>by
  have ih:=zpx f v r;show XE (A2Q=(A9t A5n)) Β;by_cases hk:k=f
  ·rw[Ch hk,GM,GM];show AA
  ·rw[CM hk,GM,GM];show AA
theorem nC.some_of{v:V}{o:dq}(r:nC (Ε v) o):∃u,av o/\OC:=by
 cases o with
 | Ι=>exact AQg
 | Ε u=>exact KI u r
theorem nC.none_of{o:dq}(r:nC Ι o):o=Ι:=by
 cases o with
 | Ι=>rfl
 | Ε u=>exact AQg
theorem zvz{v:V}{u:AH}(r:OC):AyS u:=by
 cases v with
 | non=>show x9 A2S r;rfl
 | bl b=>show x9 (u=Aq_ b) r;rfl
 | AN i=>show Anv AaC
 | AS x=>show Anv Ami
 | Z5 b=>show Anv (Value.bytes b t)
 | flt b=>show Anv (BDG b t)
 | B4 a=>show x9 AMW r;rfl
 | ty n=>show x9 BRe r;rfl
section
variable{P:A0}{w:Ap}{H H' :Hp}{h h' :AL}{a C dx:Ζ}{fs fs' :l8}
theorem Vj(DV:cS)(e:APk):∃mA,Ci h a dx C mA/\ (BBG)/\BL2/\BHv/\A5O:=by
 obtain⟨d,z,ne,ob,mA,n,r,q⟩:=(GS (AAP AfM) (DV a _ e));exact⟨mA,⟨ob,n,ne⟩,r,q,z,d⟩
#where
structure Cls (AAG):Θ where
 pg:AWJ C HM
 hd:AkF
 po:BH_
 sa:A8q
theorem Cls.get{K:AD}{C:Ζ}(c:Aj_)(f:Κ):AWJ C f:=c.pg
def aN(K:AD)(C:Ζ)(f:Κ):Θ:=AkG f
theorem aN.taker{K:AD}{C:Ζ}{f:Κ}(n:ADN f):BVq f:=by
 unfold W.takerIn;show XE (AkG f) n
 rfl
structure Meth (K:AD) (C:Ζ) (m:Κ) (f:Ζ):Θ where
 at_:Atx m
 fn:AVf
 kp:AWi
section
variable{X:Cx}{Ξ:dN}{σ:St}{H:Hp}{s:AF}{a C dx:Ζ}{fs:l8}{f:Κ}{v:V}{A:BQ}{E:dM}
theorem z3y{b:AU}{Q:dM}(I:AW)(e:APk)(c:AzW)(n:tI)(l:Amw)
  (h:BZG):BWo:=by
 obtain⟨mA,O,r,_,_,_⟩:=Aj4;show BI u hu ru (Apw (mA f)) BMZ
 exact yi7 VI O (c.get f) c.hd n hu (zvz ru) BT_
theorem zir{m:Κ}{g:Ζ}{pl:AYc}{Q:BOK}(I:AW)(e:APk)(c:AzW)(k:Meth AJ C m g)(l:ArD m=Ι)
  (h:Q (.B4 g,N9) s):Ŗ (Arw EC m pl):=by
 obtain⟨mA,O,r,_,_,_⟩:=Aj4;have hn:mA m=Ι:=nC.none_of (AwR l r m)
 exact ycr VI O (c.get m) k.at_ k.fn hn h
theorem z3g{y:V}{u:AH}{Q:á}(I:AW)(e:APk)(c:AzW)(n:tI)(hl:AwY)(ry:RE)
  (h:Al3 (xw a BbT s')):A_8:=by
 obtain⟨mA,O,r,wi,_,ho⟩:=Aj4;have hz:D' (Tx (fs.map (·.1))):=Af' ALV
 refine yhw VI O c.sa c.po n.taker c.hd wi hz fun h' O' sb=>h _ ?_;have hd:∃o,ACj dx:=let ⟨o,_,_,e',_⟩:=O'.ns;We e';show BE (AaM a dx Al6 (FM ho) (xp q z (HZ sb.2 b hb z)) hd ?_) ⟨Ž O.ne ho,?_,O.ne,O'.obj,_,O'.ns,Sk g,Cf g hg⟩
 ·show APm (zpx f y fs)
 ·rw[zp6];by_cases q:g=f
  ·rw[Kk,Kk];exact ry
  ·rw[CM q,OA];exact r g
 ·by_cases q:g=f
  ·rw[q];exact(zqd f y fs).1
  ·refine(zqd f y fs).2 g (wi g (AZ (hg ?_)));show(DH (g=f) Ag2 (mA g))=Ι;show BD q;exact z
theorem Inv.made(UX):ZO (upd (ZZ CL (.Au lc)) lc (.ins C CL [])) BVz:=by
 have e1:ACq (Ϗ AAs) AAs:=z9 A8 Β;have e2:(Av' Ps BJF).IE lc=Ε BJF:=ABx (z9 (ALQ AAs) (o:=Acv C CL) Β) Y1
 have e3:Av' Ns CL (Da Ι):=⟨AAs,#[],_,e1,Β,(fun e he=>(Ae_ he)),AVz⟩
 have I1:=P9 vy a CL o (.Au lc) h' (AUA AAs) t' LV AgR (zO _) (Fk e1);refine ALa (a:=AXA) (o:= .ins C CL []) (t' :=LV) AgR (ALb (Y1 _ _)) ?_;have ne:CL≠AXA:=An4;refine⟨A2g,K2,ne,e2,Av1,(Bmt e3).at fun o q=>AUB,Ff ALZ,fun y hy=>nL Β hy⟩
theorem ya7{CI:A0}{w:Ap}{BV:Env}{e:AK}{f:Κ}{AB:AX}{s:AF}{Q:dM}(hb:BDz e f BV (ACv e)=cz e BV)
  (h:AoW e o (qE (Arv o f Μ) Q EZ)):KA (ACv (.AAt e f AB)):=
 Attribute_any_ h (Ù arm_eval_Attribute hb)
#where
def aaH(K:AD)(ta:TE)(f:Κ):TE:=AI1 (∃a C dx fs v,x= B'/\AV0 AfM/\Aj_/\ADN f/\Amw/\Q v H1)
def aaI(K:AD)(ta tv:TE)(f:Κ):TS:=A_N (∃a C dx fs,x= B'/\IL H2 AfM/\Aj_/\ADN f/\AwY/\
 AHY (upd H2 a BbT))
section
variable{X:Cx}{o e FF:AK}{f:Κ}{AB HP tpos:AX}{ta tv:TE}
theorem ygz(he:PE X e ta)(hb:AMx f):BWu (aaH AJ ta f):=by
 show Do Q;refine ya7 hb (bV ϭ (ACi aaJ));obtain⟨x,H1,I1,rx,a,C,dx,fs,v,ex,ea,c,n,l,q⟩:=aaJ;subst ex;show AH';exact z3y I1 ea c n l Bdc
theorem z56(ha:PE X o ta)(hv:Awv)(hs:Ah0 o):AOZ (AgI o f) FF (aaI AJ ta tv f):=by
 show Do D;refine BD_ (bV Aje (ae u)) hs;obtain⟨y,H1,I1,ry,q⟩:=D8;refine ACT A7g ov hz2;obtain⟨x,H2,I2,rx,a,C,dx,fs,ex,ea,c,n,l,q2⟩:=hz2;subst ex;show A0N;exact z3g I2 ea c n l ry (AnO ⟨σ,_,I3,q2⟩)
#where
section
variable{X:Cx}{Ξ:dN}{σ:St}{H:Hp}{s:AF}{A:BQ}{E:dM}{Q:dM}{c:AH}{b:AU}
inductive tZ (K:AD) (H:Hp):BLK where
 | non:ADZ B8 "NoneType"
 | bl (x:AU):ADZ (.bl x) "bool"
 | AN (AQz):ADZ AD_ AGH
 | AS (x:Κ):ADZ AJX AKp
 | flt (x:UInt64):ADZ (.flt x) "float"
 | By {a:Ζ} {xs:AT} (e:Nd rX):BJ6
 | frz {a:Ζ} {o:Obj} {xs:AT} (e:Nd (.frz o rX)):BJ6
 | EI {a:Ζ} {xs:AT} (e:Nd WZ):ADZ EC YE
 | dK {a:Ζ} {AI:sK} (e:AJb):BJ7
 | dT {a:Ζ} {AI:ύ} (e:Ayw):BJ7
 | ins {a C dx:Ζ} {fs:l8} (e:APk) (cl:Aj_) (ha:BQm)
   (hn:Bjy BHH "__get__" "getset_descriptor.__get__") (htk:W.takesIn K BHH=Ε Μ)
   (hm:Alr C):tZ K H EC HE
theorem zla{x:V}{u t:AH}(I:AW)(rx:Æ)(ty:tZ AJ H x t)(e:BYv t)(h:BZO):
  BR3:=by
 cases ty with
 | non=>show x9 A2S rx;exact ki W.kitx_none ALZ
 | bl y=>show x9 (u=Aq_ y) rx;exact ki W.kitx_bool ALZ
 | AN i=>show BBV AaC W.kitx_int
 | AS y=>show BBV (Aq6 y t) W.kitx_str
 | flt y=>show BBV (BDG y t) W.kitx_float
 | @By a xs ea=>
  show AQo;obtain⟨_,_,n,_,h1⟩:=(AaT rX);exact ki BD' (ML h1)
 | @frz a ob xs ea=>
  show AQo;obtain⟨_,_,_,n,_,h1⟩:=(AaT (.frz ob rX));exact ki BD' (ML h1)
 | @EI a xs ea=>
  show AQo;obtain⟨_,_,_,p⟩:=(AaT WZ);show AVU h1 h2 p;exact ki Bmu (AX5 h2)
 | @dK a AI ea=>
  show AQo;obtain⟨_,_,vs,_,p⟩:=(AaT P8);obtain⟨o,es,ep,h1,h2,_⟩:=p;exact ki BEG (AX5 h2.1)
 | @dT a AI ea=>
  show AQo;obtain⟨_,_,xs,_,o,es,ep,h1,h2,_⟩:=(AaT AUw);exact ki BEG (AX5 h2.1)
 | @ins a C dx fs ea cl ha hn htk hm=>
  show AQo;obtain⟨mA,O,_⟩:=Vj KS ea;show BVB;exact ki (W.kitx_own (cl.get _) cl.hd ha hn htk hm) J
#where
structure c7 (k:Δ) (A:BQ):Θ where
 hd:PZ
 dp:Ar0+3*k+5<Bmv
 un:AGY+16*k+200<n_
theorem c7.mono{j k:Δ}{A:BQ}(r:AhD)(h:j<=k):c7 j A:=⟨r.hd,NA r.dp,NA r.un⟩
theorem c7.deeper{k:Δ}{A:BQ}(r:c7 Eg A)(BV:Env):c7 k (AGZ BV):=
 ⟨r.hd,by have:=r.dp;show C8 (Ar0+1+3*k+5<_);show AA,by have:=r.un;show C8 (AGY+3+16*k+200<_);show AA⟩
theorem z3u{A:BQ}{C:Ζ}{us:At}{kw:AOS}:(Arx A1Y).depth=Ar0+1:=by
 first | rfl | simp [BEJ,Code.weight,Code.isCreation,Code.isGuard,Code.isCaller,Code.frames,BEK,guardIds]
theorem z28{A:BQ}{C:Ζ}{us:At}{kw:AOS}:(Arx A1Y).units=AGY+1:=by
 first | rfl | simp [BEJ,Code.cUnits,Code.frames,BEK]
theorem c7.make{k:Δ}{A:BQ}(r:c7 Eg A)(C:Ζ)(us:At)(kw:AOS):c7 k (Arx A1Y):=
 ⟨r.hd,by have:=r.dp;rw[z3u];show AA,by have:=r.un;rw[z28];show AA⟩
theorem c7.depth(BeR):Ar0<Bmv:=NA r.dp
theorem c7.units(BeR):AGY+64<n_:=NA r.un
def aaK:TA:=Ano (Q [] H)
def Vk(ta:TE)(tr:TA):TA:=AI1 (zI tr xs (Q AZu H2))
section
variable{X:Cx}{e:AK}{es:DD}{te:TE}{t:TA}{AB:AX}
theorem O5:PA X [] aaK:=fun _ _ _ _ H Q I h=>Bmw ⟨[],H,I,EE,h⟩
theorem KQ(ha:mP)(hr:AlA)(hs:AKg:=by rfl):PA X KW (Vk te t):=by
 intro AB Ξ s σ H Q I h;rw[hs];refine Ar1 (bV ã (ACi aaL));show XX aaL;exact bV (hr AB Ξ s1 σ H1 _ I1 q1) fun us s2 aaM=>by obtain⟨xs,H2,I2,r2,q2⟩:=aaM;exact⟨L8,H2,I2,.AY r1 r2,q2⟩
def aaN(t:TA):TE:=BeY WZ
def aaO(t:TA):TE:=BeY rX
theorem ylf{x1}(h:AlA):ACY ALG es x1 (aaN t):=by
 show AXr hq;refine wpAny_Tuple_spliced (bV (h AB Ξ s σ H _ I hq) BY0)
 have hf:AkT:=AlR;refine⟨Ax2,upd H1 EJ WZ,BYL,Β,q _ hf⟩;exact⟨z,us,r,⟨_,SE,Β,_,Β⟩⟩
theorem yle(h:AlA):PE X BPv (aaO t):=by
 show AXr hq;refine wpAny_List_spliced (bV (h AB Ξ s σ H _ I hq) BY0)
 have hf:AkT:=AlR;refine⟨Ax2,upd H1 EJ rX,BYL,Β,q _ hf⟩;exact⟨z,us,0,r,SE⟩
#where
abbrev Sp:=AT ->Hp ->DZ VK XK
abbrev J5:=BB LT Hp AF XK (Op AH)
structure yh (AWw) (mg:EX) (DS:AL) (A:BQ) (DE:LT) (s:AF) (H:Hp):Θ where
 frames:AiM DE
 mod:Mod K mg DS
 bs:Ł base.get? (kB/\NB)
 bsz:Bkw base.objs.size
 funs:BDX DS DE
 frf:On (frs DE) NB
 DV:nD P w H A8
 Gc:BIZ
def CE(DE:LT)(P:A0)(w:Ap)(H:Hp)(s:AF)(Q:VK)(u:AH)(s' :AF):Θ:=
 ∃v H',s'.os=s.os/\AIh/\BUw/\BW1/\OC/\Ű
def CR(CX:J5)(DE:LT)(P:A0)(w:Ap)(H:Hp)(s:AF)(Q:VK)(E:XK)(r:Result)(s' :AF):Θ:=
 match r with
 | .ok (.ret u)=>A'u
 | .ok _=>D7
 | .oB e=>CX DE H s E e s'
structure fV (AxW) (CX:J5) (k:Δ) (f:Ζ) (fd:Fc) (ps:Ρ) (sp:Sp):Θ where
 len:BUm
 run:∀(A:BQ) (DE:LT) (s:AF) (H:Hp) (E9:Args) (us:At) (vs:AT) (Q:VK) (E:XK),AhD ->BB AnH (BUu AdS) AY7 Ah3 (AI0 ACQ A Lc E9 (CR CX DE P w H s Q E) s)
theorem fV.imp(BgB CX J5){k:Δ}{f:Ζ}{fd:Fc}{ps:Ρ}{sp sp' :Sp}(F:BWQ sp)
  (h:∀vs H Q E,sp' vs H Q E ->Ah3):BWQ sp' :=
 ⟨fun vs H Q E q=>F.len vs H Q E (MH h q),fun A DE s H E9 us vs Q E hr he hb hv hs=>F.run A DE s H E9 us vs Q E hr he hb hv (MH h hs)⟩
theorem yh.make(Bg5){A:BQ}{DE:LT}{s:AF}{H:Hp}(e:AnH)(C:Ζ)(us:At)(kw:AOS):
  BiY (AZ_ ⟨HC::us,kw⟩):=⟨by first | exact e.frames | (simpa [BEJ,Code.envs,BEK,pushEnvs] using e.frames),e.mod,e.bs,e.bsz,e.funs,e.frf,e.hok,e.bare⟩
section
variable{X:Cx}{Ξ:dN}{σ:St}{H:Hp}{s s' :AF}
theorem Inv.env0(UX):BYb s H:=
 ⟨I.ok.frames,I.ok.mod,I.bs,zP I.ok.bsz I.sz,I.stack,I.stkFree,KS,Ď⟩
theorem Inv.after{Q:VK}{u:AH}(I:AW)(h:CE MX Fr X.w H s Q u s'):ϕ u s' :=by
 obtain⟨v,H',os,Gc,un,DV,r,q⟩:=h;obtain⟨hh,g,d,t,os'⟩:=s';show HA (os' =s.os) os;exact⟨v,H',I.call (h' :=hh) (g' :=g) (d' :=d) (t' :=t) (ch:= []) un DV Gc Ahh,r,q⟩
#where
def ASp(K:AD)(fd:Fc)(ps:Ρ)(ds:At):Θ:=
 ∀(s:AF) (us:At),AJx ->AN2 (us++ds) ->Ar2 s fd AV_ (AdS (us++ds))
theorem Binds.all{K:AD}{fd:Fc}{ps:Ρ}(h:∀us:At,Aei nI ->BTj fd):AIU:=fun s us _ hl=>by
 rw[Y2] at hl⊢;exact .of_eq (h us hl)
section
variable{X:Cx}{CX:J5}{k:Δ}{f C:Ζ}{fd:Fc}{ps:Ρ}{sp:Sp}{dvs:AT}{ds:At}{E:XK}{x m:Κ}{p AB LX:AX}{e o:AK}{es:DD}{ta:TE}{t:TA}
structure Mk (K:AD) (C f:Ζ):Θ where
 makes:BH'
 init:AI7
 fn:AVf
 kp:AfI HE
#where
structure aA (N P:Ρ) (sc:OK):Θ where
 kind:A3V
 co:Me sc.isCoroutine
 gen:Me sc.isGenerator
 nd:N.Nodup
 C_:N.take P.length=P
 par:∀x∈P,Az7\/AZH
 nofree:∀y∈Pw,y.2≠ Tu
theorem zx0(BTk):BfJ ALc
 | [],_,_=>Β
 | (n,v)::r,m,h=>by
  unfold ALc;rw[zx0 fun w hw=>h w (Aik hw)];split
  ·have:x≠n:=by rintro Β;exact AoI
   simp [Τ]
  ·rfl
theorem zyb(BTk):BfJ ALd
 | [],_,_=>Β
 | (n,v)::r,m,h=>by
  unfold ALd;rw[zyb fun w hw=>h w (Aik hw)];split
  ·rfl
  ·have:x≠n:=by rintro Β;exact AoI
   simp [Τ]
theorem zx3(Bf0):Be0 (BB P.Nodup (ox P) AP9 (AT' AGa) (BLF ALc))
 | [],_,_,_,_,h,_,_=>AQB
 | EH,[],_,_,_,_,h,_=>AQB
 | p::P,w::vs,0,m,nd,h1,h2,hk=>by
  simp at h1 h2;subst h1;subst h2;refine(?_:Ba6 ALc);unfold ALc;rw[BVt zx0,Ch hk];simp
 | p::P,w::vs,EL,m,nd,h1,h2,hk=>by
  unfold ALc;exact Ú zx3 An0 AOM AV1 hk
theorem zxl(Bf0):Be0 (BB P.Nodup (ox P) AP9 (AGa x≠Ε AU6) (BLF ALd))
 | [],_,_,_,_,h,_,_=>AQB
 | EH,[],_,_,_,_,h,_=>AQB
 | p::P,w::vs,0,m,nd,h1,h2,hk=>by
  simp at h1 h2;subst h1;subst h2;refine(?_:Ba6 ALd);unfold ALd;rw[BVt zyb,CM hk];simp
 | p::P,w::vs,EL,m,nd,h1,h2,hk=>by
  unfold ALd;exact Ú zxl An0 AOM AV1 hk
def ASr(N:Ρ)(vs:AT):St:=Ar4 Ε++AW7 (ALe - MB) Ι
def fG(CX:J5)(P:A0)(w:Ap)(K:AD)(mg:EX)(DS:AL)(N:Ρ)(FE:Κ)(JI:OK)(f:Ζ)(cd:AH)(A:BQ)(DE:LT)(s:AF)(H:Hp)(E:XK):Cx where
 CI:=P
 w:=w
 K:=K
 mg:=mg
 DS:=DS
 A:=AGZ (AGb FE JI CL f cd)
 N:=N
 LH:=s
 TK:=H
 BV:=BeW
 DE:=DE
 stack:=BeW::DE
 ex:= []
 calm:=Μ
 fn:=Ff Μ
 pn:= []
 xe:=fun e s' =>IZ ACQ (AGZ (AGb FE JI CL f cd)) (leaving (AGb FE JI CL f cd) e) (JP s'' (CX DE H s E e s'')) (fun e' s'' =>CX DE H s E e' s'') s'
theorem z08{sc:OK}{n:Δ}{x:Κ}(h:AZH):∃c,AHC (Al4 n Pw []):=by
 have q:=BEM Pw n [] (HV h);exact Bmy q
theorem zw9{CX:J5}{P:A0}{w:Ap}{K:AD}{mg:EX}{DS:AL}{N ps:Ρ}{FE:Κ}{JI:OK}{f:Ζ}{cd:AH}{A:BQ}{DE:LT}{s s1:AF}{H:Hp}{E:XK}{us:At}{vs:AT}
  (S:BX') (hd:PZ) (e0:AnH) (hl:Bjd) (r:AY7)
  (x:InCallC s CL (BhX ALc) (v4 lc AGc []) (BhX ALd) s1):
  Inv (ŏ Bd5) [] A5S H s1:=by
 have hpl:OP<=ALe:=by have:=NJ AAu S.pre;show DF v6;show AA
 obtain⟨h1,tk,Β,hk⟩:=x.done;have Vl:∀b:Ζ,b∉ (Bd5 DE s H E).ex:=dl z (A7u z)
 refine⟨⟨e0.mod,Ar5,Β,Β,NF,FY y z c h1 h2,Cf y hy,fun y c _ h=> ?_,Ff hd,Around.frames_deeper e0.frames,.BO Å,BZc,e0.bs,e0.bsz,fun b _ _=>Vl b,BZc,e0.funs,e0.frf⟩,
  Β,e0.bare,ASG hk,D4 x.toInCall.ns (fun i y v h1 h2 h3=> ?_),fun y c h=>(Fk (x.cell y c h)),Bmz (zO _),AV y c h,BAs,e0.hok.kept hk,?_⟩
 ·exact Bm0 x.apart (Ar6 h1) (Ar6 h2)
 ·have hy:BIt ł\/BIt Tu:=hy;rcases hy with hy | hy
  ·exact z08 hy
  ·show AEk (S.nofree _ (Ar6 hy))
 ·exact č BaZ
 ·have hi:i<MB:=by
   unfold ASr at h2;by_cases hi:i<MB
   ·exact hi
   ·rw[AwH] at h2
    rw[ASs] at h2;split at h2<;>(show Lv h2 h2 h2 h2 h2 h2 h2 h2 h2 h2 h2 h2 h2 h2)
  have ha:AP9:=by
   unfold ASr at h2;show AW5 AkN h2
   cases e:vs[i]? with
   | Ι=>show MO e h2 h2 h2 h2 h2 h2 h2 h2 h2 h2 h2 h2 h2 h2 h2
   | Ε a=>rw[e] at h2;show AqX;rfl
  show BI u hu rv r.get ha;show HL hp (E4 ps y) (by
   rw[<- S.pre,List.getElem?_take_of_lt Η];exact h1) ndP ps.Nodup (kF S.pre S.nd.sublist (Bm1 _ _)) (C9 u rv);rcases S.par y (zA hp) with k | k
  ·show FR ⟨k,zx3 ndP hp hu k⟩
  ·show UC c (z08 (n:=AXA) k);refine .BO ⟨.D6 k,c,e,?_⟩;have q:=x.cell y c e;rw[zxl ndP hp hu (by show As (Ar7 y≠_);rw[k];decide)] at q
   exact q
 ·exact Bmz (č BaZ)
 ·unfold ASr;show As (_=ALe);rw[P1,C6,BEO];show AA
theorem Sg{CX:J5}{P:A0}{w:Ap}{K:AD}{mg:EX}{DS:AL}{k:Δ}{f:Ζ}{EO FE:Κ}{params:Arguments}{L9:XG}{JI:OK}{dV kV doc pm cdv ct oc:AH}{an od:ND}
  {osl:ADq} {N ps:Ρ} {sp:Sp} (lk:AoY (.func Bhj) osl) (hcd:A9r) (S:BX')
  (len:BUm)
  (ė:∀(A:BQ) (DE:LT) (s:AF) (H:Hp) (vs:AT) (Q:VK) (E:XK),Bh5 JI ->Ah3 ->
   ∃t,G7 BAZ L9 t/\t BXF A5S H):
  To fV CX Eg f Bhj ps sp:=by
 refine⟨len,fun A DE s H E9 us vs Q E hr e0 hb r hsp=> ?_⟩;have hl:=MH len hsp;have KX:AJx:=Bm2 Amm;have lim:Bm3:=Bm4 Amm;have hkind:∀y∈AdS us,BNJ AU6\/ (BNJ ł/\ (Al4 lc AGc [] y.1).Ć=Μ):=fun⟨n,v⟩ hy=>by
  rcases BOE with q | q
  ·show FR q
  ·show He BRh
 show BE (Bm5 hr.depth (KX _ _ lk) Β S.co S.gen Β BVJ BHw) Bdf;subst he;refine BVQ;obtain⟨t,ht,hq⟩:=ė A DE s H vs Q E (hr.deeper _) hsp;have I:Inv BAZ [] A5S H s1:=BfX hl;refine Po (ht [] s1 (ASr N vs) H _ I hq) (AV fl s' hs) fun e s' hs=>hs;have D3:∀{DT :St} {H' :Hp} {v:V} {u:AH},Inv BAZ [] DT H' s' ->OC ->Ű ->A'u :=
  fun{DT H' v u} J rv q=>⟨v,H',J.os,J.bare,J.base,J.hok,rv,q⟩
 cases fl with
 | ret u=>
  obtain⟨v,DT,H',J,rv,q⟩:=hs;exact D3 J rv q
 | L_=>
  obtain⟨DT,H',J,q⟩:=hs;exact D3 (v:=V.non) (u:=nE) J Β q
 | brk=>
  show Ap0
 | RU=>
  show Ap0
section
variable{X:Cx}{x:Κ}{p AB:AX}{e:AK}{es:DD}{t:TA}{id T:KL}{r:ë}
def O6(r:ë)(t:TA):TE:=O0 t vs (r vs H1 Q)
theorem O7(hc:AB_ id r)(hg:KG)(hm:Ϭ)(hv:ϡ ACh)(ha:AlB)(AAS)(sT):BVk:=by
 show Do Q;refine ARF (ö hv) hn hdb;exact BEQ (bV Af3 fun us s1 aaP=>by show AEs aaP;exact hc Ξ s1 σ H1 vs us Q I1 r1 q1) he hpl
theorem Vm(hc:dD X sC r)(hg:KG)(hm:Ϭ)(hv:ϡ sC)(ha:AlB)(AAS)(sT):BVk:=by
 show Do Q;refine ARF (ö hv) hn hdb;exact BDq (bV Af3 fun us s1 aaQ=>by show AEs aaQ;exact hc Ξ s1 σ H1 vs us Q I1 r1 q1) he hpl
#where
#print _2
namespace _HT
open IR KK
section
open PySem.SeqAt
open BER (ASt)
open BES PySem.MeetsSeq2 BEU
#where
section
variable{CI:A0}{w:Ap}{A:BQ}{E:dM}{s:AF}
def sIx(n d:Δ):SK ->Δ
 | Ι=>d
 | ADK=>if v<0 then I_ (v+ L5) else Bj3
theorem yk6(n d:Δ)(hd:d<=n)(o:SK):sIx n d o<=n:=by
 cases o with
 | Ι=>exact hd
 | Ε v=>
  show Bcb<=n;by_cases hv:v<0
  ·show DJ hv;show AA
  ·show BD hv;exact Nat.min_le_right _ _
theorem z5o(v:Ω)(n d:Δ):BYd (sIx n d (Ε v)):=by
 show BYd Bcb;by_cases hv:v<0
 ·simp only [Ch hv];show AA
 ·simp only [Ail];show AA
theorem z4o(BeD):BcT=(Aou,BQi):=by
 have h1:¬(km<0):=Υ
 refine Prod.ext ?_ ?_
 ·cases lo with
  | Ι=>rfl
  | Ε v=>exact z5o v n 0
 ·cases hi with
  | Ι=>rfl
  | Ε v=>exact z5o v n n
theorem z3l(i j:Δ):Ar9 JA Ì 1=j - i:=by
 unfold Ar9;have h1:km>0:=Υ
 simp only [h1,c_,Int.ediv_one];show Ö
theorem zsr{v:AH}{o:SK}{Q:Op SK}(p:Ar_ v o)(h:Q o s):KA (Builtin.Slice.slicePartIndex v):=by
 cases p with
 | Ι=>exact Bm7 h
 | AN i t=>exact slicePart_int h
theorem zny{sl:Ζ}{vl vu:AH}{lo hi:SK}{n:Δ}{Q:Op (Ω×Ω×Δ)}(hs:BBJ)(pl:A8j)(pu:A8k)
  (h:Q (Aou,1,sIx n n hi - sIx n 0 lo) s):KA (Builtin.Slice.sliceApplied Axt (Go L5)):=by
 show T_ os hos hcs hds hs;refine z6 (z6 (A8f vl Β (z6 (A8f vu Β (z6 (A8f BA Β Afr))))));refine eA Bm7;show l4
 refine z6 (zsr pl (z6 (zsr pu AwV)));show ADf (AHn _ (match BcT with | (lo,hi)=>Go (lo,km,Ar9 lo hi 1))) (z4o lo hi n) (?_:AHn _ (Go (Aou,km,Ar9 Aou BQi 1)));rw[z3l];exact z7 h
theorem ycs(xs:Ki)(i k:Δ):((cv k).BDU fun(LN m)=>xs[A7e]?).vt=((xs.toList.drop i).ie k).vt:=by
 have e:(B6 (LN m) xs[A7e]?)=fun m=>xs[i+m]?:=by
  funext m
  have:A7e=i+m:=Υ
  rw[Τ]
 rw[e];have:=pick_run xs i k;show DF List.filterMap_map;have e2:((AHk xs[x]?) ∘ OF (i+x))=fun m=>xs[i+m]?:=Β;rw[e2] at Τ;rw[Τ]
theorem getItem_tuple_cut{t sl:Ζ}{NL:Ki}{vl vu:AH}{lo hi:SK}{Q:dM}(ht:IsTup A8 t NL)(hs:BBJ)(pl:A8j)(pu:A8k)
  (hw:¬(ANM=0/\AVS=P2))
  (h:AZc (pj BMe))
  (hsz:AyB):KA (ASu (Bn t) Axt):=by
 have DG:sizeOk (.seq BMe):=by
  show D' (BkV toArray.size);rw[VU,v6,AdT,vn];show AA
 have hj:AVS<=P2:=yk6 _ _ Kt hi;show T_ os hos hcs hds hs;have hTs:AOd sl "slice" :=⟨os,hos,hcs⟩;unfold ASu
 try with_reducible refine nk ?_
 first | refine ACx | skip
 refine i7 wpAny_sequenceKey AsA Ψ
 show PY (z6 (Bh3 Bm8 AsA Bm9
  (AdV Bm9 AsA entry_tuple_getitem ?_ (args_tuple_getitem _ _)))) (AWf (Builtin.Tuple.tupleItemsOf (Bn t)));show BE (jI tupleItemsOf_ ht) (jI Bm_ hTs);show DJ Ψ
 refine z6 (zny hs pl pu ?_);have hno:¬(BgM):=by
  intro q;rw[Y3,Y3] at q;have q1:ER ANM=0:=AsB q.1.1;have q2:AVS - ANM=P2:=AsB q.2;exact hw AMv
 show As (AHn _ (AN5 BgM));rw[CM hno,ycs]
 first
  | exact Akc (iS (z7 Ajj) DG)
  | exact Akc (iS (z6 (AQk Ajj)) DG)
  | exact z6 (Akc (iS (AQk Ajj) DG))
  | exact z6 (Akc (iS (z7 Ajj) DG))
#where
#print _HT
namespace _2
open IR OI KK
abbrev TO:=AnN Ayv
def PO(X:Cx)(e:AXK)(t:TO):Θ:=
 AWj Q Ayv È (evalPart e B9) (sg u (∃o H',AJw /\Ar_ u o/\Q o H'))
def yg8:TO:=Ano (Q Ι H)
def Vn(t:TE):TO:=O0 t x (∃i,x= FV/\Q (Ε i) H1)
section
variable{X:Cx}{e:AK}{te:TE}{lo hi:AXK}{tl th:TO}{AB p2:AX}
theorem yjs:PO X Ι yg8:=by
 show Do Q;rw[BEW];exact z7 ⟨Ι,H,I,BA,h⟩
theorem yjg(h:mP):PO X AXN (Vn te):=by
 show AXr hw;rw[Bm'];refine bV A6y (ACi aaR);show XX aaR;show bv i q q1;show No r1;exact⟨Ε i,H1,I1,.AN i t,q⟩
def SlR(X:Cx)(r:AbO):Θ:=
 ∀(Ξ:dN) (s:AF) (σ:St) (H:Hp) (x:V) (v vl vu:AH) (lo hi:SK) (sl:Ζ) (Q:VK),AW ->l_ ->BB BBJ A8j A8k (r x lo hi H Q) (∃T id,BY1/\BO'/\ADV (ASu v Axt))
def tSl(r:AbO)(te:TE)(tl th:TO):TE:=O0 te x (zI tl l (th σ H2 fun u H3=>r x l u H3 Q))
theorem z0w{r:AbO}(hr:SlR X r)(he:mP)(hl:PO X lo tl)(hu:PO X hi th):A0T e A's (tSl r te tl th):=by
 show Do Q;refine BOx ϭ aaS;show XX aaS;refine wpAny_Slice (bV (AM3 hl) (AOJ vl s2));obtain⟨l,H2,I2,pl,q2⟩:=D8;refine BLZ hu vu hz2;obtain⟨u,H3,I3,pu,q3⟩:=hz2;rw[BEW];refine AIb;have I4:ZO H3 Be':=I3.kept (t' :=s3.toks) (AUY ob);obtain⟨T,id,hT,ht,hg⟩:=hr Ξ Be' σ H3 x v vl vu l u ALg Q I4 r1 BIJ pl pu q3;exact BEa (ops:= [.B4 ALg,v]) ht hT hg tj
def yj(xs:AT)(lo hi:SK):AT:=BK8
theorem zo0(xs:AT)(lo hi:SK):zn yj xs lo hi<=BN:=by
 unfold yj;rw[v6,AdT];show AA
def aaT(AQ'):AbO:=fun x lo hi H Q=>∃a xs,x= B'/\AEx/\
 ¬(BiM=0/\BiU=BN)/\AZl p p p p (Kb AmS)
theorem ym9:SlR X (aaT AJ):=by
 intro Ξ s σ H x v vl vu lo hi sl Q I rx hs pl pu h;show Ŀ a xs hx hw q h;show LU;obtain⟨AO,r,ht,hz⟩:=Ē hx;have FI:v_=BN:=CD VU r.length.symm
 show APH ⟨YE,_,PyProof.Rows.slot_tuple_getitem.lookup,AsA,?_⟩ (_HT.getItem_tuple_cut ht hs pl pu (ET FI hw) ?_ (ET FI hz)) FI (BT7 (.EI AmS));exact⟨BWF,_,AxP r.drop,Ari _ _⟩
#where
def wu(n:Δ)(i:Ω):MD Δ:=if 0<=i then(DH (i<n) (Ε AsC) Ι) else Axc (-L5<=i) (I_ (i+n)) Ι
def lB{α:CH}(xs:CO)(i:Ω):MD α:=(wu BN i).bind fun j=>xs[j]?
theorem z63{n:Δ}{i:Ω}{j:Δ}(h:wu n i=Ε j):BLE n/\j<n/\ -L5<=i/\i<n:=by
 show De wu;by_cases h0:0<=i
 ·show ό h0;show BbX (i<n) (AsC=j) (BEb h0 h1) Υ h1
 ·show l6 h0;show BbX (-L5<=i) (I_ (i+n)=j) (A1t h1) h1 Υ
theorem zys{α:CH}{xs:CO}{i:Ω}{v:α}(h:r_ xs i v):∃j,BLE BN/\T' xs v/\AXb/\ -(CB BN)<=i/\lx:=by
 show De lB;cases e:wu BN i with
 | Ι=>show AWt e
 | Ε j=>
  rw[e] at h;obtain⟨h1,h2,h3,h4⟩:=z63 e;exact⟨j,h1,h,h2,h3,h4⟩
theorem jP{α:CH}{xs:CO}{j:Δ}{v:α}(h:T' xs v):r_ xs Ì v:=by
 have hj:AXb:=QP h;have e:A8P Ì:=by
  unfold wu;rw[Ch Η,Ϡ];simp
 unfold lB;rw[e];exact h
def zz4(b:AK):Θ:=∀o i,A_T (AsD b AG o i) [o,i] o i
def IxR(X:Cx)(r:R2):Θ:=
 ∀(FF ii:AK) (Ξ:dN) (s:AF) (σ:St) (H:Hp) (x y:V) (v u:AH) (Q:VK),AW ->BB l_ RE (r x y H Q) (A_T (AsD ii AG v u) [v,u] v u) (ADV (subscriptTail FF ii v u))
def MtR(BYM):Θ:=
 ∀(Ξ:dN) (s:AF) (σ:St) (H:Hp) (x:V) (xs:AT) (v:AH) (us:At) (Q:VK),BB AW l_ fT (r x xs H Q) (A9y v)
section
variable{X:Cx}{a b:AK}{ta tb:TE}{AB:AX}
theorem ymz{r:R2}(hr:IxR X r)(ha:ų)(hb:AN8)(hs:zz4 b):A0T a b Aoy:=by
 show Do Q;exact BEY (O4 ha hb I h (Bkm (hr a b Ξ s2 σ H2 x y v u Q I2 rx ry q (hs _ _))))
def aaU(AQ'):R2:=BhB (lA K H p xs)
def aaV(AQ'):R2:=BhB (v8 K H p xs)
def aaW:R2:=AI9 (∃z i c,x= AjD/\y= FV/\AyC/\BP2/\Q (.AS (AOm c)) H)
theorem yah:IxR X (aaU AJ):=by
 show BCO;obtain⟨p,xs,i,z,Β,Β,hq,he,q⟩:=h;show LU;show No ry;show Fh AO r pl hz ADh;obtain⟨j,h1,h2,h3,h4,h5⟩:=zys he;show BI w ew sY r.get h2;show A0X;have hn:=pR;have D3:ϕ w s:=BTZ;by_cases h0:0<=i
 ·have hj:AsC=j:=by
   rw[BEb h0 h5] at h1;exact zH h1
  exact item_listR dC h0 Η (by rw[hj];simpa using ew) D3 hs
 ·have hj:I_ (i+ AVW)=j:=by
   rw[A1t h4] at h1
   show A0i;exact zH h1
  exact BHs w BnA BEc
   (wpAny_getItem_list_neg (Q:=BTM) dC Η BNK Η (by rw[hj];simpa using ew) (Hb D3)) hs
theorem ylo:IxR X (aaV AJ):=by
 show BCO;obtain⟨p,xs,i,z,Β,Β,hq,he,q⟩:=h;show LU;show No ry;show Fh AO r pl hz AzI;obtain⟨j,h1,h2,h3,h4,h5⟩:=zys he;show BI w ew sY r.get h2;show A0X;have hn:=pR;have D3:ϕ w s:=BTZ;exact BHs w pl.typeIs slot_tuple_getitem.lookup
  (getItem_tuple (j:=j) (Q:=BTM) pl Η Η (A2e h1) (CC ew) (Hb D3)) hs
theorem ync:IxR X aaW:=by
 show BCO;obtain⟨z,i,c,Β,Β,hz,he,q⟩:=h;show W_;show AKQ;obtain⟨j,h1,h2,h3,h4,h5⟩:=zys he;have hl:z.cps.toList.length=ASv:=CY AsE
 rw[hl] at h1 h4 h5;have hn:=pR;exact BEa (ASw s z t) slot_str_getitem.lookup (getItem_str (c:=c) (by
  have e1:Anw (i< -(CB (2^63))):=BHS
  have e2:Anw (i≥2^63):=BHS
  rw[e1,e2,Bool.or_false]) (by rw[h1];simpa using h2) (BP3 (AOm c))) hs
theorem z4f(AO:At)(n j:Δ)(u:AH):AGd (·.setIfInBounds j u) AOp=AMI AMR (.seq (its.set j u).vt n):=CY AGd
theorem Inv.lst{Ξ:dN}{σ:St}{H:Hp}{s:AF}{p:Ζ}{xs:AT}(I:AW)(h:A2j):
  A'0 (ANt/\BQM/\ū):=by
 show Ap7 (KS p _ h);exact⟨AO,n,r,e,z⟩
theorem Inv.lstUpd{Ξ:dN}{σ:St}{H:Hp}{s:AF}{p:Ζ}{xs ys:AT}{AO iP :At}{n n' :Δ}{f:Obj ->Obj}(I:AW)(h:A2j)
  (ho:BQM) (hf:f AOp=BPn) (r:BJ0) (hz:AXM) (t:Δ):
  AVe p ys (d_ (AGe p f) t):=by
 have e:(AGe p f).IE p=Ε BPn:=KE (AGf f ho (by rw[hf]<;>rfl)) hf
 refine AaM p p (by rw[h];trivial) WN (xp u q ((A1f).ON q)) (Fk e) ?_
 exact⟨hz,iP,n',r,e⟩
def Vo:BXd:=fun o i v H Q=>∃p xs k j,o= Wp/\i= AEJ/\A2j/\A8P k/\Q (ANA p (ArA j v))
theorem yc8:Vb X Vo:=by
 intro Ξ s σ H o i v ov iv u Q I ro ri rv h;obtain⟨p,xs,k,j,Β,Β,hp,hj,q⟩:=h;show AE ro ro ro ro ro ro ro ro ro ro ro ro ro ro;show No ri;obtain⟨AO,n,r,ho,hz⟩:=I.lst hp;show Fh h1 h2 h3 h4 (z63 hj);show A0X;have hn:=pR;have I' :AVe p (ArA j v) (Zl (AGe p (Obj.mapSeq (·.setIfInBounds j u)))):=
  I.lstUpd hp ho (z4f AO n j u) (r.set rv j) (ET BnC hz) LV
 by_cases h0:0<=k
 ·have hk:k.toNat=j:=by
   rw[BEb h0 h4] at h1;exact zH h1
  exact W.ki_setAt ho h0 Η (A2e h4) (ET hk (D4 I' q))
 ·have hk:I_ (k+ AVW)=j:=by
   rw[A1t h3] at h1
   show A0i;exact zH h1
  exact W.ki_setBack ho Η (A2e h3) Η (ET hk (D4 I' q))
theorem zxe(BeD):(ASx lo hi Ι n).1=ER (TM n 0 lo)/\ Bdh.2.1=ER (TM n n hi)/\ Bdh.2.2=1:=by
 refine XL ?_ ?_
 ·cases lo with
  | Ι=>simp [ASx,TM]
  | Ε i=>
   simp only [ASx,TM,BEe,Aec (km>0),c_]
   by_cases h:i<0
   ·show AnV c_
   ·show AnV AAw
 ·cases hi with
  | Ι=>simp [ASx,TM]
  | Ε i=>
   simp only [ASx,TM,BEe,Aec (km>0),c_]
   by_cases h:i<0
   ·show AnV c_
   ·show AnV AAw
theorem zup(AO:At)(lo hi:SK):slicePick TH lo hi Ι=((its.drop (TM AGg 0 lo)).ie (TM AGg AGg hi - TM AGg 0 lo)).vt:=by
 obtain⟨h1,h2,h3⟩:=zxe lo hi v_;unfold slicePick;rw[h1,h2,h3];simp only [sliceRange_one,pick_run,VU]<;>rfl
def aaX(AQ'):AbO:=fun x lo hi H Q=>(AhY xs Ų (∀p,N4 p ->M1 p (ANA p AmS)))
theorem yiy:SlR X (aaX AJ):=by
 intro Ξ s σ H x v vl vu lo hi sl Q I rx hs pl pu h;show GG a xs hx q h;show LU;obtain⟨AO,r,ht,hz⟩:=iO hx;have FI:=Pp;refine⟨IC,_,BEc,BnD,?_⟩;refine BnE ht.isList hs pl pu BA A7 ?_ BNK
 rw[zup,<- FI];refine BT7 (.By AmS);exact⟨BWF,_,0,AxP r.drop,SE⟩
def pB:V ->AU
 | B8=>Μ
 | jb=>Μ
 | b9=>Μ
 | gc=>Μ
 | _=>AG
def KR:V ->V ->AU
 | B8,B8=>Μ
 | .bl a,l5=>AIA
 | .bl a,AXG=>(AQl a)==b
 | AXF,l5=>a==(AQl b)
 | AXF,AXG=>AIA
 | .AS a,.AS b=>AIA
 | _,_=>AG
theorem yk9{A:BQ}{s:AF}{y x:V}{u v:AH}(ry:RE)(rx:l_)(fy:pB y=Μ)(fx:ABq pB):A1I u v (KR y x):=by
 cases y with
 | non=>
  show ARt;cases x with
  | non=>show LU;exact BnF _
  | bl b=>show LU;exact SeqAt.EqAt.none_bool b
  | AN b=>show W_;exact SeqAt.EqAt.none_int b t
  | AS b=>show W_;exact SeqAt.EqAt.none_str b t
  | _=>show AQa fx
 | bl a=>
  show ARt;cases x with
  | non=>show LU;exact SeqAt.EqAt.bool_none a
  | bl b=>show LU;exact SeqAt.EqAt.bool_bool a b
  | AN b=>show W_;exact SeqAt.EqAt.bool_int a b t
  | AS b=>show W_;exact SeqAt.EqAt.bool_str a b t
  | _=>show AQa fx
 | AN a=>
  show AKQ;cases x with
  | non=>show LU;exact SeqAt.EqAt.int_none a t'
  | bl b=>show LU;exact SeqAt.EqAt.int_bool a t' b
  | AN b=>show Apq SeqAt.EqAt.int_int
  | AS b=>show Apq Blx
  | _=>show AQa fx
 | AS a=>
  show AKQ;cases x with
  | non=>show LU;exact SeqAt.EqAt.str_none a t'
  | bl b=>show LU;exact SeqAt.EqAt.str_bool a t' b
  | AN b=>show Apq Bly
  | AS b=>show Apq SeqAt.EqAt.str_str
  | _=>show AQa fx
 | _=>show AQa fy
def Cj(x:V)(u:AH):AU:=match u with
 | BA=>KR B8 x
 | .bool b=>KR APd x
 | AaF=>KR AD_ x
 | .AS z _=>KR (.AS z) x
 | _=>AG
theorem ygj{x y:V}{u:AH}(r:RE)(f:pB y=Μ):Cj x u=KR y x:=by
 cases y with
 | non=>show APV
 | bl b=>show APV
 | AN i=>show APU
 | AS z=>show APU
 | _=>show AQa f
theorem Vp{x:V}:Bft (us.any (Cj x)=xs.any fun y=>KR y x)
 | _,_,EE,_=>Β
 | y::xs,u::us,AKC,f=>by
  rw[ASy,Y3] at f;show BM' (ygj r f.1) (Vp t f.2)
theorem Vq{A:BQ}{s:AF}{x:V}{v:AH}(rx:l_)(fx:ABq pB):Bft (∀u∈us,A1I u v (Cj x u))
 | _,_,EE,_=>fun u hu=>(Ņ hu hu hu hu hu hu hu hu hu hu hu hu hu hu)
 | y::xs,u::us,AKC,f=>fun u' hu=>by
  rw[ASy,Y3] at f;rcases Cn hu with Β | hu
  ·rw[ygj r f.1];exact yk9 r rx f.1 fx
  ·exact Vq rx fx t f.2 u' hu
def inV(x:V)(xs:AT):AU:=xs.any fun y=>KR y x
def rIn(K:AD)(neg:AU):R2:=AI9 (∃p xs,y= Wp/\ (lA K H p xs\/v8 K H p xs)/\ABq pB/\Bjs/\Q (.bl (DH neg (! inV x xs) (inV x xs))) H)
theorem zw4:AT3 In (rIn AJ AG):=by
 show AFx;obtain⟨p,xs,Β,hq,fx,fs,q⟩:=h;show ARt;rcases hq with hq | hq
 ·show BKf;show BK' SeqAt.in_listAt
 ·show BKg;refine BnG AN4 pl (fun w hw=>Vq rx fx r fs w ſ) (AI2 ?_)
  rw[AV4 (AsF (Cj x)=its.any AN4),Vp r fs]
  exact q
theorem zm6:AT3 NotIn (rIn AJ Μ):=by
 show AFx;obtain⟨p,xs,Β,hq,fx,fs,q⟩:=h;show ARt;rcases hq with hq | hq
 ·show BKf;show BK' SeqAt.notIn_listAt
 ·show BKg;refine SeqAt.notIn_tupleAt AN4 pl (fun w hw=>Vq rx fx r fs w ſ) (AI2 ?_)
  rw[AV4 (AsF (Cj x)=its.any AN4),Vp r fs]
  exact q
theorem znc:AkH iE (BfL (AYM MZ)):=by
 show AQs;show GG p ys hq q h;show Sr;show AAX;have hn:=pR;rcases hq with hq | hq
 ·show A2q;show A3a;exact Calls.call_len_list dC (by show Avj) (Aud MZ ⟨Ae7,KE VU FI⟩)
 ·show A2r;show A3a;exact len_tuple pl (by show Avj) (Aud MZ ⟨Ae7,KE VU FI⟩)
theorem zyd:AkH iE (∃z,xs= [AjD]/\AyC/\AYM ASv):=by
 show AQs;show eQ z Β hz q;obtain⟨u,Β,t,Β⟩:=ALW r;have hn:=pR;exact len_str Η (AZ1 ASv)
theorem znf:A1i (Au9 (BfL (Bb7 ys))):=by
 show AQs;show GG p ys hq q h;show Sr;show LU;have D3:∀(AO:At),IY ys AO ->AXM ->∀(h' :AL) (c' :Δ),(∀b o',Md MY o' ->Md RS o') ->
   AxE TH c' ->ϕ ADH SI:=fun AO r' hz h' c' kp e=>
  (MR zk (A0P kp Kt (AHK _ h' _ Aia ⟨hz,AO,c',r',e⟩)) (q _ ANx))
 rcases hq with hq | hq
 ·show A2q;have FI:=BEg;obtain⟨o,ho,hc,n,hd⟩:=dC;exact BnH p WN ho hc hd (fun h' c' kp e=>D3 AO r' hz h' c' kp e) Axr
 ·show A2r;have FI:=BEg;obtain⟨o,ho,hc,n,hd⟩:=pl;exact BnH p (FM Β) ho hc hd (fun h' c' kp e=>D3 AO r' hz h' c' kp e) Axr
theorem zkq:ANs YE (Au9 (∃p ys,xs= [Wp]/\ ((AIO p ys/\AZl l l l l APe)\/ (Ahj p/\M1 p H)))):=by
 show AQs;show eQ p ys Β h;show Sr;show AAX;rcases h with ⟨hq,q⟩ | ⟨hq,q⟩
 ·show A2q;show A3a;refine call_tuple_list dC (UD h' kp) Axr
  have I1:APJ:=BPB kp;have I2:xw ASz APe (Zl (h'.push AwA)):=
   Ael ALa (yo) Kt (AHK _ _ _ APe ⟨hz,AO,r',Ari _ _⟩)
  exact MR (.B4 ASz) I2 (q _ AuE)
 ·show A2r;exact call_tuple_same pl (AMr Wp q)
def tyV(K:AD)(T:KL)(x:V)(H:Hp):Θ:=match x with
 | gc=>T= AKp
 | b9=>T= AGH
 | Wp=>(T= IC /\∃xs,lA K H p xs)\/ (T= YE /\∃o,X_ p=Ε o/\BJi /\AjR)\/
   (T= vz /\ ((∃AI,Tm p P8)\/∃AI,Tm p AUw))\/ (T= MV /\∃S n,Tm p (.set S n))
 | _=>D7
theorem ymh{Ξ:dN}{σ:St}{H:Hp}{s:AF}{T:KL}{x:V}{v:AH}(I:AW)(r:l_)(ty:tyV AJ T x H):
  BO'/\∀a,zo ->∃ob,IL MY ob/\ob.dict=Ι:=by
 cases x with
 | AS z=>
  show No r;show x9 (T= AKp) ty;exact⟨ASw s z t,Lo e k7⟩
 | AN i=>
  show No r;show x9 (T= AGH) ty;exact⟨typeIs_int s i t,Lo e k7⟩
 | B4 p=>
  show AE r r r r r r r r r r r r r r;rcases ty with ⟨Β,xs,hq⟩ | ⟨Β,o,hk,hc,hd⟩ | ⟨Β,hk⟩ | ⟨Β,S,n,hk⟩
  ·obtain⟨AO,_,pl,_⟩:=ADh;refine ST BnA a e;show DM;obtain⟨o,n,e,c,hd,_⟩:=pl;exact APn hd
  ·refine ST ⟨o,VI p o hk,hc⟩ a e;show DM;exact⟨o,VI _ o hk,hd⟩
  ·have z:∃o,AT8 p/\BDK:=by
    rcases hk with ⟨AI,hk⟩ | ⟨AI,hk⟩
    ·obtain⟨_,_,_,_,o,_,_,e,ex,_⟩:=A4t;exact⟨o,e,ex⟩
    ·obtain⟨_,_,_,_,o,_,_,e,ex,_⟩:=A4t;exact⟨o,e,ex⟩
   show br e ex z;refine ST (APn ex.1) a e2;show u7;exact⟨o,e,ex.2.1⟩
  ·obtain⟨o,_,_,_,e,ex,_⟩:=A4t;refine ST (APn ex.1) a e2;show u7;exact⟨o,e,ex.2.1⟩
 | _=>show SA ty
def tBM(K:AD)(T:KL)(r:Aho)(to:TE)(t:TA):TE:=O0 to x (tyV K T x H1/\zI t xs (r x xs H2 Q))
variable{o e:AK}{es:DD}{to:TE}{t:TA}{EO:Κ}{LX HR:AX}{T id:KL}{r:Aho}
theorem ylv(pa:PlainAttrs T)(NI:Ic T EO id)(hty:BVx)(hm:MtR X id r)(ho:PE X o to)(ha:AlB)
  (OQ:Ah6 o EO o o:=by rfl)
  (wE:UB (AlY KW (! x.1)&&Aoi) (Ap5 (Tx KW) 30):=by rfl)
  (Rc:z_:=by rfl) (hs:oz KW e es:=by rfl) (ALi:Auz:=by rfl):
  PE X (xx (xN o EO) KW) (tBM AJ T r to t):=by
 show Do Q;refine wpAny_Call_method_late OQ wE Rc Β (bV Ajf (ACt aaY));obtain⟨x,H1,I1,r1,ty,q1⟩:=aaY;show EU h1 h2 ymh I1 r1 ty;refine⟨T,id,pa,NI,hty,h1,h2,?_⟩;have hA:=ha HR Ξ s1 σ H1 _ I1 q1;rw[hs] at hA⊢;refine Bis (by show(false || (backTo cpos (starEach es X.env)).any (·.1))=false;rw[hplain]<;>rfl) AdW
 exact bV hA fun us s2 aaZ=>by obtain⟨vs,H2,I2,r2,q2⟩:=aaZ;exact hm Ξ s2 σ H2 x vs v us Q I2 r1 r2 q2
#where
def MtM(BYM):Θ:=
 ∀(Ξ:dN) (s:AF) (σ:St) (H:Hp) (x:V) (xs:AT) (v:AH) (us:At) (Q:VK),BB AW l_ fT (r x xs H Q) (A9y v)
theorem Vals.one:Os x V us At (AH9 [x]) BZs
 | _,_,.AY r EE=>SH r
theorem Vals.reverse{xs:AT}{us:At}(h:fT):IY AS0 us.reverse:=by
 induction h with
 | DL=>exact EE
 | AY r t ih=>rw[AsH,AsH];exact BDH ih (.AY r EE)
section
variable{X:Cx}{Ξ:dN}{σ:St}{H:Hp}{s:AF}{l b:Ζ}{xs ys zs:AT}
theorem Inv.lset{AO iP :At}{n:Δ}{f:Ki ->Ki}{t' :Δ}(I:AW)(hH:A4m)
  (e:AgL AOp) (hf:f TH=BnB) (hv:BJ0) (hz:AXM):
  AVe l ys (d_ (AGe l (AGd f)) t'):=by
 have q:=PySem.IsL.update e f;rw[hf] at q;refine AaM l l (ET hH VV) WN (fun b' u hb hu=>(BEd A8 (AGd f) AuF).ON hu) (Fk q) ?_
 exact⟨hz,iP,_,hv,q⟩
theorem Inv.lnew{AO:At}{t' :Δ}(I:AW)(hv:IY ys AO)(hz:AXM):
  ϱ Aia (d_ (AUA (AT_ TH)) t'):=
 vy (Jn q AUB) Kt ⟨hz,AO,0,hv,SE⟩
theorem Inv.fresh(UX):N4 CL:=ArU (zO _)
theorem Inv.lstM(I:AW)(hH:A4m):AhK (A'0 (ANt/\ŷ AGg/\AgL AOp)):=by
 show Ap7 (KS l _ hH);exact⟨z,AO,n,r,Pp,e⟩
theorem yda{n:Δ}(h:Aim):BEh n=AG:=om vc Η
#where
section
variable{X:Cx}
def yjo:Aho:=fun x vs H Q=>∃l xs y,x= SZ/\vs= [y]/\A4m/\A0U/\Q B8 (ANA l (xs++ [y]))
theorem zwq:MtM X BEi yjo:=by
 intro Ξ s σ H x vs v us Q I rx rv h;obtain⟨l,xs,y,Β,Β,hH,hz,q⟩:=h;show LU;show bv u ru rv.one;obtain⟨z,AO,n,r,hl,e⟩:=I.lstM hH;refine AS1 F.slot_list_append (ML e) F.entry_list_append (F.args_list_append_2 _ _) (PySem.list_append l TH n u AYo) (C3 e)
 refine MR B8 (I.lset (iP :=AO++ [u]) hH e A7 (BEj (.AY ru EE)) ?_) q
 show BM2;show AA
#where
section
variable{κ:CH}[ť]
def nF(AI:r9)(k:κ):UQ:=B7 kvs.find? (fun kv=>(Φ (kv.1=k))) (·.2)
def Ę(Be8):r9:=
 GT AmO (kvs.map (B6 kv (Ah7 v))) (AI++ [(k,v)])
theorem zti{p:κ×V}{r:r9}{k:κ}(e:DA=k):nF (p::r) k=Ε p.2:=AgP nF e
theorem zuc{p:κ×V}{r:r9}{k:κ}(e:¬DA=k):nF (p::r) k=nF r k:=AgP nF e
theorem z0q(k:κ):∀AI:r9,AmO=(nF AI k).Ć
 | []=>Β
 | p::r=>by
  rw[ALh];show Aar
  ·simp only [zti e,TN e,Bool.true_or,BnJ]
  ·rw[zuc e,BHZ,BnK];exact z0q k r
theorem zou(Be8):A'm<=Ą+1:=by
 unfold Ę;split
 ·show Nw;show AA
 ·rw[P1,GM,BnL];show AA
theorem nC.lC{o:UQ}{u:dq}(r:nC o u):AdY=u.isSome:=by
 cases o with
 | Ι=>cases u with
  | Ι=>rfl
  | Ε _=>exact AQg
 | Ε _=>cases u with
  | Ι=>exact AQg
  | Ε _=>rfl
theorem nC.getD{o:UQ}{u:dq}{d:V}{d' :AH}(r:nC o u)(rd:KO d d'):KO (o.getD d) (u.getD d'):=by
 cases o with
 | Ι=>cases u with
  | Ι=>exact rd
  | Ε _=>exact AQg
 | Ε _=>cases u with
  | Ι=>exact AQg
  | Ε _=>exact r
theorem KV.val(BgT):nC (nF AI k) (AS2 vs k):=by
 induction r with
 | DL=>exact ALZ
 | @AY p q ps qs h t ih=>
  show AKN h;show Aar
  ·have e' :q.1=k:=BHa;have b:AS2 Anb k=Ε q.2:=BKp
   rw[zti e,b];exact h2
  ·have e' :¬q.1=k:=BQ3;have b:AS2 Anb k=AS2 qs k:=BKp
   rw[zuc e,b];exact ih
theorem KV.any(BgT):AmO=vs.any fun kv=>(Φ (kv.1=k)):=by
 induction r with
 | DL=>rfl
 | AY h t ih=>show BM' ih ED
theorem KV.repl(Bcg):
  KV BP' (Ar4 fun kv=>(Ah7 u)):=by
 induction r with
 | DL=>exact EE
 | @AY p q ps qs h t ih=>
  show BQN (.AY ?_ ih);show AKN h;show Aar
  ·rw[Ch e,BPS];exact AM6 ry
  ·rw[APG,CM (Ev (e (BEk z)))];exact AZC
theorem KV.put(Bcg):KV (Ę AI k y) (stored vs k u):=by
 unfold Ę stored;rw[r.any k];by_cases e:(vs.any fun kv=>(Φ (kv.1=k)))=Μ
 ·rw[Ch e,Ch e];exact r.repl k ry
 ·rw[APG,APG];exact Paired.snoc r (Hb ry)
theorem KV.length{AI:r9}{vs:AVk}(r:AUy):AHG Ą:=BHo
#where
theorem Sh{P:A0}{w:Ap}{k:Key}{u:AH}(r:KO (kV k) u):(pQ P w).is k u=Μ:=by
 cases k with
 | D6 i=>show UC t (GS (Ř AaC) r);subst e;exact zzm P w i t
 | BO x=>show UC t (GS (Ř Ami) r);subst e;exact zqs P w x t
theorem zxh{P:A0}{w:Ap}:Os ks GH us At (IY (ALj kV) us) (ItemsAre Ŭ ks us)
 | [],_,r=>by rw[AsJ] at r;show AE r r r r r r r r r r r r r r;exact EE
 | AJ3,_,r=>by
  rw[FA] at r;cases r with
  | AY h t=>exact a_ (Sh h) (zxh t)
abbrev KT(H:Hp):DZ ύ AOv:=ASB fun p q=>Bat
theorem KT.val{H:Hp}{AI:ύ}{xs:AOv}(r:ARU)(k:GH):nC (nF AI k) ((atKey xs k).map (·.2)):=by
 induction r with
 | DL=>exact ALZ
 | @AY p q ps qs h t ih=>
  obtain⟨h1,_,h2⟩:=h;show Aar
  ·have e' :q.1=k:=BHa;have b:AS3 Anb k=Ε q.2:=BKq
   rw[zti e,b];exact h2
  ·have e' :¬q.1=k:=BQ3;have b:AS3 Anb k=AS3 qs k:=BKq
   rw[zuc e,b];exact ih
theorem KT.repl(Bfe)(r:ARU)(k:GH){y:V}{u:AH}(ry:RE):
  KT H BP' (YU (putAt k u)):=by
 induction r with
 | DL=>exact EE
 | @AY p q ps qs h t ih=>
  show BQN (.AY ?_ ih);show EM h1 h2 h3 h;unfold putAt;show Aar
  ·rw[Ch e,BPS];exact⟨h1,h2,ry⟩
  ·show gu e (Ev (e (BEk z)));exact⟨h1,h2,h3⟩
theorem KT.put(Bfe)(r:ARU)(k:GH){b:Ζ}{y:V}{u:AH}(hb:Azf)(ry:RE):
  KT H (Ę AI k y) (storedH xs k b u):=by
 have e:AmO=BSA:=by
  rw[z0q,(r.val k).lC,AsK]
 unfold Ę storedH;rw[e];by_cases q:BSA=Μ
 ·rw[Kk,Kk];exact r.repl k ry
 ·rw[OA,OA];exact Paired.snoc r ⟨Β,hb,ry⟩
theorem KT.keeps{H H' :Hp}{AI:ύ}{xs:AOv}(r:ARU)(ht:∀b ys,p_ APe ->AU7 APe):KT H' AI xs:=
 ArF r (Jn z BVR)
section
variable{P:A0}{w:Ap}{H:Hp}{h:AL}{a:Ζ}
theorem ymg{u:HO}(ok:cS)(e:Rd H a u):AAP u:=e.ok ok
theorem J6{AI:sK}(ok:cS)(e:Akl):A'X:=
 show AAP P8 from ymg ok e
theorem Vr{AI:sK}(ok:cS)(e:AJb):A'X:=J6 ok (HV e)
theorem Sv{ks:GH}(ok:cS)(e:Nd BJB):(ASE Ŭ).is h ks a:=by
 obtain⟨_,AO,r,o,h1,h2,n,h3⟩:=(GS (AAP BJB) (ok a _ e));exact⟨o,TH,n,h1,h2,h3,Cc (zxh r)⟩
theorem O8{AI:ύ}(ok:cS)(e:A0d):Agb (∃xs,ARU/\h.DictOfH (ASE Ŭ) a xs):=by
 obtain⟨z,y,xs,r,o,es,ep,h1,h2,h3,h4,h5⟩:=(GS (AAP AUw) (ymg ok e));refine⟨z,y,xs,r,o,es,ep,h1,h2,h3,h4,A4c,h5⟩;have all:Os l ύ m AOv (KT H l m) (∀x∈m,(ASE Ŭ).is h x.1 x.2.1):=by
  intro l m q;induction q with
  | DL=>intro x hx;exact nomatch hx
  | @AY p q ps qs hq t ih=>
   intro x hx;rcases Cn hx with e | hx
   ·show tT (Sv ok (UK hq.1 hq.2.1))
   ·exact ih x hx
 exact all r x hx
theorem yn6{AI:ύ}(ok:cS)(e:Ayw):Agb (∃xs,ARU/\h.DictOfH (ASE Ŭ) a xs):=O8 ok (HV e)
#where
def qw(H:Hp)(a:Ζ)(y:V)(r:UQ):Θ:=
 (∃AI k,Akl/\y=kV k/\r=nF AI k)\/∃AI k b,A0d/\y= AIt/\Azf/\r=nF AI k
def zj(H:Hp)(a:Ζ)(y v:V)(H' :Hp):Θ:=
 (∃AI k,AJb/\y=kV k/\A0V/\H' =upd H a (.dK A_'))\/
 ∃AI k b,Ayw/\y= AIt/\Azf/\A0V/\H' =upd H a (.dT A_')
theorem qw.k{H:Hp}{a:Ζ}{AI:sK}{k:Key}(e:AJb):qw H a (kV k) (nF AI k):= .D6 ⟨AI,k,.D6 e,Β,Β⟩
theorem zj.k{H:Hp}{a:Ζ}{AI:sK}{k:Key}{v:V}(e:AJb)(hl:A0V):zj H a (kV k) v (ZZ a (.dK A_')):= .D6 ⟨AI,k,e,Β,hl,Β⟩
section
variable{X:Cx}{Ξ:dN}{σ:St}{H:Hp}{s:AF}{a:Ζ}{y v:V}{u r:AH}{o:UQ}{A:BQ}{E:dM}
theorem Inv.big(UX):PU BDJ:=by
 have h:PU my:=(BmT I.bk).lt;exact AdZ Ψ h
theorem ya5{Q:dM}(hu:AYP)(I:AW)(g:qw H a y re)(ry:RE)(h:BSa (KO v w')):
  Ŗ (ASu EC u):=by
 rcases g with ⟨AI,k,e,ey,l⟩ | ⟨AI,k,b,e,ey,eb,l⟩
 ·subst ey;show AaL;show BI w' hw sY (Apw (AS2 vs k)) BWL
  exact wpAny_getItem_of AnW AsM hw (h w' _ AH6 sY)
 ·subst ey;show Aa3;show Amv;show BI w' hw sY (Apw ((AS3 xs k).map (·.2))) BWL
  show BI p hp hp2 zG.mp hw;refine wpAny_getItem_heap AkQ ApL dd hp ?_;rw[hp2];exact h w' _ AH6 sY
theorem aa0{Q:dM}(hu:AYP)(I:AW)(g:AOk H)(ry:RE)(h:∀s',AVY ->Q (qk AdY) s'):
  BWp .In:=by
 rcases g with ⟨AI,k,e,ey,l⟩ | ⟨AI,k,b,e,ey,eb,l⟩
 ·subst ey;show AaL;refine wpAny_in_of AnW hd AsM ?_;rw[<- AmI,<- l];exact AkS
 ·subst ey;show Aa3;show Amv;refine wpAny_in_heap AkQ ApL hd dd ?_;have q:=AmI;rw[AsK] at q;rw[<- q,<- l];exact AkS
theorem yjz{Q:dM}(hu:AYP)(I:AW)(g:AOk H)(ry:RE)(h:∀s',AVY ->Q (qk (! AdY)) s'):
  BWp AJB:=by
 rcases g with ⟨AI,k,e,ey,l⟩ | ⟨AI,k,b,e,ey,eb,l⟩
 ·subst ey;show AaL;refine wpAny_notIn_of AnW hd AsM ?_;rw[<- AmI,<- l];exact AkS
 ·subst ey;show Aa3;show Amv;refine wpAny_notIn_heap AkQ ApL hd dd ?_;have q:=AmI;rw[AsK] at q;rw[<- q,<- l];exact AkS
theorem z6g{h' :AL}{t' :Δ}{ob:HO}(I:AW)(mu:UW (H a))(hs:AoJ h')(he:BVA)(new:AHE (ZZ a ob) h' a ob):
  xw a ob ANv:=
 AaM a a mu WN (xp q z (HZ hs.2 b hb z)) he new
theorem ylb{P:A0}{w:Ap}{H' :Hp}{h' :AL}{AI:sK}{vs:A0v}(z:AUi)(hd:AfO)(rel:AUy)(dd:h'.DictOf Ŭ a vs):
  bh P w H' h' a P8:=⟨z,hd,vs,rel,dd⟩
theorem z77{H' :Hp}{Q:á}(hu:AYP)(I:AW)(g:zj H a y v H')(ry:RE)(rv:KO v r)(h:Al3 AJw):
  Ŗ (setItem EC u r):=by
 rcases g with ⟨AI,k,e,ey,l,eH⟩ | ⟨AI,k,b,e,ey,eb,l,eH⟩
 ·subst ey eH;obtain⟨z,hd,vs,rel,dd⟩:=x4 Vr;have hz:AOL:=Qb BEl z
  have hl:D' A'm:=BbI
  refine wpAny_setItem_pairs (hsz:=hz) (Sh ry) dd BTp;have he:BVA:=let ⟨q,_,_,hq,_⟩:=M7;⟨q,hq⟩;exact z6g I Al6 hs he (ylb hl hd (rel.put k rv) M7)
 ·subst ey eH;show Aa3;obtain⟨z,hd,xs,rel,dd⟩:=x4 yn6;have hz:ū:=Qb (Bl1 rel) z
  have hl:D' A'm:=BbI
  refine wpAny_setItem_heap (hsz:=hz) AkQ ApL dd BTp;obtain⟨q,es,ep,hq,h2,h3,h4,_,h5⟩:=M7;refine z6g I Al6 hs ⟨q,hq⟩ ⟨hl,hd,_,(rel.put k eb rv).keeps (AV c ys ec),q,es,ep,hq,h2,h3,h4,h5⟩
  rw[bU (yoe ec e (Ev (nomatch z)))];exact ec
#where
section
variable{X:Cx}{Ξ:dN}{σ:St}{H:Hp}{s:AF}{a:Ζ}{AI:sK}{k:Key}{u:AH}{A:BQ}{E:dM}
theorem yn1{Q:dM}(I:AW)(e:Akl)(h:∀t s',AVY ->Q (.AN Ą t) s'):Ŗ (ANX iE N9):=by
 show AaL;refine call_len_dict hd dd (by rw[<- BEl];rw[ALV] at z;show AA) ?_
 rw[<- BEl];exact h _ _ AH6
#where
def KY(i:AK):Θ:=∀ov iv,A_T (AsD i AG ov iv) [ov,iv] ov iv
theorem yh1{CI:A0}{w:Ap}{A:BQ}{E:dM}{s:AF}{BV:Env}{FF ii:AK}{AB:AX}{T id:KL}{Q:dM}
  (hl:BY1) (hs:KY ii)
  (h:AoW FF o (AP1 (ACv ii) (Ty LJ (s₂.TypeIs o T/\qE (ASu o i) Q LJ)))):
  KA (ACv (AXc FF ii)):=by
 refine BEY (Po h (fun o EZ Y_=>Po Y_ (AV i LJ dE) mo) mo);obtain⟨hT,dE⟩:=dE;refine Se;rw[getitemInPython_of_ne hT.not_modules];refine i7 BnO hT hl;have D3:qE (AsD ii AG o i) (xt ę (qE (letTemporaryGo FF o r>>=Ff (Go r)) Q ę)) LJ:=r6 (hs o i) wpAny_operating (Ż dE (fun r ę h₃=>z6 (wpAny_letTemporaryGo (z7 h₃))) mo)
 first
  | exact z7 (z6 D3)
  | exact z6 (z7 (z6 D3))
  | exact z6 D3
theorem zzi(Bc3){s:AF}{a:Ζ}{y:V}{o:UQ}(I:AW)(g:AOk H):BSu :=by
 rcases g with ⟨AI,k,e,_,_⟩ | ⟨AI,k,b,e,_,_,_⟩
 ·obtain⟨_,_,vs,_,dd⟩:=x4 J6;exact AS4
 ·obtain⟨_,_,xs,_,dd⟩:=x4 O8;exact AS4
def Vt(td ty:TE):TE:=O0 td x (zI ty y (AhY v (qw H2 a y re) (Q v H2)))
def aa1(ty td:TE):TE:=BeA AdY
def yiv(ty td:TE):TE:=BeA (! AdY)
def Vu(td ty tv:TE):TS:=AVw tv v (zI td x (ty σ H2 fun y H3=>(AhY H4 (zj H3 a y v H4) (AHY H4))))
section
variable{X:Cx}{o i e FF:AK}{AB HP tpos:AX}{td ty tv:TE}
theorem z48(hu:ft)(ho:Ahf)(hi:Awk)(hs:KY i):A0T o i (Vt td ty):=by
 show Do Q;refine yh1 PySem.F.slot_dict_getitem.lookup hs (bV Ajf (ae u));show Ajn x rx;refine ACT (AM3 hi) iv hz2;show Bgu H2 I2 v q2 hz2 ⟨zzi I2 g,ya5 hu I2 g ry fun w' s3 I3 sY =>⟨v,H2,I3,sY,q2⟩⟩
theorem yl4(BfZ):PC X .In i o (aa1 ty td):=by
 show Do Q;refine bV (pS hi) (ae iv);show Ajn y ry;refine A8Q;obtain⟨x,H2,I2,rx,a,ov,ex,g,q2⟩:=hz2;subst ex;show AH';exact aa0 hu I2 g ry (AnO (BYG ov.isSome))
theorem zv2(BfZ):PC X AJB i o (yiv ty td):=by
 show Do Q;refine bV (pS hi) (ae iv);show Ajn y ry;refine A8Q;obtain⟨x,H2,I2,rx,a,ov,ex,g,q2⟩:=hz2;subst ex;show AH';exact yjz hu I2 g ry (AnO (BYG (! ov.isSome)))
theorem zvg(hu:ft)(ho:Ahf)(hi:Awk)(hv:Awv)(hs:AZM o i):
  AOZ (ANa o i) FF (Vu td ty tv):=by
 show Do D;refine wpAny_Assign_Subscript (bV Aje (ae r)) hs;show Ajn v rv;refine A8Q;obtain⟨x,H2,I2,rx,q2⟩:=hz2;refine BLZ hi iv hz3;show Bgu H3 I3 H4 q3 hz3 (z77 hu I3 g ry rv fun s4 I4=>⟨σ,H4,I4,q3⟩)
#where
theorem yc5{P:A0}{w:Ap}{H:Hp}(h:AL)(hb:BDJ<MW):bh P w H (AS5 kP) MW Ayl:=
 ⟨K2,AM7 AK2 (zL hb),[],EE,Heap.DictOf.new h⟩
def O9:TE:=Ano (AZl p p p p Ayl)
section
variable{X:Cx}{AB:AX}
theorem yey:ACY Dict [] [] O9:=BfC (wpAny_Dict_empty (MR zk (vy (a:=CL) (o:= .dK []) (t' :=LV) (Jn q AUB) Kt (yc5 A8 I.big)) (h _ ANx)))
#where
structure M2 (X:Cx) (o:AK) (m:Κ) (LX:AX) (e f:AK) (HR:AX):Θ where
 DS:Ah6 o m o o
 few:UB (AlY [e,f] (! x.1)&&Aoi) (Ap5 ([e,f]:DD).VM 30)
 line:z_
 trees:backTo HR (ASY [e,f] B9)= [(AG,V_ e),(AG,V_ f)]
def IsD(H:Hp)(a:Ζ):Θ:=(∃AI,Akl)\/∃AI,A0d
theorem z2k(BhV a Ζ)(I:AW)(d:IsD H a):
  BSu /\ (Mn (U' a= AIt) (∃ob,Aus/\ob.dict=Ι))/\ AfO:=by
 rcases d with ⟨AI,e⟩ | ⟨AI,e⟩
 ·obtain⟨_,hd,vs,_,dd⟩:=x4 J6;refine⟨AS4,Ajm,hd⟩;show SY;obtain⟨ob,_,_,h1,h2,_⟩:=dd;exact BRj
 ·obtain⟨_,hd,xs,_,dd⟩:=x4 O8;refine⟨AS4,Ajm,hd⟩;show SY;obtain⟨ob,_,_,h1,h2,_⟩:=dd;exact BRj
section
variable{X:Cx}{Ξ:dN}{σ:St}{H:Hp}{s:AF}{a:Ζ}{y d:V}{u r:AH}{o:UQ}{A:BQ}{E:dM}
theorem ym3{Q:dM}(hu:AYP)(I:AW)(g:AOk H)(ry:RE)(rd:KO d r)(h:BSa (KO (o.getD d) w')):
  Ŗ (ANX "dict.get" [B',u,r]):=by
 rcases g with ⟨AI,k,e,ey,l⟩ | ⟨AI,k,b,e,ey,eb,l⟩
 ·subst ey;show AaL;refine Ada BEn AS4 BnP BKS (meets_dict_get_default AM_ a AnW hd r) (D4 AsM (h _ _ AH6 ?_));rw[l];exact(AsL k).dL rd
 ·subst ey;show Aa3;show Amv;refine Ada BEn AS4 BnP BKS (meetsH_dict_get_default (ASE (pQ Fr X.w)) a b hd r) ⟨BnN hu,k,xs,Sv KS eb,dd,h _ _ AH6 ?_⟩;rw[l];exact(AsL k).dL rd
#where
def Pa(td ty tx:TE):TE:=O0 td x (∃a,x= B'/\IsD H1 a/\zI ty y (tx σ H2 fun z H3=>∃o,AOk H3/\Q (o.getD z) H3))
section
variable{X:Cx}{o e f:AK}{LX HR:AX}{td ty tx:TE}
theorem ye7(hu:ft)(ho:Ahf)(he:PE X e ty)(hf:PE X f tx)(m:Bg2):PE X (xx (xN o "get") [e,f]) (Pa td ty tx):=by
 show Do Q;refine wpAny_Call_method m.base m.few m.line BEo BEn PySem.F.type_dict_get (bV Ajf (ACi aa2));obtain⟨x,H1,I1,rx,a,ex,d,q1⟩:=aa2;subst ex;show AH';obtain⟨t1,t2,_⟩:=z2k I1 d;refine C9 t1 t2;rw[m.trees];refine BnI Β (AdW (Ar1 (bV (AM3 he) fun iv s2 (ApB ry)=>
  Ar1 (bV (hf Ξ s2 σ H2 _ I2 q2) fun fv s3 ⟨z,H3,I3,rz,ov,g,q3⟩=>AjG))))
 exact ym3 hu I3 g ry rz fun w' s4 I4 sY =>⟨_,H3,I4,sY,q3⟩
#where
#print _2
namespace Att
open IR AKn Aqp KK
theorem zqo{P:Params}{h:AL}:∀(ns:Bz) (vs:At),WellAll P h vs (wP WData.int) ->AZ2:=by
 intro ns;induction ns with
 | DL=>
  intro vs w;rw[AsJ] at w;show AE w w w w w w w w w w w w w w;exact EE
 | AY n ns ih=>
  intro vs w;rw[FA] at w;cases w with
  | AY a b=>
   show AE a a a a a a a a a a a a a a;exact Ay' (ih _ b)
theorem yao{l:Adb}{n:Δ}(hn:A6a){P:Params}{h:AL}{E9:EV WData}{IF:At}
  (hpre:l.row.toRowW.claim.pre E9=Μ) (hwl:WellAll P h IF E9):
  ∃a vs ns,IF= [AMy]/\E9= [WData.list (wP WData.int)]/\eR AhL/\AZ2/\AjY:=by
 have hsh:WShape.hasAll [] E9 [.list ay]=Μ:=(pre_splitW hpre).1;have hc:l.pre.holds [] {E9:=E9}=Μ:=(pre_splitW hpre).2;show GG d r h1 h2 (hasAllW_cons hsh);show SG (hasAllW_nil h2);show BI xs Β h3 hasW_list h1;show w8 ns (items_int h3);have FI:AjY:=by
  have h4:(WTm.not (.lt (.lit (II L5)) (.len (.arg 0)))).holds [] {E9:= [.list AHi]}=Μ:=by
   have h4:=(holds_andW hc).1;rw[hn] at h4;exact h4
  have h5:=condW_of h4 (w_not (w_lt w_lit (w_len_list (w_arg Β))));show AuD h5;refine Nat.le_of_not_lt fun q=> ?_;have q' :L5< ER HQ:=Υ
  first
   | (show Q2 (TN q') h5 (Ajl h5))
   | (simp at h5;show AA)
 cases hwl with
 | AY w1 w2=>
  show AE w2 w2 w2 w2 w2 w2 w2 w2 w2 w2 w2 w2 w2 w2;cases w1 with
  | list ho hall=>exact⟨_,_,ns,Β,Β,ho,zqo ns _ hall,FI⟩
theorem z57(l:Adb)(E9:EV WData):l.row.toRowW.claim.post E9 AVg E9=Μ:=
 postW_of (r:=AsO) (X:=BNi)
  (show WShape.has [] AVg .bool=Μ by first | rfl | decide | simp [WShape.has,WShape.arms,WShape.armsAll])
  (GS ((WTm.eq .res (.lit AVg)).FF [] {E9:=E9,res:=Ε AVg,after:=E9}=Ε (qk BNi)) (w_eq_bool (w_res Β) w_lit)) Β
theorem zp{l:Adb}{n:Δ}{q:A0}{YA:Ρ}{XP:BRo}{YP:BLJ}{d:Aqt}
  (hn:A6a) (hdf:BIj)
  (ib:∀(w:Ap) (LH EZ:AF) (mg mb:EX) (fa:Ζ) (o:Obj) (pm cd doc:AH) (a:Ζ) (vs:At) (ns:Bz),
   tS (Ground q YA [] XP w LH mg mb AAx) (YP w AAx) (AS6 fa=Ε o) (nK= .func (docDef d.name d.params d.body d.scope pm cd doc)) (s₁.heap.CodeRec cd d.name) BLY (BB BNh AZ2 AjY BJR (AI0 (ASX AS7 w) Adc (Bn fa) Ag7 Bkh EZ))):
  BU2:=by
 intro w LH EZ mg mb G Y fa o pm cd doc dV kV ho hd hcd hD hmg hg E9 IF as hpre hlay hrd hwl hlo;show HA (dV= BA) (Dflts.none hD hdf);show HA (kV= BA) (Dflts.noKw hD);obtain⟨a,vs,ns,Β,Β,hobj,hints,FI⟩:=yao hn hpre hwl;refine AuU enter_call (ib w LH EZ mg mb fa o pm cd doc a vs ns G Y ho (fd_plain hd) hcd hmg hobj hints FI hg) AZV;obtain⟨Β,h2,h3,h4⟩:=hq;exact⟨.D6 ⟨AWB,AWB,[],Β,AVz,AWB,z57 l _,Ff ⟨AS8,Lo hm (nomatch hm)⟩⟩,h2,h3,h4⟩
section
variable{CI:A0}{w:Ap}{A:BQ}{E:dM}{s:AF}{K:IU}
#where
#print Att
namespace _2
open IR OI KK
theorem Vv:Os vs At ns Bz AZ2 (IY (wP V.int) vs)
 | _,_,EE=> EE
 | _,_,.AY n t h=> a_ AQZ (Vv h)
def Only(H:Hp):Θ:=∀b,NB\/∃o xs,p_ (.frz o rX)
theorem ycw{P:A0}{w:Ap}{K:AD}{mg mb:EX}{CX:J5}{k:Δ}{fa a:Ζ}{fd:Fc}{x:Κ}{sp:Sp}{EZ:AF}{vs:At}{ns:Bz}
  (KX:Bja) (hns:Afe BEp) (hb:BEp ArI mb) (hbb:BbK) (hlim:s₁.heap.NoLimit) (hg:BJR)
  (ha:BNh) (hi:AZ2) (hl:BlS) (hr:BHr)
  (F:BZu (To fV CX k fa fd [x] sp)) (hbind:BUF)
  (hsp:∀H:Hp,Only H ->An7 ->sp N9 H A7J Ò)
  (hCX:∀H e s',CX [] H EZ (Ò) e s' ->D7):
  Bez:=by
 have rv:=Vv hi;have lenV:=hi.length
 
 have core:∀H:Hp,Only H ->Hk An7 (nD P w H AAx) (Mn (H b≠Ι) (b=a)) (H a≠Ι ->Nc X_) Bez:=by
  intro H hO hS DV hA hK;have DK:jp b Ζ o Obj BG_ NB (KU (yg AAx H).IE):=fun e n=>ybo e n;have Vl:∀{b:Ζ} {o:Obj} {es:AXm} {ep:Δ},BG_ ->nK= Agn ->NB:=fun{b o es ep} e d=>by
   cases q:H b with
   | Ι=>rfl
   | Ε u=>
    have e' :b=a:=BNZ
    subst e';rw[ha] at e;show DM;have d' :Data.seq oC _=Data.dict es ep:=d;show AE d' d' d' d' d' d' d' d' d' d' d' d' d' d'
  show E2 nsK (Os b Ζ m EX (BEp b m) ((yg AAx H).Ns b m)) (fun{b m} Vw=>by obtain⟨o,es,ep,e,d,r⟩:=Vw;exact⟨o,es,ep,DK e (Vl e d),d,r⟩) hKb (Ĉ (yg AAx H)) (Of (DK (rL KX) (by
   cases q:H b with
   | Ι=>rfl
   | Ε u=>
    have e' :b=a:=BNZ
    subst e';rw[hK (AOQ q)] at e;show DM))) hM (Mod K mg BO3) ⟨hKb,nsK hns,⟨mb,nsK hb,hbb⟩,let ⟨mc,h1,h2⟩:=hlim;⟨mc,nsK h1,h2⟩⟩ e0 (yh P w K mg BO3 Adc [] EZ H) ⟨Β,hM,Of (ykp e),ALb (z5y _ _),VV,FL (A7u hb),DV,.of_eq hg⟩
  refine ALk ((F _ hKb (nsK hns)).run Adc [] EZ H Ag7 N9 N9 _ _ hr e0 (hbind EZ EC) A2o (hsp H hO hS)) (AUv h);cases r with
  | oB e=>exact(hCX H e s' h).YV
  | ok fl=>
   cases fl with
   | L_=>show ī
   | brk=>show ī
   | RU=>show ī
   | ret u=>
    obtain⟨v,H',os,Gc,un,hok',r',q⟩:=h;have q' :v= ANl:=q;subst q';show HA (u=Aq_ Μ) r';refine⟨Β,OldK.of_keep AZR,os,Gc⟩;cases q:H b with
    | Ι=>exact un.keep b o e q (by intro z;exact A7u z) A7
    | Ε u=>
     rcases hO b with z | ⟨ob,xs,z⟩
     ·rw[q] at z;show Lw
     ·have z2:=un.lu b ob _ z;obtain⟨e1,_⟩:=DV b _ z;obtain⟨e2,_⟩:=hok' b _ z2;rw[e] at e1;show AE e1 e1 e1 e1 e1 e1 e1 e1 e1 e1 e1 e1 e1 e1;exact e2
 cases hk:X_ a with
 | Ε o=>
  
  have e:=KX a o hk;rw[ha] at e;show DM;refine core (Da Ι) (Da AJW) (FM ⟨_,oC,_,hk,Β,Β,Β,Â VU lenV hl,Cc rv⟩) (fun b u z=>(Bht (av (Ι:MD HO)))) (fun b z=>A7I) (AZ A7I)
 | Ι=>
  refine core (AfJ (Ε (.frz AhL (FG Au3))) Ι) (pr ?_) (HV (FM ⟨AhL,EF⟩)) (Na u z) (fun b z=> ?_) (Ff hk)
  ·by_cases hb:b=a
   ·show He (D4 _ Ain)
   ·show FR (Pi hb)
  ·by_cases hb:b=a
   ·have z' :=(AAj hb).BEr z;show AE z' z' z' z' z' z' z' z' z' z' z' z' z' z';subst hb;exact⟨ha,BHB hl,vs,_,rv,ha⟩
   ·have z' :=(Pi hb).BEr z;show AE z' z' z' z' z' z' z' z' z' z' z' z' z' z'
  ·by_cases hb:b=a
   ·exact hb
   ·exact lf Pi hb z
abbrev E0:XK:=Ò
structure dO (BY9) (st:AR) (f:Ζ) (fd:Fc):Θ where
 ex:∃(oc:AH) (od:ND) (kV doc pm:AH) (an:ND) (cdv ct:AH) (osl:ADq),
  fd=Ar8 x FE AIf sL Ĳ BA kV doc pm an cdv ct/\AoY (.func fd) osl/\A9r
 kp:AWi
section
variable{P:A0}{w:Ap}{K:AD}{mg:EX}{DS:AL}
theorem dO.binds(AFq){st:AR}{f:Ζ}{fd:Fc}{ps:Ρ}(F:AFi)
  (h:BhK us At (nI=OP ->BTj (Ar8 x FE AIf sL Ĳ BA kV doc pm an cdv ct))):AIU:=by
 show BI7;exact .all (h kV doc pm an cdv ct)
#where
def MC(H H' :Hp):Θ:=AVG H H'
theorem Same.refl(H:Hp):Û H:=A0y
theorem Same.trans{H H1 H2:Hp}(a:A3d)(b:MC H1 H2):MC H H2:=fun c o h=>b c o (a c o h)
theorem Same.free{H H' :Hp}(e:AP3){l:Ζ}(h:H' l=Option.none):H l=Option.none:=by
 cases q:H l with
 | Ι=>rfl
 | Ε o=>
  show AWt (e l o q)
theorem Same.seq{K:AD}{H H' :Hp}{a:Ζ}{xs:AT}(e:AP3)(h:Ų):lA K H' a xs:=by
 show AiF h h h h
 ·show FR (HV (e _ _ h))
 ·show FR (FM (We (e _ _ h)))
 ·exact KB h
#print _2
namespace _3
open IR OI KK _2
abbrev St:=_2.St
inductive D where
 | non | bl (b:AU) | AN (AQz) | AS (x:Κ) | EI (xs:AQ) | By (xs:AQ) | exc (C:Ζ) | ptr (a:Ζ)
 | obj (C:Ζ) (fs:Ρ) (xs:AQ) | dic (ks:GH) (xs:AQ) | pC (ks:oq Key) (xs:AQ) | dik (ks:GH) (xs:AQ)
def qZ(a C:Ζ):HO:= Amd (∃o vs,ϲ/\o.cls= HC/\nK= ANW/\ (A7Z Ara))
def Pb(F:Hp)(a:Ζ):Θ:=∃o C,A0w
inductive IsT (Bey):Θ
 | mk:BTd (v8 K F a vs) (IsT K F R v)
inductive Vx (Bey):Θ
 | mk:BTd Awq (Vx K F R v)
inductive Vy (F:Hp) (C:Ζ) (fs:Ρ) (R:AVX) (v:V):Θ
 | mk:∀a dx vs,BB zo (AIF Azl) APx (R vs) (Vy F C fs R v)
inductive Vz (BMm):Θ
 | mk:Bf6 (AIF ō) Vz
inductive VB (F:Hp) (ks:oq Key) (R:AVX) (v:V):Θ
 | mk:Bf6 (Rd F a (.dT ABk)) VB
inductive VD (BMm):Θ
 | mk:∀a o vs,BB zo (AIF AhC) kL (R vs) (VD F ks R v)
inductive IsC (P:HT V) (R:AVX) (vs:AT):Θ
 | mk:∀v r,vs=v::r ->P v ->R r ->IsC P R vs
mutual
def EA(K:AD)(F:Hp):DZ D V
 | B8,v=>v= B8
 | l5,v=>v= l5
 | FV,v=>v= FV
 | ß,v=>v= ß
 | AJc,v=>IsT K F AKe v
 | AXR,v=>Vx K F AKe v
 | .exc C,v=>∃a o,v= B'/\A0w
 | .ptr a,v=>zo
 | Ajy,v=>Vy F C fs AKe v
 | ABt ds,v=>Vz F ks AKe v
 | .pC ks ds,v=>VB F ks AKe v
 | .dik ks ds,v=>VD F ks AKe v
def aM(K:AD)(F:Hp):DZ AQ AT
 | [],vs=>vs= []
 | b_,vs=>IsC (EA K F d) AKe vs
end
theorem rA{K:AD}{H H' :Hp}{a:Ζ}{xs:AT}(e:AP3)(h:AEx):v8 K H' a xs:=by
 show AiF h h h h
 ·show FR (HV (e _ _ h))
 ·show FR (FM (We (e _ _ h)))
 ·exact KB h
theorem J7{F H:Hp}{a:Ζ}{u:HO}(s:gi)(r:Rd F a u):Rd H a u:=by
 rcases r with r | ⟨o,r⟩
 ·show FR (s _ _ r)
 ·show He (We (s _ _ r))
mutual
theorem zvp(BJ2):∀(d:D) (v:V),Sb ->tF
 | B8,_,h=>OG
 | jb,_,h=>OG
 | b9,_,h=>OG
 | gc,_,h=>OG
 | AJc,_,h=>by
  show Aor;exact⟨a,vs,h0,rA e h1,Afy h2⟩
 | AXR,_,h=>by
  show Aor;exact⟨a,vs,h0,e.seq h1,Afy h2⟩
 | AEV,_,h=>OG
 | .exc C,_,h=>Axw a o h0 h1 ⟨a,o,h0,Ajt⟩
 | Ajy,_,h=>by
  show AFQ dx vs h0 h1 h3 h4;exact⟨a,dx,vs,h0,Ajt,h3,Als⟩
 | ABt ds,_,h=>by
  obtain⟨a,vs,h0,h1,h3,h4⟩:=h;exact⟨a,vs,h0,Ajt,h3,Als⟩
 | .pC ks ds,_,h=>by
  obtain⟨a,vs,h0,h1,h3,h4⟩:=h;exact⟨a,vs,h0,J7 e h1,h3,Als⟩
 | .dik ks ds,_,h=>by
  show AFQ o vs h0 h1 h3 h4;exact⟨a,o,vs,h0,Ajt,h3,Als⟩
theorem M8(BJ2):∀(ds:AQ) (vs:AT),L3 ->AIi
 | [],_,h=>OG
 | b_,_,h=>by
  obtain⟨v,r,h0,h1,h2⟩:=h;exact⟨v,r,h0,zvp e d v h1,M8 e ds r h2⟩
end
theorem Rep.up(BcW)(h:Sb)(e:F_):tF:=zvp e d v h
theorem aM.up{K:AD}{F F' :Hp}{ds:AQ}{vs:AT}(h:L3)(e:F_):AIi:=Afy h
theorem jQ(OH):A'Q (ĭ MB)
 | [],_,h=>by show De aM;subst h;rfl
 | EH,_,h=>by
  show De aM;obtain⟨v,r,Β,_,h2⟩:=h;simp only [GM,jQ h2]
theorem wQ(OH):∀{ds:AQ} {vs:AT} {i:Δ} {d:D},L3 ->A4d ->Alh AP9
 | [],_,_,_,_,e=>AYm
 | EH,_,0,_,h,e=>by
  show AIq v r h1 h;simp at e;subst e;exact⟨v,Β,h1⟩
 | EH,_,EL,d,h,e=>by
  obtain⟨v,r,Β,_,h2⟩:=h;show GA u e1 e2 (Ú wQ) h2 AEQ
  exact BRi
theorem zwk(OH):∀{ds:AQ} {vs:AT} {i:Δ} {v:V},L3 ->AP9 ->∃d,A4d/\Sb
 | [],_,_,_,h,e=>by subst h;simp at e
 | d::_,_,0,_,h,e=>by
  show AIq v r h1 h;simp at e;subst e;exact⟨d,Β,h1⟩
 | EH,_,EL,v,h,e=>by
  obtain⟨v',r,Β,_,h2⟩:=h;show GA u e1 e2 (Ú zwk) h2 AEQ
  exact BRi
theorem M9(OH):∀{ds es:AQ} {vs us:AT},L3 ->A4i ->P7 (ds++es) (vs++us)
 | [],_,_,_,h,k=>by subst h;exact k
 | EH,_,_,_,h,k=>by
  show Ape v;exact l7 v h1 (M9 h2 k)
theorem Nb(BaF):P7 [d] [v]:=JO ⟨v,[],Β,h,N1⟩
theorem qT(OH){d:D}{v:V}{ds:AQ}{vs:AT}(h:Sb)(k:L3):P7 (d::ds) (v::vs):=JO (Sf v h k)
theorem zps(OH):BgD ds.take vs.take
 | _,_,0,_=>CY aM
 | [],_,_+1,h=>A7z
 | EH,_,n+1,h=>by
  show Ape u;exact qT h1 (zps n h2)
theorem zq2(OH):BgD ds.drop vs.drop
 | _,_,0,h=>h
 | [],_,_+1,h=>A7z
 | EH,_,n+1,h=>by
  show Ape u;exact zq2 n h2
def wz(H:Hp)(b:Ζ)(o:HO):Θ:=NB\/ (∃xs,o= UO)/\KU H
theorem AsP(s:A3d)(h:wz H1 b o):wz H b o:=by
 show AuT h h e h
 ·show FR (s.free h)
 ·cases q:H b with
  | Ι=>show FR q
  | Ε u=>
   show AaH (s _ _ q) h;show IN;exact KB (ϙ xs e q)
structure Gr (F H F' H' :Hp):Θ where
 f:F_
 g:AHS F'
 h:AP3
 n:WU (KU F') ņ (wz H b o)
theorem Ě(h:gi):Gr F H F H:=ADb h qA
theorem Gr.trans(a:Gr F H F1 H1)(b:Gr F1 H1 F2 H2):Gr F H F2 H2:=by
 refine⟨a.f.trans b.f,b.g,a.h.trans b.h,Oy c o e n⟩;cases q:F1 c with
 | Ι=>exact AsP a.h (b.n c o e q)
 | Ε u=>show A3n (b.f _ _ q) (a.n c _ q n)
theorem AGh(h:gi)(hp:N4 p):Gr F H (AAy F p o) (AAy H p o):=by
 refine⟨K0,K0,K0,BRx⟩
 ·rw[bU (gJ (h b u e) hp)];exact e
 ·by_cases hb:b=p
  ·subst hb;rw[gP] at e⊢;exact e
  ·rw[t6] at e⊢;show ye h
 ·rw[Q3 hp];exact e
 ·by_cases hb:b=p
  ·subst hb;show FR hp
  ·rw[t6,n] at e;show DM
inductive T where
 | LY (d:D) | By (ts:Hd) | dic (ks:Axn) (ts:Hd) | pC (ks:oq _2.Key) (ts:Hd) | ob (C:Ζ) (fs:Ρ) (ts:Hd) | kt (k:Axn)
def nY:Key ->D | APW=> FV | ş=> ß
def Ez(fs:Ρ):AU:= !(Φ (fs= [(YO :Κ)]))
inductive TrL (H:Hp) (R:AaB) (v:V) (as:Cb):Θ
 | mk:∀a vs bs,BB zo (as=AHp) APj (R vs bs) (TrL H R v as)
inductive TrK (H:Hp) (ks:Axn) (R:AaB) (v:V) (as:Cb):Θ
 | mk:Bd9 (Nd ō) (TrK H ks R v as)
inductive TrT (H:Hp) (ks:oq _2.Key) (R:AaB) (v:V) (as:Cb):Θ
 | mk:Bd9 (Nd (.dT ABk)) (TrT H ks R v as)
inductive TrO (H:Hp) (C:Ζ) (fs:Ρ) (R:AaB) (v:V) (as:Cb):Θ
 | mk:∀a dx vs bs,zo ->as=AXj ->Nd Azl ->BB A5O APx (Ez fs=Μ) (R vs bs) (TrO H C fs R v as)
inductive TrC (P:DZ V Cb) (R:AaB) (vs:AT) (as:Cb):Θ
 | mk:∀v us bs cs,BB (vs=v::us) (as=bs++cs) (P v bs) (R us cs) (TrC P R vs as)
mutual
def TR(BBN):T ->DZ V Cb
 | fq,v,as=>as= []/\Sb
 | ly,v,as=>TrL H Aa4 v as
 | è,v,as=>TrK H ks Aa4 v as
 | AFb,v,as=>TrT H ks Aa4 v as
 | AFt,v,as=>TrO H C fs Aa4 v as
 | .kt k,v,as=>as= []/\∃a,v= B'/\AIF Bin
def eZ(BBN):Hd ->DZ AT Cb
 | [],vs,as=>vs= []/\as= []
 | Xs,vs,as=>TrC (TR K F H t) Aa4 vs as
end
section
variable{K:AD}{F H F' H' :Hp}
mutual
theorem AAz(f:F_):BBX AhX (AIQ t v as)
 | fq,v,as,k,h=>JO ⟨ED,(h.2).up f⟩
 | ly,v,as,k,h=>by
  show AFQ vs bs e1 Β e3 h;exact⟨a,vs,bs,e1,Β,AQX,A1V⟩
 | è,v,as,k,h=>by
  show AQx;exact⟨a,vs,bs,e1,Β,AQX,e4,A1V⟩
 | AFb,v,as,k,h=>by
  show AQx;exact⟨a,vs,bs,e1,Β,AQX,e4,A1V⟩
 | AFt,v,as,k,h=>by
  obtain⟨a,dx,vs,bs,e1,Β,e3,e4,e5,e6,h⟩:=h;exact⟨a,dx,vs,bs,e1,Β,AQX,k dx (zX _ zY) _ e4,e5,e6,BAe dQ⟩
 | AEU,v,as,k,h=>Axw e a e1 e2 ⟨e,a,e1,f _ _ e2⟩
theorem dQ(f:F_):BBZ AhX (Aaq ts as)
 | [],vs,as,k,h=>OG
 | Xs,vs,as,k,h=>by
  show Am8;exact⟨v,us,bs,cs,e1,Β,A'n AAz,BAw dQ⟩
end
def LD(u:HO):Θ:=(∃vs,u= .By vs)\/ (∃AI,u= .dK AI)\/ (∃AI,u= .dT AI)\/ (∃C dx kvs,u= .ins C dx kvs/\Ez (kvs.map (·.1))=true)\/∃a,u= .Au a
theorem z11:AVt fs Ρ APx (B7 Ade vs (·.1)=fs)
 | [],_,_=>Β
 | EH,[],h=>EN
 | me,AQA,h=>BWa z11
theorem LD.tup(h:LD WZ):D7:=BgZ
theorem LD.frz(h:LD (.frz o u)):D7:=BgZ
theorem LD.ins(h:LD (AHM AI)):Ez (kvs.map (·.1))=Μ:=by
 rcases h with ⟨_,z⟩ | ⟨_,z⟩ | ⟨_,z⟩ | ⟨_,_,_,z,q⟩ | ⟨_,z⟩<;>(first|subst z|show AG1|show AG2|show AG4|show AG3|show AG6|show AG5|show AG7|show AG8|show NW z|show NU z|show Mc z|show NV z|cases (z))
 exact q
mutual
theorem Adf:∀(t:T) (v:V) (as:Cb),AOD ->Ama (∃u,AHh/\mE)
 | fq,v,as,h,a,ha=>Ah' ED
 | ly,v,as,h,a,ha=>by
  obtain⟨b,vs,bs,e1,Β,e3,h⟩:=h;rcases Cn ha with Β | ha
  ·exact D4 e3 (.D6 D_)
  ·exact AqH
 | è,v,as,h,a,ha=>by
  obtain⟨b,vs,bs,e1,Β,e3,_,h⟩:=h;rcases Cn ha with Β | ha
  ·exact D4 e3 (Aey D_)
  ·exact AqH
 | AFb,v,as,h,a,ha=>by
  obtain⟨b,vs,bs,e1,Β,e3,_,h⟩:=h;rcases Cn ha with Β | ha
  ·exact D4 e3 (ANS (HV D_))
  ·exact AqH
 | AFt,v,as,h,a,ha=>by
  obtain⟨b,dx,vs,bs,e1,Β,e3,e4,e5,e6,h⟩:=h;rcases Cn ha with Β | ha
  ·exact D4 e3 (ANS (FM (HV (MR _ _ (ADJ z11 e5 e6)))))
  ·rcases Cn ha with Β | ha
   ·exact D4 e4 (ANS (FM (FM D_)))
   ·exact AqH
 | AEU,v,as,h,a,ha=>Ah' ED
theorem ALm:∀(ts:Hd) (vs:AT) (as:Cb),AIk ->Ama (∃u,AHh/\mE)
 | [],vs,as,h,a,ha=>Ah' h.2
 | Xs,vs,as,h,a,ha=>by
  show Am8;rcases JJ ha with ha | ha
  ·exact Adf t v bs h1 a ha
  ·exact ALm ts us cs h2 a ha
end
#where
mutual
def toD:T ->D
 | fq=>d
 | ly=> .By (j6 ts)
 | è=> .dic ks (j6 ts)
 | AFb=> .pC ks (j6 ts)
 | AFt=> .obj C fs (j6 ts)
 | .kt k=> BN5
def j6:Hd ->AQ
 | []=> []
 | Xs=>toD t::j6 ts
end
theorem VF(OH):∀ks:GH,P7 (ALj nY) A0j
 | []=>N1
 | APW::ks=>qT Iy (VF ks)
 | ş::ks=>qT Iy (VF ks)
section
variable{K:AD}{F H F' :Hp}
mutual
theorem Adg(f:F_):BBX (Afd Aka) (AMb (toD t) v)
 | fq,v,as,k,h=>BVl
 | ly,v,as,k,h=>by
  show AFQ vs bs e1 Β e3 h;exact⟨a,vs,e1,ABs BdE,A1W⟩
 | è,v,as,k,h=>by
  show AQx;exact⟨a,vs,e1,AQX,e4,A1W⟩
 | AFb,v,as,k,h=>by
  show AQx;exact⟨a,vs,e1,.D6 BdE,e4,A1W⟩
 | AFt,v,as,k,h=>by
  obtain⟨a,dx,vs,bs,e1,Β,e3,e4,e5,e6,h⟩:=h;exact⟨a,dx,vs,e1,AQX,e5,BAe ALn⟩
 | .kt k,v,as,_,h=>by
  obtain⟨_,a,e1,e2⟩:=h;exact⟨a,_,e1,AkE f,VF k⟩
theorem ALn(f:F_):BBZ (Afd Aka) (AUL (j6 ts))
 | [],vs,as,k,h=>JO ED
 | Xs,vs,as,k,h=>by
  show Am8;exact⟨v,us,e1,A'n Adg,BAw ALn⟩
end
#where
inductive Ic where
 | no | pu (d:D) | ow (ds:AQ) | tr (as:Cb) (t:T) | nt (as:Cb) (ts:Hd) | xe (as:Cb) (C:Ζ) (fs:Ρ) (ts:Hd)
inductive SlO (AmW) (ds:AQ) (o:UQ):Θ
 | mk:∀a vs,A1c ->BB APj AEa Ï L3 BQX
inductive SlT (AmW) (as:Cb) (t:T) (o:UQ):Θ
 | mk:∀v,BB (o=Ε v) wS Am2 AOD BSN
inductive SlN (AmW) (as:Cb) (ts:Hd) (o:UQ):Θ
 | mk:∀p vs,o=Ε (Bn p) ->BB (F p=Ε (Kb vs)) wS Am2 AIk BSO
inductive SlX (AmW) (as:Cb) (C:Ζ) (fs:Ρ) (ts:Hd) (o:UQ):Θ
 | mk:∀a oe dx vs,BB A1c (AIF At9) (Adh=Ε dx) (F dx=Ε (.xd AvO)) (BB APx wS Am2 AIk Bcy)
def pF(AU1)(F H H0:Hp):DZ Ic UQ
 | DO,_=>ID
 | .pu d,o=>Alh (o=Ε v)
 | .ow ds,o=>BQX
 | ACZ t,o=>BSN
 | .nt as ts,o=>BSO
 | .xe as C fs ts,o=>Bcy
def iw:Ic ->DZ UQ Ζ
 | .ow _,o,a=>A1c
 | ACZ _,_,a=>AlJ
 | .nt as _,_,a=>AlJ
 | .xe as _ _ _,_,a=>AlJ
 | _,_,_=>D7
inductive nZ (Γ:ADu) (σ:St) (i:Δ) (a:Ζ):Θ
 | mk:∀s o,AZD ->AFN ->Ŵ ->AaO i
structure SR (Bfy) (σ:St) (Γ:ADu):Θ where
 gr:Ap6
 len:Ac0=AS9
 sl:AnR s (AZD ->∃o,AFN/\Aa1)
 ap:∀(i j:Δ) a,AaO i ->AaO j ->i=j
section
variable{K:AD}{F0 H0 F H F' H' :Hp}{σ:St}{Γ:ADu}
theorem SR.g(R:Hm):gi:=R.gr.g
theorem G9(r:Aa1)(h:Ŵ):AEa/\Ï/\∃u,AHh/\mE:=by
 cases s with
 | no=>show GW
 | pu d=>show GW
 | ow ds=>obtain⟨b,vs,Β,h1,h2,h3,_⟩:=r;show HI;exact⟨h2,h3,_,h1,.D6 D_⟩
 | tr as t=>obtain⟨v,_,_,h2,h3⟩:=r;exact⟨(h2 a h).1,A7V,Adf t v as h3 a h⟩
 | nt as ts=>obtain⟨p,vs,_,_,_,h2,h3⟩:=r;exact⟨(h2 a h).1,A7V,ALm ts vs as h3 a h⟩
 | xe as C fs ts=>obtain⟨_,_,_,vs,_,_,_,_,_,_,h2,h3⟩:=r;exact⟨(h2 a h).1,A7V,ALm ts vs as h3 a h⟩
theorem Sw(r:Aa1)(f:F_)(k:∀a,Ŵ ->r8/\AhX):BbY:=by
 cases s with
 | no=>trivial
 | pu d=>
  show AH2 e r r;exact⟨v,e,r.up f⟩
 | ow ds=>
  obtain⟨a,vs,e,e1,e2,e3,r⟩:=r;obtain⟨k1,k2⟩:=k a e;exact⟨a,vs,e,k2 _ e1,k1,e3,r.up f⟩
 | tr as t=>
  obtain⟨v,e,nd,h,r⟩:=r;exact⟨v,e,nd,A9_,AAz f t v as Bj5 r⟩
 | nt as ts=>
  obtain⟨p,vs,e,e1,nd,h,r⟩:=r;exact⟨p,vs,e,f _ _ e1,nd,A9_,BcN⟩
 | xe as C fs ts=>
  obtain⟨a,oe,dx,vs,e,e1,e2,e3,e4,nd,h,r⟩:=r;exact⟨a,oe,dx,vs,e,f _ _ e1,e2,f _ _ e3,e4,nd,A9_,BcN⟩
theorem z4u(r:Aa1)(g:zw):BbY:=
 Sw r g.f fun a ha=>by
  obtain⟨h1,_,u,h3,ld⟩:=G9 r ha;refine AJH (fun u e=>g.h _ _ e);cases q:F' a with
  | Ι=>rfl
  | Ε w=>
   show AuT (g.n a w q h1) z e z
   ·show AWu h3
   ·rw[h3] at z;show Lw;subst e;exact ld.tup.elim
theorem SR.grow(R:Hm)(g:zw):AZw:=by
 refine⟨R.gr.trans g,AGi,ja i s,R.ap⟩;show br e1 r (dS i s e);exact⟨o,e1,z4u r g⟩
theorem VG(h:nZ (Ŋ s) (ď i o) j a):(j=i/\Ŵ)\/ (j≠i/\AaO j):=by
 obtain⟨t,p,e1,e2,h⟩:=h;by_cases hj:i=j
 ·subst hj;have hi:i<AS9:=by
   rcases AXI AS9 with h | h
   ·exact h
   ·show MO A1_ e1 e1 e1 e1 e1 e1 e1 e1 e1 e1 e1 e1 e1 e1 e1
  have hi' :i<Ac0:=by
   rcases AXI Ac0 with h | h
   ·exact h
   ·show MO A1_ e2 e2 e2 e2 e2 e2 e2 e2 e2 e2 e2 e2 e2 e2 e2
  rw[BIH] at e1;rw[ALB hi'] at e2;show AE e1 e1 e1 e1 e1 e1 e1 e1 e1 e1 e1 e1 e1 e1;show AE e2 e2 e2 e2 e2 e2 e2 e2 e2 e2 e2 e2 e2 e2;exact M' (Hb h)
 ·rw[BIp] at e1 e2;show He ⟨ALA hj,t,p,e1,e2,h⟩
def Apart(σ:St)(Γ:ADu)(a:Ζ):Θ:=∀j,¬(AaO j)
theorem SR.apart(R:Hm)(h:Ä):AFI:=fun j B_=>by
 obtain⟨s,o,e1,e2,q⟩:=B_;obtain⟨o',e3,r⟩:=dS j s e1;rw[e2] at e3;show AqZ;obtain⟨_,_,u,e,_⟩:=G9 r q;rw[h] at e;show DM
theorem SR.put(R:Hm)(i:Δ)(r:Aa1)(ha:∀a,Ŵ ->AFI):A4k (ď i o) s:=by
 refine⟨R.gr,CY AGi,ja j t,FY j k a e1 e2⟩
 ·by_cases hj:i=j
  ·subst hj;have hi:i<AS9:=by
    rcases AXI AS9 with h | h
    ·exact h
    ·rw[A1_] at e;show DM
   show AFl BIH ⟨o,ALB (ET AGi hi),r⟩
  ·rw[BIp] at e;rw[ASW hj];exact dS j t e
 ·rcases VG e1 with ⟨Β,q1⟩ | ⟨n1,q1⟩
  ·rcases VG e2 with ⟨Β,_⟩ | ⟨_,q2⟩
   ·rfl
   ·exact(ha a q1 _ q2).YV
  ·rcases VG e2 with ⟨Β,q2⟩ | ⟨_,q2⟩
   ·exact(ha a q2 _ q1).YV
   ·exact R.ap j k a q1 q2
theorem SR.set(R:Hm)(i:Δ)(r:Sb):A4k AwS APy:=BTS (KI v r)
theorem SR.drop(R:Hm)(i:Δ)(o:UQ):ZT SR F H (ď i o) AEz:=BTS VV
theorem SR.setOw(R:Hm)(i:Δ)(h1:APj)(h2:AEa)(h3:Ï)(r:L3)(ha:AFI):
  A4k (ď i Ŕ) ä:=R.put i ⟨a,vs,Β,h1,h2,h3,r⟩ (dl h (by show HI;exact ha))
theorem z1e(g:gi)(h1:APj)(h2:AEa):xC AoH/\Û AoH:=by
 refine⟨K0,K0⟩
 ·rw[Q3 h2];exact e
 ·by_cases hb:b=a
  ·subst hb;show AFl gP h1
  ·rw[t6] at e;show ye g
theorem SR.frzM(R:Hm)(s1:F_)(s2:Û F')(n:qq (MI F') ņ (SC H0/\AMk b)):AvN:=by
 refine⟨⟨R.gr.f.trans s1,s2,Adi,ACu e q⟩,AGi,ja j s,R.ap⟩
 ·cases z:F b with
  | Ι=>show FR (n b o e z).1
  | Ε u=>show A3n (s1 _ _ z) (R.gr.n b _ z q)
 ·show br e1 r (dS j s e);refine⟨o,e1,Sw r s1 (AIc ?_ (Lo q q))⟩;obtain⟨h1,_,_⟩:=G9 r hb;cases q:F' b with
  | Ι=>rfl
  | Ε u=>exact((n b u q h1).2 j ⟨s,o,e,e1,hb⟩).YV
theorem SR.frzA(R:Hm)(h1:APj)(h2:AEa)(h3:Ï)(ha:AFI):xI AoH H:=by
 show EU s1 s2 z1e R.g h1 h2;refine R.frzM s1 s2 BRx;by_cases hb:b=a
 ·subst hb;exact⟨h3,ha⟩
 ·rw[t6,n] at e;show DM
theorem Sx(e1:AFN):ď i o=σ:=by
 show D1 hl e2 ng e1;rw[<- e2];simp
theorem SR.less(R:Hm)(e:AZD)(e1:AFN)(h:Ŵ):AHL AEz a:=fun j q=>by
 have q' :nZ AEz (ď i o) j a:=BW8
 rcases VG q' with ⟨_,z⟩ | ⟨n,z⟩
 ·exact z
 ·exact n (R.ap j i a z ⟨s,o,e,e1,h⟩)
theorem SR.dropAt(R:Hm)(e1:AFN):xE F H AEz:=by
 have q:=R.drop i o;rw[Sx e1] at q;exact q
theorem SR.frz(R:Hm)(e:AM8 ä):∃a F',AkY/\F_ /\xE F' H (Ŋ Aj3)/\AMb ANQ EC:=by
 obtain⟨o,e1,a,vs,Β,h1,h2,h3,r⟩:=AZJ;obtain⟨s1,_⟩:=z1e R.g h1 h2;have rp:EA K AoH ANQ EC:=JO (Sf a AE_ (r.up s1))
 have R2:=((BEt e1).frzA h1 h2 h3 (Adj e e1 BBW)).set i rp;rw[Sx e1,AsQ] at R2;exact⟨a,_,e1,s1,R2,rp⟩
theorem SR.wrO(R:Hm)(e:AZD)(e1:AFN)(h:Ŵ)(r:pF K F ARd H0 t o)(ht:Mn (iw t o b) (iw s o b)):
  xE F ARd (Ŋ t):=by
 obtain⟨o',e2,r0⟩:=AZJ;rw[e1] at e2;show u7;obtain⟨h2,h3,w,h1,_⟩:=G9 r0 h;have hi:i<AS9:=QP e;have R1:xE F ARd AEz:=by
  have R0:=BEt e1;refine⟨⟨R0.gr.f,â,â,AIe (R0.gr.n b o q n)⟩,R0.len,BPL,R0.ap⟩
  ·rw[bU (gJ q h2)];exact R0.g b u q
  ·rw[bU (gJ q h3)];exact R0.gr.h b u q
  ·show br p1 p2 (R0.sl j s' q);refine⟨o,p1,Sw p2 IP BVv⟩;have:SW:=AZ (by subst z;exact Adj e e1 h j Bb')
   rw[bU Τ];exact q'
 have R2:=R1.put i r (FL (Adj e e1 (ht b hb)));rw[Sx e1,AsQ] at R2;exact R2
theorem SR.wr(R:Hm)(e:AM8 ä)(e1:AkY)(r:A4i):
  xE F (AYg (FG us)) (Ŋ (.ow es)):=by
 show br e2 r0 AZJ;rw[e1] at e2;show u7;obtain⟨h2,h3,_⟩:=G9 r0 BBW;exact R.wrO e e1 BBW ⟨a,us,Β,gP,h2,h3,r⟩ (FL hb)
theorem SR.base(R:Hm):SR K F H0 F H σ Γ:=⟨ADb R.g Adi,AGi,dS,R.ap⟩
theorem Gr.unbase(g:Ap6)(g' :An6 H0):Gr F0 H0 F' H' :=by
 refine⟨g.f.trans g'.f,g'.g,g'.h,qf ?_⟩;cases q:F b with
 | Ι=>exact g'.n b o e q
 | Ε u=>show A3n (g'.f _ _ q) (g.n b _ q n)
theorem SR.unbase(g:Ap6)(R:SR K F H0 F' H' DT B5):ZT SR F' H' DT B5 :=⟨g.unbase R.gr,AGi,dS,R.ap⟩
#where
inductive TrY (h B:AL) (e:Ζ) (cls:AH) (dd:ND) (fl:AH):Θ
 | mk:∀oe vs T oT ts,AvT oe ->BB (BQk dd (A7Z dd)) (Adk= ANW) (Iq vs 1 (Bn T)) (Adl T=Ι) (BB (T≠e) (ANj T oT) BMz (Iq ts 3 fl) BgL)
def VH(B:AL)(l:LT)(a:Ζ)(cls:AH)(dx:ND)(h:AL):Θ:=
 AS' h/\Ayp/\BEu B l/\
  (TrY h B a cls dx BA\/∃oe vs,eR oe/\BQk dx (Adk= ANW/\Bh0 1/\ (A7Z dx)))
def uN(B:AL)(l:LT)(e:Ζ)(cls:AH)(dd:ND)(fl:AH)(h:AL):Θ:=AS' h/\Adl e=Ι/\BEu B l/\BgL
theorem uN.there(x:uN B l e cls dd fl h):∃ob,AvT ob/\ob.cls=cls:=by
 obtain⟨_,_,_,oe,_,_,_,_,he,hc,_⟩:=x;exact⟨oe,he,hc.1⟩
section
variable{M:ASV}{A:BQ}{E:dM}{s:AF}{B:AL}{BV:Env}{DE:LT}{L a:Ζ}{cls fl:AH}{dd:ND}{Q:á}
theorem z6t(f:Ki ->Ki)(o:Obj):(BnQ f o).dict=Ara:=by
 unfold BnQ;split<;>rfl
theorem Sy{h:AL}{T b:Ζ}{oT o:Obj}{ts:Ki}(hT:ANj T oT)(hd:BMz)(hb:rq)(hn:∀vs,nK≠ ANW):b≠T:=PH (by
 rw[q,hT] at hb;injection hb with hb;subst hb;exact hn ts hd)
theorem HF{l:LT}(x:uN B l a cls dd fl A8)(hQ:ApA (uN B l a cls dd BA h')):Î (setFlight EC Ι):=by
 obtain⟨f1,f2,f3,oe,vs,T,oT,ts,he,hk,hd,h1,hB,hne,hT,hdT,h3⟩:=x;have far:BV_ (s.heap.update T (Obj.mapFields (·.setIfInBounds 3 ((none:Option Addr).elim Value.none fun f=>rawInt f)))):=FL Anj;have hz:3<ts.size:=BNv;refine A_E;show DJ A7
 refine ALo hT hdT hz (hQ _ ⟨Na o q,f2,f3.of_keeps (A1R ?_),oe,vs,T,_,_,HZ far a Azo he,hk,hd,h1,hB,hne,BiO hT hdT,Adm hdT _,CY hz⟩ (AIe (C3 o.slots)))
 ·exact BQr (f1 b o q)
 ·exact Apu q
 ·exact Apu q
theorem HJ{oe:Obj}{vs:Ki}{head:AH}{more:AU}(hfr:AiM AAR)(hl:BDX B AAR)(hf:A6b)(he:IL MY oe)(hkb:AS' A8)(hen:Ayp)
  (hd:Adk= ANW) (hz:1<vs.size) (h2:AVs\/Adh≠Ι) (hQ:ApA (uN B AAR a AsR Adh (ź L) h')):
  Î (do let x<- frameOf BV;let pl<- entryPlaceOf L more;let b<- EntryCells.newEntry head x BA (ź L) BA pl;Adn EC 1 b):=by
 have nf:a∉ (AAR).BDU (·.frame):=fun hm=>by
  obtain⟨_,o,ho,hn⟩:=hl.mem hm;rw[he] at ho;injection ho with ho;subst ho;exact hn vs hd
 refine z6 (wpAny_frameOf_fun hfr hl hf (Cf h1 k1));show BE (z6 (wpAny_entryPlaceOf (Cf pl hp))) (Biu (MH hp.sizeOk5 _));show HL e1 (IL ą oe) (HZ k1.2.1 a nf he) b1 (AS' h1) (WH o (HZ k1.2.1 b (fun hm=>(A1r (hl.mem hm).1)) (hkb b o q))) (ALo AzU hd hz (hQ _ ?_ ?_))
 all_goals
  have ne:ALp≠a:=ALN (zJ e1);have d3:=Adm hd (·.setIfInBounds 1 (Value.ref h1.objs.size));have far:WU SW (KU ą) (KU ((h1.push {cls:= .type "traceback",dict:=none,data:= .fields ([head,.ref L,.none,rawInt L,.none]++ (if pl.isEmpty then List.replicate 6 Value.none else pl)).toArray}).update a (Obj.mapFields (·.setIfInBounds 1 (Value.ref h1.objs.size)))).IE):=
   dy hb q (CD Anj AUB)
 ·refine⟨WH o (far b o (Ev (Aha hen)) (b1 b o q)),hen,hl.of_keeps (AIe ?_),?_⟩
  ·show EU sl k k1.2.2 b o q;exact ML BbJ
  ·exact⟨_,_,ALp,_,_,BiH AzU d3,⟨BnS _ _,z6t _ _,h2.imp (Ev (ADJ Array.getElem?_setIfInBounds_ne Ψ z)) id⟩,d3,CY hz,b1.fresh,ne,
    (ANn (qV ne)).ON (z9 h1 Β),Β,by first | (simp;done) | (rcases hp with Β | ⟨_,_,_,_,_,_,_,Β⟩<;>simp)⟩
 ·intro b o q n;show EU sl k k1.2.2 b o q;exact⟨sl,BbJ⟩
theorem z23(hfr:AiM AAR)(hf:A6b)(x:VH B AAR a cls dx A8)
  (hQ:ApA (uN B AAR a cls dx (ź L) h')):Î (Ado EC BV):=by
 obtain⟨f1,f2,f3,⟨oe,vs,T,oT,ts,he,⟨Β,Β,h2⟩,hd,h1,hB,hne,hT,hdT,h3⟩ | ⟨oe,vs,he,Β,Β,hd,h1,h2⟩⟩:=x
 ·unfold Ado;simp only [hf];refine A_E;show DJ A7
  refine z6 (Ar' hT hdT h3 ?_);show BD (fF Yf)
  refine z6 (ALo hT hdT BNv ?_);have far:BV_ (s.heap.update T (Obj.mapFields (·.setIfInBounds 3 Value.none))):=FL Anj;refine HJ (s:=Zl (AGe T (Obj.mapFields (·.setIfInBounds 3 Value.none)))) hfr (f3.of_keeps (A1R (Apu q))) hf (HZ far a Azo he) (WH o (BQr (f1 b o q))) f2 hd BJx h2 (gI w up)
  exact hQ h' w (AIe (up b o (Apu q) n))
 ·unfold Ado;simp only [hf];refine A_E;show l4
  exact HJ hfr f3 hf he f1 f2 hd BJx h2 fun h' w up=>hQ h' w up
theorem z92(hfr:AiM AAR)(hf:A6b)(x:VH B AAR a cls dx A8)
  (hQ:ApA (VH B DE a cls dx h')):Î (leaving BV EC):=by
 refine z6 (z23 hfr hf x fun h1 w up=>HF (s:=Zl h1) w (AV h2 w2 up2));obtain⟨k1,k2,⟨_,_,k3⟩,k4⟩:=w2;exact hQ h2 ⟨k1,k2,k3,.D6 k4⟩ (up.trans up2)
#where
inductive VJ (P:A0) (w:Ap) (DE:LT) (H:Hp) (s:AF) (E:XK) (e:AH) (s' :AF):Θ
 | mk:∀a C H' B dx,e= B' ->BB AlI AIh BUw BW1 (BB (VH B DE a C dx YY) (WU kB (b∉frs DE) ANL) (AmB) AbN (AaS VJ))
def fD(P:A0)(w:Ap):J5:=fun DE H s E e s' =>(AaS VJ)
theorem fD.imp(h:AaS fD)(k:∀C dx H',AbN ->E' C dx H'):fD P w DE H s E' e s' :=by
 obtain⟨a,C,H',B,dx,h1,h2,h3,h4,h5,h6,h7,h8,h9⟩:=h;exact⟨a,C,H',B,dx,h1,h2,h3,h4,h5,h6,h7,h8,k _ _ _ h9⟩
section
variable{X:Cx}{Ξ:dN}{σ:St}{H H' :Hp}{s s' :AF}{B:AL}{h' :AL}
theorem z9r(DV:AZX)(b1:AmY)(b2:A0R)(v7:AmB):AlF :=fun b u e=>
 AIl DV e (fun c v hc q=>by
  have:∃o',Adl c=Ε o' :=by
   rcases hc with Β | hc
   ·exact v7 _ _ e
   ·exact v7 _ _ hc
  show AJ1 Τ;have z:=b1 c o' e';rw[q] at z;show Lw;exact b2 c _ e') Ahk Ó
theorem yfr(I:AW)(hex:AQK)(os:AlI)(Gc:AIh)(un:Bb1)(DV:AZX)(b1:AmY)(b2:A0R)
  (inB:WU kB (b∉fw) ANL) (up:BIa):
  Un iN [] ASN H' X.s₀.heap h' /\BQt :=by
 have I' :AJw :=BfV
 have hb:=I'.base;rw[hex] at hb;have hb0:=I.base;rw[hex] at hb0;have SJ:BQt :=qf (by
  obtain⟨o1,e1⟩:=hb0.there b o e A7
  refine inB b o1 e1 Ü;rcases A8m z with z | z
  ·exact nL (zN Ae0 AK9) A7r
  ·exact n z)
 refine⟨⟨AuQ hf,AuQ hf,fun b o e n hx=>hb.free b o e n hx,AmK,hb.tups,hb.lu,hb.nR⟩,SJ⟩
 ·have e1:=hb.keep b o e n hf A7
  show AJ1 (SJ b o e hf);have z:=b1 b o' e';rw[e1] at z;show Lw;exact b2 b _ e'
 ·show AQh (hb.slot b o e n hf A7)
  obtain⟨_,o2,e2,nf⟩:=BMo;rw[e] at e2;show u7;obtain⟨sl',e3⟩:=up b _ e1 nf;exact⟨sl',e3⟩
 ·by_cases hf:Ay8
  ·show AQh (hb.slot b o e (BDY b hf) hf A7)
   obtain⟨_,o2,e2,nf⟩:=BMo;rw[e] at e2;show u7;obtain⟨sl',e3⟩:=up b _ e1 nf;exact Fk e3
  ·show AJ1 (SJ b o e hf);exact⟨o',b2 b o' e'⟩
theorem SM(I:AW)(hex:AQK)(hst:AmZ)(hfr:Aac)
  (h:A9a E):ACU (leaving B9 e) (JP s'' (fD Fr X.w AGJ ASN X.s₀ E e s'')) Eb s' :=by
 obtain⟨a,C,H',B,dx,Β,os,Gc,un,DV,J8,inB,v7,hE⟩:=h;refine z92 (Ù I.ok.frames hst) hfr (UK hst J8) (gI Pg up)
 obtain⟨un',SJ⟩:=yfr I hex os Gc un DV J8.1 Pg.1 inB up;exact⟨a,C,H',B,dx,Β,os.trans I.os,Gc,un',z9r DV J8.1 Pg.1 v7,Pg,SJ,v7,hE⟩
theorem Inv.landed(I:AW)(hex:AQK)(os:AlI)(Gc:AIh)(un:Bb1)(DV:AZX)(b1:AmY)(b2:A0R)
  (inB:WU kB (b∉fw) ANL) (v7:AmB) (up:BIa):ABp (AG' s' h' t'):=by
 have I' :AJw :=BfV
 obtain⟨un',SJ⟩:=yfr I hex os Gc un DV b1 b2 inB up;have cl:∀{c v},s'.heap.IsCell c v ->A1P:=fun{c v} (AEg hd)=>by
  show UC sl (up c o ho (AIE z (AuM hd)))
  exact D4 e hd
 refine⟨ve,I'.os,Gc,CD hex un',?_,AQ3,I'.free,I'.freeC,mh,z9r DV b1 b2 v7,AGN⟩
 ·obtain⟨m,hn,hl⟩:=I'.loc;show Bgd ⟨m,up.ns hn,BZ8⟩ (cl z)
 ·show EU v z I'.cell x c e;exact⟨v,cl z⟩
 ·show Abf;obtain⟨e',n',_,_,_⟩:=I'.pin p hp;refine⟨?_,n',ne,nf,d⟩;show AMh q (inB DA p.2 e (AZ (by
   rcases Cn (BDZ DA z) with z | z
   ·exact ne z
   ·exact nf z)))
  have z:=b1 DA o' q;rw[e'] at z;show Lw;exact b2 DA _ q
#where
def nG(AAG):Θ:=ApP C
inductive ExN (h:AL) (C:Ζ):Θ
 | mk:∀bm N nm qn bs P3 sn CA ab col dd k0 k1 k2 k3 k5 mN,BB BMB (h.Ns N mN) (mN LE =Ι) (OwnTail h AvA bm) (ExN h C)
theorem ycl{K:AD}{h:AL}{C:Ζ}(X:Sl)(q:nG K C):ExN h C:=by
 unfold nG W.excIn at q;split at q
 ·show A'2;split at q
  ·rename_i C' bm k0 k1 k2 k3 n k5 hm hs;simp only [Y3,Adp,BEw] at q;obtain⟨⟨⟨⟨⟨Β,Β⟩,hdel⟩,ht⟩,DV⟩,hni⟩:=q;obtain⟨nm,bs,mro,ns,qn,hd,sn,CA,ab,col,del⟩:=cd;subst hm hdel;show HA (sl= #[k0,k1,k2,k3,BLM,k5]) (by
    show AE sl sl sl sl sl sl sl sl sl sl sl sl sl sl;simp only at hs;rw[hs])
   exact⟨bm,ns,nm,qn,bs,hd,sn,CA,ab,col,dd,k0,k1,k2,k3,k5,_,X _ _ ho,.of_isNs (W.isNs_of_in X DV),W.nsMap_none_of_in X DV hni,BOG⟩
  ·show mr
 ·show mr
inductive ExO (K:AD) (h:AL) (C:Ζ):Θ
 | mk:∀bm N nm qn bs P3 sn CA ab col dd k0 k1 k2 k3 k5,BMB ->OwnTail h KC bm ->BOa bm ->∀cd,W.clsIn K C=Ε cd ->Aql= HC::bm ->ExO K h C
theorem Hf{K:AD}{h:AL}{C:Ζ}(X:Sl)(q:ç):ExO K h C:=by
 unfold lU at q;split at q
 ·show A'2;split at q
  ·rename_i C' bm k0 k1 k2 k3 n k5 hm hs;simp only [Y3,Adp,BEw] at q;obtain⟨⟨⟨Β,Β⟩,hdel⟩,ht⟩:=q;have hcl:W.clsIn K C' =Ε cd:=AEc W.clsIn ho
   have hm0:=hm;obtain⟨nm,bs,mro,ns,qn,hd,sn,CA,ab,col,del⟩:=cd;subst hm hdel;show HA (sl= #[k0,k1,k2,k3,BLM,k5]) (by
    show AE sl sl sl sl sl sl sl sl sl sl sl sl sl sl;simp only at hs;rw[hs])
   exact⟨bm,ns,nm,qn,bs,hd,sn,CA,ab,col,dd,k0,k1,k2,k3,k5,X _ _ ho,BOG,ht,_,hcl,hm0⟩
  ·show mr
 ·show mr
def n6(AAG):Θ:=ç
theorem nG.k{K:AD}{C:Ζ}(q:nG K C):n6 K C:=by
 unfold nG W.excIn at q;unfold n6 lU;split at q
 ·show A'2;rw[ho];split at q
  ·rename_i C' bm k0 k1 k2 k3 n k5 hm hs;simp only [Y3] at q;obtain⟨⟨⟨⟨⟨q1,q2⟩,q3⟩,q4⟩,_⟩,_⟩:=q;simp only [hm,hs,q1,q2,q3,q4,Bool.and_self]
  ·show mr
 ·show mr
section
variable{X:Cx}{Ξ:dN}{σ:St}{H:Hp}{s:AF}
theorem yh8(hl:BEu DS l)(hm:Heap.MadeExcOf h h1 a HE vs):VH (ASI h (frs l)) l a HE Ι h1:=by
 obtain⟨t,he,_,_⟩:=hm.there;refine⟨fun b o q=>AsS b o BNe,?_,?_,A_q he AJW⟩
 ·cases q:(ASI h (frs l)).IE a with
  | Ι=>rfl
  | Ε o=>
   have z:=BIx;rw[hm.new] at z;show Lw
 ·have k:=BEx (as:=frs l) hl fun BV he a ha=>(BIi BV he ha);exact k.of_keeps (dy e _ ⟨o,AsS b o e,Β⟩)
theorem yei{x:Κ}{C:Ζ}(BkF){e:AK}{es:DD}{t:TA}{Q:Aja}{E:XK}(hg:KG)(hm:AKB)(hC:nG AJ C)(ha:AlB)(hh:FX)
  (I:AW) (h:t σ H (ı vs (D' MB/\BXa)))
  (px:∀H1 s1 e s',AJO s1 ->fD Fr X.w MX H1 s1 (fun C' dx H' =>C' = HC/\dx=Ι/\H' =H1/\BXa) e s' ->A4w)
  (An2):
  AHF (exec AxB B9) Q:=by
 obtain⟨bm,N,nm,qn,bs,P3,sn,CA,ab,col,dd,k0,k1,k2,k3,k5,mN,e1,e2,e3,e4⟩:=ycl I.mod.J4 hC;refine P9 (P9 (P9 (P9 wpAny_Raise_call_subT C C nm nm q qn N N) bs bs bm bm P3 P3 sn sn) CA CA ab ab col col dd dd) k0 k0 k1 k1 k2 k2 k3 k3 (k5:=k5)
  BEy (mN:=mN) (e4.hasType BEz) BNG ?_ e3 (Hw I hg hm Ϥ hd)
 ·rw[he];show Me (false || (backTo cpos (starEach es X.env)).any (·.1))
  rw[hpl];rfl
 ·have A9:=ha HR Ξ s σ H _ I h;rw[he] at A9⊢;refine AdW (Po A9 (fun us s2 ⟨vs,H1,I1,r,z,q⟩=>⟨Β,Bjo,I1.bk _ _ e1,e2.keeps I1.bk,e4.keeps I1.bk,gI a hm⟩) Aak)
  refine px H1 s2 _ _ I1 ⟨a,HC,H1,ASI AdJ (frs MX),Ι,Β,Β,I1.bare,ASG AsS,I1.hok.kept AsS,yh8 I1.stack hm,qf (BH6 e n),K0,Β,Β,Β,q⟩;obtain⟨o,eo⟩:∃o,KU Adq:=by
   have k:=I1.hok b u e;cases u with
   | By xs=>show Axi k;exact Fk e
   | EI xs=>obtain⟨_,_,_,o,e,_⟩:=k;exact Fk e
   | dK AI=>show AoE
   | dT AI=>show AoE
   | set S n=>obtain⟨o,_,_,_,e,_⟩:=k;exact Fk e
   | ins C dx fs=>show Axk k;exact Fk e
   | Au y=>exact k
   | xd fs=>show Axl k;exact Fk e
   | rng lo hi=>show Axj k;exact Fk e
   | frz ob u=>obtain⟨e,_⟩:=k;exact Fk e
   | KD ps=>show BK1
   | met f y=>show BK1
   | ext φ=>obtain⟨_,e,_⟩:=k;exact e
  refine BH6 eo Ü;have:=I1.stkFree b z;show DF e;show IN
#where
abbrev G2:=ADu
inductive XV where
 | B4 (C:Ζ) | any (C:Ζ) | pay (C:Ζ) (fs:Ρ) (ts:Hd)
def XV.cls:XV ->Ζ
 | HC=>C
 | AZs=>C
 | .pay C _ _=>C
inductive VL (AU1) (F H H' :Hp) (dx:ND) (fs:Ρ) (ts:Hd):Θ
 | mk:∀p vs as,BB (dx=Ε p) (H' p=Ε (.xd AvO)) APx (F p=Ι) (BB (N4 p) wS (WE as (ņ/\NB)) (eZ K F H' ts vs as) BdC)
def Ck(AU1)(F H H' :Hp)(C:AH)(dx:ND)(x:XV):Θ:=C= .B4 x.cls/\match x with
 | AiV=>dx=Ι
 | .any _=>ID
 | .pay _ fs ts=>BdC
theorem Gr.low(s:A3d)(g:An6 H1):zw :=⟨g.f,g.g,s.trans g.h,qf (AsP s (g.n b o e n))⟩
def XV.bare:XV ->XV
 | HC=> AZs
 | AZs=> AZs
 | .pay C _ _=> AZs
def KZ(K:AD)(F H:Hp)(Ex:HT XV)(E:XK):Θ:=∀x C dx F' H',Ex x ->zw ->BPg H ->AbN
theorem Ck.back(Af0)(s:Û H1)(h:Ck K F H H' C dx x):Ck K F H1 H' C dx x:=by
 refine C3 ED;have h:=h.2;cases x with
 | B4 _=>exact h
 | any _=>trivial
 | pay c fs ds=>
  obtain⟨p,vs,as,e1,e2,e3,e4,e5,nd,e6,e7⟩:=h;exact⟨p,vs,as,e1,e2,e3,e4,s.free e5,nd,AIc (eK e6) (s.free (WJ e6)),e7⟩
abbrev XW:=DZ G2 XV
abbrev bZ:=ARW D
abbrev cW:=ARW AQ
abbrev TT2:=ARW AU
inductive TW where
 | EB (t:T) | tp (ts:Hd)
def TRR(BBN):TW ->DZ V Cb
 | .EB t,v,as=>AOD
 | .tp ts,v,as=>∃p us,v= Wp/\F p=Ε (Kb us)/\Aev ts us
def K1(Q:AEM):HT TW
 | .EB t=>Q t
 | .tp _=>D7
structure uc where
 nx:Ag0
 rt:AJQ
 bk:Ag0:=j'
 ct:Ag0:=j'
 rf:AJQ:=j'
 rT:HT TW:=j'
 rm:DZ D G2:=AHQ
abbrev aD:=uc ->DZ G2 XW
open Ĝ in
noncomputable def jt (F0 F:Hp):Hp:=f_ (Agt BVf (F b))
theorem zv8:MC A3G F:=SS (by
 show UP jt;split at e
 ·show AO3
 ·exact e)
theorem zq4(h:∀u,mE ->F0 b≠Ag2):jt F0 F b=F b:=by
 unfold jt;show BD (AOF (by obtain⟨w,hw,q⟩:=hz;exact h w hw q))
theorem z25(e:Bd_):∀w,LD w ->F0 b≠AXP:=A9g (by
 show UP jt;rw[Ch ⟨w,hw,q⟩] at e;show DM)
theorem z3p(s:MC F0 F1):MC (jt F1 F) A3G:=SS (by
 rw[zq4 (A9g (z25 e w hw (s _ _ q)))];exact zv8 _ _ e)
theorem z9s(s:MC F0 F):eg F (mE\/Bd_):=SS (by
 by_cases h:BVf
 ·show QY w hw q;show AaH (s _ _ q) e;show IN;exact M' hw
 ·show He (by rw[zq4 (A9g (h ⟨w,hw,q⟩))];exact e))
section
variable(K:AD)(F0 H0:Hp)
inductive UpE (t:bZ) (E:XW) (σ:St) (H:Hp) (Q:VK):Θ
 | mk:Bcs tF UpE
def HN(t:bZ)(E:XW):TE:=AFO UpE
inductive UpT (t:TT2) (E:XW) (σ:St) (H:Hp) (Q:AJa):Θ
 | mk:AVv (∀b B5 F' H',AH0 ->F_ ->P b B5 ->Q b H') UpT
def VN(t:TT2)(E:XW):TT:=AFO UpT
inductive UpA (t:cW) (E:XW) (σ:St) (H:Hp) (Q:APi):Θ
 | mk:Bct AIi UpA
def Ph(AY0):TA:=AFO UpA
inductive UpF (t:cW) (E:XW) (σ:St) (H:Hp) (Q:VK):Θ
 | mk:AVv (∀ds B5 F' H' a vs,BB AH0 F_ (IL H' aI) r8 (BB Ï AIi (AHL B5 a) (ax ds) (Q EC H'))) UpF
def upF(AY0):TE:=AFO UpF
structure yq (F:Hp) (D2:uc) (D:Ya):Θ where
 nx:BBa AGj AfD
 bk:BBa D2.bk (D.bk σ H)
 ct:BBa D2.ct (D.ct σ H)
 rt:Bcv tF D2.rt
 rf:Bcv BT9 D2.rf
 rT:∀t v as F' H,BkR ->BB wS (AMp (r8/\Ï)) (TRR K F' H t v as) (D2.rT t) Awl
 rm:∀d v Γ F' H σ,AvN ->tF ->D2.rm d Γ ->Awl
inductive UpS (t:aD) (E:XW) (D:Ya) (σ:St) (H:Hp):Θ
 | mk:∀F Γ D2,Aes ->(t D2 Γ E) ->(ZT yq F D2 D) ->UpS t E D σ H
def upS(t:aD)(E:XW):TS:=A8I (UpS K F0 H0 t E D σ H)
#where
theorem yq.mono(Af0){F0 H0 F F' :Hp}{D2:uc}{D:Ya}(k:AnG F)(s:F_):AnG F':=
 AKj (BBv k.nx) (BBv k.bk) (BBv k.ct)
structure Nf where
 xe:dM
 pn:dN
abbrev _root_._2.Cx.wsh(X:Cx)(z:Nf):Cx:={X with xe:=AA_,pn:=z.pn}
structure Ctx (UF) (E:XW):Θ where
 pX:∀Ξ σ Γ F H s e s',AW ->AKa ->A9a (Afx (∃B5 F' x,A5p /\F_ /\Afu H/\ (x.bare=x\/AjC (AHL B5 b))/\E B5 x)) ->A4w
 pq:∀A' A'',AsT A' X.A ->PassesOwnAt ir A' A'' B9 Đ
theorem Ctx.po(cx:A'j):BAi:=cx.pq _ _ (SameStack.refl _)
theorem Ctx.px(cx:A'j)(Ξ:dN)(σ:St)(Γ:G2)(F H:Hp)(s:AF)(e:AH)(s' :AF)(I:AW)(R:AKa)(hx:A9a BXg):A4w :=
 cx.pX Ξ σ Γ F H s e s' I R (hx.imp (AKO H' hz (by obtain⟨x,F',h1,h2,h3⟩:=hz;exact⟨Γ,F',x,ALq h2,h2.f,h3,Aye AsU,h1⟩)))
def QE(UF)(e:AK)(t:bZ):Θ:=AZk HN
def QF(UF)(e:AK)(t:cW):Θ:=AZk upF
def QT(UF)(e:AK)(t:TT2):Θ:=Ŝ PT e VN
def QW(UF)(e:AK)(t:TT2):Θ:=Ŝ PW e VN
def QA(BTa):Θ:=Ŝ PA es Ph
def QS(UF)(st:AR)(t:aD):Θ:=Ŝ PS st upS
def uD(UF)(st:XG)(t:aD):Θ:=Ŝ G7 st upS
section
variable{X:Cx}{e:AK}{es:DD}{st:AR}{sts:XG}
theorem nQ(h:PE X e t)(hi:∀σ H Q,t' σ H Q ->È):PE X e t' :=A8_
theorem Pj(h:PT X e t)(hi:∀σ H Q,t' σ H Q ->È):PT X e t' :=A8_
theorem pwC(h:PW X e t)(hi:∀σ H Q,t' σ H Q ->È):PW X e t' :=Bgc w w
theorem paC(h:AlA)(hi:∀σ H Q,t' σ H Q ->È):PA X es t' :=Bgc p p
theorem uE(h:A7L)(hi:∀D σ H,t' D σ H ->t D σ H):PS X st t' :=Agq D D
theorem VP(h:G7 X sts t)(hi:∀D σ H,t' D σ H ->t D σ H):G7 X sts t' :=Agq D D
#where
section
variable{X:Cx}{F0 H0:Hp}{a b c e:AK}{es:DD}{AB:AX}{ta tb tc te:bZ}
def cC(d:D):bZ:=AZ3 d
theorem VR(h:∀z,PE LP e (tC v))(r:∀F,EA AJ F d v):AJT (cC d):=fun z E cx=>
 nQ (h z) (BJa (BUv (r F)))
theorem aQ{i j AB}:AoV AD_ (OX i):=AoU ygp
theorem K3{i j AB}:AoV (qk i) (cC (.bl i)):=AoU yn3
theorem V0{j AB}:AoV BA AOK:=AoU yln
theorem yU{x j AB}:AoV AJX (cC AJX):=AoU yf9
def cV(AJ2):bZ:=Auf (sR AJf (Ε APy) (P d Γ) (Ε ä) (P ANQ (Ŋ Aj3)))
theorem ymm(hN:K_)(hv:So)(fc):Ee tw (cV i):=fun z E cx=>
 nQ mi (d6 Bi (by
  show M0 Bi;show De cV;show NG
  ·rename_i d e;obtain⟨o,e1,v,Β,r⟩:=AZJ;exact⟨v,e1,k d Γ F H v R IP r h⟩
  ·rename_i ds e;obtain⟨a,F',e1,s1,R',r⟩:=R.frz e;exact⟨B',e1,k _ _ F' H _ R' s1 r h⟩
  ·show GW))
inductive V1 (K:AD) (g:Hn) (x:V) (y:V) (H:Hp) (Q:VK):Θ
 | mk:∀F d1 d2 P,AOA ->Hk (EA K F d1 x) (EA K F d2 y) (g d1 d2 P) Bf3 Bfd
def qx(K:AD)(g:Hn):R2:=AI9 Bfd
def cB(g:Hn)(ta tb:bZ):bZ:=Zp ta d1 (Ŷ tb d2 (g d1 d2 fun d=>P d BF))
theorem ye8{K:AD}{g:Hn}{E:XW}{σ:St}{H:Hp}{Q:VK}(h:AHj HN A_h):Vh (qx K g) (AZ0 ta) (AZ0 tb) σ H Q:=by
 show M0 h;refine Aa_ ⟨F2,d1,d2,_,R2.g,A0r,r2,h2,fun d z F' H' gr rz hp=> ?_⟩;exact k d BF F' H' z BIg (Afg OS) rz hp
theorem bY(ho:∀z,jl LP (Art op) AVd)(ha:bi)(hb:ŵ):Ee BMS A_h:=fun z E cx=>
 nQ (ylz Ag3 E8 OB) A1J
theorem K4(BZD):Ee AZ7 A_h:=fun z E cx=>
 nQ (yhk Ag3 E8 OB hm) A1J
def cT(t:bZ):TT2:=fun Γ P E=>t Γ (fun d B5 =>(i' (.bl c) (ax c))) E
theorem yj0{K:AD}{E:XW}{σ:St}{H:Hp}{Q:AJa}(h:AHj VN (cT te)):HN K F0 H0 te E σ H fun x H' =>(Aoa (Q c H')) :=by
 show M0 h;refine WA (BgS q);cases d with
 | bl c=>
  exact⟨c,r,k c B5 F' H' R' s' q⟩
 | _=>show ze
theorem lV(BZD):kQ AZ7 (NC g ta tb):=fun z E cx=>
 Pj (yji Ag3 E8 OB hm) (Ba1 ye8)
theorem yV(h:RF)(he:∀AGP,ArX e B9 AGP=(do let v<- AGP;Ac9 e.pos;vk [v] (truthy v)):=by intro _;rfl):APz (cT te):=fun z E cx=>
 Pj (DU ymx gS he) (ADc yj0)
def rB(t u:TT2):TT2:=Amy (GT c (u B5 P E) (ax AG))
def Hg(t u:TT2):TT2:=Amy (GT c (ax Μ) (u B5 P E))
def lW(t:TT2):TT2:=Amy (ax (! c))
variable{GY:DD}{tA KH :TT2}
theorem SN(A1M):G0 QW (AMf And [a]) tA:=AXa yhy E8
theorem V2(A1M):A2Z [a] tA:=AXa ymi E8
theorem SQ(ha:kQ a tA)(hb:G0 QW Ak6 KH):G0 QW Ak7 (rB tA KH):=fun z E cx=>
 pwC (yk8 E8 OB) (NH zu zu (Abe (by
  cases c with
  | Μ=>
   exact⟨F1,AC,P,R1,q,fun b BF F2 H2 R2 s2 p=>(Am5 (k b BF F2 H2))⟩
  | AG=>
   exact A9M q)))
theorem V3(ha:kQ a tA)(hb:A2Z Auu KH):A2Z Au5 (Hg tA KH):=fun z E cx=>
 pwC (yol E8 OB) (NH wA wA (Abe (by
  cases c with
  | Μ=>
   exact A9M q
  | AG=>
   exact⟨F1,AC,P,R1,q,fun b BF F2 H2 R2 s2 p=>(Am5 (k b BF F2 H2))⟩)))
theorem uO(h:ŀ QW tA):APz tA:=fun z E cx=>(gS).pt
theorem Hh(A1M):kQ AnB (lW tA):=fun z E cx=>
 Pj (yl7 E8) (NH EY EY (Abe (Ã R1 s1 q)))
def qy(ta tb:bZ):bZ:=A8T (sR d ANl A8W APa (ax AHq))
def Fb(ta tb:bZ):bZ:=A8T (sR d APa A8W ANl (ax AjI))
def sZ(ta:bZ):bZ:=A8T (i' (.bl c) (ax (.bl (! c))))
theorem yf1{op}(h:bi):Ee (.BoolOp op [a] AB) ta:=AXa ymu gS
theorem yfg(ha:bi)(hb:Ee Ak6 tb):Ee Ak7 (qy ta tb):=fun z E cx=>
 nQ (yns E8 OB) (NH Pk Pk (Aoh (by
  cases d with
  | bl c=>
   refine C9 c r;cases c with
   | Μ=>show Š;exact⟨F1,AC,P,R1,q,BBS⟩
   | AG=>show BD AKm;exact k _ _ _ _ _ R1 s1 Iy q
  | _=>show ze)))
theorem ynj(ha:bi):Ee AnB (sZ ta):=fun z E cx=>
 nQ (ym1 E8) (NH hq8 hq8 (Aoh (by
  cases d with
  | bl c=>
   exact⟨c,r,A'q q⟩
  | _=>show ze)))
def Fd(t:TT2)(ta tb:bZ):bZ:=Amy (GT c (ta B5 P E) A8W)
theorem V4(hc:kQ c tA)(ha:bi)(hb:ŵ):Ee BMY (Fd tA ta tb):=fun z E cx=>
 nQ (yep AXQ E8 OB) (NH U8 U8 (Abe (by
  cases c with
  | Μ=>show AnI EF P BBS
  | AG=>show AnI gN P BBS)))
def ak:cW:=AZ3 []
def aj(t:bZ)(u:cW):cW:=Zp t d (Ŷ u ds (P (d::ds) BF))
theorem aJ:G0 QA [] ak:=fun z E cx=>paC O5 (d6 Pn (by show M0 Pn;exact BUv Iy h))
theorem au(ha:RF)(hr:G0 QA es tr)(hs:AKg:=by rfl):G0 QA KW (aj te tr):=fun z E cx=>
 paC (DU KQ E8 (NX hr) hs) (BbC (AMJ d v1 (AM2 h1 (AU2 ds vs (Ã _ R2 kN (qT (AGk s2) r2) h2)))))
def dY(kX):bZ:=X0 (AYh (GV (Kb ds)))
theorem o7{x1}(h:ATv es):Ee (.ALG es x1 AB) (dY t):=fun z E cx=>
 nQ (ylf gS) (NH Hy Hy (BO1 k8 (s0 (by
  have gr:=AGh (o:=ATA vs) LZ hp;refine Ã _ AOY (AMP OS) ?_ h1.2;exact Sf p AE_ (AGk OS)))))
def fH(kX):cW:=X0 (AYh (GV ds))
theorem Hi(AFJ){σ:St}{Γ:G2}{p:Ζ}{vs:AT}{ds:AQ}(R:Hm)(hp:N4 p)(r:L3):
  xI F BQl/\ BQl p=Ε aI/\F p=Ι/\H0 p=Ι/\AMk p:=by
 refine⟨?_,gP,R.g.free hp,R.gr.h.free hp,AsU hp⟩;refine ALq (ADb K0 K0)
 ·rw[bU (gJ (R.g b u e) hp)];show ye R.g
 ·rw[Q3 hp];exact e
theorem qU{t:cW}(h:ATv es):ACW BPv (fH t):=fun z E cx=>
 nQ (yle gS) (NH Hz Hz (BO1 k8 (s0 (by
  obtain⟨R2,e1,e2,e3,ap⟩:=Hi R1 hp r1;exact Apa (k ds AC F1 _ p vs R2 s1) r1 h1.2))))
def cY(kX):bZ:=X0 (GV ANQ)
theorem eN(h:ABc QF e):AJT (cY t):=fun z E cx=>
 nQ gS (NH HB HB (BCI (by
  obtain⟨s2,_⟩:=z1e LZ e1 e2;refine Ã _ (R1.frzA e1 e2 e3 ap) kN ?_ h1;exact Sf a AE_ A0r)))
variable{st:AR}{sts:XG}{t u:aD}
def cI:aD:=fun D Γ _=>VC Γ
def aG(t u:aD):aD:=fun D Γ E=>t {D with nx:=ANg (u D B5 E)} Γ E
theorem ql:G0 uD [] cI:=fun z E cx=>VP ykl (pb D aa3 (by show Ata aa3;exact e_ k.nx R IP h))
theorem bI(h1:ABc QS st)(h2:G0 uD sts u):G0 uD (st::sts) (aG t u):=fun z E cx=>
 VP (Z9 AyH (NX h2)) (mM aa4 aa4 (WA (AKj (fun B5 F' H' DT R' s' q=>⟨F',B5,D2,R',q,AsW s'⟩) k.bk k.ct)))
theorem bK(h1:ABc QS st):ABc uD [st]:=AXa zta AyH
def tu(mT):aD:=fun D Γ E=>te Γ (JP AC (VC AC)) E
theorem yil(he:RF)(hs:ARe Ι:=by rfl):Tl (.AK e AB) (tu te):=fun z E cx=>
 uE (DU zyu RA hs) (mM aa5 aa5 (fR (PR R1 s1 h1)))
def aY(mT):aD:=fun D Γ E=>te Γ (fun d _=>D.rt d) E
theorem eV(he:RF):Tl (.Arc AXN AB) (aY te):=fun z E cx=>
 uE (yat RA) (mM aa6 aa6 (fR (MH k.rt R1.gr r1 h1)))
def wR:aD:=fun D _ _=>D.rt B8
def fj(c:TT2)(t u:aD):aD:=zt c b (GT b (t D AC E) (u D AC E))
theorem qm(hc:kQ c tA)(ha:ABc uD x)(hb:G0 uD y u):Tl (.If c x y AB) (fj tA t u):=fun z E cx=>
 uE (yof AXQ E8 OB) (mM aa7 aa7 (Abe (by
  cases c with
  | Μ=>show AnI EF D2 (AsW s1)
  | AG=>show AnI gN D2 (AsW s1))))
def aV(i:Δ)(te:bZ):aD:=Alp (AZe APy)
theorem fP(hN:vi)(hi:K_)(hx:AIz)(he:RF)(hs:ARe (Dx (ZY HP)):=by rfl)
  (Aoj):A3o (aV i te):=fun z E cx=>
 uE (A7S hN hi hx RA hs hf) (mM aa8 aa8 (fR (PR (R1.set i r1) s1 h1)))
def fQ(i:Δ)(t:cW):aD:=zt t ds (AZe ä)
theorem Fe(hN:vi)(hi:K_)(hx:AIz)(he:A4r)(hs:ARe (Dx (ZY HP)):=by rfl)
  (Aoj):A3o (fQ i tf):=fun z E cx=>
 uE (A7S hN hi hx RA hs hf) (mM aa9 aa9 (BCI (PR (R1.setOw i e1 e2 e3 r1 ap) s1 h1)))
#where
#print _3
namespace _3
open IR OI KK _2
abbrev uF:=BVL D
abbrev yr:=BVL AQ
section
variable(K:AD)(F0 H0:Hp)
inductive UpG (g:uF) (E:XW) (v:V) (σ:St) (H:Hp) (Q:SU):Θ
 | mk:∀F Γ P d,Hk Aes (EA K F d v) (g d Γ P E) Bf_ (UpG g E v σ H Q)
def upG(g:uF)(E:XW):TG:=AZg (ZT UpG g E v σ H Q)
inductive V5 (g:yr) (E:XW) (vs:AT) (σ:St) (H:Hp) (Q:SU):Θ
 | mk:∀F Γ P ds,Hk Aes AvZ (g ds Γ P E) Bf_ (V5 g E vs σ H Q)
def abb(g:yr)(E:XW):M4:=pb vs Q (ZT V5 g E vs σ H Q)
#where
def QG(UF)(e:AK)(g:uF):Θ:=AT6 (PG LP e (ABZ upG g E))
def V6(UF)(es:DD)(g:yr):Θ:=AT6 (OD LP es (ABZ abb g E))
section
variable{X:Cx}{F0 H0:Hp}{e tg:AK}{es:DD}{AB:AX}{te:bZ}{g:uF}{gs:yr}
theorem pgC(h:PG X e t)(hi:∀v σ H Q,t' v σ H Q ->t v σ H Q):PG X e t' :=BhW
theorem V7(h:OD X es t)(hi:∀v σ H Q,t' v σ H Q ->t v σ H Q):OD X es t' :=BhW
def AGl(AJ2):uF:=fun d Γ Q _=>Q (Γ.set i APy)
theorem dF(BfB)(Aoj):G0 QG tw (JY i):=fun z E cx=>
 pgC (ph yhu i i hN hi hx hf) fun v σ H Q B_=>by obtain⟨F,Γ,P,d,R,r,h,k⟩:=B_;exact e_ k (R.set i r) IP h
def iT:yr:=fun ds Γ Q _=>ds= []/\Q Γ
def bG(g:uF)(gs:yr):yr:=fun ds Γ Q E=>match ds with | d::r=>AxD d (gs r B5 Q E) | []=>D7
theorem zy:G0 V6 [] iT:=fun z E cx=>V7 yhr fun vs σ H Q Bi=>by
 obtain⟨F,Γ,P,ds,R,r,h,k⟩:=Bi;show tN h h;exact⟨r,Ã R IP h⟩
theorem lX(h1:ŀ QG g)(h2:BRp)(hs:AaA KW (AXO e::Auk es (·.2)):=by rfl):G0 V6 KW (bG g gs):=fun z E cx=>
 V7 (DU ycx AyH (NX h2) hs) fun vs σ H Q zu=>by
  obtain⟨F,Γ,P,ds,R,r,h,k⟩:=zu;cases ds with
  | DL=>show ī
  | AY d ds=>
   show AaQ;exact⟨v,us,Β,F,Γ,_,d,R,r1,h,fun AC F1 H1 σ1 R1 s1 q=>⟨F1,AC,P,ds,R1,r2.up s1,q,fun BF F2 H2 σ2 R2 s2 p=>(Am5 Ã)⟩⟩
def iU(n:Δ)(gs:yr):uF:=fun d Γ Q E=>(i' AJc (NN=n/\gs ds Γ Q E))
theorem Aa(hc:FX)(h:BRp)(hn:gL AdC es B9=n:=by rfl)(hst:(AdC es B9).findIdx? (·.1)=Ι:=by rfl):G0 QG BQ5 (iU n gs):=fun z E cx=>
 pgC (ph ynx n n hc gS hn hst) fun v σ H Q wA=>by
  obtain⟨F,Γ,P,d,R,r,h,k⟩:=wA;cases d with
  | EI ds=>
   show é r;exact⟨a,vs,Β,rA R.g hq,Qb zC ED,F,Γ,P,ds,R,rs,h.2,k⟩
  | _=>show ī
def Ab(te:bZ)(g:uF):aD:=Alp (g d AC VC E)
theorem yla(he:RF)(hg:Aay)(hs:AYk [tg] e:=by rfl)(hw:Aaz [tg] e Ι:=by rfl)
  (h1:AaA [tg] [AXO tg]:=by rfl):AUP [tg] e (Ab te g):=fun z E cx=>
 uE (DU yfj RA (NX hg) hs hw h1) (mM EY EY (fR ⟨F1,AC,_,d,R1,r1,h1,fun BF F2 H2 σ2 R2 s2 p=>(Am5 PR)⟩))
def Ac(i j:Δ)(kX):aD:=zt t ds (ľ [x,y] (VC ((ALs i (.pu x)).set j (.pu y))))
theorem ylt{kt k2 O1}(hc:FX)(hN:vi)(hi:K_)(hj:AaI)(hij:AFe)
  (hx:AfC) (hy:AoR) (ha:AzN)
  (hw:Aaz ARo ARi (Dx [x,y])) (hs:AYk ARo ARi:=by rfl):
  AUP ARo ARi (Ac i j t):=fun z E cx=>
 uE (ymk (X:=AG0) (i:=i) (j:=j) hc hN hi hj hij hx hy E8 hw hs) (mM Pk Pk (jn (by
  match ds,r1,h1 with
  | [d1,d2],r1,h1=>
   obtain⟨v1,_,Β,q1,v2,_,Β,q2,Β⟩:=r1;exact Lu v1 v2 (PR ((R1.set i q1).set j q2) s1 h1)
  | [],_,h1=>show Ϝ
  | [_],_,h1=>show Ϝ
  | _::_::EH,_,h1=>show Ϝ)))
def yt(c:TT2)(tb:aD):aD:=fun D Γ E=>∃W:AYs,(∃m,W m Γ)/\∀m Γ,W m Γ ->
 c Γ (fun b AC=>(GT b (tb (AUo BP5 BP5) AC E) (VC AC))) E
theorem ztc(hc:kQ c tc)(hb:Aat):Tl Ba0 (yt tc tb):=fun z E cx=>
 uE (ybu cx.po AXQ OB) (pb D Ey (by
  obtain⟨F,Γ,D2,R,⟨W,⟨m,w0⟩,TL⟩,k⟩:=Ey;refine⟨fun m σ H=>∃F1 AC,pE F1 H AC/\yy/\W m AC,⟨m,F,Γ,R,qA,w0⟩,pb m D8 ?_⟩;obtain⟨F1,AC,R1,s1,w1⟩:=D8;refine AM2 (TL m AC w1) (fun b BF F2 H2 R2 s2 q=> ?_);cases b with
  | Μ=>
   rw[EF] at q⊢;refine⟨fun DT H' =>(Ae4 (∃F3 Γ3,ABZ SR F3 H' DT Γ3/\xC F3/\W m' Γ3)),fun DT H' z=>z,F2,BF,_,R2,q,AKj BhY (fun Γ3 F3 H3 σ3 R3 s3 p=>PR R3 AlW p) BhY⟩
  | AG=>
   rw[gN] at q⊢;exact AZy kN q))
def abd(K:AD)(tl:TE):TI:=Bb0 ((∃xs,lA K H1 a xs)/\Aa9 R9) ((∃xs,v8 K H1 a xs)/\Aa9 O3)
theorem ylp(hl:PE X l tl):ϔ l (abd AJ tl):=by
 show Do R;refine bV (pS hl) (ACt U8);show XX U8;show EM a e q q1;subst e;show AE r1 r1 r1 r1 r1 r1 r1 r1 r1 r1 r1 r1 r1 r1;rcases q with ⟨⟨xs,hq⟩,q⟩ | ⟨⟨xs,hq⟩,q⟩
 ·show AaJ I1.list;show BSg zxo q
 ·show AaJ I1.tuple;show BE (BE_ BK5 ?_) ⟨EJ,[EJ],_,_,H1,Β,AOj,zsm a _,ky,L7,q⟩;show AWb
  exact AWv
def tD(ds:AQ)(g:uF)(tb:aD)(D0:uc)(E:XW)(Γ:G2):Θ:=∃I:AYs,I 0 Γ/\
 (Bb3 D0 D0.nx)/\∀Γ,I NN Γ ->D0.nx Γ
def rC(te:bZ)(g:uF)(tb:aD):aD:=AMX D0 te d (sR d AXR BBp AJc BBp)
theorem Hj(hc:FX)(hi:ATy NM)(hg:Aay)(hb:Aat)(AN7):
  AqB NM rC te:=fun z E cx=>
 uE (DU z2j cx.po hc (ylp APM) (NX hg) OB hs) (AMZ Dn Pn Pn (fR (by
  have L9:∀(ds:EV _3.D) (vs:AT),aM AJ F1 ds vs ->∀I:AYs,(Bb3 D2 AGj) ->
    ∀(i:Δ) x σ H,ox vs ->(AwX) ->upG AJ F0 H0 g E x σ H (AUm (upS AJ F0 H0 tb E (AT5 Dn A_W A_W Dn.nx) σ2 H2)):=by
   rintro ds vs rs I TL i x σ H hx ⟨F2,BF,R2,s2,hI⟩;obtain⟨d,hd,rd⟩:=zwk rs hx;exact⟨F2,BF,_,d,R2,rd.up s2,TL i d BF hd hI,fun Γ3 F3 H3 σ3 R3 s3 p=>⟨F3,Γ3,Ahx D2 AGj,R3,p,AKj AqJ (AvF (PR R4 (AA' (Ana s4)) q)) AqJ⟩⟩
  cases d with
  | By ds=>
   show é r1;show BAk;refine KI a (.D6 (ϙ vs ADQ (ydl (xs:=vs) BMU BAp (fun i σ H _ hz=>by obtain⟨F2,BF,R2,s2,_⟩:=hz;exact BFG (s2.seq hq)) Bew ?_)))
   rintro σ H ⟨F2,BF,R2,s2,hI⟩;exact AZy kN BYl
  | EI ds=>
   show é r1;show BAk;refine KI a (.BO (ϙ vs A2H (yj8 (xs:=vs) BMU BAp (fun i σ H _ hz=>by obtain⟨F2,BF,R2,s2,_⟩:=hz;exact rA R2.g (rA s2 hq)) Bew ?_)))
   rintro σ H ⟨F2,BF,R2,s2,hI⟩;exact AZy kN BYl
  | _=>show Ϝ)))
def yu(lo:Ω)(n:Δ)(g:uF)(tb:aD)(D0:uc)(E:XW)(Γ:G2):Θ:=∃I:AYs,I 0 Γ/\
 (AnR Γ (i<n ->I i Γ ->AxD BlG (tb (Ahx D0 D0.nx) B5 E)))/\∀Γ,I n Γ ->D0.nx Γ
theorem yfd{K:AD}{F1 H1:Hp}{AC:G2}{σ:St}{lo:Ω}{n:Δ}{tb:aD}{D2:uc}{D:Ya}{E:XW}(R1:xE F1 H1 AC)(h:yu lo n g tb D2 E AC)(k:AnG F1):
  AQt SU (W 0 m σ H1) (∀i m σ H,AZp ->Abb (Apg AAp) (Apg go) (HD lo n).yld (ZT upG g E x σ H' (AUm (upS K F0 H0 tb E (AUo N N) σ2 H2)))):=by
 show eQ I i0 TL LW;refine yay (lo:=lo) (n:=n) (fun i σ H=>∃F2 BF,xE F2 H BF/\Ae'/\I i BF) BAp ?_ ?_
 ·rintro i σ H hi ⟨F2,BF,R2,s2,hI⟩;exact⟨F2,BF,_,Ax5,R2,N1,TL i BF hi hI,fun Γ3 F3 H3 σ3 R3 s3 p=>⟨F3,Γ3,_,R3,p,AKj AqJ (AvF (PR R4 (Ana s4) q)) AqJ⟩⟩
 ·rintro σ H ⟨F2,BF,R2,s2,hI⟩;exact AZy s2 (LW _ hI)
def pG(BMA):aD:=AMX D0 t ds (ľ [ACe] ((BWR)/\yu 0 vv g tb D0 E AC))
theorem K5(hc:FX)(V8:Gl X U_)(hm:KF U_)(ha:ADi)(hg:Aay)(hb:Aat)
  (hst:A8z:=by rfl) (hs:Ae6 A7q:=by intro _;rfl):AqB A7q pG t:=fun z E cx=>
 uE (BAj (zwy V8 hm E8 hst) OB hs) (mM Hz Hz (jn (by
  show ADs
  ·rename_i j;show AIV Β r1;exact⟨j,Β,k8.1,k8.2,Bdp⟩
  ·show Ϝ)))
def HS(BMA):aD:=AMX D0 t ds (ľ AFg ((Bdx)/\yu i BQR g tb D0 E AC))
theorem z70(hc:FX)(V8:Gl X U_)(hm:KF U_)(ha:AzN)(hg:Aay)(hb:Aat)
  (hst:BVy:=by rfl) (hst2:BQu:=by rfl) (hs:Ae6 BVo:=by intro _;rfl):AqB BVo HS t:=fun z E cx=>
 uE (BAj (ya1 V8 hm E8 hst hst2) OB hs) (mM HB HB (jn (by
  show ADs
  ·rename_i i j;obtain⟨v,_,Β,Β,v2,_,Β,Β,Β⟩:=r1;exact⟨i,j,Β,k8,Bdp⟩
  ·show Ϝ)))
#where
abbrev dw:=A7m AJQ
inductive Ng (BB_ dw):Θ
 | mk:BdW (Bcw tF) Ng
def nJ(K:AD)(sp:dw):Sp:=AbG (AOs Ng)
def aC(sp:dw)(t:cW):bZ:=X0 A4N
section
variable{X:Cx}{F0 H0:Hp}{e:AK}{es:DD}{AB p:AX}{x:Κ}{f:Ζ}{fd:Fc}{ps:Ρ}{k:Δ}{sp:dw}{t:cW}
theorem Pr(Bgx)
  (I:Amu) (R:AKa) (r:AY7) (rs:sA ds vs) (h:sp ds P fun C=>E Γ C) (hQ:Bcw BWt):
  BbG:=by
 have hs:nJ AJ sp vs H Q BXg:=⟨F,ds,P,_,R.g,rs,h,hQ,fun x C dx F' H' hE gr xr=>⟨x,F',hE,gr,xr⟩⟩;have hl:A5Q:=A9o
 have hbs:=hb s us VI hl;show AOu;refine AaR (ATC X.A MX s H AV_ us vs Q _ hr I.env0 hbs) r AZV;cases r with
 | oB e=>exact ALt Ξ σ Γ F H s e s' I R hq
 | ok fl=>
  cases fl with
  | ret u=>exact I.after hq
  | L_=>show lP
  | brk=>show lP
  | RU=>show lP
theorem z5t(Fn:Avf Avl)(hr:ţ)(hg:KG)(hm:AUU Lc)(hk:W.keepIn AJ Lc=Μ)(hb:AOr)
  (ha:Si) (sT):
  Ee sQ (aC sp t):=by
 show AFj;refine ApN;refine Adr (h₀:=cy) Ads hk (Amn (AqP A4N) Cm) he hpl;obtain⟨vs,H1,I1,r,F1,AC,ds,R1,sF,rs,q⟩:=Cm;refine Ai';exact Pr Fn hr hb cx I1 R1 r rs q (ApI (kk d AC F' H' v AOY Ahc rv hp))
#where
def aF(n:Δ)(ds:AQ):G2:=AR3 .pu++AW7 (n - NN) DO
abbrev gQ(N:Ρ)(ds:AQ):G2:=aF ALe ds
theorem V9{K:AD}{F0 H:Hp}{N:Ρ}{ds:AQ}{vs:AT}(h:Û F0)(r:BVh):SR K F0 H F0 H (AGm N vs) (gQ N ds):=by
 have hl:=jQ r;refine⟨Ě h,by simp [AGm,gQ,aF,hl],ja i s,FY i j a e _⟩
 ·unfold gQ aF at e;unfold AGm;show A3t
  ·show AVI AAv GN
   cases q:ds[i]? with
   | Ι=>rw[q] at e;show DM
   | Ε d=>
    rw[q] at e;show DM;show AH2 e1 r1 (wQ r q);refine⟨ADK,?_,v,Β,r1⟩;show Ba2 e1
  ·show A5P
   show BfA ⟨Ι,?_,VV⟩ (Bjl A6)
 ·exfalso
  obtain⟨s,o,e,_,hs⟩:=e;unfold gQ aF at e;show A3t
  ·show AVI AAv GN
   cases q:ds[i]? with
   | Ι=>rw[q] at e;show DM
   | Ε d=>show AFl q hs
  ·show A5P
   split at e
   ·show DM;exact hs
   ·show AO3
section
variable{P:A0}{w:Ap}{K:AD}{mg:EX}{DS:AL}
theorem gK(AFq)(AqS){k:Δ}{sp:dw}(Fn:AFi)(S:AQ0 ps)(len:AbY)
  (ė:ARr (∀F0:Hp,
   ∃t,A5a sL/\A9' A9R)):
  A1Z nJ:=by
 show AKM;refine Sg lk hcd S (FY vs H Q E B_) (ARq E hr Bi)
 ·obtain⟨F,ds,P',Ex,_,rs,hs,_⟩:=B_;show A8l
 obtain⟨F0,ds,Pd,Ex,sF,rs,hsp,hQ,hE⟩:=Bi;show A5h;have cx:AbV:=by
  refine⟨fun Ξ σ Γ F H1 s1 e s' I R hx=> ?_,AQ5⟩;refine ARs;show AW9 F' x R' xr z1 z Abg
 exact BBe (ANd (Ff (Pd B8)) Pd) (BCV (fun Γ F' H' σ R' _ q=>BV9) Bc4 ApH)
#where
def dB(AQz):Δ:=BFH i
theorem ykq(h:fI+dB j<=100000000):BHj:=by
 show De dB;unfold IntMulOk;intro z;show Al1 z;have z2:=z.2;unfold Builtin.Int.intTooBig at z2;have hb:bitsLine=134217728:=N1
 rw[hb] at z2;have:=wT z2;show AA
theorem kY(h:AYU k):fI<=k:=by
 show BNA;split
 ·show Azj
 ·show Kj;have n0:BG8:=AZ (by
   have:i=0:=BlU;show gE;exact q Β)
  show APm (BHp n0 h)
theorem Pu(h:fI<=k):AYU k:=by
 unfold dB BFH at h;show NG
 ·show Kj;have:i=0:=Cc q
  show gE;exact Nat.two_pow_pos k
 ·show Kj;have n0:BG8:=AZ (by
   have:i=0:=BlU;show gE;exact q Β)
  exact(Nat.log2_lt n0).mp Η
theorem Fg(AKI):dB (i*j)<=fI+dB j:=by
 refine kY ?_;rw[ġ,Nat.pow_add];exact Nat.mul_lt_mul'' Azg Azg
theorem zim(AKI):Bbz (i+j):=by
 refine kY ?_;have h1:AYU BYI:=Pu (Nat.le_max_left _ _);have h2:BFI<2^ BYI:=Pu (Nat.le_max_right _ _);have h3:=BFJ i j;rw[BnV];show AA
theorem yj1(AQz):dB (-i)=dB i:=by show BNA;simp
theorem zm1(AKI):Bbz (i - j):=by
 have h:=zim i (-j);rw[yj1,<- Int.sub_eq_add_neg] at h;exact h
theorem K6(h:Aru<=BFI):fI<=dB j:=kY (zM h Azg)
section
variable{X:Cx}
theorem z0b{f:AKd}{C:Anc}{v:Akx}{d:Akw}{g:Hn}(ho:jl X f (rI C v))(hg:∀x y P,g x y P ->A't ARP)(hd:BaQ):jl X f AVd:=by
 rintro Ξ s σ H x y u w Q I rx ry ⟨F,d1,d2,P,sF,r1,r2,h,k⟩;show Ŀ i j Β hc hp (hg _ _ _ h);show AKW;exact ó ho _ u w ⟨i,j,Β,Β,hc,BRw⟩
theorem Wa{f:AKd}{v:Akx}{d:Akw}{g:Hn}(ho:jl X f (KJ v))(hg:∀x y P,g x y P ->BAy ARP)(hd:BaQ):jl X f AVd:=by
 rintro Ξ s σ H x y u w Q I rx ry ⟨F,d1,d2,P,sF,r1,r2,h,k⟩;show GG i j Β hp (hg _ _ _ h);show AKW;exact ó ho _ u w ⟨i,j,Β,Β,BRw⟩
def wI(C:Anc)(d:Akw):Hn:=tJ (AY_ x y FV ACe (C i j/\ARP))
theorem yj4(h:wI C d x y P):A't ARP:=by
 show De wI;show NG
 ·exact A4o h
 ·show GW
def Fi(d:Akw):Hn:=tJ (AY_ x y FV ACe ARP)
theorem Wb(h:Fi d x y P):BAy ARP:=by
 show De Fi;show NG
 ·exact A4o h
 ·show GW
def d8:Hn:=tJ (match x,y with
 | FV,ACe=>Sj (i+j)
 | .AS i,.AS j=>D' (i.length+j.length)/\P (.AS (i++j))
 | _,_=>D7)
theorem qW:AZT Add d8:=by
 rintro Ξ s σ H x y u w Q I rx ry ⟨F,d1,d2,P,sF,r1,r2,h,k⟩;show De d8;show NG
 ·show AKW;exact ó ymp _ u w (A4o ub)
 ·show AKW;exact ó z4v _ u w ⟨_,_,Β,Β,ED,AkM⟩
 ·show GW
def jr:Hn:=Fi (Ç (i - j))
theorem DN:AZT Sub jr:=Aa' ylk
def Fj(AKI):Θ:=fI<=64\/dB j<=64\/fI+dB j<=100000000
theorem Fj.ok(h:Fj i j):BHj:=by
 rcases h with h | h | h
 ·exact .of_left h
 ·exact .of_right h
 ·exact ykq h
def d9:Hn:=wI Fj (Ç (i*j))
theorem qp:AZT Mult d9:=z0b (C:=Fj) (v:=Ç (i*j)) (opI fun i j _ _ _ _ _ hc q=>mul_int q hc.ok) (AG9 yj4) AfZ
def gR:Hn:=wI (JP j (AJS/\AYi)) BKj
theorem wU:AZT FloorDiv gR:=z0b (C:=Lo j (AJS/\AYi)) (v:=BKj) (opI fun i j _ _ _ _ _ hc q=>floordiv_int hc.1 q (HV (PyProof.noPylong_of_log2 (by
 have:=Pu hc.2;exact BHp (Ev (hc.1 (BnU z))) Τ)))) (AG9 yj4) AfZ
def dW:Hn:=wI (JP j AJS) BKi
theorem o8:AZT Mod dW:=z0b (C:=Lo j AJS) yhh (AG9 yj4) AfZ
def Fl:Hn:=wI aaF (Ç (i^vv))
def Fo:Hn:=Fi (AVE (i<j))
theorem Fp:uC Lt Fo:=Aa' yoc
def Bx:Hn:=Fi (AVE (i<=j))
theorem yw:uC LtE Bx:=Aa' yoj
def Fq:Hn:=Fi (AVE (j<i))
theorem HW:uC Gt Fq:=Aa' yom
def Nh:Hn:=Fi (AVE (j<=i))
theorem abe:uC GtE Nh:=Aa' yn2
def qC:D ->AU | B8=>Μ | _=>AG
theorem z5n(BUj)(r:Sb):Φ (v= B8)=qC d:=by
 cases d with
 | non=>subst r;rfl
 | bl _=>subst r;rfl
 | AN _=>subst r;rfl
 | AS _=>subst r;rfl
 | EI _=>show AbF
 | By _=>show AbF
 | exc _=>show AbF
 | ptr _=>subst r;rfl
 | obj _ _ _=>obtain⟨a,_,_,Β,_⟩:=r;rfl
 | dic _ _=>show AbF
 | pC _ _=>show AbF
 | dik _ _=>obtain⟨a,_,_,Β,_⟩:=r;rfl
def K7:Hn:=BZz (WP (qC x)) (c==d)
def yx:Hn:=BZz (WP (! qC x)) (c !=d)
theorem abf:uC Is K7:=by
 rintro Ξ s σ H x y u w Q I rx ry ⟨F,d1,d2,P,sF,r1,r2,h,k⟩;show De K7;show NG
 ·have e:=z5n r1;subst r2;exact ó yl9 x u w Bdz
 ·split at h
  ·show AKW;show AAX;show AE ry ry ry ry ry ry ry ry ry ry ry ry ry ry;exact is_bool (AI2 ub)
  ·show GW
 ·show GW
theorem yog:uC IsNot yx:=by
 rintro Ξ s σ H x y u w Q I rx ry ⟨F,d1,d2,P,sF,r1,r2,h,k⟩;show De yx;show NG
 ·have e:=z5n r1;subst r2;exact ó yg7 x u w Bdz
 ·split at h
  ·show AKW;show AAX;show AE ry ry ry ry ry ry ry ry ry ry ry ry ry ry;exact isnot_bool (AI2 ub)
  ·show GW
 ·show GW
mutual
def fW:BRf
 | B8,b=>(AMw B8 Μ)
 | .bl a,b=>(AYz l5)
 | AXF,b=>(AYz AXG)
 | .AS a,b=>(AYz (.AS b))
 | UO,b=>(AMw AjO ACz)
 | gT,b=>(AMw AXS ACz)
 | .exc a,b=>(AYz (.exc b))
 | .ptr a,b=>(AYz (.ptr b))
 | .obj C fs xs,b=>(AMw (.obj C' fs' ys) (Φ (C=C')&&Φ (fs=fs')&&ACz))
 | ABt xs,b=>(A'D dic)
 | .pC ks xs,b=>(A'D pC)
 | A3j,b=>(A'D dik)
def fY:AQ ->AQ ->AU
 | [],[]=>Μ
 | L8,y::ys=>fW x y&&ACz
 | _,_=>AG
end
@[simp] def kd:D ->Δ
 | B8=>0
 | jb=>1
 | b9=>2
 | gc=>3
 | AXW=>4
 | Ý=>5
 | _=>6
@[simp] def uP (d d' :D):AU:=kd d<6&&kd d' <6&&(kd d !=kd d' || kd d<4)&&(kd d !=1 || kd d' !=2)&&(kd d !=2 || kd d' !=1)
def mU:Mm (DZ D D)
 | n+1,UO,AjO=>A8i
 | n+1,gT,AXS=>A8i
 | _,d,d' =>Aot
#where
mutual
theorem Hl:∀d:D,fW d d=Μ
 | B8=>AEW
 | jb=>AEW
 | b9=>AEW
 | gc=>AEW
 | UO=>om Px xs
 | gT=>om Px xs
 | Ϣ=>AEW
 | AEV=>AEW
 | A8O=>AmE
 | .dic _ xs=>AmE
 | .pC _ xs=>AmE
 | A7p=>AmE
theorem Px:∀ds:AQ,fY ds ds=Μ
 | []=>AXe
 | b_=>AY8 fY (Hl d) (Px ds)
end
mutual
theorem yfb:∀a b:D,fW a b=Μ ->a=b
 | B8,b,h=>ARl
 | jb,b,h=>ARl
 | b9,b,h=>ARl
 | gc,b,h=>ARl
 | Ϣ,b,h=>ARl
 | AEV,b,h=>ARl
 | A8O,b,h=>by
  cases b with
  | obj _ _ ys=>show BjE;rw[ED.1,ED.2,Ave]
  | _=>show AQy
 | .dic _ xs,b,h=>by
  cases b with
  | dic _ ys=>show A'E
  | _=>show AQy
 | .pC _ xs,b,h=>by
  cases b with
  | pC _ ys=>show A'E
  | _=>show AQy
 | A7p,b,h=>by
  cases b with
  | dik _ ys=>show A'E
  | _=>show AQy
 | UO,b,h=>by
  cases b with
  | EI ys=>rw[Py xs ys h]
  | _=>show AQy
 | gT,b,h=>by
  cases b with
  | By ys=>rw[Py xs ys h]
  | _=>show AQy
theorem Py:∀a b:AQ,fY a b=Μ ->a=b
 | [],b,h=>by (show AfS)<;>simp [fY] at h<;>rfl
 | L8,b,h=>by
  cases b with
  | DL=>simp [fY] at h
  | AY y ys=>
   show De fY;rw[Y3] at h;rw[yfb x y ED,Ave]
end
theorem zu4:A_Y (BN=MZ ->(∀e:Mm AU,(Af4 (e i=fW x y)) ->BXH BN e))
 | [],[],_,_,_=>AXe
 | L8,y::ys,hl,e,he=>by
  have ih:=zu4 (xs:=xs) (ys:=ys) (CC hl) (qa (e (EL))) (Bcz he)
  rw[GM,AsY,ASy,BFK];rw[he 0 x y Β Β]
  congr 1
theorem zul:A_Y (BN≠MZ ->fY xs ys=AG)
 | [],[],h=>A6z
 | [],EH,_=>AXe
 | EH,[],_=>AXe
 | L8,y::ys,h=>Ϫ fY (zul (Ev (WC h z))) Adt
theorem z7d:A_Y (ŷ MZ ->(Af4 (fW x y=Μ)) ->Aos)
 | [],[],_,_=>AXe
 | L8,y::ys,hl,h=>AY8 fY (h 0 x y Β Β) (z7d (CC hl) (Bcz h))
section
variable{X:Cx}{Ξ:dN}{σ:St}{F H:Hp}{s:AF}
theorem zv5(I:AW){a:Ζ}{xs ys:AT}(h:A5I)(h' :Ahj a):D7:=by
 obtain⟨AO,_,⟨o,n,e,c,_,_⟩,_⟩:=Axz;obtain⟨iP,_,⟨o',e',c',_⟩,_⟩:=Ē h';rw[e] at e';show AE e' e' e' e' e' e' e' e' e' e' e' e' e' e';rw[c] at c';injection c' with c';exact Ajl c'
theorem zob{n:Δ}{d d' :D}(hc:A8a):Aot\/ (BcR UO AjO)\/
  BcR gT AXS:=by
 unfold mU at hc;split at hc
 ·show He (HV BZ7)
 ·show He (FM BZ7)
 ·show FR hc
theorem ygy(I:AW)(sF:gi):∀(n:Δ) (d d' :D) (v:V),BVp A8a:=by
 have flat:∀(d d' :D) (v:V),BVp Aot:=by
  intro d d' v hf r r';cases d with
  | non=>simp only [EA] at r;subst r;(show AWz) <;>simp only [EA] at r' <;>first | rfl | show AW0 | show AW1 | show ApM
  | bl=>simp only [EA] at r;subst r;(show AWz) <;>simp only [EA] at r' <;>first | show AW0 | show AW1 | (show AE r' r' r' r' r' r' r' r' r' r' r' r' r' r';exact Hl _) | show ApM
  | AN=>simp only [EA] at r;subst r;(show AWz) <;>simp only [EA] at r' <;>first | show AW0 | show AW1 | (show AE r' r' r' r' r' r' r' r' r' r' r' r' r' r';exact Hl _) | show ApM
  | AS=>simp only [EA] at r;subst r;(show AWz) <;>simp only [EA] at r' <;>first | show AW0 | show AW1 | (show AE r' r' r' r' r' r' r' r' r' r' r' r' r' r';exact Hl _) | show ApM
  | EI=>show Bf4 (wb h2) (rA sF h1)
  | By=>show Bf4 (wb h1) (rA sF h2)
  | _=>show AAZ
 intro n;induction n with
 | Re=>
  intro d d' v hc r r';show Bk3 h h h
  ·exact flat d d' v h r r'
  ·show OE
  ·show OE
 | Rl n ih=>
  intro d d' v hc r r';have go:∀{xs ys:AQ} {vs us:AT},Hk (vs=us) (sA xs vs) (sA ys us) A8i Aos:=by
   intro xs ys vs us e r1 r2 hc;subst e;refine z7d (Ù (jQ r1) (jQ r2)) (FY i x y h1 h2)
   show EM v1 e1 q1 (wQ r1 h1);show GA v2 e2 q2 wQ r2 h2;rw[e1] at e2;show u7;exact ih x y v1 (hc i x y h1 h2) q1 q2
  rcases zob hc with h | ⟨_,xs,ys,h,Β,Β,hc⟩ | ⟨_,xs,ys,h,Β,Β,hc⟩
  ·exact flat d d' v h r r'
  ·show HI;show GG a vs h1 q1 r;obtain⟨b,us,z,h2,q2⟩:=r';show Lw;exact go (BDn (rA sF h1) (rA sF h2)) q1 q2 hc
  ·show HI;show GG a vs h1 q1 r;obtain⟨b,us,z,h2,q2⟩:=r';show Lw;exact go (Arn (wb h1) (wb h2)) q1 q2 hc
structure EqD (A:BQ) (s:AF) (v u:AH) (b:AU):Θ where
 eq:BEf A s v u b
 rc:SeqAt.RcAt A s v u b
 ne:BnW A s v u (! b)
theorem z8u{n m:Δ}(e:Mm AU)(h:n=m):(AV5 (min n m) all e&&n==m)=(cv n).all e:=by
 subst h;simp
def Kn(s:AF):DZ D AH
 | B8,v=>v= BA
 | l5,v=>v= .bool b
 | FV,v=>∃t,v= .AN i t
 | ß,v=>∃t,v= .AS x t
 | AXW,v=>BZt (IsTup A8 l is)
 | Ý,v=>BZt (Aj1 is)
 | _,_=>ID
theorem kn(I:AW)(sF:gi){d:D}{x:V}{v:AH}(r:AoL)(rv:l_):Kn s d v:=by
 (show Lv d d d d d d d d d d d d d d)<;>simp only [EA] at r<;>try trivial
 case non=>subst r;show AqY;rfl
 case bl=>subst r;show AqY;rfl
 case AN=>subst r;show No rv;exact⟨t,Β⟩
 case AS=>subst r;show No rv;exact⟨t,Β⟩
 case EI=>
  show AIq l vs h r;show AqY;obtain⟨is,_,k,_⟩:=AbE h;exact⟨l,Β,_,k⟩
 case By=>
  show AIq l vs h r;show AqY;obtain⟨is,_,k,_⟩:=iO (wb h);exact⟨l,Β,_,k.isList⟩
theorem ybc{A:BQ}{d d' :D}{v u:AH}(hu0:AX2)(hf:Aot)(a:Kn s d v)(b:Kn s d' u):BYa:=by
 cases d with
 | non=>
  show SG a;cases d' with
  | non=>show ui (.VW _) .none_none .none_none
  | bl _=>show ui AyY AyY AyY
  | AN _=>show AUd AzA AzA AzA
  | AS _=>show AUd AzB AzB AzB
  | EI _=>show AIW A2s A2s A2s
  | By _=>show AIW A2t A2t A2t
  | _=>show AAZ
 | bl _=>
  show SG a;cases d' with
  | non=>show ui AyZ AyZ AyZ
  | bl _=>show ui AzC AzC AzC
  | AS _=>show AUd A1G A1G A1G
  | EI _=>show AIW A2w A2w A2w
  | By _=>show AIW A2x A2x A2x
  | _=>show AAZ
 | AN _=>
  show AeW a;cases d' with
  | non=>show ui AzD AzD AzD
  | AN _=>show Apb int_int int_int int_int
  | AS _=>show Apb int_str int_str int_str
  | EI _=>show Apf BFL BFL BFL
  | By _=>show Apf BFM BFM BFM
  | _=>show AAZ
 | AS _=>
  show AeW a;cases d' with
  | non=>show ui AzE AzE AzE
  | bl _=>show ui A1H A1H A1H
  | AN _=>show Apb str_int str_int str_int
  | AS _=>show Apb str_str str_str str_str
  | EI _=>show Apf BFN BFN BFN
  | By _=>show Apf BFO BFO BFO
  | _=>show AAZ
 | EI _=>
  show Atm k1 a;cases d' with
  | non=>show ui A2u A2u A2u
  | bl _=>show ui A2y A2y A2y
  | AN _=>show Apc BFP BFP BFP
  | AS _=>show Apc BFQ BFQ BFQ
  | By _=>show AIW A3L A3L A3L
  | _=>show AAZ
 | By _=>
  show Atm k1 a;cases d' with
  | non=>show ui A2v A2v A2v
  | bl _=>show ui A2z A2z A2z
  | AN _=>show Apc BFR BFR BFR
  | AS _=>show Apc BFS BFS BFS
  | EI _=>show AIW A3M A3M A3M
  | _=>show AAZ
 | _=>show AAZ
theorem Wc(I:AW)(sF:gi):∀(n:Δ) (A:BQ) (d d' :D) (x y:V) (v u:AH),tS (AGY+n+1<n_) A8a AoL (EA AJ F d' y) l_ RE BYa:=by
 intro n;induction n with
 | Re=>
  intro A d d' x y v u hu hc r r' rv ru;show Bk3 h h h
  ·exact ybc Η h BSX BSY
  ·show OE
  ·show OE
 | Rl n ih=>
  intro A d d' x y v u hu hc0 r r' rv ru;have hu0:AX2:=Υ
  rcases zob hc0 with h | ⟨_,xs,ys,h,Β,Β,hc⟩ | ⟨_,xs,ys,h,Β,Β,hc⟩
  ·exact ybc hu0 h BSX BSY
  ·show HI;show Bhx;obtain⟨is1,p1,k1,_⟩:=AbE h1;obtain⟨is2,p2,k2,_⟩:=AbE h2;have el1:ANf is1.length:=BR8
   have el2:is2.length=MZ:=BR9
   have at_:BfT:=by
    intro j g1 g2;show E2 g1' AXb (AH3 el1 g1) g2' (j<MZ) (AH3 el2 g2) e1 (T' xs xs[j]) (CY g1') e2 BOo (CY g2')
    show EM w1 f1 m1 (wQ q1 e1);show EM w2 f2 m2 (wQ q2 e2);show BI z1 c1 b1 p1.get f1;show BI z2 c2 b2 p2.get f2;have y1:AwB=z1:=AoQ c1
    have y2:AwC=z2:=AoQ c2
    simp only [e1,e2];rw[y1,y2];exact(ih ij _ _ w1 w2 z1 z2 BLT Bde m1 m2 b1 b2).eq
   show As (EqD _ _ _ _ A5N);have VW:l1=l2 ->Aos:=al (by
    have z:=ygy I sF QQ WZ APe AiQ (AgB mU hc) BY5 Bcu
    exact z)
   have ev:(AV5 (min ALu ATD) all AxV&&ALu==ATD)=ACz:=by
    have s1:BI':=CY el1
    have s2:ATD=MZ:=CY el2
    rw[s1,s2];by_cases hl:BN=MZ
    ·rw[z8u _ hl];exact zu4 hl _ BY_
    ·rw[zul hl,BFT hl,Adt]
   have rc:=SeqAt.RcAt.tuples k1 k2 hu0 at_;have rn:=SeqAt.RcNeAt.tuples k1 k2 hu0 at_;rw[ev] at rc rn;refine BSz;show Bec
  ·show HI;show Bhx;obtain⟨is1,p1,k1',_⟩:=iO (wb h1);obtain⟨is2,p2,k2',_⟩:=iO (wb h2);have k1:=k1'.isList;have k2:=k2'.isList;have el1:is1.length=BN:=BR8
   have el2:is2.length=MZ:=BR9
   have at_:BfT:=by
    intro j g1 g2;show E2 g1' AXb (AH3 el1 g1) g2' (j<MZ) (AH3 el2 g2) e1 (T' xs xs[j]) (CY g1') e2 BOo (CY g2')
    show EM w1 f1 m1 (wQ q1 e1);show EM w2 f2 m2 (wQ q2 e2);show BI z1 c1 b1 p1.get f1;show BI z2 c2 b2 p2.get f2;have y1:AwB=z1:=AoQ c1
    have y2:AwC=z2:=AoQ c2
    simp only [e1,e2];rw[y1,y2];exact(ih ij _ _ w1 w2 z1 z2 BLT Bde m1 m2 b1 b2).eq
   show As (EqD _ _ _ _ A5N);have VW:l1=l2 ->Aos:=al (by
    have z:=ygy I sF QQ rX Aia AiQ (AgB mU hc) BY5 Bcu
    exact z)
   have rcn:SeqAt.RcAt A s AiQ (Bn l2) A5N/\BnW A s AiQ (Bn l2) (! ACz):=by
    by_cases hl:BN=MZ
    ·have ev:BXH ALu AxV:=by
      have s1:BI':=CY el1
      rw[s1];exact zu4 hl _ BY_
     have hz:ALu=ATD:=BW5
     have rc:=Apo SeqAt.RcAt.lists at_;have rn:=Apo SeqAt.RcNeAt.lists at_;rw[ev] at rc rn;exact⟨rc,rn⟩
    ·have hz:(ALu !=ATD)=Μ:=BW5
     rw[zul hl];exact⟨Apo SeqAt.RcAt.lists_lengths,Apo SeqAt.RcNeAt.lists_lengths⟩
   obtain⟨rc,rn⟩:=rcn;refine BSz;show Bec
def uG:Hn:=tJ (mU 20 x y/\WP (fW x y))
def DP:Hn:=tJ (mU 20 x y/\WP (! fW x y))
theorem n8(hu:Akv):uC Eq uG:=by
 rintro Ξ s σ H x y u w Q I rx ry ⟨F,d1,d2,P,sF,r1,r2,h,k⟩;exact MH (Wc I sF 20 X.A d1 d2 x y u w hu ED r1 r2 rx ry).rc (AI2 AkM)
theorem Cp(hu:Akv):uC NotEq DP:=by
 rintro Ξ s σ H x y u w Q I rx ry ⟨F,d1,d2,P,sF,r1,r2,h,k⟩;exact MH (Wc I sF 20 X.A d1 d2 x y u w hu ED r1 r2 rx ry).ne (AI2 AkM)
#where
theorem z1a{K:AD}{h:AL}{C:Ζ}(X:Sl)(q:n6 K C)(D:Ζ){nm qn:Κ}{N:Ζ}{bs bm:At}{P3:AU}{sn:Ρ}{CA:At}{ab:AU}{col:Aif}{dd:ND}{k0 k1 k2 k3 k5:dq}{newId:KL}
  (e:Bjv newId):Aa7 (Bn D)=bQ K C D:=by
 unfold n6 lU at q;split at q
 ·rename_i ho;have z:=X _ _ ho;rw[e] at z;unfold bQ;rw[ho];show Lw
  rfl
 ·show mr
section
variable{M:ASV}{A:BQ}{E:dM}{h:AL}{g:ϋ}{d:ASS}{t:Δ}{os:AAb}
 {nm q nm' q' :Κ} {C N C' N' :Ζ} {bs bm bs' bm' :At} {P3 HX :AU} {sn sn' :Ρ} {CA sub' :At} {ab ab' :AU} {col col' :Aif} {dd M7 :ND} {k0 k1 k2 k3 k5 j0 j1 j2 j3 j5:dq} {newId newId' :KL}
theorem zo8(hC:ANj C (BEv nm q C N bs bm P3 sn CA ab col dd k0 k1 k2 k3 k5 newId))(hD:ANj C' (BEv nm' q' C' N' bs' bm' HX sn' sub' ab' col' M7 j0 j1 j2 j3 j5 newId'))
  (he:eR oe) (hcls:AsR= HC) (OQ:Ann bm'.contains) (hq:Q (Aa7 Axu) AMq):Bdn (excMatches EC Axu):=by
 have cb:Ann (U' C' ::bm').ĕ:=Bj4 OQ
 have nt:=tc_notTuple;generalize hk:(U' C::bm).ĕ Axu=k at hq
 repeat (first | show BJK he hcls | show ADW hD | show Ahd hD cb | show Ahd hC hk | wp_step)
 cases (k)<;>(wp_walk;exact hq)
#where
abbrev _root_._2.Cx.hand(X:Cx)(a:Ζ):Cx:={X with A:=X.A.mark (Ε EC),calm:=AG}
section
variable{X:Cx}{Ξ:dN}{σ:St}{H:Hp}{s:AF}{a:Ζ}
theorem yjh(ok:X.Ok)(a:Ζ):(ABH a).Ok:=
 Bhp (AZ (Ae_ z))
theorem zn6(I:AW)(a:Ζ):Inv (ABH a) Ξ σ H s:=A3Q (yjh ve a)
theorem z7v(ok:X.Ok)(z:Nf):A2P:=Bhp ok.hd
theorem yf8(I:Amu):Inv A_A [] σ H s:=
 BX6 (CC hp)
theorem Wd(I:Inv A_A sX σ H s):Amu:=
 BX6 (zQ _ hp)
theorem yny{z:Nf}{xe:dM}{D:Ya}{f:Flow}{sX :dN}(h:SP A_A sX D f s):AnC LP s:=by
 cases f with
 | L_=>show A3R
 | brk=>show A3R
 | RU=>show A3R
 | ret u=>obtain⟨v,DT,H',I,r,q⟩:=h;exact⟨v,DT,H',Wd I,r,q⟩
theorem Wf(ok:A2P)(I:Inv BKz Ξ σ H s):Amu:=
 A3Q ok
theorem z7y{z:Nf}{xe:dM}{D:Ya}{f:Flow}(ok:A2P)(h:AnC BKz s):AnC LP s:=by
 cases f with
 | L_=>show A3S
 | brk=>show A3S
 | RU=>show A3S
 | ret u=>obtain⟨v,DT,H',I,r,q⟩:=h;exact⟨v,DT,H',Wf ok I,r,q⟩
#where
def jR:XW:=AHQ
theorem yq.base(Awt){D2:uc}{D:Ya}(k:AnG F)(g:Ap6):yq K F H0 F D2 D:=
 ⟨BBu k.nx,BBu k.bk,BBu k.ct,BBl (k.rt d v F' H' A0S r h),BBl (k.rf d v F' H' A0S (zvp (z3p g.f) d v r) h),fun t v as F' H' gr nd hn r h=>k.rT t v as F' H' A0S nd hn r h,fun d v Γ F' H' σ R r h=>k.rm d v Γ F' H' σ Bim r h⟩
section
variable{X:Cx}{Ξ:dN}{σ:St}{H:Hp}{s:AF}
theorem Ho:Ctx (ĝ ⟨AHQ,pn⟩) F0 H0 jR:=
 Bhh (Jn _ PassesOwnAt.never)
#where
def Ft(K:AD)(Cd:Ζ)(tb th:aD):aD:=BgW D AC
def wV(K:AD)(Cd:Ζ)(i:Δ)(tb th:aD):aD:=BgW {nx:=ANg (VC (Γ'.set i DO)),rt:=D.rt,bk:=BP4 D.bk,ct:=BP4 D.ct} (ALs i (.pu (.exc C)))
def cU(g:AtW)(ta:bZ):bZ:=Zp ta d (g d fun d' =>(GV d'))
def jT:AtW:=fun x P=>(İ x FV (Sj (-i)))
inductive Ni (K:AD) (g:Sn) (vs:AT) (H:Hp) (Q:VK):Θ
 | mk:Bbq Bf3 Ni
def ud(K:AD)(g:Sn):ë:=fun vs H Q=>Ni K g vs H Q
def iR(g:Sn)(t:cW):bZ:=X0 (g ds fun d=>(GV d))
def bT:Hn:=tJ (match x,y with
 | gT,FV=>BXI
 | UO,FV=>BXI
 | AjD,FV=>∃c,AyC/\BP2/\P (.AS (AOm c))
 | _,_=>D7)
theorem zvf(OH){ds:AQ}{vs:AT}{i:Ω}{d:D}(r:L3)(h:r_ ds i d):Alh (r_ vs i v):=by
 unfold lB at h⊢;rw[<- jQ r];cases q:wu NN i with
 | Ι=>rw[q] at h;show HI
 | Ε j=>
  rw[q] at h;exact wQ r h
section
variable{X:Cx}{F0 H0:Hp}{a b e:AK}{es:DD}{AB p:AX}{ta tb te:bZ}{t:cW}{x:Κ}
theorem DQ(ha:bi):Ee (.Ac_ .USub a AB) (cU jT ta):=fun z E cx=>
 nQ (yk4 yf2 E8) (NH B_ B_ (Aoh (by
  cases d with
  | AN i=>
   exact⟨i,r,A'q q⟩
  | _=>show ze)))
theorem yge{K:AD}{g:Sn}{E:XW}{σ:St}{H:Hp}{Q:VK}(h:AHj HN A4s):BWw ud:=by
 show M0 h;exact Bfr (fun d z F' H' gr rz hp=>k d AC F' H' z AOY (AMP OS) rz hp)
theorem lY{id:KL}{g:Sn}(hc:∀z,dD LP ACh (ud AJ g))(hg:KG)(hm:Ϭ)(hv:ϡ ACh)(ha:Si)(AAS)(sT):Ee sQ A4s:=fun z E cx=>
 nQ (DU O7 Ai0 hg hm hv E8 hn hdb he hpl) (ADc yge)
theorem cF(ha:bi)(hb:ŵ)(hs:zz4 b):Ak4 a b (cB bT ta tb):=fun z E cx=>
 nQ (ph ymz r (qx AJ bT) (by
  rintro FF ii Ξ s σ H x y v u Q I rx ry ⟨F,d1,d2,P,sF,r1,r2,h,k⟩ hs;show De bT;show NG
  ·show AE' r1;subst r2;show QY d e hp;obtain⟨w,ew,sY⟩:=zvf rs e;exact yah FF ii Ξ s σ H _ _ v u Q I rx ry ⟨p,vs,_,w,Β,Β,wb hq,ew,pp sY hp⟩ hs
  ·show AE' r1;subst r2;show QY d e hp;obtain⟨w,ew,sY⟩:=zvf rs e;exact ylo FF ii Ξ s σ H _ _ v u Q I rx ry ⟨p,vs,_,w,Β,Β,rA sF hq,ew,pp sY hp⟩ hs
  ·show AKW;show eQ c hz e hp;exact ync FF ii Ξ s σ H _ _ v u Q I rx ry ⟨_,_,c,Β,Β,hz,e,pp Iy hp⟩ hs
  ·show GW) E8 OB hs) A1J
#where
def J9:Sn:=AHd [FV] (Sj AbK)
def nM:Sn:=Aee (match ds with | AUF=>BH9 | [UO]=>BH9 | [AjD]=>D' ASv/\Sj ASv | _=>D7)
def K8:Sn:=AHd AFg (Sj BMK)
def SX:Sn:=AHd AFg (Sj (DH (j<i) j i))
section
variable{X:Cx}
theorem ylg:AJz "abs" J9:=by
 show mv;show De J9;show NG
 ·show AmL;exact AOE ydt (SH ub)
 ·show GW
theorem qF:AJz iE nM:=by
 show mv;show De nM;show NG
 ·show AAV;rw[zC] at h;exact AOE znc (Sf p Ans ub)
 ·show AAV;rw[zC] at h;exact AOE znc (Sf p Anp ub)
 ·show AmL;exact AOE zyd ⟨_,Β,ED,AkM⟩
 ·show GW
theorem yoh(ï):AJz "max" K8:=by
 show mv;show De K8;split at h
 ·obtain⟨v,_,Β,Β,v2,_,Β,Β,Β⟩:=rs;exact yag hc Ξ s σ H _ us Q I r (ϯ ub)
 ·show GW
#where
def tyD:D ->MD KL
 | B8=>Ε "NoneType" | jb=>Ε "bool" | b9=>Ε AGH | gc=>Ε AKp | AXW=>Ε YE | Ý=>Ε IC | Ϣ=>Ι | AEV=>Ι | A0'=>Ι | AEh=>Ι | AEi=>Ι | APo=>Ε vz
def Pz(d:D)(T:KL):Aif:=(tyD d).bind fun S=>BXj
def Ad(T:KL)(ta:bZ):bZ:=Zp ta d (Bb_ (GV APd))
theorem z4l(K K' :AD)(S T:KL):AdR K Ag4 sC=AdR K' Ag4 sC:=Β
section
variable{X:Cx}{Ξ:dN}{σ:St}{F H:Hp}{s:AF}
theorem ynm(I:AW)(sF:gi)(r:AoL)(rx:Æ)(hS:tyD d=Ε S)(e:BYv Ag4)
  (h:BZO):BR3:=by
 cases d with
 | non=>show Apz (B8)
 | bl y=>show Apz (.bl y)
 | AN y=>show Apz (II y)
 | AS y=>show Apz (.AS y)
 | EI xs=>
  show AE hS hS hS hS hS hS hS hS hS hS hS hS hS hS;show AIq a vs hq r;show LU;obtain⟨AO,_,⟨o,h1,h2,_⟩,_⟩:=AbE hq;exact ki Bmu (AX5 h2)
 | By xs=>
  show AE hS hS hS hS hS hS hS hS hS hS hS hS hS hS;show AIq a vs hq r;show LU;obtain⟨AO,_,⟨o,n,h1,h2,_⟩,_⟩:=AKZ;exact ki BD' (AX5 h2)
 | exc C=>show Abn
 | ptr _=>show Abn
 | obj _ _ _=>show Abn
 | dic _ _=>show Abn
 | pC _ _=>show Abn
 | dik ks ds=>
  obtain⟨p,o,vs,Β,hq,_⟩:=r;show AE hS hS hS hS hS hS hS hS hS hS hS hS hS hS;show LU;obtain⟨_,_,_,ws,_,o',es,ep,h1,h2,_⟩:=(AU4 p AhC p (sF _ _ hq));exact ki BEG ⟨o',h1,h2.1⟩
#where
section
variable{X:Cx}{F0 H0:Hp}{a:AK}{AB p pt:AX}{ta:bZ}{x:Κ}{T:KL}
theorem ymn(ha:bi)(hg:Gl X AK0)(hm:KF AK0)(hgT:KG)(hmT:Ϭ)(hv:ϡ sC)(AAS)(xn)
  (he:oz BOl a [.vj x pt]:=by rfl) (he2:Au6 [.vj x pt] (V_ (ZY pt)):=by rfl):Ee (yA AK0 BOl) (Ad T ta):=fun z E cx=>by
 have pT:PE LP (ZY pt) (tC (.ty T)):=DU yj2 hgT hmT hv Β hn hd;refine nQ (O7 (X:=AG0) (id:= AK0) (r:=fun vs H Q=>∃(F:Hp) (d:D) (x:V) (P:Ax9),vs= [x,.ty T]/\gi/\AoL/\ (Bb_ (P b))/\Mn (P b) (Q APd H)) ?_ hg hm boot_isinstance (KQ E8 (KQ pT O5 (UU he2)) he) Ψ Ψ he (UU he2)) (BbC ?_)
 ·rintro Ξ s σ H xs us Q I r ⟨F,d,y,P,e1,sF,rd,hb,k⟩;subst e1;show GG u w ru sY (vals2 r);show HA (w=Aq' T) sY;unfold Pz at hb;cases hS:tyD d with
  | Ι=>show Q2 hS hb hb.elim
  | Ε S=>
   rw[hS] at hb;cases hk:BXj with
   | Ι=>simp only [BnZ,hk] at hb
   | Ε b=>
    simp only [BnZ,hk] at hb;exact ynm I sF rd ru hS (z4l AJ [] S T ▸ hk) fun tk=>⟨l5,H,I.tok tk,Β,k b hb⟩
 ·refine fR ⟨F1,d,v,f_ (GV APd),Β,LZ,r1,h1,dl hp (A'q hp)⟩
#where
def lZ(C:Ζ)(t:cW):aD:=A3y (AYh (E AC HE))
section
variable{X:Cx}{F0 H0:Hp}{e:AK}{es:DD}{AB np HR:AX}{t:cW}{x:Κ}{C:Ζ}
theorem z06(hh:FX)(hg:KG)(hm:AKB)(hC:nG AJ C)(ha:Si)
  (An2):
  Tl AxB (lZ C t):=by
 rintro z E cx Ξ s σ H D I ⟨F,Γ,D2,R,h,k⟩;refine ph yei E (fun C' dx H1=>∃F1 AC,AM1/\E AC HE) hg hm hC E8 hh I (jn ⟨Qb (jQ r1) k8,F1,AC,R1,h1.2⟩) (fun H1 s1 e s' I1 hx=> ?_) hd he hpl
 obtain⟨a,C',H',B,dx,h1,h2,h3,h4,h5,h6,h7,h8,Β,h9,Β,F1,AC,R1,hE⟩:=hx;exact ALt Ξ σ AC F1 _ s1 e s' I1 R1 ⟨a,_,_,B,dx,h1,h2,h3,h4,h5,h6,h7,h8,_,_,hE,Ě LZ,Β,h9⟩
#where
structure cJ (BMk):Θ where
 ex:BSc (AQe nJ)
section
variable{X:Cx}{F0 H0:Hp}{e:AK}{es:DD}{AB p:AX}{x:Κ}{ps:Ρ}{k:Δ}{sp:dw}{t:cW}
theorem cO(BBb cJ):
  Ee sQ (aC sp t):=by
 obtain⟨f,fd,h1,h2,h3,h4⟩:=Ģ;exact z5t h1 hr hg h2 h3 h4 ha hdb he hpl
#where
section
variable{X:Cx}{Ξ:dN}{σ:St}{H:Hp}{s:AF}{a:Ζ}{o:HO}
theorem Inv.track(I:AW)(hn:Ä)(ok:AHE (AYg o) A8 a o)(n0:BHM)(nl:BIs)(nc:ADY a)(np:AgY a):ZO (AYg o) s:=by
 refine⟨ve,I.os,Ď,⟨ArQ,ASR,FY b u e n hx,BDa,Na xs e,WS xs e ?_,Na ps e⟩,nN,nX,?_,AQ3,mh,K0,AGN⟩
 ·show AJi (Ak2 n0);exact BO5 e hx
 ·have q:=Ac3 b xs e;rw[AfE];exact q
 ·have q:=ASU b u xs e;rw[AfE];exact q
 ·show EU m q Ac4 b ps e;exact⟨m,AJs⟩
 ·rw[AM7 bU nl];exact AAn
 ·rw[bU (nc x c e)];exact AGM x c e
 ·show Abf;exact⟨e,CD (bU (np p hp)) n,ne,nf,d⟩
 ·by_cases hb:b=a
  ·subst hb;show AFl gP ok
  ·rw[t6] at e;exact Bjp (fun c v _ q=>q) (bX q AJs) fun c xs q=>AJs
#where
def zva:dw:=F7 (∃ns:Bz,AOT AHi AaZ Azk)
theorem zlh(OH):∀ns:Bz,P7 AHi Au3
 | []=>N1
 | n::ns=>qT Iy (zlh ns)
theorem z8i{K:AD}{H:Hp}{a:Ζ}{ns:Bz}(hl:AaZ)(hS:An7):nJ K zva N9 H A7J Ò:=
 ⟨H,Ķ AHi,fun d=>d= ANl,j',qA,Nb (A3 (l7 a hS (zlh ns))),⟨ns,Β,hl,Β⟩,BBl (by subst h;exact r),ARk _ h ě⟩
theorem yb7(h:fD P w [] H s (Ò) e s'):D7:=by
 obtain⟨_,_,_,_,_,_,_,_,_,_,_,_,_,h⟩:=h;exact h
structure Cls where
 eY:Ζ:=0
 PB:Ζ:=0
 abg:Ζ:=0
 abh:Ζ:=0
 abR:Ζ:=0
 Missing:Ζ:=0
 Wg:Ζ:=0
 v9:Ζ:=0
 Apart:Ζ:=0
 aac:Ζ:=0
 cj:Ζ:=0
 Open:Ζ:=0
 abj:Ζ:=0
 S5:Ζ:=0
 abS:Ζ:=0
 Scale:Ζ:=0
 abU:Ζ:=0
 ao:Ζ:=0
 abV:Ζ:=0
structure HY (AAG):Θ where
 ga:Aut Acm AGF
 gn:AkG BCl
 cl:BQm
 ob:Alr C
 be:A2O C
def Fw(K:AD)(C:Ζ)(ta:bZ):bZ:=BaI (bQ K C0 C)
section
open AKn PySem.Builtin PySem.Builtin.ObjectAttr PySem.Builtin.Getset_descriptor
variable{CI:A0}{w:Ap}{A:BQ}{E:dM}{K:AD}{h:AL}{g:ϋ}{d:ASS}{t:Δ}{os:AAb}{a C:Ζ}{o:Obj}
theorem zth(X:Sl)(G:HY K C)(hx:ϲ)(hc:Ak0)(hq:Q () AMq):Bdn (AsZ AGF (IM [B',nameV])):=by
 have hk:builtinKind AGF =Ε .NI:=Χ
 have hsp:Az_ AGF Aqh Acm:=Χ
 have ha:=F.args_bexc_ga EC nameV;have L1:=looks_mroIn (M:=M) X G.be;simp only [AsZ,hk,hsp];refine Se;unfold ALv
 repeat (first | show BJK hx hc | with_reducible refine L1.at ?_ | wp_step)
 exact hq
#where
theorem z8a:∀(IS:kr) (n:Δ) (A1:ώ),(∀p∈IS,BPX) ->Al4 n IS A1 x=acc.lookup x
 | [],_,_,_=>Β
 | A7X,n,A1,h=>by
  unfold v4;have hr:WO r BPX:=Alv;split
  ·rename_i hk;have hy:y≠x:=h (y,k) zY AXU
   rw[BTV,Y'];have:G_ x y:=BPJ hy
   rw[Τ]
  ·exact BTV
theorem z5s:∀(IS:kr) (h:AL) (A1:ώ),AY3 (v4 MW IS A1) ->AY3 A1\/ (MW<=c/\ (ALw h IS).IsCell c Ι/\ BIq IS)
 | [],_,_,m=> .D6 m
 | A7X,h,A1,m=>by
  unfold v4 at m;unfold ALw;split at m
  ·rename_i hk;show DJ hk;have sz:ANi (ATq "cell" cell Ι) ć=MW+1:=AO9;rw[<- sz] at m;show A'g (z5s r _ _ m)
   ·rcases Af8 with e | z
    ·cases (e);have e2:k= ł:=Cc hk
     subst e2;refine .BO ⟨NF,?_,zY⟩;exact ML (BFU r _ _ _ Anh)
    ·exact M' z
   ·show He ⟨by rw[sz] at z1;show AA,z2,zX _ z3⟩
  ·rename_i hk;show BD hk;show A'g (z5s r h A1 m)
   ·exact M' z
   ·show He ⟨z1,z2,zX _ z3⟩
theorem zuo:∀(IS:kr) (n:Δ) (A1:ώ),(acc.Pairwise fun x y=>AnP) ->(∀p∈A1,p.2<n) ->(v4 n IS A1).Asb fun x y=>AnP
 | [],_,_,h,_=>h
 | A7X,n,A1,h,hl=>by
  unfold v4;split
  ·refine zuo r _ _ (BFV ⟨ja p hp,h⟩) mh
   ·have e' :n=p.2:=e;exact yX _ (Nat.lt_of_lt_of_eq (hl p hp) e')
   ·rcases Cn hp with Β | hp
    ·show AYW
    ·show APA (hl p hp)
  ·exact zuo r n A1 h hl
def rD(BV:Env):kr ->ώ ->ώ
 | [],cs=>cs
 | Aln,cs=>rD BV r (DH (k== Tu) ((n,(ASL n).dL 0)::cs) cs)
theorem yi6(h:WO AGc Auh):closureFor JI BV=Go BR0:=by
 have A9:∀(IS:kr) (cs:ώ),A4z ->
   (forIn IS cs fun(x:Κ×ASq) (r:ώ)=>(if x.2== Tu then do let a<- cellOf BV x.1;AnY ((x.1,a)::r) else AnY r:Sem _))=Go (rD BV IS cs):=by
  intro IS;induction IS with
  | DL=>intro cs _;rfl
  | AY p r ih=>
   intro cs hh;obtain⟨n,k⟩:=p;have hr:A4p:=Af5 hh;rw[Bnb];unfold rD;by_cases hk:A7G
   ·show EU c e hh ANI zY AXU
    have e' :cellOf BV n=Go c:=by unfold cellOf;rw[e]
    simp only [hk,c_,e',pure_bind,e,Option.getD_some];exact ih _ hr
   ·have hk' :G_ k Asc:=Cc hk
    simp only [hk',ATE,AAw,pure_bind];exact ih _ hr
 unfold closureFor;have:=A9 AGc [] h
 simpa using Τ
theorem zve:∀(IS:kr) (cs:ώ),A4z ->AY3 (rD BV IS cs) ->AY3 cs\/ (Akm IS/\AYA)
 | [],_,_,m=> .D6 m
 | Aln,cs,hh,m=>by
  have hr:A4p:=Af5 hh;rcases zve r _ hr m with z | ⟨z1,z2⟩
  ·split at z
   ·rename_i hk;rcases Af8 with e | z
    ·cases (e);have e2:k= Tu:=Cc hk
     subst e2;show UC c (hh (_,Tu) zY Β);refine .BO (C3 zY);have e' :AYA:=e;rw[e'];rfl
    ·exact M' z
   ·exact M' z
  ·show He ⟨zX _ z1,z2⟩
theorem zn9(e:AYA):BZQ ((Akm IS\/AHC cs.lookup) ->(∀c',Fu cs.lookup c' ->c' =c) ->AHC (rD BV IS cs).AGX)
 | [],cs,h,_=>by
  show AO8 h h
  ·show OE
  ·exact h
 | Aln,cs,h,hu=>by
  unfold rD;by_cases hk:A7G
  ·show DJ hk;by_cases hn:x=n
   ·subst hn;refine BUi (FM ?_)
    ·rw[Y'];simp [e]
    ·rw[Y'] at q;simp [e] at q;exact Asd
   ·have hb:G_ x n:=CD Bna hn
    refine BUi ?_
    ·rcases h with h | h
     ·rcases AEH with z | z
      ·cases (z);exact aE Β hn
      ·exact M' z
     ·refine .BO ?_;rw[Y',hb];exact h
    ·rw[Y',hb] at q;exact hu c' q
  ·show BD hk;refine zn9 e r cs ?_ hu;rcases h with h | h
   ·rcases AEH with z | z
    ·cases (z);exact aE Β hk
    ·exact M' z
   ·exact KB h
theorem zmg(inj:A'd AYA (ASL y=Ε c)):BZQ (BB (names.map (·.1)).Pl A4z (cs.Pairwise fun x y=>AnP) (∀p∈cs,env.cells.lookup p.1=some p.2/\p.1∉names.map (·.1)) ((rD BV IS cs).Asb fun x y=>AnP))
 | [],_,_,_,h,_=>h
 | Aln,cs,nd,hh,h,hc=>by
  unfold rD;rw[FA,Adv] at nd;have hr:A4p:=Af5 hh;have hc' :WO cs (ANZ ASL/\DA∉r.map (·.1)):=s0 ⟨AOh hc,AZ ((hc p hp).2 (ET FA (zX _ z)))⟩
  by_cases hk:A7G
  ·show DJ hk;show EU c e hh ANI zY AXU
   have e' :ASL n=Ε c:=e;rw[e'];refine zmg inj r _ nd.2 hr (BFV ⟨AV p hp z,h⟩) mh
   ·have z' :c=p.2:=z;have q:=AOh hc;rw[<- z'] at q;have:=inj _ _ _ e' q;exact(hc p hp).2 (by rw[FA,<- Τ];exact zY)
   ·rcases Cn hp with Β | hp
    ·exact⟨e',nd.1⟩
    ·exact hc' p hp
  ·show BD hk;exact zmg inj r cs nd.2 hr h hc'
theorem zhg{JI:OK}{BV:Env}{x:Κ}:∀(IS:kr) {k:ASq},Fu BFW k ->Fu BaG k\/
   (k= Tu/\ ANC BaG)
 | [],_,h=>AQB
 | (n,k0)::r,k,h=>by
  have ih:= @zhg JI BV x r k;show C8 (BZ1\/ (_/\BZ1));cases hx:x==n with
  | Μ=>
   simp only [Y',hx] at h;show HI;by_cases hc:AxJ
   ·show DJ hc;simp only [Y3] at hc;exact KB ⟨Cc hc.1.1,by show Al0⟩
   ·show BD hc;show FR (by show Al0)
  | AG=>
   simp only [Y',hx] at h;by_cases hc:AxJ
   ·show DJ hc;show Al0;exact ih h
   ·show BD hc;show Al0;exact ih h
def j7(JI:OK)(C:Ζ)(BV:Env):Env:=
 {JI:=relabel JI BV,locals:=C,globals:=env.globals,cells:=v4 (C+1) AGc BR0,FE:=env.qual,func:=Ι,code:=env.code,frame:=env.frame,builtins:=env.builtins}
def blk(X:Cx)(JI:OK)(N:Ρ)(C:Ζ)(LH:AF)(TK:Hp)(fp:Cb):Cx:=
 {X with BV:=j7 JI C B9,N:=N,LH:=LH,TK:=TK,DE:=MX,stack:=MX,ex:=fp,fn:=OF (Ar7 x==AUT),pn:= [],xe:=AHQ}
def yC(Au:Δ)(FU:CF)(σ:St):St:=AW7 Au Ι++BFX fun j=>A6M
structure jU (N:Ρ) (sc:OK) (Au:Ρ) (FU:CF) (BV:Env) (N' :Ρ):Θ where
 kind:A3V
 nd:N'.Nodup
 snd:BID
 cr:BZp ASK ASK
 IS:BXY
 FU:Bdd
theorem yas
  (hQ:Q (newEnv JI CL g (v4 lc AGc cl) q Ι BA (Dx BV) ArI) (BN7 AGc)):
  Î (Bnc JI g cl [] q Ι BA (Dx BV)):=by
 simp only [Bnc,BnJ,c_];refine eA wpAny_alloc;refine z6 (wpAny_layCells _ (fun EO kind cells=>by cases hkc:kind==Asa<;>simp [hkc]) _ _ _ _ ?_)
 rw[show AhT (AUr kP:AF).heap.objs.size from AO9];exact z6 (AQk hQ)
section
variable{X:Cx}{Ξ:dN}{σ:St}{H:Hp}{s:AF}{sc:OK}{Au:Ρ}{FU:CF}{N' :Ρ}{fp:Cb}
theorem zoo(I:AW)(S:AFr):WO Pw (Bhz ArK):=fun p hp hk=>I.ok.has _ (Ase p hp hk)
theorem zk0(I:AW)(S:AFr)(e:AzO):
  (AHP/\PU c/\AK7 x≠AUT)\/ (AXA<=c/\ (ALw BKQ Pw).IsCell c Ι):=by
 have m:=ABJ e;have sz:ANr kP=AXA:=AO9;have m' :AY3 (v4 (ANr kP) Pw BR1):=CD sz m
 show A'g (z5s Pw _ _ m')
 ·rcases zve Pw [] (zoo I S) z with z | ⟨z1,z2⟩
  ·show AIX
  ·show EU v hc nX x c z2;refine .D6 ⟨z2,hc.lt,PH ?_⟩;have q' :=ABJ q;have:=S.snd;show kl Asf Asg;have d:∀(l:kr),A_b ->Akm l ->BIq l ->D7:=by
    intro l;induction l with
    | DL=>show Aa8
    | AY a r ih=>
     intro hp h1 h2;show D1 p1 p2 ALx hp;rcases Cn h1 with e1 | h1<;>rcases Cn h2 with e2 | h2
     ·rw[<- e1] at e2;cases (e2)
     ·exact p1 _ h2 (by rw[<- e1])
     ·exact p1 _ h1 (by rw[<- e2])
     ·exact ih p2 h1 h2
   exact d _ Τ z1 q'
 ·show He ⟨Axv sz z1 z1,z2⟩
theorem zyx(I:AW)(S:AFr)(hk:BJb)(e:AHP):AzO:=by
 show AHC (v4 _ Pw BR1).AGX;rw[z8a]
 ·exact zn9 e _ _ (HV (ABJ hk)) fun c' q=>AxX
 ·intro p hp hc z;have q:=ABJ hk;have:=S.snd;show kl Asf Asg;have d:∀(l:kr),A_b ->Akm l ->p∈l ->D7:=by
   intro l;induction l with
   | DL=>show Aa8
   | AY a r ih=>
    intro hpw h1 h2;show D1 p1 p2 ALx hpw;rcases Cn h1 with e1 | h1<;>rcases Cn h2 with e2 | h2
    ·rw[<- e1] at e2;subst e2;show AE hc hc hc hc hc hc hc hc hc hc hc hc hc hc
    ·exact p1 _ h2 (UK e1 wc)
    ·exact p1 _ h1 (UK e2 z)
    ·exact ih p2 h1 h2
  exact d _ Τ q hp
theorem z2g(I:AW)(S:AFr)(Wh:BcX A1P)(i:Δ)(x:Κ)(v:V)(h1:ox N')(h2:E4 AOl re):
  ∃u,OC/\Look (A_e CL) h' m' x u:=by
 have h2' :E4 AOl re:=h2;have h1' :ox N':=h1;unfold yC at h2';rw[S.names] at h1';by_cases hi:i<AGo
 ·rw[AkN,ASs] at h2'
  split at h2' <;>(show Lv h2' h2' h2' h2' h2' h2' h2' h2' h2' h2' h2' h2' h2' h2')
 ·show BSt h2'
  show AW5 BHT h1'
  cases hj:FU[i - AGo]? with
  | Ι=>show MO hj h1' h1' h1' h1' h1' h1' h1' h1' h1' h1' h1' h1' h1' h1' h1'
  | Ε j=>
   rw[hj] at h1' h2';obtain⟨j1,j2⟩:=S.caps j (zA hj);have hx:X.N.getD j "" =x:=Cc h1'
   have hσ:T' σ re:=by
    have:A6M=Ε v:=Cc h2'
    cases q:σ[j]? with
    | Ι=>rw[q] at Τ;show IN
    | Ε o=>show DF q;have:o=Ε v:=Τ;rw[Τ]
   rw[hx] at j2;have hN:T' X.N x:=by
    rw[Mb,ABf j1] at hx;rw[AFz j1]
    simpa using hx
   show EM m hn hloc nN;have kx:=Ase (x,Tu) (ABJ j2) Β;have vis:So:=by
    rcases kx with k | k
    ·show He (HV k)
    ·show He (FM k)
   obtain⟨u,ru,l⟩:=hloc j x v hN hσ vis;refine⟨u,ru,.BO Ai_⟩
   ·rcases Bf1 j2 with h | ⟨_,h⟩
    ·exact KB h
    ·exact M' h
   ·rcases l with ⟨k,_⟩ | ⟨_,c,ec,hc⟩
    ·have k' :AT' AK8:=k;have kx' :ANC AK8\/AWH AK8:=kx;rw[k'] at kx';rcases kx' with z | z<;>(first|subst z|show AG1|show AG2|show AG4|show AG3|show AG6|show AG5|show AG7|show AG8|show NW z|show NU z|show Mc z|show NV z|cases (z))
    ·exact⟨c,zyx I S j2 ec,Wh x c _ ec hc⟩
theorem z9b(I:AW)(S:AFr)(hf:AYf)(hl:js (PU b)):
  Inv A_y [] AOl H (BN7 Pw):=by
 have LG:AVG MY (ALw BKQ Pw).IE:=Of BbL;have ok:=ve;have inj:A'd AzO (Bix y=Ε c):=fun x y c e1 e2=>by
  refine Bm0 (cs:=Au' cells) ?_ (ABJ e1) (ABJ e2);refine zuo _ _ _ (zmg ok.inj _ _ S.snd (zoo I S) AS8 (fun p hp=>(Ņ hp hp hp hp hp hp hp hp hp hp hp hp hp hp))) mh
  rcases zve (x:=DA) (c:=p.2) Pw [] (zoo I S) hp with z | ⟨_,z⟩
  ·show AIX
  ·obtain⟨v,hc⟩:=nX _ _ z;show APA hc.lt
 show HL frC (Mn (rV b) NB) (FL (ArU hb)) abk (Au' scope.kind= AMg) Ar5 ⟨⟨ok.mod,abk,ok.glob,ok.blt,NF,inj,A4c,Oy x c hfn e,ok.hd,ok.frames,AJW,AIc (zL (hl b hb)) BXM,I.bs,zP ok.bsz I.sz,ACu e hb,Na hb z,I.stack,I.stkFree⟩,
  Β,Ď,ASG LG,D4 ((Heap.Ns.new A8 (NY vz)).keeps (BFU _ _)) (fun i x v h1 h2 h3=> ?_),AQ3,frC _ Kt,AQ3,BAs,I.hok.kept LG,?_⟩
 ·
  have hx' :ANC A'Z\/ AWH A'Z:=hx;have:∃k,Fu AK7 k:=by
   have A9:∀(l:kr) (k' :ASq),Fu (BkQ E3 (BJG k) BI6) k' ->∃k,Fu l.lookup k:=by
    intro l;induction l with
    | DL=>intro k' h;simp at h
    | AY a r ih=>
     intro k' h;obtain⟨n,k0⟩:=a;cases hb:x==n with
     | Μ=>exact⟨k0,aw Y' hb⟩
     | AG=>
      have h2:Ė x ((DH (UB (BJG k0) BI6) Auq (n,k0))::(r.map _))=Ε k' :=h;obtain⟨k,hk⟩:=ih k' (by
       split at h2<;>(simp only [Y',hb] at h2;exact h2))
      exact⟨k,by simp only [Y',hb];exact hk⟩
   rcases hx' with h | h
   ·exact A9 _ _ h
   ·exact A9 _ _ h
  obtain⟨k,hk⟩:=Τ;rcases Bf1 hk with h | ⟨h1,h2⟩
  ·have hkk:k= ł\/k= Tu:=by
    have h' :Fu A'Z k:=h;rcases hx' with z | z<;>rw[z] at h' <;>(show Lv h' h' h' h' h' h' h' h' h' h' h' h' h' h') <;>simp
   rcases hkk with Β | Β
   ·exact Bmy (BEM Pw _ _ (HV hk))
   ·show UC c (ok.has x (Ase (x,Tu) (ABJ hk) Β));exact⟨c,BXV⟩
  ·subst h1;show UC c (ok.has x (Ase (x,Tu) (ABJ hk) Β));exact⟨c,BXV⟩
 ·
  have abl :AZH:=by
   have:ĸ (AK7 x) (Ε Asa):=hfn
   simpa using Τ
  rcases ApU with ⟨_,_,z⟩ | ⟨z,_⟩
  ·show L2 abl z
  ·show As (rV c);exact ATF z
 ·rcases ApU with ⟨z1,_,_⟩ | ⟨z1,_⟩
  ·exact(WJ hf).2.2.2.1 x c z1 z
  ·have:=hl b hb;rw[<- z] at Τ;exact yX _ (zN Τ (ATF z1))
 ·have q:=(WJ hf).2.2.1;rcases q with q | q
  ·exact ok.Hu b o e q
  ·have q2:b<BmK:=zJ e;exact yX _ (zN q2 (zP ok.bsz q))
 ·rcases A8m z with z | z
  ·exact AVy hf z
  ·exact(WJ hf).2.1 z
 ·exact Bgw (fun x c v _ hc=>BKI)
 ·rcases ApU with ⟨z1,_,_⟩ | ⟨_,z⟩
  ·show EU v hc nX x c z1;exact⟨v,BKI⟩
  ·exact Fk z
 ·rcases ApU with ⟨z1,_,_⟩ | ⟨z,_⟩
  ·exact AGM x c z1
  ·exact frC c (ATF z)
 ·show BVD;rw[S.names];unfold yC;simp
theorem z93(I:AW)(S:AFr)(hf:AYf)(B:Inv A_y sX σ5 H5 s5):
  Inv A_y sX AOl H5 s5:=by
 obtain⟨m,hn,_⟩:=B.loc;have kc:BcX (s5.heap.IsCell c v):=fun x c v e (AEg hd)=>by
  have nx:c∉fp:=AZ (A_M (hf c z).2.2.2);by_cases hc:c∈fw
  ·obtain⟨sl,q⟩:=B.base.slot c o ho AZo hc nx;exact D4 q hd
  ·exact⟨o,B.base.keep c o ho AZo hc nx,hd⟩
 exact⟨B.ok,B.os,B.bare,B.base,⟨m,hn,fun i x v h1 h2 h3=>(Bgw kc)⟩,B.cell,B.free,B.freeC,B.pin,B.hok,by show BVD;rw[S.names];unfold yC;simp⟩
#where
abbrev z7r(ifs:DD)(BV:Env):AYc:=forIn ifs Μ fun c r=>if r=Μ then do let ok<- ArX c BV (ACv c);AnY ok else AnY r
section
variable{CI:A0}{w:Ap}{A:BQ}{R:Ay_}{s:AF}
theorem z60(I:Op Δ)
  (TL:∀n s,I n s ->IZ JU A (ASj it) (xt EZ (match r with
   | Ι=>R (.ok AC_) EZ
   | ADK=>AYL (Bmg AdA it v) (JP s₁' (AYL (ASc AdA BV v) (JP LJ (AYL (z7r ifs BV) (fun ok ę=>
      (GT ok (AYL (ACv elt) (fun x s₄=>
       (AYL (ANX BEi [A1,x]) (JP s₅ (Amh (I m s₅))) s₄)) ę) (Amh (I m ę)))) LJ)) s₁')) EZ)) AUk s)
  (n:Δ) (h:I n s):
  ALX JU A (.compLoop BPF 0 it A1 BV) R s:=by
 refine codeAny_loop Β I (AV n s hI) n h;refine(?_:AHn A ((compTurn BPF 0 it A1 BV).onRaise (fun x=>do Ado x BV;theTreesLotGoes x)));refine wpAny_noted ?_;rw[compTurn_list];refine z6 (ASe (z6 (Ż (TL n s hI) (Ahv r) ARG)));cases r with
 | Ι=>exact z7 Y_
 | Ε v=>
  refine sv Y_ (AV _ s₁' h₁') ARG;refine sv h₁' (fun _ LJ dE=>(sv dE (AV ok ę h₃) ARG)) ARG;cases ok with
  | AG=>exact z7 (Hb h₃)
  | Μ=>
   exact z6 (z6 (Ż h₃ (fun x s₄ h₄=>(sv h₄ (fun _ s₅ h₅=>z7 (z7 (Hb h₅))) ARG)) ARG))
#where
def PTs(X:Cx)(ifs:DD)(t:TT):Θ:=
 A8H AJa (Aen (z7r ifs B9) TP)
theorem yjk:PTs X [] (fun _ H Q=>Q Μ H):=BfC (wpAny_tests_nil ⟨H,I,h⟩)
theorem yka(h:PT X c t):PTs X [c] t:=fun Ξ s σ H Q I q=>wpAny_tests_one (Ae8 Q I q)
structure Wi (AWw) (tg:AK) (J:It) (fp:Cb) (it:Ζ) (tn:AYr) (cm:HT Cx):Θ where
 mem:it∈fp
 obj:BWg
 LG:Ber
 VS:AqU (cm X) (BB AW AkZ AWT AkJ (Apd (∃u,av r/\
   IZ ACQ X.A A_v (JP s2 (∃x H',AkC/\Æ/\J.yld i H x H' /\BP6/\js AMz)) E s1)))
 LW:AqU (cm X) (BB AW AkZ AWT AkK (Apd BPw))
 RY:BfP
def abm(Bhm):Θ:=
 ∃(it:Ζ) (fp:Cb) (tn:AYr) (J:It) (H' :Hp) (cm:HT Cx),itv= .B4 it/\AkC/\Wi Fr X.w AJ tg J fp it tn cm/\BPi/\ (WE fp AmU)/\AoB /\
  ∀Y:Cx,Y.A=X.A ->Y.calm=X.calm ->(∀b o u,AU7 ANp ->Md Y.H₀ ANp) ->cm Y
def PIg(Bfj):Θ:=
 AWj R ANm (wi σ H R) AYD (BWB (abm X Ξ σ tg R))
theorem pig(hc:FX)(hi:BPp):Ba5:=fun Ξ s σ H R I h=>
 bV (ABY hi R I h) (ì h1 (bV h1 fun itv s2 B_=>by obtain⟨it,fp,tn,J,H',e,I',T,st,f,r⟩:=B_;exact⟨it,fp,tn,J,H',fun Y=>Y.calm=Μ,e,I',⟨T.mem,T.obj,T.keep,Arq,Arp,T.self⟩,st,f,r,fun Y _ q _=>q.trans hc⟩))
def Ia(A1:Ζ)(J:It)(DT :St)(g:TG)(tc:TT)(te:TE)(Q:APh)(H1:Hp):Θ:=
 AQt APi (W 0 m [] H1) (∀i m vs H,W i m vs H ->Tm A1 aI/\MB<ASD+1/\
  ((AkK/\M1 A1 H)\/ (AkJ/\ACc MB/\∀x H',J.yld i H x H' ->g x DT H' (AUm (tc σ2 H2 (dl H3 (GT b (te σ2 H3 fun v H4=>H4 A1=Ε aI/\Aua AU0 (upd H4 A1 (FG AU0))) (Aua vs H3))))))))
def Wj(Au:Δ)(FU:CF)(wi:TI)(g:TG)(tc:TT)(te:TE):TE:=O0 wi J (∀A1,yv A1 ->Ia A1 J BI8 g tc te Q (xk A1 AMa))
section
variable{X:Cx}{sc:OK}{Au:Ρ}{FU:CF}{N' :Ρ}{elt tg NM:AK}{ifs:DD}{AB:AX}{wi:TI}{g:TG}{tc:TT}{te:TE}
theorem zlf(S:AFr)(hi:Ba5)
  (hg:BBH PG tg g) (ht:BBH PTs ifs tc) (he:BBH PE elt te)
  (ee:e= .BFZ elt [Atg] sc AB) (hs:Ae6 NM)
  (I:AW) (h:Wj AGo FU wi g tc te σ H Q)
  (D3:∀A1 C H' s5,ABp s5 ->BB A2f (∃m,s5.heap.Ns C m) (H' C=Ι) (C≠VA) (BB (AIY C) (ADY C) (∀p∈X.pn++Ξ,DA≠C) (C∉iN) (BFa ir X.A Đ use Qv ϛ C (.ok AC_) s5))):
  AHF (BFb e sc B9 ps A4X AG AYD use) Qv:=by
 subst ee;refine wpAny_comprehension_free (g:=Atg) (gs:= []) (cl:=rD B9 Pw []) Β hs (yi6 (zoo I S)) Ar5 ?_ (bV (pS hi) (ì h1 BWq))
 ·intro p hp hk;have nd:=S.snd;rw[Asf,Asg] at nd;have d:∀(l:kr),A_b ->p∈l ->l.lookup DA=Ε AU6:=by
   intro l;induction l with
   | DL=>show Aa8
   | AY a r ih=>
    intro hpw h1;show D1 p1 p2 ALx hpw;rcases Cn h1 with e1 | h1
    ·subst e1;rw[Y'];simp [hk]
    ·have hb:G_ DA a.1:=BPJ (p1 p h1)
     rw[Y',hb];exact ih p2 h1
  exact d _ nd hp
 obtain⟨it,fp,tn,J,H2,cm,Β,I2,T,st2,f2,R2,hcm⟩:=h2;have hp0:=I2.fresh;refine iS ?_;have I3:=I2.lnew (AO:= []) (ys:= []) (t' :=Ash) EE (AdM _);generalize ģ:ABK=A1 at*;obtain⟨W,⟨m0,w0⟩,TL⟩:=R2 A1 hp0;show E2 f3 (js (Au8 AUf)) (FL (by
  refine AJH (WJ f2);show AOG eo (ApR st2);rw[BNT (AwR ģ BCZ eo)]
  exact eK f2)) hc (∀C LH,cm (ATx C LH AUf fp)) (fun C LH=>hcm _ Β Β (dy u e (Â (Ź ((ATx C LH AUf fp).TK=upd H2 A1 AMa)) (Q3 hp0) e))) A6 (js (b< A9k)) (FL (by
  show AOG eo (ApR st2);show Axf;exact Adu (zJ eo))) st3 (tn 0 (Ĥ AVR)) (Aw1 st2 xo);show PY (yas ?_) (ALX _ _ (.compStart kz 0 ANP ϛ (A_e A9k)) (BFa _ _ _ use Qv ϛ A9k) _);generalize hs3:(Anx BMp:AF)=s3 at*;have hh3:Ĥ AVR=s3.heap:=Bk9
 have abW :(xB s2 BMp:AF)=s3:=Bk9
 rw[hh3] at A6 st3⊢;have I4:=z9b I3 S f3 A6;have st4:tn 0 (ALw (BEZ kP) Pw):=Aw1 st3 BbL;have A9:ALX ir X.A (.compLoop kz 0 ANP ϛ (A_e ALg)) (BFa ir X.A Đ use Qv ϛ ALg)
   (xB s3 (ALw (BEZ kP) Pw)):=by
  have stat:BbF (nU AO2 [] H' b):=fun hn b hb=>
   ⟨AjU,eK I4.ok.Z6,I4.ok.Hv b hb,.D6 hb,WJ I4.ok.Z6,BAs⟩
  refine z60 (sg n (Bgq (W i n vs H'))) ?_ m0
   ⟨0,[],Aab yC σ,_,I4,st4,FL (eK f3),w0⟩
  rintro n s5 ⟨i,vs,σ5,H5,I5,Sd,fr5,w5⟩;obtain⟨ha5,hz5,⟨AAp,qn⟩ | ⟨go,hz,step⟩⟩:=TL i n vs H5 w5
  ·refine bV (Arp AO2 Β Β Β (hc _ _) i [] s5 σ5 H5 _ I5 (stat fr5) Sd AAp) (AV r s6 D8);obtain⟨hr,I6⟩:=D8;subst hr;have IX:ZO H5 s6:=I3.call' (ch:=fp) I6.os I6.base I6.hok I6.bare (FL ⟨(WJ f3).2.2.1,AVy f3,(WJ f3).2.2.2.1,(WJ f3).2.2.2.2⟩);obtain⟨m6,hn6,_⟩:=I6.loc;refine D3 A1 ALg H5 s6 IX qn ⟨m6,hn6⟩ I6.free (ADt I3.lt) I3.sz (fun x c e z=> ?_) (AV p hp z) (AMU I3.nofs)
   ·show EU v q I3.cell x c e;exact aE q.lt A7r
   ·exact lf zJ (AOh I3.pin) A7r
  ·
   have I5' :Inv AO2 [] AOl H5 s5:=z93 I3 S f3 I5;refine bV (Arq AO2 Β Β Β (hc _ _) i [] s5 _ H5 _ I5' (stat fr5) Sd go) (AV r s6 D8);show ŝ u hr h6;subst hr;refine bV h6 (AV _ s7 Bi);obtain⟨x,H7,I7,r7,y7,st7,fr7⟩:=Bi;have I7' :=I7.pinned (stat fr7) (T.obj _ _ st7);refine bV (hg _ _ _ _ _ s7 _ H7 x u _ I7' r7 (step x H7 y7)) (AOJ _ s8);obtain⟨σ8,H8,I8,q8⟩:=D8;refine bV (ht _ _ _ _ _ s8 σ8 H8 _ I8 q8) (Na s9 D8);show ŝ H9 I9 q9;have ALS:∀{vs' :AT} {DT :St} {H' :Hp} {s' :AF},Inv AO2 ([]++uM fp s7.heap) DT H' s' ->(∃m',m' <n/\W DI m' vs' H') ->
     Amh (Bgq (W i m vs H')) :=fun{vs' DT H' s'} I' ⟨m',hm,w'⟩=>by
    refine⟨m',hm,EL,vs',DT,H',I'.unpinned,BZC st7 I'.pin,L7,w'⟩;show br e d (ApR st7);exact Bao I'.pin
   cases b with
   | AG=>
    rw[gN] at q9⊢;exact ALS I9 q9
   | Μ=>
    rw[EF] at q9⊢;refine bV (he _ _ _ _ _ s9 σ8 H9 _ I9 q9) (AV y s10 zu);obtain⟨v,H10,I10,r10,PJ,q10⟩:=zu;refine bV (zwq (X:=blk X sc N' ALg s3 AUf fp) _ s10 σ8 H10 ϛ [v] ϛ [y] (JP H' (H' =upd H10 A1 (FG AU0))) I10 Β (.AY r10 EE) ⟨A1,vs,v,Β,Β,PJ,hz,Β⟩) (AV _ s11 wA);obtain⟨_,H11,I11,_,e11⟩:=wA;subst e11;exact ALS I11 q10
 exact codeAny_compStart_list A9 (MH T.self _ st4 A9)
#where
def Ib(K:AD)(F Hx:Hp)(J:It)(ds:AQ):Θ:=AYh (∀(i:Δ) (H1 F1:Hp),yy ->qc H1 ->MC Hx H1 ->
 (i=NN ->J.stop i H1)/\∀d,A4d ->J.go i H1/\∀x H',J.yld i H1 x H' ->∃F2,Gr F1 H1 F2 H' /\EA K F2 d x)
def Nj:Hp:=Av1
theorem z2n:Û Nj:=Jn e Abl
inductive UpI (BXh):Θ
 | mk:AfH (∀ds B5 F' H' J Hx,AH0 ->BB F_ (AHS Hx) (Ib K F' Hx J ds) (ax ds) AoB) (AoD UpI)
def upI(AOy)(AY0):TI:=fun σ H R=>(AoD UpI)
inductive Wk (BXh):Θ
 | mk:AfH (AgZ ds J (Ib K F' Nj J ds) ds AoB) (AoD Wk)
def abn(AOy)(AY0):TI:=fun σ H R=>(AoD Wk)
def QI(BAV):Θ:=BMi abn
def S6(BAV):Θ:=BMi upI
theorem Nk(h:ϔ e t)(hi:∀σ H R,t' σ H R ->t σ H R):ϔ e t' :=Agq R R
theorem lD(h:AQQ e t):S6 X F0 H0 tg e t:=AWG gS (AVB B_ (by obtain⟨F,Γ,P,S,q,k⟩:=B_;exact⟨F,Γ,P,S,q,fun ds B5 F' H' J S' s' hJ hp=>k ds B5 F' H' J Nj S' s' z2n hJ hp⟩))
def Wl(K:AD)(tl:TE):TI:=Bb0 (∃xs,lA K H1 a xs/\ (ū ->Aa9 R9)) (∃xs,v8 K H1 a xs/\ (ū ->Aa9 O3))
theorem yh5(hl:PE X l tl):ϔ l (Wl AJ tl):=by
 show Do R;refine bV (pS hl) (ACt Bi);show XX Bi;show EM a e q q1;subst e;show AE r1 r1 r1 r1 r1 r1 r1 r1 r1 r1 r1 r1 r1 r1;rcases q with ⟨xs,hq,q⟩ | ⟨xs,hq,q⟩
 ·show AaJ I1.list;show BSg zxo (q hz)
 ·show AaJ I1.tuple;show BE (BE_ BK5 ?_) ⟨EJ,[EJ],_,_,H1,Β,AOj,zsm a _,ky,L7,q hz⟩;show AWb
  exact AWv
theorem yja{K:AD}{F Hx:Hp}{a:Ζ}{vs:AT}{ds:AQ}(hq:A6l (v8 K H1 a vs))(rs:L3)(hz:AOL):A5M (O3 K a):=by
 show Alo;refine ABo (Beo (AQv ⟨vs,BZZ,Υ⟩))
 show AZ6 hd;refine⟨⟨vs,v,BZZ,hv⟩,AKb⟩;show tN y y;have:=y vs (hq _ kN);show DF hv;show IN;exact⟨F1,Ě s2,A0g⟩
def iL(mT):cW:=ku (sR d AXR (GV ds) AJc (GV ds))
section
variable{X:Cx}{F0 H0:Hp}{e tg:AK}{es:DD}{AB:AX}{te:bZ}{g:uF}{gs:yr}{ti:cW}{tb:aD}
theorem pH(h:RF):AQQ e (iL te):=fun z E cx=>Nk (yh5 gS) (AVB zu (by obtain⟨F,Γ,P,S,q,k⟩:=zu;exact Au4 (BQs (by
 cases d with
 | By ds=>
  show é r1;refine KI a (.D6 ⟨vs,ADQ,AOF (k ds AC F1 H1 _ R1 s1 ?_ h1)⟩);refine⟨ADJ jQ rs hz,fun i H2 F2 s2 s3 s4=>(AQv ⟨vs,Ahw,by rw[e,zC];exact zO _⟩)⟩
  show AZ6 hd;refine BMf AKb;show tN y y;have:=y vs BVV;show DF hv;show IN;exact A'l
 | EI ds=>
  show é r1;exact⟨a,Β,.BO ⟨vs,A2H,AOF (k ds AC F1 H1 _ R1 s1 (yja (fun H2 s=>rA s hq) rs hz) h1)⟩⟩
 | _=>show Ϝ))))
def mV(ti:cW)(g:uF)(tb:aD):aD:=AMX D0 ti ds BBp
theorem Wm(hc:FX)(hi:AQQ NM ti)(hg:Aay)(hb:Aat)(AN7):
  AqB NM mV ti:=fun z E cx=>
 uE (BAj APM OB hs) (AMZ Dn wA wA (WA (fun ds AC F1 H1 J R1 s1 hJ h1=>by
  show BAk;refine C9 (fun i m σ H=>m=NN - i/\Aze/\AwX) ⟨NN,DC,K2,F1,AC,R1,qA,i0⟩
  rintro i m σ H ⟨Β,hi,F2,BF,R2,s2,hI⟩;obtain⟨ATI,hgo⟩:=hJ.2 i H F2 s2 R2.g z2n;by_cases A6:Aij
  ·show BBo;refine .BO ⟨go,A_W,Ap1 AZZ,AKb⟩
   obtain⟨F3,gr,rx⟩:=yl x H' y;exact⟨F3,BF,_,ds[i],AsV gr,rx,TL i ds[i] BF (zZ A6) hI,fun Γ4 F4 H4 σ4 R4 s4 p=>⟨F4,Γ4,Ahx D2 AGj,R4,p,AKj BfR (Bkj (PR R5 (BQD s5) q)) BfR⟩⟩
  ·show A2G
   show FR ⟨ATI Β,PR R2 (AA' s2) (LW _ hI)⟩)))
def Ie(Γ:G2)(j:Δ):Ic:=APS Γ[j]? APy (.pu d) DO
def pU(Au:Δ)(FU:CF)(Γ:G2):G2:=AW7 Au DO++BFX (Ie Γ)
theorem z2d(AFJ){σ:St}{Γ:G2}(Au:Δ)(FU:CF)(R:Hm):SR K F H F H BI8 (pU Au FU Γ):=by
 have len:zn yC Au FU σ=zn pU Au FU Γ:=aw yC pU
 have Ig:BAz (pU Au FU Γ):=BAK (by
  show UP pU;by_cases hi:i<Au
  ·show Bip AAv
   show AFl (Ch hi) AjQ
  ·show AVI ALf GN
   cases q:FU[i - gL Bmx Au Slot.no]? with
   | Ι=>rw[q] at e;show DM
   | Ε j=>
    rw[q] at e;have e' :Ie Γ j=s:=Cc e
    unfold Ie at e';split at e' <;>(subst e';exact AjQ))
 refine⟨Ě R.g,len,ja i s,fun i j a EY=>by obtain⟨s,o,e,_,h⟩:=EY;exact i5 h (Ig i s o a) e⟩
 by_cases hi:i<Au
 ·refine C9 Ι ?_
  ·unfold yC;rw[AkN,ASs,Ch hi]
  ·show UP pU;rw[AkN,ASs,Ch hi] at e
   show DM;trivial
 ·show UP pU;show BSt e
  cases q:FU[i - Au]? with
  | Ι=>rw[q] at e;show DM
  | Ε j=>
   rw[q] at e;have e' :Ie Γ j=s:=Cc e
   refine C9 A6M ?_
   ·unfold yC;rw[AwH,GN,BEO,q];rfl
   ·unfold Ie at e';split at e'
    ·rename_i d hd;subst e';obtain⟨o,e1,v,Β,rv⟩:=dS j _ hd;exact⟨v,aS e1,rv⟩
    ·subst e';trivial
def Fy(g:uF)(tc:TT2)(te:bZ)(Γ0:G2)(x:D)(P:T0):Θ:=BeZ (te BF (sf d (P [d])) jR)
def cG(EB:ACy):UA
 | [],P=>si
 | L8,P=>EB x fun ys=>cG EB xs fun zs=>AxF
def bO(Au:Δ)(FU:CF)(ti:cW)(g:uF)(tc:TT2)(te:bZ):cW:=Zp ti ds (cG (Fy g tc te (pU Au FU AC)) ds fun ys=>(GV ys))
theorem zp4(f:D ->AQ):jp xs AQ P T0 (∀x∈xs,∀P,P (f x) ->EB x P) (P (xs.flatMap f)) (cG EB xs P)
 | [],_,_,h=>h
 | L8,P,k,h=>k x zY _ (zp4 f BVS (by simpa [BFd] using h))
def eO:TT2:=AZ3 Μ
def Nm(UF)(ifs:DD)(t:TT2):Θ:=Ŝ PTs ifs VN
theorem qX:G0 Nm [] eO:=fun z E cx Ξ s σ H Q I Pk=>by show M0 Pk;exact yjk Ξ s σ H Q I (Ã R IP h)
theorem FJ(h:ABc QT c):ABc Nm [c]:=AXa yka gS
#where
section
variable{X:Cx}{F0 H0:Hp}{elt tg NM:AK}{ifs:DD}{sc:OK}{Au:Ρ}{FU:CF}{N' :Ρ}{AB:AX}{te:bZ}{g:uF}{tc:TT2}{ti:cW}
def gX(K:AD)(g:uF):TG:=AZg (∃F0 H0,ZT upG g jR v σ H Q)
def tX(K:AD)(t:TT2):TT:=A_9 VN
def eX(K:AD)(t:bZ):TE:=A_9 HN
theorem zt5(gr:zw)(h:AEa)(e:APj):r8:=by
 cases q:F' a with
 | Ι=>rfl
 | Ε u=>
  show Ahp (gr.n a u q h)
  ·show AWu e
  ·rw[e] at z;show Lw;show ϖ
theorem zqh(AFJ){σ:St}{Γ:G2}{J:It}{Hx:Hp}{ds:AQ}{A1:Ζ}{P:T0}{Q:APh}(R:Hm)(hJ:A5M J)(hx:Û Hx)(ha:N4 A1)
  (h:cG (Ao2 Fy te) ds P)
  (D3:∀ys F' H' vs,BB AZw F_ A7s A2Y (BB (H0 A1=Ι) (AUL ys) (AMk A1) (P ys) A2f)):
  BfO eX te:=by
 obtain⟨R1,e1,e2,e3,ap⟩:=Hi (ds:= []) (vs:= []) R ha Iy
 show HL hx1 (MC Hx Awy) BX5 xa BWj BdN (Amk vs H' NN Aze (∃F' ys,AZw/\F_ /\AHS Hx /\A7s/\A2Y/\AUL ys/\Ay6/\cG (Ao2 Fy te) (ds.drop i) BNS) ⟨NN,DC,K2,F,[],R1,qA,hx1,e1,e2,N1,NF,Cc h⟩)
 rintro i m vs H' ⟨Β,hi,F',ys,R',sF,hx',ha',PK,rs,lv,hc⟩;have hz:=hJ.1;refine C9 ha' Υ
 obtain⟨ATI,hgo⟩:=BfF;by_cases A6:Aij
 ·show BBo;refine .BO ⟨go,Υ,BRn⟩
  show EM F2 gr rx (yl x H2 y);rw[ALy A6] at hc;have R2:=ATJ gr;refine⟨F2,H2,F2,Aab pU Γ,_,ds[i],Aab z2d R2,rx,hc,Bgh⟩;refine Bgz;have wg:BRQ:=Asi R4.gr;cases b with
  | AG=>
   rw[gN] at q4;refine⟨AZZ,Υ,Β,A6,F4,ys,ATJ wg,ğ wg.f,BUk,BNm,BaV,ALz wg.f,Υ,?_⟩
   simpa using q4
  | Μ=>
   rw[EF] at q4;refine⟨F2,H2,F4,Γ4,_,R4,q4,fun d Γ5 F5 H5 v R5 s5 rv q5=> ?_⟩;have BJ:A9W:=Asi R5.gr;have a5:=BJ.h _ _ ha';have f5:=zt5 BJ PK ha';refine⟨a5,AZZ,Υ,Β,A6,F5,ys++ [d],?_,ğ BJ.f,K0,gP,f5,M9 (ALz BJ.f) (Nb rv),Ai1,?_⟩
   ·have R6:=ATJ BJ;refine BgO
    ·rw[Q3 f5];show ye R6.g
    ·rw[Q3 e3];show ye R6.gr.h
    ·show br p1 p2 BTm;refine⟨o,p1,Sw p2 IP Bbw⟩;have:c≠A1:=AZ (Axx (ap j BYQ))
     rw[bU Τ];exact q
   ·show AJi (xa u (UK z e));exact BJ.h b u AwM
   ·simpa [ĥ] using q5
 ·show A2G
  refine .D6 ⟨ATI Β,D3 ys F' H' vs R' sF ha' PK e3 rs ap ?_⟩;rw[Bnd] at hc
  simpa [cG] using hc
structure cP (N:Ρ) (sc:OK) (Au:Ρ) (FU:CF) (Wn:OK) (N' :Ρ):Θ where
 kind:A3V
 nd:N'.Nodup
 snd:BID
 cr:BZp BFe BFe
 IS:BXY
 FU:Bdd
theorem cP.cs(h:ARN):AFr :=⟨h.kind,h.nd,h.snd,h.free,h.names,h.caps⟩
def QIg(BAV):Θ:=AT6 (PIg LP tg e (ABZ upI t E))
theorem ycm(S:ARN)(hi:QIg X F0 H0 tg NM ti)
  (hg:AbI) (ht:AbJ) (he:Ao_)
  (A_m):ACW kz BBm:=by
 subst hn;rintro z E cx Ξ s σ H Q I ⟨F,Γ,P,R,h,k⟩;rw[show cz kz (ĝ z).BV=BFb kz sc B9 _ A4X AG AYD from Bk0];refine BWC (tc:=tX AJ tc) (te:=eX AJ te) (Q:=Q) Awh APM ?_ ?_ ?_ Β hs I ?_ ?_
 show BHh Aqb q
 show Ala
 show Alb
 ·exact BU5 (k ys AC F' H' A1 vs R' Ajx a1 a2 a3 rs ap hp)
 ·show AqW;exact⟨m,hn,AwI ⟨AiX,H',BSh,Β,q5⟩⟩
theorem qY(S:ARN)(hc:FX)(hi:Ao')
  (hg:AbI) (ht:AbJ) (he:Ao_)
  (A_m):ACW kz BBm:=ycm S (fun z E cx=>pig hc APM) hg ht he hn hs
theorem Ih(hN:vi)(hi' :E4 X.N y)(hy:AoR)(S:ARN)(hc:FX)(hi:Ao')
  (hg:AbI) (ht:AbJ) (he:Ao_)
  (hn:AvR:=by rfl) (hsw:AGR kz (Dx (ME y py)) spos.line B9=Go Μ:=by rfl) (AN7):
  BbD (fQ i (bO n FU ti g tc te)):=by
 subst hn;rintro z E cx Ξ s σ H Dn I ⟨F,Γ,D2,R,h,k⟩;rw[BRJ];refine BPU;refine Bhw (pig hc APM)
 ·rintro C LH TK fp Ξ s σ H v u Q I r ⟨uQ,uR,q⟩;exact Aqb q
 show Ala
 show Alb
 ·exact BU5 (PR (R'.setOw i a1 a2 a3 rs ap) (AA' sF) hp)
 ·show AqW;refine BDf (DU zqf I5 hN hi' Ayf (v:= AiX) Β BWH Ays);show ŝ a hsb ha;have ha' :BSp:=ha;have hac:C≠a:=by
   show œ ha' ha'
   ·exact c2
   ·exact AZ (c4 y a ha' wc)
  refine BeT
#where
inductive Np (K:AD) (g:UA) (vs:AT) (H:Hp) (Q:VK):Θ
 | mk:Bbq (∀es us l,A4i ->N4 l ->P es ->Awc us) Np
def FN(K:AD)(g:UA):ë:=fun vs H Q=>Np K g vs H Q
section
variable{X:Cx}{F0 H0:Hp}{a b e:AK}{es:DD}{AB p p2:AX}{ta tb te:bZ}{t:cW}{x:Κ}
def qt(g:UA)(t:cW):cW:=X0 (g ds fun es=>(GV es))
theorem ygu{K:AD}{g:UA}{E:XW}{σ:St}{H:Hp}{Q:VK}(h:AHj upF (qt g t)):BWw FN:=by
 show M0 h;refine Bfr (fun es us l r hl hp=> ?_);obtain⟨R2,e1,e2,e3,ap⟩:=Hi R1 hl r;exact Apa (k es AC F1 _ l us R2 s1) r hp
theorem yb0{id:KL}{g:UA}(hc:∀z,dD LP ACh (FN AJ g))(hg:KG)(hm:Ϭ)(hv:ϡ ACh)(ha:Si)(AAS)(sT):AWa sQ g:=fun z E cx=>
 nQ (DU O7 Ai0 hg hm hv E8 hn hdb he hpl) (ADc ygu)
theorem K9{T:KL}{g:UA}(hc:∀z,dD LP sC (FN AJ g))(hg:KG)(hm:Ϭ)(hv:ϡ sC)(ha:Si)(AAS)(sT):AWa sQ g:=fun z E cx=>
 nQ (DU Vm Ai0 hg hm hv E8 hn hdb he hpl) (ADc ygu)
theorem z1w{T:KL}{g:Sn}(hc:∀z,dD LP sC (ud AJ g))(hg:KG)(hm:Ϭ)(hv:ϡ sC)(ha:Si)(AAS)(sT):Ee sQ A4s:=fun z E cx=>
 nQ (DU Vm Ai0 hg hm hv E8 hn hdb he hpl) (ADc yge)
#where
def BK:UA:=BUa (P xs) (P xs)
theorem Nq:A1i (FN AJ BK):=by
 show mv;show De BK;show NG
 ·show AAV;exact Bcp Ans
 ·show AAV;exact Bcp Anp
 ·show GW
def La:Sn:=BUa (P WZ) (P WZ)
theorem yhj:ANs YE (ud AJ La):=by
 show mv;show De La;show NG
 ·show AAV;refine BQJ (.D6 (ST (wb hq) l hl));have gr:=AGh (o:=ATA vs) sF hl;refine Ã gr ?_ h;exact Sf l AE_ (ALz OS)
 ·have rs0:=rs;show AAV;refine BQJ (.BO ⟨rA sF hq,pp ?_ h⟩);exact Sf p hq rs
 ·show GW
def Rs(xs:AQ)(lo hi:SK):AQ:=BK8
theorem z2s{K:AD}{F:Hp}{ds:AQ}{vs:AT}(r:L3)(lo hi:SK):P7 (Rs ds lo hi) (yj vs lo hi):=by
 unfold Rs yj;rw[jQ r];exact zps _ (zq2 _ r)
abbrev Lb:=ARW SK
inductive UpO (AOy) (t:Lb) (E:XW) (σ:St) (H:Hp) (Q:Ayv):Θ
 | mk:AfH (∀o B5 F' H',AH0 ->F_ ->ax o ->Q o H') (AHj UpO t)
def upO(AOy)(t:Lb)(E:XW):TO:=AFO UpO
def QO(UF)(e:AXK)(t:Lb):Θ:=Ŝ PO e upO
theorem poC(h:PO X e t)(hi:∀σ H Q,t' σ H Q ->È):PO X e t' :=A8_
def BL:Lb:=AZ3 Ι
def wW(mT):Lb:=ku (i' FV (P (Ε i) AC))
section
variable{X:Cx}{F0 H0:Hp}{a b e:AK}{es:DD}{AB p p2:AX}{ta tb te:bZ}{t:cW}{x:Κ}{lo hi:AXK}{tl th:Lb}
theorem Ld:G0 QO Ι BL:=fun z E cx=>poC yjs (BJa (e_ k R IP))
theorem FP(h:RF):G0 QO AXN (wW te):=fun z E cx=>poC (yjg gS) (NH Bi Bi (Aoh (by
 cases d with
 | AN i=>exact⟨i,r,Ã R1 s1 q⟩
 | _=>show ze)))
def Ae(Bd6):cW:=BeO (i' gT (P BV4 Γ3))
theorem Ka(Bfb):ACW (AXc e A's) (Ae te tl th):=fun z E cx=>
 nQ (z0w yiy RA (NX hl) (NX hh)) (NH zu zu (Bgf (BfM (by
  cases d with
  | By xs=>
   have r3:=AGk AnX;show é r3;refine Sf a (R3.g.seq hq) mh;have rc:=z2s rs l u;obtain⟨R4,e1,e2,e3,ap⟩:=Hi R3 hp rc;exact Apa (k _ Γ3 F3 _ p _ R4 AlW) rc h3
  | _=>show SA h3))))
def wB(mT):cW:=ku (i' gT AzF)
theorem Wo(OH):A'Q (P7 ds.reverse vs.reverse)
 | [],_,h=>by subst h;rfl
 | b_,_,h=>by
  show Ape v;rw[AsH,AsH];exact M9 (Wo h2) (Nb h1)
theorem z75{k1}{p3 p4:AX}(he:RF):ACW (AXc e (.Slice Ι Ι (Dx (.Ac_ .USub (.ASa Aeo k1 p3) p4)) p2)) (wB te):=fun z E cx=>by
 rintro Ξ s σ H Q I ⟨F,Γ,P,R,h,k⟩;refine BOx (Ags he (∃F1 AC d,AM1/\yy/\EA AJ F1 d v/\ (i' gT AzF)) I (fR (AuS d))) wA
 obtain⟨x,H1,I1,r1,F1,AC,d,R1,sF,rd,q1⟩:=wA;cases d with
 | By xs=>
  show é rd;show AE r1 r1 r1 r1 r1 r1 r1 r1 r1 r1 r1 r1 r1 r1;refine wpAny_Slice ?_;rw[BEW];refine z7 (z7 ?_);rw[Bm'];refine bV (DU yk4 yf2 ygp Ξ s1 σ H1 (AUl (v= .AN IO/\H' =H1)) I1 (AXs 1 Β)) (AV u s2 EY);obtain⟨y,H2,I2,r2,hy,hH⟩:=EY;rw[hy] at r2;rw[hH] at I2;show No r2;have I4:Ŧ H1 (xB s2 (Ĥ (WG "slice" #[BA,BA,.AN IO t]))):=Arj (t' :=Ash) (AUY ob);obtain⟨AO,r,ht,hz⟩:=I4.list (BE' hq);have FI:=Pp;refine BEa (T:= IC) (ops:= [B',.B4 ABK]) BnD BEc ?_ tj
  refine BnE ht.isList BIJ BA BA (.AN IO t) A7 ?_ AYo
  rw[W.krv_pick];have rr:=Wo rs;have hf:=I4.fresh;obtain⟨R4,e1,e2,e3,ap⟩:=Hi R1 hf rr;refine MR AiV (I4.laid (t' :=Ash) (o:= .By vs.reverse) (AUY ob) Kt ?_) (k _ AC F1 _ _ _ R4 sF e1 e2 e3 rr ap q1);exact⟨BHC hz,_,0,r.reverse,SE⟩
 | _=>show SA q1
#where
section
variable{X:Cx}
theorem toI{A:BQ}(h:PZ):AjS:=h
theorem zod(I:AW)(k:A2l)(r:OC)(q:Q v H):ϕ u kM:=⟨v,H,Arf k,r,q⟩
def mX:AQ ->ARA Ω
 | []=>Aip
 | FV::r=>B7 mX r (i:: ·)
 | EH=>Ι
def uf:AQ ->ARA AU
 | []=>Aip
 | .bl i::r=>B7 uf r (i:: ·)
 | EH=>Ι
theorem zj5(OH):BU3 Bz (mX ds=Ε ns) ay
 | [],vs,ns,r,h=>A7T
 | FV::ds,vs,ns,r,h=>by
  show GG v us Β r r;show De mX;cases q:mX ds with
  | Ι=>rw[q] at h;show HI
  | Ε ms=>
   show A'C zj5
 | B8::_,_,_,_,h=>EN
 | jb::_,_,_,_,h=>EN
 | gc::_,_,_,_,h=>EN
 | AXW::_,_,_,_,h=>EN
 | Ý::_,_,_,_,h=>EN
 | Ϣ::_,_,_,_,h=>EN
 | AEV::_,_,_,_,h=>EN
 | A0'::_,_,_,_,h=>EN
 | AEh::_,_,_,_,h=>EN
 | AEi::_,_,_,_,h=>EN
 | APo::_,_,_,_,h=>EN
theorem zun(OH):BU3 AJG (uf ds=Ε ns) .bl
 | [],vs,ns,r,h=>A7T
 | .bl i::ds,vs,ns,r,h=>by
  show GG v us Β r r;show De uf;cases q:uf ds with
  | Ι=>rw[q] at h;show HI
  | Ε ms=>
   show A'C zun
 | B8::_,_,_,_,h=>EN
 | b9::_,_,_,_,h=>EN
 | gc::_,_,_,_,h=>EN
 | AXW::_,_,_,_,h=>EN
 | Ý::_,_,_,_,h=>EN
 | Ϣ::_,_,_,_,h=>EN
 | AEV::_,_,_,_,h=>EN
 | A0'::_,_,_,_,h=>EN
 | AEh::_,_,_,_,h=>EN
 | AEi::_,_,_,_,h=>EN
 | APo::_,_,_,_,h=>EN
theorem z9j(ns:Bz)(f:ϣ)(h:∀i,i<HQ ->f i=ACa):BFf f HQ=ns.sum:=by
 have A9:∀k,k<=HQ ->BFf f k=(ns.take k).sum:=by
  intro k;induction k with
  | Re=>intro _;rfl
  | Rl k ih=>
   intro hk;refine(?_:BFf f k+f k=_);show Axe (ih Η) (h k Η) AL0 List.sum_append AXx
   simp
 rw[A9 _ AyQ,wf]
theorem zt8(pl:PlainL h p AO):BP9 IsListIter MW p 0/\ BP9 IsList p AO:=by
 refine C3 ky;obtain⟨o,n,e,hcl,_,hd⟩:=pl;exact⟨o,xo,hcl,n,hd⟩
theorem z76(bs:AJG):AV5 Id any BRE=bs.any id:=by
 rw[Adw];simp only [Adx,Bne,id];constructor
 ·rintro⟨i,hi,e⟩;show Azm fh;exact D4 (yZ hi) e
 ·rintro⟨b,hb,e⟩;show AEr i hi hb;exact⟨i,hi,Â Mb fh e⟩
theorem z65(bs:AJG):AV5 Id all BRE=bs.all id:=by
 rw[Adw];simp only [Bnf,Bne,id];constructor
 ·intro h b hb;show AEr i hi hb;have:=AkA;show BIf fh;exact Τ
 ·intro h i hi;rw[Mb,fh];exact h _ (yZ hi)
def ycy:Sn:=BXE bs.any
def yg6:Sn:=BXE bs.all
theorem yga{bs:AJG}{AO:At}(rv:IY (ABL .bl) AO){i:Δ}{v:AH}(hv:BIL):v= .bool BLO:=by
 show AAL;show AQi;have hv' :Az5:=Cc hv
 have hi:i<Id:=NA (QP hv')
 show BI u hu ru (P_ AGT i x (.bl BLO)) BR5
 rw[hv'] at hu;show AE hu hu hu hu hu hu hu hu hu hu hu hu hu hu;exact ru
theorem z8v{ns:Bz}{AO:At}(rv:A9x){i:Δ}{v:AH}(hv:BIL):AyA/\∃t,v= .AN (ZA i 0) t:=by
 show AAL;show AQi;have hv' :Az5:=Cc hv
 have hi:AyA:=NA (QP hv')
 show BI u hu ru (P_ AGT i x (.AN (ZA i 0))) BR5
 rw[hv'] at hu;show AE hu hu hu hu hu hu hu hu hu hu hu hu hu hu;exact⟨hi,ru⟩
theorem yly(ï):AJz "any" ycy:=by
 show mv;show De ycy;split at h
 ·show AAV;show EM bs hbs h h;show SG (zun rs hbs);show Sr;show AE rx rx rx rx rx rx rx rx rx rx rx rx rx rx;show Fh AO rv pl hz AKZ;show AAL;show AQi;refine A7j call_any_walk;have S7:PU p:=A'Y
  refine⟨CL,_,_,_,_,_,BPW,Β,BBn,zt8 pl,Bgg,gI tk kp⟩
  ·rw[yga rv hv];exact đ hQ
  ·rw[AyW BMy hl,z76]
   show Bab bs.any
 ·show GW
theorem yn5(ï):AJz "all" yg6:=by
 show mv;show De yg6;split at h
 ·show AAV;show EM bs hbs h h;show SG (zun rs hbs);show Sr;show AE rx rx rx rx rx rx rx rx rx rx rx rx rx rx;show Fh AO rv pl hz AKZ;show AAL;show AQi;refine A7j call_all_walk;have S7:PU p:=A'Y
  refine⟨CL,_,_,_,_,_,BPW,Β,BBn,zt8 pl,Bgg,gI tk kp⟩
  ·rw[yga rv hv];exact đ hQ
  ·rw[AyW BMy hl,z65]
   show Bab bs.all
 ·show GW
theorem z07(ns:Bz):∀k,Ayz ->∃i,i<=k/\BFh BWG k=i/\∀j,j<=k ->ZA j 0<=ACa
 | 0,_=>Lu 0 NF (XA (by show HA (j=0) Η;exact Ady _))
 | k+1,hk=>by
  obtain⟨i,h1,h2,h3⟩:=z07 ns k Η
  unfold BFh;rw[h2];by_cases hg:ZA Eg 0>ACa
  ·show DJ (CC hg)
   refine Lu (k+1) NF Aaf;by_cases hjk:j=k+1
   ·subst hjk;exact Ady _
   ·have:=h3 j Η;show AA
  ·show BD (CC hg)
   refine Lu i Υ Aaf
   by_cases hjk:j=k+1
   ·subst hjk;show AA
   ·exact h3 j Η
def z09:Sn:=ADo (∃ns m,Alq/\m∈ns/\ (∀i∈ns,i<=m)/\Sj m)
theorem yew{ns:Bz}{i:Δ}(h:i<HQ):ACa∈ns:=by
 show ϗ lT;exact yZ h
theorem yeu{ns:Bz}{m:Ω}(h:m∈ns):∃i,AyA/\ZA i 0=m:=by
 show zS i hi (ATK h);exact⟨i,hi,AkD fh⟩
theorem ygh(ï):AJz "max" z09:=by
 show mv;show De z09;split at h
 ·show AAV;obtain⟨ns,m,hns,hm,hmx,h⟩:=h;show AQn zj5;show Sr;show AE rx rx rx rx rx rx rx rx rx rx rx rx rx rx;show Fh AO rv pl hz AKZ;show AhP;show AQi;have AB:0<HQ:=Bng hm;refine A7j call_max_walk;have S7:PU p:=A'Y
  refine⟨CL,_,_,_,_,_,_,Β,BBn,zt8 pl,?_,Ai1,CmpOf.ints_gt AYb (fun i v hv=>(z8v rv hv).2),FY v h' tk hv kp⟩
  ·intro b hb;rw[Y1];rcases Cn hb with Β | hb
   ·show AYW
   ·rcases Cn hb with Β | hb
    ·show APA S7
    ·show d5 hb hb hb hb hb hb hb hb hb hb hb hb hb hb
  ·show GA hi t Β z8v rv hv;obtain⟨i,b1,b2,b3⟩:=z07 ns (v_ - 1) UT
   have e:ZA (BFh BWG (v_ - 1)) 0=m:=by
    rw[b2];show BI j hj ej yeu hm;have q1:=b3 j UT
    have q2:=hmx _ (yew (ns:=ns) (i:=i) (by simp at b1;show AA))
    show AA
   rw[e];refine Bkf (.AN m) AQZ
   show Bkd
 ·show GW
#where
def Cq:Ic ->Ic | .ow ds=> J_ ds | .tr _ t=> .pu (toD t) | .nt _ ts=> AiZ (j6 ts) | .xe _ C _ _=> BNY | s=>s
def nO(Γ:G2):G2:=Γ.map Cq
def gU(Γ:G2)(σ:St)(b:Ζ):Θ:=∃j,nZ Γ σ j b
open Ĝ in
theorem z1v(BgE):∃F1,yy/\BZJ/\ (BYJ)/\Aht (∃u,AV8/\mE):=by
 let F1:Hp:=f_ (ABi AuL F (AuO H))
 have s1:yy:=BYK
 show E2 s2 (qc H) (SS (by
  have e' :av (Agp H):=e;show Ë
  ·exact R.g b u e'
  ·show Ë
   ·exact e'
   ·show Abm)) at1 (∀b u,ņ ->eC ->AEX ->AV8) (fun b u h1 h2 h3=>by
  show(Agp H)=_;rw[CM (AXp h1),Ch h2]
  exact h3) Ig (BAz (nO Γ)) (BAK (by
  show UP nO;show BHR;cases q:AJf with
  | Ι=>rw[q] at e;show DM
  | Ε t=>
   rw[q] at e;(show Lv t t t t t t t t t t t t t t)<;>(show DM;exact AjQ))) Au (Aht (∃u,AV8/\mE)) (FL (by
  obtain⟨j,s,o,e1,e2,hs⟩:=id hb;obtain⟨o',e3,r⟩:=dS j _ e1;rw[e2] at e3;show AE e3 e3 e3 e3 e3 e3 e3 e3 e3 e3 e3 e3 e3 e3;obtain⟨h1,_,u,h2,ld⟩:=G9 r hs;exact⟨h1,u,at1 _ _ h1 hb h2,ld⟩))
 refine⟨F1,s1,Bda nO,Na hb hn,Au⟩
 ·show UP nO;rw[GN] at e;cases q:AJf with
  | Ι=>rw[q] at e;show DM
  | Ε sl=>
   rw[q] at e;show br e1 r (dS i sl q);refine C9 o e1;have mine:qq (iw sl o b) (MI H) AV8:=WS hb hu (at1 b u (G9 r hb).1 BfY hu);cases sl with
   | no=>show DM;trivial
   | pu d=>show DM;show bv v rv r;exact KI v A0g
   | ow ds=>
    show DM;obtain⟨a,vs,Β,h1,h2,h3,rs⟩:=r;refine ŕ B';exact Sf a (ABs (mine a _ Β h1)) (ALz s1)
   | tr as t=>
    show DM;obtain⟨v,Β,nd,h1,rv⟩:=r;exact KI v (Adg s1 t v as BZ_ rv)
   | nt as ts=>
    show DM;obtain⟨p,vs,Β,e2,nd,h1,rv⟩:=r;refine ŕ Wp;exact Sf p (AkE s1) (ALn s1 ts vs as BZ_ rv)
   | xe as C fs ts=>
    show DM;obtain⟨a,oe,dx,vs,Β,e2,_⟩:=r;refine ŕ B';exact BRu
 ·show(Agp H)=Ι;show gu (AXp hb) hn
theorem z7f(BgE):∃F1,yy/\BZJ:=by
 obtain⟨F1,s1,R1,_⟩:=z1v R;exact⟨F1,s1,R1⟩
theorem zxk(Af0){F0 H0 F H H' :Hp}{σ:St}{Γ:G2}(R:Hm)(s:AP3):xI F H':=by
 refine ALq (ADb (fun b u e=>s b u (R.g b u e)) s)
def scD:AJQ | B8=>ID | jb=>ID | b9=>ID | gc=>ID | _=>D7
theorem ynd(BcW)(h:scD d)(r:Sb):tF:=by
 cases d with
 | non=>exact r
 | bl=>exact r
 | AN=>exact r
 | AS=>exact r
 | _=>show GW
def tE(mT):bZ:=BTo (scD d/\P d Γ)
def oh(t:TT2):TT2:=fun Γ P _=>t (nO Γ) (fun b _=>P b Γ) jR
section
variable{X:Cx}{F0 H0:Hp}{e:AK}{te:bZ}{tt:TT2}
theorem Le{E:XW}{F1 H1:Hp}(cx:A'j):Ctx X F1 H1 jR:=
 Bhh cx.pq
theorem yiw(h:ul RF):AJT (tE te):=fun z E cx=>by
 show AQ9;show BI F1 s1 R1 z7f R;exact h F1 H z jR AVP Ξ s σ H Q I (A0Q q (fun d B5 F' H' v R' s' r hp=>k d Γ F H' v (zxk R Adz) IP (ynd hp.1 r) hp.2))
theorem yi3(h:ul (APz tt)):APz (oh tt):=fun z E cx=>by
 show AQ9;show BI F1 s1 R1 z7f R;exact h F1 H z jR AVP Ξ s σ H Q I (A0Q q (fun b B5 F' H' R' s' hp=>k b Γ F H' (zxk R Adz) IP hp))
def yD(i:Δ)(te:bZ):bZ:=fun Γ P E=>(∃xs,AM8 AWO)/\te Γ (fun k AC=>(AY_ k AC[i]? AEJ (Ε ä) (∃d,r_ ds k d/\GV d))) E
theorem yfx{i:Δ}{x:Κ}{b:AK}{AB HP :AX}(hN:K_)(hv:So)(hb:ATy b)(hs:zz4 b)(fc):
  Ak4 (ZY HP) b (yD i te):=fun z E cx=>
 nQ (ymz yah mi OB hs) (d6 Bi (by
  obtain⟨F,Γ,P,R,⟨⟨xs,e0⟩,h⟩,k⟩:=Bi;obtain⟨o,e1,a,vs,Β,h1,h2,h3,r⟩:=AZK;refine⟨B',e1,F,Γ,_,R,h,fun d AC F1 H1 v R1 s1 r1 q1=> ?_⟩;cases d with
  | AN m=>
   subst r1;split at q1
   ·rename_i m' ds hm e2;show AE hm hm hm hm hm hm hm hm hm hm hm hm hm hm;show EM d ed hp q1;obtain⟨o,e3,a',vs',ea,g1,g2,g3,r'⟩:=AfL e2;rw[e1] at e3;show AqZ;show AE ea ea ea ea ea ea ea ea ea ea ea ea ea ea;show GA w ew sY zvf r' ed;exact⟨a,vs',m,w,Β,Β,ABs g1,ew,k d AC F1 H1 w R1 s1 sY hp⟩
   ·exact q1.elim
  | _=>show SA q1))
#where
def OwR(X:Cx)(id:KL)(g:AQL):Θ:=
 ∀(Ξ:dN) (s:AF) (σ:St) (F H:Hp) (l:Ζ) (vs E9:AT) (xs ds:AQ) (us:At) (P:T0) (Q:VK),BB AW (Tm l aI) gi (sA xs vs) (Hk (sA ds E9) (AH9 E9) (g xs ds P) (∀ys ws,sA ys ws ->P ys ->Q B8 (ANA l ws)) (A9y SZ))
def zc:AQL:=A'w [d] (A0U/\P (xs++ [d]))
def Lf(xs:AQ)(k:Δ)(d:D):AQ:=xs.take k++d::Acs k
def Kc:AQL:=A'w [AEJ,d] (0<=k/\BIN/\A0U/\P (Lf xs k.toNat d))
def zue:AQL:=A'w (Ķ ys) (BTT (P (xs++ys)))
section
variable{X:Cx}
theorem Lg:OwR X BEi zc:=by
 intro Ξ s σ F H l vs E9 xs ds us P Q I hl sF rs ra rv h k;show De zc;split at h
 ·show AIV rd ra;exact zwq Ξ s σ H AiP [v] AiP us Q I Β rv ⟨l,vs,v,Β,Β,hl,Qb zC ED,k _ _ (M9 rs (Nb rd)) h.2⟩
 ·show GW
theorem zv0:OwR X "list.insert" Kc:=by
 intro Ξ s σ F H l vs E9 xs ds us P Q I hl sF rs ra rv h k;show De Kc;split at h
 ·rename_i j d;obtain⟨v,_,Β,rj,w,_,Β,rd,Β⟩:=ra;subst rj;show Fh h0 h1 h2 hp h;obtain⟨u1,u2,Β,⟨t,Β⟩,r2⟩:=vals2 rv;obtain⟨z,AO,n,r,FI,e⟩:=I.lstM hl;have hxl:=jQ rs;have hfit:¬(APF (Bnh j)):=by
   have hn:=pR;unfold Bnh;simp;show AA
  refine AS1 Bni (ML e) PySem.F.entry_list_insert (PySem.F.args_list_insert_3 _ _ _) (AutoSeq1.list_insert_list_int_val_1 l TH n j t u2 hfit AYo) (C3 e)
  have hk:(DH (j<0) (I_ (j+ AVW)) (min vv v_))=vv:=by
   rw[CM Η,VU]
   show AA
  refine MR B8 (I.lset (iP :=its.take vv++u2::its.drop vv) (ys:=vs.take vv++w::vs.drop vv) hl e ?_ ?_ ?_) (k _ _ ?_ hp)
  ·rw[hk];show Bk4;simp;exact Bnk A7
  ·exact(r.take _).append (.AY r2 (r.drop _))
  ·simp;show AA
  ·exact M9 (zps _ rs) (qT rd (zq2 _ rs))
 ·show GW
#where
section
variable{X:Cx}{F0 H0:Hp}{x EO:Κ}{LX HR ABM AB:AX}{e:AK}{es:DD}{id:KL}{i:Δ}{t:cW}{g:AQL}
def wX(i:Δ)(g:AQL)(t:cW):aD:=fun D Γ E=>(∃xs,AM8 AWO)/\t Γ (fun ds AC=>(Ba7 (AZe (.ow ys)))) E
theorem yen{z:Nf}{σ:St}{F Fa H Ha:Hp}{Γ AC:G2}{xs:AQ}{a:Ζ}{D2:uc}{Dn:Ya}{vs E9:AT}{ds:AQ}(_R:AKa)(R1:pE Fa Ha AC)(s1:xC Fa)(k:yq AJ F0 H0 F D2 Dn)(e1:AkY)
  (q:Ba7 (A3i (.ow ys))):
  ∃vs xs P,IL Ha aI/\aM AJ Fa xs vs/\g xs ds P/\∀ys ws,aM AJ Fa ys ws ->P ys ->Dn.nx σ (upd Ha a (FG ws)):=by
 split at q
 ·rename_i xs e;obtain⟨o,e2,a',vs,Β,g1,g2,g3,r⟩:=AfL e;rw[e1] at e2;show u7;exact⟨vs,xs,_,g1,r,q,fun ys ws sY hp=>PR (R1.wr e e1 sY) s1 hp⟩
 ·exact Ġ
theorem Hq(hr:∀z,OwR LP id g)(NI:PySem.Slot IC EO id)(hty:BVx)(hN:K_)(hv:So)(ha:Si)
  (fc)
  (OQ:BYc EO:=by rfl)
  (wE:UB (AlY KW (! x.1)&&Aoi) (Ap5 (Tx KW) 30):=by rfl)
  (Rc:z_:=by rfl) (hs:AKg:=by rfl) (ALi:Auz:=by rfl)
  (hsw:Bf' BZq Ι:=by rfl):
  Tl (.AK BZq AB) (wX i g t):=by
 intro z E cx;refine uE (ph zyu te (AUG (Ox i σ H (ı v (tyV AJ IC v H1/\Ph AJ F0 H0 t E σ H1 fun vs H2=>BgY)))) ?_ hsw) ?_
 ·refine P9 ylv X AG0 T IC id id r (fun v vs H2 Q=>BgY)
   PySem.F.plainAttrs_list NI hty ?_ mi E8 OQ wE Rc hs ALi
  rintro Ξ s σ H x xs v us Q I rx rs ⟨l,ys,ws,Fz,Pd,ds,e1,h1,h2,h3,h4,h5,h6⟩;subst e1;show LU;exact hr z Ξ s σ Fz H l ws xs ys ds us Pd Q I h1 h2 h3 h4 rs h5 h6
 ·rintro Dn σ H ⟨F,Γ,D2,R,⟨⟨xs,e0⟩,h⟩,k⟩;obtain⟨o,e1,a,vs,Β,h1,h2,h3,r⟩:=AZK;refine⟨B',e1,.D6 ⟨Β,vs,ABs h1⟩,F,Γ,_,R,h,fun ds AC F1 H1 us R1 s1 r1 q1=> ?_⟩;obtain⟨ws,ys,P,g1,g2,g3,g4⟩:=P9 yen z z vs vs E9 us xs xs R R1 s1 k e1 q1;exact⟨a,ys,ws,F1,P,ds,Β,g1,LZ,g2,r1,g3,g4⟩
#where
#print _3
namespace _3
open IR OI KK _2
section
variable{X:Cx}{F0 H0:Hp}{st:AR}{i:Δ}{t:cW}
theorem Ii(h:Tl st (fQ i t)):Tl st (aV i (cY t)):=fun z E cx=>
 uE gS (pb Dn B_ (by
  obtain⟨F,Γ,D2,R,q,k⟩:=B_;have A9:(fun(ds:AQ) (AC:G2)=>(APS (ALs i ä)[i]? (.ow ds') (AGj ((ALs i ä).set i (.pu (FG ds')))) (A3i ä)))=fun ds AC=>(A3i Aj3):=by
   funext ds AC
   by_cases hi:i<Γ1.length
   ·rw[ALB hi];dsimp only;rw[AsQ]
   ·rw[AS_ (CC hi)]
    rw[BHV,BHV]
  refine⟨F,Γ,{D2 with nx:=ANg (APS B5[i]? ä (AGj (Γ'.set i Aj3)) (AGj B5))},R,?_,AKj (fun B5 F' H' DT R' s' q' => ?_) k.bk k.ct⟩
  ·show As (t Γ _ E);dsimp only;rw[A9];exact q
  ·dsimp only at q';split at q'
   ·rename_i ds e;obtain⟨a,F2,_,s2,R2,_⟩:=R'.frz e;exact AZy (s'.trans s2) q'
   ·exact e_ k.nx R' s' q'))
#where
def qG(t u:bZ):cW:=Zp t d (Ŷ u d' (AY_ d d' gT AXS (BTT (P A6o BF))))
section
variable{X:Cx}{F0 H0:Hp}{a b c:AK}{AB:AX}{ta tb tc:bZ}
theorem z95{M:A0}{w:Ap}{A:BQ}{E:dM}{s:AF}{l b:Ζ}{vs ws:At}{Q:dM}(hl:Aj1 oC)(hb:BnX b BFi)
  (h:AZc (AT_ BX8)) (hsz:D' (MB+LM)):ATs (ASX M w) (Art .Add AiP (Bn b)):=by
 obtain⟨⟨cls,dd,AAk,sl⟩,ho,hc,n,hd⟩:=id hl;obtain⟨⟨cls2,dd2,data2,sl2⟩,ho2,hc2,n2,hd2⟩:=id hb;simp only at hc hd hc2 hd2;subst hc hd hc2 hd2;have e:oC++BFi=BX8:=DC
 refine concat_meets (ML ho) (ML ho2) noFill_list_add seq_list_add PySem.F.slot_list_add PySem.F.entry_list_add (PySem.F.args_list_add_2 _ _) (list_addW l b oC BFi n n2 dd dd2 sl sl2 (CC hsz)) (C9 ho ho2)
 show XN e
theorem PL(ha:bi)(hb:ŵ):ACW (.BinOp a .Add b AB) (qG ta tb):=fun z E cx=>
 nQ (ph ylz r (AI9 (∃p q xs ys,x= Wp/\y= .B4 q/\AIO p xs/\AIO q ys/\D' (BN+MZ)/\Bb7 A6o)) (by
  rintro Ξ s σ H x y v u Q I rx ry ⟨p,q,xs,ys,e1,e2,h1,h2,hz,k⟩;subst e1 e2;show AE rx rx rx rx rx rx rx rx rx rx rx rx rx rx;show AE ry ry ry ry ry ry ry ry ry ry ry ry ry ry;obtain⟨AO,r,pl,_⟩:=iO h1;obtain⟨its2,r2,pl2,_⟩:=iO h2;have l1:=Pp;have l2:=r2.length;refine z95 dC pl2.isList ?_ Η
  exact MR AiV (Ael I.lnew (BEj r2) (ő P1)) (k _ Asj)) E8 OB) (NH Bi Bi (Aa_ (by
   cases d1 with
   | By xs=>
    cases d2 with
    | By ys=>
     have r1' :=AGk s2;show AE' r1';show GG q ws Bi Kd r2;refine⟨p,q,vs,ws,Β,Β,BFG hq,BFG Bi,by rw[<- zC,<- jQ Kd];exact h2.1,Cf l hl⟩
     have ra:=M9 rs Kd;obtain⟨R3,e1,e2,e3,ap⟩:=Hi R2 hl ra;exact Apa (k _ BF F2 _ l _ R3 kN) ra h2.2
    | _=>show SA h2
   | _=>show SA h2)))
def Hr:D ->AU | B8=>Μ | jb=>Μ | b9=>Μ | gc=>Μ | _=>AG
def eqD:BRf
 | B8,B8=>Μ
 | .bl a,l5=>AIA
 | .bl a,AXG=>(AQl a)==b
 | AXF,l5=>a==(AQl b)
 | AXF,AXG=>AIA
 | .AS a,.AS b=>AIA
 | _,_=>AG
def inD(x:D)(xs:AQ):AU:=xs.any fun y=>eqD y x
def BP(neg:AU):Hn:=tJ (sR y gT BZU UO BZU)
theorem Ij(BUj)(h:Hr d=Μ)(r:Sb):pB v=Μ:=by
 (show Lv d d d d d d d d d d d d d d)<;>first | (subst r;rfl) | (show L2 h zK)
theorem abo(OH){d e:D}{v u:V}(h:Hr d=Μ)(h' :Hr e=Μ)(r:Sb)(r' :EA K F e u):KR v u=eqD d e:=by
 (show Lv d d d d d d d d d d d d d d)<;>first | (show L2 h zK) | (subst r;(first|subst e|exact aad e|exact aae e|exact aag e|exact aaf e|exact aai e|exact aah e|exact aaj e|show AeT|show NW e|show NU e|show Mc e|show NV e|cases (e))<;>first | (show L2 h' zK) | (subst r';rfl))
theorem Wq(OH):BdV (vs.all pB=Μ)
 | [],vs,r,_=>AyG
 | b_,vs,r,h=>by
  show AaQ;rw[ASy,Y3] at h⊢;exact⟨Ij ED r1,Wq r2 h.2⟩
theorem Ik{K:AD}{F:Hp}{x:D}{u:V}(hx:ABq Hr)(rx:EA K F x u):BdV (inV u vs=inD x ds)
 | [],vs,r,_=>AyG
 | b_,vs,r,h=>by
  show AaQ;rw[ASy,Y3] at h;unfold inV inD;rw[ALh,ALh,abo ED hx r1 rx];have:=Ik hx rx r2 h.2;unfold inV inD at Τ;rw[Τ]
theorem Lh:uC In (BP AG):=by
 rintro Ξ s σ H x y v u Q I rx ry ⟨F,d1,d2,P,sF,r1,r2,h,k⟩;show De BP;show NG
 ·show AE' r2;show QY h1 h2 h3;exact ó zw4 x v u ⟨p,vs,Β,Ans,Aod,Anr,pp (UU (Ik h1 r1 rs h2)) h3⟩
 ·show AE' r2;show QY h1 h2 h3;exact ó zw4 x v u ⟨p,vs,Β,Anp,Aod,Anr,pp (UU (Ik h1 r1 rs h2)) h3⟩
 ·show GW
theorem ymc:uC NotIn (BP Μ):=by
 rintro Ξ s σ H x y v u Q I rx ry ⟨F,d1,d2,P,sF,r1,r2,h,k⟩;show De BP;show NG
 ·show AE' r2;show QY h1 h2 h3;exact ó zm6 x v u ⟨p,vs,Β,Ans,Aod,Anr,pp (UU (Ik h1 r1 rs h2)) h3⟩
 ·show AE' r2;show QY h1 h2 h3;exact ó zm6 x v u ⟨p,vs,Β,Anp,Aod,Anr,pp (UU (Ik h1 r1 rs h2)) h3⟩
 ·show GW
def iV(g g' :Hn)(ta tb tc:bZ):bZ:=Zp ta x (Ŷ tb y (g x y fun r=>(İ r (.bl k) (GT k Bet (P AHq BF)))))
theorem zwx{K:AD}{g g' :Hn}{E:XW}{σ:St}{H:Hp}{Q:VK}(h:AHj HN (iV g g' ta tb tc)):Cg (qx K g) (qx K g') (AZ0 ta) (AZ0 tb) (AZ0 tc) σ H Q:=by
 show M0 h;refine AMJ x v1 (AM2 h1 (AU2 y v2 ⟨F2,x,y,_,R2.g,A0r,r2,h2,fun d z F' H' gr rz hp=> ?_⟩));cases d with
 | bl b=>
  refine C9 b rz;have R3:=AsV gr;cases b with
  | Μ=>
   show Š;have hp' :Bet:=hp;exact⟨F',BF,_,R3,hp',fun w Γ3 F3 H3 v3 R4 s4 r4 h4=>⟨F3,y,w,_,R4.g,r2.up (BFc s4),r4,h4,fun d z F5 H5 gr5 rz5 hp5=>k d Γ3 F5 H5 z (R4.grow gr5) (BQD gr5.f) rz5 hp5⟩⟩
  | AG=>
   show BD AKm;have hp' :P AHq BF:=hp;exact k _ BF F' H' _ R3 (Afg OS) Iy hp'
 | _=>show SA hp
theorem ych(Be3):Ee Apl (iV g g' ta tb tc):=fun z E cx=>
 nQ (BaU ybm AXQ hm) (ADc zwx)
theorem z26(Be3):kQ Apl (cT (iV g g' ta tb tc)):=fun z E cx=>
 Pj (BaU ydc AXQ hm) (Ba1 zwx)
#where
section
variable{X:Cx}{F0 H0:Hp}{tg a b:AK}{t:cW}{p pc:AX}
theorem yko{K:AD}{F Hx:Hp}{lo:Ω}{n:Δ}(hn:Aim):Ib K F Hx (HD lo n) (Z3 n Aic (.AN (lo+k))):=by
 refine⟨Cc hn,Beo (AQv (by simp at e;exact ALb ZE))⟩
 rw[GN] at hd;cases q:(cv n)[i]? with
 | Ι=>show MO q hd hd hd hd hd hd hd hd hd hd hd hd hd hd hd
 | Ε k=>
  rw[q] at hd;show D1 hi e ng q;rw[BFj] at e;subst e;show BCP;refine⟨(Cc hi:i<n),AKb⟩
  show AGy y;exact⟨F1,Ě s2,N1⟩
def PN(kX):cW:=X0 (ľ [ACe] ((BWR)/\D' vv/\P (MG vv fun Aic=> .AN (0+k)) AC))
theorem ya4(V8:Gl X U_)(hm:KF U_)(ha:ADi)(hst:A8z:=by rfl):AQQ A7q (PN t):=AWG (DU zwy V8 hm E8 hst) (AVB zu (by obtain⟨F,Γ,P,S,h,k⟩:=zu;exact⟨F,Γ,_,S,h,Aoz (by
  show ADs
  ·rename_i j;show AIV Β r1;exact⟨j,Β,k8.1,k8.2,AuK (yko h1.2.1) h1.2.2⟩
  ·show Ϝ)⟩))
#where
def zuq(sc Wn:OK):OK:={sc with IS:=sc.names.map fun ANI=>if (k== Tu&&Wn.kind== AMg&&BFe n==AUT) then(n,ł) else ANI}
section
variable{X:Cx}{F0 H0:Hp}{x:Κ}{AB:AX}{d:D}
def PX(K:AD)(mg:EX)(x:Κ)(d:D):Θ:=∃v u,ANR u/\OC/\∀F,Sb
theorem yma(hg:KG)(h:PX AJ ċ x d)(xn):Ee tw (cC d):=by
 obtain⟨v,u,hm,r,rp⟩:=h;exact VR (Ev (DU yg1 hg hm r hd)) rp
theorem glb_tup{K:AD}{mg:EX}{a:Ζ}{od:ND}{AO:Ki}{n:Δ}{sl:ADq}{ds:AQ}(hm:ANR EC)(hk:IL X_ ⟨SB YE,od,.seq AO n,sl⟩)(hz:BjV)
  (hv:∃vs,IY vs BDe/\∀F,L3):PX K mg x (Kb ds):=by
 obtain⟨vs,rv,rp⟩:=hv;refine⟨B',B',hm,Β,Sk F⟩;exact Sf a (.BO ⟨_,AO,n,hk,Β,Β,hz,rv⟩) (rp F)
#where
structure Il (BY9) (st:AR) (f:Ζ) (fd:Fc) (dV:AH):Θ where
 ex:∃(oc:AH) (od:ND) (kV doc pm:AH) (an:ND) (cdv ct:AH) (osl:ADq),
  fd=Ar8 x FE AIf sL Ĳ dV kV doc pm an cdv ct/\AoY (.func fd) osl/\A9r
 kp:AWi
section
variable{P:A0}{w:Ap}{K:AD}{mg:EX}{DS:AL}
theorem abp(AFq){st:AR}{f:Ζ}{fd:Fc}{dV:AH}{N ps:Ρ}{k:Δ}{sp:dw}(Fn:Il K x FE st f fd dV)(S:AQ0 ps)(len:AbY)
  (ė:ARr (∀F0:Hp,
   ∃t,A5a sL/\A9' A9R)):
  A1Z nJ:=by
 show AKM;refine Sg lk hcd S (FY vs H Q E B_) (ARq E hr Bi)
 ·obtain⟨F,ds,P',Ex,_,rs,hs,_⟩:=B_;show A8l
 obtain⟨F0,ds,Pd,Ex,sF,rs,hsp,hQ,hE⟩:=Bi;show A5h;have cx:AbV:=by
  refine⟨fun Ξ σ Γ F H1 s1 e s' I R hx=> ?_,AQ5⟩;refine ARs;show AW9 F' x R' xr z1 z Abg
 exact BBe (ANd (Ff (Pd B8)) Pd) (BCV (fun Γ F' H' σ R' _ q=>BV9) Bc4 ApH)
structure Qa (BMk):Θ where
 ex:∃f fd,AQe nJ/\ANR Lc/\AWi/\AIU/\ASp K fd ps [BA]
#where
def rE(sp:dw)(t:cW):bZ:=X0 (Aeu (ds++ [B8]) (ũ (GV d)) C C)
section
variable{X:Cx}{F0 H0:Hp}{e:AK}{es:DD}{AB p:AX}{x:Κ}{ps:Ρ}{k:Δ}{sp:dw}{t:cW}
theorem yck(BBb Qa):
  Ee sQ (aC sp t):=by
 obtain⟨f,fd,h1,h2,h3,h4,_⟩:=Ģ;exact z5t h1 hr hg h2 h3 h4 ha hdb he hpl
#where
def VE(AAG):Θ:=AuN AdR HE Blm
def FQ(K:AD)(ta:bZ):bZ:=BkU (n6 K C0/\HY K C0/\VE K C0) AjI
def FT(K:AD)(Cs:Cb)(ta:bZ):bZ:=BaI (Cs.any fun C=>bQ K C0 C)
theorem zua(Bc3){s:AF}{h' :AL}{t' :Δ}{fp:Cb}(I:AW)(k:AmD (b∉fp))(hf:AYf):AyF:=by
 have U4:eg H (b∉fp):=WS e z (Auw (hf b z).1)
 refine BBc fp AXz (fun b o _ _ hc e _=>A1') (BKt A1') BRc (BL_ A1') (AOi) (ATr e e) BSk (UD m hm) (K0) Ď
 ·obtain⟨f0,f1,f2,f3,f4,f5⟩:=hf b hb;exact⟨f3,f1,f4,f5⟩
 ·obtain⟨o,es,ep,ho,r⟩:=hm;exact⟨o,es,ep,k _ o (Ev ((hf _ z).2.1 Β)) ho,r⟩
 ·show Bg1
theorem zon(h:At3)(hb:SW):Au8 AZb:=⟨Ž hb ED,h.2⟩
theorem zyv(BhV h' AL){t' :Δ}{fp:Cb}{xs:AT}{AO:At}(I:AW)(k:AmD (b∉fp))
  (A6:js (PU b)) (ht:ACq RS AwA) (hv:ANt) (hz:ū) (hf:AYf):
  ϱ WZ ANv:=by
 have I1:ϱ WZ BQ_:=
  A0P (yo) Kt (AHK _ _ _ WZ ⟨hz,AO,hv,Ari _ _⟩)
 refine zua (s:=BQ_) (fp:=fp) I1 (AHV ?_) (FL (zon (hf b hb) (zL (A6 b hb))));rcases Heap.get?_push_cases e with ⟨Β,Β⟩ | e
 ·exact ht
 ·exact k b o hb e
def Ite(K:AD)(a:Ζ):It:=
 BU1 (∃b v,x= AIt/\NB/\H' =upd H b (Kb [FV,v])/\∀xs,Ų ->AHW xs)
theorem yaw(A'M)(a e it:Ζ)(hne:e≠it):Turn P w K A9J (Ite K a) [e,it] e (Ty h ((∃old,IsEnum h e it JA old)/\BDm it a i)) where
 mem:=DC
 obj:=fun i h q b hb=>by
  show AbU;show ARK
  ·exact AaE q
  ·show AQI
   show A8h
 LG:=fun i h h' q k=>by
  show AbU;exact ϙ old (AEu e q) (st.at fun o z=>k it A7 o z)
 VS:=by
  show AkO;show AbU;show UZ;show Fh xs x hq hx hg;show Fh AO rv p hz ADh;show BI u hu ru AGT hx;have el:PU e:=zJ q;have il:PU it:=by show AOG z st;exact zJ z
  show BE (wpAny_pyNext_enum_item q st ALP (x:=u) (CC hu) hne fun h1 eo st1 ht hs1 k1=> ?_) (BAM wpAny_letOwnedTupleGo_enum eo);have FW:A8U e:=sb;have I2:ϱ (Kb [FV,x]) (d_ h2 Ae7):=
   zyv (fp:= [e,it]) (AO:= [.AN i LV,u]) I (xp o z (AL2 b o fN (k1 b o fN fN z)))
    (Nn (by
     show ARK
     ·exact el
     ·show AQI
      exact il))
    (A6Y (ADt el) ht) (A_f D_ ru) Amf hf
  refine⟨zk,_,I2,Β,⟨_,x,Β,Asj,Β,A8J Arn⟩,⟨C3 u,(st1.extBut AL2 Azo)⟩,L7⟩
  ·have:Ai2=JA+1:=Υ
   rw[Τ];exact e2
  ·refine(zon (hf b hb) ?_).1;show ARK
   ·exact zL el
   ·show AQI
    exact zL il
 LW:=by
  show AkO;show AbU;show UZ;show A'x;show AaJ iO;show AAL;exact wpAny_pyNext_enum_end cK q st ALP UT (BJQ [e,it] (xp o z (eb b o fN z)))
 RY:=BJE (by
  show AbU;exact Bnl q h)
theorem zrv:Akn Ă Ă:=Χ
def Wr(A4a):TI:=Bcc (ū ->Aa9 Ite)
theorem yhc{X:Cx}{a:AK}{ta:TA}{p AB:AX}(BMG)(hg:Gl X Ă)(hm:KF Ă)(ha:AKH [a])(AkV):
  PI X Ago BJh (Wr AJ ta):=by
 show Do R;refine Call_ (ö zrv (AW8 AlU hs Β));show AEs D8;show GG l xs hq q q1;show BI u Β rx ALW r1;show LU;show A7l;refine call_enumerate_list dC (FY h' e1 st hsz kp);refine Ş Bnl e1 ⟨pv,BNU,_,_,H1,Β,At' kp,yaw l _ _ (ALN (AdQ _)),⟨Fk e1,st⟩,L7,q hz⟩;have hb2:EJ<=b:=by
  show ARK
  ·exact ATL _
  ·show AWb
   exact zO _
 exact I1.fpOk hb2 (ASl hb2)
def Ke:ABX AQ AQ
 | _,[]=> []
 | k,x::r=> .EI [AEJ,x]::Ke Eg r
theorem zus:∀(k:Δ) (xs:AQ),ANf (gL Ke k xs)
 | _,[]=>Β
 | k,x::r=>by show gL Ke Eg r+1=Pp+1;rw[zus]
theorem ztq:∀(k:Δ) (xs:AQ) (i:Δ),(Ke k xs)[i]?=(xs[i]?).map fun d=> .EI [.AN (LN (k+i)),d]
 | _,[],_=>Β
 | k,x::r,0=>Β
 | k,x::r,EL=>by
  show(Ke Eg r)[i]?=_;rw[ztq Eg r i,Fm (k+1+i=k+ DI)]
  rfl
def Im(kX):cW:=X0 (ľ AUF (P (Ke 0 xs) AC))
theorem yek(Bg7):AZW (Ite K a) (Ke 0 xs):=by
 show Alo;refine⟨ϊ zus,Abd (AQv ⟨vs,Ahw,by rw[e,zus];show AA⟩)⟩
 rw[ztq] at hd;cases hx:xs[i]? with
 | Ι=>show MO hx hd hd hd hd hd hd hd hd hd hd hd hd hd hd hd
 | Ε x=>
  rw[hx] at hd;show BCP;show AZ6 hx;refine BMf Amt;show Ŀ b v2 hb Β z z;have:=z vs BVV;rw[hv] at Τ;show IN;have gr:=AGh (o:=ATA [FV,v]) s3 hb;refine XT gr;unfold EA;refine l7 b AE_ (qT ?_ (qT ((ATG s2).up OS) (by unfold aM;rfl)))
  unfold EA;simp
section
variable{X:Cx}{F0 H0:Hp}{a b e tg:AK}{es:DD}{AB p pt:AX}{te:bZ}{t:cW}{g:uF}{tb:aD}{elts:DD}
theorem zhp{x1}(hc:FX)(hg:Gl X Ă)(hm:KF Ă)(ha:ADi)(AkV):
  A7f BJh (Im t):=AWG (DU yhc hg hm E8 hs) (ApE (Aoz (by
  unfold Im at*;show ADs
  ·show ARh;exact⟨l,us,Β,ADQ,BTl yek⟩
  ·show k_)))
#where
def Li:Sn:=Aee (sR ds [l5] (Sj (AQl b)) [FV] (Sj i))
theorem yn4:ANs AGH (ud AJ Li):=by
 show mv;show De Li;show NG
 ·show AmL;show Sr;show LU;exact call_int_bool ⟨b9,H,ACO,D_,ub⟩
 ·show AmL;show Sr;show W_;exact call_int_int ⟨b9,H,I,D_,ub⟩
 ·show GW
theorem zsh:BT3 A9x BJP
 | [],_,EE=> EE
 | n::ns,_,.AY h r=>by
  show No h;exact Ay' (zsh r)
theorem Vv:BT3 BJP A9x
 | _,_,EE=> EE
 | _,_,a_ _ _ r=> a_ D_ (Vv r)
def S8:UA:=ADo (∃ns,Alq/\BIb/\∀ms:Bz,ATM ns ->BKJ ->AWA ay)
section
variable{CI:A0}{w:Ap}{A:BQ}{E:dM}{s:AF}
def gV(t:AU)(h:AL)(it l:Ζ)(i:Δ):Θ:=A_U (BDm it l i) (Bmh it l i)
def iC(t:AU)(h:AL)(l:Ζ)(xs:Ki):Θ:=A_U (h.IsList l xs) (h.IsTuple l xs)
theorem Nr(x:AIm h)(k:∀o,AEe it ->ACj it):AIm h':=by
 show AJF t t t t t t t t t t t t t t (A6T k)
theorem zz0(x:iC t h l xs)(k:∀o,AEe l ->ACj l):iC t h' l xs:=by
 show AJF t t t t t t t t t t t t t t (A6T k)
theorem zvk(x:AIm h):Aw4 (AEe it):=by
 show AJF t t t t t t t t t t t t t t (let ⟨o,ho,_,d⟩:=x;AEg Age)
theorem Ws(hl:AoX)
  (hQ:AZc (WG (DH t Bnm BFg) #[SZ,ADl])):AkL l:=by
 show Abj
 ·exact AsX hl hQ
 ·exact BE_ hl hQ
theorem zmm(hit:AIm A8)(hl:AoX)(hx:ef)
  (hQ:ACw (gV t h' it l DI) (A5T it) (Q x SI)):BPC:=by
 show Abj
 ·exact wpAny_nextOf_list_item hit hl hx hQ
 ·show Bgv (z6 (ALo ho hd A7 (z7 (KI x (z7 (hQ _ ?_ AwG))))))
  exact A_R
theorem zwr(hh:PZ)(hit:AIm A8)(hl:AoX)(hx:xs[i]?=Ι)
  (hE:BZd BaW):BPC:=by
 show Abj
 ·exact wpAny_nextOf_list_end hh hit hl hx hE
 ·show Bgv (BKl (ALo ho hd A7 ?_))
  show ż Se A5V BAd
  show BE A'N AzM
  first | show XE AjS hh | rw[hh]
  refine BPT;exact hE _ _ BUU AVc
structure yE (z TI TO i1 i2 l1 l2:Ζ):Θ where
 p:TI≠z/\TO≠z/\i1≠z/\i2≠z/\TI≠TO/\TI≠i1/\TI≠i2/\TO≠i1/\TO≠i2/\i1≠i2
 q:l1≠z/\l1≠TO/\l1≠i1/\l1≠i2/\l2≠z/\l2≠TO/\l2≠i1/\l2≠i2
theorem yE.k(Bic)(D:BiG yE):AaV:=by
 obtain⟨⟨a1,a2,a3,a4,a5,a6,a7,a8,a9,a10⟩,b1,b2,b3,b4,b5,b6,b7,b8⟩:=D;exact⟨a1,a2,a3,a4,a5,a6,a7,a8,a9,a10,b1,b2,b3,b4,b5,b6,b7,b8⟩
theorem z7l(BgI){Q:dM}(D:AaV)(hz:Amr)(hTI:AnF)(hTO:AmP)
  (h1:Aop) (h2:Aoq) (hl1:ARS) (hl2:ARg) (hx:Iq xs k1 x) (hy:Iq ys k2 y)
  (hQ:BXc (Ť h' x y ->A2M h' ->Hk (A2N h') BZr BJ5 AnJ (AfW SI))):AIH BPk (sg D3 (∃v,D3= AwP v/\Q v s')):=by
 have kI:∀{t:AU} {h h' :AL} {it l c:Ζ} {i:Δ},BZM:=ApT Nr;have kS:BhZ:=ApT zz0;show bj (AWg (field (Bn z) 2)) (ADS (AVQ AML));show bj (AWg (field (Bn z) 3)) (ADS (AlZ TI));show PY (AQW hTI) BQq;show BE Se (z6 (AVQ BA Β Afr));simp only [c_];refine BHl;show Ajr (ADS (AlZ TO)) BUW D8 (AQD g1) D8 Se;show BaR;refine AoP;refine BgV;have Wt :Ť g2 a b:=Beq;show Ajr (AQW Wt) (z6 (BFo Wt (AV g3 t3 hs3))) t3 (Ť g3 x b) t3 BPV;show BE AoP (z6 (zmm Bg_ Bgn hy fun g4 q2 Nt=>AIb));have t4:Ť g4 x b:=Asn _ _ D.TOi2 t3;show Ajr (AQW t4) (z6 (BFo t4 (AV g5 t5 Nu))) t5 (Ť g5 x y) t5 (z6 (BFp (z7 (z7 ?_))));show BE (AQW t5) (eA BFq);have hsz:ATS=CL:=by rw[Nu.1,Nt.1,hs3.1,hs2.1,hs1.1]
 have hz5:AQD g5:=Ad1 _ _ BFr (Asn _ _ D.i2z.symm (AGp _ _ BFr (ATR _ _ BFs D8)));show E2 hk5 (Bia BLW) (BgK (Beu c2 Asn e)) r1 (A2M g5) (kI (kI (kI q1 AGp D.TOi1.symm) Asn D.i12) Ad1 D.TOi1.symm) r2 (A2N g5) (kI q2 Ad1 D.TOi2.symm) zlt (z<ATS) (zJ hz5);refine Se;have hz6:AQD (g5.push (pj #[x,y])):=z8 _ hz5;refine Bj0 hz6 (AV g7 hz7 hs7)
 replace hz7:AMl g7 (ź ATS):=hz7;refine Asm hz7 A7 (AV g8 hz8 hs8)
 replace hz8:AMl g8 (ź ATS):=hz8;have up:∀c o,c≠z ->BLW ->g8.get? c=Ε o:=fun c o c1 e=>(BQ1 c1 c1 e9);have hT8:ATQ g8 ATS x y:=BQ1 (ADt zlt) (ADt zlt) Anh;have sz8:g8.objs.size=ATS+1:=by rw[hs8.1,hs7.1,Y1]
 rw[hsz] at hz8 hT8 sz8;refine z7 AEo;rw[hsz];exact hQ g8 hz8 (up _ _ D.TOz t5) (Nr r1 (AlT up D.i1z)) (Nr r2 (AlT up D.i2z)) hT8 sz8 (BgK (up c o c1 (hk5 c o c1 c2 c3 c4 e)))
theorem ybl(Bc7){Q:Op Fin}(hh:PZ)(D:AaV)(hz:Amr)(hTI:AnF)(hTO:AmP)
  (h1:Aop) (h2:Aoq) (hl1:ARS) (hl2:ARg) (hend:BU')
  (hE:BZd (AnJ)):KA BPk:=by
 have kI:∀{t:AU} {h h' :AL} {it l c:Ζ} {i:Δ},BZM:=ApT Nr;have kS:BhZ:=ApT zz0;show bj (AWg (field (Bn z) 2)) (ADS (AVQ AML));show bj (AWg (field (Bn z) 3)) (ADS (AlZ TI));show PY (AQW hTI) BQq;show BE Se (z6 (AVQ BA Β Afr));simp only [c_];refine BHl;show Ajr (ADS (AlZ TO)) BUW D8 (AQD g1) D8 Se;show BaR;refine AoP;cases hx:xs[k1]? with
 | Ι=>
  refine z6 (zwr hh BkP Bj' hx (Oy g2 e hs2 he));show EM oe hoe hce he;have hz2:AQD g2:=hs2 _ _ BFs D8;have hez:e≠z:=OF (by subst x;rw[hz2] at hoe;show AE hoe hoe hoe hoe hoe hoe hoe hoe hoe hoe hoe hoe hoe hoe;simp at hce)
  exact Asm hz2 A7 fun g3 _ hs3=>hE g3 e (fun c o c1 _ c3 _ x=>AGp _ _ c1 (hs2 _ _ c3 (AL3 _ _ c1 x))) ⟨oe,AGp _ _ hez hoe,hce⟩
 | Ε x=>
  have hy:BkC:=by show AO8 hend h;rw[hx] at h;show HI;exact h
  refine BgV;have Wt :Ť g2 a b:=Beq;show ż (AQW Wt) (z6 (BFo Wt (AV g3 t3 hs3))) BPV;show BE AoP (z6 (zwr hh Bg_ Bgn hy (Oy g4 e Nt he)));show EM oe hoe hce he;have hz4:AQD g4:=Nt _ _ D.i2z.symm (AGp _ _ BFr (ATR _ _ BFs D8));have hez:e≠z:=OF (by subst x;rw[hz4] at hoe;show AE hoe hoe hoe hoe hoe hoe hoe hoe hoe hoe hoe hoe hoe hoe;simp at hce)
  exact Asm hz4 A7 fun g5 _ Nu=>hE g5 e (fun c o c1 c2 c3 c4 x=>(Beu c1 Nt x)) ⟨oe,Ad1 _ _ hez hoe,hce⟩
theorem z36(BgI){Q:AX6}(D:AaV)(hz:Amr)(hTI:AnF)(hTO:AmP)
  (h1:Aop) (h2:Aoq) (hl1:ARS) (hl2:ARg) (hx:Iq xs k1 x) (hy:Iq ys k2 y)
  (hQ:BXc (Ť h' x y ->A2M h' ->Hk (A2N h') BZr BJ5 AnJ (Q (Ε ADH) SI))):AJ0 z:=by
 have hT:BQT :=ML hz;exact z6 (BFt (AOq hT Aso (AdV Aso hT Bnq (z7l D hz hTI hTO h1 h2 hl1 hl2 hx hy fun h' a1 a2 a3 a4 a5 a6 a7=>z7 (hQ h' a1 a2 a3 a4 a5 a6 a7)) (Bnr _))))
theorem z9h(Bc7){Q:AX6}(hh:PZ)(D:AaV)(hz:Amr)(hTI:AnF)(hTO:AmP)
  (h1:Aop) (h2:Aoq) (hl1:ARS) (hl2:ARg) (hend:BU')
  (hQ:Aom (AnJ)):AJ0 z:=by
 have hT:BQT :=ML hz;refine Ai6 (AOq hT Aso (AdV Aso hT Bnq (ybl hh D hz hTI hTO h1 h2 hl1 hl2 hend (Oy h' e hk he)) (Bnr _)));show br ho hc he;refine BOj (AEg hc);exact z7 (hQ _ hk)
def Wu(t:AU):KL:=if t then Bnm else BFg
abbrev zH1(t1:AU)(h:AL)(l1:Ζ):AL:=BUe AS5
abbrev zH2(AqD):AL:=(zH1 t1 h l1).Ps (WG (Wu t2) #[.B4 l2,ADl])
abbrev zH3(AqD):AL:=(zH2 t1 t2 h l1 l2).Ps (pj #[.B4 MW,.B4 (A5w h)])
abbrev zH4(AqD):AL:=(zH3 t1 t2 h l1 l2).Ps (pj #[BA,BA])
abbrev S9(AqD):AL:=(zH4 t1 t2 h l1 l2).Ps (WG cn #[BA,AML,AML,BVW zH2,BVW zH3])
theorem z82(x:iC t h l xs)(o:Obj):iC t (AS5 o) l xs:=zz0 x (Lo e xo)
theorem Io(hl:AoX)
  (hQ:AZc (WG (Wu t) #[SZ,ADl])):AkL l:=Ws hl hQ
theorem Qc(t1 t2:AU)(l1 l2:Ζ)(xs ys:Ki):Meets (Builtin.«zip.__new__» (IM [SB cn,.B4 l1,.B4 l2])) (fun _ R s=>ARS/\ARg/\AgX (Bn (AuY zH4)) (Zl (S9 t1 t2 A8 l1 l2))):=
 BBh (by
  show AFR;show QY hl1 hl2 h;have hsub:=sub_zip;have hL1:iC t1 (Shared.heap (ABe hp tk)) l1 xs:=hl1;have hL2:iC t2 (Shared.heap (ABe (BUe hp.push) tk)) l2 ys:=z82 hl2 _
  wp_walk using Io hL1,Io hL2
  exact SH h)
theorem z2p(e:eR (WG (Wu t) #[SZ,ADl])):gV t h a l 0:=by
 show AJF t t t t t t t t t t t t t t (Atd e)
theorem z5r(hl1:ARS)(hl2:ARg)
  (h:ACw (IsZip h' BJV BIR BLL BA) (ATQ h' BIR ADH (Bn lc)) (Hk (ATQ h' BLL BA BA) (gV t1 h' CL l1 0) (gV t2 h' lc l2 0) (∀c o,AT8 c ->ACj c) (M1 BJV SI))):KA (ib (NY cn) [.B4 l1,.B4 l2]):=by
 refine callType_new F.called_zip Ψ (F.typeCall_zip_2 _ _) (F.newCall_zip_2 _ _) (B6 obj (F.args_object_init_3 obj _ _)) F.entry_zip_new (Qc t1 t2 l1 l2 xs ys) (C9 hl1 hl2)
 have z1:AhT (A5w A8):=AO9;show E2 z2 (A7Q zH2 2) (AzJ z1) z3 (A7Q zH3 3) (AzJ z2) z4 (A7Q zH4 4) (AzJ z3) g5 (A5m zH4) SE;show E2 g4 (A5m zH3) (z8 _ Anh) g3 (A5m zH2) (z8 _ A8R) g2 (Avo (A5w A8)=Ε _) (z8 _ (z8 _ A8R)) g1 (ACq Avo _) (z8 _ (AZm A8R));rw[z2,z3,z4] at g5;rw[z1,z2] at g3;rw[z3] at g4;rw[z1] at g2;rw[z4];exact⟨ML g5,h _ g5 g3 g4 (z2p g1) (z2p g2) fun c o x=>z8 _ (AZm (AZm x))⟩
#where
def Sq(t:AU)(K:AD)(H:Hp)(a:Ζ)(xs:AT):Θ:=A_U Ų AEx
theorem Tc(I:AW)(h:BAb xs):BAf (iC t A8 a TH):=by
 show Abj
 ·obtain⟨AO,rv,p,hz⟩:=Axz;exact⟨AO,rv,ALP,hz⟩
 ·obtain⟨AO,rv,p,hz⟩:=Ē h;exact⟨AO,rv,p,hz⟩
theorem ygm(I:AW)(h:BAb xs)(h' :BAb ys):xs=ys:=by
 show Abj
 ·exact Arn h h'
 ·exact BDn h h'
def Itz(K:AD)(t1 t2:AU)(a b:Ζ):It:=
 ⟨ś (∃xs ys x y,A'U/\A'V/\ef/\At7),fun i H v H' =>∃c x y,v= AiW/\N4 c/\H' =upd H c (Kb [x,y])/\ (∀xs,A'U ->ef)/\∀ys,A'V ->At7,
  ś (∃xs ys,A'U/\A'V/\ (AWD\/MZ<=i))⟩
theorem zap{n l1 l2:Δ}(h1:l1<n)(h2:l2<n):yE (n+4) (n+2) (n+3) n QQ l1 l2:=by
 have e:∀a b:Δ,a≠b ->(a:Ζ)≠b:=A0y;refine⟨⟨RI,RI,RI,RI,RI,RI,RI,RI,RI,RI⟩,RI,RI,RI,RI,RI,RI,RI,RI⟩<;>(show w9)
theorem ybs(A'M)(t1 t2:AU)(a b z TI TO i1 i2:Ζ)(D:yE z TI TO i1 i2 a b):Turn P w K A9J (A'5 b) AqG z
  (Ty h (AMl h BA/\BiX h/\ (∃u v,Ť h u v)/\gV t1 h i1 a i/\gV t2 h i2 b i)) where
 mem:=DC
 obj:=fun i h q c hc=>by
  show AqQ;show ARb hc;show BBg
  ·exact AaE q1
  ·exact AaE q2
  ·exact AaE q3
  ·exact zvk q4
  ·exact zvk q5
 LG:=fun i h h' q k=>by
  show AqQ;exact⟨AEu z q1,AEu TI q2,⟨u,v,AEu TO q3⟩,Nr q4 fun o e=>k i1 A7 o e,Nr q5 fun o e=>k i2 A7 o e⟩
 VS:=by
  show AkO;show AqQ;show UZ;obtain⟨xs,ys,x,y,B_,Bi,hx,hy⟩:=hg;obtain⟨AO,rv,p,_⟩:=Tc I B_;obtain⟨jts,Td,p2,_⟩:=Tc I Bi;show BI ux hux rux AGT hx;show BI uy huy ruy Td.get hy;have lt:∀c∈ AqG,PU c:=ϓ (by
   show ARb hc;show BBg
   ·exact zJ q1
   ·exact zJ q2
   ·exact zJ q3
   ·show AOG e (zvk q4);show bP
   ·show AOG e (zvk q5);show bP)
  have Dk:=D.k;refine z36 Dk q1 q2 q3 q4 q5 p p2 (x:=ux) (y:=uy) (CC hux) (CC huy) fun h1 a1 a2 a3 a4 a5 a6 k1=> ?_
  refine BAM wpAny_letOwnedTupleGo_zip a1;have FW:A8U z:=sb;have zl:=lt z A7
  have I2:ϱ (Kb [x,y]) (d_ h2 LV):=
   zyv (fp:= AqG) (AO:= [ux,uy]) I (BMd (BR4 fN fN e))
    lt (A6Y (ADt zl) a5) (A_f rux ruy) Amf hf
  refine⟨zk,_,I2,Β,⟨_,x,y,Β,Asj,Β,fun zs hz=>(CD (ygm I hz B_) hx),fun zs hz=>(CD (ygm I hz Bi) hy)⟩,⟨e2,?_,⟨ux,uy,AL2 _ _ Dk.TOz a2⟩,Nr a3 (AlT AL2 Dk.i1z),Nr a4 (AlT AL2 Dk.i2z)⟩,Cf c hc⟩
  ·exact AL2 _ _ Dk.TIz (k1 _ _ Dk.TIz Dk.TITO Dk.TIi1 Dk.TIi2 q2)
  ·exact BdH lt
 LW:=by
  show AkO;show AqQ;show UZ;obtain⟨xs,ys,B_,Bi,hx⟩:=hg;obtain⟨AO,rv,p,_⟩:=Tc I B_;obtain⟨jts,Td,p2,_⟩:=Tc I Bi;have l1:=AdD;have l2:=Td.length;refine z9h cK D.k q1 q2 q3 q4 q5 p p2 ?_ fun h' k1=>(Hb (AvW zua fp AqG I (fun c o hb e=>BR4 fN fN e) hf))
  rcases hx with hx | hx
  ·show FR UT
  ·show He UT
 RY:=BJE (Bnu q.1 h)
theorem ybx:Akn cn cn:=Χ
def abq(A4a):TI:=Ah1 (∃t1 t2 a b xs ys,vs= [B',AIt]/\Sq t1 K H1 a xs/\Sq t2 K H1 b ys/\ (ū ->AXM ->R (A'5 b) H1))
theorem ylh{X:Cx}{a b:AK}(BBK)(BMG)(hg:Gl X cn)(hm:KF cn)(ha:AKH qB)(BfD):
  PI X Ago BLa (abq AJ ta):=by
 show Do R;refine Call_ (ö ybx (AW8 AlU hs hpl));show AEs D8;obtain⟨t1,t2,l1,l2,xs,ys,Β,B_,Bi,q⟩:=q1;cases r1 with
 | AY r rr=>
  cases rr with
  | AY r' rr=>
   show BCR;show AE r r r r r r r r r r r r r r;show AE r' r' r' r' r' r' r' r' r' r' r' r' r' r';show Fh AO rv p1 D8 (Tc I1 B_);show Fh jts Td p2 hz2 (Tc I1 Bi);have n1:Bky l1:=by show AJF t1 t1 t1 t1 t1 t1 t1 t1 t1 t1 t1 t1 t1 t1 (let ⟨o,e,_⟩:=p1;zJ e)
   have n2:Bky l2:=by show AJF t2 t2 t2 t2 t2 t2 t2 t2 t2 t2 t2 t2 t2 t2 (let ⟨o,e,_⟩:=p2;zJ e)
   show BE (z5r p1 p2 fun h' e1 e2 e3 e4 e5 kp=> ?_) (Bnu e1 ⟨AiB 4,[AiB 4,AiB 2,AiB 3,EJ,pv],_,_,H1,Β,At' kp,
    e_ (ybs t1 t2 l1 l2) _ (zap n1 n2),⟨e1,e2,D4 _ e3,e4,e5⟩,Cf c hc,q D8 hz2⟩)
   have hb2:EJ<=c:=by
    show ARb hc;show BBg
    ·exact Aiu
    ·exact Aiu
    ·exact Aiu
    ·exact zO _
    ·exact Aiu
   exact I1.fpOk hb2 (ASl hb2)
def lE(xs ys:AQ):AQ:=AL4 (fun x y=> .EI [x,y]) xs ys
theorem z5i(OH){t1 t2:AU}{a b:Ζ}{vs us:AT}{xs ys:AQ}(B_:A6l (Sq t1 K H1 a vs))(Bi:A6l (Sq t2 K H1 b us))(r1:AIJ)(r2:P7 ys us)(hz:AOL):AZW (A'5 b) (lE xs ys):=by
 have l1:=jQ r1;have l2:=jQ r2;have lz:gL lE xs ys=min BN MZ:=Ad2;refine ABo (Abd (AQv ⟨vs,us,ApO B_,ApO Bi,Υ⟩))
 unfold lE at hd;rw[BFv] at hd;cases e1:xs[i]? with
 | Ι=>show MO e1 hd hd hd hd hd hd hd hd hd hd hd hd hd hd hd
 | Ε x=>
  cases e2:ys[i]? with
  | Ι=>rw[e1,e2] at hd;show AE hd hd hd hd hd hd hd hd hd hd hd hd hd hd
  | Ε y=>
   rw[e1,e2] at hd;show AE hd hd hd hd hd hd hd hd hd hd hd hd hd hd;show GA v hv rv wQ r1 e1;show GA u hu ru wQ r2 e2;refine⟨⟨vs,us,v,u,ApO B_,ApO Bi,hv,hu⟩,AV w H' z⟩;obtain⟨c,v2,u2,Β,hc,Β,z1,z2⟩:=z;show AaH (z1 vs (B_ H2 AnX)) hv;show AE Τ Τ Τ Τ Τ Τ Τ Τ Τ Τ Τ Τ Τ Τ;show AaH (z2 us (Bi H2 AnX)) hu;show IN;have gr:=AGh (o:=ATA [v,u]) s3 hc;refine XT gr;exact l7 c AE_ (qT ((ATG s2).up OS) (qT ((ru.up s2).up OS) Iy))
def Nv(kX):cW:=X0 (ľ [x,y] (match x,y with | gT,AXS=>BY8 | UO,AjO=>BY8 | _,_=>D7))
section
variable{X:Cx}{F0 H0:Hp}{a b e tg:AK}{es:DD}{AB p pt:AX}{te:bZ}{t:cW}{elts:DD}
theorem Te{x1}(hc:FX)(hg:Gl X cn)(hm:KF cn)(ha:AzN)(BfD):
  A7f BLa (Nv t):=fun z E cx=>Nk (DU ylh hg hm E8 hs hpl) (ApE (Aoz (by
  unfold Nv at*;split at h1
  ·show ADs
   ·obtain⟨v,_,Β,⟨l,us,Β,hq,rs⟩,⟨v2,_,Β,⟨l2,us2,Β,Bi,Kd⟩,Β⟩⟩:=r1;exact⟨AG,AG,l,l2,us,us2,Β,ADQ,BE' Bi,fun hz _=>(AWm (z5i (t1:=AG) (t2:=AG) (Ame (s.seq hq)) (Ame (s.seq Bi)) rs Kd hz))⟩
   ·obtain⟨v,_,Β,⟨l,us,Β,hq,rs⟩,⟨v2,_,Β,⟨l2,us2,Β,Bi,Kd⟩,Β⟩⟩:=r1;exact⟨Μ,Μ,l,l2,us,us2,Β,A2H,rA LZ Bi,fun hz _=>(AWm (z5i (t1:=Μ) (t2:=Μ) (Ame (rA s hq)) (Ame (rA s Bi)) rs Kd hz))⟩
   ·show k_
  ·show k_)))
#where
def mY:Ρ ->AQ ->Κ ->AJP
 | me,b_,g=>Aal (Ε d) (mY fs ds g)
 | _,_,_=>Ι
theorem zxv{K:AD}{F:Hp}{g:Κ}{x:D}:∀{fs:Ρ} {ds:AQ} {vs:AT},mY fs ds g=Ε x ->L3 ->∃v,Bef/\EA K F x v
 | [],_,_,h,_=>EN
 | EH,[],_,h,_=>EN
 | me,b_,vs,h,r=>by
  show AaQ;show De mY;show A3Z;by_cases e:g=f
  ·show ό e;show HI;subst e;exact ADx v r1
  ·show l6 e;show GA u hu ru zxv h r2;exact⟨u,BIw e hu,ru⟩
theorem Wv:AVt fs Ρ (g∉fs) (BSx g=Ι)
 | [],_,_=>Β
 | EH,[],_=>Β
 | me,AQA,h=>by
  show A3Z;have h1:g≠f:=al (WC h e)
  rw[BFT h1];exact Wv (vs:=vs) (AIr (h (zX _ e)))
def mj(A_B te bZ):bZ:=ku (ϴ (C' =C/\∃x,mY fs ds f=Ε x/\GV x))
def tG(BhI):bZ:=ku (ϴ (C' =C/\AFH/\BW2))
section
variable{X:Cx}{F0 H0:Hp}{e o:AK}{es:DD}{AB p LX:AX}{f m:Κ}{C fa:Ζ}{fd:Fc}{ps:Ρ}{k:Δ}{sp:dw}{te:bZ}{t:cW}
theorem zf(hc:ϐ)(hn:tI)(he:RF)(hb:AMx f:=by rfl):Ee (.AAt e f AB) (mj C f te):=fun z E cx=>
 nQ (DU ygz RA hb) (NH B_ B_ (fR (by
  cases d with
  | obj C' fs ds=>
   show Fh Β x hx hp h1;obtain⟨a,dx,vs,Β,ea,hl,rs⟩:=r1;show GA u hu ru zxv hx rs;exact⟨a,C',dx,_,u,Β,LZ _ _ ea,hc,hn,hu,k x AC F1 H1 u R1 s1 ru hp⟩
  | _=>show Ϝ)))
theorem yi1(BeU)(hr:ţ)(hb:AOr)(ho:APu)(ha:Si)
  (hst:AKg:=by rfl) (hpl:AHR es:=by rfl)
  (ht:AJY AVH (do
   let ov<- V_ o
   AFS
   let (f,first)<- AFa AQ8
   AFv wp (ļ KW) AKF):=by rfl):
  AqO tG:=by
 show AFj;refine A_O (ϴ (C' =C/\AFH/\BW2)) BfQ
 cases d with
 | obj C' fs ds=>
  show Aml q q;show Ap2 (AqI I1 LZ Qd) (BhR (bV (ha z E cx AB Ξ s1 σ H1 (AIE H2 (∃F2 BF es,pE F2 H2 BF/\Ae'/\aM AJ F2 es vs/\BkS)) I1 (AM2 q (AU2 es vs ⟨F2,BF,es,R2,s2,r2,h2⟩)))
   fun us s2 ⟨ws,H2,I2,r,F2,BF,es,R2,Ip,Kd,q2⟩=>(C3 I2.kIn)))
  exact Pr (us:= B'::us) (vs:= B'::ws) Fn hr hb cx I2 R2 (.AY Β r) (qT (Qe.up Ip) Kd) q2 (ApI (kk d BF F' H' v BIg (ğ (Ip.trans OS)) rv hp))
 | _=>show ze
#where
inductive DR (Bhr dw):Θ
 | mk:∀x dx GY F ds Pd Ex,(vs= BSi) ->(Fu H (AHM [])) ->(AfY dx x) ->Hk (dx≠x) AOA (F x=Ι) (F dx=Ι) (BZL (∀d F' H' H3 v,BB (Gr F H F' H3) tF (Pd d) (H' =upd H3 x (AHM AlQ)) AvQ) DR)
def uT(BUl dw):Sp:=AbG (AxU DR)
theorem zml(h:fD P w DE H2 s2 E e s')(os:s2.os=s.os)(un:BkO H2 AdJ)(kp:AVG MY Adq):AaS fD :=by
 obtain⟨a,C,H',B,dx,h1,h2,h3,h4,h5,h6,h7,h8,h9⟩:=h;exact⟨a,C,H',B,dx,h1,BFw os,h3,un.trans h4,h5,h6,qf (h7 b o (rL kp) n),h8,h9⟩
def DW(A_B sp dw):dw:=Bfc (ũ (P (.obj C [f] [d])))
section
variable{P:A0}{w:Ap}{K:AD}{mg:EX}{DS:AL}
theorem yi9{x FE:Κ}{st st1:AR}{f:Ζ}{fd:Fc}{N ps:Ρ}{k:Δ}{sp:dw}{C:Ζ}{fl:Κ}{FF:AK}{px HP AB:AX}(Fn:AFi)(hbd:yd st= [st1,.ALJ (AgI (AH5 px) fl) FF AB])(S:AQ0 Awa)
  (hc:Asp K C) (hn:ADN fl) (hN:Iq N 0 Atf) (Qf:A4P) (len:AbY)
  (ė:ARr (∀F0:Hp,
   Ļ (AGR FF (Dx (ABa (AH5 px) fl HP)) Arb A0I)/\
   ∃t te,QS (ŏ AT1) F0 H st1 t/\BJk QE te/\
    BcL (t (ANd (ACp (te Γ BVT Th)) j') (gQ N AWN) Th))):
  BSf uT:=by
 show AKM;refine Sg lk hcd S (FY vs H Q E B_) (ARq E hr Bi)
 ·obtain⟨x,dx,GY,F,ds,Pd,Ex,e,_,_,_,_,_,_,rs,hs,_⟩:=B_;show A_Z e Avk
 obtain⟨a,dx,GY,F0,ds,Pd,Ex,ev,hx,hdx,hne,sF,fx,fdx,rs,hsp,hQ,hE⟩:=Bi;subst ev;obtain⟨hsw,t,te,ht,hte,hq⟩:=Avx;have cx:AbV:=by
  refine⟨fun Ξ σ Γ F H1 s1 e s' I R hx=> ?_,AQ5⟩;refine ARs;show AW9 F' x R' xr z1 z Abg
 rw[hbd];refine XT (Z9 (ht _ _ cx) (zta (z56 (Ş uL hN Qf) BLU hsw)));show BE (Bga ⟨fun Γ F' H' σ R' s' q=> ?_,ADU,ADU,ADU,ADU,fun _ _ _ _ _ _ _ _ _ q=>Ġ,ApH⟩) ⟨F',Γ,_,R',q,fun d AC F1 H1 v R1 s1 rv hp=> ?_⟩;obtain⟨h0,hp⟩:=hp;show br eo ro (AL1 0 _ h0);show bv u ru ro;subst ru;exact⟨B',eo,a,C,dx,[],Β,Ais hx,hc,hn,DB,hQ d F1 _ H1 v R1.gr rv hp Β⟩
#where
section
variable{X:Cx}{F0 H0:Hp}{e:AK}{es:DD}{AB p:AX}{x fl:Κ}{C f:Ζ}{fd:Fc}{ps:Ρ}{k:Δ}{sp:dw}{t:cW}
theorem yj9(M:Mk AJ C f)(Fn:BYS uT)(hr:AKL)(hg:KG)(hm:AKB)(hb:AOr)
  (ha:Si) (sT):
  Bca:=by
 show AFj;refine ApN;refine Adr (h₀:=cy) Ads M.kp (AVO (AqP (Avq (ũ (GV (.obj C [fl] [d])))))) he hpl;obtain⟨vs,H1,I1,r,F1,AC,ds,R1,sF,rs,q⟩:=D8;refine Ai';have I2:=BSq I1;have n1:yv Zs:=AlS;show E2 n2 AkT AlR ne BM6 An4 kp BZ0 AX1 sH (MC H1 AO0) BTD
 show E2 f1 (F1 Zs=Ι) (by
  cases q:F1 (pv) with
  | Ι=>rfl
  | Ε o=>show BCU) f2 (F1 EJ=Ι) (by
  cases q:Bkq F1 with
  | Ι=>rfl
  | Ε o=>show MO (LZ _ _ q) n2 n2 n2 n2 n2 n2 n2 n2 n2 n2 n2 n2 n2 n2 n2) hs (uT AJ C fl sp BQO AO0 BMO (BaA A'_)) (by
  refine⟨Zs,EJ,vs,F1,ds,_,_,Β,gP,A2g,ne,A1s,f1,f2,rs,q,?_,BcP⟩
  rintro d F' H' H3 v gr rv hp Β;refine Ϥ;show E2 g1 (F' Zs=Ι) (by
   cases q:F' (pv) with
   | Ι=>rfl
   | Ε o=>
    show BUH (gr.n _ _ q f1)) g2 (F' EJ=Ι) (by
   cases q:Bkq F' with
   | Ι=>rfl
   | Ε o=>
    show Ahp (gr.n _ _ q f2)
    ·rw[bU ne,gP] at z;show Lw
    ·rw[bU ne,gP] at z;show Lw;show ϖ) abr (Bk_ H3 Atj) (gr.h _ _ (Ù (bU ne) gP)) wg (Gr F1 H1 BaC (At1 H3 [(fl,v)])) (by
   refine⟨AZR,AZR,AZR,qf ?_⟩
   ·rw[Q3 f1,Q3 f2];exact OS _ _ e
   ·by_cases hb:b=Zs
    ·subst hb;rw[gP] at e⊢;exact e
    ·rw[t6] at e⊢;by_cases hb2:b=EJ
     ·subst hb2;show AFl gP abr
     ·rw[Aj0] at e;exact gr.g _ _ e
   ·rw[Q3 n1];exact gr.h _ _ (sH _ _ e)
   ·by_cases hb:b=Zs
    ·subst hb;show FR n1
    ·rw[t6] at e;by_cases hb2:b=EJ
     ·subst hb2;show FR n2
     ·rw[Aj0] at e;have:=gr.n _ _ e n;unfold wz at Τ⊢;show kl t6 Aj0;exact Τ)
  refine kk _ AC _ _ _ (ALr wg) (ğ wg.f) ?_ hp;have s2:MC F' BaC:=Of (Â (Q3 g1) (Q3 g2) e)
  exact⟨Zs,EJ,[v],Β,gP,Β,qT (ATG s2) Iy⟩) hl (AN2 AWW) (by
  have e:=AVZ hs;rw[GM,<- Pp,<- GM (a:=AwJ),e])
 show BhP;refine ALk (BCL AuH AWW BSS hs) (AUv hq');cases r with
 | oB e=>
  refine ALt Ξ σ AC F1 H1 s1 e s' I1 R1 BMc;have u1:BT5:=BYi;have u2:Bb2:=BMX (ET (AM7 bU ne) n1)
  exact Asq u2
 | ok Ww =>
  cases Ww with
  | ret u=>
   obtain⟨v,H',I3,rv,ev,q3⟩:=I2.after hq';subst ev;exact⟨rv,BT1⟩
  | L_=>show ϝ
  | brk=>show ϝ
  | RU=>show ϝ
#where
structure BR (BBy) (DS:AL) (C:Ζ) (m:Κ) (k:Δ) (ps:Ρ) (sp:dw):Θ where
 ex:BbE (AQe nJ)
structure Mk2 (BZN dw):Θ where
 ex:BSd (BSe uT)
def Wx(Bd6):bZ:=BeO (i' UO (¬(TM BN 0 l=0/\TM BN BN u=BN)/\P (Kb BV4) Γ3))
section
variable{X:Cx}{F0 H0:Hp}{e o:AK}{lo hi:AXK}{es:DD}{AB p p2 LX:AX}{x m fl:Κ}{C:Ζ}{ps:Ρ}{k:Δ}{sp:dw}{te:bZ}{tl th:Lb}{t:cW}
theorem Tf(G:ApJ BR)(hc:ϐ)(hr:ţ)(ho:APu)(ha:Si)
  (hst:AKg:=by rfl) (hpl:AHR es:=by rfl)
  (ht:AJY AVH (do
   let ov<- V_ o
   AFS
   let (f,first)<- AFa AQ8
   AFv wp (ļ KW) AKF):=by rfl):AqO tG:=by
 show AnQ f h1 h2 h3;exact yi1 hc h2 h1 hr h3 ho ha hst hpl ht
theorem z1c(G:BdP Mk2)(hr:AKL)(hg:KG)(ha:Si)(sT):
  Bca:=by
 obtain⟨f,fd,h1,h2,h3,h4⟩:=Ģ;exact yj9 h2 h1 hr hg h3 h4 ha hdb he hpl
theorem ya3(Bfb):Ak4 e A's (Wx te tl th):=fun z E cx=>
 nQ (z0w ym9 RA (NX hl) (NX hh)) (NH Ey Ey (Bgf (BfM (by
  cases d with
  | EI xs=>
   have r3:=AGk AnX;show é r3;have FI:=jQ rs;refine⟨a,vs,Β,rA R3.g hq,Qb FI h3.1,mh⟩
   have gr:=AGh (o:=ATA (yj vs l u)) R3.g hp;refine k _ Γ3 _ _ _ (R3.grow gr) (AMP (Ana OS)) ?_ h3.2;exact l7 p AE_ ((z2s rs l u).up OS)
  | _=>show SA h3))))
#where
mutual
def ou:AJQ
 | Ý=>D7
 | Ϣ=>D7
 | AEh=>D7
 | AEi=>D7
 | APo=>D7
 | UO=>jf xs
 | .obj _ fs xs=>Ez fs=AG/\jf xs
 | _=>ID
def jf:T0
 | []=>ID
 | b_=>ou d/\AN1
end
section
variable{K:AD}{F F' :Hp}{A:Aig}
mutual
theorem yjj(hA:eg F (mE\/MI F')):Bgk
 | B8,_,_,h=>OG
 | jb,_,_,h=>OG
 | b9,_,_,h=>OG
 | gc,_,_,h=>OG
 | AEV,_,_,h=>OG
 | AJc,_,n,h=>by
  show Aor;refine⟨a,vs,h0,?_,zkh hA ds vs n h2⟩;show AiF h1 h1 h1 h1
  ·rcases ARD with z | z
   ·exact z.tup.elim
   ·show FR (HV z)
  ·rcases ARD with z | z
   ·exact z.frz.elim
   ·show FR (FM (We z))
  ·show He h1
 | Ajy,_,n,h=>by
  show AFQ dx vs h0 h1 h3 h4;refine⟨a,dx,vs,h0,?_,h3,zkh hA ds vs n.2 h4⟩;rcases ARD with z | z
  ·have:=z.ins;show kl (z11 h3) n.1;show IN
  ·exact z
 | Ý,_,n,_=>tq
 | Ϣ,_,n,_=>tq
 | AEh,_,n,_=>tq
 | AEi,_,n,_=>tq
 | APo,_,n,_=>tq
theorem zkh(hA:eg F (mE\/MI F')):Bgl
 | [],_,_,h=>OG
 | b_,_,n,h=>by
  obtain⟨v,r,h0,h1,h2⟩:=h;exact⟨v,r,h0,yjj hA d v n.1 h1,zkh hA ds r n.2 h2⟩
end
#where
theorem z0r(BaF):∀{ds:AQ} {vs:AT} (j:Δ),L3 ->P7 (ds.set j d) (vs.set j v)
 | [],vs,j,r=>AyG
 | x::ds,vs,j,r=>by
  show GG u us r1 r2 r;cases j with
  | Re=>exact qT h r2
  | Rl j=>exact qT r1 (z0r h j r2)
def Qg(i:Δ)(ti te:bZ):aD:=Alp ((∃xs,AU_ AWO)/\Ŷ ti k (AY_ k BF[i]? AEJ (Ε AWO) (∃j,A8P k/\VC (Γ2.set i (.ow (ArA j d))))))
section
variable{X:Cx}{F0 H0:Hp}{x:Κ}{AB HP ABM:AX}{e k:AK}{i:Δ}{te ti:bZ}
theorem ygi(hN:K_)(hv:So)(hk:Ee k ti)(he:RF)(fc)
  (ha:∀v,ASc BQU B9 v=(do
   let ov<- vk [v] (cz SL B9)
   let iv<- vk [v,ov] (cz k B9)
   Ac9 HP
   BWx
   BPj):=by intro _;rfl)
  (hs:AYk AmN e:=by rfl) (hw:Aaz AmN e Ι:=by rfl)
  (h1:AaA AmN [AXO BQU]:=by rfl):
  AUP AmN e (Qg i ti te):=fun z E cx=>
 uE (DU yfj RA (DU ymo mi AyI yc8 ha) hs hw h1) (pb Dn B_ (by obtain⟨F,Γ,D2,R,h,kk⟩:=B_;exact fR (by
  obtain⟨⟨xs,e0⟩,h2⟩:=h1;obtain⟨o,e1,a,vs,Β,g1,g2,g3,r⟩:=AlC;refine⟨B',e1,F1,AC,_,R1,h2,fun k BF F2 H2 kv R2 s2 rk q=> ?_⟩;split at q
  ·rename_i k' xs' e2;show EM j hj q q;obtain⟨o,e3,a',ws,Β,w1,w2,w3,sY⟩:=BOt;rw[e1] at e3;show AqZ;subst rk;have hl:=jQ sY;refine⟨a,ws,k',j,Β,Β,w1,Qb hl hj,?_⟩
   exact e_ kk.nx (R2.wr e2 e1 (z0r (AGk s2) j sY)) kN q
  ·exact Ġ)))
#where
section
variable(K:AD)(F0 H0:Hp)
inductive UpR (t:bZ) (E:XW) (σ:St) (H:Hp) (Q:VK):Θ
 | mk:Bcs BT9 UpR
def upR(t:bZ)(E:XW):TE:=AFO UpR
inductive Wy (t:cW) (E:XW) (σ:St) (H:Hp) (Q:APi):Θ
 | mk:Bct (aM K (jt F0 F') ds vs) Wy
def abt(AY0):TA:=AFO Wy
#where
def QR(UF)(e:AK)(t:bZ):Θ:=AZk upR
def QRA(BTa):Θ:=Ŝ PA es abt
section
variable{X:Cx}{F0 H0:Hp}{e:AK}{es:DD}{AB:AX}{te:bZ}
theorem z8x{K:AD}{F:Hp}{a:Ζ}{vs:AT}(h0:Nc F0)(h:Awq):lA K A3G a vs:=by
 have e:jt F0 F a=F a:=zq4 (Jn q (A1r h0))
 show AO8 h h
 ·left;unfold Rd at h⊢;rw[e];exact h
 ·exact KB h
def Wz(kX):bZ:=X0 (AN1/\GV ANQ)
#where
section
variable{X:Cx}{F0 H0:Hp}{e:AK}{es:DD}{AB p:AX}{x:Κ}{f:Ζ}{fd:Fc}{ps:Ρ}{k:Δ}{sp:dw}{t:cW}{te:bZ}
def Ir(mT):bZ:=BTo (P d Γ)
#where
def WD{α:CH}(lt:sw):A3T ->α
 | .ret a=>a
 | Ap3=>WD lt (k (lt i j))
def Tg{α:CH}(lt:sw)(n:Δ):A3T ->AU
 | .ret _=>Μ
 | Ap3=>Φ (i<n)&&(Φ (j<n)&&(Φ AFe&&Tg lt n (k (lt i j))))
theorem ygf(hc:∀i j (C:Ay9),BB (i<n) (j<n) AFe Bbi (cmp i j C s)):
  ∀(t:A3T) (Q:Op α),Tg lt n t=Μ ->Q (WD lt t) s ->t.kasWp cmp Q s
 | .ret _,_,_,h=>h
 | Ap3,Q,ok,h=>by
  unfold Tg at ok;show Al1 ok;exact hc i j _ ok.1 ok.2.1 ok.2.2.1 (ygf hc Baq Q ok.2.2.2 h)
section
variable{CI:A0}{w:Ap}{A:BQ}{E:dM}{s:AF}
theorem z7q{vs:At}{p:sj}(hp:AHG ATU):AHG (BFx (p.toList.map fun i=>ATV i nE)).size:=CY hp
#where
theorem zx5(h:fT):BTH lx (IY (A_D dc) (AL6 (Bh' us.getD)))
 | [],_=> EE
 | i::is,k=>by
  have hi:=k i zY;obtain⟨u,hu,ru⟩:=h.get (zZ hi);refine .AY ?_ (zx5 h BdK);show As (KO (dc i B8) (Av4 us.getD));rw[Mb,Mb,fh,hu];exact ru
theorem zwt{K:AD}{F:Hp}{ds:AQ}{vs:AT}(h:L3):BTH Aij (P7 (A_D ds.getD) (A_D ATV))
 | [],_=>CY aM
 | i::is,k=>by
  have hi:=k i zY;show AH2 hv rv (wQ h (zZ hi));refine qT ?_ (zwt h BdK);show As (EA K F (ds.getD i B8) (ATV i B8));rw[Mb,Mb,fh,hv];exact rv
def Iu(xs:CF):Θ:=AiA xs.Pairwise
theorem WK(h:Iu xs)(hij:i<j)(hj:AXb):xs[i]'(AdZ hij hj)<xs[j]:=Ad3 h i j _ hj hij
structure Bel (xs:CF) (j b:Δ):Θ where
 le:b<=BN
 lo:BK6 (k<b) (xs[k]<j)
 hi:BK6 (b<=k) (j<=xs[k])
theorem ztr(hr:AlH):∀(f lo hi:Δ),lo<=hi ->Hk (hi<=Ad4) (hi - lo<=f) (BK7 (k<lo) (BIk<j)) (BK7 (hi<=k) (j<=BIk)) (Bel vS j (Bnw xs j f lo hi))
 | 0,lo,hi,h1,h2,h3,h4,h5=>by
  show UI lo hi
  exact⟨h2,h4,h5⟩
 | f+1,lo,hi,h1,h2,h3,h4,h5=>by
  unfold Bnw;by_cases hl:lo<hi
  ·show DJ hl;show E2 hm1 (lo<=uu) Υ hm2 (uu<hi) Υ hm (uu<Ad4) Υ hg (dc (uu) j=vS[uu]) (by
    have:uu<xs.size:=Cc hm
    simp [Array.getD,Τ])
   dsimp only;rw[hg];by_cases hc:vS[uu]<j
   ·show DJ hc;refine ztr hr f _ hi Η h2 Η (AV k hk A6) h5
    by_cases e:k=uu
    ·show tT hc
    ·exact AdZ (WK hr (Υ:k< uu) hm) hc
   ·show BD hc;refine ztr hr f lo _ Η Η Η h4 BMH
    by_cases e:k=uu
    ·subst e;show AA
    ·have:=WK hr (Υ:uu<k) hk
     show AA
  ·show BD hl;show UI lo hi
   exact⟨h2,h4,h5⟩
theorem z2m(hr:AlH)(j:Δ):Bel vS j BP7:=om (ztr hr _ 0 _ ž A7 Η (fun k _ h=>Υ)) (fun k hk h=>by simp at hk;show AA)
theorem yl8(h:Bel xs j b)(k:Bel xs j c):b=c:=by
 rcases BFy b c with q | q | q
 ·have hb:b<BN:=zN q k.le;show Ô (k.lo b hb q) (h.hi b hb (zO _))
 ·exact q
 ·have hc:c<BN:=zN q h.le;show Ô (h.lo c hc q) (k.hi c hc (zO _))
theorem yiz(hr:AlH)(hn:xs[BPD]?≠Ε j):Iu (SetTable.insertAt xs BP7 j).toList:=by
 rw[SetTable.toList_insertAt];have hb:=z2m hr j;generalize BPD=b at*;have hn' :∀(h:b<Ad4),vS[b]≠j:=fun h e=>hn (by rw[<- Asr,lT,e])
 unfold Iu;rw[BFz];refine⟨hr.take,?_,Oy a ha c hc⟩
 ·rw[AL7];refine⟨Cf c hc,hr.drop⟩;show AEr k hk hc;rw[AdT] at hk;rw[Bnx];have h1:=hb.hi (b+k) Η Η
  by_cases e:k=0
  ·subst e;have:=hn' Η
   show AA
  ·show Ô (WK hr (Υ:b<b+k) Η) (hb.hi b Η (zO _))
 ·show AEr k hk ha;rw[v6] at hk;rw[Bny];have h1:=hb.lo k Η Η
  show œ (Cn hc) hc
  ·exact h1
  ·show AEr m hm hc;rw[AdT] at hm;rw[Bnx];have:=hb.hi (b+m) Η Η
   show AA
theorem z4g(hr:AlH)(hi:i<=Ad4):Ad5 xs (AiH (0<i) (vS[i - 1]' Η+1) 0)=i:=by
 refine yl8 (z2m hr _) ⟨hi,AV k hk A6,BMH⟩
 ·rw[ATW Η]
  by_cases e:k=i - 1
  ·subst e;show AYW
  ·have:=WK hr (Υ:k<i - 1) Η
   show AA
 ·split
  ·rename_i h0;have:=WK hr (Υ:i - 1<k) hk
   show AA
  ·show Azj
structure FZ (led:AU) (t:oQ):Θ where
 ris:BI9
 dum:Bjk
 led:t.led=led
theorem z5q:ACo (.ATY 0 0 led):=KI (aw SetTable.fresh Iu) Β
theorem ya2(n:Δ):Iu (Array.range n).toList:=CD Array.toList_range Ass
theorem zf9(h:AY1)(n:Δ):FZ led (t.standIn n):=KI (ya2 n) h.led
theorem z6w(h:AY1):ACo {t with plain:=AG}:=⟨h.ris,h.dum,h.led⟩
theorem z7e(j:Δ):BF' #[] j=AG:=CY BF'
theorem zsl(BbU){j:Δ}:(BS2 ->A_X Ad6 j≠Ε j)/\t.slot j≠ .dummy:=by
 unfold SetTable.slot;rw[hd,z7e];dsimp only;split
 ·exact⟨BCT,BCT⟩
 ·show Kj;exact⟨Ff Ait,BCT⟩
theorem z0o(BbU){ha:ϣ}{h:Ω}:∀(f:Δ) (p:SetTable.Probe) {j:Δ} {dm:MD Δ},p.dummy=Ι ->Bn0 t ha h f p=Ε (.empty j dm) ->dm=Ι/\BS2
 | 0,p,j,dm,_,e=>Abl
 | f+1,p,j,dm,hp,e=>by
  have adv:(t.advance p).dummy=Ι:=by
   unfold SetTable.advance;split<;>exact hp
  show UP Bn0;split at e
  ·show Kj;show DM;exact⟨hp,q⟩
  ·show Kj;exact aE q (zsl hd).2
  ·rename_i i q;split at e
   ·show AO3
   ·exact z0o hd f _ adv e
theorem yhl{led:AU}{t:oQ}(h:AY1)(es:AAQ)(k:Ω)(x:AH):ACo (layNew t es k x).2.1:=by
 unfold layNew;split
 ·rename_i NI wd q;unfold SetTable.freeSlot at q;split at q
  ·rename_i j dm e;cases (q);show tN hs (z0o h.dum _ _ Β e);have hn:=(zsl h.dum).1 hs;dsimp only [BEe];have hp:ACo (t.put j).1:=⟨yiz h.ris hn,by show(DH (BF' BF_ j=Μ) _ BF_)= #[];rw[h.dum,z7e];rfl,h.led⟩
   unfold SetTable.orStandIn;split
   ·exact hp
   ·exact zf9 hp _
  ·show mr
 ·exact zf9 h _
theorem z5j(h:AY1)(es:AAQ)(n:Δ):ACo (ATZ t es n).2.1:=by
 unfold ATZ;split
 ·rename_i t' order q;dsimp only;split
  ·unfold SetTable.relaid SetTable.laid at q;cases e:SetTable.layClean (SetTable.sizeAbove n - 1) (es.map (·.1)) with
   | Ι=>show MO e q q q q q q q q q q q q q q q
   | Ε owner=>
    rw[e] at q;cases (q);refine KI ?_ h.led;have CA:∀l:CF,((l.filterMap fun j=>(owner.getD j none).map (j, ·)).map (·.1)).Sublist l:=by
     intro l;induction l with
     | DL=>exact List.Sublist.refl _
     | AY a r ih=>
      rw[ArR];cases owner.getD a Ι with
      | Ι=>exact ih.cons _
      | Ε v=>exact ih.cons₂ _
    exact List.Pairwise.sublist (CA _) Ass
  ·exact zf9 h _
 ·exact zf9 h _
section
variable{CI:A0}{w:Ap}{κ:CH}[ť](knd:AFu)(kf:AFL)
structure pW (led:AU) (o:Obj) (ks:tP) (es:AAQ) (ep:Δ) (t:oQ):Θ where
 ex:o.ExactSet
 dat:Bbv
 el:AnU ArC
 fit:t.fits FK=Μ
 tok:AY1
 A9:(Ast Azh).TU ks
def ug(led:AU)(h:AL)(a:Ζ)(ks:tP):Θ:=∃o es ep t,ϲ/\AFY
def rF(ks:tP)(k:κ):tP:=AiC Aly ks ks k
variable{knd kf}(hkf:A9b)
include hkf
theorem yjv(el:AnU es):k∈es.map (B6 e (kf e.2))↔∃e∈es,Ad7 k e.2=Μ:=by
 rw[X9];constructor
 ·show AO_ e he;obtain⟨⟨k',hk',_⟩,_⟩:=el e he;exact⟨e,he,CD (hkf k' _ hk') hk'⟩
 ·rintro⟨e,he,hk⟩;exact⟨e,he,hkf k _ hk⟩
variable{A:BQ}{E:dM}{s:AF}{a:Ζ}{ks:tP}{led:AU}
theorem yau{h:AL}{o:Obj}{es:AAQ}{ep:Δ}{t:oQ}(hg:ϲ)(hd:Bbv)(es' :AAQ)(t' :oQ):
  IL (Asu a (BGA es' t')).IE Bbs:=by
 have z:=AGf (BGA es' t') hg (UU BaX)
 rwa [BaX] at z
omit hkf in
theorem pW.put(S:AFY)(el:AnU es'.toList)(fit:t'.fits es'.size=Μ)(tok:ACo t')(A9:(es'.toList.map Azh).TU ks'):
  pW knd kf led Bbs ks' es' (ep+1) t' :=⟨S.ex,Β,el,fit,tok,A9⟩
theorem yl1{k:κ}{x:AH}{Q:Ay9}(hx:Ad7 k x=Μ)(hsc:x.scannable=Μ)(S:BAc A8 ks)(hb:OR+1<AL8)
  (h:∀b h',AoJ h' ->BAc h' (rF ks k) ->Q b SI):KA (setAddHashed a x (Asv k)):=by
 obtain⟨o,es,ep,t,hg,S⟩:=S;have hsz:A2T:=î S.key.length_eq
 have hmem:=yjv hkf S.el (k:=k);refine AVp [x] (My (setState a) (Bn1 hg S.dat S.fit ?_));dsimp only;rw[byScan_of hsc (Υ:FK<AL8) S.el]
 refine z6 (My (nr _) (ASi (My (setScan a x _ _ _) (wpAny_setScan_of hx hg S.dat S.fit S.el ?_))));cases hr:List.findIdx? (AIr (Ad7 k e.2)) ArC with
 | Ε j=>
  obtain⟨hj,hpj,_⟩:=List.findIdx?_eq_some_iff_getElem.mp hr;have hk:Aly:=S.key.mem_iff.mp (hmem.mpr (D4 (yZ hj) hpj));refine Hc (Hc ?_);have z:=h AG A8 (Heap.SameBut.refl a A8) ⟨o,es,ep,t,hg,by unfold rF;show DJ hk;exact S⟩
  exact z
 | Ι=>
  have hk:k∉ks:=PH (by
   obtain⟨e,he,hp⟩:=hmem.mp (S.key.mem_iff.mpr q);have:=List.findIdx?_eq_none_iff.mp hr e he;show DF hp;show IN)
  have hperm:=A5y layNew_perm;have hfits:=A5y layNew_fits;have Lj:=yhl S.tok es (Asv k) x;generalize A5y layNew=lay at hperm hfits Lj⊢;show Fh es1 t1 wd gave lay;rw[Bn2] at hperm;have el1:AnU es1.toList:=(S.el.push hx hsc).perm hperm;have key1:(es1.toList.map Azh).TU (rF ks k):=by
   unfold rF;show BD hk;refine kT hperm.map _ ?_;rw[OT];refine List.Perm.append S.key ?_;show C8 ([kf x].TU [k]);rw[hkf k x hx]
  show E2 sz1 (ATa=FK+1) (î hperm.length_eq) WL (D' ATa) (fits_of_scanBound Η) gw (∀(b:AU) {EZ:AF} {Q' :á},Q' () EZ ->AP1 (BYe b) Q') (fun b EZ Q' q=>by
    cases b with
    | Μ=>exact ASi q
    | AG=>exact Hc q) tail (∀t2:oQ,t2.fits ATa=Μ ->ACo t2 ->AIH (do
    BRy
    if UB (! wd) t2.tooFull then do
      (BYe (ATZ t2 es1 AQ_).2.2)
      BGB a (ATZ t2 es1 AQ_).1 (ATZ t2 es1 AQ_).2.1
      BKh
     else BKh) (AHu (qE (match r with | Ε added=>Go added | Ι=>setAddHashedIn a x (Asv k) 99999) Q s'))) (by
   intro t2 f2 k2;refine WB BRy (Bn4 hg S.dat ?_ WL);have g1:=yau (hkf:=hkf) hg S.dat es1 t2;have S1:=S.put (ks' :=rF ks k) el1 f2 k2 key1;have sb1:=ATN A8 a (BGA es1 t2);split
   ·have hp2:=relayAll_perm t2 es1 AQ_;have hf2:=relayAll_fits t2 es1 AQ_;have ht2:=z5j k2 es1 AQ_;generalize ATZ t2 es1 (Bn3 ATa)=rl at hp2 hf2 ht2⊢;obtain⟨es2,t3,gave2⟩:=rl;have sz2:es2.size=ATa:=î hp2.length_eq
    show BE (jI gw gave2) (WB (BGB a es2 t3) (Bn4 g1 Β ?_ Η))
    have S2:=S1.put (ks' :=rF ks k) (el1.perm hp2) hf2 ht2 (XI hp2.map _ key1);refine Hc (Hc ?_);exact h Μ _ (sb1.trans (ATN _ a _)) ⟨_,_,_,_,yau (hkf:=hkf) g1 Β es2 t3,S2⟩
   ·exact Hc (Hc (h Μ _ sb1 ⟨_,_,_,_,g1,S1⟩)))
  refine jI gw gave;split
  ·refine Se;rw[hashByValue_scannable 8 hsc];refine AJr;refine tail _ ?_ ?_
   ·split
    ·exact hfits
    ·exact SetTable.fits_plain_off hfits
   ·split
    ·exact Lj
    ·exact z6w Lj
  ·refine AX_;exact tail _ hfits Lj
#where
abbrev lF(Aad):AU:= !(Ad8 Ad9)
abbrev Lk(Aad):Obj:={cls:= SB MV,dict:=Ι,AAk:= .set #[] 0 BMa}
def j8{κ:CH}(Ao9):Mm tP
 | 0=> []
 | EL=>BWM
theorem zoh (Ao9):∀i,gL j8 val i<=i
 | 0=>NF
 | EL=>by
  have ih:=zoh val i;show gL rF AhZ (val i)<=EL;unfold rF;split
  ·show w_
  ·show BM2;show AA
theorem zn5 (Ao9):∀{i},k∈j8 val i↔∃j,j<i/\val j=k
 | 0=>CY j8
 | EL=>by
  have ih:=zn5 val (k:=k) (i:=i);have e:k∈j8 val DI↔k∈j8 val i\/k=val i:=by
   show C8 (k∈BWM↔_);unfold rF;split
   ·show Kj;constructor
    ·exact M'
    ·rintro(z | Β)
     ·exact z
     ·exact q
   ·show BPt
  rw[e,ih];constructor
  ·rintro(⟨j,hj,Β⟩ | Β)
   ·exact⟨j,Υ,Β⟩
   ·exact⟨i,Υ,Β⟩
  ·show AO_ j hj;by_cases q:j=i
   ·subst q;exact KB Β
   ·show FR (XL j Υ)
theorem zl7 (Ao9):∀i,(j8 val i).Pl
 | 0=>Asw
 | EL=>by
  have ih:=zl7 val i;show(rF AhZ (val i)).Pl;unfold rF;split
  ·exact ih
  ·show Kj;rw[AL9];refine ADx ih BT'
   rw[AF_] at hb;subst hb;exact AEP q ha
theorem yby{CI:A0}{w:Ap}{κ:CH}[ť]{knd:AFu}{kf:AFL}:pW knd kf ADR APq [] #[] 0 BMa:=
 ⟨KI Β Β,Β,fun e he=>(AMi he),N1,z5q,DC⟩
section
variable{CI:A0}{w:Ap}{κ:CH}[ť]{knd:AFu}{kf:AFL}(hkf:A9b)
theorem ug.stay(S:ug knd kf led h a ks)(e:∀o,ϲ ->ACr RS):BAc h' ks:=by
 obtain⟨o,es,ep,t,hg,S⟩:=S;exact⟨o,es,ep,t,e o hg,S⟩
include hkf
theorem ybt{A:BQ}{R:Ay_}{I:Ζ}{fp wr:Cb}{G:DZ ϋ ϋ}{n:Δ}{P:AUJ AH}{St:Op Δ}
  (W:WalksS CI w ij I fp wr G n P St) {S:Ζ} (hS:S∉fp) {val:Mm κ} (hv:BeM (P i v)) (hb:n+1<AL8) {led:AU}:
  ∀(j i:Δ) (s:AF),Hk (i+j=n) (St i s) (ug knd kf led A8 S AhZ) (∀s',Moved (S::wr) G s s' ->ug knd kf led YY S (j8 val n) ->AgX BA s') (BL' "set.update.loop" (IM [.B4 S,.B4 I]) R):=by
 have hw:S∉wr:=PH (hS (W.sub _ q));have grow:On wr (b∈S::wr):=dl q (zX _ q);intro j;induction j with
 | Re=>
  intro i s hij st hs hR;show UI i n
  refine BJZ;show BLQ (My (ASj ADG) (W.done s _ _ st (Cf s' hm)));exact Hc (hR s' (hm.mono grow) (hs.stay Bb6))
 | Rl j ih=>
  intro i s hij st hs hR;refine BJZ;show BLQ (WB (ASj ADG) (W.item i s _ _ Η st (FY v s1 hP st1 hm)))
  show EU hk hc hv i v hP;have hs1:=hs.stay (h' :=AdF) Bb6;refine ń (vk [v] (setAdd S v)) (AVp [v]);refine AVp [v] (My (pyHash v) (knd.pyHash hk ?_));show BE (yl1 hkf (s:={s1 with toks:=ASg+1}) hk hc hs1 (by have:=zoh val i;show AA) (Oy _ h2 sb S2)) (Ahn Bn5 (ih DI _ Η (W.frame _ s1 h2 _ st1 BlY fun b hb o e=> ?_) S2 (AV s3 hm3 S3)))
  ·exact HZ sb.2 b (AEP hS hb) e
  ·refine hR s3 (Moved.trans W.gtrans ((hm.mono grow).then_heap BlY (ACu hb e)) hm3) S3;exact HZ sb.2 b (AEP hb zY) e
#where
section
variable{CI:A0}{w:Ap}{A:BQ}{E:dM}{s:AF}
theorem z0c(v:AH)(h:Q₁ (Bn CL) A_r):
  AI0 JU A (P4 BGC) A7t (wants Q₁ E) s:=by
 refine Bn6 ?_;refine(?_:AHn ij (AsZ BGC A7t>>=Ff (ALS (.Aqm BGC A7t))));refine z6 (ATP (PySem.F.newCall_set_1 v) (Hc ⟨AuV Bn7,AgC PySem.F.entry_set_new⟩));rw[ANq Bn7];unfold Builtin.«set.__new__» Builtin.Frozenset.newClass;have hsub:=Bn8;show AFR
 wp_walk
 refine Asy (Hc ?_);exact z6 (wpAny_alloc BL4)
#where
section
variable{CI:A0}{w:Ap}{κ:CH}[ť]{knd:AFu}{kf:AFL}(hkf:A9b){A:BQ}{E:dM}{s:AF}
include hkf
set_option maxHeartbeats 3200000 in
theorem zpk{l:Ζ}{NL:Ki}{val:Mm κ}{Q:dM}(hh:PZ)(hl:Aj1 NL)(hv:BeM (AHW NL))(hb:P2+1<AL8)
  (h:∀(h' :AL) (tk:Δ),BdS ->(A2l) ->AfW kM):
  KA (ib (NY MV) [SZ]):=by
 obtain⟨c,tl,wq⟩:=PySem.F.called_set.mro;have hmade:=PySem.F.called_set.made;have hsub:=PySem.F.called_set.sub;refine BKk;show bj (AUh (callAny (NY MV) _)) (qS ⟨Bn9 _ SV,AgC PySem.F.entry_type_call⟩)
 rw[Around.under_plain (weight_type_call_type MV [SZ] []) Β];show t7 q1 PySem.F.called_set.notType q2 PySem.F.called_set.canCreate q3 PySem.F.typeCall_set_1 AiP
 show A6c
 refine ALk (z0c (Bn l) (E:=E) (Q₁:=BaP A_r) Å) (AV r EZ hr);cases r with
 | oB e=>exact hr
 | ok fl=>
  cases fl with
  | ret obj=>
   show AGy hr;have hS:ACq (Ϗ APq) APq:=SE;have hT:Asz A_r ADH MV :=ML hS;have q4:=PySem.F.called_set.init.lookup;have q5:=PySem.F.called_set.init.bind ADH
   show A6c
   refine ALk (As0 (R:=wants (xt LJ (r= BA/\∃h' tk,LJ=kM/\BdS/\
     A2l)) E) PySem.F.called_set.init.plain PySem.F.entry_set_init (check_set_init_1 hT ?_)) (AV r₂ LJ hr₂)
   ·obtain⟨ol,hol,hcl,nl,hdl⟩:=hl;show Fh oc od ot os ol;simp only at hcl hdl;subst hcl;subst hdl;have hol' :Ϗ APq l=Ε (AUg od (.seq NL nl) os):=z8 _ hol;have q6:=PySem.F.sub_list_set;have q7:=PySem.F.sub_list_frozenset;have q8:G_ (Aq' IC) (Aq' vz):=DB
    have hl1:ATz APq IsList l NL:=⟨_,hol',Β,nl,Β⟩;unfold Builtin.«set.__init__» noKeywords Builtin.Frozenset.updateFrom;generalize hPI:ALO=PI
    wp_walk
    subst hPI;refine AsX hl1 (AVM BGD);have hlS:PU l:=zJ hol;have hh3:A.in1.in1.in1.handled=Ι:=CY hh
    have Ti:AhT (ANr APq):=AO9;refine ybt hkf (led:=lF w) ((Walks.list hh3 _ l (ad Ti zL (Bk5 hlS)) NL).toS) (S:=CL) ?_ hv hb P2 0 _ (BGE _)
     ⟨ky,hl1.push _⟩ ⟨_,_,_,_,z8 _ hS,yby⟩ (AV s' hm hS')
    ·rw[Ti];show AbT;exact⟨An4,AW2 hlS⟩
    ·show A_Q;show A_s;show A6u AKs;show A5o;refine AJr;refine qS ⟨Β,h',tk',Β,hS',AZR⟩;have A6:=zJ e;refine Asx b o ?_ (AZm e);rw[Ti];show AbT;exact⟨zL A6,zL (Adu A6)⟩
   ·cases r₂ with
    | oB e=>exact hr₂
    | ok fl₂=>
     cases fl₂ with
     | ret r=>
      obtain⟨Β,h',tk,Β,hS',hk'⟩:=hr₂
      show A6c
      exact h _ _ hS' hk'
     | _=>exact hr₂.elim
  | _=>exact hr.elim
#where
theorem rH:BLD BFk BGF := BhT BFk
theorem yky:Ahu BGF Builtin.«set_iterator.__next__»:=entryFor_of_tree (by kernel_rfl)
theorem yk7(v:AH):argsOk BGF (IM [v]):=lI
theorem yb8:Ahu "set.__iter__" Builtin.«frozenset.__iter__»:=Bkg "frozenset.__iter__"
def BX(h:AL)(I:Ζ)(fst:AH)(i:Δ)(S:Ζ)(n ep:Δ):Θ:=∃o,AEe I/\AgN AL_ /\nK= AHD #[fst,Ō i,.B4 S,Ō n,Ō ep]
theorem BX.ty{s:AF}{I S:Ζ}{fst:AH}{i n ep:Δ}(x:AQd A8):AOd I AL_ :=let ⟨o,ho,hc,_⟩:=x;AEg hc
theorem BX.at(x:AQd h)(e:∀o,AEe I ->ACj I):AQd h':=A6T e
theorem z2i(hi:lx):(xs[i]::xs.eraseIdx i).TU xs:=by
 rw[List.eraseIdx_eq_take_drop_succ];refine List.perm_middle.symm.trans ?_;rw[<- BII,As1]
section
variable{CI:A0}{w:Ap}{A:BQ}{E:dM}{s:AF}
theorem z89(hn:n≠0)(h:∀i d,i<n ->Q i A7h):KA (Ad' src n):=fun Γ p _=>by
 unfold Ad';rw[Sem.wp_choose];exact⟨hn,h _ _ (As2 _ (Bk6 hn))⟩
theorem zw2(n:Δ):∀(xs:CO) {s:AF} {Q:Op CO},BN=n ->(∀ys d,ys.Perm xs ->Q ys A7h) ->KA (drawOrder n xs):=by
 induction n with
 | Re=>
  intro xs s Q hn h;have:xs= []:=BGG hn;show gE;exact Hc (h [] AKs IP)
 | Rl n ih=>
  intro xs s Q hn h;cases xs with
  | DL=>show d5 hn hn hn hn hn hn hn hn hn hn hn hn hn hn
  | AY x xs=>
  refine My (Ad' _ _) (z89 A7 (AV i d hi))
  show BJT;refine z6 (ih ((x::xs).eraseIdx i) ?_ fun ys d' hp=>(qS (h _ d' ?_)))
  ·show BJU;show AA
  ·refine kT hp.cons _ ?_;exact z2i hi
section
variable{S I:Ζ}{fst:AH}{i n ep:Δ}{o:Obj}{es:AAQ}{t:oQ}
theorem zzh(hh:PZ)(hQ:Aom (ATO I h0 h'))(hk:ATO I h0 A8):
  IZ JU ij (Bj8>>=al (As3 e:Sem PySem.Fin)) AUk
   (sg e (qE (do if<- ALv e AvJ then BPh else throw e) Q s')) s:=by
 refine Se;refine A5V
 show ż BAd A'N (ń _ Bnp);rw[AyW AjS hh]
 refine AMt Hc (BFn (α:=_));refine Ů (ALv _ _) Bkc AVc Bns;exact Hc (hQ _ ((hk.push _).Ps _))
#where
#where
section
variable{CI:A0}{w:Ap}{κ:CH}[ť]{knd:AFu}{kf:AFL}{A:BQ}{E:dM}{s:AF}{S I:Ζ}{fst:AH}{i n ep:Δ}{o:Obj}{es:AAQ}{t:oQ}{led:AU}{ks:tP}
theorem Tj(hit:AQd A8)(hg:Ϻ)(O:AFY)(hn:FK=n)
  (h:IZ JU ij (if let .AN NI _:=fst then do
    match<- setNext S slot.toNat i ep with
    | Ε (x,L_)=>
     Ahr ADG 0 L_
     BSC
     ret x
    | Ι=>BZR;BMr
   else do
    let some places<- BGH fst | BMs
    match places[i]? with
    | Ε (ay place _)=>
     let x<- BGI S place.toNat ep
     BSC
     ret x
    | Ε _=>BMs
    | Ι=>Ahr ADG 0 0;BZR;BMr)
   (sg D3 (∃r,D3= AwP r/\Q (Ε r) s'))
   (sg e (qE (do if<- ALv e AvJ then BPh else throw e) Q s')) s):
  AJ0 I:=by
 show T_ oi ho hc hd hit;unfold ASj;refine My _ (BFt (AOq hit.ty rH (ANV rH hit.ty yky yk7)));unfold Builtin.«set_iterator.__next__»;refine AWP (slotArgs _ _ _);show BE (Ů (fieldsOf _) Bn' ho hd) (AfR setEntries BoA hg);show BD (AOQ hn)
 refine Po h (fun D3 s' hz=>by obtain⟨r,hr,hq⟩:=hz;exact⟨r,hr,qS hq⟩) fun e s' he=>he
theorem zkv(h:Q (Ad8 Ad9) s):KA setsByText:=om (My ask) (Asy (Hc h))
theorem zxu(hbt:BOF)(hg:Ϻ)(O:AUR Μ)(hdr:Me Aau)
  (h:Q (match A_X es NI,A_X Ad6 NI with | Ε (_,x),Ε j=>Ε (x,j+1) | _,_=>Ι) s):BbB e0:=by
 refine Aaw;refine AoA;rw[hbt,gN,CM (Ev (by have z' :UB (! t.plain) BiE:=z;rw[hdr] at z';show AE z' z' z' z' z' z' z' z' z' z' z' z' z' z'))]
 refine AX0 _;show As (AUh (DH (UB (! t.led) (! es.isEmpty)) _ (Go PUnit.unit)));rw[O.tok.led,CM A7]
 exact Hc (Hc h)
theorem zvw(hbt:BNp)(hg:Ϻ)(O:AFY)
  (h:Q (((BGJ AoF es)[given]?).map (al (e.2,NI))) s):BbB ep:=by
 refine Aaw;refine AoA;rw[hbt,EF,CM A7]
 refine AX0 (setWalk S);show BE Aaw AoA;rw[hbt,EF];exact My ask (Asy BL4)
theorem z5a(hg:Ϻ)(O:AFY)(hx:Iq es p x)(h:Q x.2 s):KA (BGI S p ep):=by
 refine Aaw;dsimp only;rw[CM A7,hx]
 exact Hc h
theorem zy8(hg:Ϻ)(O:AFY)(h:Q (! BMq &&Aau) s):KA (setDrawn S):=by
 refine Aaw;refine AoA;exact Hc h
theorem z9q(nx:ac):∀(f k:Δ) (l:CO) (out:AAi α),D9=f ->(BGK nx f k l out).toList.Perm (out.toList++l)
 | 0,k,l,out,hl=>by
  unfold BGK;rw[BGG hl];simp
 | f+1,k,l,out,hl=>by
  unfold BGK;have hi:BVE<D9:=As2 _ Η
  show BJT;refine HZ (z9q nx f Eg (l.eraseIdx (BVE))) _ (by show BJU;show AA) ?_
  rw[Bn2,ĥ];exact BoC _ (z2i hi)
theorem zrc(nx:ac)(xs:AAi α):(BGJ nx xs).toList.Perm vS:=JO (z9q nx _ 0 _ #[] A7)
#where
theorem yf7:BLD "__iter__" BGL := BhT "__iter__"
theorem yme:BKB BGL:=BMj
theorem ylc(v:AH):argsOk BGL (IM [v]):=lI
theorem BX.Qh(x:AQd h)(v:AH):AH1 (h.update I (Obj.mapFields (·.setIfInBounds 0 v))) v i:=by
 obtain⟨o,ho,hc,hd⟩:=x;exact BjO (by rw[Adm hd];simp)
theorem BX.Qi(x:AQd h):AH1 (h.update I (Obj.mapFields (·.setIfInBounds 1 (rawInt ((i:Int)+1))))) fst DI:=by
 obtain⟨o,ho,hc,hd⟩:=x;exact A_R
section
variable{CI:A0}{w:Ap}{κ:CH}[ť]{knd:AFu}{kf:AFL}
structure Steps (CI:A0) (w:Ap) (A:BQ) (I S:Ζ) (n ep:Δ) (o:Obj) (ex:dN) (IF:At) (fst:Mm AH):Θ where
 VS:∀i (s:AF) (Q:AX6) (E:dM),i<n ->Hk (AH1 A8 (fst i) i) Ϻ BLg (∀v h',AHW IF ->AH1 h' (fst DI) DI ->Ac5 I A8 h' ->Q (Ε v) SI) (AJ0 I)
 LW:∀(s:AF) (Q:AX6) (E:dM),Hk (AH1 A8 (fst n) n) Ϻ BLg (Aom (ATO I A8 h')) (AJ0 I)
theorem z51(T:BjT n ex IF fst)(hS:S≠I)(hX:WO ex (DA≠I)):
  Walks CI w A I (I::S::ex.map (·.1)) [I] n BJd (Ty h (AH1 h (fst i) i/\AEe S/\WO ex (ANZ L'))) where
 CA:=BVu
 frame:=fun i h h' st hk=>⟨Bbf,hk S A7 o Aie,s0 (hk DA (by simp only [û,X9];exact KB (FM (XL p hp))) p.2 (Ai7 p hp))⟩
 VS:=Bf7 (Arq i s Q E hi se Aie Ai7 fun v h' hv st' sb=>hQ v h' LV hv ⟨st',HZ sb.2 S hS Aie,s0 ((sb.2 DA (hX p hp)).ON (Ai7 p hp))⟩ (dy hb e (HZ sb.2 b (AZ (WC hb z)) e)))
 LW:=fun s Q E st hQ=>Arp s Q E se Aie Ai7 fun h' eb=>hQ h' LV (dy hb e (eb b o (Ev (WC hb z)) e))
 RY:=fun i s Q E st hQ=>by
  refine BoD (se).ty yf7 (ANV yf7 (se).ty yme ylc);exact Hc ⟨_,Β,AL_,_,(se).ty,rH.lookup,hQ⟩
variable{A:BQ}{I S:Ζ}{n ep:Δ}{o:Obj}{es:AAQ}{t:oQ}{ks:tP}
def pI(t:oQ)(i:Δ):Δ:=AiH (0<i/\BHy) (Bnz[i - 1]' Η+1) 0
theorem zpu(hr:BI9)(hi:BHy):Ad5 Ad6 A5H=i:=by
 have:=z4g hr hi;unfold pI;by_cases h0:0<i
 ·rw[ATW ⟨h0,hi⟩];show AY4 (ATW h0)
 ·rw[dif_neg (Ev (h0 z.1))];show AY4 (dif_neg h0)
theorem z1p(h:t.fits n=Μ):BGM=n:=by
 show BiL SetTable.fits Adp
 simpa using ED
theorem yid(hh:PZ)(hbt:BOF)(O:AUR Μ)(hdr:Me Aau):
  A6I [] (es.toList.map (·.2)) (HH (Ō A5H)) where
 VS:=BMn (by
  have hl:=z1p O.fit;have hb:=Ú BMt Η
  have hp:i<t.place.size:=Cc (Υ:i<BGM)
  show BE ARp Bg9;rw[show I_ (ER (pI t i))=pI t i from BlW,hb,Az3,AL' hp];show ARj;refine ART
  have wo:=hit.Qh (ź BNa);show BAS wo;refine A8G
  refine qS (SH (hQ _ _ (fF hi) ?_ (AbP ON A6x)))
  have e:(BC_ (pI t DI) 0)=Yf BNa:=by
   unfold pI;rw[ATW AMv]
   simp [Yf]
  rw[e];exact hit2.Qi)
 LW:=BMl (by
  have hl:=z1p O.fit;have hb:=BMt (i:=FK) Η
  refine ARp;refine Bg9;rw[show I_ (ER (pI t FK))=pI t FK from BlW,hb,BGN (ARy _)];show ARj;refine ART
  exact Po (zzh (I:=I) hh hQ (AbP extBut)) A3X Ó)
theorem yjb(hh:PZ)(hbt:BNp)(O:AFY):
  A6I [] ((pickOrder (w.params.setOrder S ep) es).toList.map (·.2)) (Ff ADl) where
 VS:=BMn (by
  have hp:=(zrc AoF es).AeA;show Avy hp;refine ARp;refine BeF;have hi' :i< (BGJ AoF es).size:=Υ
  rw[AL' hi'];show ARj;refine ART
  have wo:=hit.Qh (ź APR);show BAS wo;refine A8G
  exact Hc (SH (hQ _ _ (fF hi') hit2.Qi (AbP ON A6x))))
 LW:=BMl (by
  have hp:=(zrc AoF es).AeA;show Avy hp;refine ARp;refine BeF;rw[BGN Η]
  show ARj;refine ART
  exact Po (zzh (I:=I) hh hQ (AbP extBut)) A3X Ó)
theorem yi5{led:AU}(hh:PZ)(O:AFY){Tp:Ζ}{ot:Obj}{ps:CF}(hps:Agv ps.Perm FK)(hot:∃m,ot.data= .seq A9Z m):
  A6I [(Tp,ot)] BVj (Ff (.B4 Tp)) where
 VS:=fun i s Q E hi hit hg hx hQ=>by
  obtain⟨m,hm⟩:=hot;have hl:OP=FK:=BHF
  have hi' :i<OP:=Υ
  have A6:UR<FK:=R_ (hps.mem_iff.mp (yZ hi'));show BE ARp (Ů (BGH _) Asl BVI hm)
  dsimp only;have e:E4 A9Z (.AN (LN UR) 0):=aw hi' Yf
  rw[e];refine WB (BGI _ _ _) (z5a (x:=es[UR]) hg O (ad da AL' A6) ?_)
  show ARj;refine ART
  exact Hc (SH (hQ _ _ (by simp [hi',A6]) hit.Qi (ATN A8 I _)))
 LW:=fun s Q E hit hg hx hQ=>by
  obtain⟨m,hm⟩:=hot;have hl:OP=FK:=BHF
  show BE ARp (Ů (BGH _) Asl BVI hm)
  dsimp only;have e:A9Z[FK]?=Ι:=CY hl
  rw[e];show ARj;refine ART
  have wo:=hit.Qh (ź 0);show BAS wo;refine A8G
  exact Po (zzh (I:=I) hh hQ (AbP ON A6x).extBut) A3X Ó
#where
section
variable{CI:A0}{w:Ap}{κ:CH}[ť]{knd:AFu}{kf:AFL}{A:BQ}{E:dM}{s:AF}{S:Ζ}{ep:Δ}{o:Obj}{es:AAQ}{t:oQ}{ks:tP}
structure Laid (knd:AFu) (kf:AFL) (s:AF) (S:Ζ) (o:Obj) (ks:tP) (I:Ζ) (h' :AL) (n:Δ) (IF:At) (St:AYr) (fp:Cb):Θ where
 wk:BWK (Walks CI w A' I fp [I] n BJd St)
 st:St 0 h'
 len:As4=n
 lem:n=OR
 A9:A9z
 mem:∀v∈IF,(∃k,Afs)/\AU8
 new:rV I
 inF:I∈fp
 fpl:js (b<ASz)
 fpn:js (b=S\/rV b)
 kep:Am7
 siz:rV ASz
theorem ydo(hg:Ϻ)(O:AUR ADR)(hb:AyD)
  (h:∀(I:Ζ) (h' :AL) d n IF St fp,Laid knd kf s S o ks I h' n IF St fp ->M1 I (A_t h')):AkL S:=by
 have hT:AOd S MV :=Ay7 hg;show E2 hSl (PU S) (zJ hg) hlk A2T AXd scn (∀v∈Ast (·.2),(∃k,Afs)/\AU8) (fun v hv=>by
  show kC e he hv;obtain⟨⟨k,hk,_⟩,hs⟩:=O.el e he;exact⟨⟨k,hk⟩,hs⟩) D3 (∀(h1:AL) d (IF:At) (ex:dN) (fst:Mm AH),BIO ->(∀b ob,Aus ->ACH ą) ->(∀p∈ex,ANZ ą/\rV DA) ->
   BB (BWK (Steps CI w A' ALp S FK ep o ex IF fst)) BKM A9z BRs (M1 ALp (A_t (h1.push (WG AL_ #[fst 0,Ahb,.B4 S,Yf FK,Yf ep]))))) (by
  intro h1 d IF ex fst hsz hk hx' hs hl hp hm;have hx:WO ex (ANZ ą):=fun p q=>(hx' p q).1;refine h _ _ d FK IF _ _ ⟨fun A' hh=>z51 (hs A' hh) (zL (zN hSl hsz)) (fun p q=>zL (zJ (hx p q))),⟨ky,z8 _ (hk S o hg),fun p q=>z8 _ (hx p q)⟩,hl,hlk,hp,hm,hsz,DC,Ajm,Ajm,fun b ob e=>z8 _ (hk b ob e),?_⟩
  ·rw[Y1];simp only [û,X9] at q;rcases q with Β | Β | ⟨p,hp',Β⟩
   ·show AYW
   ·show APA (zN hSl hsz)
   ·show APA (zJ (hx p hp'))
  ·simp only [û,X9] at q;rcases q with Β | Β | ⟨p,hp',Β⟩
   ·show He hsz
   ·exact M' Β
   ·show He (hx' p hp').2
  ·show Axf;exact BGO hsz)
 refine A_K BoF BoF yb8 PySem.F.args_set_iter_1;unfold Builtin.«frozenset.__iter__»;refine AX0 (Builtin.Frozenset.slot0 _ _);show BE (AWP (slotArgs _ _ _)) AJr;show BE (AX0 (Builtin.Frozenset.sizeOf S)) (WB (setEntries S) (BoA hg O.dat O.fit (Hc ?_)));refine Ů (setDrawn S) zy8 hg O;cases hbt:BMq with
 | Μ=>
  rw[Ź (Me (! Μ&&Aau)),gN];refine AWP (Go _);show BE (BJH BGP) (AWI BGQ iS A_c);have hp:=zrc (BoB S ep) es;refine D3 A8 AKs ((pickOrder (w.params.setOrder S ep) es).toList.map (·.2)) [] (Da ADl) Kt (AOi) BLu (fun A' hh=>yjb hh hbt O) (CC BGR) ?_ (BYx (hp.map _).BGS)
  rw[IG];exact XI hp.map _ O.key
 | AG=>
  have abu:lF w=Μ:=AuX lF hbt
  cases hdr:Aau with
  | AG=>
   rw[Ź (Me (! AG&&AG)),gN];refine AWP (Go _);show BE (BJH BGP) (AWI BGQ iS A_c);rw[abu] at O;refine D3 A8 AKs (es.toList.map (·.2)) [] (qa (Ō A5H)) Kt (AOi) BLu (fun A' hh=>yid hh hbt O hdr) A7 ?_ scn
   rw[IG];exact O.key
  | Μ=>
   rw[Ź (UB (! AG) Μ),EF];refine WB (drawOrder _ _) (zw2 FK (cv FK) A7 (AV ps d hps))
   have hpl:OP=FK:=Cc BoE
   refine My (newTuple _) (BFq ?_ (by show yT hpl;exact hb))
   have hgt:Ϗ BWD S=Ε o:=z8 _ hg;show BE (AfR setEpoch BGP hgt) (AWI BGQ iS A_c);have hpm:(TZ fun p=>Aw2).TU (es.toList.map (·.2)):=by
    refine kT hps.map _ ?_;have:MG FK (B6 p Aw2)=Ast (·.2):=by
     show k9
     ·simp
     ·show AFs;have:Auo:=Cc h1
      simp [Τ]
    rw[Τ]
   refine D3 _ d BVj [(CL,BWD)] (Da zk) (A0p Y1) (fun b ob e=>xo) (UD p q) (fun A' hh=>yi5 hh O hps D_) (fF hpl) ?_ (BYx hpm.mem_iff.mp)
   ·show HA (p=_) (Cc q)
    exact⟨SE,NF⟩
   ·refine kT hpm.map kf ?_;rw[IG];exact O.key
abbrev ju:Obj:=AVR
theorem zqr(hh:PZ)(hg:Ϻ)(O:AUR ADR)(hb:AyD)
  (h:∀(IF:At) (h' :AL) d tk,Hk A9z BRs BM7 Am7 (Q IF BgX)):
  AMd AeB S:=by
 have hSl:PU S:=zJ hg;refine BTG (Ad_ BoG ?_);rw[ANq BoH];refine BWU;refine BRR;rw[BJC];have hg1:Ϗ ju S=Ε o:=z8 _ hg;have hT1:Asz (AUr ju) (Bn S) MV :=Ay7 hg1;refine A8s hT1;have n1:BOS (Bn S):=BH2 (AW2 hSl)
 show BD (AJg n1)
 refine WB (ALO _) (ydo hg1 O hb fun I h1 d n IF St fp L=> ?_);refine BOy;show HL hg2 (ą S=Ε o) (L.kep S o hg1) hT2 (Asz (A_t h1) (Bn S) MV) (Ay7 hg2) (A9X PySem.F.slot_set_len.lookup);dsimp only;rw[AyX (Az_ "set.__len__" MV "__len__")]
 refine Ů (ALv _ _) BFu hT2 Bn8;rw[CM Ψ,Ch SV]
 refine A8s hT2;refine AJr;show DJ SV
 refine ń (nr _) ASi;have hS1:ACq ą ju:=L.kep _ _ Anh;have hNI:CL≠I:=zL (zN (ad Y1 AdQ _) L.new)
 show BE (AX0 (Builtin.List.listTouch _)) (WB (updateSeq _ _) (BGT hS1 Β ?_));have hS2:=AGf (Obj.mapSeq (·.push Value.none)) hS1 Β;refine BGT hS2 Β ?_;have hS3:=AGf (Obj.mapSeq (·.pop)) hS2 Β;have oth:∀b ob,Ag8 ->ACH ą ->ACH ((h1.update s.heap.objs.size (Obj.mapSeq (·.push Value.none))).update s.heap.objs.size (Obj.mapSeq (·.pop))).IE:=
  fun b ob q e=>(ANn (qV q)).ON ((ANn (qV q)).ON e)
 have hNf:CL∉fp:=PH (by
  rcases L.fpn _ q with z | z
  ·exact i5 z ALN hSl
  ·have z' :Bkw (ANr ju):=z;show Q2 Y1 z' (i5 z' Nat.not_succ_le_self _))
 have Iv:Aim:=by
  have e1:=L.lem;have e2:A2T:=AXd
  show AA
 have W:=L.wk ij Az1
 refine Ahn BoK (BoL W.toS Iv _ hNf _ n 0 _ _ _ Β ž (W.frame 0 h1 _ L.st fun b q ob e=>oth b ob (Ev (hNf (z ▸ q))) e) hS3 BlZ Bfo);show BE BXv AJr;have ev:As5=IF:=by
  apply BoM;intro i;by_cases q:i<n
  ·have hi:i<AeC:=AHN AW3
   have:=ģ.2 i A1[i] (AL' hi);rw[Asr,Az3,Τ]
  ·exact XI AS_ (by rw[vn,AW3];show AA) (UH AS_ (ő L.len))
 rw[ev];show A_Q;show A_s;show A6u d;show A5o;refine h IF h' d' tk' L.key L.mem (zJ hS') (Na ob e);have A6:=zJ e;have hbN:Ag8:=zL A6;refine Asx b ob ?_ (oth b ob hbN (L.kep b ob e9));show AbT;exact⟨hbN,AZ (hbN (by
  subst z;have z2:ANr ju<=b:=L.new;show Q2 Y1 z2 (aE A6 (Nat.not_lt_of_ge (ATF z2)))))⟩
#where
def Ga:AHe Ω | AaF=>i | _=>0
theorem yg9:∀k v,AWq AeD k v=Μ ->Ga v=k:=fun k v h=>by
 show No (BC' h)
 rfl
theorem z9l:N0 vs At (BRr AeD) (AsN vs (Ar4 Ga))
 | [],_=> EE
 | AQA,h=>by
  obtain⟨⟨k,hk⟩,_⟩:=AoI;show No (BC' hk);exact Ay' (z9l (AMo u hu h u hu))
theorem ynu(hob:eR (AMc xs n)):∃e,Ag1 Bfi out e:=by
 have hal:A0h:=zJ hob;have h1:=BoN hob Af7;have h2:BTy (AfA Asu a (Ff #[]) Ps) _:=z8 _ (z8 _ h1);exact BNt h2 out
theorem ygl(hb:rq)(hne:SW):KU Bfi:=by
 have h1:KU (AfA Asu a (Ff (#[]:Ki)) IE):=kT APX hne hb;exact XI APX hne (AZm h1)
section
variable{CI:A0}{w:Ap}{A:BQ}{E:dM}{s:AF}{S:Ζ}{ks:Bz}
theorem z3a(hh:PZ)(hS:ug (AeD CI w) Ga ADR A8 S ks)(h64:OR<64)
  (h:∀(l:Ζ) (h' :AL) d tk (out:At) (ms:Bz) e,AkP ->AsN out ms ->Hk (ATM ks) BKJ (BPc out.toArray) Am7 (M1 l BgX)):
  KA (A1S [.B4 S]):=by
 obtain⟨o,es,ep,t,hg,O⟩:=hS;have hlk:FK=OR:=AXd
 have line:AXu:=DB
 refine BfW;show Bku;refine Bek;refine My (AeB _) (zqr Az1 hg O Η BgU)
 have Iv:As4=OR:=Cc hk.length_eq
 refine My (newList _) (BoO ?_ Η)
 have hoL:(h1.push BI5).IE ALp=Ε BI5:=SE;have hI:=z9l hm;refine Bej (list_sort_tree (ns:=vals.map Ga) hoL hI Η fun out ms a1 a2 a3=>AEo)
 refine qS AEo;show D1 e he (ynu (vs:=IF) (out:=out)) hoL;have hle:BIO:=č A6;refine h ALp _ d tk out.toList ms e hle a1 (a2.trans hk) a3 (ET BoP he) (APb ob)
 have e1:=OU b ob eb;exact ygl AzU (zL (zJ e1))
#where
def Iw(P:A0)(w:Ap)(a:Ζ)(ns:Bz):HO:= Amd (ug (AeD P w) Ga ADR h a (j8 AYb HQ))
theorem ygv(I:AW)(d):Ī A7h:=A3Q ve
inductive Ny (ARn):Θ
 | mk:∀(p:Ζ) (ns:Bz),Hk (vs= [Wp]) (lA AJ H p AHi) (HQ+1<AL8) (AZl q q q q A8S) (AHz Ny)
def WM(X:Cx):ë:=AQb Ny
inductive Nz (ARn):Θ
 | mk:∀(q:Ζ) (ns:Bz),BB A1T (Tm q A8S) (gL j8 AYb HQ<64) (∀(l:Addr) (ms:List Int),H l=none ->ms.Perm (j8 (fun i=>ns.getD i 0) ns.length) ->ms.Pairwise (· <= ·) ->Q (.ref l) (upd H l (.lst (ms.map .int)))) (AHz Nz)
def abv(X:Cx):ë:=AQb Nz
theorem ycu(ï):ANs MV (WM X):=by
 show Abi p hb;subst e0;show Sr;show AAX;show BRL;rw[C6] at hl;have hI:=zsh rv;have hsz:v_=HQ:=Cc hl.symm
 refine zpk (κ:=Ω) (knd:=AeD Fr X.w) (kf:=Ga) yg9 (val:=HH ACa) cK dC BTI BN4 BZj
 ·show No (IntsAre.int_at hI i v (CC hv))
  exact⟨MH intKind_is,Β⟩
 ·rw[hsz] at hS;have I2:ϱ BK9 kM:=
   AFd vy OU Kt BK9 ⟨hS,BNV (We e),BUp⟩
  exact BRZ
theorem ye6(ï):AB_ U2 (abv X):=by
 show Abi q h64;subst e0;show Sr;show LU;obtain⟨hS,_,_⟩:=A7U;refine z3a cK hS h64 fun l h' d tk out ms e hle a1 a2 a3 hl OU=> ?_;have FI:D' (C7 oP V.int):=by
  show yT a2.length_eq;have:AXu:=DB
  show AA
 have I2:A3v BHu:=
  AFd vy OU hle (FG BHu) ⟨FI,out,e,Vv a1,hl⟩
 exact BRv (k l ms (Agu hle) a2 a3)
def yai:UA:=ADo (∃ns,Alq/\HQ<63/\∀ms:Bz,AiA Ad0 ->(A5' ns) ->AWA ay)
theorem zvr:Akn MV MV:=Χ
section
variable{X:Cx}{F0 H0:Hp}{a e:AK}{AB p wt p2:AX}{t:cW}
theorem yit(ns:Bz)(k:Ω):k∈j8 AYb HQ↔k∈ns:=by
 rw[zn5];constructor
 ·show AO_ j hj;show ϗ Ajg;exact yZ hj
 ·intro h;show fS j hj BlJ;exact⟨j,hj,by show C8 (ZA j 0=k);show ϗ Ajg;exact e⟩
theorem yje(BaE):
  BQn yai:=fun z E cx=>by
 have inner:A8K (A_5 WM E):=DU Vm (ycu hc) hg2 hm2 zvr E8 Ψ Ψ he Β
 refine A6H ye6 A9V he2
 show A'A yai;split at h1
 ·show ARh;obtain⟨ns,hns,A6,h1⟩:=h1;show AQn zj5;refine BAn
  have hml:=zoh AYb HQ;refine⟨q,ns,Β,gP,Υ,BUs⟩
  have R2:A0H A8S:=ALr BA_
  obtain⟨R3,q1,q2,q3,ap⟩:=Hi R2 hl2 (zlh (K:=AJ) (F:=F1) ms);refine BAx zlh ?_ (HH (BoQ (yit ns i)));have nd:ms.Nodup:=BoR (zl7 _ _);have:=List.Pairwise.and hs nd;exact this.imp fun{a b} hz=>by obtain⟨q1,q2⟩:=hz;show AA
 ·show k_
#where
def Itv(K:AD)(a:Ζ)(xs:AT):It:=⟨ś (Ų/\lx),fun i H x H' =>H' =H/\ox AS0,Tk _ AWD⟩
theorem yej(Aax)(a it:Ζ)(xs:AT):AaU BMJ (AYT/\h.IsRevIter it a (AZS - JA)) where
 mem:=DC
 obj:=AQ7 (by
  show AQI
  obtain⟨_,o,e,c,d⟩:=st;exact APn Age)
 LG:=AgV (A9m se (k it A7 o e))
 VS:=by
  show md;show UZ;show Aas;show AZL ADh;show AhP;show ø
  have hj:Ak1<BN:=Υ
  show EM u hu ru (AGT (zZ hj));have hit:=st.2;rw[Fm (AZS - JA=ER Ak1)] at hit
  refine wpAny_pyNext_rev_item hit ALP (x:=u) (CC hu) (gI wv sb)
  have I1:APJ:=Aoc;show T_ o e c d wv;refine KI u (Ve (s:=SI) e c d Ψ ⟨xs[Ak1],H,I1,ru,Ϥ,C3 hx,AZv⟩)
  ·rw[BoS hx,Ajg]
  ·rw[Fm (ER Ak1 - 1=AZS - Ai2)] at wv
   exact wv
 LW:=by
  show md;show UZ;show ø
  have hle:AWD:=hg;have hit:=st.2;rw[show AZS - JA= -1 by show APm se] at hit
  exact wpAny_pyNext_rev_end (ASd hc) hit Aa0
 RY:=Au0 (BGU st.2 h)
theorem zk3:Akn YR YR:=Χ
def WQ(A4a):TI:=Bcc (ū ->R BMJ H1)
theorem yml{X:Cx}{a tg:AK}(BBK)(hg:Gl X YR)(hm:KF YR)(ha:AKH [a])(AkV):
  ϔ (AWR YR) (WQ AJ ta):=by
 show Do R;refine Call_ (ö zk3 (AW8 AlU hs Β));show AEs D8;show BQK;show A7l;show AAL;refine BOI;have hit:Bkb IsRevIter EJ l (AZS - APR):=Lu _ SE (by show C8 (Data.fields _=_);show A0i;simp [Yf])
 refine BGU hit ⟨EJ,[EJ],_,_,H1,Β,AOj,yej l _ xs,⟨K2,hit⟩,L7,q hz⟩;show AWb
 exact AWv
def zl9(kX):cW:=X0 (ľ AUF AzF)
theorem yix(Bg7):AZW (Itv K a vs) AS0:=by
 show Alo;refine⟨ϊ we,Abd (AQv (by show C8 Ay6;rw[e,we];show AA))⟩
 show AH2 hv rv (wQ (Wo rs) hd);have hi:Aii:=ABx (QP hv) we
 refine ϙ Ahw hi Amt;show tN z z;rw[hv] at z;show Lw;exact A'l
section
variable{X:Cx}{F0 H0:Hp}{a e tg:AK}{AB p wt p2:AX}{t:cW}
theorem z0e(hc:FX)(hg:Gl X YR)(hm:KF YR)(ha:ADi)(AkV):
  AQQ (AWR YR) (zl9 t):=AWG (DU yml hg hm E8 hs) (ApE (Aoz (by
  unfold zl9 at*;show ADs
  ·show ARh;exact⟨l,us,Β,ADQ,BTl yix⟩
  ·show k_)))
#where
theorem z8l:AwU (NY As6) "__len__" Ι:=BJS
theorem ydr:AwU (NY As6) BoT (Dx (P4 BoU)):=BJS
section
variable{CI:A0}{w:Ap}{A:BQ}{E:dM}{s:AF}
abbrev oA:Obj:=AT_ #[]
theorem zzc(hh:PZ)(hit:s.heap.IsRevIter I l (CB P2 - 1))(hl:Aj1 NL)(hz:AyB)
  (h:∀h' c tk,(AmD (b≠I)) ->AxE BDh c ->AfW kM):
  KA (ib Av6 [.B4 I]):=by
 have hIl:PU I:=BJs hit
 show HL hll (PU l) (BJs hl) hne (l≠I) (by
  show AVU e c hit;obtain⟨o',e',c',_⟩:=hl;rintro Β;rw[e] at e';show ϖ;rw[c] at c';exact lf Value.type.inj c' Ψ) (callType_codes (Q₁:=BaP (AUr oA)) PySem.F.called_list (PySem.F.typeCall_list_1 _) PySem.F.entry_list_init (code_list_new _ Å) (AV obj EZ Y_));show AGy Y_;have hS:ACq (Ϗ oA) oA:=SE;refine C9 (ML hS) (PySem.F.args_list_init_2 _ _);show BE (WB (Builtin.List.listItems _) (BoV hS Β ?_)) (AWI Builtin.List.listUpdate (BGV hS Β ?_ ž) ž);have hS2:=AGf (AGd Af7) hS Β;refine ń (letGo _) BFp;have oth:WU Ag8 (KU (Ϗ oA)) (KU (A'K IE)):=
  dy q e ((ANn (qV q)).ON e)
 have wo:A'K IsRevIter I l (CB P2 - 1):=ACb hit.at (oth I o (zL hIl) e9);have hl2:A'K IsList l NL:=ACb hl.at (oth l o (zL hll) e9);generalize Bi5 CL (AGd Af7)=h2 at*;have hT2:Asz (Zl h2) ADG As6 :=BFl;refine A8s hT2;have n1:BOS ADG:=BH2 (AW2 hIl)
 show BD (AJg n1)
 refine My (ALO _) (BGU wo ?_);show ż BOy (A9X z8l) (A9X ydr);dsimp only;rw[AyX (Az_ BoU As6 BoT)]
 refine Ů (ALv _ _) (BFu (b:=Μ)) hT2 Bj2
 rw[CM Ψ,Ch SV]
 show BD SV
 refine AJr;show BD SV
 have hSf:CL∉ [I,l]:=by
  show AbT;exact⟨AW2 hIl,AW2 hll⟩
 have W:=Walks.listRev (CI:=CI) (w:=w) (A:=A.in1.in1) Az1 I l hne NL
 refine Ahn BoK (BoL W.toS hz _ hSf _ P2 0 _ _ _ Β ž ⟨K2,CD (Fm (BI2 - APR=BI2)) wo,hl2⟩ hS2 BlZ Bfo)
 have ev:A1=BDh:=by
  apply Array.ext_getElem?;intro i;by_cases q:i<P2
  ·have hi:i<AeC:=AHN AW3
   have:=ģ.2 i A1[i] (AL' hi);rw[Az3,Array.getElem?_reverse q,Τ]
  ·rw[Axa (ő AW3),Axa UT]
 subst ev;show A_Q;show A_s;show A6u AKs;show A5o;refine Hb (h h' c' tk' (AHV ?_) hS');have A6:=zJ e;exact Asx b o (by show AbT;exact⟨zL A6,hb⟩) (oth b o (zL A6) e9)
#where
theorem ykk(hc:FX)(hg:Gl X IC)(hm:KF IC)(hg2:Gl X YR)(hm2:KF YR)(ha:AKH [a])(BQY)
  (BRb):
  PE X BKb (O0 ta vs (∃l xs,vs= [SZ]/\lA AJ H1 l xs/\Bbh Ax6)):=by
 show Do Q;refine ARF (ö hb) Ψ Ψ
 show A8L (Ayi ?_ he2);show BE (ARF (G8 I hg2 hm2 zk3) Ψ Ψ) (Ayi (AVO (ha wt Ξ s σ H _ I h)) he);show AEs D8;show BQK;show A7l;show AAL;refine BOI;refine AjG;have I2:AJO (AG' s1 (ASf (revObj l (AVW - 1))) ASg):=Arh yo;refine zzc (I:=EJ) (NL:=TH) (I2.ok.hd hc) ky (pl.isList.push _) AYo (FY h' c tk OU hS)
 have Ti:BMh=pv:=AO9;have kp:Ł AL5 ACI:=Of (OU b o AZr e9);have I3:BS7 (xk BMh Ax6):=
  AFd ALa kp (A0p Ti) Ax6 ⟨ϊ we,its.reverse,c,rv.reverse,by rw[hS];simp⟩
 exact MR AiV I3 (q _ (ASl (A0p Ti)))
def yd0:UA:=ADo (P AS0)
theorem z7s(hc:FX)(hg:Gl X IC)(hm:KF IC)(hg2:Gl X YR)(hm2:KF YR)(ha:ADi)
  (BRb):
  AWa BKb yd0:=fun z E cx=>by
 refine nQ (DU ykk hc hg hm hg2 hm2 E8 SV he he2) (d6 wA ?_)
 show M0 wA;refine jn ?_;unfold yd0 at h1;split at h1
 ·show ARh;refine⟨l,us,Β,ADQ,AvV⟩;obtain⟨R2,q1,q2,q3,ap⟩:=Hi R1 hq0 (Wo rs);exact k _ AC F1 _ q _ R2 s1 q1 q2 q3 (Wo rs) ap h1
 ·show k_
theorem zjv{K:AD}(RY:AH):N0 l At (BOa l) (refuseLoop RY Aqz l=Go ())
 | [],e=>Abl
 | v::r,e=>by
  rcases Bool.or_eq_true_iff.mp e with q | q
  ·rw[AGW q];exact PySem.F.store_ValueError.passes RY
  ·split at q
   ·split at q
    ·show Aun Adp q;rw[BoW];exact zjv RY q.2
    ·show mr
   ·show mr
structure jw (AAG):Θ where
 cls:ç
 g:HY K C
 sa:A8q
 hd:AkF
section
variable{CI:A0}{w:Ap}{A:BQ}{E:dM}{K:AD}{h:AL}{g:ϋ}{d:ASS}{t:Δ}{os:AAb}{x C:Ζ}{o:Obj}{EO:Κ}{v:AH}
theorem z8z{Q:á}(X:Sl)(c:AOV)(hn:A0_)(hx:A1O)(hc:Ak0)(hnc:A6r)(hd:AjR)
  (hq:∀h' tk',h'.Ns1 MW (A_4 Ι) ->AyJ (Bh6 MW) ->(AOo x L') ->BO0):
  AQN A9O:=by
 show BM5;have J:A5t Ι:=⟨hx,hc,hnc,by rw[hd];trivial⟩
 refine Bci;obtain⟨bm,N,nm,qn,bs,P3,sn,CA,ab,col,dd,k0,k1,k2,k3,k5,e1,T,ht,cd,hcd,wq⟩:=Hf X c.cls;have CA:Bgm:=Bag;show Bhy;rw[hd'];show l4
 show BD (fF typeHasDict)
 have L9:IZ JU ij (alloc kP>>=fun d=>(update x (Auv d))>>=Ff (dictMade HE x d)) (xh s' (∃dx,a=Ε dx/\Bg6)) AUk Aem:=by
  have hx₁:Fu (ANi kP IE) ⟨HC,Ι,oda,osl⟩:=z8 _ hx;have hxs:x≠MW:=zL (zJ hx);show BE (z6 (wpAny_alloc' (z6 (wpAny_update' hx₁ ?_)))) (z7 AEo);have hgd:(BLo x BJj).IE MW=Ε kP:=
   XI APX (qV hxs) (Heap.get?_push_at Β Β)
  have hnd:(BLo x BJj).Ns MW (Da Ι):=
   ⟨_,#[],_,hgd,Β,fun e he=>nL he A7,AVz⟩
  refine z6 (z7 (z6 (BDu (Bmt hnd) (gI hn' hs))));obtain⟨oD,esD,epD,hoD,hdD,hcD⟩:=hn'.count (Within.cons EO v Within.nil);refine BAQ (by show BU_;show AA)
  have hx' :AyJ ⟨HC,Ε MW,oda,osl⟩:=by
   refine HZ hs.2 x hxs (BlT hx₁ ?_);have hfr:=(Heap.get?_some_iff.mp hx).2;(show Lv oda oda oda oda oda oda oda oda oda oda oda oda oda oda)<;>first | rfl | exact hfr
  refine qS (Hb (hq h' _ ?_ hx' fun b ob hbx hb=> ?_))
  ·exact hn'
  ·exact HZ hs.2 b (zL (zJ hb)) (XI APX hbx (z8 _ hb))
 have D3:∀a s',(∃dx,a=Ε dx/\Bg6) ->IZ JU ij (match a with | Ε d=>BoX d (Aq6 EO t) EO v | Ι=>Builtin.ObjectAttr.noDictFor (U' x) BNF EO AG) (sg D3 (match D3 with
     | Fin.done f=>
      match As7 f with
      | BQ0=>ANJ
      | As7 a=>D7
      | BHb=>E e s'
     | Fin.again c' =>
      c'.quiet=Μ/\
       ALX JU A c'
        (AHu (match r with
         | BQ0=>ANJ
         | As7 a=>D7
         | BHb=>E e s'))
        s')) (sg e (E e s')) s' :=by
  rintro a s' ⟨dx,Β,z⟩;exact Po z (fun f s2 hz=>by show AO6 q hz;subst e;exact q) BH3
 cases oda with
 | cls c=>show d5 hnc hnc hnc hnc hnc hnc hnc hnc hnc hnc hnc hnc hnc hnc
 | _=>exact Po L9 D3 BH3
#where
section
variable{CI:A0}{w:Ap}{A:BQ}{E:dM}{K:AD}{h:AL}{g:ϋ}{d:ASS}{t:Δ}{os:AAb}{x C dx:Ζ}{o:Obj}{EO:Κ}{v:AH}{mA:EX}
theorem yjq(X:Sl)(c:AOV)(hn:A0_)(hx:A1O)(hc:Ak0)(hnc:A6r)(hd:BJt)(hA:Ao3)(hv:BVM)(hv' :AyS v)
  (hq:Q v Aem):AQN BYA:=by
 show BI od ho hl zxz hA;have J:A5t (Dx od):=⟨hx,hc,hnc,CD hd ho⟩
 have LF:AeE JU h (Builtin.ObjectAttr.find yi HE EO) (.FF v):=W.looks_find X J (Bmp c.hd hn Β (Ù hl hv))
 have L0:AeE JU h (AsG yi) HE:=J.type;show t7 L1 (BV1 c.g.ga) L2' (BV1 c.g.gn) b3 PySem.F.excAttr_ValueError.ga.bind yi;unfold Arv getAttrBy;refine z6 (wpAny_mkText (nk (z6 (L0.at (AVM L1.at)))));have hx2:Me (BGW (U' C)&&BKF ==BKG):=KE (AyX (G_ BKF BKG)) Adt
 show Bjx hx2;unfold getAttrByItsOwn hookBefore callGetattribute;simp only [Ź (BGW BNF=Μ),c_];refine eA L2'.at;simp only [Ź (BGW (BGX AGF)=AG),Adt,ATE,AAw];unfold boundAndCalled;refine Ai6 (nk (z6 (ATP b3 ?_)));refine BNr PySem.F.excAttr_ValueError.ga.plain F.entry_bexc_ga (zth X c.g hx hc ?_);unfold Builtin.«object.__getattribute__»;refine AX_;show BE AX_ (z6 (L0.at (AVM LF.at)));exact Hc (W.handed_on hv' hq)
theorem z6k{f:Ζ}{GY:At}{Q:Op Fin}(X:Sl)(hC:ç)(hi:AI7)(hf:AbL)
  (hq:qE (Al' APB GY) (Akh (Q (.LW (.ret (Bn APB))) s')) Bd4) (hrest:AyE):
  AQN (Builtin.«type.__call__» (IM (HC::GY))):=by
 obtain⟨bm,N,nm,qn,bs,P3,sn,CA,ab,col,dd,k0,k1,k2,k3,k5,hC,T,ht,cd,hcd,wq⟩:=AKK;have Fv:=BEy
 repeat (first | show ADW hC | with_reducible refine wpAny_madeBy_exc hC ?_ | wp_step)
 refine codeAny_call_builtin_code (BlR Fv.quiet) (wpAny_check_new_subU Fv Fv.hasB T hC ?_);refine codeAny_exc_new_subU Fv Fv.hasB Fv T hC ?_ hrest;have X1:Ĉ (ANi AWK Ps AWU):=X.keeps AX1;have hC₁:=z8 AWU
  (z8 AWK hC)
 have hget:AfP AS5 AWK AWU APB=Ε
   AWU:=by heap_get
 have hcC:Aa7 HE=Μ:=DC
 have LI:=AdO (M:=Bj9) X1 hi
 repeat (first | show ADW hget | show Ahd hC₁ hcC | wp_step)
 refine LI.at ?_;refine nk (z6 ?_);show BE ((W.bind_fn X1 (Bn APB) hf).at ?_) (sv hq (AV r s' hr) (Jn z z));show tN hQ hr
 wp_walk
 exact hQ
theorem z0z{f:Ζ}{GY:At}{Q:dM}(X:Sl)(hC:ç)(hi:AI7)(hf:AbL)
  (hq:IZ JU (AZ_ (IM (HC::GY))) (Al' APB GY) (Akh (M1 APB s')) E
   Bd4) (hrest:AyE):
  AQN (ib HE GY):=by
 obtain⟨bm,N,nm,qn,bs,P3,sn,CA,ab,col,dd,k0,k1,k2,k3,k5,hC',T,ht,cd,hcd,wq⟩:=AKK;have f1:=tc_lookup;have f2:=tc_bind HE;have hT:(AMq:AF).TypeIs HE Aqj :=ML hC';refine BKk
 repeat (any_goals (first | assumption | show ADW hC' | wp_step))
 refine Ϥ;exact codeAny_call_builtin_at (BlR SV) entry_typeCall (wpAny_check_type_call_sub hC' (z6k X hC hi hf hq hrest))
theorem z52{t0:Ζ}{od:ND}{sl:ADq}{GY:At}{Q:dM}(X:Sl)(hC:ç)(hx:Fu L' (AVl t0 sl))(hrest:AyE)
  (hq:ACw (AOo x L') (AyJ (AVl MW sl)) (Q BA (ABe h' t))):
  AQN (ANX BCn (.B4 x::GY)):=by
 obtain⟨bm,N,nm,qn,bs,P3,sn,CA,ab,col,dd,k0,k1,k2,k3,k5,hC,T,ht,cd,hcd,wq⟩:=AKK;have Fv:=BEy;refine BNr Fv.init.plain Fv.initEntry (wpAny_check_init_subU Fv T hC hx Β ?_);have hx1:Fu (ANi AWK IE) (AVl t0 sl):=z8 _ hx
 wp_walk
 refine hq _ (xp u e ?_) ?_
 ·rw[Anj];exact xo
 ·rw[Anq hx1]
  rfl
theorem z72(hC:ç)(hh:PZ)
  (hm:IZ M A m (Ĺ EZ (∃e oe fv,BXr (Apt (Ahi EZ)))) E s):Î (BSv Ι):=by
 refine sv hm (Ahv v) mo;obtain⟨e,oe,fv,Β,X,he,hc,hda,hE⟩:=Y_;obtain⟨bm,N,nm,qn,bs,P3,sn,CA,ab,col,dd,k0,k1,k2,k3,k5,hC,T,ht,cd,hcd,wq⟩:=AKK;have hcB:Ann Aa7:=BUb
 show AMs EZ;show Fh oc od oda osl oe;subst hc hda
 show BeP
 exact wpAny_raiseNew_none hh hE
theorem z71(BhD){E9:DD}{Q:Aja}(hC:ç)(hh:PZ)(ALi:ATw AnE)
  (hi:AI7) (hf:AbL)
  (h:AoW AwK fv (fv= HC/\AP1 (evalArgs HE Μ AnE []) (xh LJ (a.kw= []/\D' a.pos.length/\BIC/\
    IZ JU (AZ_ (IM (HC::a.pos))) (Al' AOI a.pos) (Akh (∃oe fv,BIA/\BSy/\Apt (E (Bn AOI) s'))) E
     (BNw (pj a.pos.toArray) BIM))))):
  BYo Ι:=by
 rw[BoY];refine Ayc (z72 hC hh ?_);refine sv (BNH fv mo) Ba' mo;show tN Y_ Y_;refine AIw (Ż Y_ (fun a LJ dE=>AzL) mo);obtain⟨LX,akw⟩:=a;show Fh hkw FI X dE dE;show HA (akw= []) hkw;show AMs LJ;obtain⟨bm,N,nm,qn,bs,P3,sn,CA,ab,col,dd,k0,k1,k2,k3,k5,hC',T,ht,cd,hcd,wq⟩:=AKK;simp only [ALi];refine BOs;refine z6 (z0z X hC hi hf (Ż dE (fun r s' hr=>BVP) (Jn z z)) FI);obtain⟨_,oe,fv,X',he,hc,hda,hE⟩:=hr;exact⟨_,oe,fv,Β,X',he,hc,hda,hE⟩
#where
def XO(e C:Ζ)(od:ND):HO:= Amd (∃t,A9N)
theorem zs1(DV:cS)(q:Tm e (XO e C od)):∃t,A9N:=(DV e _ q).1
theorem ybj(q:A9N):bh P w H h e (XO e C od):=
 ⟨⟨t,q⟩,Fk q,AKO hz st (by obtain⟨u,z⟩:=hz;exact⟨u,st _ z⟩)⟩
theorem zwi(k:bh P w H h b u):∃o,rq:=by
 cases u with
 | By xs=>show Axi k;exact Fk e
 | EI xs=>obtain⟨_,_,_,o,e,_⟩:=k;exact Fk e
 | dK AI=>show AoE
 | dT AI=>show AoE
 | set S n=>obtain⟨o,_,_,_,e,_⟩:=k;exact Fk e
 | ins C dx fs=>show Axk k;exact Fk e
 | Au y=>exact k
 | xd fs=>show Axl k;exact Fk e
 | rng lo hi=>show Axj k;exact Fk e
 | frz ob u=>obtain⟨e,_⟩:=k;exact Fk e
 | KD ps=>show BK0
 | met f y=>show BK0
 | ext φ=>obtain⟨_,e,_⟩:=k;exact e
section
variable{X:Cx}{Ξ:dN}{σ:St}{H:Hp}{s:AF}{A:BQ}{E:dM}{a C dx:Ζ}{f:Κ}{y v:V}{u:AH}{fs:l8}
theorem yif(I:AW)(e:Nd At5)(c:ADk)(n:tI)(ry:RE)
  (h:∀dx s',N4 dx ->dx≠a ->ZO (upd (ZZ a AQc) dx (.xd [(f,y)])) s' ->ANJ):A_8:=by
 show A7y;show AFR;have A6:a<AeF:=zJ hx;refine z8z VI c n hx Β Β Β fun h' tk' ns hx' kp=>h AeF _ ANx (ADt A6) ?_;have gs:IL (BGZ a A2_).IE ⟨HC,Ε AeF,Aek t,#[]⟩:=Anq hx;have I1:xw a (AfN AeF) (AG' (ABe hp tk:AF) (BGZ a A2_) tk):=
  AaM a a Al6 WN (xp u z ((A1f).ON z)) (Fk gs) (ybj gs)
 refine ALa (t' :=tk') (Na u z) (ALb BIK) (D4 ns (Sk g))
 ·by_cases hb:b=a
  ·subst hb;rw[show(BGZ b A2_).IE b=_ from gs] at z;show Lw;exact hx'
  ·exact kp b u hb ((A1f).BEr z)
 ·by_cases q:g=f
  ·have hb:A2k:=BHd;show Afz Kk;exact ry
  ·have hb:G_ g f:=AzG;show Afz OA;trivial
theorem yju(I:AW)(e:Nd AQc)(ed:Tm dx (.xd fs))(c:ADk)(n:tI)(l:Amw)
  (h:BZG):BWo:=by
 show A7y;obtain⟨mA,ns,r⟩:=KS dx _ ed;show BI u hu ru (Apw (mA f)) BMZ
 show AFR;exact yjq VI c n hx Β Β Β ns hu (zvz ru) BT_
#where
def WR(A_B ta TE):TE:=AI1 (∃a dx fs v,x= B'/\AV0 AQc/\H1 dx=Ε (.xd fs)/\Amw/\Q v H1)
def WT(Bgo):TS:=A_N (∃a,x= B'/\IL H2 At5/\∀dx,H2 dx=Ι ->dx≠a ->AHY (upd (upd H2 a AQc) dx (.xd [(f,y)])))
structure Iz (K:AD) (B:Ζ):Θ where
 sp:BUV (Bn B)
 rd:BOb B
 fi:W.findCls K (Bn B) Av5 LE =Ε (.val (P4 BCn))
section
variable{X:Cx}{o e FF:AK}{f:Κ}{AB HP LX p:AX}{ta tv:TE}{C B:Ζ}{x:Κ}
theorem yie(c:ADk)(n:tI)(he:PE X e ta)(hb:AMx f):BWu (WR C f ta):=by
 show Do Q;refine ya7 hb (bV ϭ A0Y);obtain⟨x,H1,I1,rx,a,dx,fs,v,ex,ea,ed,l,q⟩:=B_;subst ex;show AH';exact yju I1 ea ed c n l Bdc
theorem z9c(BhU):BZ6 WT:=by
 show Do D;refine BD_ (bV Aje (ae u)) hs;obtain⟨y,H1,I1,ry,q⟩:=D8;refine ACT A7g ov hz2;obtain⟨x,H2,I2,rx,a,ex,ea,q2⟩:=hz2;subst ex;show A0N;exact yif I2 ea c n ry fun dx s3 h1 h2 I3=>⟨σ,_,I3,q2 dx h1 h2⟩
theorem ydj(c:ADk)(cb:Iz AJ B)(hg:KG)(hm:AUU (Bn B))(ha:PA X [e,e2] t)(xn)
  (hst:oz [e,e2] e [e2]:=by rfl) (hpl:AHR [e2]:=by rfl)
  (ht:AJY BUY (do
   let ov<- V_ (ZY p)
   AFS
   let (f,first)<- AFa BUN
   AFv wp (ļ [e,e2]) AKF):=by rfl):
  PE X BUY (O0 t vs (∃a od v,vs= [B',v]/\AV0 (XO a C od)/\Q B8 (xk a (XO a C od)))):=by
 show Do Q;refine Avr (Hw I hg hm ?_ hd) ht;refine W.method_cls VI cb.sp (W.cls_value VI cb.rd cb.fi Β ?_);have I0:=I.tok (LV+1);refine BEQ (AVO (ha AB Ξ _ σ H _ I0 h)) hst hpl;obtain⟨vs,H1,I1,r,a,od,v,ev,ea,q⟩:=D8;subst ev;show GG u u2 ru ru2 (vals2 r);show HA AMW ru;obtain⟨t0,hx⟩:=AlP zs1;show AMs s1;refine z52 ABG c.cls hx (by show BU_;show AA) fun h' kp hx' =>(MR B8 (I1.write (x:=a) (e:=a) (Aup ea) WN (xp u z (kp b u hb z)) (Fk hx') (ybj hx')) q)
#where
def yeh(bn:Κ)(p LX AB:AX)(E9:DD)(BV:Env)(pl:AYc):Θ:=cz (Bj1 (ME bn p) E9) BV=(do
   let ov<- cz (ME bn p) BV
   AFS
   let (f,first)<- AFa BUN
   AFv wp (BiW AB) (backToKw AB (keywordEach [] BV)))
theorem zje:∀(l:Cb) {h:AL},a∈l ->Nc (ASI h l).IE:=fun l h m=>BmF l m
section
variable{X:Cx}{F0 H0:Hp}{tg NM elt:AK}{ifs:DD}{AB:AX}{sc:OK}{Au:Ρ}{FU:CF}{N' :Ρ}{ti:cW}{g:uF}{tc:TT2}{te:bZ}
open Ĝ in
theorem yel(hN:vi)(hi' :E4 X.N y)(hy:AoR)(S:ARN)(hc:FX)(hi:ul Ao')
  (hg:AbI) (ht:AbJ) (he:Ao_)
  (hn:AvR:=by rfl) (hsw:AGR kz (Dx (ME y py)) spos.line B9=Go Μ:=by rfl) (AN7):
  BbD (aV i (Ir (Wz BBm))):=by
 subst hn;rintro z E cx Ξ s σ H Dn I ⟨F,Γ,D2,R,h,k⟩;obtain⟨F1,s1,R1,n1,o1⟩:=z1v R;rw[BRJ];refine BPU;refine Bhw (pig hc (hi F1 H z jR (Le cx)))
 ·rintro C LH TK fp Ξ s σ H v u Q I r ⟨uQ,uR,q⟩;exact Aqb q
 show Ala
 show Alb
 ·refine A0Q h (fun ds AC F2 H2 J Hx R2 s2 hx hJ h1 A1 ha=>zqh R2 hJ hx ha h1 (Bkn ?_));show t7 s3 (z1e R'.g a1 a2).1 R3 (R'.frzA a1 a2 a3 ap) s' (XI Ğ sF) s3;have gr:BOv (Aw' b) H' :=by
   refine⟨K0,K0,R3.gr.h,qf ?_⟩
   ·show BD (Awi (eK o1))
    exact s' _ _ (s1 _ _ e)
   ·show AFc BJ_;show Ë
    ·show Abm
    ·exact R3.g _ _ e'
   ·have e' :BJ_=Ε o:=e;show Ë
    ·show Abm
    ·show AJD;exact Ban R3.gr.n
  have rep:EA AJ (jt F1 Aw') Aia ϛ:=JO (Sf A1 (z8x (R'.gr.f.free a2) (HV (HV gP))) (zkh (z9s R3.gr.f) ys vs hp.1 (ALz s3)))
  refine PR ((ALq gr).set i (rep.up K0)) OS hp.2;have hb:¬eC:=AO4 (by
   obtain⟨_,w,ev,ld⟩:=o1 b hb;exact z25 e w ld ev)
  show BD hb;exact zv8 _ _ e
 ·show AqW;refine BDf (DU zqf I5 hN hi' Ayf (v:= AiX) Β BWH Ays);show ŝ a hsb ha;have ha' :BSp:=ha;have hac:C≠a:=by
   show œ ha' ha'
   ·exact c2
   ·exact AZ (c4 y a ha' wc)
  refine BeT
#where
section
variable{K:AD}{F H:Hp}
theorem Qj:A'Q (eZ K F H BHm vs [])
 | [],_,h=>by subst h;rw[AsJ];exact Å
 | b_,_,h=>by
  show GG v us h1 h2 h;rw[FA];exact⟨v,us,[],[],Β,Β,JO (Hb h1),Qj h2⟩
theorem WW:∀{ts us:Hd} {vs ws:AT} {as bs:Cb},AIk ->eZ K F H us ws bs ->eZ K F H (ts++us) (vs++ws) (as++bs)
 | [],us,vs,ws,as,bs,h1,h2=>by
  show AGy h1;exact h2
 | Xs,us,vs,ws,as,bs,h1,h2=>by
  obtain⟨v,vs',a1,a2,Β,Β,q1,q2⟩:=h1;rw[ww];exact⟨v,vs' ++ws,a1,a2++bs,Β,NE ĥ,q1,WW q2 h2⟩
theorem WX(h:AOD):Aev [t] [v]:=by
 refine⟨v,[],as,[],Β,DC,h,?_⟩
 exact Å
theorem yfs:∀{ts:Hd} {vs:AT} {as:Cb} {j:Δ} {t:T},AIk ->T' ts t ->∃v b1 bs b2,T' vs v/\as=AKG bs/\ApQ bs/\
  BBr cs BOg cs (Aaq (ts.set j t') (AOw cs))
 | [],_,_,j,t,_,e=>AYm
 | t0::ts,_,_,0,t,h,e=>by
  show DM;show BBt;refine⟨v,[],a1,a2,Β,Β,q1,fun{F' H' t' cs} f k r=> ?_⟩;rw[AMA];exact⟨v,vs',cs,a2,Β,Β,r,dQ f ts vs' a2 (q_ (k a ha)) q2⟩
 | t0::ts,_,_,j+1,t,h,e=>by
  show BBt;obtain⟨w,b1,bs,b2,g1,Β,g3,g4⟩:=yfs q2 AEQ
  refine⟨w,a1++b1,bs,b2,Cc g1,DC,g3,fun{F' H' t' cs} f k r=> ?_⟩
  rw[AMC];exact⟨v,vs',a1,AKG cs,Β,DC,BeE f,g4 f Bem r⟩
#where
mutual
def abw:AEM
 | fq=>ou d
 | ly=>Af ts
 | AZt=>Af ts
 | AmJ=>Af ts
 | Amx=>Af ts
 | AEU=>ID
def Af:Ax'
 | []=>ID
 | Xs=>abw t/\Af ts
end
abbrev qu:=ARW T
section
variable(K:AD)(F0 H0:Hp)
inductive UpN (t:qu) (E:XW) (σ:St) (H:Hp) (Q:VK):Θ
 | mk:AVv (∀tr B5 F' H' v as,tS AH0 F_ wS BWv (AIQ tr v as) (ax tr) Ű) UpN
def upN(t:qu)(E:XW):TE:=AFO UpN
#where
def QN(UF)(e:AK)(t:qu):Θ:=AZk upN
def nOf(kX):qu:=X0 (GV (Agw AR3))
section
variable{X:Cx}{F0 H0:Hp}{e:AK}{es:DD}{AB p:AX}{te:bZ}{tf:cW}{tn:qu}
theorem yjr(h:A4r):ŀ QN (nOf tf):=fun z E cx=>
 nQ gS (NH B_ B_ (BCI (by
  refine k _ _ _ _ _ [a] R1 s1 A7 (Nn (by show AP4;exact⟨e2,e3,ap⟩)) ?_ h1
  exact⟨a,vs,[],Β,Β,e1,Qj r1⟩)))
def WY:qu:=AZ3 (.dic [] [])
theorem zu1:AIu (.Dict [] [] AB) WY:=fun z E cx=>
 nQ yey fun σ H Q Bi q hq=>by
  show M0 Bi;have R2:pE F (ZZ q Ayl) Γ:=ALq (ADb (Au_ R.g hq R.g) (SS (Ava hq)))
  refine k _ _ _ _ _ [q] R2 IP A7 (Nn (by show AP4;exact⟨R.g.free hq,R.gr.h.free hq,AsU hq⟩)) ?_ h
  exact⟨q,[],[],Β,Β,gP,Β,Ax8⟩
def wY(i:Δ)(t:qu):aD:=zt t tr (∀as,Apm as tr)
theorem W0(hN:vi)(hi:K_)(hx:AIz)(he:AOf)(hs:ARe (Dx (ZY HP)):=by rfl)
  (Aoj):A3o (wY i tn):=fun z E cx=>
 uE (A7S hN hi hx RA hs hf) (mM zu zu (BKE (PR (R1.put i (s:= ACZ t) ⟨v,Β,nd,AIc AJl (AVy hn),r1⟩ fun a ha=>AgM.2) s1 (h1 as))))
def wZ(t:qu):aD:=fun D Γ E=>t Γ (fun tr _=>D.rT (.EB tr)) E
theorem W3(he:AOf):Tl (.Arc AXN AB) (wZ tn):=fun z E cx=>
 uE (yat RA) (mM wA wA (BKE (k.rT A2V _ _ _ _ R1.gr nd (q_ ⟨AIS ha,(hn a ha).2.1⟩) r1 h1)))
def nV(AJ2):qu:=Auf (İ AJf BWP (P t AEz))
theorem ygc(hN:K_)(hv:So)(fc):AIu tw (nV i):=fun z E cx=>
 nQ mi (d6 EY (by
  show M0 EY;show De nV;split at h
  ·rename_i as t e;obtain⟨o,e0,v,Β,nd,hn,r⟩:=AZJ;exact⟨v,e0,k t _ F H v as (BEt e0) IP nd (q_ ⟨AIS ha,AgM,Adj e e0 (GS (iw (ATb as t) re a) ha)⟩) r h⟩
  ·show GW))
#where
section
variable{X:Cx}{F0 H0:Hp}{AB p px:AX}{x:Κ}{i:Δ}
theorem zza:AVt ks GH kL (B7 dP vs (·.1)=ks)
 | [],[],_=>Β
 | [],EH,h=>EN
 | EH,[],h=>EN
 | AJ3,AQA,h=>BWa zza
#where
section
variable{K:AD}{F0 H0 F H F' H' :Hp}{σ:St}{Γ:ADu}
theorem z3t(e1:AFN)(h:AFI):AHL AEz a:=fun j q=>by
 have q' :nZ AEz (ď i o) j a:=BW8
 rcases VG q' with ⟨_,z⟩ | ⟨_,z⟩
 ·exact z
 ·exact h j z
theorem SR.wrT(R:Hm)(e:AZD)(e1:AFN)(h:Ŵ)(r:pF K F ARd H0 t o)(ht:Mn (iw t o b) (iw s o b\/AMk b)):
  xE F ARd (Ŋ t):=by
 have R1:=R.wrO (t:= DO) (u:=u) e e1 h VV (Lo z z.elim);have R2:=R1.put i r (FL (by
  rcases ht b hb with z | z
  ·show XE ((Ŋ Slot.no)=Γ.set i DO) Β;exact Adj e e1 z
  ·exact z3t e1 z))
 rw[Sx e1,AsQ] at R2;exact R2
#where
abbrev tH:=A7m AEM
inductive IK (BB_ tH):Θ
 | mk:BdW (∀t v as F' H',zw ->BB wS A4_ (AIQ t v as) (P t) Ű) IK
def w6(K:AD)(sp:tH):Sp:=AbG (AOs IK)
def Gb(sp:tH):dw:=Bfc (B6 t (P (toD t)))
open Ĝ in
theorem z1m{K:AD}{sp:tH}{vs:AT}{H:Hp}{Q:VK}{E:XK}(h:nJ K (Gb sp) vs H Q E):AOs w6:=by
 obtain⟨F,ds,P,Ex,h1,h2,h3,h4,h5⟩:=h;refine⟨F,ds,fun t=>P (toD t),Ex,h1,h2,h3,fun t v as F' H' g nd hn r p=> ?_,h5⟩;have s1:MC F' BTn:=SS (by
  show av A8u;show BD (AO4 (Auw AJl))
  exact e)
 refine h4 (toD t) v BTn H' ⟨g.f.trans s1,K0,g.h,qf ?_⟩ (Adg s1 t v as (fun a ha u hu=> ?_) r) p
 ·show AFc A8u;show Ë
  ·exact e'
  ·exact g.g b u e'
 ·have e' :A8u=Ε o:=e;split at e'
  ·show AJD;show FR ϰ
  ·exact g.n b o e' n
 ·show DJ ha;exact hu
structure uU (AWw) (mg:EX) (DS:AL) (x:Κ) (k:Δ) (ps:Ρ) (sp:tH):Θ where
 ex:BSc (AQe w6)
theorem uU.fn(Bg5){x:Κ}{k:Δ}{ps:Ρ}{sp:tH}(G:AGz uU x k ps sp):AGz cJ x k ps (Gb sp):=by
 obtain⟨f,fd,h1,h2⟩:=Ģ;exact BY2
section
variable{P:A0}{w:Ap}{K:AD}{mg:EX}{DS:AL}
theorem Ge(AFq)(AqS){k:Δ}{sp:tH}(Fn:AFi)(S:AQ0 ps)(len:AbY)
  (ė:ARr (∀F0:Hp,
   ∃t,A5a sL/\A9' (A_P (K1 Q)))):
  A1Z w6:=by
 show AKM;refine Sg lk hcd S (FY vs H Q E B_) (ARq E hr Bi)
 ·obtain⟨F,ds,P',Ex,_,rs,hs,_⟩:=B_;show A8l
 obtain⟨F0,ds,Pd,Ex,sF,rs,hsp,hQ,hE⟩:=Bi;show A5h;have cx:AbV:=by
  refine⟨fun Ξ σ Γ F H1 s1 e s' I R hx=> ?_,AQ5⟩;refine ARs;show AW9 F' x R' xr z1 z Abg
 exact BBe (A_P (K1 Pd)) ⟨ADU,Afb,Afb,ADU,ADU,fun t v as F' H' gr nd hn r q=>by(cases t with | EB t=>exact hQ t v as F' H' gr nd hn r q | tp ts=>exact Ġ),ApH⟩
#where
def rJ(sp:tH)(t:cW):qu:=X0 (Avq (B6 tr (GV tr)))
section
variable{X:Cx}{F0 H0:Hp}{e:AK}{es:DD}{AB p:AX}{x:Κ}{ps:Ρ}{k:Δ}{sp:tH}{t:cW}
theorem W4(BBb uU):
  AIu sQ (rJ sp t):=by
 obtain⟨f,fd,Fn,hm,hk,hb⟩:=Ģ;show AFj;refine ApN;refine Adr (h₀:=cy) Ads hk (AVO (AqP A4N)) he hpl;obtain⟨vs,H1,I1,r,F1,AC,ds,R1,sF,rs,q⟩:=D8;refine Ai';have hs:w6 AJ sp vs H1 Q Bc2:=BUo F1 q BhS;have hl:A5Q:=A9o
 have hbs:=hb s1 us ABG hl;show AOu;refine AaR (ATC X.A MX s1 H1 AV_ us vs Q _ hr I1.env0 hbs) r AZV;cases r with
 | oB e=>exact ALt Ξ σ AC F1 H1 s1 e s' I1 R1 hq
 | ok fl=>
  cases fl with
  | ret u=>exact I1.after hq
  | L_=>show lP
  | brk=>show lP
  | RU=>show lP
#where
#print _3
namespace _3
open IR OI KK _2
def mq(ks:GH)(k:Key):AU:=ks.any fun k' =>(Φ (k' =k))
theorem uV:AQu↔Aly:=by
 unfold mq;rw[Adx];exact⟨AOF (by show fS x h hz;exact wT e ▸ h),FB ⟨k,h,Ajw⟩⟩
def jx(ks:GH)(k:Key):GH:=AiC AQu ks ks k
def gj(AFT)(ks:GH)(xs:CO)(k:Key)(x:α):CO:=AiC AQu (AL4 (AxC x) ks xs) xs x
theorem zsp:AVt ks GH kL (B7 dP vs (B6 kv (Ah7 v))=dP BUh)
 | [],_,_=>Β
 | EH,[],h=>EN
 | AkX,w::vs,h=>by
  rw[ALl,FA,BGb,ALl,zsp (CC h)]
  by_cases q:k' =k<;>simp [q]
theorem zt4(h:kL):Ę (dP vs) k v=(jx ks k).zip BUg:=by
 unfold Ę jx gj;have e:((dP vs).any fun kv=>(Φ (kv.1=k)))=Μ↔AQu:=by
  show Axd uV;constructor
  ·rintro⟨kv,hm,q⟩;have:=List.mem_map_of_mem (f:=(·.1)) hm;show DF (zza h);rw[<- wT q];exact Τ
  ·intro hm;rw[<- zza h] at hm;show BI kv h1 h2 ZH hm;exact⟨kv,h1,BH4⟩
 by_cases q:AQu
 ·rw[Á e.mpr q,Kk,Kk];exact zsp h
 ·rw[CM (Ev (q (e.mp z))),OA,OA,List.zip_append h]
  rfl
theorem zzd(h:ANf OR):gL jx ks k=(gj ks xs k x).VM:=by
 unfold jx gj;split
 ·rw[Ad2,<- h,AMD]
 ·simp [h]
theorem z85{K:AD}{F:Hp}{k:Key}{d:D}{v:V}(r:Sb):BgP (P7 (Afj (AxC d) ks xs) BUh)
 | [],xs,vs,h=>CY aM
 | EH,[],vs,h=>A7z
 | AkX,L8,vs,h=>by
  show GG u us h1 h2 h;rw[BGb,BGb];refine qT ?_ (z85 r h2);by_cases q:k' =k
  ·rw[Kk,Kk];exact r
  ·rw[OA,OA];exact h1
theorem zp0{K:AD}{F:Hp}{ks:GH}{xs:AQ}{vs:AT}{k:Key}{d:D}{v:V}(h:AIJ)(r:Sb):P7 (gj ks xs k d) BUg:=by
 unfold gj;split
 ·exact z85 r h
 ·exact M9 h (Nb r)
theorem zkg(AFJ):∀{xs:AQ} {vs:AT} {as:Cb},Aev AX' vs ->as= []/\AIJ
 | [],vs,as,h=>by rw[AsJ] at h;exact⟨h.2,ED⟩
 | L8,vs,as,h=>by
  rw[FA] at h;obtain⟨v,us,bs,cs,Β,Β,h1,h2⟩:=h;show tN r h1;show A8o h2;exact Hb (qT r rs)
#print _3
namespace _3
open IR OI KK _2 AKn
structure Ord (lt:sw) (n:Δ):Θ where
 tri:∀i j,BB (i<n) (j<n) AFe (lt i j=AG) (lt j i=Μ)
 irr:Avb (j<n ->A5L ->lt j i=AG)
 tr:∀i j k,i<n ->BB (j<n) (k<n) A5L (lt j k=Μ) (lt i k=Μ)
def Sat(AFT)(lt:sw)(n:Δ)(t:KasT α)(Q:HT α):Θ:=Tg lt n t=Μ/\Q (WD lt t)
section
variable{lt:sw}{n:Δ}{α β:CH}
theorem zev(h:Q a):fb (.ret a) Q:=Hb h
theorem Tn(hi:i<n)(hj:j<n)(hij:AFe)(h:fb Baq Q):fb (.ask i j k) Q:=by
 refine AJH h.2;unfold Tg;show BKP;exact⟨hi,hj,hij,ED⟩
theorem Tq:N0 t (KasT α) (fb t (B6 a (fb (f a) Q))) (fb (t.bind f) Q)
 | .ret a,h=>h.2
 | Ap3,h=>by
  have h1:=ED;unfold Tg at h1;show Al1 h1;exact Tn k8 h1.2.1 h1.2.2.1 (Tq ⟨h1.2.2.2,h.2⟩)
theorem Sat.imp(h:fb t Q)(k:∀a,Q a ->Q' a):fb t Q' :=⟨ED,k _ h.2⟩
def Pm(n:Δ)(p:sj):Θ:=Agv p.toList.Perm n
theorem Pm.size(h:XY):ATU=n:=Cc (List.Perm.length_eq h)
theorem W5{p:sj}{k:Δ}(hk:k<ATU):ZI k 0=p.toList[k]' AXU:=aw Array.getD hk
theorem Pm.below{p:sj}(h:XY){k:Δ}(hk:k<n):ZI k 0<n:=by
 have hk' :k<ATU:=CD h.size hk
 rw[W5 hk'];exact R_ (BGc (yZ _))
theorem Pm.ne{p:sj}(h:XY){k j:Δ}(hk:k<n)(hj:j<n)(hkj:k≠j):ZI k 0≠ZI j 0:=by
 have nd:p.toList.Nodup:=h.nodup_iff.mpr List.nodup_range;rw[W5 (ET h.size hk),W5 (ET h.size hj)]
 have A9:=Ad3 nd;rcases BGd hkj with q | q
 ·exact A9 k j _ _ q
 ·exact AZ (A9 j k _ _ q wc)
def Lp(lt:sw)(p:sj)(i j:Δ):AU:=lt (ZI i 0) (ZI j 0)
def Up(Be7):Θ:=BTv (fe i j)
def Dn(Be7):Θ:=BTv (fe j i)
theorem z9i(O:ut)(P:XY)(hi:i<n)(hj:j<n)(hij:AFe)(h:Me (Lp lt p i j)):fe j i:=O.tri _ _ (AHa hi) (AHa hj) (P.ne hi hj hij) h
theorem ydm(O:ut)(P:XY)(hi:i<n)(hj:j<n)(hk:k<n)(h:fe i j)(h' :fe j k):fe i k:=O.tr _ _ _ (AHa hi) (AHa hj) (AHa hk) h h'
theorem yhb(O:ut)(P:XY)(hr:r<n)(h1:1<=r)(U:AQO r)(h:fe AXq r):AQO (r+1):=AaN (by
 rcases Azn r with q | q
 ·exact AoZ q
 ·show UI j r
  rcases AXI AOP with q' | q'
  ·exact ydm O P Η Η hr Bch h
  ·show UI i (j - 1)
   exact h)
theorem ykt(O:ut)(P:XY)(hr:r<n)(h1:1<=r)(U:ARI r)(h:fe r AXq):ARI (r+1):=AaN (by
 rcases Azn r with q | q
 ·exact AoZ q
 ·show UI j r
  rcases AXI AOP with q' | q'
  ·exact ydm O P hr Η Η h Bch
  ·show UI i (j - 1)
   exact h)
theorem yh4(O:ut)(P:XY):BaT (AQO m) (fb (kas_asc p f m) (am (m<=r/\r<=m+f/\AQO r/\ (r<m+f ->fe r AXq))))
 | 0,m,h1,_,U=>zev ⟨NF,NF,U,AZ (É z)⟩
 | f+1,m,h1,hn,U=>by
  refine Apy
  cases q:lt (ZI m 0) A2I with
  | Μ=>
   show Š;exact zev ⟨NF,Υ,U,Ff q⟩
  | AG=>
   show l4
   refine(yh4 O P f (m+1) Η Η (yhb O P Η h1 U (z9i O P Η Η Η q))).imp fun r hz=>by obtain⟨a1,a2,a3,a4⟩:=hz;exact⟨Υ,Υ,a3,AZ (a4 Η)⟩
theorem ygg(O:ut)(P:XY):BaT (ARI m) (fb (kas_desc f p m 0) (am (CU=p/\m<=Ct/\Ct<=m+f/\pf=0/\ARI Ct)))
 | 0,m,h1,_,U=>zev ⟨Β,NF,NF,Β,U⟩
 | f+1,m,h1,hn,U=>by
  refine Apy
  cases q:lt (ZI m 0) A2I with
  | Μ=>
   rw[EF,AEO]
   exact(ygg O P f (m+1) Η Η (ykt O P Η h1 U q)).imp fun r B_=>by obtain⟨a1,a2,a3,a4,a5⟩:=B_;exact⟨a1,Υ,Υ,a4,a5⟩
  | AG=>
   show l4
   refine Apy
   have q' :lt A2I (AVi m)=Μ:=P_ (z9i O P) m j (m - 1) Η Η Η q
   rw[q',EF];exact zev ⟨Β,NF,AON (m<=_),Β,U⟩
theorem ygo(P:XY)(i j:Δ):Pm n (kas_rev p i j):=BPG (mirror_perm p i j ((j - i)/2))
theorem BGe{p q:sj}{i j:Δ}(h:p[i]?=q[j]?):ZI i 0=q.getD j 0:=by
 rw[BoZ,BoZ,h]
theorem ygn{p:sj}{m k:Δ}(hm:m<=ATU)(hk:k<m):(kas_rev p 0 m).dL k 0=ZI (m - 1 - k) 0:=by
 have e:=Ş getElem?_mirror_all hm k;rw[Ch ⟨K2,hk⟩] at e;have:=BGe e;show DF (Fm (0+m - 1 - k=m - 1 - k))
 exact Τ
theorem yig(O:ut)(P:XY)(h1:1<=m)(hm:m<=n)(D:ARI m):BdR (kas_tail3 m n p):=by
 have U:Up lt (kas_rev p 0 m) m:=AaN (by
  unfold Lp;rw[ygn BLV Η,ygn BLV hj]
  exact D (m - 1 - j) (m - 1 - i) Η Η)
 exact Tq ((yh4 O (ygo P 0 m) (n - m) m h1 Η U).imp fun r hz=>by obtain⟨a1,a2,a3,_⟩:=hz;exact zev ⟨ygo P 0 m,AON (1<=r),AON (r<=n),a3⟩)
theorem yiq(O:ut)(P:XY)(h1:1<=n):BdR (kas_count n p):=by
 refine Tq ((yh4 O P (n - 1) 1 Kt Η (fun i j a b=>Υ)).imp (Cf r D8))
 obtain⟨a1,a2,a3,a4⟩:=D8;by_cases e:r=n
 ·show DJ (fF e)
  exact zev BUr
 ·show BD (fF e)
  by_cases g:r>1
  ·show DJ g;refine Apy
   have q:lt (AVi 0) (AVi AXq)=Μ:=a3 0 AXq Η Η
   rw[q,EF];exact zev BUr
  ·show BD g;show UI r 1
   have q:=a4 Η
   have D:ARI 2:=AaN (by
    show UI i 0
    show UI j 1
    exact q)
   refine Tq ((ygg O P (n - (1+1)) (1+1) Η Η D).imp (Cf r Bi))
   obtain⟨b1,b2,b3,b4,b5⟩:=Bi;rw[CM Η,b1]
   exact yig O P Η Η b5
theorem zz3(O:ut)(P:XY)(hk:k<n)(U:AQO k):∀(f l r:Δ),l<=r ->Hk (r<=k) (r - l<=f) (UE l (fe j k)) (BQ7 (r<=j)) (fb (kas_place p k f l r) (OF (x<=k/\ (UE x (fe j k))/\BQ7 (x<=j))))
 | 0,l,r,h1,h2,h3,h4,h5=>zev ⟨Υ,h4,fun j a b=>h5 j Η b⟩
 | f+1,l,r,h1,h2,h3,h4,h5=>by
  unfold kas_place;by_cases g:l≥r
  ·show DJ g;exact zev ⟨Υ,h4,fun j a b=>h5 j Η b⟩
  ·show BD g;have m1:l<=AFp:=Υ
   have m2:AFp<r:=Υ
   refine Tn (AHa hk) At6 (P.ne hk Η Η) ?_
   cases q:lt (ZI k 0) (AVi (AFp)) with
   | Μ=>
    show Š;refine zz3 O P hk U f l _ m1 Η Η h4 (AV j a b)
    rcases BEs (AFp) j with z | z
    ·exact ydm O P hk Η Η q (U _ j z b)
    ·show UI j AFp
     exact q
   | AG=>
    show l4
    have q' :fe (AFp) k:=z9i O P hk Η Η q
    refine zz3 O P hk U f _ r Η h2 Η (UD j a) h5
    rcases Azn (AFp) with z | z
    ·exact ydm O P Η Η hk (U j _ z Η) q'
    ·show UI j AFp
     exact q'
theorem yl6(P:XY)(k d:Δ):Pm n (bubble p k d):=BPG (bubble_perm p k d)
theorem yll(O:ut):∀(f:Δ) (p:sj) (k:Δ),XY ->k+f=n ->AQO k ->BPE (kas_bin f p k)
 | 0,p,k,P,h,U=>by
  show UI k n
  exact zev ⟨P,U⟩
 | f+1,p,k,P,h,U=>by
  have hk:k<n:=Υ
  refine Tq ((zz3 O P hk U k 0 k ž Kt Η (fun j a=>Υ) (fun j a b=>Υ)).imp (Cf l D8))
  show ŝ a1 a2 a3;refine yll O f _ Eg (yl6 P k Ane) Η (Oy i j hij hj)
  have at' :∀x,(bubble p k Ane).dL x 0=Nl x l (ZI k 0) (if l<x/\x<=k then ZI (x - 1) 0 else ZI x 0):=OF (by
   have e:=getElem?_bubble (xs:=p) (src:=k) (ET P.size hk) Ane Η x
   rw[Fm (k - Ane=l)] at e
   split
   ·show Kj;show A1d Kk
   ·show Kj;rw[OA] at e;split
    ·rename_i q2;show A1d (Ch q2)
    ·rename_i q2;show A1d (CM q2))
  show As (lt _ _=Μ);rw[at',at'];by_cases e1:i=l
  ·rw[Ch e1,ϟ,Ϡ]
   exact a3 AOP Η Η
  ·show BD e1;by_cases e2:j=l
   ·rw[Ch e2,ϟ]
    exact a2 i Η
   ·show BD e2;by_cases e3:l<i/\i<=k
    ·rw[Ch e3,Ϡ]
     exact U (i - 1) AOP Η Η
    ·show BD e3;by_cases e4:l<j/\j<=k
     ·show DJ e4;exact U i AOP Η Η
     ·show BD e4;exact AoZ Η
theorem ymq(O:ut):BPE (kas_sort n):=by
 have P0:Pm n (BFx (cv n)):=om Boa _
 by_cases h0:n=0
 ·subst h0;exact⟨Β,(A4 Boa _),fun i j _ hj=>(BIS hj)⟩
 ·refine Tq ((yiq O P0 Η).imp (Cf r D8))
  show Fh a1 a2 a3 a4 D8;by_cases g:CU<n
  ·rw[Ch g,Fm (max CU 1=CU)]
   exact yll O _ _ _ a1 Η a4
  ·show BD g;obtain e:CU=n:=Υ
   exact zev ⟨a1,e ▸ a4⟩
#where
#print _3
namespace _3
open IR OI KK _2
def uW(lt:sw)(is:CF):Θ:=is.Pairwise (Tk j A5L)
theorem ylm(P:Pm n q)(U:Up lt q n):uW lt q.toList:=by
 unfold uW;rw[Bob];intro i j hi hj hij;have hj' :j<q.size:=Cc hj
 have hi' :i<q.size:=Υ
 have:=AoZ (UK P.size hj')
 unfold Lp at Τ;show kl (W5 hi') (W5 hj');exact Τ
structure IV (CI:A0) (w:Ap) (A:BQ) (E:dM) (vs:At) (lt:sw) (T:Ax_) (κ:As_):Θ where
 kind:∀(s:AF) (Q:Op As_),A4S ->2<=MB ->Q κ s ->KA (keyKind' oC)
 ask:∀(s:AF) (i j:Δ) (C:Ay9),A4S ->BB Aii (j<MB) AFe Bbi (BGf CI w A κ vs i j C s)
section
variable{CI:A0}{w:Ap}{A:BQ}{E:dM}{s:AF}
theorem zu8{a:Ζ}{vs:At}{lt:sw}{T:Ax_}{κ:As_}{n:Δ}{P:Op PySem.Fin}(hob:Ag1 MY oC n)(O:BLp)(hT:A4S)
  (hst:∀h',(∀x o,BI1 ->x≠a ->Fu RS o) ->T h') (K:IV CI w A E vs lt T κ) (h64:BIc)
  (h:∀is:CF,BLv ->A5R ->P (.LW (.ret BA)) (Zl (sortedHeap A8 a vs A5l))):AIH (Builtin.«list.sort» (IM N9)) P:=by
 have hal:PU a:=zJ hob;have hln:AOL:=BIy
 rw[list_sort_plain];refine i7 (BoV (n:=n)) hob Β;refine z6 (BGV (n:=n) hob Β ?_ (ET VU hln) ž)
 obtain⟨ea,hoa⟩:∃ea,Ag1 (BiN IE) #[] ea:=BNt hob #[];refine A7v hoa;show ż (z6 (BFq ?_ (CC hln))) (BJN ž) (nk (m:=_) ?_);have Ln:BTy Awp ea:=by
  refine ABN AoO (ABN AoO hoa)
  ·show BM3;exact zL (Bk5 hal)
  ·rw[As9];exact zL hal
 have T2:T ((Awp Avt).Ps AvX):=hst _ fun x o hx hxa=>by
  have A6:=zJ hx;refine ABN AoO (ABN AoO (ABN (APX hxa) hx))
  ·show BM3;exact zL (Adu A6)
  ·rw[As9];exact zL A6
 dsimp only;have hsv:AHG Boc:=VU ..;by_cases wE:Boc<2
 ·rw[Ch wE,Ch wE];refine AX_;rw[StateT.run_pure];refine AX_;refine A7v Ln;have eo:B7 arrOf (SortSt.mk' general' (Bod oC) #[] 7 Ι) (·.2)=(MG MB Avh).vt:=by
   show Bk4;show k9
   ·simp
   ·intro i q1 q2;have:Aii:=Cc q2
    simp [Τ]
  rw[eo];refine BV8
  ·show BME;refine qS (h _ IP ?_);unfold uW;rw[Bob];intro i j hi hj hij;have:j<MB:=Cc hj
   show AA
  ·simp;show AA
 ·show gu wE wE;refine eA (K.kind _ _ T2 Η)
  show BI ok Pq Uq ymq O;refine sv (W.kat_run (Q:=fun st' s' =>∃p:sj,ATU=MB/\arrOf st' =p.map (W.kas_item (Bod oC))/\failedOf st' =Ι/\p=BUQ/\s' =Ba8)
   (G:=fun p s' =>p=BUQ/\s' =Ba8)
   Β Η Η (fun p st' s' a1 a2 a3 a4=>⟨p,a1,a2,a3,a4⟩) ?_) ?_ Aak
  ·exact ygf (fun i j C hi hj hij hC=>K.ask _ i j C T2 hi hj hij hC) _ _ ok Å
  ·rintro⟨⟨⟩,st'⟩ s' ⟨p,hp,har,hf,Β,Β⟩;have eo:=W.kat_snds (vs:=vs) Β har;rw[eo];refine A7v Ln;refine BV8
   ·rw[hf];show BME;exact Hc (h _ Pq (ylm Pq Uq))
   ·exact zP (ALb (z7q hp)) Η
theorem zm0{src:AH}{Q:dM}
  (hc:IZ JU ij (AeB src) (AIE s1 (∃lt T κ,BLp/\BIc/\IV CI w A.in1.in1 E vs lt T κ/\ (∀h2:AL,(∀x o,Fu AL5 o ->Fu h2.get? o) ->T h2)/\
   ∀(l:Ζ) (h' :AL) (is:CF) e,EJ<=l ->Hk BLv A5R (BPc A5l) (∀b ob,ACH AL5 ->ACH RS) (M1 l (AV7 h')))) E s):
  KA (A1S [src]):=by
 refine BfW;show Bku;refine Bek;refine WB (AeB _) (Ż hc (i4 vs Cm) Aak);obtain⟨lt,T,κ,O,h64,K,hT2,h⟩:=Cm;have hln:AOL:=BIy
 refine BJN hln;have hoL:Bk_ (AUI BI4 IE) BI4:=SE;show BE (Bej (zu8 (T:=T) hoL O (hT2 _ fun x o e=>xo) (fun h' k=>hT2 _ fun x o e=>k x o e9 AZr) K h64 fun is a1 a2=>AEo)) (qS AEo);show D1 e he (ynu (vs:=vs) (out:=A5l)) hoL;refine h EJ _ is e Kt a1 a2 he (APb ob);exact ygl (z8 _ eb) (zL (zJ eb))
#where
def mZ(AYe):AU:=Φ (As'<BGg)
theorem z0k(a:Κ):mZ a a=AG:=by unfold mZ;simpa using List.lt_irrefl As'
theorem yfc(h1:AT9)(h2:Ľ b c):Ľ a c:=by
 unfold mZ at*;simp only [AGn] at*;exact List.lt_trans h1 h2
theorem yj6(h1:mZ a b=AG)(h2:a≠b):Ľ b a:=by
 unfold mZ at*;simp only [Boe,AGn] at*;cases q:Φ (BGg<As') with
 | Μ=>exact wT q
 | AG=>
  have:=List.le_antisymm (Bof h1) (Bof (of_decide_eq_false q));exact aE (by show AE a a a a a a a a a a a a a a;show AE b b b b b b b b b b b b b b;simp at Τ;rw[Τ]) h2
theorem z1z(h:AT9):mZ b a=AG:=by
 cases q:mZ b a with
 | AG=>rfl
 | Μ=>have:=yfc h q;show DF z0k;show IN
def Qk(xs:Ρ)(i j:Δ):AU:=mZ (dc i HM) (dc j HM)
theorem Cr{α:CH}{xs:CO}{i:Δ}{d:α}(h:lx):dc i d=xs[i]:=AkD lT
theorem zyw{xs:Ρ}(nd:AeG):Ord (Qk xs) BN:=by
 show A1b nd;refine⟨BcK h,fun i j _ _ h=>z1z h,fun i j k _ _ _ h1 h2=>yfc h1 h2⟩;refine yj6 h ?_;rw[Cr hi,Cr hj];rcases BGd hij with q | q
 ·exact BTi q
 ·exact AZ (A9 j i hj hi q wc)
def ik(AFT)(d:α)(xs:CO)(is:CF):CO:=AL6 fun i=>dc i d
theorem zt9{α:CH}{d:α}{xs:CO}{is:CF}(h:Agv is.Perm BN):(ik d xs is).TU xs:=by
 have e:MG BN (qa (dc i d))=xs:=by
  show k9
  ·simp
  ·intro i q1 q2;show BM_;exact Cr q2
 have:=h.map fun i=>dc i d;show DF e;exact Τ
theorem zuy(h:uW (Qk xs) is):AVn (ik HM xs is).Asb:=by
 unfold ik;show Axh;exact h
theorem W6{xs:Ρ}{vs:At}(r:A3m vs){i:Δ}(hi:lx):∃t,ATV i nE= .AS A3g t:=by
 show BI u e ru (P_ r.get i x (.AS A3g)) (AwQ fh (Cr (d:=HM) hi))
 show ϗ e;exact ru
theorem z14{CI:A0}{w:Ap}{A:BQ}{E:dM}{xs:Ρ}{vs:At}(r:A3m vs):BaH (Da ID) :=by
 have hl:BI_:=Atl Pp this.symm
 refine⟨fun s Q _ h2 hQ=>(Bgi (SB AKp)),fun s i j C _ hi hj _ hC=> ?_⟩
 ·show AEr k hk hv;show D1 t e (W6 r (i:=k)) Η
  rw[Cr hk] at e;rw[e];exact W.Looks.of_pure Β
 ·show D1 t e (Ú (W6 r)) Η
  show D1 u e' (W6 r (i:=j)) Η
  unfold BGf;rw[e,e',Bog];exact oneLt_str hC
def Lq:AHe Key | AaF=> APW | A4x=> ş | _=> .D6 0
theorem yke:∀k v,AWq pQ k v=Μ ->Lq v=k:=fun k v h=>by
 rcases Dz h with ⟨i,t,Β,Β⟩ | ⟨x,t,Β,Β⟩<;>rfl
theorem zxw:jp vs At ys Ρ (BRr pQ) (Ar4 Lq=AME RR) (IY (AME AGq) vs)
 | [],[],_,_=> EE
 | [],EH,_,h=>EN
 | EH,[],_,h=>EN
 | AQA,y::ys,h,e=>by
  obtain⟨⟨k,hk⟩,_⟩:=AoI;rw[FA,FA] at e;injection e with e1 e2;refine .AY ?_ (zxw (fun u hu=>h u (zX _ hu)) e2);rcases Dz hk with ⟨i,t,Β,Β⟩ | ⟨x,t,Β,Β⟩
  ·show d5 e1 e1 e1 e1 e1 e1 e1 e1 e1 e1 e1 e1 e1 e1
  ·have:x=y:=Axp e1
   show gE;exact⟨t,Β⟩
theorem yci:Os ks GH xs Ρ (ks.Perm (YU RR)) (∃ys:Ρ,ks=AME RR/\ys.Perm xs):=fun{ks xs} h=>by
 have e:ks=B7 ALj (N_ AqE) RR:=by
  rw[IG];refine Baj ks;show AJE x (ZH (BGc hk))
  rfl
 refine XT e;have:=h.map fun k:Key=>AqE
 show DF IG;refine this.trans ?_;show XE ((AGr ((fun k:Key=>AqE) ∘ RR) xs)=xs) (List.map_id' xs)
def mC(xs:Ρ):Ρ:=(j8 Awr BN).map fun k=>AqE
theorem ztw(xs:Ρ):BQZ=B7 mC xs RR:=by
 unfold mC;rw[IG];refine Baj _;show AJE j ((zn5 _).mp hk)
 rfl
theorem uX{xs:Ρ}{x:Κ}:x∈mC xs↔x∈xs:=by
 have e:x∈mC xs↔ (RR x:Key)∈BQZ:=by
  rw[ztw,X9];constructor
  ·exact FB (XL x h)
  ·rintro⟨y,h,e⟩;have:y=x:=Axp e
   show Õ;exact h
 rw[e,zn5];constructor
 ·rintro⟨j,hj,e⟩;have:dc j HM=x:=Axp e
  rw[<- Τ,Cr hj];exact yZ hj
 ·intro h;show fS j hj BlJ;exact⟨j,hj,KE (Cr hj) e⟩
theorem zmu(xs:Ρ):ADd mC xs:=by
 have:=zl7 Awr BN;show DF ztw;exact List.Pairwise.imp (fun{a b} h z=>h (by rw[z])) (Boh Τ)
def Cu(P:A0)(w:Ap)(a:Ζ)(xs:Ρ):HO:= Amd (ug Ŭ Lq ADR h a (B7 mC xs RR))
inductive IW (ARn):Θ
 | mk:∀(p:Ζ) (xs:Ρ),Hk (vs= [Wp]) (lA AJ H p AIM) (BN+1<AL8) (AZl q q q q Bjq) (AHz IW)
def Ja(X:Cx):ë:=AQb IW
inductive Jb (ARn):Θ
 | mk:BLz (Hk (vs= [.B4 q]) BMC (Ak3<64) (BcZ (ATM (mC xs))) (AHz Jb))
def W7(X:Cx):ë:=AQb Jb
theorem zwa(ï):ANs MV (Ja X):=by
 show Abi p hb;subst e0;show Sr;show AAX;show BRL;show AQi;have hsz:v_=HQ:=Cc hl.symm
 refine zpk (κ:=Key) (knd:=pQ Fr X.w) (kf:=Lq) yke (val:=HH (.BO BJw)) cK dC BTI BN4 BZj
 ·have hi:i<HQ:=CD hl (QP (CC hv))
  show UC t (W6 rv hi);show Azm (show Az5 by simpa using hv)
  have e' :v= .AS BJw t:=e;subst e';exact⟨MH zqs,Β⟩
 ·rw[hsz,ztw] at hS;have I2:ϱ BK_ kM:=
   AFd vy OU Kt BK_ ⟨hS,BNV (We e),BUp⟩
  exact BRZ
theorem zp1(r:IY xs vs)(h:AZN lx):IY (Avs xs) (AL6 Avh):=zx5 r h
theorem zof(Ao6){f:Aji}{d:α}{xs:CO}{is:CF}{e:β}(h:AZN lx):ik e (YU f) is=AuP d xs f:=by
 unfold ik;rw[IG];refine Aw7;show(YU f).dL i e=f (dc i d);rw[Cr (ET C6 AkA),Cr (h i hi),ATc]
theorem yad{X:Cx}(hc:FX):AB_ U2 (W7 X):=by
 show Abi q h64;subst e0;show Sr;show AAX;obtain⟨⟨o,es,ep,t,hg,O⟩,_,_⟩:=A7U;show HL hlk (FK=AQV) AXd line AXu DB (zm0 (zqr BO8 hg O Η BgU))
 show BI ys e1 hp yci hk;have rv:=zxw hm e1;show HL Iv BKL BLi hly (MZ=AQV) BGR (Bgj (BoR (zmu ns)))
 have hlt2:AkP:=zP (č A6) hle;have hix:AZN BS9:=RC (by
  rw[C6,<- Iv];exact R_ (BGh hi))
 show Bei
 have hms:(ik HM ys is).TU (mC ns):=kT zt9 (UK Iv a1) hp
 have FI:BQ2:=BJX
 have I2:A3v Ajq:=
  AFd vy (BBf OU) hlt2 (FG Ajq) (A_7 hl)
 exact BRv Bd8
def pJ:AQ ->ARA Κ
 | []=>Aip
 | ß::r=>B7 pJ r (x:: ·)
 | EH=>Ι
theorem W8(OH):∀{ds:AQ} {vs:AT} {xs:Ρ},L3 ->pJ ds=Ε xs ->vs=YU Ÿ
 | [],vs,xs,r,h=>A7T
 | b_,vs,xs,r,h=>by
  show GG v us r1 r r;cases d with
  | AS x=>
   show De pJ;unfold EA at r1;subst r1;cases q:pJ ds with
   | Ι=>rw[q] at h;show HI
   | Ε ms=>show A'C W8
  | _=>show OE
theorem W9(OH):Ak8 (P7 AIM (YU AGq))
 | []=>N1
 | n::ns=>qT Iy (W9 ns)
def Xa:UA:=ADo (∃ns,A2J/\HQ<4095/\ AQV<64/\BT4 (A5' ns))
section
variable{X:Cx}{F0 H0:Hp}{a e:AK}{AB p wt p2:AX}{t:cW}
theorem z16(BaE):
  BQn Xa:=fun z E cx=>by
 have inner:A8K (A_5 Ja E):=DU Vm (zwa hc) hg2 hm2 zvr E8 Ψ Ψ he Β
 refine A6H yad A9V he2
 show A'A Xa;split at h1
 ·show ARh;obtain⟨ns,hns,A6,hme,h1⟩:=h1;show AQn W8;refine BAn
  refine⟨q,ns,Β,gP,hme,BUs⟩;have R2:A0H (Cu Fr X.w q ns):=ALr BA_
  obtain⟨R3,q1,q2,q3,ap⟩:=Hi R2 hl2 (W9 (K:=AJ) (F:=F1) ms);exact BAx W9 hs (HH (BoQ uX))
 ·show k_
#where
open BER (ASt)
open BES BEU in
theorem ycd(Bho):
  Meets (Builtin.«list.__eq__.loop» (IM [SZ,AIt,Ahb,Ahb]))
   (fun A R s=>(A9l dd sl (BXX sl2) (qk (mZ x y)) s)):=by
 intro CI w A R s h;show AFR;show A9s
 show A9h
 have hi1:Iq NL (I_ O_) AWh:=h1;have hi2:Iq ABO (I_ O_) (.AS y u):=h2;rw[hi1,hi2];have hne:G_ BGi Boi:=by
  cases q:(BGi==Boi) with
  | AG=>rfl
  | Μ=>
   have e:=AsB q;exact aE (by show AE x x x x x x x x x x x x x x;show AE y y y y y y y y y y y y y y;simp at e;rw[e]) hxy
 refine z6 (SeqRoads2.EqGives.str x y t u CI w _ _ _ _ ?_);rw[hne]
 show A9h
 rw[hi1,hi2];refine My (richCompare .Lt _ _) (wpAny_richCompare_same (ASw _ x t) (ASw _ y u) slot_str_lt (call_str_lt (C3 DC)) Β)
 wp_walk
 exact h
open BES BEU in
theorem yeb(Bho):
  BTx Builtin.«list.__lt__» (fun A R s=>(A9l dd sl (BXX sl2) (qk (mZ x y)) s)):=by
 intro CI w A R s h;show AFR;show A9s;have f3:=Boj
 show A9h
 exact⟨AuV Bok,Ad_ entry_eq_loop (ad (ANq Bok) (ycd l b NL ABO n n2 dd dd2 sl sl2 x y t u h1 h2 hxy CI w A R _) ⟨hl,hb,h⟩)⟩
def Kf(h:AL)(v:AH)(x:Κ):Θ:=∃a AO t,v= B'/\PlainL h a AO/\Iq AO 0 AWh
theorem yds(h1:Kf A8 v x)(h2:Kf A8 v' y)(hxy:x≠y)(hu:AX2)(h:Q (mZ x y) s):KA (oneLt' Μ v v'):=by
 obtain⟨a,AO,t,Β,⟨o,n,e1,c1,d1,s1⟩,z1⟩:=h1;obtain⟨b,its2,u,Β,⟨o2,n2,e2,c2,d2,s2⟩,z2⟩:=h2;obtain⟨cls,dict,AAk,AK6⟩:=o;show Fh cls2 abT data2 Ql o2;show AE c1 c1 c1 c1 c1 c1 c1 c1 c1 c1 c1 c1 c1 c1;show AE d1 d1 d1 d1 d1 d1 d1 d1 d1 d1 d1 d1 d1 d1;show AE s1 s1 s1 s1 s1 s1 s1 s1 s1 s1 s1 s1 s1 s1;show Bhs;show AE s2 s2 s2 s2 s2 s2 s2 s2 s2 s2 s2 s2 s2 s2;rw[oneLt'_eq];refine jI wpAny_cRoomFor_or (FM hu);refine z6 (wpAny_callSpecialIfBound?_slot (T:= IC) (ML e1) Bol (AS1 Bol (ML e1) F.entry_list_lt (F.args_list_lt_2 _ _) (yeb a b AO its2 n n2 Ι Ι AK6 Ql x y t u z1 z2 hxy) (C9 e1 e2)));exact đ h
theorem Kf.up(q:Kf h v x)(k:BJe):Kf h' v x:=by
 obtain⟨a,AO,t,e,p,z⟩:=q;exact⟨a,AO,t,e,p.keeps k,z⟩
theorem Kf.looks(q:Kf h v x):AeE M h (AsG v) Av6:=by
 obtain⟨a,AO,t,Β,⟨o,n,e,c,_,_⟩,_⟩:=q;intro A Q E s k hQ;exact wpAny_typeOf_ref (k _ _ e) (ET c hQ)
theorem yjl(hl:BI_)(nd:AeG)(hu:AX2):
  BaH (PP (∀i,lx ->Kf h (Av4 ATV) A3g)) :=by
 refine⟨fun s Q hT h2 hQ=>(Bgi AMR),fun s i j C hT hi hj hij hC=> ?_⟩
 ·show AEr k hk hv;show Al2 (hT k Η) (Cr hk) this.looks
 ·unfold BGf;rw[Bog];refine yds (hT i Η) (hT j Η) ?_ hu hC
  have A9:=Ad3 nd;rw[Cr Η,Cr Η]
  rcases BGd hij with q | q
  ·exact A9 i j Η Η q
  ·exact AZ (A9 j i Η Η q wc)
def gl(g:Ρ):D:= .By (g.map .AS)
def hdS(g:Ρ):Κ:=g.headD HM
theorem yn9(I:AW)(sF:gi)(r:EA AJ F (gl g) v)(ru:OC)(hg:g≠ []):Kf A8 u (hdS g):=by
 show é r;show AE ru ru ru ru ru ru ru ru ru ru ru ru ru ru;obtain⟨AO,rv,pl,hz⟩:=AKZ;cases g with
 | DL=>show AEk hg
 | AY x g=>
  show GG w us Β rs rs;cases rv with
  | AY r0 rr=>
   show No r0;exact⟨a,_,t,Β,pl,CY hdS⟩
def z9m:UA:=ADo (∃gs:MQ,xs=AMF gl/\ (∀g∈gs,g≠ [])/\ ADd AMF hdS/\BIe/\
   ∀ms:MQ,ATM gs ->Ad0 (xh b A_z) ->AWA gl)
theorem abx{γ:CH}{v:V}{u:AH}{Q:VK}{Ξ:dN}(d0:γ){f:γ ->D}{T:AL ->DZ AH γ}{lt:sw}{κ:As_}{gs:EV γ}(I:AW)(sF:gi)(r0:EA AJ F (FG (AMF f)) v)(ru:OC)(h64:BIe)
  (up:∀h h' v g,T h v g ->(BJe) ->T h' v g) (tt:∀g∈gs,∀v u,EA AJ F (f g) v ->OC ->T A8 u g) (od:Ord lt AGs)
  (sk:∀AO:At,AGg=AGs ->IV Fr X.w X.A.in1.in1 Đ AO lt (PP (BJD (T h BKR BNs))) κ)
  (k:∀l is ws,sA (AuP d0 gs f) ws ->BB (N4 l) ((ik d0 gs is).TU gs) A5R (∀i∈is,i<AGs) (Awc ws)):
  ADV (A1S [u]):=by
 show AE' r0;show AE ru ru ru ru ru ru ru ru ru ru ru ru ru ru;obtain⟨AO,rv,pl,hz⟩:=AKZ;show AhP;have hl2:=jQ rs;show AuD hl2;have line:AXu:=DB
 have hT:BJD (T A8 BKR BNs):=RC (by
  show BI v e1 r1 (P_ (wQ rs) i d (f gs[i])) (Akp fh)
  show BI u e2 r2 AGT e1;rw[Mb,e2,Cr hi];exact tt _ (yZ hi) v u r1 r2)
 have hup:∀x o,BI1 ->Fu ((s.heap.push (seqObj "list" #[] 0)).update s.heap.objs.size (Obj.mapSeq (· ++its.toArray))).IE o:=fun x o e=>by
  have A6:=zJ e;exact ABN (APX (zL A6)) e9
 show BE (zm0 (collect_list (vs:=AO) dC ?_ Η)) ⟨lt,_,κ,CD (Fm (AGg=AGs)) od,Υ,sk AO Η,fun h2 k2 i hi=>(e_ up (hT i hi) (fun b o e=>k2 b o (rL hup))),Bkl hl'⟩
 have hsz:AkP:=zP (ATL _) (zP (ALb (UH (BIK).ON (size_push' ..))) hle);have hix:AZN (i<AGs):=RC (NA (R_ (BGh hi)))
 have hrv:=zp1 rv (is:=is) (RC (NA AwE))
 have hrs:sA (Avs (AMF f)) A4O:=zwt rs (RC (BHB AwE))
 rw[zof (d:=d0) hix] at hrs;have FI:D' (zn ik V.non vs is):=by
  unfold ik;show A1a a1.length_eq;show AA
 have I2:AVe l A4O (d_ h' LV):=
  A0P (BBf hup) hsz (AHK _ _ _ (FG A4O) (A_7 hl'))
 exact MR SZ I2 (k l is _ hrs (Agu hsz) (zt9 (ET (Fm (AGs=AGg)) a1)) a2 hix)
theorem ylu(hu:Akv):AB_ U2 (FN AJ z9m):=by
 show mv;show De z9m;split at h
 ·show AIV r0 rs;obtain⟨gs,Β,hne,nd,h64,h⟩:=h;show Sr;refine abx [] (T:=fun h v g=>Kf h v (hdS g)) (lt:=Qk (AMF hdS)) (κ:=oneType') I sF r0 rx h64 (ARk q k (q.up k)) (fun g hg v u r1 r2=>yn9 I sF r1 r2 (hne g hg)) (by have:=zyw nd;rwa [C6] at Τ) (UD AO hl) fun l is ws hrs hn pm od hix=>k _ _ l hrs hn (h _ pm ?_)
  ·have e:=P9 yjl CI Fr w X.w A X.A.in1.in1 E Đ (vs:=AO) (xs:=AMF hdS) (ET C6 hl) nd (BjX (BEm+1))
   rw[C6] at e;refine⟨fun s Q hT=>e.kind s Q A6n,fun s i j C hT=>e.ask s i j C A6n⟩
   all_goals
    have q:=hT i hi;rw[show gs.getD i []=gs[i] from Cr hi] at q;rw[show(AMF hdS).dL i HM=hdS gs[i] by rw[Cr (ET C6 hi),ATc]]
    exact q
  ·have hp:=zuy od;rw[zof (d:= []) hix] at hp;exact Boh hp
 ·show GW
#print _3
namespace _3
open IR OI KK _2
open BER (ASt)
theorem zpw(l:Ζ)(NL:Ki)(n:Δ)(b:Ζ)(ABO:Ki)(n2:Δ)(sl:ADq)(hc0:¬(UB (! items.isEmpty) (BEh (P2+items2.size))))(hc1:AyB)(hs2:P2+items2.size<=ASD+1):
  BTx Builtin.«list.extend» (fun _ R s=>(A9l Ι #[] (AUg Ι (.seq ABO n2) sl) nE (d_ (AGe l (AGd (OF (x++ABO)))) LV))):=
 BBh (by
  show AFR;show A9s;have f1:=AutoSeq1.idx_int;have f2:=AutoSeq1.sub_tuple_tuple;have f3:=Boj;have f4:=AutoSeq1.sub_tuple_list;have f5:=AutoSeq1.sub_list_tuple;have hz' :(NL++ABO).size<=ASD+1:=CD BGj hs2
  wp_walk using (BGT hl Β (hz:=hc1) (_hz' :=hz')),ASt hl,Big;exact SH h)
theorem z6f:OwR X "list.extend" zue:=by
 intro Ξ s σ F H l vs E9 xs ds us P Q I hl sF rs ra rv h k;show De zue;split at h
 ·obtain⟨v,_,Β,⟨b,zs,Β,hq,rz⟩,Β⟩:=ra;show BI u Β ru ALW rv;show AE ru ru ru ru ru ru ru ru ru ru ru ru ru ru;obtain⟨z,AO,n,r,hle,e⟩:=I.lstM hl;obtain⟨its2,r2,⟨o,n2,e2,c2,d2,s2⟩,hz2⟩:=AKZ;show Fh cls dict AAk AK6 o;show Bhs;show AE s2 s2 s2 s2 s2 s2 s2 s2 s2 s2 s2 s2 s2 s2;have abX:=r2.length;have l1:=jQ rs;have l2:=jQ rz;have hsz:D' (v_+Bom):=AV6 VU VU
  have Xb:¬(UB (! its.toArray.isEmpty) (BEh (v_+Bom))):=Â (yda hsz) Adt zK
  show BE (AS1 Bon (ML e) PySem.F.entry_list_extend (PySem.F.args_list_extend_2 _ _)
   (zpw l TH n b its2.toArray n2 AK6 Xb AYo Η) (C9 e e2)) (MR B8 (I.lset (iP :=AO++its2) hl e A7 (BEj r2) ?_) (k _ _ (M9 rs rz) h.2))
  show Axg;show AA
 ·show GW
def zyi:UA:=AHd [ABt _] (P (ALj nY))
theorem zgb:∀{xs:AT} {us:At},BIv ->(∀(i:Δ) (x:V) (u:AH),ef ->E4 us u ->Æ) ->fT
 | [],[],_,_=> EE
 | [],EH,h,_=>EN
 | EH,[],h,_=>EN
 | L8,u::us,h,k=> .AY (k 0 x u Β Β) (zgb (CC h) fun i y w e1 e2=>k DI y w (CC e1) (CC e2))
theorem Qm:∀{AI:r9} {ws:AVk} {i:Δ} {p:κ×AH},A0e ->E4 ws p ->∃v,E4 AI (DA,v)/\KO v p.2
 | _,_,_,_,EE,e=>AYm
 | _,_,0,p,a_ (a:=q) h _,e=>by
  simp at e;subst e;show AKN h;exact⟨q.2,by rw[<- h1];rfl,h2⟩
 | _,_,EL,p,a_ _ r,e=>by
  show AH2 e1 e2 (Ú Qm r AEQ)
  exact⟨v,Cc e1,e2⟩
theorem Tr:∀{ks:tP} {vs:AT} {i:Δ} {k:κ} {v:V},E4 ABk (k,v) ->E4 ks k/\AP9:=fun{ks vs i k v} e=>by
 rw[List.getElem?_zip_eq_some] at e;exact e
theorem yjx(ï):A1i (FN AJ zyi):=by
 show mv;show De zyi;split at h
 ·rename_i ks ds';obtain⟨v,_,Β,⟨a,vs,Β,hq,hkl,rs⟩,Β⟩:=rs;show Sr;show AE rx rx rx rx rx rx rx rx rx rx rx rx rx rx;obtain⟨hz,hsm,ws,kv,hd⟩:=Vr KS (sF _ _ hq);show T_ ob es ep hd hd;have hm:BJm:=⟨ob,es,hd⟩;have Tt:BNn=LM:=ATd;have hlk:OR=LM:=by rw[<- Tt,AeH,<- hkl,AMD]
  rw[Tt] at hz;refine W.kdl_call (BBi W.kdl_dict hsm) cK hm hz fun h' tk A1 c OU hg hac=> ?_;have hv:IY (ALj kV) As5:=by
   refine Bc' (by show yT vn;exact hlk.trans (hac.1).cq)
   obtain⟨k,w,e3,e4⟩:=hac.2 i u BO6
   obtain⟨v5,e5,_⟩:=Qm kv e3;have e5:=(Tr e5).1;show AM5 e5 e1;show AE e1 e1 e1 e1 e1 e1 e1 e1 e1 e1 e1 e1 e1 e1;rcases Dz e4 with ⟨j,t,Β,Β⟩ | ⟨x,t,Β,Β⟩
   ·exact⟨t,Β⟩
   ·exact⟨t,Β⟩
  have I2:ϱ (FG A0j) kM:=
   AFd vy OU Kt (FG A0j) (BWm APQ)
  exact MR zk I2 (k _ _ _ (VF ks) ANx h)
 ·show GW
#print _3
namespace _3
open IR OI KK _2
theorem zyl(I:AW)(e:AJb)(ho:A0l):xw a ya s:=by
 have ne:qq AEX (Ap9) SW:=Am3 z (by rw[z,e] at q;show SY;exact n _ Β)
 refine I.un (h' :=A8) (t' :=LV) ⟨fun _ _ q _ _ _=>q,BVd,FY b ob q n _,A8n ⟨ob,q⟩,A2c,BTt,WH ps (C3 #[])⟩ â
 ·show AJi (by rw[z,e] at n;show AE n n n n n n n n n n n n n n);exact n
 ·rw[bU (ne b _ q AN9)];exact q
 ·rw[bU (ne b _ q AN9)];exact q
 ·rw[bU (ne b _ q AN9)];simpa using q
 ·by_cases hb:b=a
  ·subst hb;rw[gP] at q;show SY;refine C3 ho;exact(AU4 b P8 b e)
  ·rw[t6] at q;exact AIl KS q Aww (bX z BeQ) fun c xs z=>BeQ
def Itw(Bea):It:=BYW (H' =H/\∃k,E4 AI (k,x))
theorem zoj(I:AW)(e:AvK)(Qn:BkN):∃ws,A0e/\BJm:=by
 obtain⟨ho,_,_,ws,kv,o',es,ep',h1,h2,h3,h4⟩:=(AU4 a ya a e);rw[ho] at h1;show Abk;obtain⟨es',h5⟩:=Qn;rw[h3] at h5;show AE h5 h5 h5 h5 h5 h5 h5 h5 h5 h5 h5 h5 h5 h5;exact⟨ws,kv,o,es,ho,h2,h3,h4⟩
theorem z7n(Aax)(BhE):AaU (Itw a o AI) (h.IsValIter it a i Ą ep) where
 mem:=DC
 obj:=AQ7 (by
  show AQI
  obtain⟨o,e,c,d⟩:=st;exact APn Age)
 LG:=A8y
 VS:=by
  show md;show UZ;show Aas;show ø
  show AqF;show ApK;obtain⟨⟨k,u⟩,hw⟩:∃p,E4 ws p:=BNP
  show GA v hv rv Qm kv hw;refine wpAny_pyNext_values_item st hd hw (gI wv sb);have I1:APJ:=Aoc;show T_ o' e c d wv;exact⟨u,Β,Ve (s:=SI) e c d Ψ ⟨v,H,I1,rv,⟨Β,k,hv⟩,CD hl wv,AZv⟩⟩
 LW:=by
  show md;show UZ;show Aas;show ø
  show AqF;show ApK;exact wpAny_pyNext_values_end cK st hd (AS_ hx) Aa0
 RY:=Am6 wpAny_pyIter_valiter
def Xc(te:TE):TI:=BPz (BMQ (AUi ->∀o,R (Itw a o AI) A0a))
theorem z8t(he:mP)(OQ:Aft:=by rfl)(Rc:z_:=by rfl):
  ϔ Afw (Xc te):=by
 show Do R;refine A'4 ϭ;obtain⟨x,H1,I1,r1,a,AI,ex,ea,q⟩:=B_;subst ex;show A4g;show BBj (.D6 ea);refine BaM;obtain⟨hz,_,ws,kv,dd⟩:=AlP Vr;refine Ada BGk hT Bop (Boq _) (Bor AM_ a hsm) (C3 ⟨ws,dd⟩);obtain⟨o,es,ep,h1,h2,h3,h4⟩:=id dd;have hm:AmV:=A'r h1;have I2:=zyl I1 ea h1;have vw:A0u (Awn Bot):=ky;have I3:ZO A0a (AG' s1 (Bj7 Bos) ASg):=Arj yo;show BE (wpAny_pyIter_values vw AyR ?_) ⟨_,[BKr],_,_,_,Β,Atr I3.kept yo,z7n a _ o AI ep ⟨es,h3⟩,?_,L7,q hz o⟩
 ·rw[ATd];exact ky
 ·show HA (b=BKr) ABr
  exact I3.fpOk (zO _) (AMU I3.hok.fresh)
section
variable{K:AD}{F0 H0 F H:Hp}{σ:St}{Γ:ADu}
theorem SR.chg(R:Hm)(h2:AEa)(h3:Ï)(ap:AFI):xI F ARd:=by
 refine⟨⟨R.gr.f,â,â,AIe (R.gr.n b o q n)⟩,AGi,BPL,R.ap⟩
 ·rw[bU (gJ q h2)];exact R.g b u q
 ·rw[bU (gJ q h3)];exact Adi b u q
 ·show br p1 p2 (dS j s' q);refine⟨o,p1,Sw p2 IP BVv⟩;have:SW:=AZ (Axx (ap j Bb'))
  rw[bU Τ];exact q'
#where
theorem yd6(Bhu):AZW (Itw a o ABk) xs:=by
 show Alo;have hlz:AHG BNn:=BWb
 refine ABo (Abd BQE)
 show AZ6 hd;have hi:Aii:=QP hv;refine ϙ Awu Υ Amt
 show EM Β k z z;have:=(Tr z).2;show DF hv;show IN;exact A'l
def z1n(tn:qu):cW:=Anz (İ t AZt (P (j6 ts) AC))
section
variable{X:Cx}{F0 H0:Hp}{e tg:AK}{LX HR:AX}{tn:qu}
open Ĝ in
theorem z55(he:AOf)(OQ:Aft:=by rfl)(Rc:z_:=by rfl):
  AQQ Afw (z1n tn):=BXs z8t (ApE (fun t AC F1 H1 v as R1 s1 nd hn r h1=>by
  show ADs
  ·rename_i ks ts;show AKk;refine l7 a ea (Cf hz o);have nab:a∉bs:=AI4;have sF:qc (AfJ AlE (AuG H1 F1)):=SS (by
    show av (ARf AlE H1 F1);show gu (Ev (Ak2 BIz)) (BY6 hb)
    exact e)
   have R2:=Bds R1.chg (.frz o ō) sF (K0) BZe
   ·refine k _ AC _ _ _ R2 Ajx (yd6 ?_ hkl (ALn sF ts vs bs (fun c hc u hu=> ?_) r) hz) h1
    ·show Š
    ·rw[Pi (show¬c=a from AEP nab hc),Ch hc];exact hu
   ·show AFc (ARf AlE H1 F1);by_cases hb:b=a
    ·subst hb;rw[EF] at e';rw[gP];exact e'
    ·rw[AIZ] at e';rw[bU hb];show Ë
     ·exact e'
     ·exact LZ b u e'
   ·show AFc (ARf AlE H1 F1);show Ao7
    ·subst hb;exact(hn b zY).2
    ·rw[AIZ] at e';show BeX e' e' e' e' e' e' e' e' e' e' e'
  ·exact h1.elim))
#where
theorem Kg{K:AD}{F:Hp}{k:Key}{v:V}(h:EA K F (nY k) v):v=kV k:=by
 cases k with
 | D6 i=>exact h
 | BO x=>exact h
theorem zzf(h:kL)(k:Key):(nF ABk k).Ć=AmF:=by
 unfold nF mq;rw[AsK];induction ks generalizing vs with
 | DL=>rfl
 | AY k' ks ih=>
  cases vs with
  | DL=>show OE
  | AY v vs=>
   rw[ALl,AsI,ALh];by_cases q:k' =k
   ·simp [q]
   ·simp only [q,AtA,BnK];exact ih (CC h)
theorem ym4{ks:GH}{vs:AT}{k:Key}{v:V}{q:Δ}(nd:ks.Nodup)(h1:yk ks k)(h2:yk vs v):BeJ:=by
 unfold nF;induction ks generalizing vs q with
 | DL=>simp at h1
 | AY k' ks ih=>
  cases vs with
  | DL=>simp at h2
  | AY u vs=>
   show BJp;cases q with
   | Re=>
    have e1:k' =k:=Cc h1
    have e2:u=v:=Cc h2
    simp [e1,e2]
   | Rl q=>
    have hm:Aly:=zA (CC h1)
    have ne:k' ≠k:=AEP AI4 hm;simp only [ne,AtA];exact ih An0 AOM AV1
def Xd(i:Δ)(tk:bZ):TT2:=Zp tk kd (∃k as ks ts,kd=nY k/\A8N/\GV (! AmF))
def Xe(i j:Δ)(tn:qu):aD:=zt tn t (∃k as ks ts,A7O/\A8N/\mq ks k=AG/\ACc OR/\∀cs,AZe (.tr A3e (.dic (ks++ [k]) Awb)))
def Xf(i j l:Δ)(tv:bZ):aD:=zt tv d (∃k k2 as ks ts q Qo xs,A7O/\Iq AC l (.pu (nY k2))/\A8N/\ks.Nodup/\yk ks k/\
 yk ts (.dic Qo AX')/\ACc Qo.length/\AZe (Avp Bbg))
section
variable{X:Cx}{F0 H0:Hp}{ke FF:AK}{AB ABM Ah NK HP wt:AX}{x y w:Κ}{i j l:Δ}{tk tv:bZ}{tn:qu}
theorem ynl(hu:ft)(hk:Ee ke tk)(hN:K_)(hv:So)(fc)
  (hb:BDd AJB SL=AG:=by with_unfolding_all rfl):
  kQ (.Ac8 ke [AJB] [.vj x ABM] AB) (Xd i tk):=fun z E cx=>
 Pj (DU z9g (DU zv2 hu AyI mi) hb) (NH B_ B_ (WA (fun kd AC F1 H1 v R1 s1 rk Bi=>by
  obtain⟨kk,as,ks,ts,e1,e2,h1⟩:=Bi;subst e1;show Am1;subst ev;show A_F;show AKk;refine⟨B',e3,a,_,Β,Bap,_,Β,?_⟩;rw[zzf hkl];exact A9M h1)))
theorem yk5(hu:ft)(hN:K_)(hv:So)(Xg:AaI)(hv2:A_a)(hval:BP_)(hs:AZM SL AwL:=by rfl)
  (BAa):
  AWd (ANa SL AwL) (Xe i j tn):=fun z E cx=>
 uE (AZi zvg mi BBR hval hs) (AMZ Dn zu zu (WA (fun t AC F1 H1 v cs R1 s1 ndc hnc rt wA=>by
  obtain⟨kk,as,ks,ts,e1,e2,hh,hl,q⟩:=wA;show A_F;obtain⟨o2,e4,w2,Β,rk⟩:=AL1 j _ e1;show Am1;subst ev;show AKk;refine⟨B',e3,kV kk,e4,a,_,Β,BZ9,?_⟩
  have Au:AX3 BXW:=FL ⟨_,_,e2,e3,hb⟩;have dis:AX3 (b∉cs):=BdO;have nab:a∉bs:=AI4;rw[zt4 hkl];unfold jx gj;show gu (AJg hh) (AJg hh)
  refine PR (AeI e2 e3 (GS (iw (A1o AHO ts) Ŕ a) zY) (t:= .tr (AHp++cs) (.dic (ks++ [kk]) Awb)) (Ð _ ?_ L7) L7) s1 (q cs)
  show BIV ⟨nd,ndc,BU0⟩
  ·show BQv AjU
  ·refine⟨a,vs++ [v],bs++cs,Β,Β,gP,CY hkl,?_⟩
   have m:=AaX dQ BNz IP ts vs bs (AN_ (Ahz (AEP nab hb))) r
   have l:=AaX AAz BNz IP t v cs BZ5 rt
   exact WW m (WX l)
  ·show BQw)))
theorem yne(hu:ft)(hN:K_)(hv:So)(Xg:AaI)(hv2:A_a)(hN3:Iq X.N l w)(hv3:sW Acz w)(hval:A6s)
  (hs:AZM BXB (ME w NK):=by rfl)
  (BAa)
  (hd3:G_ w (ALD :Κ):=by decide) (aby:G_ w (Ac6 :Κ):=by decide) (hns:KY (.vj y Ah):=by exact AJj):
  AWd (ANa BXB (ME w NK)) (Xf i j l tv):=fun z E cx=>
 uE (AZi zvg (DU z48 hu mi BBR hns) (ph uL i l hN3 hv3 hd3 aby) hval hs) (Aog EY EY Pk (by
  obtain⟨kk,k2,as,ks,ts,q,Qo,xs,e1,e1',e2,ndk,hq,ht,hl,hnx⟩:=Pk;show A_F;obtain⟨o2,e4,w2,Β,rk⟩:=AL1 j _ e1;obtain⟨o3,e5,w3,Β,rk2⟩:=AL1 l _ e1';show Am1;subst ev;have ev:=Kg rk2;subst ev;show AKk;obtain⟨u,b1,bs',b2,hu',hbs,rc,back⟩:=yfs r ht;subst hbs;obtain⟨c,us,ds,Β,Β,ec,Qp,rc⟩:=rc;show A8o rc;have nab:a∉AKG [c]:=AI4;have Xh:=An0;have hac:a≠c:=AZ (WC nab z)
  have hc1:On (b1++b2) (b≠c):=fun b hb z=>by
   subst z;have p:=BGl Xh;rcases JJ hb with hb | hb
   ·exact p.2.2 b hb b A7 Β
   ·have:=Aet p.2.1;exact Τ hb
  have gd:qw H1 a (kV kk) (Dx (Bn c)):=ABx Bap (ym4 ndk hq hu')
  refine⟨B',e3,kV kk,e4,a,AiW,Β,gd,kV k2,e5,c,_,Β,zj.k (k:=k2) ec (by show AVr Qp;exact hl),?_⟩
  rw[zt4 Qp];refine BaB (AeI e2 e3 (GS (iw (A1o (a::(AOw [c])) ts) Ŕ c) BPA) (t:= .tr (a::(AOw [c])) (.dic ks Bbg))) hn
  show BE ⟨a,vs,AKG [c],Β,Β,Ž hac ea,hkl,?_⟩ (back IP (AN_ (bU (hc1 b hb))) ?_)
  exact⟨c,_,[],Β,Β,gP,zzd Qp,Qj (zp0 rs rd)⟩))
#where
abbrev Qq:=T ->AQ ->DZ (DZ T D) (DZ T XV)
def jg(as:Cb)(H:Hp):Hp:=f_ (Agt AHr (H b))
theorem z6r:Û (jg as H):=SS (by
 show UP jg;split at e
 ·show AO3
 ·exact e)
theorem zs9(h:AHr):jg as H b=Ι:=AEc jg AJL
theorem z6l(h:b∉as):jg as H b=H b:=AEc jg AD'
theorem TR.root(AFJ):∀{t:T} {v:V} {a:Ζ} {cs:Cb},ApQ AU' ->zo
 | .LY _,_,_,_,h=>Bhq
 | Ý,_,_,_,h=>BAv
 | AEh,_,_,_,h=>BAv
 | AEi,_,_,_,h=>BAv
 | .ob _ _ _,_,_,_,h=>by obtain⟨b,_,_,_,Β,e,_⟩:=h;cases (e);rfl
 | AEU,_,_,_,h=>Bhq
inductive Jd (BB_ Qq):Θ
 | mk:∀F a bs t ds GY P Ex,(vs=V.ref a::GY) ->BB AOA (Azv) ((WE AHp ņ)) (TR K F H t EC AHO) (Hk Bji (sp t ds P Ex) ((∀t' d v cs F' H',tS (An6 AKR) (AU').Pl BOd BTg tF (P t' d) Ű)) (∀x C dx t' cs F' H',tS (An6 AKR) (AU').Pl BOd BTg (BPg AKR) (Ex t' x) AbN) (AOs Jd))
def DX(K:AD)(sp:Qq):Sp:=AbG (AOs Jd)
def ATe(n:Δ)(s:Ic)(ds:AQ):G2:=s::(AR3 .pu++AW7 (n - 1 - NN) DO)
theorem ya0{K:AD}{F0 H:Hp}{N:Ρ}{a:Ζ}{bs:Cb}{t:T}{ds:AQ}{vs:AT}(h:Û F0)(nd:Azv)(hn:AX3 (SC F0))(rt:TR K F0 H t EC AHO)(r:BVh):
  SR K F0 AKR F0 H (AGm N (B'::vs)) A5z:=by
 have hl:=jQ r;have NI:AnR s (E4 A5z s ->∃o,E4 (AGm N (V.ref a::vs)) o/\pF K F0 H AKR s o/\ (i≠0 ->∀o c,¬iw s o c)):=fun i s e=>by
  show UP ATe;unfold AGm;cases i with
  | Re=>show DM;exact⟨_,Β,⟨_,Β,nd,AIc AjU (zs9 hb),rt⟩,AZ A7I⟩
  | Rl i=>
   simp only [ABP] at e;simp only [FA,ww,ABP];show A3t
   ·show AVI AAv GN
    cases q:ds[i]? with
    | Ι=>rw[q] at e;show DM
    | Ε d=>
     rw[q] at e;show DM;show AH2 e1 r1 (wQ r q);refine⟨ADK,?_,KI v r1,AKO _ z z⟩;show Ba2 e1
   ·show A5P
    show BfA ⟨Ι,?_,VV,AKO _ z z⟩ (by show BLC;show AA)
 refine⟨ADb h z6r,by simp [AGm,ATe,hl];show AA,ja i s,FY i j c ⟨s,o,e,_,hs⟩ ⟨s',o',e',_,hs'⟩⟩
 ·show AVU h1 h2 (NI i s e);exact⟨o,h1,h2⟩
 ·by_cases hi:i=0
  ·by_cases hj:j=0
   ·rw[hi,hj]
   ·show Axo h3 (NI j s' e') (h3 hj _ _ hs').YV
  ·show Axo h3 (NI i s e) (h3 hi _ _ hs).YV
abbrev Qs(a:Ζ)(Q:DZ T D):uc:={nx:=ACp (BAJ (Q t' B8)),rt:=j',rm:=fun d Γ=>(BAJ (Q t' d))}
abbrev Qt(a:Ζ)(Ex:DZ T XV):XW:=fun Γ C=>(BAJ (Ex t' C))
section
variable{P:A0}{w:Ap}{K:AD}{mg:EX}{DS:AL}
theorem abz{x FE p0:Κ}(AqS){k:Δ}{sp:Qq}(Fn:AFi)(S:AQ0 (p0::ps))(len:∀t ds Q E,sp t ds Q E ->Bh_)
  (ė:ARr (∀F0 H0:Hp,
   ∃tt,uD Az8 F0 H0 sL tt/\∀a bs t ds Q Ex,sp t ds Q Ex ->tt (Qs a Q) A5z A7N)):
  To fV o4 Eg f fd (p0::ps) (DX K sp):=by
 show AKM;refine Sg lk hcd S (fun vs H Q E hh=>by
  obtain⟨F,a,bs,t,ds,GY,P',Ex,ev,_,_,_,_,rs,hs,_⟩:=hh;show A_Z ev (len _ _ _ _ hs)) (ARq E hr hh)
 obtain⟨F0,a,bs,t,ds,GY,Pd,Ex,ev,sF,nd,hn,rt,rs,hsp,hQ,hE⟩:=hh;subst ev;obtain⟨tt,ht,hq⟩:=ė cdv A DE s H E hr F0 AKR;have cx:Ctx BiD F0 AKR A7N:=by
  refine⟨fun Ξ σ Γ F H1 s1 e s' I R hx=> ?_,AQ5⟩;refine ARs;obtain⟨B5,F',x,R',_,xr,_,⟨cs,t',e0,z1⟩⟩:=z;obtain⟨o,e1,v,Β,nd',hn',NP⟩:=A_j;have hv:=NP.root;subst hv;exact hE x C dx t' cs F' H' R'.gr nd' hn' NP BiC z1
 refine⟨_,ht _ _ cx,F0,ATe ALe Avg ds,Qs a Pd,ya0 sF nd hn rt rs,hq a bs t ds Pd Ex hsp,BCV (fun Γ F' H' σ R' _ Bah=> ?_) Ġ (fun d v Γ F' H' σ R' rv Bah=> ?_)⟩
 ·obtain⟨o,e1,v,Β,nd',hn',NP⟩:=A_j;have hv:=NP.root;subst hv;exact hQ t' B8 B8 cs F' H' R'.gr nd' hn' NP Iy q
 ·obtain⟨o,e1,u,Β,nd',hn',NP⟩:=A_j;have hv:=NP.root;subst hv;exact hQ t' d v cs F' H' R'.gr nd' hn' NP rv q
#where
def qH(h:AL)(d:Ζ)(es:AXm)(ep:Δ):Θ:=∃o,AEe d/\BDK/\nK= Agn
theorem qH.at(x:Aky)(k:∀o,AEe d ->ACj d):Ae5 h':=let ⟨o,e,r⟩:=x;⟨o,k o e,r⟩
theorem qH.lt(x:Aky):d<MW:=let ⟨_,e,_⟩:=x;zJ e
theorem qH.typeIs{s:AF}{d:Ζ}{es:AXm}{ep:Δ}(x:AY'):AOd d vz :=let ⟨o,e,c,_⟩:=x;APn c.1
section
variable{CI:A0}{w:Ap}{A:BQ}{E:dM}{s:AF}{d it:Ζ}{es:AXm}{ep i:Δ}
theorem yez{Q:dM}(hd:Atq d)(hm:AY')
  (hQ:AZc (WG BGm #[.B4 d,ADl,Ō FK,Ō ep])):AkL d:=by
 show T_ o ho hc hdat hm;have hT:=BGn;refine A_K Bov Bov PySem.F.entry_dict_iter PySem.F.args_dict_iter_1;unfold Builtin.«dict.__iter__»;refine Se;refine jI wpAny_notOrdered_dict hT;show PY AIb (AWf (Bow d));unfold Bow;show BD (AXp hd)
 refine ACx;show BE (i7 Box ho hdat) (i7 Boy ho hdat);refine z6 (iS (z7 ⟨_,Β,BGm,_,AVc,PySem.F.slot_dict_keyiterator_next.lookup,?_⟩))
 simpa [Yf] using hQ
theorem yer(hit:BSE)(hm:AY')(A6:Auo)
  (hQ:ACw (BKs h'.IsKeyIter) (A5T it) (Q (Ε es[i].A9) SI)):AJ0 it:=by
 show T_ o ho hc hd hit;show T_ od hod hcd hdd hm;refine Ai6 (AOq ATf AtB
  (ANV AtB ATf Boz Bo0))
 show Bg';show Bc_ (AL' A6)
 refine Se;show BE Aw_ (jI wpAny_isOneOf_keyiter ATf);show bj (AWf (Ahr ANP 1 (JA+1))) BX0
 have wv :BKs (s.heap.update it (Obj.mapFields (·.setIfInBounds 1 (rawInt ((i:Int)+1))))).IsKeyIter:=
  A_R
 show BE (eA nk) (z6 (wpAny_isOneOf_keyiter (s:={s with heap:=s.heap.update it (Obj.mapFields (·.setIfInBounds 1 (rawInt ((i:Int)+1))))}) hit'.typeIs ?_));exact z7 (z7 (SH (z7 (hQ _ wv AwG))))
theorem yjw(hh:PZ)(hit:BSE)(hm:AY')(hge:FK<=i)
  (hQ:Aom BaW):AJ0 it:=by
 show T_ o ho hc hd hit;show T_ od hod hcd hdd hm;refine Ai6 (AOq ATf AtB
  (ANV AtB ATf Boz Bo0))
 show Bg';show Bc_ (Axa hge)
 refine Se;show PY Aw_ (AWf (Adn ANP 0 BA));show BE BX0 Se;show BE A5V BAd
 show APH A'N AzM (show AjS from hh) BPT;refine BOj AVc;exact z7 (hQ _ BUU)
theorem z6x(hh:PZ)(I d:Ζ)(hne:d≠I)(es:AXm)(ep:Δ):
  Walks CI w A I [I,d] [I] FK AxM (Ty h (h.IsKeyIter I d i FK ep/\Aky)) where
 CA:=BVu
 frame:=AIp st hk (A9m Bbf (hk d A7 o e))
 VS:=Bf7 (yer se st.2 hi fun h' wv hs' =>hQ _ h' LV ⟨hi,Β⟩ (A9m wv (hs'.extBut d o hne e)) (BR6 hs'.extBut))
 LW:=fun s Q E st hQ=>yjw hh se st.2 Kt fun h' he' =>hQ h' LV (BR6 he')
 RY:=ARk st hQ (wpAny_pyIter_keyiter se hQ)
theorem zz6{Q:Op At}(hh:PZ)(hsm:Atq d)(hm:AY')(hb:AyD)
  (h:∀(IF:At) (h' :AL) tk,IF=Ast (·.key) ->BM7 ->(Am7) ->Q IF kM):
  AMd AeB d:=by
 have K:W.KdlSrc CI w vz d d FK AxM (PP Aky):={
  type:=Lo hm BGn
  ASF:=Lo hm ⟨hm.lt,hm.lt⟩
  LG:=AKO hm hk (ACb hm.at (hk d WN o e))
  notList:=DB
  notTuple:=DB
  hint:=ARk hm hq (W.kdl_hint_dict BGn hq)
  NM:=AKO hh hm ⟨_,_,(fun _ _ hq=>yez hsm hm hq),z6x hh _ d (zL hm.lt) es ep,⟨ky,ACb hm.at xo⟩⟩}
 have A9:BL' "proto.collect" (IM [.B4 d]) (AHu Bhc):=by
  refine Ad_ BoG ?_;rw[ANq BoH];refine BWU;refine BRR;rw[BJC];have hm1:Ae5 (ALQ ju):=ACb hm.at xo;have hSl:=hm.lt;have hS:ACq (Ϗ ju) ju:=SE;exact W.kdl_extend (s:=AUr ju) (R:=fun r s' =>Bhc) K hh hm1 CL (ADt hSl) (ADt hSl) ADH 0 hS (fun h' tk A1 c' OU hS' ģ=>⟨h',tk,A1,c',Β,Β,OU,hS',ģ⟩) hb
 refine BTG (ALk A9 (AUv B_));obtain⟨h',tk,A1,c',er,es',OU,hS',ģ⟩:=B_;subst er es';refine BXv;show BE AJr (h As5 h' tk ?_ (zJ hS') fun b ob e=>OU b ob AZr e9);show k9
 ·rw[vn,C6,vn];exact AW3
 ·intro j q1 q2;have hj:j<AeC:=Cc q1
  show EU A6 e ģ.2 j A1[j] (fF hj)
  simp [e]
#where
def Ai:Ρ ->Hd ->Κ ->MD T
 | me,Xs,g=>Aal (Ε t) (Ai fs ts g)
 | _,_,_=>Ι
def uY :BB Ρ Hd Κ T Hd
 | me,Xs,g,t' =>Aal (t' ::ts) (t::uY fs ts g t')
 | _,ts,_,_=>ts
theorem z05(AFJ){g:Κ}{t:T}:∀{fs:Ρ} {ts:Hd} {vs:AT} {bs:Cb},BT2 ->Ai fs ts g=Ε t ->∃v b1 cs b2,Bef/\bs=AKG cs/\ApQ cs/\
  BBr ds BOg ds (Aaq (uY fs ts g t') (AOw ds))
 | [],_,_,_,_,e=>Abl
 | EH,[],_,_,_,e=>Abl
 | me,t0::ts,_,_,h,e=>by
  show BBt;show UP Ai;show A3Z;by_cases hg:g=f
  ·rw[Ch hg] at e;show DM;subst hg;refine⟨v,[],a1,a2,DC,Β,q1,fun{F' H' t' ds} s k r=> ?_⟩
   unfold uY;show Š;exact⟨v,vs',ds,a2,Β,Β,r,dQ s ts vs' a2 (q_ (k a ha)) q2⟩
  ·rw[CM hg] at e;obtain⟨w,b1,cs,b2,g1,Β,g3,g4⟩:=z05 q2 e;refine⟨w,a1++b1,cs,b2,BIw hg g1,DC,g3,fun{F' H' t' ds} s k r=> ?_⟩
   unfold uY;show BD hg;exact⟨v,vs',a1,AKG ds,Β,DC,BeE s,g4 s Bem r⟩
section
variable{X:Cx}{F0 H0:Hp}{ke FF e:AK}{es:DD}{AB ABM Qu LX HR HP x1:AX}{x f:Κ}{C:Ζ}{i:Δ}{tk tv:bZ}{tf:cW}
theorem yh3(AFJ){σ:St}{Γ:G2}{as:Cb}{fs:Ρ}{ts:Hd}{t:T}(R:Hm)(e0:AM8 Aw6)(hl:Ai fs ts f=Ε t):
  ∃a dx vs v bs b1 cs b2,AkY/\as=AXj/\Nd Azl/\ BSx f=Ε v/\bs=AKG cs/\wS/\ Am2/\ApQ cs/\
  BBr ds (∀c∈a::dx::(b1++b2),∀u,Tm c u ->H' c=Ε u) ds (AIQ (.ob C fs (uY fs ts f t')) EC (a::dx::(AOw ds))):=by
 obtain⟨o,e1,v,Β,nd,hn,r⟩:=AZK;obtain⟨a,dx,vs,bs,Β,Β,ea,ed,Lr,Xi,r⟩:=r;obtain⟨v,b1,cs,b2,g1,g2,g3,g4⟩:=z05 r hl;refine⟨a,dx,vs,v,bs,b1,cs,b2,e1,Β,ea,g1,g2,nd,hn,g3,fun{F' H' t' ds} s k rt=> ?_⟩;exact⟨a,dx,vs,_,Β,Β,AEu a ea,AEu dx ed,Lr,Xi,g4 s (bX hc (k c (by simp at hc⊢;exact KB (FM hc)))) rt⟩
#where
theorem zs4:jp fs Ρ vs AT APx (f∉fs) (nW f y (Ade vs)=(AUe).zip (vs++ [y]))
 | [],[],_,_=>Β
 | [],EH,h,_=>EN
 | EH,[],h,_=>EN
 | g::fs,AQA,h,hf=>by
  have hg:g≠f:=al (WC hf e)
  rw[ALl];unfold nW;rw[CM hg,zs4 (CC h) (al (BHz hf e))]
  rfl
def xq(C:Ζ)(i:Δ)(f:Κ)(te:bZ):aD:=Alp (Bgt (Apm as BKd))
def Cw(C:Ζ)(i:Δ)(f:Κ)(tn:qu):aD:=zt tn t (Bgt (∀cs,Apm A3e BKc))
section
variable{X:Cx}{F0 H0:Hp}{FF e:AK}{es:DD}{AB ABM HP p:AX}{x f:Κ}{C fa:Ζ}{fd:Fc}{ps:Ρ}{i k:Δ}{te:bZ}{tn:qu}{sp:Qq}{t:cW}
theorem z1l(hc:ϐ)(hn:tI)(he:BP_)(hN:K_)(hv:So)(fc)
  (hs:Ah0 SL:=by rfl):BXw Cw tn:=fun z E cx=>
 uE (DU z56 mi RA hs) (AMZ Dn Bi Bi (WA (fun t AC F1 H1 v cs R1 s1 ndc hnc rt zu=>by
  obtain⟨as,fs,ts,e0,hf,hl,Xi,q⟩:=zu;obtain⟨o,e1,w,Β,nd,hn',r⟩:=AlC;obtain⟨a,dx,vs,bs,Β,Β,ea,ed,Lr,_,r⟩:=r;refine Bhb
  have Au:On AXj BXW:=FL ⟨_,_,e0,e1,hb⟩;have dis:On AXj (b∉cs):=BdO;show A5c;obtain⟨n1,n2,n3⟩:=nd;rw[zs4 Lr hf];refine PR (AeI e0 e1 (GS (iw (ATb Ayo Afv) Ŕ a) zY) (t:= .tr (AXj++cs) BKc) (Ð _ ?_ L7) L7) s1 (q cs)
  show BIV ⟨BGo ⟨n1,BGo ⟨n2,n3⟩⟩,ndc,BU0⟩
  ·show BQv (hn' b hb)
  ·have na:BN2:=BTs;refine⟨a,dx,vs++ [v],bs++cs,Β,Β,gP,?_,CY Lr,Xi,?_⟩
   ·show AJi (WC n1 z);exact ed
   ·have m:=AaX dQ An' IP ts vs bs BMR r
    have l:=AaX AAz An' IP t v cs BZ5 rt
    exact WW m (WX l)
  ·show BQw)))
theorem Xj(hc:ϐ)(hn:tI)(he:ATy FF)(hN:K_)(hv:So)(fc)
  (hs:Ah0 SL:=by rfl):BXw xq te:=fun z E cx=>
 uE (DU z56 mi RA hs) (Aog wA wA EY (by
  obtain⟨as,fs,ts,e0,hf,hl,Xi,q⟩:=EY;obtain⟨o,e1,w,Β,nd,hn',r⟩:=AlC;obtain⟨a,dx,vs,bs,Β,Β,ea,ed,Lr,_,r⟩:=r;refine Bhb
  have nd0:=nd;show A5c;obtain⟨n1,n2,n3⟩:=nd;rw[zs4 Lr hf];refine PR (AeI e0 e1 (GS (iw (ATb Ayo Afv) Ŕ a) zY) (t:= .tr Ayo BKd) (Ð _ nd0 hn') Av7) s1 q;have na:BN2:=BTs;refine⟨a,dx,vs++ [v],bs,Β,Β,gP,?_,CY Lr,Xi,?_⟩
  ·show AJi (WC n1 z);exact ed
  ·have m:=AaX dQ An' IP ts vs bs BMR r
   have l:eZ AJ F1 (xk a An') [fq] [v] []:=WX (A3 (Hb rd))
   have:=WW m l
   rwa [Y2] at Τ))
def Je(C:Ζ)(sp:Qq)(t:cW):qu:=X0 BZE
structure Qw (BBy) (DS:AL) (x:Κ) (C:Ζ) (k:Δ) (ps:Ρ) (sp:Qq):Θ where
 ex:BSd (AQe DX)
 non:∀ds Q Ex,AxG Q Ex ->AxG (fun t d=>d= B8/\Q t d) Ex
theorem yjy(G:Qw Fr X.w AJ ċ cy x C k ps sp)(hr:AKL)(hg:KG)
  (ha:Si) (sT):
  AIu sQ (Je C sp t):=by
 obtain⟨f,fd,Fn,M,hm,hb⟩:=Ģ;show AFj;refine ApN;refine Adr (h₀:=cy) Ads M.kp (Amn (AqP BZE) Cm) he hpl;obtain⟨vs,H1,I1,r,F1,AC,ds,R1,sF,rs,q⟩:=Cm;refine Ai';have I2:=BSq I1;show E2 n1 (yv Zs) AlS n2 AkT AlR ne BM6 An4 kp BZ0 AX1;show E2 sH (MC H1 AO0) BTD hid (jg BNU AO0=H1) (by
  funext b
  by_cases hb1:b=pv
  ·subst hb1;rw[zs9 A7,n1]
  ·by_cases hb2:b=EJ
   ·subst hb2;rw[zs9 A7,n2]
   ·rw[z6l (by simp [hb1,hb2]),bU hb1,Aj0]) hs (DX AJ sp BQO AO0 BMO (fun C' Nx H' =>∃B5 F' x,A5p /\qc F' /\A'_/\ (x.bare=x\/Mn AjA (AHL B5 b))/\E B5 x)) (by
  refine⟨F1,pv,[EJ],.ob C [] [],ds,vs,_,_,Β,A1s,CY ne.symm,L7,?_,rs,G.non _ _ _ q,?_,?_⟩
  ·have:AjA:=by
    show ARK
    ·exact n1
    ·show AP4;exact n2
   exact R1.g.free Τ
  ·exact⟨_,_,[],[],Β,Β,gP,A2g,Β,Β,Ax8⟩
  ·rintro t' d v cs F' H' gr nd hn rt rv ⟨ed,hp⟩;rw[hid] at gr hn;subst ed;exact⟨rv,kk t' AC F' H' _ _ AOY Ahc nd (Nn (Aw0 AJl ϰ ϰ)) rt hp⟩
  ·intro x C' Nx t' cs F' H' gr nd hn rt xr hE;rw[hid] at gr xr;exact⟨AC,F',x,ALr gr,OS,xr,Aye R1.apart,hE⟩) hl (AN2 AWW) (by
  have e:=AVZ hs;rw[GM,<- Pp,<- GM (a:=AwJ),e])
 show BhP;refine ALk (BCL AuH AWW BSS hs) (AUv hq');cases r with
 | oB e=>
  refine cx.pX Ξ σ AC F1 H1 s1 e s' I1 R1 BMc;have u1:BT5:=BYi;have u2:Bb2:=BMX (by rw[bU ne.symm];exact n1)
  exact Asq u2
 | ok Ww =>
  cases Ww with
  | ret u=>
   obtain⟨v,H',I3,rv,ev,q3⟩:=I2.after hq';subst ev;exact⟨rv,BT1⟩
  | L_=>show ϝ
  | brk=>show ϝ
  | RU=>show ϝ
#where
def Jf(BaD dw):bZ:=ku (ϴ (C' =C/\AFH/\A5_))
section
variable{X:Cx}{F0 H0:Hp}{o:AK}{AB LX:AX}{m:Κ}{C:Ζ}{ps:Ρ}{k:Δ}{sp:dw}{te:bZ}
theorem yc1(G:ApJ BR)(hc:ϐ)(hr:ţ)(ho:APu)
  (ht:AJY Anu (do
   let ov<- V_ o
   AFS
   let (f,first)<- AFa AQ8
   AFv wp (ļ []) AKF):=by rfl):
  Ee Anu (Jf C m sp te):=by
 show AnQ fa Fn hm hb;show AFj;refine A_O (ϴ (C' =C/\AFH/\A5_)) Cm
 obtain⟨x,H1,I1,rx,F1,AC,d,R1,sF,rd,q⟩:=Cm;cases d with
 | obj C' fs ds=>
  show Aml q q;show Ap2 (AqI I1 LZ Qd) (Bo1 (wp:= N9) ABG hm.kp ?_);exact Pr (us:= N9) (vs:= N9) Fn hr hb cx I1 R1 A2o (qT Qe Iy) q (ApI (kk d AC F' H' v AOY Ahc rv hp))
 | _=>show ze
#where
def rK:Ρ ->Κ
 | []=>HM
 | L8=>x++rK xs
theorem zqv(x:Κ):BKO=x:=by show AE x x x x x x x x x x x x x x;refine(?_:AtC _ _=_);unfold AtC HM;simp
theorem z1x:Ak8 (Str.join HM xs=rK xs)
 | []=>Β
 | [x]=>UH zqv x
 | x::y::r=>by
  show C8 (BKO++Str.join HM (y::r)=x++rK (y::r));rw[z1x (y::r),zqv]
theorem zxi:Os xs Ρ AO At (A3m AO) (∃l:AMK Tok,AO=strValues l/\E3 (·.1)=xs)
 | [],_,EE=>KI [] Β
 | L8,_,.AY h r=>by
  show No h;show BI l Β e zxi r;exact KI ((x,t)::l) (CY e)
def wC:Ρ ->Δ
 | []=>0
 | L8=>AeJ+APs
theorem z2q:Ak8 (C7 rK xs=wC xs)
 | []=>Β
 | L8=>by
  show(AtC x (rK xs)).VM=_;unfold AtC AsE;rw[BGj];have:=z2q xs;unfold AsE at Τ;rw[Τ];rfl
theorem z2a:∀(xs:Ρ) (a:Δ),xs.foldl BZW a=a+APs
 | [],a=>Β
 | L8,a=>by
  rw[List.foldl_cons,z2a xs];show C8 (a+AeJ+0+APs=a+ (AeJ+APs));show AA
def NQ(mT):bZ:=ku (i' AXR (∃xs:Ρ,ds=YU Ÿ/\APs<1000/\GV BOn))
section
variable{X:Cx}{F0 H0:Hp}{e:AK}{LX HR spos:AX}{j}{te:bZ}
theorem yjp:MtR X "str.join" (fun x vs H Q=>∃(p:Ζ) (xs:Ρ),x= .AS HM/\vs= [Wp]/\AIO p AIM/\APs<1000/\Q BOn H):=by
 rintro Ξ s σ H x xs v us Q I rx rs ⟨p,ts,e1,e2,hq,hl,q⟩;subst e1 e2;show W_;show EM u Β ru rs.one;show AE ru ru ru ru ru ru ru ru ru ru ru ru ru ru;obtain⟨AO,rv,pl,_⟩:=ADh;show BI l Β el zxi rv;refine AS1 Bo2 (ASw _ _ _) PySem.F.entry_str_join (PySem.F.args_str_join_2 _ _) (meets_str_join_list HM t p l ?_) (C3 dC)
 ·rw[el];have:ts.toArray.foldl BZW 0=wC ts:=AV6 List.foldl_toArray z2a
  rw[Τ];unfold Builtin.Str.tooLong;have:Ay2:=DB
  simp;show AA
 ·have abY:BGp HM ts=BGp HM ts:=Β
  match l,el with
  | [],el=>
   show AE el el el el el el el el el el el el el el;exact⟨by show LN 0<=_;show AA,.AS (rK []),H,ACO,D_,q⟩
  | [(y,t')],el=>
   show AE el el el el el el el el el el el el el el;refine⟨.AS (rK [y]),H,I,C3 t',q⟩;show C8 (Aq6 y t' = .AS (y++HM) t');rw[zqv]
  | a::b::r,el=>
   have e:Builtin.Str.glued HM ((a::b::r).map (·.1))=rK ts:=by rw[BGp,z1x,el]
   show D' (Tx (Builtin.Str.glued Str.empty ((a::b::r).map (·.1))))/\_;rw[e];refine⟨?_,.AS (rK ts),H,ACO,D_,q⟩;rw[z2q];have:Ay2:=DB
   show AA
theorem yir(he:RF)(hemp:AdU "" =HM:=by show dk)(OQ:Ah6 Ao0 "join" Ao0 Ao0:=by rfl)
  (wE:UB (AlY [e] (! x.1)&&Aoi) (Ap5 (Tx [e]) 30):=by rfl)
  (Rc:z_:=by rfl) (hs:AMj [e] e:=by rfl):
  Ee (xx (xN Ao0 "join") [e]) (NQ te):=fun z E cx=>
 nQ (ylv (X:=AG0) (T:= AKp) (id:= "str.join") PySem.F.plainAttrs_str Bo2 PySem.F.type_str_join yjp (DU yf9) (KQ RA O5 hs) OQ wE Rc hs Β) (d6 Bi (by
  show M0 Bi;rw[hemp];refine⟨Β,F,Γ,_,R,h,BQs ?_⟩;split at h1
  ·show é r1;show Fh xs Β hl hp h1;have:vs=YU Ÿ:=W8 rs (by
    clear hl hp rs;induction xs with
    | DL=>rfl
    | AY x xs ih=>rw[FA];unfold pJ;rw[ih];rfl)
   show gE;exact⟨a,xs,Β,Β,ADQ,hl,AuK Iy hp⟩
  ·show k_))
#where
theorem zuu:Ahu "proto.unchain" Builtin.«proto.unchain»:=entryFor_of_fast (by kernel_rfl)
section
variable{CI:A0}{w:Ap}{A:BQ}{E:dM}{s:AF}
theorem zvx(hh:A6Z)(ho:A0l)(hd:Akz)(h2:AVs)(ne:a≠e)(he:MY e=Ε oe)(hde:Adk= AHD ws)(hz:2<ws.size)
  (h:Ahi (Zl (AGe e (Obj.mapFields (·.setIfInBounds 2 (.ref a)))))):AMd (As3 (α:=α)) e:=by
 simp only [As3];refine AzM;rw[hh];have hne:(AMy !=U' e)=Μ:=CY ne
 simp only [hne,c_];refine AIw (BGD (Ad_ zuu ?_));unfold Builtin.«proto.unchain»;refine Biw ho h2;show DJ Ψ
 refine AIb;refine z6 (z6 (Arm he ?_));rw[hde];refine(?_:AUh (AN5 (2<ws.size)));show DJ hz;exact wpAny_update he (BFn h)
#where
structure Cy (BBy) (DS:AL) (C:Ζ) (m:Κ) (k:Δ) (ps:Ρ) (sp:tH):Θ where
 ex:BbE (AQe w6)
theorem Cy.mt(BgB C Ζ){m:Κ}{k:Δ}{ps:Ρ}{sp:tH}(G:Cy P w K mg DS C m k ps sp):BR P w K mg DS C m k ps (Gb sp):=by
 obtain⟨f,fd,h1,h2⟩:=Ģ;exact BY2
def Cz(BaD tH):qu:=ku (ϴ (C' =C/\AFH/\BjK (B6 t (GV t))))
section
variable{X:Cx}{F0 H0:Hp}{o:AK}{AB LX:AX}{m:Κ}{C:Ζ}{ps:Ρ}{k:Δ}{sp:tH}{te:bZ}
theorem z1s(G:ApJ Cy)(hc:ϐ)(hr:ţ)(ho:APu)
  (ht:AJY Anu (do
   let ov<- V_ o
   AFS
   let (f,first)<- AFa AQ8
   AFv wp (ļ []) AKF):=by rfl):
  AIu Anu (Cz C m sp te):=by
 show AnQ fa Fn hm hb;show AFj;refine A_O (ϴ (C' =C/\AFH/\A5_)) BfQ
 cases d with
 | obj C' fs ds=>
  show Aml q q;show Ap2 (AqI I1 LZ Qd) (Bo1 (wp:= N9) ABG hm.kp ?_);have hs:w6 AJ sp N9 H1 Q Bc2:=⟨F1,_,_,_,LZ,qT Qe Iy,q,BhS,fun x C dx F' H' hE gr xr=>⟨x,F',hE,gr,xr⟩⟩
  have hl:AN2 ([AMy]++ []):=r6 Y2 AVZ hs
  have hbs:=hb s1 N9 ABG hl;show AOu;refine AaR (ATC X.A MX s1 H1 Ag7 N9 N9 Q _ hr I1.env0 hbs) A2o AZV;cases r with
  | oB e=>exact ALt Ξ σ AC F1 H1 s1 e s' I1 R1 hq
  | ok fl=>
   cases fl with
   | ret u=>exact I1.after hq
   | L_=>show lP
   | brk=>show lP
   | RU=>show lP
 | _=>show ze
#where
def Gf:D ->ü (GH×AQ)
 | ABt xs=>Ε (ks,xs)
 | A3j=>Ε (ks,xs)
 | _=>Ι
def gM:GH ->AQ ->Key ->AJP
 | AkX,L8,k=>Nl k' k (Ε x) (gM ks xs k)
 | _,_,_=>Ι
theorem NT(OH){d:D}{v:V}{ks:GH}{xs:AQ}(h:AgQ d)(r:Sb):∃a vs,v= B'/\Rd F a ō/\kL/\AIJ:=by
 cases d with
 | dic ks' xs' =>
  cases (h);show Ŀ a vs e l rs r;exact⟨a,vs,Β,.D6 e,l,rs⟩
 | dik ks' xs' =>
  cases (h);obtain⟨a,o,vs,Β,e,l,rs⟩:=r;exact⟨a,vs,Β,.BO (We e),l,rs⟩
 | _=>show OE
theorem zqn{K:AD}{F:Hp}{k:Key}:BgP ((∀d,A5g xs ->Alh BeJ)/\ (gM ks xs k=Ι ->nF ABk k=Ι))
 | [],xs,vs,_=>by
  refine BZV;show HI
 | EH,[],vs,r=>by
  subst r;refine BZV;show HI
 | AkX,L8,vs,r=>by
  show AaQ;have ih:=BZX k r2;show AiG nF;show BJp;unfold gM;by_cases q:k' =k
  ·refine AJI (Cf d h) ?_
   ·rw[Kk] at h;show HI;exact⟨v,CY q,r1⟩
   ·show AWt Kk
  ·show BD q;simp only [q,AtA];exact ih
def Ls:Hn:=tJ (∃ks xs k d,Fu Gf (ks,xs)/\y=nY k/\A5g xs/\P d)
def Lx(neg:AU):Hn:=tJ (∃ks xs k,AgQ y/\x=nY k/\WP (DH neg (! AmF) AmF))
def NZ(td ty tx:bZ):bZ:=Zp td d (A_x (Ŷ ty kd (tx BF (fun df Γ3=>∃k,kd=nY k/\P ((gM ks xs k).dL df) Γ3) E)))
def z2t:Sn:=AHd [d] (A_x (Sj OR))
section
variable{X:Cx}{F0 H0:Hp}{a b o e f:AK}{AB LX HR:AX}{ta tb td ty tx:bZ}
theorem z7k(hu:ft)(ha:bi)(hb:ŵ)(hs:KY b:=by exact AJj):Ak4 a b (cB Ls ta tb):=fun z E cx=>
 nQ (DU z48 hu E8 OB hs) (NH Ey Ey (Aa_ (by
  obtain⟨ks,xs,kk,d,e1,Β,hl,hp⟩:=h2;show Ŀ c vs ec hkl rs (NT e1 (AGk s2));have ev:=Kg r2;subst ev;show GA v hv rv (zqn rs).1 d hl;exact⟨c,v,Β,AxO R2.g hv.symm,BjH rv hp⟩)))
theorem ynw(hu:ft)(ha:bi)(hb:ŵ)(hm:AuI .In):kQ (.Ac8 a [.In] [b] AB) (NC (Lx AG) ta tb):=fun z E cx=>
 Pj (DU z9g (DU yl4 hu E8 OB) hm) (NH Ey Ey (Aa_ (by
  obtain⟨ks,xs,kk,e1,Β,hp⟩:=h2;show AKU r2;have ev:=Kg r1;subst ev;refine Bc1;rw[zzf hkl];exact k _ BF F2 H2 R2 kN hp)))
theorem yhx(hu:ft)(ho:Ee o td)(he:AJT ty)(hf:Ee f tx)(m:Bg2):Ee (xx (xN o "get") [e,f]) (NZ td ty tx):=fun z E cx=>
 nQ (AZi ye7 (NX ho) RA hf ⟨m.base,m.few,m.line,m.trees⟩) (NH Ey Ey (AMJ d1 v1 (by
  obtain⟨ks,xs,e1,h1⟩:=h1;show AKU r1;exact⟨c,Β,.D6 (Fk AlX),F1,AC,_,R1,h1,AU2 d2 v2 ⟨F2,BF,_,R2,h2,fun d3 Γ3 F3 H3 v3 R3 s3 r3 h3=>by
   show bv kk hp h3;have ev:=Kg r2;subst ev;have q:=BZX kk (ALz (Ğ s3));refine XT (AxO (Ana R3.g) Β);cases el:gM ks xs kk with
   | Ι=>
    rw[q.2 el];rw[el] at hp;exact k d3 Γ3 F3 H3 v3 R3 AlW r3 hp
   | Ε d=>
    show EM v hv rv (q.1 d el);rw[hv];rw[el] at hp;exact k d Γ3 F3 H3 v R3 AlW rv hp⟩⟩)))
theorem yfq:AJz iE z2t:=by
 show mv;show De z2t;split at h
 ·show AIV rd rs;show Fh ks xs e1 h h;show AKU rd;show Sr;show LU;refine yn1 I (J7 sF ec) fun t s' I' =>⟨.AN OR,H,I',C3 t,ub⟩
  show AVr hkl
 ·show GW
#where
section
variable{X:Cx}
theorem zwz(he:mP)(I:AW)
  (h0:te σ H Q0) (h:∀v H1,Q0 v H1 ->∃a AI,v= B'/\Rd H1 a P8/\∀(s1:AF) (ws:A0v) (ep:Δ) (r:Ζ),tS (AJO s1) AfO AUi A0e AmV (s1.heap.IsValuesView r a) (M1 r s1))
  (OQ:Aft) (Rc:z_):
  AHF (pe Afw) Q:=by
 refine A'4 (ABY he _ I h0);obtain⟨x,H1,I1,r1,q0⟩:=B_;obtain⟨a,AI,ex,ea,q⟩:=h x H1 q0;subst ex;show A4g;show BBj ea;refine BaM;obtain⟨hz,_,ws,kv,dd⟩:=AlP J6;refine Ada BGk hT Bop (Boq _) (Bor AM_ a hsm) (C3 ⟨ws,dd⟩);obtain⟨o,es,ep,h1,h2,h3,h4⟩:=id dd;have hm:AmV:=A'r h1;have vw:A0u (Awn Bot):=ky;exact q _ ws ep _ (Arh yo) hsm hz kv AyR vw
theorem z4y{ks:GH}{vs:AT}{ws:A0v}{A1:Ki}(hkl:kL)(kv:KV (dP vs) ws)(h1:AeC=LM)(h2:∀(i:Δ) (u:AH),E4 A1 u ->∃k,E4 ws (k,u)):IY vs As5:=by
 have hl:=ATd;show BVF hl;refine Bc' (by show XE (acc.toList.length=AeC) vn;show AA)
 show EU k e3 h2 i u BO6
 show EM v e4 r (Qm kv e3);have:=(Tr e4).2;show DF e1;show IN;exact r
theorem yb5{e:AK}{te:TE}{LX HR AB p:AX}(hc:FX)(hg:Gl X IC)(hm:KF IC)(he:mP)(BQY)
  (AqN):
  PE X BKa (O0 te v (∃(a:Ζ) (ks:GH) (vs:AT),v= B'/\Rd H1 a ō/\kL/\Bbh aI)):=by
 show Do Q;refine ARF (ö hb) Ψ Ψ
 show A8L (Ayi ?_ he2);refine zwz he I h BTJ OQ Rc;obtain⟨a,ks,vs,ev,ea,hkl,q⟩:=hq;refine⟨a,dP vs,ev,ea,fun s1 ws ep r I1 hsm hz kv hd vw=> ?_⟩;refine AjG;show A6P;refine W.kdl_call (BBi Bo3) (I1.ok.hd hc) A6d Η fun h' tk A1 c OU hg hac=> ?_
 have hv:=z4y hkl kv hac.1 hac.2;have Iv:=hv.length;show BVF hz;have I2:BS7 (Be_ aI):=
  AFd ALa OU Kt aI (BWm Υ)
 exact MR Ax2 I2 (q _ AuE)
theorem ykw(hc:FX)(hg:Gl X vb)(hm:KF vb)(he:mP)(hb:AUS vb (P4 vb):=by show dk)
  (AqN):
  PE X (yA vb Afi) (O0 te v (∃(a:Ζ) (ks:GH) (ns:Bz),v= B'/\Rd H1 a (.dK (dP (wP ay)))/\OR=HQ/\Q BlF H1)):=by
 show Do Q;refine ARF (ö hb) Ψ Ψ
 show A8L (BEQ ?_ he2 Β);refine zwz he I h BTJ OQ Rc;obtain⟨a,ks,ns,ev,ea,hkl,q⟩:=hq;refine⟨a,dP (wP ay),ev,ea,fun s1 ws ep r I1 hsm hz kv hd vw=> ?_⟩;refine AjG;show A6P;have hlk:LM=HQ:=by rw[<- Tt,AeH,C6,<- hkl,AMD]
 have K:=BBi (P9 Bo3 CI Fr w X.w r r d a);refine call_sum_walkAnyS ?_;obtain⟨oI,St,hit,W,st⟩:=K.iter X.A.in1 s1 (I1.ok.hd hc) A6d;refine hit _ _ ⟨EJ,_,_,_,_,_,_,HH ACa,Β,W.toS,st,L7,AV i u hu,AV s' t' hm'⟩
 ·show Axf;rcases Cn hb with e | hb
  ·rw[e];show AYW
  ·show AP4;show APA (K.there _ A6d).2
 ·obtain⟨k,e3⟩:=hu;show EM v e4 rv (Qm kv e3);have e5:=(Tr e4).2;rw[GN] at e5;cases en:ns[i]? with
  | Ι=>show MO en e5 e5 e5 e5 e5 e5 e5 e5 e5 e5 e5 e5 e5 e5 e5
  | Ε n=>
   rw[en] at e5;show AE e5 e5 e5 e5 e5 e5 e5 e5 e5 e5 e5 e5 e5 e5;show Ř (BC_ (ZA i 0) t);show ϗ en;exact rv
 ·have hk:Bjg As8:=Of (hm'.heap b o (B6 hI (lf zJ e (by show fA hI;exact yX _))) e9)
  rw[hlk,z9j ns _ (Ty _ Β),Moved.eq_with hm'];exact zod (s:=s1) (v:= .AN ns.sum) I1 hk D_ q
#where
def CG(mT):cW:=ku (A_x (GV xs))
def N5(mT):bZ:=ku (∃ks xs ns,AgQ d/\Alq/\GV BlF)
section
variable{X:Cx}{F0 H0:Hp}{e:AK}{LX HR AB p:AX}{te:bZ}
theorem z0m(hc:FX)(hg:Gl X IC)(hm:KF IC)(he:RF)
  (AqN):
  ACW BKa (CG te):=fun z E cx=>
 nQ (DU yb5 hc hg hm RA SV OQ Rc he2) (d6 wA (by
 show M0 wA;refine fR ?_;obtain⟨ks,xs,e1,h1⟩:=h1;show AKU r1;refine⟨c,ks,vs,Β,AlX,hkl,AvV⟩;obtain⟨R2,q1,q2,q3,ap⟩:=Hi R1 hq0 rs;exact k _ AC F1 _ q _ R2 s1 q1 q2 q3 rs ap h1))
theorem yih(hc:FX)(hg:Gl X vb)(hm:KF vb)(he:RF)
  (AqN):
  Ee (yA vb Afi) (N5 te):=fun z E cx=>
 nQ (DU ykw hc hg hm RA SV OQ Rc he2) (d6 wA (by
 show M0 wA;refine fR ?_;obtain⟨ks,xs,ns,e1,hns,h1⟩:=h1;show AKU r1;show AQn zj5;exact⟨c,ks,ns,Β,AlX,BHi hkl,AWm Iy⟩))
#where
theorem yms(OH)(k:Key):EA K F (nY k) (kV k):=by
 cases k with
 | D6 i=>rfl
 | BO x=>rfl
def N6(tn:qu):bZ:=Anz (İ t è (GV BVX))
section
variable{K:AD}{F0 H0 F H:Hp}{σ:St}{Γ:ADu}
open Ĝ in
theorem SR.nailU{w:HO}(R:Hm)(hn:AX3 A_g):
  ∃F',F_ /\xI F' (AYg w)/\IL F' w/\ (WE bs (SW ->∀u,AEX ->MI F'))/\A_w AHp:=by
 have sF:xC (AfJ AXP (AuG H F)):=SS (by
  show av (ARf AXP H F);show gu (Ev (Ak2 BIz)) (BY6 hb)
  exact e)
 refine⟨_,sF,Bds R.chg w sF (K0) BZe,EF,FY b hb z u hu,L7⟩
 ·show AFc (ARf AXP H F);by_cases hb:b=a
  ·subst hb;rw[EF] at e';rw[gP];exact e'
  ·rw[AIZ] at e';rw[bU hb];show Ë
   ·exact e'
   ·exact R.g b u e'
 ·show AFc (ARf AXP H F);show Ao7
  ·subst hb;exact(hn b zY).2
  ·rw[AIZ] at e';show BeX e' e' e' e' e' e' e' e' e' e' e'
 ·exact XI Pi z (XI AAj hb hu)
 ·rw[û,not_or] at hb;exact XI Pi hb.1 (Pi hb.2)
theorem SR.nail(R:Hm)(nd:Azv)(hn:AX3 A_g)(ea:Nd ō)(hkl:kL)(r:BT2):
  ∃F',F_ /\xI F' (AYg AhC)/\AMb BVX EC/\A_w AHp:=by
 obtain⟨F',sF,R',e,k,k2⟩:=R.nailU (w:= .frz o ō) hn;exact⟨F',sF,R',⟨a,o,vs,Β,e,hkl,ALn sF ts vs bs (bX hc (k c hc (AEP AI4 hc))) r⟩,k2⟩
#where
section
variable{X:Cx}{F0 H0:Hp}{e:AK}{st:AR}{tn:qu}{ts:aD}
theorem yg4(he:AOf):AJT (N6 tn):=A6J (by
 show M0 hq;refine bV (Ags he (BMQ (∀o,Q EC A0a)) I A9d) A0Y
 ·split at h1
  ·rename_i ks ts;show AKk;refine l7 a ea (Sk o);obtain⟨F',sF,R2,rp,_⟩:=R1.nail (o:=o) nd hn ea hkl r;exact k _ AC F' _ _ R2 Ajx rp h1
  ·show k_
 ·obtain⟨x,H1,I1,r1,a,AI,ex,ea,q⟩:=B_;subst ex;show HA AMW r1;obtain⟨_,_,ws,kv,o,es,ep,h1,_⟩:=AlP Vr;exact MR B' (zyl I1 ea h1) (q o))
#where
def Xk(i:Δ)(tk tv:bZ):aD:=zt tv d ((∃as t,AU_ (.tr as t))/\Ŷ tk kd (∃k as ks xs,kd=nY k/\E4 BF (Avp AX')/\ACc OR/\VC (Γ2.set i (.tr as (.dic (jx ks k) (pd (gj ks xs k d).map))))))
section
variable{X:Cx}{F0 H0:Hp}{ke FF:AK}{AB ABM HP :AX}{x:Κ}{i:Δ}{tk tv:bZ}
theorem yc4(hu:ft)(hN:K_)(hv:So)(hk:Ee ke tk)(hval:A6s)(hs:AZM SL ke:=by rfl)
  (fc):AWd (ANa SL ke) (Xk i tk tv):=fun z E cx=>
 uE (AZi zvg mi AyI hval hs) (Aog B_ B_ Bi (by
  obtain⟨⟨as,t,e0⟩,q⟩:=Bi;obtain⟨o,e1,w,Β,_⟩:=AlC;refine⟨w,e1,F1,AC,_,R1,q,fun kd BF F2 H2 y R2 s2 rk q2=> ?_⟩;obtain⟨kk,as',ks,xs,Β,e2,hl,q2⟩:=q2;obtain⟨o,e3,w',Β,nd,hn,r⟩:=BOt;rw[e1] at e3;show AqZ;show AKk;show D1 Β rs zkg r;show Am1;subst ev;refine l7 a BZ9 ?_
  rw[zt4 hkl];refine PR (R2.wrT e2 e1 (GS (iw (A1o [a] AX') Ŕ a) zY) (t:= .tr [a] (Bj6 kk kk)) (Ð _ nd hn) Av7) (AA' s2) q2;exact⟨a,_,[],Β,Β,gP,zzd hkl,Qj (zp0 rs (rd.up s2))⟩))
#where
def zuf:UA:=AHd [d] (∃xs:Ρ,∃ys,Gf d=Ε (YU KB,ys)/\AeG/\BN<64/\∀ms:Ρ,ATM xs ->Avc ->AWA Ÿ)
inductive DY (ARn):Θ
 | mk:∀(q:Ζ) (AI:sK) (xs:Ρ),A1T ->(Rd H q P8) ->Hk (kvs.map (·.1)=xs.map .inr) (AeG) (BN<64) (BcZ (ATM xs)) (AHz DY)
def Qx(X:Cx):ë:=AQb DY
theorem z3c(ï):AB_ U2 (Qx X):=by
 rintro Ξ s σ H xs us Q I r ⟨q,AI,ys,e0,hq,hk,nd,h64,k⟩;subst e0;show Sr;show AAX;obtain⟨hz,hsm,ws,kv,ob,es,ep,hd⟩:=J6 KS hq;obtain⟨ho,hec,hdt,hko,hpr,_⟩:=hd;show A6P;have hlk:Ą=MZ:=Cc (NJ AAu hk)
 show HL hls (FK=LM) (AVV hpr.length vn) line AXu DB (zm0 (zz6 BO8 hsm ⟨ob,ho,hec,hdt⟩ Η fun IF h1 tk hv A6 OU=> ?_))
 show HL rv (IY (AME AGq) IF) (by
  have l1:C7 AME AGq=MZ:=C6 ..;have l2:BKM:=BH5 hv vn
  refine zgb Η (FY i x u e1 e2)
  show AW5 hv e2;cases ee:ArC[i]? with
  | Ι=>show MO ee e2 e2 e2 e2 e2 e2 e2 e2 e2 e2 e2 e2 e2 e2 e2
  | Ε e=>
   rw[ee] at e2;show AE e2 e2 e2 e2 e2 e2 e2 e2 e2 e2 e2 e2 e2 e2;have hi:i<LM:=by
    have:=QP ee;show BHL;show AA
   have e3:E4 ws fg:=zZ hi;have e4:=(hpr.get? ee e3).1;obtain⟨v5,e5,_⟩:=Qm kv e3;have e6:E4 (kvs.map (·.1)) fg.1:=Azu e5
   show AW5 hk e6;rw[GN] at e1;cases ey:ys[i]? with
   | Ι=>show MO ey e1 e1 e1 e1 e1 e1 e1 e1 e1 e1 e1 e1 e1 e1 e1
   | Ε y=>
    rw[ey] at e1 e6;show AE e1 e1 e1 e1 e1 e1 e1 e1 e1 e1 e1 e1 e1 e1;have e7:fg.1= .BO y:=Cc e6.symm
    have e8:uK fg.1 e.key=Μ:=e4;rcases Dz e8 with ⟨j,t,z,_⟩ | ⟨x,t,z,zz⟩
    ·show AWu e7
    ·rw[e7] at z;show Lw;refine(?_:KO (AGq y) e.key);rw[zz];exact AQZ) Iv BKL BLi (Bgj nd)
 have hlt2:AkP:=zP (č A6) hle;have hix:AZN BS9:=RC (by
  rw[C6,<- Iv];exact R_ (BGh hi))
 show Bei
 have hms:(ik HM ys is).TU ys:=zt9 (UK Iv a1)
 have FI:BQ2:=BJX
 have I2:A3v Ajq:=
  AFd vy (BBf OU) hlt2 (FG Ajq) (A_7 hl)
 exact MR SZ I2 Bd8
section
variable{X:Cx}{F0 H0:Hp}{a:AK}{AB p:AX}{t:cW}
theorem z0s(hc:FX)(hg:Gl X U2)(hm:KF U2)(ha:ADi)(BkA)
  (he:AMj [a] a:=by rfl):AWa (AWR U2) zuf:=fun z E cx=>by
 refine A6H z3c E8 he
 show M0 B_;refine jn ?_;unfold zuf at h1;split at h1
 ·show AIV r1 r1;obtain⟨xs,ys,e1,nd,h64,h1⟩:=h1;show AKU r1;refine⟨c,_,xs,Β,AlX,?_,nd,h64,FY l2 ms hl2 pm pw⟩
  ·rw[List.map_fst_zip Η]
  ·obtain⟨R3,q1,q2,q3,ap⟩:=Hi R1 hl2 (W9 (K:=AJ) (F:=F1) ms);exact BAx W9 pm pw
 ·show k_
#where
theorem hu1(h:n+21<n_):n+1<n_:=zM (Nat.add_le_add_left (APg (1<=21)) _) h
theorem qv(i:Δ)(hN:K_:=by exact Β)(hv:So:=by first | exact AtD Β | show BVm | show BVn)(fc):Ee tw (cV i):=ymm hN hv hd hcd
#print _3
namespace _Hd
open IR AKn Aqp KK
theorem ybz{l:Axm}{i a:Δ}(e:ACr (Ht i l).AGX):∃k,a=i+k/\Iq l k o/\Me o.isFreed:=by
 induction l generalizing i with
 | DL=>show AO3
 | AY b r ih=>
  show UP Ht;split at e
  ·show BI k hk hr ih e;exact⟨k+1,Υ,hr⟩
  ·rename_i hf;rw[Y'] at e;split at e
   ·show Kj;show DM;exact Lu 0 (AGW q) hf
   ·show BI k hk hr ih e;exact⟨k+1,Υ,hr⟩
theorem ymt(h:AL)(n:Δ):(cut h n).In h:=Jn e (by
 obtain⟨k,hk,hr,hf⟩:=ybz e;rw[hk,BGE];exact Heap.get?_some_iff.mpr ⟨Qb Asr hr,hf⟩)
noncomputable section
theorem size(Aad):((AKq AKr).isNs my&&(BCg []:ϋ).size==0,(AKq AKr).ć,(AKq AKr).nsMap my "__annotations__")=(Μ,11,ann):=lI
theorem left
  (e:opening p=plainProg p.main.scope.names) (f:∀s,fenceModules? p s=Ε s)
  (hA:∀w os,ATg Pf p w 11 ann 12 A3' Az0=Ε (Bed,⟨denote Pf (cB p),cB p,z,AZ'⟩))
  (hB:∀w os,segRun Pf p w 11 ann 1 1 Bev (blockOf Azz (BV p) (cB p) z AZ')=Ε (AC_,Bed,cB p,z))
  (hC:∀w os,(Ta (fore Pf ATg p w os)).abs=fore Pf ATg p w os)
  (hD:∀w os,shot Pf ATg segRunT topRun execs p (GY openSeen p q YA Xt obs n w) w os=Ε (BSl (cB p) (openGood q YA))):
  Bfh p Xt:=HG (by
 obtain⟨⟨h,gs,d,k,os⟩,e1,e2⟩:=zG.mp (boot_open (N:=40000) e Ψ f w)
 obtain⟨Β,Β,Β,Β⟩:h=AKq AKr/\gs=BCg []/\d=boot_drawn/\k=boot_toks:=Cc e2
 obtain⟨z1,z2,z3⟩:_/\_/\_:=by simpa only [Prod.mk.injEq] using size w
 obtain⟨⟨fl,S,c,ps⟩,r1,r2⟩:=Bo4 (hD w os);show BI s t1 t2 zG.mp r2;show D1 u1 u2 Acq t2;show D1 v1 v2 Acq u1;show D1 y1 y2 Acq u2;show Ayu y3 y4 y2;subst v1 v2;have g1:topRun Pf p w 11 ann (30000+2) Bev (restOf (Blo p++ []) (BV p) (cB p) z AZ')=Ε s:=
  piece_app (by have:=segRun_of r1;show DF (hC w os);exact Τ) (piece_nil t1)
 rw[Y2] at g1;have g2:=go_top (hA w os) (piece_block (hB w os) g1);have g3:=topRun_mono (40000 - (12+ (1+ (30000+2)))) _ _ _ _ g2;unfold openEnds;rw[e1];show B7 (topFrom Pf p w 40000) A3' _=_;unfold topFrom S0;dsimp only;rw[z1,z2,z3];have g4:topRun Pf p w 11 ann 40000 Bd1 Az0=Ε s:=g3;rw[g4];show(AOt BhJ (Ε s) Ι).map _=_
 rw[y1];show C8 (Ε (Be6 openSeen,AxN)=_);rw[y3,y4])
#where
open _2 _3
theorem adr_of(h:ABq isRef):x=Ε (Dx (Bn (adr x))):=by
 show De isRef;show NG
 ·rfl
 ·show OE
theorem ix{_:BGq p}(h:allB l=Μ)(i:Δ)(e:nth l i=TC p):p:=by
 refine wT (Bo5 ?_);clear e;induction l generalizing i with
 | DL=>rfl
 | AY b l ih=>cases b with
  | AG=>show OE
  | Μ=>cases i with
   | Re=>rfl
   | Rl i=>exact ih h i
theorem zxg{K:IU}{f:Ζ}{FE:Κ}{g:Fc}(h:fnO K f FE=Ε g):∃oc od fd sl,AoY (.func fd) sl/\codeIn K fd.code FE=Μ/\ZU keepIn Lc/\Gc fd=g:=by
 show De fnO;split at h
 ·rename_i oc od fd sl e;split at h
  ·show Kj;show D1 q1 q2 Bo6 q;exact⟨oc,od,fd,sl,e,q1,q2,zH h⟩
  ·show OE
 ·show OE
theorem z8w{fd:Fc}{x FE:Κ}{st:AR}{dV:AH}(h:Gc fd=fnOf x FE AIf sL Ĳ dV BA BA BA Ι BA BA):
  fd=fnOf x FE AIf sL Ĳ dV fd.kwdefaults fd.doc fd.pyModule fd.annotations fd.code fd.closureTuple:=by
 obtain⟨⟩:=fd;injection h with h1 h2 h3 h4 h5 h6 h7 h8 h9 _ _ _ _ _ h10;subst h1 h2 h3 h4 h5 h6 h7 h8 h10
 rfl
theorem fun_of{K:IU}{f:Ζ}(AFq){st:AR}(h:fnO K f FE=Ε BBx):∃fd,AFi:=by
 obtain⟨oc,od,fd,sl,e,c,k,b⟩:=zxg h;exact⟨fd,BhL (z8w b)⟩
theorem yia{K:IU}{f:Ζ}(AFq){st:AR}(h:fnD K f FE=Ε BBx):
  ∃fd T Qy dn Qz,BY7 FE/\X_ T=Ε (BAq #[BA]):=by
 obtain⟨g,h1,h2⟩:=Bo4 h;obtain⟨oc,od,fd,sl,e,c,k,b⟩:=zxg h1;split at h2
 ·show Kj;subst b;unfold Uw at q;split at q
  ·rename_i T hT;split at q
   ·rename_i t Qy xs dn Qz eT;show D1 q1 q2 Bo6 q;show SG (AGW q1);have q3:xs= #[BA]:=by
     split at q2
     ·rename_i ex;exact Bnj ex
     ·show d5 q2 q2 q2 q2 q2 q2 q2 q2 q2 q2 q2 q2 q2 q2
    subst q3;refine⟨fd,T,Qy,dn,Qz,BhL (z8w (dV:= .B4 T) ?_),eT⟩;have h3:=zH h2;have h4:(Gc fd).BCe= .B4 T:=hT;generalize Gc fd=g at h3 h4⊢;obtain⟨⟩:=g;injection h3 with a1 a2 a3 a4 a5 a6 a7 _ a9 a10 a11 a12 a13 a14 a15;subst a1 a2 a3 a4 a5 a6 a7 a9 a10 a11 a12 a13 a14 a15 h4
    rfl
   ·show mr
  ·show mr
 ·show d5 h2 h2 h2 h2 h2 h2 h2 h2 h2 h2 h2 h2 h2 h2
theorem yap(BZI Zy):∃f,AbH/\fnO K f x=Ε g:=by
 show De Zy;show NG
 ·rename_i e;exact D4 e h
 ·show OE
theorem z9x(BZI fnM):∃f,AbH/\fnD K f x=Ε g:=by
 show De fnM;show NG
 ·rename_i e;exact D4 e h
 ·show OE
theorem yl0(BZH Zy):∃f fd,AbH/\A_ x x st:=
 let ⟨f,e,h⟩:=yap h;let ⟨fd,F⟩:=fun_of h;⟨f,fd,e,F⟩
theorem funM_at(BZH fnM):∃f fd T Qy dn Qz,AbH/\BY7 x/\X_ T=Ε (BAq #[BA]):=
 let ⟨f,e,h⟩:=z9x h;let ⟨fd,T,a,b,c,F,d⟩:=yia h;⟨f,fd,T,a,b,c,e,F,d⟩
inductive N7 (K:IU) (x:Κ) (st:AR):Θ
 | mk:∀f fd,AbH ->A_ x x st ->N7 K x st
theorem fun_ix{K:IU}{ds:Ajd}{x:Κ}{st:AR}(h:seen K ds=due ds)(i:Δ)(e:E4 ds (x,st)):N7 K x st:=by
 have q:=NJ (B6 l l[i]?) h;unfold seen due at q;rw[GN,GN,e] at q;obtain⟨f,fd,a,F⟩:=yl0 (zH q);exact⟨f,fd,a,F⟩
theorem nthM{α:CH}{l l' :CO}{x y:α}(h:l=l')(i:Δ)(e:ox l)(e' :E4 l' y):x=y:=by
 rw[h,e'] at e;exact UH zH e
def N8:Sum Ω Κ ->D
 | APW=> FV
 | ş=> ß
theorem zmb{K:IU}:BdJ (∃vs,IY vs xs/\∀F,P7 (as.map N8) vs)
 | [],as,h=>by show HI;exact⟨[],EE,fun F=>N1⟩
 | v::r,as,h=>by
  show BNC
  case AN i t=>
   show A'c;obtain⟨vs,q1,q2⟩:=zmb (K:=K) e;exact⟨FV::vs,.AY D_ q1,BSm⟩
  case AS x t=>
   show A'c;obtain⟨vs,q1,q2⟩:=zmb (K:=K) e;exact⟨ß::vs,.AY D_ q1,BSm⟩
theorem zwb:BdJ (ŷ as.length)
 | [],as,h=>by show HI;rfl
 | v::r,as,h=>by
  show BNC
  all_goals (show A'c;simp [zwb e])
theorem glb_tup{K:IU}{h:AL}{mg:EX}{x:Κ}{as:EV Ah4}(X:Sl)(G:A1p)(q:isRef (nsIn K my x)=Μ)(l:tupO K (adr (At4 nsIn x))=Ε as)(hz:D' as.length):PX K mg x (Kb (as.map N8)):=by
 unfold tupO at l;split at l
 ·rename_i t od xs n sl e;split at l
  ·rename_i et;subst et;exact _3.glb_tup (mg_of X G (adr_of q)) e (by have:=zwb l;show BHL;show AA) (zmb l)
  ·show d5 l l l l l l l l l l l l l l
 ·show d5 l l l l l l l l l l l l l l
theorem walk_ex{l:Adb}{n k:Δ}{q:A0}{YA:Ρ}{XP:BRo}{YP:BLJ}{d:Aqt}{Fx:DZ Ap IU}{CX:Ap ->J5}{sp:IU ->Sp}{x:Κ}
  (hn:A6a) (hn2:Aim) (hdf:BIj) (hr:BHr)
  (hY:∀(w:Ap) (h:AL),YP w h ->∃K:IU,Sl/\Fx w K)
  (F:∀(w:Ap) (K:IU) (mg:EX) (fa:Ζ) (h:AL),BB (Fx w K) Sl A1p BLY (∃fd:Fc,(BUF)/\∀b:AL,Ĉ b ->Afe b.Ns ->fV AS7 w K mg b (CX w) k fa fd [x] (sp K)))
  (hsp:∀(K:IU) (H:Hp) (a:Ζ) (ns:Bz),AjY ->Only H ->An7 ->sp K N9 H A7J Ò)
  (hCX:∀(w:Ap) (H:Hp) (s:AF) (e:AH) (s' :AF),CX w [] H s (Ò) e s' ->D7):
  BU2:=by
 refine Att.zp hn hdf fun w LH EZ mg mb fa o pm cd doc a vs ns G Y ho hd hcd hmg hobj hints FI hg=> ?_;obtain⟨K,KX,fx⟩:=hY w _ Y;obtain⟨fd,hb,hF⟩:=F w K mg fa _ fx KX G.T.g hmg;exact ycw KX G.T.g G.T.b G.T.builtins G.T.nolimit hg hobj hints (zP FI hn2) hr hF hb (fun H hO hS=>hsp K H a ns FI hO hS) fun H e s' =>hCX w H EZ e s'
theorem start_binds{K:IU}{fd:Fc}{x:Κ}{st:AR}{f:Ζ}(F:A_ S_ S_ st)
  (h:BhK u AH (bindArgs (fnOf S_ S_ AIf sL Ĳ BA kV doc pm an cdv ct) (IM [u])=Go [(x,u)])) (s:AF) (u:AH):BkH:=by
 show BI7;exact .of_eq (h kV doc pm an cdv ct u)
theorem holds{l:Adb}{q:A0}{YA:Ρ}{β:CH}{obs:IU ->β}{good:Ap ->β}{n:Δ}{d:Aqt}(said:l.wellSaid=Μ)
  (L:Bfh l.row.prog (Da Μ))
  (hd:defOf q l.row.name=Ε (d,[])) (hp:l.row.prog.theDef l.row.name=Ε (d.params,d.body,d.scope)) (hk:kwWritten? d.params.kwonlyargs d.params.kw_defaults=Ε [])
  (ok:UB (chainsOk q&&opensWell l.row.prog) (frees AsO&&l.row.within.isEmpty)) (hb:l.row.prog.bare) (hw:l.row.toRowW.promised) (wr:Me l.row.writes)
  (walk:WalkO q YA BlV (fun w h=>∃K:IU,Sl/\AbM) AsO d [] Aw8):l.Holds:=
 holds_law said fun k1=>holds_open (XP:=Lo _ ID) (YP:=fun w h=>∃K:IU,Sl/\AbM) L (fun _ s e=>(D4 (ymt A8 n) e)) (AIp hz k (by show fS K x hz;exact⟨K,x.keeps k,e⟩))
  (JP _ VV) (AIp _ _ VV) hd hp hk (sf s (recFacts_of Β)) (UU wr) k1 ok hb hw walk
#print _Hd
namespace _3
open IR OI KK _2
def QB(g:uF)(tc:TT2)(t:cW)(Γ0:G2)(x:D)(P:Aih):Θ:=BeZ (t BF (sf ds (P [ds])) jR)
def uZ(EB:Ĭ D (oq D)):Ĭ AQ (oq D)
 | [],P=>si
 | L8,P=>EB x fun ys=>uZ EB xs fun zs=>AxF
def QC(ds:AQ):T:= .By BHm
def Jg(Au:Δ)(FU:CF)(ti:cW)(g:uF)(tc:TT2)(t:cW):qu:=Zp ti ds (uZ (QB g tc t (pU Au FU AC)) ds fun ys=>(GV (FG A6W)))
def fX(K:AD)(t:cW):TE:=A_9 upF
theorem yib(gr:zw)(h:AEa)(e:AHh)(ld:mE):r8:=by
 cases q:F' a with
 | Ι=>rfl
 | Ε w=>
  show Ahp (gr.n a w q h)
  ·show AWu e
  ·rw[e] at z;show Lw;subst e';exact ld.tup.elim
section
variable{F0 H0:Hp}{Au:Ρ}{FU:CF}{g:uF}{tc:TT2}{t:cW}
theorem z3n(AFJ){σ:St}{Γ:G2}{J:It}{Hx:Hp}{ds:AQ}{A1:Ζ}{P:Aih}{Q:APh}(R:Hm)(hJ:A5M J)(hx:Û Hx)(ha:N4 A1)
  (h:uZ (Ao2 QB t) ds P)
  (D3:∀ys F' H' as,tS AZw F_ (A6k).Pl (∀a∈A1::as,r8/\Ä) (AIQ (FG A6W) ϛ A6k) (P ys) A2f):
  BfO fX t:=by
 obtain⟨R1,e1,e2,e3,ap⟩:=Hi (ds:= []) (vs:= []) R ha Iy
 show HL hx1 (MC Hx Awy) BX5 xa BWj BdN (Amk vs H' NN Aze (∃F' ys as,AZw/\F_ /\AP3 /\AHS Hx /\A7s/\A2Y/\ (A6k).Pl/\ A4_/\Aaq A6W as/\Ay6/\uZ (Ao2 QB t) (ds.drop i) BNS) ⟨NN,DC,K2,F,[],[],R1,qA,SS (by(rw[Q3 ha];exact e)),hx1,e1,e2,DC,fun a h=>by(show OE),Ax8,NF,Cc h⟩)
 rintro i m vs H' ⟨Β,hi,F',ys,as,R',sF,sH,hx',ha',PK,nd,hn,rs,lv,hc⟩;have hz:=hJ.1;refine C9 ha' Υ
 obtain⟨ATI,hgo⟩:=BfF;have Xl:A1∉as:=AI4;by_cases A6:Aij
 ·show BBo;refine .BO ⟨go,Υ,BRn⟩
  show EM F2 gr rx (yl x H2 y);rw[ALy A6] at hc;have R2:=ATJ gr;refine⟨F2,H2,F2,Aab pU Γ,_,ds[i],Aab z2d R2,rx,hc,Bgh⟩;refine Bgz;have wg:BRQ:=Asi R4.gr;have LG:∀{F5 H5},A9W ->Ama (Nc F5/\Ä):=fun g5 a h=>by
   obtain⟨u,e,ld⟩:=BWO h;exact⟨yib g5 (AIS h) e ld,A0q⟩
  cases b with
  | AG=>
   rw[gN] at q4;refine⟨AZZ,Υ,Β,A6,F4,ys,as,ATJ wg,ğ wg.f,sH.trans wg.h,BUk,BNm,BaV,nd,LG wg,dQ wg.f _ _ _ (fun a _ u e=>wg.h a u e) rs,Υ,?_⟩
   simpa using q4
  | Μ=>
   rw[EF] at q4;refine⟨F2,H2,F4,Γ4,_,R4,q4,fun es Γ5 F5 H5 a us R5 s5 p1 p2 p3 rv apa q5=> ?_⟩;have BJ:A9W:=Asi R5.gr;have a5:=BJ.h _ _ ha';have f5:=zt5 BJ PK ha';show E2 Xm (Nc H') (gr.h.free p3) Xn (a≠A1) (Amg ha' Xm Xm Xm Xm Xm Xm Xm Xm Xm Xm Xm Xm Xm Xm Xm) aas (a∉as) (AZ (by
    obtain⟨u,e,_⟩:=BWO z;rw[e] at Xm;show AE Xm Xm Xm Xm Xm Xm Xm Xm Xm Xm Xm Xm Xm Xm)) a0 Ä (sH.free Xm);refine⟨a5,AZZ,Υ,Β,A6,F5,ys++ [es],as++ [a],?_,ğ BJ.f,SS (by(rw[Q3 ha];exact BJ.h b u (sH b u e))),K0,gP,f5,?_,L7,?_,Ai1,?_⟩
   ·have R6:=ATJ BJ;refine BgO
    ·rw[Q3 f5];show ye R6.g
    ·rw[Q3 e3];show ye R6.gr.h
    ·show br p1 p2 BTm;refine⟨o,p1,Sw p2 IP Bbw⟩;have:c≠A1:=AZ (Axx (ap j BYQ))
     rw[bU Τ];exact q
   ·show AJi (xa u (UK z e));exact BJ.h b u AwM
   ·rw[<- ww];exact Bou (ADx nd (fun x hx y hy e=>by
     rw[ħ hy] at e;rcases Cn hx with z | z
     ·exact Xn (Bo5 z)
     ·exact aas (e ▸ z)))
   ·rcases JJ hb with hb | hb
    ·exact LG BJ b hb
    ·show AP4;exact⟨p2,a0⟩
   ·rw[OT];refine WW (dQ BJ.f _ _ _ (A0f ?_) rs) (WX ?_)
    ·show AJi (Xl (UK z hb));show ye BJ.h
    ·exact⟨a,us,[],Β,Β,Ž Xn p1,Qj rv⟩
   ·simpa [ĥ] using q5
 ·show A2G
  refine .D6 ⟨ATI Β,D3 ys F' H' as R' sF nd (xh h ?_) (A3 ⟨A1,vs,as,Β,Β,ha',rs⟩) ?_⟩
  ·rcases AEH with Β | h
   ·exact⟨PK,ha⟩
   ·exact hn a h
  ·rw[Bnd] at hc
   simpa [uZ] using hc
theorem yed{X:Cx}{elt tg NM:AK}{ifs:DD}{sc:OK}{N' :Ρ}{AB:AX}{ti:cW}(S:ARN)(hc:FX)(hi:Ao')
  (hg:AbI) (ht:AbJ) (he:Aeh QF elt t)
  (A_m):AIu kz (Jg n FU ti g tc t):=by
 subst hn;rintro z E cx Ξ s σ H Q I ⟨F,Γ,P,R,h,k⟩;rw[show cz kz (ĝ z).BV=BFb kz sc B9 _ A4X AG AYD from Bk0];refine BWC (tc:=tX AJ tc) (te:=fX AJ t) (Q:=Q) Awh (pig hc APM) ?_ ?_ ?_ Β hs I ?_ ?_
 show BHh Aqb q
 show Ala
 show Alb
 ·refine WA (fun ds AC F1 H1 J Hx R1 s1 hx hJ h1 A1 ha=>z3n R1 hJ hx ha h1 fun ys F' H' as R' sF nd hn tr hp=>k _ AC F' H' _ _ R' Ajx nd (xh h (Aw0 (AIS h) A0q A0q)) tr hp)
 ·show AqW;exact⟨m,hn,AwI ⟨AiX,H',BSh,Β,q5⟩⟩
#where
inductive xu (Bhr tH):Θ
 | mk:∀x GY F ds Pd Ex,Hk (vs= BSi) (BSZ) AOA (F x=Ι) (BZL (∀t as F' H3 v dx H',tS (Gr F H F' H3) wS A4_ (TR K F' H3 t v as) (Pd t) (H3 dx=Ι) (Bfp AlQ H3)) xu)
def Xo(BUl tH):Sp:=AbG (AxU xu)
section
variable{P:A0}{w:Ap}{K:AD}{mg:EX}{DS:AL}
theorem z8e(AFq)(AqS){k:Δ}{sp:tH}{C B:Ζ}{fl bn:Κ}{FF:AK}{p1 p2 p3 p4 p5 p6 p7 p8 p9 p10:AX}(Fn:AFi)
  (hbd:yd st= [.ALJ [.AAt Ako fl p2] FF p3,.AK (ABW (ABa (ME bn p4) LE p5) Bdk p9) p10]) (S:AQ0 Awa)
  (hc:AOV) (hB:Iz K B) (hmB:i8 bn B) (hn:ADN fl) (hN:Iq N 0 Atf) (Qf:A4P) (len:AbY)
  (hdb:Aym bn)
  (ė:ARr (∀F0:Hp,
   Gl Az8 bn/\
   Ļ (AGR FF (Dx (ABa Ako fl p2)) p3.line A0I)/\
   (∃pl,yeh bn p4 p5 p9 Bdk A0I pl)/\
   ∃tn,BJk QN tn/\
    BcL (tn (gQ N AWN) BQz Th))):
  BSf Xo:=by
 show AKM;refine Sg lk hcd S (FY vs H Q E B_) (ARq E hr Bi)
 ·obtain⟨x,GY,F,ds,Pd,Ex,e,_,_,_,rs,hs,_⟩:=B_;show A_Z e Avk
 obtain⟨a,GY,F0,ds,Pd,Ex,ev,hx,sF,fx,rs,hsp,hQ,hE⟩:=Bi;subst ev;obtain⟨hgB,hsw,⟨pl,hpl⟩,tn,hte,hq⟩:=Avx;have cx:AbV:=by
  refine⟨fun Ξ σ Γ F H1 s1 e s' I R hx=> ?_,AQ5⟩;refine ARs;show AW9 F' x R' xr z1 z Abg
 rw[hbd];have Jh:∀q,PE Az8 (AH5 q) (Ox 0):=PH (Ş uL hN Qf);show BE (XT (Z9 (z9c hc hn (Jh p1) BLU hsw) (zta (zyu (ydj hc hB hgB hmB (KQ (Jh p6) (KQ (yie hc hn (Jh p7) Β) O5)) hdb Β Β hpl))))) (Bga (fun t AC F1 H1 v as R1 s1 nd hn tr hp=> ?_))
 obtain⟨h0,hp⟩:=hp;show EM o eo ro (AL1 0 _ h0);show bv u ru ro;subst ru;refine⟨B',eo,a,Β,Ais hx,AV dx n1 n2⟩;refine⟨B',eo,B',eo,a,dx,_,v,Β,A2h,gP,CY Ė,?_⟩
 refine⟨a,Ε dx,v,Β,A2h,?_⟩
 refine hQ t as F1 H1 v dx _ R1.gr nd (Nn ⟨AJl,AVy hn⟩) tr hp n1 n2 gP (Ù (bU n2) gP) (BVe (bU q1))
#where
def zzn(C:Ζ)(fl:Κ)(sp:tH)(t:cW):aD:=A3y (AYh BcD)
section
variable{X:Cx}{F0 H0:Hp}{e:AK}{es:DD}{AB np HR:AX}{t:cW}{x fl:Κ}{C f:Ζ}{fd:Fc}{ps:Ρ}{k:Δ}{sp:tH}
theorem z3q(hh:FX)(hg:KG)(hm:AKB)(hC:ADk)(hi:Bcn)(hf:BLx)
  (Fn:BYS Xo) (hr:AKL) (hb:AOr) (ha:Si)
  (An2):
  BZg:=by
 rintro z E cx Ξ s σ H D I ⟨F,Γ,D2,R,h,k'⟩;refine z71 (K:=AJ) (C:=C) (f:=f) hC.cls BNG ?_ hi (AGW hf) (DU Hw I hg hm Ϥ hd)
 ·rw[he];show Me (false || (backTo cpos (starEach es X.env)).any (·.1))
  rw[hpl];rfl
 ·have A9:=ha z E cx HR Ξ s σ H (AIE H1 (∃F1 AC ds,AM1/\aM AJ F1 ds vs/\D' NN/\BcD)) I (jn ⟨F1,AC,ds,R1,r1,h1⟩);rw[he] at A9⊢;refine AdW (Po A9 (fun us s2 ⟨vs,H1,I1,r,F1,AC,ds,R1,rs,FI,q⟩=>⟨Β,by show C8 (D' nI);rw[<- Pp,<- zC];exact FI,ABG,?_⟩) Aak)
  have ge:AxL AiY=Ε BTh:=by
   have:=z9 (Ĥ AVC) (o:=AVL) Β;show DF Y1;exact Τ
  have kp:BQA:=AX1;generalize hh2:(Ĥ AVC).Ps AVL=h2 at ge kp⊢;have n1:yv AiY:=AlS;generalize hea:BlC=a at ge n1⊢;have hle:ABK<=a:=Υ
  have I2:Ŧ AOe (Anx h2):=Bdo;have sH:MC H1 AOe:=Of (Ava n1)
  show E2 f1 (Nc F1) (by
   cases q:F1 a with
   | Ι=>rfl
   | Ε o=>show BCU) u1 BYO BYh hs (Xo AJ C fl sp (B'::vs) AOe (AUl (v= B8/\Afa /\∃p u F' as tr,IL H' (AfN p)/\H' p=Ε (.xd [(fl,u)])/\p≠a/\yv p/\F' p=Ι/\r8/\qc F' /\AHS F' /\ (WU (KU F') (SC F1) (wz H1 b o))/\wS/\ (WE as (SC F'/\AjA))/\a∉as/\TR AJ F' H' tr u as/\Bj_)) (BaA A'_)) (by
   refine⟨a,vs,F1,ds,_,_,Β,gP,A1s,f1,rs,q,?_,BcP⟩;intro t as F' H3 v dx H' gr nd hn tr hp n3 n4 e1 e2 e3;have fa:r8:=by
    cases q:F' a with
    | Ι=>rfl
    | Ε o=>
     show BUH (gr.n a o q f1)
   have asx:On as (SW/\b≠dx/\AjA):=FL (by
    have h0:=ϰ;have ba:SW:=Amg gP h0 h0 h0 h0 h0 h0 h0 h0 h0 h0 h0 h0 h0 h0 h0
    rw[bU ba] at h0;obtain⟨u,e,_⟩:=Adf _ _ _ tr b hb;exact⟨ba,gJ e n3,h0⟩)
   have Ji:WU SW (KU H3) (KU H'):=dy ba e (CD (e3 b ba (gJ e n3)) e)
   refine⟨Β,fun b o eb=>Ji b o AuA (gr.h _ _ (sH _ _ eb)),dx,v,F',as,t,e1,e2,n4,(sH.trans gr.h).cr n3,gr.g.free n3,fa,OS,Of (Ji b o (gJ e fa) (rL gr.g)),qf (AsP sH (gr.n b o e n)),nd,AIc AJl (WJ asx).2,AO4 ((asx a hb).1 Β),AAz IP t v as (A0f (Ji b u (eK asx) e)) tr,hp⟩) hl (AN2 AWV) (by
   have e:=AVZ hs;rw[GM,<- Pp,<- GM (a:=V.ref a),e])
  have hbs:=Bep
  show AOu;refine AaR (BCL AMy AWV) (AxA EC a) BPM;cases r' with
  | oB e' =>exact ALt Ξ σ AC F1 H1 s2 e' s' I1 R1 (zml hq' Β u1 kp)
  | ok Ww =>
   cases Ww with
   | ret u=>
    obtain⟨v,H',os,Gc,un,DV,rv,ev,sS,p,pu,F',as,tr,ea,ep,pa,p1,fp,fa,sF,sFH,nT,nd,oL,aas,rG,hE⟩:=hq';subst ev;refine C3 rv;have I3:Ŧ H' s' :=I2.call' (s' :=s') os un DV Gc Ahh
    obtain⟨t0,gx⟩:=zs1 DV ea;refine⟨_,t0,I3.kIn,gx,Β,Β,?_⟩;have Aj:=Asq un;have nH:BOw:=AWn (by
     show Ao7
     ·simp [hb] at eb
     ·exact BVO)
    show HL yH BW0 BTO nfr (eg H' (b∉fw)) (WS eb hm (by
     have:=I3.stkFree b hm;show DF eb;show IN)) (BUL s' ⟨a,HC,Agh,BVH,Ε p,Β,os,Gc,?_,?_,?_,?_,?_,.pay C [fl] [tr],F',hE,⟨sF,?_,?_,nT⟩,Β,p,[pu],as,Β,Bal,Β,fp,p1,nd,oL,WX (AAz IP tr pu as (A0f (yH b u (Ev (aas (z ▸ hb))) e)) rG)⟩)
    ·refine⟨Aj.keep,Aj.slot,FY b o eb n hx,Aj.there,APb xs,ACu u eb,APb ps⟩
     ·have:=Aj.free b o eb n hx;simp [Τ]
     ·exact BJl xs
     ·exact BX4
     ·show EU more q Aj.nR b ps eb;exact⟨more,Agd q⟩
    ·intro b u eb;show EU hb eb nH b u eb;refine AIl DV eb (ATr q q) (bX q ApY) fun c xs q=>ApY
     ·show ApF
     ·show ApF
    ·refine⟨WH o BIx,zje _ zY,?_,A_q gx AJW⟩;exact BEx (as:=a::fw) I3.stack BZ'
    ·intro b o eb n;show AJ1 (A4h A7)
     refine⟨o',Aws e'⟩;rcases Cn hm with Β | hm
     ·exact BV' eb
     ·exact n hm
    ·intro b u eb;show EU hb eb nH b u eb;obtain⟨o,eo⟩:=zwi (DV b u eb);refine BO4;show Bd0
    ·exact AWn (yH b u (gJ eb fa) (sFH b u eb))
    ·exact BUE
   | L_=>show ϝ
   | brk=>show ϝ
   | RU=>show ϝ
structure QD (BZN tH):Θ where
 ex:BdU (BSe Xo) AIU
theorem z6d(hh:FX)(G:BdP QD)(hr:AKL)(hg:KG)(ha:Si)
  (An2):
  BZg:=by
 obtain⟨f,fd,h1,h2,h3,h4,h5,h6⟩:=Ģ;exact z3q hh hg h5 h4 h2 h3 h1 hr h6 ha hd he hpl
#where
inductive RN where
 | pl (d:D) | nt (ts:Hd)
abbrev SpW:=A7m (HT RN)
abbrev TRN:=ARW RN
def abA(AOy)(t:TRN)(E:XW):TE:=AUG (∃F Γ P,Hm/\t Γ P E/\ (AgZ d v tF (.pl d) Ű)/\
 ∀ts B5 F' H' p vs as,AH0 ->F_ ->F' p=Ε (Kb vs) ->BB wS BWv (Aaq ts as) (ax (.nt ts)) (M1 p H'))
def QRN(UF)(e:AK)(t:TRN):Θ:=AZk abA
theorem isV_of{o:BlQ}{s:KL}(h:isV o s=Μ):o=Ε (.val (P4 s)):=by
 show De isV;show NG
 ·rw[AGW h]
 ·show OE
def u6:aD:=Ò
theorem zvo(AWx){st:AR}:Tl st u6:=fun _ _ _ _ _ _ _ _ _ h=>by obtain⟨_,_,_,_,h,_⟩:=h;exact ě
mutual
def szT:T ->Δ
 | .LY _=>0
 | ly=>Jj ts+1
 | AZt=>Jj ts+1
 | AmJ=>Jj ts+1
 | Amx=>Jj ts+2
 | AEU=>0
def Jj:Hd ->Δ
 | []=>0
 | Xs=>szT t+Jj ts
end
#print _3
namespace _Hd
open IR AKn Aqp KK _2 _3
#print _Hd
namespace _3
open IR OI KK _2
def Itm(Bea):It:=
 BYW (∃c k v,x= AiW/\N4 c/\H' =upd H c BLh/\E4 AI (k,v))
theorem z8b:BKB "dict_itemiterator.__iter__":=
 BMj
theorem zud{it d:Ζ}{i n ep:Δ}{ok ov:AH}{Q:dM}{s:AF}{P:A0}{w:Ap}{A:BQ}{E:dM}(hit:IsItemIter A8 it d i n ep ok ov)(h:M1 it s):Bjz:=by
 have hT:AOd it BDl :=ML hit;refine A_K Bo7 Bo7 z8b PySem.F.args_dict_itemiterator_iter_1;exact z7 ⟨_,Β,BDl,_,hT,PySem.F.slot_dict_itemiterator_next.lookup,h⟩
theorem z4i(A'M)(BhE):Turn P w K A9J (Itm a o AI) [it] it (Ty h (∃ok ov,IsItemIter h it a i Ą ep ok ov)) where
 mem:=DC
 obj:=AQ7 (by
  show AQI
  show A_6;exact AaE e)
 LG:=AgV (by
  show A_6;exact⟨ok,ov,AEu it e⟩)
 VS:=by
  show md;show UZ;show Aas;show EM ok ov st st;show AqF;show ApK;obtain⟨⟨k,u⟩,hw⟩:∃p,E4 ws p:=BNP
  show GA v hv rv Qm kv hw;have A6:∀c∈ [it],PU c:=ϓ (by
   show HA (c=it) (Cc hc)
   exact zJ st)
  refine wpAny_pyNext_items_item st hd hw fun A9 h1 hkey hit ht hsz k1=>(BAM wpAny_letOwnedTupleGo_items hit);have FW:A8U it:=sb;have rk:KO (kV k) A9:=by
   rcases Dz hkey with ⟨j,t,Β,Β⟩ | ⟨x,t,Β,Β⟩
   ·exact AQZ
   ·exact AQZ
  have I2:ϱ BLh (d_ h2 LV):=
   zyv (fp:= [it]) (AO:= [A9,u]) I (BMd (k1 c o fN e))
    A6 (A6Y (ALN (A6 it A7)) ht) (A_f rk rv) Amf hf
  exact⟨zk,_,I2,Β,⟨_,k,v,Β,Asj,Β,hv⟩,D4 _ (CD hl e2),ϓ (BdH A6)⟩
 LW:=by
  show md;show UZ;show Aas;show EM ok ov st st;show AqF;show ApK;exact wpAny_pyNext_items_end cK st hd AXT (BJQ [it] (AHV (eb b o fN e)))
 RY:=Au0 (by
  show A_6;exact zud e h)
def QH(te:TE):TI:=BPz (∃a o AI,v= B'/\AV0 ya/\ (AUi ->R (Itm a o AI) H1))
theorem ycq{X:Cx}{e:AK}{te:TE}{LX HR:AX}{elts:DD}{x1}{pt:AX}(he:mP)(OQ:AMx "items":=by rfl)(Rc:z_:=by rfl):
  PI X Ago BI3 (QH te):=by
 show Do R;refine A'4 ϭ;obtain⟨x,H1,I1,r1,a,o,AI,ex,ea,q⟩:=B_;subst ex;show A4g;have ea' :Rd H1 a P8:= .BO (We ea);show BBj ea';refine⟨vz,"dict.items",BEo,Bo8,PySem.F.type_dict_items,hT,hN,BkE⟩;obtain⟨ho,hz,_,ws,kv,o',es,ep,h1,h2,h3,h4⟩:=(AHK H1 AdF a ya (I1.hok a _ ea));rw[ho] at h1;show Abk;have hm:AmV:=A'r ho;refine Ada Bo8 hT PySem.F.entry_dict_items (PySem.F.args_dict_items_1 _) (meets_dict_items AM_ a hsm) (C3 ⟨ws,o,es,ep,ho,h2,h3,h4⟩);have vw:A0u (AUI (WG Bo9 #[B']) IsItemsView):=ky;have I2:AJO (AV7 BMN):=AOj;show BE (wpAny_pyIter_items (s:=AV7 BMN) vw AyR ?_) ⟨_,[_],_,_,_,Β,Atr Arj yo,z4i a _ o AI ep ⟨es,h3⟩,?_,L7,q hz⟩
 ·rw[ATd];exact D4 _ SE
 ·show SG (zT.mp hb);exact I2.fpOk (zO _) (AMU I2.hok.fresh)
def pY:GH ->AQ ->AQ:=AL4 fun k x=> .EI [nY k,x]
theorem z59(Bhu):AZW (Itm a o ABk) (pY ks xs):=by
 have hlz:C7 dP vs=OR:=BWb
 have l1:=jQ rs;have lp:gL pY ks xs=min OR BN:=Ad2;refine ABo (Abd BQE)
 unfold pY at hd;rw[BFv] at hd;cases e1:ks[i]? with
 | Ι=>show MO e1 hd hd hd hd hd hd hd hd hd hd hd hd hd hd hd
 | Ε k=>
  cases e2:xs[i]? with
  | Ι=>rw[e1,e2] at hd;show AE hd hd hd hd hd hd hd hd hd hd hd hd hd hd
  | Ε x=>
   rw[e1,e2] at hd;show AE hd hd hd hd hd hd hd hd hd hd hd hd hd hd;show AZ6 e2;have hik:i<OR:=QP e1;refine ϙ Awu Υ Amt
   obtain⟨c,k2,v2,Β,hc,Β,z⟩:=z;have z1:=(Tr z).1;have z2:=(Tr z).2;rw[e1] at z1;show AE z1 z1 z1 z1 z1 z1 z1 z1 z1 z1 z1 z1 z1 z1;rw[hv] at z2;show AE z2 z2 z2 z2 z2 z2 z2 z2 z2 z2 z2 z2 z2 z2;have gr:=AGh (o:=ATA [kV k,v]) s3 hc;refine XT gr;exact l7 c AE_ (qT (yms k) (qT ((ATG s2).up OS) Iy))
def z5m(mT):cW:=ku (i' A3j (P (pY ks xs) AC))
section
variable{X:Cx}{F0 H0:Hp}{e:AK}{te:bZ}{elts:DD}{LX HR pt:AX}
theorem ydv{x1}(he:RF)(OQ:AMx "items":=by rfl)(Rc:z_:=by rfl):A7f BI3 (z5m te):=BXs ycq (AVB Bi (by
 obtain⟨F,Γ,P,S,q,k⟩:=Bi;refine Au4 (fun d AC F1 H1 v R1 s1 r h1=> ?_);show ADs
 ·obtain⟨a,o,vs,Β,ea,hkl,rs⟩:=r;exact⟨a,o,_,Β,LZ _ _ ea,AOF (AWm (z59 ea hkl rs hz))⟩
 ·show k_))
#where
def Jk(C:Ζ)(i:Δ)(f:Κ)(j:Δ)(tv:bZ):aD:=zt tv d (∃k as fs ts ks xs,A7O/\AU_ Aw6/\Ai fs ts f=Ε (.dic ks AX')/\ACc OR/\
 Apm as (BMP k k))
section
variable{X:Cx}{F0 H0:Hp}{FF:AK}{AB ABM Qu HP :AX}{x f:Κ}{C:Ζ}{i:Δ}{tv:bZ}
theorem ydy{y:Κ}{j:Δ}{yp:AX}(hu:ft)(hc:ϐ)(hn:tI)(hval:A6s)(hN:K_)(hv:So)(Xg:AaI)(hv2:A_a)
  (BAa)
  (hb:BYc f:=by rfl)
  (hs:AZM BQQ (ME y yp):=by rfl):
  AWd (ANa BQQ (ME y yp)) (Jk C i f j tv):=fun z E cx=>
 uE (AZi zvg (DU ygz mi hb) BBR hval hs) (Aog Oz Oz Hy (by
  obtain⟨k1,as,fs,ts,ks,xs,g1,e0,hl,hsz,hnx⟩:=Hy;obtain⟨o2,e2,v2,Β,r2⟩:=AL1 j _ g1;have ev2:=Kg r2;subst ev2;obtain⟨a,dx,vs,v0,bs,b1,cs,b2,e1,Β,ea,hv0,Β,nd,hn',rt,back⟩:=yh3 R1 e0 hl;obtain⟨c,ws,ds,Β,Β,ec,hkl,rl⟩:=rt;show A8o rl;refine⟨B',e1,a,C,dx,_,AiW,Β,ea,hc,hn,hv0,kV k1,e2,c,_,Β,zj.k (k:=k1) ec (by show AVr hkl;exact hsz),?_⟩
  rw[zt4 hkl];refine BaB (AeI e0 e1 (GS (iw (ATb BLR Afv) Ŕ c) BPA) (t:= .tr BLR (BMP k1 k1))) hn'
  refine back IP (fun b hb u q=> ?_) ?_
  ·have hbc:b≠c:=AZ (by
    subst z;show A5c;obtain⟨n1,n2,n3⟩:=nd;rcases Cn hb with Β | hb
    ·exact n1 A7
    ·show ARK
     ·exact n2 A7
     ·have p:=BGl n3;rcases JJ hb with hb | hb
      ·exact p.2.2 b hb b A7 Β
      ·exact Aet p.2.1 hb)
   rw[bU hbc];exact q
  ·exact⟨c,_,[],Β,Β,gP,zzd hkl,Qj (zp0 rs rd)⟩))
#where
theorem yca{H1:Hp}(S:Aig)(I:AW)(hS:Ag5 (∃AI o,AhG/\kB/\Md H1 ya))(hN:Z' AJC H1 H):AJO s:=by
 have ne:qq AEX (Ap9) (MI H1):=AZx (AHN (AZO (by show AnS;rw[e] at q;show SY;exact n _ Β)))
 refine I.un (h' :=A8) (t' :=LV) ⟨fun _ _ q _ _ _=>q,BVd,FY b ob q n _,A8n ⟨ob,q⟩,A2c,BTt,WH ps (C3 #[])⟩ â
 ·rw[AZO (by show AnS;rw[e] at n;show AE n n n n n n n n n n n n n n)];exact n
 ·exact A8b
 ·exact A8b
 ·rw[A8b];simp
 ·have st:BUz H1:=N_ (k.stay Aww (bX z (ne c _ z Awx)) fun c xs z=>ne c _ z Awx)
  by_cases hb:S b
  ·obtain⟨AI,o,e1,e2,e3⟩:=ADM;rw[e3] at q;show SY;exact⟨e2,st (KS b _ e1)⟩
  ·rw[AjV] at q;exact st (KS b u q)
theorem z8m{H2:Hp}(S:Aig)(I:AW)(hS:BYF)(hN:Z' AJC H2 H)(n0:Ag5 BiV):ZO H2 s:=by
 have ne:qq AEX (BPr) (MI H2):=AZx (AHN (AZO (by show AnS;rw[e] at q;show SY;exact n _ _ Β)))
 show HL nn (AjC (SC H2)) (dl q (AHN (AZO (by show AnS;rw[e] at q;show SY)))) st (BUz H2) BU4 ⟨ve,I.os,Ď,⟨ArQ,ASR,Am3 hx (nn b (BO5 q hx)),BDa,WH xs (ne b _ (Ac3 b xs q) (Jn z ABh)),WS w q ?_,Na ps q⟩,nN,nX,nn _ AAn,fun x c q=>nn c (AGM x c q),mh,â,AGN⟩
 ·rw[AZO (n0 b z _ _ q)];exact ASU b u w q
 ·show EU m k Ac4 b ps q;exact⟨m,ne b _ k (Jn z ABh)⟩
 ·show GA h1 h2 h3 AGO p hp;exact⟨h1,nn _ h2,h3⟩
 ·by_cases hb:S b
  ·show A5x;rw[e2] at q;show SY;exact st (KS b _ e1).2
  ·rw[AjV] at q;exact st (KS b u q)
mutual
def mD:T ->D
 | fq=>d
 | ly=> .By (pK ts)
 | è=> .dik ks (pK ts)
 | AFb=> .pC ks (pK ts)
 | AFt=> .obj C fs (pK ts)
 | .kt k=> BN5
def pK:Hd ->AQ
 | []=> []
 | Xs=>mD t::pK ts
end
section
variable{K:AD}{F H F' :Hp}
def pZ(H F' :Hp)(a:Ζ):Θ:=Afd ((∃o AI,u= .dK AI/\IL F' ANp)\/ (Ap9)/\Aka)
theorem pZ.d(h:Ao8)(e:AJb):∃o,IL F' ya:=by
 rcases h _ e with ⟨o,_,_,q⟩ | ⟨n,_⟩
 ·exact We q
 ·exact(n _ Β).YV
theorem pZ.o(h:Ao8)(e:AHh)(n:Ap9):Aka:=by
 rcases h _ e with ⟨o,_,q,_⟩ | ⟨_,q⟩
 ·exact(n _ q).YV
 ·exact q
mutual
theorem TR.repN(f:F_):BBX Ao8 (AMb (mD t) v)
 | fq,v,as,k,h=>BVl
 | ly,v,as,k,h=>by
  show AFQ vs bs e1 Β e3 h;exact⟨a,vs,e1,ABs ((k a zY).o e3 AN9),A1X⟩
 | è,v,as,k,h=>by
  show AQx;show D1 o e (k a zY).d e3;exact⟨a,o,vs,e1,e,e4,A1X⟩
 | AFb,v,as,k,h=>by
  show AQx;exact⟨a,vs,e1,.D6 ((k a zY).o e3 ANc),e4,A1X⟩
 | AFt,v,as,k,h=>by
  obtain⟨a,dx,vs,bs,e1,Β,e3,e4,e5,e6,h⟩:=h;exact⟨a,dx,vs,e1,(k a zY).o e3 ANc,e5,BAe AeK⟩
 | .kt k,v,as,_,h=>by
  obtain⟨_,a,e1,e2⟩:=h;exact⟨a,_,e1,AkE f,VF k⟩
theorem AeK(f:F_):BBZ Ao8 (AUL (pK ts))
 | [],vs,as,k,h=>JO ED
 | Xs,vs,as,k,h=>by
  show Am8;exact⟨v,us,e1,A'n TR.repN,BAw AeK⟩
end
#where
def Xp:Ic ->Ic | .ow ds=> J_ ds | .tr _ t=> .pu (mD t) | .nt _ ts=> AiZ (pK ts) | .xe _ C _ _=> BNY | s=>s
def jh(Γ:G2):G2:=Γ.map Xp
def LDn(u:HO):Θ:=mE\/∃o AI,u= .frz o P8
def cL(Γ:G2)(σ:St)(H:Hp)(b:Ζ):Θ:=eC/\∃AI,AhG
open Ĝ in
theorem yb1(Awt){σ:St}{Γ:G2}(R:Hm)(ob:Ζ ->Obj):∃F1 H1,yy/\BZK/\ (BYJ)/\ (BRV)/\
  (BXe)/\A5Y:=by
 let H1:Hp:=f_ (if Z_ then BWi else H b)
 have hS:BXe:=FL (by
  show UC AI hb.2;refine C9 AI e;show(DH Z_ BWi (H b))=_;rw[Ch hb,e];rfl)
 have hN:A5Y:=Ayr
 let F1:Hp:=f_ (ABi AuL F (AuO H1))
 have fo:Aht (∃u,AEX/\mE):=FL (by
  obtain⟨j,s,o,e1,e2,hs⟩:=id hb;obtain⟨o',e3,r⟩:=dS j _ e1;rw[e2] at e3;show AE e3 e3 e3 e3 e3 e3 e3 e3 e3 e3 e3 e3 e3 e3;obtain⟨h1,_,u,h2,ld⟩:=G9 r hs;exact⟨h1,u,h2,ld⟩)
 have s1:yy:=BYK
 show E2 at1 (Z' eC F1 H1) (dl h2 (by
  show A3P=_;rw[CM (AXp (fo b h2).1),Ch h2])) s2 (qc H1) (SS (by
  by_cases ho:eC
  ·rw[at1 b ho] at e;exact e
  ·show AFc A3P;split at e'
   ·rw[hN b (AZ (ho z.1))];exact R.g b u e'
   ·first | cases e' | (rw[CM ho] at e';show ϖ))) Ig (BAz (jh Γ)) (BAK (by
  show UP jh;show BHR;cases q:AJf with
  | Ι=>rw[q] at e;show DM
  | Ε t=>
   rw[q] at e;(show Lv t t t t t t t t t t t t t t)<;>(show DM;exact AjQ))) Au BRV (FL (by
  obtain⟨h1,u,h2,ld⟩:=fo b hb;refine C3 h1;rw[at1 b hb];by_cases hn:Z_
  ·obtain⟨AI,_,e⟩:=hS b hn;exact D4 e (.BO Ajh)
  ·exact⟨u,CD (hN b hn) h2,.D6 ld⟩))
 refine⟨F1,H1,s1,Bda jh,Na hb hn,Au,hS,hN⟩
 ·show UP jh;rw[GN] at e;cases q:AJf with
  | Ι=>rw[q] at e;show DM
  | Ε sl=>
   rw[q] at e;show br e1 r (dS i sl q);refine C9 o e1;have mine:Mn (iw sl o b) (pZ H F1 b):=fun b hb u hu=>by
    have ho:eC:=BfY;rw[at1 b ho];by_cases hn:Z_
    ·obtain⟨AI,e,e'⟩:=hS b hn;rw[e] at hu;show AE hu hu hu hu hu hu hu hu hu hu hu hu hu hu;exact M' (ϯ e')
    ·refine .BO ⟨fun AI z=>hn ⟨ho,AI,KE hu z⟩,CD (hN b hn) hu⟩
   cases sl with
   | no=>show DM;trivial
   | pu d=>show DM;show bv v rv r;exact KI v A0g
   | ow ds=>
    show DM;obtain⟨a,vs,Β,h1,h2,h3,rs⟩:=r;refine ŕ B';exact Sf a (ABs ((mine a Β).o h1 AN9)) (ALz s1)
   | tr as t=>
    show DM;obtain⟨v,Β,nd,h1,rv⟩:=r;exact KI v (TR.repN s1 t v as BQB rv)
   | nt as ts=>
    show DM;obtain⟨p,vs,Β,e2,nd,h1,rv⟩:=r;refine ŕ Wp;exact Sf p (AkE s1) (AeK s1 ts vs as BQB rv)
   | xe as C fs ts=>
    show DM;obtain⟨a,oe,dx,vs,Β,e2,_⟩:=r;refine ŕ B';exact BRu
 ·show A3P=Ι;show gu (AXp hb) hn
section
variable{K:AD}{F F' :Hp}
mutual
theorem ybi(hA:eg F (LDn u\/MI F')):Bgk
 | B8,_,_,h=>OG
 | jb,_,_,h=>OG
 | b9,_,_,h=>OG
 | gc,_,_,h=>OG
 | AEV,_,_,h=>OG
 | AJc,_,n,h=>by
  show Aor;refine⟨a,vs,h0,?_,zkk hA ds vs n h2⟩;show AiF h1 h1 h1 h1
  ·rcases ARD with (z | ⟨_,_,z⟩) | z
   ·exact z.tup.elim
   ·show AIX
   ·show FR (HV z)
  ·rcases ARD with (z | ⟨_,_,z⟩) | z
   ·exact z.frz.elim
   ·show AIX
   ·show FR (FM (We z))
  ·show He h1
 | Ajy,_,n,h=>by
  show AFQ dx vs h0 h1 h3 h4;refine⟨a,dx,vs,h0,?_,h3,zkk hA ds vs n.2 h4⟩;rcases ARD with (z | ⟨_,_,z⟩) | z
  ·have:=z.ins;show kl (z11 h3) n.1;show IN
  ·show AIX
  ·exact z
 | Ý,_,n,_=>tq
 | Ϣ,_,n,_=>tq
 | AEh,_,n,_=>tq
 | AEi,_,n,_=>tq
 | APo,_,n,_=>tq
theorem zkk(hA:eg F (LDn u\/MI F')):Bgl
 | [],_,_,h=>OG
 | b_,_,n,h=>by
  obtain⟨v,r,h0,h1,h2⟩:=h;exact⟨v,r,h0,ybi hA d v n.1 h1,zkk hA ds r n.2 h2⟩
end
#where
structure Jl (Bfy) (σ:St) (Γ:G2) (F1 H1:Hp):Θ where
 R:BZK
 back:∀{F' H' :Hp} {B5 :G2},SR K F1 H1 F' H' σ B5 ->qc F' ->∃F2 H2,xI F2 H2/\xC F2/\ (∀ds vs,AN1 ->AIi ->aM K F2 ds vs)/\ (∀a u,Nc H1 ->AuW ->IL H2 u/\Ï/\AFI/\ (r8 ->Nc F2))/\
  (Auc)/\Aul
 hS:Mn Z_ (∃o AI,AhG/\Md H1 ya)
 hN:A5Y
section
variable{X:Cx}{F0 H0:Hp}{e:AK}{te:bZ}{tf:cW}
open Ĝ in
theorem lent{K:AD}(I:AW)(R:Hm):∃F1 H1,AJO s/\Bfz/\Alj:=by
 obtain⟨F1,H1,s1,R1,n1,o1,hS,hN⟩:=yb1 R (f_ ((MY b).dL ZN));refine⟨F1,H1,yca A__ I AXz hN,⟨R1,fun{F' H' B5} R' s' => ?_,L7,hN⟩,FY b hb o u w⟩
 ·obtain⟨AI,e1,e2⟩:=ADM;obtain⟨_,_,_,_,o,_,_,e,_⟩:=(AU4 b P8 b e1);exact⟨AI,o,e1,e,yB e2 e⟩
 ·have gr:BOv (F' b) (pr (ABi Z_ H (H' b))):=by
   refine⟨K0,K0,K0,qf ?_⟩
   ·show BD (Awi (eK o1))
    exact s' _ _ (s1 _ _ e)
   ·show AFc A4H;show Ë
    ·show Abm
    ·show AJD;show BD (HG (hb w.1));exact R'.g _ _ e'
   ·split
    ·exact e
    ·show AJD;exact Adz _ _ (ET AjV e)
   ·have e' :A4H=Ε o:=e;show Ë
    ·show Abm
    ·show AJD;have:=Ban R'.gr.n;unfold wz at Τ⊢;show DF (hN b (HG (hb w.1)));exact Τ
  refine⟨_,_,ALq gr,OS,fun ds vs hd hr=>zkk (K0) ds vs hd hr,Oy a u h1 h2,FL Ain,Ayr⟩
  ·by_cases hb:eC
   ·obtain⟨_,w,ev,ld⟩:=o1 b hb;show AaH (s' _ _ ev) e;show IN;exact M' ld
   ·show He (by show av A4H;show BD hb;exact e)
  ·have nn:¬cL Γ σ H a:=HG (by obtain⟨_,_,e⟩:=hS a w;rw[e] at h1;show AE h1 h1 h1 h1 h1 h1 h1 h1 h1 h1 h1 h1 h1 h1)
   have hH:Ä:=Qb (hN a nn) h1
   refine⟨by show(DH (cL Γ σ H a) (H a) (H' a))=_;show BD nn;exact h2,?_,AsU hH,Sk hF⟩
   ·cases q:H0 a with
    | Ι=>rfl
    | Ε w=>show A1U (Adi _ _ q) hH
   ·split
    ·rfl
    ·exact hF
 ·obtain⟨AI,e1,e2⟩:=ADM;exact⟨_,AI,e1,e2⟩
 ·obtain⟨AI,e1,_⟩:=ADM;show A1U (ASU b o u w) e1
theorem Jl.thaw{K:AD}{H2:Hp}(L:Bfz)(n0:Alj)(I' :ABp s)(sm:Afa)(h1:Auc)(h2:Aul):ZO H2 s:=by
 refine z8m A__ I' AXz h2 n0;obtain⟨o,AI,e1,e2⟩:=Ay1;exact⟨o,AI,sm _ _ e2,CD (h1 b hb) e1⟩
def yF(mT):bZ:=Alw te d (ou d/\P d Γ)
theorem zvq(h:ul RF):AJT (yF te):=fun z E cx=>by
 show AQ9;show AbW;refine Aph q (BgS hp) hq
 ·obtain⟨F2,H2,R2,sF,rs,_,e1,e2⟩:=BjB;have r2:=BMg rs r
  show BVY (A5s (k d Γ F2 H2 v R2 sF r2 hp.2))
 ·show AqR hq;exact A'B hQ
def CJ(tf:cW):cW:=Alw tf ds (AN1/\P ds Γ)
theorem z10(h:ul A4r):ŀ QF (CJ tf):=fun z E cx=>by
 show AQ9;show AbW;refine Aph q (fun ds B5 F' H' a vs R' s' ea fa ha rs ap hp=> ?_) hq
 ·show BBw;obtain⟨q1,q2,q3,q4⟩:=at2 a _ ha ea;exact⟨Adz,H2,e1,e2,k ds Γ F2 H2 a vs R2 sF q1 (q4 fa) q2 (rc ds vs hp.1 rs) q3 hp.2⟩
 ·show AqR hq;exact A'B hQ
#where
#print _3
namespace _3
open IR OI KK _2
section
variable{X:Cx}{F0 H0:Hp}{AB:AX}{L9:XG}{hs:AiL}{h0:AtF}{tb:aD}
theorem z7o{a b:AK}{ta tb:bZ}(hu:ft)(ha:bi)(hb:ŵ)(hm:AuI AJB):kQ (.Ac8 a [AJB] [b] AB) (NC (Lx Μ) ta tb):=fun z E cx=>
 Pj (DU z9g (DU zv2 hu E8 OB) hm) (NH Ey Ey (Aa_ (by
  obtain⟨ks,xs,kk,e1,Β,hp⟩:=h2;show AKU r2;have ev:=Kg r1;subst ev;refine Bc1;rw[zzf hkl];exact k _ BF F2 H2 R2 kN hp)))
#where
section
variable{CI:A0}{w:Ap}{A:BQ}{E:dM}{K:AD}{h:AL}{g:ϋ}{d:ASS}{t:Δ}{os:AAb}{x C dx:Ζ}{o:Obj}{EO:Κ}{v:AH}
theorem z3h{Q:á}{m:EX}{ns:Ρ}(X:Sl)(c:AOV)(hn:A0_)(hx:A1O)(hc:Ak0)(hnc:A6r)(hd:BJt)(hns:h.Ns1 dx m)(hw:Within m ns)(hz:D' (HQ+1))
  (hq:∀h' tk',h'.Ns1 dx (A_4 (m y)) ->Ac5 dx h h' ->BO0):
  AQN A9O:=by
 show BM5;obtain⟨od0,es0,ep0,hod,_⟩:=id hns;have J:A5t (Dx od0):=⟨hx,hc,hnc,CD hd hod⟩
 refine Bci;obtain⟨bm,N,nm,qn,bs,P3,sn,CA,ab,col,dd,k0,k1,k2,k3,k5,e1,T,ht,cd,hcd,wq⟩:=Hf X c.cls;have CA:Bgm:=Bag;show Bhy;rw[hd'];show l4
 refine AIb;refine z6 (z7 (z6 (BDu hns (gI hn' hs))));obtain⟨oD,esD,epD,hoD,hdD,hcD⟩:=hn'.count (Within.cons EO v hw);refine BAQ (ad GM BGO hz)
 exact z7 (hq h' _ hn' hs)
#where
section
variable{CI:A0}{w:Ap}{A:BQ}{E:dM}{K:AD}{s:AF}{C a:Ζ}{BV:Env}{Q:Aja}
theorem z3e{m c:AUZ}(hC:ç)(hh:A6Z)(hc:Bce (AP1 c P))
  (hm:AIH m (Ĺ EZ (∃e oe fv o vs,BXr (Apt (ACr AS6/\Akz/\AVs/\a≠e/\
   ACw (RS e=Ε BaO) (AOo e AS6) (Ahi (xB EZ h'))))))):KA (BSv (Ε c)):=by
 refine sv hm (Ahv v) mo;obtain⟨e,oe,fv,o,vs,Β,X,he,hc',hda,ha,hd,h2,ne,hE⟩:=Y_;obtain⟨bm,N,nm,qn,bs,P3,sn,CA,ab,col,dd,k0,k1,k2,k3,k5,hC,T,ht,cd,hcd,wq⟩:=AKK;have hcB:Ann Aa7:=BUb
 show AMs EZ;obtain⟨oc,od,oda,osl⟩:=oe;subst hc' hda;refine AIw (hc _ _ AwV)
 show BeP
 show E2 hCe (e≠C) (AZ (by rw[<- z] at hC;rw[show hp.get? e=_ from hC] at he;show AE he he he he he he he he he he he he he he)) g1 (∀(h:AL) f b u,b≠e ->MI L' ->MI (Asu e f).IE) (fun h f b u n q=>(ANn (qV n)).ON q) he3 ((hp.update e (Obj.mapFields (·.setIfInBounds 3 Value.none))).IE e=Ε (AVl fv osl)) (Anq he) he4 (((hp.update e (Obj.mapFields (·.setIfInBounds 3 Value.none))).update e (Obj.mapFields (·.setIfInBounds 4 (Value.bool true)))).IE e=Ε ⟨HC,od,AHD (AtX fv AWB),osl⟩) (Anq he3);have hC4:=g1 _ (Obj.mapFields (·.setIfInBounds 4 (Value.bool true))) C _ (qV hCe) (g1 hp (Obj.mapFields (·.setIfInBounds 3 Value.none)) C _ (Ne.symm hCe) hC);have ha4:=g1 _ (Obj.mapFields (·.setIfInBounds 4 (Value.bool true))) a _ ne (g1 hp (Obj.mapFields (·.setIfInBounds 3 Value.none)) a _ ne ha)
 repeat (first | show ADW he4 | show ADW hC4 | wp_step)
 refine zvx hh ha4 hd h2 ne he4 Β (APg (2<6)) (hE _ (BlT he4 Β) (WS n q (g1 _ _ b u n (g1 _ _ b u n (g1 _ _ b u n q)))))
theorem z4a(BhD){E9:DD}{cause:AK}{Q:Aja}(hC:ç)(hh:A6Z)(ALi:ATw AnE)
  (hi:AI7) (hf:AbL) (hca:Bce (AP1 (ACv cause) P))
  (h:AoW AwK fv (fv= HC/\AP1 (evalArgs HE Μ AnE []) (fun ar LJ=>ar.kw= []/\D' ar.pos.length/\BIC/\
    IZ JU (AZ_ (IM (HC::ar.pos))) (Al' AOI ar.pos) (Akh (∃oe fv o vs,BIA/\BSy/\Apt (ACr As8/\Akz/\AVs/\a≠BlD/\
      ACw (RS AOI=Ε BaO) (AOo BlD As8) (E (Bn AOI) (AUO h'))))) E
     (BNw (pj ar.pos.toArray) BIM)))):
  BYo (Dx cause):=by
 rw[BoY];refine Ayc (z3e hC hh (fun EZ P hP=>z6 (hca _ _ (z6 (ASe (z7 hP))))) ?_);refine sv (BNH fv mo) Ba' mo;show tN Y_ Y_;refine AIw (Ż Y_ (fun ar LJ dE=>AzL) mo);obtain⟨LX,akw⟩:=ar;show Fh hkw FI X dE dE;show HA (akw= []) hkw;show AMs LJ;obtain⟨bm,N,nm,qn,bs,P3,sn,CA,ab,col,dd,k0,k1,k2,k3,k5,hC',T,ht,cd,hcd,wq⟩:=AKK;simp only [ALi];refine BOs;refine z6 (z0z X hC hi hf (Ż dE (fun r s' hr=>BVP) (Jn z z)) FI);obtain⟨_,oe,fv,o,vs,X',he,hc,hda,ho,hdo,h2,ne,hE⟩:=hr;exact⟨_,oe,fv,o,vs,Β,X',he,hc,hda,ho,hdo,h2,ne,hE⟩
#where
section
variable{X:Cx}{Ξ:dN}{σ:St}{H:Hp}{s:AF}{A:BQ}{E:dM}{a C dx:Ζ}{f f1:Κ}{y v1:V}{u:AH}
theorem yd8(I:AW)(e:Nd AQc)(ed:Tm dx BR2)(c:ADk)(n:tI)(nf:f≠f1)(ry:RE)
  (h:Al3 (xw dx BWk s')):A_8:=by
 show A7y;obtain⟨mA,ns,r⟩:=KS dx _ ed;have hw:Within mA [f1]:=fun g hg=>by
  by_cases q:g=f1
  ·rw[q];exact AeL Β
  ·have:=r g;have hb:G_ g f1:=AzG;simp only [Ė,hb] at Τ;cases z:mA g with
   | Ι=>show L2 z hg
   | Ε w=>show DF z;exact this.elim
 obtain⟨hp,gg,d,tk,os⟩:=s;refine z3h VI c n hx Β Β Β ns hw (by rw[AdX,ALV];show AA) fun h' tk' ns' sb=>h _ ?_
 obtain⟨o',es,ep,ho',_⟩:=id ns';refine I.write (t' :=tk') (x:=dx) (e:=dx) (Aup ed) WN (xp u z (HZ sb.2 b hb z)) (Fk ho') (D4 ns' (Sk g))
 have rg:=r g;by_cases q:g=f
 ·have hb:G_ g f1:=AK2 (q ▸ nf);have hb2:A2k:=BHd;simp only [Ė,hb,hb2,Kk];exact ry
 ·have hb2:G_ g f:=AzG;show BD q;by_cases q1:g=f1
  ·have hb:ĸ g f1:=BDv q1;simp only [Ė,hb] at rg⊢;exact rg
  ·have hb:G_ g f1:=AK2 q1;simp only [Ė,hb,hb2] at rg⊢;exact rg
#where
def QJ(Bgo):TS:=A_N (∃a dx f1 v1,x= B'/\IL H2 AQc/\H2 dx=Ε BR2/\f≠f1/\AHY (upd H2 dx BWk))
section
variable{X:Cx}{o FF:AK}{f:Κ}{AB HP :AX}{ta tv:TE}{C:Ζ}
theorem ybr(BhU):BZ6 QJ:=by
 show Do D;refine BD_ (bV Aje (ACi B_)) hs;obtain⟨y,H1,I1,ry,q⟩:=B_;refine ACT A7g ov Bi;obtain⟨x,H2,I2,rx,a,dx,f1,v1,ex,ea,ed,nf,q2⟩:=Bi;subst ex;show A0N;exact yd8 I2 ea ed c n nf ry (AnO ⟨σ,_,I3,q2⟩)
#where
structure QK (AxW) (k:Δ) (f:Ζ) (fd:Fc) (C:Ζ) (f1 f2 a1 a2:Κ):Θ where
 run:∀(b0:Ζ) (A:BQ) (DE:LT) (s:AF) (H:Hp) (E9:Args) (us:At) (x:Ζ) (v1 v2:V) (Q:VK),AhD ->AnH ->Hk (BUu (z0).zip) (AH9 [.B4 x,v1,v2]) BSZ (∀dx H',N4 dx ->Bfp BSQ H) (AI0 ACQ (A.mark (Ε (Bn b0))) Lc E9 (AHu (∃u,r= .ok (.ret u)/\A'u)) s)
section
variable{P:A0}{w:Ap}{K:AD}{mg:EX}{DS:AL}
theorem z8s(AFq){st:AR}{f:Ζ}{fd:Fc}{k:Δ}{C:Ζ}{f1 f2 a1 a2:Κ}{p1 p2 p3 p4 p5 p6 p7 p8:AX}(Fn:AFi)
  (hbd:yd st= [.ALJ [.AAt Ako f1 p2] (ME a1 p3) p4,.ALJ [.AAt (AH5 p5) f2 p6] (ME a2 p7) p8]) (S:ES z0 z0 st)
  (hc:AOV) (hn1:ADN f1) (hn2:ADN f2) (nf:f2≠f1) (hv0:A4P) (hv1:sW (aU st) a1) (hv2:sW (aU st) a2)
  (hs1:∀BV:Env,Ļ (AGR (ME a1 p3) (Dx (ABa Ako f1 p2)) p4.line BV)) (hs2:∀BV:Env,Ļ (AGR (ME a2 p7) (Dx (ABa (AH5 p5) f2 p6)) p8.line BV))
  (hd1:G_ a1 (ALD :Κ):=by decide) (hc1:G_ a1 (Ac6 :Κ):=by decide) (hd2:G_ a2 (ALD :Κ):=by decide) (hc2:G_ a2 (Ac6 :Κ):=by decide):
  BaL Eg:=by
 show AKM;refine⟨fun b0 A DE s H E9 us a v1 v2 Q hr e0 hb r hx hQ=> ?_⟩;have KX:AJx:=Bm2 Amm;have lim:Bm3:=Bm4 Amm;have hkind:∀y∈ (z0).zip us,BcH AU6\/ (BcH ł/\ (Al4 lc (aU st).IS [] y.1).Ć=Μ):=AlK (by
  obtain⟨n,v⟩:=y;rcases BOE with q | q
  ·show FR q
  ·show He BRh)
 show BE (Bm5 (A:=A.mark (Ε (Bn b0))) hr.depth (KX _ _ lk) Β S.co S.gen Β BVJ BHw) Bdf;subst he;refine BVQ;have I0:Inv (AtZ z0 DE s H Ò) [] A_d H s1:=BfX Β;have I:Inv ((BWd b0).wsh AUD) [] A_d H s1:=yf8 (z:=Fk []) (Ξ:= []) (zn6 I0 b0);have W:=(Z9 (X:=(BWd b0).wsh AUD) (z9c (AB:=p4) (HP :=p2) hc hn1 (Aol p1 0 Β hv0) (Aol p3 1 Β hv1 hd1 hc1) (hs1 _)) (zta (ybr (AB:=p8) (HP :=p6) hc hn2 (Aol p5 0 Β hv0) (Aol p7 2 Β hv2 hd2 hc2) (hs2 _)))) [] s1 A_d H BXF I
  ⟨v1,Β,B',Β,a,Β,hx,fun dx n1 n2=>⟨v2,Β,B',Β,a,dx,f1,v1,Β,A2h,gP,nf,hQ dx _ n1 n2 (by rw[Avd,Avd,gP]) gP (BVe (bU q2))⟩⟩
 rw[<- hbd] at W;refine Po W (AV fl s' hs) fun e s' z=>z.elim;cases fl with
 | ret u=>
  obtain⟨v,DT,H',J,rv,q⟩:=hs;exact⟨_,Β,v,H',J.os,J.bare,J.base,J.hok,rv,q⟩
 | L_=>
  obtain⟨DT,H',J,q⟩:=hs;exact⟨_,Β,V.non,H',J.os,J.bare,J.base,J.hok,Β,q⟩
 | brk=>
  show Ap0
 | RU=>
  show Ap0
#where
def CK(F:Hp)(a:Ζ):Θ:=∃o C,A0w/\AjR
def zui(C:Ζ)(f1 f2:Κ)(kX):aD:=A3y (∃d1 d2,ds= [d1,d2]/\BRD)
section
variable{X:Cx}{F0 H0:Hp}{e1 e2:AK}{AB np HR cp:AX}{t:cW}{x f1 f2 a1 a2:Κ}{C f b0:Ζ}{fd:Fc}{k:Δ}
theorem z31{j}(hA:CK F0 b0)(hg:KG)(hm:AKB)(hC:ADk)(hi:Bcn)(hf:BLx)
  (Fn:AfF QK k f fd C f1 f2 a1 a2) (hr:AKL) (hb:ASp AJ fd z0 []) (ha:BY')
  (Bd'):
  Bc0:=by
 rintro z E cx Ξ s σ H D I ⟨F,Γ,D2,R,h,k'⟩;refine P9 z4a K AJ C C f f a b0 hC.cls Β ?_ hi (AGW hf) (fun EZ P hP=>BmS hP) (Hw (X:=A9j z) I hg hm Ϥ hd)
 ·rw[he];show Me (false || (backTo cpos (starEach [e2] X.env)).any (·.1))
  rw[hpl];rfl
 ·have A9:=ha z E cx HR Ξ s σ H (AIE H1 (∃F1 AC d1 d2,AM1/\aM AJ F1 [d1,d2] vs/\BRD)) I (jn (by
   obtain⟨d1,d2,Β,hE⟩:=h1;exact⟨F1,AC,d1,d2,R1,r1,hE⟩))
  rw[show ASY Af1 ((ABH b0).wsh z).BV=_ from he] at A9⊢;refine AdW (Po A9 (AV us s2 hq) Aak);obtain⟨vs,H1,I1,r,F1,AC,d1,d2,R1,rs,hE⟩:=hq;have FI:D' nI:=by rw[<- Pp,<- zC,ALV];show C8 (2<=_);show AA
  refine⟨Β,FI,ABG,?_⟩;have ge:AxL AiY=Ε BTh:=by
   have:=z9 (Ĥ AVC) (o:=AVL) Β;show DF Y1;exact Τ
  have kp:BQA:=AX1;generalize hh2:(Ĥ AVC).Ps AVL=h2 at ge kp⊢;have n1:yv AiY:=AlS;have hle:ABK<=ABK+1:=ATL _;generalize hea:BlC=a at ge n1 hle⊢;have I2:Inv (A9j z) Ξ σ AOe (Anx h2):=Bdo;have f1n:Nc F1:=by
   cases q:F1 a with
   | Ι=>rfl
   | Ε o=>show BCU
  have u1:BYO:=BYh;obtain⟨v1,_,Β,rv1,v2,_,Β,Td,Β⟩:=rs;have hl:Tx AWV= Tx z0:=by
   rw[GM,<- Pp];rfl
  have hbs:=Bep
  rw[Y2] at hbs;have E0:=I2.env0;have E1:BYb (Anx h2) AOe:=⟨E0.frames,E0.mod,E0.bs,E0.bsz,E0.funs,E0.frf,E0.hok,E0.bare⟩;refine AuU ATB (ATC b0 (X.A.under (At_ (IM (HC::us)))) MX _ _ (IM (AMy::us)) AWV a v1 v2 (AUl (v= B8/\∃p,IL H' (AfN p)/\H' p=Ε (.xd BSQ)/\p≠a/\yv p/\∀b,SW ->b≠p ->H' b=H1 b)) Biq (E1.make C us []) hbs (AxA EC a) gP fun dx H' n3 n4 e1 e2 e3=>⟨Β,dx,e1,e2,n4,Axv (bU n4) n3 n3,fun b h1 h2=>(KE (e3 b h1 h2) (bU h1))⟩) BPM
  show EM u Β hq' hq';obtain⟨v,H',os,Gc,un,DV,rv,ev,p,ea,ep,pa,p1,e3⟩:=hq';subst ev;refine C3 rv;have I3:Inv (A9j z) Ξ σ H' s' :=I2.call' (s' :=s') os un DV Gc Ahh
  obtain⟨t0,gx⟩:=zs1 DV ea;have sS:Afa :=Of (CD (e3 b (gJ e n1) (gJ e p1)) e)
  obtain⟨o0,C0,ho0,hd0⟩:=hA;have g0:H' b0=Ε (.frz o0 (qZ b0 C0)):=sS _ _ (LZ _ _ (R1.gr.f _ _ ho0));obtain⟨k1,⟨o1,vs1,k2,k3,k4,k5⟩,_⟩:=I3.hok b0 _ g0;rw[k1] at k2;show AE k2 k2 k2 k2 k2 k2 k2 k2 k2 k2 k2 k2 k2 k2;show HL k6 (Iq vs1 2 nE) (k5.resolve_right fun n=>n hd0) ne0 (b0≠a) (Amg ea g0 g0 g0 g0 g0 g0 g0 g0 g0 g0 g0 g0 g0 g0 g0) ⟨_,t0,o0,vs1,I3.kIn,gx,Β,Β,k1,k4,k6,ne0,gI gh kh⟩;have Aj:=Asq un;have nH:BOw:=AWn (by
   show Ao7
   ·simp [hb] at eb
   ·exact BVO)
  have yH:BW0:=BTO
  show E2 nfr (eg H' (b∉fw)) (WS eb hm (by
   have:=I3.stkFree b hm;show DF eb;show IN)) old (Ł Adq SW) (dy eb z (BV' (z ▸ eb))) nfa (a∉fw) (nfr a _ ea) fp (F1 p=Ι) (R1.g.free p1);refine BUL (AUO h') ⟨a,HC,Agh,BVH,Ε p,Β,os,Gc,?_,?_,?_,?_,?_,.pay C [f1,f2] BkG,F1,hE,ADb ?_ ?_,Β,p,[v1,v2],[],Β,Bal,Β,fp,p1,Asw,(Nn (Ņ hb hb hb hb hb hb hb hb hb hb hb hb hb hb)),?_⟩
  ·refine⟨fun b o eb n h1 h2=>kh b o A7k (Aj.keep b o eb n h1 h2),fun b o eb n h1 h2=> ?_,FY b o eb n hx,ACu eb hx,APb xs,ACu u eb,APb ps⟩
   ·obtain⟨sl,q⟩:=Aj.slot b o eb n h1 h2;exact⟨sl,kh b _ A7k q⟩
   ·have:=Aj.free b o eb n hx;simp [Τ]
   ·show AMh q (A4h hx);exact⟨o',kh b _ A7k q⟩
   ·exact BJl xs
   ·exact BX4
   ·show EU more q Aj.nR b ps eb;exact⟨more,Agd q⟩
  ·intro b u eb;show EU hb eb nH b u eb;refine AIl DV eb (fun c o hc q=>kh c o (B6 hca ?_) q) (bX q ApY) fun c xs q=>ApY
   ·rcases hc with hc | hc
    ·exact hb (hc ▸ hca)
    ·rw[hca,ea] at hc;show AE hc hc hc hc hc hc hc hc hc hc hc hc hc hc
   ·show ApF
   ·show ApF
  ·refine⟨WH o (kh b o (Ev (Aha (zje _ AAa))) BNe),zje _ zY,?_,A_q gh (.BO (AZ ABh))⟩
   have k:=BEx (as:=a::fw) I3.stack BZ';exact k.of_keeps (A1R (kh b o (Ev (by subst z;rw[gx] at q;show SY;exact n _ Β)) q))
  ·intro b o eb n;show AJ1 (A4h A7)
   refine⟨o',Aws e'⟩;rcases Cn hm with Β | hm
   ·show AEk (old _ _ eb)
   ·exact n hm
  ·intro b u eb;show EU hb eb nH b u eb;obtain⟨o,eo⟩:=zwi (DV b u eb);refine BO4;show Bd0
  ·exact AWn (yH b u (gJ BJ3 n1) (sS b u BJ3))
  ·exact BUE
  ·refine⟨v1,[v2],[],[],Β,Β,?_,?_⟩
   ·exact Hb rv1
   ·refine⟨v2,[],[],[],Β,Β,?_,?_⟩
    ·exact Hb Td
    ·exact Å
#where
theorem zqz{A B C:BQ}(h:AsT A B)(k:AsT B C):AsT A C:=fun B5 e=>by
 obtain⟨AC,a1,a2,a3⟩:=h B5 e;obtain⟨BF,b1,b2,b3⟩:=k AC a1;exact⟨BF,b1,b2.trans a2,b3.trans a3⟩
theorem caught{X:Cx}{z:Nf}{Ξ:dN}{σ1:St}{H1 H' :Hp}{s1 s' :AF}{B h6:AL}{l:LT}{a C:Ζ}{dx:ND}(hex:AQK)(hst:AmZ)(hfr:Aac)(I1:AP5 H1 s1)(os:s'.os=s1.os)(Gc:AIh)(un:AUx H1 H' AdF YY)(DV:AZX)(b1:AmY)
  (inB:WU (KU AL5) (b∉fw) ANL) (v7:AmB) (Xq:uN B l a HE dx BA h6) (up:BnT h6):∃oe:Obj,Nc H'/\Adh=dx/\AP5 AZh AYw:=by
 have I6:AP5 H' AYw:=BOh I1 hex os Gc un DV b1 Xq.1 inB v7 up;obtain⟨oe,vs,T,oT,ts,g1,⟨g2,gd,g4⟩,g3,_⟩:=Xq.2.2.2;show E2 nB Ayp Xq.2.1 nH (Nc H') (by
  cases q:H' a with
  | Ι=>rfl
  | Ε u=>show EU o' e' v7 a u q;rw[nB] at e';show ϖ) nfs (a∉fw) (fun hm=>by
  obtain⟨_,o2,e2,nf⟩:=I1.stack.mem hm;show EU sl e3 un.any e2 (I1.stkFree a hm) A7
  obtain⟨sl',e4⟩:=up a _ e3 nf;rw[g1] at e4;show AE e4 e4 e4 e4 e4 e4 e4 e4 e4 e4 e4 e4 e4 e4;exact nf _ g3) Jm (Nc AL5) (by
  cases q:AL5 a with
  | Ι=>rfl
  | Ε o=>
   show AJ1 (inB a o q nfs);rw[nB] at e';show ϖ)
 show E2 Xr BHM (by
  cases q:ArM a with
  | Ι=>rfl
  | Ε o=>
   show AJ1 (I1.base.there a o q (by show As (a∉Č);rw[hex];simp))
   rw[Jm] at e';show ϖ) abB BIs (AZ (nfs (by rw[hst];unfold frs;rw[ArR,hfr,z];exact zY))) Xu (ADY a) (fun x c e z=>by
  obtain⟨v,o,ho,_⟩:=I1.cell x c e;rw[z,Jm] at ho;show AE ho ho ho ho ho ho ho ho ho ho ho ho ho ho) abC (WO (z.pn++Ξ) (DA≠a)) (fun p hp z=>by
  have ho:=AOh I1.pin;rw[z,Jm] at ho;show AE ho ho ho ho ho ho ho ho ho ho ho ho ho ho)
 have IT:AP5 AZh AYw:=Inv.track I6 nH ⟨g1,⟨oe,vs,g1,g2,g3,CD gd g4⟩,⟨oe,g1⟩,fun h1 h2 B_ st=>by obtain⟨o,ws,p1,p2,p3,p4⟩:=B_;exact⟨o,ws,st o p1,p2,p3,p4⟩⟩ Xr abB Xu abC
 exact⟨oe,nH,gd,IT⟩
def Jo(pl:AU)(F:Hp)(a:Ζ):Θ:=Pb F a/\ (pl=Μ ->CK F a)
inductive Tv (X:Cx) (H0:Hp) (pl:AU):DZ AiL (A3W)
 | EB:∀{x np C b su hp th},KG ->BB AKB (n6 AJ C) BBq (Aym x) (Agk (BbV (Dx AfV)) (fun C' D Γ E=>bQ AJ C' C=Μ/\th D Γ E))
 | AY:∀{x np C b su hp th hs tt},tS KG AKB (n6 AJ C) BBq (Aym x) A5b (Agk (.AtF (Dx AfV) Ι (b::su) hp::hs) (fun C' D Γ E=>(GT (bQ AJ C' C) (th D Γ E) (tt C' D Γ E))))
def Oa(pl:AU)(K:AD)(tb:aD)(tt:A3W):aD:=fun D Γ E=>tb D Γ fun AC x=>(Bdg (n6 K x.cls) D)
def Jp(pl:AU)(K:AD)(C1 C2:Ζ)(tb th1 th2:aD):aD:=Oa pl K tb (BUJ (bQ K C C1) (j_ C C2/\th2 D Γ E))
section
variable{X:Cx}{F0 H0:Hp}{AB:AX}{hs:AiL}{L9:XG}{tb:aD}{tt:A3W}{pl:AU}
theorem yip(hex:AQK)(hst:AmZ)(hfr:Aac)(hb:∀F,uD X F H0 L9 tb)(hh:A5b):BcJ (Oa pl AJ tb tt):=by
 rintro z E cx Ξ s σ H D I ⟨F,Γ,D2,R,h,k⟩;obtain⟨h0,hr,eh⟩:∃h0 hr,hs=h0::hr:=by show AJF hh hh hh hh hh hh hh hh hh hh hh hh hh hh Ajh
 rw[eh];refine wpAny_Try_except ?_;rw[<- eh];have A9:=hb F ⟨fun e EZ=>(ACU (Ado e B9) (JP LJ (ACU (setFlight e Ι) (JP ę (ACU (handleBy e B9 hs) BaY AA_ ę)) AA_ LJ)) AA_ EZ),z.pn++Ξ⟩
  (fun AC x=>(Bdg (n6 AJ x.cls) D2)) ⟨? px,Jn h (PassesOwnAt.lookingOf h)⟩ [] s σ H D (yf8 I) ⟨F,Γ,D2,R.base,h,k.base R.gr⟩
 ·refine Po A9 (i4 f q) Ó;have q' :=yny q;cases f with
  | L_=>exact Ac' q'
  | ret v=>exact q'
  | brk=>exact q'
  | RU=>exact q'
 ·intro sX σ1 AC F1 H1 s1 e s' I' R1 hx;have I1:AP5 H1 s1:=Wd I';obtain⟨a,Cv,H',B,dx,Β,os,Gc,un,DV,J8,inB,v7,BF,F2,xv,R2,Ip,xr,apx,hpl,hCc,hth⟩:=hx;have abD:Cv= .B4 xv.cls:=xr.1;subst abD;have pl0:pl=Μ ->dx=Ι:=PH (by
   show w8 C (hpl q);exact xr.2)
  generalize xv.cls=C at hCc hth J8 DV v7 inB un;refine z23 (BV:=B9) (DE:=AGJ) (I1.ok.frames.trans (NJ Ε hst)) hfr (UK hst J8) (AV h4 held up4)
  refine HF (s:=AUO h4) held (AV h5 fl up5);have I5:AP5 H' Akf:=BOh I1 hex os Gc un DV J8.1 fl.1 inB v7 (up4.trans up5);obtain⟨ob,hob,hobc⟩:=fl.there;have suite:∀(th:aD) (b:AR) (su:XG) (hp:AX),BBq ->th D2 BF E ->
    ALX ir (X.A.mark (Ε EC)) (.handlers EC (BbV Ι) B9) (xt LJ (match r with | .ok f=>AnC LP LJ | .oB x=>cameBackBy ir X.A B9 AA_ x LJ)) Akf:=by
   intro th b su hp hh hth;refine codeAny_handlers_suite (HF (s:=Akf) fl (AV h6 Xq up6));show Fh oe nH gd IT (caught hex hst hfr I1 os Gc un DV J8.1 inB v7 Xq (XI up4.trans up5 up6));have wg:Gr F2 H' A1l AZh:=AGh R2.g nH;have IH:Inv BKy Ξ σ1 AZh AYw:=zn6 (X:=ĝ AwZ) ⟨z7v IT.ok _,IT.os,IT.bare,IT.base,IT.loc,IT.cell,IT.free,IT.freeC,IT.pin,IT.hok,IT.len⟩ a;have R7:=AsV wg;have R8:=R7.unbase R.gr;have cxs:Ctx BKy A1l H0 E:=by
    refine⟨fun Xv σ2 Γ3 F4 H4 s4 e s5 I4 R4 hx4=> ?_,fun A' A'' hS=>cx.pq A' A'' (zqz hS (Bo_ _ _))⟩;refine cx.pX Xv σ2 Γ3 F4 H4 s4 e s5 (Wf I1.ok I4) (R4.unbase R8.gr) (hx4.imp (Oy C dx H' hq));obtain⟨B5,F',x,R',s,xr,ap,hE⟩:=hq;exact⟨B5,F',x,R'.unbase R8.gr,s,xr,ap,hE⟩
   have run:=hh a A1l ⟨⟨oe,C,gP⟩,PH ⟨oe,C,gP,gd.trans (pl0 q)⟩⟩ AwZ E cxs Ξ AYw σ1 AZh D IH ⟨_,BF,D2,R7.base,hth,(((k.base R.gr).di R2.gr.f).di wg.f).DS R7.gr⟩;exact Po run (fun f s2 q=>z7y I1.ok q) (cx.pq _ _ (Bo_ _ _))
  obtain⟨bm,N,nm,qn,bs,P3,sn,CA,ab,col,dd,k0,k1,k2,k3,k5,e1,_,_,_⟩:=Hf AtG hCc;have go:∀{hs tt},A5b ->tt C D2 BF E ->ACU (handleBy EC B9 hs) BaY AA_ Akf:=by
   intro hs tt hh hth;induction hh with
   | EB hg hm hC hh hd=>
    refine Bo' (BpA (Hw (X:=BNq) (zn6 I5 a) hg hm ?_ hd)) BNk
    obtain⟨bm',N',nm',qn',bs',HX,sn',sub',ab',col',M7,j0,j1,j2,j3,j5,e2,tl,_,_⟩:=Hf AtG hC;refine Bgr;rw[BbA,hth.1];exact e_ suite hh hth.2
   | AY hg hm hC hh hd _ ih=>
    refine Bo' (BpA (Hw (X:=BNq) (zn6 I5 a) hg hm ?_ hd)) BNk
    obtain⟨bm',N',nm',qn',bs',HX,sn',sub',ab',col',M7,j0,j1,j2,j3,j5,e2,tl,_,_⟩:=Hf AtG hC;refine Bgr;rw[BbA];split at hth
    ·show Kj;rw[q];exact e_ suite hh hth
    ·show Kj;rw[Bool.eq_false_iff.mpr q];exact ih hth
  exact go hh hth
#where
open Ĝ in
theorem ye2{P:A0}{w:Ap}{DE:LT}{s s' :AF}{e:AH}{E E' :XK}{H H2:Hp}(S:Aig)(h:AaS fD)(hS:BYF)(hN:Z' AJC H2 H)
  (k:∀C dx H' H2',(Ag5 (H' b=H b/\H2' b=H2 b)) ->(Z' AJC H2' H') ->AbN ->E' C dx H2'):fD P w DE H2 s E' e s' :=by
 obtain⟨a,C,H',B,dx,h1,h2,h3,un,DV,J8,inB,v7,hE⟩:=h;show E2 fz (Z' (S b) H' H) (FL (by
  show AVU AI e1 ADM;rw[e1];exact un.lu b _ _ e1)) i1 (Z' (S b) A_C H2) (FL Ain) i2 (Z' AJC A_C H') Ayr no (qq (H2 b=u) (∀AI,u≠Ε P8) (AJC/\H b=u)) (AZx (by
  have hb:AJC:=AO4 (by
   obtain⟨_,AI,_,e2⟩:=ADM;rw[e2] at q;exact n AI Asd)
  exact⟨hb,Qb AjV q⟩))
 generalize A_C=H3 at i1 i2;show HL ne (qq (MI H') (BPr) (MI H3)) (AZx (by
  rw[i2 b (Sk hb)];exact q;obtain⟨_,_,e1,_⟩:=ADM;rw[fz b hb,e1] at q;show AE q q q q q q q q q q q q q q;exact n _ _ Β)) st (Os u HO b Ζ (BWc H') (BWc H3)) BU4 ⟨a,C,H3,B,dx,h1,h2,h3,⟨BTf,BTf,FY b o eb n q2,un.there,A2c,ACu u q,Na ps q⟩,â,J8,inB,â,k C dx H' H3 (Nn ⟨fz b hb,i1 b hb⟩) i2 hE⟩
 ·exact BgN un.keep
 ·exact BgN un.slot
 ·obtain⟨hb,n'⟩:=no b _ n ANc
  rw[AJe];exact un.free b o eb n' q2
 ·show A9e
  rw[AJe];exact un.tups b xs q'
 ·show A9e
  rw[AJe];exact un.lu b o u q'
 ·show A9e
  rw[AJe];exact un.nR b ps q'
 ·by_cases hb:S b
  ·show A5x;rw[i1 b hb,e2] at q;show SY;exact st (DV b _ (BPy e1)).2
  ·rw[AJe] at q;exact st (DV b u q)
 ·by_cases hb:S b
  ·show A5x;exact v7 b _ (BPy e1)
  ·rw[AJe] at q;exact v7 b u q
#print _3
namespace _3
open IR OI KK _2
mutual
def Ly:AEM
 | fq=>ou d
 | ly=>AJm
 | AZt=>AJm
 | AmJ=>AJm
 | Amx=>AJm
 | AEU=>D7
def tK:Ax'
 | []=>ID
 | Xs=>Ly t/\AJm
end
section
variable{K:AD}{F F' H:Hp}
mutual
theorem yar(Bee):∀(t:T) (v:V) (as:Cb),Ly t ->AOD ->TR K F' H t v as
 | fq,v,as,n,h=>by
  have:=hA [d] [v] (A3 ⟨n,VV⟩) (Nb h.2)
  obtain⟨v',_,ev,r2,Β⟩:=Τ;cases (ev);exact⟨ED,r2⟩
 | ly,v,as,n,h=>by
  show AFQ vs bs e1 e2 e3 h;exact⟨a,vs,bs,e1,e2,e3,ApV⟩
 | è,v,as,n,h=>by
  obtain⟨a,vs,bs,e1,e2,e3,e4,h⟩:=h;exact⟨a,vs,bs,e1,e2,e3,e4,ApV⟩
 | AFb,v,as,n,h=>by
  obtain⟨a,vs,bs,e1,e2,e3,e4,h⟩:=h;exact⟨a,vs,bs,e1,e2,e3,e4,ApV⟩
 | AFt,v,as,n,h=>by
  obtain⟨a,dx,vs,bs,e1,e2,e3,e4,e5,e6,h⟩:=h;exact⟨a,dx,vs,bs,e1,e2,e3,e4,e5,e6,ApV⟩
 | AEU,v,as,n,h=>tq
theorem Tw(Bee):∀(ts:Hd) (vs:AT) (as:Cb),AJm ->AIk ->eZ K F' H ts vs as
 | [],vs,as,n,h=>OG
 | Xs,vs,as,n,h=>by
  obtain⟨v,us,bs,cs,e1,e2,h1,h2⟩:=h;exact⟨v,us,bs,cs,e1,e2,yar hA t v bs n.1 h1,Tw hA ts us cs n.2 h2⟩
end
#where
def Gg:HT XV
 | .pay _ _ ts=>AJm
 | _=>ID
section
variable{X:Cx}{F0 H0 F H F1 H1 Lz Gh :Hp}{z:Nf}{E:XW}{Ξ:dN}{σ:St}{Γ AC:G2}{s1 s' :AF}{e:AH}
theorem yex(cx:Atc)(R:AKa)(L:Bg8)(n0:Alj)(I1:Ŧ Gh s1)(R1:BZF)(sF:qc Lz)
  (hq:fD Fr X.w MX Gh s1 Be2 e s'):AA_ e s' :=by
 obtain⟨F2,H2,R2,Ip,_,_,e1,e2⟩:=L.back R1 sF;have I2:Ŧ H2 s1:=DU L.thaw n0 I1 R1.gr.h e1 e2;show HL sH (MC H H2) (WH u (by
  by_cases hb:Z_
  ·rw[e1 b hb];exact q
  ·rw[e2 b hb];exact R1.gr.h b u (ET (L.hN b hb) q))) R3 (pE F H2 Γ) (ALq ⟨qA,fun b u q=>sH b u (R.g b u q),sH,AIe (by rw[q] at n;show AE n n n n n n n n n n n n n n)⟩) (cx.pX Ξ σ Γ F H2 s1 e s' I2 R3 (ye2 A__ hq AXz e2 fun C dx H' H3 fz i2 hx=> ?_))
 ·obtain⟨o,AI,q1,q2⟩:=Ay1;exact⟨o,AI,Ais q2,CD (e1 b hb) q1⟩
 obtain⟨x,F',⟨nx,hE⟩,gr,xr⟩:=hx;obtain⟨F4,H4,R4,sF4,rs4,at4,f1,f2⟩:=BeL;show HA (H4=H3) (funext fun b=>by
  by_cases hb:Z_
  ·rw[f1 b hb,WJ fz,e1 b hb]
  ·rw[f2 b hb,AJe])
 refine⟨Γ,F4,x,R4,sF4,C3 xr.1,Aye R3.apart,hE⟩;have nn:Mn (SC Gh) (¬Z_):=fun b q hb=>by
  obtain⟨o,AI,_,q2⟩:=Ay1;rw[Ais q2] at q;show SY
 cases x with
 | B4 C=>exact xr.2
 | any C=>trivial
 | pay C fs ts=>
  obtain⟨p,vs,as,e3,ep,el,fp,hp,nd,hn,rt⟩:=xr.2;refine⟨p,vs,as,e3,CD (i2 p (nn p hp)) ep,el,(at4 p _ (BGa hp) ep).2.2.2 fp,CD (e2 p (nn p hp)) hp,nd,L7,?_⟩
  ·obtain⟨u,q,_⟩:=ALm ts vs as rt b hb;exact⟨(at4 b _ (BGa ϰ) q).2.2.2 AJl,CD (e2 b (nn b ϰ)) ϰ⟩
  ·exact Tw rs4 ts vs as nx (dQ IP ts vs as (AN_ (i2 b (nn b ϰ))) rt)
#where
def zzu(BhI):bZ:=fun Γ P E=>te (jh Γ) (fun d AC=>(ϴ (C' =C/\AFH/\t AC (sf es BAo) jR))) jR
section
variable{X:Cx}{F0 H0:Hp}{e o:AK}{es:DD}{AB p LX:AX}{x m:Κ}{f fa C:Ζ}{fd:Fc}{ps:Ρ}{k:Δ}{sp:dw}{t:cW}{te:bZ}{pl:AYc}
theorem QL{z:Nf}{E:XW}{F H F1 H1 Lz Gh :Hp}{Ξ:dN}{σ:St}{Γ AC:G2}{s:AF}{us:At}{vs:AT}{ds:AQ}{P:DZ D G2}{Q:VK}(Bgx)
  (R:AKa) (L:Bg8) (n0:Alj) (I:Ŧ Gh s) (R1:BZF) (sF:qc Lz) (r:AY7) (rs:aM AJ Lz ds vs) (h:sp ds (ũ (ou d/\P d Γ)) fun x=>Gg x/\Afc)
  (kk:∀d B5 F' H' v,BB A5p F_ BWt (ax d) Ű):
  BbG:=by
 have hs:nJ AJ sp vs Gh BiZ Be2:=
  BUo Lz h (ApI (by
   obtain⟨F2,H2,R2,Ip,Kd,_,e1,e2⟩:=BeL;have r2:=BMg Kd rv
   show BVY ⟨R1.gr.h.trans gr.h,H2,e1,e2,kk d Γ F2 H2 v R2 Ip r2 hp.2⟩))
 have hl:A5Q:=A9o
 have hbs:=hb s us VI hl;show AOu;refine AaR (ATC X.A MX s Gh AV_ us vs _ _ hr I.env0 hbs) r AZV;cases r with
 | oB e=>exact yex cx R L n0 I R1 sF hq
 | ok fl=>
  cases fl with
  | ret u=>
   show AqR (I.after hq);exact⟨x,H2,DU L.thaw n0 I' sm e1 e2,rv,hQ⟩
  | L_=>show lP
  | brk=>show lP
  | RU=>show lP
theorem z49(BeU)(hr:ţ)(hb:AOr)(ho:ul APu)(ha:ul Si)
  (hst:AKg:=by rfl) (hpl:AHR es:=by rfl)
  (ht:AJY AVH (do
   let ov<- V_ o
   AFS
   let (f,first)<- AFa AQ8
   AFv wp (ļ KW) AKF):=by rfl):
  AqO zzu:=by
 show AFj;show AbW;refine Avr (bV (ho F1 H1 z jR AVP Ξ s σ H1 (Ĺ H2 (∃F2 BF d,AxI F2 H2 BF/\Ae'/\EA AJ F2 d v/\ (ϴ (C' =C/\AFH/\t BF (sf es BAo) jR)))) I1 ⟨F1,jh Γ,_,L.R,h,fun d AC F2 H2 v R1 s1 r1 h1=>⟨F2,AC,d,R1,s1,r1,h1⟩⟩) (ACi ⟨x,H2,I2,rx,F2,BF,d,R2,sF,rd,q⟩)) ht
 cases d with
 | obj C' fs ds=>
  show Aml q q;show Ap2 (AqI I2 R2.g Qd) (BhR (bV (ha F1 H1 z jR AVP AB Ξ s1 σ H2 (AIE H3 (∃F3 Γ3 es,AxI F3 H3 Γ3/\MC F2 F3/\aM AJ F3 es vs/\BAo)) I2 ⟨F2,BF,_,R2,q,fun es Γ3 F3 H3 vs R3 s3 r3 h3=>⟨F3,Γ3,es,R3,s3,r3,h3⟩⟩)
   fun us s2 ⟨ws,H3,I3,r,F3,Γ3,es,R3,sF3,rs3,q3⟩=>(C3 I3.kIn)))
  exact QL (us:= B'::us) (vs:= B'::ws) Fn hr hb cx R L n0 I3 R3 (ğ sF3) (.AY Β r) (qT (Qe.up sF3) rs3) q3 kk
 | _=>show ze
theorem z3o(G:ApJ BR)(hc:ϐ)(hr:ţ)(ho:ul APu)(ha:ul Si)
  (hst:AKg:=by rfl) (hpl:AHR es:=by rfl)
  (ht:AJY AVH (do
   let ov<- V_ o
   AFS
   let (f,first)<- AFa AQ8
   AFv wp (ļ KW) AKF):=by rfl):AqO zzu:=by
 show AnQ f h1 h2 h3;exact z49 hc h2 h1 hr h3 ho ha hst hpl ht
#where
def CN(t:qu):qu:=Alw t tr (Ly tr/\P tr Γ)
theorem z2c(AWx){e:AK}{tn:qu}(h:ul AOf):ŀ QN (CN tn):=fun z E cx=>by
 show AQ9;show AbW;refine Aph q (fun t B5 F' H' v as R' s' nd hn rt hp=> ?_) hq
 ·show BBw;have hh:Ama (Nc F2/\Ï/\AFI/\∀u,AuW ->IL H2 u):=fun a ha=>by
   obtain⟨g1,g2,_⟩:=hn a ha;obtain⟨u,eu,_⟩:=Adf t v as rt a ha;obtain⟨q1,q2,q3,q4⟩:=at2 a u g2 eu;exact⟨q4 g1,q2,q3,fun w ew=>by rw[eu] at ew;show AE ew ew ew ew ew ew ew ew ew ew ew ew ew ew;exact q1⟩
  exact A5s (k t Γ F2 H2 v as R2 sF nd (q_ ⟨(hh a ha).1,(hh a ha).2.1,(hh a ha).2.2.1⟩) (AAz IP t v as (q_ (hh a ha).2.2.2) (yar rc t v as hp.1 rt)) hp.2)
 ·show AqR hq;exact A'B hQ
def CP(tt:TT2):TT2:=Alw tt b (P b Γ)
theorem z1g(AWx){e:AK}{tt:TT2}(h:ul (APz tt)):APz (CP tt):=fun z E cx=>by
 show AQ9;show AbW;refine Aph q (fun b B5 F' H' R' s' hp=> ?_) hq
 ·show BBw;exact A5s (k b Γ F2 H2 R2 sF hp)
 ·obtain⟨H',I',sm,H2,e1,e2,hQ⟩:=hq;exact⟨H2,Bi0,hQ⟩
def Ea:T ->D
 | ABt us=> .dik ks (j6 us)
 | t=>toD t
theorem Xw(AWx){Ξ:dN}{σ:St}{s:AF}{Γ:G2}:∀(ts:Hd) {vs:AT} {bs:Cb} {F H:Hp},AW ->AKa ->BB bs.Nodup (WE bs A_g) Bdq (eZ AJ F H ts vs bs) (∃F' H',ABp s/\pE F' H' Γ/\F_ /\ (Z' (b∉bs) H' H)/\ (A_w bs)/\aM AJ F' (ts.map Ea) vs):=by
 intro ts;induction ts with
 | DL=>
  intro vs bs F H I R _ _ _ r;show AGy r;exact⟨F,H,I,R,qA,AJj,AJj,N1⟩
 | AY t ts ih=>
  intro vs bs F H I R nd hn hd r;obtain⟨v,us,b1,b2,Β,Β,r1,r2⟩:=r;show EM ks xs Β (hd _ zY);obtain⟨a,ws,c1,Β,Β,ea,hkl,r1⟩:=r1;show BI nd1 Xh dis BGl nd;obtain⟨_,_,zs,kv,o,es,ep,h1,_⟩:=Vr KS ea;obtain⟨F1,sF,R1,rp,VW⟩:=R.nail (o:=o) nd1 (Nn (hn b (zQ _ hb))) ea hkl r1;have I1:=zyl I ea h1;have off:On b2 (b∉a::c1):=fun b hb hc=>dis b hc b hb Β;obtain⟨F2,H2,I2,R2,Ip,hH,hF,rs⟩:=ih I1 R1 Xh (Nn (CD (VW b (off b hb)) (hn b (zR _ hb)))) (fun t ht=>hd t (zX _ ht))
   (dQ sF ts us b2 (AN_ (Ahz (AZ (off b hb BKU)))) r2)
  refine⟨F2,H2,I2,R2,ğ Ip,L7,L7,qT (rp.up Ip) rs⟩
  ·show BM4 hH (Ahz (AZ (hb (BCX _ BKU))))
  ·show BM4 hF (VW b (FB (hb (BCX _ h))))
def z7g(tn:qu):qu:=Anz (∃ks ts,t= è/\ Bdq/\GV BRz)
theorem z90(Bf5):ŀ QN (z7g tn):=A6J (by
 show M0 hq;refine bV (Ags he (∀s1,Ŧ H1 s1 ->∃H2,Ŧ H2 s1/\Q v H2) I A9d) A0Y
 ·intro s2 I1;show GG ks ts hd hp h1;show AKk;show D1 n1 Xh Ar3 nd;obtain⟨F2,H2,I2,R2,Ip,hH,hF,rs⟩:=DU Xw ts I1 R1 Xh (Nn (hn b AMT)) hd r;obtain⟨g1,g2,g3⟩:=hn a zY;exact⟨H2,I2,k BRz AC F2 H2 _ [a] R2 (AMP Ip) A7 (Nn (by rw[BjY,hF a n1];exact⟨g1,g2,g3⟩)) ⟨a,vs,[],Β,Β,CD (hH a n1) ea,hkl,Qj rs⟩ hp⟩
 ·obtain⟨x,H1,I1,r1,q⟩:=B_;show GA H2 I2 q q s1 I1;exact⟨x,H2,I2,r1,q⟩)
def Jq(tn:qu):bZ:=Anz (P (toD t) AC)
open Ĝ in
theorem z5e(Bf5):AJT (Jq tn):=A6J (by
 show M0 hq;refine he z E cx Ξ s σ H Q I A9d;have s2:qc (pr (ABi AHr H1 (F1 b))):=WH u (by
  show av A8v;show BD (B6 hb (A1r AJl));exact q)
 refine k _ AC _ H1 v (R1.frzM s2 (â) (AZx ?_)) kN (Adg s2 t v as (fun a ha u q=>by show av (DH AlJ (H1 a) (F1 a));show DJ ha;exact q) r) h1
 ·change av A8v at q
  split at q
  ·exact q
  ·exact LZ b u q
 ·change av A8v at q
  by_cases hb:AHr
  ·exact ϰ
  ·rw[AIZ,n] at q;show SY)
#print _3
namespace _3
open IR OI KK _2
structure Xo2 (AWw) (mg:EX) (DS:AL) (x:Κ) (C:Ζ) (f1 f2 a1 a2:Κ) (k:Δ):Θ where
 ex:BdU (BaL k) (ASp K fd z0 [])
section
variable{X:Cx}{F0 H0:Hp}{e1 e2:AK}{AB np HR cp:AX}{t:cW}{x f1 f2 a1 a2:Κ}{C b0:Ζ}{k:Δ}
theorem zx8{j}(hA:CK F0 b0)(hg:KG)(G:Xo2 Fr X.w AJ ċ cy x C f1 f2 a1 a2 k)(hr:AKL)(ha:BY')
  (Bd'):
  Bc0:=by
 obtain⟨f,fd,Fn,hi,hf,hC,hm,hb⟩:=Ģ;exact z31 hA hg hm hC hi hf Fn hr hb ha hd he hpl
#where
section
variable{X:Cx}{F0 H0:Hp}{AB:AX}{hs:AiL}{L9:XG}{C1 C2:Ζ}{tb th1 th2:aD}{pl:AU}
theorem z81(hex:AQK)(hst:AmZ)(hfr:Aac)(hb:∀F,uD X F H0 L9 tb)(hh:Agk hs (BUJ (bQ AJ C C1) (bQ AJ C C2=Μ/\th2 D Γ E))):BcJ (Jp pl AJ C1 C2 tb th1 th2):=yip hex hst hfr hb hh
#where
abbrev R3:=Κ×Κ×Ω
mutual
def Xx:AJQ
 | Ý=>D7
 | Ϣ=>D7
 | AEh=>D7
 | AEi=>D7
 | A7p=>Ec xs
 | UO=>Ec xs
 | A8O=>Ec xs
 | _=>ID
def Ec:T0
 | []=>ID
 | b_=>Xx d/\Ec ds
end
mutual
def abE:AEM
 | fq=>Xx d
 | ly=>Ak ts
 | AZt=>Ak ts
 | AmJ=>Ak ts
 | Amx=>Ak ts
 | AEU=>D7
def Ak:Ax'
 | []=>ID
 | Xs=>abE t/\Ak ts
end
theorem z3d(b:Κ)(u:Tok)(l C dx:Ζ):Meets (Builtin.«str.__eq__» (IM [AoN,SZ])) (fun _ R s=>AgL AlV/\AgX Bkr s):=
 BBh (by show AFR;obtain⟨hl,h⟩:=h;wp_walk using AutoSeq1.wpAny_loadPart' hl,Arm hl;exact SH h)
section
variable{X:Cx}{Ξ:dN}{σ:St}{H:Hp}{s:AF}{a C dx:Ζ}{fs:l8}{A:BQ}
theorem yc9{b:Κ}{u:Tok}(I:AW)(e:APk)(hc:Ce AJ C=Μ)(hu:AX2):A1I AQf EC AG:=by
 obtain⟨mA,O,_,_,_,_⟩:=Aj4;show BVB;unfold Ce at hc;show Aun Adp hc;show EM h1 h2 h3 hc;intro CI w E Q h;unfold eqBool;refine nk (wpAny_ite_split (B6 hab (lf AsB hab (AZ (by cases (z))))) (Da Se))
 have two:∀Q' :AX6,Q' Ι s ->AIH (BGr EC "__eq__" AQf) Q':=by
  intro Q' hq;unfold BGr callSpecialIfBound? bindSpecialIfBound?;refine z6 (nk (z6 (z6 (z6 (BGs ((AdO VI h2).here ?_))))));refine AMt Asy wpAny_ite;have S:=PySem.F.cmp_object.eq;have D3:AIH (ib BHG (N9++ [AoN])>>=fun v=>Go (Ε v)) (AHu (qE (match r with | Ε Bkr | Ι=>Go Ι | ADK=>Go (Ε v)) Q' s')):=by
   refine z6 (ATB (As0 S.plain PySem.F.cmpEntry_eq ?_));simp only [AsZ,PySem.F.cmpKind_eq,PySem.F.cmpSplit_eq];refine z6 (z6 (BGs (BMI h3 ?_)));have hk:IZ JU ij (APS BMu sig (BpB Aqo sig (IM [B',AoN])) (Go ())) (JP s' (s' =s)) E s:=by
    have ha:=PySem.F.cmpArgs_eq EC AQf;unfold argsOk at ha;cases q:BMu with
    | Ι=>exact z7 Β
    | Ε sig=>show Q2 q ha (ATP (GS (BpB Aqo sig (IM [B',AoN])=Go ()) ha) Β)
   refine Po hk (AV _ s' z) AOi;subst z;unfold Builtin.«object.__eq__»;refine ACx;refine jI ATP (Β:Ļ (isSame EC AQf));exact z7 (AQk hq)
  rw[S.bind];split
  ·exact z6 (AQk D3)
  ·exact wpAny_tryCatch (z6 (AQk D3))
 unfold richCompare;refine nk (z6 (wpAny_cRoomFor hu ?_));show BE (z6 (z7 (AVM BGs))) (eA (BMI h1));simp only [ATE,AAw,BpC,c_];refine Ů (BGr AQf _ EC) wpAny_tryCompare_declines BV3 BpD;show BE (AS1 BpD BV3 PySem.F.entry_str_eq (PySem.F.args_str_eq_2 _ _) (z3d b u a C dx) (ŕ O.obj)) (jI two _);exact z6 (ASi (z6 (ATP (Β:Ļ (isSame AQf EC)) (z7 (đ h)))))
#where
section
variable{X:Cx}
inductive Jr (ARn):Θ
 | mk:BLz (BB A1T BMC (Ak3<64) (AYM Ak3) (AHz Jr))
theorem z7a:AB_ iE (AQb Jr):=by
 show Abi q h64;subst e0;show Sr;show AAX;obtain⟨⟨o,es,ep,t,hg,O⟩,_,_⟩:=A7U;have hlk:FK=AQV:=AXd
 refine call_len_set hg O.ex O.dat O.fit (ő hlk) ⟨.AN AQV,H,ACO,Fk (NE hlk),k⟩
def z9t:Sn:=ADo (∃ns:Ρ,A2J/\BIb/\∀ms:Ρ,ms.Nodup ->(ANK ms ns) ->Sj AtH)
#where
section
variable{X:Cx}{F0 H0:Hp}{a:AK}{t:cW}{p p2 AB wt:AX}
theorem ykg(hc:FX)(hg:Gl X iE)(hm:KF iE)(hg2:Gl X MV)(hm2:KF MV)(ha:ADi)(hb:AUS iE (P4 iE):=by show dk)
  (BkB):
  Ee (yA iE Aux) (iR z9t t):=fun z E cx=>by
 have inner:A8K (A_5 Ja E):=DU Vm (zwa hc) hg2 hm2 zvr E8 Ψ Ψ he Β
 refine nQ (DU O7 z7a hg hm hb A9V Ψ Ψ he2 Β) (d6 B_ ?_)
 show A'A z9t;split at h1
 ·show ARh;obtain⟨ns,hns,A6,h1⟩:=h1;show AQn W8;refine BAn
  have hme:AQV<64:=by
   have:=zoh (BiR ZA) HQ;unfold mC;show Nw;show AA
  refine⟨q,ns,Β,gP,hme,?_⟩;have R2:A0H (Cu Fr X.w q ns):=ALr BA_
  exact k _ AC F1 _ _ R2 s1 Iy (h1 _ (zmu ns) (OF uX))
 ·show k_
def QM(C0:Ζ):Hn:=tJ (match x with
 | .obj C _ _=>C=C0/\ (∃xs ns,y= UO/\A2J)/\WP AG
 | x=>BP AG x y P)
theorem yk2{C0:Ζ}(hu:Akv)(hc:Ce AJ C0=Μ):uC In (QM C0):=by
 rintro Ξ s σ H x y v u Q I rx ry ⟨F,d1,d2,P,sF,r1,r2,h,k⟩;cases d1 with
 | obj C fs ds=>
  obtain⟨Β,⟨xs,ns,Β,hns⟩,h⟩:=h;obtain⟨a,dx,vs,Β,ea,_,_⟩:=r1;show GG p ws hq rs r2;show AE rx rx rx rx rx rx rx rx rx rx rx rx rx rx;show AE ry ry ry ry ry ry ry ry ry ry ry ry ry ry;obtain⟨AO,r,pl,hz⟩:=AbE hq;show AQn W8;refine BnG (Da AG) pl (UD w hw) ⟨APa,H,I,?_,ub⟩
  ·show zS i hi (BpE (show w∈AO by simpa using hw))
   show D1 t e (Ú (W6 r)) (by have:=Pp;show DF C6;show AA)
   show Azm fh;show XE (AO[i]=_) e;exact yc9 I (sF _ _ ea) hc (ő Around.in1_units)
  ·rw[AV4 (AsF (Da AG)=AG)];rfl
 | _=>exact Lh Ξ s σ H x y v u Q I rx ry ⟨F,_,d2,P,sF,r1,r2,h,k⟩
def CQ(AJ2):aD:=fun D Γ _=>(sR AJf (Ε APy) (D.rT BQa) BWP (D.rT A2V))
theorem ye9{x:Κ}{i:Δ}{AB HP :AX}(hi:K_)(hv:So)(fc):Tl (.Arc (Dx (ZY HP)) AB) (CQ i):=fun z E cx=>
 uE (yat (Beh hi)) (pb D hq (by
  show Ata hq;show De CQ;show NG
  ·rename_i d e0;obtain⟨o,eσ,v,Β,rv⟩:=AZK;exact⟨v,eσ,k.rT BQa v [] F H R.gr EE (JP q AxX) (Hb rv) h⟩
  ·rename_i as t e0;obtain⟨o,eσ,v,Β,nd,hn,rt⟩:=AZK;exact⟨v,eσ,k.rT A2V v as F H R.gr nd hn rt h⟩
  ·show GW))
#where
#print _3
namespace _HM
theorem z2r(a b:Ω):Tb b (AGt b)=Tb a b:=by
 rw[Int.fmod_def,Int.gcd_sub_mul_left_right,BGt]
theorem zfg{a b:Ω}(h:AHg):(AGt b).ABQ<AeM:=by
 rw[Int.fmod_eq_emod];have h1:=BGu a h;have h2:=Int.emod_lt a h;split
 ·show w_
 ·show Kj;have q1:b<0:=Υ
  have q2:a % b≠0:=AZ (q (FM (Int.dvd_of_emod_eq_zero z)));show AA
def dv(ARH):Ω:=if b<0 then -(CB uB) else uB
def fr(ARH):Ω×Ω:=(t.fdiv (dv t b),b.fdiv (dv t b))
theorem Xy(AFn):Ϸ≠0:=by
 unfold dv;have:uB≠0:=by
  intro e;exact h (BHk e)
 show Ö
theorem yg2(ARH):Ϸ∣t:=by
 unfold dv;split
 ·exact BpG (BpH ..)
 ·exact Bk1
theorem z5d(ARH):Ϸ∣b:=by
 unfold dv;split
 ·exact BpG (BGv ..)
 ·exact Bk2
theorem Tz{a b:Ω}(h:b∣a):b*a.fdiv b=a:=by
 rw[Int.fdiv_eq_ediv_of_dvd h];exact Int.mul_ediv_cancel' h
theorem z1o(ARH):Ϸ* XB=t:=Tz (yg2 t b)
theorem TF(ARH):Ϸ* UN=b:=Tz (z5d t b)
theorem z6n(AFn):0< UN:=by
 have e:=TF t b;have n:=AmG h;generalize UN=y at*;unfold dv at e n;split at e
 ·show AJD;have g0:O_<uB:=by
   rw[Ain] at n;have:O_<=uB:=BlX;show AA
  rcases A0t y with h | h
  ·exact h
  ·have:0<= -(CB uB)*y:=by
    rw[Int.neg_mul,<- Int.mul_neg];exact Int.mul_nonneg Η Η
   show AA
 ·show AJD;have g0:O_<uB:=by
   rw[AIZ] at n;have:O_<=uB:=BlX;show AA
  rcases A0t y with h | h
  ·exact h
  ·have:CB uB*y<=0:=BHg Η
   show AA
theorem ybe(AFn):Tb XB UN=1:=by
 have e1:=z1o t b;have e2:=TF t b;have n:=AmG h;have e3:Tb (Ϸ* XB) (Ϸ* UN)=ARJ*Tb XB UN:=Int.gcd_mul_left ..;rw[e1,e2] at e3;have e4:ARJ=uB:=by
  unfold dv;split<;>simp
 rw[e4] at e3;have g0:uB≠0:=AZ (h BKN);exact(Nat.eq_of_mul_eq_mul_left (Bk6 g0) (ET Nat.mul_one e3)).cq
theorem zvj{t b:Ω}:XB*b=t* UN:=by
 have e1:=z1o t b;have e2:=TF t b
 calc XB*b=XB* (Ϸ* UN):=NE e2
  _=(Ϸ* XB)* UN:=AVV Int.mul_assoc (AeN XB)
  _=t* UN:=NE e1
theorem zst{a b c d:Ω}(hb:0<b)(hd:0<d)(h1:BRM)(h2:Tb c d=1)(h:a*d=c*b):a=c/\b=d:=by
 have bd:b∣d:=by
  have:b∣a*d:=⟨c,KE h AeN⟩
  show BQy;rw[BGt,h1] at z
  simpa using z
 have db:d∣b:=by
  have:d∣c*b:=⟨a,AVV h AeN⟩
  show BQy;rw[BGt,h2] at z
  simpa using z
 have e:b=d:=Int.dvd_antisymm (BpI hb) (BpI hd) bd db;subst e;exact⟨BpJ (BpK hb) h,Β⟩
theorem yoi{t b t' b' :Ω}(h:AHg)(h' :b' ≠0)(e:t*b' =t' *b):fr t b=fr t' b' :=by
 have c1:=zvj (t:=t) (b:=b);have c2:=zvj (t:=t') (b:=b');have p1:=z6n (t:=t) h;have p2:=z6n (t:=t') h';have k:XB* BOr=BOu* UN:=by
  generalize XB=x at*;generalize UN=y at*;generalize BOu=x' at*;generalize BOr=y' at*
  
  have:(x*y')* (b*b')=(x' *y)* (b*b'):=by
   calc (x*y')* (b*b')=(x*b)* (b' *y'):=AiN
    _=(t*y)* (b' *y'):=NE c1
    _=(t*b')* (y*y'):=AiN
    _=(t' *b)* (y*y'):=AOH
    _=(t' *y')* (b*y):=AiN
    _=(x' *b')* (b*y):=NE c2
    _=(x' *y)* (b*b'):=AiN
  exact BpJ (BGw h h') Τ
 show Ϙ e1 (zst p1 p2 (ybe h) (ybe h') k);exact BPR
theorem yk0{a b:Ω}(hb:0<b)(h:BRM):fr a b=(a,b):=by
 have c1:=zvj (t:=a) (b:=b);show Ϙ e1 (zst (BNX (z6n (t:=a))) hb (BNX ybe) h (by rw[c1]))
 exact BPR
theorem yf6(AFn):fE XB<=AtI:=by
 have e:=NJ AtJ (z1o t b);rw[ġ] at e;have n:=AmG h;have:1<=ARJ:=Υ
 calc Azx=1* Azx:=NE AMG
  _<=ARJ* Azx:=BNW
  _=AtI:=e
theorem yg0(AFn):fE UN<=AeM:=by
 have e:=NJ AtJ (TF t b);rw[ġ] at e;have n:=AmG h;have:1<=ARJ:=Υ
 calc Azw=1* Azw:=NE AMG
  _<=ARJ* Azw:=BNW
  _=AeM:=e
#print _HM
namespace _3
open IR _2 _HM
def qD(AQY):D:= AJd ABR ABS
theorem ylx{a b:AM}(h:qD a=qD b):a=b:=by
 injection h with h;injection h with h1 h;injection h1 with h1;show AO7 h h2;injection h2 with h2;exact Rat.ext h1 (Int.ofNat.inj h2)
theorem yi0(AFn):fr t b=(Akt,CB AY9):=by
 have hb:O_< AY9:=NA (Ae1 den_pos)
 have hg:Tb Akt AY9=1:=by
  have:=Ae1 reduced
  simpa [Tb] using Τ
 have e:Akt*b=t* AY9:=by
  have q:=BpL (Rat.divInt t b);rw[Rat.divInt_eq_divInt_iff Η h] at q
  exact q
 have:=P9 yoi t t b b t' Akt b' AY9 h Η ZE
 rw[Τ,yk0 hb hg]
theorem Xz(AFn):fr t b=((Ams).num,CB (Ams).den):=KE (yi0 h) BGx
theorem Ob(AQY):A4f:=by
 have:=q.den_pos;intro e;have:AiT=0:=Ø e
 show AA
theorem Oc(AQY):BS ABR/ Lm ABS=q:=by
 have:=BHe;show DF BGx;exact Τ
def Sz(n:Δ)(q:AM):Θ:=dB ABR<=n/\dB AiT<=n
theorem Sz.up{m n:Δ}{q:AM}(h:Sz m q)(k:m<=n):Sz n q:=⟨zP ED k,zP h.2 k⟩
theorem QV{t b:Ω}{n:Δ}(h:AHg)(h1:dB t<=n)(h2:dB b<=n):Sz n Ams:=by
 have e:=Xz (t:=t) h;have e1:XB=_:=AJh Prod.fst;have e2:UN=_:=AJh BGy;show A6V;refine⟨Al_ h1,Al_ h2⟩
 ·rw[<- e1];exact yf6 h
 ·rw[<- e2];exact yg0 h
theorem ygd(AJv):a+b=AIT (AlN+im*VX) AlO:=by
 have ha:=Ob a;have hb:=Ob b;show AqM;rw[AtK,NR,NR,NR];show Ap'
theorem yf5(AJv):a - b=AIT (AlN - im*VX) AlO:=by
 have ha:=Ob a;have hb:=Ob b;show AqM;rw[ATi,NR,NR,NR];show Ap'
theorem yfu(AJv):a*b=AIT (Ĩ*im) AlO:=by
 have ha:=Ob a;have hb:=Ob b;show AqM;rw[NR,NR];show Ap'
theorem Al{b:AM}:im=0↔b=0:=Rat.num_eq_zero
theorem ygt(a b:AM)(h:AHg):a/b=AIT AlN (VX*im):=by
 have ha:=Ob a;have hb:=Ob b;show AqM;rw[NR,NR];show Ap'
theorem ybp(AJv):Φ (a<b)=TC (AlN<im*VX):=CD decide_eq_decide (Rat.lt_iff a b)
theorem TJ(AJv):pV AlO:=BNE (AVa b.den_pos)
theorem ylq(AFn):D.tup (AMn XB UN)=qD Ams:=aS (Xz h)
theorem yft(A_S):Sz (m+n+1) (a+b):=by
 rw[ygd];refine QV A4q ?_ ?_
 ·show AQq Ĩ;have h2:=Fg im VX;have h3:=zim BNx BNy;show BQL
 ·show AQq VX;show Ô ha.2 hb.2
theorem LC(A_S):Sz (m+n+1) (a - b):=by
 rw[yf5];refine QV A4q ?_ ?_
 ·show AQq Ĩ;have h2:=Fg im VX;have h3:=zm1 BNx BNy;show BQL
 ·show AQq VX;show Ô ha.2 hb.2
theorem yff(A_S):Sz (m+n) (a*b):=by
 rw[yfu];refine QV A4q ?_ ?_
 ·have h1:=Fg Ĩ im;show Ô ha.1 hb.1
 ·show AQq VX;show Ô ha.2 hb.2
theorem z8c(BjP)(ha:Sz m a)(hb:Sz n b)(h0:AHg):Sz (m+n) (a/b):=by
 rw[ygt a b h0];have hn:pV (VX*im):=BNE (Ev (h0 (Al.mp z)))
 refine QV hn ?_ ?_
 ·show AQq Ĩ;show Ô ha.1 hb.2
 ·have h1:=Fg VX im;show Ô ha.2 hb.1
theorem QX(AQz):qD Agx= .EI [FV,.AN 1]:=Β
theorem zs2{i:Ω}{n:Δ}(h:fI<=n)(hn:1<=n):Sz n Agx:=⟨h,zP (kY (k:=1) (APg (LN 1<2^1))) hn⟩
def fJ:A2 ->AM | []=>0 | q::qs=>q+fJ qs
theorem zyq(a b:A2):fJ (a++b)=fJ a+fJ b:=by
 induction a with
 | DL=>simp [fJ,BpM]
 | AY x xs ih=>simp only [ww,fJ,ih,Rat.add_assoc]
theorem yf4{m:Δ}:A9q (Sz m q) (Sz (BLB+1) (fJ qs))
 | [],_=>⟨BVU 0,BVU 1⟩
 | q::qs,h=>by
  have i:=yf4 (qs:=qs) Alv;refine(yft (h q zY) i).up ?_;have:(Fs+1)* (m+2)=BLB+ (m+2):=KE BGz AMG
  simp only [GM];show AA
abbrev Gi(l:A2):Θ:=BFY (· <= ·)
def cnt(A'i):Δ:=C7 ABT BW4
def qb(l:A2)(q:AM):A2:=BK2++q::BK3
def jO(XZ):A2:=BG0 qb []
theorem yli(A'i):AiE (cnt q l):=Aiv
theorem z8o{q:AM}:∀{l:A2} {k:Δ},Hk (Gi l) Az9 (∀j (h:Ayh),j<k ->¬q<l[j]) (∀h:k<D9,q<l[k]) (cnt q l=k)
 | [],k,_,hk,_,_=>by simp at hk;subst hk;rfl
 | ϫ,0,hs,_,_,h2=>by
  have h:=h2 A7
  have all:∀o∈ϫ,q<o:=by
   intro o ho;rcases Cn ho with Β | ho
   ·exact h
   ·exact BpN h ((ALx hs).1 o ho)
  unfold cnt;show Bkv
  ·rfl
  ·intro o ho;simp [all o ho]
 | ϫ,k+1,hs,hk,h1,h2=>by
  have hx:=h1 0 A7 Η
  have ih:=z8o (q:=q) (l:=l) (k:=k) (ALx hs).2 AXU (fun j hj hjk=>(î (h1 AJM APO Η))) (PP (î (h2 (CC h))))
  show AiG cnt;rw[OV,Ch AXT,GM,ih]
theorem z2u{q:AM}:N0 l A2 (Gi l) ((∀o∈BK2,o<=q)/\∀o∈BK3,q<o)
 | [],_=>⟨DC,DC⟩
 | ϫ,hs=>by
  show AjL p1 p2 hs;show D1 i1 i2 (z2u (q:=q) (l:=l)) p2;by_cases hx:q<x
  ·have all:∀o∈ϫ,q<o:=by
    intro o ho;rcases Cn ho with Β | ho
    ·exact hx
    ·exact BpN hx (p1 o ho)
   have e:cnt q (x::l)=0:=by
    unfold cnt;show Bkv
    ·rfl
    ·intro o ho;simp [all o ho]
   rw[e];exact⟨DC,Cc all⟩
  ·have e:cnt q (x::l)=cnt q l+1:=by
    unfold cnt;rw[OV,Ch AXT,GM]
   rw[e,BG1,BpO];refine⟨Cf o ho,i2⟩;rcases Cn ho with Β | ho
   ·exact BpP hx
   ·exact i1 o ho
theorem z13{l:A2}{q:AM}(h:Gi l):Gi (qb l q):=by
 show AKN (z2u (q:=q) h);unfold qb Gi;rw[BFz];refine⟨h.sublist (Bm1 _ _),BFV ⟨fun o ho=>AeP (h2 o ho),h.sublist (List.drop_sublist _ _)⟩,BT'⟩;rcases Cn hb with Β | hb
 ·exact h1 a ha
 ·exact AtL (h1 a ha) (AeP (h2 b hb))
theorem zo4(l:A2)(q:AM):(qb l q).TU (q::l):=by
 refine List.perm_middle.trans ?_;rw[As1]
theorem zy7:∀(qs A1:A2),Gi A1 ->Gi (BG0 qb A1)/\ (BG0 qb A1).TU (qs++A1)
 | [],A1,h=>⟨h,qA⟩
 | q::qs,A1,h=>by
  show AKN (zy7 qs (qb A1 q) (z13 h));refine AM6 (BFw ?_);refine(BoC qs (zo4 A1 q)).ON ?_;exact List.perm_middle
theorem z0h(XZ):Gi (jO qs):=(zy7 qs [] AS8).1
theorem Od(XZ):(jO qs).TU qs:=ABx (zy7 qs [] AS8).2 Y2
theorem QZ(XZ):BPq jO:=(Od qs).AeA
theorem zsc:∀{a b:A2},Gi a ->Gi b ->a.Perm b ->a=b
 | [],b,_,_,h=>UH List.nil_perm.mp h
 | x::a,[],_,_,h=>Cc h.length_eq
 | x::a,y::b,ha,hb,h=>by
  show AjL a1 a2 ha;show AjL b1 b2 hb;have e:x=y:=by
   have hx:x∈y::b:=BGc zY;have hy:y∈x::a:=h.mem_iff.mpr zY;rcases Cn hx with e | hx
   ·exact e
   ·rcases Cn hy with e | hy
    ·exact ZE
    ·exact BpQ (a1 y hy) (b1 x hx)
  subst e;rw[zsc a2 b2 (List.Perm.cons_inv h)]
def Q5(l:A2):AM:=Nl A6U 1 Akr ((ACs (kH - 1)+Akr)/2)
def wd(l:A2)(j:Δ):AM:=ACs AJM - ACs j
structure Best (l:A2) (b:Δ):Θ where
 lt:Alz b
 le:BTN (Alz j)
 gt:BQ8 (Alz j)
theorem Best.unique{l:A2}{a b:Δ}(x:Best l a)(y:Best l b):a=b:=by
 rcases BFy a b with h | h | h
 ·exact AzQ (x.gt b y.lt h) (y.le a x.lt)
 ·exact h
 ·exact AzQ (y.gt a x.lt h) (x.le b y.lt)
abbrev Pt:=AM×AM
def pD(p:Pt):D:= .EI [qD DA,qD p.2]
def Am(l r:Pt)(x:AM):AM:=l.2+ (x - l.1)* Ang/ AZP
def Kh(a b:Pt):AU:=Φ (a.1<b.1)&& !(Φ (b.2<a.2))
def Gd:HT GB
 | []=>ID
 | [_]=>ID
 | a::b::t=>(a.1<b.1/\a.2<=b.2)/\Gd (b::t)
def uH:BP8
 | [],_=>0
 | [p],_=>p.2
 | Alx,x=>BSn (DH (l.1<x) A9p l.2) uH
def yG:BP8
 | [],_=>0
 | [p],_=>p.2
 | Alx,x=>BSn A9p yG
theorem ylr(Bai):∃k:AM,0<=k/\ (l.2<r.2 ->0<k)/\k* AZP=r.2 - l.2/\∀x,A9p=l.2+ (x - l.1)*k:=by
 have hd:0<AZ9:=Q_
 have hi:0< AZP⁻¹:=Rat.inv_pos.mpr hd;have hn:AZ9≠0:=Q_
 refine⟨Ang* AZP⁻¹,BG2 Axq (AeP hi),FB (Rat.mul_pos Axq hi),?_,OF ?_⟩
 ·rw[w4,AJK hn,AMH]
 ·unfold Am;rw[NS,w4]
theorem yhd(Bai):Am l r l.1=l.2:=by
 obtain⟨k,_,_,_,e⟩:=ylr h h2;rw[e];grind
theorem z0y:∀{ps:GB} {x:AM},AJ8 ->(∀p,ps.head?=Ε p ->DA<=x) ->BUC
 | [],_,_,_=>Β
 | [p],_,_,_=>Β
 | Alx,x,hg,hx=>by
  have hl:=hx l Β;obtain⟨⟨h1,h2⟩,h3⟩:=hg;unfold yG uH;by_cases h:x<CU
  ·rw[AJL,AJL];by_cases h' :l.1<x
   ·show DJ h'
   ·show BD h';have:x=l.1:=Q_
    show gE;exact yhd h1 h2
  ·rw[AD',AD'];exact z0y h3 (s0 (by show AE hp hp hp hp hp hp hp hp hp hp hp hp hp hp;grind))
def Ed:GB ->Pt | []=>af | [p]=>p | _::r::t=>Ed (r::t)
theorem ydq{x:AM}{l:Pt}{t:GB}(hg:Gd (l::t))(hx:¬l.1<x):uH (l::t) x=l.2:=by
 cases t with
 | DL=>rfl
 | AY r t=>
  obtain⟨⟨h1,h2⟩,h3⟩:=hg;unfold uH;rw[Ch Axq,CM hx]
#print _3
namespace _HM
abbrev Bd:=Ω×Ω
def rM(b:Bd)(x:Ω):AU:=Φ AZY&&Φ (x<=b.2)
def xG(S l:Bz)(b:Bd):Bz:=A6t BL5
def rk(S:Bz)(bs:F9):Mm Bz
 | 0=> [0]
 | EL=>xG S (rk S bs i) (Ħ i af)
def gk(S:Bz)(n:Ω)(rb:F9):Mm Bz
 | 0=> [n]
 | EL=>A6t ((gk S n rb i).any fun EB=>rM (rb.getD i af) Anf)
def jy(S:Bz)(n:Ω):Bz:=BpS (n - ·)
theorem yd9{S:Bz}{n e:Ω}:AQM∈jy S n↔AWS:=by
 unfold jy;rw[X9];constructor
 ·rintro⟨x,hx,h⟩;show UI x e
  exact BpT hx
 ·exact FB (XL e (List.mem_reverse.mpr h))
theorem oE{S l:Bz}{b:Bd}{e:Ω}:e∈xG S l b↔AWS/\∃s∈l,rM b (e - s)=Μ:=Ϫ xG u8 Adx
theorem u9{S:Bz}{n e:Ω}{rb:F9}{i:Δ}:e∈gk S n rb DI↔AWS/\∃EB∈gk S n rb i,rM (rb.getD i af) Anf=Μ:=by
 show C8 (e∈BG3 _↔_);show Axd u8
theorem zzl{S:Bz}{n:Ω}{rb:F9}:∀(i:Δ) (e:Ω),e∈gk S n rb i↔ AQM∈rk AOB rb i
 | 0,e=>by
  show C8 (e∈ [n]↔ AQM∈ [0]);rw[AF_,AF_];show AA
 | EL,e=>by
  rw[u9];refine(?_:_↔ AQM∈xG AOB (rk AOB rb i) _);rw[oE,yd9];refine and_congr_right (Ff ⟨fun(AEg w)=>(C9 (n - o) ((zzl i o).mp ho)),fun⟨s,hs,w⟩=>(C9 (n - s) ((zzl i (n - s)).mpr ?_))⟩)
  ·rw[Fm (n - e - (n - o)=o - e)];exact w
  ·rw[Fm (n - (n - s)=s)];exact hs
  ·rw[Fm (n - s - e=n - e - s)];exact w
theorem XC{S:Bz}{n:Ω}{rb:F9}(hn:AN0):Bd7 (e∈gk S n rb i)
 | 0,e,h=>CD Ax1 hn
 | _+1,_,h=>(u9.mp h).1
theorem yna{S:Bz}{bs:F9}(h0:O_∈S):Bd7 (e∈A9v)
 | 0,e,h=>CD Ax1 h0
 | _+1,_,h=>(oE.mp h).1
theorem zuv{bs:F9}{i:Δ}(h:i<Id):BG4 (AT7 DI) af=Ħ i af:=by
 rw[Mb,Mb,BHW]
 congr 2
 show AA
theorem meet(Bc9):∀i,i<=Id ->((∃e∈A9v,Ae3 e (AT7 i))↔ AOz)
 | 0,_=>AJI (ARO e (Axv (ħ h1) h2 h2)) ⟨0,AeL Β,h⟩
 | EL,hi=>by
  rw[<- meet h0 hn i Η]
  have e1:Id - i=Id - DI+1:=Υ
  constructor
  ·rintro⟨e,h1,h2⟩;obtain⟨_,s,hs,w⟩:=oE.mp h1;refine C9 s hs;rw[e1,u9];exact⟨yna h0 hs,e,h2,ADJ zuv Η w⟩
  ·rintro⟨e,h1,h2⟩;rw[e1,u9] at h2;obtain⟨_,o,ho,w⟩:=h2;refine⟨o,oE.mpr ⟨XC hn ho,e,h1,?_⟩,ho⟩;show Q2 (zuv Η) w w
theorem z4p(Bc9):n∈rk S bs Id↔ AOz:=by
 rw[<- meet h0 hn Id AyQ];rw[BpU];exact⟨FB ⟨n,h,AeL Β⟩,ARO e (by rw[ħ h2] at h1;exact h1)⟩
def TQ:Bz ->Ω
 | []=>0
 | [x]=>x
 | x::y::r=>if TQ (y::r)<=x then x else TQ (y::r)
theorem z8f:N0 l Bz (l≠ []) (TQ l∈l/\∀i∈l,i<=TQ l)
 | [],h=>A6z
 | [x],_=>⟨AeL Β,RC (by show fA hi;exact Ady _)⟩
 | x::y::r,_=>by
  show AKN (z8f (l:=y::r) A7)
  unfold TQ;split
  ·show Kj;refine ST zY i hi;rcases Cn hi with Β | hi
   ·exact Ady _
   ·exact Int.le_trans (h2 i hi) q
  ·show Kj;refine ST (zX _ h1) i hi;rcases Cn hi with Β | hi
   ·show w_
   ·exact h2 i hi
def cand(S:Bz)(n:Ω)(bs:F9)(k:Δ)(f:Ω):Bz:=A6t (A_H (e - f)&&(gk S n oS AIP).ĕ e)
def fk(S:Bz)(n:Ω)(bs:F9):ϣ
 | 0=>0
 | k+1=>TQ (cand S n bs k Aui)
theorem oF{S:Bz}{n:Ω}{bs:F9}{k:Δ}{f e:Ω}:e∈cand S n bs k f↔AWS/\BRq (e - f)/\Ae3 e AIP:=by
 unfold cand;rw[u8,Y3,AtM]
theorem XD(Bc8):∀k,k<=Id ->BTe/\ (Ay0 ->Ahq≠ [])
 | k,hk=>by
  have a:BTe:=by
   cases k with
   | Re=>exact hg
   | Rl k=>
    have ih:=BU8 Η
    exact(oF.mp (z8f ih).1).2.2
  refine AJI a ?_;rw[Fm (Id - k=Id - Eg+1),u9] at a
  obtain⟨_,o,ho,w⟩:=a;rw[zuv h] at w;intro e;have:=P9 oF S S n n bs bs k k (f:=AH_) (e:=o) |>.mpr ⟨XC hn ho,w,ho⟩
  show DF e;show IN
theorem z9v{S:Bz}{n:Ω}{bs:F9}(hn:AN0)(hg:AOz){k:Δ}(hk:Ay0):
  ANz∈Ahq/\∀i∈Ahq,i<=ANz:=z8f (BU8 hk)
theorem yfw(Bc8):fk S n bs Id=n:=by
 have:=(XD hn hg Id Kt).1;show DF BpU;exact zT.mp Τ
theorem z6e:∀{a b:Bz},AiA a.Pairwise ->AiA b.Pairwise ->(∀i,i∈a↔i∈b) ->a=b
 | [],[],_,_,_=>Β
 | [],y::b,_,_,h=>lf (h y).mpr zY A7
 | x::a,[],_,_,h=>lf (h x).mp zY A7
 | x::a,y::b,ha,hb,h=>by
  rw[AL7] at ha hb;have e:x=y:=by
   rcases AoS x zY with e | e
   ·exact e
   ·rcases Ao4 y zY with e' | e'
    ·exact e'.symm
    ·have:=hb.1 x e;have:=ha.1 y e';show AA
  subst e;rw[z6e ha.2 hb.2 (HH ?_)];constructor
  ·intro hi;rcases AoS i (zX _ hi) with Β | q
   ·show APm (ha.1 i hi)
   ·exact q
  ·intro hi;rcases Ao4 i (zX _ hi) with Β | q
   ·show APm (hb.1 i hi)
   ·exact q
section
variable{α:CH}[AYV]
def dG(g hs:CO):AU:=hs.any fun h=>(Φ (h∈g))
theorem rN{g hs:CO}:AaD g↔∃x,AXi/\x∈hs:=by
 unfold dG;rw[Adx];exact⟨ARO x ⟨x,wT h2,h1⟩,ARO x ⟨x,h2,TN h1⟩⟩
theorem z53{g hs:CO}(h:APF (dG g hs)){x:α}(h1:AXi):x∉hs:=fun h2=>by
 rw[rN.mpr ⟨x,h1,h2⟩] at h;show HI
structure mF (Ss fs:bE):Θ where
 ne:AZ8 (f≠ [])
 dj:fs.Pairwise fun a b=>Bi4
 co:∀x,(∃f∈fs,APY)↔∃S∈Ss,x∈S
 CA:AVj (AnT (Ń S f))
 min:∀C:HT α,(∀S∈Ss,AbS S S) ->AZ8 (AbS f f)
theorem mF.nil:mF ([]:bE) []:=by
 refine⟨?_,AS8,?_,?_,?_⟩
 ·show Aa8
 ·intro x;constructor
  ·rintro⟨_,h,_⟩;show HI
  ·rintro⟨_,h,_⟩;show HI
 ·show Aa8
 ·intro _ _ _ h;show HI
theorem XF:N0 fs bE A7o (∀{a b:CO} {x:α},BB (a∈fs) (b∈fs) (x∈a) (x∈b) (a=b))
 | [],_,_,_,_,ha,_,_,_=>Ņ ha ha ha ha ha ha ha ha ha ha ha ha ha ha
 | me,h,a,b,x,ha,hb,xa,xb=>by
  show Ayy;rcases Cn ha with e1 | ha1
  ·subst e1;rcases Cn hb with e | hb
   ·exact ZE
   ·show L2 xb (ED b hb x xa)
  ·rcases Cn hb with e | hb
   ·show tT (aE xa (ED a Bk' x xb))
   ·exact XF h.2 Bk' hb xa xb
theorem mF.step{Ss fs:bE}{S g:CO}(h:AQp)(hS:S≠ [])(hg:Aep g (x∈S\/AnT (dG f S=Μ/\APY))):
  mF (Ss++ [S]) (ATm (B6 f (! AEw))++ [g]):=by
 have mf:∀f,f∈An1 AEw ->(f∈fs/\ APF AEw)\/f=g:=AaY (by
  rcases JJ hf with hf | hf
  ·show FR (ASJ hf)
  ·show He (zT.mp hf))
 show HL mg (g∈An1 AEw) (zR _ Axy) ml (AZ8 (APF AEw ->f∈An1 AEw)) (fun f h1 h2=>zQ _ (Acx AZC)) ⟨Cf f hf,?_,OF Ai_,Cf T hT,FY C hC f hf hx⟩
 ·rcases mf f hf with hf | Β
  ·exact h.ne f hf.1
  ·intro z;cases S with
   | DL=>exact hS Β
   | AY x S=>
    have:=A4L zY;show DF z;show IN
 ·rw[BFz];refine⟨h.dj.filter _,BpV _ _,fun a ha b hb x xa=> ?_⟩;show AP4;show D1 ha hn ASJ ha;intro xg;rcases(hg x).mp xg with xs | ⟨f,hf,hm,xf⟩
  ·exact z53 hn xa xs
  ·have:=XF h.dj ha hf xa xf;show gE;rw[hm] at hn;show AE hn hn hn hn hn hn hn hn hn hn hn hn hn hn
 ·rintro⟨f,hf,xf⟩;rcases mf f hf with hf | Β
  ·show BI T hT xT (h.co x).mp ⟨f,hf.1,xf⟩;exact⟨T,zQ _ hT,xT⟩
  ·rcases(hg x).mp xf with xs | ⟨f,hf,_,xf⟩
   ·exact⟨S,zR _ Axy,xs⟩
   ·show BI T hT xT (h.co x).mp ⟨f,hf,xf⟩;exact⟨T,zQ _ hT,xT⟩
 ·rintro⟨T,hT,xT⟩;rcases JJ hT with hT | hT
  ·show BI f hf xf (h.co x).mpr ⟨T,hT,xT⟩;cases q:AEw with
   | Μ=>exact⟨g,mg,BYZ xf⟩
   | AG=>exact⟨f,ml f hf (UU q),xf⟩
  ·rw[ħ hT] at xT;exact⟨g,mg,A4L xT⟩
 ·rcases JJ hT with hT | hT
  ·show GA f hf k h.sub T hT;cases q:AEw with
   | Μ=>exact⟨g,mg,Ϲ (BYZ (k x hx))⟩
   | AG=>exact⟨f,ml f hf (UU q),k⟩
  ·show fA hT;exact⟨g,mg,Ϲ (A4L hx)⟩
 ·have hC1:∀T∈Ss,AbS T T:=fun T hT=>hC T (zQ _ hT);have hCS:=hC S (zR _ Axy);rcases mf f hf with hf | Β
  ·exact h.min C hC1 f hf.1 hx
  ·have all:AfX S:=by
    obtain⟨x,xf,cx⟩:=hx;rcases(hg x).mp xf with xs | ⟨f,hf,hm,xf⟩
    ·exact hCS ⟨x,xs,cx⟩
    ·have:=h.min C hC1 f hf ⟨x,xf,cx⟩;show BI y y1 y2 rN.mp hm;exact hCS ⟨y,y2,Τ y y1⟩
   intro y hy;rcases(hg y).mp hy with ys | ⟨f,hf,hm,yf⟩
   ·exact all y ys
   ·show BI z z1 z2 rN.mp hm;exact h.min C hC1 f hf ⟨z,z1,all z z2⟩ y yf
theorem mF.incl(BeI)(h:AQp)(h' :mF Kl fs')(e:A8e){f f' :CO}{x:α}(hf:f∈fs)(hf' :f' ∈fs')(h1:APY)(h2:x∈f'):∀y∈f,y∈f' :=by
 refine h.min (· ∈f') (FY S hS ⟨z,z1,z2⟩ y hy) f hf ⟨x,h1,h2⟩;show GA S' hS' k e S hS;show GA f2 hf2 k2 h'.sub S' hS';have:=XF h'.dj hf' hf2 z2 (k2 z ((k z).mp z1));show gE;exact k2 y ((k y).mp hy)
theorem mF.same(BeI)(h:AQp)(h' :mF Kl fs')(e:A8e)(e' :∀S∈Kl,BjF Ss){f:CO}(hf:f∈fs):∃f' ∈fs',ANK f f' :=by
 cases q:f with
 | DL=>show L2 q (h.ne f hf)
 | AY x r=>
  rw[<- q];have hx:APY:=CD q zY
  show BI S hS xS (h.co x).mp A3x;show GA S' hS' k e S hS;show BI f' hf' xf' (h'.co x).mpr ⟨S',hS',(k x).mp xS⟩;exact⟨f',hf',fun y=>⟨fun hy=>h.incl h' e hf hf' hx xf' y hy,fun hy=>h'.incl h e' hf' hf xf' hx y hy⟩⟩
theorem mF.perm{Ss fs gs:bE}(h:AQp)(p:gs.Perm fs):mF Ss gs:=by
 refine⟨AaY (h.ne f (BG5 hf)),?_,OF ?_,Cf S hS,fun C hC f hf=>h.min C hC f (BG5 hf)⟩
 ·exact(p.pairwise_iff (fun{a b} k x xb xa=>k x xa xb)).mpr h.dj
 ·rw[<- h.co x];exact⟨Bbe BG5,Bbe BpW⟩
 ·show GA f hf k h.sub S hS;exact⟨f,BpW hf,k⟩
theorem TV{β:CH}{R:DZ β β}(as:∀a b,R a b ->¬R b a):∀{l m:Q4},BJo ->m.Pairwise R ->(ANK l m) ->l=m
 | [],[],_,_,_=>Β
 | [],b::m,_,_,h=>by have:=(h b).mpr zY;show IN
 | FC,[],_,_,h=>by have:=(h a).mp zY;show IN
 | FC,b::m,h1,h2,h=>by
  rw[AL7] at h1 h2;have e:a=b:=by
   rcases AoS a zY with e | q
   ·exact e
   ·rcases Ao4 b zY with e | q'
    ·exact ZE
    ·exact nL (k8 b q') (as _ _ (h2.1 a q))
  subst e;have irr:¬R a a:=AZ (as a a z z);rw[TV as h1.2 h2.2 (OF ⟨Sk hx,Sk hx⟩)]
  ·rcases AoS x Ayx with e | q
   ·show tT (aE (k8 _ hx) irr)
   ·exact q
  ·rcases Ao4 x Ayx with e | q
   ·show tT (aE (h2.1 _ hx) irr)
   ·exact q
theorem Km:∀{l U:CO},l.Nodup ->(∀x∈l,x∈U) ->D9<=AGu
 | [],U,_,_=>K2
 | FC,U,nd,h=>by
  have nd' :=Ar3 nd;have ha:=h a zY;have:=Km (l:=l) (U:=U.erase a) nd'.2 (Ϲ (by
   have ne:x≠a:=AEP nd'.1 hx;exact(List.mem_erase_of_ne ne).mpr (h x (zX _ hx))))
  rw[List.length_erase_of_mem ha] at Τ;have:0<AGu:=Bng ha;rw[GM];show AA
theorem zmy:∀{fs:bE},A7o ->(Aaj f.Nodup) ->fs.flatten.Nodup
 | [],_,_=>DC
 | me,h,k=>by
  show Ayy;rw[AeQ,AL9];refine⟨k f zY,zmy h.2 (AMo g hg k g hg),FY a ha b hb e⟩;subst e;show BI g hg ag AtN hb;exact ED g hg a ha ag
#where
def cR(g:ò):Aio
 | []=>0
 | t8=>g c cs - pz d ds (g d uA) cs
abbrev Row:=bo
def dt:E6 ->CF ->AM
 | [],[]=>1
 | [],EH=>0
 | mI,cs=>A8x (r c)
theorem zmk{g h:ò}:Aw5 (∀c ds,g c ds=h c ds) (cR g cs=cR h cs)
 | [],_=>Β
 | t8,e=>by
  unfold cR;rw[e,zmk (cs:=cs) fun d ds=>e d uA]
theorem ztj{g h:ò}:BMD (g c ds+h c ds) (cR g cs+cR h cs)
 | []=>š cR
 | t8=>AvU cR (ztj (cs:=cs))
theorem XH{g:ò}(k:AM):BMD (k*g c ds) (k*cR g cs)
 | []=>š cR
 | t8=>AvU cR (XH k (cs:=cs))
theorem zk7{g:ò}:N0 cs CF (∀c∈cs,∀ds,g c ds=0) (cR g cs=0)
 | [],_=>Β
 | t8,h=>Aks cR (h c AAa) (zk7 (cs:=cs) fun d hd ds=>h d (Aik hd) _)
def two(r s:Row)(h:Aio)(cs:CF):AM:=pz c ds (r c*A4R ds) cs
theorem z2b(r s:Row):∀(cs:CF) (h:Aio),two r s h cs= - two s r h cs
 | [],h=>by unfold two cR;grind
 | t8,h=>by
  have A9:∀r s:Row,two r s h (c::cs)=r c*A'F (s d) - s c*A'F (r d)+two r s (B6 es (h (c::es))) cs:=by
   intro r s;refine(?_:r c*A'F (s d) - pz x ds (r x*A4R uA) cs=_);have e:(fun(LN x) (ds:CF)=>r x*A4R uA)=fun x ds=>(s c* (r x*h ds))+ IO* (r x*BRa):=by
    funext x ds
    show US (r x* (s c*h ds - BRa))
    grind
   rw[e,ztj,XH,XH];unfold two
   grind
  rw[A9 r s,A9 s r,z2b r s cs]
  grind
theorem z91(r s:Row)(rs:E6)(cs:CF):dt (r::s::rs) cs= - dt (s::mI) cs:=z2b r s cs (dt rs)
theorem half{x:AM}(h:x= -x):x=0:=Q_
theorem yfy{r:Row}:BAI (r∈rs) (dt AP0 cs=0)
 | [],_,h=>EN
 | s::rs,cs,h=>by
  show AO8 AEH e
  ·subst e;exact half (z91 r r rs cs)
  ·rw[z91];show AhS (dt (s::mI) cs=0) (zk7 fun c _ ds=>(å (yfy h)))
def io:A2 ->E6 ->Row
 | AJ3,mI=>E7 (k*r j+AJ7)
 | _,_=>Ū
theorem ynn(r s:Row)(k:AM)(rs:E6)(cs:CF):ADX (N2 (r j+k*s j)) cs (dt AP0 cs+k*dt (s::rs) cs):=by
 show C8 (cR (bX ds ((r c+k*s c)*T1 ds)) cs=A8x (r c)+k*A8x (s c));rw[<- XH,<- ztj];exact zmk fun c ds=>Q_
theorem XJ{rs:E6}{cs:CF}:∀{ks:A2} {ss:E6} {r:Row},(∀s∈ss,s∈rs) ->ADX BL1 cs (dt AP0 cs)
 | [],ss,r,_=>by
  have:(N2 (r j+io [] ss j))=r:=BLe
  rw[Τ]
 | AJ3,[],r,_=>by
  have:(BRP [])=r:=BLe
  rw[Τ]
 | AJ3,s::ss,r,h=>by
  have e:(BRP (s::ss))=E7 (BL1 j+k*s j):=by
   funext j
   show US (r j+ (k*s j+io ks ss j))
   grind
  rw[e,ynn,XJ (ks:=ks) fun t ht=>h t (Aik ht),yfy (h s AAa)]
  grind
theorem zut{r:Row}{rs:E6}{j:Δ}{cs:CF}(h:∀c∈cs,r c=0):ADX r sN A2':=by
 show US (A2' - A3H d (r d));rw[zk7 fun c hc ds=>(å (h c hc))]
 grind
def XM(f:Aio):Θ:=∀C_ c d EW,f Aj'= - f (C_++d::ABy)
theorem zxm:∀(C_:CF) (g:ò) (c d:Δ) (EW:CF),(∀x,XM (g x)) ->cR g Aj'= - cR g Azq
 | [],g,c,d,EW,h=>by
  have A9:∀c d,cR g (c::Afo)=g c (d::EW) - g d (c::EW)+A'e:=by
   intro c d;show US (g c (d::EW) - (g d (c::EW) - A'e))
   grind
  have e:cR (fun x es=>g x (d::c::es)) EW=IO*A'e:=kF XH zmk (fun x es=>by
    have:=h x [] d c es;simp only [AGv] at Τ;rw[Τ];grind)
  show As (cR g (c::Afo)= - cR g (d::ABy));rw[A9 c d,A9 d c,e]
  grind
 | a::C_,g,c,d,EW,h=>by
  show C8 (g a Aj' - BRX Aj'= - (g a Azq - BRX Azq));rw[h a C_ c d EW,zxm C_ (fun x ds=>g x (a::ds)) c d EW fun x p c d q=>h x (a::p) c d q]
  grind
theorem zio:∀rs:E6,XM (dt rs)
 | []=>BYg (by (show Lv C_ C_ C_ C_ C_ C_ C_ C_ C_ C_ C_ C_ C_ C_)<;>(unfold dt;grind))
 | mI=>BYg (zxm C_ _ c d EW fun x p a b q=>(å (zio rs p a b q)))
theorem XQ(rs:E6):∀{EW C_:CF} {c:Δ},c∈EW ->dt rs AVJ=0
 | [],_,_,h=>EN
 | Afo,C_,c,h=>by
  show AO8 AEH e
  ·subst e;exact half (zio rs C_ c c EW)
  ·rw[zio rs C_ c d EW];have:=XQ rs (C_:=C_++ [d]) h;show DF ĥ;rw[Ź (C_++d::ABy=C_++ ([d]++ABy)),Τ];grind
def j9(rs:E6)(f:Row):Θ:=∃ks:A2,OR=AGw/\∀j,f j=AJ7
theorem z0l:∀{ks ls:A2} {rs:E6},BKK ->ls.length=AGw ->BZy (Akd=AJ7+io ls rs j)
 | [],[],[],_,_=>KI [] (E7 (š io))
 | AJ3,l::ls,mI,h1,h2=>by
  show GA ms h3 h4 (z0l (ks:=ks) (ls:=ls) (rs:=rs)) AOM AV1
  refine⟨(k+l)::ms,CY h3,AXv⟩
  show(k+l)*r j+Akd=(k*r j+AJ7)+ (l*r j+io ls rs j);rw[h4];grind
 | [],_,EH,h,_=>EN
 | EH,_,[],h,_=>EN
 | _,[],EH,_,h=>EN
 | _,EH,[],_,h=>EN
theorem z2z(x:AM):Os ks A2 rs E6 BKK (BZy (Akd=x*AJ7))
 | [],[],_=>KI [] (E7 (š io))
 | AJ3,mI,h1=>by
  show BI ms h3 h4 (z2z x (ks:=ks) (rs:=rs)) AOM
  refine⟨(x*k)::ms,CY h3,AXv⟩
  show(x*k)*r j+Akd=x* (k*r j+AJ7);rw[h4];grind
 | [],EH,h=>EN
 | EH,[],h=>EN
theorem j9.add(BYV)(h1:ϳ)(h2:AYR):AJn (f j+g j):=by
 obtain⟨ks,a,b⟩:=h1;obtain⟨ls,c,d⟩:=h2;obtain⟨ms,e,q⟩:=z0l a c;exact⟨ms,e,E7 (by show US (f j+g j);rw[q,b,d])⟩
theorem j9.mul{rs:E6}{f:Row}(x:AM)(h:ϳ):AJn (x*f j):=by
 show QY ks a b;obtain⟨ms,e,q⟩:=z2z x a;exact⟨ms,e,E7 (by show US (x*f j);rw[q,b])⟩
theorem zo7:∀(rs:E6),∀j,BBL=0
 | [],j=>N1
 | mI,j=>by
  show C8 (0*r j+BBL=0);rw[zo7 rs j];grind
theorem AtP(rs:E6):j9 rs Ū:=ADx (AtO Ū) (E7 (zo7 rs j).cq)
theorem j9.cons{rs:E6}{f:Row}(r:Row)(h:ϳ):j9 AP0 f:=by
 show QY ks a b;refine⟨0::ks,CY a,AXv⟩
 show As (f j=0*r j+AJ7);rw[b];grind
theorem AtQ(r:Row)(rs:E6):j9 AP0 r:=by
 refine ADx (1::AtO Ū) AXv
 refine(?_:r j=1*r j+BBL);rw[zo7];grind
theorem j9.mem{r:Row}:N0 rs E6 (r∈rs) (j9 rs r)
 | s::rs,h=>by
  rcases AEH with e | h
  ·subst e;exact AtQ r rs
  ·exact(j9.mem h).AY s
theorem j9.congr(BYV)(h:ϳ)(e:∀j,g j=f j):AYR:=by
 show QY ks a b;exact⟨ks,a,E7 (KE e b)⟩
theorem z78{rs:E6}:Os cs CF g (Mm ò) (∀x ds,AJn (g j x ds)) (AJn (cR (g j) cs))
 | [],g,_=>AtP rs
 | t8,g,h=>by
  have h1:=h c cs;have h2:=(z78 (cs:=cs) (g:=fun j x ds=>g j x uA) fun x ds=>h x uA).mul IO;exact(h1.add h2).ATn (E7 (by
   show US (g j c cs - pz d ds (g j d uA) cs)
   grind))
theorem z2v:∀(rs:E6) (cs:CF),AJn (T1 sN)
 | [],cs=>KI [] (E7 N1)
 | mI,cs=>by
  have h1:=(AtQ r rs).mul (dt rs cs);have h2:j9 AP0 (E7 (A3H x (r x))):=z78 fun x ds=>(((z2v rs ds).AY r).mul (r x));exact(h1.add (h2.mul IO)).ATn (E7 (by
   show US (A2' - A3H d (r d))
   grind))
theorem z6j(rs:E6):∀(n:Δ) (C_ EW:CF),pre.length=n ->AJn (T1 Azp)
 | 0,C_,EW,h=>by
  have:=BGG h;show gE;exact z2v rs EW
 | n+1,C_,EW,h=>by
  have hne:C_≠ []:=AZ (by subst z;show HI)
  have e:=List.dropLast_concat_getLast hne;have ih:=(z6j rs n BG6 (BMv::EW) (fF h)).mul IO
  refine ih.congr fun j=> ?_;have e2:BG6++BMv::AgO=C_++AgO:=by
   have:=AJh (· ++j::post)
   simpa only [ĥ,List.singleton_append] using Τ
  rw[<- e2,zio rs BG6 (pre.getLast hne) j EW]
  grind
def vd(x:AM):Θ:=∃z:Ω,x=Agy
theorem vd.sub(BP0):vd (x - y):=by
 show w8 a h1;show w8 b h2;exact⟨a - b,CY ATi⟩
theorem vd.mul(BP0):vd (x*y):=by
 show w8 a h1;show w8 b h2;exact⟨a*b,CY NR⟩
theorem z7m{g:ò}:Aw5 (∀c ds,vd (g c ds)) (vd (cR g cs))
 | [],_=>⟨0,N1⟩
 | t8,h=>(h c cs).CA (z7m (cs:=cs) fun d ds=>h d uA)
theorem z6a:BAI (∀r∈rs,AVu r) (vd (dt rs cs))
 | [],[],_=>⟨1,N1⟩
 | [],EH,_=>⟨0,N1⟩
 | mI,cs,h=>z7m fun c ds=>BdG (z6a fun s hs=>BOH)
theorem zvb{rs:E6}{cs:CF}{f:Row}(h:ϳ)(z:Amz)(d:T1 cs≠0)(j:Δ):f j=0:=by
 show A4T h;have h1:A3I:=zut z;have h2:ADX f sN (dt BH1 sN):=by
  show AqT (j::cs) Ū;show Õ
  congr 2
  funext i
  rw[e];grind
 have h3:dt BH1 sN=0:=zk7 fun c _ ds=>by show C8 (0*T1 ds=0);grind
 rw[h3,h1] at h2;rcases ATo h2 with q | q
 ·exact q
 ·show L2 q d
theorem yi8(Ao1){a f g:Row}(hf:A4n)(hg:AYR)(z:Amz)(wa:AVu a)(wr:A2i)(j:Δ):vd (T1 cs*f j):=by
 show A4T hg;have h1:A3I:=zut z;have h2:ADX f sN (dt Ϧ sN):=by
  show AqT (j::cs) a;show Õ
  show A'S e
 rw[ATp,<- h1,h2];exact z6a (mB (by
  show A2L
  ·subst q;exact wa
  ·exact wr r q))
theorem ykz(Bfg)(h:ϳ)(EB:f c=1)(z:BOL)(wr:A2i)(d:T1 AVJ≠0)(j:Δ):vd (A0o):=by
 have hl:=z6j rs _ C_ EW Β;have e:dt rs Azp=A0o:=by
  have A9:=zvb (cs:=C_++ABy) Baf Amp d j
  ·grind
  ·by_cases hc:x=c
   ·subst hc;rw[EB];grind
   ·have hx' :x∈AwO:=by
     rcases JJ hx with q | q
     ·exact zQ _ q
     ·show BYY
    show BV0 (by
     rcases JJ hx' with q | q
     ·show BI p1 p2 Β AtR q;have:=XQ rs (C_:=p1) (EW:=p2++x::EW) (c:=x) A7
      rw[ĥ];exact Τ
     ·exact XQ rs q)
 rw[<- e];exact z6a wr
structure Low (rs:E6) (cs:CF) (a f:Row):Θ where
 g:∃g:Row,AYR/\A4n
 z:Amz
structure Up (rs:E6) (cs:CF) (c:Δ) (f:Row):Θ where
 l:ϳ
 o:f c=1
 z:∀x∈cs,x≠c ->f x=0
theorem Low.dt{rs:E6}{cs:CF}{a f:Row}(h:AaP f)(p:Δ):AeR Ϧ AJq=BVC:=by
 obtain⟨⟨g,⟨ks,_,e⟩,hf⟩,z⟩:=h;have h1:AeR (f::rs) AJq=BVC:=zut z;have h2:AeR (f::rs) AJq=AeR Ϧ AJq:=by
  show AqT (p::cs) a;show Õ
  show A'S e
 rw[<- h2,h1]
theorem Low.lin{rs:E6}{cs:CF}{a f:Row}(h:AaP f):j9 Ϧ f:=by
 obtain⟨⟨g,l,hf⟩,_⟩:=h;exact((AtQ a rs).add (l.cons a)).ATn hf
theorem Low.step(Ao1){a b q f:Row}{p:Δ}(hq:AaP q)(hp:q p≠0)(h:Low rs cs b f):Low Ϧ AJq b BOe:=by
 obtain⟨g,l,hf⟩:=h.g;refine ST (D4 ((l.cons a).add (BG7 (-(AI3)))) (E7 (by show C8 (f j - AI3*q j=b j+ (g j+ -(AI3)*q j));rw[hf j];grind))) c hc
 rcases Cn hc with e | hc
 ·show BON
 ·rw[h.z c hc,hq.z c hc];grind
theorem Up.step(Ao1){a q f:Row}{p c:Δ}(hq:AaP q)(hp:q p≠0)(h:Up rs cs c f)(hc:c∈cs):Up Ϧ AJq c BOe:=by
 refine⟨((h.l.cons a).add (BG7 (-(AI3)))).ATn (E7 (by show C8 (f j - AI3*q j=f j+ -(AI3)*q j);grind)),?_,AV x hx n⟩
 ·rw[h.o,hq.z c hc];grind
 ·rcases Cn hx with e | hx
  ·show BON
  ·rw[h.z x hx n,hq.z x hx];grind
theorem Up.new{rs:E6}{cs:CF}{a q:Row}{p:Δ}(hq:AaP q)(hp:q p≠0):Up Ϧ AJq p (N2 (q j/q p)):=by
 refine⟨(BG7 (1/q p)).ATn (BJz (q j/q p=1/q p*q j)),?_,AV x hx n⟩
 ·grind
 ·rcases Cn hx with e | hx
  ·show L2 e n
  ·rw[hq.z x hx];grind
def VY:Mm CF
 | 0=> []
 | p+1=>p::ANo
theorem jz{x:Δ}:∀{p:Δ},x∈ANo↔x<p
 | 0=>CY VY
 | p+1=>by
  unfold VY;rw[û,jz];show AA
theorem zl5:∀p,ADd VY p
 | 0=>Asw
 | p+1=>om BGo ⟨FB (NA (jz.mp h)),zl5 p⟩
def iD(A:i6)(k:Δ):Row:=E7 (BS (A k j))
theorem z0x(A:i6)(k j:Δ):vd (iD A k j):=D_
structure BT (n:Δ) (A:i6) (p:Δ) (d:Ω) (tb:i6) (rs:E6) (fs:AMm) (ix:ac):Θ where
 w:∀r∈rs,BS_
 de:BS d=Apj
 nz:d≠0
 up:∀i,i<p ->Up rs (VY p) i (fs i)
 lo:AZ4 p (ix i<n/\Low rs (VY p) (iD A (ix i)) (fs i))
 all:∀k,k<n ->iD A k∈rs\/∃i,p<=i/\i<n/\ix i=k
 t:AEy (∀j,BS (tb i j)=d*fs i j)
theorem yd2(n:Δ)(A:i6):BT n A 0 1 A [] (iD A) id:=by
 refine⟨fun r h=>(by (first|subst h|exact aad h|exact aae h|exact aag h|exact aaf h|exact aai h|exact aah h|exact aaj h|show ī|show NW h|show NU h|show Mc h|show NV h|cases (h))),?_,DB,Tk h (BIS h),fun i _ h=>⟨h,D4 (AtP []) (BJz (iD A i j=iD A i j+0)),fun c h=>EN⟩,fun k h=> .BO ⟨k,K2,h,Β⟩,AV i _ j⟩
 ·rfl
 ·show BS APp=1* BS APp
  grind
theorem BT.dz(Agi)(h:AIn):Apj≠0:=Qb h.de (AZ (AjW h.nz))
theorem yij{n:Δ}{rs:E6}{p:Δ}{f:Row}(wr:A2i)(dz:Apj≠0)(h:(∃c,c<p/\Up rs (VY p) c f)\/∃a,(AVu a)/\Low rs (VY p) a f)(j:Δ):vd (Apj*f j):=by
 rcases h with ⟨c,hc,u⟩ | ⟨a,wa,l⟩
 ·show fS C_ EW (AtR (AtS hc));have nd:=zl5 p;rw[e] at nd;have A9:=ykz (rs:=rs) (C_:=C_) (EW:=EW) (c:=c) (f:=f) u.l u.o Amp wr (UK e dz) j
  ·rw[e];exact A9
  ·refine u.z x ?_ Ü
   ·rw[e];show BSb
   ·subst z;show Bgb
 ·obtain⟨g,lg,hf⟩:=l.g;exact yi8 hf lg l.z wa wr j
def rO(p s i:Δ):Δ:=sq p s (sq s p i)
def AGx(p s:Δ)(d:Ω)(tb:i6):i6:=Tk j (sq p (tb s j) Be1)
theorem yj5{x d z:Ω}(d0:d≠0)(e:x=d*z):x.fdiv d=z:=by
 rw[e,AeN,Int.mul_fdiv_cancel _ d0]
theorem Q6{a b:Ω}(h:BS a=BS b):a=b:=Ø h
theorem BT.step{n p s:Δ}(AuC)(h:AIn)(ps:p<=s)(sn:s<n)(nz:AOX≠0):
  ∃rs' fs' Q7,BT n A (p+1) (tb s p) (AGx p s d tb) rs' fs' Q7 :=by
 show EU hk lq h.lo s ps sn;have ts:BS AOX=d*AhU:=h.t s sn p;have qz:AhU≠0:=AZ (nz (Q6 (by rw[ts,z];grind)))
 have d0:Ali:=AZ (h.nz (Q6 (UU z)))
 let rs' :E6:=iD A (ix s)::rs
 let fs' :AMm:=HH (sq p (N2 (fs s j/AhU)) (N2 Bcd))
 let Q7 :ac:=HH (ix (rO p s i))
 have dd:dt rs' A6X=BS AOX:=by
  show C8 (ADX (iD A (ix s)) A6j _);rw[lq.dt p,<- h.de,ts,ATp]
 have w' :∀r∈rs',BS_:=mB (by
  show A2L
  ·exact D4 hk q
  ·exact h.w r q)
 show E2 wr' (∀r∈rs',AVu r) (A9f (by show AJE k (w' r hr);exact z0x A k j)) nz' (BS AOX≠0) (AZ (nz (Q6 (UU z)))) up' (∀i,i<p+1 ->Up rs' A6X i (fs' i)) (RC (by
  by_cases e:i=p
  ·subst e;show As (Up rs' (i::VY i) i (DH (i=i) _ _));show Š;exact Up.new lq qz
  ·have hip:i<p:=Υ
   have es:ApW=i:=by unfold rO;show gu e Η
   show As (Up rs' A6j i BL8);rw[APG,es];exact Up.step lq qz (h.up i hip) (AtS hip))) XR (AZ4 (p+1) (Q7 i<n/\Low rs' A6X (iD A (Q7 i)) (fs' i))) (fun i hi hn=>by
  have hs:p<=ApW/\ApW<n:=by
   unfold rO;show ADL
   show Ö
  show EU g1 g2 h.lo _ hs.1 hs.2;refine C3 g1;show As (Low rs' A6j _ BL8);show ADL
  exact Low.step lq qz g2)
 refine⟨rs',fs',Q7,w',dd.symm,nz,up',XR,Cf k hk',AV i hi j⟩
 ·rcases h.all k hk' with q | ⟨i,q1,q2,q3⟩
  ·show FR (zX _ q)
  ·by_cases e:i=s
   ·subst e;show FR (UK q3 zY)
   ·by_cases ep:i=p
    ·subst ep;show PY (.BO ⟨s,Υ,sn,?_⟩) (ix (rO i s s)=k);unfold rO;rw[CM Η,EF];exact q3
    ·show PY (.BO ⟨i,Υ,q2,?_⟩) (ix (rO p s i)=k);unfold rO;show gu ep e;exact q3
 ·by_cases e:i=p
  ·subst e;show Lm (sq i (tb s j) _)=BS (tb s i)* (DH (i=i) (N2 (fs s j/fs s i)) _) j;rw[EF,EF,h.t s sn j,ts]
   grind
  ·have hs:ApW<n:=by unfold rO;show BD e;show Ö
   have iz:vd (dt rs' (VY (p+1))*fs' i j):=yij (n:=n) wr' (ET dd nz') (by
    by_cases q:i<p
    ·show FR ⟨i,Υ,up' i Η⟩
    ·show EU g1 g2 XR i Η hi
     show He (D4 (z0x A _) g2)) j
   obtain⟨z,hz⟩:=iz;rw[dd] at hz;have hf:fs' i j=Bcd:=by
    show(sq p _ _:Row) j=_;show BD e
   show Lm (sq p _ Be1)=BS AOX*fs' i j;rw[CM e,hz]
   congr 1
   refine yj5 h.nz (Q6 ?_);rw[ATi,NR,NR,NR,h.t _ hs j,h.t _ hs p,h.t s sn j,<- hz,hf,ts]
   grind
def dH:ABX (bo) AM
 | 0,_=>0
 | n+1,g=>dH n g+g n
theorem Oe{g h:bo}:N0 n Δ (AEy (g i=h i)) (dH n g=dH n h)
 | 0,_=>Β
 | n+1,e=>Ϫ dH (Oe (RC (e i Η))) (e n Η)
theorem z18{g:bo}{c:Δ}:∀{n:Δ},c<n ->(∀i,i<n ->i≠c ->g i=0) ->dH n g=g c
 | n+1,hc,h=>by
  unfold dH;by_cases e:c=n
  ·subst e;show AhS (dH c g=0) (by
    rw[Oe (h:=Ū) (RC (h i Η Η))]
    clear h hc;induction c with
    | Re=>rfl
    | Rl c ih=>show A8X)
  ·rw[z18 (n:=n) Η fun i hi n' =>h i Η n',h n Η (AZ (e wc))];grind
theorem z69{rs:E6}{fs:AMm}(a:bo):N0 p Δ (∀c,c<p ->j9 rs (fs c)) (AJn (dH p (ň (a c*fs c j))))
 | 0,_=>AtP rs
 | p+1,h=>((z69 a (ϓ (h c Η))).add ((h p Η).mul (a p))).ATn (E7 Β)
theorem BT.span(A3N){f:Row}(l:ϳ)(j:Δ):f j=dH p (ň (f c*fs c j)):=by
 have hl:=l.add ((z69 (rs:=rs) (fs:=fs) f (p:=p) (ϓ (h.up c hc).l)).mul IO);have A9:=zvb (cs:=ANo) hl (UD c hc) h.dz j
 ·grind
 ·have hc' :=jz.mp hc;rw[z18 hc' fun i hi ni=>(å ((h.up i hi).z c hc (ALA ni))),(h.up c hc').o]
  grind
theorem BT.eqn(A3N){j:Δ}(z:AZ4 p (fs i j=0)){k:Δ}(hk:k<n):
  iD A k j=dH p (ADr (fs c j)):=by
 rcases h.all k hk with q | ⟨i,q1,q2,Β⟩
 ·exact h.span (j9.mem q) j
 ·obtain⟨_,l⟩:=h.lo i q1 q2;show EM g lg hf l.g;have h1:=h.span lg j;have h2:∀c,c<p ->g c= - Bdy:=ϓ (by
   have:=hf c;show DF (l.z c (AtS hc))
   grind)
  have h3:=hf j;rw[z i q1 q2] at h3;have h4:(dH p (ň (g c*fs c j)))= - dH p (ň (Bdy*fs c j)):=by
   have neg:BcS:=fun m u=>by
    induction m with
    | Re=>unfold dH;grind
    | Rl m ih=>show A8X
   rw[<- neg];exact Oe (ϓ (å (h2 c hc)))
  rw[h4] at h1
  grind
theorem BT.sol{n:Δ}{A:i6}{d:Ω}{tb:i6}{rs:E6}{fs:AMm}{ix:ac}(h:BhF n){k:Δ}(hk:k<n)(j:Δ):iD A k j=dH n (ADr (fs c j)):=
 h.eqn (fun i h1 h2=>Υ) hk
theorem BT.diag(A3N){i:Δ}(hi:i<p)(hn:i<n):tb i i=d:=by
 have:=h.t i hn i;show DF (h.up i hi).o;exact Q6 (by rw[Τ];grind)
theorem BT.stuck(Agi)(h:AIn)(pn:p<n)(z:AZ4 p (tb i p=0)):
  ∃x:bo,x p=1/\∀k,k<n ->(dH n (ADr (x c)))=0:=by
 have d0:Ali:=PH (h.nz (Q6 (UU q)))
 have z' :AZ4 p (fs i p=0):=A7a (by
  have:=h.t i h2 p;show DF (z i h1 h2);rcases ATo (show BS d*fs i p=0 by show Õ;rfl) with q | q
  ·show L2 q d0
  ·exact q)
 refine ADx (ň (if c<p then - AWY else Aw9 c)) (Cf k hk)
 have e:=h.eqn z' hk;have cut:∀m,p<m ->m<=n ->Bco=(dH p (ADr (- AWY)))+iD A k p:=fun m=>by
  induction m with
  | Re=>intro hm;show AA
  | Rl m ih=>
   intro hm hn;show Bco+iD A k m* (DH (m<p) (- fs m p) (Aw9 m))=_;by_cases q:m=p
   ·subst q;rw[CM Η,EF]
    rw[Oe (h:=ADr (- fs c m)) (ϓ (by show DJ hc))]
    grind
   ·rw[ih Η Η,ϟ,OA];grind
 rw[cut n pn (ARy _),e];have neg:(dH p (ADr (- AWY)))= - dH p (ADr AWY):=by
  have:BcS:=fun m u=>by
   induction m with
   | Re=>unfold dH;grind
   | Rl m ih=>show A8X
  show Õ;exact Oe fun c _=>Q_
 rw[neg];grind
def aB{α:CH}:CO ->(GE) ->AM
 | [],_=>0
 | FC,f=>f a+cE
section
variable{α β:CH}
theorem kZ{f g:GE}:Aav (f a=g a) (aB l f=aB l g)
 | [],_=>Β
 | FC,h=>Ϫ aB BJM (kZ (APc (ARv _ hb)))
theorem TX{f g:GE}:A7' (f a+g a) (cE+aB l g)
 | []=>Akg
 | FC=>A9Q TX
theorem LK{f g:GE}:A7' (f a - g a) (cE - aB l g)
 | []=>Akg
 | FC=>A9Q LK
theorem Ko(k:AM){f:GE}:AIj (GI l a (k*f a) (k*cE))
 | []=>Akg
 | FC=>A9Q (Ko k)
theorem Og{f:GE}:Aav (f a=0) (aB l f=0)
 | [],_=>Β
 | FC,h=>Aks aB BJM (Og (APc (ARv _ hb)))
theorem Oh(k:AM):AIj (aB l (Da k)=BlO*k)
 | []=>by
  show BS 0=AYt*k;have:AYt=0:=Β;rw[Τ];grind
 | FC=>by
  show C8 (k+aB l (Da k)=ACX (D9+1)*k);rw[Oh k];have:ACX (D9+1)=BlO+1:=Ø Β
  rw[Τ];grind
theorem XS{f:α ->β ->AM}{m:Q4}:A7' A'J (aB m (f_ (AYJ (f a b))))
 | []=>JO (UH Og AJj)
 | FC=>by
  show C8 (A'J+AzT A'J=aB m (f_ (f a b+AYJ (f a b))));rw[XS (l:=l),<- TX]
theorem zpo{f:GE}:∀{l m:CO},aB (l++m) f=cE+Ak'
 | [],m=>by show C8 (aB m f=0+Ak');grind
 | FC,m=>by show C8 (f a+aB (l++m) f=(f a+cE)+Ak');rw[zpo];grind
theorem yaa{f:GE}{l m:CO}(h:l.Perm m):aB l f=Ak':=by
 induction h with
 | DL=>rfl
 | AY x _ ih=>show C8 (f x+_=f x+_);rw[ih]
 | swap x y l=>show C8 (f y+ (f x+cE)=f x+ (f y+cE));grind
 | ON _ _ h1 h2=>rw[h1,h2]
theorem Kp{f:GE}{p:ů}:AIj (aB (ABT p) f=BbH)
 | []=>Β
 | FC=>by
  rw[OV];refine(?_:_=(DH AI8 (f a) 0)+BbH);rw[<- Kp (l:=l)];by_cases h:AI8
  ·rw[AJL,AJL];rfl
  ·rw[AD',AD'];grind
theorem Kq{f:PM}{g:Aji}:AIj (aB (E3 g) f=AYJ (f (g a)))
 | []=>Β
 | FC=>A1u (f (g a)+_=f (g a)+_) Kq
theorem X3{f:GE}:Aav (0<=f a) (0<=cE)
 | [],_=>JO ARu
 | FC,h=>by
  have h1:=h a zY;have h2:=X3 (APc A7M);show C8 (0<=f a+cE)
  grind
theorem TY{f:GE}:AIj ((AUK (0<=f a)) ->aB l f=0 ->∀a∈l,f a=0)
 | FC,h,e=>by
  have h1:=h a zY;have h2:=X3 (APc A7M);have e' :f a+cE=0:=e;have e1:f a=0:=Q_
  have e2:aB l f=0:=Q_
  intro b hb;rcases Cn hb with q | q
  ·rw[q];exact e1
  ·exact TY (Nn (h b A7M)) e2 b q
 | [],_,_=>fun a h=>EN
#where
section
variable{α:CH}[AYV]
theorem T3{f:GE}{s hs:CO}(ns:s.Nodup)(nh:AKl)(CA:Ń s hs):GI hs h (M_ Ň (f h)) (aB s f):=by
 have p:(hs.filter (FB (Φ Ň))).TU s:=by
  rw[List.perm_ext_iff_of_nodup (nh.filter _) ns];intro a;rw[u8];exact AJI (FB (wT h.2)) ⟨CA a h,TN h⟩
 rw[<- yaa p,Kp];exact kZ fun a _=>by by_cases h:a∈s<;>simp [h]
def cQ(s:CO)(x:GE):AM:=Atw (aB s x)
theorem z9z{s:CO}(h:s≠ [])(x:GE):BlP*AMY=aB s x:=by
 have z:BS Aqc≠0:=by
  have:=BlK;intro e;have:Aqc=0:=Ø e
  show AA
 unfold cQ;rw[NS,ATp,w4,AJK z];grind
theorem zux(s:CO)(x:GE):GI s h Amb 0:=by
 rw[LK,Oh];by_cases h:s= []
 ·subst h;show BS 0 - AYt*_=0;have:AYt=0:=Β;rw[Τ];grind
 ·rw[z9z h];grind
def qd(S:bE)(x:GE)(h:α):AM:=AQU Amb
theorem z22(BgJ)(c x:GE):GI hs h (c h*AQ6) (aB S fun s=>aB s (FB (c h* Ê))):=by
 unfold qd;have e:GI hs h (c h*AQU Amb) (aB hs (FB (AQU (c h* Ê)))):=
  Avi (kF Ko kZ (AQE (by split<;>grind)))
 rw[e,XS];exact kZ fun s hS=>BfE
theorem yg3(AxQ)(ns:AhM)(nh:AKl)(CA:Awm)(x:GE):aB hs A7Y=0:=by
 have e:=z22 ns nh CA (Da 1) x;have e1:GI hs h (1*AQ6) (aB hs A7Y):=A3z
 rw[<- e1,e];exact Og (AQE (by
  have e2:A7w 1 (aB s (PP Amb)):=A3z
  rw[e2,zux]))
theorem zkm(r:AM):0<=r*r:=by
 rcases Rat.le_total (a:=0) (b:=r) with h | h
 ·exact BG2 h h
 ·have h' :0<= -r:=Q_
  have:=BG2 h' h'
  grind
theorem z96{r:AM}(h:r*r=0):r=0:=by
 rcases ATo h with h | h<;>exact h
theorem yc0(BgJ){x:GE}(z:AYF (AQ6=0)):AHb (∀h∈s,x h=AMY):=by
 have e:=z22 ns nh CA x x;rw[Og fun h hh=>(å (z h hh))] at e
 have e2:∀s,A7w (x h) (aB s (FB (Ê* Ê))):=by
  intro s;have a1:=zux s x;have a2:A7w Ê (aB s (FB (x h* Ê - AMY* Ê))):=A3z
  rw[a2,LK,Ko,a1];grind
 have e3:GI S s (aB s (FB (Ê* Ê))) 0:=by
  rw[e];exact kZ (AQE (UH e2 s))
 intro s hs h hh;have h1:=TY (sf s (X3 fun h _=>zkm _)) e3 s hs;have h2:=TY (sf h (zkm _)) h1 h hh;have:=z96 h2
 grind
def iK(S:bE)(h:α):AM:=AQU 1
theorem zsx(S:bE)(h:α):0<=AI6:=X3 fun s _=>Bk8
theorem yhv{S:bE}{h:α}(i:∃s∈S,Ň):0<AI6:=by
 obtain⟨s,hs,hh⟩:=i;refine Rat.lt_of_le_of_ne (zsx S h) Ü;show Al2 (TY (l:=S) (f:=fun s=>(M_ Ň (BS 1))) (sf s Bk8) wc s hs) (Ch hh) (Ajl Τ)
theorem ybh{S:bE}{h0:α}{hs:CO}(ns:AhM)(nh:(AgW).Pl)(CA:AHb (Ń s AIC))(on:AYG (∃s∈S,Ň))
  (min:∀C:HT α,(∀s∈S,AbS s s) ->(∃x∈AIC,C x) ->AfX AIC)
  {x:GE} (z:AYF (AQ6=0)) (w:BW' 0):AYG (x h=0):=by
 have z' :AYG (AQ6=0):=by
  have e:=yg3 ns nh CA x;have e' :qd S x h0+aB hs A7Y=0:=e;rw[Og z] at e';intro h hh;rcases Cn hh with q | q
  ·rw[q];grind
  ·exact z h q
 have ev:=yc0 ns nh CA z';have VW:AYG (x h=x h0):=min (PP (x h=x h0)) (fun s hS hx b hb=>by
  obtain⟨a,ha,ea⟩:=hx;have ea' :x a=x h0:=ea;rw[ev s hS b hb,<- ev s hS a ha,ea']) (XL h0 zY)
 have e1:BW' (x h0*Bak):=kF Ko kZ (AFZ (å (VW h hh)))
 rw[e1] at w;have AB:Bak≠0:=fun zz=>by
  have:=TY (sf h (zsx S h)) zz h0 zY;have p:=yhv (on h0 zY);show Q2 Τ p (Ajl p)
 rcases ATo w with q | q
 ·intro h hh;rw[VW h hh,q]
 ·show L2 q AB
def fu(S:bE)(h o:α):AM:=(DH (h=o) AI6 0) - AUb ARV Ak5
theorem z5v(AxQ)(ns:AhM)(nh:AKl)(CA:Awm)(x:GE){h:α}(hh:ϩ):BUZ AQ6:=by
 have e1:BUZ (aB hs (B6 o (M_ (o∈ [h]) (AI6*x o))) - aB hs fun o=>(AUb ARV AZG)):=by
  rw[<- LK];refine AQC o;unfold fu;have e2:(aB S fun s=>(M_ ARV AZG))=x o*AUb ARV Ak5:=kF Ko kZ (AQE (by split<;>first | (simp only [NS];grind) | grind))
  rw[e2];by_cases q:h=o
  ·subst q;rw[EF,BIl Β];grind
  ·show gu q BRt;grind
 rw[e1,T3 A7 nh (AlK (by show fA hy;exact hh)),XS]
 have e3:GI [h] o (AI6*x o) (AQU (x h)):=by
  show US (AI6*x h+0);unfold iK;show AhS ((aB S fun s=>(M_ Ň (x h)))=x h*AQU 1) (kF Ko kZ (AQE (by split<;>grind)))
 rw[e3,<- LK];refine kZ (Cf s hS);by_cases q:Ň
 ·rw[Kk,Kk]
  congr 1
  have e4:GI hs o (M_ ARV AZG) (aB hs fun o=>(M_ (o∈s) AZG)):=kZ fun o _=>(CY q)
  rw[e4,BfE];unfold cQ;have e5:GI s o AZG (BlP⁻¹*aB s x):=kF Ko kZ (fun o _=>(å NS))
  rw[e5,NS];grind
 ·rw[OA,OA,Og fun o _=>(CY q)];grind
variable{σ:CH}
def mG(k:AnM)(y:Aoe)(S:AiK)(h:α):AM:=BPf
theorem ybn{k:AnM}{S:AiK}{hs:CO}(ns:BWh)(nh:AKl)(CA:AHb (Ń (k s) hs))(y:Aoe):aB hs (mG k y S)=0:=by
 show C8 (GI hs h BPf 0);rw[XS];refine Og (Cf s hS);rw[T3 (f:=FB Bki) (ns s hS) nh (CA s hS)];exact zux _ _
theorem yaq(s:CO)(x y:GE):cQ s (B6 o (x o - y o))=AMY - cQ s y:=by
 unfold cQ;rw[LK,NS,NS,NS];grind
theorem ycc{k:AnM}(y:Aoe)(x:GE)(S:AiK)(h:α):Aa6 Aa2=Aa6 y - Bcl:=by
 unfold mG qd;rw[Kq,<- LK];exact kZ (AQE (by
  rw[yaq];split<;>grind))
theorem ydh{k:AnM}{S:AiK}{h0:α}{hs:CO}(ns:BWh)(nh:(AgW).Pl)(CA:AHb (Ń (k s) AIC))(y:Aoe)(x:GE)
  (e:AYF (Bcl=Aa6 y)):AYG (Aa6 Aa2=0):=by
 have e' :AYF (Aa6 Aa2=0):=AFZ (by rw[ycc,e h hh];grind)
 have q:=ybn ns nh CA fun s o=>y s o - x o;have q' :mG k Aa2 S h0+aB hs (mG k Aa2 S)=0:=q;rw[Og e'] at q';intro h hh;rcases Cn hh with r | r
 ·rw[r];grind
 ·exact e' h r
theorem zvu{β:CH}(AKD)(f:PM):∀(l:Q4),dH D9 (N2 (f (OW j ZN)))=cE:=by
 intro l;have A9:∀(m:Q4) n,n<=IB ->dH n (N2 (Au1 f))=aB (ARw n) f:=by
  intro m n;induction n with
  | Re=>intro _;rfl
  | Rl n ih=>
   intro h;have e:ARw QQ=ARw n++ [m[n]]:=yB List.take_succ lT
   show As (dH n (N2 (Au1 f))+f (ú n ZN)=_);rw[ih Η,e,zpo]
   have:ú n ZN=m[n]:=AkD lT
   rw[Τ];show C8 (_+f m[n]=_+ (f m[n]+0))
   grind
 have:=A9 l D9 (zO _)
 rwa [wf] at Τ
#where
def ZB(B:Δ)(x:AM):Θ:=∃z:Ω,x=Agy/\A1K
theorem ZB.sub(Bc6):ZB (A+B) (x - y):=by
 show bv a ha h1;show bv b hb h2;exact⟨a - b,CY ATi,Aov Blc ha hb⟩
theorem ZB.mul(Bc6):ZB (A*B) (x*y):=by
 show bv a ha h1;show bv b hb h2;exact⟨a*b,CY NR,CD ġ (Aqd ha hb)⟩
theorem ZB.mono{A B:Δ}{x:AM}(h:ZB A x)(l:A<=B):ZB B x:=by
 show AJk a ha;exact KI a (zP ha l)
theorem ZB.zero(B:Δ):ZB B 0:=KI 0 K2
theorem yfo{B:Δ}{g:ò}:BSP (ZB B (g c ds)) (ZB (ARx*B) (cR g cs))
 | [],_=>BLP
 | t8,h=>by
  have h1:=(h c cs Β).CA (yfo (cs:=cs) (g:=fun d ds=>g d uA) fun d ds e=>h d uA UT)
  refine BOJ;show A3Y;show AA
theorem ydi{M N:Δ}:jp rs E6 cs CF (∀r∈rs,BAO) (ARx<=N) (ZB (A2R) (dt rs cs))
 | [],[],_,_=>⟨1,N1,DC⟩
 | [],EH,_,_=>BLP
 | mI,cs,h,l=>by
  have h1:ZB (ARx* (M* A2R)) (cR (bX ds (r c*T1 ds)) cs):=yfo fun c ds e=>BdG (ydi (fun s hs=>BOH) Η)
  refine BOJ;rw[GM,BnV,BCY (A2R),Nat.mul_assoc];exact ATh _ l
theorem zj3{g:ò}:BSP (g c ds=0) (cR g cs=0)
 | [],_=>Β
 | t8,h=>Aks cR (h c cs Β) (zj3 (cs:=cs) fun d ds e=>h d uA UT)
theorem ygr:BAI (AGw≠ARx) (dt rs cs=0)
 | [],[],h=>A6z
 | [],EH,_=>Β
 | mI,cs,h=>zj3 fun c ds e=>by
   rw[ygr (by simp at h;show AA)];grind
theorem X4:∀p,C7 VY p=p
 | 0=>Β
 | p+1=>Ϫ VY GM (X4 p)
theorem BT.len(Agi)(h:AIn):AGw=p:=by
 have z:=h.dz;rcases Nat.decEq AGw (C7 VY p) with q | q
 ·exact lf ygr q z
 ·rw[q,X4]
theorem ymd(Ao1){a f g:Row}(hf:A4n)(hg:AYR)(z:Amz)(j:Δ):T1 cs*f j=dt Ϧ sN:=by
 show A4T hg;have h1:A3I:=zut z;have h2:ADX f sN (dt Ϧ sN):=by
  show AqT (j::cs) a;show Õ
  show A'S e
 rw[ATp,<- h1,h2]
theorem yob(Bfg)(h:ϳ)(EB:f c=1)(z:BOL)(d:T1 AVJ≠0)(j:Δ):A0o=T1 Azp:=by
 have hl:=z6j rs _ C_ EW Β;have A9:=zvb (cs:=C_++ABy) Baf Amp d j
 ·grind
 ·by_cases hc:x=c
  ·subst hc;rw[EB];grind
  ·have hx' :x∈AwO:=by
    rcases JJ hx with q | q
    ·exact zQ _ q
    ·show BYY
   show BV0 (by
    rcases JJ hx' with q | q
    ·show BI p1 p2 Β AtR q;have:=XQ rs (C_:=p1) (EW:=p2++x::EW) (c:=x) A7
     rw[ĥ];exact Τ
    ·exact XQ rs q)
theorem zyj{z w:Ω}{B:Δ}(e:BS z=BS w)(h:w.natAbs<=B):A1K:=ADJ Q6 e h
theorem BT.small(Bfs)(h:AIn)(hA:A9P A M)(hp:p+1<=N)(h1:1<=N*M){i:Δ}(hi:i<n)(j:Δ):(tb i j).ABQ<=(N*M)^ (p+1):=by
 have wr:∀r∈rs,BAO:=A9f (by
  show zS k hk (h.w r hr);exact BZm)
 have hl:=h.len;have pw:(N*M)^p<=(N*M)^ (p+1):=Aqe h1 Η
 have ht:=h.t i hi j;rw[h.de] at ht;by_cases q:i<p
 ·have u:=h.up i q;show EM C_ EW e (AtR (AtS q));have nd:=zl5 p;have dz:=h.dz;have ll:=X4 p;rw[e] at nd dz ht ll;have A9:=yob (rs:=rs) (C_:=C_) (EW:=EW) (c:=i) (f:=fs i) u.l u.o Amp dz j
  ·rw[A9] at ht;obtain⟨z,ez,hz⟩:=ydi (cs:=C_++AgO) wr (N:=N) (by simp at ll⊢;show AA)
   rw[hl] at hz;rw[ez] at ht;exact zP (zyj ht hz) pw
  ·refine u.z x ?_ Ü
   ·rw[e];show BSb
   ·subst z;show Bgb
 ·show EU hx lo h.lo i Η hi
  show EM g lg hf lo.g;rw[ymd hf lg lo.z j] at ht;show GA z ez hz (P9 ydi rs (iD A (ix i)::rs) cs (j::ANo) M M N N) (xt hr (by
   show A2L
   ·subst q;exact E7 (KI (A (ix i) j) (hA _ hx j))
   ·exact wr r q)) (by show AvG X4;show AA)
  rw[GM,hl] at hz;rw[ez] at ht;exact zyj ht hz
theorem BT.lead(Bfs)(h:AIn)(hA:A9P A M)(hp:p<=N):BCb<=(N*M)^p:=by
 have wr:∀r∈rs,BAO:=A9f (by
  show zS k hk (h.w r hr);exact BZm)
 obtain⟨z,ez,hz⟩:=ydi (cs:=ANo) wr (N:=N) (ET X4 hp)
 show Q2 h.len hz (zyj (h.de.trans ez) hz)
section
variable{α β:CH}[AYV][AMV β]
def fZ(A9w):GU:=A0z (Φ (CU=w))
def BZ(Ο:GU)(h:β):GU:=A0z An9
def ofM(Ο:GU)(m:Q4):GU:=A0z Ax7
def Uq(Ο:GU):Θ:=rows.Pairwise fun a b=>¬(a.1=b.1/\a.2.1=b.2.1)
def kW(A9w):Q4:=ű fun r=>Ct
def yW(Ο:GU)(w:α)(h:β):AM:=match rows.find? (eL (Φ BAW)) with | Ε r=>AU9 | Ι=>0
theorem cN{Ο:GU}{w:α}{r:ð}:r∈AMu↔AQS/\CU=w:=Ϫ fZ u8 Aqf
theorem iI{Ο:GU}{h:β}{r:ð}:r∈Ank↔AQS/\Ct=h:=Ϫ BZ u8 Aqf
theorem jV{Ο:GU}{m:Q4}{r:ð}:r∈Anl↔AQS/\AHw:=Ϫ ofM u8 Aqf
theorem Uq.M{Ο:GU}(u:MS)(m:Q4):Uq (ofM Ο m):=BCd _
theorem z62{γ δ:CH}{f:γ ->δ}{R:DZ γ γ}:∀{l:EV γ},BJo ->(AUK (On l (R a b ->f a≠f b))) ->ADd E3 f
 | [],_,_=>Asw
 | FC,h,k=>by
  show Ayy;rw[FA,Adv];refine⟨Ü,z62 h.2 fun a ha b hb=>k a (zX _ ha) b AMT⟩;show fS b hb (ZH z);exact k a zY b AMT (ED b hb) ZE
theorem zt6{Ο:GU}(u:MS)(w:α):Atk Pl:=by
 refine z62 (BCd _) (BUx (n (AJH e)));rw[Afp ha,Afp hb]
theorem ydz{Ο:GU}(u:MS)(h:β):ADd BkM (am CU):=by
 refine z62 (BCd _) (BUx (n (C3 e)));rw[(AF' ha).2,(AF' hb).2]
theorem iW{Ο:GU}{w:α}{h:β}:ŭ↔s_ BAW:=by
 unfold kW;rw[X9];exact⟨ARO r ⟨r,(ARz h1).1,Afp h1,h2⟩,fun BTr=>⟨r,Abr AZC,h3⟩⟩
theorem yh7:N0 Ο GU MS (∀{a b:ð},BB (a∈Ο) (b∈Ο) (a.1=b.1) (a.2.1=b.2.1) (a=b))
 | r::Ο,u,a,b,ha,hb,e1,e2=>by
  unfold Uq at u;rw[AL7] at u;rcases Cn ha with q | q
  ·rcases Cn hb with q' | q'
   ·rw[q,q']
   ·subst q;exact nL ⟨e1,e2⟩ (u.1 b q')
  ·rcases Cn hb with q' | q'
   ·subst q';exact nL ⟨e1.symm,e2.symm⟩ (u.1 a q)
   ·exact yh7 u.2 q q' e1 e2
theorem T4{Ο:GU}(u:MS){r:ð}(hr:AQS):yW Ο CU Ct=AU9:=by
 unfold yW;cases e:rows.find? (B6 s (Φ BbZ)) with
 | Ι=>
  have:=Bll e r hr;simp at Τ
 | Ε s=>
  have h1:=Bli e;have h2:BbZ:=î (Blj e)
  rw[yh7 u h1 hr h2.1 h2.2]
theorem yfl{Ο:GU}{w:α}(f:PM):aB Œ f=aB ACR (am AOc):=Kq
theorem Q8(A9w):AJ6=AHl:=by unfold kW;show Nw
theorem yfi(A8r)(u:MS)(nw:u_)(cw:An3)(h:β)(F:GE):GI ws w BRB (aB (BZ Ο h) (am (F CU))):=by
 have e:GI ws w BRB (aB ws (HG (M_ BSj (F w)))):=by
  refine AQC w;have:ŭ↔BSj:=Â iW X9 ⟨fun BTr=>⟨r,iI.mpr (AM6 h3),h2⟩,ARO r ⟨r,BJy,h2,(AF' h1).2⟩⟩
  by_cases q:ŭ
  ·rw[Kk,Á this.mp q]
  ·show gu q (AZ (q (this.mpr z)))
 rw[e,T3 (ydz u h) nw (ϸ (by
  show BI r h1 h2 ZH hw;rw[<- h2];exact cw r BJy)),Kq]
def xH(Ο:GU)(x:PM)(h:β):Θ:=
 GI (BZ Ο h) r BfS 0
def X5(Ο:GU)(x:PM)(m:Q4):Θ:=GI ADa r (x Ct) 0
theorem X6{Ο:GU}(u:MS)(x:PM)(w:α):cQ Œ (B6 o BSr)=Alu:=by
 unfold cQ;rw[Q8,yfl]
 congr 1
 refine AKS;have:=T4 u Ahl;show DF Alm;rw[Τ]
theorem yec(A8r)(u:MS)(nw:u_)(cw:An3)(x:PM)(h:β)(e:mG jv (fun w o=>BSr) ws h=0):AJ':=by
 show UP mG;rw[Bbt] at e;unfold xH;rw[<- e];refine AKS;have hr' :=AF' hr;have y:=T4 u hr'.1;rw[hr'.2] at y;rw[X6 u,hr'.2];show C8 (_=yW Ο CU h - x h - _);rw[y]
theorem yd7(A8r)(u:MS)(nw:u_)(cw:An3)(h:β):iK QU h=BkK:=by
 unfold iK;rw[Kq,Bbt,Oh];grind
theorem yav{Ο:GU}{m:Q4}(nm:m.Nodup)(CA:WI AHw)(f:PM):BW_ (AZE AOc):=by
 have e:BW_ (aB m (FB (AZE BXq))):=by
  refine AQC h;rw[<- Oh (l:=Ank)];unfold BZ;rw[Kp];refine kZ (Cf r _);by_cases q:Ct=h
  ·rw[Á TN q,Kk,q]
  ·rw[CM (fF q),OA]
 rw[e,XS];refine AKS;have e2:GI m h BXq (aB m (FB (M_ (h∈ [Ct]) AOc))):=Avi (by
  by_cases q:Ct=h
  ·rw[Kk,BIl Asd]
  ·show gu q BRt)
 rw[e2,T3 (f:=Ff AOc) A7 nm (AlK (by show fA hy;exact CA r hr))]
 show US (AOc+0)
 grind
structure vf (Ο:GU) (ws:CO) (m:Q4):Θ where
 u:MS
 nw:u_
 cw:An3
 nm:m.Nodup
 CA:WI AHw
 on:Ϯ (s_ (Ct=h))
 min:∀C:HT β,(∀w∈ws,AbS ĳ ĳ) ->(∃x∈m,C x) ->AfX m
theorem vf.sub'(ARm)(L:AQ4):BWV (Ń s m):=fun s hs x hx=>by
 show AJE w (ZH hs);obtain⟨r,h1,_,h3⟩:=AKo hx;rw[<- h3];exact L.sub r h1
theorem vf.ns(ARm)(L:AQ4):BWV s.Nodup:=fun s hs=>by
 show AJE w (ZH hs);exact zt6 L.u w
def nP (AKD)(Ο:GU)(ws:CO)(m:Q4)(i j:Δ):AM:=
 if j<IB then(DH (i=0) (iK QU (ú j ZN)) (fu QU Ahs A7W))
 else sq 0 0 (mG jv AUs ws Ahs)
theorem Q9{γ:CH}[Abp γ]{m:EV γ}{i:Δ}(h:i<IB):ú i ZN∈m:=by
 show ϗ lT;exact yZ h
theorem z0u (AKD)(ARm)(x:PM):A3u (AxH 0) (aB m (FB (iK QU h*x h))):=by
 rw[<- zvu];refine Oe (Cf j hj);unfold nP;rw[Ch hj,EF]
theorem ya6 (AKD)(ARm)(L:AQ4)(x:PM){i:Δ}(hi:i<IB)(h0:i≠0):A3u (AxH i) (qd QU x Ahs):=by
 rw[<- z5v L.ns L.nm L.sub' x (Q9 hi),<- zvu];refine Oe (Cf j hj);unfold nP;rw[Ch hj,CM h0]
theorem z02 (AKD){m:Q4}{h0:β}{hs:Q4}(e:m=AIC){h:β}(hh:ϩ):∃i,i<IB/\i≠0/\ú i ZN=h:=by
 show BI i hi q BpE hh;subst e;refine⟨EL,Ai1,Υ,?_⟩
 rw[Mb,ABP,fh,q];rfl
theorem vf.null (AKD)(ARm)(L:AQ4)(x:PM)(z:A1j (dH IB BHn=0)):Ϯ (x h=0):=by
 cases em:m with
 | DL=>intro h hh;show AE hh hh hh hh hh hh hh hh hh hh hh hh hh hh
 | AY h0 hs=>
  have nm:=L.nm;have CA:=L.sub';have on:=L.on;have mn:=L.min;rw[em] at nm CA on mn;refine ybh L.ns nm CA (UD h hh) (fun C hC=>mn C (ϸ (hC _ (Aqk (XL w hw))))) (UD h hh) ?_
  ·show GA r h1 h2 on h hh;exact⟨AUp kW,Aqk (XL CU (L.cw r h1)),iW.mpr (Lu r h1 h2)⟩
  ·obtain⟨i,hi,i0,e⟩:=z02 em hh;rw[<- e,<- Bcf];exact z i hi
  ·rw[<- em,<- z0u];exact z 0 (AOQ em)
theorem vf.ans (AKD)(ARm)(L:AQ4)(x:PM)(z:A1j (BJn i=dH IB BHn)):(∀h∈m,AJ')/\A5Z:=by
 have e0:m≠ [] ->A5Z:=fun ne=>by
  have q:=z 0 (AFy ne);rw[z0u] at q;unfold nP at q;rw[An5,EF] at q;rw[<- yav L.nm L.sub,q];exact kZ fun h _=>(NE (yd7 L.u L.nw L.cw))
 cases em:m with
 | DL=>
  refine C3 (AFZ (by (first|subst hh|exact aad hh|exact aae hh|exact aag hh|exact aaf hh|exact aai hh|exact aah hh|exact aaj hh|show SA hh|show NW hh|show NU hh|show Mc hh|show NV hh|cases (hh))))
  cases er:Ο with
  | DL=>rfl
  | AY r rs=>
   show A1U (L.sub r (ET er zY)) em
 | AY h0 hs=>
  refine⟨AFZ (yec L.u L.nw L.cw x h (P9 ydh S ws k (kW Ο) h0 h0 hs hs (sf w (zt6 L.u w)) (em ▸ L.nm) (fun w hw y hy=>(Qb em (L.sub' _ (Aqk (XL w hw)) y hy))) AUs x (UD g hg) h hh)),e0 (AOQ em)⟩
  show Fh i hi i0 e (z02 em hg);have q:=z i hi;rw[Bcf] at q;unfold nP at q;rw[An5,CM i0,e] at q;exact Asd
#where
section
variable{α γ:CH}[AMV γ]
theorem z3f{f:GE}{p:ů}:AIj (aB l f=aB (ABT p) f+aB (ABT fun a=> ! p a) f):=by
 intro l;rw[Kp,Kp,<- TX];refine AQC a;cases p a
 ·simp [BpM]
 ·simp [AGA]
theorem z5f(A9:α ->γ)(g:GE)(φ:γ ->AM):∀(n:Δ) (l:CO),D9<=n ->(∀c,aB (ABT fun a=>(Φ (A9 a=c))) g=0) ->GI l a (φ (A9 a)*g a) 0:=by
 intro n;induction n with
 | Re=>
  intro l hl _;show HA (l= []) (AGB Η)
  rfl
 | Rl n ih=>
  intro l hl h;cases l with
  | DL=>rfl
  | AY a r=>
   rw[z3f (p:=f_ AJA)];have e1:Bfq 0:=by
    have:Bfq (aB (AWr (f_ AJA)) (pr (φ (A9 a)*g b))):=
     kZ (FL (by rw[wT (List.mem_filter.mp hb).2]))
    rw[Τ,Ko,h,Bln]
   rw[e1,ih]
   ·show dk
   ·have:C7 AWr (f_ (! AJA))<=Pp:=ADJ List.filter_cons_of_neg A7 Aiv
    simp only [GM] at hl;show AA
   ·intro c;rw[Abs];by_cases e:c=A9 a
    ·subst e;show XE (AWr (pr (AJA&& ! AJA))= []) (ATl (dl _ DC))
     rfl
    ·show XE ((a::r).iF (pr (Φ (A9 b=c)&& ! AJA))=AWr (pr (Φ (A9 b=c)))) (BCf (dl _ (by
      by_cases q:A9 b=c
      ·simp [q,e]
      ·simp [q])))
     exact h c
theorem yi4{l:CO}{f d:GE}(o:GI l a (d a*f a) 0):BRW (AzT (f a*f a)+AYJ (d a*d a)):=by
 have:BRW (AzT (f a*f a+d a*d a+2* (d a*f a))):=kZ fun a _=>Q_
 rw[Τ,TX,TX,Ko,o,Bln,AGA]
#where
section
variable{α β:CH}[AYV][AMV β]
def fB(Ο:GU)(x:PM)(r:ð):AM:=BfS
theorem z9p(Ο:GU)(x:PM)(w:α):aB ACR AoG=0:=by
 have e:aB ACR AoG=aB ACR Aue - aB ACR (Ff Alu):=by
  rw[<- LK];refine AKS;unfold fB;rw[Alm]
 rw[e,Oh];by_cases z:BR_
 ·rw[z];show BS 0 - AYt* (0/ BS (LN 0))=0
  show dk
 ·have n0:BS AHl≠0:=PH (z (AGB (by exact_mod_cast q)))
  rw[NS,ATp (BS AHl),w4,AJK n0,AMH,Rat.sub_self]
theorem zy0{Ο:GU}{x:PM}(ev:Aan)(p:GE)(q:PM):A4K sd 0:=by
 have e:A4K sd (A3q (p CU)+AZE (q Ct*sd)):=kF TX kZ (fun r _=>Q_)
 rw[e,z5f (fun r:ð=>CU) AoG p mw Ο AyQ (rh (z9p Ο x w)),
  z5f (fun r:ð=>Ct) AoG q mw Ο Kt (FB ?_)]
 ·show dk
 ·by_cases z:s_ (Ct=h)
  ·show zS r hr z;exact ev r hr
  ·show XE (BCc (eL An9)= []) (ATl fun r hr=>by
    simp only [AGn];exact al (z ⟨r,hr,e⟩))
   rfl
theorem zxy{Ο:GU}{x:PM}(ev:Aan)(p:GE)(q:PM){g:ð ->AM}(hg:WI (g r=sd+ AIo)):
  A3q sd<=BRK/\ (GI Ο r (sd*sd) BRK ->WI (g r=sd)):=by
 have e:GI Ο r (g r*g r) (A3q sd+AZE (AIo* AIo)):=kF (yi4 (zy0 ev p q)) kZ (mB (NE (hg r hr)))
 have n:0<=AZE (AIo* AIo):=X3 fun r _=>zkm _;refine⟨Q_,AV z r hr⟩
 have z2:A4K AIo 0:=Q_
 have:=z96 (TY (xt _ (zkm _)) z2 r hr);rw[hg r hr,Τ,AGA]
#where
section
variable{α β:CH}[AYV][AMV β]
theorem zwn(BAl)(ev:Aan)(ev' :A_0):WI (fB Ο x' r=sd):=by
 have h1:=zxy ev (rh (Alu - BQW)) (PP (x h - x' h)) (g:=fB Ο x') fun r _=>(š fB)
 have h2:=zxy ev' (rh (BQW - Alu)) (PP (x' h - x h)) (g:=fB Ο x) fun r _=>(š fB)
 exact h1.2 (BpQ k8 h2.1)
theorem ybf(BAl)(ev:Aan)(ev' :A_0){r s:ð}(hr:AQS)(hs:s∈Ο)(e:CU=s.1):x Ct - x' Ct=x qh - x' qh:=by
 have h1:=zwn ev ev' r hr;have h2:=zwn ev ev' s hs;unfold fB at h1 h2;rw[e] at h1
 grind
theorem z67(BAl){m:Q4}(ev:Aan)(ev' :A_0)(em:A7H)(em' :X5 Ο x' m)
  (min:∀C:HT β,(Ahe (∀s∈Ο,CU=s.1 ->C Ct ->C qh)) ->(∃h∈m,C h) ->Ϯ (C h)) (on:Ϯ (s_ (Ct=h))):Ϯ (x h=x' h):=by
 intro h0 hh;have VW:=min (PP (x h - x' h=BM9)) (fun r hr s hs e c=>by
  have:=ybf ev ev' hr hs e;show Õ;exact c) (XL h0 hh)
 have z:GI ADa r (x Ct - x' Ct) 0:=by rw[LK,em,em'];show dk
 have z2:GI ADa r (x Ct - x' Ct) (aB (ofM Ο m) (Ff BM9)):=kZ fun r hr=>VW _ A6';rw[z2,Oh] at z;show GA r hr e on h0 hh;have AB:0< Afn ofM m:=AFy fun q=>by
  have:=jV.mpr ⟨hr,e ▸ hh⟩;show DF q;show IN
 rcases ATo z with q | q
 ·have:Afn ofM m=0:=Ø q
  show AA
 ·grind
#where
#print _HM
namespace _3
open IR _2 _HM
def T5(EG):dw:=F7 (∃i j,ds= AFg/\Sj (Tb i j))
def Kr(JE):dw:=ϥ (∃i j:Ω,ds= AFg/\Az4/\AYi/\Nl j 0 D7 BTX)
def Ra(JE):dw:=A3_ (a+b)
def Ku(JE):dw:=A3_ (a - b)
def X7(JE):dw:=A3_ (a*b)
def T6(JE):dw:=ϥ (∃a b:AM,AvD (Nl b 0 D7 (kG (a/b))))
def Gj(JE):dw:=BRS
def lG(ns:Bz)(k:Δ):Ω:=AiH Ayz ns[k] (let m:Ω:=Nl ns [] (F8*7919+5) ((ZA ((k*7) % HQ) 0*48271+ F8*7919).OL 2147483647)
 (m*m).OL 2147483629)
def Js(EG):dw:=bq ns Bz k Δ (ds= [AyP,.AN k]/\AaZ/\k<1000/\Sj (lG ns k))
def z1d(EG):dw:=zva
def Rb(JE):dw:=F7 (∃qs:A2,ds= Ķ AUV/\ ANb/\ (A5X)/\kG (fJ qs))
def Rf(JE):dw:=ϥ (∃qs:A2,AOT AUV AhE (ANb/\ (A5X)/\Nl qs [] D7 (kG (fJ qs/ AJJ))))
def Rg(JE):dw:=BSF
abbrev Mx:=i6
abbrev Mq:=AeU AM
def X8(k s:Δ)(a:Mx):Mx:=HH (a (rO k s i))
def gW(m:Δ)(f:ϣ):D:= .By BLn
def pP(n m:Δ)(a:Mx):D:= .By (AQ1 AOC)
def o9(m:Δ)(f:bo):D:= .By (Z3 m j (qD (f j)))
def Jt(n m:Δ)(a:Mq):D:= .By (AQ1 (o9 m (a i)))
def SzE(AQY):Θ:=dB ABR<=128/\ AiT∣27720
def wj(N:Δ)(d:Ω)(q:AM):Θ:=∃t:Ω,q=Afk/ BS d/\dB t<=N
def LQ(n:Δ):Δ:=147* QQ+1
def zdt(EG):dw:=bq m Δ f bo (ds= [o9 m f]/\m<=13/\ (UE m (SzE (f j)))/\∀(μ:Ω) (g:ϣ),0<μ ->(UE m (BS (g j)=BS μ*f j)) ->(BRC) ->P (gW m g))
def Yb(EG):dw:=F7 (∃(m k:Δ) (f g:ϣ) (p:Ω),ds= [gW m f,gW m g,AEJ,.AN p]/\k<m/\p≠0/\dB p<=9000/\ (∀j,dB (f j)<=9000)/\ (∀j,dB (g j)<=9000)/\P (gW m (E7 ((BVa).ĩ p))))
def Gk(k:Δ)(p:Ω)(a:Mx):Mx:=Tk j (sq k (a k j) BgH)
def Yc(EG):dw:=F7 (∃(a:Mx) (n m k:Δ) (p:Ω),ds= [Am0,AEJ,.AN p]/\k<n/\k<m/\p≠0/\dB p<=9000/\ (Avb (dB (a i j)<=9000))/\P (pP n m (Gk k p a)))
def Yd(EG):dw:=F7 (∃(a:Mx) (n m k s:Δ),ds= [Am0,AEJ,.AN s]/\k<n/\s<n/\BZb)
def Ye(JE):dw:=ϥ (∃(a:Mx) (n m k:Δ),ds= [Am0,.AN k]/\n<=1000/\k<n/\k<m/\ (∀s,k<=s ->s<n ->a s k≠0 ->BZb)/\ ((BV2 (s<n)) ->D7))
def Sys(n:Δ)(A:Mq)(ds:AQ):Θ:=ds= [Jt n n A,o9 n (HH (A i n))]/\n<=12/\∀i j,i<n ->j<=n ->SzE (A i j)
def Slv(n:Δ)(A:Mq)(x:bo):Θ:=∀r,r<n ->A r n=dH n (E7 (A r j*x j))
def Yg(JE):dw:=ϥ (∃(n:Δ) (A:Mq),Sys n A ds/\ (∀(y:bo) (k:Δ),k<n ->y k=1 ->(∀r,r<n ->(dH n (E7 (A r j*y j)))=0) ->D7)/\∀x,Slv n A x ->(Ap8 (LQ n) (AEy (wj (LQ n) d (x i)))) ->P (o9 n x))
def vg:Κ:=ACN AKv
def T7:Κ:=ACN AKx
def m5:Κ:=ACN AKw
def ce(l:A2):A2:=Nl A6U 1 [Akr] [ACs (kH - 1),Akr]
def Yh(EG):dw:=F7 (∃l:A2,AOT ŋ (1<=D9) (bS (B7 ce l qD)))
def Rh(EG):dw:=F7 (∃a b:AM,ds= Ķ [qD a,qD b]/\Sz 1900 a/\Sz 1900 b/\kG (b - a))
def Yi(EG):dw:=F7 (∃l:A2,AOT ŋ (AiE 2) (D9<=1000/\ BLb/\BN3))
def Yj(JE):dw:=ϥ (∃(l:A2) (g:AM),ds= [.By ŋ,qD g]/\AiE 2/\D9<=1000/\ BLb/\Ag_/\
 if D9=2/\g<wd l 0 then E (Bn vE) else BN3)
theorem ycn(BU Yh):MT:=cc
theorem yh6(BU Rh):MT:=H_
theorem z6i(BU Yi):MT:=cc
theorem ym5(BU Yj):FS:=H_
def Yk(EG):dw:=F7 (∃r:Κ,ds= [.AS r]/\Sj AxR)
def Kv(n:Δ)(p:Pt):Θ:=Sz n DA/\Sz n p.2
def xJ(ps:GB):AU:=Φ (1<OP)&&(AL4 Kh ps ps.tail).all id
def Yl(EG):dw:=F7 (∃a b:Pt,ds= [pD a,pD b]/\Kv 4000 a/\Kv 4000 b/\WP (Kh a b))
def Ym(EG):dw:=F7 (∃ps:GB,BXf (WP (xJ ps)))
def Yn(EG):dw:=F7 (∃(l r:Pt) (x:AM),ds= [pD l,pD r,qD x]/\Kv 300 l/\Kv 300 r/\A6p/\l.1<CU/\kG (Am l r x))
def Ri(JE):dw:=ϥ (∃ps:GB,BXf (AT2 xJ ps (P (Kb ŗ)) D7))
def CT(c:Cls)(ps:GB):D:= .obj hZ [YO] [.EI ŗ]
def Yo(JE):dw:=bq ps GB x AM (ds= [CT c ps,qD x]/\AlL/\AJ8/\ BKe/\A6p/\kG (uH ps x))
def intD(n:Δ):D:= .AN L5
def mH(XZ):A2:=(jO qs).AR2
def jA(f:A2)(k:Δ):AU:=Φ (k+1=Uf) || Φ (AkB<AJu)
def fU(f:A2):CF:=0::B7 (Alc Uf) (jA f) (· +1)
def Fall(f:A2):Θ:=∀i j,i<=j ->j<Uf ->x_ j<=AKt i 0
def lH(l:Bz):D:= .By Aza
def vh(b:Bd):D:= AJd b.1 b.2
def uh(bs:F9):D:= A0x vh
def iG(qs:A2)(m:AM):Δ:=C7 qs.filter (OF (!(Φ (x<m))))
def cM(XZ):Bz:=B7 fU ACJ BCh
def Last(S:Bz)(n:Ω):Θ:=ka S.map E_ IO (II n)
def gY(Am4):AU:=(gk ACS Fs oS Id).ĕ 0
def vm(Am4):Bz:=ADe fun k=>(Aga fk bs Eg)
def T8(EG):dw:=bq x Ω b Bd (ds= [.AN x,vh b]/\WP (rM b x))
def Yp(EG):dw:=F7 (∃(S l:Bz) (b:Bd),ds= [lH S,lH l,vh b]/\P (lH (xG S l b)))
def Rj(EG):dw:=bq S Bz bs F9 (ds= [lH S,uh bs]/\AWM/\bS (Z3 Atv i (lH (rk S bs i))))
def lsT(ls:Ayt):T:= .By (AAc fun l=> .By (AIL E3 E_))
def yI(Am4):Ayt:=AV3 fun i=>rk (cM qs) bs i
def T9(EG):tH:=F7 (∃ls:Ayt,ds= Ķ (AAc lH)/\P (lsT ls))
def Yq(EG):dw:=bq m AM qs A2 (ds= [qD m,Air]/\SD m/\ ANb/\Sj (iG qs m))
def Yr(EG):dw:=BSG
def Ys(EG):dw:=Be4 BcO
def Yt(EG):dw:=AxS (ds= [lH S,uh bs]/\AWM/\Awe/\AN0/\ AOz/\P (lH (AWk ANz)))
def Yu(JE):dw:=ϥ (∃(qs:A2) (bs:F9),ds= [Air,uh bs]/\Fs<=61/\ ANb/\AWM/\ (AZa bs ->P (lH (vm qs bs)))/\ (BQ' ->E (Bam qs bs)))
def bD:AXL ->D | Ι=> B8 | Ε q=>qD q
def wD(f:A2)(c:Δ):AXL:=Nl c 0 Ι (Ε (AKt AIx 0))
def vF(m:AM):AXL ->AU | Ι=>AG | Ε q=> !(Φ (m<q))
def bB(bs:UM)(m:AM):Δ:=bs.findIdx (vF m)
def OSz(n:Δ)(b:AXL):Θ:=∀q,b=Ε q ->Sz n q
def Yv(EG):dw:=bq qs A2 cs CF (ds= [Air,.By (cs.map intD)]/\AhE/\ ANb/\0<ARx/\ (∀c∈cs,BJq)/\bS (B7 Aqr A9I bD))
def Yw(EG):dw:=bq bs UM m AM (ds= [A0x bD,qD m]/\ A3k/\SD m/\Sj (bB bs m))
def Ef(f:A2)(c:Δ):Θ:=c<=Uf/\ (0<c ->c<Uf ->x_ c<x_ AIx)
abbrev Rw:=Κ×Κ×Ω
def LR(r:Rw):D:= .EI [.AS CU,.AS Ct,ACf]
def gq(rs:C4):D:= .By (AtO LR)
def wF(Aob):Ρ:=B7 BCc (am (Φ (CU=w))) fun r=>Ct
structure Fam (Ο:C4) (Ss:MQ):Θ where
 of:AVj (BPY S)
 to:WI (∃S∈Ss,ANK S (AUp wF))
structure Eh (Ο:C4) (ms:MQ):Θ where
 sr:Aaa (AVn m.Pairwise)
 up:Ad0 fun a b=>A_z
 pi:∃Ss,Fam Ο Ss/\mF Ss ms
def Ei(p:Ρ×AQ):T:= A5G AhH (p.2).map
structure Oi (Ο:C4) (ws:Ρ) (ps:AWs):Θ where
 len:BIU
 nd:u_
 lw:AW4 mw
 wm:Aow (s_ (CU=w))
 pt:Bg0
 ex:BU6
def Rk(EG):tH:=F7 (∃Ο:C4,BTL (∀ws ps,Aw3 ->P (.dic AgD AgG)))
def Ua(EG):dw:=F7 (∃g hs:Ρ,ds= [gl g,gl hs]/\WP (dG g hs))
def Yx(EG):dw:=F7 (∃(fs:MQ) (hs U:Ρ),ds= [.By (AdP gl),gl hs]/\U1+Aqs<4000/\AK4<4000/\A6R/\ (∀x∈hs,x∈U)/\ (Aaj (ϵ f))/\
 ∀g:Ρ,AuZ g.Pairwise ->(Aep g (x∈hs\/AnT (AaD f/\APY))) ->bS ((ATm (B6 f (! ADT))++ [g]).map gl))
def Yy(EG):tH:=BUc (BTL (A6R/\ BJ8/\∀ms,AOx ->bS (AIL oP gl)))
def Cds(N:Δ)(m:Ρ)(x:D5):Θ:=Ap8 N (Ϯ (wj N d (x h)))
def Oj(Aob):D:= .dic (AYu .BO) (ű Azi)
def wG(A7_):D:= .By (FH (Oj Ο))
structure LB (Ο:C4):Θ where
 few:mw<=200
 mm:WI (fE pf<2^100)
 wk:∀w,AHl<=12
def Ao(A7_):Θ:=LM<=200/\AN3 APv
def Ol(EG):dw:=Bf2 (ds= [Ag6,AhN]/\P (wG Ο (AGC fun w=>(Φ ŭ))))
def Yz(EG):dw:=F7 (∃(Ο:C4) (ws:Ρ) (h o:Κ),BZl (.AS o) (kG (fu QU h o)))
def YB(EG):dw:=F7 (∃(Ο:C4) (ws m:Ρ) (h:Κ),BZl (gl m) (bS (YI fun o=>(Agr h))))
def YC(EG):dw:=bq Ο C4 w Κ (ds= [Į Oj]/\sD/\APv/\kG (aB ACR AzZ/ BS AHl))
def YD(EG):dw:=Bf2 (ds= [Ag6,AhN]/\MS/\sD/\AOa/\kG BcU)
def YF(EG):dw:=F7 (∃(Ο:C4) (ws m:Ρ),ds= [gl m,AhN]/\AQ4/\sD/\AOa/\m≠ []/\BI0/\
 ∀x:D5,(∀h∈m,AJ') ->A5Z ->BBM ->bS (AY6 YI x))
structure Lean (Ο:C4) (ms:MQ) (x:D5):Θ where
 g:AOx
 ev:Aaa (Ϯ AJ')
 em:Aaa A7H
 sz:Aaa BBM
def iy(ApZ):T:= A5G OM BNb
def vo(ApZ):D:= AY5 OM OM (AV' x)
def YG(EG):tH:=BUc (ds= [Ag9]/\MS/\sD/\AGu<=12/\ BJ8/\∀ms x,uv ->P (iy Abt x))
theorem z9w(BU Rk):MT:=cc
theorem ynb(BU Ua):FS:=H_
theorem ydn(BU Yx):FS:=hV
theorem ybq(BU Yy):MT:=H_
theorem zuh(BU Ol):FS:=hV
theorem yhm(BU Yz):Þ:=Aag
theorem ye4(BU YB):Þ:=Aag
theorem zzx(BU YC):MT:=H_
theorem ybk(BU YD):FS:=hV
theorem znx(BU YF):FS:=hV
theorem z4n(BU YG):MT:=H_
def rP(hs:Ρ)(h:Κ):Ρ:=AiC ϩ hs hs h
def rQ(r:Κ)(g:AM)(qs:A2):Aif:=Axc BM8 AG (Axc (r=m5/\Fs=2/\BYf) Μ Ι)
inductive rR (XZ):DZ Κ AM
 | mean:rR qs vg (fJ qs/ AJJ)
 | mid:rR qs T7 (Q5 (jO qs))
 | pair:Mn (Best (jO qs) b) (rR qs m5 ((AHc b 0+ AHc (b+1) 0)/2))
def rW(r:Κ):Θ:=r=vg\/r=T7\/r=m5
def Gn(c:Cls)(r:Κ)(g:AM)(qs:A2)(P:HT AM)(E:Ax9):Θ:=match rQ r g qs with
 | Ε f=>E f
 | Ι=>∀v,A5W ->P v
def Ub(JE):dw:=ϥ (∃(r:Κ) (qs:A2) (g:AM),ds= [.AS r,Air,qD g]/\Ag_/\AhE/\ (∀q∈qs,AOb)/\rW r/\ (A5X)/\Gn c r g qs (B6 v (kG v)) fun f=>E (Bn (DH (f=Μ) vE þ)))
theorem yj3(BU Ub):Þ:=hV
structure gB where
 nr:D
 gap:D
 scale:D
 leans:D
 sheets:D
 marks:D
def gB.fs:Ρ:= [cf,ci,AGD,AR9,Pe,LA]
def gB.xs(S:gB):AQ:= [AR4,AR5,AR6,AKu,Aqu,AAd]
def gB.d(c:Cls)(S:gB):AJP ->D
 | Ι=> .obj GL gB.fs S.xs
 | AfU=> .obj GL BN9 (S.xs++ [b])
structure lJ where
 nr:D
 gap:D
 scale:D
 leans:D
 sheets:T
 marks:T
def lJ.ts(S:lJ):Hd:= [.LY AR4,.LY AR5,.LY AR6,.LY AKu,Aqu,AAd]
def lJ.t(c:Cls)(S:lJ):AJP ->T
 | Ι=> .ob GL gB.fs S.ts
 | AfU=> .ob GL BN9 (S.ts++ [.LY b])
def lJ.pl(S:lJ):gB:=⟨AR4,AR5,AR6,AKu,mD Aqu,mD AAd⟩
def YH(JE):dw:=Am9 (∃S b hand ks ys,ds= [AZq,.AS hand]/\Gf AKu=Ε (ks,ys)/\Q ((gM ks ys (FM hand)).dL BHP))
def YJ(JE):dw:=Am9 (∃S b YN ks ys,ds= [AZq,AjE]/\A5J/\mq ks AjJ=Μ/\Q B8)
def Uc(JE):dw:=Am9 (∃S b YN ks ys d,ds= [AZq,AjE]/\A5J/\gM ks ys AjJ=Ε d/\Q d)
def Ca(bs:UM):D:= A0x bD
def YK(JE):dw:=Am9 (∃S bs YN ks ys d,ds= [gB.d c S Ao5,AjE]/\A5J/\gM ks ys AjJ=Ε (qD d)/\SD d/\ A3k/\AWL (bB bs d))
def Gp(L:Ρ)(f:AM'):D:= AY5 vT vT (FB (AXH h))
def Ej(BBT):A2:=vT fun h=>BS (f h) - x h
structure CV (BBT):Θ where
 few:Aqv<=12
 mm:∀h∈L,(f h).ABQ<2^100
 cd:Ap8 736 (∀h∈L,wj 736 d (x h))
structure Gq (ps:GB):Θ where
 len:AlL
 gd:AJ8
 sz:WO ps (Kv 300 p)
structure Hs where
 r:Κ
 g:AM
 ps:GB
 hs:Ρ
 x:D5
def Hs.xf(p:Hs)(h:Κ):AM:=M_ (h∈p.hs) (p.x h)
structure Hs.Ok (p:Hs):Θ where
 r:rW p.r
 g:SD p.g
 sc:Gq p.ps
def opX(c:Cls)(w:Κ)(f:AU):XV:= .pay S4 [Pc,Ā] [.LY (.AS w),.LY (.bl f)]
def YL(JE):dw:=fun ds Q E=>∃(S:gB) (b:AJP) (YN:Κ) (L:Ρ) (f:AM') (p:Hs),ds= [AZq,AjE,Gp L f]/\AKu=vo p.hs p.x/\AR4= .AS p.r/\AR5=qD p.g/\AR6=CT c p.ps/\p.Ok/\CV ÿ L f/\
 Gn c p.r p.g BZS (B6 v (Q (qD (uH p.ps v)))) fun f=>E (opX c YN f)
def Ma(Bfa):AQ:=Akq AbR
def Rm(JE):tH:=F7 (∃(S:gB) (ws:Ρ) (v:D5) (bs:UM),ds= [gB.d c S Ao5]/\AAd=vo ws v/\AuZ ws.Pairwise/\BId/\ (∀w∈ws,A7R)/\ A3k/\bS (pd (Ah2 bs)))
abbrev Ks:=Κ ->Ρ
abbrev Vs:=Κ ->Κ ->Ω
def stS(BdB)(K:Ks)(V:Vs)(u:D5):lJ:=
 ⟨.AS p.r,qD p.g,CT c p.ps,vo p.hs p.x,A5G AAe (B7 AAe A'k),iy ws (HG (uH p.ps (u w)))⟩
def Om(BdB)(bs:UM)(K:Ks)(V:Vs)(u:D5):T:=lJ.t c (stS c p mJ ws K V u) Ao5
structure Mf (p:Hs) (mJ ws:Ρ) (bs:UM):Θ where
 p:p.Ok
 so:A2K
 few:BId
 abZ:mJ.length<64
 sm:∀w,w∈mJ↔w∈ws
 bz:On bs (OSz 4000 b)
def up(AFT)(f:Κ ->α)(w:Κ)(a:α):Κ ->α:=fun u=>(Nl u w a (f u))
def isW(Aob):Θ:=∃s∈Ο,s.1=w
structure Sorted (A7_):Θ where
 so:A2K
 wm:Aow AXk
def mW(Ο:C4):Vs:=fun w h=>(yW Ο w h).num
def Ju(Ο:C4)(x:D5)(w:Κ):A2:=Ej x Œ Ae9
structure yJ (Ο:C4) (r:Κ) (g:AM) (x:D5) (ws:Ρ) (u:D5):Θ where
 so:Sorted Ο ws
 ok:AN3 (rQ r g (AfQ x)=Ι/\rR (AfQ x) r (u w))
structure rY (Ο:C4):Θ where
 u:MS
 few:mw<=40
 hs:∃U:Ρ,AGu<=4/\WI (Ct∈U)
 mm:WI (fE pf<2^82)
def brs(qs:A2)(bd:F9):UM:=(((vm qs bd).map AR7).dropLast).map (wD ACJ)
def um(ps:GB)(ws:Ρ)(u:D5):A2:=Akq (uH ps (u w))
def iY(r:Κ)(g:AM)(ps:GB)(ms:MQ)(x:D5):Hs:=⟨r,g,ps,Abt,x⟩
def Oo(JE):Qq:=fun t ds P E=>∃(Ο:C4) (r:Κ) (g:AM) (ps:GB) (bd:F9),t= .ob GL [] []/\ds= [Ag9,.AS r,qD g,CT c ps,AFK]/\AXw/\rW r/\Ba3 (∀ms x,uv ->
 (∀w f,AXk ->BBP ->(∀v,isW Ο v ->Ľ v w ->rQ r g (Ju Ο AM4 v)=Ι) ->∀t',E t' (opX c w f))/\
 ∀ws u,AmT ->
  (A9L ->∀t',E t' (Bam AUH bd))/\
  (A8M ->∀mJ,A5u AWo ->P BcV B8))
theorem z8h(Bdu):ĭ 5:=Aah
theorem z7j(Bdu):Oo c t ds (fun t d=>d= B8/\P t d) E:=by
 obtain⟨Ο,r,g,ps,bd,h1,h2,h3,h4,h5,h6,h7,h8,h⟩:=h;exact⟨Ο,r,g,ps,bd,h1,h2,h3,h4,h5,h6,h7,h8,fun ms x G=>⟨(h ms x G).1,fun ws u A=>⟨(BcQ ws u A).1,fun a mJ O=>(Hb ((BcQ ws u A).2 a mJ O))⟩⟩⟩
theorem zls(BU YH):FS:=Aai
theorem zjw(BU YJ):FS:=Aai
theorem zrn(BU Uc):FS:=Aah
theorem zpc(BU YK):FS:=Aah
theorem zky(BU YL):Þ:=Aah
theorem zo2(BU Rm):MT:=Aag
def Ud(EG):dw:=bq n Ω m Δ (ds= AMn n m/\m<=8/\∀xs:Ρ,ŷ m ->AeG ->bS AIM)
def Ue(EG):dw:=bq i Ω m Δ (ds= [FV,.AN m]/\m<=1000/\∀xs:Bz,ŷ m ->BTz ->bS BHt)
def Ug(EG):dw:=F7 (∃i j:Ω,ds= AFg/\Az4/\AYi/\0<j/\BTX)
def Rn(JE):dw:=BRS
def Uh(JE):dw:=BSF
def YM(EG):dw:=F7 (∃(ns:Bz) (ws hs:Ρ),ds= [AyP,.AN 11,.By (FH .AS),.By (OM .AS)]/\AaZ/\AW4 5/\U1<=3/\u_/\AKl/\∀Ο:C4,AXw ->mw<=15 ->P (gq Ο))
def YQ(EG):dw:=bq ns Bz m Δ (ds= [AyP,.AN 4,.AN m]/\AaZ/\m<=60/\∀r g ps bd,tS (rW r) Ag_ (Gq ps) Av9 (KM<=4) BOc (P (Kb (Apx AFK))))
def Ek:Κ:=ACN "open"
def Oq:Κ:=ACN "barred"
inductive Gs (c:Cls) (Ο:C4) (r:Κ) (g:AM) (ps:GB) (bd:F9):AEM
 | op:∀ms x w f,uv ->AXk ->BBP ->AWy (.LY (.AS Ek))
 | ba:∀ms x ws u,uv ->AmT ->A9L ->AWy (.LY AjB)
 | ma:∀ms x ws u mJ,BB uv AmT A8M (A5u AWo) (AWy BcV)
def Ui(JE):tH:=F7 (∃(Ο:C4) (r:Κ) (g:AM) (ps:GB) (bd:F9) (lb:D),ds= [Ag9,.EI (Apx lb),AFK]/\AXw/\rW r/\Ba3 (∀t,AWy t ->P t))
def YS(JE):tH:=bq S gB bs UM (ds= [gB.d c S Ao5]/\bS (AIL ABL bD))
def YT(EG):dw:=BSG
def YW(EG):dw:=Be4 A9c
def YX(EG):dw:=AxS (ds= [lH (ADe AzY),lH S,uh bs,.By A9c]/\AWM/\Awe/\AN0/\ AOz/\Azk)
structure Ro (ws:Ρ) (v:D5):Θ where
 few:AW4 60
 zs:AN3 A7R
def YZ(EG):dw:=F7 (∃(ws:Ρ) (v:D5) (bs:UM),AOT A'h (Ro ws v) Azk)
def CW(Bgy):A2:=B7 AGC (ADP (AVN<=k)) v
def CZ(XZ):AXL:=(jO qs).head?
def Y0(EG):dw:=F7 (∃(ws:Ρ) (v:D5) (bs:UM) (bd:F9),ds= [.By A'h,AFK]/\Ro ws v/\Av9/\KM<=60/\P (Ca (Z3 BiJ k BUy)))
theorem zzs(BU Ud):FS:=H_
theorem zx7(BU Ue):FS:=H_
theorem z6c(BU Ug):FS:=H_
theorem z3b(BU Rn):FS:=H_
theorem zxq(BU Uh):MT:=cc
theorem z30(BU YM):ĭ 4:=hV
theorem z44(BU YQ):Þ:=H_
theorem ztx(BU Ui):Þ:=Aah
theorem zl6(BU YS):MT:=H_
theorem z42(BU YT):MT:=cc
theorem zt2(BU YW):FS:=hV
theorem zr0(BU YX):ĭ 4:=hV
theorem zyf(BU YZ):MT:=hV
theorem zvc(BU Y0):FS:=Aag
def zd1(Ν):aD:=(fj (NC (Lx Μ) An Akj)
 u6
 cI)
def zme(Ν):aD:=(aY (cB Ls Akj An))
def zg1(Ν):aD:=(aG (tu (tG GL AAh (YJ c) A5 (Ts An)))
 (zme K c))
def z1u(Ν):aD:=BV7
def zi8(Ν):aD:=(fj (rB (cT (cB yx Db AOK)) (AmH An Db))
 AX9
 cI)
def zk8(Ν):aD:=(aY sx)
def zgs(Ν):aD:=(aG (mV (AQG Im) (AQP 2 3)
 (zi8 K c))
 (zk8 K c))
def zgw(Ν):aD:=(ua Yw BIm (Ś (Am_ MU Uc A5) An))
def zgt(Ν):aD:=(wZ (nOf (bO 1 [0] (iL (cY (yY zuf Akj))) d4 eO (dY (aj A5 (G1 (AQG (Am_ MU Uc An)) (AQG (Am_ ck YK An))))))))
def zes(Ν):aD:=(aV 8 (cB d8 Ϛ (AX8 (N3 (cB d8 (cB bT PV AXB) (SO (SO (AYn (LO d9 (AEp (Í A5 64)) 2)) À) (o6 Li (cB uG AXB L4)))) 26))))
def zf3(Ν):aD:=(AFm 6 Ϛ)
def zfy(Ν):aD:=(aG (fj (rB (cT (LO uG (N3 (Í A5 24) 5) 1)) (cT (LO Bx An 8)))
 (aV 8 (NQ (cY (bO 1 [2] (iL (cY (Ae PV BL (wW (AHv À))))) d4 eO (AHt A5)))))
 cI)
 (zf3 K c))
def zlv(Ν):aD:=(aG (pG (Ts Db) (JY 9)
 (zes K c))
 (zfy K c))
def zh6(Ν):aD:=(aG (aV 8 (ŉ ""))
 (zlv K c))
def zrz(Ν):aD:=(aY lL)
def zri(Ν):aD:=(aG (pG (Ts An) (JY 7)
 (zh6 K c))
 (zrz K c))
def zi4(Ν):aD:=(aG (fQ 6 (fH ak))
 (zri K c))
def ziy(Ν):aD:=(aG (aV 5 (Al8 [0] (Ś PN (OX 8)) BfK))
 (zi4 K c))
def zi5(Ν):aD:=(aG (aV 4 (cB dW (Í A5 8) Db))
 (ziy K c))
def zr5(Ν):aD:=(aG (aV 3 (AYn (N3 A5 8)))
 (zi5 K c))
def zm5(Ν):aD:=(aG (aV 2 (ŉ Aqw))
 (zr5 K c))
def zvh(Ν):aD:=(aY (N3 (SO C5 C5) 2147483629))
def zu3(Ν):aD:=(aG (fj (AwW sx)
 (aV 2 (N3 (cB d8 (LO d9 (AId (cB dW (LO d9 An 7) sx)) 48271) BLq) 2147483647))
 cI)
 (zvh K c))
def zty(Ν):aD:=(aG (aV 2 (LO d8 BLq 5))
 (zu3 K c))
def zrd(Ν):aD:=(aG (fj (NC Fo An sx)
 (aY A1Q)
 cI)
 (zty K c))
def zk2(Ν):aD:=(AFm 2 Db)
def znq(Ν):aD:=(aG (aV 3 (N3 (LO d8 (LO d9 Db 48271) 12345) 2147483647))
 (zk2 K c))
def zoz(Ν):aD:=AX9
def zra(Ν):aD:=(aG (pG (Ts An) (JY 4)
 (znq K c))
 (zoz K c))
def zor(Ν):aD:=(aG (aV 3 (N3 A5 2147483647))
 (zra K c))
def zj8(Ν):aD:=(aG (fQ 2 (fH ak))
 (zor K c))
def znl(Ν):aD:=(fj (NC Nh (AEp (xl À)) (N3 PV 2))
 (aG (aV 8 (cB bT (AB' (aj (LO d8 (N3 AzK 4) 3) (G1 (N3 AzK 10) (AEp AzK)))) (AEp (ABV À 2))))
 (AFm 4 (dY (aj (AX8 (cB gR lL Ajk)) (G1 (cB bT Db (cB dW lL Ajk)) Ϛ)))))
 cI)
def zsa(Ν):aD:=(aG (g_ 7 Ue (AJ_ (cB d8 (AHv An) lL)) (OX 3))
 (znl K c))
def zu7(Ν):aD:=(aY L4)
def ztg(Ν):aD:=(aG (pG (Ts (SO AzR Ajk)) (JY 6)
 (zsa K c))
 (zu7 K c))
def zvm(Ν):aD:=(aG (aV 5 (AEp (AJ_ An)))
 (ztg K c))
def zqw(Ν):aD:=(aG (fQ 4 (fH ak))
 (zvm K c))
def zu5(Ν):aD:=(Ac 2 3 (G1 Db (cB dW C5 Db)))
def zvv(Ν):aD:=BZk
def zxj(Ν):aD:=(aG (yt (AwW Db)
 (zu5 K c))
 (zvv K c))
def zxd(Ν):aD:=(aG (aV 3 An)
 (zxj K c))
def zsy(Ν):aD:=(aG (aV 2 BKW)
 (zxd K c))
def znm(Ν):aD:=(wX 7 zc (aj (dY (G1 (iR K8 (G1 qo (cB jr (LO jr ADy 1) (N3 Ak_ 2)))) (cB d8 ADy (AEp (Í Ak_ 7))))) ak))
def zgr(Ν):aD:=(aG (aV 8 (cB jr Ϛ ADy))
 (znm K c))
def zrh(Ν):aD:=(aG (aV 10 (cB dW (cB gR Ak_ (cB d8 (OX 4) AXB)) (AHv Ϛ)))
 (zgr K c))
def zt7(Ν):aD:=(aY (dY (AP8 L4 PV lL (APt À (A_I C5)))))
def zuj(Ν):aD:=(aG (pG (Ts (N3 Ak_ 4)) (JY 9)
 (zrh K c))
 (zt7 K c))
def ztt(Ν):aD:=(aG (aV 8 C5)
 (zuj K c))
def zj6(Ν):aD:=(aG (fQ 7 (fH ak))
 (ztt K c))
def zu2(Ν):aD:=(aG (fj (cT (LO uG (AEp A2b) 1))
 (aV 6 (AB' (aj (dY (G1 AP' AP')) (G1 (AHJ (MM Ug (cB d8 (OX 3) (N3 (Í A2b 3) 9)) (OX 2)) (Ŏ (N3 (Í A2b 27) 30))) (AHJ A4v (Ŏ (OX 40)))))))
 cI)
 (zj6 K c))
def zu0(Ν):aD:=(aG (aV 6 (AB' (G1 (AHJ AP' AP') (AHJ A4v A4v))))
 (zu2 K c))
def zs7(Ν):aD:=(aG (g_ 5 Ug (N3 (Ĵ Db) 40) (AYn (N3 (Í (Ĵ Db) 40) 6)))
 (zu0 K c))
def ztu(Ν):aD:=(aG (aV 4 (cB bT (AB' (AP8 Azt Azt BH8 BH7)) (N3 (xl Db) 4)))
 (zs7 K c))
def zq5(Ν):aD:=(aG (g_ 3 Ue (AJ_ An) (OX 4))
 (ztu K c))
def zw7(Ν):aD:=(aY (qy (MM Gj y0 AIK) (ABu sZ Gj ACk kK)))
def zq8(Ν):aD:=(aY (qy (LO Fq sx 1) (o6 yg6 (A8p (A_L [] (cY (Ae A5 AWp BL))) Yl))))
def ze3(Ν):bZ:=(o6 La An)
def zfq(Ν):aD:=(fj (ACn (AYS Ym))
 u6
 cI)
def z5l(Ν):aD:=(aY (o6 ycy (AOW [0] An (cB (BP AG) A5 An))))
def zwh(Ν):aD:=(fj (ABu cT Ua L4 An)
 (wX 3 zue (Ts L4))
 cI)
def zpr(Ν):aD:=(gy (qG C5 (AB' (aj (cY (yY Xa Db)) ak))))
def zzo(Ν):aD:=(aG (rC A5 (JY 4)
 (zwh K c))
 (zpr K c))
def zyz(Ν):aD:=(aG (fQ 3 (AVK An))
 (zzo K c))
def zv4(Ν):aD:=(aG (aV 2 (ADm [1] A5 (ACn (MM Ua A5 An))))
 (zyz K c))
def zib(Ν):aD:=(Xf 1 2 3 L4)
def zum(Ν):aD:=(aG (fj (Xd 1 C5)
 (Xe 1 2 WY)
 cI)
 (zib K c))
def zm9(Ν):aD:=(wZ (nV 1))
def zwf(Ν):aD:=(aG (rC A5 (A_3 2 3 4)
 (zum K c))
 (zm9 K c))
def zsq(Ν):aD:=(aG (wY 1 WY)
 (zwf K c))
def zwo(Ν):aD:=(g_ 1 Yx An (cY (yY zyi C5)))
def zy5(Ν):aD:=(wZ (nOf (yY z9m An)))
def zyh(Ν):aD:=(aG (mV (z1n (ip rJ (Rk c) A5)) (JY 2)
 (zwo K c))
 (zy5 K c))
def zv9(Ν):aD:=(aG (aV 1 Az2)
 (zyh K c))
def zpd(Ν):aD:=(aV 1 C5)
def zqa(Ν):aD:=(aG (aV 0 An)
 (zpd K c))
def zuz(Ν):aD:=(aG (aV 2 (cB dW A5 An))
 (zqa K c))
def zxp(Ν):aD:=(aY BKW)
def zsn(Ν):aD:=(aG (yt (A1q DP)
 (zuz K c))
 (zxp K c))
def zq9(Ν):aD:=(aV 1 (SO An (cB gR (Ĵ C5) (MM T5 An (Ĵ C5)))))
def zrq(Ν):aD:=(gy (Ajz [1] eO (SO y0 (cB gR An kK))))
def zr8(Ν):aD:=(aG (rC A5 (JY 2)
 (zq9 K c))
 (zrq K c))
def znh(Ν):aD:=(aG (aV 1 o_)
 (zr8 K c))
def zsi(Ν):aD:=(gy (A_L [0,1,2,3] An eO (cB gR (cB jr (SO (cB bT Db L4) A5) (SO (AX8 L4) An)) PV)))
def zwg(Ν):aD:=(gy (bO 2 [1,2,3] (AQG Im) Agf eO (Fd (AaG C5) An (aC (Yb c) (AP8 An L4 C5 Db)))))
def zsb(Ν):aD:=(aG (aV 3 A1Q)
 (zwg K c))
def zvd(Ν):aD:=BZk
def zub(Ν):aD:=(aG (fj (A1q Fo)
 (aV 2 (cU jT C5))
 cI)
 (zvd K c))
def zt0(Ν):aD:=(aG (g_ 2 T5 A5 An)
 (zub K c))
def zp5(Ν):aD:=(aG (fj (A1q uG)
 u6
 cI)
 (zt0 K c))
def zrr(Ν):aD:=(aY Db)
def zrx(Ν):aD:=(aG (Qg 3 C5 A1Q)
 (zrr K c))
def zr4(Ν):aD:=(aG (Qg 3 An (AId C5))
 (zrx K c))
def zni(Ν):aD:=(aG (fQ 3 A1k)
 (zr4 K c))
def yba(Ν):aD:=(fj (cT (LO DP (cB bT (AId C5) An) 0))
 (aY (AFh Yd A5 An C5))
 cI)
def yd5(Ν):aD:=u6
def yfz(Ν):aD:=(aG (HS (G1 An sx) (JY 2)
 (yba K c))
 (yd5 K c))
def zr2(Ν):aD:=(aV 3 (cB bT (AX8 L4) L4))
def zwe(Ν):aD:=(aG (aV 2 (AFh Yc (MM Ye C5 L4) L4 Db))
 (zr2 K c))
def zzp(Ν):aD:=(gy (bO 2 [] (Ś Im C5) Agf eO (aC (Kr c) (G1 AhR (AHt A5)))))
def zzv(Ν):aD:=(aG (pG (Ts AzR) (JY 4)
 (zwe K c))
 (zzp K c))
def zq0(Ν):aD:=(aG (aV 3 o_)
 (zzv K c))
def zw6(Ν):aD:=(aG (aV 2 (cY (A_L [] An eO (i9 zdt (APt A5 (AP7 An))))))
 (zq0 K c))
def zix(Ν):aD:=(gy (AMS [0] An (cT (cB (Lx AG) An A5)) A5))
def znb(Ν):aD:=(aY (iV Bx Bx AIK A5 ACk))
def zs0(Ν):aD:=(gy (Ajz [1,2] (cT (o6 ycy (AgH (AMS [0,2] An) T8 (cB jr An A5) C5))) A5))
def z8g(Ν):aD:=(ua Kr (cB d8 AhW Awz) (SO kK ACk))
def zz1(Ν):aD:=(g_ 1 Ra An C5)
def z4e(Ν):aD:=Ajc
def z32(Ν):aD:=(aG (rC A5 (JY 2)
 (zz1 K c))
 (z4e K c))
def z1k(Ν):aD:=(aG (aV 1 AP')
 (z32 K c))
def z33(Ν):aD:=(aY (Fd (AaG An) (MM Ra (Ŏ Ajk) L4) L4))
def z4w(Ν):aD:=(aG (aV 4 (i9 Rb (AOW [] Db (AHJ AUz BKX))))
 (z33 K c))
def z2o(Ν):aD:=(aG (g_ 3 Ol An (MM Ol A5 C5))
 (z4w K c))
def zxc(Ν):aD:=(gy (AMS [0,2] An eO (AFh Yz An A5 C5)))
def z03(Ν):aD:=(ua Kr (cB jr AhW Awz) (SO kK ACk))
def zna(Ν):aD:=(ua Kr (N5 A5) BKX)
def zxx(Ν):aD:=(aY (i9 Rb (AgH (bO 1 [0] (ABu iL Ol A5 An) d4) Ku (Ŏ (cB Ls A5 An)) (AEt YC))))
def ze1(Ν):aD:=(ua Yg (APt (AP7 L4) C5) (APt (A_I o_) Db))
def zep(Ν):aD:=(aG (aV 4 (AOW [1] A5 (Ŏ (ABg (MM Ol A5 An)))))
 (ze1 K c))
def zjx(Ν):aD:=(aG (aV 3 (A8p (bO 1 [1] BRO d4) YD))
 (zep K c))
def zf5(Ν):aD:=(aG (aV 2 (Al8 [0,1] BRO (AFh YB A5 An C5)))
 (zjx K c))
def zi2(Ν):aD:=(Xk 1 L4 PV)
def zgy(Ν):aD:=(mV (Nv (G1 C5 (MM YF C5 Db))) (AQP 4 5)
 (zi2 K c))
def ziz(Ν):aD:=(aG (aV 3 (cY (CG (ip aC (Gb (Rk c)) (ADm [2] A5 (NC (BP AG) kK An))))))
 (zgy K c))
def zvi(Ν):aD:=(wZ (nV 1))
def zj4(Ν):aD:=(aG (rC (ip aC (Gb (Yy c)) A5) (JY 2)
 (ziz K c))
 (zvi K c))
def zqx(Ν):aD:=(aG (wY 1 WY)
 (zj4 K c))
def z0n(Ν):aD:=(ua Kr (SO y0 AIK) (SO kK ACk))
def z5w(Ν):aD:=(ua Kr AhW (SO kK AIK))
def zx4(Ν):aD:=(ua Ra kK (MM T6 Db (MM Ku AIK y0)))
def zse(Ν):aD:=(aG (g_ 3 X7 (MM Ku C5 y0) (MM Ku ACk kK))
 (zx4 K c))
def zku(Ν):aD:=(fj (ABu cT Gj An (xl Db))
 (aY (AFh Yn C5 Db An))
 cI)
def zlw(Ν):aD:=(aY (Ĵ (cB bT Aao AUz)))
def zlx(Ν):aD:=(aG (mV (Nv (G1 Aao (Wx Aao AWp BL))) (AQP 2 3)
 (zku K c))
 (zlw K c))
def zhv(Ν):aD:=(aG (fj (AmH (xl (xl Aao)) An)
 (aY (Ĵ (xl Aao)))
 cI)
 (zlx K c))
def ze8(Ν):aD:=(aY (NZ (AHx AR9) An AP'))
def z61(Ν):aD:=(ua T6 (AEt Rb) (Ŏ sx))
def zh2(Ν):aD:=(aY (Fd (AaG BH7) (OX 2) o_))
def z2f(Ν):aD:=(ua Ku kK y0)
def zhy(Ν):aD:=(fj (AmH (AYS Rh) (i9 Rh Db))
 (aV 1 Db)
 cI)
def zur(Ν):aD:=(aG (aV 3 (cY (Ae A5 (wW C5) (wW (LO d8 C5 2)))))
 (zhy K c))
def zye(Ν):aD:=Ajc
def zng(Ν):aD:=(aG (HS (G1 o_ BKZ) (JY 2)
 (zur K c))
 (zye K c))
def zss(Ν):aD:=(aG (aV 1 (cY (Ae A5 BL (wW (cC (II 2))))))
 (zng K c))
def z6s(Ν):aD:=(aY (AEt Yi))
def z47(Ν):aD:=(aG (fj (rB (cT (LO uG sx 2)) (ABu cT Gj An (AEt Rh)))
 (ip lZ vE (ŉ "two marks lie farther apart than the gap"))
 cI)
 (z6s K c))
def zv6(Ν):aD:=(gy (Ae A5 (wW (Í BKZ 2)) (wW (AHv (Í sx 2)))))
def zry(Ν):aD:=BWs
def zw5(Ν):aD:=(aG (aV 3 (tE (ABg (ADm [2] An (AmH An A5)))))
 (zry K c))
def zy1(Ν):aD:=Ajc
def zyg(Ν):aD:=(aG (rC A5 (JY 2)
 (zw5 K c))
 (zy1 K c))
def zwj(Ν):aD:=(aG (fQ 1 (fH ak))
 (zyg K c))
def z4x(Ν):aD:=(aY (i9 Rf (MM Yj (AYS Rg) (Fd (NC K7 C5 AOK) (cC BiS) C5))))
def z4m(Ν):aD:=(aG (fj (AaG BH8)
 (aY (i9 Rf (i9 Yh (AYS Rg))))
 cI)
 (z4x K c))
def z46(Ν):aD:=(aG (fj (AaG Azt)
 (aY (AYS Rf))
 cI)
 (z4m K c))
def ztn(Ν):aD:=(aG (fj (NC Fo AYE (AEt Yk))
 (ip lZ þ (ŉ "the rule needs more marks than these"))
 cI)
 (z46 K c))
def zic(Ν):aD:=(Jp Μ K vE þ (aY (tG hZ AKz (Yo c) (AHx AGD) (Ts (AFh Ub (AHx cf) Db (AHx ci)))))
 (Bdi AjI)
 (Bdi AHq))
def ze0(Ν):aD:=(aG (aV 3 (AgH (bO 2 [0] (z5m C5) Agf) Ku (Ŏ An) (AQG (Am_ ā YH C5))))
 (zic K c))
def zis(Ν):aD:=(gy (bO 1 [2] (iL (cY (Ae An BL (wW (cU jT o_))))) d4 eO BcF))
def zfa(Ν):aD:=(aG (aV 2 (AEt Rg))
 (zis K c))
def zy6(Ν):aD:=(AFm 2 (AFh Yp A5 BUq Db))
def z4j(Ν):aD:=AX9
def z3z(Ν):aD:=(aG (rC An (JY 3)
 (zy6 K c))
 (z4j K c))
def z1q(Ν):aD:=(aG (fQ 2 (Ś fH (AP7 qo)))
 (z3z K c))
def zfb(Ν):qu:=(Jg 1 [] (iL An) d4 eO A1k)
def zi6(Ν):aD:=(aY (BML (ACn (MM Gj A5 An))))
def z9y(Ν):aD:=(gy (yY yai (APt (AP7 qo) (A8p (Ajz [0]) Yq))))
def zfz(Ν):aD:=(gy (Ae (cY (yY yd0 Db)) AWp BL))
def zl8(Ν):aD:=(aG (g_ 3 Rj C5 (cY (yY yd0 An)))
 (zfz K c))
def zg6(Ν):aD:=(aG (aV 2 (Al8 [0] (AQG zl9) BLm))
 (zl8 K c))
def zhr(Ν):aD:=(AFm 2 (o6 z09 (ADm [0,4] PV (NC (BP AG) BLm C5))))
def zju(Ν):aD:=(aG (aV 5 (Ir (Wz (Ajz [2,3] (ABu cT T8 (cB jr A5 AhR) C5) A5))))
 (zhr K c))
def zj9(Ν):aD:=(gy (Ae C5 AWp BL))
def zkr(Ν):aD:=(aG (mV (Nv (G1 An (MM Ys A5 An))) (AQP 3 4)
 (zju K c))
 (zj9 K c))
def zgx(Ν):aD:=(aG (fQ 2 (Ś fH qo))
 (zkr K c))
def ybg(Ν):aD:=(ua Yt C5 An)
def z98(Ν):aD:=(aG (fj (NC (BP Μ) sx (cB bT Db AUz))
 (zzn Su h_ (T9 c) (Ts Db))
 cI)
 (ybg K c))
def z7i(Ν):aD:=(aG (g_ 3 Rj C5 An)
 (z98 K c))
def z7z(Ν):aD:=(aG (aV 2 (AEt Yr))
 (z7i K c))
def zg0(Ν):aD:=(Jk GL 0 LA 6 (zzu GL AGG (YL c) A5 (G1 lL (cB Ls BIn lL))))
def zh0(Ν):aD:=(xq GL 0 Acl (MM Yv À (MM Yu À PV)))
def zhe(Ν):aD:=(aG (aV 7 (cY (CJ (CG Akj))))
 (zh0 K c))
def zhf(Ν):aD:=(aG (rC (cY (CJ (yY zuf BIn))) (JY 6)
 (zg0 K c))
 (zhe K c))
def zho(Ν):aD:=(aG (Cw GL 0 LA WY)
 (zhf K c))
def zia(Ν):aD:=(aG (Cw GL 0 Pe (z7g (ip rJ (Rk c) An)))
 (zho K c))
def zhn(Ν):aD:=(aG (xq GL 0 AR9 (N6 (ip rJ (YG c) An)))
 (zia K c))
def zht(Ν):aD:=(aG (xq GL 0 AGD (BeB (mj hZ YO L4)))
 (zhn K c))
def zhd(Ν):aD:=(aG (xq GL 0 ci Db)
 (zht K c))
def zcp(Ν):aD:=(aG (xq GL 0 cf C5)
 (zhd K c))
def zn1(Ν):aD:=(CQ 3)
def zn2(Ν):aD:=(aG (Jp AG K Su S4 (wY 3 (Je GL (Oo c) (aj (cY A1k) (AP8 AIK ACk (BeB (ABV An 2)) (cY (AVK C5))))))
 (aV 3 AwF)
 (aV 3 BjZ))
 (zn1 K c))
def zi7(Ν):aD:=(aG (aV 3 AOK)
 (zn2 K c))
def zq3(Ν):aD:=BV7
def znp(Ν):aD:=(aV 3 AYy)
def ze7(Ν):aD:=BWs
def zka(Ν):aD:=(aG (yt (oh (rB (NC Fo Db AYE) (BQp (AHt Db))))
 (znp K c))
 (ze7 K c))
def znv(Ν):aD:=(aG (aV 3 qo)
 (zka K c))
def zha(Ν):aD:=Ajc
def zp3(Ν):aD:=(aG (rC A5 (JY 2)
 (znv K c))
 (zha K c))
def zlg(Ν):aD:=(aG (fQ 1 (fH ak))
 (zp3 K c))
def zrw(Ν):aD:=(fj (Hg (cT (cB uG AYy AYE)) (ABu cT Rn (AHt AYy) (AHt Db)))
 (AFm 2 AYy)
 cI)
def zk9(Ν):aD:=AX9
def zuk(Ν):aD:=(aG (pG (Ts AYE) (JY 3)
 (zrw K c))
 (zk9 K c))
def zgl(Ν):aD:=(aG (fQ 2 (Ś fH qo))
 (zuk K c))
def zq7(Ν):aD:=(aG (aV 1 (cY (wB (AEt Uh))))
 (zgl K c))
def zjg(Ν):aD:=(AFm 2 (ADm [3,4,5] A5 (NC DP (ADm [0,1,2] Db (cT (iV Bx Bx C5 BLl Db))) Az2)))
def zmt(Ν):aD:=(aG (aV 5 BUq)
 (zjg K c))
def znj(Ν):aD:=(aY (cY (wB C5)))
def znw(Ν):aD:=(aG (rC (cY (wB An)) (AQP 3 4)
 (zmt K c))
 (znj K c))
def zi1(Ν):aD:=(aG (fQ 2 (Ś fH (AP7 (AId AUz))))
 (znw K c))
def ze9(Ν):aD:=(wZ (nOf (AVK BIm)))
def ziu(Ν):aD:=(aV 4 (AId PV))
def zit(Ν):aD:=(aG (fj (Hg (cT (cB uG Ϛ Az2)) (NC DP (AId PV) (o6 z09 Ϛ)))
 AQ2
 cI)
 (ziu K c))
def ziv(Ν):aD:=(aG (aV 8 (ADm [4,6,7] (cB bT Db (AHv PV)) (cT (iV Bx Bx C5 BLl Db))))
 (zit K c))
def zkp(Ν):aD:=(aG (Ab (AX8 PV) (iU 2 (Aew 6 7)))
 (ziv K c))
def zl0(Ν):aD:=(aY (cB uG L4 AhR))
def zmd(Ν):aD:=(aG (pG (Ts AzR) (JY 5)
 (zkp K c))
 (zl0 K c))
def zhx(Ν):aD:=(aG (aV 4 qo)
 (zmd K c))
def zjh(Ν):aD:=(AFm 2 (xl (APt L4 (AP7 AOK))))
def zly(Ν):aD:=(aG (aV 4 (i9 Uh (cY (BeC [3] A5 (NC Bx C5 Db) An))))
 (zjh K c))
def znr(Ν):aD:=AX9
def znz(Ν):aD:=(aG (pG (Ts (LO jr AYE 1)) (JY 3)
 (zly K c))
 (znr K c))
def zi3(Ν):aD:=(aG (fQ 2 (fH ak))
 (znz K c))
def znn(Ν):aD:=(fj (Hg (rB (cT (cB Fq Db lL)) (BQp PV)) (rB (NC uG C5 PV) (NC DP Db lL)))
 AQ2
 cI)
def zno(Ν):aD:=(rC A5 (A_3 4 5 6)
 (znn K c))
def zql(Ν):aD:=(aY (cC AjI))
def zlb(Ν):aD:=(aG (rC A5 (A_3 1 2 3)
 (zno K c))
 (zql K c))
def z88(Ν):aD:=(aY (yF (cB uG (Jf GL iA (Gb (YS c)) PV) (MM Y0 ADy AZQ))))
def z9a(Ν):aD:=(aG (fj (ACn (aC (YX c) (AP8 (cV 11) Ϛ AZQ AXB)))
 AQ2
 cI)
 (z88 K c))
def z6b(Ν):aD:=(aG (aV 11 (Al8 [10] (Ś PN (ABg AZQ)) (BML (NC Bx (ABV A5 2) An))))
 (z9a K c))
def ybb(Ν):aD:=(aG (fj (Hg (cT (cB DP (AOW [] ADy y0) (cY (yY Xa BL0)))) (ACn (i9 YZ ADy)))
 AQ2
 cI)
 (z6b K c))
def zw0(Ν):aD:=(aG (fj (Hg (ACn (Ad IC ADy)) (NC DP (AOW [] ADy kK) À))
 AQ2
 cI)
 (ybb K c))
def z8y(Ν):aD:=(aG (aV 10 (Bae PV))
 (zw0 K c))
def z73(Ν):aD:=(aG (fj (BWl PV)
 AQ2
 cI)
 (z8y K c))
def z8q(Ν):aD:=(aG (fj (NC (BP Μ) qo (xl AXB))
 (aY (yF (cB uG PV AwF)))
 cI)
 (z73 K c))
def ydu(Ν):aD:=(aG (g_ 9 YW Ϛ AZQ)
 (z8q K c))
def yee(Ν):aD:=(aG (aV 8 (i9 YT À))
 (ydu K c))
def yc7(Ν):aD:=(aG (aV 7 (cY (BeC [] (Bae lL) eO An)))
 (yee K c))
def z01(Ν):aD:=(aG (fj (BWl lL)
 (aY (yF (cB uG PV lL)))
 cI)
 (yc7 K c))
def ycf(Ν):aD:=(aG (wY 6 (rJ (Ui c) (aj Db (G1 L4 (A_I (OX 60))))))
 (z01 K c))
def yeo(Ν):aD:=(aG (wY 5 (rJ (Ui c) (aj Db (G1 L4 AZQ))))
 (ycf K c))
def yeg(Ν):aD:=(aG (aV 4 (AFh YQ A5 (OX 4) (o6 z9t BL0)))
 (yeo K c))
def ycp(Ν):aD:=(aG (aV 3 (aC (YM c) (AP8 A5 (OX 11) An C5)))
 (yeg K c))
def yea(Ν):aD:=(aG (g_ 2 Ud (AJ_ (OX 2)) (AYn (AEp (AJ_ (OX 3)))))
 (ycp K c))
def z5x(Ν):aD:=(aG (g_ 1 Ud (AJ_ qo) (AYn (N3 (AJ_ o_) 5)))
 (yea K c))
theorem z99(BU T5):FS:=H_
theorem z38(BU Kr):FS:=H_
theorem ylj(BU Ra):FS:=H_
theorem yim(BU Ku):FS:=H_
theorem yhg(BU X7):FS:=H_
theorem yk1(BU T6):FS:=H_
theorem yjn(BU Gj):FS:=H_
theorem Aq{j:Ω}(h:BFI<2^64):AYi:=zP (kY h) Ψ
abbrev D3(Q:AJQ):uc:=A9R
theorem z58(B1 T5):à zsn:=by
 show eQ i j Β h;refine C9 (fun m Γ=>∃a b r,Γ= [F6 a,F6 b,r]/\m=AeM/\BXA) ⟨_,i,j,DO,Β,Β,Β⟩;rintro m _ ⟨a,b,r,Β,Β,hg⟩;refine Ϥ;by_cases hb:b=0
 ·subst hb;have:Me (! fW AH4 AH4):=AEW
  rw[Τ];refine(?_:AWL BW9);have e:BW9=Ayb:=by
   rw[<- hg,Bls];show Ö
  show XN e
 ·have:APF (fW (II b) AH4):=aw fW hb
  rw[Τ];exact⟨hb,_,zfg hb,b,AGt b,F6 (AGt b),Β,Β,KE z2r hg⟩
theorem zv1{i j:Ω}(hj:AJS):dv i j≠0/\∀n,fI<=n ->dB j<=n ->dB (dv i j)<=n:=by
 refine⟨Xy hj,fun n h1 h2=>(Al_ h2)⟩;show UC k (z5d i j);have h:=AJh AtJ;rw[ġ] at h;rw[h];have:k≠0:=AZ (hj (by rw[e,z,Blu]))
 exact Blt _ Η
theorem z3j(B1 Kr):à zp5:=by
 show AAH i j b1 b2;refine Ϥ;by_cases hj:j=0
 ·subst hj;have:fW AH4 AH4=Μ:=AEW
  rw[Τ];exact ě
 ·have:fW (II j) AH4=AG:=aw fW hj
  rw[Τ];rw[CM hj,<- ylq hj] at h;refine Lu i j ?_;show D1 d0 d1 (Ú zv1) hj;refine(?_:yb (j<0));by_cases hn:j<0
  ·show DJ (CC hn)
   have e:dv i j= -Ayb:=by unfold dv;show DJ hn
   exact BZY
  ·show BD (CC hn)
   have e:dv i j=Ayb:=by unfold dv;show BD hn
   exact BZY
theorem at0{x y:D}:lB [x,y] 0=Ε x:=AEl
theorem at1{x y:D}:r_ [x,y] 1 y:=t9
theorem qI(BSU):Fj i j:= Ak9
theorem wH(BSU):dB (i*j)<=8000:=NA (Fg i j)
theorem abF(BSV):dB (i+j)<=9000:=NA (zim i j)
theorem abG(BSV):dB (i - j)<=9000:=NA (zm1 i j)
theorem Uj{i:Ω}(h1:fI<=8000):Az4:=Υ
theorem ynp(B1 Ra):Sm z8g:=by
 show AO' b Β a1 a2 b1 b2 h h;refine⟨_,at0,_,at1,AZj,_,at0,_,at1,AoM,_,at1,_,at1,A1m,_,_,Β,abF (wH a1 b2) (wH b1 a2),AmQ b2,?_⟩;rw[Pi (TJ a b),<- ygd];exact h
theorem ykx(B1 Ku):Sm z03:=by
 show AO' b Β a1 a2 b1 b2 h h;refine⟨_,at0,_,at1,AZj,_,at0,_,at1,AoM,_,at1,_,at1,A1m,_,_,Β,abG (wH a1 b2) (wH b1 a2),AmQ b2,?_⟩;rw[Pi (TJ a b),<- yf5];exact h
theorem yhp(B1 X7):Sm z0n:=by
 show AO' b Β a1 a2 b1 b2 h h;refine⟨_,at0,_,at0,qI a1 b1,_,at1,_,at1,A1m,_,_,Β,Uj (wH a1 b1),AmQ b2,?_⟩;rw[Pi (TJ a b),<- yfu];exact h
theorem ym8(B1 T6):Sm z5w:=by
 show AO' b Β a1 a2 b1 b2 h h;refine⟨_,at0,_,at1,AZj,_,at1,_,at0,qI a2 b1,_,_,Β,Uj (wH a1 b2),AmQ b1,?_⟩;by_cases hb:b=0
 ·show ό hb;show DJ (ad hb Blu _);exact h
 ·show l6 hb;rw[Pi (BGw Bjj (AZ (hb (Al.mp z)))),<- ygt a b hb];exact h
theorem yhn(B1 Gj):Sm z1u:=by
 show AO' b Β a1 a2 b1 b2 h h;refine⟨_,at0,_,at1,AZj,_,at0,_,at1,AoM,?_⟩;rw[ybp] at h;exact h
theorem yiu{n:Δ}(AJv):mU QQ (qD a) (qD b):=by
 show AbZ
 match i with
 | 0=>show BSw
 | 1=>show BSw
 | i+2=>simp at h1
theorem z6q{n:Δ}(a:AQ):mU QQ (FG a) AMa:=by
 show AbZ;simp at h2
theorem vp:ACc (LN 1000):=DB
theorem xK{i m:Ω}(hm:0<m):0<=ALU m/\ALU m<m:=CD A0k ⟨BGu _ Η,Int.emod_lt_of_pos _ hm⟩
theorem Rp(AKI):fW AD_ (II j)=TC (i=j):=by
 simp only [fW];by_cases h:i=j<;>simp [h]
theorem Rq{i:Ω}{n:Δ}(h:0<n):∃k:Δ,ALU L5=F8/\k<n:=by
 have:=jS i L5 Η
 exact⟨A4Y L5,Υ,Υ⟩
theorem z3s(BU Js):FS:=H_
theorem yod(BU z1d):MT:=cc
theorem z41(B1 Js):à zrd:=by
 show AAH ns k hl hk;refine AEI (F8< A9H);show AXt;by_cases A6:Ayz
 ·show DJ (CC A6)
  refine C9 (.AN ns[k]) (WC jP A6)
  show De lG;rw[ATW A6] at h;exact h
 ·show BD (CC A6)
  show De lG;rw[dif_neg A6] at h;have bk:dB F8<=10:=kY (by simp only [Blw];show AA)
  show PY (C3 AQT) (yb (O_< A9H));show Nw;have fin2:∀m:Ω,m.natAbs<2^40 ->BXt ->Fj m m/\ pV 2147483629/\BXt:=fun m hm hq=>
   ⟨.D6 (zP (kY hm) Ψ),DB,hq⟩
  by_cases he:ns= []
  ·subst he;show BD A7
   rw[EF] at h;exact fin2 _ Η h
  ·have hp:0<HQ:=(by cases ns with | DL=>show AEk he | AY _ _=>exact Acp _)
   show DJ (CC hp)
   show l6 he;refine C9 AQT (show pV (C7 wP E_) by show Nw;show AA)
   have hm:(F8*7).OL A9H=ER Amc:=by
    show AW6 A0k Int.natCast_emod Aq7
    rfl
   dsimp only [aG,cI,cC,cV,cB,cT,rB,Hg,lW,qy,Fb,sZ,Fd,ak,aj,dY,fH,cY,tu,aY,wR,fj,aV,fQ,AGl,iT,bG,iU,Ab,Ac,aC,cU,iR,jT,d8,jr,d9,gR,dW,Fl,Fo,Bx,Fq,Nh,K7,yx,uG,DP,bT,wI,Fi,J9,nM,K8,SX,lZ,Ft,wV,Ad,Fw,AAu,AMA,AMC,AR',ABP,qC,qt,BK,La,BL,wW,Ae,wB,tE,oh,yD,wX,zc,Kc,qG,BP,iV,rE,Li,S8,Im,FQ,FT,iL,mV,nO,Cq,eO,AGr,ASA,ww,AGv];rw[hm];have hlt2:Amc<HQ:=As2 _ hp;show ż (C9 (.AN (ZA (Amc) 0)) (jP (by simp [GN,Mb,hlt2]))) ⟨AQT,AQT,DB,?_⟩ (fin2 _ ?_ h);have h1:=zfg (a:=ZA (Amc) 0*48271+ F8*7919) (b:=2147483647) Ψ
   exact AdZ h1 Ψ
theorem yki(BU Rb):MT:=cc
theorem ynh(BU Rf):MT:=cc
theorem yi2(B1 Rb):à z1k:=by
 obtain⟨qs,Β,s1,s2,h⟩:=h;refine AYp AhJ (∃x,Γ= [eI ý,AHs (fJ (AR1 i)),x]) D_
 ·rintro i x _ hi ⟨y,Β⟩;rw[GN] at hi;cases q:qs[i]? with
  | Ι=>show Aqa
  | Ε a=>
   rw[q] at hi;show AU5;refine⟨_,_,Β,s2 i,s1 a (zA q),AhQ,?_⟩;rw[AL0,q,zyq];simp only [Option.toList_some,fJ,AGA]
   rfl
 ·show AiI y;have h' :=h;show yT wf;exact h'
theorem ynk(B1 Rf):AJZ z61:=by
 obtain⟨qs,Β,hl,s1,s2,h⟩:=h;refine Ð qs s1 s2;have e:D.tup BRH=qD BHJ:=BHi QX
 refine⟨AhJ,fJ qs,BHJ,by show US [_,D.tup BRH];rw[e],?_,BVZ ?_,?_⟩
 ·have:=s2 Fs;rwa [wf] at Τ
 ·exact zM (Fm (fE AJJ<=1000)) Ψ
 ·by_cases hq:qs= []
  ·subst hq;rw[EF] at h;show DJ A7;exact h
  ·show l6 hq;rw[Pi]
   ·exact h
   ·intro z;have z' :AJJ=0:=Ø z
    exact hq (AGB Η)
theorem Y4(BA'):E4 (Qr f) (f i):=CY h
theorem Kw(BA'):BYN:=jP (Y4 h)
theorem z5b{n:Δ}(f g:Ő):BgR:=by
 unfold lE;show k9
 ·simp
 ·show AFs;simp
theorem yfv{n:Δ}(f:Ő):Ke 0 (Qr f)=Qr (HH (.EI [.AN Agz,f i])):=by
 apply BoM;intro i;rw[ztq];by_cases h:i<n
 ·rw[Y4 h,Y4 h];simp
 ·simp [h]
theorem zx6(BYU):jp is CF P T0 (∀i∈is,AKT (P [g i]) i) (P (AL6 g)) (AU3 AL6)
 | [],_,_,h=>h
 | i::is,P,k,h=>k i zY _ (zx6 BVS h)
theorem Y5(BYU){n:Δ}{P:T0}(k:AEy (AKT (P [g i]) i))(h:P (Qr g)):AU3 Qr:=
 zx6 (Ty hi (k i (R_ hi))) h
theorem zmo{m:Δ}{f g:ϣ}(h:UE m (f j=g j)):gW m f=gW m g:=by
 unfold gW
 congr 1
 exact wx (XA (NE (h j (R_ hj))))
theorem z4c{n m:Δ}{a b:Mx}(h:∀i j,i<n ->j<m ->a i j=b i j):Am0=pP n m b:=by
 unfold pP
 congr 1
 exact wx (RC (zmo fun j hj=>h i j (R_ hi) hj))
theorem z0j(BU zdt):MT:=H_
theorem zzw(BU Yd):Þ:=Aai
theorem yn8(BU Ye):FS:=Aag
theorem z7t(BU Yb):ĭ 4:=Aai
theorem z5h(BU Yc):Þ:=Aai
theorem yef(BU Yg):FS:=by obtain⟨_,_,⟨Β,_⟩,_⟩:=h;rfl
theorem z6m(B1 Yb):XU zsi:=by
 obtain⟨m,k,f,g,p,Β,hk,p0,bp,bf,bg,h⟩:=h;refine APE (lE BLn (ANE m (g j)));rw[z5b];refine Y5 (g:=E7 (.AN ((BVa).ĩ p))) BSH h;have b1:=bg k;have b2:=bf j;have b3:=bf k;have b4:=bg j;exact⟨Β,Β,.AN (g k),Kw hk,Ak9,AXH k,Kw hk,Ak9,⟨p0,bp⟩,hP⟩
theorem z7w(B1 Yc):XU zsb:=by
 obtain⟨a,n,m,k,p,Β,hk,hkm,p0,bp,ba,h⟩:=h;refine C9 (gW m (a k)) (Kw hk);show ADf (cG _ (Ke 0 (AQ1 AOC)) _) yfv (Y5 (g:=HH (gW m BdF)) BSI h);refine AXs Β ?_;rw[Rp];by_cases e:i=k
 ·subst e;show APD Β;have:gW m (Gk i p a i)=AOC:=zmo fun j _=>EF;rw[Τ] at hP;exact hP
 ·show AJN Η
  have:gW m BdF=gW m (E7 BgH):=zmo fun j _=>APG;rw[Τ] at hP;exact⟨m,k,a i,a k,p,Β,hkm,p0,bp,E7 (ba i j hi),E7 (ba k j hk),hP⟩
theorem yjm{n:Δ}(f:Ő){k s:Δ}(hk:k<n)(hs:s<n):((Qr f).set k (f s)).set s (f k)=Qr (HH (f (rO k s i))):=by
 show k9
 ·simp
 ·show AFs;simp only [List.getElem_set,ATc,BFj];unfold rO;by_cases e1:s=i
  ·subst e1;by_cases e2:k=s
   ·subst e2;simp
   ·rw[EF,ϟ,EF]
  ·show BD e1;by_cases e2:k=i
   ·subst e2;rw[EF,EF]
   ·rw[CM e2,ϟ,ϟ]
theorem z68{n k:Δ}(h:k<n):wu n F8=Ε k:=by
 unfold wu;rw[Ch Η,Ϡ];simp
theorem z0i(B1 Yd):XU zni:=by
 obtain⟨a,n,m,k,s,Β,hk,hs,h⟩:=h;refine⟨gW m (a s),Kw hs,D_,k,WC z68 hk,gW m (a k),Kw hk,D_,s,WC z68 hs,?_⟩
 have e:=yjm (qa AOC) hk hs;show XN e
theorem yoo(B1 Ye):à yfz:=by
 obtain⟨a,n,m,k,Β,hn,hk,hm,h1,h2⟩:=h;have el:C7 Qr (HH AOC)=n:=DC
 show(AfT<=F8/\ F8<ĺ/\ AfT<=A4J/\ A4J<ĺ)/\yu F8 (I_ (A4J - F8)) _ _ _ _ _;rw[el,Fm (I_ (L5 - F8)=n - k)]
 refine AYp ⟨Υ,Υ,Υ,Υ⟩ (∃y:Ic,Γ= [.pu (pP n m a),Afl,y]/\BV2 (s<k+i)) (SH (fun s hs hs' =>Υ))
 ·rintro i _ hi ⟨y,Β,hz⟩;show HL e0 (F8+ JA=ER (k+i)) Υ A6 (k+i<n) Υ ⟨gW m (a (k+i)),?_,.AN (a (k+i) k),Kw hm,Β,?_⟩
  ·rw[e0];exact Kw A6
  rw[Rp];by_cases ez:a (k+i) k=0
  ·show APD ez;refine SH (AV s hs hs');by_cases es:s=k+i
   ·rw[es];exact ez
   ·exact hz s hs Η
  ·show AJN ez;refine⟨a,n,m,k,k+i,?_,hk,A6,h1 _ Η A6 ez⟩
   rw[e0]
 ·rintro _ ⟨y,Β,hz⟩;exact(h2 fun s hs hs' =>hz s hs Η).YV
theorem yhq(AQY):Lm ABR=q* Lm ABS/\ A4f:=by
 have hd:A4f:=by
  have:=q.den_pos
  exact_mod_cast (Fm (pV ABS))
 have e:AIT ABR ABS=q:=by
  have:=BHe;show DF BGx;exact Τ
 refine AJH hd;rw[NS] at e;have:=AJh (· * ((q.den:Int):Rat));simp only [w4,AJK hd,AMH] at Τ;exact Τ
theorem ye3{μ d:Ω}(hμ:0<μ)(hd:0<d):pV Aeg/\0<Apn/\μ∣Apn/\d∣Apn/\ (Aq9 zh).ABQ<=BCb/\ fE zh<=BCb:=by
 have g0:Aeg≠0:=AZ (NA BKN)
 have gd:zh∣d:=Bk2;have gm:zh∣μ:=Bk1;have e:=Tz gd;obtain⟨u,eu⟩:=gm;have gp:O_< zh:=Υ
 generalize zh=g at*;generalize Aq9 g=t at*;have tp:0<t:=by
  rcases A0t t with h | h
  ·exact h
  ·show APm (BHg (Υ:0<=g))
 refine⟨Υ,Int.mul_pos hμ tp,AQZ,C3 u,?_,?_⟩
 ·rw[eu,<- e];ac_rfl
 ·rw[<- e,ġ];exact Blz _ Η
 ·rw[<- e,ġ];exact Blt _ Η
theorem El{d:Ω}(h:d∣27720):dB d<=15:=zP (BRd (Nat.le_of_dvd Ψ (Int.natAbs_dvd_natAbs.mpr h))) (kY Ψ)
theorem lcm_dvd{μ d n:Ω}(hμ:0<μ)(hd:0<d)(h1:μ∣n)(h2:d∣n):Apn∣n:=by
 have g0:pV Aeg:=AZ (NA (BHk (Υ:Tb μ d=0)))
 have e:=Tz (BGv μ d);have e2:zh* (μ*Aq9 zh)=zh* CB (Int.lcm μ d):=by
  rw[<- Aq7,Int.gcd_mul_lcm,Int.mul_left_comm,e,Aq7,BHX,BHX]
 rw[Int.eq_of_mul_eq_mul_left g0 e2];have:=Int.lcm_dvd (c:=n.natAbs) (Bl0 h1) (Bl0 h2);exact Int.ofNat_dvd_left.mpr Τ
theorem zz8(B1 zdt):à znh:=by
 show AAH m f hm hz;refine ue (∃(μ:Ω) (y:Ic),Γ= [.pu (o9 m f),F6 μ,y]/\0<μ/\μ∣27720/\∀j,j<i ->j<m ->AI_∣μ) ⟨1,_,Β,DB,⟨27720,Β⟩,XA Υ⟩
 ·rintro i d _ hi ⟨μ,y,Β,hμ,bμ,hd⟩;have him:i<m:=î l9
  rw[Y4 him] at hi;show AU5;have dp:O_< (f i).den:=NA (f i).den_pos
  obtain⟨g0,p1,p2,p3,p4,p5⟩:=ye3 hμ dp;have zi:=El BQ4;have b4:=zP (K6 p4) zi;have b5:=zP (K6 p5) zi;have bμ' :=El bμ;refine⟨_,at1,_,at1,μ,(f i).den,Β,⟨g0,Υ⟩,Ak9,_,_,Β,p1,lcm_dvd hμ dp bμ BQ4,AV j hj hjm⟩
  by_cases e:j=i
  ·show tT p3
  ·exact Int.dvd_trans (hd j Η hjm) p2
 ·rintro _ ⟨μ,y,Β,hμ,bμ,hd⟩;have el:C7 (MG m) (E7 (qD (f j)))=m:=DC
  rw[el] at hd;have bμ:=El bμ
  let g:ϣ:=E7 (M_ (j<m) BXi)
  show HL gv (UE m (g j=BXi)) (XA (by show(AN5 (j<m))=_;show DJ hj)) bt (UE m (dB (Acr AI_)<=dB μ)) (XA (by
   refine K6 ?_;have e:=NJ AtJ (Tz BUM);rw[ġ] at e;rw[<- e];exact Blz _ (AVa BIY))) (Y5 (g:=E7 (.AN (g j))) BSH (h μ g hμ (UD j hj) AXv))
  ·have z:=hz j hj;have b:=bt j hj;refine⟨_,at0,_,at1,⟨NA BIY,zP (El z.2) Ψ⟩,ANS (AVa z.1),?_⟩
   show As (P [.AN (AwN*Acr AI_)]);rw[<- gv j hj];exact hP
  ·rw[gv j hj];have e:=Tz BUM;obtain⟨n1,n2⟩:=yhq (f j);have e' :BS μ=AI_* CB (Acr AI_):=Ø ZE
   rw[NR,n1,e']
   grind
  ·by_cases hj:j<m
   ·rw[gv j hj];have:=Fg AwN (Acr AI_);have:=bt j hj;have:=(hz j hj).1;show AA
   ·show As (dB (M_ (j<m) _)<=_);show BD hj;exact AdM _
theorem zxs(AFT) [Abp α]{EB:ACy}{f:Ő}(F:ABX α D)(Good:AUJ α):∀{n s:Δ} {P:T0},(BQV (AKT BU7 i)) ->(∀as:Mm α,(BQV BKC) ->P (Amq s A6w)) ->AU3 (Amq s)
 | 0,s,P,_,h=>h (Da ZN) (A7a Υ)
 | n+1,s,P,k,h=>by
  rw[Bl2];refine k s Η Η _ (Cf a ha)
  refine BVi (fun i h1 h2=>k i Η Η)
  have:=h (qa (sq s a (as i))) (A7a (by
   by_cases e:i=s
   ·subst e;simpa using ha
   ·simp only [APG];exact has i Η Η))
  rw[Bl2,FA,EF] at Τ;have e:Amq (s+1) (qa (F i (DH (i=s) a (as i))))=Amq (s+1) A6w:=wx (RC (by
   have:=List.mem_range'_1.mp hi;show ADL))
  show DF e;exact Τ
theorem z43(AFT) [Abp α]{EB:ACy}{f:Ő}(F:ABX α D)(Good:AUJ α){n:Δ}{P:T0}(k:AEy (AKT BU7 i))(h:∀as:Mm α,(AEy BKC) ->P (Qr A6w)):AU3 Qr:=by
 rw[Bl3];refine BVi (fun i _ h2=>k i Η)
 rw[<- Bl3];exact h as (RC (has i Η Η))
theorem ymy(Aps):BZ2:=by
 have e:BR7:=by
  show Azy;unfold wu;rw[CM Ψ,Ϡ]
  congr 1;show AA
 unfold lB;rw[e];exact Y4 Η
theorem Uk{z:Ω}{e k:Δ}(h:z.natAbs<=(16*2^e)^k):dB z<=(e+4)*k+1:=by
 refine kY (zM h ?_);rw[show LN 16*2^e=2^ (e+4) by rw[Nat.pow_add,BCY],<- Nat.pow_mul]
 exact Nat.pow_lt_pow_right Ψ Η
theorem ztz{f g:bo}(t:AM):N0 m Δ (UE m (f j=t*g j)) (dH m f=t*dH m g)
 | 0,_=>š dH
 | m+1,h=>Aks dH (ztz t fun j hj=>h j Η) (h m Η)
theorem ydk(B1 Yg):P5 zw6 5:=by
 obtain⟨n,A,⟨Β,hn,hz⟩,hE,hP⟩:=h;have s1:=vp;refine APE (lE (AQ1 (o9 n (A i))) (AQ1 (qD (A i n))));rw[z5b];refine z43 (α:=ϣ) (JP g (gW QQ g)) (Ty g ((BRC)/\∃μ:Ω,0<μ/\UE (n+1) (BS (g j)=BS μ*APp))) BSI (UD as has)
 ·refine⟨Β,Β,AIg,?_,n+1,A i,?_,Υ,XA (hz i j hi Η),fun μ g h0 h1 h2=>hP g ⟨h2,μ,h0,h1⟩⟩
  ·show D' (C7 Qr (E7 (qD (A i j)))+1);simp only [C6,wy];show AA
  ·unfold o9;show AO5 AGI;rfl
 change V' zq0 [.pu (Jt n n A),.pu BO2,.pu (pP n QQ as),DO,DO]
 have ba:A9P as (2^143):=fun k hk j=>č (Pu ((has k hk).1 j));have hμ:∃μ:bo,AEy (μ i≠0/\UE (n+1) (BS (as i j)=μ i*APp)):=by
  refine ST (HH (AiH (i<n) (CB ((has i h).2).Ad') 1)) i hi;simp only [ATW hi];have sp:=((has i hi).2).choose_spec;refine AJH (fun j hj=>sp.2 j hj);have:=sp.1;intro z;have:((has i hi).2).Ad'=0:=Ø z
  show AA
 obtain⟨μ,hμ⟩:=hμ;have el:C7 Qr (HH (Aki as))=n:=DC
 show AbB (Avm (Aki as)) (Avm (Aki as));rw[el,da];have mx:∀k,k<=13 ->(143+4)*k+1<=1912:=Ake Υ
 have h1:1<=16*2^143:=Nat.mul_pos Ψ (Nat.pow_pos Ψ)
 refine AJ4 (AJ9 (∃(d:Ω) (tb:Mx) (rs:E6) (fs:AMm) (ix:ac) (y:Ic),Γ= [.pu (Jt n n A),.pu BO2,.pu (pP n QQ tb),F6 d,y]/\BT n as k d tb rs fs ix)) ⟨1,as,_,_,_,_,Β,yd2 n as⟩
 ·rintro k _ hk ⟨d,tb,rs,fs,ix,y,Β,bt⟩;have e0:ACm=ER k:=Υ
  show HL bd (dB d<=1912) (zP (Uk (A3s ba Η)) (mx k Η)) be (A9U 1912) (BhQ Eg) ⟨tb,n,n+1,k,?_,Υ,hk,Υ,Oy s hs hsn hne,Sk hall⟩
  ·rw[e0]
  ·obtain⟨rs',fs',Q7,bt'⟩:=bt.step hs hsn hne;show HL sk (rO k s k=s) (AjT rO) et (pP n QQ (Gk k d (X8 k s tb))=pP n QQ (AGx k s d tb)) (z4c fun i j _ _=>by
    unfold Gk X8 AGx;rw[sk]) ⟨X8 k s tb,n,n+1,k,d,?_,hk,Υ,bt.nz,zP bd Ψ,Awf (zP (be (rO k s i) j ?_) Ψ),?_⟩
   ·rw[e0]
   ·unfold rO;split
    ·exact hsn
    ·show Ö
   ·rw[et];refine⟨gW QQ (BdA k),?_,.AN (AGx k s d tb k k),?_,tb s k,BdA,rs',fs',Q7,AXg,?_,bt'⟩
    ·rw[e0];exact Kw hk
    ·rw[e0];exact Kw Η
    ·have:AGx k s d tb k k=tb s k:=AjT AGx
     rw[Τ];rfl
  ·show GA x x1 hx bt.stuck hk hall;refine hE x k hk x1 A2a;have q:=hx r hr;rw[Bdm (E7 (A r j*x j)) (by
    show BS (as r j)*x j=_;rw[A4G j Η];grind)] at q
   rcases ATo q with q | q
   ·show L2 q BJ'
   ·exact q
 ·rintro _ ⟨d,tb,rs,fs,ix,y,Β,bt⟩;have d0:Ali:=AZ (AjW bt.nz)
  have bd:dB d<=1912:=zP (Uk (A3s ba Η)) (mx n Η)
  have be:A9U 1912:=BhQ QQ
  show E2 bd' (dB d<=147*n+1) (Uk (A3s ba Η)) be' (A9U (LQ n)) (Awf (Uk (bt.small (N:=16) ba Η h1 hi j))) ex (AEy (fs i n=BS (tb i n)/ BS d)) (RC (by
   rw[bt.t i hi n,NS,ATp,<- w4,AJK d0,BDI])) hs (Slv n A (HH (fs i n))) (mB (by
   have q:=bt.sol hr n;have q' :BS (as r n)=dH n (ň (BS (as r c)*fs c n)):=q;rw[Bdm (E7 (A r j*fs j n)) (å (A4G j Η)),A4G n Η] at q'
   have m0:=BJ';have:=NJ (Ev ((μ r)⁻¹*z)) q';simp only [<- w4,AJK m0,BDI] at Τ;exact Τ))
  show ADf (cG _ (Ke 0 (AQ1 (Aki tb))) _) yfv (Y5 (g:=HH (qD (fs i n))) (bc i hi) (hP _ hs ⟨d,bt.nz,zP bd' Ayq,RC ⟨tb i n,ex i hi,be' i n hi⟩⟩))
  refine⟨Β,Β,.AN (tb i n),ymy,.AN (tb i i),Kw Η,tb i n,tb i i,Β,zP (be i n hi) Ψ,zP (be i i hi) Ψ,?_⟩
  rw[bt.diag hi hi,CM bt.nz,<- ex i hi];exact hp
theorem yet(BU Rg):MT:=cc
theorem zr6(BU Yk):MT:=cc
theorem Rr(AYe):í (fW (.AS a) (.AS b)) (a=b):=by
 rw[Adw];simp [fW]
theorem yd3(A'i):(E3 qD).flatMap (ũ (AvI (AJd a b) (GT (!(Φ (ABR*b<a*ABS))) [d] []) []))=B7 ABT BW4 qD:=by
 induction l with
 | DL=>rfl
 | AY x l ih=>
  rw[FA,BFd,ih,OV,ybp q x];show(DH ((!(Φ (ABR* CB x.den<x.num* CB ABS)))=Μ) [qD x] [])++_=_;split<;>simp
theorem yb4(B1 Rg):XU zwj:=by
 show ApG;refine AYp K2 (BjG (Γ= Bi9/\l=BOq qb []/\l.Perm (AR1 i))) ⟨[],_,_,Β,Β,DC⟩
 ·rintro i d _ hi ⟨l,x,y,Β,hl',hp⟩;rw[GN] at hi;cases q:qs[i]? with
  | Ι=>show Aqa
  | Ε a=>
   rw[q] at hi;show AE hi hi hi hi hi hi hi hi hi hi hi hi hi hi;show E2 hil (i<Fs) (QP q) llen (D9=i) BQh lz BQx Bd2 az (SD a) (hz a (zA q));refine zp4 (ũ (AvI (AJd u v) (GT (!(Φ (Ĩ*v<u*VX))) [d] []) [])) ?_ ?_
   ·intro x hx P hP;show kC o ho hx;refine⟨a,o,Β,az,lz o ho,?_⟩;show As (AYv a o);rw[ybp];have hP' :P (GT (!(Φ (Ĩ* CB o.den<o.num* CB VX))) [qD o] []):=hP;split
    ·rename_i hc;show Q2 (Ch hc) hP' hP'
    ·rename_i hc;show Q2 (CM hc) hP' hP'
   ·rw[yd3];refine C9 VV D_;show Nw;have hc:=yli a l;refine⟨Υ,by show Nw;exact_mod_cast hc,Al7 vp,qb l a,AhQ,F6 (cnt a l),?_,?_,?_⟩
    ·unfold Lf qb;rw[da,OT,FA,ArB,Acu]
     rfl
    ·rw[AL0,q,Bl4,<- hl'];rfl
    ·rw[AL0,q];show Be9
 ·rintro _ ⟨l,x,y,Β,hl',hp⟩;have e:l=jO qs:=BXl
  subst e;exact h
theorem zrj(B1 Yk):AJZ zh2:=by
 show AJk r h;refine AXf
 rw[Rr];refine AEI (r=m5);split
 ·rename_i e;show ό AEQ;exact h
 ·rename_i e;show l6 AEQ;exact h
theorem zy9(l:A2){a b:Δ}(h1:a<=b)(h2:AiE b):A3w AiR AiS=B7 (ATk a).ie (b - a) qD:=by
 show AKP;simp only [C6,ArB,Acu];have e1:(BT6 AiR AiR AiR)=a:=Aya
 have e2:(BT6 AiS AiS AiS)=b:=Aya
 rw[e1,e2]
theorem z1h{l:A2}{a:Δ}(h:a<D9):(ATk a).ie 1= [OW a 0]:=by
 rw[Ax0,Mb,lT];rfl
theorem zu9{l:A2}{a:Δ}(h:Alz a):(ATk a).ie 2= [OW a 0,ACs (a+1)]:=by
 show Axe Ay4 BG1 (z1h h) Mb (AFz (Fm (a<D9)));rfl
theorem ydb(B1 Yh):AJZ zv6:=by
 show AZI l h1;refine C9 BNQ BNQ
 have e1:(ϻ - 1).ĩ 2=ER APl:=by
  show yT BLH;show AHZ
 have e2:(ϻ).ĩ 2+1=ER (kH+1):=by
  show yT BLH;show AHZ
 show As (AYO (A3p (Ε ((ϻ - 1).ĩ 2)) ((ϻ).ĩ 2+1)));rw[e1,e2,zy9 l AW_ AW_]
 have A9:(ATk (APl)).ie (kH+1 - APl)=ce l:=by
  unfold ce;by_cases ho:A6U=1
  ·rw[Ch ho,AXV (APl=kH),AXV (kH+1 - kH=1),z1h (by show AHZ)]
  ·rw[CM ho,AXV (kH+1 - APl=2),zu9 (by show AHZ),AXV (APl=kH - 1),AXV (kH - 1+1=kH)]
 show XN A9
theorem yjf(B1 Rh):AJZ z2f:=by
 show AAH a b ha hb;exact⟨_,at1,_,at0,b,a,Β,hb.up Ψ,ha.up Ψ,h⟩
theorem Ul{l:A2}{i:Δ}(h:i<D9):OW i 0∈l:=by
 show ϗ lT;exact yZ h
theorem z66(B1 Yi):XU zss:=by
 obtain⟨l,Β,h2,hl,hz,h⟩:=h;have abH:BRN= [qD (OW 0 0),qD (OW 1 0)]:=by
  have:=zy9 l (a:=0) (b:=2) Η h2
  have e:BRN=A3w APR (ER 2):=by
   show AKP;simp
  rw[e,Τ];show B7 (ATk 0).ie 2 qD=_;rw[zu9 Η];rfl
 show As (V' zng [eI E3,J_ (A3p Ι 2),DO,DO]);rw[abH];have hn:ϻ=AVx:=by show Nw
 refine AYp (ϊ hn) (∃(b:Δ) (x y:Ic),Γ= BMM x y/\b<=i/\ (BTN (j<=i))/\BQ8 (j<=i)) ⟨0,_,_,Β,NF,XA (by show HA (j=0) Η;exact ARu),fun j hj hb=>Υ⟩
 ·rintro i _ hi ⟨b,x,y,Β,hb,hle,hgt⟩;have hi' :i+2<D9:=by rw[hn] at hi;show AA
  show As (zhy K c _ (BMM (ANU JA) (J_ (A3p (Dx (1+ JA)) (1+ JA+2)))) Th);have ec:A3w (1+ JA) (1+ JA+2)= [qD (OW DI 0),qD (OW (EL+1) 0)]:=by
   rw[Fm ((1+ JA)=Ai2),Fm ((Ai2+2)=ER (i+3)),zy9 l Η Η,Fm (i+3 - DI=2),zu9 Η];rfl
  rw[ec];have z:BWZ:=BWe;show PY ⟨_,_,Β,z b Η,z (b+1) Η,_,_,Β,z DI Η,z (i+2) Η,_,_,Β,BAY (b+1) b,BAY (i+2) DI,?_⟩ (AYv AgS (wd l DI));by_cases hw:AgS<wd l DI
  ·show BD ſ
   refine⟨b,_,_,Β,Υ,Aaf,AV j hj hbj⟩
   ·by_cases e:j=EL
    ·subst e;exact AeP hw
    ·exact hle j Η
   ·by_cases e:j=EL
    ·show tT hw
    ·exact hgt j Η hbj
  ·show DJ ſ
   refine⟨EL,_,_,Β,Υ,Aaf,fun j hj hbj=>Υ⟩
   have hw' :=BpP hw;by_cases e:j=EL
   ·show tT ARu
   ·exact AtL hw' (hle j Η)
 ·rintro _ ⟨b,x,y,Β,hb,hle,hgt⟩;have e:I_ (ϻ - 1 - 1)=D9 - 2:=ϊ hn
  rw[e] at hb hle hgt;exact h b ⟨Υ,fun j hj=>hle j Η,fun j hj hbj=>hgt j Η hbj⟩
theorem yls(B1 Yj):Sm z47:=by
 obtain⟨l,g,Β,h2,hl,hz,hg,h⟩:=h;refine AXf
 rw[Rp];have hn:ϻ=AVx:=by show Nw
 have z:BWZ:=BWe;show As (yb (ϻ=2));rw[hn];by_cases h22:D9=2
 ·show DJ UT
  have e2:E3 qD= [qD (OW 0 0),qD (OW 1 0)]:=by
   match l,h22 with
   | qB,_=>rfl
  show PY ⟨ACs 0,ACs 1,NE e2,z 0 Η,z 1 Η,g,_,Β,hg,BAY 1 0,?_⟩ (yb (g<wd l 0));by_cases hw:g<wd l 0
  ·show ό ⟨h22,hw⟩;show DJ ſ
   exact⟨DB,h⟩
  ·show l6 (Ev (hw z.2));show BD ſ
   exact⟨l,Β,h2,hl,hz,h⟩
 ·show l6 (Ev (h22 z.1));show BD UT
  exact⟨l,Β,h2,hl,hz,h⟩
theorem xM{l:A2}:fJ (ce l)/ pM ce l=Q5 l:=by
 unfold ce Q5;split
 ·show AX4 (_+0) 1=_;rw[AGA];have:BS (ER 1)=1:=Β;rw[Τ];grind
 ·show AX4 A1y 2=_;rw[AGA];rfl
theorem ygx{l:A2}(h:∀q∈l,AOb)(hl:D9<=2)(k:Δ):AvM ATj:=by
 refine(yf4 (m:=1900) (kg (h q (AK3 hq)))).up ?_;have:C7 ATj k<=2:=zP (List.length_take_le' _ _) hl;have:=ATh 1902 Τ;show AA
theorem sM:T7≠vg:=DB
theorem sP:m5≠vg:=DB
theorem sP2:m5≠T7:=DB
theorem ybv(BU Yl):FS:=H_
theorem z4h(BU Ym):MT:=cc
theorem z6y(BU Yn):Þ:=hV
theorem yj7(BU Ri):MT:=cc
theorem zro(BU Yo):FS:=H_
theorem Um(f:Κ)(d:D):mY [f] [d] f=Ε d:=AjT mY
theorem zxt(xs:AQ){k:Δ}(h:BIN):Rs xs (Dx F8) Ι=Acs k:=by
 have e1:(DH (F8<0) (I_ (F8+ CB BN)) (min (I_ F8) BN))=k:=Aya
 show AKP;simp only;rw[e1,Bnk A7]
theorem z04{ps:GB}(h:AJ8)(hl:AlL):xJ ps=Μ:=by
 unfold xJ;rw[BHD,Bl7];clear hl;induction ps with
 | DL=>rfl
 | AY a t ih=>
  cases t with
  | DL=>rfl
  | AY b t=>
   obtain⟨⟨h1,h2⟩,h3⟩:=h;show(Kh a b::AL4 Kh (b::t) t).all id=Μ;rw[ASy];have hc:Kh a b=Μ:=by
    unfold Kh;have:¬b.2<a.2:=Q_
    simp [h1,Τ]
   have h4:=ih h3;have h5:(AL4 Kh (b::t) t).all id=Μ:=h4;rw[h5];simp [hc]
theorem yco(B1 Yl):Sm zw7:=by
 show AAH a b za zb;refine⟨_,at0,_,at0,a.1,b.1,Β,za.1,zb.1,?_⟩;show De Kh;cases e:Φ (a.1<b.1) with
 | AG=>show Ajp
 | Μ=>
  rw[e] at h;exact⟨_,at1,_,at1,b.2,a.2,Β,zb.2,za.2,h⟩
theorem zxr{EB:ACy}(g:Pt ->Pt ->D):∀{as bs:GB} {P:T0},(AMp (On bs (∀P,P [g a b] ->EB (Kb [pD a,pD b]) P))) ->P BKx ->cG EB (lE (as.map pD) (ABL pD)) P
 | [],_,_,_,h=>h
 | EH,[],_,_,h=>h
 | a::as,b::bs,P,k,h=>k a zY b zY _ (zxr g (fun x hx y hy=>k x Ayx y (zX _ hy)) h)
theorem z2y(g:Pt ->Pt ->AU):∀(as bs:GB),uf BSR=Ε BKx
 | [],_=>Β
 | EH,[]=>Β
 | a::as,b::bs=>A3l uf BSR (z2y g as bs)
theorem z35(B1 Ym):AJZ zq8:=by
 show AZI ps hz;show De xJ;show(sR (D.bl (TC (km< pM TZ pD))) ANl _ APa _)
 show AXt;by_cases hl:AlL
 ·show APD (Υ:km< BlE)
  rw[BHD,Bl7] at h;refine APE (lE (TZ pD) (Ahy ŗ));have e1:Bfx:=r6 Acu (zxt (TZ pD) (k:=1)) BHN
  rw[e1];refine zxr (xh b (D.bl (Kh a b))) (fun a ha b hb P hp=>⟨Β,Β,a,b,Β,hz a ha,hz b (List.mem_of_mem_drop hb),hp⟩) (XT (z2y Kh _ _));show XN Bl8
 ·show AJN (Υ:¬km< BlE)
  rw[vc hl] at h;exact h
theorem yjt(BdY Ri):zfq K c (ANd (ACp (ze3 K c Γ BVT Th)) j') (aF 2 AWN) Th:=by
 show AZI ps hz;refine⟨ps,Β,hz,?_⟩;cases e:xJ ps with
 | Μ=>
  rw[e,EF] at h;exact Hb h
 | AG=>
  rw[e,gN] at h;exact ě
theorem yam(B1 Yn):XU zse:=by
 obtain⟨l,r,x,Β,zl,zr,zx,A6,h⟩:=h;have s1:=LC zx zl.1;have s2:=LC zr.2 zl.2;have s3:=LC zr.1 zl.1;have s4:=yff s1 s2;have hn:AZ9≠0:=Q_
 show BE ⟨_,at0,x,l.1,Β,AzP,kD zl.1,_,at1,_,at1,r.2,l.2,Β,kD zr.2,kD zl.2,x - l.1,r.2 - l.2,Β,s1.up Ψ,s2.up Ψ,?_⟩ ⟨_,at1,_,at0,_,at0,CU,l.1,Β,kD zr.1,kD zl.1,(x - l.1)* Ang,AZ9,Β,s4.up Ψ,s3.up Ψ,?_⟩
 show BD hn;exact⟨l.2,(x - l.1)* Ang/ AZP,Β,kD zl.2,(z8c s4 s3 hn).up Ψ,h⟩
theorem yaj:∀{ps:GB} (i:Δ),AJ8 ->Gd (AAl i)
 | [],i,_=>by rw[List.drop_nil];trivial
 | ps,0,h=>h
 | a::t,EL,h=>by
  rw[BpO];refine yaj i ?_;cases t with
  | DL=>trivial
  | AY b t=>exact h.2
theorem z12{ps:GB}{i:Δ}(h:AlM):AAl i=UR::AYQ::AAl (i+2):=KE Ay4 Ax0
theorem yn7{ps:GB}{i:Δ}(h:AlM)(hg:AJ8):UR.1<AZA/\UR.2<=AYQ.2:=by
 have:=yaj i hg;show DF (z12 h);exact Τ.1
theorem z7c{ps:GB}{i:Δ}{x:AM}(h:AlM):yG (AAl i) x=if x<AZA then Am UR AYQ x else yG (AAl DI) x:=yB (z12 h) Ax0
theorem zqb:∀{ps:GB} (h:Ay5),Ed ps=ps[AjZ]
 | [p],_=>Β
 | a::b::t,_=>by
  show C8 (Ed (b::t)=_);rw[zqb (ps:=b::t) A7]
  simp
theorem yic(ps:GB)(h:Ay5):ka TZ pD IO (pD (Ed ps)):=by
 unfold lB;have e:wu BNo IO=Ε (OP - 1):=by
  unfold wu;show ANh AEO Ϡ
  congr 1;show AA
 rw[e];show ŗ[AjZ]?=_;rw[GN,AXx,zqb h]
 rfl
theorem ym7{ps:GB}{i:Δ}(h:i<OP):ka TZ pD JA (pD UR):=jP (Akp lT)
theorem zr7(B1 Yo):XU zhv:=by
 obtain⟨ps,x,Β,hl,hg,hz,zx,h⟩:=h;show HL z4 (∀{i:Δ} (hi:i<OP),Kv 300 UR) (fun hi=>hz _ (yZ hi)) h0 Ay5 Υ ⟨Β,_,AV2,_,ym7 h0,_,at0,ps[0].1,x,Β,kD (z4 h0).1,AzP,?_⟩
 have hd:ps=ps[0]::AAl 1:=ABx (ALy (l:=ps) (i:=0) h0) ArG
 show As (AYv ps[0].1 x);by_cases hx:ps[0].1<x
 ·show BD AXT
  have eW:BUC:=z0y hg (s0 (by
   rw[hd] at hp;show AE hp hp hp hp hp hp hp hp hp hp hp hp hp hp;exact AeP hx))
  refine⟨Β,_,AV2,Β,_,AV2,?_⟩;have e1:Bfx:=r6 Acu (zxt (TZ pD) (k:=1)) BHN
  refine Ai_
  ·rintro⟨e,_⟩;have:TM BNo 0 (Ε 1)=1:=by
    unfold TM;show Nw;simp only;show l4
    have:I_ km=1:=Β;show AA
   rw[Τ] at e;show DM
  rw[e1];have zl:(lE ŗ (B7 AAl 1 pD)).VM=AjZ:=by
   unfold lE;rw[Ad2,C6,C6,AdT];show AA
  refine ue (∃(u v:Ic),Γ= [BYC,AHs x,u,v]/\yG (AAl i) x=yG ps x) (ϯ (NE ArG))
  ·rintro i d _ hi ⟨u,v,Β,hw⟩;have hil:AlM:=by
    have:=l9;show DF zl;show AA
   have hi2:Ε d=Ε (Kb [pD UR,pD AYQ]):=by
    rw[<- hi];unfold lE;rw[BFv,GN,GN,List.getElem?_drop,AXx,BDL 1 i,ABf hil]
    rfl
   show AE hi2 hi2 hi2 hi2 hi2 hi2 hi2 hi2 hi2 hi2 hi2 hi2 hi2 hi2;refine⟨Β,Β,_,at0,x,AZA,Β,AzP,kD (z4 hil).1,?_⟩
   rw[z7c hil] at hw;refine AEI (x<AZA);by_cases hxr:x<AZA
   ·show DJ (CC hxr)
    rw[Ch hxr] at hw;refine⟨UR,AYQ,x,Β,z4 Η,z4 hil,zx,(yn7 hil hg).1,?_⟩
    rw[hw,eW];exact h
   ·show BD (CC hxr)
    show Q2 (CM hxr) hw (ϯ hw)
  ·rintro _ ⟨u,v,Β,hw⟩;rw[zl,Ay4,List.drop_of_length_le Η] at hw
   refine BfH (yic ps h0);rw[zqb h0];have:ps[AjZ].2=yG ps x:=hw;rw[<- eW,<- Τ] at h;exact h
 ·show DJ AXT
  refine BfH (ym7 h0);have:uH ps x=ps[0].2:=by
   generalize ps[0]=p0 at*;rw[hd] at hg⊢;exact ydq hg hx
  rw[Τ] at h;exact h
theorem Rt(XZ):BPq mH:=Ϫ mH we QZ
theorem zz5{qs:A2}{q:AM}(h:q∈mH qs):q∈qs:=Amo (BpT h)
theorem Ru(BUn):OW i d=l[i]:=CY h
theorem Q9(BUn):OW i d∈l:=by rw[Ru h];exact yZ h
theorem z20(XZ):Fall (mH qs):=by
 intro i j hij hj;have hi:i< C7 mH qs:=by show AHZ
 rw[Ru hj,Ru hi];unfold mH at*;rw[ArH,ArH];by_cases e:i=j
 ·show tT ARu
 ·show Q2 we hj (Ad3 (z0h qs) _ _ AW_ AW_ AW_)
theorem zpv(Ao6)(f:Aji):ADn (l.flatMap (AHk [f x])=E3 f)
 | []=>Β
 | ϫ=>yB BFd zpv
theorem z2w{α:CH}(f:ů):ADn (uf BLr=Ε Ajs)
 | []=>Β
 | ϫ=>A3l uf BLr z2w
theorem Y6(l:A2){j:Δ}(h:Ayh):ka E3 qD Ì (qD (OW j 0)):=jP (AwQ lT (Ru h))
theorem z86(f:A2):(fU f).dL (C7 fU f - 1) 0=Uf/\0< C7 fU f:=by
 refine AJH (by unfold fU;simp)
 cases hn:Uf with
 | Re=>unfold fU;rw[hn];rfl
 | Rl n=>
  have e:fU f=(0::((List.range n).filter (jA f)).map (· +1))++ [n+1]:=by
   unfold fU;rw[hn,AGI,AK5,OV,Ch (by unfold jA;simp [hn])]
   simp
  show Axe e P1 AdX Nat.add_sub_cancel Bjt;simp
theorem zzt(BU T8):FS:=H_
theorem z5u(BU Yp):Þ:=hV
theorem yjc(BU Rj):FS:=H_
theorem yce(BU T9):MT:=cc
theorem ztl(BU Yq):FS:=H_
theorem ymr(BU Yr):MT:=cc
theorem zrf(BU Ys):FS:=hV
theorem zqq(BU Yt):FS:=hV
theorem yl2(BU Yu):FS:=H_
theorem Mg{α:CH}{EB:ACy}(f:ADj)(p:ů):Ah_ (AKT (DH AI8 (P [f a]) si) a) A6m f
 | [],_,_,h=>h
 | FC,P,k,h=>by
  refine k a zY _ ?_;by_cases q:AI8
  ·show DJ q;rw[OV,Kk] at h;exact Mg f p AHT h
  ·show BD q;rw[OV,OA] at h;exact Mg f p AHT h
theorem Ky(BkW)(f g:ADj):Ah_ (AKT Aj7 a) E3 g
 | [],_,_,h=>h
 | FC,P,k,h=>BAg Ky
theorem zy3(B1 T8):Sm znb:=by
 show eQ x b Β h;refine AEo;show As (AT2 TC (AZY) (∃d,r_ [E_ b.1,.AN b.2] 1 d/\_) _);by_cases q:AZY
 ·show DJ (CC q)
  refine AEo;have e:í (rM b x) (x<=b.2):=BN6
  show Ajp
 ·show BD (CC q)
  have e:rM b x=AG:=BN6
  show Ajp
theorem ymf(BUI f):(E3 f).any id=l.any f:=BHq
theorem z5c(B1 Yp):à zs0:=by
 obtain⟨S,l,b,Β,h⟩:=h;refine Mg E_ (AIr BL5) (bc e he) h;show APH (Ky E_ (B6 s (.bl (rM b (e - s)))) (fun s hs P' hp' =>(Lu (e - s) b hp')) ?_) (C9 (E3 fun s=>rM b (e - s)) (z2w _ l)) ymf (?_:GT (l.any fun s=>rM b (e - s)) (P [.AN e]) si);show Aoo
theorem Mh(Aps):BZ2:=by
 unfold lB;have e:BR7:=by
  unfold wu;show AW6 wy AEO Ϡ
  congr 1
  show AA
 rw[e];show(ANk f)[n]?=_;show Aum (BDM Η);rfl
theorem ykn(B1 Rj):XU z1q:=by
 show GG S bs hl h h;have s1:=vp;refine C9 AIg AIg
 refine ue (∃x,Γ= [Ahm,AWl,.ow (Z3 DI j (lH (rk S bs j))),x]) D_
 ·rintro i d _ hi ⟨x,Β⟩;have hi' :i<Id:=ϑ l9
  show Aam eb (Ħ i af=bs[i]) (CY hi')
  show BE ⟨D_,D_,_,Mh,S,A9v,bs[i],Β,?_⟩ (C9 BJY (.pu (vh bs[i])))
  rw[Azs EL,OT,<- eb]
  rfl
 ·show AiI x;show XN C6
theorem zv3{α:CH}{EB:Ĭ D (oq D)}(f:ADj)(g:α ->AQ):jp l CO P Aih (AUK (∀P:Aih,Aj7 ->EB (f a) P)) (P (E3 g)) (uZ EB (E3 f) P)
 | [],_,_,h=>h
 | FC,P,k,h=>BAg zv3
theorem ycb(BdY T9):zfb K c (aF 2 AWN) BQz Th:=by
 show AJk ls h;refine(?_:uZ _ (AAc lH) _);refine zv3 lH (B6 l (E3 E_)) (fun l hl P hp=>hp) Ϥ;show XN IG
theorem zto(B1 Yq):Sm zi6:=by
 show AAH m qs hm hz;refine AEd Mg qD (AHk (!(Φ (x<m)))) x hx ⟨x,m,Β,hz x hx,hm,?_⟩
 ·show As (GT (!(Φ (x<m))) (P [qD x]) si);show Aoo
 ·show As (AWL (LN (C7 (B7 qs.filter _) qD)));show XN C6
theorem z5z{x:AM}{xs:A2}(h:Fall (L8)):Fall xs/\Azr (A1e<=x):=
 ⟨AaN (î (h DI AJM Η APO)),XA (î (h 0 AJM Η APO))⟩
theorem z2h{m:AM}:N0 xs A2 (Azr (A1e<m)) (iG xs m=0)
 | [],_=>Β
 | L8,h=>by
  unfold iG;have h0:=h 0 A7
  rw[OV,CM (CC h0)]
  exact z2h (XA (î (h AJM APO)))
theorem Uo{m:AM}:N0 f A2 (Fall f) (UE Uf (m<=x_ j↔j<iG f m))
 | [],_,j,hj=>AMi hj
 | L8,hf,j,hj=>by
  show D1 h1 h2 z5z hf;by_cases q:m<=x
  ·have e:iG AZu m=iG xs m+1:=AY8 iG OV (Ch BNL)
   rw[e]
   match j,hj with
   | 0,_=>simpa using q
   | j+1,hj=>
    have:=APf m h1 j APO
    rw[Bl_,Τ];show AA
  ·have lt:Azr (A1e<m):=XA (BDN (AZ (q (AtL z (h2 j hj)))));have e:iG AZu m=0:=by
    unfold iG;rw[OV,CM BNL]
    exact z2h lt
   rw[e]
   match j,hj with
   | 0,_=>simpa using q
   | j+1,hj=>
    have:=lt j APO
    rw[Bl_];constructor
    ·intro z;exact AzQ Τ z
    ·intro z;show AA
theorem z8j(f:A2)(m:AM):iG f m<=Uf:=JO Aiv
theorem z2e{a b:A2}(h:a.Perm b)(m:AM):iG a m=iG b m:=JO (h.filter _).AeA
theorem zog(XZ):(mH qs).TU qs:=XI Bl' _ (Od qs)
theorem yb3{f:A2}(hf:Fall f)(e:Δ):e∈fU f↔e=0\/∃m∈f,e=iG f m:=by
 unfold fU;rw[û];refine or_congr_right ?_;rw[X9];constructor
 ·show AO_ k hk;show Am' hk;have hk:=R_ h1;refine C9 AJu (Q9 hk);have a:=(APf AJu hf k hk).mp ARu;have le:=z8j f (AKt k 0);unfold jA at h2;simp only [BDO,AGn] at h2;rcases h2 with h2 | h2
  ·show w_
  ·by_cases q:k+1<Uf
   ·have:¬k+1<iG f (AKt k 0):=AZ (Rat.not_le.mpr h2 ((APf AJu hf Eg q).mpr z));show AA
   ·show w_
 ·show AO_ m hm;show AEr i hi hm;have hi' :=(APf f[i] hf i hi).mp (by rw[Ru hi];exact ARu)
  have le:=z8j f f[i];refine⟨Alk - 1,Acx (C3 (BmE Η)),Υ⟩
  unfold jA;show Avz BDO;by_cases q:iG f f[i]=Uf
  ·left;show AA
  ·right;rw[Fm (Alk - 1+1=Alk)]
   have a:¬f[i]<=AKt (iG f f[i]) 0:=AZ (É ((APf f[i] hf (iG f f[i]) Η).mp z))
   have b:=(APf f[i] hf (Alk - 1) Η).mpr Η
   exact BDN (AZ (a (AtL b z)))
theorem xO{qs:A2}{i:Ω}:i∈AP6↔i∈A'f:=by
 unfold cM;rw[X9,û,X9];have A9:=yb3 (z20 qs);constructor
 ·show AO_ e he;rcases(A9 e).mp he with Β | ⟨m,hm,Β⟩
  ·left;rfl
  ·right;exact⟨m,zz5 hm,aS (z2e (zog qs))⟩
 ·rintro(Β | ⟨m,hm,Β⟩)
  ·exact⟨0,(A9 0).mpr WN,Β⟩
  ·exact⟨iG qs m,(A9 _).mpr (FM ⟨m,(zog qs).mem_iff.mpr hm,(z2e (zog qs) m).cq⟩),Β⟩
theorem z94(XZ):(cM qs).Asb (· < ·):=by
 unfold cM fU;show AiD AL7 IG;refine C3 A6n
 ·show AJE k (ZH hi);exact BmA (Acp k)
 ·show Axh;refine(List.Pairwise.filter _ (Ass)).imp fun{a b} h=> ?_;exact BmA Η
theorem zig:∀l:Bz,mX Aza=Ε l
 | []=>Β
 | n::l=>A3l mX Aza zig
theorem yng(B1 Yr):AJZ z9y:=by
 show ApG;have s1:=vp;refine Ayj
 show ż (AEd Ky qD (B6 m (.AN (iG qs m))) m hm ⟨m,qs,Β,hz m hm,hz,hp⟩) (C3 (by show C8 (D' (1+ C7 ý (fun m=>E_ (iG qs m))));show Nw;show AA)) ⟨A'f,?_,?_,AV ms hp hm⟩
 ·have:=zig (A'f);show kl FA IG;exact Τ
 ·show AvG C6;show AA
 ·show HA (ms=cM qs) (z6e hp (z94 qs) (HH (kT hm i xO.symm)));exact h
theorem yfh(bs:F9):A8'=bs.reverse.map vh:=NE BDP
theorem z8r(Aps):(ANk f).AR2=ANk (HH (f (n - i))):=by
 show k9
 ·simp
 ·show AFs;rw[ArH];simp
theorem Y7(xs:AQ):Rs xs AUj Ι=Acs 1:=by
 show AKP;dsimp only;show l4
 cases xs with
 | DL=>rfl
 | AY x xs=>
  rw[AV4 (min (AR7 1) (Tx AZu)=1)]
  simp
theorem z1y(Aps):(ANk f).drop 1=Qr (HH (f (EL))):=by
 rw[AsY,FA,Bl8,List.tail_cons,IG]
 rfl
theorem zrt(B1 Ys):XU zg6:=by
 obtain⟨S,n,bs,Β,hl,hn,h⟩:=h;refine APE (S.map E_).AR2;rw[<- BDP];refine AEd Ky E_ (AIr (.AN AQM)) e he (D4 hn hp);have eb:(BpS fun e=>E_ (n - e))=(jy S n).map ay:=AZz jy
 rw[eb];refine(?_:Rj c [lH (jy S n),.By A8'] (ũ (V' zfz [Ahm,AWl,.pu (lH (jy S n)),.pu d])) Ex);rw[yfh];refine⟨jy S n,oS,Β,BHC hl,?_⟩
 rw[we];refine(?_:AYO (Ahy BPl));rw[Y7,z8r,z1y];exact h
theorem yl5{n:Δ}(f g:Ő):BgR:=by
 unfold lE;show k9
 ·simp
 ·show AFs;simp
theorem ygk(bs:F9):ABL vh=ADe (N_ Ah9):=by
 show k9
 ·simp
 ·show AFs;show BjU h1;simp [h1]
theorem yf0:∀l:Bz,jf (E3 E_)
 | []=>CY jf
 | i::l=>CD FA ⟨CY ou,yf0 l⟩
theorem ykv(x:Ω)(l:Bz):inD (II x) (E3 ay)=l.contains x:=by
 unfold inD;rw[Bl9,<- List.any_beq']
 congr 1
theorem yii(l:Bz):(E3 E_).all Hr=Μ:=Â BFK Bnf AJj
theorem zpp(B1 Yt):P5 zgx 6:=by
 obtain⟨S,n,bs,Β,hl,hn,nS,hg,h⟩:=h;have s1:=vp;refine Ayj
 show BE ⟨S,n,bs,Β,hl,hn,?_⟩ (?_:ApD (lE (ABL vh) BcO));rw[ygk,yl5];refine⟨AJ9 (BSW (ANE Eg (fk S n bs j))),AKc,?_,?_⟩
 ·rintro k d _ hk ⟨x,y,z,Β⟩;have hk' :Ay0:=by
   have:=QP hk
   rwa [C6,wy] at Τ
  show AM5 (Bkp hk') hk;show AE hk hk hk hk hk hk hk hk hk hk hk hk hk hk;refine AQF;refine AEd Mg E_ (AIr (A_H A0M)) e he ⟨_,Mh,e - AH_,BN_,Β,?_⟩
  ·show As (Bks (BRq A0M) si);show Aoo
  refine C9 (yf0 _) D_;refine AEd Mg E_ (AIr Bdl) e he (A9K hn)
  ·show As (Bks (inD (II AQM) ((rk AOB oS AIP).map .AN)=Μ) si);rw[ykv];show Aoo
  show EU m1 m2 z9v nS hg hk';have mm:BcB ((BG3 (al (A_H A0M))).iF fun e=>Bdl):=al (by
   rw[u8,u8,oF,AtM,zzl,and_assoc])
  refine⟨_,ANz,zig _,A8t,BWX,BJY,?_⟩
  show∃x y z,_= [BS3,AWl,.ow (Z3 (k+1+1) j (E_ (fk S n bs j))),x,y,z];show AO5 (Azs (k+1));exact AKc
 ·show AiJ x y z;show Azy;refine(?_:AYO (Ahy (AV3 _)));rw[Y7,z1y];have e:ADe (qa (A'L DI))=B7 ADe AzY ay:=AEq
  show XN e
theorem Y8(XZ):O_∈AP6:=xO.mpr zY
theorem Ur(XZ):Last (cM qs) Fs/\ AJJ∈AP6:=by
 show Ϙ e1 (z86 (mH qs));rw[Rt] at e1;have A6:Anm - 1< Anm:=Υ
 rw[Ru A6] at e1;refine Ai_
 ·unfold Last lB cM;have e:wu (C7 (B7 (B7 fU ACJ) BCh) E_) IO=Ε (Anm - 1):=by
   unfold wu;show AW6 C6 AEO Ϡ
   congr 1
   show AA
  rw[e];show(B7 (B7 fU ACJ) BCh E_)[Anm - 1]?=_;rw[GN,GN,ABf A6,e1]
  rfl
 ·unfold cM;rw[X9];exact XL Fs (kF e1 yZ A6)
theorem ya9(Am4):(rk ACS bs Id).ĕ AJJ=gY qs bs:=by
 unfold gY;have:=z4p (bs:=bs) (Y8 qs) A6N;rw[Adw,AtM,AtM];exact Τ
theorem ynr(B1 Yu):XU z7z:=by
 obtain⟨qs,bs,Β,hl,hz,hb,h1,h2⟩:=h;refine⟨qs,Β,hl,hz,AP6,bs,Β,hb,?_⟩;show∃d,ka AV3 (HH (lH (rk ACS bs i))) IO d/\_;refine A9K Mh;show As (Aeq (! inD (II BIW) ((rk ACS bs Id).map ay)));show ANh ykv ya9;by_cases g:AZa bs
 ·show BD (AJg g)
  show D1 k1 k2 Ur qs;exact⟨AP6,Fs,bs,Β,hb,k1,k2,BmB g,h1 g⟩
 ·have g' :BQ':=Cc g
  show DJ (UU g')
  exact⟨AIg,yI qs bs,AZz yI,h2 g'⟩
theorem ylw{b:Bd}{x:Ω}{R:Ax9}(h:R (rM b x)):AT2 TC (AZY) (R (TC (x<=b.2))) (R AG):=by
 show De rM;by_cases q:AZY
 ·show DJ Ait
  simpa [q] using h
 ·show BD Ait
  simpa [q] using h
theorem z1i(a:Bz):í (fW (FG (a.map E_)) AMa) (a= []):=by
 (show Lv a a a a a a a a a a a a a a)<;>simp [fW,fY]
theorem z3x(BUI p):(!(Φ (ABT p= [])))=l.any p:=by
 show Axd Adw;simp only [BEw,Boe,List.filter_eq_nil_iff];constructor
 ·intro h;exact Classical.byContradiction (AZ (h fun a ha q=>z ⟨a,ha,q⟩))
 ·rintro⟨a,ha,q⟩ h;exact h a ha q
theorem Y9(BA'):BYN:=jP (Akp (BDM h))
theorem zmf(BU Yv):FS:=H_
theorem zq1(BU Yw):FS:=H_
theorem yk3{qs:A2}{c:Δ}(h0:0<c)(hc:BJq):ka AOg qD (-(CB c)) (qD (BOi AIx 0)):=by
 have hl:=QZ qs;unfold lB;have e:wu (C7 AOg qD) (-(CB c))=Ε BNd:=by
  unfold wu;show AW6 hl ϟ Ϡ
  congr 1;show AA
 rw[e];show(AOg qD)[Fs - c]?=_;show Aum AXx
 unfold mH;have h2:c - 1< (jO qs).reverse.length:=AV6 we hl
 rw[Ru h2,ArH];simp only [hl,BmC,BdQ]
theorem zyr(xs:AQ)(h:0<BN):Rs xs Ι (Ε IO)=xs.dropLast:=by
 show AKP;simp only [ArG,BmD];rw[Ch Ψ,List.dropLast_eq_take]
 congr 1;show AA
theorem ynt{f:A2}{c:Δ}{q:AM}(hc:c<=Uf)(h:wD f c=Ε q):q∈f:=by
 show De wD;show NG
 ·show OE
 ·show HI;exact Q9 Η
theorem zl2(B1 Yv):à zfa:=by
 obtain⟨qs,cs,Β,hl,hz,hc0,hc,h⟩:=h;refine Ð qs hl hz;show As (cG _ (Rs (cs.map intD) Ι (Dx IO)) _);rw[zyr _ (ET C6 hc0),<- List.map_dropLast]
 have A9:∀d∈Aqr intD,∀P,P [A'v] ->Fy d4 eO BcF [DO,eI AOg] d P:=by
  intro d hd P hp;show kC k hk hd;have hk' :=hc k BNg;refine(?_:yb (O_< F8))
  change P [Agl A1L] at hp
  rw[da] at hp;by_cases h0:k=0
  ·subst h0;show l4
   exact hp
  ·show DJ UT
   refine XT (yk3 Η hk')
   unfold wD at hp;rw[CM h0] at hp;exact hp
 refine zp4 (ũ [A'v]) A9 ?_
 rw[zpv,IG];have e:(fun d:D=>A'v) ∘ intD=N_ (Agl k):=by
  funext k
  show C8 (bD (wD (mH qs) A1L)=_);rw[da]
 rw[e];have e2:Aqr (B6 k (Agl k))=B7 Aqr A9I bD:=AEq
 show XN e2
theorem zmr{α:CH}{p:ů}:∀{l:CO} {i:Δ},(∀j b,j<i ->T' l b ->p b=AG) ->(Mn (E4 l b) (p b=Μ)) ->i<=D9 ->l.findIdx p=i
 | [],i,_,_,h=>by simp at h;subst h;rfl
 | ϫ,0,_,h2,_=>yB BDS (h2 x Β)
 | ϫ,EL,h1,h2,h3=>by
  rw[BDS,h1 0 x Η Β]
  show C8 (l.findIdx p+1=EL);rw[zmr (fun j b hj hb=>h1 AJM b Η hb) (Nn (h2 b hb)) (CC h3)]
theorem zpz(B1 Yw):XU zgs:=by
 show AAH bs m hz hm;refine ue (∃(x y:Ic),Γ= [J_ (ABL bD),AHs m,x,y]/\∀j b,j<i ->T' bs b ->BPe) (ϯ (fun j b hj=>Υ))
 ·rintro i d _ hi ⟨x,y,Β,hn⟩;show AW5 ztq hi;cases q:bs[i]? with
  | Ι=>show Aqa
  | Ε b=>
   rw[q] at hi;show AE hi hi hi hi hi hi hi hi hi hi hi hi hi hi;have hil:i<Id:=QP q;have L_:BPe ->∀j b',j<EL ->T' bs b' ->vF m b' =AG:=fun hb j b' hj e=>by
    by_cases ej:j=i
    ·subst ej;show AFl q hb
    ·exact hn j b' Η e
   refine AQF;cases b with
   | Ι=>exact ϯ (L_ Β)
   | Ε p=>
    show PY ⟨m,p,Β,hm,hz _ (zA q) p Β,?_⟩ (AYv m p);by_cases hw:(!(Φ (m<p)))=Μ
    ·show DJ hw;have e:bB bs m=i:=zmr hn (fun b' hb' =>by rw[q] at hb';show AE hb' hb' hb' hb' hb' hb' hb' hb' hb' hb' hb' hb' hb' hb';exact hw) Η
     rw[e] at h;rw[BGE];exact h
    ·show BD hw;exact ϯ (L_ (by simpa [vF] using hw))
 ·rintro _ ⟨x,y,Β,hn⟩;show As (AWL (pM ABL bD));rw[zus] at hn;rw[C6] at hn⊢;have e:bB bs m=Id:=zmr hn (Nn (AMi hb)) (zO _)
  show Ajp
abbrev Ar(Q:AEM):uc:=A_P (K1 Q)
theorem zyk{x:Κ}:∀{g:Ρ},í (inD AJX (g.map Ÿ)) AXi
 | []=>CY inD
 | y::g=>by
  have ih:=zyk (x:=x) (g:=g);show AiG inD;show AiD ALh ih;by_cases h:y=x
  ·subst h;simp [eqD]
  ·have h' :¬x=y:=AZ (h wc);simp [eqD,h,h']
theorem z8d(g:Ρ):(g.map KP).all Hr=Μ:=r6 BFK List.all_eq_true.mpr AJj
theorem zsj{α:CH}(f:ů):ADn (uf (Af_ x (.bl (f x)))=Ε Ajs)
 | []=>Β
 | FC=>aw uf (zsj f l)
theorem Kz{α:CH}{EB:ACy}(f:ADj)(g:ADj):BKu Aj7 E3
 | [],_,_,h=>h
 | FC,P,k,h=>BAg Kz
theorem zgp(BaJ):BKu (P (AT2 p a [g a] [])) A6m
 | [],_,_,h=>h
 | FC,P,k,h=>k a zY _ (zgp f g p AHT (by
   rw[OV] at h;by_cases q:AI8
   ·rw[Kk] at h⊢;exact h
   ·rw[OA] at h⊢;exact h))
theorem ym2(B1 Ua):Sm z5l:=by
 show eQ g hs Β h;refine Kz KP (AHk (.bl (TC (AXi)))) (bc x hx) ?_
 ·refine C9 Β (z8d g);rw[zyk];exact hp
 ·refine XT (zsj _ hs);have e:(OM (OF (Φ AXi))).any id=dG g hs:=BHq
  show XN e
theorem ydd{hs:Ρ}{h x:Κ}:x∈rP hs h↔x∈hs\/x=h:=by
 unfold rP;split
 ·exact⟨M',PH (by rcases q with q | Β;exact q;assumption)⟩
 ·show BPt
theorem z4s{hs:Ρ}{h:Κ}(nd:AKl):(rP hs h).Pl:=by
 unfold rP;split
 ·exact nd
 ·show Kj;rw[AL9];exact ADx nd (fun a ha b hb e=>q BOD)
theorem yct(A9S):gL rP hs h<=U1+1:=by
 unfold rP;split
 ·show w_
 ·simp
theorem Em(Ao6){x:β}{l:Q4}:(RR x:Sum α β)∈E3 RR↔x∈l:=CD X9 (AJI (fun⟨y,h,e⟩=>by injection e with e;exact e ▸ h) (XL x h))
theorem Rv(A9S):í (mq (OM KB) Ϩ) ϩ:=by
 by_cases q:ϩ
 ·show APD q;exact uV.mpr (Em.mpr q)
 ·show AJN q;cases z:mq (OM RR) (RR h:Key) with
  | AG=>rfl
  | Μ=>show L2 (Em.mp (uV.mp z)) q
theorem zwd(A9S):jx (OM KB) Ϩ=(rP hs h).map KB:=by
 unfold jx rP;rw[Rv];by_cases q:ϩ
 ·rw[AhA,EF,Kk]
 ·rw[Ag',AEO,OA,OT];rfl
theorem z7x{hs:Ρ}{xs:AQ}{h:Κ}{d:D}(e:ANf U1):gL rP hs h=(gj AYC xs Ϩ d).VM:=by
 unfold gj rP;rw[Rv];by_cases q:ϩ
 ·rw[AhA,EF,Kk,Ad2,C6,e,AMD]
 ·rw[Ag',OA,gN];simp [e]
structure Us (Ο:C4) (n:Δ) (ws:Ρ) (ps:AWs):Θ where
 len:BIU
 nd:u_
 lw:LM<=n
 pt:Bg0
 ex:BU6
theorem zvt{Ο:C4}{r:Rw}{w:Κ}:fZ Ant w=A'z AMu [r]:=by
 unfold fZ;rw[AK5]
 congr 1
 show A3J
theorem z80{Ο:C4}{r:Rw}{w:Κ}:kW Ant w=A'z ĳ [Ct]:=by
 unfold kW;show AO5 zvt
 congr 1
 show A3J
theorem ydw{Ο:C4}{w:Κ}(h:¬(s_ (CU=w))):BR_:=om ATl (fun r hr z=>h ⟨r,hr,wT z⟩)
theorem zwm{Ο:C4}{r:Rw}{w:Κ}:wF Ant w=A'z (Į wF) [Ct]:=by
 unfold wF;show AO5 AK5
 congr 1
 show A3J
theorem dI{Ο:C4}{w h:Κ}:h∈Į wF↔s_ BAW:=by
 unfold wF;rw[X9];constructor
 ·rintro⟨r,hr,e⟩;show Am' hr;exact⟨r,h1,wT h2,e⟩
 ·rintro⟨r,h1,h2,e⟩;exact⟨r,Acx (AM6 BH4),e⟩
theorem Us.new{Ο:C4}{ws:Ρ}{ps:AWs}{w:Κ}(B:Aw3)(hw:w∉ws):Us Ο BlM A4j BN8:=by
 refine⟨CY ĉ,?_,Cc B.lw,FY q v p h1 h2,fun u q v p h1 h2=> ?_⟩
 ·rw[AL9];exact ADx AAm (fun a ha b hb e=>hw BOD)
 ·by_cases hq:A0K
  ·rw[BHf] at h1;show BIr BO7 h2
   exact B.pt q v p h1 h2
  ·have hl:q< Tx A4j:=QP h1;rw[P1,AdX] at hl;have hq' :q=LM:=Υ
   show BZo
   simp at h1;simp [ĉ] at h2;subst h1 h2;refine⟨Β,DC,K2,FB (BNO Ü)⟩
   obtain⟨r,hr,e,_⟩:=dI.mp z;exact lf (Ċ w).mpr A9G hw
 ·by_cases hq:A0K
  ·rw[BHf] at h1;show Q2 (AAv BO7) h2 (B.ex u q v p h1 h2)
  ·have hl:q< Tx A4j:=QP h1;rw[P1,AdX] at hl;have hq' :q=LM:=Υ
   show BZo
   simp at h1;simp [ĉ] at h2;subst h1 h2;have:=ydw (Ο:=Ο) (w:=w) fun A9G=>hw ((Ċ w).mpr A9G);unfold kW;rw[Τ];rfl
theorem z0v{ws:Ρ}(nd:u_){i j:Δ}(hi:i<LM)(hj:j<LM)(e:fg=ws[j]):i=j:=by
 show A1b nd;rcases BFy i j with q | q | q
 ·exact i5 e BTi q
 ·exact q
 ·exact i5 ZE (A9 j i hj hi) q
theorem Us.put{Ο:C4}{ws:Ρ}{ps:AWs}{r:Rw}{q:Δ}{p:Ρ×AQ}(B:Us Ο BlM ws ps)(wm:BXu (s_ (CU=v)) CU)(h1:yk ws CU)(h2:yk ps p)(d:D)(hd:d= ACf):
  Oi Ant ws (ps.set q (rP DA Ct,gj (AhH .BO) p.2 (FM Ct) d)):=by
 show A'1 (B.pt q CU p h1 h2);have hq:A0J:=QP h2;refine⟨CD BnC ĉ,AAm,Cc B.lw,Sk v,FY q' v p' e1 e2,fun u q' v p' e1 e2=> ?_⟩
 ·rw[wm v];constructor
  ·rintro(⟨r',h,e⟩ | e)
   ·exact⟨r',zQ _ h,e⟩
   ·exact⟨r,DC,ZE⟩
  ·rintro⟨r',h,e⟩;show AO8 (JJ h) h
   ·show FR ⟨r',h,e⟩
   ·rw[Ax1] at e;show He ZE
 ·by_cases Cm:q=q'
  ·subst Cm;show BSB;show u7;refine⟨z7x b1,z4s b2,zP yct (CC b3),FB ?_⟩
   rw[ydd,zwm,EF,Abq,b4 h,AF_]
  ·rw[ASW Cm] at e2;obtain⟨c1,c2,c3,c4⟩:=B.pt q' v p' e1 e2;have hv:¬CU=v:=AZ (by
    have l1:=(ng h1);have l2:=(ng e1);obtain⟨l1,l1'⟩:=l1;obtain⟨l2,l2'⟩:=l2;exact Cm (z0v AAm l1 l2 BVN))
   refine⟨c1,c2,Cc (Bko c3),FB ?_⟩
   rw[c4 h,zwm,Ail,Y2]
 ·have u0:MS:=(BmG u).1;by_cases Cm:q=q'
  ·subst Cm;show BSB;show AE e2 e2 e2 e2 e2 e2 e2 e2 e2 e2 e2 e2 e2 e2;have ep:=B.ex u0 q CU p h1 h2;have hn:Ct∉DA:=AZ (by
    rw[ep] at z;obtain⟨r',hr',g1,g2⟩:=AKo z;exact(Bk7 u).2.2 r' hr' r A7 ⟨g1,g2⟩)
   rw[z80,zvt,EF,EF];unfold rP gj;rw[CM hn,Rv,AxZ hn,gN,ep,hd,OT]
   rfl
  ·rw[ASW Cm] at e2;have hv:¬CU=v:=AZ (by
    have l1:=(ng h1);have l2:=(ng e1);obtain⟨l1,l1'⟩:=l1;obtain⟨l2,l2'⟩:=l2;exact Cm (z0v AAm l1 l2 BVN))
   rw[z80,zvt,Ail,Ail,Y2,Y2];exact B.ex u0 q' v p' e1 e2
theorem zvn{ws:Ρ}(nd:u_):ADd FH BM0:=by
 unfold Asf;show Axh;exact nd.imp fun h z=>(Ay3 h)
theorem z5g(B1 Rk):AQm zsq 5:=by
 show AZI Ο hl;have s1:=vp;intro as;refine ue (Bkk i) ?_
 ·exact⟨as,[],[],_,_,_,⟨Β,DC,DC,HG (BNO (fun⟨r,hr,_⟩=>by(simp at hr))),fun q w p e=>(by simp at e),fun _ q w p e=>AYm⟩,Β⟩
 ·rintro i d _ hi ⟨as,ws,ps,x,y,z,B,Β⟩;have hi' :i<mw:=ϑ l9
  show Aam tk (AGK DI=AGK i++ [ABv]) A4u
  show HL A6 (C7 AGK i=i) (ϊ v6) D3 (∀as ws ps,Us (AGK i) (C7 AGK i+1) ws ps ->(BXu (∃r∈AGK i,CU=v) AC') ->
    zib K c {nx:=BPa,ct:=BPa,bk:=ACp (zm9 K c (Ar Q) Γ Th),rt:=j',rT:=K1 Q}
     [ř,ACZ (.dic AgD AgG),i_ AC',i_ ABv.2.1,F6 ABv.2.2] Th) (by
   intro as ws ps B wm;have hm:AC'∈ws:=(wm _).mpr (FM Β);show BI q hq eq ATK hm;have Bi:A0J:=BOk
   have e1:yk ws AC':=KE AzH eq
   have e2:yk ps ps[q]:=zZ Bi;show Fh b1 b2 b3 b4 (B.pt q _ _ e1 e2);have BW:=B.put wm e1 e2 (II ABv.2.2) Β;rw[<- tk] at BW;refine⟨Ayd,.BO ABv.2.1,as,AY2,A6L,q,(ps[q].1).map KB,ps[q].2,Β,Β,Β,zvn AAm,Azu e1,Azu e2,APQ,?_⟩
   refine⟨as,ws,_,i_ AC',i_ ABv.2.1,F6 ABv.2.2,BW,?_⟩;rw[zwd,List.map_set]
   rfl) ⟨Β,Β,Ayd,as,AY2,A6L,Β,Β,?_⟩;rw[Rv];by_cases hw:AC'∈ws
  ·show APD hw;refine D3 as ws ps ⟨ĉ,AAm,Bko B.lw,B.pt,B.ex⟩ (Sk v);rw[Ċ v];exact⟨M',AZ (by rcases z with z | Β;exact z;exact(Ċ _).mp hw)⟩
  ·show AJN hw;refine⟨Ayd,as,AY2,A6L,Β,Β,KE Rv (AxZ hw),Al7 B.lw,Sk cs⟩
   have:=D3 A3e (ws++ [AC']) BN8 (Us.new B hw) fun v=>by
    rw[Abq,Ċ v,AF_]
   show kl OT OT;exact Τ
 ·rintro _ ⟨as,ws,ps,x,y,z,B,Β⟩;show BTU AGK AGL LR Ο
  rw[e] at B;exact h ws ps B
theorem zkc:Ak8 (pJ AIM=Ε xs)
 | []=>Β
 | L8=>BLf pJ zkc xs
theorem z50{xs U:Ρ}(h:ϵ xs):Ak3<=AGu:=Km (zmu xs) (Ϲ (h x (uX.mp hx)))
theorem yh9{xs U:Ρ}{P:T0}(h1:BN<4095)(h2:A6R)(h3:ϵ xs)(h:BT4 (A5' xs)):Xa [gl xs] P:=
 ⟨xs,zkc xs,h1,zM (z50 h3) Η,h⟩
theorem zfe{p:Ρ ->AU}:∀fs:MQ,(ATm p).BDW<=Aqs
 | []=>DC
 | me=>by
  have:=zfe (p:=p) fs;rw[OV];split<;>simp only [AeQ,P1]<;>(show w9)
theorem zya(fs:MQ)(i:Δ):Bkx (ASM i).BDW:=by
 conv=>rhs;rw[<- Aid fs,Acy,P1]
 show AA
theorem yb2(B1 Yx):P5 zv4 5:=by
 obtain⟨fs,hs,U,Β,hl,hfl,hU,u1,u2,h⟩:=h;have line:oy 8000:=DB
 refine zgp gl gl BNR (bc f hf) ?_
 ·show PY (Lu f hs ?_) (GT (! ADT) (P [gl f]) si);by_cases q:APF ADT
  ·show Agg Kk
  ·show Agg OA
 ·refine ue (∃x,Γ= [BN1,.pu (gl hs),J_ (B7 ATm (fun f=> ! ADT) gl),.ow ((hs++ BW7 (ASM i).iF).map .AS),x]) ⟨DO,by simp [gl];rfl⟩
  ·rintro i d _ hi ⟨x,Β⟩;have hi' :i<AK4:=ϑ l9
   show Aam tk (ASM DI=ASM i++ [AJV]) A4u
   show PY (Lu AJV hs ?_) (if AaD AJV then _ else _);by_cases q:AaD AJV
   ·show DJ q;refine⟨D_,?_,.pu (gl AJV),?_⟩
    ·have h1:=zfe (p:=fun f=>ADT) (ASM DI);have h2:=zya fs DI;rw[tk,AK5,Acy,P1] at h1;simp only [OV,q,c_,ArL,AeQ,BmJ,Y2] at h1;rw[tk] at h2;show ANh P1 C6;show AA
    ·show BSo;show BaS c_ ArL AeQ;rw[<- ĥ,OT (l₂:=AJV)]
     rfl
   ·show BD q;refine C3 (.pu (gl AJV));show BSo;show BaS ATE AAw ArL
    rfl
  ·show AiI x;show BTU ASM AdP gl fs
   rw[e];have hx:Aep (hs++ BW7 ATm) (x∈hs\/AnT (AaD f/\APY)):=OF (by
    rw[Abq,List.mem_flatten];constructor
    ·rintro(a | ⟨f,hf,a⟩)
     ·show FR a
     ·show Am' hf;show He ⟨f,h1,h2,a⟩
    ·rintro(a | ⟨f,h1,h2,a⟩)
     ·show FR a
     ·show He ⟨f,Acx AZC,a⟩)
   unfold zpr;dsimp only [aG,cI,cC,cV,cB,cT,rB,Hg,lW,qy,Fb,sZ,Fd,ak,aj,dY,fH,cY,tu,aY,wR,fj,aV,fQ,AGl,iT,bG,iU,Ab,Ac,aC,cU,iR,jT,d8,jr,d9,gR,dW,Fl,Fo,Bx,Fq,Nh,K7,yx,uG,DP,bT,wI,Fi,J9,nM,K8,SX,lZ,Ft,wV,Ad,Fw,AAu,AMA,AMC,AR',ABP,qC,qt,BK,La,BL,wW,Ae,wB,tE,oh,yD,wX,zc,Kc,qG,BP,iV,rE,Li,S8,Im,FQ,FT,iL,mV,nO,Cq,eO,AGr,ASA,ww,AGv];refine yh9 (U:=U) ?_ hU (UD x q) (i4 ms s2)
   ·have:=zfe (p:=fun f=>ADT) fs;show Axg;show AA
   ·rcases(hx x).mp q with a | ⟨f,h1,_,a⟩
    ·exact u1 x a
    ·exact u2 f h1 x a
   ·refine C9 AYj ?_
    ·have:=AeO BNR fs;show Nw;show AA
    ·have:=h ms s1 fun x=>XI s2 x (hx x);show AY4 OT
theorem Ot{g:Ρ}(h:AVn g.Pairwise):g.Nodup:=h.imp fun{a b} q z=>(Aha z0k)
theorem Ut(a b:Κ)(h:AT9):¬(Ľ b a):=CD (z1z h) zK
theorem z19{Ο tL :C4}{Ss Kl :MQ}(F:Fam Ο Ss)(F' :Fam tL Kl)(e:Bka):A8e :=fun S hS=>by
 show GA r hr k F.of S hS;obtain⟨S',hS',k'⟩:=F'.to r ((e r).mp hr);refine⟨S',hS',OF ?_⟩;rw[k x,k' x,dI,dI];exact⟨BZx (e r).mp,BZx (e r).mpr⟩
theorem Eh.sub(BaK):Aaa (m∈vq) :=AgK (by
 show ARa h.pi;obtain⟨Kl,F',p'⟩:=h'.pi;obtain⟨m',hm',k⟩:=p.same p' (z19 F F' e) (z19 F' F (am (UH e r))) hm;rw[TV Ut (h.sr m hm) (h'.sr m' hm') k];exact hm')
theorem Eh.uniq(BaK):ms=vq :=
 TV (R:=fun a b=>A_z) (fun a b q=>Ut _ _ q) h.up h'.up fun m=>⟨h.sub h' e m,h'.sub h (eL (UH e r)) m⟩
theorem yfp{f:Ρ}(h:f≠ []):hdS f∈f:=by
 cases f with
 | DL=>show AEk h
 | AY x f=>exact zY
theorem z1b:∀{fs:MQ},(Aaj (f≠ [])) ->A7o ->ADd AdP hdS
 | [],_,_=>DC
 | me,ne,d=>by
  rw[AL7] at d;rw[FA,Adv];refine⟨Ü,z1b (fun g hg=>ne g (zX _ hg)) d.2⟩;show fS g hg (ZH z);exact d.1 g hg (hdS f) (yfp (ne f zY)) (e ▸ yfp (ne g (zX _ hg)))
theorem z87:N0 fs MQ (Aaj (f≠ [])) (Bkx AK4)
 | [],_=>DC
 | me,ne=>by
  have:=z87 (fs:=fs) (AMo g hg ne g hg);have h1:0<Uf:=AFy (ne f zY);rw[GM,AeQ,P1];show AA
theorem z1t(Beg)(p:AQp)(h:AVj (ϵ S)):AZ8 (ϵ f):=fun f hf x hx=>by
 show BI S hS q (p.co x).mp A3x;exact h S hS x q
theorem z0t(Beg)(p:AQp)(nd:AZ8 f.Nodup)(h:AVj (ϵ S)):Aqs<=AGu:=
 Km (zmy p.dj nd) (Ϲ (by
  show BKw q hx;exact z1t p h f hf x q))
theorem Rx:∀l:AQ,j6 (pd E3)=l
 | []=>Β
 | d::l=>BLf j6 Rx l
theorem zoe{α:CH}(f:α ->T):BXD j6 (OF (toD (f x)))
 | []=>Β
 | d::l=>by rw[FA];unfold j6;rw[zoe f l];rfl
theorem ye1(hs:Ρ):B7 OM BM0 nY=OM Ÿ:=AEq
theorem yb6(B1 Yy):AQm zv9 3:=by
 obtain⟨Ο,U,Β,hl,hU,hu,h⟩:=h;refine⟨K2,Ο,Β,hl,AV ws ps B⟩;have hpU:WO ps (((DA).Pl/\DA≠ []/\ϵ DA)/\BPY DA):=s0 (by
  show BYm hp;have Bi:A0K:=CD ĉ hq
  show A'1 (B.pt q _ p (zZ Bi) (Ù AzH e))
  obtain⟨r,hr,er⟩:=(Ċ ws[q]).mp (yZ Bi);refine⟨⟨b2,Ü,A4c⟩,r,hr,OF (r6 er b4 x)⟩
  ·have:=(b4 Ct).mpr (ArO ⟨r,hr,er,Β⟩);show DF z;show IN
  ·obtain⟨r',h1,_,h3⟩:=dI.mp ((b4 x).mp hx);exact h3 ▸ hu r' h1)
 have few:∀i,∀S∈ B7 ArP i (·.1),ϵ S:=fun i S hS x hx=>by
  show kC p hp hS;exact(hpU p (AK3 hp)).1.2.2 x hx
 refine ue (∃fs x,mF ((ps.take i).map (·.1)) fs/\ (Aaj (AVn f.Pairwise))/\Γ= [ř,BN1,x]) ⟨[],_,Cc mF.nil,AaY (by(show AAZ)),Β⟩
 ·rintro i d _ hi ⟨fs,x,p,sr,Β⟩;rw[zoe] at hi;have hi' :i<OP:=ϑ l9
  show Aam tk (ArP DI=ArP i++ [UR]) A4u
  obtain⟨⟨q1,q2,q3⟩,_⟩:=hpU UR (yZ hi');have l1:=Km q1 q3;have l2:=z0t p (fun f hf=>Ot (sr f hf)) (few i);have l3:=z87 p.ne;refine⟨fs,UR.1,U,?_,Υ,Υ,hU,q3,z1t p (few i),AV g g1 g2⟩
  ·rw[ye1];rfl
  ·refine⟨An1 (dG f UR.1),_,?_,Cf f hf,Β⟩
   ·show AO5 tk;exact p.step q2 g2
   ·rcases JJ hf with hf | hf
    ·exact sr f (APT hf)
    ·show fA hf;exact g1
 ·rintro _ ⟨fs,x,p,sr,Β⟩;have e:ArP (C7 j6 AgG)=ps:=BH5 zoe wf
  rw[e] at p;have abI :∀S∈TZ (·.1),ϵ S:=ABx (few OP) wf
  have l2:=z0t p (fun f hf=>Ot (sr f hf)) abI;have l3:=z87 p.ne;refine⟨fs,Β,p.ne,z1b p.ne p.dj,Υ,fun ms pm up=>h ms ⟨AgK (sr m (BmL hm)),up,_,ST (Cf S hS) r hr,p.perm pm⟩⟩
  ·show kC p hp hS;exact(hpU p hp).2
  ·have hw:=(Ċ CU).mpr (XL r hr);show BYm hw;have Bi:A0J:=BOk
   show A'1 (B.pt q CU ps[q] (Ù AzH e) (zZ Bi))
   exact⟨ps[q].1,Aqk (ML (yZ Bi)),b4⟩
theorem q27{q z k:AM}(k0:k≠0)(e:q*k=z):q=z/k:=by rw[<- e,NS,w4,BlI k0,AMH]
def GZ(B:Δ)(q:AM):Θ:=∃z:Ω,q*27720=Agy/\A1K
theorem GZ.add(Bc5):GZ (A+B) (p+q):=by
 obtain⟨a,ea,ha⟩:=h1;obtain⟨b,eb,hb⟩:=h2;refine⟨a+b,?_,Aov BFJ ha hb⟩;rw[AtK,<- ea,<- eb];grind
theorem GZ.sub(Bc5):GZ (A+B) (p - q):=by
 obtain⟨a,ea,ha⟩:=h1;obtain⟨b,eb,hb⟩:=h2;refine⟨a - b,?_,Aov Blc ha hb⟩;rw[ATi,<- ea,<- eb];grind
theorem GZ.mono{A B:Δ}{q:AM}(h:GZ A q)(l:A<=B):AOn:=by
 show QY a ea ha;exact⟨a,ea,zP ha l⟩
theorem z6o{B:Δ}:A9q AOn (GZ (Fs*B) (fJ qs))
 | [],_=>⟨0,š fJ,DC⟩
 | q::qs,h=>by
  refine((h q zY).add (z6o Alv)).di ?_;show A3Y;show AA
theorem Ry{n:Δ}(h1:1<=n)(h2:n<=12):n* (27720/n)=27720:=by
 match n,h1,h2 with
 | 1,_,_=>rfl
 | 2,_,_=>rfl
 | 3,_,_=>rfl
 | 4,_,_=>rfl
 | 5,_,_=>rfl
 | 6,_,_=>rfl
 | 7,_,_=>rfl
 | 8,_,_=>rfl
 | 9,_,_=>rfl
 | 10,_,_=>rfl
 | 11,_,_=>rfl
 | 12,_,_=>rfl
theorem z8k{t:Ω}{n B:Δ}(h1:1<=n)(h2:n<=12)(ht:AtI<=B):AJp B (Afk/ BS (LN n)):=by
 have e:=Ry h1 h2;have n0:ACX n≠0:=AZ (by
  have:n=0:=Ø z
  show AA)
 refine C9 (t* ER (27720/n)) ?_
 ·have e' :BS 27720=ACX n* ACX (27720/n):=Ø ZE
  rw[e',NR,NS,w4,<- w4 (Inv.inv (ACX n)),AJK n0,BDI]
  rfl
 ·rw[ġ];refine Aqd ht ?_;rw[Blw];exact Nat.div_le_self _ _
theorem ygq{t:Ω}{B:Δ}(ht:AtI<=B):AJp B Afk:=by
 refine C9 (t*27720) (aS NR)
 rw[ġ];exact Aqd ht (zO _)
theorem yik(A5i)(h:AOn)(hB:B<2^n):dB ABR<=n/\dB AiT<=15:=by
 show QY z e hz;have eq:q=BPK:=q27 Ψ e
 have b1:dB z<=n:=kY Η
 have f:=BTu Ψ
 have e1:(fr z 27720).1=_:=BKm;have e2:(fr z 27720).2=_:=BKn;show A6V;rw[eq];refine⟨Al_ b1,zP (BRd ?_) (kY Ψ)⟩
 ·rw[<- e1];exact yf6 Ψ
 ·rw[<- e2];exact yg0 Ψ
theorem Uu(A5i)(h:AOn)(hB:B<2^n)(hn:15<=n):Sz n q:=⟨BVg,zP (yik h hB).2 hn⟩
theorem Mi(A5i)(h:AOn)(hB:B<2^n)(hn:n<=128):SzE q:=by
 refine C3 (zP BVg hn);show QY z e hz;have eq:q=BPK:=q27 Ψ e
 have f:=NJ BGy (BTu Ψ)
 dsimp only at f;rw[eq,<- f];exact⟨dv z 27720,CD AeN (TF z 27720).cq⟩
theorem yis{n:Δ}(h:1<=n):qD (A4y n)= AJd IO n:=by
 have f:=Xz (t:= -1) (b:=L5) Η
 have e1:(fr IO L5).1=_:=BKm;have e2:(fr IO L5).2=_:=BKn;show A6V;have g:dv IO L5=1:=by unfold dv;show ADL;simp
 have t1:=z1o IO L5;have t2:=TF IO L5;rw[g,Int.one_mul] at t1 t2;unfold qD;have c:(A4y n)=AX4 AgA n:=Β;rw[c,<- e1,<- e2,t1,t2]
theorem z74{α:CH}(f:GE):ADn (fJ Ajs=cE)
 | []=>Β
 | FC=>A1u (f a+fJ (E3 f)=f a+cE) (z74 f l)
theorem Za(Aob):Gf (AHB Oj)=Ε (AYu KB,ű fun r=> ACf):=Β
theorem zte(B1 Ol):Sm zix:=by
 obtain⟨Ο,ws,h0,Β,h⟩:=h;refine zgp Av8 Av8 (rh Aib) (bc w hw) h;refine⟨_,_,.BO h0,AXl,Β,?_⟩;show BYH Rv rS
theorem Jv(BUA){w:Κ}(h:APv):1<=AJ6/\ AJ6<=12:=CD Q8 ⟨BlK,L.wk w⟩
theorem ykm(B1 Yz):P5 z2o 5:=by
 obtain⟨Ο,ws,h0,o0,Β,L,⟨W1,W2⟩,h⟩:=h;have s1:=vp;refine⟨Ο,ws,h0,Β,Ο,AGC (rh Aib),o0,Β,?_⟩
 let both:=(AGC (ADP rS)).iF (ADP AvS)
 have hb:∀w∈both,APv:=fun w hw=>W2 w (APT (APT hw));have hbl:Ac1<=200:=zP (zP AYH (AeO _ _)) W1
 let f:D5:=HG (AgA/ BS (LN AJ6))
 have gz:∀w∈both,GZ 27720 (f w):=ϸ (by
  have:=z8k (t:= -1) (B:=1) (Axb hb) (Jv L (hb w hw)).2 Ψ
  show DF AMG;exact Τ)
 show E2 gs (∀k,AJp 200 (fJ ((ASP f).ie k))) (N_ (by
  refine(z6o AWe).di (BcG BJL hbl)
  show BUd;exact gz w hw)) e2 (fJ (ASP f)=aB ws (HG (M_ A6O (f w)))) (by
  rw[z74];rw[Kp,Kp];refine AQC w;by_cases q1:rS
  ·by_cases q2:AvS<;>simp [q1,q2]
  ·simp [q1]) e3 ((aB QU fun s=>(M_ (h0∈s/\o0∈s) Ak5))= - A5U) (by
  rw[e2,Kq];have: - (aB ws (HG (M_ A6O (f w))))=aB ws (HG (IO* (DH A6O (f w) 0))):=å Ko
  rw[Τ];refine AQC w;split
  ·show As (1/ BS (LN AJ6)=IO* (A4y AJ6));rw[NS,NS];have:AgA= -1:=Β;rw[Τ];grind
  ·grind) pw (∀n,23<=n ->A2U<2^n) (fun n hn=>zN (APg (A2U<2^23)) (Aqe Ψ hn))
 refine Bcr (AJd IO (ER AJ6))
 ·refine⟨_,_,AXl,AP_,?_⟩
  rw[C6];exact hp
 refine Bfk ASP ?_
 ·rw[IG];refine AvY (Ev [ASQ z]) (Cf w hw);exact UH yis (Axb hb)
 ·show Aa5;exact Uu (gz w hw) A6G Ψ
 have gt:=gs BJL;rw[wf] at gt;refine AXf
 rw[Rr];by_cases q:h0=o0
 ·subst q;show APD Β;show HL eb (Ac1=A4e rS) (by
   show C7 (AGC (ADP rS)).iF (ADP rS)=_;rw[Abs];simp) ec (iK QU h0=BIh) (by
   unfold iK;rw[Kq,eb];have:=Oh (α:=Κ) 1 (l:=A0n Aib);rw[Kp] at Τ;rw[AMH] at Τ;show Õ;exact kZ (BL7 rS)) ⟨AP_,BHK,A5U,?_,?_,Uu gt BkI Ψ,?_⟩
  ·rw[QX,C6]
  ·exact BVZ (zM (Fm (fE (ER Ac1)<=A2U)) (pw 4000 Ψ))
  ·have:BHK+A5U=fu QU h0 h0:=by
    unfold fu;rw[EF,e3,ec];show BIh+_=_
    grind
   show XN Τ
 ·show AJN q;have:fJ (ASP f)=fu QU h0 o0:=by
   unfold fu;rw[CM q,e3];grind
  rw[Τ];exact h
theorem ydf(B1 YB):à zxc:=by
 obtain⟨Ο,ws,m,h0,Β,L,W,h⟩:=h;refine Kz KP (B6 o (Agr h0)) (bc o ho) h;exact⟨Ο,ws,h0,o,Β,L,W,hp⟩
theorem zw3{α:CH}(f:α ->Ω):ADn (mX (Af_ a (AXH a))=Ε Ajs)
 | []=>Β
 | FC=>by unfold AGr mX;rw[zw3 f l];rfl
theorem zvs{α:CH}(f:α ->Ω):ADn (Lm BQb=AYJ (BS (f a)))
 | []=>Β
 | FC=>by
  rw[FA,BmN,AtK,zvs f l];rfl
theorem zyo{α:CH}(f:α ->Ω){B:Δ}:Aav ((f a).ABQ<=B) (fE (BQb)<=D9*B)
 | [],_=>DC
 | FC,h=>by
  have h1:=h a zY;have h2:=zyo f (l:=l) (APc AMT);rw[FA,BmN,GM,BGz,AMG,BDL];exact Aov BFJ h1 h2
theorem zzy(B1 YC):AJZ zna:=by
 show AAH Ο w L ne;have hp:=AFy ne;have h12:=L.wk w;refine⟨_,_,ű (eL pf),AXl,zw3 _ _,_,_,AXl,_,_,Β,?_,?_,?_⟩
 ·have:=BhO;refine AN6 104 (zM Τ ?_)
  exact zM BNf Ψ
 ·rw[C6,Q8];exact AN6 4 Η
 ·show AW6 Q8 ϟ zvs
  exact h
theorem yeq{L:C4}{h:Κ}:gM (vT fun r=> .BO Ct) (vT fun r=> ACf) Ϩ=B7 L.find? (am An9) Azi:=by
 induction L with
 | DL=>rfl
 | AY r L ih=>
  show AiD FA AsI;unfold gM;by_cases q:Ct=h
  ·rw[Ch (by rw[q]),AhA];rfl
  ·rw[CM (Ev (Ay3 q)),Ag'];exact ih
theorem z9o{Ο:C4}(u:MS)(BYB):s_ (CU=w/\Ct=h/\gM (AYu .BO) (ű fun r=> ACf) Ϩ=Ε (II pf)/\Ahg h=AU9):=by
 obtain⟨r,hr,e1,e2⟩:=AKo hh;refine⟨r,hr,e1,e2,?_,?_⟩
 ·unfold kW;rw[IG];have:=yeq (L:=AMu) (h:=h);refine(?_:gM (ű fun r=> .BO Ct) _ _=_);rw[Τ];cases q:Aeb find? fun r=>An9 with
  | Ι=>
   have:=Bll q r (Abr ⟨hr,e1⟩);simp [e2] at Τ
  | Ε s=>
   have s1:=ARz (Bli q);have s2:qh=h:=Cc (Blj q)
   rw[yh7 u s1.1 hr ((s1.2).ON e1.symm) (Ğ e2.symm)];rfl
 ·have:=T4 u hr;show kl e1 e2;exact Τ
theorem Ou(BUK):cQ Œ (AHB yW)=Auj AzZ:=by
 unfold cQ;rw[Q8,yfl]
 congr 1
 refine AKS;have:=T4 u Ahl;show DF Alm;rw[Τ]
theorem yae(BUA){w:Κ}(ne:APv):AJp (2^104) (aB ACR AzZ/ BS AHl):=by
 have hp:=AFy ne;have h12:=L.wk w;have:=BhO;rw[<- zvs];refine z8k hp h12 (zP Τ (zP BNf Ψ))
theorem yaz{Ο:C4}(u:MS)(L:sD)(BYB):AJp (2^105) (Ahg h - cQ Œ (AHB yW)):=by
 obtain⟨r,hr,e1,e2,_,ey⟩:=z9o u hh;rw[ey,Ou u];have ne:APv:=AZ (by
  have:=Abr ⟨hr,e1⟩;show DF z;show IN)
 exact((ygq (B:=2^104) (zP (č (L.mm r hr)) Ψ)).CA (yae L ne)).di Ψ
theorem ycg(B1 YD):Sm zxx:=by
 obtain⟨Ο,ws,h0,Β,u,L,⟨W1,W2⟩,h⟩:=h;have s1:=vp;have pw:∀n,128<=n ->200* Akb<2^n:=fun n hn=>zN (APg (200* Akb<2^128)) (Aqe Ψ hn)
 let wh:=A0n Aib
 have Zb:∀w∈wh,w∈ws/\rS:=ϸ ⟨APT hw,wT (ASJ hw).2⟩
 let f:D5:=HG (Ahg h0 - cQ Œ (AHB yW))
 refine⟨Ο,ws,h0,Β,?_⟩;refine Bcr (qD (f w))
 ·obtain⟨r,hr,e1,e2,lk,ey⟩:=z9o u (AKY Zb);show BE ⟨_,_,.BO h0,ACf,AXl,Β,lk,AP_,Ο,w,Β,L,W2 w (Zb w hw).1,?_⟩ ⟨Lm pf,_,NE QX,?_,Uu (yae L (W2 w (Zb w hw).1)) A6G Ψ,?_⟩
  ·exact A'7 (kY (L.mm r hr))
  ·rw[<- Ou u,<- ey];exact hp
 ·have gs:∀k,GZ (200* Akb) (fJ ((ArS f).ie k)):=N_ (by
   refine(z6o AWe).di (BcG (C7 ArS f) (zP AYH W1))
   show BUd;exact yaz u L (AKY Zb))
  refine Bfk ArS AEq
  ·show Aa5;exact Uu (yaz u L (AKY Zb)) A6G Ψ
  ·have:fJ (ArS f)=mG jv AUs ws h0:=by
    rw[z74];rw[Kp];exact kZ fun w _=>by by_cases q:rS<;>simp [q,f]
   show XN Τ
theorem zt1{α:CH}{B:Δ}{f:GE}:Aav (GZ B (f a)) (GZ (D9*B) (aB l f))
 | [],_=>⟨0,Akg,DC⟩
 | FC,h=>by
  refine((h a zY).add (zt1 (APc AMT))).di ?_;show A3Y;show AA
theorem Zc(B:Δ):GZ B 0:=⟨0,Q_,DC⟩
theorem yfe{Ο:C4}{ws:Ρ}(W:AOa)(h:Κ):BTC iK h:=by
 unfold iK;rw[Kq];refine BBQ 27720 _;split
 ·have:=ygq (t:=1) (B:=1) Ψ
  show AY4 AMG
 ·exact Zc _
theorem ycz{Ο:C4}{ws:Ρ}(L:sD)(W:AOa)(h o:Κ):AJp 400 (fu QU h o):=by
 have g1:AJp 200 (DH (h=o) (iK QU h) 0):=by
  split
  ·exact yfe W h
  ·exact Zc _
 have g2:BTC aB (fun s=>(M_ ARV Ak5)):=by
  rw[Kq];refine BBQ 27720 hw;split
  ·have:=z8k (t:=1) (B:=1) (Axb W.2) (Jv L (W.2 w hw)).2 Ψ
   show AY4 AMG
  ·exact Zc _
 exact(g1.sub g2).di Ψ
theorem yks{Ο:C4}{ws:Ρ}(u:MS)(L:sD)(W:AOa)(h:Κ):GZ (200* Akb) BcU:=by
 refine BBQ (2^105*27720) _;split
 ·show Kj;exact yaz u L q
 ·exact Zc _
theorem zs5(Ao6) [Abp α](g:Aji)(l:CO):E3 g=MG D9 (E7 (g (OW j ZN))):=by
 show k9
 ·simp
 ·show AFs;show BM_;have hi:Av2:=Cc h1
  show ϗ fh;rfl
theorem yc2(x:D)(xs:AQ):Rs AZu AUj Ι=xs:=by
 show AKP;simp
theorem znt(B1 YF):P5 zf5 5:=by
 obtain⟨Ο,ws,m,Β,S,L,W,ne,m12,h⟩:=h;have s1:=vp;obtain⟨h0,hs,em⟩:∃h0 hs,m=AIC:=by
  cases m with
  | DL=>show AEk ne
  | AY a b=>exact⟨a,b,Β⟩
 have hn:IB=U1+1:=AYI
 have gs:∀i,ú DI ZN=hs.getD i ZN:=HH AYI
 have ct:Rs (YI KP) AUj Ι=OM KP:=CD em (yc2 _ _)
 let A:=nP Ο ws m
 refine(?_:cG _ BRY _);rw[ct];refine AEd Kz KP (PP A5v) h hh ⟨Ο,ws,m,h,Β,L,W,hp⟩;show ADf (cG _ BRY _) ct (AEd Kz KP (PP AqK) h hh ⟨Ο,ws,h,Β,S.u,L,W,hp⟩);have ec:∀h,iK QU h=Lm (A4e ŭ):=FB (by
  unfold iK;rw[Kq];have:=Oh (α:=Κ) 1 (l:=A0n (Φ ŭ));show kl Kp AMH;refine ABN ?_ Τ;exact kZ (BL7 ŭ))
 show As (V' zep [AZd,.pu (wG Ο ws),BN0 A5v,BN0 AqK,DO]);show bj (cG _ (YI KP) _) (Kz KP (PP BWT) (bc h hh) ?_)
 ·refine⟨Ο,ws,h,Β,AP_,?_⟩
  rw[ec,QX] at hp;show Nw;exact hp
 unfold ze1;dsimp only [aG,cI,cC,cV,cB,cT,rB,Hg,lW,qy,Fb,sZ,Fd,ak,aj,dY,fH,cY,tu,aY,wR,fj,aV,fQ,AGl,iT,bG,iU,Ab,Ac,aC,cU,iR,jT,d8,jr,d9,gR,dW,Fl,Fo,Bx,Fq,Nh,K7,yx,uG,DP,bT,wI,Fi,J9,nM,K8,SX,lZ,Ft,wV,Ad,Fw,AAu,AMA,AMC,AR',ABP,qC,qt,BK,La,BL,wW,Ae,wB,tE,oh,yD,wX,zc,Kc,qG,BP,iV,rE,Li,S8,Im,FQ,FT,iL,mV,nO,Cq,eO,AGr,ASA,ww,AGv];have l1:U1<=1000:=Υ
 refine⟨AYj,BJc,AP_,AYj,BJc,?_⟩
 have Zd:A1j (o9 IB (A i)= BjC BYj):=RC (by
  unfold o9;rw[zs5 (B6 o BYj) m];refine A3r Aaf;show As (qD (nP Ο ws m i j)=_);unfold nP;rw[Á R_ hj])
 show HL idx (UE IB (Ac2 A7W=j)) (XA (Â Mb Ajg (S.nm.idxOf_getElem j hj))) conv (∀(X:bo) i,A3u (APp*X j) (dH IB (E7 (APp*X (Ac2 A7W))))) (fun X i=>Oe fun j hj=>(NE (idx j hj))) ⟨IB,A,⟨?_,m12,Oy i j hi hj⟩,FY y k hk y1 hy,AV X hX hsz⟩
 ·have t1:Jt IB IB A= BNl (Ķ (YI fun h=>BWT)) A5v:=by
   unfold Jt;rw[hn,AsY,FA,IG,<- hn,Zd 0 Η]
   rw[zs5 (PP (ASQ (YI fun o=>(Agr h)))) hs];refine NJ ASQ ?_;show BE (?_:EH=EH) BMw;have hi' :=R_ hi;refine(?_:o9 IB (A DI)=_);rw[Zd DI Η]
   refine A3r (Cf o _);rw[CM Η,gs]
  have t2:o9 IB (qa (A i IB))= BNl [AJd 0 1] AqK:=by
   unfold o9;rw[hn,AsY,FA,IG,<- hn];rw[zs5 (PP AqK) hs];have a0:A 0 IB=AEZ:=by
    show US (BJn 0);unfold nP;rw[An5,EF];rfl
   show BE (NJ ASQ ?_) (?_:qD (A 0 IB)::_=EH);rw[a0,QX];refine BMw;show As (qD (nP Ο ws m DI IB)=_);unfold nP;rw[An5,ϟ,gs]
  rw[t1,t2]
  rfl
 ·show As (SzE (nP Ο ws m i j));unfold nP;split
  ·split
   ·exact Mi (yfe W _) (n:=23) Ψ Ψ
   ·exact Mi (ycz L W _ _) (n:=24) Ψ Ψ
  ·split
   ·exact Mi (Zc 0) (n:=1) Ψ Ψ
   ·exact Mi (yks S.u L W _) (n:=128) Ψ Ψ
 ·have z:=S.null (PP (y (Ac2 h))) (Ty hi (by
   have:=hy i hi;show DF conv;exact Τ)) (ú k ZN) (Q9 hk)
  rw[idx k hk,y1] at z;exact aE z Ψ
 ·have a:=S.ans (PP (X (Ac2 h))) (Ty hi (by
   have:=hX i hi;show DF conv;exact Τ))
  have e:o9 IB X= .By (YI fun h=>BOQ):=by
   unfold o9;rw[zs5 (PP BOQ) m];exact A3r (XA (NE (idx j (R_ hj))))
  rw[e];show AKi hsz;exact h _ a.1 a.2 ⟨d,d0,bd,fun g hg=>hd _ (List.idxOf_lt_length_of_mem hg)⟩
theorem yjd(ms:MQ):toD (FG (AIL oP gl))= .By (oP gl):=AEc toD Rx
theorem Eh.sys(A8d)(G:AOx)(u:MS)(BYn):(Ahe BjI)/\∀ws:Ρ,u_ ->(Aow (∃r∈Anl,CU=w)) ->vf ADa ws m:=by
 show ARa G.pi;have cl:AzX:=fun r hr hh h hk=>by
  show fS S hS Az6;show BUf;have h1:Ct∈f:=CA _ (Awd (ArO BkD));have h2:h∈f:=CA _ (Awd hk);rw[XF p.dj hm hf hh h1];exact h2
 refine⟨cl,fun ws nw hw=>⟨u.M m,nw,mB ((hw _).mpr (XL r hr)),Ot (G.sr m hm),mB A6',Ani,AV C hC hx⟩⟩
 ·show BI S hS hs (p.co h).mp ⟨m,hm,hh⟩;show GA r hr e F.of S hS;obtain⟨r',hr',_,e2⟩:=AaK h hs;exact⟨r',jV.mpr ⟨hr',CD e2 hh⟩,e2⟩
 ·have A9:=p.min (AHk (x∈m ->C x)) (fun S hS hx y hy ym=> ?_) m hm (by
   obtain⟨x,h1,h2⟩:=hx;exact⟨x,h1,Ff h2⟩)
  ·exact Ϲ (A9 x hx hx)
  ·show GA r hr e F.of S hS;show BUf;have fm:m=f:=XF p.dj hm hf ym (CA y hy);have inm:∀z∈S,z∈m:=ADp (CD fm (CA z hz))
   have VW:∀z,z∈S↔z∈kW (ofM Ο m) CU:=AZ (by
    rw[iW];constructor
    ·intro hz;obtain⟨r',h1,h2,h3⟩:=AaK z hz;exact⟨r',jV.mpr (AM6 (CD h3 (inm z hz))),h2,h3⟩
    ·rintro⟨r',h1,h2,h3⟩;exact(e z).mpr (ArO ⟨r',(jV.mp h1).1,h2,h3⟩))
   show EM x hx1 hx2 hx;obtain⟨r',h1,h2,h3⟩:=AKo ((VW x).mp hx1);exact hC CU ((hw _).mpr ⟨r',h1,h2⟩) ⟨x,(VW x).mp hx1,hx2 (inm x hx1)⟩ y ((VW y).mp hy)
theorem ynf{Ο:C4}{m:Ρ}{w:Κ}:fZ (ofM Ο m) w=Aeb iF (am Ax7):=by
 unfold fZ ofM;rw[Abs,Abs];exact BCf fun r _=>Bool.and_comm _ _
theorem yhf{Ο:C4}{m:Ρ}{w:Κ}(h:Ń ĳ m):fZ ADa w=AMu:=by
 rw[ynf];refine BmO fun r hr=>TN (h _ ?_);exact iW.mpr ⟨r,Ahl,Alm,Β⟩
theorem yoa{Ο:C4}{m:Ρ}{h:Κ}(hm:Afm):BZ ADa h=Ank:=by
 unfold BZ ofM;rw[Abs];refine BCf (Cf r _);by_cases q:Ct=h
 ·simp [q,hm]
 ·simp [q]
theorem yn0{Ο:C4}{m:Ρ}{x:D5}(cl:AzX){h:Κ}(hm:Afm)(e:xH ADa x h):AJ':=by
 unfold xH at e⊢;rw[yoa hm] at e;rw[<- e];refine AKS;have hr' :=AF' hr;rw[yhf (cl r hr'.1 (ET hr'.2 hm))]
theorem yb9{Ο:C4}{x y:D5}{h:Κ}(e:∀r∈Ank,∀s∈AUp fZ,x qh=y qh)(q:AJ'):xH Ο y h:=by
 unfold xH at q⊢;rw[<- q];refine AKS;have hr' :=AF' hr;have e1:=e r hr r (Abr ⟨hr'.1,Β⟩);rw[e1];have e2:GI (fZ Ο CU) s (Ae2 (y qh)) (aB (fZ Ο CU) fun s=>(Ae2 (x qh))):=kZ fun s hs=>(NE (e r hr s hs))
 rw[e2]
theorem LB.M{Ο:C4}(L:sD)(m:Ρ):LB (ofM Ο m):=by
 refine⟨zP AYH L.few,mB (L.mm r (jV.mp hr).1),HG ?_⟩;rw[ynf];exact zP AYH (L.wk w)
theorem ygb(BcM):ps=FH (HG Bjw):=by
 show k9
 ·rw[C6];exact B.len.symm
 ·show AFs;have hw:i<LM:=CD ĉ h1
  rw[ATc];exact B.ex u i fg UR (zZ hw) (zZ h1)
theorem yh2(p:Ρ×AQ):toD (Ei p)= .dic (AhH .BO) p.2:=by
 unfold Ei toD;rw[Rx]
structure Gm (Ο:C4) (m:Ρ) (x:D5):Θ where
 ev:Ϯ AJ'
 em:A7H
 sz:BBM
theorem BDb{Ο:C4}{m:Ρ}{x y:D5}(cl:AzX)(g:Amj x)(e:Ϯ (x h=y h)):Amj y:=by
 refine⟨AFZ (yb9 (fun r hr s hs=>e _ ?_) (g.ev h hh)),?_,by show AKi g.sz;exact⟨d,d0,bd,AFZ (Qb (e h hh) (hd h hh))⟩⟩
 ·have hr' :=AF' hr;have hs' :=ARz hs;exact cl r hr'.1 (ET hr'.2 hh) _ (iW.mpr ⟨s,hs'.1,hs'.2,Β⟩)
 ·have:=g.em;unfold X5 at Τ⊢;show Õ;exact kZ (mB (e _ A6').cq)
theorem z3w{hs:Ρ}{x y:D5}(e:AYF (x h=y h)):iy hs x=iy hs y:=by
 unfold iy;rw[wx (g:=AV' y) (AFZ (NE (e h hh)))]
theorem z17{hs:Ρ}{h:Κ}{x:D5}(n:h∉hs):T.dic (jx AYC Ϩ) (pd (gj AYC (AY6 OM x) Ϩ (qD (x h))).map)=iy (hs++ [h]) x:=by
 rw[zwd];unfold rP gj iy;rw[CM n,Rv,vc n,gN];simp
theorem zpj{α:CH}{l:CO}{i:Δ}(h:Av2):ATj DI=ATj i++ [l[i]]:=Bij lT
theorem Eh.hand(A8d)(G:AOx){m:Ρ}(hm:m∈ms){x:Κ}(hx:x∈m):s_ (Ct=x):=by
 show ARa G.pi;show BI S hS hs (p.co x).mp ⟨m,hm,hx⟩;show GA r hr e F.of S hS;obtain⟨r',hr',_,e2⟩:=AaK x hs;exact⟨r',hr',e2⟩
theorem z40(B1 YG):AQm zqx 6:=by
 obtain⟨Ο,U,Β,u,L,hU,hr,h⟩:=h;have s1:=vp;have few:=L.few;intro as;refine(?_:zj4 K c (Ar Q) [ř,ACZ (.dic [] []),DO,DO,DO,DO] Th);refine⟨Ο,U,Β,Υ,Υ,hr,Cf ms G⟩
 simp only [yjd];show ARa G.pi;have nd:ms.flatten.Nodup:=zmy p.dj (AaY (Ot (G.sr f hf)));refine ue (∃(as:Cb) (x:D5) (y2 y3 y4 y5:Ic),(∀m∈AK' i,Amj x)/\Γ= AnD y2 y3) ⟨as,Ū,_,_,_,_,AgK (AMi hm),Β⟩
 ·rintro i d _ hi ⟨as,x,y2,y3,y4,y5,hg,Β⟩;have hi' :i<AtH:=ϑ l9
  show AM5 AUW hi;cases (hi);have hm:APP∈ms:=yZ hi';have apart:∀h∈APP,h∉ AHm:=fun h hh z=>by
   have:=nd;show BND (Aid ms) Τ;refine Τ.2.2 h z h ?_ Β;refine ArT ⟨APP,?_,hh⟩;show BLI;exact zY
  have cl:=(G.sys u hm).1;have tk:AK' DI=AK' i++ [APP]:=zpj hi';have fl:BRg=AHm++APP:=by rw[tk,Acy];simp
  generalize em:APP=m at*;have CA:∀z∈m,z∈U:=BeV
  have ndm:m.Nodup:=Ot (G.sr m hm);have m12:BI0:=zP (Km ndm CA) hU;show As (ziz K c _ (AnD AZd y3) _);show BE (?_:cG _ (AGL LR) _) (zgp LR LR (eL Ax7) (bc r hr) ?_)
  ·show PY ⟨.AS Ct,t9,Β,z8d m,?_⟩ (Aeq (DH AG _ (inD (.AS Ct) (YI Ÿ))));show BYH zyk AHw
  refine⟨Anl,Β,zP AYH Η,AV ws ps B⟩
  have ep:=ygb B (u.M m);have ex:BRk=FH (Oj (ofM Ο m)):=by
   rw[zoe,ep,IG];exact wx fun w _=>yh2 _
  refine⟨AY2,BRk,by simp only [toD];rfl,?_⟩
  rw[ex];have W:Ao (ofM Ο m) ws:=⟨zP B.lw (L.M m).few,fun w hw z=>by
   show BI r h1 h2 (Ċ w).mp hw;have:=Abr AZC;show DF z;cases (Τ)⟩
  show bj (zgy K c _ (AnD AZd A'a) _) ⟨Anl,ws,m,Β,(G.sys u hm).2 ws AAm Ċ,L.M m,W,p.ne m hm,m12,Oy xm ev sm sz⟩
  let x' :D5:=AZ (if z∈m then xm z else x z)
  have ex1:∀z∈m,x' z=xm z:=ADp (Ch hz);show E2 ex0 (∀z∈ AHm,x' z=x z) (ADp (CM (PH (apart z q hz)))) gm (Amj x') (BDb cl ⟨ADp (yn0 cl hz (ev z hz)),sm,sz⟩ (ADp (ex1 z hz).cq)) gms (∀f∈AK' (EL),Gm Ο f x') (AaY (by
   rw[tk] at hf;rcases JJ hf with hf | hf
   ·exact BDb (G.sys u (AK3 hf)).1 (hg f hf) (ADp (ex0 z (ArT ⟨f,hf,hz⟩)).cq)
   ·show fA hf;exact gm)) ez (lE (YI KP) (YI (AV' xm))=YI (FB (.EI [Ag6,qD (x' h)]))) (by
   unfold lE;show k9
   ·simp
   ·intro j h1 h2;simp only [List.getElem_zipWith,ATc];rw[ex1 _ (Blg _)])
  show As (tD (lE (YI KP) (AY6 YI xm)) (AQP 4 5) (zi2 K c) _ _ (AnD AZd A'a));rw[ez];have fll:(AK' i).BDW+IB<=1000:=by
   have h1:(BRg).Pl:=by
    show BND (As1 DI ms) nd;exact nd.1
   have:=Km h1 (U:=U) (ADp (by
    show BKw hzf hz;obtain⟨r,g1,g2⟩:=G.hand (AK3 hf) hzf;rw[<- g2];exact hr r g1))
   show kl fl P1;show AA
  refine⟨fun j Γ=>∃(as:Cb) (y4 y5:Ic),Γ= [ř,ACZ (iy (AHm++ARw j) x'),AZd,A'a,y4,y5],⟨as,y4,y5,?_⟩,?_,?_⟩
  ·rw[List.take_zero,Y2,z3w fun z hz=>ex0 z hz]
  ·rintro j d _ hj ⟨as,z4,z5,Β⟩;have hj' :j<IB:=ϑ (QP hj)
   show AM5 (ABf hj') hj;cases (hj);have nn:m[j]∉ AHm++ARw j:=AZ (by
    rcases JJ z with z | z
    ·exact apart _ (yZ hj') z
    ·show A1b ndm;show fS q hq (ATK z);rw[v6] at hq;rw[Bny] at e;exact A9 q j Η hj' Η e)
   refine⟨Β,Β,XL as _,.BO m[j],as,_,Aj8 fun h=>qD (x' h),Β,Β,?_,?_⟩
   ·show ANh P1 v6;show AA
   ·refine⟨as,i_ m[j],.pu BPu,?_⟩;show US [Slot.pu (gq Ο),ATb as (T.dic (jx (Aj8 .BO) (FM m[j])) (pd (gj (Aj8 .BO) (AY6 Aj8 x') (FM m[j]) BPu).map)),_,_,_,_];rw[z17 nn,ĥ,<- zpj hj']
  ·show AiJ as z4 z5;rw[C6,wf,<- fl];exact⟨as,x',_,_,_,_,gms,Β⟩
 ·rintro _ ⟨as,x,y2,y3,y4,y5,hg,Β⟩;show BNB hg;exact h ms x ⟨G,A'T ev,A'T em,A'T sz⟩
theorem Lean.uniq(Bcq)(A:uv)(B:BPP):ms=vq /\∀h∈Abt,x h=x' h:=by
 have e:=A.g.uniq B.g (Da Iff.rfl);subst e;refine Hb Ani;show BI m hm hx AtN hh;show ARa A.g.pi;have all:WI (∃m∈ms,AHw):=mB (by
  show fS S hS Az6;exact BLX ⟨S,hS,BS4⟩)
 refine z67 (xt hr ?_) (xt hr ?_) (A.em m hm) (B.em m hm) (AV C hC hx) (fun g hg=>A.g.hand hm hg) h hx
 ·obtain⟨m,hm,h⟩:=all r hr;exact A.ev m hm _ h
 ·obtain⟨m,hm,h⟩:=all r hr;exact B.ev m hm _ h
 ·refine p.min C (FY S hS hx b hb) m hm hx;show EM a ha ca hx;show EM r hr e (F.of S hS);show Fh r1 h1 h2 h3 (AaK a ha);obtain⟨r2,g1,g2,g3⟩:=AaK b hb;rw[<- g3];exact hC r1 h1 r2 g1 (BFw g2.symm) (ET h3 ca)
theorem yno{n:Δ}(a b:Ρ):mU QQ (gl a) (gl b):=by
 show AbZ;show BMF;cases q1:a[i]? with
 | Ι=>show BCW
 | Ε u=>
  cases q2:b[i]? with
  | Ι=>show MO q2 h2 h2 h2 h2 h2 h2 h2 h2 h2 h2 h2 h2 h2 h2 h2
  | Ε v=>rw[q1] at h1;rw[q2] at h2;show Abk;show AqX;show AxY
theorem zt3{n:Δ}(AKI):mU n AD_ (II j):=by show AxY
theorem z0f(AYe):Tx (a++b)=a.length+b.length:=JO BGj
theorem yfk{α:CH}{f:ADj}{xs:CO}{k:Δ}(h:k<BN):ka YU f F8 (f xs[k]):=jP (Akp lT)
theorem zj7{x:Κ ->D}{h:Κ}:∀{hs:Ρ},gM AYC (OM x) Ϩ=if ϩ then Ε (x h) else Ι
 | []=>Β
 | g::hs=>by
  rw[FA,FA];unfold gM;by_cases q:g=h
  ·rw[Ch (by rw[q]),Ch (ET q AAa),q]
  ·rw[CM (Ev (Ay3 q)),zj7 (hs:=hs)]
   by_cases p:ϩ
   ·rw[Ch p,BHz AAj p]
   ·show gu p (AZ (by
     rcases Af8 with z | z
     ·exact q wc
     ·exact p z))
theorem wj.sz{N:Δ}{d:Ω}{q:AM}(h:AZ5)(d0:d≠0)(bd:dB d<=N):Sz N q:=by
 show AJk t bt;exact QV d0 bt bd
theorem wj.up{M N:Δ}{d:Ω}{q:AM}(h:wj M d q)(l:M<=N):AZ5:=by
 show QY t e bt;exact⟨t,e,zP bt l⟩
theorem wj.add{N:Δ}{d:Ω}{p q:AM}(h1:wj N d p)(h2:AZ5):wj (N+1) d (p+q):=by
 show bv t bt h1;show bv u bu h2;refine C9 (t+u) (by rw[AtK,NS,NS,NS,Rat.add_mul])
 have:=zim t u;show AA
theorem ArV{N:Δ}{d:Ω}:A9q AZ5 (wj (N+Fs) d (fJ qs))
 | [],_=>⟨0,by show BS 0=AEZ/_;rw[NS];show BS 0=0*_;rw[Rat.zero_mul],K2⟩
 | q::qs,h=>by
  have h1:=ArV (qs:=qs) Alv;exact((h q zY).up (Bnv _ _)).add h1
theorem wj.less{N:Δ}{d m:Ω}{q:AM}(h:AZ5)(d0:d≠0)(bd:dB d<=N)(hm:m.natAbs<2^100):wj (N+101) d (BS m - q):=by
 show AJk t bt;refine C9 (m*d - t) ?_
 ·have dz:Ali:=AZ (AjW d0)
  rw[ATi,NR,NS,NS,BmP,BmP,Rat.add_mul,w4,BlI dz,AMH,Rat.neg_mul]
 ·have:=zm1 (m*d) t;have:=Fg m d;have:=kY hm;show AA
theorem Lean.mem(Bbu)(G:uv){r:Rw}(hr:AQS):Ct∈Abt:=by
 show ARa G.g.pi;show fS T hT Az6;show BI f hf hx BLX ⟨T,hT,BS4⟩;exact ArT A3x
theorem Eh.small(A8d)(G:AOx){U:Ρ}{n:Δ}(hU:AGu<=n)(hr:WI (Ct∈U))(BYn):IB<=n:=
 zP (Km (Ot (G.sr m hm)) BeV) hU
theorem Ov{c:Θ}[BGq c]{a b:Θ}(h:¬c)(k:b):BU9:=CD AD' k
theorem Rz{c:Θ}[BGq c]{a b:Θ}(h:c)(k:a):BU9:=CD AJL k
theorem z5k{l:A2}(h:1<=D9):∀q∈ce l,q∈l:=by
 intro q hq;unfold ce at hq;split at hq
 ·show Bkz hq;subst hq;exact Ul Η
 ·show ARb hq;rcases hq with Β | Β
  ·exact Ul Η
  ·exact Ul Η
theorem z24(l:A2):C7 ce l<=2/\ce l≠ []:=by unfold ce;split<;>simp
theorem gB.look{c:Cls}{S:gB}{b:AJP}:∃fs xs,AZq= .obj GL fs xs/\AQr AR9 AKu/\AQr LA AAd/\AQr Pe Aqu/\AQr AGD AR6/\AQr cf AR4/\AQr ci AR5/\ AkI AAh/\ AkI ā/\ AkI MU/\ AkI ck:=by
 cases b with
 | Ι=>exact Bhd
 | Ε d=>exact Bhd
theorem zmn(B1 YH):Sm ze8:=by
 obtain⟨S,b,hand,ks,ys,Β,hk,hq⟩:=h;obtain⟨fs,xs,e,h1,_⟩:=AnK;rw[e];exact⟨Β,AKu,h1,ks,ys,hk,Ψ,.BO hand,Β,hq⟩
theorem yht{ks:GH}{ys:AQ}{k:Key}{d:D}(h:A5g ys):AQu:=by
 induction ks generalizing ys with
 | DL=>cases (h)
 | AY a r ih=>
  cases ys with
  | DL=>cases (h)
  | AY y ys=>
   show De gM;unfold mq;by_cases q:a=k
   ·simp [q]
   ·simp only [q,AAw,ATE] at h;have:=ih h;unfold mq at Τ;simp [Τ]
theorem zj0(B1 YJ):Sm zd1:=by
 obtain⟨S,b,YN,ks,ys,Β,hk,hw,hq⟩:=h;obtain⟨fs,xs,e,_,h1,_⟩:=AnK;rw[e];refine⟨Β,AAd,h1,ks,ys,.BO YN,hk,Β,?_⟩;rw[hw];exact hq
theorem zrp(B1 Uc):Sm zg1:=by
 obtain⟨S,b,YN,ks,ys,d,Β,hk,hl,hq⟩:=h;obtain⟨fs,xs,e,_,h1,_,_,_,_,nm,_⟩:=AnK;rw[e];have hh:mq ks AjJ=Μ:=yht hl;refine⟨Β,nm,S,b,YN,ks,ys,AOH,hk,hh,?_⟩
 exact⟨Β,AAd,h1,ks,ys,.BO YN,d,hk,Β,hl,hq⟩
theorem zox(B1 YK):Sm zgw:=by
 obtain⟨S,bs,YN,ks,ys,d,Β,hk,hl,zd,zb,hq⟩:=h;exact⟨Β,Ca bs,Β,Β,DB,S,Ε (Ca bs),YN,ks,ys,_,Β,hk,hl,bs,d,Β,zb,zd,hq⟩
theorem zpe(B1 Rm):AQm zgt 1:=by
 obtain⟨S,ws,v,bs,Β,em,so,l64,zv,zb,hq⟩:=h;have s1:=vp;obtain⟨fs,xs,e,_,h2,_,_,_,_,_,_,n1,n2⟩:=Bib (Ε (Ca bs));rw[e];refine⟨Β,AAd,h2,ws,Akq ACP,AYI,Ot so,l64,AV ms pm so2⟩
 show HA (ms=ws) (TV Ut so2 so (OF pm.mem_iff));refine Kz KP (rh AbR) (bc w hw) hq;have lk:gM (oP .BO) (oP fun w=>ACP) (FM w)=Ε AmM:=KE (zj7 (x:=HG ACP)) (Ch hw)
 refine⟨Β,n1,S,_,w,oP KB,BPd,_,AOH,AYI,lk,Β,n2,S,bs,w,oP KB,BPd,v w,AOH,AYI,lk,zv w hw,zb,?_⟩
 exact⟨AHX 3,hp⟩
theorem z9n(L:Ρ)(f:AM'):pY (vT .BO) (vT (FB (AXH h)))=vT (FB (.EI BOf)):=AY8 pY List.zipWith_map List.zipWith_self
theorem z9k(ApZ):D.dik AYC (j6 (BNb .LY))=vo hs x:=aS Rx
theorem zqp{α:CH}(f:α ->T):BXD pK (fun a=>mD (f a))
 | []=>N1
 | FC=>by rw[FA,pK,zqp f l];rfl
theorem zxa(ApZ):mD (iy hs x)=vo hs x:=by
 unfold iy mD;rw[IG,zqp]
 rfl
theorem lJ.dn(c:Cls)(S:lJ)(b:AJP):mD (lJ.t c S b)=gB.d c S.pl b:=by
 (show AfS)<;>simp only [lJ.t,lJ.ts,gB.d,lJ.pl,gB.xs,mD,pK,ww,AGv]
theorem yf3{α:CH}(f:GE):ADn (jf (E3 fun a=>qD (f a)))
 | []=>ADv
 | FC=>JO ⟨BW6,yf3 f l⟩
theorem z2l:∀l:Ρ,jf (E3 KP)
 | []=>ADv
 | FC=>CD FA ⟨CY ou,z2l l⟩
theorem yni(AQY):ou (qD q):=BW6
theorem ymb(AJv):í BeK (a=b):=by
 by_cases q:a=b
 ·rw[q,Ajw];exact Hl _
 ·show AJN q;cases e:BeK with
  | AG=>rfl
  | Μ=>exact lf ylx (yfb _ _ e) q
theorem ygw(Bfa):Ly BLw:=by
 show C8 (tK _);unfold Ma;induction ws with
 | DL=>trivial
 | AY w ws ih=>exact⟨⟨ADv,yni _,ADv,ADv⟩,ih⟩
theorem yfa(l:AQ):toD (Agw E3)= .By l:=AEc toD Rx
theorem yon(ws:Ρ)(K:Ks)(V:Vs):mD (.dic AgD (AIL FH A'k))= AY5 FH FH A'k:=AY8 mD IG zqp
theorem zn8{qs:A2}{i:Δ}(h:i<Fs):AHc i 0∈qs:=Amo (Ul (ET QZ h))
theorem yh0(B1 Ub):à ztn:=by
 obtain⟨r,qs,g,Β,hg,hl,hz,hr,hs,h⟩:=h;refine ŕ r;have z4:AZB qs:=A9u hz
 have ls:=QZ qs;refine AEI (BIW< AxR);show AXt;unfold Gn rQ at h;by_cases hf:BM8
 ·show ό hf;show DJ BVc
  exact⟨DB,h⟩
 ·show l6 hf;show HL h1 (1<=Fs) (by split at hf<;>(show w9)) ne (qs≠ []) (AZ (by rw[z] at h1;show AE h1 h1 h1 h1 h1 h1 h1 h1 h1 h1 h1 h1 h1 h1)) (Ov BVc AXf)
  rcases hr with Β | Β | Β
  ·show l6 (AZ (sP (z.1).cq));refine Rz BNI ⟨qs,Β,hl,z4,hs,?_⟩
   show BD ne;exact h _ .mean
  ·show l6 (AZ (sP2 (z.1).cq));refine Ov (A6v sM) ⟨AUq,Rz BNI ?_⟩
   have mz:∀q∈A5K,AOb:=kg (hz q (Amo BXb))
   have ml:=z24 (jO qs);refine⟨qs,Β,hl,z4,jO qs,Β,Υ,A5K,Β,Υ,A9u mz,ygx mz ml.1,?_⟩
   rw[CM ml.2,xM];exact h _ .mid
  ·rw[EF] at hf;show BE (Ov (A6v sP) ⟨AUq,Ov (A6v sP2) ?_⟩) ⟨qs,Β,hl,z4,jO qs,g,Β,Υ,Υ,kg (hz q (Amo hq)),hg,?_⟩
   rw[ls];by_cases hw:Fs=2/\BYf
   ·show ό (Hb hw);show DJ hw;exact h
   ·show l6 (AZ (hw z.2));show BD hw;intro b hb;have hb1:=hb.lt;have mem:∀q∈ Aae,AOb:=by
     intro q hq;show ARb hq;rcases hq with Β | Β
     ·exact BRF
     ·exact BRF
    refine⟨Aae,Β,DC,A9u mem,ygx mem A7,?_⟩
    show BD A7
    have e:fJ Aae/ ER (Aae:A2).VM=(AHc b 0+ AHc (b+1) 0)/2:=by
     show AX4 A1y 2=_;rw[AGA];rfl
    rw[e];exact h _ (.pair b hb)
theorem rR.some{qs:A2}{r:Κ}{v:AM}(ne:qs≠ [])(h:A5W):∃l:A2,l≠ []/\D9<=Fs/\ (∀q∈l,q∈qs)/\v=fJ l/ AVx:=by
 have h1:=AFy ne;have ls:=QZ qs;cases h with
 | mean=>exact⟨qs,ne,NF,fun q h=>h,Β⟩
 | mid=>
  refine⟨A5K,(z24 _).2,?_,kg ((Od qs).BGS BXb),xM.symm⟩
  unfold ce;split
  ·exact h1
  ·show C8 (2<=_);show AA
 | pair b hb=>
  have hb1:=hb.lt;refine⟨Aae,DC,AON (2<=_),AWe,?_⟩
  ·show ARb hq;rcases hq with Β | Β
   ·exact zn8 Η
   ·exact zn8 Η
  ·show As (_=AX4 A1y 2);rw[AGA];rfl
theorem z6u(BBT):zn Ej x L f=Aqv:=AJR
theorem CV.lv(Bg4):Ap8 837 (∀q∈A3K,wj 837 d q):=by
 show AKi O.cd;refine⟨d,d0,Υ,AWe⟩
 show kC h hh hq;exact(hd h hh).less d0 bd (O.mm h hh)
theorem rR.ok(BhH v)(O:CV x L f)(ne:L≠ [])(h:rR (Ej x L f) r v):Sz 900 v:=by
 have ll:=z6u x L f;have few:=O.few;obtain⟨l,ne,len,CA,Β⟩:=h.some (qs:=A3K) (AZ (ne (List.map_eq_nil_iff.mp z)));show AKi O.lv;have l0:pV D9:=NA (AFy ne)
 have l1:Lm D9≠0:=AZ (AjW l0)
 have s:Sz 849 (fJ l):=((ArV (kg (hd q (CA q hq)))).up Η).sz d0 Η
 exact(z8c s (P_ zs2 AVx n 4 (kY Η) Ψ) l1).up Ψ
theorem zyt(BhH g)(h:rQ r g (Ej x L f)=Ι):L≠ []:=AZ (by
 subst z;show De rQ;show ό (by show C8 (0<_);split<;>decide)
 show HI)
structure abJ (Ν):Θ where
 a:n6 K vE
 f:n6 K þ
 aa:BO9
 fa:BQd
 ff:BLc
theorem CV.szs(Bg4):zn Ej x L f<=1000/\ (∀q∈A3K,AOb)/\∀k,AvM (Ej x L f).ie:=by
 show AKi O.lv;have ll:=z6u x L f;have few:=O.few;exact⟨Υ,kg (((hd q hq).sz d0 bd).up Ψ),N_ (((ArV (kg (hd q (AK3 hq)))).up (N:=849) Bjc).sz d0 Η |>.up Ψ)⟩
theorem zk1(Ba4 abJ YL):XU ze0:=by
 obtain⟨S,b,YN,L,f,p,Β,e1,e2,e3,e4,O,H,hq⟩:=h;have s1:=vp;obtain⟨fs,xs,e,h1,h2,h3,h4,h5,h6,_,nl,_⟩:=AnK;show AKi H.cd;refine APE (pY (vT .BO) (vT fun h=> (AXH h)));rw[z9n];refine AEd Kz (fun h:Κ=>D.tup BOf) (PP BRm) h hh AQF
 ·refine C3 AP_
  rw[e];refine⟨Β,nl,S,b,h,ArW KB,ArW fun h=>qD (p.x h),AOH,aS e1,?_⟩
  have ex:(gM (ArW .BO) (AY6 ArW p.x) Ϩ).dL BHP=qD (ÿ h):=by
   rw[zj7 (x:=AV' p.x)];unfold Hs.xf;split
   ·rfl
   ·show C8 (D.tup (AMn 0 1)=qD AEZ);rw[QX]
  rw[ex];exact⟨BS (f h),ÿ h,NE QX,A'7 (kY (H.mm h hh)),((hd h hh).sz d0 bd).up Ψ,hp⟩
 rw[e];have el:(vT fun h=>BRm)=(Ej ÿ L f).map qD:=AZz Ej
 rw[el];refine⟨Β,AR6,h4,?_⟩;rw[e4];refine⟨Β,DB,Β,AR4,h5,Β,AR5,h6,?_⟩
 rw[e2,e3];refine⟨p.r,Ej ÿ L f,p.g,Β,O.g,H.szs.1,H.szs.2.1,O.r,H.szs.2.2,?_⟩;unfold Gn at hq⊢;cases eb:rQ p.r p.g BZS with
 | Ι=>
  show Q2 eb hq (fun v hv=>⟨p.ps,v,Β,O.sc.len,O.sc.gd,O.sc.sz,(hv.ok H (zyt eb)).up Ψ,hq v hv⟩)
 | Ε f=>
  rw[eb] at hq;cases f with
  | Μ=>exact⟨Ff D_,C.a,Rz C.aa (ϯ hq)⟩
  | AG=>exact⟨Ff D_,C.f,Ov (Awg (¬(j_ þ vE)) C.fa zK) (MR C.ff _ hq)⟩
theorem zvy(B1 Ue):P5 zj8 5:=by
 show GG i m hm h h;refine⟨K2,BH0,AMv,AJ9 (∃(xs:Bz) (n:Ω) (y:Ic),Γ= [F6 i,ACg,.ow BHt,AII,y]/\BN=k/\ BTz/\0<=n/\n<2147483647),⟨[],_,_,Β,Β,ANc,BNj.1,BNj.2⟩,?_,?_⟩
 ·rintro k _ hk ⟨xs,n,y,Β,hl,hx,n0,n1⟩;have:=jS (n*48271+12345) 2147483647 Ψ
  refine⟨AQT,BH0,D_,Al7 vp,xs++ [(n*48271+12345).OL 2147483647],_,_,AzS,CY hl,Cf x hm,Τ.1,Τ.2⟩
  rcases JJ hm with hm | hm
  ·exact hx x hm
  ·show Bkz hm;subst hm;exact Τ
 ·rintro _ ⟨xs,n,y,Β,hl,hx,_⟩;exact h xs (AOQ hl) hx
theorem yal(B1 Ug):XU zsy:=by
 obtain⟨i,j,Β,b1,b2,hj,h⟩:=h;have hj0:AJS:=Υ
 rw[<- ylq hj0] at h;refine C9 (fun m Γ=>∃a b:Ω,Γ= [F6 i,F6 j,F6 a,F6 b]/\0<=a/\0<=b/\m=AeM/\BXA) ⟨_,AbK,j,Β,by show Ö,Υ,Β,?_⟩
 ·have e1:AbK=CB Aru:=by show Ö
  rw[e1];simp [Tb]
 rintro m _ ⟨a,b,Β,ha,hb,Β,hg⟩;refine AEI (0<b);by_cases hz:0<b
 ·show DJ (CC hz)
  have h0:AHg:=Υ
  refine⟨h0,_,zfg h0,b,AGt b,Β,hb,?_,Β,KE z2r hg⟩
  rw[BlH hb];exact BGu _ h0
 ·show BD (CC hz)
  have:b=0:=Υ
  show gE;rw[Bls] at hg;have e:a=dv i j:=by unfold dv;show ADL;show AA
  show D1 d0 d1 (Ú zv1) hj0;subst e;exact⟨Bac,Bac,AhJ,h⟩
theorem z3k(B1 Rn):Sm zq3:=by
 show AO' b Β a1 a2 b1 b2 h h;refine⟨_,at0,_,at1,AZj,_,at0,_,at1,AoM,?_⟩;rw[ybp] at h;exact h
theorem zxf(B1 Uh):XU zlg:=by
 show ApG;refine AYp K2 (Bke BOq i) ⟨[],_,_,Β,Β,DC,AS8⟩
 ·rintro i d _ hi ⟨l,x,y,Β,hl',hp,hs⟩;rw[GN] at hi;cases q:qs[i]? with
  | Ι=>show Aqa
  | Ε a=>
   rw[q] at hi;show AU5;have hil:i<Fs:=QP q;show E2 llen (D9=i) BQh lz BQx Bd2 az (SD a) (hz a (zA q)) last (∀k:Δ,Az9 ->cnt a l=k ->ze7 K c (AT5 (D3 Q) Bbr Bbr (ANg (V' zha B5))) BQo Th) (by
    intro k hk hc;refine⟨D_,Υ,APQ,Al7 vp,qb l a,AhQ,Afl,?_,?_,?_,z13 hs⟩
    ·show As ([_,Slot.ow (Lf ŋ A1L (qD a)),_,_]=_);unfold Lf qb;rw[da,OT,FA,ArB,Acu,hc]
    ·rw[AL0,q,Bl4,<- hl'];rfl
    ·rw[AL0,q];show Be9)
   refine C9 (fun m Γ=>∃k:Δ,Γ= BQo/\Az9/\m=D9 - k/\∀j (h:Ayh),j<k ->¬a<l[j]) ⟨_,0,Β,K2,Β,fun j _ hj=>Υ⟩
   rintro m _ ⟨k,Β,hk,Β,A6⟩;refine AEI (F8< ϻ);show AXt;by_cases hkl:k<D9
   ·show DJ (CC hkl)
    show PY ⟨qD l[k],WC jP hkl,a,l[k],Β,az,lz _ (yZ hkl),?_⟩ (AYv a l[k]);by_cases hw:a<l[k]
    ·show BD ſ
     exact last k hk (z8o hs hk A6 (Ff hw))
    ·show DJ ſ
     refine⟨D9 - Eg,Υ,k+1,Β,Υ,Β,AV j hj hjk⟩
     by_cases ej:j=k
     ·subst ej;exact hw
     ·exact A6 j hj Η
   ·show BD (CC hkl)
    show UI k D9
    exact last _ Kt (z8o hs Kt A6 (FB (É h)))
 ·rintro _ ⟨l,x,y,Β,hl',hp,hs⟩;have e:l=jO qs:=BXl
  subst e;exact h
theorem abK:∀r,r<26 ->Iq BL3 r (97+r):=Χ
theorem z79:C7 AdU Aqw=26:=Χ
theorem zm4(AYe):BXZ a b BDc:=by
 show BXZ a.cps b.cps toList;exact Array.toList_append
theorem ycv:Bjr ""= []:=Χ
theorem yfm{i:Ω}:lB BL3 (ALU 26)=Ε (97+ A4Y 26):=by
 have:=jS i 26 Ψ
 have e:ALU 26=ER (A4Y 26):=Υ
 rw[e,da];exact jP (abK _ Η)
theorem yab(f:ac):∀l:CF,(rK BQg).BDc=E3 f/\wC BQg=D9
 | []=>Å
 | FC=>by
  show AKN (yab f l);rw[FA];unfold rK wC;rw[zm4,h1,h2];exact Hb (BDL _ _)
def wJ(n:Ω)(j:Δ):Ω:=(((AGQ 192).ĩ (Ì+1))+5* Ì* Ì).OL 26
def fcV(n:Ω):Ω:=1+ (A4' 64 3)*2
def cdV(n at_:Ω)(k j:Δ):Δ:=97+ ((wJ n j+fcV n* F8* (AQl (BPx at_))).OL 26).toNat
theorem zyn(B1 Ud):P5 zm5 10:=by
 show GG n m hm h h;have line:Ay2:=DB
 let L:Κ:=ACN Aqw
 have hsz:=jS n 8 Ψ
 show pV 8/\_;refine C3 DB
 show BI sz esz hs1 (P_ Rq n n 8) Ψ
 have abL :n.fmod 8=CB sz:=esz
 change V' zi5 [AII,ACg,AVF,ANU (n.fmod 8),DO,DO,DO,DO,DO,DO]
 rw[abL];refine C9 ⟨DB,AN6 5 Ψ⟩ Υ
 show BI at_ eat hat (P_ Rq (AGQ 8) n (1+sz)) Η
 change V' ziy [AII,ACg,AVF,ANU sz,F6 (A4' 8 (1+sz)),DO,DO,DO,DO,DO]
 rw[show(AGQ 8).OL (1+ CB sz)=CB at_ by rw[<- eat];rfl]
 have bs8:∀(P:T0),P (MG 8 (E7 (.AN ANe))) ->cG (Fy d4 eO BfK [DO,AII]) (Z3 8 Aic (.AN (0+k))) P:=by
  intro P hP;refine Ky (B6 Aic (E_ (0+k))) (N2 (.AN ANe)) (bc j hj) hP;have hj8:=R_ hj;refine⟨A5d,ABo (AN6 8 Η),A0m,A0m,Azd 26,?_⟩
  rw[ALC];exact hp
 show BE (C9 ⟨DB,DB⟩ (Aef 8)) (bs8 _ ?_)
 change V' zi4 [AII,ACg,AVF,ANU sz,F6 at_,J_ (ANE 8 ANe),DO,DO,DO,DO]
 refine C3 K2;have abM:UE 8 (T' A7P (II ANe)):=XA (CY hj)
 let B:AU:=fW (II (A4' 24 5)) Aeo
 let nmC:Mm CF:=N_ (GT B (MG Eg (N2 Apv)) (MG (1+sz) (cdV n at_ k)))
 let INV:AYs:=AJ9 (∃(xs:Ρ) (x1 x2 x3:Ic),BN=k/\ (A7b (BGi=nmC i))/\Γ= BRT x1)
 refine AJ4 INV ⟨[],_,_,_,Β,Jn z (by simp at z),Β⟩
 ·rintro k _ hk ⟨xs,x1,x2,x3,hxs,hx,Β⟩;have hk8:k<8:=Υ
  show ADf (zh6 K c _ (BRT AXg) _) ALC (AJ4 (fun j Γ=>∃nm x3,AsE nm=j/\BmR=MG j (cdV n at_ k)/\Γ= A9Y nm x3) ⟨ACN "",_,Χ,ycv,Β⟩)
  ·rintro j _ hj ⟨nm,y3,hl,hnm,Β⟩;have hj8:j<8:=Υ
   show As (zes K c _ (A9Y nm (F6 (0+ Ì))) _);rw[ALC];have f3:=jS (AGQ 64) 3 Ψ
   unfold zes;dsimp only [aG,cI,cC,cV,cB,cT,rB,Hg,lW,qy,Fb,sZ,Fd,ak,aj,dY,fH,cY,tu,aY,wR,fj,aV,fQ,AGl,iT,bG,iU,Ab,Ac,aC,cU,iR,jT,d8,jr,d9,gR,dW,Fl,Fo,Bx,Fq,Nh,K7,yx,uG,DP,bT,wI,Fi,J9,nM,K8,SX,lZ,Ft,wV,Ad,Fw,AAu,AMA,AMC,AR',ABP,qC,qt,BK,La,BL,wW,Ae,wB,tE,oh,yD,wX,zc,Kc,qG,BP,iV,rE,Li,S8,Im,FQ,FT,iL,mV,nO,Cq,eO,AGr,ASA,ww,AGv];refine XT (jP (abM j hj8));refine⟨A5d,DB,AQT,A0m,Aiw,?_⟩
   dsimp only [aG,cI,cC,cV,cB,cT,rB,Hg,lW,qy,Fb,sZ,Fd,ak,aj,dY,fH,cY,tu,aY,wR,fj,aV,fQ,AGl,iT,bG,iU,Ab,Ac,aC,cU,iR,jT,d8,jr,d9,gR,dW,Fl,Fo,Bx,Fq,Nh,K7,yx,uG,DP,bT,wI,Fi,J9,nM,K8,SX,lZ,Ft,wV,Ad,Fw,AAu,AMA,AMC,AR',ABP,qC,qt,BK,La,BL,wW,Ae,wB,tE,oh,yD,wX,zc,Kc,qG,BP,iV,rE,Li,S8,Im,FQ,FT,iL,mV,nO,Cq,eO,AGr,ASA,ww,AGv];have hb1:dB (M_ (BPx (CB at_)) 1)<=64:=by split<;>exact AN6 1 Ψ
   show BE ⟨Aey hb1,Azd 26,_,BZh,yfm,?_⟩ ⟨AON (D' (nm.length+1)),_,_,?_,?_,Β⟩
   ·rw[z0f,hl];rfl
   ·rw[zm4,hnm,AGI,OT];rfl
  ·rintro _ ⟨nm,y3,hl,hnm,Β⟩;have ej:I_ (km+sz)=1+sz:=Υ
   rw[ej] at hl hnm;have last:∀(D:uc) (nm' :Κ),VC=INV Eg ->nm'.cps.toList=nmC k ->zf3 K c D
     (A9Y nm' y3) Th:=by
    intro D nm' eD hn';refine C9 D_ APQ
    rw[eD];refine⟨xs++ [nm'],_,_,_,CY hxs,AV i x hi,AzS⟩
    by_cases hik:lx
    ·show BIr hik hi;exact hx i x hi
    ·rw[BHT] at hi
     cases hz:i - BN with
     | Re=>
      rw[hz] at hi;show AU5;rw[Fm (i=k)];exact hn'
     | Rl q=>rw[hz] at hi;simp at hi
   dsimp only;unfold zfy;dsimp only [aG,cI,cC,cV,cB,cT,rB,Hg,lW,qy,Fb,sZ,Fd,ak,aj,dY,fH,cY,tu,aY,wR,fj,aV,fQ,AGl,iT,bG,iU,Ab,Ac,aC,cU,iR,jT,d8,jr,d9,gR,dW,Fl,Fo,Bx,Fq,Nh,K7,yx,uG,DP,bT,wI,Fi,J9,nM,K8,SX,lZ,Ft,wV,Ad,Fw,AAu,AMA,AMC,AR',ABP,qC,qt,BK,La,BL,wW,Ae,wB,tE,oh,yD,wX,zc,Kc,qG,BP,iV,rE,Li,S8,Im,FQ,FT,iL,mV,nO,Cq,eO,AGr,ASA,ww,AGv];refine⟨A5d,Azd 5,Aiw,?_⟩
   show C8 AQJ;cases hB:B with
   | AG=>
    show l4
    refine last _ nm Β ?_;show As (BmR=AQJ);rw[hB,AEO];exact hnm
   | Μ=>
    rw[EF,Ch UT]
    have ec:Rs A7P Ι (Ε (F8+1))=MG Eg (E7 Avv):=by
     show AKP;simp only [C6,wy,ArG];show ADL
     rw[<- ArB,List.take_range]
     congr 2
     show AA
    show ADf (cG _ (Rs A7P Ι (Dx (F8+1))) _) ec (Ky (N2 Avv) (N2 (.AS (AOm Apv))) (bc j hj) ?_)
    ·exact⟨_,BZh,yfm,hp⟩
    ·obtain⟨c1,c2⟩:=yab (N2 Apv) (cv Eg);show BE ⟨MG Eg fun j=>(AOm Apv:Κ),AEq,AV6 c2 wy,?_⟩ (last _ _ Β ?_);rw[c1];show C8 (_=AQJ);rw[hB,EF]
 ·rintro _ ⟨xs,x1,x2,x3,hxs,hx,Β⟩;have em:I_ (CB m)=m:=Υ
  rw[em] at hxs;have f3:=jS (AGQ 64) 3 Ψ
  have len:A7b (AeJ=GT B EL (1+sz)):=fun i x hi=>by
   have e:=NJ AAu (hx i x hi);rw[vn] at e;refine(?_:x.cps.size=_);rw[e];show(AQJ:CF).VM=_;cases (B)<;>simp
  have lt:A7b (i<m):=fun i x hi=>(NA l9)
  refine h xs hxs ?_
  ·refine List.pairwise_iff_getElem.mpr (BcK e);have ei:=zZ hi;have ej:=zZ hj;have li:=len i _ ei;have lj:=len j _ ej;have xi:=hx i _ ei;have xj:=hx j _ ej;rw[e] at li xi;cases hB:B with
   | Μ=>rw[hB,EF] at li lj;show AA
   | AG=>
    have z:=xi.symm.trans xj
    change (AQJ:CF)=(AQJ:CF) at z
    rw[hB,AEO,AEO] at z
    have z2:=NJ (B6 l l[at_]?) z;simp only [GN,Bkp hat,BmC,Option.some.injEq] at z2;unfold cdV fcV at z2;rw[Hl,EF] at z2;have m1:=jS (wJ n at_+ BeG* JA*1) 26 Ψ
    show AFk m2 (wJ n at_+ BeG* Ì*1) 26
    have hj8:=lt j _ ej;rcases(Fm (A_J 0\/ A_J 1\/ A_J 2)) with q | q | q<;>rw[q] at z2 m1 m2<;>simp only [BlH (APg (O_<=26))] at z2 m1 m2<;>(show w9)
theorem rY.lb{Ο:C4}(O:AXw):sD:=by
 show A'y;have few:=O.few;refine⟨Υ,mB (zN (O.mm r hr) (Aqe Ψ Ψ)),HG ?_⟩
 have:=Km (zt6 O.u w) (AlK (by
  obtain⟨r,h1,_,e⟩:=AKo hy;rw[<- e];exact hr r h1))
 show DF Q8;show AA
theorem Lean.lv(Bbu)(G:uv)(O:AXw)(r:Κ)(g:AM)(ps:GB)(w:Κ):CV AM4 Œ Ae9:=by
 have L:=O.lb;show A'y;refine C9 (r6 Q8 L.wk w) Ani
 ·obtain⟨r,hr,e1,e2⟩:=AKo hh;show(yW Ο w h).num.natAbs<_;rw[<- e1,<- e2,T4 O.u hr,BmU];exact L.mm r hr
 by_cases q:kW Ο w= []
 ·rw[q];exact⟨1,DB,DB,AFZ (Ņ hh hh hh hh hh hh hh hh hh hh hh hh hh hh)⟩
 obtain⟨h0,hh0⟩:=List.exists_mem_of_ne_nil _ q;show Fh r0 m0 e0 e1 (AKo hh0);show EM m hm hx (AtN (G.mem m0));have cl:=(G.g.sys O.u hm).1 r0 m0 hx;show AKi (G.sz m hm);have n4:=G.g.small hU hr hm;refine⟨d,d0,zP bd Ayq,Ani⟩
 have hm' :Afm:=cl h (ET e0 hh)
 rw[show AM4 h=x h from Á ArT ⟨m,hm,hm'⟩];exact(hd h hm').up Ayq
theorem yev{qs:A2}{bd:F9}(g:AZa bd):BPs (vm qs bd) (k<=Fs):=RC (by
 obtain⟨_,hn⟩:=Ur qs;have g:=BmB g;show kC k hk hi;have hk:=R_ hk;show fS m hm (ZH (XC hn (XD hn g Eg Η).1))
 refine C9 m ZE;unfold fU at hm;show œ (Cn hm) hm
 ·show Azj
 ·show kC j hj hm;show AYl (APT hj);show DF Rt;exact Τ)
theorem ykc{l:Bz}{n:Δ}(h:BPs l (k<=n)):lH l= .By (B7 E3 AR7 intD)/\∀k∈E3 AR7,k<=n:=by
 refine ST ?_ k hk
 ·unfold lH;rw[IG]
  congr 1
  refine Aw7;obtain⟨k,Β,_⟩:=AkA
  rfl
 ·show kC i hi hk;show bv k q AkA;exact q
theorem yd4(BUK):Gp Œ Ae9= AY5 AYu ű Azi:=by
 unfold Gp
 congr 1
 unfold kW;rw[IG];refine Afq r hr;have hr:=ARz hr;show C8 (E_ (yW Ο w Ct).num=_);rw[<- hr.2,T4 u hr.1,BmU]
theorem ycj(BcM):B7 TZ Ei Ea=FH AjX:=by
 rw[ygb B u,IG,IG];refine Afq w _;show C8 (D.dik (AYu .BO) (j6 (B7 ű (am (E_ pf)) .LY))=_);rw[Rx,yd4 u]
theorem z8n:∀{ps:GB} {x:AM},AJ8 ->BKe ->A6p ->SD (uH ps x)
 | [],x,_,_,_=>⟨BHx 0,BHx 1⟩
 | [p],x,_,hz,_=>kD (hz p A7).2
 | Alx,x,hg,hz,zx=>by
  have zl:=hz l A7
  have zr:=hz r A7
  have sb:SD (Am l r x):=by
   have hn:AZ9≠0:=by have:=hg.1.1;grind
   have s4:=yff (LC zx zl.1) (LC zr.2 zl.2);exact(yft zl.2 (z8c s4 (LC zr.1 zl.1) hn)).up Ψ
  have ih:=z8n (ps:=r::t) (x:=x) hg.2 (fun p hp=>hz p (zX _ hp)) zx;unfold uH
  repeat' split
  all_goals first | exact (zl.2).up Ψ | exact sb | exact ih
theorem yg5{ws:Ρ}(so:A2K){i:Δ}(hi:i<LM){u:Κ}(hu:u∈ws)(h:Ľ u fg):u∈AjP:=by
 rw[<- Aid ws] at hu so;rcases JJ hu with hu | hu
 ·exact hu
 ·rw[BII] at hu so;have so:=(ALx (Bk7 so).2.1).1;rcases Cn hu with Β | hu
  ·show AWt z0k
  ·show L2 h (Ut _ _ (so u hu))
theorem z8p{K:AD}{c:Cls}{a:Ζ}{bs:Cb}{t ds Q Ex}(h:Oo c t ds Q Ex):zcp K c (Qs a Q) (ATe 8 Avg ds) A7N:=by
 obtain⟨Ο,ru,g,ps,bd,Β,Β,O,hru,zg,C,b0,b90,h⟩:=h;have s1:=vp;have L:=O.lb;have hl:=O.few;have uq:=O.u;show A'y
 let Z:Hk T T MQ D5 lJ:=fun sh mk ms x=>⟨.AS ru,qD g,CT c ps,vo Abt x,sh,mk⟩
 refine AmX
 show APH AmX ⟨Β,_,AV2,ps,Β,BTb C.sz C.sz,?_⟩ (AAj (z04 C.gd C.len)) AmX
 show APH ⟨Ο,U,Β,uq,L,Υ,hr,AV ms x G⟩ AmX z9k ⟨Ο,Β,Υ,AV mJ ps0 B⟩
 refine l7 _ (Cf t ht) ?_
 ·show AJE q (ZH ht);exact Ajh
 rw[ycj B uq];refine AvE (Sk cs)
 refine AvE (Sk cs')
 generalize esh:T.dic (AAe .BO) (B7 AAe AjX .LY)=sh;have dsh:mD sh= AY5 AAe AAe AjX:=kF esh (yon _ _) _
 have lw:=B.lw;refine⟨Β,mD sh,Β,mJ,AAe fun w=>Af2,aS dsh,AAm,Υ,fun ws pm so=>(C3 (z2l ws))⟩
 have nd:u_:=pm.nodup_iff.mpr AAm;have wm:Aow AXk:=HG (pm.mem_iff.trans (Ċ w));have wl:AW4 40:=ϊ pm.length_eq
 let p:Hs:=iY ru g ps ms x
 have P:p.Ok:=⟨hru,zg,C⟩;have lv:=G.lv O ru g ps;show EU hO h h ms x G;refine ue (∃(v:D5) (y6:Ic),Γ= [.tr (a::(bs++cs++cs')) (lJ.t c Bdj Ι),ř,i_ ru,AHs g,BYC,.pu (uh bd),y6,DO]/\∀w∈AjP,rQ ru g AlG=Ι/\rR AlG ru (v w)) (Lu Ū _ (ϸ (Ņ hw hw hw hw hw hw hw hw hw hw hw hw hw hw)))
 ·rintro i d _ hi ⟨v,y6,Β,hv⟩;have hi' :i<LM:=ϑ l9
  show AM5 AUW hi;show AE hi hi hi hi hi hi hi hi hi hi hi hi hi hi;have tk:=zpj hi';have hw:fg∈ws:=yZ hi';have ahead:∀u,isW Ο u ->Ľ u fg ->rQ ru g (Ju Ο ÿ u)=Ι:=fun u hu l=>(hv u (yg5 so hi' ((wm u).mpr hu) l)).1;have ATY:fg∉AjP:=AZ (by
   have:=nd;rw[<- Aid ws,AL9] at Τ;refine Τ.2.2 _ z fg ?_ Β;show BLI;exact zY)
  generalize fg=w at tk hw ATY ahead⊢;have isw:=(wm w).mp hw;refine⟨Β,DB,Β,mD sh,Β,AAe KB,AAe (rh Af2),.BO w,Af2,aS dsh,Β,KE (zj7 (x:=AjX)) (Á BmL hw),?_⟩
  refine⟨(Z sh BkT ms x).pl,Ι,w,ĳ,Į mW,p,?_,Β,Β,Β,Β,P,lv w,?_⟩
  ·show US [mD (lJ.t c Bdj Ι),_,_];rw[lJ.dn]
  refine(?_:Gn c ru g AlG _ _);unfold Gn;cases eb:rQ ru g AlG with
  | Ε f=>exact MR ⟨ADv,ADv,ADv⟩ _ (hO w f isw eb ahead _)
  | Ι=>
   intro q hq;have ev:up v w q w=q:=EF;have eo:∀u∈AjP,v u=up v w q u:=fun u hu=>(UH Pi (fun z:u=w=>ATY (z ▸ hu)));refine⟨yni _,.BO w,_,_,_,B7 Ac7 i KB,BNc fun w=>qD (uH ps AM0),Β,Β,Β,Af' v6,up v w q,i_ w,?_,Cf u hu⟩
   ·rw[tk,<- z17 (x:=fun u=>uH ps BbW) ATY,ev,show(BNc fun u=>qD (uH ps BbW))=B7 Ac7 i (HG (qD (uH ps AM0))) from BLS u hu (eo u hu)]
    rfl
   ·rw[tk] at hu;rcases JJ hu with hu | hu
    ·rw[<- eo u hu];exact hv u hu
    ·rw[ħ hu,ev];exact⟨eb,hq⟩
 ·rintro _ ⟨v,y6,Β,hv⟩;show BNB hv;have A:yJ Ο ru g ÿ ws v:=ϙ so wm hv;show EU hB h h ws v A;have zs:AN3 (SD (uH ps AM0)):=ϸ (z8n C.gd C.sz (((AKY hv).ok (lv w) (zyt (hv w hw).1)).up Ψ))
  let s:D5:=HG (uH ps (v w))
  refine⟨Β,mD (iy ws s),Β,AY2,Akq (qD (s w)),aS zxa,yf3 s ws,?_⟩
  have eq:(FH fun w=>qD (s w))=(um ps ws v).map qD:=AZz um
  have zq:AZB (ARQ v):=kg (by
   show Aa5;exact zs w hw)
  have ln:zn um ps ws v<=40:=BJW um wl
  rw[eq];refine⟨ARQ v,bd,Β,Υ,zq,Υ,Sk g1,fun g0=>(ϯ (hB g0 _))⟩
  obtain⟨g3,g4⟩:=ykc (yev g1);rw[g3];refine⟨ARQ v,_,Β,Υ,zq,?_,g4,?_⟩
  ·unfold vm;show A1a C6;exact b0
  refine⟨_,_,_,Β,DB,DB,DB,_,_,Β,?_⟩
  rw[<- esh];refine h g1 mJ ⟨P,so,Υ,Υ,HG pm.mem_iff.symm,fun b hb q e=> ?_⟩
  show kC k hk hb;exact zq q (zz5 (ynt (ET Rt (g4 k BNg)) e))
theorem z39(B1 YT):XU zq7:=by
 show ApG;have h:AYO (B7 fU ACJ intD):=by
  have h' :=h;unfold lH cM at h';show Q2 IG h' h'
 show PY (Ð qs Υ hz) (V' zgl (BPQ (J_ (AOg qD).AR2)));rw[<- BDP]
 change V' zgl (BPQ (eI (B7 mH qs)))
 have fl:=Rt qs;have fz:AZB (mH qs):=kg (hz q (zz5 hq));have s1:=vp;generalize hf:mH qs=f at*;refine Ayj
 show AbB A0O A0O;show yT da;refine AJ4 (AJ9 (Bju ((0::((List.range k).filter (jA f)).map (· +1)).map intD))) D_
 ·rintro k _ hk ⟨x,Β⟩;have FI:C7 BPb (jA f)<=k:=ABx (AeO (jA f) (cv k)) wy
  show HL yes (jA f k=Μ ->wX 2 zc (Ts AYy) (AT5 (D3 Q) BPZ BPZ (ACp (V' zk9 Γ))) (Avn ((0::((List.range k).filter (jA f)).map (· +1)).map intD) AXg) Th) (by
   intro he;refine⟨D_,by show BLC;show AA,AXg,?_⟩
   have e:((0::((List.range (k+1)).filter (jA f)).map (· +1)).map intD)=((0::((List.range k).filter (jA f)).map (· +1)).map intD)++ [.AN Ax3]:=by
    show BSs (Ch he);simp [intD,OT]
   rw[e];rfl) no (jA f k=AG ->∃(x:Ic),[Slot.pu (FG AUV),eI f.map,.ow ((0::((List.range k).filter (jA f)).map (· +1)).map intD),AXg]= Avn ((0::((List.range (k+1)).filter (jA f)).map (· +1)).map intD) x) (by
   intro he;have e:Alc Eg (jA f)=BPb (jA f):=by
    show BSs (CM (AJg he))
    simp
   rw[e];exact D_) AXf
  rw[Rp];refine AEI (0+ F8+1=A0O);show AXt;by_cases h1:k+1=Uf
  ·show DJ UT
   exact yes (by unfold jA;simp [h1])
  ·show BD UT
   have e1:Ax3=ER (k+1):=Υ
   have e2:ACm=ER k:=Υ
   show∃d,ka f.map qD Ax3 d/\∃d',ka f.map qD ACm d' /\_;rw[e1,e2,Y6 f (Fm (k+1<Uf)),Y6 f hk]
   refine⟨_,Β,_,Β,AkB,AJu,Β,fz _ (Q9 Η),fz _ (Q9 hk),?_⟩
   have eb:jA f k=TC (AkB<AJu):=by unfold jA;simp [h1]
   cases hw:Φ (AkB<AJu) with
   | Μ=>
    show Al2 (yes (eb.trans hw)) e2 Τ
   | AG=>
    show Al2 (no (eb.trans hw)) e2 Τ
 ·show AiI x;exact h
theorem ztv(B1 YW):P5 zi1 6:=by
 obtain⟨S,n,bs,Β,hl,hn,h⟩:=h;have s1:=vp;refine⟨_,hn,AIg,AIg,?_⟩
 show ADf (ApD A8') yfh (ue (BSW (Avw DI j)) AKc)
 ·rintro i d _ hi ⟨x,y,z,Β⟩;have hi' :i<bs.reverse.length:=ϑ l9
  show Aam eb (BG4 i af=oS[i]) (AkD AUW)
  rw[<- eb];obtain⟨b,hb⟩:∃b,b=BG4 i af:=D_;rw[<- hb];refine⟨Β,Β,D_,_,Mh,D_,?_⟩;show bj (cG _ (S.map E_) _) (Beb ((gk S n oS i).any fun EB=>rM b Anf))
  ·show bj (cG _ (Bbp i E_) _) (Mg E_ (B6 EB (rM b Anf)) (fun EB ho P' hp' => ?_) ?_)
   ·exact ylw (b:=b) (x:=EB - e) (R:=N_ (GT k (P' [.AN EB]) (P' []))) hp'
   ·refine BVs
    rw[z1i,z3x];exact hp
  ·refine C3 (by show Azy;rw[we] at hi';show AA)
   show∃x y z,_= [BS3,AWl,.ow (Avw (EL+1) j),x,y,z];show AO5 (Azs EL);subst hb;exact AKc
 ·show AiJ x y z;show yT we;refine(?_:AYO BPl);show XN z8r
theorem zrm(B1 YX):P5 zhx 9:=by
 obtain⟨S,n,bs,Β,hl,hn,nS,hg,h⟩:=h;have s1:=vp;have et:B7 ADe AzY E_=ADe (N_ (A'L Eg)):=AEq
 have ebl:uh bs= .By (AWk Ah9):=AEc uh ygk
 unfold lH;rw[et,ebl];show AbB BOU BOU;show ANh wy da;refine AJ4 (AJ9 (∃v w x y,Γ= [J_ (AWk (A'L Eg)),Ahm,J_ (AWk Ah9),J_ A9c,F6 Aui,v,w,x,y])) ⟨_,_,_,_,Β⟩
 ·rintro k _ hk ⟨v,w,x,y,Β⟩;rw[ALC];obtain⟨b,hb⟩:∃b,b=BN_:=D_;refine⟨_,Y9 hk,Β,Β,?_⟩;show∃d,ka AV3 _ (F8+1) d/\_;refine XT (Y9 (i:=k+1) Η)
  rw[<- hb];refine(?_:cG _ (Bbp AIP E_) _);refine Beb (rM b (e - AH_))
  ·exact ylw (b:=b) (x:=e - AH_) (R:=AZ (GT z (P [.AN e]) si)) hp
  have mm:BcB BdI:=al (by
   rw[u8,oF,<- hb];exact⟨fun⟨q1,q2⟩=>⟨XC nS q1,q2,q1⟩,fun(D4 q2 q3)=>⟨q3,q2⟩⟩)
  show EU m1 m2 z9v nS hg hk;have ne:BdI≠ []:=AZ (by
   have:=A8t;show DF z;show IN)
  refine BVs
  rw[z1i,AxZ ne];refine⟨_,Y9 hk,_,ANz,zig _,A8t,BWX,AUq,?_⟩
  rw[Rp,Ajw];exact BAr (Y9 hk)
 ·rintro _ ⟨v,w,x,y,Β⟩;rw[yfw nS hg];refine⟨_,hn,AUq,?_⟩
  rw[Rp,Ajw];exact h
theorem z2x{g:ac}(di:∀i j,i<=j ->g i<=g j)(a k:Δ):∀m,C7 (Alc m) (E7 (Φ (g j<=a)))<=k↔m<=k\/a<g k
 | 0=>DC
 | m+1=>by
  have full:g m<=a ->(Alc m fun j=>(Φ (g j<=a)))=cv m:=fun hm=>BmO fun j hj=>TN (zP (di j m (č (R_ hj))) hm);have ih:=z2x di a k m;rw[AGI,AK5,P1];by_cases hm:g m<=a
  ·rw[full hm,OV,Á TN hm,wy];exact⟨FB (.D6 h),FB (ě id (PH (BmW (AZ (i5 (zP (di k m z) hm) Nat.not_le.mpr q)))))⟩
  ·rw[OV,CM (CC hm),ArL]
   show As (_+0<=k↔_);rw[Nat.add_zero,ih];refine AJI (FB (.BO (ě (Ev (zN (BmW hm) (di m k z))) id))) (h.imp (Ev (ATF z)) id)
theorem zpl{α:CH}{p:ů}:Os l CO c Δ (AnR a (E4 l a ->í (p a) (i<c))) (ABT p=ATj c)
 | [],_,_=>DC
 | FC,0,h=>by
  have hn:∀x∈FC,¬(ABq p):=Ϲ (by
   show D1 i hi List.mem_iff_getElem?.mp hx;rw[h i x hi];simp)
  rw[ATl hn];rfl
 | FC,c+1,h=>by
  rw[OV,Ch (UU (h 0 a Β)),BG1,zpl (c:=c) fun i x hx=>by rw[h DI x hx];simp]
theorem zo3{f:A2}(hf:Fall f){at' :Δ}(hat:at' <Uf):∀{cs:CF},cs.Pairwise (· <= ·) ->(∀c∈cs,Ef f c) ->bB (cs.map (wD f)) A7n=C7 cs.filter (ň (Φ (c<=at')))
 | [],_,_=>Β
 | t8,hs,he=>by
  show AjL s1 s2 hs;have ih:=zo3 hf hat s2 (AMo c' hc' he c' hc');show Ϙ e1 (he c zY);show AiG bB;show AiD BDS OV;by_cases hc:c<=at'
  ·have hn:vF A7n (wD f c)=AG:=by
    unfold wD;split
    ·rfl
    ·have h1:=e2 Η Η
     have h2:=hf c at' hc hat;have:x_ at'<x_ AIx:=Std.lt_of_le_of_lt h2 h1;simp only [vF,Τ,decide_true,Bool.not_true]
   rw[hn,Ch (CC hc),GM,<- ih]
   rfl
  ·have hy:vF A7n (wD f c)=Μ:=by
    unfold wD;show ADL
    have h1:=hf at' AIx Η Η
    have:¬x_ at'<x_ AIx:=BpR h1;simp only [vF,Τ,AtA,BpC]
   rw[hy,CM (CC hc),ATl]
   ·rfl
   ·intro c' hc';have:=s1 c' hc';simp;show AA
theorem ye0{f:A2}{e:Δ}(h:e∈fU f):Ef f e:=by
 show De fU;show œ AEH h
 ·exact AJI K2 (É h)
 ·show zS k hk (ZH h);show Am' hk;show AYl h1;refine ST Υ _ A6
  unfold jA at h2;simp only [BDO,AGn] at h2;rcases h2 with h2 | h2
  ·show w_
  ·simpa using h2
structure jB (qs:A2) (bd:F9) (F:ac):Θ where
 cut:vm qs bd=MG KM (N_ (CB AI'))
 up:∀i j,i<=j ->j<=KM ->F i<=F j
 en:A2p (Ef ACJ (F k))
 la:F KM=Fs
theorem yhi{qs:A2}{bd:F9}(g:AZa bd)(b0:On bd (0<=b.1)):∃F,A'I:=by
 have nS:=A6N;show E2 hg (O_∈Aga gk ArY KM) (BLG g g) mS (A2p (A5j∈AP6)) (fun k hk=>XC nS (XD nS hg k hk).1) nat (A2p (∃e,e∈fU (mH qs)/\A5j=CB e)) (Ake (by
  obtain⟨e,he,z⟩:=ZH (mS k hk);exact⟨e,he,wc⟩)) st (∀k,AvL ->A5j<=Aga fk bd Eg) (Ake (by
  have m1:=(z9v nS hg hk).1;have w:=(oF.mp m1).2.1;unfold rM at w;have hb:=b0 (bd.getD k af) (by show ϗ (ABf hk);exact yZ hk)
  show Al1 w;show AA))
 refine⟨N_ (fk ACS Fs bd k).toNat,?_,?_,?_,?_⟩
 ·unfold vm;refine Afq k hk;obtain⟨e,_,h⟩:=nat Eg (R_ hk);rw[h];rfl
 ·intro i j hij;induction hij with
  | refl=>exact Ff NF
  | step q ih=>exact FB (zP (ih (ATF h)) (Int.toNat_le_toNat (st _ h)))
 ·intro k hk;obtain⟨e,he,h⟩:=nat k hk;refine(?_:Ef _ (I_ (fk _ _ _ k)));rw[h];exact ye0 he
 ·show I_ (fk _ _ _ _)=_;rw[yfw nS hg];rfl
theorem jB.brs{qs:A2}{bd:F9}{F:ac}(C:A'I):brs qs bd=B7 Aiz (N_ AI') A9I:=by
 unfold ArZ;rw[C.cut,IG]
 congr 1
 cases bd with
 | DL=>rfl
 | AY b bd=>
  show(MG BlN _).dropLast=MG KM _;rw[AGI,OT,List.map_singleton,List.dropLast_concat]
  rfl
theorem jB.at{qs:A2}{bd:F9}{F:ac}(C:A'I){k:Δ}(hk:AvL){a:Δ}(ha:a<Fs):bB (ArZ qs bd) (BOi a 0)<=k↔a<AI':=by
 have fl:=Rt qs
 let G:ac:=N_ (F (min Eg KM))
 have gm:∀i j,i<=j ->G i<=G j:=fun i j h=>BS8
 have gf:UE KM (G j=F AJM):=fun j h=>NJ F (BmX h);rw[C.brs,zo3 (z20 qs) Η ?_ ?_]
 ·rw[show Aiz (B6 k AI')=Aiz G from wx fun j hj=>(gf j (by show AYl hj;show AA)).cq,BmY,C6]
  rw[Ź (((B6 c (Φ (c<=a))) ∘ G)=E7 (Φ (G j<=a))),z2x gm,gf k hk];refine⟨FB (ě (Ev ?_) id),KB⟩;have:k+1=KM:=Υ
  rw[Τ,C.la];exact ha
 ·refine List.pairwise_map.mpr (List.Pairwise.imp_of_mem (fun{i j} hi hj h=> ?_) Ass);show AYl hj;exact BS8
 ·intro c hc;show kC j hj hc;show AYl hj;exact C.en _ Η
theorem ykf(Bgy):CW ws v bs k=(FH v).iF (PH (Φ (bB bs q<=k))):=AuX CW BmY
theorem jB.take(BBz):(CW ws v Ap4 k).TU ((mH (FH v)).ie (F Eg)):=by
 rw[ykf,<- zpl (p:=PH (Φ (bB (ArZ (FH v) bd) q<=k))) (c:=AI') (AV i a hi)]
 ·exact(zog _).symm.filter _
 ·have hi' :=l9;rw[Rt] at hi';have:=C.at hk hi';show BIf hi;exact BmZ Τ
theorem jB.count(BBz):A4e (bB Ap4 (v w)<=k)=F Eg:=by
 have e:=(C.take hk).AeA;have:=BS';show UP CW
 rwa [C6,v6,BmX Τ] at e
theorem jB.least(BBz):CZ (CW ws v Ap4 k)=wD (mH (FH v)) (F Eg):=by
 have c1:=BS';rw[Rt] at c1;have p:=C.take hk;generalize CW ws v Ap4 k=M at p;generalize A3U=qs at p c1;generalize AI'=c at p c1;have sl:=QZ qs;have e:jO M=(jO qs).drop BNd:=by
  refine zsc (z0h M) ((z0h qs).drop) (XI Od M (p.trans ?_));unfold mH;rw[List.take_reverse,sl];exact Bl' _
 unfold CZ wD;rw[e,List.head?_drop];split
 ·rename_i z;rw[z,BmD,AS_ Η]
 ·unfold mH;rw[Mb,BHW,sl,BdQ,AXx]
  rfl
theorem z4t{bs:UM}{m m' :AM}(h:m<=m'):bB bs m' <=bB bs m:=by
 refine List.findIdx_le_findIdx (Na _ hb);cases b with
 | Ι=>show d5 hb hb hb hb hb hb hb hb hb hb hb hb hb hb
 | Ε q=>
  have:¬m<q:=AH3 vF hb
  have:¬m' <q:=Q_
  simp [vF,Τ]
theorem yem{qs:A2}(h:Fs<=60):AZa AiO:=by
 rw[<- ya9];show Avz List.contains_eq_mem;show AJJ∈xG (cM qs) (rk ACS AiO 0) (0,60);refine oE.mpr ⟨A6N,0,CY rk,?_⟩
 unfold rM;show BKP;show AA
theorem zmc(B1 YS):AQm ze9 1:=Axw S bs Β hq (Lu Β (Ca bs) hq)
theorem zw1(B1 YZ):P5 zlb 7:=by
 obtain⟨ws,v,bs,Β,T,h⟩:=h
 let t:Κ ->D:=HG AbR
 refine(?_:ApD Aj2);refine⟨Lo Γ (∃y1 y2 y3 y4 y5 y6,Γ= [J_ Aj2,y1,y2,y3,y4,y5,y6]),BAr _,?_,?_⟩
 ·rintro i d _ hi ⟨y1,y2,y3,y4,y5,y6,Β⟩;show zS w hw BRl;refine AQF;show bj (ApD Aj2) ⟨Lo Γ (∃y4 y5 y6,Γ= [J_ Aj2,i_ w,.pu AmM,F6 (bB bs AM0),y4,y5,y6]),AKc,?_,?_⟩
  ·rintro i d _ hi ⟨y4,y5,y6,Β⟩;show zS w' hw' BRl;refine AQF;have sec:∀{A N:Θ},N ->mU 20 AmM (qD (v w'))/\if fW AmM (qD (v w'))=Μ then(mU 20 Bas (E_ (bB bs (v w')))/\GT (! fW Bas (E_ (bB bs (v w')))) A N) else GT AG A N:=fun n=>by
    refine C3 (yiu _ _);rw[ymb];by_cases e:v w=v w'
    ·refine Rz (TN e) (C3 Aiw);rw[e,Hl];exact n
    ·exact Ov AEQ n
   show As (yb (Bay< Ai3));by_cases hg:Bay< Ai3
   ·refine Rz (TN hg) ⟨v w,v w',Β,T.zs w hw,T.zs w' hw',?_⟩;rw[TN (BDN (AZ (lf (z4t (bs:=bs)) z Η)))]
    exact sec AKc
   ·exact Ov (CC hg) (sec AKc)
  ·show AiJ y4 y5 y6;exact BAr _
 ·rintro _ ⟨y1,y2,y3,y4,y5,y6,Β⟩;exact h
theorem zkn(BaJ):Ah_ (AKT (DH AI8 Aj7 si) a) A6m g
 | [],P,_,h=>h
 | FC,P,k,h=>by
  refine k a zY _ ?_;rw[OV] at h;split
  ·show Kj;rw[Kk] at h;exact zkn f g p AHT h
  ·show Kj;rw[OA] at h;exact zkn f g p AHT h
theorem ykr(XZ):lB (B7 jO qs qD++ [D.non]) 0=Ε (bD (CZ qs)):=by
 unfold CZ;cases jO qs with
 | DL=>exact jP (j:=0) Β
 | AY q l=>exact jP (j:=0) Β
theorem ztf(B1 Y0):P5 zi3 5:=by
 obtain⟨ws,v,bs,bd,Β,T,b0,b60,h⟩:=h;have s1:=vp;have few:=T.few
 let t:Κ ->D:=HG AbR
 have lb:A6q=KM:=AJR;refine C3 K2;show AbB (A6_ - 1) (A6_ - 1);rw[lb,Fm (I_ (ER KM - 1)=KM - 1)]
 refine AJ4 (Tk Γ (∃y3 y4:Ic,Γ= [J_ A'h,.pu (uh bd),.ow (B7 (MG i) (N_ BUy) bD),y3,y4])) Ajh
 ·rintro i _ hi ⟨y3,y4,Β⟩;show bj (cG _ (FH t) _) (zkn t A0L (rh (Φ (AVN<=i))) (bc w hw) ?_)
  ·show PY AQF (yb (Ai3<=0+ JA));rw[ALC,show í (Φ (Ai3<=JA)) (AVN<=i) from BMx];exact hp
  ·have lm:(CW ws v bs i).VM<=LM:=BJW CW Aiv
   have zm:AZB (CW ws v bs i):=kg (by
    show Aa5;exact T.zs w (APT hw))
   have em:(B7 AGC (ADP (AVN<=i)) fun w=>ACP)=(CW ws v bs i).map qD:=AZz CW
   rw[em];generalize hM:CW ws v bs i=M at lm zm;refine Ð M Υ zm
   have sl:=QZ M;refine⟨D_,AYj,BOZ (C7 (B7 jO M) qD),_,ykr M,by show A1a C6;show AA,?_⟩
   refine C9 Ayk (eI (B7 jO M));rw[AGI,OT,OT,<- hM]
   rfl
 ·rintro _ ⟨y3,y4,Β⟩;exact h
theorem lsS{α:CH}{xs:CO}{n:Δ}(h:ŷ (n+1)):BZw xs:=by
 cases xs with
 | DL=>show OE
 | AY a r=>exact Lu a r BlL
theorem ls3{α:CH}{xs:CO}(h:ŷ 3):∃a b c,xs= [a,b,c]:=by
 obtain⟨a,r,Β,h1⟩:=lsS h;obtain⟨b,q,Β,h2⟩:=lsS h1;obtain⟨c,p,Β,h3⟩:=lsS h2;show BOV;exact⟨a,b,c,Β⟩
theorem z37(B1 YM):P5 zqw 9:=by
 obtain⟨ns,ws,hs,Β,hn,hw,hh,wn,hd,h⟩:=h;have s1:=vp;have lw:C7 FH KP=LM:=AJR;show HL lh (C7 OM KP=U1) AJR bs (LM*U1<=5*3) (Aqd hw hh) ⟨K2,ns,11,Β,hn,Υ,AJo,.D6 (zP (kY (k:=4) (show fE A1g<2^4 by rw[lw];show AA)) Ψ),?_⟩
 show AbB (A1g* AZf) (A1g* AZf);rw[lw,lh,<- Aq7,da];refine AJ4 (AJ9 (∃(Ο:C4) (y6 y7 y8:Ic),mw<=k/\ (Ahe (fE pf<20/\∃j,j<k/\Iq ws (j/U1) CU/\Iq hs (j % U1) Ct))/\MS/\Γ= [AV9,F6 11,APZ FH,APZ OM,.ow (AGL LR),F6 (Agm 11 3),y6,y7,y8])) ⟨[],_,_,_,NF,mB (by(cases (hr))),EE,Β⟩
 ·rintro k _ hk ⟨Ο,y6,y7,y8,lr,ok,uq,Β⟩;refine⟨ns,12+k,by show US [ASQ _,E_ (11+1+ ACm)];rw[Fm (CB 11+1+ ACm=ER (12+k))],hn,Υ,_,3,Β,Υ,AV xs hx bx⟩
  obtain⟨a,b,e,Β⟩:=ls3 hx;refine⟨_,AEl,AJo,ai 2,?_⟩
  show As (yb ((Agm 11 3).OL 2<=AGt 3));split
  ·show BI k3 ek hk3 (P_ Rq e n 3) Ψ
   obtain⟨M,eM,bM⟩:∃M:Ω,lB [E_ (ASb 4+3),.AN (ASb 10),.AN (ASb 3)] (e.fmod 3)=Ε (II M)/\M.natAbs<20:=by
    show XE (e.fmod 3=CB k3) ek;have m4:=jS b 4 Ψ
    show AFk m10 b 10
    show AFk m3 b 3
    match k3,hk3 with
    | 0,_=>exact D4 AEl Υ
    | 1,_=>exact D4 t9 Υ
    | 2,_=>exact D4 AEm Υ
   have h0:0<U1:=Bn_ (Amg Nat.mul_zero hk hk hk hk hk hk hk hk hk hk hk hk hk hk hk)
   show E2 hq (A4U<LM) (Nat.div_lt_of_lt_mul (ET BCY hk)) hm (A4V<U1) (As2 _ h0) eq ((ACm).ĩ AZf=ER A4U) (BQc (Bl5 _ Η)) em ((ACm).OL AZf=ER A4V) (BQc A0k)
   show ż ⟨_,t9,ai 4,_,t9,ai 10,_,t9,AJo,AHX 3,_,AEm,AJo,_,eM,?_⟩ (C9 D_ ⟨ϊ lh,Aq (ő lh)⟩) (XT (HZ NJ _ eq (yfk hq)));show BE ⟨show AZf≠0 by rw[lh];show AA,_,HZ NJ _ em (yfk hm),AHX 3,APQ,?_⟩ ⟨Ο++ [(ws[A4U],hs[A4V],M)],_,_,_,r6 P1 Nat.succ_le_succ lr,A2a,?_,AzS⟩
   ·rcases JJ hr with hr | hr
    ·exact⟨A4I,BVG⟩
    ·show fA hr;exact⟨bM,k,AdQ k,zZ _,zZ _⟩
   ·refine List.pairwise_append.mpr ⟨uq,BpV _ _,FY r hr r' hr' z⟩;rw[ħ hr'] at z;obtain⟨_,j,hj,e1,e2⟩:=ok r hr;rw[z.1] at e1;rw[z.2] at e2;show D1 q1 e1 ng e1;show D1 q2 e2 ng e2;have d1:=z0v wn q1 hq e1;have d2:=z0v hd q2 hm e2;have:=Bmc j U1;have:=Bmc k U1;rw[d1,d2] at*;show AA
  ·exact⟨Ο,_,_,_,Υ,mB ⟨A4I,BVG⟩,uq,Β⟩
 ·rintro _ ⟨Ο,y6,y7,y8,lr,ok,uq,Β⟩;refine h Ο ⟨uq,Υ,⟨hs,Υ,A2a⟩,fun r hr=>AdZ A4I Ψ⟩ Η
  obtain⟨_,j,_,_,e⟩:=ok r hr;exact zA e
theorem ls4{α:CH}{xs:CO}(h:ŷ 4):∃a b c d,xs= [a,b,c,d]:=by
 obtain⟨a,r,Β,h1⟩:=lsS h;obtain⟨b,c,d,Β⟩:=ls3 h1;exact⟨a,b,c,d,Β⟩
theorem yK{i:Ω}(h:AYU 10):Sz 300 Agx:=A'7 (kY h)
theorem z34(B1 YQ):P5 zq5 11:=by
 show AAH ns m hn hm;have s1:=vp;refine⟨ns,4,Β,hn,Υ,_,4,Β,Υ,AV xs hx bx⟩
 obtain⟨a,b,e,f,Β⟩:=ls4 hx;have dv:∀m:Ω,0<m ->m<200 ->m≠0/\dB m<=9000:=fun m a b=>(ABo AXy)
 show BI k ek hk (P_ Rq a n 4) Ψ
 obtain⟨r,er,hr⟩:∃r:Κ,lB [KP vg,.AS vg,.AS T7,.AS m5] (AGt 4)=Ε (.AS r)/\rW r:=by
  show XE (AGt 4=F8) ek
  match k,hk with
  | 0,_=>exact D4 AEl AJW
  | 1,_=>exact D4 t9 AJW
  | 2,_=>exact D4 AEm (.BO WN)
  | 3,_=>exact D4 APr (ANS Β)
 refine⟨AHX 4,_,AEl,ai 4,_,er,?_⟩
 have g40:=jS b 40 Ψ
 show AFk g6 (b.fdiv 40) 6
 refine⟨_,t9,ai 40,_,t9,Aok 40,ai 6,ASb 40,1+ AxK,Β,AXy,AXy,Υ,?_⟩
 have zg:SD (BPo):=(QV (n:=60) Η (kY (zM (Fm ((ASb 40).ABQ<=40)) Ψ)) (kY (zM (Fm (fE (1+ AxK)<=6)) Ψ))).up Ψ
 generalize BPo=g at zg;show E2 n2 (oy 2) Υ n3 (oy 3) Υ main (∀ps:GB,Gq ps ->V' zj6 [AV9,F6 4,ACg,BkZ,i_ r,AHs g,J_ ŗ,DO,DO,DO,DO]) (by
  intro ps P;show AFk f4 f 4
  refine⟨K2,_,APr,ai 4,AMv,?_⟩
  refine ue (∃(bd:F9) (l:Δ) (y9 y10:Ic),KM=i/\ BOc/\l<=60/\Γ= BaN y9 y10) ⟨[],m,_,_,Β,FL (by(cases (hb))),hm,Β⟩
  ·rintro i _ hi ⟨bd,l,y9,y10,hl,b0,l60,Β⟩;obtain⟨sh,es,hs⟩:=P_ Rq (AdB (4+ (0+ JA))) n (l+1) (Acp _);refine⟨_,APr,dv (4+ (0+ JA)) Η Η,Fm (Ax4≠0),?_⟩
   change zgr K c _ (BaN Ayk (F6 ((AdB (4+ (0+ JA))).OL Ax4))) _
   rw[show(AdB (4+ (0+ JA))).OL Ax4=CB sh from es];have m2:=jS f 2 Ψ
   show AFk q3 (AdB 7) 3
   refine⟨D_,_,APr,ai 2,?_⟩
   show BE ⟨_,APr,Aok 7,AJo,n2,APQ,?_⟩ ⟨bd++ [(M_ (BZP>0) BZP,CB sh+ (AdB 7).OL 3)],l - sh,Ayk,F6 sh,yB P1 hl,BVw Ü,Υ,?_⟩
   ·show fA z;show O_<=if _ then _ else _;show Ö
   ·rw[OT,Fm (ER (l - sh)=CB l - CB sh)]
    rfl
  ·rintro _ ⟨bd,l,y9,y10,hl,b0,l60,Β⟩;refine⟨n2,AYj,BOZ A6q,AHX 4,?_⟩
   have:=h r g ps (bd++ [(0,CB m)]) hr zg P (ad P1 Acp _) (by show Axg;show C8 (KM+1<=4);show AA) (BVw (AZ (by show fA z;exact Ady 0)))
   unfold uh at Τ;show DF OT;exact Τ) p2 (Gq [(AEZ,AEZ),(AjF,AjF)]) ⟨DB,ϙ DB DB VV,s0 (by
  show œ (Cn hp) hp
  ·exact⟨AEn,AEn⟩
  ·show fA hp;exact⟨AEn,AEn⟩)⟩
 refine⟨n2,n2,n2,n2,n2,n2,n2,_,AEm,AJo,Aiw,?_⟩
 rw[Rp];refine AEI (e.fmod 3=1);split
 ·show AFk g9 (Ard 3) 9
  show AFk g30 (Ard 27) 30
  refine⟨n2,n2,n2,_,AEm,Aok 3,ai 9,BjR,2,Β,AXy,AXy,Υ,?_⟩
  have x3:(AEZ)< A7x/\ A7x< AjF:=by
   have h2:BS 0< Lm 2:=DB
   rw[Rat.lt_div_iff h2,Rat.div_lt_iff h2,<- NR,<- NR];exact⟨BHY,BHY⟩
  show BE ⟨_,AEm,Aok 27,ai 30,n2,n2,n2,n2,n2,n3,?_⟩ (main [(AEZ,AEZ),(A7x,Lm ((Ard 27).OL 30)),(AjF,Lm 40)] ⟨Aec (1<3),⟨C3 x3.1,C3 x3.2,VV⟩,mh⟩)
  ·exact Bmd g30.1
  ·exact Bmd Η
  ·show œ (Cn hp) hp
   ·exact⟨AEn,AEn⟩
   rcases Cn hp with Β | hp
   ·exact⟨(QV (n:=60) Ψ (kY Η) (kY Ψ)).up Ψ,yK Η⟩
   ·show fA hp;exact⟨AEn,AEn⟩
 ·exact main _ p2
structure abN (Ν):Θ where
 b:n6 K Su
 o:n6 K S4
 bb:BO_
 ob:BQe
 oo:BLd
theorem ztd(Ba4 abN Ui):AQm zi7 4:=by
 obtain⟨Ο,r,g,ps,bd,lb,Β,O,hr,zg,P,b0,b90,h⟩:=h;have s1:=vp;refine⟨_,AEl,_,t9,_,AEm,ps,Β,BTb P.sz P.sz,?_⟩
 rw[AAj (z04 P.gd P.len)];refine⟨Ο,r,g,ps,bd,Β,Β,O,hr,zg,P,b0,b90,fun ms x G=>⟨fun w f hw hb ah t' => ?_,fun ws u A=>⟨Cf g0 t',AV g1 mJ S⟩⟩⟩
 ·exact⟨(Ev ABh),C.o,Ov (Awg (¬(j_ S4 Su)) C.ob zK) ⟨C.oo,h _ (.op ms x w f G hw hb)⟩⟩
 ·exact⟨(Ev ABh),C.b,Rz C.bb (h _ (.ba ms x ws u G A g0))⟩
 ·exact fun as=>h _ (.ma ms x ws u mJ G A g1 S)
theorem Ze(Bcq)(G:uv)(G' :BPP){r r' :Κ}{g g' :AM}{ps ps' :GB}:(iY r' g' ps' vq x').xf=AM4:=by
 show D1 Β e G.uniq G'
 funext h
 unfold Hs.xf iY;dsimp only;split
 ·rename_i hh;exact(e h hh).cq
 ·rfl
theorem rR.uniq{qs:A2}{r:Κ}{v v' :AM}(h:A5W)(h' :rR qs r v'):v=v' :=by
 cases h with
 | mean=>
  generalize e:vg=s at h';cases h' with
  | mean=>rfl
  | mid=>show L2 ZE sM
  | pair b hb=>show L2 ZE sP
 | mid=>
  generalize e:T7=s at h';cases h' with
  | mean=>show L2 e sM
  | mid=>rfl
  | pair b hb=>show L2 ZE sP2
 | pair a ha=>
  generalize e:m5=s at h';cases h' with
  | mean=>show L2 e sP
  | mid=>show L2 e sP2
  | pair b hb=>rw[ha.unique hb]
theorem yJ.uniq{Ο:C4}{r:Κ}{g:AM}{x:D5}{ws ws' :Ρ}{u u' :D5}(A:Au7 x)(A' :yJ Ο r g x ws' u'):ws' =ws/\A1n:=by
 show SG (TV Ut A'.so.so A.so.so (HG (kT A'.so.wm w (UH A.so.wm w))));exact Hb (ϸ ((AKY A'.ok).uniq (AKY A.ok)))
theorem z1j{ps:GB}{ws:Ρ}{u u' :D5}(e:A1n):ARQ u' =ARQ u:=BLS w hw (e w hw)
theorem yl3(Bhv){ms:MQ}{x:D5}{w:Κ}{f:AU}(G:uv)(hw:AXk)(hb:BBP):t= .LY (.AS Ek):=by
 cases h with
 | op=>rfl
 | ba vq x' ws u G' A=>
  rw[AbC] at A;rw[A'o] at hb;show AE hb hb hb hb hb hb hb hb hb hb hb hb hb hb
 | ma vq x' ws u mJ G' A=>
  rw[AbC] at A;rw[A'o] at hb;show AE hb hb hb hb hb hb hb hb hb hb hb hb hb hb
theorem ynq(Bhv){ms:MQ}{x:D5}{ws:Ρ}{u:D5}(G:uv)(A:AmT):
  (A9L ->t= .LY AjB)/\ (A8M ->∃vq x' u' mJ,t=Om c AoT mJ ws AWo jv AIy u' /\Mf AoT mJ ws AWo/\A1n):=by
 cases h with
 | op vq x' w f G' hw hb=>
  rw[AbC,A'o] at hb;show AE hb hb hb hb hb hb hb hb hb hb hb hb hb hb
 | ba vq x' ws' u' G' A' gd=>
  rw[AbC] at A';show D1 Β e A.uniq A';rw[z1j e] at gd;exact⟨AVz,AZ (AuM gd)⟩
 | ma vq x' ws' u' mJ G' A' gd S=>
  rw[AbC] at A';show D1 Β e A.uniq A';rw[z1j e] at gd S⊢;exact⟨AZ (by rw[gd] at z;show Lw),Ff ⟨vq,x',u',mJ,Β,S,e⟩⟩
theorem ykb{α:CH}{n:Δ}(g:ADj)(hg:∀a b,mU n (g a) (g b))(a b:CO):mU QQ (FG (a.map g)) (FG (b.map g)):=by
 simp only [mU];show AbZ;show BMF;cases q1:a[i]? with
 | Ι=>show BCW
 | Ε u=>
  cases q2:b[i]? with
  | Ι=>show MO q2 h2 h2 h2 h2 h2 h2 h2 h2 h2 h2 h2 h2 h2 h2 h2
  | Ε v=>
   rw[q1] at h1;rw[q2] at h2;show Abk;show AqX;exact hg u v
theorem yin{n:Δ}(bs:UM):mU (n+2) (Ca bs) (Ca bs):=by
 show AbZ;rw[h1] at h2;show AqX;rw[GN] at h1;cases q1:bs[i]? with
 | Ι=>show BCW
 | Ε q=>
  rw[q1] at h1;show Abk;cases q with
  | Ι=>simp [bD,mU,uP]
  | Ε q=>exact yiu q q
theorem Zf{a b d e:D}:r_ [a,b,d,e] 3 e:=APr
theorem yok(B1 z1d):P5 z5x 12:=by
 show AZI ns hl;have s1:=vp;show BI t5 e5 h5 (P_ Rq (lG ns 1) n 5) Ψ
 show BI t3 e3 h3 (P_ Rq (lG ns 3) n 3) Ψ
 refine⟨ns,0,Β,hl,Υ,ns,1,Β,hl,Υ,ai 5,lG ns 0,1+t5,?_,Υ,AV wn lw wd⟩
 show BdM 1 5 1 5 t5 e5
 refine⟨ns,2,Β,hl,Υ,ns,3,Β,hl,Υ,AJo,lG ns 2,1+t3,?_,Υ,AV hn lh hd⟩
 show BdM 3 3 3 3 t3 e3
 refine⟨ns,wn,hn,Β,hl,Υ,Υ,wd,hd,AV Ο O r15⟩
 show E2 n2 (oy 2) Υ cw (∀(P:T0),P (AGL (am (KP CU))) ->cG (Fy d4 eO y0 [DO]) (AGL LR) P) (fun P hP=>Ky LR (eL (.AS CU)) (fun r _ P' h' =>(D4 AEl h')) hP) sm ((AGL fun r=>KP CU)=(rows.map (·.1)).map Ÿ) AEq lr (Tx (rows.map (·.1))=mw) AJR;show BE (?_:cG _ (AGL LR) _) (cw _ ⟨BJI,BWn,Υ,AV ms nd mm⟩)
 have lm:=Km nd (Ϲ ((mm x).mp hx));refine⟨ns,AtH,Β,hl,Υ,fun r g ps bd hr zg P b0 b4 bn=> ?_⟩
 show BE ⟨_,Zf,Ο,r,g,ps,bd,AFK,Β,O,hr,zg,P,b0,Υ,AV t1 o1 as1⟩ ⟨Fm (oy 2),Fm (oy 1),Ο,r,g,ps,AiO,AFK,Β,O,hr,zg,P,DB,DB,AV t2 o2 as2⟩
 change V' z01 [AV9,APZ wn.map,APZ hn.map,ř,AiZ (Apx AFK),.tr as1 t1,.tr as2 t2,DO,DO,DO,DO,DO]
 have Zg:∀{x:D5} {ws:Ρ} {u:D5},Au7 x ->AW4 15:=fun A=>zP (Km (Ot A.so.so) (U:=rows.map (·.1)) fun w hw=>by
  obtain⟨s,hs,e⟩:=(A.so.wm w).mp hw;exact zF.mpr ⟨s,hs,e⟩) Η
 cases o2 with
 | op ms x w f G hw hb=>
  show SG (yl3 o1 G hw hb);refine AXs n2 (Rz SV (BVr Ek Ek))
  rw[Hl];exact BNN
 | ba ms x ws u G A gd=>
  have wl:=Zg A;rw[yem (by unfold um;show Nw;show AA)] at gd;show AE gd gd gd gd gd gd gd gd gd gd gd gd gd gd
 | ma ms x ws u mJ G A gd S=>
  have wl:=Zg A
  let v:D5:=HG (uH ps (u w))
  have em:ARQ u=FH v:=Β;have zs:AN3 A7R:=ϸ (z8n P.gd P.sz (((AKY A.ok).ok (G.lv O _ _ _ w) (zyt (A.ok w hw).1)).up Ψ))
  have tk:Ro ws v:=ABo zs
  refine BTE;have tab:∀{ms:MQ} {x:D5} {mJ:Ρ} {u' :D5} {bs:UM},A5u bs ->(∀w∈ws,u' w=u w) ->∀Q1:AEM,Q1 BLw ->Rm c [mD (Awo Om bs jv AIy u')] Q1 j':=by
   intro ms x mJ u' bs S e Q1 hq;refine⟨(Awo stS jv AIy u').pl,ws,v,bs,AEc Om lJ.dn,?_,S.so,S.few,zs,S.bz,hq⟩
   refine ABN (zxa ws _) ?_;unfold vo;exact AvY (D.dik _) (ϸ (A1u (qD (uH ps (u' w))=_) (e w hw)))
  refine BTq S JS
  let t:UM ->Κ ->D:=fun bs w=> AbR
  refine APE (j6 (Ah2 (brs AUH AiO) .LY));rw[Rx];refine Ky (t _) A0L (fun w _ P' h' =>(KI Β h')) ?_;have eq:(FH fun w=>ACP)=B7 FH v qD:=AEq
  have lv:C7 FH v=LM:=AJR;rw[eq];have zv:AZB A3U:=kg (by
   show Aa5;exact zs w hw)
  obtain⟨la,lS⟩:=Ur (FH v);refine Ð A3U Υ zv
  refine⟨_,Zf,cM (FH v),A3f,bd,Β,Υ,la,?_⟩
  have hg0:(gk A5e A3f ArY (KM - 0)).ĕ 0=A5f gY:=Β;refine A9K (Ş Y9 (Acp _));rw[ykv,hg0];show EU k0 k1 ynq o1 G A;rw[em] at k0 k1;cases hG:A5f gY with
  | AG=>
   show SG (k0 hG);refine BVr Oq Oq;show As (ou (.bl (fW (KP Oq) AjB))/\Azb KP Oq AjB);rw[Hl];exact BNN
  | Μ=>
   obtain⟨vq,x',u',RB,Β,S',eu⟩:=k1 hG;refine BTE;refine BTq S' eu
   let B:=A5f brs
   change V' zw0 [AV9,APZ wn.map,APZ hn.map,ř,AiZ (Apx AFK),.tr as1 (Om c AoT RB ws B jv AIy u'),_,eI (B7 FH v),.pu (lH A5e),J_ (Z3 BlN j (lH (gk A5e A3f ArY (KM - j)))),.pu (toD (Agw (Ah2 B))),DO]
   rw[yfa];refine BMW A0L (D4 t9 h');rw[eq];refine C3 (ykb qD yiu _ _);rw[Hl];refine BMW KP (D4 AEl h');show BE (cw _ ?_) ⟨BJI,BWn,Υ,zM (z50 (Ϲ hx)) Η,AV ls so lm⟩
   show HA (ls=ws) (TV Ut so A.so.so (HG (kT (XI lm w) zF (UH A.so.wm w))));refine C3 (yno ls ls);rw[Hl];refine⟨ls,v,B,Β,tk,?_⟩;obtain⟨F,C⟩:=yhi hG bn;have lb:A6q=KM:=AJR;refine XT Zf;show(AfT<=A6_/\_)/\_;rw[lb];rw[da];refine C9 AMv Υ
   refine Y5 (g:=N_ BKH) (fun k hk P' h' => ?_) ?_
   ·show bj (cG _ (AAc (t B)) _) (zkn (t B) (t B) (rh (Φ (AYq<=k))) (fun w hw P'' h'' => ?_) ?_)
    ·show PY (XT AEm) (yb (ER AYq<=0+ F8));rw[ALC,show í (Φ (ER AYq<=F8)) (AYq<=k) from BMx];exact h''
    ·show As (P' [.AN (LN (C7 (B7 ls.filter (ADP (AYq<=k))) (t B)))]);rw[C6,C.count hk];exact h'
   have ec:(Z3 KM k BKH)=(vm (AAc v) bd).map ay:=yB C.cut IG
   rw[ec];have hg:O_∈gk (cM (AAc v)) BJv ArY KM:=BLG hG hG
   refine⟨_,Zf,cM (AAc v),BJv,bd,Β,Υ,la,lS,hg,?_⟩
   have eB:Aiz (B6 k (CZ (CW ls v B k)))=B:=kT wx (Ake (C.least (AVa (R_ hk)))) (by show As (_=brs (AAc v) bd);rw[C.brs,IG];rfl)
   show APH ⟨Β,DB,(stS c AoT RB ls jv AIy u').pl,B,by show US [mD (Om c _ RB ls B jv AIy u')];unfold Om;rw[lJ.dn],?_⟩ ⟨_,Zf,ls,v,B,bd,Β,tk,b0,Υ,?_⟩ eB (?_:mU 20 (toD A9n) (Ca B)/\ou (.bl (fW (toD A9n) (Ca B)))/\Azb toD A9n (Ca B));rw[yfa];refine C9 (yin B) VV;show As (Azb Ca B (Ca B));show XN Hl
#print _3
namespace _Lw
open IR OI KK _2 _3
seal QE QF QT QW QA QS uD QG V6 QI S6 Nm QIg QO QR QRA QN QRN
theorem bN{k:Δ}{A:BQ}{e:Env}(hr:c7 k (AGZ e)):(AGZ e).units+21<n_:=APw
theorem pA{us:At}{n:Δ}(h:nI=n+1):BZw us:=by
 cases us with
 | DL=>show OE
 | AY a r=>exact Lu a r BlL
theorem len1{us:At}(h:nI=1):∃a0,us= [a0]:=by
 show Aba;show SG (AGB h0);exact⟨a0,Β⟩
theorem len2{us:At}(h:nI=2):∃a0 a1,us= [a0,a1]:=by
 show Aba;show Ap_;show SG (AGB h1);exact⟨a0,a1,Β⟩
theorem vA{us:At}(h:nI=3):∃a0 a1 a2,us= [a0,a1,a2]:=by
 show Aba;show Ap_;show BAh;show SG (AGB h2);exact⟨a0,a1,a2,Β⟩
theorem RD{us:At}(h:nI=4):∃a0 a1 a2 a3,us= [a0,a1,a2,a3]:=by
 show Aba;show Ap_;show BAh;obtain⟨a3,u3,Β,h3⟩:=pA h2;show BOV;exact⟨a0,a1,a2,a3,Β⟩
theorem abO{us:At}(h:nI=6):∃a0 a1 a2 a3 a4 a5,us= [a0,a1,a2,a3,a4,a5]:=by
 show Aba;show Ap_;show BAh;show Fh a3 u3 Β h3 (pA h2);show Fh a4 u4 Β h4 (pA h3);obtain⟨a5,u5,Β,h5⟩:=pA h4;show SG (AGB h5);exact⟨a0,a1,a2,a3,a4,a5,Β⟩
section
variable(P:A0)(w:Ap)(K:AD)(mg:EX)(DS:AL)(c:Cls)
abbrev zh5:Θ:=BXy
abbrev RG:Θ:=BSJ
abbrev zdw:Θ:=BZA
abbrev zhu:Θ:=BSL
abbrev Zh:Θ:=BbM
abbrev zlo:Θ:=BSM
abbrev zj1:Θ:=BXJ
abbrev zjz:Θ:=Bb5
abbrev zo6:Θ:=BXR
abbrev zcc:Θ:=BgF
abbrev Zi:Θ:=BX1
abbrev zsk:Θ:=BSK
abbrev Uv:Θ:=Bbl
abbrev zfk:Θ:=BbP
abbrev zne:Θ:=BbQ
abbrev zsv:Θ:=BXL
abbrev zzk:Θ:=BQF
abbrev zts:Θ:=BYr
abbrev zom:Θ:=BQG
abbrev zi9:Θ:=BX3
abbrev z7b:Θ:=BQI
abbrev zym:Θ:=BYt
abbrev zeq:Θ:=BYp
abbrev z15:Θ:=BYs
abbrev z0a:Θ:=Bdv
abbrev zpy:Θ:=BYq
abbrev zki:Θ:=BXO
abbrev zco:Θ:=Bby
abbrev zc1:Θ:=Bbd
abbrev zn7:Θ:=Bbb
abbrev zz2:Θ:=BcI
abbrev zfm:Θ:=Bb4
abbrev zjj:Θ:=BbR
abbrev zko:Θ:=BXP
abbrev zja:Θ:=BXU
abbrev zfj:Θ:=BbS
abbrev zc2:Θ:=BZB
abbrev zey:Θ:=BXo
abbrev zfl:Θ:=Bbc
abbrev zgn:Θ:=BXQ
#where
section
variable{P:A0}{w:Ap}{K:AD}{mg:EX}{DS:AL}{f:Ζ}{fd:Fc}{cdv:AH}{A:BQ}{DE:LT}{s:AF}{H:Hp}{E:XK}{F0:Hp}(c:Cls)
theorem iM:A8Y zcr:=BM
theorem ziw(F:A_ AAh BCp zcr)(M:AKJ AAh)(aq:zD)(aK:AgE):BXx:=
 AFw (Be gK iM zjw zd1 (by
  have nd:=iM.nd;show B0 bN;exact(bK  (qr (A3 (z7o ê BH Akk tj)) Al5))) (B2 zj0)) (BY (by show FD;exact Β))
theorem m7:A8Y zfh:=BM
theorem zot(F:A_ MU BCq zfh)(M:AKJ MU)(gb:BXx)(aq:zD)(aK:AgE):BXy:=
 AFw (Be gK m7 zrn zg1 (by
  have nd:=m7.nd;show B0 bN;exact(bI  (og yil (Tf gb aq VZ BG) ko)  (aT (z7k (hu1 hu) Akk) BH))) (B2 zrp)) (BY (by show FD;exact Β))
theorem Av:AbX zzr:=BM
theorem ye5(F:A_ Abu Abu zzr)(hm:CS Abu):BSJ:=
 ⟨f,fd,Be gK Av yjn z1u (by
  have nd:=Av.nd;show B0 bN;exact(bK  (AUN (A3 (K4 (Da Fp) ô An_ ABb))))) (B2 yhn),hm,Co,BY (by show FD;exact Β)⟩
theorem lK:ES [MA,MU,VT,"border"] [MA,MU] zex:=BM
theorem zn3(F:A_ ck ck zex)(hm:CS Aq1)(cu:APN)(dJ:Aix)(aO:L6):Bbo:=
 ⟨f,fd,Be gK lK zq1 zgs (by
  have nd:=lK.nd;show B0 bN;exact(bI  (yn Wm (A3 (zhp Β Β dJ WV)) (AZn 2 3) (AFo (A4 uO (SQ (x6 yog E5 V0) (SN (AFf (AEj BH E5))))) AYx))  (aT AeZ WV))) (B2 zpz),hm,Co,BY (by show FD;exact Β)⟩
theorem lM:A8Y zei:=BM
theorem zn0(F:A_ ck BCr zei)(M:AKJ ck)(iZ:Bbo)(dX:BC zh5)(aq:zD)(aH:AvP):BXz:=
 AFw (Be gK lM zpc zgw (by
  have nd:=lM.nd;show B0 bN;exact(bK  (AFU iZ (ŧ aH) (ĵ (Tf dX aq VZ BG) BH)))) (B2 zox)) (BY (by show FD;exact Β))
theorem lN:BP1 Zz:=BM
theorem zn4(F:A_ TD BCs Zz)(M:AKJ TD)(dX:BC zh5)(jc:BXz)(aZ:AH7)(aq:zD)(aK:AgE):BZA:=
 AFw (Be Ge lN zo2 zgt (by
  have nd:=lN.nd;show B0 bN;exact(bK (A3 (W3 (A3 (yjr (EK (qY (Au:= [Pc]) (N' := A4Z) (by show As (cP AvH _ [Pc] [0] (aU Zz) A4Z);exact⟨Β,Χ,Χ,Χ,Β,Χ⟩) Β  (A4 lD (pH (eN  (A3 (z0s Β Β aZ (Ll Akk))))))  (HK A4Z)) Kx (Ix o7 (kU BG (BLy dX) (BLy jc)))))))))) (B2 zpe)) (BY (by show Sc;exact Β))
theorem qJ:ES BB' [ASh,AGS] Ux:=BM
theorem zxn(F:A_ Abv Abv Ux)(hm:CS Abv)(aR:kR)(Jw:OZ AGH):BSL:=
 ⟨f,fd,Be gK qJ zzs zm5 (by
  have nd:=qJ.nd;show B0 bN;exact(bI  (tz (A3 yU)) (xL (qi (hW qW aQ (ABm BG))) (eS (LS 4 (hW o8 (ANB BG) E5)) (t_ (EK (uk 5 (Au:= [OO]) (N' := A1v) (by show As (cP BB' _ [OO] [0] (aU Ux) A1v);exact⟨Β,Χ,Χ,Χ,Β,Χ⟩) Β  (A4 lD (ya4 Β aR Ayg))  (HK A1v)) Kx (Ix (bY (Da o8) (AHo (AIa (ANB BH) (Ţ BG)) (xz (xz aQ BG) BG))) aQ))) (eS (AKE 6) (EK (K5 Β Β aR  (Ũ BH)) (x8 7) (xL (LS 8 (A3 yU)) (eS (AmR E5 9 (P6 (LS 8 (hW qW Ϟ (AXX (ABm (AHo (cF RH AXC JS) (xz (xz (AWc (xF qp BJf)) ACd) (ĵ (AG_ z1w yn4 Jw boot_int) (K4 (Da ABz) AXC PF ABb)))))))))) (A3 (qm  (A4 uO (SQ (ANy BJf aQ) (SN (x6 yw BH aQ)))) (AIs (A3 (AaW 8 (yir (eN (EK (qY (Au:= [Ĕ]) (N' := A6f) (by show As (cP BB' _ [Ĕ] [2] (aU Ux) A6f);exact⟨Β,Χ,Χ,Χ,Β,Χ⟩) Β  (A4 lD (pH (eN  (A4 (Ka RH Ld) (FP (Ţ ACd))))))  (HK A6f)) Kx (Ix (cF BH BG) JS)))))))  AMN)) (AKh 6 (Ũ Ϟ))))) (ACl 6)))))) (B2 zyn),hm,Co,BY (by show FD;exact Β)⟩
theorem tM:ES [c0,OO,Bml] [c0,OO] zlu:=BM
theorem zzz(F:A_ Abw Abw zlu)(hm:CS Abw)(aO:L6):BbM:=
 ⟨f,fd,Be gK tM z3s zrd (by
  have nd:=tM.nd;show B0 bN;exact(bI  (AFG Fp BH Ñ (aT (cF BG BH) JS))  (PD (tz (hW qW A2d aQ)) (AFG HW Ñ aQ (P6 (tz (hW o8 (AHo (xF qp (cF BG (ABU o8 A2d Ñ) JS)) A2d) aQ)))) (aT (bY (Da o8) (xz EQ EQ)) aQ)))) (B2 z41),hm,Co,BY (by show FD;exact Β)⟩
theorem pL:ES [ASh,AGS,"_law_xs",Bml,OO] [ASh,AGS] zhk:=BM
theorem zs3(F:A_ Abx Abx zhk)(hm:CS Abx)(aR:kR):BSM:=
 ⟨f,fd,Be gK pL zx7 zj8 (by
  have nd:=pL.nd;show B0 bN;exact(bI  (AKE 2)  (PD (qi (hW o8 BG aQ)) (AmR BH 4 (Mo (qi (hW o8 (Ţ (xF qp E5)) aQ)) (AKh 2 (Ũ E5)))) AYx))) (B2 zvy),hm,Co,BY (by show FD;exact Β)⟩
theorem tO:ES [c0,AdE,BDi,BDj,AdH,"_law_few",OO,"_law_x",Aro] BkX zmz:=BM
theorem zyp(F:A_ Aby Aby zmz)(hm:CS Aby)(bH:BC Zh)(fL:BC zlo)(aR:kR)(aO:L6):BXJ:=
 ⟨f,fd,Be gK tO z30 zqw (by
  have nd:=tO.nd;show B0 bN;exact(bI  (AKE 4)  (PD (LS 5 (hW o8 BJO aQ)) (AmR (xz (ABj EQ) Ajv) 6 (Mo (LS 7 (eP fL (M3 bH BG (AHo (Ţ BH) tm)) aQ)) (AFo (AUQ abe AYZ (ABm RH)) (Mo (LS 8 (A4 (cF (eN  (pk (kU (Ţ AYZ) AYZ AYZ))) AYZ) JS)) (AKh 4 (A3 (au (o7 (kU (AXX (AIa tm Ajv)) (cF E5 (ABU o8 tm Ajv) JS) Ϟ)) aJ))))))) (ACl 4)))) (B2 z37),hm,Co,BY (by show A6S;exact Β)⟩
theorem vB:ES [BDo,BDp,Ĕ,AdI] [BDo,BDp] zp2:=BM
theorem z3v(F:A_ Abz Abz zp2)(hm:CS Abz)(xP:AyU):BbN:=
 ⟨f,fd,Be gK vB z6c zsy (by
  have nd:=vB.nd;show B0 bN;exact(bI  (tz (A4 BV5 WV))  (PD (qi Aj6) (A3 (ztc  (AUQ HW E5 aQ)  (xc (P_ ylt 2 j 3 Β nd Β Β Ψ Β Β (OY E5 (ABU o8 EQ E5))) Β))) (aT o7 BVb)))) (B2 yal),hm,Co,BY (by show FD;exact Β)⟩
theorem tQ:ES [c0,AdE,AGS,"_law_x","_law_rule","_law_gap","_law_points",c8,"_law_left",OO,"_law_share"] [c0,AdE,AGS] zmw:=BM
theorem zyy(F:A_ Ab0 Ab0 zmw)(hm:CS Ab0)(fL:BC zlo)(oZ:BbN)(bH:BC Zh)(aR:kR)(qK:Aiy):Bb5:=
 ⟨f,fd,Be gK tQ z44 zq5 (by
  have nd:=tQ.nd;show B0 bN;exact(bI  (AYd fL BJO aQ)  (Mo (LS 4 (A4 (cF (eN  (pk (APK yU yU yU yU))) AYY) JS)) (PD (LS 5 (eP oZ AYY (AWc AmA))) (LS 6 (sB qU (OY An8 An8))) (PD (AFG ABz AYY aQ (P6 (LS 6 (sB qU (kU An8 (AMO (M3 oZ (AWc AmA) aQ) (AMe AmA)) An8))))) (AKE 7) (PD (LS 8 AYX) (AmR AYY 9 (PD (LS 10 (hW o8 (AIa Aez (AWc AXC)) (Ţ Ϟ))) (LS 8 (hW DN Ϟ ADz)) (AKh 7 (A3 (au (o7 (OY (AWF yoh qK boot_max (OY aQ (AIv (xF DN ADz) AYY))) (AHo ADz AmA))) aJ))))) (aT o7 (APK PF RH tm (BOB ACd (AMO aQ EQ)))))))))) (B2 z34),hm,Co,BY (by show ñ;exact Β)⟩
theorem xQ:ES AJ5 [ALR,AGU] zvl:=BM
theorem z6h(F:A_ Ab1 Ab1 zvl)(hm:CS Ab1)(cu:BC RG):Bbj:=
 ⟨f,fd,Be gK xQ ybv zw7 (by
  have nd:=xQ.nd;show B0 bN;exact(bK  (AUN (A3 (yfg (AEj eJ xy) (yf1 (ynj (AEj xy eJ)))))))) (B2 yco),hm,Co,BY (by show FD;exact Β)⟩
theorem tR:PQ [YO] YO ZC:=BM
theorem zzg(F:A_ Ab2 Ab2 ZC)(hm:CS Ab2)(vC:Bbj)(Jx:OZ "all")(aO:L6)(iB:AJU):BXR:=
 ⟨f,fd,Be gK tR z4h zq8 (by
  have nd:=tR.nd;show B0 bN;exact(bK (A3 (eV (EK yfg (K4 (Da HW) Ñ aQ ABb) (yf1 (AWF yn5 Jx boot_all (y_ (EK (qY (Au:= AJ5) (N' := AJ5) (by show As (cP [YO] _ AJ5 [] (aU ZC) AJ5);exact⟨Β,Χ,Χ,Χ,Β,Χ⟩) Β  (A4 lD (æ Te iB (OY BG (eN  BkJ))))  (o5 (Aa Β (ACG (W' 0 AJ5) (W' 1 AJ5))))) Kx (A8g vC)))))))))) (B2 z35),hm,Co,BY (by show Sc;exact Β)⟩
theorem jW:AVb AwD YO Uy:=BM
theorem zmj(F:A_ LE Acn Uy)(jC:BC zo6)(qL:AyT)(bL:ANw)(aL:Agc):To fV o4 4 f fd AwD (uT K hZ YO (Ri c)):=by
 have nd:=jW.nd;refine yi9 F Β jW bL aL Β AXD (AG9 yj7) (AtU ?_);have hu:Abh Acn Uy:=APw
 exact⟨Β,zfq K c,ze3 K c,JO (qm  (AnZ (du jC ko))  Al5  AMN),
 JO (ĵ (AG_ z1w yhj qL boot_tuple) BH),fun a ds Q Ex h=>yjt h⟩
theorem zma(F:A_ LE Acn Uy)(M:Mk K hZ f)(hm:i8 AAg hZ)(jC:BC zo6)(qL:AyT)(bL:ANw)(aL:Agc):BgF:=
 ⟨f,fd,zmj c F jC qL bL aL,M,hm,BY (by show FD;exact Β)⟩
theorem En:ES [AAr,c9] [AAr,c9] ZD:=BM
theorem yio(F:A_ Ab3 Ab3 ZD)(hm:CS Ab3)(xR:AyV):BbO:=
 ⟨f,fd,Be gK En ynb z5l (by
  have nd:=En.nd;show B0 bN;exact(bK (AHy (ĵ (AWF yly xR boot_any) (eN (EK (qY (Au:= [LL]) (N' := Az') (by show As (cP Ale _ [LL] [0] (aU ZD) Az');exact⟨Β,Χ,Χ,Χ,Β,Χ⟩) Β  (A4 lD AYK)  (HK Az')) Kx (o5 (K4 (Da Lh) BG BH tj)))))))) (B2 ym2),hm,Co,BY (by show FD;exact Β)⟩
theorem xU:ES [AGV,c9,Ā,"together",AAr] [AGV,c9] ZF:=BM
theorem z83(F:A_ Ab4 Ab4 ZF)(hm:CS Ab4)(yL:BbO)(aW:kA)(aZ:AH7)(jX:Af9):Bbk:=
 ⟨f,fd,Be gK xU ydn zv4 (by
  have nd:=xU.nd;show B0 bN;exact(bI (t_ (EK (uk 2 (Au:= [AAr]) (N' := Ale) (by show As (cP [AGV,c9,Ā,"together",AAr] _ [AAr] [1] (aU ZF) Ale);exact⟨Β,Χ,Χ,Χ,Β,Χ⟩) Β  (A4 lD Ajo)  (HK Ale)) (kq (AFf (M3 yL BG BH))) (Ix qv 0)))  (PD (BPO ko) (AVq (x8 4) (AFo (A4 yV (M3 yL PF BH)) (At2 3 z6f Bon PySem.F.type_list_extend (Ũ PF)))) (aT eN (A3 (PL EQ (eN  (pk (y_ (A3 (z16 Β Β aZ Β jX Ai9))))))))))) (B2 yb2),hm,Co,BY (by show FD;exact Β)⟩
theorem vD:PQ [nv,Pe,Pc,LL,MU] nv zo1:=BM
theorem z3r(F:A_ Ab5 Ab5 zo1)(hm:CS Ab5):BX1:=
 AjK (Be Ge vD z9w zsq (by
  have nd:=vD.nd;show B0 bN;exact(bI  BQ6  (Mo (A'P 2 3 4 (Mo (qr (A3 (ynl (i:=1) ê  AYX Β IJ)) (P6 (A3 (P_ yk5 1 j 2 ê Β IJ Β IJ  Av0)))) (P6 (A3 (yne (i:=1) (j:=2) (l:=3) ê Β IJ Β IJ Β IJ  (ABl 4)))))) (xc W3 BLk)))) (B2 z5g))
theorem xV:PQ [nv,AGV,VQ] nv ztb:=BM
theorem z64(F:A_ Ab6 Ab6 ztb)(hm:CS Ab6)(vG:Bbk)(cZ:BC Zi)(aZ:AH7)(aW:kA):BX2:=
 AjK (Be Ge xV ybq zv9 (by
  have nd:=xV.nd;show B0 bN;exact(bI  (AH8 (sB qU aJ))  (Mo (yn Wm (A4 z55 (AHA W4 cZ WV)) AEv (AXn (eP vG BH (eN  (A4 (Bhl (yjx Β)) AOO))))) (xc W3 (og yjr (AG_ yb0 (ylu hu) aZ boot_sorted) ko))))) (B2 yb6))
theorem vH:ES [ALK,VO,"rest"] [ALK,VO] zpb:=BM
theorem z4d(F:A_ Ab7 Ab7 zpb)(hm:CS Ab7)(xP:AyU):BSK:=
 ⟨f,fd,Be gK vH z99 zsn (by
  have nd:=vH.nd;show B0 bN;exact(bI  (A3 (ztc  (AUQ (Cp hu) BH aQ)  (PD (tz (hW o8 BG BH)) (LS 0 Aj6) (AXn AYX))))  (aT BV5 WV))) (B2 z58),hm,Co,BY (by show FD;exact Β)⟩
theorem qM:PQ [ia,BDr,vx] ia ZG:=BM
theorem zwl(F:A_ Ab8 Ab8 ZG)(hm:CS Ab8)(jq:BC zsk):BXN:=
 ⟨f,fd,Be gK qM z0j znh (by
  have nd:=qM.nd;show B0 bN;exact(bI  (AH8 (A3 aQ)) (xL (AVq AEv (AXn (hW qp BH (AIa (iq EQ) (M3 jq BH (iq EQ)))))) (AIs (AHy (eN (EK (qY (Au:= [vx]) (N' := A3c) (by show As (cP [ia,BDr,vx] _ [vx] [1] (aU ZG) A3c);exact⟨Β,Χ,Χ,Χ,Β,Χ⟩) Β  (A4 lD (pH BG))  (HK A3c)) Kx (Ix (bY (Da qp) eJ) (AIa BH eJ))))))))) (B2 zz8),hm,Co,BY (by show Sc;exact Β)⟩
theorem vI:ES Ah8 Ah8 ZJ:=BM
theorem z45(F:A_ Ab9 Ab9 ZJ)(hm:CS Ab9)(iB:AJU):BXm:=
 ⟨f,fd,Be gK vI z7t zsi (by
  have nd:=vI.nd;show B0 bN;exact(bK (AQR (EK (qY (Au:= BJu) (N' := AqL) (by show As (cP Ah8 _ BJu [0,1,2,3] (aU ZJ) AqL);exact⟨Β,Χ,Χ,Χ,Β,Χ⟩) Β  (A4 lD (æ Te iB BLN))  (o5 (Aa Β (ACG (W' 0 AqL) (W' 1 AqL))))) Kx (Ix (bY (Da wU) (AIv (xz (cF E5 PF JS) BG) (xz (AXX PF) BH))) RH))))) (B2 z6m),hm,Co,BY (by show A6S;exact Β)⟩
theorem vJ:BcY ē AdL ē ZK:=BM
theorem z27(F:A_ Ab_ Ab_ ZK)(hm:CS Ab_)(rZ:BXm)(dJ:Aix):BXK:=
 ⟨f,fd,Be gK vJ z5h zsb (by
  have nd:=vJ.nd;show B0 bN;exact(bI  (qi (AnA BH)) (AIs (AQR (EK (qY (Au:= BJA) (N' := AqA) (by show As (cP [TD,VT,ē,AdL] _ BJA [1,2,3] (aU ZK) AqA);exact⟨Β,Χ,Χ,Χ,Β,Χ⟩) Β  (A4 lD (æ zhp dJ WV))  (o5 (Aa Β (ACG (W' 0 AqA) (W' 1 AqA))))) Kx (Ix (A4W EQ BH) (du rZ (APK BH PF EQ E5)))))))) (B2 z7w),hm,Co,BY (by show ñ;exact Β)⟩
theorem tU:ES ["top",BDk,"common"] ["top",BDk] zmp:=BM
theorem z0d(F:A_ Ab' Ab' zmp)(hm:CS Ab')(jq:BC zsk):Bbl:=
 ⟨f,fd,Be gK tU z38 zp5 (by
  have nd:=tU.nd;show B0 bN;exact(bI  (AFG ABz BH aQ Al5)  (PD (tz (eP jq BG BH)) (AFG Fp BH aQ (P6 (tz (A4 DQ EQ)))) (aT o7 BVb)))) (B2 z3j),hm,Co,BY (by show FD;exact Β)⟩
theorem qN:BcY ASm VO ASm zji:=BM
theorem zw8(F:A_ AcA AcA zji)(hm:CS AcA)(aW:kA):BXn:=
 ⟨f,fd,Be gK qN zzw zni (by
  have nd:=qN.nd;show B0 bN;exact(bI  (BPO WV)  (PD (yn (ygi (i:=3)) IJ Aj6 (AnA EQ)) (yn (ygi (i:=3)) IJ AYX (AnA BH)) (ACl 3)))) (B2 z0i),hm,Co,BY (by show ñ;exact Β)⟩
theorem Jy:ES [TD,VT,ASm] [TD,VT] ykj:=BM
theorem ym6(F:A_ "led" "led" ykj)(hm:CS "led")(oG:BXn)(aR:kR)(aO:L6):Bbm:=
 ⟨f,fd,Be gK Jy yn8 yfz (by
  have nd:=Jy.nd;show B0 bN;exact(bI  (A3 (z70 Β Β aR  (A3 (au BH (Ll Ñ)))  AEv  (AFo (AUQ (Cp hu) (cF (cF BG EQ JS) BH JS) aQ) (AP2 oG BRG))))  Al5)) (B2 yoo),hm,Co,BY (by show FD;exact Β)⟩
theorem xW:ES BAm [nv,Ars] Uz:=BM
theorem z6v(F:A_ AcB AcB Uz)(hm:CS AcB)(oH:BXN)(sy:BXK)(bC:BC Uv)(Jz:Bbm)(aR:kR)(aO:L6)(iB:AJU)(dJ:Aix):Bba:=
 ⟨f,fd,Be gK xW yef zw6 (by
  have nd:=xW.nd;show B0 bN;exact(bI (t_ (EK (uk 2 (Au:= AQH) (N' := AQH) (by show As (cP BAm _ AQH [] (aU Uz) AQH);exact⟨Β,Χ,Χ,Χ,Β,Χ⟩) Β  (A4 lD (æ Te iB BLN))  (o5 (Aa Β (ACG (W' 0 AQH) (W' 1 AQH))))) Kx (AfG oH (y_ (A3 (PL BG (eN  (pk ko)))))))) (eS (AhI aQ) (A3 (K5 Β Β aR  (A4M AOO)  (x8 4)  (Mo (tz (ABd sy (kU (AX7 Jz PF) PF E5))) (P6 (qi (A4 (cF (AXX PF) PF) JS)))))) (AIs (AQR (EK (qY (Au:= AQj) (N' := AQj) (by show As (cP BAm _ AQj [] (aU Uz) AQj);exact⟨Β,Χ,Χ,Χ,Β,Χ⟩) Β  (A4 lD (æ zhp dJ AOO))  (o5 (Aa Β (ACG (W' 0 AQj) (W' 1 AQj))))) Kx (AVo bC AZF (AM9 BG)))))))) (B2 ydk),hm,Co,BY (by show FD;exact Β)⟩
theorem oJ:BTF ZL:=BM
theorem zr1(F:A_ AcC AcC ZL)(hm:CS AcC):BbP:=
 ⟨f,fd,Be gK oJ zuh zix (by
  have nd:=oJ.nd;show B0 bN;exact(bK (AHy (eN (EK (qY (Au:= [VQ]) (N' := ARB) (by show As (cP ϒ _ [VQ] [0] (aU ZL) ARB);exact⟨Β,Χ,Χ,Χ,Β,Χ⟩) Β  (A4 lD (pH BH))  (HK ARB)) (kq (ynw ê BH BG tj)) (Ix qv 0)))))) (B2 zte),hm,Co,BY (by show FD;exact Β)⟩
theorem qO:ES ["step",AAo] ["step",AAo] zjl:=BM
theorem zx1(F:A_ AcD AcD zjl)(hm:CS AcD):BbQ:=
 ⟨f,fd,Be gK qO zzt znb (by
  have nd:=qO.nd;show B0 bN;exact(bK  (og eV (ych Af6 Af6 xy BG) xy))) (B2 zy3),hm,Co,BY (by show FD;exact Β)⟩
theorem vK:ES AhV AhV UG:=BM
theorem z4b(F:A_ AR8 AR8 UG)(hm:CS AR8)(gO:BC zne)(xR:AyV):BXL:=
 ⟨f,fd,Be gK vK z5u zs0 (by
  have nd:=vK.nd;show B0 bN;exact(bK (AHy (eN (EK (qY (Au:= [ic]) (N' := AlD) (by show As (cP AhV _ [ic] [1,2] (aU UG) AlD);exact⟨Β,Χ,Χ,Χ,Β,Χ⟩) Β  (A4 lD (pH BG))  (HK AlD)) (kq (yV (AWF yly xR boot_any (y_ (EK (qY (Au:= ["start"]) (N' := A7d) (by show As (cP AlD _ ["start"] [0,2] (zuq _ (aU UG)) A7d);exact⟨Β,Χ,Χ,Χ,Β,Χ⟩) Β  (A4 lD AYK)  (HK A7d)) Kx (AVo gO (AIv BH BG) EQ)))))) (Ix qv 0)))))) (B2 z5c),hm,Co,BY (by show ñ;exact Β)⟩
theorem Eo:AbX z5p:=BM
theorem yha(F:A_ AcE AcE z5p)(hm:CS AcE)(bC:BC Uv):BQF:=
 ⟨f,fd,Be gK Eo ylj z8g (by
  have nd:=Eo.nd;show B0 bN;exact(bK  (AFU bC (AHo ô An_) ô))) (B2 ynp),hm,Co,BY (by show FD;exact Β)⟩
theorem Aw:PQ [MA,AR8,vx] MA zzj:=BM
theorem ydg(F:A_ AcF AcF zzj)(hm:CS AcF)(lO:BC zsv)(mK:BC zzk):BYr:=
 ⟨f,fd,Be gK Aw yki z1k (by
  have nd:=Aw.nd;show B0 bN;exact(bI  (AH8 (A4 o7 (OY aQ aQ)))  (Mo (AVq AEv (AXn (eP mK BH EQ))) (ACl 1)))) (B2 yi2),hm,Co,BY (by show Sc;exact Β)⟩
theorem Ax:ES Bd3 Bjf ZM:=BM
theorem yde(F:A_ AcG AcG ZM)(hm:CS AcG)(cg:BC zfk)(jm:BC zts)(mK:BC zzk)(aO:L6):Bav:=
 ⟨f,fd,Be gK Ax yhm z2o (by
  have nd:=Ax.nd;show B0 bN;exact(bI  (AYd cg BH (M3 cg BG EQ)) (AEf (AaW 4 (AjN jm (EK (qY (Au:= [VQ]) (N' := Axs) (by show As (cP Bd3 _ [VQ] [] (aU ZM) Axs);exact⟨Β,Χ,Χ,Χ,Β,Χ⟩) Β  (A4 lD (pH E5))  (HK Axs)) Kx (Ix o7 (OY AIB BJ1))))) (aT (A4W BH (M3 mK (AMe Ajv) PF)) PF)))) (B2 ykm),hm,Co,BY (by show ñ;exact Β)⟩
theorem xX:ES AI5 AI5 ZP:=BM
theorem z7p(F:A_ AcH AcH ZP)(hm:CS AcH)(yM:Bav):Baw:=
 ⟨f,fd,Be gK xX ye4 zxc (by
  have nd:=xX.nd;show B0 bN;exact(bK (AQR (EK (qY (Au:= [VO]) (N' := A_o) (by show As (cP AI5 _ [VO] [0,2] (aU ZP) A_o);exact⟨Β,Χ,Χ,Χ,Β,Χ⟩) Β  (A4 lD AYK)  (HK A_o)) Kx (AfG yM (kU BH BG EQ)))))) (B2 ydf),hm,Co,BY (by show ñ;exact Β)⟩
theorem Ay:AbX z0g:=BM
theorem yd1(F:A_ AcI AcI z0g)(hm:CS AcI)(bC:BC Uv):BQG:=
 ⟨f,fd,Be gK Ay yim z03 (by
  have nd:=Ay.nd;show B0 bN;exact(bK  (AFU bC (AIv ô An_) ô))) (B2 ykx),hm,Co,BY (by show FD;exact Β)⟩
theorem qP:PQ [VQ] VQ zjc:=BM
theorem zwc(F:A_ AcJ AcJ zjc)(hm:CS AcJ)(bC:BC Uv)(JB:OZ vb)(aO:L6):BXS:=
 ⟨f,fd,Be gK qP zzx zna (by
  have nd:=qP.nd;show B0 bN;exact(bK  (AFU bC (æ yih JB BG) BJ1))) (B2 zzy),hm,Co,BY (by show Sc;exact Β)⟩
theorem xY:BTF ZQ:=BM
theorem z9u(F:A_ AcK AcK ZQ)(hm:CS AcK)(jm:BC zts)(fC:BC zom)(oK:BXS)(cg:BC zfk):Bcj:=
 ⟨f,fd,Be gK xY ybk zxx (by
  have nd:=xY.nd;show B0 bN;exact(bK (AHy (AjN jm (EK (qY (Au:= [VQ]) (N' := ARB) (by show As (cP ϒ _ [VQ] [0] (aU ZQ) ARB);exact⟨Β,Χ,Χ,Χ,Β,Χ⟩) Β  (A4 lD (pH BJ4))  (HK ARB)) Kx (AVo fC (AMe (z7k ê BG BH)) (AXo oK))))))) (B2 ycg),hm,Co,BY (by show FD;exact Β)⟩
theorem jY:ES AqC [c9,Pe] RX:=BM
theorem zmx(F:A_ AcL AcL RX)(hm:CS AcL)(vL:Bba)(vM:Baw)(vN:Bcj)(cg:BC zfk)(aO:L6):Bck:=
 ⟨f,fd,Be gK jY znx zf5 (by
  have nd:=jY.nd;show B0 bN;exact(bI (t_ (EK (uk 2 (Au:= [LL]) (N' := AI5) (by show As (cP AqC _ [LL] [0,1] (aU RX) AI5);exact⟨Β,Χ,Χ,Χ,Β,Χ⟩) Β  (A4 lD BJ9)  (HK AI5)) Kx (AfG vM BRG))) (eS (t_ (EK (uk 3 (Au:= [LL]) (N' := ϒ) (by show As (cP AqC _ [LL] [1] (aU RX) ϒ);exact⟨Β,Χ,Χ,Χ,Β,Χ⟩) Β  (A4 lD BJ9)  (HK ϒ)) Kx (A8g vN))) (t_ (EK (uk 4 (Au:= [LL]) (N' := ϒ) (by show As (cP AqC _ [LL] [1] (aU RX) ϒ);exact⟨Β,Χ,Χ,Χ,Β,Χ⟩) Β  (A4 lD Ajo)  (HK ϒ)) Kx (Ix o7 (OY (ABj BJ4) aQ)))) (ABn (eP vL (Ba9 PF EQ) (Ba9 AUa E5)))))) (B2 znt),hm,Co,BY (by show FD;exact Β)⟩
theorem tV:PQ Bfl nv ZR:=BM
theorem zzb(F:A_ AcM AcM ZR)(hm:CS AcM)(vO:BX2)(iH:Bck)(cZ:BC Zi)(aW:kA)(iB:AJU):BX3:=
 AjK (Be Ge tV z4n zqx (by
  have nd:=tV.nd;show B0 bN;exact(bI  BQ6 (AEf (Hj Β  (ABd vO.fn WV)  AEv (AEf (AaW 3 (eN (A3 (æ z0m aW (AjN cZ.fn (EK (qY (Au:= [ia]) (N' := A1w) (by show As (cP Bfl _ [ia] [2] (aU ZR) A1w);exact⟨Β,Χ,Χ,Χ,Β,Χ⟩) Β  (A4 lD (pH BG))  (HK A1w)) (kq (lV (Da Lh) eJ BH tj)) (Ix qv 0))))))) (P6 (yn Wm (A'b EQ (AX7 iH E5)) (AZn 4 5) (P6 (og (yc4 (i:=1) ê Β IJ  (ABl 4)) qv 5)))))) (xc W3 BLk)))) (B2 z40))
theorem znk:ES [NO,Pc,Ā] [NO,Pc,Ā] zeo:=BM
theorem zns(F:A_ LE BCt zeo)(M:Bdb S4)(hm:i8 AAf S4)(mL:A1z)(mO:aN K S4 Pc)(kj:aN K S4 Ā):Bhk:=
 ⟨f,fd,z8s F Β znk mL mO kj Ψ AXD AXD AXD (Da Β) (Da Β),M.1,M.2,mL,hm,BY (by show ñ;exact Β)⟩
theorem Az:AbX zz9:=BM
theorem ybw(F:A_ AcN AcN zz9)(hm:CS AcN)(bC:BC Uv):BQH:=
 ⟨f,fd,Be gK Az yhg z0n (by
  have nd:=Az.nd;show B0 bN;exact(bK  (AFU bC ô ô))) (B2 yhp),hm,Co,BY (by show FD;exact Β)⟩
theorem Ep:AbX yac:=BM
theorem yhz(F:A_ AcO AcO yac)(hm:CS AcO)(bC:BC Uv):BQI:=
 ⟨f,fd,Be gK Ep yk1 z5w (by
  have nd:=Ep.nd;show B0 bN;exact(bK  (AFU bC ô ô))) (B2 ym8),hm,Co,BY (by show FD;exact Β)⟩
theorem vP:ES [ALR,AGU,"x",vx] [ALR,AGU,"x"] zoy:=BM
theorem z3i(F:A_ AcP AcP zoy)(hm:CS AcP)(yN:BQH)(mK:BC zzk)(fC:BC zom)(sE:BC z7b):Bax:=
 ⟨f,fd,Be gK vP z6y zse (by
  have nd:=vP.nd;show B0 bN;exact(bI  (AYd yN (AX7 fC eJ) BV6)  (ABn (eP mK eJ (M3 sE E5 BV6))))) (B2 yam),hm,Co,BY (by show ñ;exact Β)⟩
theorem m8:AVb [NO,"x",ALR,AGU] "x" zfd:=BM
theorem zqk(F:A_ AKz BCu zfd)(M:Meth K hZ AKz f)(cu:APN)(sG:Bax)(iB:AJU)(bL:ANw)(aL:Agc):Bfu:=
 AFw (Be gK m8 zro zhv (by
  have nd:=m8.nd;show B0 bN;exact(bI  (qr (AnZ (AEj (iq (iq Aap)) BH)) (aT (cF (iq Aap) aQ) JS))  (Mo (yn Wm (A'b Aap (ya3 Aap (FP aQ) Ld)) (AZn 2 3) (AFo (A4 yV (AEj BH Aez)) (AP2 sG (kU EQ E5 BH)))) (aT (cF (cF Aap AIB JS) aQ) JS)))) (B2 zr7)) (BY (by show FD;exact Β))
theorem jD:AVb (AMQ LL) LL zde:=BM
theorem zkw(F:A_ ā BCv zde)(M:AKJ ā)(aq:zD)(aP:Bih):Bbx:=
 AFw (Be gK jD zls ze8 (by
  have nd:=jD.nd;show B0 bN;exact(bK  (og eV (yhx ê (ŧ aP) BH AUa) (AXs Β Β)))) (B2 zmn)) (BY (by show FD;exact Β))
theorem Er:PQ [MA] MA z9e:=BM
theorem ykh(F:A_ AKv AKv z9e)(hm:CS AKv)(sE:BC z7b)(jm:BC zts)(aO:L6):BYt:=
 ⟨f,fd,Be gK Er ynh z61 (by
  have nd:=Er.nd;show B0 bN;exact(bK  (AFU sE (AXo jm) (AMe Ñ)))) (B2 ynk),hm,Co,BY (by show Sc;exact Β)⟩
theorem m9:PQ [cf] cf zff:=BM
theorem zo5(F:A_ AcQ AcQ zff)(hm:CS AcQ):BYp:=
 ⟨f,fd,Be gK m9 zr6 zh2 (by
  have nd:=m9.nd;show B0 bN;exact(bK  (og eV (A4W yU aQ) aQ))) (B2 zrj),hm,Co,BY (by show Sc;exact Β)⟩
theorem Ba:PQ ["two"] "two" zze:=BM
theorem yc3(F:A_ AcR AcR zze)(hm:CS AcR)(fC:BC zom):BYs:=
 ⟨f,fd,Be gK Ba yh6 z2f (by
  have nd:=Ba.nd;show B0 bN;exact(bK  (AFU fC eJ eJ))) (B2 yjf),hm,Co,BY (by show Sc;exact Β)⟩
theorem vQ:PQ [iX,"best",VT,"two"] iX zpa:=BM
theorem z4k(F:A_ AcS AcS zpa)(hm:CS AcS)(cu:APN)(mQ:BC z15)(aR:kR)(aO:L6):BYu:=
 ⟨f,fd,Be gK vQ z6i zss (by
  have nd:=vQ.nd;show B0 bN;exact(bI  (AH8 (sB (Ka BG Ld) (FP aQ)))  (Mo (A3 (z70 Β Β aR  (A3 (au aQ (Ll BKV)))  AEv  (Mo (qi (BPN EQ EQ)) (AFo (AnZ (AEj (du mQ ko) (du mQ Ai9))) (AXn (ABl 3)))))) (ACl 1)))) (B2 z66),hm,Co,BY (by show Sc;exact Β)⟩
theorem Es:ES [iX,ci] [iX,ci] yan:=BM
theorem yku(F:A_ AKw AKw yan)(hm:CS AKw)(sI:BYu)(cu:APN)(mQ:BC z15)(aO:L6)(jo:A'G):Bdv:=
 ⟨f,fd,Be gK Es ym5 z47 (by
  have nd:=Es.nd;show B0 bN;exact(bI  (qr (A4 uO (SQ (ANy Ñ aQ) (SN (yV (AEj BH (AXo mQ)))))) (xc (z06 Β Β jo.1 jo.2) (Ll yU)))  (AP2 sI WV))) (B2 yls),hm,Co,BY (by show FD;exact Β)⟩
theorem xZ:PQ [iX] iX zs6:=BM
theorem z97(F:A_ AKx AKx zs6)(hm:CS AKx)(aO:L6):BYq:=
 ⟨f,fd,Be gK xZ ycn zv6 (by
  have nd:=xZ.nd;show B0 bN;exact(bK  (AUN (BPN (ANB BKV) (ANB Ñ))))) (B2 ydb),hm,Co,BY (by show Sc;exact Β)⟩
theorem yc:PQ BYD MA ZS:=BM
theorem ya8(F:A_ AcT AcT ZS)(hm:CS AcT)(cu:APN)(aO:L6):BXO:=
 ⟨f,fd,Be gK yc yet zwj (by
  have nd:=yc.nd;show B0 bN;exact(bI  (AKE 1) (AEf (Hj Β  (ABl 0)  AEv (AEf (fP (i:=3) nd Β IJ (A3 (yiw (ACV (ABj (eN (EK (qY (Au:= [VO]) (N' := A6e) (by show As (cP BYD _ [VO] [2] (aU ZS) A6e);exact⟨Β,Χ,Χ,Χ,Β,Χ⟩) Β  (A4 lD (pH BH))  (HK A6e)) (kq (AFf (AEj BH BG))) (Ix qv 0)))))))) BeS)) (ACl 1)))) (B2 yb4),hm,Co,BY (by show Sc;exact Β)⟩
theorem Bb:ES Ah5 [cf,LA,ci] MN:=BM
theorem yhs(hr:A0W 6 ă (aU MN))(mR:AyN)(dg:AyO)(BCH):uD (ŏ (AeY Ah5 ă (aU MN))) F0 H (yd MN) (ztn K c):=by
 have nd:=Bb.nd;have hu:Abh ă MN:=APw
 exact(bI  (AFG Fp Aju (AXo dg) (xc (z06 Β Β lQ.1 lQ.2) (Ll yU)))  (PD (AFG ABz BG yU (AP2 mR ko)) (AFG ABz BG yU (AP2 mR (Ll (du jE (Ll BKT))))) (AP2 mR (Ll (M3 qe BKT (V4 (x6 abf EQ V0) (yma Β jF) EQ))))))
theorem yc6{f:Ζ}{fd:Fc}{uI:Ζ}(c:Cls)(F:Bcx)(mR:AyN)(dg:AyO)(BCH):To fV o4 7 f fd Ah5 (nJ K (Ub c)):=
 Be abp Bb yj3 ztn (yhs c hr mR dg qe jE fK aO lQ jF) (B2 yh0)
theorem ydx{f:Ζ}{fd:Fc}{uI:Ζ}{Qy:ND}{dn:Δ}{Qz:ADq}(c:Cls)(F:Bcx)(hT:X_ uI=Ε (BAq (BFx [BA])))(hm:CS ă)(mR:AyN)(dg:AyO)(BCH):Bdr:=by
 have FO:=BXC yc6 P c F mR dg qe jE fK aO lQ jF;have kp:=Co;obtain⟨oc,od,kV,doc,pm,an,cdv,ct,osl,e0,lk,hcd⟩:=F.ex;subst e0;refine⟨f,_,FO,hm,kp,BZi,BZi⟩
 ·obtain⟨_,_,_,Β⟩:=vA (us:=us) (CC hl);exact BZv Β
 ·have hl2:nI=2:=Cc hl
  obtain⟨_,_,Β⟩:=len2 (us:=us) (CC hl2);exact BZv Β
theorem ji:ES [NO,Pc,VQ,"levels"] [NO,Pc,VQ] ZV:=BM
theorem zjb(F:A_ AGG BCw ZV)(M:AKJ AGG)(gA:Bhk)(jG:Bfu)(fC:BC zom)(gZ:Bbx)(yO:Bdr)(jo:A'G)(lQ:Avu)(bL:ANw)(aq:zD)(bw:Bii)(bJ:ķ cf)(bR:ķ ci)(kE:BO9)(oM:BQd)(sJ:BLc):Bby:=
 AFw (Be gK ji zky ze0 (by
  have nd:=ji.nd;show B0 bN;exact(bI (t_ (EK (uk 3 (Au:= BIQ) (N' := AoK) (by show As (cP [NO,Pc,VQ,"levels"] _ BIQ [0] (aU ZV) AoK);exact⟨Β,Χ,Χ,Χ,Β,Χ⟩) Β  (A4 lD (ydv EQ))  (o5 (Aa Β (ACG (W' 0 AoK) (W' 1 AoK))))) Kx (AVo fC (AMe BH) (ĵ (Tf gZ aq VZ EQ) BG)))) (AIs (A3 (Bb8 Μ (og eV (Tf jG bL VZ (ŧ bw)) (Ll (yck yO VZ Β (kU (ŧ bJ) E5 (ŧ bR))))) (A3 (a_ Β jo.1 (jo.2).k BgA Ψ (A4 (.EB Β lQ.1 (lQ.2).k BgA) Ψ)))))))) (fun ds Q Ex h=>zk1 ⟨(jo.2).k,(lQ.2).k,kE,oM,sJ⟩ h)) (BY (by show ñ;exact Β))
theorem jH:ES [LA,AdG,iX] [LA,AdG] ZW:=BM
theorem zkz(F:A_ iA iA ZW)(hm:CS Aq2)(fK:BC zki):Bbd:=
 ⟨f,fd,Be gK jH zmf zfa (by
  have nd:=jH.nd;show B0 bN;exact(bI  (tz (ABd fK WV)) (AIs (AQR (EK (qY (Au:= ["count"]) (N' := A6h) (by show As (cP [LA,AdG,iX] _ ["count"] [2] (aU ZW) A6h);exact⟨Β,Χ,Χ,Χ,Β,Χ⟩) Β  (A4 lD (pH (eN  (A4 (Ka BH Ld) (FP (DQ aQ))))))  (HK A6h)) Kx (Ix (V4 (x6 HW BG aQ) (AM9 (DQ BG))) V0)))))) (B2 zl2),hm,Co,BY (by show FD;exact Β)⟩
theorem Bc:A4l [MA,ny,"lists",AAo] zz7:=BM
theorem ydp(F:A_ h_ h_ zz7)(hm:CS h_)(lO:BC zsv):Bbb:=
 ⟨f,fd,Be gK Bc yjc z1q (by
  have nd:=Bc.nd;show B0 bN;exact(bI  (xD Fe 2 (pk (y_ (ANu aQ))))  (Mo (yn Hj Aj6 (x8 3) (AKh 2 (Ũ (du lO (kU BG (yfx (i:=2) Β IJ AIB JS) E5))))) AYx))) (B2 ykn),hm,Co,BY (by show FD;exact Β)⟩
theorem jJ:AVb AhF h_ RZ:=BM
theorem zlm(F:A_ LE Aco RZ)(fM:Alf)(ig:A4b)(iJ:Aiq)(aW:kA)(iQ:A'H)(eU:BOC):To fV o4 4 f fd AhF (Xo K Su h_ (T9 c)):=by
 have nd:=jJ.nd;refine z8e F Β jJ fM ig iQ.1 eU Β AXD (AG9 yce) Ψ (AtU ?_)
 have hu:Abh Aco RZ:=APw
 exact⟨Β,Β,D_,zfb K c,JO (yed (Au:= AW') (N' := AW') (by show As (cP AhF _ AW' [] (aU RZ) AW');exact⟨Β,Χ,Χ,Χ,Β,Χ⟩) Β  (A4 lD AYK)  (HK AW')  Kx  (Ix AN' WV)),fun a ds Q Ex h=>ycb h⟩
theorem zlk(F:A_ LE Aco RZ)(M:Bdb Su)(hm:i8 va Su)(fM:Alf)(ig:A4b)(iJ:Aiq)(aW:kA)(iQ:A'H)(eU:BOC):BgG:=
 ⟨f,fd,zlm c F fM ig iJ aW iQ eU,M.1,M.2,fM,hm,BY (by show FD;exact Β)⟩
theorem oN:ES [AdN,LA] [AdN,LA] ZX:=BM
theorem zrg(F:A_ AcU AcU ZX)(hm:CS AcU)(cu:APN)(aO:L6):Bbn:=
 ⟨f,fd,Be gK oN ztl zi6 (by
  have nd:=oN.nd;show B0 bN;exact(bK (AHy (ABj (eN (EK (qY (Au:= [MU]) (N' := A2X) (by show As (cP [AdN,LA] _ [MU] [0] (aU ZX) A2X);exact⟨Β,Χ,Χ,Χ,Β,Χ⟩) Β  (A4 lD (pH BH))  (HK A2X)) (kq (AFf (M3 cu BG BH))) (Ix qv 0))))))) (B2 zto),hm,Co,BY (by show FD;exact Β)⟩
theorem Et:PQ [LA] LA Z0:=BM
theorem yho(F:A_ AcV AcV Z0)(hm:CS AcV)(kJ:Bbn)(aZ:AH7)(jX:Af9):BXT:=
 ⟨f,fd,Be gK Et ymr z9y (by
  have nd:=Et.nd;show B0 bN;exact(bK (AQR (A3 (yje Β Β aZ Β jX (au (eN (EK PL (eN  (ANu aQ)) (eN (EK (qY (Au:= [MU]) (N' := A2W) (by show As (cP [LA] _ [MU] [0] (aU Z0) A2W);exact⟨Β,Χ,Χ,Χ,Β,Χ⟩) Β  (A4 lD Ajo)  (HK A2W)) Kx (A8g kJ))))) aJ)))))) (B2 yng),hm,Co,BY (by show Sc;exact Β)⟩
theorem nj:A4l BT0 Z1:=BM
theorem zos(F:A_ AcW AcW Z1)(hm:CS AcW)(iJ:Aiq)(aW:kA)(jK:BG9):BY3:=
 ⟨f,fd,Be gK nj zrf zg6 (by
  have nd:=nj.nd;show B0 bN;exact(bI (t_ (EK (uk 2 (Au:= [ic]) (N' := A6g) (by show As (cP BT0 _ [ic] [0] (aU Z1) A6g);exact⟨Β,Χ,Χ,Χ,Β,Χ⟩) Β  (A4 lD (æ z0e jK WV))  (HK A6g)) Kx (Ix (bY (Da DN) AZF) BG)))  (Mo (AYd iJ EQ (Ba_ ko)) (BTQ (Ba_ Ai9))))) (B2 zrt),hm,Co,BY (by show FD;exact Β)⟩
theorem lR:A4l BBk UJ:=BM
theorem znu(F:A_ AcX AcX UJ)(hm:CS AcX)(jL:BY3)(gO:BC zne)(iB:AJU)(qK:Aiy):BY4:=
 ⟨f,fd,Be gK lR zqq zgx (by
  have nd:=lR.nd;show B0 bN;exact(bI  (xD Fe 2 (pk Ayg)) (AEf (Wm Β  (A'b BH (M3 jL BG BH))  (AZn 3 4) (Bg3 (EK (yel (i:=5) nd Β Β (Au:= [ic]) (N' := A7c) (by show As (cP BBk _ [ic] [2,3] (aU UJ) A7c);exact⟨Β,Χ,Χ,Χ,Β,Χ⟩) Β (ACV (lD (pH BG)))  (HK A7c)) (kq (yV (M3 gO (AIv BG AZF) EQ))) A3h) (Ll (BZf (eN (EK (qY (Au:= [ic]) (N' := A_p) (by show As (cP BBk _ [ic] [0,4] (aU UJ) A_p);exact⟨Β,Χ,Χ,Χ,Β,Χ⟩) Β  (A4 lD (pH RH))  (HK A_p)) (kq (lV (Da Lh) (AIv AZF BG) EQ tj)) (Ix qv 0))))))) (BTQ EQ)))) (B2 zpp),hm,Co,BY (by show FD;exact Β)⟩
theorem Eu:ES [LA,ny,MA,"lists"] [LA,ny] z6p:=BM
theorem ykd(F:A_ AcY AcY z6p)(hm:CS AcY)(iu:BgG)(Dc:BXT)(iJ:Aiq)(jd:BY4)(aO:L6):BcI:=
 ⟨f,fd,Be gK Eu yl2 z7z (by
  have nd:=Eu.nd;show B0 bN;exact(bI  (tz (ABd Dc WV))  (PD (AYd iJ EQ BH) (qr (A3 (lV (Da ymc) Ñ (cF E5 AIB JS) tj)) (xc (z6d Β iu VZ Β) Ai9)) (ABn (eP jd EQ BH))))) (B2 ynr),hm,Co,BY (by show FD;exact Β)⟩
theorem jj:ES BhG AxT MP:=BM
theorem zle{f:Ζ}{cdv:AH}{A:BQ}{DE:LT}{s:AF}{H H1:Hp}{E:XK}{F0:Hp}(c:Cls)(hr:A0W 8 AK1 (aU MP))(bA:AyM)(gC:BC zi9)(cZ:BC Zi)(bW:BC zco)(BCK):uD (ŏ (AeY BhG AK1 (aU MP))) F0 H1 (yd MP) (zcp K c):=by
 have nd:=jj.nd;have hu:Abh AK1 MP:=APw
 exact(bI  (Al9 bJ AYX)  (Mo (Al9 bR (ABl 3)) (PD (Al9 bw (AHA z1c bA (BPI (zf bL aL PF)))) (Al9 aP (A4 yg4 (AHA W4 gC ko))) (PD (A4 (Ş z1l aq bF  (A4 z90 (AHA W4 cZ ko)) Β) IJ) (A4 (Ş z1l aq aK  Av0 Β) IJ) (PD (yn Hj (sB z10 (ACV (æ z0s aZ (Ll (ŧ bF))))) (x8 6) (P6 (A3 (P_ ydy 0 j 6 ê aq aK  (AiU (z3o bW aq VZ (ACV BG)) (OY tm (z7k ê (ŧ bF) tm))) Β IJ Β IJ)))) (LS 7 (sB z10 (ACV (æ z0m aW Akk)))) (xc (Ş Xj aq aH  (eP cA ACd (M3 qg ACd RH)) Β) IJ))))))
theorem zjn(F:A_ LE AK1 MP)(bA:AyM)(gC:BC zi9)(cZ:BC Zi)(bW:BC zco)(BCK):To fV o4 9 f fd AxT (DX K (Oo c)):=
 abz F jj (AIp _ h (z8h h)) fun cdv A DE s H E hr F0 H0=>⟨zcp K c,Bhg (zle c hr bA gC cZ bW cA qg),fun a bs t ds Q Ex h=>z8p h⟩
theorem zjf(F:A_ LE AK1 MP)(M:Mk K GL f)(hm:i8 AKy GL)(bA:BC zcc)(gC:BC zi9)(cZ:BC Zi)(bW:BC zco)(BCK):Bfv:=
 ⟨⟨f,fd,Bhg (zjn c F bA gC cZ bW cA qg),M,hm,BY (by obtain⟨_,_,_,_,_,_,Β⟩:=abO hl;exact Β)⟩,ADc z7j⟩
theorem oO:ES [AdH,Ark,c8,Ary] [AdH,Ark,c8] zgo:=BM
theorem zru(F:A_ AcZ AcZ zgo)(hm:CS AcZ)(gD:Bfv)(bA:AyM)(aW:kA)(vR:BYy)(Dd:BYz)(fM:Alf)(mL:A1z)(oR:ZU lU Su)(sO:ZU lU S4)(je:BO_)(kO:BQe)(oU:BLd):Bb4:=
 ⟨f,fd,Be Ge oO ztx zi7 (by
  have nd:=oO.nd;show B0 bN;exact(bI  (AhI V0)  (Mo (A4 (Bb8 AG (xD W0 3 (AHA yjy gD (au (eN  (A4 AN' WV)) (APK xy xy (z1c bA VZ Β (BPI xy)) (eN  (A4 AN' AOO))))))) (A3 (a_ Β vR.1 fM.cls BR' Ψ  (A4 (.EB Β Dd.1 mL.cls BR') Ψ)))) (P6 (A3 (ye9 (i:=3) Β IJ)))))) (fun ds Q Ex h=>ztd ⟨oR,sO,je,kO,oU⟩ h),hm,Co,BY (by show ñ;exact Β)⟩
theorem tW:ES [Ĕ,AdI] [Ĕ,AdI] zm3:=BM
theorem zy4(F:A_ Aca Aca zm3)(hm:CS Aca):BbR:=
 ⟨f,fd,Be gK tW z3b zq3 (by
  have nd:=tW.nd;show B0 bN;exact(bK  (AUN (A3 (K4 (Da Fp) ô An_ ABb))))) (B2 z3k),hm,Co,BY (by show FD;exact Β)⟩
theorem pN:PQ [n9,"_law_ordered",Ĕ,"_law_at"] n9 zh4:=BM
theorem zs8(F:A_ Acb Acb zh4)(hm:CS Acb)(eE:BC zjj)(aO:L6):BXP:=
 ⟨f,fd,Be gK pN zxq zlg (by
  have nd:=pN.nd;show B0 bN;exact(bI  (AKE 1)  (Mo (AVq AEv (PD (AhI aQ) (A3 (ztc  (AiU yi3 (uO (SQ (x6 Fp E5 Aju) (SN (AFf (AX7 eE (AM9 E5)))))))  (P6 (qi (hW qW E5 aQ))))) BeS)) (ACl 1)))) (B2 zxf),hm,Co,BY (by show Sc;exact Β)⟩
theorem tY:PQ [ASk,"_law_falling",BDw,OO] ASk zmh:=BM
theorem zzq(F:A_ Acd Acd zmh)(hm:CS Acd)(fO:BC zko)(eE:BC zjj)(aR:kR)(aO:L6):BXU:=
 ⟨f,fd,Be gK tY z42 zq7 (by
  have nd:=tY.nd;show B0 bN;exact(bI  (AH8 (sB z75 (AXo fO)))  (PD (xD Fe 2 (pk Ayg)) (A3 (K5 Β Β aR  (A4M ko)  (x8 3)  (AFo (A4 uO (V3 (ANy A0Z Aju) (V2 (yV (M3 eE (AM9 A0Z) (AM9 E5)))))) (AKh 2 (Ũ A0Z))))) AYx))) (B2 z39),hm,Co,BY (by show Sc;exact Β)⟩
theorem oV:ES Bfm [n9,c8] UL:=BM
theorem zrs(F:A_ Ace Ace UL)(hm:CS Ace):BbS:=
 ⟨f,fd,Be gK oV zt2 zi1 (by
  have nd:=oV.nd;show B0 bN;exact(bI  (xD Fe 2 (pk (y_ (ANu (cF BG AIB JS))))) (AEf (Hj Β  (sB z75 BH)  (AZn 3 4) (Bg3 (LS 5 (yn (yfx (i:=2)) IJ AIB JS)) (y_ (EK (qY (Au:= [ALY]) (N' := Apk) (by show As (cP Bfm _ [ALY] [3,4,5] (aU UL) Apk);exact⟨Β,Χ,Χ,Χ,Β,Χ⟩) Β  (A4 lD (pH BG))  (HK Apk)) (kq (AYa (eN (EK (qY (Au:= BlB) (N' := A'8) (by show As (cP Apk _ BlB [0,1,2] (zuq _ (aU UL)) A'8);exact⟨Β,Χ,Χ,Χ,Β,Χ⟩) Β  (A4 lD (pH E5))  (HK A'8)) Bfw A3h)) BN')) (Ix qv 0))))) (ABn (sB z75 EQ))))) (B2 ztv),hm,Co,BY (by show FD;exact Β)⟩
theorem jM:BP1 zdc:=BM
theorem zk4(F:A_ iA BCx zdc)(M:AKJ iA)(aW:kA)(aq:zD)(aH:AvP):BZB:=
 AFw (Be Ge jM zl6 ze9 (by
  have nd:=jM.nd;show B0 bN;exact(bK  (A4 W3 (og yjr AN' (Ll (ŧ aH)))))) (B2 zmc)) (BY (by show Sc;exact Β))
theorem nq:ES [Arl,n9,c8,AdK,BDx,OO,ASn,ASo,Bms] BkY Z2:=BM
theorem zpt(F:A_ Acf Acf Z2)(hm:CS Acf)(aR:kR)(aO:L6)(qK:Aiy):BXo:=
 ⟨f,fd,Be gK nq zr0 zhx (by
  have nd:=nq.nd;show B0 bN;exact(bI  (LS 4 (A3 aQ)) (xL (EK (K5 Β Β aR  (A4M AOO)) (x8 5) (eS (A3 (yla (AXX RH) (Aa Β (AuB 6 7)))) (t_ (EK (uk 8 (Au:= [ALY]) (N' := A'O) (by show As (cP [Arl,n9,c8,AdK,BDx,OO,ASn,ASo,Bms] _ [ALY] [4,6,7] (aU Z2) A'O);exact⟨Β,Χ,Χ,Χ,Β,Χ⟩) Β  (A4 lD (pH (cF E5 (Ţ RH) JS)))  (HK A'O)) Bfw (Ix qv 0))) (Mo (qr (A4 uO (V3 (ANy Ϟ BN') (V2 (AYa (cF BG RH JS) (BZf Ϟ))))) AJt) (P6 (LS 4 (AnA RH)))))) (ABn (A3 (K4 (Da ABz) PF AZF ABb)))))) (B2 zrm),hm,Co,BY (by show A6S;exact Β)⟩
theorem oW:ES [AAq,c8,BDw,OO,ASk] [AAq,c8] Z4:=BM
theorem zr3(F:A_ Acg Acg Z4)(hm:CS Acg)(fO:BC zko)(aR:kR)(aO:L6):Bbc:=
 ⟨f,fd,Be gK oW zvc zi3 (by
  have nd:=oW.nd;show B0 bN;exact(bI  (AKE 2) (xL (EK (K5 Β Β aR  (Ũ (xF DN Aju))) (x8 3) (AEf (AaW 4 (AjN fO (EK (qY (Au:= AAT) (N' := AbQ) (by show As (cP [AAq,c8,BDw,OO,ASk] _ AAT [3] (aU Z4) AbQ);exact⟨Β,Χ,Χ,Χ,Β,Χ⟩) Β  (A4 lD Ajo)  (o5 (Bdw AbQ AbQ AbQ))) (kq (x6 yw EQ E5)) (Ix qv 1)))) (AKh 2 (Ũ (iq (BOB PF V0)))))) AYx))) (B2 ztf),hm,Co,BY (by show FD;exact Β)⟩
theorem pO:PQ [AAq,BDy,Aro,Ary,AdI,"_law_more","_law_better"] AAq zhs:=BM
theorem ztk(F:A_ Ach Ach zhs)(hm:CS Ach)(eE:BC zjj):BXQ:=
 ⟨f,fd,Be gK pO zyf zlb (by
  have nd:=pO.nd;show B0 bN;exact(bI  (A'P 1 2 3 (P6 (A'P 4 5 6 (AFo (A4 uO (V3 (uO (SQ (x6 HW E5 tm) (SN (AFf (AX7 eE RH))))) (V2 (uO (SQ (ANy EQ RH) (SN (AYa E5 tm))))))) AJt))))  AJt)) (B2 zw1),hm,Co,BY (by show Sc;exact Β)⟩
theorem JC:PQ AVT c0 uz:=BM
theorem ynz(hr:A0W 11 S_ (aU uz))(cH:AyK)(dZ:AyL)(BCN):uD (ŏ (AeY AVT S_ (aU uz))) F0 H (yd uz) (z5x K c):=by
 have nd:=JC.nd;have hu:Abh S_ uz:=APw
 exact(bI  (AH8 BZn) (xL (tz BZn) (eS (qi (ABd gF (APK BG aQ BH EQ))) (A3 (AaW 4 (du gG (kU BG aQ (ykg Β Β aO Β jX (au (AqV E5) aJ)))))) (eS (BYE 5 AXh) (BYE 6 (eN  (ANu AUa))) (eS (qr (AiU z1g (lV (Da (yk2 hu d7)) tm (AMO yU yU) tj)) (A7K RH tm)) (t_ (EK (uk 7 (Au:= AAT) (N' := AAT) (by show As (cP AVT _ AAT [] (aU uz) AAT);exact⟨Β,Χ,Χ,Χ,Β,Χ⟩) Β  (A4 lD (pH (z5e (z2c (BWr tm)))))  (o5 (Bdw AAT AAT AAT))) Kx (Ix qv 1))) (eS (LS 8 (ABd gH (Ll ACd))) (LS 9 (eP dR Ϟ AXh)) (eS (qr (A3 (lV (Da ymc) aQ (iq AXC) tj)) (A7K RH yU)) (qr (AiU z1g (lV (Da (yk2 hu d7)) RH (AMO yU yU) tj)) AJt) (eS (LS 10 (A4 z5e (z2c (BWr RH)))) (A3 (qm (A3 (uO (V3 (AFf (ymn ADz Β eG Β aW Β)) (V2 (AYa (AqV ADz) ACd)))))  AJt  AMN)) (eS (A3 (qm (A3 (uO (V3 (AYa (AqV ADz) (eN (A3 (z16 Β Β aZ Β jX (au (AqV E5) aJ))))) (V2 (AFf (du eF (Ll ADz)))))))  AJt  AMN)) (t_ (EK (uk 11 (Au:= [OO]) (N' := Ald) (by show As (cP AVT _ [OO] [10] (aU uz) Ald);exact⟨Β,Χ,Χ,Χ,Β,Χ⟩) Β  (A4 lD (ya4 Β aR (Ll (ABj AXh))))  (HK Ald)) Kx (Ix AeZ (y_ (EK (qY (Au:= AUC) (N' := A6i) (by show As (cP Ald _ AUC [0] (zuq _ (aU uz)) A6i);exact⟨Β,Χ,Χ,Χ,Β,Χ⟩) Β  (A4 lD AYK)  (HK A6i)) (kq (x6 yw eJ BH)) A3h))))) (Mo (qr (AnZ (du dh (APK (qv 11) Ϟ AXh AXC))) AJt) (A7K (yc1 cD.mt aq VZ RH) (M3 dU ADz AXh))))))))))))
theorem ygs(F:A_ S_ S_ uz)(cH:AyK)(dZ:AyL)(BCN):To fV o4 12 f fd BlA (nJ K (z1d c)):=
 Be gK JC yod z5x (BCS (ynz c hr cH dZ gF gG cX gH)) (B2 yok)
theorem yop(F:A_ S_ S_ uz)(hm:CS S_)(cH:AyK)(dZ:AyL)(BCN):WF S_ 12 c0 z1d:=
 AjK (BCS (ygs c F cH dZ gF gG cX gH))
#where
theorem ymw{l:W.OpenLaw}{w:Ap}{K:AD}{h:AL}{mg:EX}{fa:Ζ}(O:AbM)(X:Sl)(G:A1p)(hfa:i8 S_ fa):
 ∃fd:Fc,(∀(s:AF) (v:AH),Ar2 s fd (IM [v]) [(c0,v)])/\BZu (fV AS7 w K mg DS (fD AS7 w) 12 fa fd BlA (nJ K zva)):=by
 show Ayu B L O;show Ayu L M L;have Mj:=_Hd.ix B 0 Β;show AtT Zj 1 Bf 2;show J' Bg 3 JD 4 Gu 5 Ml 6;show J' Df 7 Dg 8 Dh 9 Di 10;show J' Dj 11 Dl 12 JF 13 JG 14;show J' JH 15 JK 16 JL 17 JM 18;show J' aK 19 aH 20 aL 21 mO 22;show J' kj 23 aP 24 bw 25 bJ 26;show J' bR 27 eU 28 bF 29 JN 30;show J' Gv 31 Gw 32 Gx 33 Gy 34;show J' Gz 35 GC 36 GD 37 Dm 38;show J' Bh 39 Bj 40 Bk 41 Bl 42;show J' Bm 43 Bo 44 Bp 45 vU 46;show J' vV 47 vW 48 a0 49 n0 50;show J' a1 51 n1 52 a4 53 n4 54;show J' a5 55 n5 56 a14 57 n14 58;show J' a39 59 n39 60 a43 61 n43 62;show J' a44 63 n44 64 a53 65 n53 66;show J' a56 67 n56 68 a62 69 n62 70;show J' a68 71 n68 72 a3 73 a54 74;show J' Mp 75 Zk 76 Bq 77 JQ 78;show J' RJ 79 Br 80 Zm 81 JR 82;show J' Mr 83 Zn 84 Zo 85 Zq 86;show J' Zr 87 Zt 88 Ms 89 Zu 90;show J' RK 91 Zv 92 Zw 93 Dp 94;show J' yP 95 GF 96 GJ 97 kE 98;show J' oM 99 sJ 100 oR 101 sO 102;show J' je 103 kO 104 oU 105 d7 106
 let c:Cls:={Apart:=AKV Aqx,v9:=AKV "Few",eY:=AKV Acj,cj:=AKV va,Open:=AKV AAf,ao:=AKV AKy,Scale:=AKV AAg}
 have aq:zD:=⟨Df,Dg,Dh,Di⟩;have bL:ANw:=⟨JF,JG,JH,JK⟩;have jo:A'G:=AbD Mj Mp;show E2 lQ Avu (AbD Zj Zk) iQ A'H (AbD Bf Bq) vR BYy (AbD Bg JQ) Dd BYz (AbD JD RJ);show E2 mL A1z ⟨JN,⟨Gv,Gw,Gx,Gy,Gz⟩,GC,GD⟩ fM Alf ⟨Dm,⟨Bh,Bj,Bk,Bl,Bm⟩,Bo,Bp⟩ ig A4b ⟨vU,vV,_3.isV_of vW⟩ dJ Aix (UV Br);show E2 aO L6 (UV Zm) aZ AH7 (UV JR) aR kR (UV Mr) Jw (OZ AGH) (UV Zn);show E2 xP AyU (UV Zo) qK Aiy (UV Zq) Jx (OZ "all") (UV Zr) iB AJU (UV Zt);show E2 qL AyT (UV Ms) xR AyV (UV Zu) aW kA (UV RK) jX Af9 (UV Zv);show E2 JB (OZ vb) (UV Zw) jK BG9 (UV Dp) eG Bid (UV yP) jF Bi' (_Hd.glb_tup X G GF GJ Amf)
 show IA f2 fd2 a2 Mt 0 f6 fd6 a6 Bs 1;show IA f7 fd7 a7 Dq 2 f8 fd8 a8 yQ 3;show IA f9 fd9 a9 Dr 4 f10 ab0 a10 GK 5;show IA f11 ab1 a11 Ds 6 f12 ab2 a12 JT 7;show IA f13 ab3 a13 Dt 8 f15 ab4 a15 RL 9;show IA f16 ab5 a16 JV 10 f17 ab6 a17 GP 11;show IA f18 ab7 a18 JW 12 f19 ab8 a19 GQ 13;show IA f20 ab9 a20 Bt 14 f21 acd a21 GR 15;show IA f22 ace a22 GX 16 f23 acf a23 Du 17;show IA f24 acg a24 Bu 18 f25 ach a25 Zx 19;show IA f26 aci a26 JX 20 f27 acj a27 wK 21;show IA f28 acn a28 Bv 22 f29 aco a29 G3 23;show IA f30 acp a30 RM 24 f31 acq a31 Mu 25;show IA f32 acr a32 Mv 26 f33 acs a33 JZ 27;show IA f34 acu a34 Mw 28 f35 acv a35 Bw 29;show IA f36 acw a36 J0 30 f37 acy a37 sU 31;show IA f38 acz a38 Dv 32 f40 acA a40 Mz 33;show IA f41 acB a41 RP 34 f42 acC a42 G4 35;show IA f45 acD a45 RQ 36 f46 acE a46 vX 37;show IA f47 acF a47 MF 38 f48 acG a48 G5 39;show IA f49 acH a49 RT 40 f50 acI a50 J1 41;show IA f51 acJ a51 J2 42 f55 acK a55 MJ 43;show IA f57 acL a57 wL 44 f58 acM a58 RV 45;show IA f59 acN a59 vY 46 f60 acO a60 uo 47;show IA f61 acP a61 RW 48 f63 acQ a63 wM 49;show IA f64 acR a64 Dw 50 f65 acS a65 yR 51;show IA f66 acT a66 Dy 52 f67 acU a67 wN 53;show IA f69 acV a69 vZ 54 f70 acW a70 wO 55;show IA f71 acX a71 yS 56 f72 abP a72 Ow 57;show D1 fd0 jk dA (X2 0);show D1 fd1 oX dA (X2 1);show D1 fd3 ur dA (X2 2);show D1 fd4 nu dA (X2 3);show D1 fd5 nA dA (X2 4);show D1 acY sV dA (X2 5);show D1 acZ uw dA (X2 6);show D1 ac0 oY dA (X2 7);show D1 ac1 jZ dA (X2 8);obtain⟨f52,_,_,_,_,_,a52,MK,abQ⟩:=_Hd.funM_at (X2 9);show D1 ac2 jN dA (X2 10);show D1 ac3 qQ dA (X2 11);show D1 ac4 qR dA (X2 12);show D1 ac5 qj dA (X2 13);show D1 ac6 j4 dA (X2 14);have e:=hfa.symm.trans (i3 a72);show DM;refine⟨abP,_Hd.start_binds Ow (fun _ _ _ _ _ _ _=>Β),AV DS kb nb⟩;have gb:=ù ziw c jk (ADw a0 n0 jk.kp) aq aK;have dX:=ù zot c oX (ADw a1 n1 oX.kp) gb aq aK;show AKf cu ye5 Mt a2;have iZ:=RO zn3 ur (Aex a3) cu dJ aO;have jc:=ù zn0 c nu (ADw a4 n4 nu.kp) iZ dX aq aH;have cH:=ù zn4 c nA (ADw a5 n5 nA.kp) dX jc aZ aq aK;have dZ:=IQ zxn Bs a6 aR Jw;have bH:=IQ zzz Dq a7 aO;have fL:=IQ zs3 yQ a8 aR;have gF:=RO zyp Dr a9 bH fL aR aO;have oZ:=IQ z3v GK a10 xP;show t7 gG (dr zyy c Ds (i3 a11) fL oZ bH aR qK) vC (IQ z6h JT a12 cu) jC (RO zzg Dt a13 vC Jx aO) iB;show t7 bA (ù zma c sV ⟨JL,AUM a14,n14,JM⟩ (AjH Ml) jC qL bL aL) yL (IQ yio RL a15 xR) vG (RO z83 JV a16 yL aW aZ) jX;show AKf cZ z3r GP a17;have vO:=RO z64 JW a18 vG cZ aZ aW;have jq:=IQ z4d GQ a19 xP;have oH:=IQ zwl Bt a20 jq;have rZ:=IQ z45 GR a21 iB;have sy:=IQ z27 GX a22 rZ dJ;have bC:=IQ z0d Du a23 jq;show t7 oG (IQ zw8 Bu a24 aW) Jz (RO ym6 Zx a25 oG aR aO) vL (IQ z6v JX a26 oH sy bC Jz aR aO iB) dJ;show AKf cg zr1 wK a27;show AKf gO zx1 Bv a28;have lO:=IQ z4b G3 a29 gO xR;have mK:=IQ yha RM a30 bC;have jm:=IQ ydg Mu a31 lO mK;have yM:=RO yde Mv a32 cg jm mK aO;have vM:=IQ z7p JZ a33 yM;show t7 fC (IQ yd1 Mw a34 bC) oK (RO zwc Bw a35 bC JB aO) vN (RO z9u J0 a36 jm fC oK) cg
 show t7 iH (dr zmx c sU (i3 a37) vL vM vN cg aO) gC (dr zzb c Dv (i3 a38) vO iH cZ aW iB) gA (dr zns c uw ⟨AUM a39,n39⟩ (AjH JD) mL mO) kj;have yN:=IQ ybw Mz a40 bC;have sE:=IQ yhz RP a41 bC;have sG:=RO z3i G4 a42 yN mK fC sE;have jG:=ù zqk c oY (ADw a43 n43 oY.kp) cu sG iB bL aL;have gZ:=ù zkw c jZ (ADw a44 n44 jZ.kp) aq aP;have mR:=RO ykh RQ a45 sE jm aO;show AKf dg zo5 vX a46;have mQ:=IQ yc3 MF a47 fC;have sI:=RO z4k G5 a48 cu mQ aR aO;have qe:=dr yku c RT (i3 a49) sI cu mQ aO jo;have jE:=IQ z97 J1 a50 aO;have fK:=IQ ya8 J2 a51 cu aO;have yO:=dr ydx c MK abQ (i3 a52) mR dg qe jE fK aO lQ jF;have bW:=ù zjb c jN (ADw a53 n53 jN.kp) gA jG fC gZ yO jo lQ bL aq bw bJ bR kE oM sJ;have cA:=IQ zkz qQ (Aex a54) fK;show t7 iJ (IQ ydp MJ a55 lO) iu (dr zlk c qR ⟨AUM a56,n56⟩ (AjH Bg) fM ig iJ aW iQ eU) kJ (IQ zrg wL a57 cu) aO;show t7 Dc (RO yho RV a58 kJ aZ jX) jL (RO zos vY a59 iJ aW jK) jd (RO znu uo a60 jL gO iB) qK;show t7 qg (dr ykd c RW (i3 a61) iu Dc iJ jd aO) gD (ù zjf c qj ⟨Dj,AUM a62,n62,Dl⟩ (AjH Gu) bA gC cZ bW cA qg aZ aW aq bL bJ bR bw aP bF aK aH aL) cX (dr zru c wM (i3 a63) gD bA aW vR Dd fM mL oR sO je kO) oU;show AKf eE zy4 Dw a64;have fO:=IQ zs8 yR a65 eE aO;have gH:=RO zzq Dy a66 fO eE aR aO;show AKf dR zrs wN a67;have cD:=ù zk4 c j4 (ADw a68 n68 j4.kp) aW aq aH;have dh:=RO zpt vZ a69 aR aO qK;have dU:=RO zr3 wO a70 fO aR aO;have eF:=IQ ztk yS a71 eE;exact BCS (dr ygs c Ow cH dZ gF gG cX gH)
theorem hd_wit:lw.row.toRowW.promised:=by w_witness2
theorem hd_w:W.WalkO vw YA BlV (fun w h=>∃K:AD,Sl/\AbM) Blq (BCz uz) [] Aw8:=
 P9 _Hd.walk_ex n 63 k 12 x c0 CX (HG (fD lw.prog w)) (sp:=fun K=>nJ K zva) (Fx:=fun w K=>AbM) Β Ψ hd_z ⟨Β,DB,DB⟩ (A0y) (fun w K mg fa h O X G hm=>ymw O X G (hd_n ▸ hm)) (fun K H a ns hl hO hS=>z8i hl hS) (ARk _ z (yb7 z))
#print _Lw
end
theorem PySem.Challenge.cw_hall_k94_whole_shares_holds : PySem.Challenge.rw_hall_k94_whole_shares.Holds :=
 _Hd.holds _Lw.hd_said (_Hd.left _Lw.hd_e _Lw.hd_f _Lw.hd_A _Lw.hd_B _Lw.hd_C _Lw.hd_D) _Lw.hd_d _Lw.hd_p _Lw.hd_k _Lw.hd_ok _Lw.hd_bare _Lw.hd_wit rfl _Lw.hd_w
