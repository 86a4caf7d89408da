import PyProof.Rows.All
import Wide.All
import OpenK.AllK
import Wide.FinOn
import Lean
import PyProof.EqAt
import PyProof.EqKinds
import PyProof.TupleCall
import PyProof.NeKinds
import PySem.Challenge.RW_hall_k91_whole_any_order
set_option Elab.async false
set_option linter.all false
set_option maxRecDepth 100000
set_option maxHeartbeats 4000000
set_option compiler.extract_closed false
set_option genSizeOf false
set_option genInjectivity false
set_option bootstrap.genMatcherCode false
open Lean in
local macro_rules|`(command|mutual $cs* end)=>do
 let cs:=cs.map fun c=>c.raw
 unless cs[0]!.isOfKind ``Parser.Command.where do Macro.throwUnsupported
 let ps:Array Name:=#[`ε,`ζ,`η,`θ,`ι,`ν,`ξ,`ο,`π,`ρ,`τ,`υ,`χ,`ψ,`ω,`Α]
 let ap:= ``Parser.Term.app
 let un:=fun(s:Syntax)=>if s.isOfKind `par then s[0] else s
 let more:=fun(f:Syntax)(as:Array Syntax)=>if as.isEmpty then f else if f.isOfKind ap then .node .none ap #[f[0],mkNullNode (f[1].getArgs++as)] else .node .none ap #[f,mkNullNode as]
 let put:=fun(b:Syntax)(as:Array Syntax)=>b.rewriteBottomUp fun s=>match s with
  |.ident _ _ n _=>match ps.idxOf? n with
   |some i=>.node .none `par #[as.getD i s]
   |none=>s
  |.node i k l=>
   if k==ap&&s[0].isOfKind `par then
    let f:=s[0][0]
    more (if f.isOfKind ``Parser.Term.paren then f[1] else f) (s[1].getArgs.map un)
   else .node i k (l.map un)
  |s=>s
 let ex:=fun(tb:Std.HashMap Name (Nat×Syntax))(c:Syntax)=>c.rewriteBottomUp fun s=>
  let spl:=fun(l:Array Syntax)(k:SyntaxNodeKind)=>if l.any (·.isOfKind `spl) then l.flatMap fun x=>if x.isOfKind `spl then if k==nullKind then x.getArgs else #[x[0]] else #[x] else l
  match s with
  |.ident _ _ n _=>match tb[n]? with
   |some (0,b)=>b
   |_=>s
  |.node i k l=>
   if k==ap then match s[0] with
    |.ident _ _ n _=>match tb[n]? with
     |some (m,b)=>let as:=s[1].getArgs;more (put b (as.extract 0 m)) (as.extract m as.size)
     |_=>s
    |f=>if f.isOfKind ap then more f s[1].getArgs else s
   else if k== ``Parser.Tactic.show&&s[1].isOfKind ``Parser.Term.byTactic then .node .none `spl s[1][1][0][0].getArgs
   else if k== ``Parser.Term.explicitBinder&&s[2].getNumArgs==0 then
    let as:=s[1].getArgs
    match s[1][0] with
    |.ident _ _ n _=>match tb[n]? with
     |some (_,b)=>.node .none `spl (put b (as.extract 1 as.size))[1].getArgs
     |_=>s
    |b=>if b.isOfKind ``Parser.Term.forall then .node .none `spl b[1].getArgs else s
   else if k== ``Parser.Term.paren&&s[1].isOfKind ``Parser.Term.typeAscription then s[1]
   else .node i k (spl l k)
  |s=>s
 let mut tb:Std.HashMap Name (Nat×Syntax):={}
 for a in cs[1]![1][3][0][0][0].getArgs do
  let b:=ex tb a[3]
  let b:=if b.isOfKind ``Parser.Term.paren&&b[1].isOfKind ``Parser.Term.byTactic then b[1] else b
  let mut n:=0
  for x in b.topDown do
   if ps.contains x.getId then n:=n+1
  tb:=tb.insert a[1][0][0].getId (n,b)
 let mut au:Array Syntax:=#[]
 let mut o:=#[]
 for c in cs.extract 2 cs.size do
  if c.isOfKind ``Parser.Command.print then o:=o.push (<-`(command|end $(⟨c[1]⟩):ident)).raw
  else if c.isOfKind ``Parser.Command.where then o:=o.push (<-`(command|end)).raw
  else
   let c:=ex tb c
   for b in c.topDown do
    if b.isOfKind ``Parser.Term.binderTactic&& !au.contains b[2] then
     au:=au.push b[2]
     o:=o.push (<-`(command|theorem $(mkIdent (.str (.mkSimple "_root_") s!"_a{au.size}")) (h:True:=by $(⟨b[2]⟩)):True:=h)).raw
   let v:=au
   o:=o.push (c.rewriteBottomUp fun d=>match d with
    |.atom _ v=>.atom .none v
    |.ident _ r n p=>.ident .none r n p
    |.node _ k l=>
     let d:=Syntax.node .none k l
     if k== ``Parser.Command.declaration&&(d[1].isOfKind ``Parser.Command.definition||d[1].isOfKind ``Parser.Command.abbrev)&&d[1][1][0].getId != `lw then d.setArg 0 (d[0].setArg 4 (mkNullNode #[.node .none ``Parser.Command.noncomputable #[mkAtom "noncomputable"]]))
     else if k== ``Parser.Term.explicitBinder&&d[3][0].isOfKind ``Parser.Term.binderTactic then
      match v.idxOf? d[3][0][2] with
      |some i=>(d.setArg 3 (mkNullNode #[])).setArg 2 (mkNullNode #[d[2][0],.node .none ap #[mkIdent ``autoParam,mkNullNode #[d[2][1],mkIdent (.str (.str (.mkSimple "_root_") s!"_a{i+1}") "_auto_1")]]])
      |none=>d
     else d
    |s=>s)
 return mkNullNode o
mutual
#where
def q
|Β=>rfl|Δ=>Nat|Ε=>some|Ζ=>Addr|Θ=>none|Ι=>Prop|Κ=>true|Μ=>Str|Ν=>pins|Ξ=>rows|Ρ=>this|Ψ=>Int|AA=>pos|AB=>W.Frag|AC=>false|AD=>Shared|AF=>Γ1|AG=>X.K|AH=>kvs|AI=>Value|AJ=>Expr|AL=>int|AM=>Rat|AN=>Bool|AO=>str|AQ=>Heap|AS=>Pos|AT=>Stmt|AX=>cons|AY=>its|An=>World|Ap=>key|As=>ref|A2=>Program|A4=>acc|A6=>s.heap|A7=>Γ2|A8=>hlt|A9=>Γ'|BA=>own|BI=>env|BM=>Around|BO=>X.env|Bi=>hq1|B0=>inr|B1=>xs.length|B2=>hq2|B9=>prog|B_=>lst|CB=>Type|CC=>sub|CF=>s.heap.objs.size|CM=>top|Ch=>outer|Cn=>zU.mp|C3=>nil|C4=>List.length_map|C8=>F.kp|DB=>σ'|DI=>base|DS=>pre|DV=>inl|DZ=>tup|D1=>s1.heap.objs.size|D5=>name|D7=>hok|EC=>trans|ED=>hz1|EE=>hpl|EF=>one|EK=>List|EL=>map|EM=>False|EN=>hkl|ES=>s₁|Eg=>post|E7=>args|E8=>value|E9=>hlen|E_=>l.map|FD=>qual|FE=>es.size|FS=>FuncData|FU=>caps|Ff=>List.map_cons|Fh=>List.getElem?_map|F_=>rest|GA=>c.ao|GB=>"marks"|GE=>X.prog|GG=>Slot|GV=>List.length_cons|GW=>cpos|GY=>l.length|HE=>D.int|HP=>RelV|HQ=>"hand"|HZ=>m.length|Hb=>bare|Hc=>c.cO|Hd=>vals|He=>qs.length|II=>PySem|IJ=>names|IL=>Frag|IM=>Vals|IN=>get?|IO=>pure|IP=>bs.length|Iq=>I.hok|Ix=>zT.mp|Iy=>s₂|I_=>pos'|JA=>ns.length|JE=>leaf|JI=>R1.g|JJ=>List.cons_append|J'=>PyProof.Rows|KA=>String|KB=>scope|KE=>next|KF=>fmod|KG=>"mark"|KI=>True|KK=>h.get?|KL=>keep|KM=>apos|KO=>ps.map|K0=>"__init__"|K2=>"list"|K_=>done|LA=>List.length|LE=>hbase|LG=>Same|LH=>List.getElem?_cons_succ|LY=>List.nil_append|LZ=>"some"|Lc=>hName|Ll=>ws.length|Lm=>Perm|Lo=>List.map|MC=>body|MD=>s₀|ME=>"_law_script"|MG=>vs.length|MH=>List.getD_eq_getElem?_getD|MI=>List.set_cons_zero|ML=>List.set_cons_succ|Mm=>s.toks|Mn=>"work"|Mo=>"set"|My=>List.getElem?_cons_zero|M0=>List.append|M1=>h.objs.size|M3=>X.stack|M_=>s.heap.get?|M'=>ys.length|NA=>gr.f|Nc=>Str.empty|Nd=>"Book"|Nl=>"sheets"|Nn=>cont|No=>items|Nw=>iter|N0=>ps.length|N1=>List.length_append|N3=>ds.length|N4=>"self"|N9=>l.getD|N_=>Rat.div_def|Os=>PySem.Spec|Oy=>Scope|O0=>decide|O_=>slot|PD=>wpAny|PF=>hline|PH=>hdct|PM=>List.map_append|PP=>hold|P9=>"Open"|P_=>c.Open|QP=>its.toArray|QQ=>I.list|QU=>self|QY=>sc.names|Qb=>zero|Qr=>succ|Q1=>ms.map|Q3=>List.map_map|Q4=>p.getD|Q_=>pick|RA=>Rat.intCast_mul|SW=>c.cg|SY=>"Barred"|SZ=>"rows"|Sb=>Sum.inr|Sc=>Nodup|Se=>h'.get?|Sf=>r.length|Si=>items.size|Sj=>trivial|Sk=>ks.length|Sl=>cutD|Tx=>"table"|Ty=>D.str|T0=>treeTable|T1=>Value.none|T_=>congrArg|T'=>turn|UA=>item|UB=>"other"|UC=>push|UD=>Heap.size_push|UE=>List.append_nil|UF=>decide_eq_true|UH=>ks.zip|UI=>List.mem_range.mp|WC=>hands|WE=>"Scale"|WF=>Value.ref|WG=>if_neg|WH=>X.env.locals|WI=>elim|WJ=>D.nx|WN=>"place"|WO=>List.size_toArray|WP=>getD|WS=>same|WU=>List.lookup_cons|WV=>default|ZE=>List.mem_map|ZH=>K.lookup|ZI=>loose|ZN=>"tuple"|ZO=>m.map|ZT=>"law"|ZU=>work|ZY=>"points"|ZZ=>"reversed"|Zl=>absurd|Zp=>H₀|Zs=>length|Z3=>rawInt|Z_=>"sheet"|Z'=>_HT.sIx|aE=>h₁|aI=>fC.move|aS=>zB.mp|aT=>e.symm|ac=>Int.gcd|dr=>rs.map|du=>rows.length|dy=>mids|d4=>"reach"|d5=>"rule"|d6=>"gap"|d_=>"grade"|eA=>"zip"|eB=>_Hd.ex|eC=>xs.map|eD=>free|eI=>X.base|eJ=>X.N.Nodup|eK=>eval
|eL=>wpAny_mono|eP=>I.kIn|eQ=>its'|eR=>toNat|eS=>"hands"|ef=>hs.map|eg=>h₂|ei=>R.sl|e9=>z.xe|e_=>xs.getD|fA=>hit'|fE=>a.den|i_=>comb|i'=>cols|jI=>ws.map|jS=>mainGlobals|ja=>c.Scale|jb=>"borders"|jn=>z.fdiv|jp=>symm|js=>X.fs|jv=>I.cell|j_=>s'.heap|j'=>Ends|kA=>Name|kB=>Array.length_toList|kC=>I.tuple|kD=>"order"|kF=>"row"|kG=>"end"|kH=>error|kK=>Bool.and_eq_true|kL=>slice|kM=>pl.isList|kN=>L.map|kP=>X.wsh|kQ=>Int.toNat_natCast|kR=>gs.map|kT=>hval|kU=>b.num|kX=>List.filter_cons|oz=>fdiv|o4=>"range"|o5=>"sorted"|o6=>us.length|o_=>fields|pE=>X.mg|pM=>I.loc|pS=>I.free|pV=>wpAny_newObj_type|pb=>rule|pd=>"bounds"|pe=>List.length_take|pf=>s₃|ph=>vs.toArray|pj=>of_decide_eq_true|pp=>A.in1|pr=>z.symm|pv=>ns.getD|pz=>SetTable|p_=>pos2|w8=>rs.length|w9=>m.getD|w_=>xs.toList|xA=>c.Apart|xB=>f.length|xC=>"most"|xD=>o.data|xE=>B.len|xF=>I.ok|xI=>zV.mp|xL=>X.xe|xN=>holding|xc=>"ahead"|xh=>"part"|xi=>"dict"|xj=>cellsFrom|xk=>if_true|xl=>take|xn=>its.toArray.size|xo=>hfew|xp=>ns.map|xt=>List.zip_cons_cons|xw=>as.Nodup|xx=>Classical|xy=>I1.kIn|xz=>sF.seq|x0=>G.ex|x5=>List.append_assoc|x6=>bs.map|x_=>hit2|yA=>hmro|yB=>Rat.mul_assoc|ē=>List.mem_cons|Ĕ=>List.mem_filter|ĕ=>Option|Ė=>ws.Nodup|ė=>c.yr|Ę=>"apart"|ę=>p.xf|Ě=>"leaning"|ě=>"enumerate"|Ĝ=>"sum"|ĝ=>"str"|Ğ=>"worth"|ğ=>decide_eq_false|Ġ=>kvs.length|ġ=>h1.get?|Ģ=>filter|ģ=>objs.size|Ĥ=>K.In|ĥ=>B.wm|Ħ=>I.bare|ħ=>D.lst|Ĩ=>toArray|ĩ=>"bound"|Ī=>call|ī=>List.lookup|Ĭ=>hbody|ĭ=>putK|Į=>fs.zip|į=>Gr.refl|İ=>s2.trans|ı=>Γ1.set|Ĳ=>sF.trans|ĳ=>q.elim|Ĵ=>Int.natAbs_mul|ĵ=>List.pairwise_map|Ķ=>hacc|ķ=>List.take_length|ĸ=>bs.getD|Ĺ=>npos|ĺ=>ms.Perm|Ļ=>List.zipWith|ļ=>hand|Ľ=>mono|AAs=>U.length|AAt=>List.mem_cons_self|AAu=>List.length_pos_iff.mpr|AAv=>OsState|AAw=>List.eq_nil_of_length_eq_zero|AAx=>f.getD|AAy=>"Sitting"|AAz=>S.marks|AA_=>"must_have"|AA'=>"put"|ABG=>Array|ABH=>data|ABJ=>dict|ABK=>ps.drop|ABL=>X.outer|ABM=>X.ex|ABN=>wpAny_truthy_bool|ABO=>most|ABP=>wpAny_holding|ABQ=>stop|ABR=>contains|ABS=>j.toNat|ABT=>step|ABU=>"_law_cell_here"|ABV=>W.emptyDict|ABW=>lookup|ABX=>kindOf|ABY=>hplain|ABZ=>ks.map|ABa=>mean|ABb=>pair|ABc=>line|ABd=>s₁.heap|ABe=>TR.move|ABf=>R.len|ABg=>D2.nx|ABh=>R2.g|ABi=>r1.up|ABj=>s1.trans|ABk=>decide_eq_true_eq|ABl=>mem_of_lookup|ABm=>s2.heap.push|ABn=>s1.heap.get?|ABo=>fresh|ABp=>List.length_reverse|ABq=>List.mem_singleton.mp|ABr=>List.map_congr_left|ABs=>items2|ABt=>natAbs|ABu=>q.num|ABv=>q.den|AGT=>List.mem_singleton|AGU=>nextT|AGV=>jt.mp|AGW=>Rat.add_zero|AGX=>"scale"|AGY=>"BaseException.__getattribute__"|AGZ=>"reckoned"|AGa=>"int"|AGb=>Prod.mk.inj|AGc=>if_pos|AGd=>fs.length|AGe=>List.range|AGf=>isSome|AGg=>Nat.le_of_lt|AGh=>rows.take|AGi=>I.freeC|AGj=>I.len|AGk=>I.pin|AGl=>whole|AGm=>swapsWith|AGn=>Tuple|AGo=>"_law_rows_here"|AGp=>"right"|AGq=>"group"|AGr=>beq_iff_eq.mp|AGs=>A.units|AGt=>scope.names|AGu=>List.length_drop|AGv=>Obj.mapSeq|AGw=>s.heap.update|AGx=>Heap.get?_update_self|AGy=>its.length|AGz=>List.any_cons|AG0=>works|AG1=>fC.there|AG2=>R.gr.h|AG3=>_2.start|AG4=>is1.toArray.size
|AG5=>X.hand|AG6=>own.length|AG7=>s2.heap.objs.size|AG8=>hs3.extBut|AG9=>vs.getD|AG_=>Nat.min_self|AG'=>Eq.trans|AHA=>V.str|AHB=>gs.length|AHC=>List.length_range|AHD=>a.num|AHE=>D.tup|AKo=>List.getElem?_eq_getElem|AKp=>List.mem_cons_of_mem|AKq=>Nat.le_refl|AKr=>PySem.W|AKs=>Rat.le_refl|AKt=>boot_heap|AKu=>w.params|AKv=>s.drawn|AKw=>ws.filter|AKx=>"mean"|AKy=>"pair"|AKz=>"middle"|AK0=>S.leans|AK1=>"scaled"|AK2=>uW.map|AK3=>"len"|AK4=>"isinstance"|AK5=>"Book.__init__"|AK6=>"Book.put"|AK7=>beq_eq_false_iff_ne.mpr|AK8=>tupleKind|AK9=>slots|AK_=>sc.names.lookup|AK'=>X.env.kindOf|ALA=>I.ok.above|ALB=>I.ok.kind|ALC=>Ne.symm|ALD=>List.getElem?_set_self|ALE=>ms.take|ALG=>compareOp|ALH=>assignEach|ALJ=>Subscript|ALK=>Assign|ALN=>Nat.ne_of_gt|ALO=>pyIter|ALP=>rv.get|ALQ=>p.isList|ALR=>s.heap.push|ALS=>I1.hok.fresh|ALU=>"_law_k"|ALV=>"one"|ALW=>again|ALX=>"counts"|ALY=>"left"|ALZ=>"found"|ALa=>sizeLine_eq|ALb=>vals1|ALc=>codeAny|ALd=>True.intro|ALe=>I.laid|ALf=>Attribute|ALg=>bindL|ALh=>bindC|ALi=>N.length|ALj=>s3.heap.objs.size|ALk=>i.toNat|ALl=>if_false|ALm=>atKey|ALn=>codeAny_mono|ALo=>Gr.laid|ALp=>fC.rep|ALq=>h.elim|ALr=>R.less|ALs=>wpAny_setField|ALt=>h1.objs.size|ALu=>R.grow|ALv=>Fn.run|ALw=>isInstance|ALx=>pushCells|ALy=>List.pairwise_cons.mp|ALz=>List.drop_eq_getElem_cons|AL0=>List.any_eq_true|AL1=>hs1.extBut|AL2=>SetTable.below|AL3=>List.pairwise_cons|AL4=>List.nodup_append|AL5=>"set_iterator"|AL6=>Array.getElem?_eq_getElem|AL7=>vals.length|AL8=>Slot.tr|AL9=>ys.map|AL_=>x.length|AL'=>ExceptHandler|AMA=>Nat.one_mul|AMC=>l.filter|AMD=>Rat.le_trans|AME=>Rat.mul_one|AMF=>bs.reverse|ASV=>congr|ASW=>Rat.mul_eq_zero.mp|ASX=>Rat.mul_comm|ASY=>hs.Nodup|ASa=>cs.length|ASb=>cQ.mp|ASc=>jl.mp|ASd=>reverse|ASe=>ls.map|ASf=>"reached"|ASg=>S.rule|ASh=>S.scale|ASi=>W.findIn|ASj=>"kept_leanings"|ASk=>Int.toNat|ASl=>"bool"|ASm=>"Sitting.__init__"|ASn=>Paired|ASo=>sizeLine|ASp=>there|ASq=>List.range_succ|ASr=>List.mem_of_mem_take|ASs=>Un.kept|ASt=>zA.mp|ASu=>env.kindOf|ASv=>env.cells.lookup|ASw=>X.s₀.heap.get?|ASx=>X.H₀|ASy=>I.base.free|ASz=>Drawn|AS0=>I.base.mK|AS1=>fs.take|AS2=>List.flatten_append|AS3=>Model|AS4=>List.getElem?_set_ne|AS5=>both.map|AS6=>model|AS7=>starEach|AS8=>BoolOp|AS9=>wpAny_execs_nil|AS_=>assign|AS'=>I.ok.hd|ATA=>wpAny_standAt|ATB=>s1.heap.push|ATC=>s1.toks|ATD=>pyNext|ATE=>"spot"|ATF=>I1.laid|ATG=>Nat.le_of_eq|ATI=>Binds|ATJ=>List.getElem?_append_right|ATK=>getItem|ATL=>z.length|ATM=>h'.objs.size|ATN=>xs.reverse|ATO=>Nat.le_succ|ATP=>List.length_singleton|ATQ=>valueAt|ATR=>k.map|ATS=>Option.isSome_map|ATU=>dd.typeIs|ATV=>h.push|ATW=>S.gap|ATY=>s₁.heap.get?|ATZ=>l.prog|ATa=>List.Pairwise.nil|ATb=>L.length|ATc=>TR.rep|ATd=>Γ.length|ATe=>B.StaysIn|ATf=>R1.grow|ATg=>cx.px|ATh=>is2.toArray.size|ATi=>List.Nodup|ATj=>rv.up|ATk=>R'.grow|ATl=>rs.up|ATm=>List.mem_iff_getElem.mp|ATn=>G7.extBut|ATo=>Heap.SameBut.update|ATp=>Heap.ExtBut|ATq=>IsPair|ATr=>hs2.extBut|ATs=>g5.objs.size|ATt=>List.length_zipWith|ATu=>p.size|ATv=>is.map|ATw=>dif_pos|ATx=>t.place
|ATy=>es1.size|ATz=>List.zipWith_cons_cons|AT0=>xs.Nodup|AT1=>List.getElem_map|AT2=>kv.length|AT3=>startM|AT4=>hit.typeIs|AT5=>signs|AT6=>suite|AT7=>b.natAbs|AT8=>b.den|AT9=>l.drop|AT_=>fs.filter|Ab9=>Type _|Ab_=>p.mem_iff.mpr|Ab'=>List.flatten_cons|AcA=>List.mem_append|AcB=>Bool.false_ne_true|AcC=>_HM.dt|AcD=>m.take|AcE=>Nat.mul_le_mul|AcF=>cQ.mpr|AcG=>List.filter_filter|AcH=>ds.map|AcI=>kvs.map|AcJ=>qs.map|AcK=>hs.length|AcL=>"_law_names"|AcM=>"_law_cell"|AcN=>"_law_marked"|AcO=>"_law_rows"|AcP=>"_law_divisor"|AcQ=>"_law_low"|AcR=>"_law_rule"|AcS=>"under"|AcT=>"climbs"|AcU=>"is_scale"|AcV=>"meet"|AcW=>"joined"|AcX=>"by_work"|AcY=>"groups"|AcZ=>"divisor"|Aca=>"whole_row"|Acb=>"without"|Acd=>"cleared"|Ace=>"fraction"|Acf=>"exchanged"|Acg=>"solved"|Ach=>"sheets_with"|Aci=>"is_within"|Acj=>"plus"|Ack=>"total"|Acl=>"share"|Acm=>"shares"|Acn=>"minus"|Aco=>"mean_mark"|Acp=>"excess"|Acq=>"group_leanings"|Acr=>"leanings"|Acs=>"times"|Acu=>"over"|Acv=>"between"|Acw=>"least_number"|Acx=>"width"|Acy=>"nearest"|Acz=>"rising"|Ac0=>"number_from"|Ac1=>"ends"|Ac2=>"rests_behind"|Ac3=>"greatest_cuts"|Ac4=>"cuts"|Ac5=>"_law_bounds"|Ac6=>"_law_scale_points"|Ac7=>"_law_told"|Ac8=>"_law_mixed"|Ac9=>"is_mark"|Ac_=>"is_name"|Ac'=>"HallError"|AdA=>"__setattr__"|AdB=>"kept_borders"|AdC=>"__getattribute__"|AdD=>"Scale.__init__"|AdE=>"Barred.__init__"|AdF=>W.topGo|AdG=>xs.drop|AdH=>W.instObj|AdI=>Int.natCast_mul|AdJ=>μ.fdiv|AdK=>Un.laid|AdL=>List.map_drop|AdM=>W.hideAll|AdN=>zA.mpr|AdO=>List.filter_append|AdP=>X.env.scope|AdQ=>rows.map|AdR=>I.base.tups|AdS=>I.base.o9|AdT=>Heap.SameBut|AdU=>both.length|AdV=>m.idxOf|AdW=>standAt|AdX=>Int.natCast_add|AdY=>target|AdZ=>rv.length|Ada=>ws.take|Adb=>wpAny_rule|Adc=>s1.heap|Ade=>s2.heap|Adf=>"_law_at"|Adg=>Nat.zero_le|Adh=>i.fmod|Adi=>"lead"|Adj=>getAttr|Adk=>fs.map|Adl=>Nat.lt_succ_self|Adm=>W.kitOne|Adn=>"least"|Ado=>ps.zip|Adp=>NameKind|Adq=>List.nodup_cons.mp|Adr=>List.getElem?_replicate|Ads=>wpAny_loadPart'|Adt=>Prod.ext|Adu=>wpAny_field|Adv=>wpAny_callSpecial?_slot|Adw=>_Hd.fun_of|Adx=>ms.flatten|Ady=>call_meets|Adz=>Array.getElem?_toList|Ad0=>List.find?_cons|Ad1=>o.isSome|Ad2=>List.map_nil|Ad3=>rel.val|Ad4=>X.A.units|Ad5=>List.nodup_nil|Ad6=>call_meetsIn|Ad7=>OpenLaw|Ad8=>callerA|Ad9=>vW.back|Ad_=>TR.there|Ad'=>oe.dict|AeA=>Γ.set|AeB=>List.getElem?_eq_none|AeC=>R.dropAt|AeD=>B.get?|AeE=>Obj.data_mapFields|AeF=>setField|AeG=>noteFrame|AeH=>s2.heap.get?|AeI=>R.apart|AeJ=>R2.grow|AeK=>HO.tup|AeL=>wpAny_call|AeM=>W.callWith_K|AeN=>I.ok.mod.Jc|AeO=>Int.natAbs_add_le|AeP=>Bool.and_false|AeQ=>Pairwise|AeR=>Bool.false_eq_true|AeS=>List.take_add_one|AeT=>Pj.extBut|AeU=>_2.Cls|AeV=>I2.kIn|AeW=>List.pairwise_iff_getElem.mp|AeX=>xs.toList.length|AeY=>knd.is|AeZ=>w.params.followText|Aea=>"set-order"|Aeb=>List.take_append_drop|Aec=>choose|Aed=>length_eq|Aee=>collect|Aef=>acc.size|Aeg=>PySem.intKind|Aeh=>W.Looks|Aei=>hp.objs.size|Aej=>Heap.size_update|Aek=>R1.gr.h.free|Ael=>Nat.lt_or_gt_of_ne|Aem=>List.length_zip|Aen=>R1.wrT|Aeo=>ps.getD
|Aep=>Bool.true_and|Aeq=>fC.repN|Aer=>zR.mpr|Aes=>a.fmod|Aet=>Int.mul_comm|Aeu=>t.natAbs|Aev=>Nat.mul_le_mul_right|Aew=>Rat.intCast_sub|Aex=>l.take|Aey=>Rat.le_of_lt|ArV=>p.mem_iff.mp|ArW=>mV.zero|ArX=>mV.head|ArY=>List.append_of_mem|ArZ=>FunctionDef|Ara=>lA.mpr|Arb=>"BaseException"|Arc=>"object"|Ard=>"type"|Arf=>cd.mro|Arh=>builtin|Ari=>"ValueError.__new__"|Arj=>PySem.Calls|Ark=>s.length|Arl=>Inhabited|Arm=>Nat.pow_le_pow_right|Arn=>s.gens|Aro=>decide_eq_true_iff|Arp=>zB.mpr|Arq=>DefRec|Ars=>qs.take|Art=>cs.dropLast.map|Aru=>"Apart"|Arv=>_Hd.adr|Arw=>S.sheets|Arx=>"object.__setattr__"|Ary=>"object.__class__"|Arz=>"borders_borders"|Ar0=>"grade_borders"|Ar1=>PySem.W.Fast.te14364793385576792824|Ar2=>"abcdefghijklmnopqrstuvwxyz"|Ar3=>Sum.inl|Ar4=>Value.str|Ar5=>False.elim|Ar6=>Value.bool|Ar7=>Value.type|Ar8=>xs.set|Ar9=>es.toList|Ar_=>fs.lookup|Ar'=>Paired.mapP|AsA=>d.fdiv|AsB=>List.map_take|AsC=>builtinsNs|AsD=>List.drop_zero|AsE=>X.env.scope.kind|AsF=>X.env.cells.lookup|AsG=>List.getElem_reverse|AsH=>AllBare|AsI=>σ.length|AsJ=>I.base.keep|AsK=>Slot.pu|AsL=>List.filterMap_cons|AsM=>I.base.slot|AsN=>flatten|AsO=>I.hok.fresh|AsP=>d8.mpr|AsQ=>ps.take|AsR=>pm.mem_iff.mp|AsS=>wh.map|AsT=>isTrue|AsU=>List.mem_flatten.mpr|AsV=>Constant|AsW=>behindInMarks|AsX=>n.fdiv|AsY=>Int.zero_add|AsZ=>UnaryOp|Asa=>o.dict|Asb=>yC.sum|Asc=>pos.line|Asd=>p.hs.map|Ase=>pm.length_eq|Asf=>Y.natAbs|Asg=>I1.kept|Ash=>IsTup.new|Asi=>A.uniq|Asj=>I.turned|Asl=>I.list_inj|Asm=>Int.mul_one|Asn=>"_law_hands"|Aso=>T.done|Asp=>T.item|Asq=>"name"|Asr=>binaryOp|Ass=>i.natAbs|Ast=>"rights"|Asu=>A.under|Asv=>W.looks_findIn|Asw=>A.depth|Asx=>A.deeper|Asy=>Calls.spliced_cons|Asz=>BindsTo|As0=>_Hd.ix|As1=>vs.map|As2=>envOfC|As3=>S.kind|As4=>scope.names.lookup|As5=>List.length_replicate|As6=>W.fnOf|As7=>Builtin.Slice.slicePlaces|As8=>IsPart|As9=>ht.typeIs|As_=>Str.ofString|As'=>eq_of_beq|AtA=>subscripted|AtB=>typeIs_str|AtC=>List.all_cons|AtD=>typeOf|AtE=>W.nsIn|AtF=>xs.eraseIdx|AtG=>List.reverse_cons|AtH=>l.eraseIdx|AtI=>I.lstM|AtJ=>I.lset|AtK=>Nat.lt_trans|AtL=>dd.mapOf|AtM=>IntsAre|AtN=>l.row.toRowW|AtO=>List.set_set|AtP=>oe.cls|AtQ=>z.fmod|AtR=>beq_iff_eq|AtS=>hm.keeps|AtT=>x.bare|AtU=>SameStack|AtV=>wpAny_pyIter_list|AtW=>j.natAbs|AtX=>List.range_succ_eq_map|AtY=>NameKind.cell|AtZ=>Nat.lt_succ_of_lt|Ata=>NameKind.free|Atb=>q.symm|Atc=>List.nodup_cons|Atd=>S.free|Ate=>Nat.le_of_succ_le|Atf=>Bool.eq_iff_iff|Atg=>List.all_eq_true|Ath=>Int.le_refl|Ati=>I.fresh|Atj=>ms.Pairwise|Atk=>wpAny_seqItems|Atl=>wpAny_setField_rec|Atm=>Ph.extBut|Atn=>F.slot_zip_next|Ato=>u1.trans|Atp=>Γ2.set|Atq=>relayAll|Atr=>es.toList.map|Ats=>h.update|Atu=>scanBound|Atv=>knd.hash|Atw=>codeAny_builtin|Atx=>hm.heap|Aty=>Shared.TypeIs|Atz=>List.length_eq_zero_iff.mp|At0=>raiseNew|At1=>acc.toList|At2=>"list_reverseiterator"|At3=>Except.ok|At4=>s'.heap.get?|At5=>SortKind|At6=>W.kas_ask|At7=>a.cps.toList|At8=>a1.mem_iff.mp|At9=>List.nodup_append.mp|At_=>PySem.F.slot_dict_keyiterator_next|At'=>Bool.or_eq_true
|AuA=>vals.getD|AuB=>Or.inl|AuC=>Or.inr|AuD=>L.thaw|AuE=>Ti.trans|AuF=>I5.kIn|AuG=>Int.natAbs|AuH=>Rat.intCast_add|AuI=>List.length_filter_le|AuJ=>List.filter_eq_nil_iff.mpr|AuK=>List.contains_iff_mem|BFL=>List.mem_append_left|BFM=>pre.dropLast|BFN=>Heap.lt_size|BFO=>Option.some.inj|BFP=>hq.lin.mul|BFQ=>defaults|BFR=>z.natAbs|BFS=>behindTheImports|BFT=>Array.mk|BFU=>d.natAbs|BFV=>rows.filter|BFW=>u.filter|BFX=>List.filter_congr|BFY=>Int.ofNat|BFZ=>fs.flatten.length|BFa=>"__getattr__"|BFb=>"__class__"|BFc=>"ValueError.__init__"|BFd=>"NO_GAP"|BFe=>"Open.__init__"|BFf=>"Scale.scaled"|BFg=>"Sitting.leaning"|BFh=>"Sitting.reckoned"|BFi=>"Sitting.must_have"|BFj=>"Sitting.mark"|BFk=>"Sitting.grade"|BFl=>"Sitting.table"|BFm=>"Sitting.borders"|BFn=>"Book.rows"|BFo=>_Hd.fore|BFp=>PySem.W.Fast.te15667345088766844465|BFq=>_Hd.recOf|BFr=>Value.int|BFs=>Value.isInt_shape|BFt=>Value.float|BFu=>Vals.append|BFv=>sysModules|BFw=>o.ExactDict|BFx=>Int.fmod_eq_emod_of_nonneg|BFy=>Nat.succ_pos|BFz=>ob.slots|BF_=>Rat.one_mul|BF'=>W.hideAll_get|BGA=>W.of_hideAll|BGB=>filterMap|BGC=>bootBuiltins|BGD=>s.heap.FunFrames|BGE=>I.ok.frf|BGF=>I.stkSub|BGG=>I.base.there|BGH=>flatten.length|BGI=>List.filter_nil|BGJ=>X.env.scope.names.lookup|BGK=>Gm.congr|BGL=>its.toList|BGM=>wpAny_assign_Name|BGN=>assignInOrder_cons|BGO=>X.natAbs|BGP=>bindName|BGQ=>items.reverse|BGR=>wpAny_bindName|BGS=>"dict_itemiterator"|BGT=>wpAny_load|BGU=>I.tuple_inj|BGV=>PyProof.Rows.callWith_type1|BGW=>"_law_works"|BGX=>"_law_top"|BGY=>"_law_bottom"|BGZ=>"bottom"|BGa=>I7.unpinned|BGb=>"_law_many"|BGc=>PySem.F.slot_list_append|BGd=>PySem.F.type_list_append|BGe=>"_law_one"|BGf=>"_law_other"|BGg=>"multiple"|BGh=>getMethod|BGi=>W.set_plain|BGj=>W.looks_clsIn|BGk=>beq_iff_eq.mpr|BGl=>attributeBase|BGm=>plainObj_wpAny_Assign_Attribute|BGn=>W.kitx_list|BGo=>W.kitx_dict|BGp=>Around.under|BGq=>Code.isFrame|BGr=>W.cellsFrom_some|BGs=>PySem.mem_of_lookup|BGt=>List.getElem?_append_left|BGu=>ps.Nodup|BGv=>PyProof.Rows.callWith_builtin1|BGw=>PySem.AutoSeq1|BGx=>PySem.MeetsSeq|BGy=>PySem.MeetsSeq3|BGz=>s.TypeIs|BG0=>wpAny_call_entry|BG1=>Subscript_|BG2=>s3.heap.push|BG3=>seqIndex?|BG4=>Heap.get?_update_other|BG5=>sliceBounds|BG6=>SeqAt.EqAt|BG7=>its.toArray.any|BG8=>r'.length|BG9=>Calls.evalArgs_plain|BG_=>"list.append"|BG'=>r.append|BHB=>Bool.false_or|BHC=>h1.symm.trans|BHD=>rel.length|BHF=>PySem.F.slot_dict_get|BHG=>PySem.F.plainAttrs_dict|BHH=>s₁.heap.Ns|BHJ=>symm.trans|BHK=>ld.tup.elim|BHL=>Nat.lt_or_ge|BHM=>h.FunFrames|BHN=>Inv.landed|BHP=>excClassObj|BHQ=>W.funFrames_hide|BHR=>PySem.F.excBase_ValueError|BHS=>PySem.F.excBase_ValueError.hasBase|BHT=>R.g.free|BHV=>wpAny_pyIter_tuple|BHW=>R2.g.seq|BHX=>Builtin.Int.intBits|BHY=>Nat.pow_succ|BHZ=>List.all_map|BHa=>int_tuple|BHb=>int_list|BHc=>str_tuple|BHd=>str_list|BHe=>tuple_int|BHf=>tuple_str|BHg=>list_int|BHh=>list_str|BHi=>beq_false_of_ne|BHj=>checkBuiltinCall|BHk=>pushCells_keeps|BHl=>List.pairwise_cons.mpr|BHm=>ForInStep.yield|BHn=>names.lookup|BHo=>caps.map
|BHp=>l.Pairwise|BHq=>ListComp|BHr=>compPost|BHs=>comprehension|BHt=>gr.f.trans|BHu=>List.flatMap_cons|BHv=>X6.names.lookup|BHw=>PySem.preSum|BHx=>"list_iterator"|BHy=>PySem.argBest|BHz=>List.take_of_length_le|BH0=>ws.toArray|BH1=>"__next__"|BH2=>hit2.typeIs|BH3=>"StopIteration"|BH4=>wpAny_of_eq|BH5=>wpAny_throw|BH6=>wpAny_updateSeq_pair|BH7=>wpAny_letGo|BH8=>wpAny_newTuple|BH9=>D.TOz.symm|BH_=>D.i1z.symm|BH'=>wpAny_attempt|BIA=>wpAny_isInstance|BIC=>List.getElem?_zipWith|BID=>h2.trans|BIF=>List.toArray|BIH=>Nat.lt_trichotomy|BII=>List.pairwise_append|BIJ=>t.dummies|BIK=>List.pairwise_lt_range|BIL=>SetTable.has|BIM=>Obj.putSet|BIN=>"set.__new__"|BIO=>wpAny_askSetting|BIQ=>codeAny_call_builtin|BIR=>wpAny_runValue|BIS=>Nat.zero_add|BIU=>"set_iterator.__next__"|BIV=>Nat.mod_lt|BIW=>eraseIdx|BIY=>seqItems?|BIZ=>setNextDrawn|BIa=>pickOrder|BIb=>pickOrder.go|BIc=>"set_iterator.__iter__"|BId=>t.place.toList.length|BIe=>Array.getElem?_eq_none|BIf=>Nat.le_succ_of_le|BIg=>wpAny_setEpoch_of|BIh=>newFields|BIi=>hp.length_eq|BIj=>mem_iff.mp|BIk=>wpAny_updateSeq|BIl=>wpAny_pyIter_revIter|BIm=>listUpdate_at|BIn=>onTheHeap|BIo=>Value.builtin|BIp=>s₂.heap.objs.size|BIq=>hp.update|BIr=>R1.apart|BIs=>List.mem_map_of_mem|BIt=>h.mem_iff.mp|BIu=>getD_get?|BIv=>size_push'|BIw=>b.cps.toList|BIx=>List.pairwise_map.mp|BIy=>x.cps.toList|BIz=>SeqRoads2.EqGives.str|BI0=>X.A.in1.in1|BI1=>PySem.F.slot_dict_values|BI2=>decide_false|BI3=>"dict_keyiterator"|BI4=>hm.typeIs|BI5=>ms.length|BI6=>x.cps.size|BI7=>Decidable|BI8=>Int.gcd_comm|BI9=>Int.emod_nonneg|BI_=>Int.gcd_dvd_right|BI'=>Int.le_of_lt|BJA=>Int.ne_of_gt|BJB=>Int.mul_ne_zero|BJC=>Rat.num_divInt_den|BJD=>Rat.divInt_eq_div|BJE=>Prod.snd|BJF=>Rat.add_assoc|BJG=>Nat.add_mul|BJH=>qs.foldl|BJI=>Rat.mul_nonneg|BJJ=>S.filter|Boh=>List.mem_flatten.mp|Boi=>List.getElem?_eq_some_iff|Boj=>List.mem_append_right|Bok=>Nat.lt_of_lt_of_le|Bol=>Nat.ne_of_lt|Bom=>List.cons.inj|Bon=>List.getElem_mem|Bop=>Nat.lt_irrefl|Boq=>Rat.div_mul_cancel|Bor=>"ValueError"|Bos=>Int.natAbs_sub_le|Bot=>Nat.add_le_add|Bou=>Nat.mul_comm|Bov=>List.mem_of_find?_eq_some|Bow=>List.find?_some|Box=>List.find?_eq_none.mp|Boy=>importedModules|Boz=>Rat.mul_zero|Bo0=>"LONGEST_NAME"|Bo1=>lw.row.toRowW|Bo2=>Value.isStrOf|Bo3=>SeqAt.EqAt.int_str|Bo4=>SeqAt.EqAt.str_int|Bo5=>Paired.length|Bo6=>Int.gcd_zero_right|Bo7=>Int.mul_zero|Bo8=>PySem.Within|Bo9=>Int.natAbs_natCast|Bo_=>Nat.le_mul_of_pos_left|Bo'=>Int.dvd_natAbs.mpr|BpA=>List.range'_succ|BpB=>List.range_eq_range'|BpC=>List.mem_range.mpr|BpD=>W.hideAll_none|BpE=>List.drop_one|BpF=>X.env.globals|BpG=>Nat.add_comm|BpH=>X.s₀.heap.objs.size|BpI=>X.base.objs.size|BpJ=>List.any_map|BpK=>List.getElem?_range|BpL=>List.getD_cons_succ|BpM=>Rat.not_le.mp|BpN=>Int.ofNat_lt.mpr|BpO=>List.map_reverse|BpP=>List.contains_iff_mem.mp|BpQ=>I.ok.funs.mem|BpR=>Nat.sub_zero|BpS=>List.findIdx_cons|BpT=>List.pairwise_append.mp|BpU=>List.flatten_nil|BpV=>List.sum_cons|BpW=>"__classdict__"|BpX=>Constant_none|BpY=>I.mod.glob.keeps
|BpZ=>wpAny_isTrue_Compare1|Bpa=>List.perm_append_comm|Bpb=>Rat.sub_eq_add_neg|Bpc=>splitDisjunctions|Bpd=>wpAny_execs_cons|Bpe=>assignInOrder_nil|Bpf=>Rat.num_intCast|Bpg=>Rat.intCast_le_intCast.mpr|Bph=>Rat.intCast_nonneg.mpr|Bpi=>Nat.add_le_add_right|Bpj=>p.symm.filter|Bpk=>letOwnedTupleGo|Bpl=>Bool.false_and|Bpm=>h.IsListIter|Bpn=>h.IsTupleIter|Bpo=>s.heap.IsTuple|Bpp=>List.mem_filterMap.mpr|Bpq=>"_law_names_here"|Bpr=>"_law_number"|Bps=>es.toList.any|Bpt=>W.plainGet_of|Bpu=>W.findObj_own|Bpv=>wpAny_loadPart|Bpw=>wpAny_nsSet1|Bpx=>Heap.Ns1.of_empty|Bpy=>W.kitx_tuple|Bpz=>recursionLimit|Bp0=>Calls.spliced_nil|Bp1=>"_law_mixed_here"|Bp2=>List.replicate|Bp3=>Option.isSome_iff_exists.mp|Bp4=>e0.hok.fresh|Bp5=>name_of_addr|Bp6=>List.take_sublist|Bp7=>s.heap.NoLimit|Bp8=>codeAny_call_function|Bp9=>wpAny_Call_Name_kw|Bp_=>slicePart_none|Bp'=>toArray.size|BqA=>"__getitem__"|BqB=>PyProof.Rows.slot_tuple_getitem|BqC=>wpAny_typeOf|BqD=>evalPart_none|BqE=>pl.isList.typeIs|BqF=>slot_list_getitem.lookup|BqG=>Bool.or_false|BqH=>its'.toArray|BqI=>List.length_set|BqJ=>Option.getD_none|BqK=>SeqAt.EqAt.same|BqL=>call_list_seq|BqM=>Calls.callWith_builtin|BqN=>Vals.eraseIdx|BqO=>Builtin.List.listTooLong|BqP=>Option.isSome_some|BqQ=>List.length_nil|BqR=>tupleKind_room_in1|BqS=>wpAny_in_heap|BqT=>wpAny_notIn_heap|BqU=>wpAny_specialOf|BqV=>PySem.F.slot_dict_getitem.lookup|BqW=>wpAny_Dict_empty|BqX=>PySem.F.entry_dict_get|BqY=>R.gr.f.trans|BqZ=>Obj.mapFields|Bqa=>Obj.cls_mapFields|Bqb=>Bool.not_eq_true'|Bqc=>Int.natAbs_eq_zero.mp|Bqd=>SeqAt.RcNeAt|Bqe=>s.heap.IsList|Bqf=>Option.bind_some|Bqg=>beq_eq_false_iff_ne|Bqh=>List.forIn_cons|Bqi=>newFunctionEnv|Bqj=>List.drop_length|Bqk=>List.mem_range|Bql=>List.length_pos_of_mem|Bqm=>Builtin.List.listFitsIndex|Bqn=>PySem.F.slot_list_insert|Bqo=>Array.toList_inj.mp|Bqp=>PySem.F.plainAttrs_list|Bqq=>wpAny_pyIter_enum|Bqr=>"tuple_iterator"|Bqs=>F.slot_tuple_iterator_next|Bqt=>firstArgMember|Bqu=>wpAny_handled|Bqv=>wpAny_onRaise|Bqw=>F.entry_zip_next|Bqx=>F.args_zip_next_1|Bqy=>isSubtype_stop|Bqz=>List.not_mem_nil|Bq0=>wpAny_pyIter_zip|Bq1=>Nat.le_add_right|Bq2=>SetTable.below.go|Bq3=>List.getElem_drop|Bq4=>List.getElem_take|Bq5=>t.place.toList|Bq6=>SetTable.probe.go|Bq7=>wpAny_setState_of|Bq8=>Array.toList_push|Bq9=>SetTable.grown|Bq_=>wpAny_storeSet_of|Bq'=>PyProof.Rows.F.plain_set_update_loop|BrA=>codeAny_of_tree|BrB=>PySem.F.plain_set_new|BrC=>sub_set_self|BrD=>Code.quiet_builtin|BrE=>wpAny_fieldsOf|BrF=>wpAny_setEntries_of|BrG=>w.params.setOrder|BrH=>List.Perm.append_left|BrI=>wpAny_pyIter_slot|BrJ=>hps.length_eq|BrK=>PySem.F.slot_set_iter|BrL=>PySem.F.entry_proto_collect|BrM=>PySem.F.plain_proto_collect|BrN=>PySem.F.plain_list_iadd|BrO=>Builtin.List.listSameRef|BrP=>PySem.F.plain_extend_loop|BrQ=>codeAny_extend_loopS|BrR=>List.ext_getElem?|BrS=>get?_update_seq|BrT=>Calls.call_function_entry|BrU=>plain_sorted|BrV=>entry_sorted|BrW=>wpAny_newList|BrX=>Array.toArray_toList|BrY=>hp.mem_iff.trans|BrZ=>hp.nodup_iff.mpr
|Bra=>List.getElem?_reverse|Brb=>"__length_hint__"|Brc=>"list_reverseiterator.__length_hint__"|Brd=>listItems_at|Bre=>refuseLoop_ref|Brf=>Builtin.ObjectAttr.storeInDict|Brg=>arm_exec_Raise|Brh=>List.nodup_range|Bri=>Array.getD_eq_getD_getElem?|Brj=>List.Perm.refl|Brk=>List.pairwise_iff_getElem|Brl=>vs.toArray.size|Brm=>vs.toArray.zip|Brn=>decide_eq_false_iff_not|Bro=>List.not_lt.mp|Brp=>List.getElem_range|Brq=>W.Looks.of_pure|Brr=>keyLt'_oneType|Brs=>y.cps.toList|Brt=>AutoSeq1.sub_list_list|Bru=>plain_eq_loop|Brv=>F.slot_list_lt|Brw=>a1.length_eq|Brx=>its2.toArray.size|Bry=>PySem.F.slot_list_extend|Brz=>wpAny_Call_method0_late|Br0=>PySem.F.entry_dict_values|Br1=>PySem.F.args_dict_values_1|Br2=>meets_dict_values|Br3=>"dict_values"|Br4=>IsValuesView|Br5=>List.nodup_append.mpr|Br6=>PySem.F.slot_dict_iter|Br7=>Builtin.Dict.showsAll|Br8=>wpAny_dictEntries|Br9=>wpAny_dictEpoch|Br_=>PySem.F.entry_dict_keyiterator_next|Br'=>PySem.F.args_dict_keyiterator_next_1|BsA=>List.nodup_cons.mpr|BsB=>x.cps.toList.map|BsC=>W.kdl_values|BsD=>Option.bind_eq_some_iff.mp|BsE=>e.symm.trans|BsF=>Bool.and_eq_true_iff.mp|BsG=>PySem.F.slot_dict_itemiterator_iter|BsH=>PySem.F.slot_dict_items|BsI=>"dict_items"|BsJ=>I1.base.there|BsK=>SameStack.mark|BsL=>Bool.eq_false_iff.mpr|BsM=>Int.gcd_eq_zero_iff.mp|BsN=>Int.neg_dvd.mpr|BsO=>Int.gcd_dvd_left|BsP=>Int.eq_of_mul_eq_mul_right|BsQ=>Rat.zero_add|BsR=>List.take_succ_cons|BsS=>List.drop_succ_cons|BsT=>Rat.not_lt.mp|BsU=>Rat.le_antisymm|BsV=>Rat.inv_pos.mpr|BsW=>S.reverse.map|BsX=>List.mem_reverse.mp|BsY=>Int.le_trans|BsZ=>List.pairwise_singleton|ka=>by obtain⟨ε,Β⟩:=ζ|AMG=>by show ka Β ε|NB=>by (have hx:=AGb ε;show AMG hx)|qA=>(by first|lia|omega (Bpc:=Κ))|OA=>by (have hx:=Bom ε;show AMG hx)|OB=>by show NB (BFO ε)|OC=>by (have hx:=BFO ε;subst hx)|qB=>by (show qA)|Bn=>fun ε=>ζ|BQ=>.As ε|UK=>by exact Ar5 ε|B'=>(ε:Ψ)|A3=>by exact ε|fF=>by decide+kernel|BG=>by exact ε ζ|Χ=>(by decide)|AE=>(by (first|subst ε|exact aaA ζ|exact aaB η|exact aaD θ|exact aaC ι|exact aaF ν|exact aaE ξ|exact aaG ο|show UK π|show OC ρ|show OA τ|show NB υ|show OB χ|cases (ψ)))|Η=>(by show qB)|Ev=>.AL ε|AK=>by show fF|At=>fun ε ζ η=> ?_|Ω=>by (show qA)|D3=>ε ->ζ ->Ι|GH=>ε X F0 H0 ζ η|D9=>Bn _ ε|Υ=>EK Μ|BE=>(ε:AM)|NC=>ε b=Ε ζ|HR=>ε[ζ]?=Ε η|Τ=>by show qB|Φ=>O0 (ε)|Ο=>∀(K:AB)(c:Cls),_|AMH=>Inv X Ν ε ζ η|BH=>.Θ|AU=>EK D|fI=>ε ζ (aj η ak)|OE=>AMH σ ε ζ|UM=>cC (Ev ε)|AZ=>(cV 0)|BVT=>by exact AuC (AuB Β)|BVU=>by exact AuC (AuC Β)|Do=>((by (first|exact AuB Β|show BVT|show BVU|exact AuC Β|trivial)))|Lu=>(ε:Δ)|E3=>.B_ ε|JO=>by exact ε|BB=>ε ->ζ ->η ->θ ->ι|By=>(qv 0)|CA=>fun ε ζ=> ?_|MM=>ĕ ε|LJ=>.kA ε ζ|AV=>EK V|FL=>HR ε i ζ|F6=>ε ->Ι|CO=>WG ε|DJ=>Ε ε|Cb=>(ε ζ).EL|Fk=>fun _=>ε|qE=>EK (ε×ζ)|yT=>OE H ε|BD=>by refine ε;refine ζ|Hk=>ε a=Ε ζ|C9=>AGc ε|PQ=>.type ε|AR=>(cV 1)|D6=>ε<=ASo|RC=>cB ε ζ (UM η)|C5=>by obtain⟨ε,ζ⟩:=η θ|MO=>ε=AC|A5=>(qv 1)|A0=>(by simp)|UN=>(hr.mono Χ)|PR=>ε z E cx|B3=>if ε then ζ else η|A1=>fun z=>ε|Hm=>fI aj ε ζ|AW=>yT s|JP=>fun _ ε=>ζ|F7=>ε x=Ε ζ
|LL=>aA ε (aA ζ aN)|AMI=>ε P w K mg DI ζ η θ ι|ET=>⟨_,ε,ζ⟩|ad=>bM (D9 ε) ζ η|ľ=>by exact Ar5 h|Co=>by simpa using ε|Lv=>(BQ f)|D_=>GH QE ε ζ|AHF=>kP z|WZ=>MO (ε==ζ)|yY=>Arv (AtE K jS ε)|AMJ=>{cls:= ε,ABH:= ζ}|CH=>ε P w K mg DI c|DL=>r.2.1|Cc=>by obtain⟨ε,ζ,η⟩:=θ ι|Au=>EK AI|ABw=>BG ε (BG ζ η)|HG=>AMI cJ ε ζ η (θ c)|Cl=>r.1|ae=>ε K F0 H0 ζ|BN=>by rw[WG ε]|LM=>NC ε o|RE=>(AS6 B9 w)|CS=>p.1|Aez=>ε GE X.w|FA=>show ε from ζ|BC=>EK AM|MQ=>mg ε =Θ|ya=>LJ x ε|CU=>EK α|EU=>B' (Lu ε)|BS=>.non|B4=>by decide|EG=>.pu (Ev ε)|Lw=>fun _ _ ε=>ζ|IQ=>(e::es)|Ae0=>by exact Ar5 e|FB=>by obtain Β:ε:=ζ|BU=>EK Rw|UO=>eK ε BO|JS=>(kP z)|A_=>dR K ε ζ η f fd|CY=>by simpa using ε|De=>(ε ζ).Zs|fN=>Fk Ex|fR=>LG F ε|Ae1=>WZ ε (ζ :Μ)|Ŀ=>D3 ε (F6 ζ)|ŀ=>{ε with heap:=ζ}|Gc=>.DV ε|FF=>⟨_,ε⟩|AHG=>by exact aaA z|AHI=>by exact aaB z|AHJ=>by exact aaC z|AHK=>by exact aaD z|AHL=>by exact aaE z|AHM=>by exact aaF z|AHN=>by exact aaG z|AHO=>by exact Ar5 z|AT'=>AMJ (PQ ε) (.ζ η)|fS=>fun b ε=>ζ|Ct=>by refine(?_:ε)|EO=>.As a|AUA=>fun _ _ _ ε=>ζ|RF=>ε b=Θ|kg=>(Aez AS6)|MR=>Δ ->ε|CI=>⟨ε,?_⟩|DC=>au ε ζ (aY η)|ABx=>N3=ε|EV=>(BQ a)|L2=>ε _ _ _ _|DD=>EK Δ|B5=>EK Ζ|RH=>.type ε|MS=>Cb AGe ε|ABy=>AUA h (ε h)|DT=>by simp [ε]|Hn=>aA ε aN|ki=>⟨F,Γ,_,R,h,ε⟩|AHP=>A3 (ε (i:=ζ) nd Β Do  η)|C6=>(by (first|subst e|exact aaA e|exact aaB e|exact aaD e|exact aaC e|exact aaF e|exact aaE e|exact aaG e|show Ae0|show OC e|show OA e|show NB e|show OB e|cases (e)))|B6=>EK Ψ|BV=>by refine(?_:ε)|qS=>(JP _ Β)|AUB=>PD ε A ζ Q E s|AHQ=>fun ε ζ E=>η Γ (fun θ ι=>ν) E|IR=>Lc ε|MT=>NC ε u|DE=>by obtain⟨ε,ζ,η⟩:=θ ι ν|D'=>i+1|fT=>ae SR ε ζ σ η|ND=>A3 (bT  ε  ζ)|EH=>ε (X:=AHF)|BF=>JO ⟨Β,Β,Β,AK,Β,AK,AK⟩|ABz=>BQ (yY ε)|DF=>by rw[AGc ε]|fb=>ε K ζ=Κ|yb=>EK (EK ε)|BY=>F.binds fun _ _ _ _ _ _ us hl=>ε|DM=>⟨ε,ζ,?_⟩|FM=>fS hb ε|EA=>EK Key|ye=>gB (i:=ε)|DU=>(i+1)|AB_=>ε K c (fin Q) ζ fN|Be=>∀{c:Cls}{ds P E}(h:ε c ds P E),_|AuL=>fun cdv A Ch s H E hr F0=>ε|Sm=>.Arh ε|fc=>MM AI|L3=>fun _ ε=>ζ|NE=>aK K F ε ζ|Ł=>ε Ξ w|Bz=>ε F ζ (ABy η) (AuL ⟨θ K c,ι,ν⟩)|AuM=>∀{K:AB}{c:Cls},_|CL=>by rw[ε];exact ζ|OF=>At b ε ζ|AB'=>ε Ν s σ H|CD=>(cV 2)|MU=>ε a=Θ|B7=>∀(AuM){ds Q Ex}(h:ε c ds Q Ex),_|B8=>fun ds Q Ex h=>ε h
|EW=>by
 have ε:ζ:=η
 have θ:ι:=ν
 have ξ:ο:=π;have ρ:τ:=υ
|L4=>∀b,ε ->ζ|UP=>fW ε ζ qS|EI=>.no|Da=>by rw[ε] at Ρ|C_=>by simp|kl=>ad ε ζ aR|fe=>W.mg_of X G ε|EX=>by obtain⟨ε,ζ,Β,η,θ⟩:=ι|E6=>.B0 ε|Sn=>AB_ ε (aG ζ ds)|AHR=>cI ε UN Β ζ|ACG=>Δ ->ε ->ζ|yi=>At ε s1 ζ|yk=>FL ε x|af=>upd H ε ζ|NF=>AHP gP ε ζ|BWy=>ε (P:=ζ) (w:=w) (DI:=DI)|MV=>if ε= ζ then η else θ|qV=>by exact ε ζ|ai=>BWy ε ATZ|H_=>⟨ε,[]⟩|FG=>Bn z ε|DO=>(qv 2)|NG=>BG bO ε|Go=>by have ε:=As0 B ζ Β;have η:=As0 B θ Β;have ι:=As0 B ν Β;have ξ:=As0 B ο Β|ACH=>ε AG F0 H0 ζ|EQ=>by rw[ε];exact ζ|DA=>EK AJ|OG=>Hk H ε|Cf=>mg ε =Ε Lv|AuN=>AS7 ε BO= ζ|EJ=>h.1|KP=>.DZ ε|ł=>D3 ε Hp|C7=>_Hd.d ε ζ|Fm=>fun ds P _=>ε|AuO=>by show C5 ε L _Hd.seen_cons L;obtain⟨ζ,η,θ,ι⟩:=_Hd.fun_at ν|AMK=>ki (fun ε AF F1 H1 ζ R1 s1 η θ=>ι)|IA=>by show AuO ε ζ η θ ι ν;show AuO ξ ο π ρ τ υ|yn=>.ALf ε ζ η|al=>(match ε with | ζ=>η | _=>EM)|am=>ŀ s ε|NH=>z6 (m:=ε)|DH=>by intro Ν s σ H ε I h|FR=>EK Row|IB=>by simp [ε]|JU=>(BQ C)|So=>(fD P w)|EB=>.C3|Ń=>fun ε H1=>ζ|IS=>⟨ε,ζ,Β,η⟩|ER=>Μ ->fc|RI=>AuN ε ((AC,UO ζ)::AS7 η BO)|GI=>fun h=>ε|EZ=>Μ ->AM|Db=>_::_|km=>fT ε ζ Γ|AHS=>{ε with heap:=ζ,toks:=η}|Dx=>by unfold ε at h|IU=>(by rfl)|av=>fun _ _ _ _ _ _=>(qV ε ζ)|PU=>(.dK AH)|F8=>fun j=>ε|Fr=>Ae1 x "__debug__"|AML=>.Call ε ζ [] AA|D4=>(by (first|subst h|exact aaA h|exact aaB h|exact aaD h|exact aaC h|exact aaF h|exact aaE h|exact aaG h|show ľ|show OC h|show OA h|show NB h|show OB h|cases (h)))|IC=>⟨Β,ε⟩|qa=>D6 (Lu ε)|AUC=>ACG Δ ε|Ae2=>by obtain⟨F,Γ,ε,R,h,k⟩:=ζ;exact η|OH=>fun b o e=>ε|D8=>∀(_:Cls),_|ACI=>UP ε aR|AHT=>A3 (ε ζ UN Β η)|ko=>_2.upd ε ζ η|RO=>(ε ζ η).Zs|NI=>.As C|HT=>(zN _)|OI=>(ya Ĺ)|FV=>fR F'|E4=>FF Β|GL=>fun i=>ε|Ee=>by obtain⟨ε,ζ⟩:=η θ ι ν|L5=>B' i|AHU=>ε Ξ w|UQ=>r.2.2|GM=>aC ε (Bn ζ η)=θ|NJ=>fun b hb=>ε|OK=>z6 (m:=ε) ζ|We=>AHQ Γ P ε ζ AF η|NL=>∀b∈ε,ζ|MW=>by show ka t ε|Fs=>X.calm=Κ|NM=>Q (BQ ε) ζ|KS=>AUB RE ε|GN=>(by (first|subst h|exact aaA h|exact aaB h|exact aaD h|exact aaC h|exact aaF h|exact aaE h|exact aaG h|show ľ|show OC h|show OA h|show NB h|show OB h|cases (h)))|LN=>(k+1)|FX=>P ε AF|E5=>by exact .DV ε|UR=>BE ε/ BE ζ|OL=>AHR ε (LL ζ η)|Wp=>fun σ H Q ε=>ζ|AMM=>AMK ε ζ r1 h1 η|AuP=>backTo ε (AS7 ζ BO)|KU=>(by first|subst ε|exact aaA ζ|exact aaB η|exact aaD θ|exact aaC ι|exact aaF ν|exact aaE ξ|exact aaG ο|show UK π|show OC ρ|show OA τ|show NB υ|show OB χ|cases (ψ))|G0=>by rw[ε,ζ]|PV=>ε (ζ:=η) (θ:= ι) (ν :=ξ) (ο :=π)|FY=>(PR ha)|yo=>(aY st)|HU=>z7 (α:=_)|G1=>qE α (β×Ψ)|ACJ=>GH ε ζ t|E2=>C9 Β|ń=>AHS s ε ζ|ACN=>AHT cI ε ζ|fg=>(by (first|subst ε|exact aaA ζ|exact aaB η|exact aaD θ|exact aaC ι|exact aaF ν|exact aaE ξ|exact aaG ο|show UK π|show OC ρ|show OA τ|show NB υ|show OB χ|cases (ψ)))|HH=>fun w=>ε|aw=>(D1+1)|kq=>ACH SR ε ζ σ η|yv=>fun _ _ _ _ _ _=>(JO ε)|Ņ=>Ł kW|qc=>yn ε ζ KM|kr=>AB' ε _ I h|L6=>(by (first|subst z|show AHG|show AHI|show AHK|show AHJ|show AHM|show AHL|show AHN|show AHO|show OC z|show OA z|show NB z|show OB z|cases (z)))|ID=>if ε=Κ then ζ else η|qf=>fun a ε=>ζ|PY=>D3 ε AD|HI=>.AL i|OM=>ND ε (ND ζ η)|FH=>EK Pt|FI=>(cV 3)|Fu=>B' k|ON=>(bx _)
|qh=>by rw[bL (gR ε ζ)]|FC=>by obtain⟨_,_,Β⟩:=len2 hl|OO=>aq (ε c) (Hm ζ η)|ku=>AKo ε|ax=>fI iC ε ζ|fh=>ABw bO ε ζ|FK=>a::l|qi=>eK ε BO|RR=>z9 _ Β|ky=>ε (X:=AHF) (ζ:=η)|W_=>show(ε:Υ).Sc by show fF|KW=>.B0|GS=>EK T|L7=>by exact Zl ε ζ|Ae3=>by obtain⟨_,Β⟩:=ε|ay=>GH QS ε ζ|AUD=>qE Μ ε|Fc=>ABx 2|L8=>MS n|qk=>fun ε σ H ζ=>η|W'=>(ε b hb).1|ACO=>⟨ε,g,d,ζ,os⟩|GT=>by obtain⟨ε,Β,ζ⟩:=η|IY=>show ε by show qB|HK=>(qv 3)|NN=>by rw[<- ε];exact ζ|RS=>pE ε=Θ|RU=>ET Β ε|OP=>ET ε Β|fq=>B' ε≠0|HL=>by exact .B0 ε|Kb=>ABG AI|AUF=>.bool AC|AMN=>ACJ QA ε|JY=>(.refl _)|AMO=>.Call ε ζ [] η|IE=>fun ε ζ η θ ι=> ?_|G_=>BB ε ζ η (θ) ι|IF=>C9 q|kz=>RC bW ε ζ|ņ=>Rep K F ε ζ|F9=>α ->AM|AHV=>F7 ε c|k7=>(a::bs)|AMP=>(ABz AAy)|PZ=>Sz 4000 ε|HV=>yk X.N|Ň=>qm (D9 ε) Β ζ η|GU=>km F H|yy=>ε (aA ζ aN)|AHW=>aZ GE X.w ε ζ η θ|L9=>by show AE Ρ Ρ Ρ Ρ Ρ Ρ Ρ Ρ Ρ Ρ Ρ Ρ Ρ Ρ|XA=>if ε then ζ else 0|RY=>∀{ε:ζ} {η:θ},ι ->ν|MX=>fun ε ζ η θ=> ?_|MY=>by rfl|Pc=>H ε=Ε ζ|Ae4=>(A3 qH)|qo=>PD RE ε ζ η θ ι|yz=>upd H1 ε ζ|Rc=>ε _ _ _|NO=>fun b u e=>ε|LO=>by rw[ε] at ζ;show AE η θ ι ν ξ ο π ρ τ υ χ ψ ω Α|AuQ=>Ŀ D D|ft=>fun σ H Q=>ε σ H (Ń ζ η)|US=>ε P w K mg DI ζ η θ|Ae5=>(ε).any (·.1)=AC|ACP=>ε=MG|a_=>by obtain⟨ε,ζ,η,θ⟩:=h|OQ=>∀{ε :ζ},η ->θ|HA=>by exact ALq|Jn=>EK Bd|bE=>[.B_ ε]|XB=>HG ε ζ [η] θ|k8=>z6 (ε ?_)|y0=>(IR 0)|k9=>⟨ε,_,ζ,Β,η⟩|IZ=>Uq Ξ|bP=>fun b o ε n=>ζ|AMQ=>ε+1<cLine|MZ=>NE ds vs|AuR=>ε=WF a|BYU=>#[.As ε,BH,BH,BH,ζ,BH]|HC=>by obtain⟨_,_,Β,_⟩:=h;rfl|Re=>fun r=>ε|LP=>by rename_i q|Rl=>by obtain Β:=ε|L_=>EK Env|UT=>H ε=Θ|Pe=>BE (B' ε)|Pf=>.pu (E3 ε)|Pi=>(UM 1)|AuS=>Arv (ASi K ε ζ)|ACQ=>ye 0|ň=>aD K GA ε|y9=>fun b ε hb ζ=>η|y_=>AuP AA ε|AMR=>ń h' ε|HM=>D ->AuQ|Ae6=>BYU ε AUF|AUG=>blk X sc N' ε|NR=>by rw[C4]|Rs=>⟨ε,Β,ζ⟩|ACR=>(ε==ζ)=Κ|R_=>MM Ψ|bS=>∀b∈ε,ζ|IG=>iJ (A3 ε)|k_=>kl nj ε|Sr=>am h'|AMS=>ACN ε (LL ζ η)|XE=>iM Γ σ b|NS=>.DV|Su=>(ε).Zs|AHX=>[N4,ε]|LS=>B' n|ŉ=>jM ε ζ=Κ|XG=>(E3 vs)|OR=>by have:=ε;show Ω|Pl=>(xI ε).1|zC=>z8 _ e|AHY=>ε=IO AC|ACS=>IM ε us|AHZ=>RC dw ε 1|lI=>AUC Ψ|AMT=>RO ε Ξ ζ|Ki=>(-1)|S4=>∀r∈Ξ,ε|bc=>dD Γ σ H b|J_=>Gl X x|L'=>by show AE q q q q q q q q q q q q q q|S_=>.eD|fw=>Zl ε ζ|AUH=>(ALR ε).ζ|Po=>⟨ε,CA ζ η⟩|UU=>fun i ε=>ζ|UV=>(n+1)|OS=>cB dw ε ζ|bi=>AT' ε o_ ζ|NU=>RF H|Ic=>∀(c:Cls),_|br=>L4 ε (ζ b=η b)|lL=>z6 (ε ζ η ?_)|AUI=>ASi K ε ζ =Ε (DJ η)|Mb=>v= .As a|zD=>AT' ZN seq ε|Kj=>OF u e|AHa=>PD kg X.A ε ζ xL s|Id=>ai ε c ζ (fe η) θ|SA=>(jI (kW Ξ))|qq=>if ε then ζ b else η|ACT=>by obtain⟨ε,ζ,Β,η,θ,ι⟩:=ν|AHb=>ABj ε|SB=>[EO]|UX=>Bn j ε|bv=>fun v ε=>ζ|LT=>(cV 4)|b9=>NC H ε|TC=>HR ε j ζ|TD=>by obtain⟨ε,ζ,η,θ⟩:=id ι|Pp=>fun b ε q=>ζ|LU=>Adg _|AUJ=>D_ ε te|NV=>b≠a|UY=>dt rs ε|b_=>af ε (E3 ζ)|cE=>NG (ABw fL ε ζ)|Kk=>CA b hb|AuT=>_Hd.isRef (ε K ζ η)=Κ|AMU=>(by (first|subst z|show AHG|show AHI|show AHK|show AHJ|show AHM|show AHL|show AHN|show AHO|show OC z|show OA z|show NB z|show OB z|cases (z)))|Ps=>by rw[ε] at ζ;exact η|qr=>fun r ε=>ζ|f_=>Zl ε (ζ η)|NW=>CO q|ACU=>FA (AHW ε ζ η θ) ι|XI=>(Gc Β)|Kt=>ABx 1|OT=>yb Μ|TH=>ł St|ACV=>al ds ε ζ|AMV=>AuR u|OU=>ņ d v
|Kx=>by show AE rx rx rx rx rx rx rx rx rx rx rx rx rx rx|LV=>fun ε=> ?_|TK=>ε<=9000|XL=>∀p∈ε,ζ|MA=>by rw[ε]|gE=>Bn b ε|cK=>Bn r ε|gI=>Hk KK ε|gL=>by rw[ε];rfl|lP=>.refl _|AMW=>fun i j=> ε|LW=>fun i hi=>ε|gN=>mg ε=Ε (BQ ζ)|UZ=>yi ε ED|LX=>Wp ε (Ae2 P ζ η)|Ŋ=>L3 _ EM|zI=>fI aq (ε c) ζ|ŋ=>∀b o,LM ε ->ζ|AHc=>(.frz oe (jd a C))|lS=>(ε b hb).2|AUK=>BG (qI  ε  ζ) Ae4|q_=>k _ _ F H (į sF) ε ζ|cS=>(fV So P w K mg DI N FD yo f cdv A Ch s H E)|ACW=>ε P w K mg DI ζ η θ ι (ν c)|TL=>by obtain⟨ε,ζ,η⟩:=θ|SC=>EK β|Uf=>(by show fF)|rL=>D1+1|TM=>cB cN ε ζ|SD=>cB cR ε ζ|Mc=>(PR hb)|AUL=>EK (ĕ ε)|AHd=>Apart σ ε ζ|Pw=>(KP xs)|lT=>(ACI By)|zS=>ε Iq e|ze=>AMO ε ζ GW|SE=>Ŀ AU AU|OV=>qg AdP x|lc=>c7 (fun ε ζ=>η) θ|MB=>av (ACQ (W_ ε) Β) Do|cc=>.cell|ce=>.dic|TN=>B' 0|OW=>MM Ζ|AUM=>PQ K2|OX=>MQ AK3|XN=>fun b u ε ζ=>η|U1=>by obtain⟨F,Γ,P,R,h,k⟩:=ε|AMX=>AHQ ε Γ ζ η AF θ|NX=>HP y u|OY=>HP v u|AMY=>RC dw ε 0|Md=>(yv yu)|zh=>ax lR ε|P1=>by show Ae3 (len1 hl)|gS=>by rw[ε];exact ζ η|XT=>aj ε ak|rS=>ε _ _ _ _ ζ η|rV=>[a,b]|gT=>show fq ε by decide|Me=>∀{K:AB}{F:Hp},_|Ae7=>Ctx JS F0 H0 E|AMZ=>DecidableEq ε|SG=>fun e=>ε|TU=>fun ε ζ=> ?_|U2=>by rw[bL ε];exact ζ|cf=>At ε ζ e|lf=>GH ε e ζ|U_=>(ε&&ζ)=Κ|gc=>F6 AU|NY=>zN _|P3=>β ->AM|Na=>ps[i]|ACX=>EU (De ε ζ)|zk=>(match ε with | ζ=>η | _=>AC)|ACY=>CY hb|zn=>Ae1 x BpW|ci=>yk xs|U'=>by rw[<- ε];exact ζ|gf=>ε b o e|AHe=>AHV AsF|Ō=>.ins C dx ε|ACZ=>Ae5 (y_ ε)|AHf=>y9 o e ε|BZ4=>yy (Ň ε aU boot_len) ζ|rX=>z7 (α:=_) ε|OZ=>(by (first|subst h|exact aaA h|exact aaB h|exact aaD h|exact aaC h|exact aaF h|exact aaE h|exact aaG h|show ľ|show OC h|show OA h|show NB h|show OB h|cases (h)))|AMa=>ε=N0|ck=>by rw[show ε from ζ]|Of=>by split at h|re=>ALC ε|XU=>by simp [ε,ζ]|zo=>by cases (show ε from ζ)|P4=>Bn h ε|P5=>(qv 4)|lh=>by rw[ε ζ];exact η|On=>JO h|rh=>LG F1 ε|ō=>AeA i ε|TZ=>(PR he)|zt=>ad rO ε ζ|li=>.bl _|gi=>by rw[<- ε];exact ζ η|ACa=>.DV (Gc ε)|zw=>RF F|z0=>MR Δ|Op=>L2 k.nx|cn=>(Hn By)|AMb=>(zW _ hb)|ACb=>OL ε By ζ|gu=>z6 (ε ζ ?_)|Ŏ=>∀x∈ε,x∈ζ|z_=>fh fL ε|SH=>AMN IQ|ŏ=>NH ε (ζ ?_)|Ae8=>hb (IB ε)|cq=>(z8 _ e)|AMc=>cX s x|Ae9=>fun ds P=>ε|gy=>∀b u,MT ε ->ζ|Ae_=>As2 ε ζ CF f η|À=>(by (first|subst ε|exact aaA ζ|exact aaB η|exact aaD θ|exact aaC ι|exact aaF ν|exact aaE ξ|exact aaG ο|show UK π|show OC ρ|show OA τ|show NB υ|show OB χ|cases (ψ)))|cr=>(ε).ABt|Tb=>fun q=>ε|Th=>by obtain⟨ε,ζ,η⟩:=h|P6=>ε<CF|Á=>.bool ε|Tk=>by grind|rq=>Bn i ε|r6=>BG qv ε|r8=>s.2.1|g6=>(DJ EV)|Â=>σ.set i ε|P7=>Sn ε 2|P8=>A.handled=Θ|Ő=>h∈s|VA=>⟨ε,vs,Β,ζ,η⟩|AUN=>AML (LJ ε p) ζ|AuU=>ASi K ε ζ =Ε Θ|cy=>∀b o,ε ->ζ ->η|ő=>OO ε AZ ζ|VC=>AMQ Ad4|ACc=>(xp .AL)|lj=>(D9 (n8 hu))|Ae'=>.obj C' fs ds|Ã=>PD kg X.A ε ζ η θ|AMd=>BZ4 yq ε|VI=>aD AG C f|Ä=>AMM ds vs ε|VM=>∀(X:Cx) (F0 H0:Hp),_|Å=>BG (ye ε nd Β) Do|Bac=>fun _ _ _ _ _ _ q=>ε|Œ=>fun c=>ε|Æ=>by rw[C4,ε]|AMe=>by obtain⟨o',ε⟩:=ζ|r9=>by exact ε b u e|cz=>⟨o,ε⟩|Ç=>[.As ε]|SI=>Ĥ h|c0=>.pu (.AO ε)|ACd=>OE H' ε|r_=>FL Γ ε|È=>by rw[ε,ζ];rfl|sA=>ad qU ε ζ|XX=>P (Ev ε)|ACe=>(a::cs)|AUO=>ŀ s' ε|g9=>(Hn A5)|XY=>by show DF Β|c8=>yb α|g_=>dh i
|VO=>z6 ?_|œ=>HG ε 1 [ζ,η] θ|Ŕ=>.AL ε 0|É=>OH zC|AHg=>(ACI A5)|lm=>NL fp ε|XZ=>by show MW rx|SK=>x::xs|ACf=>.dic ks ε|sB=>∀b u,ε ->ζ ->η|lr=>(ε+ ζ).eR|AMf=>Rep K F' ε ζ|Xs=>ACP Sk|SL=>W.mg_none_of X G ε|SO=>e _ _ ?_|X0=>∀j,j<ε ->ζ|SS=>by show Cc u Β rx ALb r|X2=>D_ a ta|ST=>ai ε c ζ (fe η) θ ι ν|VQ=>(fr t b).2|SU=>AtE K jS ε =Ε Θ|SV=>by subst hP hw hK|AUP=>∀z E,Ae7 ->ε|AfA=>(AUG C MD Zp fp)|AuV=>ky qR i i ε hv hd hcd|VS=>fun x=>ε|lx=>∀{ε:ζ} {η :θ},ι ->ν ->ξ|hG=>by obtain⟨ε,e⟩:=ζ|X9=>by obtain⟨o,ε,ζ⟩:=η|Tl=>by unfold ε at e|ŕ=>by omega+Bpc|Tm=>EK AT|AMg=>by simp at ε|X_=>(ε ζ).jp|c9=>by exact zG e|AHh=>_Hd.fnO K ε ζ|ACg=>fI kj ε ζ|AHi=>LG ε H'|To=>by show BD ε (?_:ζ)|sC=>RC dG ε ζ|Ts=>by rw[ε];exact h|ACh=>Ξ[i]|ACi=>LM Se|Ŗ=>aA ε (LL ζ η)|ŗ=>AUB kg ε|Ř=>fb ε (yY ζ)|ACj=>kl vp ε|sD=>NF ε (AMS ζ η θ)|YA=>by show FB (ε=ζ) Τ|AUQ=>M_ ε=Ε o|YE=>x= .As a|Ê=>(.frz o PU)|sK=>qf ha ε|ACk=>by have:=ε;rwa [ζ] at Ρ|AUR=>F7 ε .local|ACl=>c::Eg|ly=>bI K ε ζ=Κ|ACm=>ft ε x ζ|ř=>k9 (.As ε) ζ η|c_=>fun r hr=>ε|AUS=>jR X (ALG .ε) ζ|sL=>(AHb s2)|VT=>AUJ e|ACn=>mj (k:=ε)|Tu=>aW ε (aq (ζ c) (Hm η θ))|AMh=>seqObj K2 ε ζ|AHj=>(ε b ζ).EC|sN=>⟨#[ε]⟩|AuW=>bO (A3 (ε (A3 ζ)))|AHk=>ŉ a b|hV=>Cw (i:=ε) (m:=ζ)|AHl=>ε (aq (ζ c) (Hm η θ))|YI=>(fr t b).1|VU=>NF ε (BG (bM (D9 ζ) η) θ)|sQ=>.AX|sR=>CF<=ε|hW=>(ε ζ).EC|AHm=>⟨Τ,ε⟩|hZ=>fun c ε=>ζ|YN=>fun ε _=>ζ|AHn=>Mm+1|l_=>(BQ x)|YO=>by obtain⟨ε,ζ,η⟩:=θ;exact ι|YR=>B' j|ACo=>NC ε ob|Ë=>HR ε q ζ|ACp=>.AL UQ|sT=>(E3 xs)|VV=>MM V|AHo=>FL ε v|Ì=>(DJ v)|YU=>P (E3 ε)|l'=>P (.bl ε)|Ś=>b≠0|ś=>PE X (.ε ζ η AA) θ|mB=>LM M_|VW=>fR H|VX=>Ŀ AU D|AMi=>KS (ε (BQ ζ))|AUT=>AT' K2 seq ε|Í=>UR ε (B' ζ)|YV=>by rw[CO ε,CO ζ]|ACq=>.j7 ks ε|Î=>by show qh e ε|dA=>.JE d|AUU=>ε (t' :=Mm)|VY=>cT (cB ε ζ η)|mE=>AMR tk|mI=>ACS xs|AMj=>dY X (Sm ε) ζ|VZ=>by obtain⟨x,H1,I1,r1,q1⟩:=ε|V_=>(AS' hc)|sd=>ε σ H1 fun ζ H2=>η|AfB=>ye ε nd Β Do|AHp=>h0∈Ņ|mM=>fun j hj=>ε|V'=>t::ts|Ï=>(0+ L5)|AHq=>Ae9 (ACV ε ζ)|AMk=>fun s=>(XA ε ζ)|AHr=>WJ σ ε|WA=>∀(I:AW),_|h_=>(Bn y (Ae8 y))|ACr=>(.dK (UH vs))|dC=>(AuV hN)|mP=>(ε).up Χ|AfC=>ac μ d|WB=>by obtain⟨_,Β,_⟩:=h;rfl|AuX=>ε ->D3 Hp VK|AuY=>AMJ NI (.o_ (Ae6 ε))|AuZ=>{ε with nx:=ζ,ct:=η,bk:=θ}|mS=>AT' xi ABJ #[]|AUV=>ALR ε|Ŝ=>As_ ε|AMl=>_Hd.adr_of ε|AMm=>.function|mT=>st.2|iA=>fun k=>ε|AHs=>P.below ε|YY=>by show UK hq|Ya=>(cV 5)|iE=>B' 1|Ð=>H1 ε=Θ|md=>At h' ε ζ|iF=>GH QT ε ζ|ŝ=>OE (af ε ζ) η|me=>ε (i:=0)|se=>Fk EM|ACs=>(I.tok _)|ACt=>RC ε ζ 1|dE=>Δ ->AM|Aua=>(N4 :Μ)|Ñ=>dh j|Ş=>.DZ (ε ζ)|dL=>yb Key|ACu=>(.dT AH)|ş=>by rw[ε];show Ω|Yf=>Fm (∃(ε:ζ) (η:θ),ι)|iN=>qE EA V|Y1=>⟨ε,_,Β,ζ,η⟩|mh=>P (qD ε)|AMn=>(AHU gA)|Š=>(AHU kW)|mi=>GY/2|Y2=>by have ε:=ζ;have η:=θ;have ι:=ν ξ|Y3=>by rw[ε];rfl|Ò=>aK AG F ε ζ|Ó=>(E_ qD)|Y_=>aV (dN ε)|AHt=>(B3 ε ζ η)=Ε u|Aub=>IS _ ε Β|AUW=>(NJ (k b AMb))|AMo=>AHd Γ ε|AUY=>fb W.isFn (BQ ε)|š=>AMX D ε ζ η|AHu=>∀s∈S,ε|Y'=>by show FB AMV rx|AfD=>(qc e "values")|AHv=>(oV qs).WP|sf=>AuW fL ε|Auc=>⟨tg,Nw,ifs,0⟩|mo=>AMM d v ε|ACv=>dB 1 ε (iL ζ) y0|ACw=>Dy (CM ε) ζ|Bcz=>.AO (As_ ε)|ZA=>Pm n p|AMp=>IsZip ε z TI TO ζ
|AfE=>∀C MD Zp fp F0 H0,ε AfA F0 H0 ζ η|AHw=>AI ->ε|dP=>fun b=>ε|AfF=>if ε ζ=Κ then η else θ|AMq=>ε<ASo|Ô=>by rw[ε] at ζ⊢;exact η|mr=>(ε ζ).Sc|AUZ=>⟨ε,Β⟩|sg=>by show UK q|iO=>Lp lt p ε ζ=Κ|si=>cC (Bcz ε)|dQ=>CO AcB|ACx=>(AS6 P w)|iP=>ws[i]|mt=>by rw[ε];show Ω|dS=>by show BN Χ|sj=>LM KK|iS=>by rw[ε];exact ζ η|Ţ=>fR F1|ACy=>MR D|AMr=>MR Row|AfG=>MT Se|sv=>MU F'|AMs=>z8 _ q|AHx=>yi u ε|da=>(by simp;show Ω)|AUa=>H_ Ŋ|AHy=>OG u|Õ=>qE κ V|ACz=>(.frz o u)|iX=>ku hi|AUb=>ay (.ALK ε ζ AA) η|ia=>AeU AG C|AUc=>bE xs|AHz=>[.AL ε,.AL ζ]|AH0=>AuS (ABz ε) ζ|dc=>aC l f|Aud=>(.BA aw)|AfH=>ACO h (t+1)|AfI=>AHa ε (ζ X Ν σ Q)|mv=>lQ rs|AMt=>(uD qs)|di=>by show Cc ε ζ Β aS η|AUd=>fun σ H Q=>ε|ţ=>fun o e=>ε|mw=>AUL AM|sx=>cY k X.A|AC_=>bV ε (At ζ s2 η)|AUe=>AMT gA w|Ö=>(0,0)|dk=>by intro X hP hw hK hc i Ν s σ H E I hf st hg|ib=>frs M3|AC'=>∃t,u=ε|dl=>pG P w H h|dq=>We t ds ε|AfJ=>cY ε (Asx ζ)|ic=>CA p hp|AMu=>⟨ε,H,I,Β,ζ⟩|AfK=>∀x c,AHe ->ε|my=>W.kia_one ε eP ζ e (FG (nomatch z)) h|AfL=>ε (AHf ζ) f0 f1 f3 f4 f5|ie=>by show AE e' e' e' e' e' e' e' e' e' e' e' e' e' e'|s0=>.AL|m3=>st.1|ii=>h1.1|Ø=>by rw[Q3]|Ù=>by split<;>(show qA)|AUf=>by with_unfolding_all rfl|AUg=>(ATB ε).ζ|AH1=>(ε ζ).Ĩ|ij=>⟨ε,ζ,Β⟩|AH2=>Bn x ε|m4=>(qv 5)|Ú=>by rw[ε,ζ];exact η|Û=>B' AfC|ik=>by rw[ABq ε]|AH3=>GH QF ε ζ|ADG=>BE (Lu ε)|im=>.AL _|Aue=>(E3 [])|io=>(PR h)|AMv=>Hu _ _|AH4=>WF a|s_=>MQ K2|AfM=>(Adq ε).1|Ť=>fun i H=>ε|tF=>(RH T)|Ü=>FM ⟨ε,ζ⟩|ADH=>a::bs|tI=>LB Ξ|ť=>fun b o ε ζ=> ?_|tJ=>qE Key V|tN=>bL hb|tP=>NE xs vs|Ŧ=>ε ζ η (fun θ ι P hp=>ν) ?_|m_=>AUD Adp|Ý=>jj AG C|ip=>d::ds|AMw=>.AX r ε|tS=>∀(t:cW),_|AMx=>∀a∈as,ε|tT=>(AHZ AZ)|AH5=>ACO h t|Þ=>AMW (.AL ε)|ADJ=>.tr as ε|ß=>Lw q q|tj=>(AML (ya p) IQ)|tm=>(yD st)|AfN=>fC K F H ε ζ as|nE=>(zh AZ)|iq=>qk D ε (Ae2 D2 ζ η)|tq=>(j::cs)|ŧ=>We te d ε|ir=>(hu1 hu)|i3=>∀(qs:BC),_|i4=>PE X e te|Auf=>ε (t' :=ATC) ζ|tw=>∀(he:RI IQ e es:=by rfl) (EE:ACZ es:=by rfl),_|ADK=>pv i 0|i5=>⟨fun i Γ=>ε,ζ,?_,?_⟩|AMy=>ε Ν s1 σ H1 _ I1 q1|ADL=>.pu (eG Ξ)|nI=>Aub RR|tz=>Gr F H F' H'|Ũ=>AUP (ε JS ζ (ACH η t E))|i6=>gq (cT ε)|AMz=>(ALE i).AsN|ũ=>[Aua,a1,a2]|AUh=>aK K F' ε vs|t6=>gb Ξ x r|à=>ACR apos.endLine cpos.line|Ū=>fun x y P=>ε|nK=>(.BHq elt [Auc] sc AA)|AM0=>by obtain⟨hp,g,d,tk,os⟩:=ε|AH6=>PD _ ε ζ _ _ s|AfO=>(ae SR F H σ Γ)|Auh=>by show C5 ε M yX M;show C5 ζ η Adw θ|AUi=>BGl e ε BO (qi e)=UO e|i7=>PV ε mg mg P ATZ w w DI DI|i8=>by show AE e2 e2 e2 e2 e2 e2 e2 e2 e2 e2 e2 e2 e2 e2|i9=>by show fg q q q q q q q q q q q q q q|nL=>nomatch e|nN=>by subst Ρ|t9=>by simpa using Ρ|ū=>by obtain⟨ε,ζ,η⟩:=ED|AM1=>(by rcases ε with Β | ζ)|t_=>by rw[ε,ζ] at Ρ|Aui=>by obtain⟨_,Β,_,ε⟩:=ζ|nX=>by apply List.ext_getElem|AfP=>_Hd.adr_of ε|uA=>by refine ε;show BD ζ η|ng=>by kernel_rfl|uB=>fun ε s' =>ζ|Ŭ=>ε (ALC ζ)|nk=>(CF+1)|nr=>i<B1|AM2=>FL AF ε|ŭ=>Hk ε o|AUj=>I.tok _|uC=>(ε ζ).EC η|nv=>.AO _|ADM=>MQ o5|AUk=>EU Asf|Ů=>.B0 x|uS=>by show Ct (ε=_)|á=>L2 k|ua=>AUB M ε|ADN=>(Sm id)|AM3=>Ł gA|â=>MU H|ue=>ABG Δ|ny=>Sn ε 4|n5=>yi v ε|ů=>by unfold ε;grind|ui=>HP x u|n9=>by rw[CO ε] at h|n_=>qE Μ V
|uj=>.DZ xs|Ű=>IC Β|uk=>AUC AN|ADP=>b∈as|ul=>z6 (eL ε ζ η)|ADQ=>Se ε=Ε o|Auj=>wpAny_loadPart_at ε ?_|ut=>OF u q|ű=>kz ε 3|ã=>AeU K GA|Bea=>yz D1 ε|Ų=>Q v H'|AM4=>(kW Ξ)|AUl=>∀a∈l,ε|AfQ=>∀x,x∈ε↔ζ|oB=>cE qv ε|oC=>AUK (A3 (sE ε ζ η ON)) θ|ų=>ATq ε TO ζ η|ADR=>Inv JS Ν σ ε ζ|Ŵ=>AMZ κ|oP=>LD u|AH7=>DL∈m|AfR=>sp ε ζ fun η=>E AF θ|AH8=>qo A ε Q E ζ|oQ=>r::rs|AH9=>(jn ε).KF 3|uu=>(AMd By)|oS=>∀{K:AB}{F H:Hp},_|AH_=>mR GA ε AZ|ŵ=>zc aB ε By|ä=>t σ H Q|Beq=>AHY (AGm ε ζ Asc BO)|oa=>f::fs|AM5=>zk b ε ζ|AM6=>Hh ε=Ε (ζ,η)|å=>PE X a ta|AUm=>⟨F1,AF,_,R1,ε,ζ⟩|uv=>∃r∈Ξ,ε|Ŷ=>D_ b tb|AUn=>ε+21<cLine|u7=>AMf d v|Bex=>(ε t1 t2 A6 l1 l2).ζ|AH'=>fT F' H' A9|AM7=>by show Auh ε ζ η θ;show Auh ι ν ξ ο|æ=>(match ε with | ζ=>η | θ=>ι | _=>EM)|ADS=>G8 led ε|Auk=>D3 Hp VK|ç=>(x h - AMc)|AUo=>by obtain⟨ε,ζ,Β,η⟩:=mY θ|og=>by obtain⟨_,_,_,Β,_⟩:=h;rfl|om=>Lw x x|oq=>HP x v|AM8=>(ACb aL aR)|Be2=>fJ 2 (bw ε (bw (IR ζ) fH))|ox=>by obtain⟨f0,f1,f2,f3,f4,f5⟩:=hf it A0|Be3=>backToKw ε (keywordEach [] BO)|AM9=>(Gp ns b i)|AIA=>Dw ε I ζ η S n ep|AUp=>qZ knd kf ε o ks es ep t|oy=>by rintro Ν s σ H xs us Q I r ⟨F,ds,P,sF,rs,h,k⟩|ŷ=>.NotIn|u8=>by obtain⟨Β,ε⟩:=ζ|u_=>by rw[<- Ρ]|è=>by split at e'|vE=>by exact h1.elim|vF=>EK κ|vS=>ε ->ζ ->BB η θ ι ν ξ|vT=>by subst e;exact ε|Aul=>BGC ε =Ε ζ|ADT=>ε CF=Ε ζ|AM_=>[N4]|é=>Bn w ε|Ÿ=>Bn d ε|ê=>AGc (ε ζ)|va=>(cV 6)|Ź=>(qv 6)|AIB=>(Ev 0)|vb=>AKo h|vc=>Zl (ε ζ) η|ve=>JO n.elim|AIC=>LJ N4 ε|vi=>CO Η|ź=>Fk 0|vj=>LG ε H|AfS=>IP - ε|Ż=>D6 B1|vk=>A1 ?_|AUq=>F7 pE ε|ë=>ET ε ?_|Aum=>WZ ε BFv|vn=>by show qa 2;show Ω|AIE=>(Aez qy)|vt=>(ya AA)|AM'=>(ya np)|vv=>.B_ ts|ì=>Ae1 ε "__debug__"|AUr=>z6 (ε (ζ ?_))|ANA=>RF H'|vx=>ABx 3|vy=>.AO x|AUs=>fun Γ P _=>ε|í=>MU H0|ż=>(qy P w)|vz=>Sn ε 3|î=>MV i ε ζ η|v4=>by unfold ε;rw[ζ,η]|AIF=>h∈Ņ|v6=>.bl b|ADU=>N9 ε 0|ADV=>eK ε BI|AUt=>(AHU mW)|ADW=>∀h',ε ->ζ ->η|ANB=>(kr ha)|v_=>(kr he)|ANC=>ko H a ε|Ž=>AeU K Hc|Bfm=>W.Looks.here (s:=ε)|wE=>∀h∈m,ε|ANE=>jR X (Asr .ε) ζ|ANI=>qr s' ε|wP=>(c::ds)|wS=>lS hn|ANJ=>Q () s'|wT=>(g i j)|ADX=>∀i,i<ε ->ζ|Aun=>X.fn x=Κ|AUu=>Sem AI|ž=>x≠ "__name__"|ſ=>Lw _ EM|wb=>ac t b|AIH=>(ko F2 a AHc)|ϊ=>nY K H a xs|ADY=>Bac ĳ|ϋ=>TR K F' H' ε ζ η|Auo=>AUR BGJ|AfT=>(Rat.divInt t b).ε|wc=>AHl aV ε ζ η|we=>∀(te:cu),_|wf=>AuX AV|AfU=>BE s.2.2 - ε|AII=>fun b hb u q=>ε|ï=>fun p hp=>ε|AIJ=>-(2^62)|ð=>PI X tg ε ζ|wn=>by show ACT ε ζ η θ h h|AfV=>bO  (BG fL ε)|ό=>gW s o a|ύ=>AfK (c≠ε)|AIK=>a==b|ADZ=>fun q hq=>ε|ADa=>dN (eO ε)|Aup=>Auf Asg ε|AIL=>h0::hs|AfW=>∃m',m' <m/\ε|wo=>by show Rl b;exact⟨ε,ζ,η⟩|AUv=>aC S (AMk ε ζ)|wq=>k _ _ XI e|AfX=>(Bea Aud)|AIM=>by show DE v hv rv ε ζ η|ANK=>ő yJ (UM ε)|AIO=>ATI K fd ps []|wt=>AfF O0 ε _ _|AUw=>Ψ ->Ψ ->ε|AUx=>by show Ae3 b;exact⟨ε,ζ,η⟩|AUy=>(fs++ [f])|ñ=>Sat lt n ε ζ|ww=>AuT AtE jS ε|wx=>Ord lt n|wy=>(lo+hi)/2|ώ=>ε AF (fun ζ A7=>η) E|ADb=>⟨lP,ε,ζ,bP e (by rw[e] at n;show AE n n n n n n n n n n n n n n)⟩|AUz=>(upd H2 A4 Aue)|Ϗ=>je xs ys|Auq=>wF (oU r)|AfY=>ε GE X.w AG pE eI ζ η θ|AfZ=>Beq E8 (DJ ε)|ADc=>fun F0 H0=>(JO ε)|w4=>fun _ _ _ h=>ε h|AIP=>ACU H A6 ε ζ (Iq η _ θ)
|Afa=>sZ ε d es ep|Afb=>∀x,foldedSetIterable ε BO x=IO x|AU0=>{cls:= AUM,ABJ:=ε,ABH:= ζ,AK9:= η}|AU1=>PD _ _ ε _ _ _|ADd=>.KE|AIQ=>.local|ADe=>ACh.1|ϐ=>h1.2|AIS=>by rw[C4,ε,ζ]|Afc=>by rw[Fh,ε] at ζ|ADf=>Z3 ε|AU2=>AGv ε|ϑ=>eL ε ζ η|ANL=>by simpa [ε] using ζ|ò=>by exact_mod_cast ε|ϒ=>by rw[ε,ζ]|ó=>⟨AMl ε,ζ,η⟩|ADg=>(BQ I)|ADh=>(BQ CF)|ô=>by rw[ğ ε]|õ=>by rw[UF ε]|ö=>ε (i:=i)|ADi=>CO hb|AU3=>(DJ 1)|Afd=>yT s'|ø=>by show BD (?_:ε) ζ|AIT=>Hk F ε|ù=>C9 Η|AU4=>D6 Ġ|ϓ=>(Adg _)|ϔ=>P []|ú=>.B_ _|û=>.B_ xs|AU5=>(JP _ EM)|ü=>MR Ψ|ANM=>Μ ->Ψ|AU6=>fb W.keepIn ε|Afe=>FM (W' ε)|Aur=>ε/ BE Ark|Afg=>AB' h|ADj=>aD K C ε|ϕ=>ABG GenState|Afh=>NG (A3 ε)|ϖ=>by rw[C9 ε] at h|ADk=>hS b hb|AIU=>(.bl AC)|ANP=>b∈bs|AIV=>.pu (qD ε)|ý=>PY Unit|ADl=>Cb ε ζ .JE|ϗ=>AUD Ζ|ANQ=>F7 ε .cell|Ϙ=>cT (RC ε ζ 0)|ADm=>Ŀ D AU|þ=>c::cs|AIW=>k8 z7|ANR=>(AcJ qD)|AU7=>k_ (ACj ε)|ÿ=>Pl hi|AIX=>(AHZ AR)|AU8=>fun σ2 H2=>ε|Afi=>fw ε A0|ϙ=>AUH ε IN|ADn=>(nD w)|Ā=>gI o|ā=>zI ε AZ|Ă=>(.ow ds)|AIY=>(AMY AZ)|ADo=>(n,k)|Afj=>rh F2|ă=>(ō EI)|Afk=>.AS8 .And ε AA|ANS=>dZ f hs|Ą=>fb nZ C|ą=>ACf ts|Ć=>ε Β Β ζ η|Ϛ=>ACk ε C4|ϛ=>ACm ta ε|ć=>AUS ε (sy AG ζ)|Aus=>AUI JU ε Lv|AIZ=>[.ALJ ε ζ I_]|Afl=>AHr H|Aut=>(bJ ns ε).oz|Afm=>Atj (qf b ε)|AIa=>∀l:CU,ε|ADp=>(frs M3)|Ϝ=>[HQ,Nl]|AU9=>At r s' ε|AIb=>n6 ε i=Ε ζ|ADq=>q_ IU h|Ĉ=>fun v s1 ε=>ζ|ĉ=>fun c hc=>ε|Ċ=>AUZ t|AIc=>(hn a ε).1|ADr=>AfI ε EP|AU_=>ACW BZ GA ε ζ η θ|Auu=>{s with toks:=ε}|ADs=>by with_reducible refine Auj ε|ϝ=>n6 (ε ζ) η=Ε θ|ADt=>dt (ε::rs) ζ=η|Auv=>AtE K jS ε|Ϟ=>∀r∈Ξ,ε|AU'=>kq F1 H1 AF|ċ=>α×β×Ψ|Č=>by obtain⟨_,_,_,Β⟩:=wU hl|ADu=>vm K H ε (RH ζ)|Auw=>Bfm AfH|ADv=>(iD k7 H)|Aux=>(ε.2 b hb).EC e|ADw=>AfN ts vs|ϟ=>EP X Ν σ Q ε ζ|AId=>b1++ (ε++b2)|ANU=>aC AMn ε/ BE AUe|č=>G.perm p G'|Ď=>eF _ ε _|ANV=>ε X vs H Q|ADx=>(ofM Ξ m)|ANW=>sIx Si 0 lo|AVA=>AuZ D ε ζ WJ|Auy=>fun b o e n ε hx=> ?_|AIe=>Du (j:=ε) Β|Auz=>upd ε aw (.ins C D1 ζ)|ď=>Il I hg hm ε|Đ=>⟨f,fd,ε,M,ζ⟩|AIf=>by show Aui k2 b;exact⟨ε,ζ,η⟩|Afn=>BGl ε ζ BO (qi η)=UO θ|Au0=>pH X Ν H b|đ=>yv (cI ε UN Β ζ)|Afo=>∀F Γ P,AfO ->(t Γ P E) ->(ε) ->ζ|Bhe=>BT n A ε d tb rs fs ix|ADy=>(qx r g ps ms x).xf|Ē=>(by (first|subst e|exact aaA e|exact aaB e|exact aaD e|exact aaC e|exact aaF e|exact aaE e|exact aaG e|show Ae0|show OC e|show OA e|show NB e|show OB e|cases (e)))|AIg=>(by (first|subst z|show AHG|show AHI|show AHK|show AHJ|show AHM|show AHL|show AHN|show AHO|show OC z|show OA z|show NB z|show OB z|cases (z)))|Ϡ=>ε=B1|ϡ=>.JE|Ϣ=>by obtain⟨ε,ζ,e⟩:=η|ANX=>BpH<=ε|ϣ=>show ε from Β|Ϥ=>EK GG|ϥ=>EK P2|Ϧ=>⟨⟨ε,ζ⟩,η⟩|ANZ=>(BQ it)|ϧ=>(BQ A4)|Ϩ=>by show UK hq'|ϩ=>(cV 7)|Ϫ=>(qv 7)|AVB=>B' at_|ϫ=>(Ev i)|AVC=>D3 ε AQ|AIh=>GH QN ε ζ|ANa=>.pu S|Ϭ=>.AL k|ANb=>(E3 ds)|AIi=>Ε v|ANc=>F7 mg ε|ϭ=>F7 BGC ε|AVD=>ε Ξ Cl|ADz=>ABw iJ ε ζ|ANd=>by show qa ε;show Ω|Ϯ=>MQ o4|ANe=>.B0 (E6 ε)|ϯ=>(a::rs)|ϰ=>CI Β|AIj=>MS UV|ϱ=>MT H|AVE=>b≠WH|ϲ=>(E6 h)|ϳ=>Sn ε 1|AIk=>z7 ?_|ϴ=>h∈hs|AVF=>am (AUV ε)|AIl=>OK (ε _ _) ζ|ANf=>(.frz o ACr)|ϵ=>T_ ε e|AD_=>(ε).EL .JE|AD'=>W' hn|Ϸ=>RS x|AEH=>Loc AdP x|ANg=>Ae5 (AuP GW ε)|Afp=>BG0 ε ζ η ?_ (θ _)|Afq=>(yW Ξ)
|AIm=>α ->AN|Afr=>AHX Mn|ϸ=>IS _ _ ε|ANh=>Ī (Sm ε) ζ|AVG=>.Compare ε [ζ] η AA|AVH=>fun vs H Q=>ε|Ϲ=>AUK (BG ε ζ) η|Ϻ=>mV rs f|AIn=>(Lj st)|ANi=>ε CS=Ε p.2|Au1=>Pv (D')|AVI=>qk Dn ε (Ae2 D2 ζ η)|AEI=>rS k.nx ε ζ|ANj=>⟨r,hr,ε⟩|ϻ=>al d Ae' ε|AIo=>AMa (Su ε)|AVJ=>(49+i)|AAG=>Ŏ ε U|AAH=>dv t b|Au2=>(XO a C Θ)|Afs=>XO a C (DJ ε)|AAL=>by show AMe e' ε|Aft=>Ŕ 0|AAP=>m∉fs|AAQ=>by rw[ε];grind|AAR=>AUQ S|AAS=>by show a_ ε Β ζ h|AVK=>AHm Τ|AEJ=>AHq AUc ε|Au3=>(AHs Η)|ANk=>UR X b|AAT=>Gd ps|AEM=>(AsO (zN _))|BiX=>ε K F0 H0 t E σ H Q|ANl=>AMu li ε|AAV=>AdW apos.atName|AAX=>A3 (bT (A3 ε)  ζ)|AIp=>AUh ds|Au4=>.Arh "type.__call__" ε|Au5=>FL ys y|AAZ=>fun ds P E=>ε|AVL=>AfQ ε (x∈ζ)|AAa=>(dr fun r=>Auq)|Au6=>ε f ts vs bs AUW h|AVM=>KV AH vs|AEO=>ABG (ĕ AI)|AEP=>fun z hz=>ε|AAb=>i≠j|AAc=>∀(hc:Fs),_|Afu=>(ε ζ k).AGf|Afv=>Aum a|Afw=>(gR eb n1)|AAd=>aZ P w H h a ε|AEQ=>Aup É|ANm=>(ε b u ζ).stay|AVN=>(yM ps ws u)|AVO=>bL (gR e ε)|AVP=>(bJ ns ε).KF ζ|Afx=>ε∈gk S n AMF ζ|AAe=>by have hl:=AdZ|AIq=>∀{l:CU},ε|Afy=>ε jS mg|AIr=>(JP z AMU)|AIs=>L3 z AMU|AAf=>ACG DD AM|AVQ=>(vs++ [v])|AIt=>iR t ε it l i|ANn=>(uz p s i)|AIu=>Bhe p|AAg=>Aun\/Auo|AIv=>fun s3 I3=>ε|ANo=>JA<=63|ANp=>{nx:=ε,rt:=ζ}|AAh=>∀F0 H0,ε|AAi=>∀m∈ms,ε|AVR=>∀(K:AB),_|AEU=>(BI::Ch)|AAj=>ABG (Ψ×AI)|AIw=>qE EA (Ζ×AI)|Afz=>((ε ζ).UC η).IN|AAk=>(zt lT AHg)|AAl=>aq (ε c) (aj ζ (Hm η θ))|AEV=>Œ (jk A k c*ε)|ANq=>fun A9 =>ε (Γ'.set i EI)|AAm=>xN [ov] (BGh ov ε ζ)|Au7=>ha ε Ν s σ H _ I h|AIx=>TR K F H t v as|Af0=>OK (ε S) (ζ η O.dat O.fit ?_)|AAn=>by obtain⟨v,_,Β,⟨p,vs,Β,hq,rs⟩,Β⟩:=rs|AIy=>(p Cl+q DL)|Biq=>OK (Rc AeF) (ALs ε ζ A0 ?_)|Au8=>by show ACT c vs ec EN rs ε|AAo=>callWith AA f first ε ζ|Au9=>∀{A:lI}{d:Ψ}{tb:lI}{rs:FR}{fs:AMr}{ix:z0},_|AAp=>by show AE r r r r r r r r r r r r r r|AAq=>by show AE rx rx rx rx rx rx rx rx rx rx rx rx rx rx|AAr=>by show fg hf hf hf hf hf hf hf hf hf hf hf hf hf hf|AEW=>fun hb=>ε|AEX=>by rw[MH,ε]|AEZ=>by obtain⟨ε,e2⟩:=ζ|Au_=>by rw[C4] at ε|AIz=>by obtain⟨u,ε,ζ⟩:=η|AEa=>ε<GY|AVS=>by obtain⟨ε,_,_,_,e,_⟩:=ζ|AEb=>by obtain⟨ε,_,Β⟩:=ζ|AI0=>by obtain⟨ε,ζ,Β,η,_⟩:=θ|AEc=>by split at h1|AEd=>by (show KU ε ζ η θ ι ν ξ ο π ρ τ υ χ ψ)<;>exact ω|AEe=>ALN ε|AEf=>by trivial|ANr=>KK ε=Ε ζ|ANs=>(ATV ε).ζ|AEg=>⟨ε,C_,ζ⟩|AEh=>by show UK h1|AEi=>(cV 8)|AEj=>(qv 8)|AEk=>Cn h|Au'=>ε (ALn ζ η)|AI1=>BE UQ|AVT=>NC H' ε|AVU=>EF=Κ|AVV=>v.scannable=Κ|AEl=>(! ε)=Κ|AVW=>Φ AHp|Af1=>Ε b|AEm=>R1.sl ε _ ζ|AEn=>(UM 0)|AEo=>A1 (ε (z ▸ ζ))|AEp=>(Co e)|AI2=>(Co hw)|ANt=>CH QH|AVX=>(ya ep)|AEq=>(match ε with | Ε ζ=>η | _=>θ)|AI3=>Ae1 ε BpW|AVY=>PD RE A ε ζ E s|AI4=>z6 (ABP ε)|AEr=>DT mO|AEs=>eK ε BO=ζ|AEt=>MU F|AEu=>NF 1 ε|ANu=>ł It|ANv=>BG4 _ _ ε|AI5=>fun b o ε e=>ζ|ANw=>i' p|AEv=>.DZ ds|ANx=>.DZ [.AO ε,ζ,η]|Af2=>fun σ H R ε=>ζ|AEw=>av Pa ε|AEx=>KK ε=Ε o|AEy=>⟨o,ho,ε⟩|Af3=>NM CF ε|AEz=>.dic _ _|AE_=>.j7 _ _|AvA=>ac i j|ANy=>DC ε [N4,ζ] η|Af4=>∀x∈ε,C x|AE'=>by rw[ε];decide|AFG=>by show L7 Β ε|AI6=>L3 _ Β|AFH=>RU ?_|ANz=>AMN [a]|Af5=>Pc ε (.BA ζ)|AN0=>AeU K ja|AN1=>Re ACp|AN2=>Around.under_plainId ε _|AN3=>AMR t'|AFI=>Rs v ε
|AFJ=>OR hr.units|AN4=>AUH ε ģ|AVZ=>zD us.toArray|AVa=>R1.g.seq hq|AN5=>dY X (RH ε) ζ|AFK=>by show Cc ε ζ Β ATm η|AI7=>by obtain⟨vs,H1,I1,r1,q1⟩:=ε|AVb=>ŋ ε (LM ζ)|AI8=>(.ow xs)|AFL=>(∃xs,ε)/\ζ|AVc=>(AML (qc o m) IQ)|AI9=>iJ  (BG ε ζ)|AN6=>(AMY AR)|AFM=>Inv JS Ν σ1 ε ζ|AVd=>(b::su)|AFN=>∀i,i<n ->ε|AvB=>(re hb)|AVe=>(DS++ACl)|AVf=>Lw _ MY|AFO=>ACa gQ|Af6=>AUN ε [.Call ζ η [] θ]|AFP=>AuU (ABz ε) ζ|AFQ=>dZ f S|AN7=>(ko H' a AHc)|AFR=>vR K H a xs|AFS=>Bac q|AFT=>k' ::ks|AN8=>sA aR ε|AFU=>by show EX p vs hq rs ε|AFV=>fun w hw=>ε|AFW=>AHh (AuS AMP ε) ζ|AI_=>ř CF ε ζ|AVg=>oe.data= .o_ ε|AFX=>FL σ o|AFY=>ACq ts|AFZ=>ATJ (Co hi)|AFa=>BGt (Co hi)|AI'=>by show FB (b=D1) ACY|AVh=>AuY AG7|AFb=>Cl=w|AFc=>(KO pD)|AJA=>ALc ε ζ (.Ī η θ) ι ν|AVi=>E Γ x|AFd=>AuT ASi AMP ε|AFe=>AMo a|AFf=>AUY (AuS AMP ε)|AFg=>ACw 74 ε|AFh=>AHw κ|AvC=>WF (rL)|AvD=>(LJ Mo p2)|AN9=>ei i _ e0|AFi=>AUd (BiX ε)|AVj=>Un ε ζ H η A6 θ|AFj=>Pv i σ H|AN_=>jL ds|AFk=>by obtain⟨a,ε,ζ,η,θ,ι,ν⟩:=h|AJB=>AfM nd|AFl=>wM Ξ x h|AFm=>AMw t|AFn=>by show AM0 s|AN'=>AsH s'.gens|AJC=>f p/q p|AFo=>∀(K:AB)(C:Ζ),_|Af7=>∀u,AHy ->ε|AFp=>ID (!(Φ (ε<ζ))) η θ|AvE=>AsW ε b=AC|AVk=>bV ε (UZ us)|Af8=>x= .AL i|AFq=>(Be3 AA)|AFr=>AUp led|AVl=>b1++ (ε++b2)|AOA=>(DN x)|AFs=>by show ka t' ry|AOB=>B3 ε _ _|AvF=>AHP Jl ε (BG Az ζ)|AOC=>IM xs AY|AFt=>zO (ACn ε ζ) Χ|AFu=>f_ ε yS _|AOD=>(LG F H)|AJD=>lf QN tn|AFv=>AfV (AMS ε ζ η)|AFw=>by intro i h1 h2|AFx=>fun h hh=>ε|AvG=>by rw[Aem,<- ε,AG_]|AVm=>(Jr aR)|AJE=>(ε p hp).1|AOE=>PE X b tb|AJF=>jz S h|AOF=>[HI,.AL j]|Af9=>(.tr k7 t)|AFy=>ACX E_ qD|AvH=>MV k' k ε y|AJG=>Aus K0|Bj'=>p.2= S_ ->∃c,ε CS=Ε c|AFz=>.ob C fs ts|AJH=>fun x y H Q=>ε|AF_=>by rintro z E cx Ν s σ H Q I ⟨F,Γ,P,R,h,kk⟩|AVn=>∃o',NC AeD o'|AF'=>∀(hs:Afb Nw:=by intro _;rfl),_|AOG=>Auy hb|AOH=>DL=h|AGA=>by unfold Sl Z'|Af_=>ABj (İ ε)|BkB=>HR vs ε T1|AOI=>ε fun o e=>ζ|AVo=>AUI (ABz ε) ζ (Sm η)|AOJ=>(F b).AGf|AOK=>ur ps (ε w)|BkE=>ε==Ata&&ζ== AMm|AGB=>∀{t b:Ψ}(h:Ś),_|AGC=>A_ x FD st|AJI=>ATI AG fd ps []|AGD=>Arv (Auv ε)|AGF=>by rw[UE] at hbs|AJJ=>by subst h1 h2|AGG=>by subst r1 r2|BkK=>by rw[ε] at z;show L6|AJK=>B' (f j).den|AJL=>Φ (Ap b=Ap a)|AVp=>o.cls= .type ε|AJM=>Ep Ξ ms|BkM=>(a::b::F_)|AOL=>(ε w hw).2|AvI=>ε K ζ (RH η)=Ε Κ|AGH=>(av qv 0)|AOM=>RY ε ζ vs AV η θ|AVq=>Adu hz Β (x:= ε)|AGI=>(l+r)/2|AGJ=>∀{x FD:Μ},_|AON=>(lu S n)|AvJ=>(Q_ ε ζ is).EL|AVr=>AUT ([]:Au).Ĩ|AGK=>kq F H Γ|Af'=>HG ε 3 [ALV,UB] ζ|AGL=>mq X.N sc BA FU BO N'|BkR=>(hi _ _ _ q)|AOO=>iT m (a i)|BkS=>AUn (Asx ε).units|AvK=>AMH DB H' s'|AJN=>Lean Ξ ms x|AGM=>KT H AH xs|AVs=>fk S n bs ε|AJO=>I1.fpOk HT (ALS HT)|AGN=>RI IQ e es|AGO=>KeyKind B9 w κ|AVt=>eF EF (ε f) P|AGP=>by intro i x y h1 h2|AGQ=>by intro Ν s σ H x y v u Q I rx ry h|BkW=>⟨NN e d0,gi e (d1 _ b1) b2⟩|AOP=>AB' ε _ us Q I r ζ|AGR=>by show AE h2 h2 h2 h2 h2 h2 h2 h2 h2 h2 h2 h2 h2 h2|AVu=>by show AE hi hi hi hi hi hi hi hi hi hi hi hi hi hi|AGS=>by show AE ry ry ry ry ry ry ry ry ry ry ry ry ry ry|Bke=>À w w w w w w w w w w w w w w|AOQ=>(10^12)|AVv=>by obtain⟨ε,ζ,Β⟩:=η
|AOS=>by obtain⟨o,ε,_⟩:=ζ|AJP=>by unfold ε at h1|AVw=>by obtain⟨o,ε,ζ,_⟩:=η|AJQ=>by rename_i hb|AvL=>(by rcases ε with ζ | ⟨⟨xs,η⟩,θ⟩)|AJR=>EK AN|AVx=>by rw[<- ε,ζ]|AOT=>by rw[e]|AJS=>(by show AUf)|AJT=>⟨B4,ε⟩|AJU=>B' B1|AVy=>B' xn|AJV=>Rat.inv_mul_cancel _ ε|AOV=>At ε ζ ED|AJW=>(D9 DY)|AOW=>(BIp+1)|AJX=>BE AUk|AOX=>(cC BS)|AJY=>OE H1 ε|AVz=>(ε b hb).2.1|AJZ=>.AL (f ε)|AJa=>MM D|AJb=>i<N0|AOY=>FL ws ε|AV0=>F6 AV|AJc=>Hk H1 ε|AOZ=>D6 MG|AOa=>RC cR ε ζ|AOb=>(Co h1)|AJd=>ds[i]|AJe=>fs[i]|AOc=>j≠0|AJf=>.kt _|AJg=>.exc _|AJh=>.ptr _|AJi=>MQ eA|AJj=>EG b|AJk=>EG z|AJl=>by rw[bL (FG ε)]|AV1=>L2 Fn.len|AJm=>yb Ψ|AJn=>kl qU ε|AJo=>AHR ε cn|AV2=>by have:=ε;show Ω|AvM=>NG (A3 (M5 (i:=ε) (D9 ζ) η θ Β Do  ι))|AJp=>OG PU|AJq=>ł AN|AgA=>h∈m|AJr=>GI (qD (ε h))|AJs=>0<N0|AJt=>i2 b hb|AgB=>(ASb ε).2|AOd=>(j - 1)|AV3=>Atw ε ?_|AJu=>ğ q|AV4=>OM ε ζ (OM η θ ι)|AJv=>(.AO x)|AJw=>(eC .JE)|AOe=>AUD AI|AV5=>OP RR|AgC=>d::Eg|AV6=>W.plainGet K ε ζ=Κ|AJx=>ACP AGd|AvN=>(jI .B0)|AJy=>(ef .B0)|AJz=>AMQ AGs|AvO=>plainId_quiet ε _|AV7=>(k_ AM8)|AJ0=>α ->D|AJ1=>aC l fun a=>ε|AgD=>ABr (CA ε ζ)|AV8=>(sy AG g)|AV9=>AMW (.bl (O0 (ε)))|AgE=>(z7 ?_)|AJ2=>mV rs (F8 ε)|AV_=>fb W.isFn Lv|AOf=>by show U1 Bi|AJ3=>(p::cs)|AOg=>jj K C|AV'=>AMT kW w|AJ4=>fun ε ζ P hp=> ?_|AJ5=>rX ?_|AOh=>by show ck ε Β|AOi=>(BqR hu)|AOj=>lh ABq ε ζ|AJ6=>tE ts|AWA=>(Á Κ)|AOk=>(AH4::us)|AOl=>AUN ε [a]|AJ7=>AuU AMP ε|AWB=>(Aut ε ζ).KF 3|AWD=>Ã ε ζ xL η|AJ8=>k::ks|AJ9=>ACd s'|AWF=>AUO h5|AOm=>AUO h6|AJ_=>Ĥ A6|AJ'=>AMg e|AOn=>Ŗ By ε ζ|AKB=>AMi ATD ε|AKC=>by show FB (b=it) ACY|AgF=>Ŝ BH1|AOo=>ŝ CF ε ζ|AgG=>AuT ASi (ABz ε) ζ|AgH=>(AG5 a)|AgI=>by show qa 2;decide|AOp=>by obtain⟨ε,ζ,η,θ,ι,ν⟩:=ξ;exact⟨ο,π,ρ,τ,υ,χ⟩|AOq=>AUb ε E8 ζ|AWG=>HE UQ|AOr=>(ATf gr)|AKD=>[ALY,AGp]|AOs=>PS X (.ALK ε ζ AA) η|AOt=>AH3 ε (kj ζ t)|AvP=>Hk H' u|AOu=>Cr Ξ ws|AOv=>Sz 1900 q|AKE=>aD K Hc GB|AvQ=>GL (ε i T1)|AKF=>i_ ks rs j|AgJ=>(match ε,ζ with | η,θ=>ι | _,_=>EM)|AKG=>Meth K GA ε f|AKH=>AUi "values"|AOw=>BGz (BQ ε) ζ|AOx=>(yz a Au2)|AgK=>AeY k v=Κ|AvR=>Bex ε ģ|AgL=>fk S n bs k|AOy=>f DL|AOz=>∀i∈is,ε|AWH=>(AfS LN)|AKI=>AUq JU|AKJ=>∀[Arl β],_|AO0=>(∀q∈qs,PZ q)|AvS=>AfW (W DU m' ε ζ)|AWI=>ε fun a b=>AHk|AWJ=>∀S∈Ss,ε|AKK=>PA X ε ta|AgM=>qE κ AI|AO1=>Afe hf|AKL=>(Afh Tc)|AWK=>qD (v w)|AWL=>Auu AHn|BlK=>AUm h1 (fun ε A7 F2 H2 v2 R2 s2 r2 h2=>ζ)|AKM=>US fU So k f fd ps (ε K sp)|AKN=>by obtain⟨v,_,Β,ε,Β⟩:=rs|AKO=>∀(i j:Ψ),_|AWM=>ABP (vs:= ε)|AgN=>by obtain⟨sl,e1⟩:=ε|AvT=>AdH C ε|AWN=>PE X o td|AgO=>ε fun kv=>(Φ (kv.1=k))|AO2=>tb s p|AO3=>(jy ps).2|AKP=>DP X hC|AgP=>(ze AfD [])|AgQ=>fun _ _ _ _ _ st h=>ε|BlN=>AfJ k (Ae_ FD ε cdv)|AKQ=>dU (Hm ε Pi)|AvU=>(Bn s (AfU (x r8)))|AvV=>⟨.AL ε,H,AUj,ζ,q⟩|AKR=>ALe (t' :=tk) ε ζ (ACU _ _ _ η θ)|AKS=>cY LN X.A|AWO=>fun i h h' st k=>ε|AKT=>by obtain⟨oc,od,kV,doc,pm,an,cdv,ct,osl,Β,lk,hcd⟩:=Fn.ex|AO4=>rY ε a y o|AO5=>(Bc AG6 FU σ)|AgR=>(Au7 AA)|AKU=>by show Au8 (PK e1 ε)|AKV=>fun _ _ ε ζ=>η|AKW=>(by rcases ε with q | q)|AO6=>⟨f,hf,ε⟩|AKX=>by show qh q hn;exact q|AKY=>G3 (Ax ε)|AKZ=>by rw[ε] at e;show C6;exact ζ
|AWP=>(Aeo i Bw)|AO7=>p a=Κ|AO8=>GZ B q|AKa=>mX (CA r hr)|AWR=>yx a b=Κ|AO9=>sB (b≠ε) (MT ζ) AfG|AO_=>AMJ AUM (.seq QP n)|AvW=>Bj' ASv|AWS=>BkB 2|AgS=>OD e ds vs ε|AKb=>fun i h st b hb=>ε|AWT=>kZ fs ts f=Ε ε|AO'=>⟨NI,od,.o_ (Ae6 ε),ζ⟩|AKc=>BkS (Ae_ ε (aY ζ) cdv)|AKd=>Rx (i:=ε) nd Β Β|APA=>ε K sp vs H Q E|APB=>(match ε with | Κ=>ζ | AC=>η)|AgT=>by simp only [ī,hb,ε]|APD=>by by_cases q:ε<;>simp [q]|AgU=>∀{K:AB},_|AKe=>(BFq BK).ε|APE=>[e1,e2]|AWU=>∀j,wL (ε j)|APF=>∀(K:AB) (F0 H0:Hp),_|AvX=>QQ (xz hq)|AvY=>kq F2 H A7|AgV=>rN (AfB ε) (rN (AfB ζ) FZ)|AvZ=>fun v z=>(BkK d)|AKf=>by show AM1 (Cn hb) hb|AWV=>(Be2 y0 1)|BlW=>{o with ABJ:=Ε ε}|AgW=>by show Afc (ku hi') hi|APG=>wpAny_passesOwn hp (bV ε ζ)|APH=>(Auz AfX [])|AWW=>Afo ε (ζ t E σ H Q)|AgX=>Hs Š AUt|Ava=>NO (by show qh (ε b u e) ζ;show r9 η)|AKg=>fun h' eb=>(IC (AfL (AUU Asj) (eb b o hb e)))|AKh=>∀{rs:FR}{cs:DD},_|AKi=>AI ->AI ->AUu|AKj=>(aK K F ds)|AgY=>(.xd (Į ws))|AgZ=>⟨_,_,_,Β,B4,B4,B4,ε⟩|AWY=>fun D σ H=>ε σ H (Ń ζ η)|BlX=>Ry (D9 ε) Β bK boot_list|AKk=>AHY (AGm e ε Asc BO)|APJ=>(AUG ALj s3 AUz fp)|Aga=>sIx Si Si hi|AKl=>by obtain⟨d,d0,bd,hd⟩:=ε|Agb=>∀(i:Δ) x y,ci ->Au5 ->ε|BlY=>⟨F1,AF,ε,R1,s1,r1,h1⟩|APK=>fun _ _ _ _ ε ζ=>η|AKm=>⟨ε,ζ,η,k.rt,k.rf,k.rT,k.rm⟩|Agc=>fun p hp=>ε p (zW _ hp)|AKn=>by obtain⟨a,vs,bs,Β,Β,ea,EN,r⟩:=r|Avb=>((by (first|subst z|show AHG|show AHI|show AHK|show AHJ|show AHM|show AHL|show AHN|show AHO|show OC z|show OA z|show NB z|show OB z|cases (z))))|AWa=>B1=ε|Agd=>by rw[Fh,ε]|APM=>by rw[ε,PM]|APN=>by obtain⟨e,ε⟩:=ζ|APO=>by injection ε with ζ _|AWb=>ε<M1|APP=>(by rcases ε with ζ | h)|APQ=>UD ..|APR=>by rw[C4,ε,ζ,η]|APS=>by rintro⟨ε,ζ,Β⟩|AWc=>AsO ε|APT=>by exact AtZ ε|APU=>by show BN ε;exact ζ|BlZ=>(by kernel_rfl)|Blb=>(by size_fits)|AWd=>B' GY|APV=>B' He|APW=>(D9 G5)|AWe=>(D9 (#[]:Kb))|APX=>(j+1)|APY=>(M1+1)|AWf=>.As l|APZ=>.AL a|APa=>.AL b|Avc=>i<FE|APb=>F6 D|APc=>Fk Β|Age=>Cn z|APd=>yT Sr|APe=>(PR hi)|AWg=>(ε b hb).2.2|AWh=>LL A5 ε|AWi=>(AGe ε).ζ η|AWj=>Wd _ _|APf=>ad nj ε ζ|AWk=>(Co h2)|APg=>ms[i]|APh=>CH Uo|AWl=>by show Ct ε;show Ω|APi=>by show NR;show Ω|Agf=>by show Æ ε;show Ω|APj=>(ya I_)|APk=>EU 0|Agg=>.B0 DL|Avd=>EG WC|Ave=>EG AG0|APl=>.DV i|APm=>.DV Β|AWm=>ŀ s1 ε|AWn=>A3 (ε Β Β ζ η)|Blc=>ABx N0|APn=>L2 Heap.get?_update_ne|APo=>by show MW r;rfl
|APp=>by
 show BV ε
 rw[ζ];refine η
|AWo=>MT F1|APq=>x∈f|APr=>DM ε ?_|APs=>FM (h b ε)|APt=>Ł isW|APu=>OF ε eb|APv=>AHR ε (Hn ζ)|APw=>Wh (m:=ε)|AWp=>H_ us|Avf=>EQ ε ALd|APx=>OG XG|APy=>(KP ys)|APz=>ł V|AP0=>ł AV|AP1=>oG Ξ|Agh=>by simp only [ε];exact ζ|AP2=>.DZ (AHz ε ζ)|AWq=>uI Η|AP3=>(.bl b)|AP4=>qa 64|AP5=>(GY - 1)/2|AWr=>B1<=i|AWs=>.bool Κ|AWt=>fun z E cx=>ε (EH ζ η θ ι) ν|AP6=>.dik _ _|AP7=>UF q|AP8=>A i j|AWu=>by rw[ε];simp|AP9=>F7 ε .eD|Agi=>by rw[<- ε];exact ζ η|AWv=>NH (ε _ _) (ζ η)|AP_=>kz (ANK ε) ζ|AP'=>by obtain⟨ε,H1,I1,ζ,q1⟩:=ED|Agj=>ň GB|Avg=>ACR ε T1|AQA=>ACS vs|AWw=>zD rest.toArray|AQB=>AM3≠ []|AQC=>AUJ o|AQD=>(M9 w)|AQE=>(iU qs)|AWx=>(.ptr a::ds)|AQF=>zI ε AR|AQG=>∀(x:Μ),_|AQH=>(lt i j)|Agk=>AUL FS|AWy=>Q (Ev ε)|AQI=>h _ ACs|AQJ=>(r::rs)|AQK=>Sem AN|Agl=>(n,AtY)|AQL=>ε (bV ANB ζ)|AQM=>z_ (ACN ε ζ)|AWz=>ŏ ε HU|AW0=>qo A ε ζ E ES|AW1=>dN (ACg ε ζ)|Agm=>dN (ε dM (aq (ζ c) (Hm η θ)))|AQN=>(AvC::us)|AQO=>AMg h|AQP=>AHi H|Agn=>AHi H1|AQQ=>by show a_ ε ζ Β h|AQR=>(hs.2 b ε).EC ζ|AQS=>∀(a b:AM),_|AQT=>sN c|AQU=>w::vs|AQV=>v::vs|Avh=>ACo M_|AW2=>tn i A6|AQW=>AHo vs|Avi=>AUI JU ε (Sm ζ)|Ago=>[.ALf ε ζ I_]|AQX=>AMj o5 ε|AQY=>AMj ε (v7 AG ζ)|AW3=>(bJ ns ε).KF|AW4=>AuY M1|AW5=>e∈S|AW6=>n∈S|AQZ=>fun x hx=>ε|AQa=>∀(i:Δ),_|AQb=>ACt cN ε|AQc=>mX (CA ε _)|AQd=>AMp ε .ellipsis|AQe=>by show qa 1;decide|Agp=>.AX ε EB|Avj=>(LJ ZZ p2)|AW7=>fs c p|Agq=>(bS fp ANA)|AQf=>ei i _ e|AQg=>ABM= []|AW8=>ε=CF+1|AQh=>fun s _=>ε|AQi=>[kF,AGp]|AQj=>L8 fun i=>ε|AQk=>aD K Hc xC|AQl=>r∈Ξ|AQm=>AU ->SE|AQn=>(UH vs)|AQo=>(n - e)|AQp=>Up lt p ε|AQq=>AH8 ε AH5|AQr=>QI X F0 H0 tg ε ζ|Avk=>fun o=>(BlW ε)|AW9=>Aul ε (RH ζ)|AQs=>by rw[ε] at e;show C6|AW_=>(e - s)|AQt=>AUs (P ε Γ)|AQu=>(ANC u)|AW'=>(.AO x t)|AQv=>ANE ε (sy AG ζ)|AXA=>AH6 _ (ε>>=_)|AQw=>AUv Ő ε|AQx=>AfZ (.ALJ ε ζ I_)|AXB=>AU1 (ε>>=_)|AQy=>by rw[ε] at q;show AE q q q q q q q q q q q q q q|Agr=>j::Eg|Ags=>fun m hm=>ε|AQz=>by rw[h1] at h2|AXC=>∀w∈ws,ε|Agt=>by simp [ε,Ad0,ζ]|AQ0=>⟨fun ε=>ζ,fun η=>θ⟩|Agu=>Q v H2|AXD=>CA q hq|AXF=>AU6 Lv|AQ1=>lL Atk ε Β|AQ2=>AU9 hq|AQ3=>oh ks k=Κ|AQ4=>k a zY _ e3|AQ5=>ε (aj AZ ak)|AXG=>#[.As ε,Aft]|AQ6=>by exact(FA EM r).WI|AQ7=>∀(q:AM),_|AQ8=>by show L7 (FA (AC=Κ) ε) zJ|Agv=>wd l b|AQ9=>GR lj ε ζ ON|AQ_=>(Afs dx)|Agw=>∀ε,UT ζ ->NM η (af θ ι)|AQ'=>AIA ε fst i|Bld=>ASu n==Ε cc|AXH=>∀(Ν:dX) (s:AD) (σ:St) (H:Hp) (ε:ζ),AW ->η ->AHa θ ι|ARA=>WJ (ı i (.tr ε ζ))|ARB=>(match ε with | Ε ζ=>η | Θ=>θ)|ARD=>by show Au_ hl|ARF=>(by rcases ε with z | z)|ARG=>[Z_,HQ]|ARH=>[WN,kF]|ARI=>(x::xs)|ARJ=>by show Cc ε ζ η (Nx (i:=θ) (n:=ι)) Χ|ARK=>XN q n ε|ARL=>cf x c|ARN=>by show zo AMV rx|ARO=>kJ fs xs ε =Ε ζ|ARP=>Ar_ f=Ε v|ARQ=>A3 (Ls Β  (r6 ε)  ζ  η)|ARR=>oA Ss fs|Agx=>AvE op|ARS=>(Į vs).ABW|ART=>Lw h (PassesOwnAt.leavingOf h)|ARU=>AvF ε aN|ARV=>by have:=ε;show Da ζ;show L9|Agy=>k it A0 o ε|ARW=>by obtain⟨AY,rv,p,hz⟩:=ε hq|ARX=>A3 (O4 Β Β bU  (A3 (aA ε aN))  (Å ζ)  η)|Avl=>ε (w9 j WV)|Agz=>XL (X.pn++Ν) (CS≠ε)|Ble=>BkE ε env.scope.kind|Ag0=>k _ AF F1 H1 _ R1 s1 ε h1|ARZ=>∃W:AUC ε,(∃m,ζ)/\η|Ag1=>∀ε A9 F' H' ζ,BB AH' FV η (P θ A9) ι
|Ag2=>AfY fU (Aez fD) k f fd ps ε|ARa=>by obtain⟨a,vs,bs,e1,Β,e3,e4,h⟩:=h|AXI=>rows.Perm cL|ARb=>∀(i:Ψ),_|Avm=>by show Î ε;exact e|Ag3=>(h0::hs)|Avn=>fun b u eb=>ε|ARc=>(LL By A5)|Ag4=>PE X i ty|ARd=>.B0 (Gc (mj Χ))|ARe=>DC N ε st|Ag5=>(.AL i t)|ARf=>TC X.N y|AXJ=>(ε B9 w).is|Ag6=>by obtain⟨z,hd,xs,rel,dd⟩:=zS Lr|ARg=>[HQ,eS,Nl]|ARh=>wN Ξ ws m|AXK=>V ->AV ->Auk|AXL=>(pC (cC (Ev 1)))|ARi=>zK (zM (zG e) ε)|Ag7=>(gA Ξ w).EL ε|ARj=>by show EX v us r1 r2 r|ARk=>EH ε ζ hg hm η FY θ ι he|ARl=>Au' AeL (ε ζ hs) η|ARm=>AMM d1 v1 (BlK d2 ε)|ARn=>fh (qI  (BG ε ζ)  η) Ae4|ARo=>∀P:gc,ε ->EF (f ζ) P|Avo=>aK AG F1 ds vs|Avp=>∀z,jR JS (ALG ε) ζ|ARp=>Turn P w K tg ε [it] it (UU h ζ)|Ag8=>BlX Vh|Avq=>(.xe as C fs ts)|Ag9=>(Pp u AMs)|AXM=>(a::r).Ģ|ARq=>DP AuF ε|Avr=>(xp V.int)|Blf=>(xr.back AG2)|ARr=>(Rz cx)|Ag_=>(Bq9 ATy)|ARs=>∀(K:AB),_|Ag'=>AU4/\ Afv/\ε|ARt=>⟨gT ε,uI Χ⟩|ARu=>ĕ (EK ε)|ARv=>[k1,k2]|Blg=>by obtain⟨F,Γ,P,S,q,k⟩:=ε;exact⟨F,Γ,_,S,q,ζ⟩|ARw=>CA j hj|AXN=>qE Υ AU|ARx=>by obtain⟨_,_,_,_,_,Β,_⟩:=h;rfl|Avs=>(JP q q)|ARy=>hA _ _ h1|Avt=>AMI Bg ε ζ [SZ] (η c)|ARz=>Bp9 (ε ?_ ζ η)|AR0=>Lw h' h'.elim|AXO=>by rw[ε] at h;show GN|AXP=>by rw[ε] at z;show L6|AhA=>aD K ja ZY|AhB=>fun i ε ζ e1 e2=>η|AhC=>yH b _ Afw ε|AR1=>dU (aj ε (Hm ζ η))|AR2=>∀(t b:Ψ),_|AR3=>Dn lt p ε|AXQ=>.ob C fs (nF fs ts f ε)|AR4=>(dv t b).ABt|AR5=>fun _ _ _ H _ I h=>ε|AXR=>RI [a] a []|AR6=>eV X.N sc BA FU AdP N'|AR7=>P (d i j)|AhD=>At x H' y|Blh=>((cS).wsh (H_ (cS).xe))|Avu=>r= .ok (.ret ε)|AR8=>PD kg X.A ε Q E s|AR9=>ji t1 A6 l1 xs|AhE=>∀{n p:Δ}(Au9),_|AhF=>(gE (MV b a Θ (H' b)))|AR_=>∀{P:A2}{w:An}{K:AB}{tg:AJ},_|AR'=>Biq h1 h3|Bli=>Φ (FE>1)|ASA=>by simp at h1;subst h1;simp [nA]|AXS=>[N4,Mn,HQ,KG]|Blj=>AvJ Nc ys|ASB=>Ő/\o∈s|ASD=>by have ε:=ai ζ c η (fe θ)|ASE=>G2 ->D3 (D3 ε G2) XW|AhG=>by show zo (u=WF b) ry|AXT=>wQ Ξ r g ε ws u|Bll=>ε z TI TO i1 i2 l1 l2|Blm=>W.methodCall_KW (pl:=pl)|ASF=>by simp only [ē,Bqz,or_false] at ε|AhH=>Vz X H0 pl ε ζ|AXU=>∀{Ξ cL :BU},_|AhI=>bD (Hq AMt ε)|Bln=>AGx _ ε (Obj.isFreed_of_fields ζ)|Avv=>pH X Ν ε b|AhJ=>∃DB H',AvK /\ε|AhK=>MV kv.1 k (kv.1,ε) kv|ASG=>ji t2 A6 l2 ys|AhL=>(.AGn elts x1 pt)|ASI=>(.AGn rV k2 QX)|ASJ=>Un fs ex H ε h ζ|Avw=>Afn OI ε OI OI|Blo=>∃N:TH,(∀DB H',N DB H' ->ε)/\ζ|AhM=>fun C dx H' =>∃x F',ε/\ζ /\Aw AG F' η H' C dx x|AhN=>nu.some_of (v:=v) (o:=ε)|ASK=>by show TD oi h1 h2 h3 hit|AXV=>∀(P:A2) (w:An) (K:AB),_|AhO=>fun Ν s σ H ε I q=>Afg ζ I BkR|Avx=>(mQ sc CF BO).ε|Avy=>qD (fY SA ε o)|Avz=>[PQ Bor,PQ "Exception",PQ Arb,PQ Arc]|AXW=>∀{X:Cx}{F0 H0:Hp},_|Av0=>bi o4 #[.AL lo t,.AL hi u,.AL 1 v]|AXX=>∀(hd:Fr:=by decide) (hcd:zn:=by decide),_|AhP=>∀(hd:Fr:=by decide)(hcd:zn:=by decide),_|ASL=>(oE AM4 Afq ws h)|ASM=>∀{Ξ:G1}{ws:CU}{m:SC},_|Av1=>fun σ H=>ε (Â Θ) H|ASN=>by obtain⟨a0,u0,Β,h0⟩:=mY h|ASO=>[.AGn [.kA x px,.kA y py] kt pt]|ASP=>Vr hit hg O Β ?_|Av2=>k d A7 F2 H2 v R2 sL ε ζ|Av3=>⟨ε,I.os,Ħ,I.base,pM,jv,pS,AGi,ζ,Iq,AGj⟩|ASQ=>by obtain⟨e,n,ne,nf,d⟩:=AGk p hp|ASR=>fun i H2 F2 s2 s3 _=>(Po ε d hd)|Av4=>fun Γ4 F4 H4 σ4 R4 s4 q=>ε
|ASS=>∀(cdv:AI) (A:BM) (Ch:L_) (s:AD) (H:Hp) (E:XK),BlN yo ->ε|ASU=>bV (Vc (E:=fun C dx H' =>E C dx H') I Β Β Β (hx.imp (MX C dx H' z))) fun _ s'' z=>z|Av5=>by show KU d' d' d' d' d' d' d' d' d' d' d' d' d' d'|Av6=>by (show AE hf hf hf hf hf hf hf hf hf hf hf hf hf hf;done)|Av7=>by (show AE r' r' r' r' r' r' r' r' r' r' r' r' r' r';done)|Av8=>by (show KU n n n n n n n n n n n n n n)<;>simp [nA]|AXY=>ALN ε|AXZ=>Ķ.1|AhQ=>if ε then Θ else ζ|AXa=>by rw[Ff,ε,ζ]|Av9=>by rw[GV,ε]|AXb=>ε<=GY|AXc=>by rw[ε,Fh] at ζ|AXd=>by obtain⟨a,ε,ζ,⟨η,θ⟩,⟨ι,ν⟩,ξ⟩:=ο|AXe=>Bp2 ε ζ|AXf=>BGV ε ζ η|Blp=>by exact_mod_cast ε|AXg=>(by show ŕ)|AhR=>ε (AGe ζ)|AXh=>A3 (sf ε)|AXi=>A3 (RD (A3 ε))|AXj=>(AuB Β)|AXk=>AGc h|AXl=>WG h|AXm=>(D9 Jp)|AXn=>BE 0|AXo=>BE Y|AXp=>a.Perm b|AXq=>.AL j|AXr=>BHL i ε|AXs=>Aeb i ε|AXt=>MM FS|AXu=>MM AJ|AXv=>i<JA|AhS=>i<GY|AXw=>F6 T|AhT=>F6 G2|AXx=>CO Χ|AhU=>(DJ e)|AhV=>Hk ε (AMh ζ η)|AXy=>AS_ ε BO|AXz=>D6 M'|AX0=>(PR hc)|AX1=>(Co h)|AX2=>(Co hj)|AX3=>(yY P9)|AX4=>(yY SY)|AX5=>.DZ _|AX6=>fun z E cx=>ε ζ|AX7=>EU AvA|Av_=>(match d with | ε=>ζ | _=> η)|AX8=>.B_ ACc|AX9=>EG k|AX_=>EG m|AX'=>EG sz|AYA=>(ASt ε).1|AYC=>(Array.getElem?_eq_some_iff.mp ε).1|AYD=>show ε by show ŕ|AYE=>RF H1|AYF=>j<B1|AhW=>(RH S)|Av'=>(RH BH3)|AhX=>.AO h|AYG=>MS (IP+1)|AYH=>DT je|AYI=>x∈g|AYJ=>DM ε AMv|AYK=>FM (.DV hb)|AYL=>Ł z90|AhY=>b≠CF|AhZ=>L4 NU ε|Aha=>L4 (S b) ε|AYM=>fe (AfP ε)|AYO=>ABG DictEntry|AYP=>AHR ε g9|Ahb=>H_ SB|AYQ=>EQ ε AcB|AwA=>OG Ê|AYR=>by unfold ε;show BN ζ|AYS=>eG Ξ|Ahc=>by show AvG ε;exact ζ|AYT=>GI ?_|AYU=>(.bl Κ)|AYV=>F8 ?_|AYW=>(r - 1)|AYX=>⟨o,h1,ε⟩|AYY=>(NJ ?_)|AYZ=>NL ADH ε|AYa=>show ε by decide|AYb=>N0 - 1|AwB=>km F' H|AYc=>(kr ho)|AYd=>(qi Nw)|Ahd=>b∉ch|AYe=>IY (ε=EU ζ)|AYf=>OP _|AYg=>kz (sC ε ζ) η|AYh=>AHV ASv|AYi=>k8 HU|AYj=>fun r _=>ε|AYk=>∀h∈hs,ε|AYl=>∀h∈AIL,ε|Ahe=>UT l|AwC=>Q BS H'|AwD=>ň AdB|AYm=>α ->β|Ahf=>AHX d4|Ahg=>AHX xC|AYn=>(AuI _ _)|Ahh=>b9 PU|AYo=>Ass<2^ε|AYp=>qo A ε ζ AU5 η|AYq=>i<=B1|AYr=>(D9 (Jq hu))|AYs=>gL Q3|AYt=>gL em|AYu=>ps[D']|AYv=>mV rs g|AYw=>gT 3|AYx=>AMZ α|AYy=>AG6=n|AYz=>DL∈U|AwE=>o0∈Ņ|AY0=>(b::t)|Ahi=>mL K C|Ahj=>cY k A|Ahk=>AMa MG|AY1=>(lo+i)|AY2=>(.pu d)|AY3=>(rq ADK)|AY4=>Ä ?_|AY5=>(Å 2)|AY6=>eB K0 ε ζ|Ahl=>Ç p|AY7=>c0 L|AY8=>r_ s|AY9=>lm Au0|AY_=>ACg rQ ε|AY'=>Ř W.hasDictIn ε|AZA=>⟨ε,ζ,η,bP e ?_⟩|AZB=>AHY (swapsWithSole ε ζ Asc BO)|Ahm=>D6 B1/\ε|AZC=>D6 N3/\ε|AZD=>sR l|AZE=>GZ (ε*27720) ζ|AwF=>(E_ f)|Ahn=>(LJ y Cg)|AZF=>FL σ g6|AZG=>o.cls= .As C|AZH=>AtP= .As C|Aho=>AUT ph|AwG=>z.pn++Ν|AZI=>(ş WO)|Ahp=>AHu s.Nodup|AZJ=>aj ε (aj ζ (Hm η θ))|Ahq=>D_ (.ALJ ε ζ AA) η|Ahr=>fs s p|AZK=>Rd H a ACu|AZL=>AfJ ε (Ae_ ζ (aY η) cdv)|AZM=>by exact eL ε ζ η|AZN=>ADG 0|Ahs=>yL Ξ ws|Aht=>AM2 (.tr as (.ob C fs ts))|Ahu=>by have hl:=AdZ|AZO=>∃v,ε/\OU|AZP=>by unfold ε;rw[ζ,η];rfl|AwH=>by unfold ε;rw[ζ];grind|AZQ=>AM5 ε AIK|AZR=>fk S n bs LN|AZS=>ADS t|AZT=>Be2 (IR ε) ζ|AZV=>∀(t:cW)(E:XW),_|AZW=>(x,c)∈ε|AZX=>by have Ap:=AeW ε|AZY=>ε fun h=>qD (ζ h)|AZZ=>AfT den|AZa=>Afa A6|Ahv=>by rw[z,ε] at q;show AE q q q q q q q q q q q q q q
|AZb=>jI KW|AZc=>ps[D'].1|AwI=>M_ l=Ε ε|Ahw=>[.JE (Ev m),ε]|AZd=>aC Ξ (Re ε)|AZe=>Aur (x o)|AZf=>OF o e|AZg=>ANQ AK_|AwJ=>R1.sl i _ e2|AZh=>⟨AVK,ε,ζ,?_,?_⟩|AwK=>Afm AHk|Blq=>(Ş ATR kV)|AwL=>ε (t' :=Mm) (ζ:= η)|AZi=>AVC Δ|AZj=>(Cl - l.1)|AZk=>(af a o)|AwM=>qq ε H1 (F1 b)|AZl=>AVH (ANV ε)|AZm=>AVI ε ζ (AMK d v rd η θ)|AwN=>(AMh #[] 0)|AZn=>AHj hs.2 ε|AZo=>(gA Ξ w).EL|AZp=>s'.os=s.os|AZq=>N3 - DU|Blr=>[.kA x I_]|AZr=>∀s',ε ->ANJ|AZs=>CA r hr|AZt=>OG (Ō fs)|AZu=>.pu (gl m)|AZv=>Af3 (AVF ε)|AZw=>WJ (ı i ε)|AZx=>qk v Q ε|AZy=>sD ε aL By ζ|AZz=>EH ε hu ζ η (PR θ)|AZ0=>dN (ACv ε ζ η AZ)|Ahx=>ť e hx|Ahy=>Ŧ Ja ε ζ η θ ?_|AZ1=>Ũ PE e ε|Ahz=>Af7 AvP|AZ2=>z8 _ (z8 _ ε)|AZ3=>Lx K F O7 ε ζ|AZ4=>(AGi x c e)|AZ5=>W i m σ H|Ah0=>(mU val i)|AwO=>(aK K F ds vs)|Ah1=>Z3 0|AZ6=>AtQ 3|AZ7=>k∈ks|AZ8=>by rw[Ff,Ff]|Ah2=>(Ĳ NA)|AZ9=>.any C|Ah3=>by (with_reducible refine wpAny_isSubtype_exc ε ?_;rw[ζ])|AZ_=>∀(ns:B6),_|AZ'=>ε K c (Eu Q) (aG ζ ds) fN|Ah4=>yW Ξ w ε|AwP=>(fun b z=>(Afi z))|AaA=>km F' H'|AaB=>F8 (by show Ct ε;grind)|Ah5=>NM l (b_ l ε)|Ah6=>E (BQ e) ε|AaC=>(z_ (A3 Rj))|AaD=>ae Jj ε E|AwQ=>AvQ AG9|AwR=>∀i j,i<n ->ε|AaE=>(yn OI f Ed)|AaF=>(Ad3 k).j4|AaG=>AvV ε E4|AwS=>Afu jc AH|AaH=>by intro Ν s σ H xs us Q I r h|AaI=>AtM vs ns|AaJ=>∀i,ε<=i ->i<n ->ζ|AwT=>Q_ BS ε is|AaK=>yC N d q|AaL=>AIP a ε a ea|AaM=>(AVG a op [b])|AaN=>fun f hf=>ε|AaO=>∀f∈fs,ε|AaP=>Cl - l.1|AaQ=>yd (LL ε aR)|AaR=>Asu (Au4 ε)|AaS=>by show Da ε;exact Ρ|AaT=>[topFrame z]|AaU=>D3 AV B5|AaV=>BFr i t|AaW=>dZ ε hs=Κ|AaX=>aK AG ε ζ vs|AaY=>A1 (by rw[z,ε] at ζ;show AE η θ ι ν ξ ο π ρ τ υ χ ψ ω Α)|AaZ=>ET ε (fun v z=>AMU)|Ah7=>(ASb hr).1|Aaa=>a::dx::bs|AwU=>(pB AG sp)|Aab=>.AL i _|Ah8=>rX ⟨AvO ε,ζ⟩|AwV=>R (.ok (.ret ε)) ζ|Aac=>by obtain⟨AY,rv,p,hz⟩:=ε hq|AwW=>(.dic AvN (KO Gn))|Aad=>xD= .o_ vs|Bls=>Z' B1 0 lo|Aae=>∀ms:ε,ζ ->η ->P (Q1 θ)|Aaf=>by obtain⟨z,hd,vs,rel,dd⟩:=zS Lq|Aag=>At y H' z|Aah=>ADR H s|Aai=>I.write (x:=ε) (e:=ζ)|Aaj=>by show AIM yE rs ε|Aak=>d8.mp ((e ε).mp ζ)|Aal=>fun i j hij hj=>ε|AwX=>AM6 d ks xs|Aam=>qJ ε qY (XT ζ)|Aan=>Low rs cs a ε|Aao=>E C dx H'|Aap=>ε P w Ch H s E e s'|AwY=>.tr as (ce ks ε)|Blt=>(AGw a (AU2 (Fk #[]))).ε|Aaq=>(zK (zG e))|AwZ=>kq F' H' A9|Awa=>Fm (∃a b:AM,ε)|Ah9=>by show AvL ε z e' z|Aar=>Bll ZipApart|Blu=>Bln ε (AeE ζ _)|Aas=>DM (fun i m ε ζ=>m=η - i/\θ/\ι) ν|Aat=>U6 lk hcd S (IE vs ε ζ η θ) fun A Ch s H vs Q E hr ι=> ?_|Aau=>by obtain⟨h1,h2⟩:=ε|Aav=>(by first | exact NS Β | exact KW Β)|Blv=>(į sF)|Aaw=>(ASe rD)|Aax=>ε AG6 FU ζ|Aay=>X.env.frame=Ε WH|Aaz=>∀(w:An),_|Aa0=>(by simp only [WO]<;>(show qA))|Aa1=>[AHv b 0,AHv (b+1) 0]|Ah_=>CA i hi|Ah'=>AeF ε ζ (Z3 η)|Awb=>Cb oV qs|AiA=>(AMz++AcD j)|AiB=>∃b,ε= .As b/\ζ|Aa2=>∀f∈fs,ε|Aa3=>fun _ H Q=>ε|Aa4=>(ε w hw).1|Aa5=>Lw y y|Aa6=>len _ _ _ hs|Aa7=>.DV (zO (ε ζ) Χ)|AiC=>L4 XE (zw/\ε)|Aa8=>MV g f ε ζ|Awc=>AuN ε [(AC,ζ)]|Aa9=>swappedStores ε ζ BO=IO η|AiD=>entryFor table ε =Ε ζ|Awd=>(JX a Ex)|Aa_=>S4 (wM Ξ x DL)|Aa'=>fun ε ζ P hP=> ?_|AiE=>At ε ES aE|Awe=>ACX L8 (GL ε)|AbA=>(mR ja ZY AZ)|AbB=>(zc bQ aO By)
|AbC=>fC K F' H' ε vs ζ|Blw=>(KP [AIB,(Ev 1)])|AiF=>s3.seq (s2.seq hq)|AiG=>AuZ ε (I (D')) (I (D')) ζ|Blx=>AH1 KO (fun(Lu ε)=>ζ)|Awf=>Bex Vj IN|Awg=>Sl ε AU3 Θ|AbD=>by by_cases e:CS=k|AiH=>fun σ H R=>ta σ H (Ń vs ε)|AbE=>AMK d v r q ε|AbF=>by obtain⟨hq,hx⟩:=hg|AbG=>GH rM MC tb|AbH=>Afx TN IP|AbI=>∃c,x= .bl c/\ε|AbJ=>(! t.plain&&Bli)|AbK=>OQ l CU (AUl ε) ζ|AiI=>Í Y (1+ AH9 5)|Awh=>br (¬bc) H2 H'|AbL=>Af0 setState Bq7 hg|AbM=>dv ε Χ Χ|AbN=>GH QG tg g|Awi=>br bc H2 H|AbO=>by show AMe e1 (BGG b o e hx)|Bly=>.AX (FA (HP ε (WF ζ)) Β) r|Awj=>AfR ds ε C C|Awk=>Sz 4000 (fj (ε k))|AbP=>by obtain⟨AY,rv,pl,hz⟩:=AvX|AiJ=>KC (Φ (ε=AVB)&& ! EF)|AbQ=>qG K F H H0 s o|Blz=>fun _ _ _ _ _ _ _ _ q=>ĳ|AbR=>by obtain⟨ε,h1,h2,h3⟩:=ζ|AbS=>(ALH ε BO).EL (·.2)=ζ|AbT=>(fun s o=>y s o - x o)|AbU=>∀{α β:CB},_|AiK=>Ub (bJ ns ε)|Awl=>Blm (bV ε (AHx ζ)) ht|AbV=>(fC K F H ts)|AbW=>oE k ε S h|AbX=>(WF C::bm).ABR|AiL=>sp vs H Q E|Awm=>Af2 B2 (Blg B2 ε)|AbY=>∀(w:An)(os:AAv),_|AbZ=>R (ε K a) H1|Aba=>ε GE X.w AG pE eI C m k ps sp|AiM=>(Sum Ψ Μ)|Abb=>⟨W.mg_of X G (AfP ε),ζ⟩|Abd=>kC (tY sF ε)|AiN=>[d5,GB,d6]|Abe=>ε fun _ _ _ _ _ _ _ q=>ζ q|Abf=>by obtain⟨a,_,Β,_⟩:=r;rfl|Abg=>fun vs H Q E=>ε|Bl0=>⟨o,p1,O1 p2 JY ε⟩|Awn=>(seqObj ZN ph 0)|Abh=>AfE QG tg g|Abi=>AfE O9 ifs tc|Abj=>by obtain⟨v,_,Β,⟨l,us,Β,hq,rs⟩,Β⟩:=r1|Abk=>(B3 (i<0) (-i) i)|Abl=>by show EX ε r h1 h2 h|Awo=>gN "Few" ė/\pA K ė|Bl1=>∀o u,ASx b≠Ε ACz|Abm=>W.typeIn K Lv=Ε (RH "function")|Abn=>V ->R_ ->R_ ->Auk|Bl2=>AvM ε RB BGc BGd ζ|AiO=>[kF,Adi,WN,xc]|Abo=>obs K=good w|Bl3=>backTo ε (AS7 E7 BI)|Abp=>(ATo A6 I _).ε|Bl4=>ATq ε TI (BQ i1) (BQ i2)|Abq=>(∃x∈ε,C x) ->Af4 ζ|Abr=>by simp only [ē,Bqz,or_false,not_or]|Abs=>by obtain⟨⟨old,q⟩,st⟩:=q|Bl5=>AMI Aq ε Ch s H|Abt=>Ctx Blh F0 H (D9 Ex)|Awp=>∃F2 A7,AvY/\Afj/\ε|Abu=>(B3 (mO (HE ((jn 3).KF 3)) (HE 1)=Κ) 1 0)|Abv=>by show AUo a1 u1 h1 h0|Abw=>DC [ALV,UB] [ALV,UB] ε|Abx=>∀ds Q E,sp ds Q E ->Blc|Awq=>ds= [qD a,qD b]/\PZ a/\PZ b/\ε|Aby=>(ε/\Afl)\/ (ζ/\Blo (AvS DB H') (∀x H',η i H x H' ->θ))|Abz=>∀(X:Cx) (vs:AV) (H:Hp) (Q:VK),_|Ab0=>ki (fun c AF F1 H1 R1 s1 q=>ε)|Bl6=>∀c o,c≠z ->BB (c≠TO) (c≠i1) (c≠i2) (AUQ c) ε|Bl7=>gZ.look (c:=c) (S:=S) (b:=ε)|Bl8=>ε z E cx Ν s σ H (bv H1 ζ)|Ab1=>by obtain⟨A9,F',x,R',_,xr,_,z1⟩:=z|Awr=>Ĭ cdv A Ch s H E hr F0|Ab2=>hE x C dx F' H' z1 R'.gr Blf|Bl9=>∀{z TI TO i1 i2 l1 l2:Ζ},_|Ab3=>by show AE t t t t t t t t t t t t t t|Ab4=>by show AE hd hd hd hd hd hd hd hd hd hd hd hd hd hd|Ab5=>by show AE r1 r1 r1 r1 r1 r1 r1 r1 r1 r1 r1 r1 r1 r1|Ab6=>(by (first|subst e|exact aaA e|exact aaB e|exact aaD e|exact aaC e|exact aaF e|exact aaE e|exact aaG e|show Ae0|show OC e|show OA e|show NB e|show OB e|cases (e)))|Ab7=>by show fg e' e' e' e' e' e' e' e' e' e' e' e' e' e'|Ab8=>by show fg hS hS hS hS hS hS hS hS hS hS hS hS hS hS|AiP=>by rw[ε] at ha;show AE ha ha ha ha ha ha ha ha ha ha ha ha ha ha|Aws=>BGt ε|AiQ=>ε (· < ·)|AiR=>(Lw e e)|AiS=>by rw[Ff]|AiT=>GY<=ε|AiU=>ε<Atu|Awt=>by simp only [kB] at ε|AiV=>(by rcases ε with (ζ | ⟨o,η⟩) | θ)|Bl_=>by simp only [kK,ε] at ζ
|Bl'=>let ⟨o,ho,r⟩:=ε;⟨o,ζ,r⟩|AiW=>if h:ε then ζ else η|AiX=>EK σ|AiY=>EK AL'|AiZ=>A.frames=Ε ε|Aia=>by ac_rfl|Aib=>by show Ù|Aic=>CF+1|Aid=>(BQ l)|Aie=>(BQ b)|Aif=>(BQ l1)|Aig=>(cV 9)|Aih=>(qv 9)|Aii=>B' a|Aij=>B' b|Aik=>B' w|Ail=>B' Si|Aim=>B' ABv|Ain=>(A3 zu7)|Aio=>ε (show ζ from η)|Aip=>D3 ε AI|Aiq=>(AG7+1)|Air=>.As p|Ais=>.As CF|Ait=>.As A4|Aiu=>st.2.1|Awu=>(UM 10)|Awv=>(E3 ws)|Aww=>JO Ű|Aiv=>MM AN|Aiw=>MM AM|Aix=>i<MG|Aiy=>i<N3|Aiz=>F6 Ζ|Ai0=>F6 (yb D)|Ai1=>CO hv|Awx=>Fk Θ|Ai2=>AKp _ ε|Ai3=>Ε []|Ai4=>Ε (.ε _)|Ai5=>C9 hb|Ai6=>(PR hk)|Ai7=>st.2.2|Ai8=>DD ->AM|Ai9=>R1.gr.h _ _ ε|Ai_=>Bq1 _ _|Ai'=>(GB :Μ)|AjA=>(Co hu)|AjB=>(Co hx)|AjC=>(Co hl)|AjD=>(Co hk)|AjE=>(yY Aru)|AjF=>(yY "Few")|AjG=>CH zcf|AjH=>CH zft|AjI=>CH zo0|AjJ=>V.ref a|AjK=>(hc z)|AjL=>by show Cc ε ζ η Boh θ|AjM=>by rw[ε,ζ];show Ω|AjN=>by simp;show Ω|AjO=>by show BN AcB|AjP=>by show BN (Bn hb ε)|Awy=>LM ASw|AjQ=>MQ AGa|AjR=>MQ "abs"|AjS=>MQ ě|AjT=>EU 2|Awz=>(match ε with | Ε (Ε ζ)=>η | _=>θ)|AjU=>.B_ ds|AjV=>.B_ ys|AjW=>.B_ ANR|AjX=>.ALJ ε ζ AA|AjY=>EG n|AjZ=>EG at_|Aja=>EG Ï|BmA=>(List.of_mem_zip ε).1|Ajb=>CY O.key.length_eq|BmB=>Ads hl|Ajc=>z6 (BH' ε)|Ajd=>MR TH|Aje=>CI ?_|Ajf=>CI AMv|Ajg=>CI (DT nA)|BmC=>L2 setNext|Aw0=>(RH Ard)|Ajh=>.AO a|Aji=>.AO b|Aw1=>.AO ZU|Aw2=>.AO DL|Ajj=>DT q|Ajk=>DT aK|Ajl=>(Hn DO)|Ajm=>EH z14|Aw3=>Μ ->MM Adp|Ajn=>a::b::t|Ajo=>MU AeD|Aw4=>(E6 c3)|Aw5=>(E6 ZU)|Aw6=>by show Ct ε;show Ω|Ajp=>Ada i|Ajq=>Bp0 ?_|Ajr=>OG o|Ajs=>OG ACu|Ajt=>ABr fun ε ζ=>η|Aju=>⟨f,fd,ε,hm,C8,BY (by show P1;exact Β)⟩|Ajv=>Asa=Θ|Ajw=>A.in1.handled=Θ|Ajx=>by unfold ε;show XY|Aw7=>(IB hx)|Ajy=>GI h|Ajz=>hn b hb|Aj0=>hN b hb|Aj1=>AKo Η|Aj2=>AGs<cLine|Aj3=>OH (z8 _ cq)|BmD=>Ads hb|Aw8=>ABq hb|Aj4=>JA<=n|Aj5=>HH AVW|Aj6=>HH AgX|Aj7=>(kr hv)|Aj8=>PY Flow|Aj9=>PY fc|Aj_=>ku hj|Aj'=>b∉js|AkA=>(aV AR)|AkB=>AUD AT|AkC=>RS K2|BmE=>RS o5|Aw9=>RU (z7 h)|AkD=>OP e|AkE=>UT p|AkF=>Pf ACc|Aw_=>Q DB H'|AkG=>CA b q|BmF=>ň ASj|BmG=>ň AGX|Aw'=>(Qq Ξ)|AxA=>(mW Ξ)|AxB=>AHX ZY|AkH=>fw ε Χ|AxC=>AUH ABV ε
|AkI=>by
 show BD ε ζ
 replace η:θ:=ι;refine ν
|AkJ=>Gl X K2|BmH=>Gl X o5|AxD=>zD QP|AkK=>bL hb2|AkL=>(AHb sF)|AkM=>by rw[e] at h;exact h|AkN=>[.ALf ε ζ η]|AkO=>b9 Blq|BmI=>(LJ o4 p)|AkP=>TK g_|AkQ=>(d::ds)|AkR=>(eC .AO)|AkS=>(Blj .AO)|AkT=>e _ _ h1|AkU=>ŋ X.base.get? ε|AkV=>TM (UM ε) ζ|AkW=>.obj C fs ds|AkX=>UF Β|AxE=>hix i hi|AkY=>DC ε [ME] ζ|AkZ=>Bqe l ε|Aka=>by show Ct ε;rw[ζ]|Akb=>Cls K C|Akc=>IP<=1000|Akd=>He<=1000|Ake=>ε (bV (AB' ζ η I h) θ)|Akf=>(DS++c::AgC)|Akg=>ACa (ε _ _ e2)|Akh=>by exact Adl _|Aki=>(.pu ANb)|Akj=>(r6 2)|Akk=>(Â Ì)|Akl=>AuU JU ε|Akm=>(i' p)|Akn=>Ç q|Ako=>ACd s2|Akp=>r_ (.tr as (.ob C fs ts))|BmJ=>È AeS ε|Akq=>fb W.hasDictIn C|Akr=>by intro X hP hw hK hc i Ν s σ H E I hf q hg|Aks=>(ε :Μ)∉fs|Akt=>storeSet a ε ζ|Aku=>AHh (AH0 ε K0) ζ|Akv=>∀(he:RI IQ e es:=by rfl) (EE:ANg es:=by rfl),_|AxF=>fun h' hs' =>ε|Akw=>J.go i H|Akx=>J.stop i H|AxG=>(LJ y np)|Aky=>ś ALJ ε ζ η|Akz=>AMi ALO ε|Ak0=>AuX V|AxH=>(ATo ..)|Ak1=>Ð D1|AxI=>(hx' b u e)|Ak2=>q_ IU h.2|Ak3=>AUY (AH0 ε K0)|Ak4=>ACv ε AZ|Ak5=>fun b hb u e=> ε|Ak6=>AMq Ġ|Ak7=>AMq Sk|AxJ=>(.xd fs)|Ak8=>BG Az (Hn ε)|AxK=>V.ref (rL)|AxL=>AHx Bi|Ak9=>(bS fp Au0)|AxM=>(f j).num|Ak_=>Rd H a PU|Ak'=>D3 Δ G2|AlA=>Hk F' u|AlB=>(2^105*27720)|AlC=>NH (Builtin.Tuple.tupleExact _)|AlD=>ŧ (al d ε ζ)|AlE=>i_ ms rs j|AlF=>(AMy hb)|AlG=>ů aC|AlH=>by unfold ε;show Ø;rfl|AlI=>by unfold ε;rw[ζ,η];grind|AlJ=>iT UV (ε i)|AlK=>(AH_ GB)|AlL=>(ŵ aM)|AlM=>(x,Ata)∈ε|AxN=>DS++Eg|AlN=>by refine ABN ?_|AlO=>by rw[z,ε] at e;show C6|AlP=>(AIC p1)|AlQ=>jI fun w=> ε|AlR=>ADU (mi)|AlS=>ANI (r= BH/\ε)|AlT=>AfT num|AlU=>AfL (AUU Asj) (Aux sb)|AlV=>ADa (XT ε)|AlW=>AUw D|AlX=>AUw V|AlY=>Afa h|AlZ=>B1 - 1 - i|Ala=>⟨fun ε=>ζ,GI η⟩|AxO=>CA q hq0|Alb=>Aur 1|Alc=>AIV H|BmK=>XB ε 3 ME ζ|Ald=>R1.sl i _ e0|Ale=>⟨ε,fun i Γ=>ζ,η,?_,?_⟩|Alf=>oh ks k|Alh=>tu ks k|Ali=>(Afk (b::F_))|Alj=>(Afk BkM)|Alk=>(.AS8 .Or (b::F_) AA)|Alm=>(.AS8 .Or BkM AA)|Aln=>tu ks k=Κ|Alo=>(Cu Ξ x w)|Alp=>(Cu Ξ ę w)|AxP=>Aux hs'|Alq=>ANU AvU|Alr=>AIe 1|Als=>hN b (A1 ε)|Alu=>ANd 3|Alv=>ANe Η|Alw=>aC m f|AxQ=>s.heap.IsCell c v|Alx=>PA X es t|Aly=>PA X IQ t|BmL=>ANi M_|Alz=>ANj e|Al0=>AHj sb.2 ε|Al1=>Afy h.Ns|Al2=>Im JI ec|Al3=>JD w_|Al4=>a∈as|Al5=>1<N0|Al6=>D'<N0|Al7=>AHD*AT8|Al8=>fE*AT8|Al9=>by generalize BE AHD=ε at*|Al_=>ε I1.hok ea|BmM=>(R.unbase g)|Al'=>(EO::vs)|AmA=>(1+ L5)|AmB=>(a::dx::(AId [c]))|AxR=>typeLookup ε ζ =IO η|AmC=>OL cF A5 ε|AmD=>[(f,v)]|AmE=>ALS (zN _)|AmF=>ALS (ATO _)|AxS=>by show EX a vs hq rs r1|AmG=>AVg (Ae6 fv)|AmH=>š te d ε|AmI=>š tv d ε|AmJ=>(AVk AgR)|AmK=>AVl cs|AmL=>(Af_ s3)|AmM=>(AuP GW ε).all (AH2 ζ)|BmN=>(hr.make C us [])|AmN=>pG GE X.w H' h'|AmO=>pG GE X.w H' j_|AmP=>by ·rintro C MD Zp fp Ν s σ H Q I ⟨v8,v9,q⟩;exact ht C MD Zp fp v8 v9 AUa j9 G6 Ν s σ H Q I q|AmQ=>by ·rintro C MD Zp fp Ν s σ H Q I ⟨v8,v9,q⟩;exact he C MD Zp fp v8 v9 AUa j9 G6 Ν s σ H Q I q|AmR=>fun f=>ANS|AmS=>by rw[ε,Adr] at e|AmT=>bO  (ABw fL ε ζ)|AmU=>[AGq,eS]|BmO=>BqM ε (ζ ?_)|AmV=>∀h',ε ->Q Θ Sr|AmW=>jj K SW|AmX=>BE d≠0|AmY=>L4 bc Bl1|AmZ=>by rw[WO,<- hl];exact ε|Ama=>AAx k 0|Amb=>AgB hr
|Amc=>jm f f[i]|BmP=>z6 (pV ?_ ε)|Amd=>Pc l sT
|Ame=>by
 have:ε:=ζ
 rw[Ρ];grind
|Amf=>Ī Lv (.As ε::ζ)|Amg=>(SD AIY AIX)|Amh=>(n,k)::r|Ami=>AgG ε K0|Amj=>by have hl:=lQ rs|Amk=>[kG,xc,ĩ]|Aml=>vD a1 b2|Amm=>⟨x,h1,h2⟩|AxT=>AII (U2 (FA NV ε) q)|Amn=>MS m fun j=> ε|Amo=>(AgO kvs.any)|Amp=>AvI W.mroIn ε Arc|Amq=>AgS h4|Amr=>AgZ ?_|Ams=>Agc h|Amt=>by simp only [WU,hx]|BmQ=>pV ?_ ε|Amu=>(rR AC)|Amv=>BGJ n=Ε ε|AxU=>(N4 ::ps)|BmR=>T_ ε (ABr ζ)|Amw=>OE (b_ l ε) mE|Amx=>(e_ i Nc)|Amy=>(xj ε ζ η).ABW|Amz=>(b*b')|Am0=>(UP A5 AVm)|AxV=>(ts++ [t])|Am1=>(Ξ++ [r])|AxW=>(EQ UE hl)|Am2=>(Avf e)|AxX=>BG0 ε ζ η θ (ι _)|Am3=>XU mO (zev xs)|Am4=>gy KK AfG|Am5=>cy ε mB ACi|Am6=>Zc (t:=t)|AxY=>Ò ds vs|AxZ=>(z6 (z7 ?_))|Am7=>by have:=ε;show Da e;show L9;exact ζ|Am8=>gu (AVq (.As ε)) Β|Am9=>AIZ OI k|Am_=>by have ev:=Hg rk|BmS=>z6 (Adu ε hd ζ ?_)|Am'=>A3 (Ga Β (AgV ε ζ))|Axa=>(AMO AvD [a] p_)|Axb=>(OS AR (cU gC Pi))|AnA=>ų A6 a b|AnB=>Avn (yH b u ε ζ)|AnC=>by by_cases hb:b=a|AnD=>BG (me Vy aB ε  ζ Β) Do|AnE=>⟨F1,AF,P,R1,q,ε⟩|Axc=>AtQ 5=4|AnF=>Wa (yN a2 ε)|AnG=>sz+k* (B3 AVU 1 0)|AnH=>qw qs r v|AnI=>(Ar xs lo hi)|AnJ=>by obtain⟨Ss,F,p⟩:=G.pi|AnK=>Avv H'|AnL=>s1.heap.DictAt AIE a ws ep|AnM=>Avw f|AnN=>∀(AVR) (F H H0:Hp),_|BmT=>Avx cells.lookup|AnO=>l::r::t|Axd=>AGd<1000|AnP=>∀a∈as,ε|AnQ=>x h - AMc|AnR=>k*7 % JA|Axe=>(EH eV.cs S)|AnS=>(İ s3)|AnT=>.ext (GI ε)|AnU=>(q::qs)|AnV=>ce _ ts|AnW=>sQ _ t|AnX=>CA x hx|AnY=>∃m,m<n/\ε|AnZ=>(by show qa 2;decide)|Axf=>by rw[ε] at e1;show AE e1 e1 e1 e1 e1 e1 e1 e1 e1 e1 e1 e1 e1 e1|Ana=>Ar4 x t|Anb=>.pu (Kw bs)|Anc=>∀{α:CB},_|Ane=>bV ε (yi us ζ)|Anf=>ky z08 i i|Ang=>(aV (cC AIU))|Anh=>(Nq qs).BIj|Ani=>(TU x hx)|Axg=>D.rt v H|Axh=>AHu (Ŏ s hs)|Anj=>AMp A6 BH|Axi=>AUg (bi Br3 #[EO]) ε|Ank=>(start N vs)|Anl=>oO xs=Ε ns|Anm=>AHQ Γ P t c A9 ε|Ann=>∀c∈cs,f c=0|Ano=>qQ n m a|Anp=>by show TL Β ε q q|Anq=>AgQ (ε st h)|Anr=>AVj ε [] H' j_|Ans=>by rw[Atc,Atc] at nd|Ant=>(bS as (zw/\RF H0))|Anu=>∀(qs:BC)(bs:Jn),_|Anv=>fun b u q n ε=>ζ|Anw=>ε R2 (ABj s2) p|Axj=>Blt UC|Anx=>∀b ob,Avh ->ACo Se|Anz=>SP JS Ν D f ε|An0=>fun ds Q _=>ε|Axk=>nY K F a vs|An1=>(yW Ξ w ε).ζ|BmU=>(ZO fun o=>(Avy h))|An2=>(.AsZ .Not a AA)|An3=>by obtain⟨a,dx,vs,Β,ea,hl,rs⟩:=rd|An4=>[ADL,ADJ (jg AMz x),ε,ζ,y4,y5]|An5=>by obtain⟨v,us,bs,cs,e1,Β,h1,h2⟩:=h|BmV=>BF' _ ε fun hm=> ?_|An6=>by show DE r hr e F.of S hS|An7=>(Bl3 GW)|An8=>Bl4 A6|BmW=>{nx:=ε,rt:=D.rt,bk:=ζ,ct:=η}|An9=>yF K F0 H0 ε D2 D|An_=>Bl5 A|An'=>cand S n bs k (AVs k)|Axl=>∀(AgU){F0 H0 F H:Hp},_|BmX=>WY I1 ε hc hm (Vn M6) ?_|AoA=>Bl6 (ADQ c)|AoB=>Bl7 b|AoC=>by intro wh Ν s σ H Q I h|AoD=>⟨ε,ζ,η,θ,ADY,fun _ _ _ _ _ _ _ _ _ q=>ĳ,Blz⟩|AoE=>σ ->CU|AoF=>St ->D3 Hp (ε)|BmY=>by rw[typeLookup_type,builtinLookup_eq_fast]|AoG=>bs++cs|AoH=>x.2≠y.2|AoI=>by obtain⟨_,_,e,_⟩:=hS b z|AoJ=>∃f∈fs,ε|AoK=>ElemsOf knd ε|Axm=>(ATB ABV)|AoL=>(U8 ry)|AoM=>AL8 ε (.ob C fs ts)|BmZ=>(As_ Ar2).ε|AoN=>D3 Ψ Ψ|AoO=>İ (s3.trans ε)|AoP=>QD (UF ε) ζ|Bma=>eK b BO|AoQ=>(z9 _ Β)|AoR=>(k - l)|AoS=>(r.2 - l.2)|AoT=>by obtain⟨_,_,_,_,Β,_⟩:=h;rfl|AoU=>by obtain⟨_,_,_,_,_,_,Β,_⟩:=h;rfl|Axn=>s3 _ _ (s2 _ _ e)|AoV=>BG4 _ _ AvB|AoW=>BJ Ξ h
|AoX=>ofM Ξ m|AoY=>D_ E8 tv|AoZ=>ε (RH Arb)=Κ|Axo=>PE X E8 tv|Bmb=>FA (¬(ε)) AcB|Aoa=>.B0 (tY sF hq)|Aob=>(Nv ns).1|Aoc=>.DV (xz hq)|Aod=>De jf AMt|Axp=>(AUA z z)|Axq=>L3 w Bke|Aoe=>X8 rs h2|Aof=>yi f q|Aog=>by show AgW;show AVu;have ε:ζ:=η|Aoh=>A'.perm uq p|Aoi=>AHS s2 ε s2.toks|Aoj=>(AML (qc o m) [])|Aok=>O0 (ε)=AC|Aol=>(Adq nd).2|Aom=>(Nv ns).2|Aon=>We tn t ε|Bmc=>∀x∈a,x∉b|Aoo=>AT_ (Bn f (! ε))++ [g]|Aop=>by show hG t (FA (AC' ε) r);show C6;rfl|Aoq=>(ko F a XG)|Aor=>Φ (DL=h)|Aos=>((kW Ξ w).EL .B0)|Aot=>Qo Ξ x m|Aou=>.AX h r|Aov=>S4 (Cl∈ws)|Axr=>AUH pK update|Aow=>TC AF (.pu (lU ε))|Axs=>(b_ A4 [])|Aox=>zK (Adl _)|Aoy=>WG (Bop _)|Aoz=>nY K H a Avr|Ao0=>AGx _ ε Β|Ao1=>(Ō ((AUy).zip AVQ))|Bmd=>(b∈ABM\/ANX b)|Ao2=>ŏ setsByText zl4|Ao3=>R J H'|Ao4=>ε K F0 H0 t E σ H R|Axt=>⟨ε,Aek ζ,BIr η⟩|Ao5=>by obtain⟨_,_,_,_,o,_,_,e,_⟩:=k;exact FF e|Ao6=>(BrG S ep)|Ao7=>(gb Ξ x)|Ao8=>AdT a A6 ε|Ao9=>A1 (ε (Blp z))|Ao_=>Rep AG F d x|Ao'=>D_ (.AsV ε j AA) ζ|ApA=>D_ (.ALf ε f AA) ζ|Bme=>(MJ K F H Ex E)|Bmf=>AUg ABV UC|Axu=>T.keep _ _ _ ε fun b hb o e=>ζ|ApB=>(yZ _ _ _ ?_)|Axv=>fun i j hi=>ε|ApC=>Jx h1 r1|ApD=>BGJ y=Ε AIQ|Axw=>∃o,ε/\∀v,xD≠ .cell v|ApE=>[HQ,KG,N4]|Axx=>(es.getD p (0,BH)).2|ApF=>AUr z6 Bqv|Axy=>(Ï).oz 12|Axz=>Qp Ξ ws ps|ApG=>U i j hij ε|ApH=>ANL Boi (xI ε).2|Ax0=>fin= .K_ (.ret ε)|Ax1=>qq XE H Θ|ApI=>ji t A6 l xs|ApJ=>Xu (D9 ε) (Fk MY)|ApK=>by subst h;simp [aK]|Ax2=>qq XE H1 Θ|ApL=>∀{Ξ:BU}{ms:OT},_|ApM=>∀(Ξ:BU)(w:Μ),_|Bmg=>Lz K mg BFd Blw|ApN=>by generalize BE kU=y at*|ApO=>by generalize Pe AT8=v at*|ApP=>by generalize Pe fE=u at*|ApQ=>σ ->α ->AM|ApR=>AVY (ADV ε) (fun ζ ES=>η)|Ax3=>OQ cs DD (ε) ζ|ApS=>AVo ε AdA Arx|ApT=>(Be3 GW).all (AH2 (x.1).AGf)|ApU=>qR (AA:=ε) (i:=ζ)|ApV=>by show C5 Β rs Yv ε|ApW=>[Mn,HQ,N4]|Ax4=>AgD i hi|ApX=>(neC b o e hx)|Ax5=>Gr F1 H1 F' H'|Ax6=>sp (.ob C [] []) ds ε ζ|ApY=>iR t1 A6 i1 l1 k1|ApZ=>iR t2 A6 i2 l2 k2|Apa=>by obtain⟨a,vs,h0,h1,h2⟩:=h|Ax7=>ε (fun c ζ hc q=>η) Avs ß|Ax8=>(fun f vs=>PySem.call f vs)|Apb=>EU (sIx n 0 lo)|Apc=>zO (ε _ _) (Bot ζ η)|Ax9=>MV ε p 1 0|Ax_=>z6 (wpAny_typeNameOfWhole_keyiter AT4 AgE)|Apd=>rS k R1 s1|Ape=>∀w,w∈ws↔ε|Apf=>AUb Blr e (ε i ζ)|Apg=>(WW r ta tb)|Aph=>⟨y,H2,I2,ε,q2⟩|Bmh=>Auw J.type (z6 (Auw ε ζ))|Api=>AC_ (AMy ho) u hz2|Ax'=>(.Raise (DJ (ze AM' IQ)) Θ AA)
|Apj=>by
 split
 ·show LP;show Ps IF hp hp
 ·show LP;show Ps NW hp hp
|Apk=>zov ε (ABy z27) AVf|Apl=>ε g tc ζ (qX AG6 FU Γ)|Bmi=>(Va hT hdT q n)|Bmj=>ne c _ z (Lw w Bke)|Bmk=>(Ļ (fun k' y=>(AvH v)) ks vs)|Apm=>h.Ns1 dx mA|AyA=>m9 (ε Β) (Wp Bi ?_)|Apn=>qg AdP y|Apo=>(AsJ b o e n hb hx)|AyB=>((ε).KF 26).eR|Apq=>je xs ys=Κ|Aps=>rB H F' a|AyC=>g ε Γ (Bn A9 ζ) E|Apt=>.ow (Cb (MS k) nm .AO)|Apu=>∀[Ŵ](val:MR κ),_|Apv=>AfE QE elt te|Apw=>by have:=Yl hr (Τ:ε) ζ|Apx=>Vg X F0 H0 tg Nw ti|Bml=>Aul o5 (Sm o5)|AyD=>ADT Se (AU0 Θ (.seq ε ζ) #[])|AyE=>ADW ε (s.heap.UpToSlots h') (Q () Sr)|Apy=>by intro _ h;show GN|AyF=>P (ys++zs)|Apz=>g x σ H' (AU8 (tb (AVA N N) σ2 H2))|Bmm=>∃S' ∈ε,AVL S S'|Ap0=>∀{K:AB}{F:Hp}{d:D}{v:V},_|Ap1=>ε k1 k2 hz hu0|Ap2=>∀as,ε (Ck i ζ) (ı i Avq) j9|Ap3=>GK (X:=(kP z).ļ a)|Ap4=>fun d v F' H' gr rv hp=>ε|Bmn=>AH7 ->∀h∈AVD kW,AgA|Bmo=>HR A9 0 (.pu (.ptr a))/\ε|AyG=>pF Ξ ws m ε j*Avl x|Ap5=>by obtain⟨_,o2,e2,nf⟩:=ε|Ap6=>by rw[hl] at st hx|Ap7=>(U9 Iq eb)|Ap8=>(Rq I5 a)|Bmp=>by (obtain⟨_,_,z,_⟩:=r';show L6)|Ap9=>Bp9 (EH GK I hg hm ?_ hdb)|Ap_=>ε H2 (İ s3)|Ap'=>W.excIn K ε Avz Ari =Κ|AqA=>BX d d' =Κ|AyH=>SR AG F1 H1 ε ζ σ η|AqB=>(ko F' A4 XG)|AqC=>TR K F H t v ε|AqD=>T.obj _ _ ε b hb|AqE=>zkf I S e|AqF=>nsIn K jS x=Ε (DJ Lv)|AqG=>fun x e n=>ε x fun o ho=>e _ o n ho|AqH=>⟨0,0,0,0⟩|AyI=>U_ (Ble k0) Bld|AyJ=>(rq (Sb (e_ i Nc):Key))
|AqI=>by
 refine Bl0 ε;have:ζ:=A1 η
 rw[bL Ρ];exact θ
|AqJ=>VB hA ts vs bs n h|AqK=>ZH f=Ε ⟨oc,od,.func ε,ζ⟩|AqL=>AHt (b∈cs) (H b) (F b)|AqM=>Ū (AgJ x y ε ζ η)|AqN=>by show ū H1 I1 q1|Bmq=>AfR [Ae'] ε Cx Cx|AqO=>(ĭ AH k v)|AqP=>∀(hs:Υ)(x:EZ),_|Bmr=>yH c _ (Bn hc ?_) q|AyK=>Res Ξ r g ps bd ε|AqQ=>by show AUx (L2 .ε) (L2 .ζ) (L2 .η)|AqR=>by show AUx (.ε _ _ k1 hu0) (.ζ _ _ k1 hu0) (.η _ _ k1 hu0)|AqS=>(by first | exact NS Β | exact KW Β | assumption)|AqT=>PD ACx X.A (ATD (BQ it)) (qr s1 ε) E s|Bms=>gu (Adu ho hd (x:= ε)) Β|AqU=>by show AIf (.ε _ _ k2 hu0) (.ζ _ _ k2 hu0) (.η _ _ k2 hu0)|AqV=>ε Ν s σ H _ _ u w Q I rx ry|AyL=>Afz ABm AVZ AVh|AqW=>(Ht ws v bs)|AqX=>(Lk lo n).ε i H|AqY=>(.Compare a [op,op'] [b,c] AA)|AqZ=>by show AgN (AsM b o e n hb hx)|Aqa=>∀{H:Hp}{a b:Ζ},_|Aqb=>μ*AsA Û|Bmt=>∀{AH:Õ}{vs:AgM},_|Aqc=>by show XZ;exact ε a t' b t|Aqd=>dt rs (i' p)
|Bmu=>by
 refine lL ε hod hdd;show BN A0
 refine ζ
|Aqe=>∀{n:Δ}{f:ACy},_|AyM=>(UU v (∃h:Avc,v=es[i].Ap))|Aqf=>M3=BO::ABL|Aqg=>wpAny_handleBy_cons (codeAny_handlers_test (ε ζ)) (by intro q;show L')|Bmv=>∀{t1 t2:AN}(Bl9),_|AyN=>obs (cut A6 n)|Aqh=>(AG5 a).wsh ⟨ε,z.pn⟩|AyO=>(ε (Z' B1 0 lo)).xl (Z' B1 B1 hi - Bls)|Aqi=>Vu Au3 Au3 (P.ne Η Η Η) ?_|Bmw=>∀(q:Δ) w p,Ë ws w ->Ë ps p ->ε|Aqj=>D_ AVc (ε C m sp te t)|Aqk=>by subst r;show AE hS hS hS hS hS hS hS hS hS hS hS hS hS hS;exact zkp I rx ε e h|Aql=>by obtain⟨_,_,_,q⟩:=hs;show sg|Aqm=>by obtain⟨n1,n2,n3⟩:=nd|Aqn=>by obtain⟨b1,b2,b3,b4⟩:=ε|Aqo=>by exact RU (main _ _ Χ Χ)|AyP=>∀{S:c8}{hs:CU},_|Aqp=>ε GE X.w CF ns|Aqq=>.ask i j k|Aqr=>Φ (ε+ ([]:EK Keyword).Zs+ (B3 ([]:EK Keyword).isEmpty 0 1)<ζ)|Aqs=>(B3 (r=nG) 2 1)|Aqt=>Gr F0 H0 F H|Bmx=>⟨_,Blu ho hd,(Bqa ..).EC hc,ε⟩|Aqu=>∃d:Ψ,d≠0/\dh d<=ε/\ζ|Aqv=>by obtain⟨z,AY,n,r,e⟩:=ε|Aqw=>∀AH,u≠ .dK AH|Aqx=>by show AUo a2 u2 h2 h1|Bmy=>∀{m n:Δ}{a b:AM},_|Aqy=>[ATE,kF,WN,xc,Adi]|Aqz=>ay (.For tg ε MC [] AA) (ζ η g tb)|Aq0=>by show DE v h1 h2 wv r hr|Bmz=>(zQ _ (ziw hb e))|Aq1=>by show Ee hb eb nH b u eb|Aq2=>Fm (∃ns:B6,ds= bE ACc/\ANo/\ε)|Aq3=>∀{ks:ε} {xs:AU} {vs:AV},ζ|Aq4=>[eS,Nl,"lefts",Ast,"numbers"]|AyQ=>lx l CU P gc (AUl ε) (P (ζ η)) (AVt E_)|Aq5=>[ANa,Avd,Ave,EG way,EG ABO,Pf (nms.map .AO),Pf (Nz.map .AO),.ow (AdQ uG),ε,ζ,x10,EI]|Aq6=>(match k with | Ů=>x | .DV _=>Nc)
|Aq7=>∀(PF:à:=by rfl)
 (he2:RI [.Call AfD [] [] GW] AgP []:=by rfl),_
|Aq8=>[z,TI,TO,i1,i2]|AyR=>["_law_way","_law_w","_law_h",Asn,ABU]|Aq9=>(ky qR i j Sg hv2 hd2 Ec)|Aq_=>by show TL ws kv hd (zor I hq R9);have hl:=AT2|Aq'=>fun d A7 F2 H2 v R2 s2 r p=>(Av2 r p)|Bm0=>zgs e1 ε hob hobc (ζ BHS) ?_|Bm1=>Steps B9 w A I S ε ep o|ArA=>∀{xs:AV} {us:Au} (ε:Δ),mI ->ζ
|ArB=>by
 have e:dv i j= ε:=ζ
 exact⟨BkW,BkW,AgI,NN e h⟩
|ArC=>Av4 ⟨F4,Γ4,R4,İ (s3.trans s4),q⟩|ArD=>∀(t1 t2:AN)(h:AQ)(l1 l2:Ζ),_|Bm2=>fun b ob eb=>wA b ob (ε b ob eb)|ArE=>by exact AG1 ts vs bs h a ha|AyS=>[N4,SZ,d5,d6,AGX,pd]|ArF=>[xh,"head",kF,Adi,WN,xc]|AyT=>z.sameBut hs (cne y c e)|ArG=>by have h1:=Qh a;have h2:=Qh b|ArH=>∀{ds:AU} {vs:AV} (ε:Δ),MZ ->NE ζ η|AyU=>ε K C f sp vs H Q E|ArI=>ha z E cx AA Ν s σ H (fun vs H1=>∃F1 AF ds,AU'/\Ţ/\Avo/\ε) I (Ä (BlY ds))|AyV=>((UX (match xs[j]?,ys[j]? with | Ε a,Af1=>mO a b | _,_=>AC)))|ArJ=>by obtain⟨q1,q2,⟨u,v,q3⟩,q4,q5⟩:=q|Bm3=>∀(P:A2) (w:An) (K:AB) (mg:ER),_|ArK=>fun l h' is e hle a1 a2 ε wA=> ?_|ArL=>by have:=PV Zi rs rs cs ε ks ks ss rs (r:=ζ) fun s hs=>hs|ArM=>∀{st:AT}{f:Ζ}{fd:FS}{N ps:Υ},_|ArN=>∀(X:Cx),BB (GE=P) (X.w=w) (AG=K) ε (∀(i:Δ) (Ν:dX) (s:AD) (σ:St) (H:Hp) (E:dO),ζ)|AyW=>∀(P:A2) (w:An) (K:AB) (mg:ER) (DI:AQ),_|ArO=>by rintro Ν s σ H Q I ⟨F,Γ,P,R,q,k⟩|ArP=>by rintro A4 C H' s5 I5 q5 ⟨m,hn⟩ c1 c2 c3 c4 c5 c6|ArQ=>by show AE rv rv rv rv rv rv rv rv rv rv rv rv rv rv|ArR=>by show AE e3 e3 e3 e3 e3 e3 e3 e3 e3 e3 e3 e3 e3 e3|ArS=>by show AE rr rr rr rr rr rr rr rr rr rr rr rr rr rr|ArT=>by show LO q1 h1 h1 h1 h1 h1 h1 h1 h1 h1 h1 h1 h1 h1 h1 h1|ArU=>by ·rintro C MD Zp fp Ν s σ H v u Q I r ⟨v8,v9,q⟩;exact hg C MD Zp fp v8 v9 AUa j9 G6 Ν s σ H v u Q I r q|AyX=>ğ ε|AyY=>BIe ε|AyZ=>(Kz L (ε w hw)).1|Aya=>if ε then Ε ζ else η|Ayb=>by rw[ε,Adr,ζ]|Ayc=>by rw[ε,ζ,η,θ,MH,ι]|Ayd=>by rw[Ff] at ε|Aye=>D1<=ε|Ayf=>ε<=BFZ|Ayg=>by obtain⟨_,_,_,_,e⟩:=ε|Ayh=>by obtain⟨_,_,_,e⟩:=ε|Ayi=>by obtain⟨_,_,_,e,_⟩:=ε|Ayj=>by obtain⟨_,⟨_,_,_,e,_⟩,_⟩:=ε|Ayk=>(by rcases ε with ζ | ⟨η,h2⟩)|Ayl=>by simp only [C4] at ε|Aym=>by simp only [kK,ε,ζ] at η|Ayn=>by rw[ε,Fh,ζ] at η|Ayo=>by rw[<- ε,ζ,AL4] at η|Ayp=>AtZ ε|Ayq=>EK Obj|Ayr=>EK _2.Key|Ays=>by obtain⟨_,_,_,ε⟩:=ζ;exact η|Ayt=>by injection ε|Ayu=>(by grind)|Ayv=>(by injection z)|Ayw=>[Z_]|Ayx=>[ALX]|Ayy=>["sign"]|Ayz=>(BQ sl)|Ay0=>(BQ C')|Ay1=>B' AIJ|Ay2=>Aev _ ε|Ay3=>(Aer Β)|Ay4=>QQ h|Ay5=>ALz h|Ay6=>ATm h|Ay7=>(D9 Κ)|Ay8=>(D9 RG)|Ay9=>Φ AH7|Ay_=>Φ AIF|Ay'=>Lu AV'|AzA=>(E3 ys)|AzB=>(E3 ATN)|AzC=>i<AsI|AzD=>i<BI6|AzE=>i<HZ|AzF=>F6 AQ|AzG=>Cb ef ε|AzH=>yT AN3|AzI=>D6 its.size|AzJ=>D6 Si|AzK=>D6 ATL|AzL=>D6 FE|AzM=>D6 rest.length|AzN=>(hm.push _)|AzO=>by subst r;rfl|AzP=>(PR h1)|AzQ=>A1 Avb|AzR=>Bpj _|AzS=>F7 Se ε|AzT=>AuI _ _|AzU=>W.handedIn ε=Κ|AzV=>CH zfo|AzW=>CH z0t|AzX=>CH zet|AzY=>CH zcs|AzZ=>CH zji|Aza=>CH zh4|Azb=>CH zm7|Azc=>CH zmn|Azd=>.none_bool _|Aze=>.bool_none _|Azf=>by show BN Η;show Ω|Azg=>MQ ZN|Azh=>MQ "all"|Azi=>MQ "any"|Azj=>MQ Mo|Azk=>MQ AK4|Azl=>EU D'|Azm=>.B_ BmU|Azn=>.B0 ADe|Azo=>.B0 (FM (ε hb))|Azp=>show ε by simp [ζ]|Azq=>show ε by show fF|Azr=>(Gc hk)|Azs=>(Gc hy)|Azt=>z6 (ATA ε)|Azu=>j<M'|Azv=>.AO p.2|Azw=>MS IP|Azx=>(Hn HK)|Azy=>FM ADi|Azz=>CL C4 ε|Az0=>(E6 hy)|Az1=>(by unfold Nt;show Ω)|Az2=>by rw[C4]|Az3=>ł R_|Az4=>.bl Κ|Az5=>by rw[AL3] at h|Az6=>L.hS b hb|Az7=>(zW _ hx)|Az8=>ğ Η|Az9=>ALz Η|Az_=>k<JA|Az'=>k<IP|A0G=>b∈js|A0H=>⟨o,ε,O.ex.1⟩|A0I=>UR (B' (-1)) ε|A0J=>MG<=i|A0K=>G0 UD ε|A0L=>.AX _ _
|A0M=>.none_int _ _|A0N=>.none_str _ _|A0O=>.bool_bool _ _|A0P=>.int_none _ _|A0Q=>.str_none _ _|A0R=>AK7 q|A0S=>PY AN|A0T=>PY Result|A0U=>(AcH .JE)|A0V=>(aV LT)|Bm4=>by have:=ε;simpa using this.symm|A0W=>Cls AG C|A0X=>mL AG C|A0Y=>AMN rV|A0Z=>AHV BmT|A0a=>(kN .B0)|A0b=>(AK2 .B0)|A0c=>k8 ATA|A0d=>k8 Bqu|A0e=>(Awb qD)|A0f=>(k_ By)|A0g=>(hf b hb)|A0h=>S4 Bmn|A0i=>(z8 _ e1)|A0j=>AHa ε (JP s' ζ)|A0k=>ε ζ a QP|A0l=>.ow (MS ε fun j=>ζ)|A0m=>f_ ε Rat.not_lt.mpr ζ|A0n=>(E_ .AL)|A0o=>i<=N3|A0p=>TK Ñ|A0q=>fun z E cx=>O8 (ε ζ) η|A0r=>Lw q ĳ|A0s=>zS zvs|A0t=>DC ε [SZ] ζ|A0u=>zx.up Χ|A0v=>SG (kf e.2)|A0w=>BHL j ε|A0x=>qC x=Κ|A0y=>T8 x=Κ|A0z=>U' Adz ε|A0_=>(gf old)|A0'=>(Ō fs)|A1G=>(re hne)|A1H=>(DS++Agr)|A1I=>(DS++d::ACl)|A1J=>P [.AL e]|A1K=>cr VQ|A1L=>cr YI|A1M=>by exact Adg _|A1N=>(EO::us)|A1O=>AL6 hi|A1P=>(k7).Sc|A1Q=>(ACe).Sc|A1R=>by show Æ AHC|A1S=>(topStub p)|A1T=>È Fh ε|A1U=>È MH ε|A1V=>by show FB (AuR ov) rx|A1W=>X0 B1 ε|A1X=>Ĥ ABd|A1Y=>AGh t|A1Z=>rows.drop t|A1a=>Ř W.plainOver ε|A1b=>Ř W.makesIn ε|Bm7=>tn i j_|A1c=>(LJ y yp)|A1d=>FL σ Ì|A1e=>AHo AY|A1f=>l' Κ|A1g=>AUU ALe|A1h=>AHB<64|A1i=>(frs Ch)|A1j=>BGV ε ζ Β|A1k=>splitId ε =Ε (ζ,η)|A1l=>[HQ,AGq]
|A1m=>(by
 rcases ε with ζ | η
 ·exact θ
 ·exact ι)
|Bm8=>(ş pe)|A1n=>bw (IR ε) (bw (IR ζ) fH)|A1o=>a≠WH|A1p=>AMq B1|A1q=>ε D1 a|A1r=>.seq AY n|A1s=>ATe h'|A1t=>AS4 hj|Bm9=>(g.unbase gr)|A1u=>D3 D G2|A1v=>(200*27720)|A1w=>q<N0|A1x=>q<Ll|A1y=>by rw[WO,<- hl]|A1z=>by have hl:=Sf|A1_=>ŭ M_|A1'=>(yz a Ê)|A2G=>(dr fun r=>AWG)|A2H=>KV AH ws|A2I=>ATj s1|Bm_=>AsF y=Ε ε|A2J=>(e - AgL)|A2K=>Lw h h|A2L=>AKw fun w=>ε|A2M=>UY AVe*f j|A2N=>Rc .obj|A2O=>Rc .bool_str|A2P=>Rc .str_bool|A2Q=>(vX F H)|A2R=>Int.lt_or_le 0 ε|A2S=>qE Key AI|A2T=>AIT (.frz o (jd a C))|A2U=>ADj D5|A2V=>e_ j 0|A2W=>.AL i t|A2X=>(AU7 HK)|A2Y=>(AU7 Ź)|A2Z=>gS ε ATO _|A2a=>Afm AWR|A2b=>US fU So LN f fd ps (ε K sp)|A2c=>ABi s2|A2d=>∀(ha:iF a tA),_|A2e=>∀(ha:PT X a tA),_|A2f=>by show Agd ε;rfl|Bm'=>by rw[Fh,ε,ζ];rfl|A2g=>F7 KK o|A2h=>(LL aR aR)|A2i=>by subst e;exact⟨ε,Β,ζ⟩|A2j=>h'.IsCell c v|A2k=>ANh o5 ε|A2l=>gE (MV b a (Ε ε) ζ)|A2m=>ANl ADq|A2n=>(Au4 ⟨NI::us,kw⟩)|A2o=>Au6 aI|A2p=>Au6 ALp|A2q=>Au6 Aeq|BnA=>Afy base.Ns|A2r=>∀{α:CB}(f:AIm),_|A2s=>seqIndex_neg Η ε|A2t=>o=Ε EV|A2u=>⟨Ŋ,z.pn⟩|A2v=>((k,x)::r)|A2w=>WZ g f|A2x=>WZ g f1|A2y=>by rw[ε] at e;exact BIu e|A2z=>.B_ (x6 ε)|A2_=>(a::dx::bs)|A2'=>OG (Ō (Į vs))|A3G=>(ANv AvB)|A3H=>ABg (ı i ε)|A3I=>AN4 Av0|A3J=>AN5 K2 ε|BnB=>AVb ABn ε|A3K=>(AN8 AV7)|A3L=>AVp ZN|A3M=>AOL A.ok|BnC=>(aK K F ds F_)|A3N=>R1.g.trans sH|A3O=>xD= .ABJ es ep|A3P=>Ad'=Ε dx|A3Q=>[kF,eS]|A3R=>BFx _ Χ|A3S=>Int.fdiv_eq_ediv_of_nonneg _ Χ|A3T=>jj K P_|BnD=>(AV2 a.den_pos)|A3U=>by rw[C4,<- hl];exact ε|A3V=>Q4 k 0|A3W=>⟨o,e,AvZ⟩|A3X=>G0 (bL ne) gQ|A3Y=>G0 (Ŭ bL n2) gQ|A3Z=>Pc p sT|A3a=>AeB (Co h)|A3b=>ŋ KK ACi|A3c=>ŋ M_ ACi|A3d=>k b o hc e|A3e=>ASy b o e n|A3f=>by show YA i N3|A3g=>tY JI hq|A3h=>[kG,ALZ,ĩ]|A3i=>vD a2 b2|A3j=>AWI ws.Pairwise|A3k=>ε=O0 (a=b)|A3l=>(AvT dx)|A3m=>iR t1 ε i1 l1 (k1+1)|A3n=>iR t2 ε i2 l2 (k2+1)|A3o=>AvI W.mroIn ε Arb|A3p=>AWT (.j7 ks ε)|A3q=>(N*M)^w8|A3r=>KO Gn|A3s=>u=T1|BnE=>BIJ= #[]|A3t=>(Lw q ĳ)|A3u=>(Lw q AMs)|A3v=>fun hz=>(Ag0 ε)|A3w=>by rw[xt,Ad0]|A3x=>by rw[xt,WU]|A3y=>(.dK [])|A3z=>[KG,GB]|A3_=>[KG,Adn]|A3'=>F' A4=Θ|A4G=>ε r (AsR ζ)|A4H=>Lw z z|A4I=>OF xs q|A4J=>NM A4 H'|A4K=>∀r∈rs,AWU r|A4L=>bP q ⟨o,ε,Β⟩|A4M=>ACR g f|A4N=>(OS AZ AR)|A4O=>TM Pi (ű (sC ε ζ))|A4P=>(k,x)::r|A4Q=>hV (jn ε) 3|A4R=>(h2 a h).2|A4S=>(hn a h).2|A4T=>(Agp Β)|A4U=>by obtain⟨AY,r',pl,hz⟩:=QQ hq|A4V=>by obtain⟨AY,r',pl,hz⟩:=kC hq|A4W=>.none_tuple k2 hu0|A4X=>.none_list k2 hu0|A4Y=>.tuple_none k1 hu0|A4Z=>.list_none k1 hu0|A4a=>.bool_tuple _ k2 hu0|A4b=>.bool_list _ k2 hu0|A4c=>.tuple_bool _ k1 hu0|A4d=>.list_bool _ k1 hu0|A4e=>Avk Aei|A4f=>r j*UY cs|A4g=>(je xs ys)|A4h=>(nC xs ys)|A4i=>(j8 F0 F)|A4j=>by have h1:=G4 AHD AT8|A4k=>by have h1:=G4 fE AT8|A4l=>lc ε ds (ζ*UY (j::ds)) cs|A4m=>ADt f tq (f j*UY cs)|BnF=>(Ar3 a:Key)=ε b|BnG=>(Sb a:Key)=ε b|A4n=>.tuple_list k1 k2 hu0|A4o=>.list_tuple k1 k2 hu0|A4p=>∀(AhE)(h:AIu),_|A4q=>(AT3 ALi Af9 ds)|A4r=>AhJ (ε DB H')|A4s=>ki (fun t AF F1 H1 v as R1 s1 nd hn r1 h1=>ε)|A4t=>Av3 ε AGk|A4u=>by show a_ DB H' I q;exact⟨DB,H',Ve I,q⟩|A4v=>by show a_ DB H' I q;exact⟨DB,H',XJ ok I,q⟩
|A4w=>W.KasT α|A4x=>T A6|A4y=>sc.kind= AMm|A4z=>Ζ ->aH|A4_=>EA×Ζ×AI|A4'=>by show Av9 BJG|A5G=>BGD eI ε|A5H=>(.dT [])|A5I=>(AGe ε).all|A5J=>[xh,BGg]|A5K=>(as++cs)|A5L=>LG H H1|A5M=>(pv i 0)|A5N=>De uo ns|BnH=>z6 (z7 (z6 (z6 ε)))|A5O=>by intro Ν s σ H Q I hw|A5P=>BFV fun r=>ε|A5Q=>.dik ks xs|BnI=>NN Sf z|A5R=>((CS).EL .B0)|A5S=>k9 _ Β ε|A5T=>(bS bs (OSz 4000 b))|A5U=>bI AG C C1|A5V=>gy H' AVn|A5W=>by show Cb ε ζ _=_;rw[η];rfl|A5X=>AHj far Bmi|A5Y=>US fU So ε f fd ζ (sY K (η c))|BnJ=>by show AIS C4 AHC|A5Z=>aC Ξ (cK (ε*t6))|A5a=>toD (E3 (ε .JE))|A5b=>.j7 _ ts|A5c=>ANm Iq e|A5d=>by by_cases hi:i<N3|A5e=>d7 HZ (UX ε)=ζ|A5f=>(hg x).mpr (Gc ε)|A5g=>mX fun h _=>Tk|A5h=>Sl Ó (DJ ε) (Ε ζ)|A5i=>(AwT vs)|A5j=>by show C5 h1 h2 ASt ε|A5k=>Yz (d:=ε) hix|A5l=>AMX _ t ds ε|A5m=>nY AG H a xs|A5n=>(S0 w os)|A5o=>(kP z).Ok|A5p=>(cB g ta tb)|A5q=>nY K H p xs|A5r=>Gr F ADv F' H'|A5s=>GM Ξ r (AIy*ε) ζ|A5t=>Awe AOO|A5u=>(∀p∈ps,Kr 300 p)|A5v=>(AeA i (.tr ACe t'))|A5w=>Awj (Ÿ (FX d))|A5x=>qg (aY st) N4|A5y=>by have hb:ε:=BGk h;show AgT ζ|A5z=>lc d es (s d*h es) ε|A5_=>Adv (D5:=AgF) ε ζ (Afp η θ ι ν)|A5'=>Bl2 ε (A3 (aA ζ aN))|A6G=>Cn hr|A6H=>FE=Sk|A6I=>(z.1).jp|A6J=>by have E9:=BG8|A6K=>by obtain⟨ks,_,e⟩:=ε|A6L=>by show Bl_ ABk ε|A6M=>Xy (sE lj By ε ON) ζ|A6N=>(ABZ kV)|A6O=>(ATR lU)|A6P=>⟨h1,h2⟩|A6Q=>⟨hstop Β,ε⟩|A6R=>[Mn,N4]|A6S=>by rw[ALz hi']|A6T=>∀(K:AB)(ta:TA),_|A6U=>Q (.AL ε Mm) AWL|A6V=>JH K c.fM|BnK=>Cb UH vs|A6W=>(vs++ws)|BnL=>xs.all qC=Κ|A6X=>Pe ABv≠0|A6Y=>BG9 (eL ε ζ η)|A6Z=>by show FB (AuR v) r1|A6a=>DM Β Β|A6b=>Cj.there b o eb ε|A6c=>NE es us|A6d=>(ws++ [w])|A6e=>BJJ fun e=>ε|A6f=>ae SR F H ε (ō ζ)|A6g=>by have:=ha.2;have:=hb.2;show Ω|A6h=>DC ε [LZ,pd] ζ|A6i=>∀j,f j=a j+g j|A6j=>XL r AvW|BnM=>ATJ (AKq _)|A6k=>lf QF tf|A6l=>Iq p _ hk|A6m=>BmJ (ku hi')|A6n=>xL e s'|A6o=>by show c∈_;simp|A6p=>(∀p∈IJ,AvW)|A6q=>AH1 ATv AwQ|A6r=>(AMx (sv/\â))|A6s=>(qK t i)|A6t=>(List.range' ε n).EL|A6u=>.AO x _|A6v=>Sl Ó ε (DJ ζ)|A6w=>yc B1 ε=Ε j|BnN=>AM6 AAz ks ys|A6x=>lt i j=Κ|A6y=>AIo (us++ [])|A6z=>dy (oV qs)|A6_=>⟨ns,Β,hn,ε⟩|A6'=>Af5 dx a|A7G=>wu lt is|A7H=>AdT ε A6 h'|A7I=>BmP Blb|A7J=>BmQ Blb|A7K=>BmR ħ ε|A7L=>by show Rl (zkb rs hns)|A7M=>(gU ks xs k d)|A7N=>GM Ξ r (x DL) 0|A7O=>(JG GE X.w q ns)|A7P=>AhH hs tt|A7Q=>(brs AVN bd)|A7R=>.ob _ _ ts|A7S=>Qi (VG a b) ?_ ?_|A7T=>(k a zY).o|A7U=>rC S x h|A7V=>iG ks ε k=Ε d|A7W=>Awa (Awq (mh ε))|A7X=>by obtain⟨t,ht,hq⟩:=Awr|A7Y=>DK A6 x dx C mA|A7Z=>BmX (JI _ _ ea)|A7a=>Awf (AvR ε)=Ε _|A7b=>BmZ cps.toList|A7c=>by show FB (os' =s.os) hm.os|A7d=>ś AsV ε j (tC ζ)|A7e=>W.InstAt h x o C ε|A7f=>(zH1 t1 ε l1).ģ|BnO=>.DV ⟨_,kk,Im ABh ec,Β,ε⟩|A7g=>⟨F2,į s3,ATj s2⟩|A7h=>k _ _ _ _ _ ε ζ IU|A7i=>by obtain⟨o,AH,e1,e2⟩:=ADk|A7j=>ε t es (Atv k) x|A7k=>Bmq (cK (FX r))|A7l=>∀i,i∈ms↔i∈ε|A7m=>(zL Χ (pw 4000 Χ))|A7n=>by obtain⟨o,e1,a,vs,Β,h1,h2,h3,r⟩:=AN9|A7o=>.B0 ⟨ε,Au1,fun DB H' p' =>⟨ζ,Τ,Β,A8,p'⟩,AhD⟩|A7p=>Bm1 FE|A7q=>(Bm2 PP)|A7r=>fun z E cx Ν s σ H Q I hq=>ε|BnP=>ANr C (BHP nm qn C N bs bm PH sn CC ab col dd k0 k1 k2 k3 k5 ε)|A7s=>_Hd.cB pg
|A7t=>ALD hiσ|A7u=>ATe j_|BnQ=>(Ņ,Ag7 AN1)|A7v=>AHp/\AwE|A7w=>AUR AK_\/ε|A7x=>by have RZ:=AT2|A7y=>AAs<60|A7z=>by rw[AtC,kK] at ε|BnR=>by simp only [ε,AeR,ALl]|A7_=>by wp_walk using BmB,BmD|A7'=>GY % 2|A8G=>by dsimp only at e1 e2|A8H=>seqIndex_of h0 ε|A8I=>(zo6 ru)|A8J=>(newList [])|A8K=>zyk (ADc (AMd ε))|A8L=>(AL9 S6)|A8M=>(i' (p+1))|A8N=>A.handled=Ε EV|A8O=>l.most=Ε n|A8P=>env.frame=Ε L|A8Q=>(by (repeat (any_goals (first | assumption | wp_step))))|A8R=>⟨vw,hd⟩|A8S=>⟨ε,(mT).at (ţ ζ)⟩|A8T=>[UB,xh]|A8U=>[kG,LZ]|A8V=>["count",kD]|A8W=>(p::ANw)|A8X=>(A4::as)|A8Y=>IM ε (ATv ζ)|A8Z=>∀H1,fR H1 ->ε|A8a=>CA h hh|A8b=>by show AhG;show Ag6;refine ε|A8c=>FL ds d|A8d=>(xs++ys)|A8e=>Sz 1000 x|A8f=>D_ ke tk|A8g=>W.notCls o=Κ|BnS=>W.specialIn K ε ζ =Ε (DJ (Sm η))|BnT=>AUB ACx (ALO (BQ it))|A8h=>aD K SW d4|A8i=>operate ε (ATK ζ η)|A8j=>by show FB (d' =ε) hm.drawn|A8k=>by rw[Ue,Aro];exact ε|BnU=>AML (qc ε K0) ζ|A8l=>(ATo _ I _)|BnV=>z6 (Atl ε A0 ζ)|A8m=>OH (Ú (AVO ε) (AVO ζ) e)|A8n=>(mC.mp hr).2|A8o=>.pu (rD S)|A8p=>Zl Β h|A8q=>KS (Ī (RH ε) ζ)|A8r=>(AB' h _ I hw)|BnW=>(by rw[isSubtype_type];kernel_rfl)|A8s=>(zW a hb)|A8t=>Rs [] (F8 ε)|A8u=>ACR k Ata|A8v=>S4 (wM Ξ x' DL)|A8w=>fw Β z|A8x=>R2.sl i _ e2|A8y=>(bv _ (v= .bl Κ))|A8z=>PS X st t|BnX=>min v.toNat n|A8_=>∀(x:ĕ (ĕ AI)),_|A8'=>(SD AN6 tT)|A9G=>DC AM_ [N4] ε|A9H=>(iC g t)|A9I=>Iq dx _ ed|A9J=>AWS\/ε≠Θ|A9K=>(zt AHg lT)|A9L=>back JY ε ?_|A9M=>(w9 j WV)|BnY=>by rw[List.contains_cons,ε,Bool.or_true]|A9N=>by show GN;subst r;rfl|A9O=>(y,k)::r|A9P=>(rC S x)|A9Q=>(.tr k7 tt)|BnZ=>(sK (k a ha).2)|A9R=>c_ (by(cases (hr)))|A9S=>AUS ε (Ox (AV9 ζ))|A9T=>AvR ε=CF+ζ|A9U=>(old b o eb)|Bna=>(ha Ν s1 σ H1 _ I1 q)|A9V=>fs.Pairwise (qf b Bmc)|Bnb=>At j s' q|A9W=>AHt XE Θ ε|A9X=>mo (BlY d)|A9Y=>QI X F0 H0 AhL ε ζ|A9Z=>{s with drawn:=d}|A9a=>Ws (H x)|A9b=>ε (AtV kM ?_)|A9c=>[LZ,xc,ĩ]|A9d=>["start",kG,ĩ]
|A9e=>by
 by_cases q:ε
 ·show Ô ζ hp hp
 ·show Ô η hp hp
|A9f=>by obtain⟨AY,rv,pl,hz⟩:=I1.list hq|A9g=>AU ->Ŀ (ε) XV|A9h=>vD b1 a2|A9i=>AM2 (AwY ts)|A9j=>ID (! ε) _ _|A9k=>fun i h1 h2=>ε|A9l=>AHP Jl 3 (BG Ag8 ε)|A9m=>∀(n:Δ)(f:z0),_|Bnc=>AS6 B9 w|A9n=>H' A4=Ε XG|A9o=>Cn ((h ε).mp ζ)|A9p=>(B3 neg ŷ .In)|A9q=>∃a AH,Mb/\ε/\ ζ|A9r=>fun σ H R=>te σ H (Ń v ε)|A9s=>Afi (FA (b∈ ([]:B5)) ε)|A9t=>lL (seqEpoch_at (n:=ea)) ε Β|A9u=>GM s h (ε* ç) ζ|A9v=>(gS z yS _)|Bnd=>ATB (bi ε #[EO])|A9w=>by obtain⟨t,hx⟩:=zS Vt|A9x=>∀(Ξ:BU)(ws:Υ),_|A9y=>AIq (GM l a ε ζ)|A9z=>Biq g1 g3|A9_=>∀(Ν:dX) (s:AD) (σ:St) (H:Hp) (Q:ε),AW ->ä ->ζ|A9'=>fun ys hy=>(CL (ε hy hq) hx)|A_A=>∀s',Afd ->Q (Á ε) s'|A_B=>∀(h:AQ)(H:Hp),_|A_C=>ANy Afr Mn ε|A_D=>⟨_,_,_,Β⟩|A_E=>sD 2 ε By A5|A_F=>br (¬bc) H1 H|A_G=>(z8 _ (z9 _ Β))|A_H=>Lx K F Hx ε ds|A_I=>AHQ Γ P ta d A9 ε|A_J=>(∀k,Awk Ars)|A_K=>fun D σ H=>ε|A_L=>AdT ε h1 h2|A_M=>by refine ε;rw[he2];refine Asy ?_|A_N=>ε (ofM Ξ m)|A_O=>[UB,HQ,Nl]|A_P=>tb A9 P E|A_Q=>(hi - lo).eR|A_R=>AV6 (yY ε) Nc|A_S=>nA n d d'|A_T=>by unfold d7;rw[ih];grind|A_U=>ne b _ q AIs|A_V=>no b _ q AIr|A_W=>k b o (FG (hc (IB z))) e|A_X=>AWJ (Bmm Ma)|A_Y=>Adu hos hds (x:=ε)|A_Z=>by obtain⟨o,e,c,d⟩:=st;exact⟨o,e,AvZ⟩|A_a=>AWO (AOI st.at (Agy e))|A_b=>Agb (nA n x y)|A_c=>As8 vl lo|A_d=>As8 vu hi|Bne=>newExc Av' []|Bnf=>(pw 4000 Χ)|A_e=>n.fmod 3=1|A_f=>fun b ob q _=>ε|Bng=>NF 4 (BG yd (Ŗ DQ ε ζ))|A_g=>by show GT c q1 q1|A_h=>Agm ε ζ AZ AR|A_j=>Avi AdA Arx|A_l=>∀{Ξ:G1}{ws:CU},_|A_m=>NH (AtD _) (BqC ε ?_)|A_o=>ϋ t' EV ACe|A_p=>WG (VG a b)|A_q=>(hm b _ q (A1 z))|A_r=>lc c ds (ε*UY ds) cs|A_s=>pJ Γ σ j a|A_t=>∀w' s',Afd ->ε ->Q w' s'|A_u=>(B3 (b=a) (Ε w) (qq ANP H (F b)))=Ε u|A_v=>(B3 (b=a) (Ε ANf) (AwM ANP))=Ε u|A_w=>AhO Q Q|Bnh=>ki (fun t AF F1 H1 v as R1 s1 nd hn r h1=> ?_)|A_x=>(σ[j]?).join|A_y=>bt.lead (N:=16)|A_z=>(a.free c ob q n hx)|A_0=>B' (De xp HE)|A_3=>Cn (BGF b ε)|A_4=>(.AGn elts x1 AA)|Bni=>E AF (.pay C [fl] [tr])|A_5=>AHt ADP (H1 b) (F1 b)|A_6=>(Ao h H).IN|A_7=>AwH aC (ε (l:=l))|A_8=>(setAttr l_ D5 v)|A_9=>e=x\/Af5 e x|Bnj=>(kS hl1 AL1 D.l1z)|A__=>ANp (Fk (Q BS)) Q|A_'=>∀{hs:Υ}{h:Μ},_|A'A=>Gr F' H' F5 H5|A'B=>AwR (dh (tb i j)<=ε)|A'C=>⟨v,H,I,r,h⟩|A'D=>Blx p (Z3 p)|A'E=>(Bly EV a)|A'F=>Awm (fun ds AF F1 H1 vs R1 s1 r1 h1=>ε)|A'G=>fD GE X.w M3 H s ε e s'|A'H=>∀k v,AgK ->kf v=k|A'I=>fun w hw q=>ε|A'J=>fun r hr j=>ε|A'K=>Bl' x (ε o ho)|A'L=>(AG5 b0).wsh|A'M=>(ABm AVr).ģ|A'N=>AwI (AU0 ε (.seq No n) ζ)/\NC M_ η/\AwV θ ι|A'O=>fun t' d=>∀cs,P d ε|A'P=>fj (AS5 f)|A'Q=>[.B0 Cl,Agg]|A'R=>by rw[UE,<- Sf];exact AV1 hs|A'S=>Cl=w/\AOH|Bnk=>ys[k2]?=Θ|A'T=>[ħ _,HE (ε)]=_|Bnl=>IS r hr Β|A'U=>Cp l r x|A'V=>W.codeIn K cdv FD=Κ|A'W=>OQ qs BC (∀q∈qs,ε) ζ|A'X=>by show Th hl hb h|A'Y=>⟨E9,_,e,hrv,ε⟩|A'Z=>rk S bs i|A'a=>∀(Ξ:G1)(w:α),_|A'b=>ATv fun i=>ε i BS|A'c=>Ü (W' k) (lS h)|A'd=>IM (xp s0) AY|A'e=>ADZ ((ε q hq).up Χ)|Bnm=>[.JE d1,.JE d2]|A'f=>(tD ks vs k v)|A'g=>ADr (Ī ADN (ε::us))|A'h=>(vals.map kf).Lm ks|A'i=>∀ds Q Ex,sp ds Q Ex ->t ε (iK N ds) fN|A'j=>(h ms x G)|A'k=>(kP ⟨xe,AwG⟩)|Bnn=>BmO Β PySem.evalArgs_none|A'l=>AWY tv y (sd ta x ε)
|A'm=>BmS he h1|A'n=>by obtain⟨o,e3,w,Β,nd,hn,r⟩:=AwJ|A'o=>vY ε _ _ _ _ _|A'p=>∀(f:Μ)(v:V),_|A'q=>(h u _ ACs ru)|Bno=>∀{np GW AA:AS},_|A'r=>AIl specialOf (BqU hT2 ε ?_)|A's=>aj (dU (Hm ε ζ)) ak|A't=>dB 2 ε (Pk (Hm AZ ζ)) AWV|A'u=>t Γ (fun ds AF=>ε) E|A'v=>ε.2.1 x c e Β|Bnp=>Asz s fd (H_ [u]) [(x,u)]|A'w=>(∀a F,Kc pl F a ->rM AgH F H0 AVd th)|A'x=>{nx:=se,rt:=se,rT:=ε}|A'y=>gZ.d c S (Ε (IK bs))|A'z=>fun a ha b hb n e=>ε|A'0=>by obtain⟨h',g',d',tk',os'⟩:=s'|A'1=>Bmx (by rw[AeE hd];simp [Z3])|A'2=>∀(Bmy)(ha:Sz m a)(hb:Sz n b),_|A'3=>Bm0 e2 tl.hasType|A'4=>(match t with | AC=>ε | Κ=>ζ)|A'5=>fun σ H=>(Awp (I DU A7))|A'6=>fun t' Cx=>∀cs,E ε Cx.bare|A'7=>by obtain⟨ε,gr,rx⟩:=yl x ζ y|A'8=>by rw[Rh e1,AtO] at R2|A'9=>∀{xs ys:AU},ε|A'_=>by rw[ε,GV,GV,<- mv,ζ]|BAI=>(BHp fun a b=>a.1≠b.1)|BAJ=>(HU ⟨_,Β,AL5,_,AV5,um.lookup,?_⟩)|BAK=>(AG3 ũ [EO,v1,v2])|BAM=>(EH W0 dC hb)|BAO=>BrI hT ε (Afp ζ hT η θ)|BAQ=>mQ sc ε BO|BAS=>zw/\RF H0/\AMo b|BAV=>(wF (oU r))|Bnq=>BE (AMT BJ h)|BAW=>.pu (yL ADx ws)|BAY=>R'.sl 0 _ e0|Bnr=>by subst z;rw[ε] at mu;exact mu|BAZ=>[kG,LZ,"rests"]|BAa=>.B0 ⟨_,_,ε,Β,Β,Β,Β,ζ⟩|BAb=>ε K c (JW a Q) (AT3 ζ Af9 ds) Awd|BAc=>(hμ r hr).2|BAd=>FM (Po (FT p2 hb).1 u q')|BAe=>by show FB (g' =Arn) hm.gens|BAf=>AcJ fun m=>(B' (jm qs m))|BAg=>am (ALR (M9 w))|BAh=>{s with heap:=ε,drawn:=d}|BAi=>⟨l,us,Β,AVa,ε⟩|BAj=>fun xs H Q=>ε|Bns=>zuf (D9 ε) Β aX boot_sorted|BAk=>g ε σ H (AU8 (tb (AVA Au1 Au1) σ2 H2))|BAl=>.AX ε (sQ ζ EB)|BAm=>Ň ydv qO boot_abs|BAn=>Ň yq aU boot_len|Bnt=>ft ty y (sd td x ε)|BAo=>(Bpk tg ANZ u)|BAp=>(ps++ [(ANk,H)]).EL|BAq=>ŉ (hdS a) (hdS b)|BAr=>(AUG CF s H fp)|BAs=>br (b∉ε) F' F|BAt=>zO (AGg A8) hle|BAu=>∃ks xs,AwX/\ε|BAv=>∃cs t',HR Γ 0 (.tr ACe t')/\ε|Bnu=>∃es,xD= .ABJ es ep|BAw=>_2.upd AIH p AgY ε|BAx=>zm AG H y k|BAy=>Bn y (MV y D5 AIi ε)|BAz=>lr L5 (B' m*1)|BA_=>ŗ (setAttr EV f u)|BA'=>ś ALf e f ε|Bnv=>Rep AG F' d v|BBG=>AUd (∃F0 H0,ε K F0 H0 t j9 σ H Q)|BBH=>uz p s i|BBJ=>(dD Γ σ H)|BBK=>by rw[q] at h;show GN;rw[ε r q];rfl|BBL=>yM ps ws v|BBM=>AM5 (.ε ks' ys) (Φ (ks=ks')&&Ϗ)|Bnw=>(kI h1 AL1 D.i1z)|BBN=>gN Aru xA/\pA K xA|BBP=>gN Ac' c.fM/\pA K c.fM|BBQ=>by intro j x y g1 g2|Bnx=>AfZ (yn o f I_)|BBR=>hb s ε eP hl|BBS=>aC m (f a)|Bny=>Gr F0 H0 F' H|Bnz=>AIa (sW (E_ fun x=>ε)=Ε AwF)|BBT=>k a zY _ (ε f g AUW h)|BBV=>∀{P:A2}{w:An}{K:AB}{elts:DA}{x1}{AA:AS},_|BBW=>ŗ (ALG ε u EV)|BBX=>by show Cc u hu ru (AhN (mA f)) (Agi l r f)|BBZ=>AOM ds AU MZ ε|BBa=>ALu (ADb (Ava R.g ε R.g) (NO (Avm ζ)))|BBb=>by show AVv bs e (zE.mp h)|BBc=>ε nd Β Do (A3 ζ)|BBd=>ay (.Try MC ε [] [] AA) ζ|BBe=>by rw[tN,n] at e;show C6|BBf=>∀{K:AB}{h:AQ}{C:Ζ},_|BBg=>if ε then ks else ks++ [k]|BBh=>⟨.bl ε,H1,I1,Β,q1⟩|BBi=>á _ R1 s1 IU ε|BBj=>Ags (hg m hm).ε|BBk=>Sq t1 K H a xs|BBl=>Sq t2 K H b ys|BBm=>Ag' (∃vs,AVM/\h.DictOf ż a vs)|BBn=>AhB x u ?_|BBo=>∀(K:AB)(F H:Hp),_|Bn0=>sp (Ae'::es) (cK (P r A7)) fun Cx=>E A7 Cx|BBp=>⟨(hs.2 CS ε).EC e,n,ne,nf,d⟩|BBq=>∀u s',Afd ->OY ->Q u s'|BBr=>∃u,Se e=Ε u|BBt=>fun x c e z=>ε|BBu=>by show AVw n e pl;show c9
|BBv=>by show AVS b h;exact ET _ e|BBw=>(relabel sc BO).BHn|BBx=>mj (zL (IY ε) Χ)|BBy=>(gE (qq (S b) H2 (H' b)))|Bn1=>We ta d (al d (.exc C0) ((ε)/\FX ζ))|BBz=>∀x y c,ε ->ζ ->x=y|BB_=>ADX N0 (Eh ε (ζ i T1) AWP)|BB'=>∀k,k<n ->∀j,(ε k j).ABt<=ζ|BCG=>ŗ (Adj EV f b)|BCH=>by simp at g1 g2;subst g1 g2;show Av8|BCI=>lc x es (g x (c::d::es)) Eg|BCK=>Awl (Bl8 ho (∃F1 AF d,AU'/\Ţ/\Rep AG F1 d v/\ ε) I ζ) η|BCL=>(fore T0 topGo p w os)|BCM=>by obtain⟨xs,hq,hx⟩:=hg|BCN=>(by rcases ε with z | ⟨z1,z2,z3⟩)|BCO=>(Atq t2 es1 Ag_)|BCP=>ε (a:=ζ) (o:= η) (t' :=Mm)|BCQ=>Ctx X F0 H0 E|BCR=>yy (zox (D9 ykj) Β qM boot_int) ε|BCS=>∃AY:Au,AOC/\ε/\Ż|Bn2=>((items.toList.drop (sIx Si 0 lo)).xl (Aga - ANW)).ε|BCT=>(ĭ AH k v).Zs|BCU=>ε f t v bs (NJ (k b (zP _ hb))) h1|BCV=>∀{Ξ:G1}{x x' :P3},_|BCW=>∀b xs,b9 Pw ->AVT Pw|BCX=>⟨o,es,ε,h2,h3,h4⟩|BCY=>∃i j,Af8/\y= .AL j/\C i j/\ε|BCZ=>k d Γ F H v R JY ε h|BCa=>by obtain⟨DB,H',I2,q⟩:=q';exact fin I2 I2.len (AIv ⟨_,_,I3,q⟩)|BCb=>∀(Bm3) (DI:AQ) (C:Ζ) (m:Μ) (k:Δ) (ps:Υ) (sp:ε),_|BCc=>(Av_ HI (AhI ALk) BS)|BCd=>fun xs ds P=>(ACV ε ζ)|BCe=>by obtain⟨U,hU,hr⟩:=O.hs|BCf=>ε++ (B3 (Cl=w) ζ [])|BCg=>∃(AY:Au) (n:Δ),ε|BCh=>∀C MD Zp fp,ε|BCi=>by rename_i dd cd sl ho|BCj=>∀(q:AM)(l:BC),_|BCk=>Itz K t1 t2 a|Bn3=>(zka p w').mp|BCl=>∀σ H,Pv ε σ H ->Afl|BCm=>Bx (ĸ k Ö) ε|BCn=>∃i j,Af8/\y= .AL j/\ε|BCo=>∃f fd,ε/\Meth K C m f/\AIO|BCp=>fun i s o a e=>ε|BCq=>oF r g ε=Ε f|BCr=>by obtain⟨F1,H1,I1,L,n0⟩:=lent I R|BCs=>Aw AG F' H1 H' C' M7 x|BCt=>RU (ε ζ (At h2 e2 sb))|BCu=>RY rs FR cs DD ε ζ|BCv=>(fV So P w K mg DI ũ FD yo f cdv A Ch s H ſ)|BCw=>PD kg X.A (Ī Lv ε) (EP JS Ν σ Q) e9 s|BCx=>∀j,ZB M (r j)|BCy=>lL wpAny_lookBehind hoD (gS hdD pastItsLine_dict (zO hcD ε))|BCz=>by show TD oj g1 g2 g3 ε|BC_=>(B3 (k=f) ((k,v)::r) ((k,x)::pI f v r))|BC'=>∀(VM)(tg e:AJ)(tS),_|Bn4=>⟨NI,ε,.o_ (Ae6 ζ),#[]⟩|Bn5=>∀r,r∈Ξ↔r∈cL|BDG=>mP (Nm (z ε Η) (z ζ Η))|Bn6=>fY SA (w9 i WV) ε|BDH=>fun j hj=>ε j (zW _ hj)|BDI=>PassesOwn kg X.A BO xL|BDJ=>Sq t AG H a ε|BDK=>vC knd kf led ε a ζ|Bn7=>AUg (revObj l (AVy - 1)) ε|BDL=>(NH (Bqt _ _) (BH4 (a:=T1) (by first | rfl | (simp only [Bqt];rfl)) ?_))|Bn8=>BIA (T:= BH3) (b:=Κ)|BDM=>ε f ts vs bs (NJ (k b (zW _ (zW _ hb)))) h|BDN=>(ε t1 t2 h l1 l2).UC ζ|Bn9=>by obtain⟨I,i0,T',K_⟩:=h1|BDO=>⟨s',o,q,p1,hb⟩|BDP=>EH z2e cx.po hc ε (PR hg)|BDQ=>∀F,rM X F H0 MC tb|BDR=>[SZ,Ast,Tx,xc,WN]|BDS=>(bv H' (Agn /\∃H2,(Awi)/\ (Awh)/\Agu))|BDT=>Agw p p p p ε|BDU=>sp (Ae'::es) (cK (sX r/\P r Γ)) fun x=>Hi x/\AVi|BDV=>⟨F1,AF,R1,lP,i0⟩|BDW=>nu (Ar_ f) (mA f)|BDX=>⟨PQ ZN,SQ,.seq ε dn,SX⟩|BDY=>by obtain⟨fa,fd,Fn,hm,hb⟩:=x0|BDZ=>fun p hp=>Zl (FA (p∈ ([]:dX)) hp) A0|BDa=>∀{tb:TS}{D:j'}{σ:St}{H:Hp},_|BDb=>by obtain⟨b,_,_,Β,e,_⟩:=h;cases (e);rfl|BDc=>ε f ts us cs (NJ (k b (zQ _ hb))) h2|BDd=>k _ AF F1 _ l2 _ R3 s1 q1 q2 q3 (ε ms) ap (h1 ms ζ η)|BDe=>∀(i:Δ) s o a,FL ε s ->¬ό|BDf=>∀{H:Hp}{AH:iN}{xs:AIw},_|BDg=>by obtain⟨xs,x,hq,hx⟩:=hg|BDh=>fun u' s2 I2 ru=>⟨v,H1,I2,ru,q⟩|BDi=>s.heap.IsSliceOf sl vl vu BH|BDj=>∀(hN:HV)(hv:OV)(AhP),_|BDk=>(I.ok.cab x c hfn hc)
|BDl=>(BG5 lo hi Θ n)|BDm=>(.Slice lo hi Θ p2)|BDn=>∀{ta:TA}{p AA:AS},_|BDo=>i_ (dr ź) rs j|BDp=>Cds (Nt HZ) m x|BDq=>NL ch (Bmd/\AVE/\ (ύ b)/\Agz b)|BDr=>HH (Hs (K w) (V w))|BDs=>(fV CX P w K mg DI N FD KB f cdv A Ch s H E)|Bn_=>zod (s:=s) (v:= ε) I (OH (kp b o (FG ?_) cq)) ζ (k _ _ F H Blv IU h)|BDt=>rC S x h=0|BDu=>(zu6 (B:=ε) (CA w ζ)).Ľ (Aev _ W.1)|BDv=>(f Ag5 (.AL j u))|BDw=>jc (UH vs) k=Ε v|BDx=>⟨x,H2,ε n0 I' sm e1 e2,rv,hQ⟩|Bn'=>entryFor_alias (id' := ε) BlZ Β Uf BlZ|BoA=>(ANI (Avu AWA/\OldK ABd j_/\s'.os=s₁.os/\AN'))|BDy=>(FA (gW (Slot.ow ds) g6 a) Β)|BDz=>by obtain⟨t,q⟩:=(FA (AC' ε) rx);show L';exact my ζ ALd|BD_=>fun Ν s σ H Q I h=>ε
|BoB=>(by
 rcases Age with Β | z
 ·exact Zl (zG e) (yS _)
 ·show AIg)
|BD'=>∀(t:T) (v:V) (as:B5),(AMx ε) ->AIx ->ζ|BEG=>∀(ts:GS) (vs:AV) (as:B5),(AMx ε) ->ADw ->ζ|BEJ=>∀(x:EZ)(L:Υ)(f:ANM),_|BEK=>∀Γ F' H σ,AwB ->FV ->ε Γ ->ζ|BEM=>∀(G:ε GE X.w AG pE eI x k ps sp)(hr:sx)(hg:J_)(ha:SH)(hdb:Fr:=by decide)(tw),_|BEO=>∀(ws:Υ)(v:EZ)(bs:mw),_|BEQ=>∀{K:AB}{c:Cls}{a:Ζ}{bs:B5}{t ds Q Ex}(h:ε c t ds Q Ex),_|BER=>⟨_,ht _ _ cx,F0,iK N ds,ε,XF sF rs,hq ds Pd Ex hsp,ζ⟩|BoC=>y s h - cX (k s) (y s)|BoD=>(by rcases ε with ⟨_,z⟩ | ⟨_,z⟩ | ⟨_,z⟩ | ⟨_,_,_,z,_⟩ | ⟨_,z⟩<;>(first|subst z|show AHG|show AHI|show AHK|show AHJ|show AHM|show AHL|show AHN|show AHO|show OC z|show OA z|show NB z|show OB z|cases (z)))|BES=>(by rcases hc with Β | Β | Β | Β | Β)|BEU=>(Z sh (jg (Ada i) (HH (AOK v))) ms x)|BEV=>by obtain⟨r,hr,e1,e2⟩:=ASc hh|BEW=>I.step (g' :=Arn) (d' :=AKv) (ch:= ε)|BEY=>ε (knd:=qy GE X.w) (AH:=ws) (ep:=ep)|BEZ=>by show DE hT hN hsm Xd I1 (Gc ⟨AH,ε⟩)|BoE=>fun d v F' H' gr rv q=>ε|BoF=>fun Γ5 F5 H5 σ5 R5 s5 q=>ε|BoG=>fun j y v' e1 e2 e3=> ?_|BoH=>fun d v F' H' gr r h=>ε|BEa=>[LZ,pd,ALZ,ĩ,"rests","steps"]|BoI=>Walks.list (toI (AS' hc)) CF p (zK Vi) QP|BEb=>by obtain⟨v,vs',a1,a2,Β,Β,q1,q2⟩:=h|BoJ=>fun D Γ _=>tb D Γ fun AF Cv=>ε|BEc=>(dB n FU ti g tc te)|BEd=>fun Γ F' H' σ R s h=>ε Γ F' H' σ BmM s h|BEe=>fun Γ F1 H σ R s1 h=>ε Γ F1 H σ R (s.trans s1) h|BEf=>pb i j t t' s _ _ ε|BEg=>vY ds g tb D0 E AF|BoK=>∃as ws ps x y z,Qp (AGh ε) ws ps/\Γ= [ADL,ADJ AwW,x,y,z]|BEh=>CE Ch P w H s Q u s'|BEi=>fun A9 F' H' DB R' s h=>L2 ε (R'.drop i Θ) (hW sV.f.trans s3 s) h|BoL=>bt.small (N:=16) ba Η h1 hi|BEj=>fun i σ H=>∃F2 A7,ε/\Afj/\I i A7|BEk=>ε (ns s hS) nh (CC s hS)|BEl=>AeM (first:= SB) (h₀:=eI) AeN hm.kp ε ζ η|BEm=>(fnOf x FD AIn tm yo BH BH BH BH Θ BH BH)|BoM=>fun v u s2 x y H2 I2 rx ry q=>ε|BEn=>ALv _ M3 _ _ (H_ (ε::us)) ζ _ _ _ BmN (I2.env0.make C us []) hbs|BEo=>∀(K:AB) (sp:ε) (vs:AV) (H:Hp) (Q:VK) (E:XK),_|BEp=>Sx F ε (fun _ _ _ _ h=>ζ h) fun cdv A Ch s H E hr F0 H0=>⟨η K c,θ,fun a bs t ds Q Ex h=>ι h⟩|BEr=>∀{f:Ζ}{cdv:AI}{A:BM}{Ch:L_}{s:AD}{H H1:Hp}{E:XK}{F0:Hp},_|BEs=>ki (fun ds AF F1 H1 a vs R1 s1 e1 e2 e3 r1 ap h1=>ε)|BEt=>∀(cG:CH zdb)(rF:CH zz2)(aX:ADM)(bK:s_)(aB:ã)(bQ:AN0)(bN:ň d5)(bZ:ň d6)(bA:BmG)(aP:BmF)(bF:ň Nl)(aM:Agj)(aJ:AwD)(aO:AhA),_|BoN=>fun ys F' H' vs R' sF a1 a2 a3 rs ap hp=>ε|BEu=>∀(i j:Ψ) (t u:Tok) (s:AD) (Q:dO) (E:dO),ε|BEv=>∀(rE:CH zyx)(lD:CH zqs)(gD:CH zlk)(aU:OX)(nO:Awo)(lE:Bmg),_|BEw=>∀(dg:CH zd3)(iB:CH zjk)(aL:ANt)(gG:CH zh2)(aX:ADM)(bG:Ž),_|BEx=>by intro E8 kL Ν s σ H x y v u Q I rx ry h hs|BEy=>by show AE h1 h1 h1 h1 h1 h1 h1 h1 h1 h1 h1 h1 h1 h1|BEz=>by show AE q' q' q' q' q' q' q' q' q' q' q' q' q' q'|BE_=>by show AE e3 e3 e3 e3 e3 e3 e3 e3 e3 e3 e3 e3 e3 e3|BE'=>by show AE r3 r3 r3 r3 r3 r3 r3 r3 r3 r3 r3 r3 r3 r3|BFG=>by show AE h1 h1 h1 h1 h1 h1 h1 h1 h1 h1 h1 h1 h1 h1|BoO=>À q q q q q q q q q q q q q q|BFH=>bV (ho Ν s2 σ H2 x y v u _ I2 r1 r2 q2) (At ε s3 ⟨z,H3,I3,r3,k,e,q3⟩)|BFI=>by show LO q hi hi hi hi hi hi hi hi hi hi hi hi hi hi hi|BFJ=>by show LO (JI _ _ q) n1 n1 n1 n1 n1 n1 n1 n1 n1 n1 n1 n1 n1 n1 n1
|BFK=>(by simp only [Rep] at r;subst r;(show Av5) <;>simp only [Rep] at r' <;>first | show Av6 | show Av7 | (show AE r' r' r' r' r' r' r' r' r' r' r' r' r' r';exact Ro _) | show Bmp)|BoP=>pj ε|BoQ=>BIf ε|BoR=>ABq ε|BoS=>ε D1|BoT=>by rw[BFp,ε,ζ]|BoU=>by unfold Builtin.«sorted»|BoV=>ε<D1|BoW=>eval_ListComp ..|BoX=>BsO ..|BoY=>BI_ ..|BoZ=>by simp only [ε,ABk]|Boa=>by simp only [C4]|Bob=>(by rcases zou hc with ε | ⟨_,_,_,ζ,_⟩ | ⟨_,_,_,η,_⟩)|Boc=>by apply Bqo|Bod=>BGs ε|Boe=>Nat.pos_of_ne_zero ε|Bof=>BpT ε|Bog=>Brz ε ζ η|BJK=>by split<;>decide|BJL=>by rw[<- hs3]|BJM=>by exact ABN h|BJN=>ε D1=Ε ζ|BJO=>(by assumption)|BJP=>[ME]|BJQ=>AG7+1|BJR=>BIp+1|BJS=>du+1|BJT=>B' N0|BJU=>Rat.mul_inv_cancel _ ε|BJV=>(Ev ns.sum)|BJW=>List.zip_append h|BJX=>Nat.min_eq_left h|BJY=>(du+1)|BJZ=>.As D1|BJa=>BE GY|BJb=>BE Ark|BJc=>MM W.CFound|BJd=>pj z|BJe=>Bqc z|BJf=>BrD _ ε|BJg=>AGx _ ε ζ|BJh=>D6 JA|BJi=>(AKq _)|BJj=>(ATO _)|BJk=>(ItemsOf.nil _)|BJl=>(args_sorted1 _)|BJm=>C4 _|BJn=>ATO _|BJo=>Int.natCast_nonneg _|BJp=>(yY Ac')|BJq=>Ass≠0|BJr=>by show BnJ;show Ω|BJs=>LM ATY|BJt=>MQ ZZ|BJu=>(JP _ KI)|BJv=>CY BrJ|BJw=>UF hl|BJx=>j<AG4|BJy=>j<ATh|BJz=>DT RA|BJ0=>DT Aew|BJ1=>(ABz Ac')|BJ2=>(Sm Ary)|BJ3=>MU ASw|BJ4=>by show Da kB|BJ5=>(by show NR;show Ω)|BJ6=>wpAny_Try_except ?_|BJ7=>(KP (AHz 0 1))|BJ8=>AK_ x|BJ9=>by rw[Fh] at e|BJ_=>UF Η|BJ'=>List.set_eq_of_length_le Η|BKB=>Int.natAbs_of_nonneg Η|BKC=>BpQ hb|BKD=>(BsM ε).2|BKE=>Int.mul_nonpos_of_nonneg_of_nonpos ε h|BKF=>FX ATN|BKG=>BI6<=i|BKH=>G0 ε C4|BKI=>BGk q|BKJ=>IntMulOk i j|BKK=>ğ e|BKL=>BHC e|BKM=>Except.error e|BKN=>L3 _ Sj|BKO=>RS o4|BKP=>k8 Adb|BKQ=>Bo5 r|BKR=>Pe He|BKS=>Pe AdU|BKT=>Gl X o4|BKU=>BGt hq|BKV=>R.gr.h.free hq|BKW=>(UX (AiK (54+j)))|BKX=>(UX (AyG i))|BKY=>subscriptTail_builtinR (x:=ε)|BKZ=>(Q1 .AL)|BKa=>i<=BId|BKb=>gL ALB|BKc=>gL PM|BKd=>gL BpJ|BKe=>(L2 hb ?_)|BKf=>by ·exact Br5 ε|BKg=>by rwa [ķ] at Ρ|BKh=>((D9 0)::rs)|BKi=>cY k Ad8|BKj=>(gf I.ok.Jd)|BKk=>AMa o6|BKl=>AMa Ll|BKm=>GY<=1000|BKn=>XU BrO ε|BKo=>lh BHi ε ζ|BKp=>(DS++x::Eg)|BKq=>(.pu (Ev z))|BKr=>ε (AKp _ ζ)|BKs=>ALD hi|BKt=>ALz hi|BKu=>(sc.names.map (·.1)).Sc|BKv=>by show Æ ķ|BKw=>(BFS p)|BKx=>by rw[ε,C4,ζ]|BKy=>(Nat.log2_lt ε).mpr|BKz=>cz (BF' _ ε ζ)|BK0=>È N1 ε|BK1=>XX B1|BK2=>fb W.plainOver C|BK3=>fb W.makesIn C|BK4=>Ĥ j_|BK5=>Ĥ s₂.heap|BK6=>Arm ε Η|BK7=>(CF+2)|BK8=>ASq (n:=ε)|BK9=>sR ALt|BK_=>AHo QP|BK'=>mM (by have:=ε;show t9)|BLB=>AuY BIp|BLC=>(Aej ..)|BLD=>MG<64|BLE=>N0<64|BLF=>Ll<64|BLG=>[HQ,KG]|BLH=>UF h2|BLI=>(si AKx)|BLJ=>(si AKy)|BLK=>(si AKz)|BLL=>mt ALa|BLM=>mt pe|BLN=>(f j).den_pos|BLO=>s'.heap.UpToSlots h'|BLP=>d.params.defaults= []|BLQ=>(ACH Vd t E)|BLR=>(AeJ gr)|BLS=>ADG AdU|BLT=>AUi "items"|BLU=>AsH Arn|BLV=>ŭ ZH|BLW=>(AH_ Nl)|BLX=>(AH_ AdB)|BLY=>kq F1 (yz q ε) AF|BLZ=>(x,AtY)∈ε|BLa=>w_[k]|BLb=>As4 y=Ε ε|BLc=>ê List.mem_singleton.mpr ε|BLd=>IM xs BGL|BLe=>f_ ε Nat.not_lt_zero _|BLf=>(yM ps ws' u)|BLg=>BsA ⟨ε,ζ⟩|BLh=>BGA _ q|BLi=>ACX AcJ qD|BLj=>(.AS8 .Or [a] AA)|BLk=>MV k' k (Ε x) ε|BLl=>(Ş ABZ kV)|BLm=>AIc AAt
|BLn=>(Ϟ (DL∈Nz))|BLo=>∃o',NC Se o'|BLp=>HZ<=12|BLq=>F7 M_ o|BLr=>(ze (qc e "items") [])|BLs=>(AMh ph 0)|BLt=>(AMh vals.toArray 0)|BLu=>fun _ _ _ _ _ q h=>ε|BLv=>ATF (t' :=tk) ε ζ (ACU _ _ _ η θ)|BLw=>fun h' eb=>(IC (AwL zu9 fp ε I ζ hf))|BLx=>AK' n==Ε cc|BLy=>by obtain⟨oc,od,kV,doc,pm,an,cdv,ct,osl,Β,lk,hcd⟩:=F.ex|BLz=>(Bc BA FU σ)|BL0=>JD Bq5|BL1=>I1.stack.mem hm|BL2=>B1 - DU|BL3=>[Mn,HQ]|BL4=>[ATE,kF]|BL5=>(.As aw::vs)|BL6=>Nat.le_mul_of_pos_right _ Η|BL7=>BFx _ Η|BL8=>AN2 BrN|BL9=>BkE ε AsE|BL_=>Af0 setEpoch ε hg|BL'=>(gf I.ok.bs).1|BMA=>by rw[Ff,Atc]|BMB=>du<=40|BMC=>Asa=Ε dx|BMD=>by rw[AKo hi]|BME=>by rw[List.length_eraseIdx_of_lt hi]|BMF=>De AS5 f|BMG=>(kl rO A5)|BMH=>AV3 PyProof.Rows.F.entry_set_update_loop|BMI=>z6 (BrW ?_ ε)|BMJ=>(AOl ě)|BMK=>(AvT CF)|BML=>AtM AY ns|BMM=>AWa o6|BMN=>s₁.gens= #[]|BMO=>(pC (cV 11))|BMP=>by show BmY;kernel_rfl|BMQ=>(CF+4)|BMR=>Agf hms.length_eq|BMS=>Agf AHC|BMT=>(EQ C4 hl)|BMU=>Wp Bi (by show AOf;exact ε h)|BMV=>(UU v (AHo Hd))|BMW=>(OS AZ CD)|BMX=>gy M_ AfG|BMY=>AW8 ATM|BMZ=>Avk M1|BMa=>s.heap.DictAt AIE a ws ep|BMb=>pF Ξ ws m ε HZ|BMc=>BHp R|BMd=>Bpp ⟨ε,ζ,η⟩|BMe=>Sk=Ll|BMf=>Sk=w8|BMg=>X.s₀.heap.FunFrames eI ε|BMh=>(ALR mS)|BMi=>by have z:=Int.dvd_gcd_mul_iff_dvd_mul.mpr ε|BMj=>by show AOS e ε;show c9|BMk=>⟨vs,ε,fun hz=>k ds AF F1 H1 _ R1 s1 ζ h1⟩|BMl=>[xh,"head"]|BMm=>(pv i Nc)|BMn=>IM ys eQ|BMo=>((AiA).EL .B0)|BMp=>(ACb cA A5)|BMq=>∀{K:AB}{F F' :Hp}(e:FV),_|BMr=>(AdM h ε).IN|BMs=>by show AIS C4 kB|BMt=>ADu EV K2|BMu=>ADu EV xi|BMv=>(ko H p (KP Ap))|BMw=>AiD ε Builtin.«dict_keyiterator.__iter__»|BMx=>Good i (as i)|BMy=>(∀p∈ps,Kr 4000 p)|BMz=>(Atp i (.tr ACe t'))|BM0=>by have hb:ε:=AK7 h;show AgT ζ|BM1=>Bl2 ε (A3 (aA (yd ζ) aN))|BM2=>gr.trans R4.gr|BM3=>gr.trans R5.gr|BM4=>BIo AGY|BM5=>BIo "object.__getattribute__"|BM6=>hc.keeps KL|BM7=>by rw[ε,C4,kB]|BM8=>by show hG t (FA (AC' ε) r);subst e;exact ζ|BM9=>OE (b_ CF ε) ζ|BM_=>(CF+3)|BM'=>CY (T_ LA ε)|BNA=>aD K P_ Mn|BNB=>aD K P_ Ę|BNC=>(EQ z AAt)|BND=>(ax uc AZ)|BNE=>(.ob C AUy AxV)|BNF=>(.ob C AUy (ts++ [dA]))|BNG=>by show NR;simp;show Ω|BNH=>by show NR;have:=ε;show Ω|BNI=>hV (num j+ Fu*ε) 26|BNJ=>(ACt nq (ű AZ))|BNK=>ATY e=Ε oe|BNL=>mr dr oU|BNM=>Þ (Adh j)|BNN=>Þ (i.fdiv j)|BNO=>by obtain⟨AY,r,pl,hz⟩:=QQ hq|BNP=>by obtain⟨AY,r,pl,hz⟩:=kC hq|BNQ=>AeL (BrA ?_)|BNR=>fun y hy=>(AOj hy ε)|BNS=>T_ Prod.fst f|BNT=>T_ BJE f|BNU=>(z7 (z7 Aw9))|BNV=>by show ε;show DF ζ;exact q|BNW=>(AOn A5 DO)|BNX=>AO9 e KK|BNY=>(Itw a o AH)|BNZ=>(Itm a o AH)|BNa=>Agt ATQ e'|BNb=>Agt ALm e'|BNc=>e0.mod.Jc.keeps (OH (gf e0.bs).1)|BNd=>e0.mod.nolimit.keeps (OH (gf e0.bs).1)|BNe=>jv x c e|BNf=>I1.cell x c e|BNg=>Axi ģ|BNh=>ε it d DU FE ep|BNi=>fun b o _ _ hc e _=>⟨o.slots,ε⟩|BNj=>(B3 AOJ (F b) Ax1)|BNk=>(B3 AOJ (F b) Ax2)|BNl=>fun b ob q _ _ _=>ε|BNm=>by exact FF (FA (NC KK _) k)|BNn=>by exact FF (FA (NC AeH _) k)|BNo=>(Ļ g as bs)|BNp=>(zqp f y fs)|BNq=>Aex (cnt q l)|BNr=>AT9 (cnt q l)|BNs=>(FA (Bpo a QP) p)|BNt=>(FA (s1.heap.IsTuple a QP) p)|BNu=>∀(k:Δ) (h:k<B1),ε ->ζ
|BNv=>∀(k:Δ) (h:k<AeX),ε ->ζ|BNw=>AyO AdG
|BNx=>by
 refine ε AOA kM (fun w hw=>W8 rx fx r fs w AI2) (ANl ?_)
 rw[show BG7 (DN x)=its.any AOA by simp,W7 r fs]
 exact q
|BNy=>BpQ hf|BNz=>Atj (· <= ·)|BN0=>Ll=BI5|BN1=>(BsM z).2|BN2=>c<=He|BN3=>(ASk Fu)|BN4=>PySem.Slot AL5 ε ζ|BN5=>ε ABX (P.zip vs) m x=Ε v|BN6=>(X+1+ (jn 15).KF 7)|BN7=>(ĸ i AC)|BN8=>Ε (Sm Ari)|BN9=>(FA (AU1 (Builtin.«sorted» _)) ?_)|BN_=>(AGV h1).1|BN'=>De AGh i|BOB=>(UP DO P5)|BOC=>(kl Ir uu)|BOD=>(NF 3 (A3 aR))|BOE=>qV ZB.zero _|BOF=>by rw[AN2 Bq'];refine ε|BOG=>(EQ P.size hm)|BOH=>(PySem.F.args_dict_get_3 _ _ _)|BOI=>(hte _ _ cx)|BOJ=>g5.get? c=Ε o|BOK=>Bm4 AdZ|BOL=>kz (TM ε ζ) 2147483647|BON=>Rs Β Β|BOQ=>gN d.name fa|BOR=>ACX kN uG|BOS=>bV (ε Ν s2 σ H2 _ I2 q2) (At ζ s3 η)|BOU=>(AUN eA rV)|BOV=>(KP [kV k,v])|BOZ=>ly ė ė|BOa=>by funext j;unfold i_;grind|BOb=>(ACt fQ nE)|BOc=>(∀q∈l,AOv)|BOd=>(∀p∈ex,BmL)|BOe=>AfI (AsT e BO ε) TP|BOf=>s.heap.Ns WH m|BOg=>z6 (Adb (z6 ε))|BOh=>ANs mS update|BOi=>Ord lt MG|BOj=>(cB fQ Axb AZ)|BOk=>(AOa AR 7919)|BOl=>(bv H' (v= BS/\NM aw H'))|BOm=>AOo ε (ń h2 Mm)|BOn=>(AII (U2 (na b hb) q))|BOo=>(AW1 z3k AR)|BOp=>BnF Ar3|BOq=>BnG Sb|BOr=>(fun p q=>BoO)|BOs=>AhR is.Perm MG|BOt=>(UX (r j+i_ ks ss j))|BOu=>Bo8 mA (fs.map (·.1))|BOv=>yy (Vo ε aB UN A5) By|BOw=>Bpm it a i|BOx=>fun w _=>by show APD ε|BOy=>IM (eC AHA) vs|BOz=>ADZ (ε q (ASr hq))|BO0=>(num j+ Fu*AiJ YR)|BO1=>(B3 (i=p) _ _)|BO2=>Ahq a b (cB ε ta tb)|BO3=>⟨B1,C_,LU,h0⟩|BO4=>ALc RE A (.Arh ε (H_ ζ)) η s|BO5=>∀(t:cW)(g:vM)(tb:aH),_|BO6=>AyQ (∀P,ε ->EF (f a) P) ζ g|BO7=>BnP Ari|BO8=>by show BnR bne_self_eq_false|BO9=>∀{elts:DA}{x1}{pt:AS},_|BO_=>BG3 i B1=Ε ε|BO'=>⟨R6.gr.f,Kj,Kj,ε⟩|BPA=>At k hk hle|BPB=>(HU (HU h))|BPC=>W.isFn AG Lv=Κ|BPD=>(Itv K a xs)|BPE=>l.any fun s=>Bx b AW_|BPF=>(OL gj AHg lT)|BPG=>kq F (af q ε) Γ|BPI=>Bnd BsI|BPJ=>⟨R'.gr.h,H2,e1,e2,ε⟩|BPK=>fun d AF F1 H1 v R1 s1 r1 h1=>ε|BPL=>(.BinOp a op b AA)|BPM=>(zL (IY (AT7<=3)) Χ)|BPN=>by show X9 p1 p2 (R0.sl j s' q)|BPO=>(PIE X Ν σ tg R)|BPP=>by obtain⟨m,hn,hl⟩:=pM|BPQ=>(.IfExp c a b AA)|BPR=>Fm (∃qs:BC,ds= bE ANR/\ε/\ AO0/\ζ)|BPS=>AdK Ag9 (ATG (UD _ _)) ε|BPT=>(.ABo 0 0 ADn)|BPU=>fun D σ H=>te σ H ε|BPV=>fun b o hc e=>(cz ε)|BPW=>fun c o hb e=>ATn c o h_ ε|BPX=>(zmw hq' Β ?_ kp)|BPY=>Bn2 Ĩ|BPZ=>⟨⟨vs,v,AiF,hv⟩,ε⟩|BPa=>by show L9;have gr:=ALo (o:=AeK ε) s3 ζ;refine ë gr|BPb=>Bn7 ģ|BPc=>AUP (PI JS tg e (ACH ε t E))|BPd=>Bn' "dict_keyiterator.__iter__"|BPe=>∀(AXV) (mg:ER) (DI:AQ) (x:Μ) (k:Δ) (ps:Υ) (sp:dJ),_|BPf=>fun s Q E hit hg _ hQ=>ε|BPg=>∀(F:Hp) (ks:EA) (R:AV0) (v:V),_|BPh=>fun s i j C hT hi hj ε hC=> ?_|BPi=>fun i s Q E hi hit hg _ hQ=>ε|BPj=>opI fun _ _ _ _ _ _ _ hc q=>ε|BPk=>ABm AVr|BPl=>I2.after hq'|BPm=>AeZ Aea|BPn=>At0 (<- Bne)|BPo=>unsupported "internal:set_iterator"|BPp=>zo4 O.tok.ris|BPq=>pre.getLast hne|BPr=>List.cons_eq_cons.mpr (IC Ax4)|BPs=>xn=IP|BPt=>(Sb:Μ ->Key)|BPu=>IZ ->Bmw (p=BnQ)|BPv=>D1+4|BPw=>Si+items2.size|BPx=>(gf I.ok.bs).2|BPy=>by rw[N1,ATP]|BPz=>by rw[N_,N_]|BP0=>¬(U_ (! ε) (BqO (ζ)))|BP1=>by have SF:=PySem.F.store_ValueError|BP2=>D1≠rL|BP3=>He<=61|BP4=>CF<ATM|BP5=>He - c|BP6=>x h0 - x' h0|BP7=>by simp only [AT1,Brp]|BP8=>by rw[AGz,AGz,ε,ζ]|BP9=>by unfold dh BHX
|BP_=>by rw[C4,ķ] at ε⊢|BP'=>by (show KU v v v v v v v v v v v v v v)<;>try (show OZ)|BQA=>BJB BnD ε|BQB=>(AS' hh)|BQC=>wpAny_Call_ofName (ϑ h (AiE ε) ζ)|BQD=>(by rw[Ue];exact UF Β)|BQE=>by simp only [q,BI2];exact ε|BQF=>by show BoD h|BQG=>As4 y.1=Ε ε|BQH=>(by rw[WO]<;>(show qA))|BQI=>⟨o',BmV e'⟩|BQJ=>⟨A1 (by(show AIg)),ε⟩|BQK=>⟨iP,DT hx⟩|BQL=>⟨? px,Lw h (PassesOwnAt.lookingOf h)⟩|BQM=>[W.topFrame _Hd.z]|BQN=>⟨ε,ndc,fun x hx y hy e=>dis x hx ζ⟩|BQO=>(Bn f (! ANS))|BQP=>(Bn zs AyF)|BQQ=>bL (Bol ε)|BQR=>[rL,D1]|BQS=>y.fdiv (Axy+1)|BQT=>(?_:Q (E3 (Awg ε)))|BQU=>.pu (.exc C)|BQV=>hA b (AWu q)|BQW=>Lu (ATx[i]+1)|BQX=>Cb AT5 x|BQY=>Cb AMC p|BQZ=>Cb Ada i|BQa=>(BGA _ q)|BQb=>(Aev _ h12)|BQc=>(List.dropLast_subset _ hk)|BQd=>(Κ==Κ)|BQe=>(At7==BIw)|BQf=>(rb.getD i Ö)|BQg=>(w9 i WV)|BQh=>Hk ATY Aho|BQi=>sV.h _ _ ha'|BQj=>AeZ Aea =Κ|BQk=>AeL (BIQ ε ζ η)|BQl=>EG (num j)|BQm=>BGr _ _ _ (Gc q)|BQn=>(Bpt hg).1|BQo=>De UH vs|BQp=>De KO pD|BQq=>FF (BrS ε (D9 ζ))|BQr=>(AHD*AT8)|BQs=>(kU*fE)|BQt=>L4 (Best l b) (YU [qD (N9 b 0),qD (N9 (b+1) 0)])|BQu=>(kl yly aR)|BQv=>h a AAt|BQw=>(gZ.fs++ [(AdB :Μ)])|BQx=>(EQ hsz hb)|BQy=>by unfold toD;rw[Uj]|BQz=>am (ALx (ALR mS) ε)|BQ0=>(by rw[Aw8] at e;exact e ▸ ha)|BQ1=>AeZ Aea =AC|BQ2=>W.tail_of_in X ht|BQ3=>call_reversed_list kM ?_|BQ4=>ZB.mono h1 ?_|BQ5=>G0 e2 Array.append_assoc|BQ6=>PY (AI×Au)|BQ7=>BrO ADh ε=AC|BQ8=>by ·rw[List.map_fst_zip Η]|BQ9=>∀x∈AxN,f x=0|BQ_=>(ax z18 AZ)|BQ'=>(I1.stkFree a hm)|BRB=>XA AO7 (f a)|BRC=>W.tailIn K Mr ε=Κ|BRD=>W.readsIn K ε Aw0=Κ|BRE=>[AhX,.AL (f h)]|BRF=>Pf (ef fun h=> ε)|BRG=>Pf (Adk gl)|BRH=>qD (X (AdV h))|BRJ=>(bS (a::cs) (RF F'/\iD k7 H b=Θ))|BRK=>(∀a∈b1++b2,Ahz)|BRL=>Φ (a.1<b.1)|BRM=>lL Bn8 ε Bqy|BRN=>TC ys ys[j]|BRO=>S.par n (BmA hy)|BRP=>(Ao ABd H)|BRQ=>[a,.kA x pt]|BRR=>gI (W.methodObj Lv ε)|BRS=>ŋ ASw AVE|BRT=>(AML (qc AM' m) IQ)|BRU=>(fr t' b').2|BRV=>h (by rw[z])|BRW=>(TU AY hl)|BRX=>by show Ct (ε<=_);decide|BRY=>(fr t' b').1|BRZ=>al d (.bl c) (P ε A9)|BRa=>(Ō (pI f y fs))|BRb=>Gr F H (gE (AhQ XE ε)) ζ|BRc=>(BZ4 yf8 By)|BRd=>(.xd (Į vs))|BRe=>gu wpAny_keeperOf_exc hC'|BRf=>ŏ (xN _ _) (AWM [_])|BRg=>gy AhF (NV/\MT H')|BRh=>Tb ⟨Axn,Τ⟩|BRi=>Tb (Pm n q/\Up lt q n)|BRj=>Ä ⟨NN (lQ r1) ε,ζ⟩|BRk=>cz (BmV eo)|BRl=>.tr (a::as) (Ud Hc AOQ ε)|BRm=>I.kept (t' :=Mm) ε|BRn=>ASy b u ε n|BRo=>ly xA xA|BRp=>ly SW SW|BRq=>ly P_ P_|BRr=>ř ε I2 (q _ (ALS (zN _)))|BRs=>AUS ε (fun x y H Q=>y= BS/\ζ)|BRt=>BGz v T|BRu=>aS (ASr hq)|BRv=>oT.data= .o_ ts|BRw=>AMi Builtin.SmallTypes.nextOf it|BRx=>Í z 27720|BRy=>At r' s' hq'|BRz=>(.BHq elt [⟨AdY,Nw,ifs,0⟩] KB AA)|BR0=>AL2 xs j|BR1=>by rw[q] at e;show X9 e1 r (ei ε ζ q);refine DM η θ|BR2=>iS Bqg ALC ε|BR3=>(AH0 WE AK1)|BR4=>fun A9 =>(AfW (W m' A9))|BR5=>xa u (U' z e)|BR6=>IO (BHm r)|BR7=>Aw K F H H' C dx x|BR8=>Aw K F' ε H' C dx x|BR9=>Adt e1 e2|BR_=>⟨ob,h1,h2.2.1⟩|BR'=>Ŭ AK7 (zK hb)|BSA=>oh ks Aw5=Κ|BSB=>(nsIn K jS x)|BSC=>uC Array.perm_iff_toList_perm.mp ε P|BSE=>isIn m b=AC|BSF=>p.2= cc ->CS≠x|BSG=>uv (AVL ε (AVD yK))|BSJ=>AUr z7 BH5|BSK=>AUr ATA z6
|BSL=>AUr BH7 z7|BSM=>Q1 fun w=>AWK|BSN=>ð Nw wi|BSO=>AUv (h∈k s) BoC|BSP=>tn 0 Ade|BSQ=>qg AdP w|BSR=>(Builtin.«zip.__next__» (H_ (Ç z)))|BSS=>Se l=Ε (AMh ε e)|BSU=>(ϒ (ku hq) e)|BSV=>Ε (IK bs)|BSW=>AMJ AUM (.seq BqH n')|BSX=>(ADl E_ HE)|BSY=>ϛ (sd tb y (r x y H2 ε))|BSZ=>AIa (ε (E_ f)=E_ ζ)|BSa=>AIb z.cps.toList c|BSb=>ANU (Bn s (AfU (x' r8)))|BSc=>AsK (E3 ACc)|BSd=>∀o w,u≠ .frz o w|BSe=>tn DU Ade|BSf=>by rw[AcA,AGT]|BSg=>(qu n (GL (A i n)))|BSh=>[.AO D5 t,v]|BSi=>AIh E8 tn|BSj=>(cB bW AZ AR)|BSk=>r=Θ/\yT s1|BSl=>ds= AOF/\XX (ac i j)|BSm=>(AcI fun kv=>(AhK y))|BSn=>⟨.AO ε,H,AUj,E4,q⟩|BSo=>Afu ALm xs|BSp=>Lz K mg Bo0 (Ev 8)|BSq=>IO (Θ:fc)|BSr=>Ah4 o - x o|BSs=>FH ->AM ->AM|BSt=>ANs (bi BHx #[.As p,Ah1]) ε|BSu=>(.EK es AA)|BSv=>(.pu (eG B))|BSw=>(AMO BmI [a] pc)|BSx=>AVb AeH AyL|BSy=>∀{x y:AM}(h1:wL x)(h2:wL y),_|BSz=>(sK (mine a ha))|BS2=>AC_ Bna ov hz2|BS3=>(ı i (.tr ACe t'))|BS4=>by simp at g1;subst g1;simp [nA]|BS5=>(.ALJ OI k I_)|BS6=>Af_ (BHt (s4.trans ε))|BS7=>[N4,Mn,Z_,"levels"]|BS8=>XL (z.pn++Ν) (CS≠a)|BS9=>Af' Acj TQ|BS_=>Af' Acn Mj|BS'=>Af' Acs Zu|BTA=>Af' Acu V0|BTB=>AOP zko (IS p vs ε)|BTC=>De ε qs=He|BTD=>M_ p=Ε AO_|BTE=>(E_ f).sum|BTF=>qD (BE (f h) - ę h)|BTG=>Ik X MC tb|BTH=>Qo Ξ x' m|BTI=>(j - i).eR|BTJ=>∀{k:Δ}{A:BM},_|BTK=>AOw z eA|BTL=>∀i j,i<m ->j<m ->ε ->i=j|BTM=>(B3 neg (! AwS) AwS)|BTN=>∀i,s<=i ->i<s+n ->ε|BTO=>(Q_ Bw ps is)|BTP=>SlO K F H H0 ds o
|BTQ=>(by
 rcases Ix hb with hb | hb
 ·exact ε
 ·exact⟨W' hnc,AVz hnc⟩)
|BTR=>(by
 rcases Ix hb with hb | hb
 ·exact p.2.2 b hb b A0 Β
 ·exact AfM p.2.1 hb)
|BTS=>(by
 rcases Ix hb with hb | hb
 ·show E5 hb
 ·show HL (AWg hnc))
|BTT=>fun Γ=>(BoK DU)|BTU=>mU AyJ B1|BTV=>release [v,ov,iv] []|BTX=>⟨u,CY e1,e2⟩|BTY=>(fun t A9 =>(Bmo (Q t)))|BTZ=>MO (bI K SW P_)|BTa=>MO (bI K ė xA)|BTb=>AWi M1 ε (fun a=>ζ)|BTc=>EU (sIx n n hi)|BTd=>Avi BFb Ary|BTe=>exec_Assign_Name_used _ _ _ _ hsw|BTf=>AW9 K2 K2|BTg=>AXB (Builtin.SmallTypes.ownedTupleIsFree (BQ z))|BTh=>(gU ks vs k v)|BTi=>ε Ν s σ H x _ u w Q I rx ry|BTj=>Ã (AeG e BO) (JP ε ζ) e9 η|BTk=>AC_ (AMy hi) iv hz2|BTl=>(fun _ _ _ _ n=>n)|BTm=>⟨F1,AF,D2,R1,q,k.mono s1⟩|BTn=>qF IU (Xl ks)|BTo=>AhC (Cj.tups b xs eb)|BTp=>(JQ GE X.w q xs)|BTq=>∀a F,Av F a ->rM AgH F H0 (ε::ζ) η|BTr=>bI AG C C2=Κ/\ε|BTs=>AOc/\TK Ñ|BTt=>IO (Ε Κ)|BTu=>cB nq CD (cB bW ε FI)|BTv=>pN AVN bd=Κ|BTw=>hs8.extBut _ _ ε (hs7.extBut _ _ ζ η)|BTx=>D6 (De Blj AHA)|BTy=>∃k,k<n/\r=jk A k|BTz=>A1 (q (X_ ABq z))|BT0=>A1 (e (h1.trans z))|BT1=>(.AGn es k AA)|BT2=>z6 (z7 (z6 (Bpw ε (md hn' hs))))|BT3=>∀j,ε ->j<k ->iO k j|BT4=>∀j,ε ->b<j ->Agv<wd l j|BT5=>ń (AUV Av0) tk|BT6=>ń (AUV AxD) Mm|BT7=>XA AIF (F w)|BT8=>∀j,dh (g j)<=143|BT9=>E AF (.pay C [f1,f2] Bnm)|BT_=>(rq (ĸ i AC))|BT'=>AHj far (A1 (Ahv hB))|BUA=>AHt ADP (H' b) (F' b)|BUB=>AHz (B' (De AcJ qD)) 1|BUC=>hz _ (zol Η)|BUE=>(SF.args l_ (.AO D5 t) v)|BUF=>aC Ξ (cK (g r*g r))|BUH=>ac a b=1|BUI=>Gr F' H' F4 H4|BUJ=>cy Awy (b∉js) AVn|BUK=>Sl Ó Θ (Ε 2)|BUL=>Yz (d:=Nc) (UU hi (Ϛ AxE))|BUM=>(ps++ [([],[])])|BUN=>UX (r j+i_ (k::ks) ε j)|BUQ=>Ah8 BrN (AV3 PySem.F.entry_list_iadd)|BUU=>(yt (iJ  (BG (Jw By (Ge aR)) Ly)))|BUV=>yt (iJ  (AWn ε aX (Hn ζ)))|BUW=>AiB (AuA i T1) ε|BUY=>AiC (∃u,AWo/\LDn u)|BUZ=>Awc [a] (UO a)|BUa=>Awc [b] Bma|BUb=>Zl (zG ε) (Nat.not_lt.mpr hle)|BUc=>GM l a ((f a+d a)* (f a+d a)) ε|BUd=>lc x ds (g x (a::ds)) ε|BUe=>(Awg (ZO Ty))|BUf=>(Bly (BQ aw) aw)|BUg=>lc d es (s d*h (c::es)) ds|BUh=>Aws (U' xE hq)|BUi=>is1.toArray[j]=z1|BUj=>is2.toArray[j]=z2|BUk=>fun F=>qF IU (q2 F)|BUl=>BGO<=9+7*i|BUm=>Pg ε (ţ (ATn _ o ζ e))|BUn=>by simp [BG5,Z']|BUo=>u=Ar7 n|BUp=>D ->D ->AN|BUq=>H1 dx=Ε AxJ|BUr=>mA D5=Ε v|BUs=>(Ix hp).WI|BUt=>(ALE DU).AsN|BUu=>⟨?_,rc,rn⟩|BUv=>jT (KO Gn)|BUw=>At x hx n|BUx=>At x H2 y|BUy=>(qD (x' m[j]))|BUz=>GH XC es gs|BU0=>HR X.N l w|BU1=>HR AF l (.pu (lU k2))|BU2=>Ord (ε xs) B1|BU3=>Bx (ĸ k Ö) ε=Κ|BU4=>Q () (ACO h' tk')|BU5=>∀v∈vs,(∃k,AXJ ε k v=Κ)/\AVV|BU6=>(∀v∈Hd,(∃k,AgK)/\AVV)|BU7=>CY (T_ Array.toList d1)|BU8=>ε fun i=>e_ i d|BU9=>pN qs bs=AC|BU_=>pN AVN bd=AC|BU'=>by ·rw[ε b (GI (hb (Boj _ h))),ζ]|BVA=>ay (.Return AhU AA) ε|BVB=>Pp ps ⟨#[],by rw[ε,q];simp⟩|BVC=>q_ (hd i j F) hp|BVD=>XN e n ?_|BVE=>(.dic ks (ADl ts.map Gj))|BVF=>ŗ (ANh AK4 [u,c])|BVG=>by show YV e (FG (e (h1.trans z)))|BVH=>(ud BI AGt [])|BVI=>(ud BO QY [])|BVJ=>(.xd [(f1,v1)])|BVK=>k1 c o h_ h_|BVL=>yc (De AIj f) Ki=Ε n|BVM=>BmK AcR zex|BVN=>BmK Ac6 zbi|BVO=>AI5 hb (ε b o (P4 (Ae8 h)) e)|BVP=>AVx p1.length (lQ q1)|BVQ=>AVx p2.length (lQ q2)|BVR=>gA Ξ w= []|BVS=>fun a F0 hA=>(JO (bO  (Bng ε ζ)))|BVV=>∃f fd,ε/\ANc Lv/\AXF/\AIO|BVW=>∃f fd,ε/\Mk K C f/\ANc JU/\AIO|BVX=>ĕ (AD×Thread)|BVY=>by show Axf h1;rw[ALD hq] at e2
|BVZ=>Ah' ADg 1 (L5+1)|BVa=>s.heap.IsKeyIter it d i FE ep|BVb=>œ AcS ALV UB Hl|BVc=>œ AcZ ALV UB VR|BVd=>pJ Γ σ i a|BVe=>pJ AF σ i b|BVf=>SlT K F H H0 as t o|BVg=>SlN K F H H0 as ts o|BVh=>(Ļ (qf b (D.bl (g a b))) as bs)|BVi=>Ax3 (∀c ds,N3+1=ASa ->ε) ζ|BVj=>dB 1 ε (iL (dN (ql AZ AXL qp))) y0|BVk=>∀{i j:Ψ}(h1:g_<=4000)(h2:Ñ<=4000),_|BVl=>∀{i j:Ψ}(h1:g_<=8000)(h2:Ñ<=8000),_|BVm=>fun h1 h2 q st=>q.stay st|BVn=>F7 H (XO x C Θ)
|BVo=>(by
 rcases Ix hx with q | q
 ·exact zP _ q
 ·exact zQ _ (zW _ q))
|BVp=>(.xd [(f1,v1),(f,y)])|BVq=>(.xd [(f1,v1),(f2,v2)])|BVr=>US fU So k f fd ps (ε K C fl sp)|BVs=>US fU So LN f fd AxU (ε K C fl sp)|BVt=>∀(he:RI [a] a []:=by rfl) (he2:RI [.Call Avj [a] [] p_] (AMO Avj [a] p_) []:=by rfl),_
|BVu=>by
 show BD (AtV ALQ ?_) ⟨D1,[D1],_,_,H1,Β,AEQ,ε a _,nI,Kk,ζ⟩;show AI'
 exact AJO
|BVv=>(fun b ps e=>⟨#[],by rw[e];simp⟩)|BVw=>((ADd,ε),(Κ,ζ,good w))|BVx=>if x<Cl then ε else ζ (r::t) x|BVy=>a=WH\/Bm_ a|BVz=>Inv.made (C:=C)|BV0=>L.back R' s'|BV1=>ALo ABh nH|BV2=>BGz EV xi|BV3=>At4 AOW=Ε oe|BV4=>(by simpa [Rat.not_lt] using q)|BV5=>(UH vs).any|BV6=>by ·show Î f5;show r9 R6.g|BV7=>t.slot j= .empty|Bm5=>(fun d A9 =>(Bmo (Q d)))|Bm6=>(e _).mpr (AsP Bnl)|BV8=>UnR X ε (rU fun i=> .AL ζ)|BV9=>(Hq (uD qs))|BV_=>OE ε (AHS s1 h' tk)|BV'=>wpAny_Name (ε fin) hd|BWB=>(Aeo j Bw).1|BWC=>A_ K0 ASm Oq|BWD=>I.pins_of fun p hp=>ε|BWF=>kZ IW (Ahw (ACq us)) ε=Ε ζ|BWG=>DC Ϝ [HQ,Nl] ε|BWH=>NH (runValue _) (BIR ε)|BWJ=>OQ is DD (∀i∈is,ε) ζ|BWK=>fun r h=>ε r (Ab_ h)|BWL=>fun r s' =>r=w/\ϟ r s'|BWM=>(UX (f j - AJC*q j))|BWN=>(At i v hv)|BWO=>(At v H1 hq)|BWP=>(ze (qc OI D5) IQ)|BWQ=>XN hb eb (XU hb eb)|BWR=>(gS I.ok.glob BpY I.bk)|BWT=>∀j,ε ->Agv<=wd l j|BWU=>ε (bV (kr hc) (UZ d))|BWV=>eP a o hk|BWW=>R.put i ε (L3 h ALq)|BWX=>D6 (B1+M')/\ε|BWY=>∀(hd:Fr:=by decide),_|BWZ=>AHq AOF (XX (B3 ε j i))|BWa=>∃sl,NC Se {o with AK9:=sl}|BWb=>ybj r _ _ hr|BWc=>∀a vs,Mb ->ε ->R vs ->ζ|BWd=>∀(VM)(es:DA)(t:cW),_|BWe=>fun b o eb n q1 q2=> ?_|BWf=>∀(sc:Oy)(x:Μ),_|BWg=>ï ⟨mP (AJE ε),mP (ζ p hp).2⟩|BWh=>Afx AgL (AfS k)|BWi=>bindArgs ε AWp=IO (Ado us)|BWj=>∀{ABX:Aw3}{x:Μ},_|BWk=>⟨r,h1,h2,h3⟩|BWl=>fun b hb z=>n1 (z ▸ zW _ hb)|BWm=>fun b ob u q=> ?_|BWn=>⟨.bl ε,H2,I3,Β,q2⟩|BWo=>Zd (t:=z) (b:=27720)|BWp=>(AXQ (.j7 ks' (xs'.map .JE)))|BWq=>97+ AyB (num at_+ ε)|BWr=>fun h' Mz hs=>h _ ?_|BWs=>ε ALB hk hc hcell|BWt=>AhV (Afz ε Awn AwN) #[] ζ|BWu=>[LZ,pd,"backward","lists"]|BWv=>jc AH k=Ε v|BWw=>fC K F H ts vs bs|BWx=>B3 (ε<0) (lr ζ AWd) (min (η).eR GY)|BWz=>∀i j,i<j ->j<r ->ε|BW0=>{D with nx:=u D}|BW1=>Rep K (j8 F0 F') d v|BW2=>z1k (i:=6) jY ε Β Do|BW3=>(Aw6 (AMQ (AGs+1+n)))|BW4=>MX a ha b hb|BW5=>∀{Ξ:BU}(L:tI),_|BW6=>by have e:ε (De ζ η)=θ:=G0 C4 ķ|BW7=>Bo ps x=ur ps x|BW8=>∀(s:AD) (u:AI),Bnp
|BW9=>by
 show Ah9 ε
 ·show AXP gQ
 ·rw[gQ] at z;show L6;show ie
|BW_=>∀{Ξ:BU}(u:IZ)(w:Μ),_|BW'=>ATg Ν σ AF F1 H1 s1 e s' I1 R1|BXA=>ATg Ν σ AF F1 H1 s2 EV ε I1 R1 ζ|BXB=>(hd j hj hj)|BXC=>ε (rs:=rs) (DS:=DS)|BXD=>Yk lt (W.kas_sort MG)|BXE=>(((AxH).extBut.push _).UC _)|BXF=>BnS ε AdC "type.__getattribute__"|BXH=>(BnU (ya p) [e,e2])|BXI=>BnV hz (At g1 ED hs1)|BXJ=>(aV (dU (Hm (cB dG AZ CD) (cB dG AR CD))))|BXK=>(cE yd (LL (ad vp By DO) (ad vp A5 DO)))|BXL=>Ae9 (æ ds AUc ε [uj] ζ)|BXM=>BnY (T.hasType BHS)|BXN=>∀(C:Ζ) (fs:Υ) (ts:GS),_|BXO=>∀{K:AB}{F:Hp}{ds:AU}{vs:AV},_|BXP=>zow e r _ ε (CA c' q)|BXQ=>by show DE f hf CC p.sub S hS|BXR=>ε (bi (Ye t1) (AXG l1))|BXS=>fun b u e=>sV.h b u AxI|BXT=>∀(K:AB)(C:Ζ)(f:Μ)(sp:ε),_|BXU=>∀vs H Q E,AiL ->Ahk|BXV=>AyE (yR B AEU a ε ζ (ADf L) h')|BXW=>∀{ds:AU} {vs:AV} {ns:ε},MZ ->ζ ->vs=xp η|BXX=>∀{α:CB}{l:CU}{i:Δ}{d:α}(h:AhS),_|BXY=>⟨ε,ds,_,_,JI,rs,ζ,η,fun x C dx F' H' hE gr xr=>⟨x,F',hE,gr,xr⟩⟩|BXZ=>⟨P,a1,AWl (r<=n),a3⟩|BXa=>∀b o u,b9 ACz ->AVT ACz|BXb=>Asz s fd E7 (ε us)|BXc=>Bnz (.bl (f x))|BXd=>r c*lc d es (s d*h es) cs|BXe=>RY u HO b Ζ (AHW H A6 b u) (AHW ε A6 b u)|BXf=>Bn4 Θ AG7|BXg=>AUs (∃as fs ts d,ε/\ζ/\P d Γ)|BXh=>⟨Ť (∃xs x,ϊ/\ci),fun i H x H' =>ε,Ť (∃xs,ϊ/\AWr)⟩|BXi=>WalkO q ZI XP YP AtN d [] Ax8|BXj=>iA (k.stay Axp (hZ z Bmj) fun c xs z=>Bmj)|BXk=>ki (fun ds AF F1 H1 J Hx R1 s1 hx hJ h1 A4 ha=>zqk R1 hJ hx ha h1 (BoN ε))|BXl=>by obtain⟨oD,esD,epD,hoD,hdD,hcD⟩:=hn'.count (Within.cons D5 v ε)|BXm=>N' =BA++BHo fun j=>N.getD j ""|BXn=>(∀a,Good i a ->P [F i a])|BXo=>(B3 a 1 0)==b|BXp=>(hz i him).2|BXq=>fun(AO6 k)=>⟨f,ε hf,k⟩|BXr=>fun⟨r,h,q⟩=>⟨r,ε h,q⟩|BXs=>if c then a else b|BXt=>by show AI7 ED;show EX l xs hq q q1;show Cc u Β rx ALb r1;show AE rx rx rx rx rx rx rx rx rx rx rx rx rx rx|BXu=>by rw[tk,AdO,AS2]|BXv=>xs[k1]?=Θ\/Bnk|BXw=>MN (j:=27720)|BXx=>∃q,Hk Se q|BXy=>show gs.getD i ε=gs[i] from ζ|BXz=>pj e ▸ h|BX0=>f p*AcC rs cs|BX1=>∀{cs:DD},c7 (hZ ds ε) cs=ζ|BX2=>by simp only [q,BI2,BHB]|BX3=>nx k % GY|BX4=>by rw[Aem,<- EN,AG_] at ε|BX5=>AdM j_ (a::ib)|BX6=>AL2 ATx O_|BX7=>by show AOh (BE (B' ε)=ζ);constructor<;>grind|BX8=>(hx (Tp,ot) A0)|BX9=>(W.codeRec_of KX hcd)|BX_=>(zyb R R'.gr.h)|BX'=>by unfold frs;rw[AsL,hf];exact ε|BYA=>(pl=Κ ->∃C,x= .As C)/\ε/\tt x.cls ζ AF E|BYB=>Iv x=Κ/\xs.all Iv=Κ/\l' (B3 neg (! inD x xs) (inD x xs))|BYC=>⟨hb,ANL hb eb⟩|BYD=>⟨fun d z=>Avb,fun k z=>Avb⟩|BYE=>⟨lim.keeps x.toInCall.keep,codeAny_func ?_⟩|BYF=>[Expr.Name w wp]|BYG=>⟨z.1,ht _ _ z.2.1,z.2.2⟩|BYH=>(fun y hy=>k y (zW _ hy))|BYI=>At3 (Flow.ret v)|BYJ=>by show Ct (ε<=_);exact zO (ACn 1 Χ) Η|BYK=>(.dik ks (jT ts))|BYL=>(Axr CF (AU2 AWe)).ε|BYM=>(pD (jy ps))|BYN=>.As (ε t1 t2 h l1 l2).ģ|BYO=>HR nms v Cl|BYQ=>.pu (Eo c ps)|BYS=>Ze (ACn 4000 ε) Χ|BYV=>(g k*f j - f k*g j)|BYW=>(RC jC Awu 12)|BYY=>∃l,v= .As l/\∃is,ε|BYZ=>∃w,LD w/\NC F0 w|BYa=>(∀t∈ts,∃ks us,t= ACf us)|BYb=>fun b h1 h2=>(G0 ε (bL h1))|BYc=>fun b q1 q2=>by rw[ε,bL q2,bL q1]|BYd=>(by simp;split at hf<;>(rename_i e;simp [e];show Ω))|BYe=>(hμ r hr).1|BYf=>aK K F0 ds vs|BYg=>zvx F Good ε (CA as has)|BYh=>PE X tj (U7 r t)
|BYi=>fun _ ob q _ _ _=>⟨BFz,q⟩|BYj=>A_ ZT ZT BK|BYk=>ŀ Iy ((s₂.heap.push (zD ε)).UC ζ)|BYl=>ε ->Rep AG F d v ->Rep AG F d' v ->mO d d' =Κ|BYm=>W.takerIn K C ε=Ε Θ|BYn=>(KO fun p=>Axx)|BYo=>(.dK ((ks++ [kk]).zip AVQ))|BYp=>FM (by simp at hb;simp [hb])|BYq=>qV (h.2).up f|BYr=>AuN rV [(AC,UO a),(AC,Bma)]|BYs=>ε fun v hv=>AJB (BmA hv)|BYt=>AtD ADN=IO (RH "method_descriptor")|BYu=>ks.any fun k' =>(Φ (k' =k))|BYv=>am (AxC UC (AdH C CF))|BYw=>(.While c MC [] AA)|BYx=>OH (zK (zM (zG e) ALA))|BYy=>RO uH hs h|BYz=>Asv (M:=Bnc) X ε|BY0=>KS (exec (.Raise (DJ (ze AxG E7)) ε AA) BI)|BY1=>∀s,k<=s ->ε ->a s k=0|BY2=>ID EF 1 0|BY3=>ky zlh g (gX AG g)|BY4=>(AMO BmI rV pc)|BY5=>L2 hQ R'.gr IU q|BY6=>k8 (BIm (n:=ea) Nf Β ?_ ϓ)|BY7=>k9 LU RR Β|BY8=>(Sl xs l u)|BY9=>Pe (6* (AUk+1)+ AH9 105)|BY_=>Mod AG pE eI|BY'=>Inv ε Ν σ1 AN7 AOm|BZA=>zO (zq5 xs lo hi) hz|BZB=>(UU j (Φ (ADK>pv j 0)))|BZC=>br (b≠T) (ε).IN M_|BZD=>∀b o,AVE ->BB ε Ahd mB NU ζ|BZE=>zD (Blx i (Z3 i))|BZF=>AG1 _ _ _ rs a ε|BZG=>(At s6 I6 ED)|BZH=>uh Ah0 (val i)|BZI=>gI (AMJ BH (.o_ ps))|BZJ=>US fU CX k f fd ps ε|BZK=>∀A' :BM,A'.handled=Θ ->ε|BZL=>(gS l Ad3 k)|BZM=>bV ε (At r s6 ED)|BZN=>∀s∈jI (kW Ξ),ε|BZO=>lh Rh e1 q|BZP=>qD (jz SA h)|BZQ=>z_ (ADz (Jw ε (Ge aR)) Ly)|BZR=>ŏ (newList []) pV|BZS=>∀(h1:ε a b=AC)(h2:a≠b),_|BZT=>aZ P w ε j_ b u|BZU=>∀u,Hx A4≠Ε u|BZV=>by rw[xt,Ff,ε (Co h)]|BZW=>by rw[Aem,EN,AG_]|BZX=>ds= [gZ.d c S b,Aw1]/\BnN/\ε/\ζ|BZY=>X0 GY (Sz 1900 (N9 j 0))|BZZ=>ŗ (ATK EV u)|BZa=>mM (hz _ (Wc hj))|BZb=>mM (MA (ε j (UI hj)))|BZc=>(Į ts).ABW f=Ε (.JE d)|BZd=>mh (UR i j)|BZe=>AHu (mr k s)|BZf=>⟨ε,_,c,hv,CL BrX hg⟩|BZg=>AC_ h1 itv h2|BZh=>ğ (Bn q (nomatch q))|BZi=>(B3 (j<0) (-j) j)|BZj=>(AMx (sv/\í/\AHd A9 a))|BZk=>Þ (i^ABS)|BZl=>aZ P w H (ATV mS) M1 ε|BZm=>Cb H b (.frz (ob b))|BZn=>∀i h,tn i h ->lm (Axw sj)|BZo=>ua (storeName BO x u)|BZp=>⟨z,H,I,qj,q⟩|BZq=>U7 (ε K g) (ae Vd t E) σ H Q|BZr=>fun o=> !(Φ (q<o))|BZs=>ε c o (I.cne x c e) hc|BZt=>sB NV (MT H') (MT AhF)|BZu=>ώ t es Bn0|BZv=>by simp [el1,el2,hl]|BZw=>by simp [qD,sX,jL]|BZx=>(.ALJ OI Ahn p_)|BZy=>fun σ H R=>tl σ H (Ń x (∃a,YE/\ ((ε)\/ (ζ))))|BZz=>XB AcU 3 ZY ZL|BZ0=>XB Aco 3 Z_ Z7|BZ1=>XB Ac1 3 GB ZS|BZ2=>GM m h (Bnq*f h) ε|BZ3=>GM Ag3 h (AJF*x h) ε|BZ5=>pG P w H' j_|BZ6=>ε c t ds (fun t d=>d= BS/\P t d) E|BZ7=>ac a b=AvA|BZ8=>AIh (.Dict [] [] AA) ε|BZ9=>AEJ (∃bs,sW xs=Ε bs/\P (.bl (ε id)))|BZ_=>BG6 A s u v ε|BZ'=>ANp (L3 H' AwC) Q|BaA=>(A3 (yhi (i:=1) Β Do))|BaB=>DC [Tx,WN,ε,ζ] [Tx,WN,η] θ|BaC=>ANx w AWK (.AL (uF bs (v w)))|BaD=>ANx Cl Aw2 ACp|BaE=>MX x c e z|BaF=>zzu I S hk e|BaG=>(AI9 (Bns yf9) g9)|BaH=>AU0 dd2 (.seq ABs n2) ε|BaI=>by obtain⟨AY,rv,pl,hz⟩:=QQ hq;show Ahu|BaJ=>(z9m Η q hq)|BaK=>⟨Ξ,Β,zqc uq,Τ,ε⟩|BaL=>∀h',AMp h' (ADf CF) ->ε|BaM=>V ->V ->V ->Ŀ Hp Hp|BaN=>Gr F2 H' AIH AN7|BaO=>AOq (Ago OI f) (ε C i f ζ)|BaP=>AOz (i< De AL9 AHA)|BaQ=>∀(APF) (t:cW) (E:XW) (σ:St) (H:Hp) (R:ANu),_|BaR=>Ava hx ha hx|BaS=>AN×Agk×Agk|BaT=>AxM*AdJ AJK|BaU=>Adm [] AhW tF|BaV=>⟨hr.1,AI4 (wpAny_point (z7 ?_))⟩|BaW=>∀{w h:Μ}(hh:AIF),_
|BaX=>∃d,AIb xs d/\P d|BaY=>AWm (Bmf (AdH C D1))|BaZ=>MV DL h AOy 0|Baa=>∀b ps,b9 (.Ms ps) ->∃more,NC H' (.Ms (ps++more))|Bab=>∀b,zw ->¬XE ->RF F1|Bae=>XB Acw 1 d5 ZJ|Baf=>XB AKz 1 kD ZD|Bag=>XB Ac_ 1 Asq V8|Bah=>XB Aca 2 kF zdt|Bai=>XB Acz 2 LZ TY|Baj=>XB Ac5 2 ME zdd|Bak=>wpAny_getItem_heap AOi ε dd hp ?_|Bal=>AWy ((m*m).KF 2147483629)|Bam=>∀v,v∈ws↔ (ε)\/v=ζ|Ban=>NH (load _) (BGT hS' ?_)|Bao=>AXC (u' w=u w)|Bap=>AU_ AA_ 1 Afr zbb|Baq=>AU_ KG 2 Afr V7|Bas=>AU_ d_ 3 Afr zb1|Bat=>z6 (ALs ho hd A0 ?_)|Bau=>Ag2 (ε AG C fl sp)|Bav=>Avt AcX 1 T7|Baw=>Avt AcY 3 Z4|Bax=>Avt Acr 8 zez|Bay=>AhC (Cj.mK b o u eb)|Ba0=>∃f fd,ε/\AJG/\AV_/\AOg/\ANc JU/\ζ|Ba1=>Av3 (z2l xF _) (fun p hp=>AGk p ε)|Ba2=>∃t,KK e=Ε (AO' t #[])|Ba3=>fun c ε r z=>(Bnr r)|Ba4=>fun DS c d Eg=>ε|Ba5=>by show(Bc AG6 FU σ).Zs=N'.length|Ba6=>Calls.Name_function_global ALB hg ε hd|Ba7=>au N ps KB|Ba8=>Aha (∃o AH,b9 Ê/\NC H2 PU)|Ba9=>[LZ,kD,xh,WN]|Ba_=>(max (dh i) (dh j))|Ba'=>Po ⟨o,e,ex.1⟩ a e2|BbA=>(gE (qq ADP H' (F' b)))|BbB=>∀(X:Cx)(id:KA)(r:AXK),_|BbC=>⟨_,_,_,_,Β⟩|BbD=>ϝ AIj f Ki (f n)|BbE=>⟨sl,o,e,p1,hc⟩|BbF=>D_ tj (aq (Gh C fl sp) t)|BbG=>(hg x).mpr (E6 ⟨f,hf,q,ε⟩)|BbH=>by simp at h1 h2;show AJJ;show Av8|BbI=>∀{EF:ADm}{f g:ACy},_|BbJ=>∀{rs:FR}{f g:Row},_|BbK=>⟨Ť (AwA/\i<Ġ),fun i H x H' =>ε,Ť (AwA/\Ġ<=i)⟩|BbL=>(m3).at (ţ (hk I A0 o e))
|BbM=>(by
 rcases Cn q with q | q
 ·show L7 q hc
 ·exact zQ _ q)
|BbN=>∀(K:AB) (x FD:Μ),_|BbO=>AiH (∃a xs,vs= SB/\nY K H1 a xs/\ ε)|BbP=>EqD A s v u (mO d d')|BbQ=>Aq GE X.w AG pE eI X.A M3 ε ζ|BbR=>(BFo T0 AdF pg w os)|BbS=>AHE [qD (ANk),qD H]|BbT=>APB ε (pb "set.scan.the-table-gave-way") (IO ())|BbU=>fun m a b=>(AHm AWq)|BbV=>fs ANn p/Ahr*fs s j|BbW=>AVP 46 15 - 9|BbX=>AVP 47 21 - 4|BbY=>AdK kp hle n1|BbZ=>AdK Ag9 HT n2|Bba=>zo9 (k:=ε) (ks:=ks)|Bbb=>WG (fun e:g=f=>ε)|Bbc=>rY.k (k:=kk) ea|Bbd=>aA aR (aA aR (LL aR ε))|Bbe=>HG AcN 1 AyR zde|Bbf=>HG Acb 1 AiO Zw|Bbg=>⟨AxK,H',I3,Β,q3⟩|Bbh=>Adm AG ε c=Ε b|Bbi=>RY ns B6 AY Au ε ζ|Bbj=>MX h' tk hS PP|Bbk=>XB Ack 4 LZ TV|Bbl=>XB Acx 4 "two" T4|Bbm=>XB AKx 5 LZ TX|Bbn=>XB Acy 5 kD ZF|Bbo=>by subst hq';rw[BnM] at h1;rw[ATJ (gS xE AKq _)] at h2|Bbp=>bv ES (AWD (qi b) (fun u Iy=>ε) ES)|Bbq=>⟨q,ns,Β,gQ,ε,IE l2 ms hl2 hp hs⟩|Bbr=>lr 1 (AVP 53 4)|Bbs=>lr 2 (AVP 48 3)|Bbt=>hV (num at_+ ε*KC (Κ&& ! AC)) 26|Bbu=>VU 3 qU aR (AU7 ε)|Bbv=>gN P9 P_/\fb GJ P_|Bbw=>gN SY SW/\fb GJ SW|Bbx=>fun us s1 ⟨xs,H1,I1,r,z,q⟩=>(CI BnI)|Bby=>∃z:Ψ,ε=BE z/\BFR<=B|Bbz=>∀ms:Υ,AwK ->(ε) ->P (Q1 .AO)|Bb0=>AxR tF BqA (DJ ADN)|Bb1=>(Af6 K2 AfD [] GW)|Bb2=>(Af6 K2 Avj [a] p_)|Bb3=>⟨Ξ,_,_,ε,Mp,⟨uq,mk,c_ ζ⟩,Β⟩|Bb4=>∀{K:AB}{c:Cls}{a:Ζ}{ds Q Ex}(h:ε c ds Q Ex),_|Bb5=>(Θ A (Bn3 hw') eb').WI|Bb6=>(Θ A' hw eb).WI|Bb7=>HG Ac2 4 [LZ,pd] ZV|Bb8=>HG Ac3 5 [LZ,pd] ZW|Bb9=>(Agh Rep (VA l1 h1 q1))|Bb_=>Un ADp [] H1 AOx Ade h2|Bb'=>(k a zY _ e3)|BcA=>⟨F,Γ,D2,R.base,h,k.base R.gr⟩|BcB=>Jz K x ε st f fd (BQ T)|BcC=>BmW (ANq WJ) (ANq D.bk) (ANq D.ct)|BcD=>BmW (Av1 WJ) (Av1 D.bk) (Av1 D.ct)|BcE=>fun i a b z1 z2=>by simp only [z1,z2]|BcF=>ATF (t' :=ATC) (NO zC) HT ?_|BcG=>Axu ε (ζ (b,o) (zQ _ Bmz)).1|BcH=>Ax6 (YN t' (FX t')) (L3 Cx (E AF Cx))|BcI=>∀(ho:Avp op AV8)(ha:X2)(hb:Ŷ)(hm:Agx),_|BcJ=>∀{K:IL}{x:Μ}{st:AT}(h:ε K x=ex x x st),_|BcK=>∀{K:IL}{x:Μ}{g:FS}(h:ε K x=Ε g),_|BcL=>AyH Nk Hj AF|BcM=>ACW J4 GA Tx 4 AM_ zb2|BcN=>ACW J4 GA jb 1 AM_ zbn|BcO=>∀(Bmt)(r:AVM)(k:κ),_|BcP=>∀(Bmt)(r:AVM)(k:κ){y:V}{u:AI}(ry:NX),_|BcQ=>SR K F1 H F1 H σ (gH Γ)|BcR=>SR K F1 H1 F1 H1 σ (oR Γ)|BcS=>BB BnC (sp ds Pd Ex) ((ε)) Bme (AyU ζ)|BcT=>AIt h ->ATp c h h' ->it≠c ->AIt h'|BcU=>∀(AyW) (x:Μ) (C:Ζ) (fl:Μ) (k:Δ) (ps:Υ) (sp:ε),_|BcV=>BHN (t' :=s'.toks) I1 hex os Hb un D7 FW.1 fl.1 inB vL (AuE Tj)|BcW=>BHN (t' :=s'.toks) I1 hex os Hb un D7 FW.1 Tn.1 inB vL (hW AuE Tj Y7)|BcX=>∀k,GZ ε (fj ((ζ f).xl k))|BcY=>∀tk,Q (Á b) (Auu tk)|BcZ=>g<wd (oV qs) 0|Bca=>∀(IJ:m_) (cs:ϗ),ε|Bcb=>Xp K F H H' dx fs ts|Bcc=>_2.upd AIH p AgY|Bcd=>AeF ADg 2 BH|Bce=>(by refine(?_:a∉ABM);rw[hex];simp)|Bcf=>(ĭ AH k y)|Bcg=>(Er ę L f)|Bch=>ε ->G2 ->D3 (AhT) XW|Bci=>hq H1 (ABj s2)|Bcj=>(zoc (hf c hc) (zK (ε c hc))).1|Bck=>k b A7 F2 H2|Bcl=>ŀ s3 (BG2 (bi "slice" #[vl,vu,BH]))|Bcm=>fS z (f_ z W4 b)|Bcn=>∀h' e,ε ->(∃o,ADQ e/\AVp BH3) ->Ah6 Sr|Bco=>(by rw[GV,BqQ,ALa];show Ω)|Bcp=>al AF[i]? (Ε AI8) (g xs ds fun ys=>ε)|Bcq=>fun z E cx=>O8 (EH ε hg hm FY hs) ζ|Bcr=>ay Ax' (zzq C fl sp t)|Bcs=>MX s us X hl|Bct=>XL QY (p.2= S_ ->ε CS=Ε cc\/ζ CS=Ε S_)|Bcu=>ATq h' CF x y
|Bcv=>∀DI:AQ,Ĥ DI ->BnA ->ε|Bcw=>BindsTo.of_defaults Β (X _ _ hT) Β Β|Bcx=>(B3 (a<0) (-a) a)|Bcy=>BnB (Afz ATB ABV (AvT D1))|Bc0=>ī x ((B3 AyI Agl (n,k0))::_)=_|Bc1=>fun b hb hc=>(hnc b hc).2.2 i (BA b hb)|Bc2=>∀{x:V}{u:AI}(r:ui),_|Bc3=>∀{op:CmpOp}{r:R2}(ho:jR X (ALG op) r)(ha:å)(hb:AOE)(hm:Agx),_|Bc4=>j8 F0 F b=Ε u
|Bc5=>(by
 rcases hq with Β | Β
 ·exact ε Η
 ·exact ζ Η)
|Bc6=>fun i x v e1 e2 e3=> ?_|Bc7=>AOs (Ago o f) E8 (ε C f ta tv)|Bc8=>(AxT (A1 (dis a AAt (z ▸ hb))))|Bc9=>∀{n:Δ}{f:ACy}{i:Δ}(h:i<n),_|Bc_=>(fun a ha u hu=>mine a u ha hu)|Bc'=>vV.k (k:=kk) ea (Ahc EN hl)|BdA=>Aeh RE h (mroOf JU) Arf|BdB=>Hf B9 w A E vs (RV xs) ε oneType'|BdC=>fun BI he b hb=>zW _ (Bpp ⟨BI,he,hb⟩)|BdD=>fun w' s3 I3 qj =>⟨v,H2,I3,qj,q2⟩|BdE=>∀(rs:BU){k:Δ}(h:k<=w8),_|BdF=>GM hs o (fY S h o*x o) ε|BdG=>∀m:Ψ,0<m ->m<ε ->m≠0/\TK (dh m)|BdH=>∃ms:BC,BI5=w8/\∀j,ε|BdI=>(names.map fun ADo=>if (Ble k&&Bld) then Agl else ADo).ABW|BdJ=>(MS IP fun k=>rD (rk AON AMF AWH))|BdK=>(Auz (upd F' D1 Aud) [(fl,v)])|BdL=>AI_ (AwL ALe o ε (Pp ob AMs) HT ?_) (q _ AEM)|BdM=>Ã (setFlight e Θ) (JP pf (Ã (handleBy e BO ε) (SP JS Ν D) e9 pf)) e9 Iy|BdN=>∀(C:Ζ)(m:Μ)(sp:ε)(te:cu),_|BdO=>(qx r g ps ms x)|BdP=>Bnt (∃a o,YE/\AO4 H2/\Q (.bl ε) H2)|BdQ=>IG (ya9 Β Β bK Β lJ ε)|BdR=>Bn1 (mL K C0/\Js K C0) (.bl ε)|BdS=>∀{Ξ cL :BU}{ms Cy :OT}(h:AJM)(h' :Ep cL Cy)(e:Bn5),_|BdT=>US Tf ε f fd C f1 f2 a1 a2|BdU=>⟨xi,"dict.values",BHG,BI1,PySem.F.type_dict_values,hT,hN,Bnn⟩|BdV=>⟨xF,I.os,Ħ,⟨AOG,AOG,ASy,Ahx,AdR,AS0,AdS⟩,ET hn' BoG,cf y c,pS,AGi,ic,ε,CY AGj⟩|BdW=>w∈ (BJ Ξ h).EL (cK Cl)|BdX=>(APK q k (q.up k))|BdY=>fun obj ES=>obj= .As CF/\ES=ε|BdZ=>∀i j F,Rep AG F (d i j) (v i j)|Bda=>by simp only [List.zipIdx_cons,List.zipIdx_nil,Bqh,List.forIn_nil]|Bdb=>by simp only [kX,q,ε,ζ,η,BpU,UE]|Bdc=>∀(f m:Δ),1<=m ->m+f<=n ->ε ->ζ|Bdd=>∀ES (P:dO),P BH ES ->AW0 ε P|Bde=>(do BGP BO n BH;unbindBehindTheSuite BO n hp)|Bdf=>ε (ho z) (ho' z) FY Mc|Bdg=>ex d.1 d.1 d.2|Bdh=>E JU Θ H1|Bdi=>ztd sV Rv ha'|Bdj=>ATp it A6 h'|Bdk=>putSet_of es' t' hd|Bdl=>(x.above y c (BGs h))
|Bdm=>by
 refine⟨BGL,r,ε,?_⟩
 have e:=Sf;show Awt e;show Ω
|Bdn=>by
 refine Bn_ (.bl (ε id)) Β
 show BoB
|Bdo=>⟨hS,by show AVS o hS;exact cz e,ε⟩|Bdp=>z06 ε TZ (PR hl) (PR hh)|Bdq=>⟨cs,t',e0,q⟩|Bdr=>AG' (X_ List.map_id ε) (ABr (CA k hk))|Bds=>aC Ag3 (jz S)|Bdt=>J.type.andThen (W.looks_mroIn X c.g.ob)|Bdu=>ε (BR (s:=AWF) fl (At h6 Tn Y7))|Bdv=>yaj (z3g (ADc (z10 ε aB UN m4)))|Bdw=>(hl.add ((h.mul (dt rs AVe)).mul Ki))|Bdx=>yH p _ pa ep|Bdy=>.pay SW [d4] [V2 (uE ε ζ)]|Bdz=>(ε (b,o) (zQ _ Bmz)).2.1|Bd0=>ε _ _ e' (n1 b n hb)|Bd1=>(MO (AsE== .class || (AsE== .module&&WH !=BpF)))|Bd2=>[Ty uV,.AO T3,.AO nG]|Bd3=>fun σ H Q h=>ε (ylh h)|Bd4=>fun ds P E=>sp ds ε E|Bd5=>NE (Ļ (fun k' y=>(AvH d)) ks xs) Bmk|Bd6=>PIg X tg Nw wi|Bd7=>ε ABX ((p,w)::P.zip vs) m p=_|Bd8=>am ((Axj Awn).UC AwN)|Bd9=>(∀d,ε≠ dA)/\∀k,ζ≠ .kt k|Bd_=>(fun v pf h₃=>z6 (ATA (z7 h₃)))|Bd'=>KS (setNext S O_ given ε)|BeA=>Wp ⟨F,Γ,P,R,h,k⟩ ε|BeB=>((Ht ws v bs).EL .JE)|BeC=>zoh AuF Qe _ e1|BeD=>ay (.ALK [.kA y py] nK spos) ε|BeE=>CS=q.1/\Pc q.2.1 (Ş (CS).EL kV)/\HP p.2 q.2.2|BeF=>NO (by show(AOB _)=_;show DF (by rw[e];rfl);exact e)|BeG=>OQ H' Hp Agq (lm ε)|BeH=>fI aq (Gh ja ZY (T5 c)) ε|BeI=>OR (zpj AH k v)|BeJ=>bv s1 (AWD (ALO v) ε s1)|BeK=>far b _ (Va he hd q n) k|BeL=>BHk _ _ b o cq|BeM=>∀x:Μ,ž ->mb x=BGC x|BeN=>∀{t:pz}(hd:BnE),_|BeO=>œ AcL ABU BGb V5|BeP=>œ AcM ME ALU yJ|BeQ=>œ AcP BGe BGf zcm|BeR=>œ AcV AGq eS V4|BeS=>œ Ach HQ Nl Qs|BeT=>œ Aci "step" ĩ V1|BeU=>œ Ac9 KG xC zf9|BeV=>qG K F' H' H0 s o|BeW=>(B3 (v<0) (max (v+ LS) 0) (min v LS))=EU ε|BeX=>EH yhe TZ ε hs hw|BeY=>(up v w q u)|BeZ=>(.AGn [.kA y yp,.kA w wp] ctx x1)|Beb=>A3 (ygr (i:=3) Β Do  ε  (BG (fW By ζ) qS))|Bec=>HG AcQ 2 [BGX,BGY] T9|Bed=>HG AcT 2 [ALY,AGp] ZK|Bee=>HG AcW 2 [ALZ,eS] Z2|Bef=>HG Ace 2 ["top",BGZ] Mi|Beg=>HG "led" 2 [Tx,WN] Zz|Beh=>HG Ac0 2 [Adn,GB] ZR|Bei=>HG Ar0 2 [LZ,KG] Z1|Bej=>HG Acg 3 [SZ,Ast] ZC|Bek=>HG d4 3 [LZ,pd] T6|BSH=>HG Arz 3 [GB,ALX] Z0|BSI=>fun g hg=>ε g (zW _ hg)|Bem=>PtI ns b i Γ|Ben=>∀q,Ð q ->NM q (yz q ε)|Beo=>(Er x L f).Zs|Bep=>∀(C:Ζ)(m:Ψ)(rs:BU),_|Ber=>∀F ds P,G_ AOD AwO (g ds P) ε (ζ K g vs H Q)|Bes=>∀(hn:ž :=by decide) (hd:Fr:=by decide),_|Bet=>{o with ABH:= .set es' (ep+1) t'}|Beu=>∀i∈ε,∃k:Δ,i=Fu/\ζ|Bev=>ygn u nw cw h|Bew=>∀{Ξ:BU}{ms:OT}{x:EZ},_|Bey=>∀(i:Δ) w p,AOY w ->FL ms p ->ε|Bez=>xN [v,ov,iv] (setItem ov iv v)|Be0=>AU_ Ě 1 (AHX HQ) zbo|Be1=>AU_ AGZ 8 [N4,Mn,Z_] zbh|Be4=>∀l,UT l ->NM l (b_ l ε)|Be5=>∀(i:Δ) x Γ,yk ds ->I i Γ ->AyC x (tb (AiG ε ζ) A9 E)
|Be6=>by
 by_cases q:k' =k
 ·rw[IF,IF];exact r
 ·rw[CO q,NW];exact h1
|Be7=>(Af6 Ĝ AfD [] GW)|Be8=>xD= .set es ep t|Be9=>yaa ε h (kn I sF r rv) (kn I sF r' ru)|Be_=>qD (î 0 (jz SA o) (Bn6 o))|Be'=>L4 bc (∃AH,Ahh/\NC H1 (.frz (ob b) PU))|BfA=>AOt (Af6 o5 AvD [a] p_) ε|BfB=>AfR ds (Bn tr Bni) Cx Cx|BfC=>fun b o _ hb _ e n=>ε b o e n hb A0|BfD=>h2.imp id fun⟨a,o,b,c⟩=>⟨a,o,Τ,c⟩|BfE=>Builtin.Slice.sliceAdjust lo hi 1 LS|BfF=>(sG (Ϙ qW AZ) (OS AR (cU gC AZ)) AOX)|BfG=>Aev _ (zO Bm8 (show ε<=200 by rw[C4];exact ζ))|BfH=>ε vs (s3.seq (s2.seq hq))|BfI=>HG Ac4 6 [GB,pd] ZX|BfJ=>AWt O8 ε TZ LE PF ζ|BfK=>∀a ds Q Ex,sp ds Q Ex ->ε|BfL=>fun b o e=>k2 b o (gf ε)|BfM=>∀{Ξ:BU}{ws:Υ}{ps:AXN}(B:Axz)(u:IZ),_|BfN=>aI f ts vs as BnZ r|BfO=>AXH D j' (t D σ H) ε (SP X Ν D)|BfP=>Un ADp [] AfX APH Axm (Bmf (AdH C D1))|BfQ=>∀(AXU)(uq:IZ)(p:AXI),_|BfR=>(AhM (Hi x/\AVi) (Gr Nk Hj F' H') Hj)|BfS=>fun x C' M7 F' H' hE gr xr=>⟨x,F',hE,gr.low sH,xr.back sH⟩|BfT=>∀(m:Δ) (u:dE),(d7 m (Œ (- u c)))= - d7 m u|BfU=>∀(c:Cls)(p:IV)(uW ws:Υ),_|BfV=>(ts.set q (ce (kY Sd k2) (AD_ (gU Sd xs k2 d))))|BfW=>ybl (Y:=Y) (e:=1)|BfX=>s.1=Cl/\r8=DL|BfY=>∀{K:AB}{F F' :Hp}{d:D}{v:V},_|BfZ=>∀x c v,AHe ->AxQ ->ε|Bfa=>ADX AHB (T ε (its.getD i T1) (gs.getD i d0))|Bfb=>Ahy Aw' (é ε) w hw|Bfc=>(B3 (v<0) (lr v LS) BnX)
|Bfd=>(by
 rcases Cn ((h i).ε (zW _ hi)) with Β | q
 ·have:=ζ i hi;show Ω
 ·exact q)
|Bfe=>∀{X:Cx}{Ν:dX}{σ:St}{H:Hp},_|Bff=>(pI f v fs).EL (·.1)|Bfg=>As2 FD KB CF f|Bfh=>(aY st).BHn y.1=Ε ε|Bfi=>(U i AOd q' Η)|Bfj=>⟨_,es',ep',hL,r'⟩|Bfk=>by show Cc p hp hp2 zE.mp hw|Bfl=>bV (Bl8 he ε I Bnh) AxL|Bfn=>HG Acp 5 [HQ,Nl] Z8|Bfo=>HG Acq 7 [eS,Nl] Z9|Bfp=>rC (S.map k) x h|Bfq=>ASi AG JU K0 =Ε (DJ Lv)|Bfr=>⟨l,ns,Β,AVa,by unfold Atu;show Ω,AxO⟩|Bfs=>A1 (Y8 (by rw[hst];unfold frs;rw[AsL,hfr,z];exact zY))|Bft=>(AO2*tb ANn j - tb ANn p*tb s j).oz d|Bfu=>(d7 m (AEV (B3 (c<p) (- AW7) (Ax9 c))))|Bfv=>HG AcO 2 [ME,Asn,BGW] zel|Bfw=>HG Ac8 2 [ME,AGo,Adf] zdy|Bfx=>AOP znn (VA p ε (fun l hl=>k _ _ l rs hl h))|Bfy=>∀{α:CB}[Arl α]{EF:ADm}{f:ACy},_|Bfz=>⟨_,_,_,_,_,_,Β⟩|Bf0=>AWW (Ag1 d v ε d Ų) ζ|Bf1=>AWW (Ag1 ds vs ε ds (Q vs H')) ζ|Bf2=>∀(l:Ζ) (ms:Υ),Ahe ->ε ->AwK ->Ah5 (Q1 .AO)|Bf3=>(Agh Rep ⟨l2,us,AOT,h2,q2⟩)|Bf4=>∀d v F' H,Bny ->ε ->ζ d ->Axg|Bf5=>∀d v F' H',tz ->ε ->P d ->Ų|Bf6=>∀{S:B6}{n:Ψ}{bs:Jn}(h0:TN∈S)(hn:AW6),_|Bf7=>⟨_,_,_,Β,Β,Β,hc⟩|Bf8=>Jz K Ğ Ğ Oo f fd (BQ vO)|Bf9=>SlX K F H H0 as C fs ts o|Bf_=>fun i a b h1 h2=>ε DU a b AOb AWk|Bf'=>HG Acl 5 [HQ,UB,Nl] Z5|BgA=>HG Acm 6 [HQ,eS,Nl] Z6|BgB=>∀{A B:Δ}{p q:AM}(h1:GZ A p)(h2:AO8),_|BgC=>∀{A B:Δ}{x y:AM}(h1:ZB A x)(h2:ZB B y),_|BgD=>∀(Bmv){k1 k2:Δ}{xs ys:Kb}{a b:AI},_|BgE=>ATf (ADb (Ava JI hq0 JI) (NO (Avm hq0)))|BgF=>AGU k s d tb|BgG=>z9u L x hi i0|BgH=>by have:=z.ins;show t_ (z2o h3) n.1;show L9|BgI=>(Ho k p a i)
|BgJ=>by
 show AxS;show Bn9;refine Rs a ε
 rintro σ H ⟨F2,A7,R2,s2,hI⟩;exact AEI R2 sL (K_ _ (by rw[lQ rs];exact hI))
|BgK=>(h r zY c).mul|BgL=>by show Cc m hn hl id pM|BgM=>[HE 60,.AL 2,.AL 4,.AL ((jn 36).KF 7)]|BgN=>RY xs Au as (EK AiM) (vP xs=Ε as) ε|BgO=>∃m xs ys,n=m+1/\ε/\ζ/\Agb (nA m x y)|BgP=>by have:=ha.1;have:=ha.2;have:=hb.1;have:=hb.2;show Ω|BgQ=>fun u e=>(AiP (hx A4 u e))|BgR=>AfY ε x C fl k ps sp|BgS=>∀(K:AB)(H:Hp)(a:Ζ)(xs:AV),_|BgT=>Awz (nsIn K jS x) Lv (ε K f x) Θ|BgU=>(fun C dx H' =>∃A9 F' x,AwZ /\FV /\Aw AG F' H H' C dx x/\ (AtT=x\/AhZ (AHd A9 b))/\E A9 x)|BgV=>RY binds AOe m ER (∀v,(x,v)∉binds) (ε ABX binds m x=m x)|BgW=>⟨q,[],[],Β,Β,gQ,Β,Aww⟩|BgX=>ñ ε (Re (Pm n r.2/\1<=Cl/\Cl<=n/\Up lt r.2 Cl))|BgY=>⟨Β,_,AWj,_,ε,_,at1,?_⟩|BgZ=>vC knd kf ADn h' CF (mU val Si)|Bga=>∀F ds P Ex,AOD ->BB AwO (sp ds P Ex) ((ε)) Bme (APA ζ)|Bgb=>⟨c,_,Β,BnO Β,_,Β,?_⟩|Bgc=>lx ds AU vs AV MZ (ds.all Iv=Κ) ε|Bgd=>¬(ε=0/\Z' B1 B1 ζ=B1)|Bge=>Aeh RE h (ALw l_ (RH Arc)) Κ|Bgf=>⟨ns,ε,Β,hl,O.perm pm.symm,CA o' ho'⟩|Bgg=>∀{P:A2}{w:An}{H:Hp}(h:AQ)(hb:AWb BFv),_|Bgh=>∀{h:AQ}{H:Hp}{b:Ζ}{o:Obj},_|Bgi=>⟨⟨R0.gr.f,ut,ε,bP q (R0.gr.n b o q n)⟩,R0.len,Bnb,R0.ap⟩|Bgj=>∀(C:Ζ)(m:Μ)(sp:dJ)(te:cu)(t:cW),_
|Bgk=>∀(hc:Ý)(hn:VI)(hi:HV)(hv:OV)(hd:Fr:=by decide)(hcd:zn:=by decide)
 (hb:Afn AVX f AVX AVX:=by rfl),_
|Bgl=>⟨į s2,Ú ε C4 ABf,cf i s,fun i j a hz=>by obtain⟨s,o,e,_,h⟩:=hz;exact f_ h (Jv i s o a) e⟩|Bgm=>BoJ (∃C,Cv.cls=C/\Ahi/\ly C Cd/\ε)|Bgn=>H=(B3 (0<i/\Axc) AO3 AiI)|Bgo=>(z0y hn hg k Η).2|Bgp=>(AM9.1+1+ (Aut AVJ 15).KF 7,6* (EU (cr AM9.2.1)+1)+ AWB AVJ 105,AM9.2.2++ [(UR AM9.1 b,if 0<i/\ AW3 AVJ 5=4 then(jy AM9.2.2).2 else Í AM9.2.1 (1+ AWB AVJ 5))])|Bgq=>{oe with ABH:= .o_ #[.As fv,BH,EO,BH,AWs,BH]}|Bgr=>by rw[show ε=ζ gs[i] by rw[wz (EQ C4 hi),AT1]]|Bgs=>AUI (BQ ε) K0 Lv/\AV_|Bgt=>show Mu 10 12 from ⟨B4,B4,B4⟩|Bgu=>∀j∈FU,j<ALi/\AK_ (N.getD j "")=Ε S_|Bgv=>by simp only [show¬(L5<0) from Τ,ALl,kQ,ε]|Bgw=>z1i uq pm.symm ho ho'|Bgx=>R1.put i (s:= ε) ⟨v,Β,nd,Ü AD' (AVz hn),r1⟩ fun a ha=>(hn a ha).2.2|Bgy=>wpAny_newFunctionEnv_cells As3 hkind (MX BI he s1 x)|Bgz=>(hn b (mem b hb))|Bg0=>zus P_ Mn Ę (Hm AR (cC ε))|Bg1=>(z2t B.nd l1 l2 (by rw[l1',l2',z]))|Bg2=>[.kA N4 p6,.ALf (AIC p7) fl p8]|Bg3=>(rk AON AMF AWH).ABR (n - e)|Bg4=>ztt (g:=ε) (μ r) (mM ζ)|Bg5=>PD M A ε Q E AH5|Bg6=>ATF kp hle (ydc ge)|Bg7=>ygy R1 ϐ (k.mono s1)|Bg8=>AIJ<=i/\i<2^62/\ AIJ<=j/\j<2^62|Bg9=>Ax (z8d By Β fu Β ε Β)|Bg_=>(ε (u:= ζ) (AIc zY) (hn a zY).2.1 (hn a zY).2.2).frzM|Bg'=>AMI RJ Ğ 7 AiN (V6 c)|BhA=>BmL/\UT CS/\CS≠WH/\CS∉js/\∀v,(p.2).ABH≠ .cell v|BhB=>fun i j k _ _ _ h1 h2=>ε|BhC=>(BGj X hcd).andThen .now|BhD=>HG AKy 6 [kD,d6] ZG|BhE=>HG Ac7 11 [ME,AGo] Uc|BhF=>IC (by rw[e];exact k _ _ F H Blv IU h)|BhG=>jk A (ix i) c
|BhH=>(by
 rcases Cn hm with hm | hm
 ·exact hb hm
 ·exact nfr b u eb hm)
|BhI=>[HQ,UB,Nl,"both","through_works"]|BhJ=>[ALZ,eS,Ę,"together",AGq]|BhK=>⟨AKt AKu,BFT [],boot_drawn,boot_toks,os⟩|BhL=>∀(te:cu)(tl th:M4),_|BhM=>L.back (ATf gr) (Ĳ NA)|BhN=>ds= [.AO h,ε,Ahs]/\tI/\AOu/\ζ|BhO=>ACO ((ATV AWw).UC AW4) t|BhP=>RY i Δ e Ψ ε AW5|BhQ=>∀a vs bs,Mb ->BB (as=ADH) ε Xs (R vs bs) ζ|BhR=>(ky qR i l hN3 hv3 hd3 Sh)|BhS=>ABe ε t0 v a1 (sK (k a (IB ha))) q1|BhT=>∀(lo hi:R_)(n:Δ),_|BhU=>U2 (ne c _ z Axq) z|BhV=>(hc Ν s3 σ H3 _ I3 q3)|BhW=>OK BmC (zxj hbt hg O ?_)|BhX=>W.callWith_K0 (first:= SB) xy hm.kp ?_|BhY=>∀{Ss Ma fs fs' :c8},_|BhZ=>∀(a:Ζ)(o:Obj)(AH:tJ),_
|Bha=>by
 by_cases h1:ε
 ·show ϖ h1;have e:ζ:=zF h;exact⟨G0 η e,Τ,θ,ι⟩
 ·show AXO (CO h1)
|Bhb=>ACW BZ ja AK1 5 (AHX "x") ZP|Bhc=>ACW BZ Hc SZ 1 AM_ zdz|Bhd=>ţ (Atx S o hw e)
|Bhf=>by
 show è
 ·rename_i hm;exact(hn b (zW _ hm)).2
 ·show LO n e' e' e' e' ε ζ η θ ι ν ξ ο π ρ τ
|Bhg=>Ū (æ y BS ε (.bl d) (al x (.bl c) (l' ζ)))|Bhh=>∀i v,ε ->AeY (val i) v=Κ/\AVV|Bhi=>(by repeat (first | show ADs he | show ADs hC | show Ah3 hC hcB | wp_step))|Bhj=>BG6 pp s is1.toArray[j] is2.toArray[j] (AyV j)|Bhk=>fore T0 topGo p w os|Bhl=>∀(K:IL)(f:Ζ)(FD:Μ),_|Bhm=>(sortedHeap h a vs out).IN|Bhn=>¬(a.1=b.1/\a.2.1=b.2.1)|Bho=>∀{k:Δ}{A:BM}(r:Ahj),_|Bhp=>dh (ε)<=max (dh i) (dh j)+1|Bhq=>As2 FD KB CF f cd|Bhr=>⟨m,hn.sameBut hsb hac,AxF ⟨_,H',I6.turned (t' :=s6.toks) (it:=C) (AHf AxP) c1 c2 Aw4 c4 c5,q5⟩⟩|Bhs=>AEP (by show DE r h1 h2 G.hand hm hz;rw[<- h2];exact hr r h1)|Bht=>(match Rr d T with | Af1=>ε | Θ=>EM)|Bhu=>∀(hc:ia)(hm:Meth AG C m fa)(Fn:AfY fU (Aez fD) k fa fd ps AwU),_|Bhv=>ft t xs (Ahm (∀p,Ð p ->NM p (yz p ε)))|Bhw=>g x Γ0 (Bn AF (tc AF (fun b A7=>(ID b ε ϔ)) j9)) j9|Bhx=>HG Acd 2 [Tx,WN,xc] Zx|Bhy=>HG ASf 2 [LZ,xc,ĩ] ZQ
|Bhz=>by
 by_cases e:l1=l2
 ·rw[WS e];subst e;exact BqK _
 ·exact SeqAt.EqAt.of_refs e rc
|Bh0=>by
 have:x≠n:=by rintro Β;exact h v zY
 simp [Ρ]
|Bh1=>∀(hA:∀ds vs,AN_ ->MZ ->AIp),_|Bh2=>AWv xN (AWM [_]) (AxX slot_list_sort (OP hoL) entry_list_sort ε args_list_sort)|Bh3=>AWz (checkCount o5 1 1 _)|Bh4=>((sK (k a (by rcases Ix ha with z | z<;>simp [z]))))|Bh5=>∀(AXX) (hd2:ì y:=by decide) (Ec:AI3 y:=by decide),_|Bh6=>∀b o,BB sj NU ε (b∉ex) ζ|Bh7=>hb (ŀ s2 h2) AOk AeV AxW|Bh8=>ATr _ _ D.TOi1 (AL1 _ _ D.TOz hTO)|Bh9=>∀i h h',tn i h ->(bS fp (∀o,sj ->ACi)) ->tn i h'|Bh_=>∀(K:AB) (F:Hp) (R:AV0) (v:V),_|Bh'=>⟨PQ t,_,.seq xs _,_⟩|BiA=>tc A7 (fun w Γ3=>g' y w fun d=>P d Γ3) E|BiB=>AeT _ _ ε (ζ _ _ c4 (AG8 _ _ c2 (ATr _ _ c3 (AL1 _ _ c1 η))))|BiC=>(MC ds vs rs I T')|BiD=>BnK (Bn kv (AhK v))=UH Bmk|BiE=>∀(hs:RI rV a [b]:=by rfl)(EE:ACZ [b]:=by rfl),_|BiF=>ACW J1 AAy GA 9 AyS Qt|BiG=>ACW J1 Nd Hc 1 Ahg Qw|BiH=>(a k k*a i j - a i k*a k j).oz p|BiI=>AJA ACx Ad8 (BQ fa) Ahb BoA ES|BiJ=>∀{P:Υ} {vs:Au} {i:Δ} {m:ER},ε|BiK=>(fun a F0 hq=>by have hA:=hq.2 Β;exact(bO  (BG (zx6 hA Β gV UN) (AWh Rj))))|BiL=>QS (AG5 b0) F0 H0 (.Raise (DJ (ze AM' APE)) (DJ (.AsV BH j cp)) AA) (zus C f1 f2 t)|BiM=>Axv (zO (Wb (BoL j)) (mx ε Η))|BiN=>Ax7 (Iq b ob e).stay w' ((hs.2 c ?_).EC q)
|BiO=>∀(ho:Avp op AV8)(ho' :Avp op' (sy AG g'))(ha:X2)(hb:Ŷ)(hc:D_ c tc)
 (hm:lastMarks [op,op'] [b,c]=AC:=by show AUf),_
|BiP=>fun c ob q n hc hx=>ε|BiQ=>ε q ZI (Boy p.main.body) Xt Κ s|BiR=>∀(lt:uk)(p:ue)(r:Δ),_|BiS=>∀(AH:Õ)(k:κ)(v:V),_|BiT=>∀(hN:eJ)(hi:HV)(hx:AEH),_|BiU=>[.AO Gq,.B_ (Ht ws' _ _),_]|BiV=>hJ.2 i H' F' sF R'.g hx'|BiW=>zj AG sp ε H1 Q (AhM (E AF x) Ax5 H1)|BiY=>⟨F2,A7,_,R2,h2,fun u Γ3 F3 H3 R3 s3 h3=>ε⟩|BiZ=>zi6 (zpp (IB (AS' hc)) hsm ε Η fun Hd h1 tk hv A8 PP=> ?_)|Bia=>∀v,isW Ξ v ->ŉ v w ->oF r g (Cu Ξ ADy v)=Θ|Bib=>⟨Τ,h4,fun j a b=>h5 j Η b⟩
|Bic=>∀(hc:Fs)(hg:BmH)(hm:BmE)(ha:ANz)(hb:Bml:=by show fF)
 (he:AXR:=by rfl),_
|Bid=>Jt A4 J AO5 (gX K g) (tX K tc) (ε K ζ) Q Axs|Bie=>∀(A:BM) (i:Δ) (s:AD) (Q:dO) (E:dO),AW2 ->NM it s ->BnT|Bif=>⟨x,H1,I1,rx,F1,AF,d,R1,sF,rd,q⟩|Big=>BoF ⟨F5,Γ5,R5,İ (BHt (s4.trans s5)),q⟩|Bih=>BoH (ε d v F' H' Bm9 ζ h)|Bii=>show(EU (qK t ε)).eR=qK t ζ from kQ _|Bij=>(AI1 - x DL) - aC (gA Ξ Cl) AvU/ BE (AMT gA Cl)|Bik=>.of_wp fun B9 w A R s h=>ε|Bil=>BFo T0 AdF pg w os|Bim=>I.call' os un D7 Hb AwP|Bin=>zv8 S hr.hd e0 ε r x|Bio=>⟨i,sl,o,q,e1,hb⟩|Bip=>∀(hu:VC)(hi:Ag4)(ho:AWN),_|Bir=>∀(he:VT)(hl:GH QO lo tl)(hh:GH QO hi th),_|Bis=>∀(m:Ψ)(ks:dL)(us:GS),_|Biu=>Xw K g x y H Q|Biv=>∃od,ε/\∀D5,W.lookIn D5 od=Ε (mA D5)|Biw=>∀{rs:FR}{DS Eg:DD}{c:Δ}{f:Row},_|Bix=>LeftO ε q ZI ζ (Bn s AyN) good 40000|Biy=>∀(X:Cx)(tg Nw:AJ)(wi:TI),_|Biz=>(fV CX P w K mg DI N FD KB f cd A Ch s H E)|Bi0=>fun s' A4 c' hm hS' Ķ=> ?_|Bi1=>G_ (dx≠x) (F7 H' (XO x C (DJ dx))) (H' dx=Ε ε) (∀b,b≠x ->b≠dx ->H' b=ζ b) AwC|Bi2=>[SZ,ALZ,eS,Nl,HQ,Ě]|Bi3=>⟨ε f,ζ,AXD,iA (Wj (gs k) Bnf Χ),?_⟩|Bi4=>GM (AXM fun b=>AJL) b (φ (Ap b)*g b) ε|Bi5=>ACW Sw Hc AA' 2 AXS V9|Bi6=>flat d d' v h r r'|Bi7=>Ä ⟨F1,ds,_,JI,r1,h1,ε⟩|Bi8=>∀{n p M N:Δ}(Au9),_|Bi9=>lx xs AV us Au mI BnL ε|Bi_=>HG Acf 1 [Tx,WN,ATE] Zy|Bi'=>HG Acv 4 [ALY,AGp,"x"] ZM|BjA=>ŧ (ώ tl l (th A7 (fun u Γ3=>(al d ε ζ)) E))|BjB=>hs i x σ _ (y xs q) p|BjC=>ae Ka F H σ Γ F1 H1|BjD=>∀(AVR) (F0 H0 F H:Hp),_|BjE=>∀d A9 F' H' v,BB AwZ FV Bnv (P d A9) Ų|BjF=>zio (KB:=sc) (BI:=BO) QY ε
|BjG=>by
 show Cc u hu ru (ALP (i:=i) (x:= ε)) (Bm' MH iX)
 rw[hv'] at hu;show AE hu hu hu hu hu hu hu hu hu hu hu hu hu hu;exact ζ
|BjH=>fun s i j C hT=>e.ask s i j C Ah_|BjI=>BR (s:=AUO h4) held (At h5 fl Tj)|BjJ=>∀d z F' H',tz ->AMf d z ->P d ->Q z H'|BjK=>(by simp only [Rep] at r;show AI0 a vs h1 r;(show Av5) <;>simp only [Rep] at r' <;>first | show Av6 | show Av7 | (obtain⟨_,_,z,h2,_⟩:=r';show L6;exact(zv6 I ε ζ).WI))|BjL=>∀(AXW){e:AJ}{tn:qt}(he:AJD),_|BjM=>∀a vs,BB Mb ε Xs (R vs) (ζ F ks R v)|BjN=>fun i s Q E hi st hQ=>ε|BjO=>∀A9 F' H' DB,ae SR F' H' DB A9 ->FV ->P A9 ->Aw_|BjP=>∀{x:Μ}{v:V}{u:AI}{AA:AS},_|BjQ=>∀(Axl){σ:St}{Γ:G2}(R:GU),_|BjR=>US Mk2 WE ja ZY 4 AxB (T5 c)|BjS=>US S8 SY SW d4 4 Ahf (V3 c)|BjT=>fun s Q ε h2 hQ=>W.kas_kind (T:= ζ) h2 (bv hv ?_) Χ Χ hQ|BjU=>∀(Bmv){k1 k2:Δ}{xs ys:Kb}{x y a b:AI},_|BjV=>Bmw (Su CS=Su p.2/\(CS).Sc/\Su CS<=du/\∀h,h∈CS↔h∈Ł yK)|BjW=>∀(AyP)(ns:Ahp)(nh:ASY)(CC:Axh),_|BjX=>fun c o c1 c2 c3 c4 e=>ε|BjY=>TrY h B e cls dd fl|BjZ=>∀{l r:Pt}(h:l.1<Cl)(h2:l.2<=r.2),_|Bja=>Fm (∃(S:B6) (n:Ψ) (bs:Jn),ε)|Bjb=>U_ (EU ANW==0&&iE==1) ((Aga - ANW)==Si)|Bjc=>Sl (KO pD) AU3 Θ=Cb ABK 1 pD|Bjd=>fun es A7 F2 H2 vs R2 s2 r2 h2=>⟨F2,A7,es,R2,s2,r2,h2⟩|Bje=>∀(C:Ζ)(f:Μ)(ta tv:TE),_|Bjf=>ANm D7 eb ε (hZ q Bmr) fun c xs q=>Bmr|Bjg=>nC (L8 f) (L8 g)=L8 (GL (.DZ [f i,g i]))|Bjh=>fun Hd h1 d tk hk hm A8 PP=> ?_|Bji=>z6 (zne Bnw Bnj hx fun g2 q1 hs2=>AIk)|Bjj=>⟨EO,eσ,a,oe,dx,_,v,Β,R.g _ _ ea,eo,R.g _ _ ed,lv,ε⟩|Bjk=>BoE (hQ d v F' H' gr rv q)|Bjl=>BoM (ho Ν s2 σ H2 x y v u Q I2 rx ry q)|Bjm=>{s with heap:=h',drawn:=d,toks:=tk}|Bjn=>ĭ (UH vs) k v=(ε ks k).zip ζ|Bjo=>by have x_:s.heap.IsTupleIter it l i:=hit;show TD o ho hc hd x_;obtain⟨ol,hol,_,nl,hdl⟩:=(FA (Bpo l xs) hl);refine z6 (Adv (D5:=AgF) BH2 Bqs (Afp Bqs BH2 F.entry_tuple_iterator_next F.args_tuple_iterator_next_1));show BD (?_:AXA (field ANZ 0)) (Bms AWf);show BN (Bmb (Avg (WF l)));refine Bms (Ŕ i);refine lL Atk hol hdl;simp only [kQ,hx];refine ε|Bjp=>[.AL' (DJ (LJ x1 np1)) (DJ n) (b1::Bl) hp1,.AL' (DJ (LJ x2 np2)) (DJ n) (b2::Bm) hp2]|Bjq=>⟨F0,iK N AWx,_,XF sF (qF IU rs),hq a ds Pd Ex hsp,ε⟩
|Bjr=>(by
 rw[AL4] at nd;rcases Ix hx with q | q
 ·exact nd.2.2 x q x zY Β
 ·exact AfM nd.2.1 q)
|Bjs=>fun ε Ν s σ H Q I q=>h ζ Ν s σ H Q I BkR
|Bjt=>(by
 refine ε;show AIz r l (hl i x v e1 e2 e3);refine DM u r;rcases l with l | ⟨k,c,e,z⟩
 ·show E5 l
 ·show HL ⟨k,c,e,ζ⟩)
|Bju=>∀{op op' :CmpOp}{r r' :R2}(ho:jR X (ALG op) r)(ho' :jR X (ALG op') r')(ha:å)(hb:AOE)(hc:PE X c tc)
 (hm:lastMarks [op,op'] [b,c]=AC:=by show AUf),_
|Bjv=>∀(hu:VC)(ha:X2)(hb:Ŷ)(hs:GP b:=by exact AI6),_|Bjw=>∀ms x ws u,AJN ->AXT ADy ->ε ->AyK ζ|Bjx=>fun Γ3 F3 H3 σ3 R3 s3 q3=> ?_|Bjy=>by rw[W.osa_eq,refuse_eq];refine z6 (z6 (Bmh hm ?_));rw[yA,Bre,zjs _ ht];refine z7 (z6 (Bmh (Asv X hn) AxZ));show Cc cd' hc' hd' W.any_some c.hd;obtain⟨oc,od,oda,osl⟩:=o;subst hc hd;refine BnH (Bpv hx (z6 (Auw (BGj X hc') ?_)))|Bjz=>mo (AUm h1 (fun l A7 F2 H2 R2 s2 h2=>ε))|Bj0=>fun xs H Q=>∃p ys,xs= Ahl/\ (nY AG H p ys\/vR AG H p ys)/\ε|Bj1=>∃as fs ts,Aht/\f∉fs/\Axd/\GQ AUy=Κ/\ε|Bj2=>∃i vs DB H',Inv APJ [] DB H' s' /\Bm7/\ Agq/\ε|Bj3=>(kS (kS (kS hl2 AL1 D.l2z) ATr D.l2i1) AG8 D.l2TO)|Bj4=>k l _ (AWc hlt2) hms (zvp a2)|Bj5=>∀(d:D) (v:V),sX d ->OU ->u7|Bj6=>∀(ds:AU) (vs:AV),AN_ ->MZ ->AIp|Bj7=>[ě,eA,BGS,"dict_reverseitemiterator","odict_iterator","itertools.zip_longest","itertools.pairwise"]|Bj8=>if ε then Ļ (fun k' y=>(AvH x)) ks xs else xs++ [x]|Bj9=>z15 I S ε i x v h1 h2|Bj_=>∀{g' :ϕ}{t' :Δ}{d' :ASz}{ch:B5},_|BkA=>∀(Fn:Ag2 AwU)(hr:sx)(hb:AJI)(cx:Ae7),_|BkC=>by show C6;obtain⟨a,vs,Β,h1,h2,h3,rs⟩:=r;refine DM EO Β;exact VA a (ACa ε) (ATl s1)|BkD=>fun Γ3 F3 H3 σ3 R3 s3 hz=>(YO m' l w3 hz ⟨m',l,F3,Γ3,R3,ABj (İ s3),w3⟩)|BkF=>⟨F2,H2,F3,Γ3,_,R3,q3,fun b Γ4 F4 H4 R4 s4 q4=> ?_⟩|BkG=>AyA (EH Q9 (ε hc) hg hm hb (Mv inner U5 he2) Χ Χ he2)|BkH=>∀{K:AB}{F:Hp}{a:Ζ}{vs:AV}{xs:AU}(hq:Axk)(rs:tP)(hz:AOZ),_|BkI=>∀(c:Ý)(n:VI)(he:PE X e ta)(hb:AUi f),_|BkJ=>M2 X o "get" KM e f GW|BkL=>(ALc kg (X.A.mark (Ε EV)) (.handlers EV [.AL' Θ ε AVd hp] BO) (qr Iy (match r with | .ok f=>ζ | .kH x=>cameBackBy kg X.A BO e9 x Iy)) AWF)|BkN=>⟨a,dx,vs++ [v],ε,Β,Β,gQ,?_,DT LQ,YW,?_⟩|BkO=>∀{P:A2}{w:An}{K:AB}{mg:ER}{DI:AQ},_|BkP=>zu5 (BI:=BO) (Ch:=ABL) (I1.ok.frames.trans (T_ Ε hst)) hfr (U' hst FW) (At h4 held Ti)|BkQ=>Ka AG F0 H0 F H σ Γ F1 H1|BkT=>BIQ SF.slot.plain SF.entry (@W.check_slot RE _ _ AfH Arx Arc AdA ε ζ η _ θ ι ν ξ ο)|BkU=>∀(hu:VC)(ho:AWN)(hi:Ag4)(hs:GP i),_|BkV=>∃dx,a=Ε dx/\qo pp (Brf dx (.AO D5 t) D5 v) (uB fin (Ax0 BH/\ANJ)) AU5 s'
|BkX=>by
 simp only [BG5,Z',BqJ,show iE>0 by decide,xk]
 by_cases h:i<0
 ·simp only [h,xk]<;>(show qA)
 ·simp only [h,ALl]<;>(show qA)
|BkY=>NH (richCompare .Lt _ _) (wpAny_richCompare_same (AtB _ ε t) (AtB _ ζ u) slot_str_lt (call_str_lt (CI C_)) Β)|BkZ=>by ·have:=Cj.free b o eb n hx;simp [Ρ]|Bka=>ŏ BmC (zx5 (ep:=ep) hbt hg O hdr)|Bkb=>I2.call' (s' :=s') os un D7 Hb AwP
|Bkc=>by
 show uA AIW VO VO;show BD Ax_ (lL BrE ho hd);have hown:Builtin.Dict_items.ownsTuple BI3 =AC:=B4
 show BV (AH6 _ (AOB (Avg (WF d))));show BN (Bmb (Avg (WF d)));refine AIW;show Bmu Br8 AIW;show Bmu Br9 AIk
|Bkd=>(kI (kI (kI h2 AL1 D.i2z) ATr D.i12.symm) AG8 D.TOi2.symm)|Bkf=>[N4,SZ,d5,d6,AGX,pd,Mn,"dealt"]|Bkg=>AJH (∃p xs i v,x= .As p/\y= .AL i/\ε/\AIb xs v/\Q v H)|Bkh=>∀{BI:Env}{s:AD}{f:Ζ}{y:Μ}(Bno),_|Bki=>∀(a it:Ζ)(o:Obj)(AH:tJ)(ep:Δ)(R9:Bnu),_|Bkj=>∀{x:EZ}{L:Υ}{f:ANM}(O:Es x L f),_|Bkk=>BB TB A2 An Δ (BB fc Δ AD Thread ε)|Bkl=>AeL (z1u (f:=f) xy M.makes M.init (AGr M.fn) ?_)|Bkm=>by show C6;obtain⟨a,oe,dx,vs,Β,e2,_⟩:=r;refine DM EO Β;exact IS a oe (s1 _ _ e2)|Bkn=>⟨CF,_,_,_,_,_,GL (ĸ i AC),Β,BoI,zvq pl,fun i v s' Q' E' hv hQ=> ?_,md tk kp⟩|Bko=>∀{x:EZ}{L:Υ}{f:ANM}{r:Μ}{ε:AM},_|Bkp=>⟨EO,e1,.DV ⟨Β,vs,ACa h1⟩,F,Γ,_,R,h,fun ds AF F1 H1 us R1 s1 r1 q1=> ?_⟩|Bkq=>staticsOk (Boy p.main.body) (AKt AKu) A6&&namesBound p A6&&gensDone s&&laidKept (AKt AKu) A6|Bkr=>fun l is ws hrs hn pm od hix=>k _ _ l hrs hn (h _ pm ?_)|Bks=>∀(kV doc pm:AI) (an:OW) (cdv ct:AI) (ε:ζ),η|Bkt=>∃l xs ws F Pd ds,v= .As l/\H2 l=Ε Awv/\fR H2/\Ò xs ws/\AxY/\g xs ds Pd/\∀ys us,Ò ys us ->Pd ys ->Q BS (upd H2 l (E3 us))|Bku=>⟨⟨oc,od,_,_,_,_,_,_,sl,ε,e,c⟩,k⟩
|Bkv=>(by
 rcases q with ⟨k,e⟩ | ⟨k,c,e,z⟩
 ·refine .DV (CI k);have:ε:=SG (hj (zte hN ζ (e ▸ η)));simp [Ρ,e]
 ·show HL ⟨k,c,e,AyT⟩)
|Bkw=>(fun h' c' kp e=>fin AY r' hz h' c' kp e)|Bkx=>ACd {s with heap:=h',gens:=g',drawn:=d',toks:=t'}|Bky=>∃h' tk A4 c',Avu ADh/\s' =mE/\ (cy AhY (LM (ϙ kO)) ACi)/\AyD A4 c'/\ItemsOf AyM A4 FE|Bkz=>zyv (fun r:Rw=>UQ) (B:=2^100) (l:=AM3) fun r hr=>AGg (L.mm r Ah7)|Bk0=>∀{K:AB}{F:Hp}{a:Ζ}{o:Obj}{ks:EA}{vs:AV}{xs:AU}(e:AIT ANf)(EN:Xs)(rs:tP)(hz:D6 (De UH vs)),_|Bk1=>[ME,AGo,"_law_due",Adf,Bp1,"_law_book","_law_work","_law_hand","_law_mark"]|Bk2=>∀(c:Ý)(n:VI)(ha:PE X o ta)(hv:Axo)(hs:Bnx),_|Bk3=>fun t v as F' H' gr nd hn rt hp=>kk t AF F' H' v as AOr Ah2 nd (sK (Axt (AIc ha) (hn a ha).2 (hn a ha).2)) rt hp|Bk4=>(.of (owner:= AL5) (n:= ε) (by show BmY;kernel_rfl) Uf Uf Uf (by first | show E5 Uf | show HL Uf) BnW)
|Bk5=>by
 refine ε mT (c:=x.cps[i]) Aw7 (md fA sb)
 have I1:yT (AMR AHn):=AfL (Asj (t' :=AHn)) (Aux sb);show TD o' e c d fA;exact RU (Q5 (s:=AMR AHn) e c d Χ ⟨.AO (sN x.cps[i]),H,I1,E4,⟨Β,_,DT hx,Β⟩,⟨hx,fA⟩,AO1⟩)
|Bk6=>∀{X:Cx}{Ν:dX}{σ:St}{H:Hp}{s:AD}{ε:ζ},_|Bk7=>fun Ν s σ H v u Q I r q=>Afg v u Q I r (L2 hi q)|Bk8=>ε (As2 FD KB CF f cd).ABX (Ado us) Awx
|Bk9=>∀(hc:Fs)(hg:BmH)(hm:BmE)(hg2:Gl X Mo)(hm2:RS Mo)(ha:ANz)(hb:Bml:=by show fF)
 (he:RI [a] a []:=by rfl) (he2:RI [.Call AvD [a] [] p_] Axa []:=by rfl),_
|Bk_=>∀{t:AN} {h h' :AQ} {l c:Ζ} {ws:Kb},ji t h l ws ->ATp c h h' ->l≠c ->ji t h' l ws|Bk'=>∀{E:dO}{Ν:dX}{s:AD}{σ:St}{H:Hp}{x:Μ}{u:AI}{AA:AS}{Q:dO},_|BlA=>by show uS [ou (stT c _ uW ws _ AM4 AxA u)];unfold stT;rw[nJ.dn]|BlB=>⟨EO,e1,a,C,dx,_,Β,ea,hc,hn,by show AvG LQ;exact hl,?_⟩|BlC=>⟨fun _ _ _ _ _ _ _ _ _ _ h=>by obtain⟨_,_,_,_,_,_,_,_,_,_,_,_,_,_,_,_,_,_,_,_,h⟩:=h;exact ALq,ε⟩|BlD=>ε aX bK aB bQ bN bZ bA aP bF aM aJ aO|BlE=>Rq (X:=kP ⟨ε,z.pn⟩) ⟨z2l IT.ok _,IT.os,IT.bare,IT.base,IT.loc,IT.cell,IT.free,IT.freeC,IT.pin,IT.hok,IT.len⟩ a|BlF=>APG (ε X Β Β Β hc i Ν s3 σ3 H3 xL I3 (stat fr3) st3 ζ) (AOV r s4)|BlG=>(As6 D5 FD params MC KB dV kV doc pm an cdv ct)|BlH=>Xo2 P w K mg DI P9 P_ Mn Ę Mn Ę 1|BlI=>∀(X:Cx)(Ν:dX)(σ:St)(tg:AJ)(R:ANu)(itv:AI)(s2:AD),_|BlJ=>∀(l b:Ζ)(No ABs:Kb)(n n2:Δ)(dd dd2:OW)(sl sl2:AEO)(x y:Μ)(t u:Tok)(h1:HR No 0 AW')(h2:HR ABs 0 (.AO y u))(hxy:x≠y),_|BlL=>⟨ok.mod,ok.kind,ok.glob,ok.blt,ok.above,ok.inj,ok.has,ok.cab,ε,ok.frames,ok.stk,ok.exf,ok.bs,ok.bsz,ok.Jd,ok.Je,ok.funs,ok.frf⟩|BlM=>À EJ EJ EJ EJ EJ EJ EJ EJ EJ EJ EJ EJ EJ EJ|BlO=>∀(K:AB) (C:Ζ) (f:Μ) (sp:ε) (vs:AV) (H:Hp) (Q:VK) (E:XK),_|BlP=>by have:=ε;show AE Ρ Ρ Ρ Ρ Ρ Ρ Ρ Ρ Ρ Ρ Ρ Ρ Ρ Ρ|BlQ=>by have z' :ε:=z;show AE z' z' z' z' z' z' z' z' z' z' z' z' z' z'|BlR=>VS (by subst x;rw[ε] at hoe;show AE hoe hoe hoe hoe hoe hoe hoe hoe hoe hoe hoe hoe hoe hoe;simp at hce)|BlS=>Inv.track I6 nH ⟨g1,⟨oe,vs,g1,g2,g3,CL gd g4⟩,⟨oe,g1⟩,fun h1 h2 Bi st=>(AOp o ws p1 p2 p3 p4 Bi o ws (st o p1) p2 p3 p4)⟩ Kf Tq Kg Tr|BlT=>[97,98,99,100,101,102,103,104,105,106,107,108,109,110,111,112,113,114,115,116,117,118,119,120,121,122]|BlU=>by show EX l1 vs h1 q1 r;show EX l2 us h2 q2 r';show AE rv rv rv rv rv rv rv rv rv rv rv rv rv rv;show AE ru ru ru ru ru ru ru ru ru ru ru ru ru ru|BlV=>ul (PV zlh X AHF use (Ε (AS_ (LJ y py) BO)) Qv (L3 s' (SP JS Ν Dn ADd s')) g (gX AG g) (tc:=tX AG tc) (te:=eX AG te) (Q:=fun v H' =>Dn.nx (Â Ì) H') Axe ε ?_ ?_ ?_ Β hs I ?_ ?_) (fun _ s' hq=>z7 (z7 hq)) (Lw e e)
theorem aaA{α:Ab9}{a:α}{P:Ι}(e:Θ=Ε a):P:=nL
theorem aaB{α:Ab9}{a:α}{P:Ι}(e:MU Ε):P:=nL
theorem aaC{P:Ι}(e:MO Κ):P:=nL
theorem aaD{P:Ι}(e:AC=Κ):P:=nL
theorem aaE{α:Ab9}{a:α}{l:CU}{P:Ι}(e: []=FK):P:=nL
theorem aaF{α:Ab9}{a:α}{l:CU}{P:Ι}(e:FK= []):P:=nL
theorem aaG{α:Ab9}{a:α}{P:Ι}(e:a∈ ([]:CU)):P:=nL
abbrev dO:=D3 PySem.Value PySem.Shared
abbrev dX:=qE PySem.Addr PySem.Obj
section
open II Os J'
abbrev z6:= @wpAny_bind
abbrev z7:= @wpAny_pure
abbrev z8:= @Heap.get?_push_of_some
abbrev z9:= @Heap.get?_push_size
abbrev zZ:= @AKo
abbrev zY:= @AAt
abbrev zW:= @AKp
abbrev zV:= @Boi
abbrev zU:= @ē
abbrev zT:= @AcA
abbrev zR:= @AGT
abbrev zQ:= @Boj
abbrev zP:= @BFL
abbrev zO:= @Nat.le_trans
abbrev zN:= @AKq
abbrev zM:= @Bok
abbrev zL:= @Nat.lt_of_le_of_lt
abbrev zK:= @Bol
abbrev zJ:= @AcB
abbrev zG:= @BFN
abbrev zF:= @BFO
abbrev zE:= @Option.map_eq_some_iff
abbrev zB:= @ZE
abbrev zA:= @Ĕ
abbrev yZ:= @Heap.get?_push_ne
abbrev yX:= @Bom
abbrev yV:= @List.mem_of_getElem?
abbrev yU:= @Bon
abbrev yS:= @Bop
#where
namespace _2
open II Os J'
def Dy(s:AT)(j:Δ):AT:=match s with
 | Rc (.ClassDef _ _ _ MC _ _ _ _)=>body.getD j (.Pass AqH)
 | _=> .Pass AqH
def Lj(s:AT):Arguments:=match s with
 | rS (.ArZ _ a _ _) _ _=>a
 | _=>{posonlyargs:= [],E7:= [],vararg:=Θ,kwonlyargs:= [],kw_defaults:= [],kwarg:=Θ,BFQ:= []}
def yD(s:AT):Tm:=match s with
 | rS (.ArZ _ _ b _) _ _=>b
 | _=> []
def aY(s:AT):Oy:=match s with
 | L2 .ArZ _ _ sc _ _ _=>sc
 | _=>{kind:= AMm,IJ:= [],isGenerator:=AC,isCoroutine:=AC}
#print _2
namespace _3
open II AKr J' _2
abbrev Mr:Au:= Avz
def nZ(AFo):AN:=zk (ZH C) (Ε ⟨PQ Ard,_,.cls cd,sl⟩) (match Arf,sl.toList with
  | .As C' ::bm,[_,_,_,_,Ε (Sm n),_]=>C' ==C&&n== Ari && ! cd.hasDel&&W.tailIn K Mr bm
  | _,_=>AC)
def bI(K:AB)(C D:Ζ):AN:=zk (ZH C) (Ε ⟨_,_,.cls cd,_⟩) (cd.mro.contains (BQ D))
def GJ(AFo):AN:=zk (ZH C) (Ε ⟨PQ Ard,_,.cls cd,_⟩) (zk Arf (.As C' ::_) (C' ==C))
def isV(o:BJc)(s:KA):AN:=zk o (Ε (.val (Sm t))) (t==s)
#print _3
namespace _Hd
open II AKr Arj J' _2 _3
noncomputable section
def Jb:ACG Ayq IL
 | _,[]=> []
 | i,o::r=>APB o.isFreed (Jb DU r) ((i,o)::Jb DU r)
def cut(h:AQ)(_:Δ):IL:=Jb 0 h.objs.toList
def treeOf:Ayq ->Δ ->BT ->BT
 | [],_,t=>t
 | o::r,i,t=>treeOf r DU (t.ins i o)
abbrev ann:fc:=Ε (BQ 6)
abbrev z:AS:=AqH
def BI(p:A2):Env:={KB:=p.main.scope,locals:=mainNs,globals:=mainNs,cells:= [],code:= .As 13,frame:=Ε 14}
def cB(p:A2):Code:= .MC (BFS p) (BI p)
def S0(AbY):AD:=BhK
def Sa(x:BVX)(w:An)(os:AAv):AD:=ARB x y y.1 (S0 w os)
def Ta(s:AD):SharedT:=⟨treeOf s.heap.objs.toList 0 EB,15,s.heap.life,Arn,AKv,Mm,s.os⟩
abbrev TB:=KA ->MM Builtin
abbrev GoT:=Bkk BVX
abbrev aaH:=TB ->BB A2 An Δ fc (BB Δ Δ SharedT Thread (ĕ (Flow×SharedT×Code×AS)))
abbrev aaI:=Bkk (MM AD)
def fore(tb:TB)(GO:GoT)(p:A2)(w:An)(os:AAv):AD:=Sa (GO tb p w 11 ann 12 A5n A1S) w os
def shot{α:CB}(tb:TB)(GO:GoT)(RUN:aaH)(TOP:aaI)(EXS:Tm ->Env ->Sem Flow)(p:A2)(obs:AD ->α)(w:An)(os:AAv):ĕ ((Flow×Code)×α):=
 (RUN tb p w 11 ann 1 30000 (Ta (fore tb GO p w os)) ⟨(EXS BKw (BI p)).wrap doneF deadEnd id id,cB p,z,AaT⟩).bind (VS ((TOP tb p w 11 ann 2 (x.2.1).abs ⟨doneF ADd,x.2.2.1,x.2.2.2,AaT⟩).EL fun s=>((x.1,x.2.2.1),obs s)))
def F_{α:CB}(SEEN:vS A2 Υ Υ (AD ->AN) AN AD α)(p q:A2)(ZI:Υ)(Xt:AD ->AN){β:CB}(obs:IL ->β)(n:Δ)(w:An)(s:AD):AN×α×β:=
 (Bkq,BiQ SEEN,AyN)
def adr(A8_):Ζ:=Awz x Lv f 0
def isRef(A8_):AN:=zk x (Ε (Ε (BQ _))) Κ
def allB:AJR ->AN
 | []=>Κ
 | b::l=>APB b (allB l) AC
def nth(l:AJR)(i:Δ):AN:=match l,i with
 | [],_=>Κ
 | b::_,0=>b
 | _::l,D'=>nth l i
def Hb(fd:FS):FS:={fd with kwdefaults:= BH,doc:= BH,pyModule:= BH,annotations:=Θ,code:= BH,closureTuple:= BH}
def fnO(Bhl):AXt:=AEq (ZH f) ⟨_,_,.func fd,_⟩ (APB (codeIn K fd.code FD&&keepIn K Lv) (Ε (Hb fd)) Θ) Θ
def Wl(K:IL)(v:AI):AN:=zk v (.As T) (zk (ZH T) (Ε Bh') (t== ZN &&(zk w_ [BH] Κ)))
def fnD(Bhl):AXt:=(fnO K f FD).bind fun fd=>(APB (Wl K fd.defaults) (Ε {fd with BFQ:= BH}) Θ)
def Wm(K:IL)(x:Μ):AXt:=BgT fnO
def fnM(K:IL)(x:Μ):AXt:=BgT fnD
abbrev ex(x FD:Μ)(st:AT):AXt:=Ε BEm
abbrev d(x:Μ)(s:AT):Μ×AT:=(x,s)
def seen(K:IL)(ds:AkB):Agk:=AcH fun d=>Wm K d.1
def due(ds:AkB):Agk:=AcH fun d=>Bdg
def recOf(s:AT):Arq:=match s with
 | .ArZ n a b _ _ _ sc _ _ ps=>⟨n,a,b,sc,ps⟩
 | _=>⟨Nc,Lj s,[],aY s,z⟩
def intO(A8_):R_:=Awz x (.AL i _) (Ε i) Θ
def vP:Au ->ARu AiM
 | []=>Ai3
 | Aab::r=>Cb vP r (.inl i:: ·)
 | A6u::r=>Cb vP r (.inr x:: ·)
 | _=>Θ
def tupO(K:IL)(a:Ζ):ARu AiM:=AEq (ZH a) Bh' (MV t ZN (vP w_) Θ) Θ
def qQ(w:An)(AH:AUD Υ):ARu (Ψ×Μ×Υ):=Ε (AcI fun p=>(hashStr w CS,CS,p.2))
#where
#print _Hd
namespace _Lw
open II Os J' _2 _3
def CM(AQa):AT:=PySem.Challenge.pw_hall_k91_whole_any_order.main.body.getD i (.Pass AqH)
abbrev zj1:AT:=CM 84
abbrev zmz:AT:=CM 81
abbrev zhv:AT:=CM 85
abbrev zmf:AT:=CM 86
abbrev zgc:AT:=CM 82
abbrev zpk:AT:=CM 83
abbrev znb:AT:=CM 89
abbrev z0b:AT:=CM 21
abbrev ztp:AT:=CM 61
abbrev zi4:AT:=CM 60
abbrev Wn:AT:=ACw 63 0
abbrev z1q:AT:=CM 35
abbrev zof:AT:=CM 34
abbrev zqy:AT:=CM 31
abbrev zu2:AT:=CM 33
abbrev zo2:AT:=CM 15
abbrev zgy:AT:=CM 38
abbrev zlq:AT:=CM 42
abbrev zkx:AT:=CM 41
abbrev zmb:AT:=CM 16
abbrev zjx:AT:=CM 40
abbrev ylm:AT:=CM 39
abbrev Wo:AT:=CM 37
abbrev zea:AT:=CM 46
abbrev zj2:AT:=CM 69
abbrev Wq:AT:=CM 68
abbrev yan:AT:=CM 17
abbrev zzv:AT:=CM 22
abbrev zva:AT:=CM 48
abbrev zog:AT:=CM 47
abbrev z0x:AT:=CM 18
abbrev zj0:AT:=CM 50
abbrev zoz:AT:=CM 49
abbrev UL:AT:=CM 45
abbrev zi1:AT:=CM 44
abbrev zek:AT:=ACw 12 0
abbrev zzb:AT:=CM 19
abbrev z7k:AT:=CM 20
abbrev zpn:AT:=CM 62
abbrev zfn:AT:=ACw 63 1
abbrev zdj:AT:=AFg 6
abbrev ya4:AT:=CM 23
abbrev zff:AT:=CM 54
abbrev zy8:AT:=CM 58
abbrev zp8:AT:=CM 57
abbrev z7s:AT:=CM 56
abbrev zur:AT:=CM 55
abbrev zoq:AT:=CM 24
abbrev Oo:AT:=CM 53
abbrev zb6:AT:=AFg 1
abbrev zcc:AT:=CM 26
abbrev z0s:AT:=CM 67
abbrev UW:AT:=ACw 11 0
abbrev zd8:AT:=CM 66
abbrev z22:AT:=CM 65
abbrev zds:AT:=CM 72
abbrev Wr:AT:=CM 71
abbrev yb4:AT:=CM 70
abbrev Oq:AT:=AFg 0
abbrev zcp:AT:=AFg 3
abbrev zfl:AT:=AFg 4
abbrev zew:AT:=CM 28
abbrev zey:AT:=AFg 5
abbrev zc5:AT:=AFg 2
abbrev zdh:AT:=AFg 7
abbrev zii:AT:=CM 88
abbrev zc9:AT:=CM 87
abbrev zm5:AT:=CM 91
abbrev zju:AT:=CM 90
abbrev Ot:AT:=ACw 79 0
abbrev zqb:AT:=CM 78
abbrev zkg:AT:=CM 77
abbrev Ou:AT:=ACw 79 1
abbrev zgr:AT:=ACw 79 3
abbrev BK:AT:=CM 92
def ds:AkB:= [C7 AcL zj1,C7 AcM zmz,C7 AcN zhv,C7 AcO zmf,C7 AcP zgc,C7 AcQ zpk,C7 AcR znb,C7 AcS z0b,C7 AcT ztp,C7 AcU zi4,C7 AcV z1q,C7 AcW zof,C7 AcX zqy,C7 AcY zu2,C7 AcZ zo2,C7 Aca zgy,C7 Acb zlq,C7 Acd zkx,C7 Ace zmb,C7 Acf zjx,C7 "led" ylm,C7 Acg Wo,C7 Ach zea,C7 Aci zj2,C7 ASf Wq,C7 Acj yan,C7 Ack zzv,C7 Acl zva,C7 Acm zog,C7 Acn z0x,C7 Aco zj0,C7 Acp zoz,C7 Acq UL,C7 Acr zi1,C7 Acs zzb,C7 Acu z7k,C7 Acv zpn,C7 AKx ya4,C7 Acw zff,C7 Acx zy8,C7 Acy zp8,C7 AKy z7s,C7 AKz zur,C7 Acz zoq,C7 d4 z0s,C7 Ac0 zd8,C7 Ac1 z22,C7 Ac2 zds,C7 Ac3 Wr,C7 Ac4 yb4,C7 Ac5 zii,C7 Ac6 zc9,C7 Ac7 zm5,C7 Ac8 zju,C7 Ac9 zqb,C7 Ac_ zkg,C7 ZT BK]
def fts(ARs):AJR:= [
 Φ (ww Aru),
 Φ (ww "Few"),
 Φ (ww Ac'),
 Φ (ww P9),
 Φ (ww SY),
 Φ (ww WE),
 Φ (ww AAy),
 Φ (ww Nd),
 Φ (A_R WE),
 Φ (AY' WE),
 Φ (A1a WE),
 Φ (ApS WE),
 Φ (A1b WE),
 Φ (AU6 (ABz WE)),
 Φ (A_R AAy),
 Φ (AY' AAy),
 Φ (A1a AAy),
 Φ (AUI AMP AdA (Sm Arx)),
 Φ (A1b AAy),
 Φ (AU6 AMP),
 Φ (A_R Nd),
 Φ (AY' Nd),
 Φ (A1a Nd),
 Φ (ApS Nd),
 Φ (A1b Nd),
 Φ (AU6 (ABz Nd)),
 Φ (AFP WE ZY),
 Φ (AFP P9 Mn),
 Φ (AFP P9 Ę),
 Φ (AJ7 ASj),
 Φ (AJ7 AGX),
 Φ (AJ7 d5),
 Φ (AJ7 d6),
 Φ (AFP SY d4),
 Φ (AJ7 Nl),
 Φ (AJ7 GB),
 Φ (AJ7 AdB),
 Φ (AFP Nd xC),
 Φ (AFP Nd GB),
 Φ (Ř nZ P9),
 Φ (AVo P9 AdC AGY),
 Φ (AFP P9 BFa),
 Φ (AVo P9 BFb Ary),
 Φ (Amp AX3),
 Φ (A3o AX3),
 Φ (ApS P9),
 Φ (AY' P9),
 Φ (Ř nZ SY),
 Φ (AVo SY AdC AGY),
 Φ (AFP SY BFa),
 Φ (AVo SY BFb Ary),
 Φ (Amp AX4),
 Φ (A3o AX4),
 Φ (ApS SY),
 Φ (AY' SY),
 Φ (BXF BJ1),
 Φ (BRD BJp),
 Φ (_3.isV (W.findCls K BJ1 Aw0 K0) BFc =Κ),
 Φ (Ami WE),
 Φ (Ak3 WE),
 Φ (Ami P9),
 Φ (Ak3 P9),
 Φ (AgG WE AK1),
 Φ (AUY BR3),
 Φ (AFd Ě),
 Φ (AFf Ě),
 Φ (AFd AGZ),
 Φ (AFf AGZ),
 Φ (Ami SY),
 Φ (Ak3 SY),
 Φ (AFd K0),
 Φ (AFf K0),
 Φ (AFd AA_),
 Φ (AFf AA_),
 Φ (AFd KG),
 Φ (AFf KG),
 Φ (AFd d_),
 Φ (AFf d_),
 Φ (AFd Tx),
 Φ (AFf Tx),
 Φ (AFd jb),
 Φ (AFf jb),
 Φ (Ami Nd),
 Φ (Ak3 Nd),
 Φ (AgG Nd AA'),
 Φ (AUY (AH0 Nd AA')),
 Φ (AgG Nd SZ),
 Φ (AUY (AH0 Nd SZ)),
 Φ (ww Arz),
 Φ (ww Ar0),
 Φ (Ap' AjE),
 Φ (Ap' AjF),
 Φ (Ap' BJp),
 Φ (Ř GJ P9),
 Φ (Ř GJ SY),
 Φ (SU o4),
 Φ (SU AGa),
 Φ (SU AK3),
 Φ (SU "abs"),
 Φ (SU "all"),
 Φ (SU eA),
 Φ (SU ZN),
 Φ (SU "any"),
 Φ (SU K2),
 Φ (SU o5),
 Φ (SU Mo),
 Φ (SU ě),
 Φ (SU Ĝ),
 Φ (SU ZZ),
 Φ (SU "max"),
 Φ (SU AK4),
 Φ (SU ASl),
 Φ (SU ĝ),
 Φ (_Hd.intO (Auv Bo0)=Ε 8),
 Φ (ww BFd),
 Φ (_Hd.tupO K (Arv (Auv BFd))=Ε [.DV 0,.DV 1]),
 Φ (ly AjE AjE),
 Φ (MO (bI K AjF AjE)),
 Φ (ly AjF AjF),
 Φ (Ř nZ P9),
 Φ (Ř nZ SY),
 Φ (ly AX3 AX3),
 Φ (MO (bI K AX4 AX3)),
 Φ (ly AX4 AX4)]
def obs(ARs):BaS:=(_Hd.allB (fts K),
 _Hd.seen K ds,[Aku WE AdD,
  Aku P9 BFe,
  AHh BR3 BFf,
  AFW Ě BFg,
  _Hd.fnM K Ğ,
  AFW AGZ BFh,
  AHh (yY Arz) jb,
  Aku SY AdE,
  AFW K0 ASm,
  AFW AA_ BFi,
  AFW KG BFj,
  AHh (yY Ar0) d_,
  AFW d_ BFk,
  AFW Tx BFl,
  AFW jb BFm,
  Aku Nd AK5,
  AHh (AH0 Nd AA') AK6,
  AHh (AH0 Nd SZ) BFn])
def good(Aaz):BaS:=(Κ,_Hd.due ds,
 [AY6 AdD Wn,
  AY6 BFe zek,
  eB AK1 BFf zfn,
  eB Ě BFg zdj,
  eB Ğ Ğ Oo,
  eB AGZ BFh zb6,
  eB jb jb zcc,
  AY6 AdE UW,
  AY6 ASm Oq,
  eB AA_ BFi zcp,
  eB KG BFj zfl,
  eB d_ d_ zew,
  eB d_ BFk zey,
  eB Tx BFl zc5,
  eB jb BFm zdh,
  AY6 AK5 Ot,
  eB AA' AK6 Ou,
  eB SZ BFn zgr])
abbrev pg:A2:=PySem.Challenge.pw_hall_k91_whole_any_order
abbrev lw:W.OpenLaw:=PySem.Challenge.rw_hall_k91_whole_any_order
abbrev vw:A2:=W.view pg [92]
def ZI:Υ:=pg.boundNames.filter fun x=>x != ZT
theorem hd_e:W.opening pg=W.plainProg pg.main.scope.names:=ng
theorem hd_f(s:AD):PySem.fenceModules? pg s=Ε s:=ng
theorem hd_A(AbY):AdF T0 pg w 11 _Hd.ann 12 (_Hd.S0 w os) (W.topStub pg)=Ε (Bil,⟨denote T0 (_Hd.cB pg),A7s,_Hd.z,BQM⟩):=by
 show BoT PySem.W.Fast.te11892475500146522536 Ar1;kernel_rfl
theorem hd_B(AbY):W.segRun T0 pg w 11 _Hd.ann 1 1 BbR (W.blockOf (W.behindTheImports pg) (_Hd.env pg) (_Hd.cB pg) _Hd.z BQM)=Ε (ADd,Bil,A7s,_Hd.z):=by
 show BoT PySem.W.Fast.te14374325043358763698 Ar1;kernel_rfl
theorem hd_C(AbY):(_Hd.Ta BbR).abs=BFo T0 AdF pg w os:=by
 rw[BFp,Ar1];kernel_rfl
theorem hd_D(AbY):_Hd.shot T0 AdF W.segRunT W.topRun execs pg (_Hd.rest W.openSeen pg vw ZI Ay7 obs 1500 w) w os=Ε (BVw A7s (W.openGood vw ZI)):=by
 rw[BFp,PySem.W.Fast.te10110043849684766642,PySem.W.Fast.te14082659384304107361,PySem.W.Fast.te12563942051412417395,PySem.W.Fast.te4187177175401517315,Ar1];kernel_rfl
theorem hd_s:lw.row.wellSaid=Κ:=ng
theorem hd_said:lw.wellSaid=Κ:=by
 unfold W.OpenLaw.wellSaid;rw[hd_s]
 kernel_rfl
theorem hd_ok:U_ (W.chainsOk vw&&W.opensWell lw.row.prog) (W.frees Bo1&&lw.row.within.isEmpty):=ng
theorem hd_bare:lw.row.prog.bare:=⟨Β,Β,Β,Β,Β,AK⟩
theorem hd_d:W.defOf vw lw.row.name=Ε (BFq BK,[]):=ng
theorem hd_p:lw.row.prog.theDef lw.row.name=Ε (AKe params,AKe MC,AKe KB):=ng
theorem hd_k:W.kwWritten? (AKe params.kwonlyargs) (AKe params.kw_defaults)=Ε []:=ng
theorem hd_n:AKe D5= ZT :=ng
theorem hd_z:AKe params.defaults= []:=ng
#print _Lw
namespace _2
open II Os J'
abbrev Key:=Sum Ψ Μ
def vQ:Key ->AI ->AN
 | .DV k,v=>Value.isInt k v
 | Ů,v=>Bo2 x v
def aaJ(Aaz):Key ->Ψ
 | .DV k=>hashInt k
 | Ů=>hashStr w x
theorem FN:RY k Key v AI (vQ k v=Κ) ((∃i t,k=Ar3 i/\v=AaV)\/ (∃x t,k=Sb x/\v=Ana))
 | APl,v,h=>by
  show hG t (BFs (k:=i) (v:=v) h);exact NS (IS i t e)
 | Ů,v,h=>by
  show hG t (Value.isStrOf_shape (x:=x) (v:=v) h);exact KW (IS x t e)
theorem z7q(i:Ψ)(t:Tok):vQ (Gc i) Ag5=Κ:=XU vQ Value.isInt
theorem yaz(x:Μ)(t:Tok):vQ (E6 x) AW'=Κ:=XU vQ Bo2
theorem ym2(a b:Ψ):O0 (BOp)=(a==b):=by
 by_cases e:a=b
 ·subst e;simp
 ·have h:¬BOp:=Tb (e (Sum.inl.inj q));show ô h;exact X_ AK7 e
theorem yof(a b:Μ):A3k (Φ BOq):=by
 by_cases e:a=b
 ·subst e;simp
 ·have h:¬BOq:=Tb (e (Sum.inr.inj q));rw[ğ h,BKK]
theorem yl0(a:Ψ)(b:Μ):Aok (BnF Sb):=BZh
theorem yn0(a:Μ)(b:Ψ):Aok (BnG Ar3):=BZh
def qy(B9:A2)(w:An):PySem.KeyKind B9 w Key where
 is:=vQ
 hash:=aaJ w
 inj:=fun v a b ha hb=>by
  rcases FN ha with ⟨i,t,Β,Β⟩ | ⟨x,t,Β,Β⟩
  ·rcases FN hb with ⟨j,u,Β,e⟩ | ⟨y,u,Β,e⟩
   ·show APO e e1;rw[e1]
   ·exact nL
  ·rcases FN hb with ⟨j,u,Β,e⟩ | ⟨y,u,Β,e⟩
   ·exact nL
   ·show APO e e1;rw[e1]
 byValue:=fun k v h=>by
  rcases FN h with ⟨i,t,Β,Β⟩ | ⟨x,t,Β,Β⟩<;>rfl
 pyHash:=fun hv h=>by
  rcases FN hv with ⟨i,t,Β,Β⟩ | ⟨x,t,Β,Β⟩
  ·exact wpAny_pyHash_int h
  ·exact wpAny_pyHash_str h
 eqBool:=fun hu hv h=>by
  rcases FN hu with ⟨i,t,Β,Β⟩ | ⟨x,t,Β,Β⟩
  ·rcases FN hv with ⟨j,u,Β,Β⟩ | ⟨y,u,Β,Β⟩
   ·rw[ym2] at h;exact wpAny_eqBool_int h
   ·rw[yl0] at h;exact Bo3 i t y u _ _ _ _ h
  ·rcases FN hv with ⟨j,u,Β,Β⟩ | ⟨y,u,Β,Β⟩
   ·rw[yn0] at h;exact Bo4 x t j u _ _ _ _ h
   ·rw[yof] at h;exact wpAny_eqBool_str h
 «strs»:=fun k x t v h=>by
  rcases FN h with ⟨i,u,Β,e⟩ | ⟨y,u,Β,e⟩
  ·exact nL
  ·show APO e e1;subst e1;(show KU v v v v v v v v v v v v v v)<;>rfl
theorem zzz(B9:A2)(w:An)(i:Ψ)(t:Tok):AXJ qy (Gc i) Ag5=Κ:=z7q i t
theorem zp4(B9:A2)(w:An)(x:Μ)(t:Tok):AXJ qy (E6 x) AW'=Κ:=yaz x t
inductive V where
 | non | bl (b:AN) | AL (ARb) | AO (AQG) | byt (b:ABG UInt8) | flt (b:UInt64) | As (a:Ζ) | ty (n:KA)
 deriving DecidableEq
def HP:Aip V
 | BS,u=>A3s
 | v6,u=>u=Ar6 b
 | HI,u=>AC' AaV
 | vy,u=>AC' Ana
 | .byt b,u=>AC' (Value.bytes b t)
 | .flt b,u=>AC' (BFt b t)
 | EO,u=>AMV
 | .ty n,u=>BUo
abbrev IM:D3 AV Au:=ASn HP
theorem Vals.length{xs:AV}{us:Au}(r:mI):BMM:=BKQ
theorem Vals.get:∀{xs:AV} {us:Au} {i:Δ} {x:V},mI ->ci ->∃u,FL us u/\ui
 | _,_,_,_,EB,e=>AJ'
 | _,_,0,_,AMw _,e=>by simp at e;subst e;exact RU r
 | _,_,D',x,AnW,e=>by
  show DE u h1 h2 (Vals.get (i:=i) (x:=x)) t AEp
  exact⟨u,CY h1,h2⟩
theorem Vals.set(Bc2):ArA i (IM (Ar8 i x) (us.set i u))
 | _,_,_,EB=> EB
 | _,_,0,AnW=> AFm
 | _,_,D',.AX q t=> .AX q (Vals.set r i t)
theorem BFu:∀{xs ys:AV} {us ws:Au},mI ->IM ys ws ->IM A8d (us++ws)
 | _,_,_,_,EB,s=>s
 | _,_,_,_,AFm,s=> AMw (BFu t s)
theorem Vals.take:ArA n (IM (xs.take n) (us.take n))
 | _,_,0,_=> EB
 | _,_,_+1,EB=> EB
 | _,_,n+1,AFm=> AMw (Vals.take n t)
theorem Vals.drop:ArA n (IM (AdG n) (us.drop n))
 | _,_,0,r=>r
 | _,_,_+1,EB=> EB
 | _,_,n+1,AnW=>Vals.drop n t
def nu:D3 VV fc
 | AIi,Ε u=>OY
 | Θ,Θ=>KI
 | _,_=>EM
def KV{κ:CB}:D3 Õ AgM:=ASn fun(p:κ×V) (q:κ×AI)=>CS=q.1/\HP p.2 q.2
def kV:Key ->V
 | APl=> HI
 | Ů=> vy
inductive HO where
 | B_ (xs:AV)
 | DZ (xs:AV)
 | dK (AH:tJ) | dT (AH:iN)
 | set (S:Ψ ->AN) (n:Δ)
 | ins (C dx:Ζ) (fs:n_)
 | BA (x:Ζ)
 | xd (fs:n_)
 | met (f x:Ζ)
 | rng (lo hi:Ψ)
 | frz (o:Obj) (u:HO)
 | Ms (ps:Kb)
 | ext (φ:AzF)
abbrev Hp:=Ζ ->MM HO
def upd(H:Hp)(a:Ζ)(o:HO):Hp:=dP (MV b a (Ε o) (H b))
theorem gQ{H:Hp}{a:Ζ}{o:HO}:upd H a o a=Ε o:=Ajx upd
theorem bL(Aqa){o:HO}(h:NV):upd H a o b=H b:=AYR upd h
theorem ypl(Aqa){o u:HO}(h:Ajr)(h' :ϱ)(d:o≠u):a≠b:=by
 intro e;subst e;rw[h] at h';exact d (zF h')
theorem gR(Aqa){o:HO}(h:Ajr)(h' :NU):a≠b:=by
 intro e;subst e;rw[h] at h';show AE h' h' h' h' h' h' h' h' h' h' h' h' h' h'
section
variable(P:A2)(w:An)
def aZ(H:Hp)(h:AQ)(a:Ζ):F6 HO
 | û=>Ahm (BCg (AOC/\gI AO_))
 | uj=>Ahm (∃AY:Au,AOC/\A0k IsTup h)
 | .dK AH=>BBm
 | .dT AH=>Ag' (∃xs:AIw,
   ASn (fun(p:EA×V) (q:A4_)=>BeE) AH xs/\
   ∃o es ep,Ā/\BFw/\A3O/\Ar9=eC (entryOfKey (AK8 ż))/\ (xs.map (·.1)).Sc)
 | .set S n=>h.SetOf (intKind P w) a S n
 | .ins C dx fs=>A6'/\AGd<=1000/\dx≠a/\gI A3l/\
   ∃mA,Apm/\ (∀f,BDW)/\BOu
 | .BA _=>∃o,Ā
 | .xd fs=>∃mA,h.Ns1 a mA/\∀f,BDW
 | .rng lo hi=>∃t u v,gI Av0
 | .frz o u=>Ā/\aZ H h a u
 | .Ms ps=>BZI
 | .met f x=>BRR l_
 | .ext φ=>φ h/\ (∃o,Ā)/\∀h1 h2:AQ,φ h1 ->(∀o,ŭ ġ ->ŭ h2.get?) ->φ h2
def pG(H:Hp)(h:AQ):Ι:=∀a o,Ajr ->AAd o
#where
section
variable{P:A2}{w:An}{H H' :Hp}{h h' :AQ}{a:Ζ}{o:HO}
theorem aZ.lt(x:AAd o):AWb a:=by
 cases o with
 | B_ xs=>show Ayg x;show c9
 | DZ xs=>show Ays p x p.lt
 | dK AH=>obtain⟨_,_,_,_,o,_,_,e,_⟩:=x;show c9
 | dT AH=>obtain⟨_,_,_,_,o,_,_,e,_⟩:=x;show c9
 | set S n=>show AVS o x;show c9
 | ins C dx fs=>show Ayi x;show c9
 | BA y=>obtain⟨_,e⟩:=x;show c9
 | xd fs=>show Ayj x;show c9
 | rng lo hi=>show Ayh x;show c9
 | frz ob u=>obtain⟨e,_⟩:=x;show c9
 | Ms ps=>exact zG (FA (gI _) x)
 | met f y=>exact zG (FA (gI _) x)
 | ext φ=>obtain⟨_,⟨_,e⟩,_⟩:=x;show c9
theorem Ar'{α β:CB}{F G:D3 α β}:∀{l₁:CU} {l₂:SC},ASn F l₁ l₂ ->(∀a b,F a b ->G a b) ->ASn G l₁ l₂
 | _,_,EB,_=> EB
 | _,_,AFm,f=> .AX (f _ _ r) (Ar' t f)
theorem aZ.stay(x:AAd o)(k:sB (b=a\/b9 (.BA a)) (MT KK) AfG)
  (ho:L4 (b9 (.BA a)) (AVT (.BA a))) (ht:BCW):aZ P w H' h' a o:=by
 induction o with
 | B_ xs=>show Aqv x;exact⟨z,AY,n,r,wq⟩
 | DZ xs=>obtain⟨z,AY,r,ob,e,c⟩:=x;exact⟨z,AY,r,ob,wq,c⟩
 | dK AH=>obtain⟨z,y,vs,r,ob,es,ep,e,c⟩:=x;exact⟨z,y,vs,r,ob,es,ep,wq,c⟩
 | dT AH=>
  obtain⟨z,y,xs,r,ob,es,ep,e,c⟩:=x;exact⟨z,y,xs,Ar' r fun p q z=>BYG,ob,es,ep,wq,c⟩
 | set S n=>obtain⟨ob,es,ep,t,e,c⟩:=x;exact⟨ob,es,ep,t,wq,c⟩
 | ins C dx fs=>
  obtain⟨d,z,ne,e,mA,⟨od,es,ep,e2,c⟩,r⟩:=x;exact⟨ho _ d,z,ne,wq,mA,⟨od,es,ep,k _ _ (E6 d) e2,c⟩,r⟩
 | BA y=>show hG ob x;exact⟨ob,wq⟩
 | xd fs=>obtain⟨mA,⟨od,es,ep,e,c⟩,r⟩:=x;exact⟨mA,⟨od,es,ep,wq,c⟩,r⟩
 | rng lo hi=>obtain⟨t,u,v,e⟩:=x;exact⟨t,u,v,wq⟩
 | frz ob u ih=>show APN q x;exact⟨wq,ih q⟩
 | Ms ps=>
  have e:BZI:=x;exact k a _ XI e
 | met f y=>
  have e:BRR (BQ y):=x;exact k a _ XI e
 | ext φ=>obtain⟨p,⟨o,e⟩,st⟩:=x;exact⟨st _ _ p fun o q=>k _ _ XI q,cz wq,st⟩
theorem pG.lt(x:dl)(e:Ajr):AWb a:=(x a o e).lt
theorem pG.fresh(x:dl)(e:M1<=a):â:=by
 cases q:H a with
 | Θ=>rfl
 | Ε u=>exact AFu (zM (x.lt q) e)
theorem pG.kept(x:dl)(k:Am4):pG P w H h' :=fun a o e=>
 (x a o e).stay (fun b u _ q=>k b u q) Avs ß
theorem pG.laid(x:dl)(k:Am4)(hp:M1<=a)(new:aZ P w AZk h' a o):pG P w AZk h' :=NO (by
 have hn:=x.fresh hp;by_cases hb:b=a
 ·subst hb;show AKZ gQ new
 ·rw[tN] at e;exact ANm x e (fun c v _ q=>k c v q) (hZ q AKX) fun c xs q=>AKX)
#where
def Rd(H:Hp)(a:Ζ)(u:HO):Ι:=AHy\/∃o,OG ACz
theorem Rd.ok{P:A2}{w:An}{H:Hp}{h:AQ}{a:Ζ}{u:HO}(r:Rd H a u)(x:dl):AAd u:=by
 rcases r with r | ⟨o,r⟩
 ·exact x a u r
 ·obtain⟨_,q⟩:=x a _ r;exact q
def Ws:F6 (MM HO)
 | Ε (E3 _)=>KI
 | Ai4 dK=>KI
 | Ai4 dT=>KI
 | Ε (.set _ _)=>KI
 | Ε (.ins _ _ _)=>KI
 | Ai4 ext=>KI
 | Ai4 xd=>KI
 | _=>EM
section
variable{P:A2}{w:An}{H:Hp}{h h' :AQ}{x e:Ζ}{o' :HO}
theorem pG.write(ok:dl)(mu:A9a)(he:A_9)(k:BNX)(heo:BBr)
  (new:aZ P w (af x o') h' x o'):pG P w (af x o') h' :=Pp u (by
 have Wt:∀c y,Af5 c y ->c≠x:=Ba3 y
 have aaK:∀c xs,Pc c Pw ->c≠x:=Ba3 xs
 by_cases hb:b=x
 ·subst hb;rw[gQ] at q;show L';exact new
 ·rw[tN] at q;by_cases hbe:b=e
  ·have q' :b9 (.BA x):=by
    rcases he with z | z
    ·exact vc hbe.trans z hb
    ·rw[hbe];exact z
   rw[q] at q';show BEz;obtain⟨v,hv⟩:=heo;exact⟨v,CL hbe hv⟩
  ·refine ANm ok q (fun c v hc r=>k c v ?_ r) (hZ r (U2 (Wt c b r) r)) fun c xs r=>(U2 (aaK c xs r) r)
   show AM1 hc hc
   ·exact hbe
   ·rintro Β;show ARF he
    ·exact Wt c b hc z
    ·rw[hc] at z;show L6;exact hb Β)
#where
structure Un (fs ex:B5) (H H' :Hp) (h h' :AQ):Ι where
 KL:Bh6 (b∉fs) ACi
 O_:Bh6 (b∈fs) BWa
 eD:ŋ KK (NU ->b∉ex ->ANA)
 ASp:cy sj (b∉ex) BLo
 tups:BCW
 mK:BXa
 o9:Baa
section
variable{fs fs' ex ex' :B5}{H H1 H2:Hp}{h h1 h2 h' :AQ}{a x e:Ζ}{o:HO}
theorem Un.any(u:ASJ H1 h1){b:Ζ}{ob:Obj}(q:ACo KK)(n:NU)(hx:b∉ex):∃sl,NC ġ {ob with AK9:=sl}:=by
 by_cases hb:b∈fs
 ·exact u.slot b ob q n hb hx
 ·exact⟨BFz,u.keep b ob q n hb hx⟩
theorem Un.trans(a:ASJ H1 h1)(b:Un fs ex H1 H2 h1 h2):ASJ H2 h2 where
 KL:=BiP (b.keep c ob (a.keep c ob q n hc hx) A_z hc hx)
 O_:=BiP (by
  show AgN (a.slot c ob q n hc hx);show AEZ sl' (b.slot c _ e1 A_z hc hx);exact⟨sl',e2⟩)
 eD:=fun c ob q n hx=>by
  show AMe e1 (a.there c ob q hx);exact b.free c o' e1 A_z hx
 ASp:=fun c ob q hx=>by
  show AMe e1 (a.there c ob q hx);exact b.there c o' e1 hx
 tups:=fun c xs q=>b.tups c xs (a.tups c xs q)
 mK:=fun c ob xs q=>b.mK c ob xs (a.mK c ob xs q)
 o9:=fun c ps q=>by
  show Ee m1 e1 a.o9 c ps q;show AEZ m2 (b.o9 c _ e1);exact⟨m1++m2,BQ5⟩
theorem ASs(k:Am4):ASJ H h' :=
 ⟨BNl (k b ob q),BNl ⟨BFz,k b ob q⟩,fun _ _ _ n _=>n,A_f ⟨ob,k b ob q⟩,ß,AKV _ q q,fun _ ps q=>⟨#[],by rw[q];simp⟩⟩
theorem Un.refl:Un fs ex H H h h:=ASs ß
theorem AdK(k:Am4)(hp:M1<=a)(hn:â):ASJ AZk h' where
 KL:=fun b u q _ _ _=>k b u q
 O_:=fun b u q _ _ _=>⟨u.slots,k b u q⟩
 eD:=Anv _ (CL (BQQ (Bok (BFN q) hp)) n)
 ASp:=XN q _ ⟨u,k b u q⟩
 tups:=Pp xs AKX
 mK:=XN xs q AKX
 o9:=BVB (bL (gR q hn))
theorem Un.write(mu:A9a)(he:A_9)(k:BNX)(heo:BBr):ASJ (af x o) h' :=by
 have hx:AhZ (b≠x):=fun b n z=>(Bnr n)
 have hb:AhZ (b≠e):=fun b n z=>by
  subst z;rcases he with r | r
  ·exact hx b n r
  ·show LO n r r r r r r r r r r r r r r r
 have hm:sB ϱ (¬Ws (Ε u)) (b≠x):=fun b u q nm z=>by subst z;rw[q] at mu;exact nm mu
 refine⟨fun b u q n _ _=>k b u (hb b n) q,fun b u q n _ _=>⟨u.slots,k b u (hb b n) q⟩,Anv _ (U2 (hx b n) n),XN q _ ?_,
  Pp xs (U2 A_q q),XN xs q (U2 A_q q),BVB (bL A_q)⟩
 by_cases hbe:b=e
 ·subst hbe;exact heo
 ·exact⟨u,k b u hbe q⟩
#where
def vL(A_B):B5:=BTb Ģ (H a).AGf
def Ao(A_B):AQ:=AdM h (vL h H)
theorem yai(A_B):(Ao h H).ģ=M1:=W.hideAll_size _ _
theorem yc4(Bgh)(e:sj)(n:NU):LM A_6:=
 BF' _ e fun hm=>by
  have q:(H b).AGf=Κ:=(ASt hm).2;rw[n] at q;simp at q
theorem yjt(Bgh)(e:LM A_6):sj/\NU:=by
 have e' :sj:=BGA (vL h H) e;refine CI e';cases q:H b with
 | Θ=>rfl
 | Ε x=>
  have hm:b∈vL h H:=AdN ⟨BpC (zG e'),Ajj⟩
  have z:RF A_6:=BpD (vL h H) hm;rw[z] at e;show C6
def yi9(g h:AQ)(L:Ζ):dX:=BTb BGB (AhQ (a=L\/ (g.get? a).AGf=Κ) (Cb KK a fun o=>(a,o)))
def F_(g h:AQ)(L d:Ζ):dX:=(yi9 g h L).Ģ fun p=>(Φ (CS≠d))
structure Mod (K:AB) (mg:ER) (DI:AQ):Ι where
 Jc:Ĥ DI
 glob:BnA
 blt:∃mb,base.Ns AsC mb/\BeM
 nolimit:base.NoLimit
structure Cx where
 B9:A2
 w:An
 K:AB
 mg:ER
 DI:AQ
 A:BM
 N:Υ
 MD:AD
 Zp:Hp
 BI:Env
 Ch:L_
 stack:L_
 ex:B5
 fn:Μ ->AN
 calm:AN
 pn:dX
 xe:dO
def frs(l:L_):B5:=l.filterMap (·.frame)
abbrev Cx.fs(X:Cx):B5:=frs ABL
def qg(BWf):Ι:=A7w (AZg\/AP9 AK_)
def Loc(BWf):Ι:=A7w AZg
def Look(BI:Env)(h:AQ)(m:ER)(x:Μ)(u:AI):Ι:=
 (AUR ASu/\F7 m u)\/ ((ANQ ASu\/AP9 ASu)/\∃c,AYh/\h.IsCell c (Ε u))
structure Cx.Ok (X:Cx):Ι where
 mod:BY_
 kind:AsE= AMm
 glob:BpF=jS
 blt:X.env.builtins=AsC
 above:ANX WH
 inj:BBz AHe (Bm_ c)
 has:∀x,(ANQ AK'\/AP9 AK') ->∃c,AHe
 cab:∀x c,Aun ->AHe ->ANX c
 hd:Fs ->X.A.handled=Θ
 frames:X.A.frames=Ε M3
 stk:M3=ABL\/ (M3=BO::ABL/\Aay)
 exf:NL ABM (AVE/\ύ b)
 bs:AkU (Awy/\RF ASx)
 bsz:BpI<=BpH
 Jd:AkU (b∉ABM)
 Je:NL ABM Aj'
 funs:BMg ABL
 frf:NL js (RF ASx)
structure Inv (X:Cx) (Ν:dX) (σ:AUL V) (H:Hp) (s:AD):Ι where
 ok:X.Ok
 os:s.os=X.s₀.os
 Hb:BLU
 DI:Un js ABM ASx H X.s₀.heap A6
 loc:∃m,BOf/\∀(i:Δ) (x:Μ) (v:V),HV ->A1d ->OV ->∃u,OY/\Look BO A6 m x u
 cell:AfK (∃v,AxQ)
 eD:UT WH
 freeC:AfK (UT c)
 pin:XL (X.pn++Ν) BhA
 D7:pG GE X.w H A6
 len:AsI=X.N.length
section
variable{X:Cx}{Ν:dX}{σ:AUL V}{H H' :Hp}{s:AD}{h' :AQ}
theorem Cx.Ok.nofr(ok:X.Ok){b:Ζ}{o:Obj}(e:LM X.base.get?):Aj':=AEW (by
 have:=(ok.funs.mem hb).1;show Da e;show L9)
theorem Inv.bs(WA):AkU (mB/\NU):=OH ⟨AsJ b o BL' BPx (I.ok.nofr e) BKj,ASy b o BL' BPx BKj⟩
theorem Inv.bk(WA):AkU mB:=OH (gf I.bs).1
theorem Inv.mod(WA):BY_:=I.ok.mod
theorem Inv.kIn(WA):X.K.In A6:=I.ok.mod.Jc.keeps I.bk
theorem Inv.lt(WA):P6 WH:=let ⟨_,hn,_⟩:=pM;hn.lt
theorem Inv.sz(WA):ANX CF:=zO ALA (AGg I.lt)
theorem Inv.nofs(I:AW){a:Ζ}(h:sR a):a∉js:=AEW (by
 obtain⟨_,o,ho,_⟩:=BKC;exact AFu (zM (zG ho) (zO I.sz h)))
theorem Inv.cne(WA):ύ WH:=BBt (by
 obtain⟨v,o,ho,hd⟩:=BNe;obtain⟨m,⟨o',es,ep,ho',hd',_⟩,_⟩:=pM;rw[z,ho'] at ho;show AE ho ho ho ho ho ho ho ho ho ho ho ho ho ho;rw[hd'] at hd;show Ab4)
theorem Inv.funs(WA):A5G ABL:=by
 have all:∀(l:L_),(bS (frs l) A0G) ->BMg l ->A5G l:=by
  intro l;induction l with
  | C3=>intro _ _;trivial
  | AX BI r ih=>
   intro hs hl;obtain⟨hk,⟨L,o,hf,hn,ho,hd⟩,hr⟩:=hl;have hL:L∈js:=hs L (BX' zY)
   show hG sl (AsM L o ho (BGE L hL) hL (A1 (I.ok.Je L z hL)));exact⟨hk,⟨L,_,hf,hn,e,hd⟩,ih (NJ (hs b (BX' (zW _ hb)))) hr⟩
 exact all ABL (JP hb hb) I.ok.funs
theorem Inv.stack(WA):A5G M3:=by
 rcases I.ok.stk with e | ⟨e,hf⟩
 ·rw[e];exact I.funs
 ·rw[e];obtain⟨m,hn,_⟩:=pM;refine sQ (AE' ALB) hf hn ?_ I.funs
  exact Heap.get?_none_of_le (zO I.ok.bsz ALA)
theorem Inv.stkSub(WA):NL ib (b∈WH::js):=FM (by
 rcases I.ok.stk with e | ⟨e,hf⟩
 ·rw[e] at hb;exact zW _ hb
 ·rw[e] at hb;unfold frs at hb;rw[AsL,hf] at hb;exact hb)
theorem Inv.stkFree(WA):NL ib NU:=FM (by
 rcases A_3 hb with e | hb
 ·rw[e];exact pS
 ·obtain⟨_,o,ho,_⟩:=BKC;exact ASy b o ho (BGE b hb) (A1 (I.ok.Je b z hb)))
theorem Inv.step(Bj_)(I:AW)
  (hch:BDq)
  (KL:BZD Aj' ACi)
  (O_:BZD A0G BWa) (eD:∀b o,Ahd ->mB ->NU ->ANA)
  (ASp:cy Ahd mB BLo)
  (tups:BCW) (mK:BXa) (o9:Baa)
  (ns:∀m,BOf ->h'.Ns WH m) (D7:AmN) (hg:AsH g'):
  Bkx:=by
 have neL:BRS:=BYx;have neC:cy Awy (b∉ABM) Ahd:=fun b o e hx hb=>by
  show ARF (W' hch)
  ·exact hx z
  ·exact AFu (zM (zG e) z)
 have cellK:AfK (∀v,AxQ ->A2j):=fun x c e v (AEy hd)=>by
  have Wu:c∉ch:=A1 (A'v (hch c z).2);by_cases hc:c∈js
  ·show Ee sl q (BZs O_) Wu ho AZ4;exact ET q hd
  ·exact⟨o,BZs KL Wu ho AZ4,hd⟩
 refine⟨xF,I.os,hg,⟨AOG,AOG,IE b o e n hx,Ahx,fun b xs e=>tups b xs (AdR b xs e),AI5 xs (mK b o xs (AS0 b o xs e)),OF ps e⟩,?_,ARL,?_,ARL,ic,D7,AGj⟩
 ·exact KL b o (gf neL) hb ApX Apo (A3e hx)
 ·show AqZ;show AEZ sl' (O_ b _ (gf neL) hb ApX e1 (A3e hx));exact⟨sl',e2⟩
 ·show AbO;exact eD b o' ApX e1 (A3e hx)
 ·show AbO;exact ASp b o' ApX e1
 ·show Ee m1 e1 AdS b ps e;show AEZ m2 (o9 b _ e1);exact⟨m1++m2,BQ5⟩
 ·show BPP;show Bjt ⟨m,ns m hn,Bc6⟩ (cellK x c e _ z)
 ·show Ee v z jv x c e;exact⟨v,cellK x c e v z⟩
 ·obtain⟨m,⟨o,_,_,ho,_⟩,_⟩:=pM;exact eD _ o (FG ((hch _ z).2.1 Β)) ho pS
 ·obtain⟨v,o,ho,hd⟩:=BNe;exact eD c o (FG (A'v (hch c z).2)) ho AZ4
 ·show ASQ;have Wu:CS∉ch:=A1 ((hch CS z).2.2.2 p hp Β);exact⟨KL CS p.2 ne nf Wu e n,eD CS p.2 Wu e n,ne,nf,d⟩
theorem Inv.un{t' :Δ}(I:AW)(u:AVj js [] H' h')(D7:AmN):ACd AN3:=by
 obtain⟨m,⟨o,es,ep,ho,r⟩,_⟩:=id pM;show Ee sl hL u.any ho pS A0
 exact BEW [] (JP z (nomatch z)) (BfC u.keep) (BfC u.slot) (fun b o _ e n=>u.free b o e n A0) (fun b o _ e=>u.there b o e A0) u.tups u.mK u.o9 (fun m' hm=>by
  obtain⟨o',es',ep',ho',r'⟩:=hm;rw[ho] at ho';show AE ho' ho' ho' ho' ho' ho' ho' ho' ho' ho' ho' ho' ho' ho';exact Bfj) D7 Ħ
theorem Inv.call(Bj_)(I:AW)(u:AVj ADp ch H' h')(D7:AmN)(hg:AsH g')
  (hch:BDq):
  Bkx:=by
 obtain⟨m,⟨o,es,ep,ho,r⟩,_⟩:=id pM;show Ee sl hL u.any ho pS (A1 ((hch _ z).2.1 Β));exact I.step (ch:=ch) hch (fun b o hL hb hc e n=>u.keep b o e n (FG ((Cn (BGF b z)).WI hL hb)) hc) (fun b o _ _ hc e n=>u.any e n hc) (fun b o hc e n=>u.free b o e n hc) (fun b o hc e=>u.there b o e hc) u.tups u.mK u.o9 (fun m' hm=>by
  obtain⟨o',es',ep',ho',r'⟩:=hm;rw[ho] at ho';show AE ho' ho' ho' ho' ho' ho' ho' ho' ho' ho' ho' ho' ho' ho';exact Bfj) D7 hg
theorem Inv.turned{t' :Δ}{it:Ζ}(I:AW)(k:Am5 (b≠it))(hn:UT it)(hL:it≠WH)
  (h1:it∈ABM\/ANX it) (h2:ύ it) (h3:Agz it):AzH:=by
 have Wv:gy H (b≠it):=XN e z (AlO hn)
 refine BEW [it] AYY (fun b o _ _ hc e _=>A_W) (BNi A_W) BTl
  (BPV A_W) AiR (AUA e e) BVv (TU m hm) (Kj) Ħ
 ·have e:b=it:=ACY
  subst e;exact⟨h1,hL,h2,h3⟩
 ·obtain⟨o,es,ep,ho,r⟩:=hm;exact⟨o,es,ep,k _ o (ALC hL) ho,r⟩
 ·refine Ax7 A5c v (k c v ?_ q);show ARF hc
  ·rw[z];show r9 Wv
  ·exact Wv c _ z
theorem Inv.tok(I:AW)(t:Δ):yT (Auu t):=I.un (h' :=A6) (t' :=t) Un.refl Iq
theorem Inv.kept{t' :Δ}(I:AW)(k:BMX):AzH:=I.un (ASs k) (I.hok.kept k)
theorem Inv.laid{a:Ζ}{o:HO}{t' :Δ}(I:AW)(k:BMX)(hp:sR a)(new:AHW AZk h' a o):
  ŝ a o AN3:=I.un (AdK k hp (AWc hp)) (I.hok.laid k hp new)
theorem Inv.write{x e:Ζ}{o:HO}{t' :Δ}(I:AW)(mu:A9a)(he:A_9)(k:AO9 e M_)(heo:BBr)
  (new:AHW (af x o) h' x o):ŝ x o AN3:=I.un (Un.write mu he k heo) (I.hok.write mu he k heo new)
theorem Inv.pins_of{rW :dX}(I:AW)(h:XL rW BhA):Inv X rW σ H s:=
 Av3 xF (ï (BUs (FG (AGk p (zP _ z))) (h p)))
theorem zte{N:Υ}(hN:N.Nodup){i j:Δ}{x:Μ}(a:yk N)(b:TC N x):i=j:=by
 show C5 h1 e1 xI a;show AEZ h2 (xI b);exact(List.getElem_inj hN).mp (e1.trans e2.symm)
theorem zq9{M:AS3}{A:BM}{E:dO}{i:Δ}{x:Μ}{v:V}{u:AI}{Q:ý}(I:AW)(hN:eJ)(hi:HV)(hx:AEH)(r:OY)
  (h:∀s',AMH Akk H s' ->(∃a,Ao8 j_/\ (a=WH\/F7 AsF a)) ->ANJ) (hf:AAg:=by show AqS):BZo:=by
 show BgL;have hcls:Bd1:=BKb
 have hiσ:AzC:=CL AGj ÿ
 have cne:=I.cne;have tracked:lx a Ζ h' AQ (∃o,A1_/\â) (Ao8 h') (pG GE X.w H h') :=fun{a h'} ha hs b ob e=>by
  obtain⟨_,_,hfree⟩:=ha;refine BiN;rintro Β;rcases hc with Β | hc
  ·rw[hfree] at e;show C6
  ·show LO hfree hc hc hc hc hc hc hc hc hc hc hc hc hc hc hc
 rcases hx with hk | hk
 ·refine wpAny_storeName_local hk hn (At h' hn' hs) hcls;obtain⟨oL,_,_,hoL,_⟩:=id hn;refine h _ (BdV (tracked ⟨oL,hoL,pS⟩ hs)) (ET hs APm)
  ·exact AZn (ARi ALA) Apo
  ·show AqZ;exact⟨sl,AQR (ARi ALA) e1⟩
  ·show AbO;exact⟨o',AQR (ARi ALA) e1⟩
  ·by_cases hj:j=i
   ·subst hj;show Axf hi;rw[A7t] at e2;show i8;exact⟨u,r,.DV ⟨hk,C_⟩⟩
   ·rw[Ŭ AS4 hj] at e2;obtain⟨u',r',q⟩:=hl j y v' e1 e2 e3;refine DM u' r';show Bkv (y≠x) e1 hi
  ·show Ee w' z jv y c e;exact⟨w',AyT⟩
  ·show ASQ;exact BBp ne
 ·have hfn:Aun:=by
   rcases hf with z | z
   ·exact z
   ·show LO z hk hk hk hk hk hk hk hk hk hk hk hk hk hk hk
  obtain⟨c,hc⟩:=I.ok.has x Azr;show Ee w' z jv x c hc;refine wpAny_storeName_cell ALB hk hc z (At h' hc' hs);obtain⟨oc,hoc,aaL⟩:=id z;refine h Sr ⟨xF,I.os,Ħ,⟨AOG,AOG,ASy,Ahx,AdR,AS0,AdS⟩,⟨m,hn.sameBut hs (ALC (cne x c hc)),BoG⟩,cf y c',pS,AGi,ic,tracked ⟨oc,hoc,AGi x c hc⟩ hs,CY AGj⟩ ⟨c,hs,.B0 hc⟩
  ·exact AZn (ARi BDk) Apo
  ·show AqZ;exact⟨sl,AQR (ARi BDk) e1⟩
  ·show AbO;exact⟨o',AQR (ARi BDk) e1⟩
  ·by_cases hj:j=i
   ·subst hj;show Axf hi;rw[A7t] at e2;show i8;exact⟨u,r,.B0 ⟨.DV hk,c,hc,hc'⟩⟩
   ·rw[Ŭ AS4 hj] at e2;obtain⟨u',r',q⟩:=hl j y v' e1 e2 e3;refine DM u' r';rcases q with q | ⟨k,c',e,z'⟩
    ·show E5 q
    ·refine .B0 ⟨k,c',e,z'.sameBut hs ?_⟩;rintro Β;exact hj (zte hN e1 (I.ok.inj _ _ _ e hc ▸ hi))
  ·by_cases hcc:c' =c
   ·subst hcc;exact FF hc'
   ·show Ee w2 z2 jv y c' e;exact⟨w2,z2.sameBut hs hcc⟩
  ·show ASQ;refine BBp ?_;intro q;rw[q,hoc] at e;have q' :oc=p.2:=zF e;exact d w' (U' q' aaL)
theorem U0{M:AS3}{A:BM}{E:dO}{i:Δ}{x:Μ}{v:V}{u:AI}{Q:ý}(I:AW)(hN:eJ)(hi:HV)(hx:AEH)(r:OY)
  (h:AZr (AMH Akk H s')) (hf:AAg:=by show AqS):BZo:=
 zq9 I hN hi hx r (fun s' I' _=>h s' I') hf
theorem Inv.call'{s' :AD}{ch:B5}(I:AW)(ho:AZp)(u:AVj ADp ch H' j_)(D7:AmO)(hg:AN')
  (hch:BDq):AJ9 :=by
 obtain⟨h',g',d',t',o'⟩:=s';have e:o' =s.os:=ho;show vT (I.call (g' :=g') (t' :=t') (d' :=d') u D7 hg hch)
#where
abbrev XK:=AHw (ł OW)
abbrev St:=AUL V
abbrev VK:=APz
abbrev TE:=AuX St
abbrev TT:=AoF AJq
abbrev TA:=AoF AP0
structure j' where
 nx:TH
 rt:VK
 bk:TH:=Ŋ
 ct:TH:=Ŋ
abbrev TS:=j' ->TH
inductive EP (X:Cx) (Ν:dX) (σ:St) (Q:VK) (u:AI) (s' :AD):Ι
 | mk:∀v H',(Inv X Ν σ H' s') ->(HP v u) ->(Q v H') ->ϟ u s'
def TP(X:Cx)(Ν:dX)(σ:St)(Q:AJq)(b:AN)(s' :AD):Ι:=∃H',AJ9 /\Q b H'
inductive AP (X:Cx) (Ν:dX) (σ:St) (Q:AP0) (us:Au) (s' :AD):Ι
 | mk:∀vs H',(Inv X Ν σ H' s') ->(IM vs us) ->(Q vs H') ->AP X Ν σ Q us s'
def SP(X:Cx)(Ν:dX)(D:j')(f:Flow)(s' :AD):Ι:=
 match f with
 | ADd=>A4r WJ
 | .brk=>A4r D.bk
 | .Nn=>A4r D.ct
 | .ret u=>∃v DB H',AvK /\OY/\D.rt v H'
def PE(X:Cx)(e:AJ)(t:TE):Ι:=
 A9_ VK (ADr (qi e))
def PT(X:Cx)(e:AJ)(t:TT):Ι:=
 A9_ AJq (BOe (qi e))
def PW(X:Cx)(e:AJ)(t:TT):Ι:=
 ∀(AGl:AUu) (Ν:dX) (s:AD) (σ:St) (H:Hp) (Q:AJq),AW ->ä ->BOe AGl
theorem PW.pt{X:Cx}{e:AJ}{t:TT}(h:PW X e t):PT X e t:=h _
def PA(X:Cx)(es:DA)(t:TA):Ι:=
 ∀(AA:AS) (Ν:dX) (s:AD) (σ:St) (H:Hp) (Q:AP0),AW ->ä ->AfI (spliced (y_ es)) AP
def PS(X:Cx)(st:AT)(t:TS):Ι:=
 BfO (exec st BO)
def Ik(X:Cx)(st:Tm)(t:TS):Ι:=
 BfO (execs st BO)
theorem bV{α:CB}{t:Sem α}{Q Q' :PY α}{M:AS3}{A:BM}{E:dO}{s:AD}(h:ua t)(hQ:∀a s,Q a s ->Q' a s):PD M A t Q' E s:=eL h hQ om
section
variable{X:Cx}
def QK(AQa):TE:=AUd (∃v,A1d/\Q v H)
def tC(v:V):TE:=Aa3 (Q v H)
theorem qR{i:Δ}{x:Μ}{AA:AS}(BDj):PE X vt (QK i):=by
 show DH Q;show Th v e h;show BPP;show AIz r l (hl i x v hN e hv);have fin:ϟ u s:=A'C;rcases l with ⟨hk,hm⟩ | ⟨hk,c,hc,hcell⟩
 ·exact BV' (wpAny_loadName_local ALB hk hn hm)
 ·show A1m hk hk hk (BV' (BWs wpAny_loadName_cell)) (wpAny_Name (BWs wpAny_loadName_free fin hcd) hd)
theorem yol{i j AA}:A7d ϫ ϫ:=AR5 (wpAny_Constant_int ⟨HI,H,AUj,E4,h⟩)
theorem ypm{b j AA}:A7d (Á b) AP3:=AR5 (Constant_bool (AMu v6 h))
theorem ymb{j AA}:ś AsV BH j (tC .non):=AR5 (BpX (AMu BS h))
theorem yoj{x j AA}:A7d AJv AJv:=AR5 (Calls.Constant_str ⟨vy,H,AUj,E4,h⟩)
def Gl(X:Cx)(x:Μ):Ι:=F7 AK' .globalImplicit
theorem GK(Bk')(I:AW)(hg:J_)(hm:AUq u)(h:Q u s)
  (hd:Fr:=by decide):AR8 (qi vt):=
 Ba6 (Calls.loadGlobal_global BWR hm h)
theorem Il(Bk')(I:AW)(hg:J_)(hm:Ϸ)(hv:ϭ u)(h:Q u s)
  (Bes):AR8 (qi vt):=YO mb h1 h2 I.mod.blt (Ba6 (Calls.loadGlobal_builtin BWR hm (gS I.ok.blt h1.keeps I.bk) ((h2 x hn).EC hv) h))
theorem yic(BjP)(hg:J_)(hm:AUq u)(r:OY)(BWY):PE X vt (tC v):=
 AR5 (GK I hg hm A'C hd)
theorem yky(BjP)(hg:J_)(hm:Ϸ)(hv:ϭ u)(r:OY)(Bes):PE X vt (tC v):=
 AR5 (Il I hg hm hv A'C hn hd)
variable{a b:AJ}{ta tb:TE}{AA:AS}
def PC(X:Cx)(op:CmpOp)(a b:AJ)(t:TE):Ι:=
 AXH Q VK ä (qi a) (Bbp (AWD (ALG op v u) (EP X Ν σ Q) Iy))
def tB(t:TE):TT:=ACm t (AbI (Q c H1))
theorem z14{op:CmpOp}{t:TE}(h:PC X op a b t)(h1:Agx:=by first | exact Ww _ Χ Χ | rfl):PT X AaM (tB t):=by
 show A5O;refine BpZ (bV A8r (Ĉ h1 (bV h1 fun u s2 h2=>bV h2 (At c s3 ED)))) h1;show VZ ED;show GT d q q1;show Ab5;exact ABN ⟨H1,I1,q⟩
theorem ymv{e:AJ}{t:TE}(h:PE X e t)(he:∀AGl,AsT e BO AGl=(do let v<- AGl;AdW e.pos;xN [v] (truthy v)):=by intro _;rfl):PT X e (tB t):=by
 show A5O;refine isTrue_plain (bV A8r (UZ v)) (he _);show VZ ED;show GT d q q1;show Ab5;exact ABN ⟨H1,I1,q⟩
variable{tA Mt :TT}{F_:DA}
def aaM(t u:TT):TT:=ft t c (ID c (u σ H1 Q) (Q AC H1))
def tOr(t u:TT):TT:=ft t c (ID c (Q Κ H1) (u σ H1 Q))
def aaN(t:TT):TT:=ft t c (Q (! c) H1)
theorem ykn(A2e):PW X (Afk [a]) tA:=by
 show AoC;refine Ake isTrue_and ha Q (yi c e);cases c with
 | Κ=>exact isTrue_and_nil e
 | AC=>exact e
theorem ymm(A2e):PW X BLj tA:=by
 show AoC;refine Ake isTrue_or ha Q (yi c e);cases c with
 | AC=>exact isTrue_or_nil e
 | Κ=>exact e
theorem ylx(ha:PT X a tA)(hb:PW X Ali Mt):PW X Alj (aaM tA Mt):=by
 show AoC;refine AQL isTrue_and (UZ c);show AqN;cases c with
 | Κ=>exact hb wh Ν s1 σ H1 Q I1 q1
 | AC=>exact⟨H1,I1,q1⟩
theorem ypb(ha:PT X a tA)(hb:PW X Alk Mt):PW X Alm (tOr tA Mt):=by
 show AoC;refine AQL isTrue_or (UZ c);show AqN;cases c with
 | Κ=>exact⟨H1,I1,q1⟩
 | AC=>exact hb wh Ν s1 σ H1 Q I1 q1
theorem ym1(A2e):PT X An2 (aaN tA):=by
 show DH Q;exact isTrue_not (AB' ha (hZ H1 (Q (! c) H1)) I h)
def Wx(ta tb:TE):TE:=ϛ (AbI (ID c (tb σ H1 Q) (Q AIU H1)))
def aaO(ta tb:TE):TE:=ϛ (AbI (ID c (Q AYU H1) (tb σ H1 Q)))
def Wy(ta:TE):TE:=ϛ (AbI (Q (.bl (! c)) H1))
theorem ynu{op}{t:TE}(h:PE X a t):ś AS8 op [a] t:=fun Ν s σ H Q I hw=>BoolOp_one (Afg Q I hw)
theorem yoi(ha:å)(hb:PE X Ali tb):PE X Alj (Wx ta tb):=by
 show DH Q;refine AQL BoolOp_and (n5 BL);show VZ BL;show A_g;show Ab5;show AlN;cases c with
 | Κ=>exact hb Ν s1 σ H1 Q I1 q1
 | AC=>exact BBh AC
theorem ypi(ha:å)(hb:PE X Alk tb):PE X Alm (aaO ta tb):=by
 show DH Q;refine AQL BoolOp_or (n5 Wz);show VZ Wz;show A_g;show Ab5;show AlN;cases c with
 | AC=>exact hb Ν s1 σ H1 Q I1 q1
 | Κ=>exact BBh Κ
theorem yme(ha:å):PE X An2 (Wy ta):=by
 show DH Q;refine AQL UnaryOp_ (n5 QL);show VZ QL;show A_g;show Ab5;exact not_of (ABN (BBh (! c)))
def tIf(t:TT)(ta tb:TE):TE:=ft t c (ID c (ta σ H1 Q) (tb σ H1 Q))
theorem yed{c:AJ}(hc:PT X c tA)(ha:å)(hb:AOE):PE X BPQ (tIf tA ta tb):=by
 show DH Q;refine BWU wpAny_IfExp;show AqN;cases d with
 | Κ=>exact ha Ν s1 σ H1 Q I1 q1
 | AC=>exact hb Ν s1 σ H1 Q I1 q1
#where
def nY(BgS):Ι:=
 Rd H a sT\/
  ∃(o:Obj) (AY:Kb) (n:Δ),BLV/\AVp K2 /\Ajv/\xD= A1r/\AzI/\BLd
def vR(BgS):Ι:=
 Rd H a Pw\/
  ∃(o:Obj) (AY:Kb) (n:Δ),BLV/\A3L /\xD= A1r/\AzI/\BLd
def aaP:AHw VV
 | BH=>Ε BS
 | .bool b=>Ε AP3
 | Aab=>Ε ϫ
 | A6u=>Ε AJv
 | .bytes b _=>Ε (.byt b)
 | .float b _=>Ε (.flt b)
 | EO=>Ε EV
 | PQ n=>Ε (.ty n)
 | _=>Θ
theorem RelV.abs(Bc2):aaP u=Ε x:=by
 cases x with
 | non=>show AAp;rfl
 | bl _=>show AAp;rfl
 | AL _=>show APo
 | AO _=>show APo
 | byt _=>show APo
 | flt _=>show APo
 | As _=>show AAp;rfl
 | ty _=>show AAp;rfl
theorem RelV.inj{x y:V}{u:AI}(r:ui)(q:NX):x=y:=zF (r.abs.symm.trans q.abs)
theorem Vals.inj:∀{xs ys:AV} {us:Au},mI ->ACS ys ->xs=ys
 | _,_,_,EB,EB=>Β
 | _,_,_,AFm,.AX r' t' =>G0 (r.inj r') (Vals.inj t t')
section
variable{X:Cx}{Ν:dX}{σ:St}{H:Hp}{s:AD}{a:Ζ}{xs ys:AV}
theorem Inv.list(I:AW)(h:A5m):BCS (A0k PlainL A6):=by
 rcases h with h | ⟨o,AY,n,hk,hc,hd,hs,hz,r⟩
 ·show Aqv (h.ok Iq);exact⟨AY,r,⟨_,n,e,Β,Β,Β⟩,z⟩
 ·show Bdm ⟨o,n,BWV,hc,hd,CY hs⟩
theorem Inv.tuple(I:AW)(h:vR AG H a xs):BCS (A0k IsTup A6):=by
 rcases h with h | ⟨o,AY,n,hk,hc,hs,hz,r⟩
 ·obtain⟨z,AY,r,p⟩:=h.ok Iq;exact⟨AY,r,p,z⟩
 ·show Bdm ⟨o,BWV,hc,n,CY hs⟩
theorem Inv.list_inj(I:AW)(h:A5m)(h' :nY AG H a ys):xs=ys:=by
 obtain⟨AY,r,⟨o,n,e,_,_,d⟩,_⟩:=Ay4;obtain⟨eQ,r',⟨o',n',e',_,_,d'⟩,_⟩:=QQ h';rw[e] at e';show AE e' e' e' e' e' e' e' e' e' e' e' e' e' e';rw[d] at d';show APO d' d1;have:AY=eQ :=BU7
 show nN;exact r.inj r'
theorem Inv.tuple_inj(I:AW)(h:vR AG H a xs)(h' :vR AG H a ys):xs=ys:=by
 obtain⟨AY,r,⟨o,e,_,n,d⟩,_⟩:=kC h;obtain⟨eQ,r',⟨o',e',_,n',d'⟩,_⟩:=kC h';rw[e] at e';show AE e' e' e' e' e' e' e' e' e' e' e' e' e' e';rw[d] at d';show APO d' d1;have:AY=eQ :=BU7
 show nN;exact r.inj r'
#where
section
variable{X:Cx}{st:AT}{F_:Tm}{t u:TS}{e:AJ}{te:TE}{AA:AS}
def WD:TS:=A_K Afl
def aaQ(t u:TS):TS:=fun D σ H=>t BW0 σ H
theorem yhy:Ik X [] WD:=fun _ _ σ H _ I h=>AS9 ⟨σ,H,I,h⟩
theorem zop(h1:A8z)(h2:Ik X F_ u):Ik X (st::F_) (aaQ t u):=by
 show DH D;refine Ake Bpd h1 BW0 Aof;cases f with
 | KE=>
  obtain⟨DB,H',I',q⟩:=q;exact h2 Ν s1 DB H' D I' q
 | ret v=>exact q
 | brk=>exact q
 | Nn=>exact q
theorem zvd(h1:A8z):Ik X [st] t:=by
 show DH D;refine Ake Bpd h1 D Aof;cases f with
 | KE=>exact AS9 q
 | ret v=>exact q
 | brk=>exact q
 | Nn=>exact q
theorem Inv.quiet{Ν:dX}{σ:St}{H:Hp}{s:AD}(WA):interactive BO=AC:=XU interactive ALB
def WK(te:TE):TS:=BPU (L3 H1 (AHr H1))
theorem zzl(he:i4)(hs:AKk Θ:=by rfl):PS X (.AJ e AA) (WK te):=by
 show DH D;exact wpAny_Expr_any (bV v_ (Ĉ Jf (by show VZ Jf;exact⟨σ,H1,I1,q1⟩))) I.quiet hs
def aaR(te:TE):TS:=BPU D.rt
theorem ygu(he:i4):PS X (.Return AhU AA) (aaR te):=by
 show DH D;exact wpAny_Return_some (bV v_ (Ĉ Dz (by show VZ Dz;exact⟨x,σ,H1,I1,r1,q1⟩)))
def aaS(c:TT)(t u:TS):TS:=fun D σ H=>c σ H (fS H1 (ID b (t D σ H1) (u D σ H1)))
theorem ypf{c:AJ}{a b:Tm}{tc:TT}(hc:PT X c tc)(ha:Ik X a t)(hb:Ik X b u):PS X (.If c a b AA) (aaS tc t u):=by
 show DH D;refine BWU wpAny_If;show AqN;cases d with
 | Κ=>exact ha Ν s1 σ H1 D I1 q1
 | AC=>exact hb Ν s1 σ H1 D I1 q1
#where
abbrev TG:=V ->St ->D3 Hp (TH)
abbrev Ov:=AV ->St ->D3 Hp (TH)
def PG(X:Cx)(AdY:AJ)(t:TG):Ι:=
 ∀(Ν:dX) (s:AD) (σ:St) (H:Hp) (v:V) (u:AI) (Q:TH),AW ->OY ->t v σ H Q ->
  A0j (AS_ AdY BO u) (AhJ Aw_)
def QM(X:Cx)(ts:DA)(t:Ov):Ι:=
 ∀(Ν:dX) (s:AD) (σ:St) (H:Hp) (vs:AV) (us:Au) (Q:TH),AW ->AQA ->t vs σ H Q ->
  A0j (assignInOrder ((assignEach ts X.env).map (·.2)) us) (AhJ Aw_)
abbrev QV:=BaM
def WL(X:Cx)(t:QV):Ι:=
 ∀(Ν:dX) (s:AD) (σ:St) (H:Hp) (o i v:V) (ov iv u:AI) (Q:F6 Hp),AW ->BB (HP o ov) (HP i iv) OY (t o i v H Q) (A0j (setItem ov iv u) (∃H',AJ9 /\Q H'))
section
variable{X:Cx}{AA:AS}
def Ow(AQa):TG:=AZx (Q Akk H)
theorem yjp{i:Δ}{x:Μ}(BiT)(hf:AAg:=by show AqS):PG X vt (Ow i):=by
 intro Ν s σ H v u Q I r h;exact BGM (U0 I hN hi hx r (fun s' I' =>⟨_,H,I',h⟩) hf)
def aaT:Ov:=qk vs Q (vs= []/\Q σ H)
def WM(t:TG)(u:Ov):Ov:=qk vs Q (∃v r,vs=v::r/\t v σ H fun DB H' =>u r DB H' Q)
theorem yiu:QM X [] aaT:=by
 intro Ν s σ H vs us Q I r h;show APN h h;subst e;show AAp;exact Bpe ⟨σ,H,I,h⟩
theorem ydt{e:AJ}{es:DA}{t:TG}{u:Ov}(h1:PG X e t)(h2:QM X es u)
  (hs:AbS IQ (AXy e::(ALH es BO).EL (·.2)):=by rfl):QM X IQ (WM t u):=by
 intro Ν s σ H vs us Q I r h;show a_ v vr e1 h;subst e1;cases r with
 | AX r rr=>
  rw[hs];refine BGN (bV (h1 Ν s σ H _ _ _ I r h) (UZ _));obtain⟨σ1,H1,I1,q1⟩:=ED;exact h2 Ν s1 σ1 H1 _ _ Q I1 rr q1
def aaU(K:AB)(n:Δ)(t:Ov):TG:=AZx (∃a xs,Mb/\AFR/\B1=n/\t xs σ H Q)
theorem ymk{es:DA}{k:Δ}{t:Ov}{n:Δ}(hc:Fs)(h:QM X es t)
  (hn:RO ALH es BO=n:=by rfl) (hst:(ALH es BO).findIdx? (·.1)=Θ:=by rfl):PG X BT1 (aaU AG n t):=by
 intro Ν s σ H v u Q I r hw;obtain⟨a,xs,e1,hq,hl,hw⟩:=hw;subst e1;show AAp;obtain⟨AY,rv,ht,hz⟩:=kC hq;refine assign_Tuple_tuple V_ ht (by simp [hn,<- hl,AdZ]) hst (CA h' hx)
 have I1:APd:=BRm (OH (hx b o Aaq e));exact h Ν _ σ H xs _ Q I1 (Co rv) hw
def fQ(to ti:TE)(t:QV):TG:=AZx (to σ H (Ń o (ti σ H1 fun i H2=>t o i v H2 fun H3=>Q σ H3)))
theorem ynr{o i:AJ}{to ti:TE}{t:QV}(ho:PE X o to)(hi:PE X i ti)(hs:WL X t)
  (ha:∀v,AS_ (AjX o i) BO v=(do
   let ov<- xN [v] (eK o BO)
   let iv<- xN [v,ov] (eK i BO)
   AdW AA
   Bez
   BTV):=by intro _;rfl):PG X (AjX o i) (fQ to ti t):=by
 intro Ν s σ H v u Q I r h;rw[ha];refine AI4 (bV AYc (yi ov Jg));show VZ Jg;refine AI4 (bV (AMy hi) (At iv s2 Jh));obtain⟨y,H2,I2,r2,q2⟩:=Jh;refine Azt (z6 (ABP (bV (hs Ν s2 σ H2 x y v ov iv u _ I2 r1 r2 r q2) (AOV _ s3))));show ū H3 I3 q3;exact wpAny_release ⟨σ,H3,I3,q3⟩
def WQ(te:TE)(g:TG):TS:=AWY te x (g x σ H1 WJ)
theorem yhe{tg e:AJ}{te:TE}{g:TG}(he:i4)(hg:PG X tg g)(hs:AZB [tg] e:=by rfl)(hw:Aa9 [tg] e Θ:=by rfl)
  (h1:AbS [tg] [AXy tg]:=by rfl):AOs [tg] e (WQ te g):=by
 show DH D;refine wpAny_Assign_stores (bV v_ (UZ v)) hs hw;show VZ ED;rw[h1];exact bV (hg Ν s1 σ H1 x v _ I1 r1 q1) fun _ s2 q=>q
theorem z08{i:Δ}{x:Μ}{e:AJ}{te:TE}{I_ :AS}(hN:eJ)(hi:HV)(hx:AEH)(he:i4)(hs:AKk (DJ APj):=by rfl)(hf:AAg:=by show AqS):
  AOs Blr e (WQ te (Ow i)):=by
 show DH D;refine wpAny_Assign_Name (bV v_ (UZ v)) hs;obtain⟨y,H1,I1,r1,q1⟩:=ED;exact U0 I1 hN hi hx r1 (fun s2 I2=>⟨_,H1,I2,q1⟩) hf
def aaV(i j:Δ)(ta:TA):TS:=AWY ta vs (∃v w,vs= [v,w]/\WJ ((σ.set i Ì).set j (DJ w)) H1)
theorem yno{i j:Δ}{x y:Μ}{a b:AJ}{ta:TA}{px py pt:AS}{kt k2 QX}(hc:Fs)(hN:eJ)(hi:HV)(hj:ARf)(hij:AAb)
  (hx:Auo) (hy:ApD) (ha:AKK rV)
  (hw:Aa9 ASO ASI (DJ [x,y]))
  (hs:AZB ASO ASI:=by rfl):
  AOs ASO ASI (aaV i j ta):=by
 show DH D;rw[exec_Assign_arm];refine A0c;rw[hs];refine AIW;show dS
 refine z6 (Tuple_ (Ane (Au7 _) aaW));show AI7 aaW;obtain⟨v,w,e1,q1⟩:=q1;subst e1;obtain⟨u1,u2,Β,rv,qj⟩:∃u1 u2,us= [u1,u2]/\HP v u1/\HP w u2:=by
  cases r1 with
  | AX p q=>
   cases q with
   | AX p' q' =>
    show BEz;exact Y1 _ p p'
 refine BmQ (by show Ct (D6 2);decide)
 have I2:AJY (AWm (ATB (zD [u1,u2].Ĩ))):=AEQ;rw[hw];refine AIW;show BD (?_:Ã (do pb "assign.swapped-stores";let No<- unpackItems (BQ D1) 2 Θ;assignInOrder [fun v=>BGP BO y v,fun v=>BGP BO x v] BGQ;IO Flow.next) _ _ _) (BOg (unpackItems_tuple (No:= #[u1,u2]) V_ (Ash Adc _) (CA h' hx')));have I3:=I2.kept (h' :=h') (t' :=ATC) (OH (hx' b o Aaq e));refine z6 (BGN (BGR (U0 I3 hN hj Azs qj (TU s2 I4) Az0)));refine BGN (BGR (U0 I4 hN hi (Gc hx) rv (fun s3 I5=>Bpe (z7 ?_)) (E6 hx)));show Ps (List.set_comm _ _ (re hij)) I5 ⟨_,H1,I5,q1⟩
#where
section
variable{X:Cx}{AA:AS}
def QZ(c:TT)(tb:TS):TS:=A_K (∃W:Ajd,(∃m,W m σ H)/\∀m σ H,W m σ H ->
 c σ H (fS H1 (ID b (Blo (AfW (W m' DB H')) (tb (AVA N N) σ H1)) (AHr H1))))
theorem ycn{c:AJ}{MC:Tm}{tc:TT}{tb:TS}(hp:BDI)(hc:PT X c tc)(hb:BTG):PS X BYw (QZ tc tb):=by
 show DH D;obtain⟨W,⟨m0,w0⟩,T'⟩:=h;refine wpAny_While (codeAny_whileLoop (uB n (AhJ (W n DB H'))) ?_ m0 ⟨σ,H,I,w0⟩);rintro n s1 ⟨σ1,H1,I1,w1⟩;refine APG (hc Ν s1 σ1 H1 _ I1 (T' n σ1 H1 w1)) (OF s2 ED);show ū H2 I2 q2;cases b with
 | Κ=>
  obtain⟨N,hN,q2⟩:=q2;show XY;refine APG (hb Ν s2 σ1 H2 _ I2 q2) (At f s3 q3);cases f with
  | KE=>
   obtain⟨σ3,H3,I3,n3⟩:=q3;obtain⟨m',hm,w3⟩:=hN σ3 H3 n3;exact⟨m',hm,σ3,H3,I3,w3⟩
  | Nn=>
   obtain⟨σ3,H3,I3,n3⟩:=q3;obtain⟨m',hm,w3⟩:=hN σ3 H3 n3;exact⟨m',hm,σ3,H3,I3,w3⟩
  | brk=>exact q3
  | ret v=>exact q3
 | AC=>
  show AjO;exact AS9 ⟨σ1,H2,I2,q2⟩
#where
structure It where
 go:ł Δ
 yld:ACG Hp APz
 ABQ:ł Δ
def pH(X:Cx)(Ν:dX)(H:Hp)(b:Ζ):Ι:=
 NU/\AVE/\Aj'/\ Bmd/\ (ύ b)/\Agz b
theorem Inv.fpOk{X:Cx}{Ν:dX}{σ:St}{H H' :Hp}{s:AD}{b:Ζ}(I:AW)(hb:sR b)(hn:ANA):AnK:=by
 refine⟨hn,ALN (zM I.lt hb),I.nofs hb,.B0 (zO I.sz hb),BaE,At p hp z⟩
 ·show Ee v q jv x c e;exact AFu (zM q.lt (EQ z hb))
 ·exact AFu (zM (zG (AJE AGk)) (EQ z hb))
structure Turn (P:A2) (w:An) (K:AB) (tg:AJ) (J:It) (fp:B5) (it:Ζ) (tn:AZi):Ι where
 mem:it∈fp
 obj:BZn
 KL:Bh9
 UA:ArN Fs (BB AW Ak9 AW2 Akw (AqT (∃u,r=Ε u/\
   PD ACx X.A BAo (JP s2 (∃x H',Ako/\ui/\J.yld i H x H' /\BSe/\lm ANA)) E s1)))
 K_:ArN Fs (BB AW Ak9 AW2 Akx (AqT BSk))
 QU:Bie
abbrev TI:=AoF ANu
def PIE(BlI):Ι:=
 ∃(it:Ζ) (fp:B5) (tn:AZi) (J:It) (H' :Hp),itv= .As it/\Ako/\Turn GE X.w AG tg J fp it tn/\BSP/\ (bS fp AnK)/\Ao3
def PI(Biy):Ι:=
 AXH R ANu (wi σ H R) AYd (BeJ BPO)
theorem Q5{M:AS3}{A:BM}{E:dO}{s:AD}{tg:AJ}{it:Ζ}{u:AI}{o:Obj}{n:KA}{vs:Kb}{Q:ý}(ho:AUQ it)(hc:AVp n)(hd:Aad)
  (hn: (Bj7).ABR n=AC) (hQ:Q () s):ua BAo:=by
 (show KU tg tg tg tg tg tg tg tg tg tg tg tg tg tg)<;>first
  | exact z7 hQ
  | (
    (show KU u u u u u u u u u u u u u u)<;>first
    | exact z7 hQ
    | (
      refine gu BGT ho;rw[hc,hd];refine(?_:ua (AOB (U_ ((Bj7).ABR n) (vs[0]?==Ε (Z3 _)))));show BN (by intro h;rw[hn,Bpl] at h;show GN)
      exact z7 hQ))
def U3(K:AB)(a:Ζ):It:=
 BXh (H' =H/\∀xs,ϊ ->ci)
def Q6(K:AB)(a:Ζ):It:=
 ⟨Ť (∃xs x,AFR/\ci),fun i H x H' =>H' =H/\∀xs,AFR ->ci,Ť (∃xs,AFR/\AWr)⟩
def Lk(lo:Ψ)(n:Δ):It:=⟨fun i _=>i<n,fun i H x H' =>H' =H/\x= .AL AY1,fun i _=>n<=i⟩
theorem zyf(AR_)(a it:Ζ):ARp (U3 K a) BOw where
 mem:=C_
 obj:=AKb (by
  have e:b=it:=ACY
  subst e;show A_Z)
 KL:=A_a
 UA:=by
  show dk;show SV;show BDg;show ARW QQ;show Cc u hu ru ALP hx;show ox
  refine wpAny_pyNext_list_item st ALQ (x:=u) AjA (md st' sb)
  have I1:APd:=AlU;show TD o e c d st';exact⟨u,Β,Q5 (s:=Sr) e c d Χ ⟨x,H,I1,ru,IC (A9' Asl),st',AO1⟩⟩
 K_:=by
  show dk;show SV;show BCM;show ARW QQ;show ox
  show AAe;exact wpAny_pyNext_list_end V_ st ALQ da AKg
 QU:=Anq wpAny_pyIter_listiter
theorem zsr(AR_)(a it:Ζ):ARp (Q6 K a) (Bpn it a i) where
 mem:=C_
 obj:=AKb (by
  have e:b=it:=ACY
  subst e;show A_Z)
 KL:=A_a
 UA:=by
  show dk;show SV;show BDg;show ARW kC;show Cc u hu ru ALP hx;show ox
  refine wpAny_pyNext_tuple_item st BNs (x:=u) AjA (md st' sb)
  have I1:APd:=AlU;show TD o e c d st';exact⟨u,Β,Q5 (s:=Sr) e c d Χ ⟨x,H,I1,ru,IC (A9' BGU),st',AO1⟩⟩
 K_:=by
  show dk;show SV;show BCM;show ARW kC;show ox
  show AAe;exact wpAny_pyNext_tuple_end V_ st BNs da AKg
 QU:=Anq wpAny_pyIter_tupleiter
theorem z4k(AR_)(it:Ζ)(lo:Ψ)(n:Δ):ARp (Lk lo n) (IsRangeIter h it (lo+ Lu i*1) (LS - Lu i) 1) where
 mem:=C_
 obj:=AKb (by
  have e:b=it:=ACY
  subst e;exact ET st (fun v z=>(BlQ (Data.fields _=Data.cell v))))
 KL:=AWO (k it A0 _ st)
 UA:=by
  show dk;show SV;show ox
  have W:=Walks.range (B9:=GE) (w:=X.w) V_ it lo 1 n;refine W.item i s _ _ hg st fun v h' tk hv st' kk=> ?_;show MW hv;have I1:yT mE:=AfL Asj (kk b o (Co hb) e)
  refine RU (Q5 (s:=mE) (n:= "range_iterator") st' Β Β Χ ⟨.AL AY1,H,I1,CI t,Ű,st',AO1⟩)
  rw[Asm]
 K_:=by
  show dk;show SV;show ox
  exact wpAny_pyNext_range_end V_ st (by have:n<=i:=hg;show Ω) AKg
 QU:=Anq wpAny_pyIter_rangeiter
section
variable{X:Cx}{tg:AJ}
theorem z13{Ν:dX}{σ:St}{H:Hp}{s:AD}{R:ANu}{E:dO}{lo hi:Ψ}{t u v:Tok}{tk:Δ}(I:AW)(h1: AIJ<=lo)(h2:lo<2^62)(h3: AIJ<=hi)(h4:hi<2^62)
  (q:R (Lk lo A_Q) H):Ã (ALO (BQ CF)) BPO E BT5:=by
 refine wpAny_pyIter_range (IsRange.new ..) (small_one h1 h2 h3 h4) ?_;have I1:yT BT5:=I.kept É;refine⟨A3I,[A3I],_,_,H,Β,
  Asg (t' :=tk) É,z4k _ lo A_Q,?_,Kk,q⟩
 ·have e1:lo+ APk*1=lo:=C_
  have e2:EU A_Q - APk=Builtin.Range.rangeSize lo hi 1:=by rw[rangeSize_one];show Ù
  rw[e1,e2];exact RR
 ·have e:b=A3I:=ACY
  show vT AJO
def WR(ta:TA):TI:=AiH (∃j:Ψ,vs= [AXq]/\ AIJ<=j/\j<2^62/\R (Lk 0 ABS) H1)
def WT(ta:TA):TI:=AiH (∃i j:Ψ,vs= AOF/\ (Bg8)/\R (Lk i BTI) H1)
theorem z8n{a:AJ}{ta:TA}{p AA:AS}(hg:Gl X o4)(hm:RS o4)(ha:AKK [a])(hs:BUZ:=by rfl):ð (AOl o4) (WR ta):=by
 show DH R;refine Call_ (ď boot_range (AXf AmJ hs Β));show AI7 ED;obtain⟨j,e,q1,q2,q⟩:=q1;subst e;cases r1 with
 | AX r rr=>
  show ArS;show MW r;exact call_range_1 (z13 I1 Η Η q1 q2 (Co q))
theorem z63{a b:AJ}(BDn)(hg:Gl X o4)(hm:RS o4)(ha:AKK rV)(hs:BYr:=by rfl)(hs2:BUa:=by rfl):
  ð (AUN o4 rV) (WT ta):=by
 show DH R;refine Call_ (ď boot_range (AXf (Ane AgR ⟨vs,H1,I1,r1,q1⟩) (ϒ hs hs2) (Y3 hs2)))
 obtain⟨i,j,e,⟨q1,q2,q3,q4⟩,q⟩:=q1;subst e;cases r1 with
 | AX r rr=>
  cases rr with
  | AX r' rr=>
   show ArS;show MW r;show ka t' r';exact call_range_2 (z13 I1 q1 q2 q3 q4 q)
def aaX(wi:TI)(g:TG)(tb:TS):TS:=AWY wi J (ARZ TH (W 0 m σ H1) (∀i m σ H,AZ5 ->
 Aby Akx Akw J.yld Apz))
def vU(fp:B5)(h:AQ):dX:=fp.filterMap fun b=>Cb KK b fun o=>(b,o)
theorem ziw{fp:B5}{h:AQ}{b:Ζ}{o:Obj}(hb:b∈fp)(e:sj):(b,o)∈vU fp h:=BMd b hb (by rw[e];rfl)
theorem ybm{fp:B5}{h:AQ}{p:Ζ×Obj}(hp:p∈vU fp h):CS∈fp/\ANi KK:=by
 show Cc b hb e List.mem_filterMap.mp hp;cases q:KK b with
 | Θ=>rw[q] at e;show C6
 | Ε o=>
  rw[q] at e;have e' :(b,o)=p:=zF e;subst e';exact⟨hb,q⟩
theorem Inv.pinned{Ν:dX}{σ:St}{H:Hp}{s:AD}{fp:B5}(I:AW)(hf:AY9)(ho:lm (Axw mB)):Inv X (Ν++vU fp A6) σ H s:=
 BWD (BUs (FG (AGk p (zQ _ z))) (A1 (by
  show hG hb (ybm z);obtain⟨f0,f1,f2,_⟩:=hf CS hb;show DE o e' d ho CS hb;rw[e] at e';show ie;exact⟨e,f0,f1,f2,d⟩)))
theorem Inv.unpinned{Ν pl:dX}{σ:St}{H:Hp}{s:AD}(I:Inv X (Ν++pl) σ H s):AW:=BWD (AGk p (zQ _ (zP _ hp)))
theorem z2e{Nw:AJ}{MC:Tm}{wi:TI}{g:TG}{tb:TS}{AA:AS}(hp:BDI)(hc:Fs)(hi:BSN)(hg:PG X tg g)(hb:BTG)
  (AF'):PS X (.For tg Nw MC [] AA) (aaX wi g tb):=by
 show DH D;refine wpAny_For (bV (kr hi) (Ĉ h1 BZg)) hs;obtain⟨it,fp,tn,J,H2,e,I2,T,st2,f2,W,⟨m0,w0⟩,T'⟩:=h2;subst e
 
 have stat:BeG AnK:=fun hn b hb=>⟨Ajz,lS f2⟩;refine codeAny_forLoop_any (uB n (∃i DB H',AvK /\Bm7/\ Agq/\W i n DB H')) ?_ m0 ⟨0,σ,H2,I2,st2,Afe f2,w0⟩;rintro n s3 ⟨i,σ3,H3,I3,st3,fr3,w3⟩;rcases T' i n σ3 H3 w3 with ⟨ABQ,qn⟩ | ⟨go,N,hN,ABT⟩
 ·refine BlF Aso ABQ;obtain⟨hr,I4⟩:=ED;subst hr;exact AS9 ⟨σ3,H3,I4,qn⟩
 ·refine BlF Asp go;show ū u hr h4;subst hr;refine APG h4 (At _ s5 aaY);obtain⟨x,H5,I5,r5,y5,U4,fr5⟩:=aaY;have I5' :=I5.pinned (stat fr5) (T.obj _ _ U4);refine APG (hg _ s5 σ3 H5 x u _ I5' r5 (ABT x H5 y5)) (AOV _ s6);obtain⟨σ6,H6,I6,q6⟩:=ED;refine APG (hb _ s6 σ6 H6 _ I6 q6) (At f s7 q7);have ALW:lx σ7 St H7 Hp (Inv X (Ν++vU fp s5.heap) σ7 H7 s7) (N σ7 H7) (AnY (∃i DB H',AMH DB H' s7/\tn i s7.heap/\ Agq/\W i m DB H')) :=fun{σ7 H7} I7 n7=>by
   obtain⟨m',hm,w7⟩:=hN σ7 H7 n7;refine⟨m',hm,D',σ7,H7,BGa,BcG U4 I7.pin,Kk,w7⟩;show X9 e d (AqD U4);exact Bdz I7.pin
  cases f with
  | KE=>obtain⟨σ7,H7,I7,n7⟩:=q7;exact ALW I7 n7
  | Nn=>obtain⟨σ7,H7,I7,n7⟩:=q7;exact ALW I7 n7
  | brk=>obtain⟨σ7,H7,I7,q7⟩:=q7;exact⟨σ7,H7,BGa,q7⟩
  | ret v=>obtain⟨x7,σ7,H7,I7,r7,q7⟩:=q7;exact⟨x7,σ7,H7,BGa,r7,q7⟩
#where
theorem yfr{K:AB}{a:Ζ}{xs:AV}{g:TG}(BDa)(Pv:Ajd)(h0:Pv 0 σ H)(hl:∀i σ H,AYq ->AFj ->ϊ)
  (hs:∀i x σ H,ci ->AFj ->BAk x) (hd:BCl B1):
  ARZ TH (W 0 m σ H) (∀i m σ H,AZ5 ->
   Aby ((U3 K a).ABQ i H) ((U3 K a).go i H) (U3 K a).yld Apz):=by
 refine Aas σ H B1 AYq AFj BO3
 rintro i m σ H ⟨Β,hi,p⟩;have q:=hl i σ H hi p;by_cases A8:nr
 ·refine A7o ⟨xs,xs[i],q,DT A8⟩ BL2
  show APN y y;subst e;exact BjB
 ·have e:i=B1:=Τ
  subst e;exact NS ⟨⟨xs,q,NY⟩,hd σ H p⟩
theorem ylo{K:AB}{a:Ζ}{xs:AV}{g:TG}(BDa)(Pv:Ajd)(h0:Pv 0 σ H)(hl:∀i σ H,AYq ->AFj ->AFR)
  (hs:∀i x σ H,ci ->AFj ->BAk x) (hd:BCl B1):
  ARZ TH (W 0 m σ H) (∀i m σ H,AZ5 ->
   Aby ((Q6 K a).ABQ i H) ((Q6 K a).go i H) (Q6 K a).yld Apz):=by
 refine Aas σ H B1 AYq AFj BO3
 rintro i m σ H ⟨Β,hi,p⟩;have q:=hl i σ H hi p;by_cases A8:nr
 ·refine A7o ⟨xs,xs[i],q,DT A8⟩ BL2
  show APN y y;subst e;exact BjB
 ·have e:i=B1:=Τ
  subst e;exact NS ⟨⟨xs,q,NY⟩,hd σ H p⟩
theorem z6i{lo:Ψ}{n:Δ}{g:TG}(BDa)(Pv:Ajd)(h0:Pv 0 σ H)
  (hs:∀i σ H,i<n ->AFj ->BAk (Ev AY1)) (hd:BCl n):
  ARZ TH (W 0 m σ H) (∀i m σ H,AZ5 ->
   Aby (AqX ABQ) (AqX go) (Lk lo n).yld Apz):=by
 refine DM (fun i m σ H=>m=n - i/\i<=n/\AFj) ⟨n,C_,LU,h0⟩
 rintro i m σ H ⟨Β,hi,p⟩;by_cases A8:i<n
 ·refine A7o A8 (n - DU)
  show APN y y;subst e y;exact hs i σ _ A8 p
 ·have e:i=n:=Τ
  subst e;exact NS ⟨NY,hd σ H p⟩
abbrev R2:=V ->V ->Auk
def jR(X:Cx)(f:AKi)(r:R2):Ι:=
 ∀(Ν:dX) (s:AD) (σ:St) (H:Hp) (x y:V) (v u:AI) (Q:VK),BB AW oq NX (r x y H Q) (ADr (f v u))
def UnR(X:Cx)(f:AHw AUu)(r:Ak0):Ι:=
 ∀(Ν:dX) (s:AD) (σ:St) (H:Hp) (x:V) (v:AI) (Q:VK),AW ->oq ->r x H Q ->
  ADr (f v)
def dY(X:Cx)(f:AI)(r:wf):Ι:=
 ∀(Ν:dX) (s:AD) (σ:St) (H:Hp) (xs:AV) (us:Au) (Q:VK),AW ->mI ->r xs H Q ->
  ADr (Ī f us)
def WW(r:R2)(ta tb:TE):TE:=BSY Q
def tUn(r:Ak0)(ta:TE):TE:=ϛ (r x H1 Q)
def rI(C:AoN)(g:AlX):R2:=AJH (BCY (Q wT H))
def Ox(g:AlX):R2:=AJH (BCn (Q wT H))
def rU(g:Ψ ->V):Ak0:=fun x H Q=>∃i,Af8/\Q (g i) H
section
variable{X:Cx}{a b c:AJ}{ta tb tc:TE}{AA:AS}
theorem Q7(ha:å)(hb:AOE){Ν:dX}{s:AD}{σ:St}{H:Hp}{R:V ->APz}(I:AW)
  (h:ta σ H (Ń x (sd tb y (R x y H2)))) {Q:dO} {f:AKi}
  (hf:∀v u s2 x y H2,BB (OE H2 s2) oq NX (R x y H2) (AWD (f v u) Q s2)):
  AHa (qi a) (Bbp (AWD (f v u) Q Iy)):=by
 refine bV ANB (n5 aaZ);show VZ aaZ;refine AC_ AlF u aa0;obtain⟨y,H2,I2,r2,q2⟩:=aa0;exact hf v u s2 x y H2 I2 r1 r2 q2
theorem ymu{op:Operator}{r:R2}(ho:jR X (Asr op) r)(ha:å)(hb:AOE):PE X BPL Apg:=by
 show DH Q;exact wpAny_BinOp (Q7 ha hb I h Bjl)
theorem ypj{op:AsZ}{r:Ak0}(ho:UnR X (unaryOp op) r)(ha:å):ś AsZ op a (tUn r ta):=by
 show DH Q;exact UnaryOp_ (bV ANB (Ĉ aa1 (by show VZ aa1;exact ho Ν s1 σ H1 x v Q I1 r1 q1)))
theorem opI{f:AKi}{C:AoN}{g:AUw Ψ}
  (pb:BEu (C i j ->A6U wT ->AR8 BDv)):
  jR X f (rI C (Þ wT)):=by
 show AGQ;show ACT i j Β hc q h;show XZ;show AFs;exact BEf hc (AaG wT)
theorem WX{f:AKi}{g:AUw Ψ}
  (pb:BEu (A6U wT ->AR8 BDv)):
  jR X f (Ox (Þ wT)):=by
 show AGQ;show EX i j Β q h;show XZ;show AFs;exact BEf (AaG wT)
theorem Q8{f:AKi}{g:AUw AN}
  (pb:BEu (Q (Á wT) s ->AR8 BDv)):
  jR X f (Ox (AMW (.bl wT))):=by
 show AGQ;show EX i j Β q h;show XZ;show AFs;exact BEf (AMu (.bl wT) q)
def Mu(AKO):Ι:=0<=j/\j<=1000000/\AYo 64
theorem yoe:ANE Add (Ox (Þ (i+j))):=Abe WX add_int
theorem yna:ANE Sub (Ox (Þ (i - j))):=Abe WX sub_int
theorem yiw:ANE Mod (rI (JP j AOc) BNM):=BPj (mod_int' hc q)
theorem ym4:ANE Pow (rI Mu BZk):=BPj (pow_int_small hc.1 hc.2.1 hc.2.2 q)
theorem unI{f:AHw AUu}{g:Ψ ->Ψ}
  (pb:∀(i:Ψ) (t:Tok) (s:AD) (Q:dO) (E:dO),A6U (g i) ->AR8 (f Ag5)):
  BV8 f (g i):=by
 intro Ν s σ H x v Q I rx h;show GT i q h;show XZ;exact pb i t s _ _ (AaG (g i))
theorem yoq:BV8 (unaryOp .USub) (-i):=unI (APK _ q (neg_int q))
#where
section
variable{X:Cx}{a b c:AJ}{ta tb tc:TE}{AA:AS}
theorem yg5{Ν:dX}{σ:St}{H:Hp}{s:AD}{Q:VK}{k k' :AN}(I:AW)(q:Q (.bl k) H)(e:k=k'):ϟ (Á k') s:=by
 subst e;exact AMu (.bl k) q
theorem yo9:A9S Lt (i<j):=Abe Q8 lt_int
theorem ypv:A9S LtE (i<=j):=Abe Q8 le_int
theorem yo5:A9S Gt (j<i):=Abe Q8 gt_int
theorem ynf:BRs Is (Q (.bl (O0 (x= BS))) H):=by
 show AGQ;show u8 q h;show AGS;refine is_none_gen (yg5 I q ?_);(show KU x x x x x x x x x x x x x x)<;>first
  | (show Kx;rfl)
  | (show XZ;rfl)
theorem yk0:BRs IsNot (Q (.bl (!(Φ (x= BS)))) H):=by
 show AGQ;show u8 q h;show AGS;refine isnot_none_gen (yg5 I q ?_);(show KU x x x x x x x x x x x x x x)<;>first
  | (show Kx;rfl)
  | (show XZ;rfl)
theorem bx(b:AJ){op:CmpOp}(h:op≠ .In:=by decide)(h2:op≠ ŷ:=by decide):Agx:=by
 have e1:WZ op CmpOp.In:=by (show KU op op op op op op op op op op op op op op)<;>first | rfl | show AFG h
 have e2:WZ op CmpOp.NotIn:=by (show KU op op op op op op op op op op op op op op)<;>first | rfl | show AFG h2
 (show KU b b b b b b b b b b b b b b)<;>simp [AsW,e1,e2]
theorem yjs(Bc3):PE X AaM Apg:=by
 show DH Q;exact wpAny_Compare1 (Q7 ha hb I h Bjl) hm
def Oz(t:TE):TT:=fun σ H Q=>t σ H fun x H' =>∃k,x= .bl k/\Q k H'
theorem yjh(Bc3):PT X AaM (Oz Apg):=by
 show DH Q;refine BpZ (bV ANB (Ĉ ⟨x,H1,I1,r1,q1⟩ (bV AlF fun u s2 (Aph r2)=>
  (BFH c)))) hm
 subst e;show BE';exact ABN ⟨H3,I3,q3⟩
def DG(r r' :R2)(ta tb tc:TE):TE:=BSY (fun z H3=>∃k,z= .bl k/\
 (B3 (k=Κ) (tc σ H3 fun w' H4=>r' y w' H4 Q) (Q AIU H3)))
theorem yds(Bju):PE X AqY (DG r r' ta tb tc):=by
 show DH Q;refine Compare_chain (bV ANB (Ĉ ⟨x,H1,I1,r1,q1⟩ (chain_link (bV AlF fun u s2 (Aph r2)=>
  (BFH d))))) hm
 subst e;show BE';show AlN;cases k with
 | AC=>exact ite_ff ⟨.bl AC,H3,I3,Β,q3⟩
 | Κ=>exact ite_tt (chain_last (bV BhV fun w' s4 aa2=>by obtain⟨z',H4,I4,r4,q4⟩:=aa2;exact ho' Ν s4 σ H4 y z' u w' Q I4 r2 r4 q4))
theorem ye1(Bju):PT X AqY (Oz (DG r r' ta tb tc)):=by
 show DH Q;refine isTrue_chain (bV ANB (Ĉ ⟨x,H1,I1,r1,q1⟩ (test_link (bV AlF fun u s2 (Aph r2)=>
  (BFH d))))) hm
 subst e;show BE';show AlN;cases k with
 | AC=>
  obtain⟨k',e',q'⟩:=q3;show ie;exact ite_ff ⟨H3,I3,q'⟩
 | Κ=>
  refine ite_tt (test_last (bV BhV (AOV w' s4)));obtain⟨z',H4,I4,r4,q4⟩:=ED;refine bV (ho' Ν s4 σ H4 y z' u w' _ I4 r2 r4 q4) (At d' s5 hz2);obtain⟨z2,H5,I5,r5,k2,e2,q5⟩:=hz2;subst e2;show AE r5 r5 r5 r5 r5 r5 r5 r5 r5 r5 r5 r5 r5 r5;exact ABN ⟨H5,I5,q5⟩
theorem qT:Lu ASo<2^63:=by rw[ALa];decide
theorem z32:ANE Add (fun x y H Q=>∃i j,x= .AO i/\y= .AO j/\D6 (i.length+j.length)/\Q (.AO (i++j)) H):=by
 show AGQ;show ACT i j Β hz q h;show XZ;show AFs;exact add_str (fun t' tk=>(BSn (i++j))) hz
theorem ALb{x:V}{us:Au}(r:ACS [x]):∃u,us= [u]/\ui:=by
 cases r with
 | AX r1 r2=>show AE r2 r2 r2 r2 r2 r2 r2 r2 r2 r2 r2 r2 r2 r2;exact RU r1
theorem vals2{x y:V}{us:Au}(r:ACS [x,y]):∃u w',us= [u,w']/\ui/\HP y w' :=by
 cases r with
 | AX r1 r2=>
  cases r2 with
  | AX r3 r4=>show AE r4 r4 r4 r4 r4 r4 r4 r4 r4 r4 r4 r4 r4 r4;exact Y1 _ r1 r3
theorem ye2:AMj "abs" (BAj (∃i,xs= [HI]/\Q (Ev Abk) H)):=by
 show AaH;show GT i q h;obtain⟨u,Β,t,Β⟩:=ALb r;exact call_abs_int fun u tk=>(AaG Abk)
#where
structure DK (h:AQ) (x dx C:Ζ) (mA:ER):Ι where
 obj:F7 KK A3l
 ns:Apm
 ne:dx≠x
theorem zv1{h:AQ}{dx:Ζ}{mA:ER}(n:Apm):Biv (ANr dx od):=by
 obtain⟨o,es,ep,ho,hd,hk,_,hm⟩:=n;refine AEy (LV D5);have e:=hm D5;unfold nsFind findBy at e;rw[<- Array.find?_toList] at e;unfold W.lookIn;rw[hd];dsimp only;split
 ·rename_i y q;rw[q] at e;exact ϵ Ε
 ·show LP;rw[q] at e;have a:Bps (·.refKey)=AC:=by
   rw[List.any_eq_false];intro y hy;obtain⟨z,t,hkey⟩:=hk y (Array.mem_toList_iff.mp hy);simp [DictEntry.refKey,hkey]
  have a' :¬Bps (·.refKey)=Κ:=CL a zJ
  show APU a' (ϵ Ε)
theorem DK.look{h:AQ}{x dx C:Ζ}{mA:ER}(I:DK h x dx C mA):Biv (W.InstAt h x A3l C (DJ od)):=
 let ⟨od,ho,hl⟩:=zv1 I.ns
 ⟨od,IS I.obj Β ho,hl⟩
section
variable{B9:A2}{w:An}{A:BM}{E:dO}{s:AD}{K:AB}{x dx C f:Ζ}{mA:ER}{D5:Μ}{v:AI}
theorem ylg{expr:AN}{Q:dO}(X:AJ_)(I:A7Y)(hg:AV6 C D5)(hh:Akq)
  (ha:Akl D5) (hv:BUr) (hv' :AzU v) (h:Q v AWL):
  KS (Adj l_ D5 expr):=YO od J hl I.look (W.get_value X J BQn (Bpu hh ha Β (ϒ hl hv)) hv' h)
theorem yel{pl:AQK}{Q:BQ6}(X:AJ_)(I:A7Y)(hg:AV6 C D5)
  (hf:Aus D5) (ht:AV_) (hv:mA D5=Θ) (h:Q (.As f,Ç x) s):
  KS (BGh l_ D5 pl):=YO od J hl I.look (W.method_fn X J BQn (Bpt hg).2 hf (AGr ht) (by show(W.lookIn name od).map (·.isSome)=some false;rw[hl,hv];rfl) h)
theorem yi7{ns:Υ}{Q:ý}(X:AJ_)(I:A7Y)
  (hs:A_j) (hp:BK2) (ht:BYm D5) (hh:Akq)
  (hw:Bo8 mA ns) (hsz:BJh)
  (h:ADW (DK h' x dx C (BAy (mA y))) (A7H dx) (Q () (AMR (Mm+2)))):
  KS A_8:=by
 obtain⟨od,J,hl⟩:=I.look;refine BGi X J hs (W.osa_open (s:=AWL) (r:=Θ) X J hp ht (LV b));show Cc cd hc hd' W.any_some hh;have hx:F7 M_ ⟨NI,Ε dx,.plain,#[]⟩:=I.obj;refine BnH (Bpv hx (z6 (Bfm AWL (BGj X hc) ?_)));rw[hd'];refine z7 (a:=Ε dx) (z6 (z7 (z6 ?_)));refine Bpw (s:=AWL) I.ns (md hn2 hs2);obtain⟨oD,esD,epD,hoD,hdD,hcD⟩:=hn2.count (PySem.Within.cons D5 v hw);refine BCy (ş GV)
 exact z7 (h _ ⟨(hs2.2 _ (re I.ne)).EC I.obj,hn2,I.ne⟩ hs2)
theorem z1u{R:A0T}{vs:Au}{kw:AOe}(X:AJ_)(hm:BK3)
  (hi:AJG) (hf:Abm)
  (h:AJA RE (AaR ⟨NI::vs,kw⟩) Lv ⟨.As nk::vs,kw⟩ (W.InitBack nk R) BYv):
  AJA RE A JU ⟨vs,kw⟩ R s:=by
 obtain⟨hh,g,d,t,os⟩:=s;exact W.make_core (W.makes_of X hm) (Asv X hi) (Bn QU (W.bind_fn X QU hf)) XI h
#where
def pI(A'p):n_ ->n_
 | []=> AmD
 | (g,x)::r=>Aa8 ((g,v)::r) ((g,x)::pI f v r)
theorem zo7(f g:Μ)(v:V):∀fs:n_,(pI f v fs).ABW g=Aa8 AIi (Ar_ g)
 | []=>by
  show Ct (ī g AmD=_);by_cases h:g=f
  ·show A5y A4M AXk
  ·show BM0 A2w AXl
 | A4P=>by
  have ih:=zo7 f g v r;show AOh (pI f v A2v=BC_);by_cases hk:k=f
  ·show DF hk;by_cases h:g=k
   ·show A5y (ACR g k) (ê h.trans hk)
   ·show BM0 (WZ g k) (Bbb (h (e.trans hk.symm)))
  ·show BN hk;by_cases h:g=k
   ·show A5y (ACR g k) (Bbb (hk (h.symm.trans e)))
   ·have hb:WZ g k:=AK7 h;simp only [ī,hb];exact ih
theorem zqp(A'p):∀fs:n_,f∈ Bff/\∀g,g∈Adk (·.1) ->g∈ Bff
 | []=>⟨DT pI,fun g h=>AQO⟩
 | A4P=>by
  show Ee i1 i2 zqp f v r;show AOh (pI f v A2v=BC_);by_cases hk:k=f
  ·show DF hk;subst hk;exact⟨C_,fun g h=>(CY h)⟩
  ·show BN hk;refine Po ?_ g h
   ·rw[Ff];exact zW _ i1
   ·rw[Ff] at h⊢;rcases AEk with e | e
    ·exact zU.mpr (Gc e)
    ·exact zW _ (i2 g e)
theorem zo5(A'p):∀fs:n_,(pI f v fs).Zs<=AGd+1
 | []=>DT pI
 | A4P=>by
  have ih:=zo5 f v r;show AOh (pI f v A2v=BC_);by_cases hk:k=f
  ·rw[C9 hk,GV,GV];show Ω
  ·rw[CO hk,GV,GV];show Ω
theorem nu.some_of{v:V}{o:fc}(r:nu (Ε v) o):∃u,o=Ε u/\OY:=by
 cases o with
 | Θ=>show AQ6
 | Ε u=>exact Rs u r
theorem nu.none_of{o:fc}(r:nu Θ o):o=Θ:=by
 cases o with
 | Θ=>rfl
 | Ε u=>show AQ6
theorem zo6{v:V}{u:AI}(r:OY):AzU u:=by
 cases v with
 | non=>show zo A3s r;rfl
 | bl b=>show zo (u=Ar6 b) r;rfl
 | AL i=>show Aop AaV
 | AO x=>show Aop Ana
 | byt b=>show Aop (Value.bytes b t)
 | flt b=>show Aop (BFt b t)
 | As a=>show zo AMV r;rfl
 | ty n=>show zo BUo r;rfl
section
variable{P:A2}{w:An}{H H' :Hp}{h h' :AQ}{a C dx:Ζ}{fs fs' :n_}
theorem zvs(D7:dl)(e:AZt):∃mA,DK h a dx C mA/\ (∀f,BDW)/\BOu/\AGd<=1000/\A6':=by
 obtain⟨d,z,ne,ob,mA,n,r,q⟩:=(FA (AAd A0') (D7 a _ e));exact⟨mA,⟨ob,n,ne⟩,r,q,z,d⟩
#where
structure Cls (AFo):Ι where
 pg:AV6 C Nc
 hd:Akq
 po:BK2
 sa:A_j
theorem Cls.get{K:AB}{C:Ζ}(c:Akb)(f:Μ):AV6 C f:=c.pg
def aD(K:AB)(C:Ζ)(f:Μ):Ι:=Akl f
theorem aD.taker{K:AB}{C:Ζ}{f:Μ}(n:ADj f):BYm f:=by
 unfold W.takerIn;show ck (Akl f) n
 rfl
structure Meth (K:AB) (C:Ζ) (m:Μ) (f:Ζ):Ι where
 at_:Aus m
 fn:AV_
 kp:AXF
section
variable{X:Cx}{Ν:dX}{σ:St}{H:Hp}{s:AD}{a C dx:Ζ}{fs:n_}{f:Μ}{v:V}{A:BM}{E:dO}
theorem z3t{b:AN}{Q:dO}(I:AW)(e:AZt)(c:A0W)(n:VI)(l:ARP)
  (h:BBq):BCG:=by
 obtain⟨mA,O,r,_,_,_⟩:=A0s;show BBX
 exact ylg eP O (c.get f) c.hd n hu A8I A'q
theorem WY{m:Μ}{g:Ζ}{pl:AQK}{Q:BQ6}(I:AW)(e:AZt)(c:A0W)(k:Meth AG C m g)(l:Ar_ m=Θ)
  (h:Q (.As g,SB) s):ŗ (BGh EV m pl):=by
 obtain⟨mA,O,r,_,_,_⟩:=A0s;have hn:mA m=Θ:=nu.none_of (Agi l r m)
 exact yel eP O (c.get m) k.at_ k.fn hn h
theorem z3q{y:V}{u:AI}{Q:ý}(I:AW)(e:AZt)(c:A0W)(n:VI)(hl:Axd)(ry:NX)
  (h:AZr (ŝ a BRa s')):BA_:=by
 obtain⟨mA,O,r,wi,_,ho⟩:=A0s;have hz:D6 (Su (fs.map (·.1))):=Agf ALa
 refine yi7 eP O c.sa c.po n.taker c.hd wi hz fun h' O' sb=>h _ ?_;have hd:∃o,ADQ dx:=let ⟨o,_,_,e',_⟩:=O'.ns;cz e';show BD (Aai a dx Am2 (E6 ho) (y9 q z (Al0 hb z)) hd ?_) ⟨U2 O.ne ho,?_,O.ne,O'.obj,_,O'.ns,LV g,CA g hg⟩
 ·have:=zo5 f y fs;show Ω
 ·rw[zo7];by_cases q:g=f
  ·rw[IF,IF];exact ry
  ·rw[CO q,NW];exact r g
 ·by_cases q:g=f
  ·rw[q];exact BNp.1
  ·refine BNp.2 g (wi g (A1 (hg ?_)));show(B3 (g=f) (Ε u) (mA g))=Θ;show BN q;exact z
theorem Inv.made(WA):OE (upd (af CF (.BA nk)) nk (.ins C CF [])) BYv:=by
 have e1:ADT (ϙ ABV) ABV:=z9 A6 Β;have e2:(AxC UC BMK).IN nk=Ε BMK:=ACk (z9 (ALR ABV) (o:=AdH C CF) Β) UD
 have e3:AxC Ns CF (D9 Θ):=⟨ABV,#[],_,e1,Β,(fun e he=>(Afi he)),APc⟩
 have I1:=PV ALe a CF o (.BA nk) h' (AUV ABV) t' Mm Ag9 (zN _) (FF e1);refine BCP ATF Aic (.ins C CF []) Ag9 (ATG (UD _ _)) ?_;have ne:CF≠Aic:=Aox;refine⟨A3X,LU,ne,e2,Awx,(Bpx e3).at fun o q=>AMs,Fk ALd,fun y hy=>Zl Β hy⟩
theorem zy6{B9:A2}{w:An}{BI:Env}{e:AJ}{f:Μ}{AA:AS}{s:AD}{Q:dO}(hb:BGl e f BI (ADV e)=eK e BI)
  (h:ApR e o (AH8 (Adj o f Κ) ES)):KS (ADV (.ALf e f AA)):=
 Attribute_any_ h (ϒ arm_eval_Attribute hb)
#where
def aa3(K:AB)(ta:TE)(f:Μ):TE:=ϛ (∃a C dx fs v,YE/\AJc A0'/\Akb/\ADj f/\ARP/\Q v H1)
def aa4(K:AB)(ta tv:TE)(f:Μ):TS:=A'l (∃a C dx fs,YE/\Hk H2 A0'/\Akb/\ADj f/\Axd/\
 AHr (upd H2 a BRa))
section
variable{X:Cx}{o e E8:AJ}{f:Μ}{AA I_ tpos:AS}{ta tv:TE}
theorem W0(he:PE X e ta)(hb:AUi f):BA' (aa3 AG ta f):=by
 show DH Q;refine zy6 hb (bV v_ (AHx aa5));obtain⟨x,H1,I1,rx,a,C,dx,fs,v,ex,ea,c,n,l,q⟩:=aa5;subst ex;show Y';exact z3t I1 ea c n l BDh
theorem z6g(ha:PE X o ta)(hv:Axo)(hs:Bnx):AOs (Ago o f) E8 (aa4 AG ta tv f):=by
 show DH D;refine BGm (bV Aj7 (UZ u)) hs;obtain⟨y,H1,I1,ry,q⟩:=ED;refine BS2;obtain⟨x,H2,I2,rx,a,C,dx,fs,ex,ea,c,n,l,q2⟩:=hz2;subst ex;show A1V;exact z3q I2 ea c n l ry (AIv ⟨σ,_,I3,q2⟩)
#where
section
variable{X:Cx}{Ν:dX}{σ:St}{H:Hp}{s:AD}{A:BM}{E:dO}{Q:dO}{c:AI}{b:AN}
inductive vm (K:AB) (H:Hp):Aip V where
 | non:ADu BS "NoneType"
 | bl (x:AN):ADu (.bl x) ASl
 | AL (ARb):ADu ϫ AGa
 | AO (AQG):ADu AJv ĝ
 | flt (x:UInt64):ADu (.flt x) "float"
 | B_ {a:Ζ} {xs:AV} (e:OG sT):BMt
 | frz {a:Ζ} {o:Obj} {xs:AV} (e:OG (.frz o sT)):BMt
 | DZ {a:Ζ} {xs:AV} (e:OG Pw):ADu EV ZN
 | dK {a:Ζ} {AH:tJ} (e:AJp):BMu
 | dT {a:Ζ} {AH:iN} (e:Ajs):BMu
 | ins {a C dx:Ζ} {fs:n_} (e:AZt) (cl:Akb) (ha:BTd)
   (hn:BnS BJ2 "__get__" "getset_descriptor.__get__") (htk:W.takesIn K BJ2=Ε Κ)
   (hm:Amp C):vm K H EV JU
theorem zkp{x:V}{u t:AI}(I:AW)(rx:ui)(ty:vm AG H x t)(e:Bbh t)(h:BcY):
  BVF:=by
 cases ty with
 | non=>show zo A3s rx;exact my W.kitx_none ALd
 | bl y=>show zo (u=Ar6 y) rx;exact my W.kitx_bool ALd
 | AL i=>show BDz AaV W.kitx_int
 | AO y=>show BDz (Ar4 y t) W.kitx_str
 | flt y=>show BDz (BFt y t) W.kitx_float
 | @B_ a xs ea=>
  show ARN;obtain⟨_,_,n,_,h1⟩:=(AaL sT);exact my BGn (OP h1)
 | @frz a ob xs ea=>
  show ARN;obtain⟨_,_,_,n,_,h1⟩:=(AaL (.frz ob sT));exact my BGn (OP h1)
 | @DZ a xs ea=>
  show ARN;obtain⟨_,_,_,p⟩:=(AaL Pw);show AVw h1 h2 p;exact my Bpy (AYX h2)
 | @dK a AH ea=>
  show ARN;obtain⟨_,_,vs,_,p⟩:=(AaL PU);obtain⟨o,es,ep,h1,h2,_⟩:=p;exact my BGo (AYX h2.1)
 | @dT a AH ea=>
  show ARN;obtain⟨_,_,xs,_,o,es,ep,h1,h2,_⟩:=(AaL ACu);exact my BGo (AYX h2.1)
 | @ins a C dx fs ea cl ha hn htk hm=>
  show ARN;obtain⟨mA,O,_⟩:=zvs Iq ea;obtain⟨od,J,_⟩:=O.look;exact my (W.kitx_own (cl.get _) cl.hd ha hn htk hm) J
#where
structure cY (k:Δ) (A:BM):Ι where
 hd:P8
 dp:Asw+3*k+5<Bpz
 un:AGs+16*k+200<cLine
theorem cY.mono{j k:Δ}{A:BM}(r:Ahj)(h:j<=k):cY j A:=⟨r.hd,OR r.dp,OR r.un⟩
theorem cY.deeper(BTJ)(r:cY LN A)(BI:Env):AfJ k BI:=
 ⟨r.hd,by have:=r.dp;show Ct (Asw+1+3*k+5<_);show Ω,by have:=r.un;show Ct (AGs+3+16*k+200<_);show Ω⟩
theorem z4l{A:BM}{C:Ζ}{us:Au}{kw:AOe}:(Asu A2n).depth=Asw+1:=by
 first | rfl | simp [BGp,Code.weight,Code.isCreation,Code.isGuard,Code.isCaller,Code.frames,BGq,guardIds]
theorem z4x{A:BM}{C:Ζ}{us:Au}{kw:AOe}:(Asu A2n).units=AGs+1:=by
 first | rfl | simp [BGp,Code.cUnits,Code.frames,BGq]
theorem cY.make(BTJ)(r:cY LN A)(C:Ζ)(us:Au)(kw:AOe):cY k (Asu A2n):=
 ⟨r.hd,by have:=r.dp;rw[z4l];show Ω,by have:=r.un;rw[z4x];show Ω⟩
theorem cY.depth(Bho):Asw<Bpz:=OR r.dp
theorem cY.units(Bho):AGs+64<cLine:=OR r.un
def aa6:TA:=Aa3 (Q [] H)
def W3(ta:TE)(tr:TA):TA:=ϛ (sd tr xs (Q ARI H2))
section
variable{X:Cx}{e:AJ}{es:DA}{te:TE}{t:TA}{AA:AS}
theorem U5:PA X [] aa6:=fun _ _ _ _ H Q I h=>Bp0 ⟨[],H,I,EB,h⟩
theorem Mv(ha:i4)(hr:Alx)(hs:AGN:=by rfl):PA X IQ (W3 te t):=by
 intro AA Ν s σ H Q I h;rw[hs];refine AQL Asy (AHx aa7);show VZ aa7;exact bV (hr AA Ν s1 σ H1 _ I1 q1) fun us s2 aa8=>by obtain⟨xs,H2,I2,r2,q2⟩:=aa8;exact⟨SK,H2,I2,.AX r1 r2,q2⟩
def aa9(t:TA):TE:=Bhv Pw
def abb(t:TA):TE:=Bhv sT
theorem ygt{x1}(h:Alx):ś AGn es x1 (aa9 t):=by
 intro Ν s σ H Q I hq;refine wpAny_Tuple_spliced (bV (h AA Ν s σ H _ I hq) Bbx)
 have hf:Ak1:=AmE;refine⟨BJZ,upd H1 D1 Pw,BcF,Β,q _ hf⟩;exact⟨z,us,r,⟨_,RR,Β,_,Β⟩⟩
theorem ylv(h:Alx):PE X BSu (abb t):=by
 intro Ν s σ H Q I hq;refine wpAny_List_spliced (bV (h AA Ν s σ H _ I hq) Bbx)
 have hf:Ak1:=AmE;refine⟨BJZ,upd H1 D1 sT,BcF,Β,q _ hf⟩;exact⟨z,us,0,r,RR⟩
#where
abbrev Sp:=AV ->Hp ->D3 VK XK
abbrev Ln:=BB L_ Hp AD XK (PY AI)
structure Aq (AXV) (mg:ER) (DI:AQ) (A:BM) (Ch:L_) (s:AD) (H:Hp):Ι where
 frames:AiZ Ch
 mod:Mod K mg DI
 bs:ŋ base.get? (mB/\NU)
 bsz:base.objs.size<=CF
 funs:BGD DI Ch
 frf:NL (frs Ch) NU
 D7:pG P w H A6
 Hb:BLU
def CE(Ch:L_)(P:A2)(w:An)(H:Hp)(s:AD)(Q:VK)(u:AI)(s' :AD):Ι:=
 ∃v H',AZp/\AN'/\Anr A1i/\BZ5/\OY/\Ų
def CR(CX:Ln)(Ch:L_)(P:A2)(w:An)(H:Hp)(s:AD)(Q:VK)(E:XK)(r:Result)(s' :AD):Ι:=
 match r with
 | .ok (.ret u)=>BEh
 | .ok _=>EM
 | .kH e=>CX Ch H s E e s'
structure fU (AyW) (CX:Ln) (k:Δ) (f:Ζ) (fd:FS) (ps:Υ) (sp:Sp):Ι where
 len:BXU
 run:∀(A:BM) (Ch:L_) (s:AD) (H:Hp) (E7:Args) (us:Au) (vs:AV) (Q:VK) (E:XK),Ahj ->BB An_ (BXb Ado) AQA AiL (AJA ACx A Lv E7 (CR CX Ch P w H s Q E) s)
theorem fU.imp{P:A2}{w:An}{K:AB}{mg:ER}{DI:AQ}{CX:Ln}{k:Δ}{f:Ζ}{fd:FS}{ps:Υ}{sp sp' :Sp}(F:BZJ sp)
  (h:∀vs H Q E,sp' vs H Q E ->AiL):BZJ sp' :=
 ⟨fun vs H Q E q=>F.len vs H Q E (L2 h q),fun A Ch s H E7 us vs Q E hr he hb hv hs=>F.run A Ch s H E7 us vs Q E hr he hb hv (L2 h hs)⟩
theorem Aq.make(BkO){A:BM}{Ch:L_}{s:AD}{H:Hp}(e:An_)(C:Ζ)(us:Au)(kw:AOe):
  Bl5 (AaR ⟨NI::us,kw⟩):=⟨by first | exact e.frames | (simpa [BGp,Code.envs,BGq,pushEnvs] using e.frames),e.mod,e.bs,e.bsz,e.funs,e.frf,e.hok,e.bare⟩
section
variable{X:Cx}{Ν:dX}{σ:St}{H:Hp}{s s' :AD}
theorem Inv.env0(WA):BbQ s H:=
 ⟨I.ok.frames,I.ok.mod,I.bs,zO I.ok.bsz I.sz,I.stack,I.stkFree,Iq,Ħ⟩
theorem Inv.after{Q:VK}{u:AI}(I:AW)(h:CE M3 GE X.w H s Q u s'):ϟ u s' :=by
 obtain⟨v,H',os,Hb,un,D7,r,q⟩:=h;obtain⟨hh,g,d,t,os'⟩:=s';show FB (os' =s.os) os;exact⟨v,H',I.call (h' :=hh) (g' :=g) (d' :=d) (t' :=t) (ch:= []) un D7 Hb AwP,r,q⟩
#where
def ATI(K:AB)(fd:FS)(ps:Υ)(ds:Au):Ι:=
 ∀(s:AD) (us:Au),AJ_ ->AIo (us++ds) ->Asz s fd AWp (Ado (us++ds))
theorem Binds.all{K:AB}{fd:FS}{ps:Υ}(h:∀us:Au,BKk ->BWi fd):AIO:=fun s us _ hl=>by
 rw[UE] at hl⊢;exact .of_eq (h us hl)
section
variable{X:Cx}{CX:Ln}{k:Δ}{f C:Ζ}{fd:FS}{ps:Υ}{sp:Sp}{dvs:AV}{ds:Au}{E:XK}{x m:Μ}{p AA KM:AS}{e o:AJ}{es:DA}{ta:TE}{t:TA}
structure Mk (K:AB) (C f:Ζ):Ι where
 makes:BK3
 init:AJG
 fn:AV_
 kp:AU6 JU
#where
structure au (N P:Υ) (sc:Oy):Ι where
 kind:A4y
 co:MO sc.isCoroutine
 gen:MO sc.isGenerator
 nd:N.Nodup
 DS:N.take P.length=P
 par:∀x∈P,A7w AZg
 nofree:∀y∈QY,y.2≠ S_
theorem zwh(BWj):BgV ALg
 | [],_,_=>Β
 | (n,v)::r,m,h=>by
  unfold ALg;rw[zwh fun w hw=>h w (Ai2 hw)];split
  ·show Bh0
  ·rfl
theorem zxt(BWj):BgV ALh
 | [],_,_=>Β
 | (n,v)::r,m,h=>by
  unfold ALh;rw[zxt fun w hw=>h w (Ai2 hw)];split
  ·rfl
  ·show Bh0
theorem zwm{ABX:Aw3}{x:Μ}{v:AI}:BiJ (BB P.Nodup (yk P) AQW (AUR ABX) (BN5 ALg))
 | [],_,_,_,_,h,_,_=>AQO
 | Db,[],_,_,_,_,h,_=>AQO
 | p::P,AQU,0,m,nd,h1,h2,hk=>by
  simp at h1 h2;subst h1;subst h2;refine(?_:Bd7 ALg);unfold ALg;rw[BYs zwh,C9 hk];simp
 | p::P,AQU,D',m,nd,h1,h2,hk=>by
  unfold ALg;exact ö zwm Aol AOb AWk hk
theorem zxa{ABX:Aw3}{x:Μ}{v:AI}:BiJ (BB P.Nodup (yk P) AQW (ABX x≠Ε AIQ) (BN5 ALh))
 | [],_,_,_,_,h,_,_=>AQO
 | Db,[],_,_,_,_,h,_=>AQO
 | p::P,AQU,0,m,nd,h1,h2,hk=>by
  simp at h1 h2;subst h1;subst h2;refine(?_:Bd7 ALh);unfold ALh;rw[BYs zxt,CO hk];simp
 | p::P,AQU,D',m,nd,h1,h2,hk=>by
  unfold ALh;exact ö zxa Aol AOb AWk hk
def start(N:Υ)(vs:AV):St:=As1 Ε++AXe (ALi - MG) Θ
def fV(CX:Ln)(P:A2)(w:An)(K:AB)(mg:ER)(DI:AQ)(N:Υ)(FD:Μ)(KB:Oy)(f:Ζ)(cd:AI)(A:BM)(Ch:L_)(s:AD)(H:Hp)(E:XK):Cx where
 B9:=P
 w:=w
 K:=K
 mg:=mg
 DI:=DI
 A:=Asx (Bfg cd)
 N:=N
 MD:=s
 Zp:=H
 BI:=Bhq
 Ch:=Ch
 stack:=Bhq::Ch
 ex:= []
 calm:=Κ
 fn:=Fk Κ
 pn:= []
 xe:=fun e s' =>PD ACx (Asx (Bfg cd)) (leaving (Ae_ FD KB cd) e) (JP s'' (CX Ch H s E e s'')) (fun e' s'' =>CX Ch H s E e' s'') s'
theorem z1a{sc:Oy}{n:Δ}{x:Μ}(h:AZg):∃c,AHV (Amy n QY []):=by
 have q:=BGr QY n [] (Gc h);exact Bp3 q
theorem zv8{CX:Ln}{P:A2}{w:An}{K:AB}{mg:ER}{DI:AQ}{N ps:Υ}{FD:Μ}{KB:Oy}{f:Ζ}{cd:AI}{A:BM}{Ch:L_}{s s1:AD}{H:Hp}{E:XK}{us:Au}{vs:AV}
  (S:Ba7) (hd:P8) (e0:An_) (hl:Ahk) (r:AQA)
  (x:InCallC s CF (Bk8 ALg) (xj nk AGt []) (Bk8 ALh) s1):
  Inv Biz [] Ank H s1:=by
 have EE:N0<=ALi:=by have:=T_ LA S.pre;show Da pe;show Ω
 obtain⟨h1,tk,Β,hk⟩:=x.done;have W4:∀b:Ζ,b∉ (Biz).ex:=fS z (A9s z)
 refine⟨⟨e0.mod,As3,Β,Β,NY,IE y z c h1 h2,CA y hy,fun y c _ h=> ?_,Fk hd,Around.frames_deeper e0.frames,.B0 Ű,Bcm,e0.bs,e0.bsz,fun b _ _=>W4 b,Bcm,e0.funs,e0.frf⟩,
  Β,e0.bare,ASs hk,ET x.toInCall.ns (fun i y v h1 h2 h3=> ?_),fun y c h=>(FF (x.cell y c h)),Bp4 (zN _),At y c h,BDZ,e0.hok.kept hk,?_⟩
 ·exact Bp5 x.apart (BGs h1) (Bod h2)
 ·have hy:BLb cc\/BLb S_:=hy;rcases hy with hy | hy
  ·exact z1a hy
  ·show AFG (S.nofree _ (Bod hy))
 ·exact AGg Bdl
 ·have hi:i<MG:=by
   unfold start at h2;by_cases hi:i<MG
   ·exact hi
   ·rw[AFZ] at h2
    rw[Adr] at h2;split at h2<;>(show KU h2 h2 h2 h2 h2 h2 h2 h2 h2 h2 h2 h2 h2 h2)
  have ha:AQW:=by
   unfold start at h2;show AXc AFa h2
   cases e:vs[i]? with
   | Θ=>show LO e h2 h2 h2 h2 h2 h2 h2 h2 h2 h2 h2 h2 h2 h2 h2
   | Ε a=>rw[e] at h2;show AGR;rfl
  show Cc u hu rv r.get ha;have hp:FL ps y:=by
   rw[<- S.pre,List.getElem?_take_of_lt Η];exact h1
  have ndP:BGu:=gi S.pre S.nd.sublist (Bp6 _ _)
  refine DM u rv;rcases S.par y (yV hp) with k | k
  ·show E5 ⟨k,zwm ndP hp hu k⟩
  ·show C5 c e (z1a (n:=Aic)) k;refine .B0 ⟨.DV k,c,e,?_⟩;have q:=x.cell y c e;rw[zxa ndP hp hu (by refine(?_:As4 y≠_);rw[k];decide)] at q
   exact q
 ·exact Bp4 (AGg Bdl)
 ·unfold start;refine(?_:_=ALi);rw[N1,C4,As5];show Ω
theorem U6{CX:Ln}{P:A2}{w:An}{K:AB}{mg:ER}{DI:AQ}{k:Δ}{f:Ζ}{D5 FD:Μ}{params:Arguments}{MC:Tm}{KB:Oy}{dV kV doc pm cdv ct oc:AI}{an od:OW}
  {osl:AEO} {N ps:Υ} {sp:Sp} (lk:AqK BlG osl) (hcd:A'V) (S:Ba7)
  (len:BXU)
  (Ĭ:∀(A:BM) (Ch:L_) (s:AD) (H:Hp) (vs:AV) (Q:VK) (E:XK),BlN KB ->AiL ->
   ∃t,Ik BDs MC t/\t BZ' Ank H):
  US fU CX LN f BlG ps sp:=by
 refine⟨len,fun A Ch s H E7 us vs Q E hr e0 hb r hsp=> ?_⟩;have hl:=L2 len hsp;have KX:AJ_:=BNc;have lim:Bp7:=BNd;have hkind:∀y∈Ado us,BQG AIQ\/ (BQG cc/\ (Amy nk AGt [] y.1).AGf=Κ):=fun⟨n,v⟩ hy=>by
  rcases BRO with q | q
  ·show E5 q
  ·show HL ⟨q,BQm⟩
 show BD (Bp8 hr.depth (KX _ _ lk) Β S.co S.gen Β BX9 BKe) Bgy;subst he;refine BYE;obtain⟨t,ht,hq⟩:=Ĭ A Ch s H vs Q E (hr.deeper _) hsp;have I:Inv BDs [] Ank H s1:=Bin hl;refine eL (ht [] s1 Ank H _ I hq) (At fl s' hs) fun e s' hs=>hs;have fin:∀{DB :St} {H' :Hp} {v:V} {u:AI},Inv BDs [] DB H' s' ->OY ->Ų ->BEh :=
  fun{DB H' v u} J rv q=>⟨v,H',J.os,J.bare,J.base,J.hok,rv,q⟩
 cases fl with
 | ret u=>
  obtain⟨v,DB,H',J,rv,q⟩:=hs;exact fin J rv q
 | KE=>
  obtain⟨DB,H',J,q⟩:=hs;exact fin (v:=V.non) (u:=T1) J Β q
 | brk=>
  show Aql
 | Nn=>
  show Aql
section
variable{X:Cx}{x:Μ}{p AA:AS}{e:AJ}{es:DA}{t:TA}{id T:KA}{r:wf}
def U7(r:wf)(t:TA):TE:=ft t vs (r vs H1 Q)
theorem Q9(hc:AMj id r)(hg:J_)(hm:Ϸ)(hv:ϭ ADN)(ha:Aly)(hn:ž :=by decide)(hdb:Fr:=by decide)
  (tw):BYh:=by
 show DH Q;refine ARz (ď hv) hn hdb;exact BGv (bV AgR fun us s1 abd=>by show AI7 abd;exact hc Ν s1 σ H1 vs us Q I1 r1 q1) he EE
theorem zk4(hc:dY X tF r)(hg:J_)(hm:Ϸ)(hv:ϭ tF)(ha:Aly)(hn:ž :=by decide)(hdb:Fr:=by decide)
  (tw):BYh:=by
 show DH Q;refine ARz (ď hv) hn hdb;exact BGV (bV AgR fun us s1 abe=>by show AI7 abe;exact hc Ν s1 σ H1 vs us Q I1 r1 q1) he EE
#where
#print _2
namespace _HT
open II J'
section
open PySem.SeqAt
open BGw (Ads)
open BGx PySem.MeetsSeq2 BGy
#where
section
variable{B9:A2}{w:An}{A:BM}{E:dO}{s:AD}
def sIx(n d:Δ):R_ ->Δ
 | Θ=>d
 | AIi=>if v<0 then lr v LS else BnX
theorem yn8(n d:Δ)(hd:d<=n)(o:R_):sIx n d o<=n:=by
 cases o with
 | Θ=>exact hd
 | Ε v=>
  show Bfc<=n;by_cases hv:v<0
  ·show DF hv;show Ω
  ·show APU hv (Nat.min_le_right _ _)
theorem z6u(v:Ψ)(n d:Δ):BeW (sIx n d (Ε v)):=by
 show BeW Bfc;by_cases hv:v<0
 ·simp only [C9 hv];show Ω
 ·simp only [Ai1];show Ω
theorem z5h(BhT):BfE=(Apb,BTc):=by
 have h1:¬(iE<0):=Τ
 refine Adt ?_ ?_
 ·cases lo with
  | Θ=>rfl
  | Ε v=>exact z6u v n 0
 ·cases hi with
  | Θ=>rfl
  | Ε v=>exact z6u v n n
theorem z37(i j:Δ):As7 L5 YR 1=j - i:=by
 unfold As7;have h1:iE>0:=Τ
 simp only [h1,xk,Int.ediv_one];show Ù
theorem zsj{v:AI}{o:R_}{Q:PY R_}(p:As8 v o)(h:Q o s):KS (Builtin.Slice.slicePartIndex v):=by
 cases p with
 | Θ=>exact Bp_ h
 | AL i t=>exact slicePart_int h
theorem znz{sl:Ζ}{vl vu:AI}{lo hi:R_}{n:Δ}{Q:PY (Ψ×Ψ×Δ)}(hs:BDi)(pl:A_c)(pu:A_d)
  (h:Q (Apb,1,sIx n n hi - sIx n 0 lo) s):KS (Builtin.Slice.sliceApplied Ayz (IO LS)):=by
 show TD os hos hcs hds hs;refine z6 (z6 (A_Y vl Β (z6 (A_Y vu Β (z6 (A_Y BH Β AgE))))));refine k8 Bp_;show dS
 refine z6 (zsj pl (z6 (zsj pu AxZ)));show APp (AH6 _ (match BfE with | (lo,hi)=>IO (lo,iE,As7 lo hi 1))) (z5h lo hi n) (?_:AH6 _ (IO (Apb,iE,As7 Apb BTc 1)));rw[z37];exact z7 h
theorem ydp(xs:Kb)(i k:Δ):((AGe k).BGB fun(Lu m)=>xs[BAz]?).Ĩ=AH1 (xs.toList.drop i).xl k:=by
 have e:(Bn (Lu m) xs[BAz]?)=fun m=>xs[i+m]?:=by
  funext m
  have:BAz=i+m:=Τ
  rw[Ρ]
 rw[e];have:=pick_run xs i k;show Da List.filterMap_map;have e2:((AH2 xs[x]?) ∘ VS (i+x))=fun m=>xs[i+m]?:=Β;rw[e2] at Ρ;rw[Ρ]
theorem getItem_tuple_cut{t sl:Ζ}{No:Kb}{vl vu:AI}{lo hi:R_}{Q:dO}(ht:IsTup A6 t No)(hs:BDi)(pl:A_c)(pu:A_d)
  (hw:¬(ANW=0/\sIx Si Si hi=Si))
  (h:AZv (zD BPY))
  (hsz:AzJ):KS (ATK (BQ t) Ayz):=by
 have FP:sizeOk (.seq BPY):=by
  show D6 (Bn2 Bp');rw[WO,pe,AGu,kB];show Ω
 have hj:Aga<=Si:=yn8 _ _ HT hi;show TD os hos hcs hds hs;have hTs:AOw sl "slice" :=⟨os,hos,hcs⟩;unfold ATK
 try with_reducible refine ABP ?_
 first | refine AIW | skip
 refine lL wpAny_sequenceKey As9 Χ
 show To (z6 (Adv (D5:=Ŝ BqA) As9 BqB
  (BG0 BqB As9 entry_tuple_getitem ?_ (args_tuple_getitem _ _)))) (AXA (Builtin.Tuple.tupleItemsOf (BQ t)));show BD (gu tupleItemsOf_ ht) (gu BqC hTs);show DF Χ
 refine z6 (znz hs pl pu ?_);have hno:¬(Bjb):=by
  intro q;rw[kK,kK] at q;have q1:EU ANW=0:=As' q.1.1;have q2:Aga - ANW=Si:=As' q.2;exact hw AVK
 refine(?_:AH6 _ (AOB Bjb));rw[CO hno,ydp]
 first
  | exact AlC (pV (z7 Aw9) FP)
  | exact AlC (pV (z6 BNU) FP)
  | exact z6 (AlC (pV BNU FP))
  | exact z6 (AlC (pV (z7 Aw9) FP))
#where
#print _HT
namespace _2
open II Os J'
abbrev TO:=AoF Az3
def PO(X:Cx)(e:AXu)(t:TO):Ι:=
 AXH Q Az3 ä (evalPart e BO) (uB u (∃o H',AJ9 /\As8 u o/\Q o H'))
def ykg:TO:=Aa3 (Q Θ H)
def W5(t:TE):TO:=ACm t (∃i,Af8/\Q (Ε i) H1)
section
variable{X:Cx}{e:AJ}{te:TE}{lo hi:AXu}{tl th:TO}{AA p2:AS}
theorem yij:PO X Θ ykg:=by
 show DH Q;rw[BqD];exact z7 ⟨Θ,H,I,BH,h⟩
theorem yh0(h:i4):PO X AhU (W5 te):=by
 show A5O;rw[evalPart_some];refine bV A8r (AHx abf);show VZ abf;show GT i q q1;show MW r1;exact⟨Ε i,H1,I1,A2W,q⟩
def SlR(X:Cx)(r:Abn):Ι:=
 ∀(Ν:dX) (s:AD) (σ:St) (H:Hp) (x:V) (v vl vu:AI) (lo hi:R_) (sl:Ζ) (Q:VK),AW ->oq ->BB BDi A_c A_d (r x lo hi H Q) (∃T id,Bb0/\BRt/\ADr (ATK v Ayz))
def tSl(r:Abn)(te:TE)(tl th:TO):TE:=ACm te (sd tl l (th σ H2 fun u H3=>r x l u H3 Q))
theorem z06{r:Abn}(hr:SlR X r)(he:i4)(hl:PO X lo tl)(hu:PO X hi th):Aky e BDm (tSl r te tl th):=by
 show DH Q;refine BG1 (bV v_ (n5 abg));show VZ abg;refine wpAny_Slice (bV (AMy hl) (AOV vl s2));obtain⟨l,H2,I2,pl,q2⟩:=ED;refine BOS hu vu hz2;obtain⟨u,H3,I3,pu,q3⟩:=hz2;rw[BqD];refine AIk;have I4:OE H3 Bcl:=I3.kept (t' :=s3.toks) (Pp ob AMs);obtain⟨T,id,hT,ht,hg⟩:=hr Ν Bcl σ H3 x v vl vu l u ALj Q I4 r1 (Heap.IsSliceOf.new ..) pl pu q3;exact tail_any (ops:= [.As ALj,v]) ht hT hg AJS
def Ar(xs:AV)(lo hi:R_):AV:=BNw
theorem zq5(xs:AV)(lo hi:R_):(Ar xs lo hi).Zs<=B1:=by
 unfold Ar;rw[pe,AGu];show Ω
def abh(ARs):Abn:=fun x lo hi H Q=>∃a xs,YE/\AFR/\
 Bgd Bls hi/\BDT (KP AnI)
theorem ymr:SlR X (abh AG):=by
 intro Ν s σ H x v vl vu lo hi sl Q I rx hs pl pu h;show ACT a xs hx hw q h;show Kx;obtain⟨AY,r,ht,hz⟩:=kC hx;have E9:xn=B1:=CL WO r.length.symm
 show BD ⟨ZN,_,PyProof.Rows.slot_tuple_getitem.lookup,As9,?_⟩ (_HT.getItem_tuple_cut ht hs pl pu (EQ E9 hw) ?_ (EQ E9 hz))
 rw[E9];refine BdL (.DZ AnI);exact⟨BZA,_,AyO r.drop,Ash _ _⟩
#where
def yc(n:Δ)(i:Ψ):MM Δ:=if 0<=i then(B3 (i<n) (Ε ALk) Θ) else Aya (-LS<=i) (lr i n) Θ
def n6{α:CB}(xs:CU)(i:Ψ):MM α:=(yc B1 i).bind (F8 xs[j]?)
theorem zze{n:Δ}{i:Ψ}{j:Δ}(h:yc n i=Ε j):BG3 i n=Ε j/\j<n/\ -LS<=i/\i<n:=by
 show Dx yc;by_cases h0:0<=i
 ·show ϖ h0;show Bha (i<n) (ALk=j) (A8H h1) Τ h1
 ·show n9 h0;show Bha (-LS<=i) (lr i n=j) (A2s h1) h1 Τ
theorem z0i{α:CB}{xs:CU}{i:Ψ}{v:α}(h:AIb xs v):∃j,BO_ j/\TC xs v/\AYF/\ -AJU<=i/\nr:=by
 show Dx n6;cases e:yc B1 i with
 | Θ=>show AXO e
 | Ε j=>
  rw[e] at h;obtain⟨h1,h2,h3,h4⟩:=zze e;exact⟨j,h1,h,h2,h3,h4⟩
theorem Du{α:CB}{xs:CU}{j:Δ}{v:α}(h:TC xs v):n6 xs YR=Ε v:=by
 have hj:AYF:=Pl h;have e:A6w YR:=by
  unfold yc;rw[C9 Η,ù];simp
 unfold n6;rw[e];exact h
def zy5(b:AJ):Ι:=∀o i,AtA b AC o i=A8i [o,i] o i
def IxR(X:Cx)(r:R2):Ι:=
 ∀(E8 kL:AJ) (Ν:dX) (s:AD) (σ:St) (H:Hp) (x y:V) (v u:AI) (Q:VK),AW ->BB oq NX (r x y H Q) (AtA kL AC v u=A8i [v,u] v u) (ADr (subscriptTail E8 kL v u))
def MtR(BbB):Ι:=
 ∀(Ν:dX) (s:AD) (σ:St) (H:Hp) (x:V) (xs:AV) (v:AI) (us:Au) (Q:VK),BB AW oq mI (r x xs H Q) (A'g v)
section
variable{X:Cx}{a b:AJ}{ta tb:TE}{AA:AS}
theorem yma{r:R2}(hr:IxR X r)(ha:å)(hb:AOE)(hs:zy5 b):Aky a b Apg:=by
 show DH Q;exact BG1 (Q7 ha hb I h (BoM (hr a b Ν s2 σ H2 x y v u Q I2 rx ry q (hs _ _))))
def abj(ARs):R2:=Bkg A5q
def abk(ARs):R2:=Bkg (vR K H p xs)
def abl:R2:=AJH (∃z i c,x= .AO z/\y= .AL i/\AzK/\BSa/\Q (.AO AQT) H)
theorem ybr:IxR X (abj AG):=by
 show BEx;obtain⟨p,xs,i,z,Β,Β,hq,he,q⟩:=h;show Kx;show MW ry;obtain⟨AY,r,pl,hz⟩:=QQ hq;obtain⟨j,h1,h2,h3,h4,h5⟩:=z0i he;show Cc w ew qj r.get h2;show A1z;have hn:=qT;have fin:ϟ w s:=BZp;by_cases h0:0<=i
 ·have hj:ALk=j:=by
   rw[A8H h5] at h1;exact zF h1
  exact item_listR kM h0 Η (by rw[hj];simpa using ew) fin hs
 ·have hj:lr i AVy=j:=by
   rw[A2s h4] at h1
   show A1y;exact zF h1
  exact BKY w BqE BqF
   (wpAny_getItem_list_neg (Q:=BWL) kM Η BQH Η (by rw[hj];simpa using ew) (IC fin)) hs
theorem ynt:IxR X (abk AG):=by
 show BEx;obtain⟨p,xs,i,z,Β,Β,hq,he,q⟩:=h;show Kx;show MW ry;obtain⟨AY,r,pl,hz⟩:=kC hq;obtain⟨j,h1,h2,h3,h4,h5⟩:=z0i he;show Cc w ew qj r.get h2;show A1z;have hn:=qT;have fin:ϟ w s:=BZp;exact BKY w pl.typeIs slot_tuple_getitem.lookup
  (getItem_tuple (j:=j) (Q:=BWL) pl Η Η (AmZ h1) (Co ew) (IC fin)) hs
theorem ymn:IxR X abl:=by
 show BEx;obtain⟨z,i,c,Β,Β,hz,he,q⟩:=h;show XZ;show AFs;obtain⟨j,h1,h2,h3,h4,h5⟩:=z0i he;have hl:z.cps.toList.length=ATL:=DT Str.length
 rw[hl] at h1 h4 h5;have hn:=qT;exact tail_any (AtB s z t) slot_str_getitem.lookup (getItem_str (c:=c) (by
  have e1:Aok (i< -(B' (2^63))):=Az8
  have e2:Aok (i≥2^63):=Az8
  rw[e1,e2,BqG]) (by rw[h1];simpa using h2) (BSn AQT)) hs
theorem z33(AY:Au)(n j:Δ)(u:AI):AGv (·.setIfInBounds j u) AO_=AMJ AUM (.seq (its.set j u).Ĩ n):=DT AGv
theorem Inv.lst{Ν:dX}{σ:St}{H:Hp}{s:AD}{p:Ζ}{xs:AV}(I:AW)(h:A3Z):
  BCg (AOC/\BTD/\Ż):=by
 show Aqv (Iq p _ h);exact⟨AY,n,r,e,z⟩
theorem Inv.lstUpd{Ν:dX}{σ:St}{H:Hp}{s:AD}{p:Ζ}{xs ys:AV}{AY eQ :Au}{n n' :Δ}{f:Obj ->Obj}(I:AW)(h:A3Z)
  (ho:BTD) (hf:f AO_=BSW) (r:BMn) (hz:AXz) (t:Δ):
  OE (b_ p ys) (ń (AGw p f) t):=by
 have e:(AGw p f).IN p=Ε BSW:=G0 (AGx f ho (by rw[hf]<;>rfl)) hf
 refine Aai p p (by rw[h];trivial) XI (y9 u q ((A3G).EC q)) (FF e) ?_
 exact⟨hz,eQ,n',r,e⟩
def W6:BaM:=fun o i v H Q=>∃p xs k j,o= .As p/\i= .AL k/\A3Z/\A6w k/\Q (b_ p (Ar8 j v))
theorem ycd:WL X W6:=by
 intro Ν s σ H o i v ov iv u Q I ro ri rv h;obtain⟨p,xs,k,j,Β,Β,hp,hj,q⟩:=h;show AE ro ro ro ro ro ro ro ro ro ro ro ro ro ro;show MW ri;obtain⟨AY,n,r,ho,hz⟩:=I.lst hp;obtain⟨h1,h2,h3,h4⟩:=zze hj;show A1z;have hn:=qT;have I' :OE (b_ p (Ar8 j v)) (am (AGw p (Obj.mapSeq (·.setIfInBounds j u)))):=
  I.lstUpd hp ho (z33 AY n j u) (r.set rv j) (EQ BqI hz) Mm
 by_cases h0:0<=k
 ·have hk:k.toNat=j:=by
   rw[A8H h4] at h1;exact zF h1
  exact W.ki_setAt ho h0 Η (AmZ h4) (EQ hk (ET I' q))
 ·have hk:lr k AVy=j:=by
   rw[A2s h3] at h1
   show A1y;exact zF h1
  exact W.ki_setBack ho Η (AmZ h3) Η (EQ hk (ET I' q))
theorem zw8(BhT):BDl.1=EU (Z' n 0 lo)/\ BDl.2.1=EU (Z' n n hi)/\ BDl.2.2=1:=by
 refine ij ?_ ?_
 ·cases lo with
  | Θ=>show BUn
  | Ε i=>
   show BkX
 ·cases hi with
  | Θ=>show BUn
  | Ε i=>
   show BkX
theorem ztl(AY:Au)(lo hi:R_):slicePick QP lo hi Θ=((its.drop (Z' AGy 0 lo)).xl (Z' AGy AGy hi - Z' AGy 0 lo)).Ĩ:=by
 obtain⟨h1,h2,h3⟩:=zw8 lo hi xn;unfold slicePick;rw[h1,h2,h3];simp only [sliceRange_one,pick_run,WO]<;>rfl
def abm(ARs):Abn:=fun x lo hi H Q=>∃a xs,YE/\ϊ/\∀p,UT p ->NM p (b_ p AnI)
theorem yjo:SlR X (abm AG):=by
 intro Ν s σ H x v vl vu lo hi sl Q I rx hs pl pu h;show EX a xs hx q h;show Kx;obtain⟨AY,r,ht,hz⟩:=QQ hx;have E9:=Sf;refine⟨K2,_,BqF,ht.isList.typeIs,?_⟩;refine wpAny_getItem_list_slice ht.isList hs pl pu BH A0 ?_ BQH
 rw[ztl,<- E9];refine BdL (.B_ AnI);exact⟨BZA,_,0,AyO r.drop,RR⟩
def qC:V ->AN
 | BS=>Κ
 | li=>Κ
 | im=>Κ
 | nv=>Κ
 | _=>AC
def Mw:V ->V ->AN
 | BS,BS=>Κ
 | .bl a,v6=>AIK
 | .bl a,APa=>BXo
 | APZ,v6=>a==(B3 b 1 0)
 | APZ,APa=>AIK
 | Ajh,Aji=>AIK
 | _,_=>AC
theorem ynj{A:BM}{s:AD}{y x:V}{u v:AI}(ry:NX)(rx:oq)(fy:qC y=Κ)(fx:A0x):BZ_ (Mw y x):=by
 cases y with
 | non=>
  show AGS;cases x with
  | non=>show Kx;exact BqK _
  | bl b=>show Kx;exact SeqAt.EqAt.none_bool b
  | AL b=>show XZ;exact SeqAt.EqAt.none_int b t
  | AO b=>show XZ;exact SeqAt.EqAt.none_str b t
  | _=>show AQ8 fx
 | bl a=>
  show AGS;cases x with
  | non=>show Kx;exact SeqAt.EqAt.bool_none a
  | bl b=>show Kx;exact SeqAt.EqAt.bool_bool a b
  | AL b=>show XZ;exact SeqAt.EqAt.bool_int a b t
  | AO b=>show XZ;exact SeqAt.EqAt.bool_str a b t
  | _=>show AQ8 fx
 | AL a=>
  show AFs;cases x with
  | non=>show Kx;exact SeqAt.EqAt.int_none a t'
  | bl b=>show Kx;exact SeqAt.EqAt.int_bool a t' b
  | AL b=>show Aqc SeqAt.EqAt.int_int
  | AO b=>show Aqc Bo3
  | _=>show AQ8 fx
 | AO a=>
  show AFs;cases x with
  | non=>show Kx;exact SeqAt.EqAt.str_none a t'
  | bl b=>show Kx;exact SeqAt.EqAt.str_bool a t' b
  | AL b=>show Aqc Bo4
  | AO b=>show Aqc SeqAt.EqAt.str_str
  | _=>show AQ8 fx
 | _=>show AQ8 fy
def DN(x:V)(u:AI):AN:=match u with
 | BH=>Mw BS x
 | .bool b=>Mw AP3 x
 | Aab=>Mw ϫ x
 | .AO z _=>Mw (.AO z) x
 | _=>AC
theorem yhj{x y:V}{u:AI}(r:NX)(f:qC y=Κ):DN x u=Mw y x:=by
 cases y with
 | non=>show AAp;rfl
 | bl b=>show AAp;rfl
 | AL i=>show APo
 | AO z=>show APo
 | _=>show AQ8 f
theorem W7{x:V}:Bi9 (us.any (DN x)=xs.any fun y=>Mw y x)
 | _,_,EB,_=>Β
 | y::xs,u::us,AFm,f=>by
  show A7z f;show BP8 (yhj r f.1) (W7 t f.2)
theorem W8{A:BM}{s:AD}{x:V}{v:AI}(rx:oq)(fx:A0x):Bi9 (∀u∈us,BZ_ (DN x u))
 | _,_,EB,_=>fun u hu=>(À hu hu hu hu hu hu hu hu hu hu hu hu hu hu)
 | y::xs,u::us,AFm,f=>fun u' hu=>by
  show A7z f;rcases Cn hu with Β | hu
  ·rw[yhj r f.1];exact ynj r rx f.1 fx
  ·exact W8 rx fx t f.2 u' hu
def inV(x:V)(xs:AV):AN:=xs.any fun y=>Mw y x
def rIn(K:AB)(neg:AN):R2:=AJH (∃p xs,y= .As p/\ (A5q\/vR K H p xs)/\A0x/\BnL/\Q (.bl (B3 neg (! inV x xs) (inV x xs))) H)
theorem zv9:AUS In (rIn AG AC):=by
 show AGQ;obtain⟨p,xs,Β,hq,fx,fs,q⟩:=h;show AGS;rcases hq with hq | hq
 ·show BNO;show BNx SeqAt.in_listAt
 ·show BNP;refine SeqAt.in_tupleAt AOA pl (fun w hw=>W8 rx fx r fs w AI2) (ANl ?_)
  rw[show BG7 (DN x)=its.any AOA by simp,W7 r fs]
  exact q
theorem znh:AUS NotIn (rIn AG Κ):=by
 show AGQ;obtain⟨p,xs,Β,hq,fx,fs,q⟩:=h;show AGS;rcases hq with hq | hq
 ·show BNO;show BNx SeqAt.notIn_listAt
 ·show BNP;refine SeqAt.notIn_tupleAt AOA pl (fun w hw=>W8 rx fx r fs w AI2) (ANl ?_)
  rw[show BG7 (DN x)=its.any AOA by simp,W7 r fs]
  exact q
theorem znl:AMj AK3 (Bj0 (Q (Ev M') H)):=by
 show AaH;show EX p ys hq q h;show SS;show AAq;have hn:=qT;rcases hq with hq | hq
 ·show A4U;show A6J;exact Calls.call_len_list kM Aa0 (AvV M' ⟨AHn,G0 WO E9⟩)
 ·show A4V;show A6J;exact len_tuple pl Aa0 (AvV M' ⟨AHn,G0 WO E9⟩)
theorem zxk:AMj AK3 (BAj (∃z,xs= [.AO z]/\AzK/\Q (Ev ATL) H)):=by
 show AaH;show a_ z Β hz q;obtain⟨u,Β,t,Β⟩:=ALb r;have hn:=qT;exact len_str Η (AaG ATL)
theorem znn:A3J (Bj0 (Be4 ys)):=by
 show AaH;show EX p ys hq q h;show SS;show Kx;have fin:∀(AY:Au),IM ys AY ->AXz ->∀(h' :AQ) (c' :Δ),(∀b o',NC M_ o' ->NC Se o') ->
   AyD QP c' ->ϟ ADh Sr:=fun AY r' hz h' c' kp e=>
  (AI_ (A1g kp HT (ACU _ h' _ AzA ⟨hz,AY,c',r',e⟩)) (q _ AEM))
 rcases hq with hq | hq
 ·show A4U;have E9:=BG8;obtain⟨o,ho,hc,n,hd⟩:=kM;exact BqL p XI ho hc hd Bkw Aa0
 ·show A4V;have E9:=BG8;obtain⟨o,ho,hc,n,hd⟩:=pl;exact BqL p (E6 Β) ho hc hd Bkw Aa0
theorem zko:AN5 ZN (BAj (∃p ys,xs= Ahl/\ ((nY AG H p ys/\Agw l l l l APy)\/ (vR AG H p ys/\NM p H)))):=by
 show AaH;show AQQ p ys;show SS;show AAq;rcases h with ⟨hq,q⟩ | ⟨hq,q⟩
 ·show A4U;show A6J;refine call_tuple_list kM (TU h' kp) Aa0
  have I1:APd:=BRm kp;have I2:ŝ ATM APy (am (h'.push AxD)):=
   AUU ATF (É) HT (ACU _ _ _ APy ⟨hz,AY,r',Ash _ _⟩)
  exact BRr ATM
 ·show A4V;exact call_tuple_same pl (AMu Air q)
def tyV(K:AB)(T:KA)(x:V)(H:Hp):Ι:=match x with
 | nv=>T= ĝ
 | im=>T= AGa
 | Air=>(T= K2 /\∃xs,A5q)\/ (T= ZN /\∃o,ZH p=Ε o/\A3L /\Ajv)\/
   (T= xi /\ ((∃AH,Pc p PU)\/∃AH,Pc p ACu))\/ (T= Mo /\∃S n,Pc p (.set S n))
 | _=>EM
theorem ym0{Ν:dX}{σ:St}{H:Hp}{s:AD}{T:KA}{x:V}{v:AI}(I:AW)(r:oq)(ty:tyV AG T x H):
  BRt/\∀a,Mb ->∃ob,Hk M_ ob/\ob.dict=Θ:=by
 cases x with
 | AO z=>
  show MW r;show zo (T= ĝ) ty;exact⟨AtB s z t,L3 e nL⟩
 | AL i=>
  show MW r;show zo (T= AGa) ty;exact⟨typeIs_int s i t,L3 e nL⟩
 | As p=>
  show AE r r r r r r r r r r r r r r;rcases ty with ⟨Β,xs,hq⟩ | ⟨Β,o,hk,hc,hd⟩ | ⟨Β,hk⟩ | ⟨Β,S,n,hk⟩
  ·obtain⟨AY,_,pl,_⟩:=QQ hq;refine Po BqE a e;show C6;obtain⟨o,n,e,c,hd,_⟩:=pl;exact⟨o,e,hd⟩
  ·refine Po ⟨o,eP p o hk,hc⟩ a e;show C6;exact⟨o,eP _ o hk,hd⟩
  ·have z:∃o,AUQ p/\BFw:=by
    rcases hk with ⟨AH,hk⟩ | ⟨AH,hk⟩
    ·obtain⟨_,_,_,_,o,_,_,e,ex,_⟩:=A6l;exact⟨o,e,ex⟩
    ·obtain⟨_,_,_,_,o,_,_,e,ex,_⟩:=A6l;exact⟨o,e,ex⟩
   show X9 e ex z;refine Ba';show i8;exact⟨o,e,ex.2.1⟩
  ·obtain⟨o,_,_,_,e,ex,_⟩:=A6l;refine Ba';show i8;exact⟨o,e,ex.2.1⟩
 | _=>show UK ty
def tBM(K:AB)(T:KA)(r:AXK)(to:TE)(t:TA):TE:=ACm to (tyV K T x H1/\sd t xs (r x xs H2 Q))
variable{o e:AJ}{es:DA}{to:TE}{t:TA}{D5:Μ}{KM GW:AS}{T id:KA}{r:AXK}
theorem yn6(pa:PlainAttrs T)(O_:GG T D5 id)(hty:BYt)(hm:MtR X id r)(ho:PE X o to)(ha:Aly)
  (LE:Afn o D5 o o:=by rfl)
  (xo:U_ (AmM IQ (! x.1)&&ApT) (Aqr (Su IQ) 30):=by rfl)
  (PF:à:=by rfl) (hs:RI IQ e es:=by rfl) (ABY:ANg es:=by rfl):
  PE X (ze (qc o D5) IQ) (tBM AG T r to t):=by
 show DH Q;refine wpAny_Call_method_late LE xo PF Β (bV AYc (n5 abn));obtain⟨x,H1,I1,r1,ty,q1⟩:=abn;show Ee h1 h2 ym0 I1 r1 ty;refine⟨T,id,pa,O_,hty,h1,h2,?_⟩;have hA:=ha GW Ν s1 σ H1 _ I1 q1;rw[hs] at hA⊢;refine BmO (by show(false || (backTo cpos (starEach es X.env)).any (·.1))=false;rw[hplain]<;>rfl) BG9
 exact bV hA fun us s2 abo=>by obtain⟨vs,H2,I2,r2,q2⟩:=abo;exact hm Ν s2 σ H2 x vs v us Q I2 r1 r2 q2
#where
def MtM(BbB):Ι:=
 ∀(Ν:dX) (s:AD) (σ:St) (H:Hp) (x:V) (xs:AV) (v:AI) (us:Au) (Q:VK),BB AW oq mI (r x xs H Q) (A'g v)
theorem Vals.one:RY x V us Au (ACS [x]) (∃u,us= [u]/\ui)
 | _,_,AMw EB=>RU r
theorem BqN:ArA i (IM (AtF i) (us.eraseIdx i))
 | _,_,_,EB=> EB
 | _,_,0,AnW=>t
 | _,_,D',AFm=> AMw (BqN i t)
theorem Vals.reverse{xs:AV}{us:Au}(h:mI):IM ATN us.reverse:=by
 induction h with
 | C3=>exact EB
 | AX r t ih=>rw[AtG,AtG];exact BFu ih (Agp r)
theorem zwo(Anc):∀(l:CU) (i:Δ),AXb (De AtH i)
 | [],_=>NY
 | Db,0=>BJn
 | _::r,D'=>Nat.succ_le_succ (zwo r i)
section
variable{X:Cx}{Ν:dX}{σ:St}{H:Hp}{s:AD}{l b:Ζ}{xs ys zs:AV}
theorem Inv.lset{AY eQ :Au}{n:Δ}{f:Kb ->Kb}{t' :Δ}(I:AW)(hH:Amd)
  (e:AwI AO_) (hf:f QP=BqH) (hv:BMn) (hz:AXz):
  OE (b_ l ys) (ń (AGw l (AGv f)) t'):=by
 have q:=PySem.IsL.update e f;rw[hf] at q;refine Aai l l (EQ hH Sj) XI (fun b' u hb hu=>(BG4 A6 (AGv f) AvB).EC hu) (FF q) ?_
 exact⟨hz,eQ,_,hv,q⟩
theorem Inv.lnew{AY:Au}{t' :Δ}(I:AW)(hv:IM ys AY)(hz:AXz):
  BM9 ys (ń (AUV (AUT QP)) t'):=
 ALe A3u HT ⟨hz,AY,0,hv,RR⟩
theorem Inv.fresh(WA):UT CF:=AsO (zN _)
theorem Inv.lstM(I:AW)(hH:Amd):Ahm (BCg (AOC/\AWa AGy/\AwI AO_)):=by
 show Aqv (Iq l _ hH);exact⟨z,AY,n,r,Sf,e⟩
theorem ydn{n:Δ}(h:D6 n):BqO n=AC:=qV ğ Η
#where
section
variable{X:Cx}
def yk7:AXK:=fun x vs H Q=>∃l xs y,x= .As l/\vs= [y]/\Amd/\A1p/\Q BS (b_ l (xs++ [y]))
theorem zx0:MtM X BG_ yk7:=by
 intro Ν s σ H x vs v us Q I rx rv h;obtain⟨l,xs,y,Β,Β,hH,hz,q⟩:=h;show Kx;show GT u ru rv.one;obtain⟨z,AY,n,r,hl,e⟩:=AtI hH;refine Ady F.slot_list_append AkD F.entry_list_append (F.args_list_append_2 _ _) (PySem.list_append l QP n u AZI) (CI e)
 refine k9 BS (AtJ (eQ :=AY++ [u]) hH e A0 (BG' (Agp ru)) ?_) q
 show BPy;show Ω
def Ra:AXK:=fun x vs H Q=>∃l xs i k y,x= .As l/\vs= [HI]/\Amd/\ -(2^63)<=i/\i<2^63/\BO_ k/\HR xs k y/\Q y (b_ l (AtF k))
theorem yf0:MtM X "list.pop" Ra:=by
 intro Ν s σ H x vs v us Q I rx rv h;obtain⟨l,xs,i,k,y,Β,Β,hH,h1,h2,hk,hy,q⟩:=h;show Kx;show GT u ru rv.one;show MW ru;obtain⟨z,AY,n,r,hl,e⟩:=AtI hH;show Cc w hw qj r.get hy;refine Ady F.slot_list_pop AkD F.entry_list_pop (F.args_list_pop_2 _ _)
  (MeetsSeq.list_pop_at l QP n i t k w (fitsIndex_both h1 h2) (AmZ hk) (A0z hw) AZI) (CI e)
 refine⟨y,_,AtJ (eQ :=its.eraseIdx k) hH e ?_ (r.eraseIdx k) ?_,qj,q⟩
 ·rw[List.eraseIdxIfInBounds_toArray]
 ·have:=zwo xs k;show Ω
#where
section
variable{κ:CB}[Ŵ]
def jc(AH:Õ)(k:κ):VV:=Cb kvs.find? (fun kv=>(Φ (kv.1=k))) (·.2)
def ĭ(BiS):Õ:=
 ID Amo (AcI (Bn kv (AhK v))) (AH++ [(k,v)])
theorem zt5{p:κ×V}{r:Õ}{k:κ}(e:CS=k):jc (p::r) k=Ε p.2:=Agt jc e
theorem zts{p:κ×V}{r:Õ}{k:κ}(e:¬CS=k):jc (p::r) k=jc r k:=Agt jc e
theorem ztb(k:κ):∀AH:Õ,Amo=AwS
 | []=>Β
 | p::r=>by
  rw[AGz];show AbD
  ·simp only [zt5 e,UF e,Bool.true_or,BqP]
  ·rw[zts e,BKK,BHB];exact ztb k r
theorem zpj(BiS):BCT<=Ġ+1:=by
 unfold ĭ;split
 ·show NR;show Ω
 ·rw[N1,GV,BqQ];show Ω
theorem nu.j4{o:VV}{u:fc}(r:nu o u):Ad1=u.isSome:=by
 cases o with
 | Θ=>cases u with
  | Θ=>rfl
  | Ε _=>show AQ6
 | Ε _=>cases u with
  | Θ=>show AQ6
  | Ε _=>rfl
theorem nu.getD{o:VV}{u:fc}{d:V}{d' :AI}(r:nu o u)(rd:HP d d'):HP (o.getD d) (u.getD d'):=by
 cases o with
 | Θ=>cases u with
  | Θ=>exact rd
  | Ε _=>show AQ6
 | Ε _=>cases u with
  | Θ=>show AQ6
  | Ε _=>exact r
theorem KV.val(BcO):nu (jc AH k) (ATQ vs k):=by
 induction r with
 | C3=>exact ALd
 | @AX p q ps qs h t ih=>
  show Aau h;show AbD
  ·have e' :q.1=k:=BKL;have b:ATQ AnU k=Ε q.2:=BNa
   rw[zt5 e,b];exact h2
  ·have e' :¬q.1=k:=BT0;have b:ATQ AnU k=ATQ qs k:=BNa
   rw[zts e,b];exact ih
theorem KV.any(BcO):Amo=vs.any fun kv=>(Φ (kv.1=k)):=by
 induction r with
 | C3=>rfl
 | AX h t ih=>show BP8 ih EJ
theorem KV.repl(BcP):
  KV BSm (As1 fun kv=>(AhK u)):=by
 induction r with
 | C3=>exact EB
 | @AX p q ps qs h t ih=>
  show AZ8;refine .AX ?_ ih;show Aau h;show AbD
  ·rw[C9 e,ê BHC e];exact⟨h1,ry⟩
  ·show BVG;exact⟨h1,h2⟩
theorem KV.put(BcP):KV Bcf (stored vs k u):=by
 unfold ĭ stored;rw[r.any k];by_cases e:(AgO vs.any)=Κ
 ·rw[C9 e,C9 e];exact r.repl k ry
 ·show YV e e;exact Paired.snoc r (IC ry)
theorem KV.length{AH:Õ}{vs:AgM}(r:AVM):ACP Ġ:=BKQ
#where
theorem U8{P:A2}{w:An}{k:Key}{u:AI}(r:HP (kV k) u):(qy P w).is k u=Κ:=by
 cases k with
 | DV i=>show BM8 AaV (zzz P w i t)
 | B0 x=>show BM8 Ana (zp4 P w x t)
theorem zpr{P:A2}{w:An}:RY ks EA us Au (IM (ABZ kV) us) (ItemsAre ż ks us)
 | [],_,r=>by rw[Ad2] at r;show AAp;exact EB
 | AJ8,_,r=>by
  show Ayd r;cases r with
  | AX h t=>exact sQ (U8 h) (zpr t)
abbrev KT(H:Hp):D3 iN AIw:=ASn fun p q=>BeE
theorem KT.val(BDf)(r:AGM)(k:EA):nu (jc AH k) ((atKey xs k).map (·.2)):=by
 induction r with
 | C3=>exact ALd
 | @AX p q ps qs h t ih=>
  obtain⟨h1,_,h2⟩:=h;show AbD
  ·have e' :q.1=k:=BKL;have b:ALm AnU k=Ε q.2:=BNb
   rw[zt5 e,b];exact h2
  ·have e' :¬q.1=k:=BT0;have b:ALm AnU k=ALm qs k:=BNb
   rw[zts e,b];exact ih
theorem KT.repl(BDf)(r:AGM)(k:EA){y:V}{u:AI}(ry:NX):
  KT H BSm (eC (putAt k u)):=by
 induction r with
 | C3=>exact EB
 | @AX p q ps qs h t ih=>
  show AZ8;refine .AX ?_ ih;show TL h1 h2 h3 h;unfold putAt;show AbD
  ·rw[C9 e,ê BHC e];exact⟨h1,h2,ry⟩
  ·show BVG;exact⟨h1,h2,h3⟩
theorem KT.put(BDf)(r:AGM)(k:EA){b:Ζ}{y:V}{u:AI}(hb:AkO)(ry:NX):
  KT H Bcf (storedH xs k b u):=by
 have e:Amo=BSo:=by
  rw[ztb,(r.val k).j4,ATS]
 unfold ĭ storedH;rw[e];by_cases q:BSo=Κ
 ·rw[IF,IF];exact r.repl k ry
 ·rw[CO q,NW];exact Paired.snoc r ⟨Β,hb,ry⟩
theorem KT.keeps{H H' :Hp}{AH:iN}{xs:AIw}(r:AGM)(ht:∀b ys,b9 APy ->AVT APy):KT H' AH xs:=
 Ar' r (Lw z BYG)
section
variable{P:A2}{w:An}{H:Hp}{h:AQ}{a:Ζ}
theorem yn3{u:HO}(ok:dl)(e:Rd H a u):AAd u:=e.ok ok
theorem Lq{AH:tJ}(ok:dl)(e:Ak_):BBm:=
 show AAd PU from yn3 ok e
theorem W9{AH:tJ}(ok:dl)(e:AJp):BBm:=Lq ok (Gc e)
theorem U9{ks:EA}(ok:dl)(e:OG BLl):(AK8 ż).is h ks a:=by
 obtain⟨_,AY,r,o,h1,h2,n,h3⟩:=(FA (AAd BLl) (ok a _ e));exact⟨o,QP,n,h1,h2,h3,CY (zpr r)⟩
theorem Lr{AH:iN}(ok:dl)(e:AZK):Ag' (∃xs,AGM/\h.DictOfH (AK8 ż) a xs):=by
 obtain⟨z,y,xs,r,o,es,ep,h1,h2,h3,h4,h5⟩:=(FA (AAd ACu) (yn3 ok e));refine⟨z,y,xs,r,o,es,ep,h1,h2,h3,h4,AnX,h5⟩;have all:RY l iN m AIw (KT H l m) (∀x∈m,(AK8 ż).is h x.1 x.2.1):=by
  intro l m q;induction q with
  | C3=>intro x hx;exact nomatch hx
  | @AX p q ps qs hq t ih=>
   intro x hx;rcases Cn hx with e | hx
   ·show vT (U9 ok (U' hq.1 hq.2.1))
   ·exact ih x hx
 exact all r x hx
theorem ypu{AH:iN}(ok:dl)(e:Ajs):Ag' (∃xs,AGM/\h.DictOfH (AK8 ż) a xs):=Lr ok (Gc e)
#where
def rY(H:Hp)(a:Ζ)(y:V)(r:VV):Ι:=
 (∃AH k,Ak_/\y=kV k/\r=jc AH k)\/∃AH k b,AZK/\y= .As b/\AkO/\r=jc AH k
def vV(H:Hp)(a:Ζ)(y v:V)(H' :Hp):Ι:=
 (∃AH k,AJp/\y=kV k/\Ak6/\H' =upd H a (.dK AqO))\/
 ∃AH k b,Ajs/\y= .As b/\AkO/\Ak6/\H' =upd H a (.dT AqO)
theorem rY.k{H:Hp}{a:Ζ}{AH:tJ}{k:Key}(e:AJp):rY H a (kV k) (jc AH k):= .DV ⟨AH,k,.DV e,Β,Β⟩
theorem vV.k{H:Hp}{a:Ζ}{AH:tJ}{k:Key}{v:V}(e:AJp)(hl:Ak6):vV H a (kV k) v (af a (.dK AqO)):= .DV ⟨AH,k,e,Β,hl,Β⟩
theorem vV.t(Aqa){AH:iN}{k:EA}{v:V}(e:Ajs)(eb:AkO)(hl:Ak6):
  vV H a Aie v (af a (.dT AqO)):= .B0 ⟨AH,k,b,e,Β,eb,hl,Β⟩
section
variable{X:Cx}{Ν:dX}{σ:St}{H:Hp}{s:AD}{a:Ζ}{y v:V}{u r:AI}{o:VV}{A:BM}{E:dO}
theorem Inv.big(WA):P6 BFv:=by
 have h:P6 jS:=(BpY I.bk).lt;exact AtK Χ h
theorem z8h{Q:dO}(hu:AJz)(I:AW)(g:rY H a y Ì)(ry:NX)(h:A_t (HP v w')):
  BZZ:=by
 rcases g with ⟨AH,k,e,ey,l⟩ | ⟨AH,k,b,e,ey,eb,l⟩
 ·subst ey;show Aaf;show Cc w' hw qj (AhN (ATQ vs k)) BZL
  exact wpAny_getItem_of AoL AtL hw (h w' _ ACs qj)
 ·subst ey;show AhG;show Ag6;show Cc w' hw qj (AhN ((ALm xs k).EL (·.2))) BZL
  show Bfk;refine Bak Ap7;rw[hp2];exact h w' _ ACs qj
theorem abp{Q:dO}(hu:AJz)(I:AW)(g:AO4 H)(ry:NX)(h:A_A Ad1):
  BBW .In:=by
 rcases g with ⟨AH,k,e,ey,l⟩ | ⟨AH,k,b,e,ey,eb,l⟩
 ·subst ey;show Aaf;refine wpAny_in_of AoL hd AtL ?_;rw[<- AaF,<- l];exact AQI
 ·subst ey;show A8b (BqS AOi Ap7 hd dd ?_);have q:=AaF;rw[ATS] at q;rw[<- q,<- l];exact AQI
theorem yiv{Q:dO}(hu:AJz)(I:AW)(g:AO4 H)(ry:NX)(h:A_A (! Ad1)):
  BBW ŷ:=by
 rcases g with ⟨AH,k,e,ey,l⟩ | ⟨AH,k,b,e,ey,eb,l⟩
 ·subst ey;show Aaf;refine wpAny_notIn_of AoL hd AtL ?_;rw[<- AaF,<- l];exact AQI
 ·subst ey;show A8b (BqT AOi Ap7 hd dd ?_);have q:=AaF;rw[ATS] at q;rw[<- q,<- l];exact AQI
theorem yas{h' :AQ}{t' :Δ}{ob:HO}(I:AW)(mu:Ws (H a))(hs:Ao8 h')(he:BXx)(new:AHW (af a ob) h' a ob):
  ŝ a ob AN3:=
 Aai a a mu XI (y9 q z (AZn hb z)) he new
theorem ymd{P:A2}{w:An}{H' :Hp}{h' :AQ}{AH:tJ}{vs:A2S}(z:AU4)(hd:Afv)(rel:AVM)(dd:h'.DictOf ż a vs):
  aZ P w H' h' a PU:=⟨z,hd,vs,rel,dd⟩
theorem z9b{H' :Hp}{Q:ý}(hu:AJz)(I:AW)(g:vV H a y v H')(ry:NX)(rv:HP v r)(h:AZr AJ9):
  ŗ (setItem EV u r):=by
 rcases g with ⟨AH,k,e,ey,l,eH⟩ | ⟨AH,k,b,e,ey,eb,l,eH⟩
 ·subst ey eH;obtain⟨z,hd,vs,rel,dd⟩:=zS W9;have hz:AOZ:=NN BHD z
  have hl:D6 BCT:=BeI
  refine wpAny_setItem_pairs (hsz:=hz) (U8 ry) dd BWr;have he:BXx:=let ⟨q,_,_,hq,_⟩:=Mz;⟨q,hq⟩;exact yas I Am2 hs he (ymd hl hd (rel.put k rv) Mz)
 ·subst ey eH;show AhG;obtain⟨z,hd,xs,rel,dd⟩:=zS ypu;have hz:Ż:=NN (Bo5 rel) z
  have hl:D6 BCT:=BeI
  refine wpAny_setItem_heap (hsz:=hz) AOi Ap7 dd BWr;obtain⟨q,es,ep,hq,h2,h3,h4,_,h5⟩:=Mz;refine yas I Am2 hs ⟨q,hq⟩ ⟨hl,hd,_,(rel.put k eb rv).keeps (At c ys ec),q,es,ep,hq,h2,h3,h4,h5⟩
  rw[bL (ypl ec e (FG (nomatch z)))];exact ec
#where
section
variable{X:Cx}{Ν:dX}{σ:St}{H:Hp}{s:AD}{a:Ζ}{AH:tJ}{k:Key}{u:AI}{A:BM}{E:dO}
theorem yph{Q:dO}(I:AW)(e:Ak_)(h:∀t s',Afd ->Q (.AL Ġ t) s'):ŗ (ANh AK3 SB):=by
 show Aaf;refine call_len_dict hd dd (by rw[<- BHD];rw[ALa] at z;show Ω) ?_
 rw[<- BHD];exact h _ _ ACs
#where
def GP(i:AJ):Ι:=∀ov iv,AtA i AC ov iv=A8i [ov,iv] ov iv
theorem z68{B9:A2}{w:An}{A:BM}{E:dO}{s:AD}{BI:Env}{E8 kL:AJ}{AA:AS}{T id:KA}{Q:dO}
  (hl:Bb0) (hs:GP kL)
  (h:ApR E8 o (AW0 (ADV kL) (UU Iy (s₂.TypeIs o T/\AH8 (ATK o i) Iy)))):
  KS (ADV (AjX E8 kL)):=by
 refine BG1 (eL h (fun o ES aE=>eL aE (At i Iy eg) om) om);obtain⟨hT,eg⟩:=eg;refine VO;rw[getitemInPython_of_ne hT.not_modules];refine lL BqU hT hl;have fin:qo A (AtA kL AC o i) (qr pf (AH8 (letTemporaryGo E8 o r>>=Fk (IO r)) pf)) E Iy:=iS (hs o i) wpAny_operating (ϑ eg (fun r pf h₃=>z6 (wpAny_letTemporaryGo (z7 h₃))) om)
 first
  | exact z7 (z6 fin)
  | exact z6 (z7 (z6 fin))
  | exact z6 fin
theorem zzs(Bfe){s:AD}{a:Ζ}{y:V}{o:VV}(I:AW)(g:AO4 H):BV2 :=by
 rcases g with ⟨AH,k,e,_,_⟩ | ⟨AH,k,b,e,_,_,_⟩
 ·obtain⟨_,_,vs,_,dd⟩:=zS Lq;exact ATU
 ·obtain⟨_,_,xs,_,dd⟩:=zS Lr;exact ATU
def Xa(td ty:TE):TE:=ACm td (sd ty y (∃a v,YE/\rY H2 a y Ì/\Agu))
def abq(ty td:TE):TE:=BdP Ad1
def yjc(ty td:TE):TE:=BdP (! Ad1)
def Xb(td ty tv:TE):TS:=AWY tv v (sd td x (ty σ H2 fun y H3=>∃a H4,YE/\vV H3 a y v H4/\AHr H4))
section
variable{X:Cx}{o i e E8:AJ}{AA I_ tpos:AS}{td ty tv:TE}
theorem z5w(BkU):Aky o i (Xa td ty):=by
 show DH Q;refine z68 BqV hs (bV AYc (UZ u));show AP' x rx;refine BTk;obtain⟨y,H2,I2,ry,a,v,ex,g,q2⟩:=hz2;subst ex;show Y';exact⟨zzs I2 g,z8h hu I2 g ry BdD⟩
theorem ym3(Bip):PC X .In i o (abq ty td):=by
 show DH Q;refine bV (kr hi) (UZ iv);show AP' y ry;refine Api;obtain⟨x,H2,I2,rx,a,ov,ex,g,q2⟩:=hz2;subst ex;show Y';exact abp hu I2 g ry (AIv (BWn ov.isSome))
theorem zv4(Bip):PC X ŷ i o (yjc ty td):=by
 show DH Q;refine bV (kr hi) (UZ iv);show AP' y ry;refine Api;obtain⟨x,H2,I2,rx,a,ov,ex,g,q2⟩:=hz2;subst ex;show Y';exact yiv hu I2 g ry (AIv (BWn (! ov.isSome)))
theorem Xc(hu:VC)(ho:AWN)(hi:Ag4)(hv:Axo)(hs:AQx o i):
  AOs (AIZ o i) E8 (Xb td ty tv):=by
 show DH D;refine wpAny_Assign_Subscript (bV Aj7 (UZ r)) hs;show AP' v rv;refine Api;obtain⟨x,H2,I2,rx,q2⟩:=hz2;refine BOS hi iv hz3;obtain⟨y,H3,I3,ry,a,H4,ex,g,q3⟩:=hz3;subst ex;show Y';exact z9b hu I3 g ry rv fun s4 I4=>⟨σ,H4,I4,q3⟩
#where
theorem yf6(Bgg):BZl A3y:=
 ⟨LU,BR',[],EB,Heap.DictOf.new h⟩
theorem yet(Bgg):BZl A5H:=
 ⟨LU,BR',[],EB,_,#[],0,RR,BON,Β,Β,Ad5⟩
def Rb:TE:=Aa3 (BDT A3y)
def Rf:TE:=Aa3 (BDT A5H)
section
variable{X:Cx}{AA:AS}
theorem ycl:ś Dict [] [] Rb:=BD_ (BqW (AI_ (BCP ALe CF (.dK []) A3u HT (yf6 A6 I.big)) (h _ AEM)))
theorem yen:ś Dict [] [] Rf:=BD_ (BqW (AI_ (BCP ALe CF (.dT []) A3u HT (yet A6 I.big)) (h _ AEM)))
#where
structure M2 (X:Cx) (o:AJ) (m:Μ) (KM:AS) (e f:AJ) (GW:AS):Ι where
 DI:Afn o m o o
 few:U_ (AmM [e,f] (! x.1)&&ApT) (Aqr ([e,f]:DA).Zs 30)
 ABc:à
 trees:backTo GW (AS7 [e,f] BO)= [(AC,UO e),(AC,UO f)]
def IsD(H:Hp)(a:Ζ):Ι:=(∃AH,Ak_)\/∃AH,AZK
theorem Xd(Bk6 a Ζ)(I:AW)(d:IsD H a):
  BV2 /\ (L4 (AH4= .As b) (∃ob,Avh/\ob.dict=Θ))/\ Afv:=by
 rcases d with ⟨AH,e⟩ | ⟨AH,e⟩
 ·obtain⟨_,hd,vs,_,dd⟩:=zS Lq;refine⟨ATU,AkG,hd⟩;show L';obtain⟨ob,_,_,h1,h2,_⟩:=dd;exact BR_
 ·obtain⟨_,hd,xs,_,dd⟩:=zS Lr;refine⟨ATU,AkG,hd⟩;show L';obtain⟨ob,_,_,h1,h2,_⟩:=dd;exact BR_
section
variable{X:Cx}{Ν:dX}{σ:St}{H:Hp}{s:AD}{a:Ζ}{y d:V}{u r:AI}{o:VV}{A:BM}{E:dO}
theorem yns{Q:dO}(hu:AJz)(I:AW)(g:AO4 H)(ry:NX)(rd:HP d r)(h:A_t (HP (o.getD d) w')):
  ŗ (ANh "dict.get" [EO,u,r]):=by
 rcases g with ⟨AH,k,e,ey,l⟩ | ⟨AH,k,b,e,ey,eb,l⟩
 ·subst ey;show Aaf;refine Ad6 BHF ATU BqX BOH (meets_dict_get_default AIE a AoL hd r) (ET AtL (h _ _ ACs ?_));rw[l];exact(Ad3 k).WP rd
 ·subst ey;show A8b (Ad6 BHF ATU BqX BOH (meetsH_dict_get_default (AK8 (qy GE X.w)) a b hd r) ⟨BqR hu,k,xs,U9 Iq eb,dd,h _ _ ACs ?_⟩);rw[l];exact(Ad3 k).WP rd
#where
def Rg(td ty tx:TE):TE:=ACm td (∃a,YE/\IsD H1 a/\sd ty y (tx σ H2 fun z H3=>∃o,AO4 H3/\Q (o.getD z) H3))
section
variable{X:Cx}{o e f:AJ}{KM GW:AS}{td ty tx:TE}
theorem yfg(hu:VC)(ho:AWN)(he:PE X e ty)(hf:PE X f tx)(m:BkJ):PE X (ze (qc o "get") [e,f]) (Rg td ty tx):=by
 show DH Q;refine wpAny_Call_method m.base m.few m.line BHG BHF PySem.F.type_dict_get (bV AYc (AHx abr));obtain⟨x,H1,I1,rx,a,ex,d,q1⟩:=abr;subst ex;show Y';obtain⟨t1,t2,_⟩:=Xd I1 d;refine DM t1 t2;rw[m.trees];refine BqM Β (BG9 (Asy (bV (AMy he) fun iv s2 (Aph ry)=>
  Asy (bV (hf Ν s2 σ H2 _ I2 q2) fun fv s3 ⟨z,H3,I3,rz,ov,g,q3⟩=>Ajq))))
 exact yns hu I3 g ry rz fun w' s4 I4 qj =>⟨_,H3,I4,qj,q3⟩
#where
#print _2
namespace Att
open II AKr Arj J'
theorem zqm{P:Params}{h:AQ}:∀(ns:B6) (vs:Au),WellAll P h vs (xp WData.int) ->AaI:=by
 intro ns;induction ns with
 | C3=>
  intro vs w;rw[Ad2] at w;show AE w w w w w w w w w w w w w w;exact EB
 | AX n ns ih=>
  intro vs w;rw[Ff] at w;cases w with
  | AX a b=>
   show AE a a a a a a a a a a a a a a;exact A0L (ih _ b)
theorem z7t{l:Ad7}{n:Δ}(hn:A8O){P:Params}{h:AQ}{E7:EK WData}{Hd:Au}
  (hpre:l.row.toRowW.claim.pre E7=Κ) (hwl:WellAll P h Hd E7):
  ∃a vs ns,Hd= [AH4]/\E7= [WData.list (xp WData.int)]/\gI Aho/\AaI/\Aj4:=by
 have hsh:WShape.hasAll [] E7 [.list s0]=Κ:=(pre_splitW hpre).1;have hc:l.pre.holds [] {E7:=E7}=Κ:=(pre_splitW hpre).2;show EX d r h1 h2 (hasAllW_cons hsh);show Rl (hasAllW_nil h2);show Cc xs Β h3 hasW_list h1;show ka ns (items_int h3);have E9:Aj4:=by
  have h4:(WTm.not (.lt (.lit (Ev LS)) (.len (.arg 0)))).holds [] {E7:= [.list ACc]}=Κ:=by
   have h4:=(holds_andW hc).1;rw[hn] at h4;exact h4
  have h5:=condW_of h4 (w_not (w_lt w_lit (w_len_list (w_arg Β))));show Au_ h5;refine Nat.le_of_not_lt fun q=> ?_;have q' :LS< EU JA:=Τ
  first
   | (show Ps (UF q') h5 (AkH h5))
   | (simp at h5;show Ω)
 cases hwl with
 | AX w1 w2=>
  show AE w2 w2 w2 w2 w2 w2 w2 w2 w2 w2 w2 w2 w2 w2;cases w1 with
  | list ho hall=>exact⟨_,_,ns,Β,Β,ho,zqm ns _ hall,E9⟩
theorem z6v(l:Ad7)(E7:EK WData):l.row.toRowW.claim.post E7 AWA E7=Κ:=
 postW_of (r:=AtN) (X:=BQd)
  (show WShape.has [] AWA .bool=Κ by first | rfl | decide | simp [WShape.has,WShape.arms,WShape.armsAll])
  (FA ((WTm.eq .res (.lit AWA)).E8 [] {E7:=E7,res:=Ε AWA,after:=E7}=Ε (Á BQd)) (w_eq_bool (w_res Β) w_lit)) Β
theorem BP{l:Ad7}{n:Δ}{q:A2}{ZI:Υ}{XP:AVC (ER)}{YP:AVC An}{d:Arq}
  (hn:A8O) (hdf:BLP)
  (Ī:∀(w:An) (MD ES:AD) (mg mb:ER) (fa:Ζ) (o:Obj) (pm cd doc:AI) (a:Ζ) (vs:Au) (ns:B6),
   vS (Ground q ZI [] XP w MD mg mb ABd) (YP w ABd) (ATY fa=Ε o) (xD= .func (docDef d.name d.params d.body d.scope pm cd doc)) (s₁.heap.CodeRec cd d.name) BOQ (BB BQh AaI Aj4 BMN (AJA (AS6 ATZ w) Ad8 (BQ fa) Ahb BoA ES))):
  BXi:=by
 intro w MD ES mg mb G Y fa o pm cd doc dV kV ho hd hcd hD hmg hg E7 Hd as hpre hlay hrd hwl hlo;show FB (dV= BH) (Dflts.none hD hdf);show FB (kV= BH) (Dflts.noKw hD);obtain⟨a,vs,ns,Β,Β,hobj,hints,E9⟩:=z7t hn hpre hwl;refine Au' enter_call (Ī w MD ES mg mb fa o pm cd doc a vs ns G Y ho (fd_plain hd) hcd hmg hobj hints E9 hg) AQ2;obtain⟨Β,h2,h3,h4⟩:=hq;exact⟨.DV ⟨AWs,AWs,[],Β,APc,AWs,z6v l _,Fk ⟨ATa,L3 hm (nomatch hm)⟩⟩,h2,h3,h4⟩
section
variable{B9:A2}{w:An}{A:BM}{E:dO}{s:AD}{K:IL}
#where
#print Att
namespace _2
open II Os J'
theorem Xe:RY vs Au ns B6 AaI (IM (xp V.int) vs)
 | _,_,EB=> EB
 | _,_,.AX n t h=> sQ Ċ (Xe h)
def Only(H:Hp):Ι:=∀b,NU\/∃o xs,b9 (.frz o sT)
theorem yfo{P:A2}{w:An}{K:AB}{mg mb:ER}{CX:Ln}{k:Δ}{fa a:Ζ}{fd:FS}{x:Μ}{sp:Sp}{ES:AD}{vs:Au}{ns:B6}
  (KX:A1X) (hns:Afy BHH) (hb:BHH AsC mb) (hbb:BeM) (hlim:s₁.heap.NoLimit) (hg:BMN)
  (ha:BQh) (hi:AaI) (hl:BJh) (hr:BKi)
  (F:Bcv (US fU CX k fa fd [x] sp)) (hbind:BW8)
  (hsp:∀H:Hp,Only H ->Aoz ->sp SB H A8y ſ)
  (hCX:∀H e s',CX [] H ES (ſ) e s' ->EM):
  BiI:=by
 have rv:=Xe hi;have lenV:=hi.length
 
 have core:∀H:Hp,Only H ->G_ Aoz (pG P w H ABd) (L4 (H b≠Θ) (b=a)) (H a≠Θ ->MU ZH) BiI:=by
  intro H hO hS D7 hA hK;have FQ:lx b Ζ o Obj BJs NU (LM (Ao ABd H).IN):=fun e n=>yc4 e n;have W4:∀{b:Ζ} {o:Obj} {es:AYO} {ep:Δ},BJs ->A3O ->NU:=fun{b o es ep} e d=>by
   cases q:H b with
   | Θ=>rfl
   | Ε u=>
    have e' :b=a:=BQV
    subst e';rw[ha] at e;show C6;have d' :Data.seq ph _=Data.dict es ep:=d;show AE d' d' d' d' d' d' d' d' d' d' d' d' d' d'
  show EW nsK (RY b Ζ m ER (BHH b m) ((Ao ABd H).Ns b m)) (fun{b m} Xf=>(AOp o es ep e d r Xf o es ep (FQ e (W4 e d)) d r)) hKb (Ĥ (Ao ABd H)) (OH (FQ (gf KX) (by
   cases q:H b with
   | Θ=>rfl
   | Ε u=>
    have e' :b=a:=BQV
    subst e';rw[hK (AWu q)] at e;show C6))) hM (Mod K mg BRP) ⟨hKb,nsK hns,⟨mb,nsK hb,hbb⟩,let ⟨mc,h1,h2⟩:=hlim;⟨mc,nsK h1,h2⟩⟩ e0 (Aq P w K mg BRP Ad8 [] ES H) ⟨Β,hM,OH (yjt e),ATG (yai _ _),Sj,FM (A9s hb),D7,.of_eq hg⟩
  refine ALn ((F _ hKb (nsK hns)).run Ad8 [] ES H Ahb SB SB _ _ hr e0 (hbind ES EV) A4T (hsp H hO hS)) (AU9 h);cases r with
  | kH e=>exact(hCX H e s' h).WI
  | ok fl=>
   cases fl with
   | KE=>show ľ
   | brk=>show ľ
   | Nn=>show ľ
   | ret u=>
    obtain⟨v,H',os,Hb,un,hok',r',q⟩:=h;have q' :v= .bl Κ:=q;subst q';show FB (u=Ar6 Κ) r';refine⟨Β,OldK.of_keep AZf,os,Hb⟩;cases q:H b with
    | Θ=>exact un.keep b o e q (by intro z;exact A9s z) A0
    | Ε u=>
     rcases hO b with z | ⟨ob,xs,z⟩
     ·rw[q] at z;show L6
     ·have z2:=un.mK b ob _ z;obtain⟨e1,_⟩:=D7 b _ z;obtain⟨e2,_⟩:=hok' b _ z2;rw[e] at e1;show AE e1 e1 e1 e1 e1 e1 e1 e1 e1 e1 e1 e1 e1 e1;exact e2
 cases hk:ZH a with
 | Ε o=>
  
  have e:=KX a o hk;rw[ha] at e;show C6;refine core (D9 Θ) (D9 APm) (E6 ⟨_,ph,_,hk,Β,Β,Β,Ú WO lenV hl,CY rv⟩) (fun b u z=>(BlQ ((Θ:MM HO)=Ε u))) (fun b z=>A8w) (A1 A8w)
 | Θ=>
  refine core (A2l (.frz Aho (E3 Avr)) Θ) (gE ?_) (Gc (E6 ⟨Aho,E2⟩)) (OF u z) (fun b z=> ?_) (Fk hk)
  ·by_cases hb:b=a
   ·show HL (ET _ Ai5)
   ·show E5 (WG hb)
  ·by_cases hb:b=a
   ·have z' :=(AGc hb).BHJ z;show AE z' z' z' z' z' z' z' z' z' z' z' z' z' z';subst hb;exact⟨ha,Azz hl,vs,_,rv,ha⟩
   ·have z' :=(WG hb).BHJ z;show AE z' z' z' z' z' z' z' z' z' z' z' z' z' z'
  ·by_cases hb:b=a
   ·exact hb
   ·exact vc WG hb z
abbrev E0:XK:=ſ
structure dR (BbN) (st:AT) (f:Ζ) (fd:FS):Ι where
 ex:∃(oc:AI) (od:OW) (kV doc pm:AI) (an:OW) (cdv ct:AI) (osl:AEO),
  fd=As6 x FD AIn tm yo BH kV doc pm an cdv ct/\AqK fd osl/\A'V
 kp:AXF
section
variable{P:A2}{w:An}{K:AB}{mg:ER}{DI:AQ}
theorem dR.binds(AGJ){st:AT}{f:Ζ}{fd:FS}{ps:Υ}(F:AGC)
  (h:Bks us Au (BKk ->BWi (As6 x FD AIn tm yo BH kV doc pm an cdv ct))):AIO:=by
 show BLy;exact .all (h kV doc pm an cdv ct)
#where
def LG(H H' :Hp):Ι:=AVb H H'
theorem Same.refl(H:Hp):vj H:=A2K
theorem Same.trans{H H1 H2:Hp}(a:A5L)(b:LG H1 H2):LG H H2:=fun c o h=>b c o (a c o h)
theorem Same.free{H H' :Hp}(e:AQP){l:Ζ}(h:H' l=Option.none):H l=Option.none:=by
 cases q:H l with
 | Θ=>rfl
 | Ε o=>
  show AXO (e l o q)
theorem Same.seq{K:AB}{H H' :Hp}{a:Ζ}{xs:AV}(e:AQP)(h:ϊ):nY K H' a xs:=by
 show AiV h h h h
 ·show E5 (Gc (e _ _ h))
 ·show E5 (E6 (cz (e _ _ h)))
 ·exact KW h
#print _2
namespace _3
open II Os J' _2
abbrev St:=_2.St
inductive D where
 | non | bl (b:AN) | AL (ARb) | AO (AQG) | DZ (xs:AU) | B_ (xs:AU) | exc (C:Ζ) | ptr (a:Ζ)
 | obj (C:Ζ) (fs:Υ) (xs:AU) | dic (ks:EA) (xs:AU) | j7 (ks:dL) (xs:AU) | dik (ks:EA) (xs:AU)
def jd(a C:Ζ):HO:= AnT (∃o vs,Ā/\AZG/\Aad/\ (A9J Asa))
def Av(F:Hp)(a:Ζ):Ι:=∃o C,A2T
inductive IsT (Bh_):Ι
 | mk:BWc (vR K F a vs) (IsT K F R v)
inductive Xg (Bh_):Ι
 | mk:BWc Axk (Xg K F R v)
inductive Xh (F:Hp) (C:Ζ) (fs:Υ) (R:AV0) (v:V):Ι
 | mk:∀a dx vs,BB Mb (AIT (Ō (Į vs))) AJx (R vs) (Xh F C fs R v)
inductive Xi (BPg):Ι
 | mk:BjM (AIT ACr) Xi
inductive Xj (F:Hp) (ks:dL) (R:AV0) (v:V):Ι
 | mk:BjM (Rd F a (.dT (UH vs))) Xj
inductive Xk (BPg):Ι
 | mk:∀a o vs,BB Mb (AIT ANf) Xs (R vs) (Xk F ks R v)
inductive IsC (P:F6 V) (R:AV0) (vs:AV):Ι
 | mk:∀v r,vs=v::r ->P v ->R r ->IsC P R vs
mutual
def Rep(K:AB)(F:Hp):D3 D V
 | BS,v=>v= BS
 | v6,v=>v= .bl b
 | HI,v=>v= .AL i
 | vy,v=>v= .AO x
 | AEv,v=>IsT K F AKj v
 | AjU,v=>Xg K F AKj v
 | .exc C,v=>∃a o,Mb/\A2T
 | .ptr a,v=>Mb
 | AkW,v=>Xh F C fs AKj v
 | ACf ds,v=>Xi F ks AKj v
 | ACq ds,v=>Xj F ks AKj v
 | .dik ks ds,v=>Xk F ks AKj v
def aK(K:AB)(F:Hp):D3 AU AV
 | [],vs=>vs= []
 | ip,vs=>IsC (Rep K F d) AKj vs
end
theorem tY{K:AB}{H H' :Hp}{a:Ζ}{xs:AV}(e:AQP)(h:AFR):vR K H' a xs:=by
 show AiV h h h h
 ·show E5 (Gc (e _ _ h))
 ·show E5 (E6 (cz (e _ _ h)))
 ·exact KW h
theorem Im{F H:Hp}{a:Ζ}{u:HO}(s:VW)(r:Rd F a u):Rd H a u:=by
 rcases r with r | ⟨o,r⟩
 ·show E5 (s _ _ r)
 ·show HL (cz (s _ _ r))
mutual
theorem zue(BMq):∀(d:D) (v:V),OU ->u7
 | BS,_,h=>On
 | li,_,h=>On
 | im,_,h=>On
 | nv,_,h=>On
 | AEv,_,h=>by
  show Apa;exact⟨a,vs,h0,tY e h1,AgS h2⟩
 | AjU,_,h=>by
  show Apa;exact⟨a,vs,h0,e.seq h1,AgS h2⟩
 | AJh,_,h=>On
 | .exc C,_,h=>by
  show a_ a o h0 h1;exact⟨a,o,h0,AkT⟩
 | AkW,_,h=>by
  show AFk dx vs h0 h1 h3 h4;exact⟨a,dx,vs,h0,AkT,h3,Amq⟩
 | ACf ds,_,h=>AOp a vs h0 h1 h3 h4 h a vs h0 AkT h3 Amq
 | ACq ds,_,h=>AOp a vs h0 h1 h3 h4 h a vs h0 (Im e h1) h3 Amq
 | .dik ks ds,_,h=>by
  show AFk o vs h0 h1 h3 h4;exact⟨a,o,vs,h0,AkT,h3,Amq⟩
theorem OD(BMq):∀(ds:AU) (vs:AV),MZ ->AIp
 | [],_,h=>On
 | ip,_,h=>by
  obtain⟨v,r,h0,h1,h2⟩:=h;exact⟨v,r,h0,zue e d v h1,OD e ds r h2⟩
end
theorem Rep.up(BfY)(h:OU)(e:FV):u7:=zue e d v h
theorem aK.up{K:AB}{F F' :Hp}{ds:AU}{vs:AV}(h:MZ)(e:FV):AIp:=AgS h
theorem lQ(Me):BBZ (ABx MG)
 | [],_,h=>by show Dx aK;subst h;rfl
 | Db,_,h=>by
  show Dx aK;obtain⟨v,r,Β,_,h2⟩:=h;simp only [GV,lQ h2]
theorem yE(Me):∀{ds:AU} {vs:AV} {i:Δ} {d:D},MZ ->A8c ->AZO AQW
 | [],_,_,_,_,e=>AJ'
 | Db,_,0,_,h,e=>by
  show AI0 v r h1 h;simp at e;show A2i v h1
 | Db,_,D',d,h,e=>by
  obtain⟨v,r,Β,_,h2⟩:=h;show DE u e1 e2 (ö yE) h2 AEp
  exact BTX
theorem zwk(Me):∀{ds:AU} {vs:AV} {i:Δ} {v:V},MZ ->AQW ->∃d,A8c/\OU
 | [],_,_,_,h,e=>by subst h;simp at e
 | d::_,_,0,_,h,e=>by
  show AI0 v r h1 h;simp at e;show A2i d h1
 | Db,_,D',v,h,e=>by
  obtain⟨v',r,Β,_,h2⟩:=h;show DE u e1 e2 (ö zwk) h2 AEp
  exact BTX
theorem MF(Me):∀{ds es:AU} {vs us:AV},MZ ->A6c ->NE (ds++es) (vs++us)
 | [],_,_,_,h,k=>by subst h;exact k
 | Db,_,_,_,h,k=>by
  show Abl v;exact Y1 v h1 (MF h2 k)
theorem OJ(Ap0)(h:OU):NE [d] [v]:=JO ⟨v,[],Β,h,MY⟩
theorem qF(Me){d:D}{v:V}{ds:AU}{vs:AV}(h:OU)(k:MZ):NE AkQ (v::vs):=JO (VA v h k)
theorem zrh(Me):ArH n (ds.take n) (vs.take n)
 | _,_,0,_=>Ajk
 | [],_,_+1,h=>ApK
 | Db,_,n+1,h=>by
  show Abl u;exact qF h1 (zrh n h2)
theorem zqg(Me):ArH n (ds.drop n) (vs.drop n)
 | _,_,0,h=>h
 | [],_,_+1,h=>ApK
 | Db,_,n+1,h=>by
  show Abl u;exact zqg n h2
def vW(H:Hp)(b:Ζ)(o:HO):Ι:=NU\/ AFL (o= .DZ xs) (LM H)
theorem Ad9(s:A5L)(h:vW H1 b o):vW H b o:=by
 show AvL h h e h
 ·show E5 (s.free h)
 ·cases q:H b with
  | Θ=>show E5 q
  | Ε u=>
   have:=s _ _ q;rw[h] at Ρ;show L9;exact KW (Ϧ xs e q)
structure Gr (F H F' H' :Hp):Ι where
 f:FV
 g:AHi F'
 h:AQP
 n:cy (LM F') zw (vW H b o)
theorem į(h:VW):Gr F H F H:=ADb h lP
theorem Gr.trans(a:Gr F H F1 H1)(b:Gr F1 H1 F2 H2):Gr F H F2 H2:=by
 refine⟨a.f.trans b.f,b.g,a.h.trans b.h,MX c o e n⟩;cases q:F1 c with
 | Θ=>exact Ad9 a.h (b.n c o e q)
 | Ε u=>show Am7 (b.f _ _ q) (a.n c _ q n)
theorem ALo(h:VW)(hp:AkE):Gr F H (ko F p o) (ko H p o):=by
 refine⟨Kj,Kj,Kj,BVD⟩
 ·show qh (h b u e) hp;exact e
 ·by_cases hb:b=p
  ·subst hb;show Ô gQ e e
  ·rw[tN] at e⊢;show r9 h
 ·show Î hp;exact e
 ·by_cases hb:b=p
  ·subst hb;show E5 hp
  ·show BBe
inductive T where
 | JE (d:D) | B_ (ts:GS) | dic (ks:Ayr) (ts:GS) | j7 (ks:yb _2.Key) (ts:GS) | ob (BXN) | kt (k:Ayr)
def lU:Key ->D | APl=> HI | Ů=> vy
def GQ(fs:Υ):AN:= !(Φ (fs= [(ZY :Μ)]))
inductive TrL (H:Hp) (R:AaU) (v:V) (as:B5):Ι
 | mk:∀a vs bs,BB Mb (as=ADH) APx (R vs bs) (TrL H R v as)
inductive TrK (H:Hp) (ks:Ayr) (R:AaU) (v:V) (as:B5):Ι
 | mk:BhQ (OG ACr) (TrK H ks R v as)
inductive TrT (H:Hp) (ks:yb _2.Key) (R:AaU) (v:V) (as:B5):Ι
 | mk:BhQ (OG (.dT (UH vs))) (TrT H ks R v as)
inductive TrO (H:Hp) (C:Ζ) (fs:Υ) (R:AaU) (v:V) (as:B5):Ι
 | mk:∀a dx vs bs,Mb ->as=Aaa ->A2' ->BB A6' AJx (GQ fs=Κ) (R vs bs) (TrO H C fs R v as)
inductive TrC (P:D3 V B5) (R:AaU) (vs:AV) (as:B5):Ι
 | mk:∀v us bs cs,BB (vs=v::us) (as=AoG) (P v bs) (R us cs) (TrC P R vs as)
mutual
def TR(BBo):T ->D3 V B5
 | dA,v,as=>as= []/\OU
 | vv,v,as=>TrL H AbV v as
 | ą,v,as=>TrK H ks AbV v as
 | AFY,v,as=>TrT H ks AbV v as
 | AFz,v,as=>TrO H C fs AbV v as
 | .kt k,v,as=>as= []/\∃a,Mb/\AIT Blq
def fC(BBo):GS ->D3 AV B5
 | [],vs,as=>vs= []/\as= []
 | V',vs,as=>TrC (TR K F H t) AbV vs as
end
section
variable{K:AB}{F H F' H' :Hp}
mutual
theorem ABe(f:FV):BD' Ahz (ϋ t v as)
 | dA,v,as,k,h=>JO ⟨EJ,(h.2).up f⟩
 | vv,v,as,k,h=>by
  show AFk vs bs e1 Β e3 h;exact⟨a,vs,bs,e1,Β,AQ4,A2o⟩
 | ą,v,as,k,h=>by
  show ARa;exact⟨a,vs,bs,e1,Β,AQ4,e4,A2o⟩
 | AFY,v,as,k,h=>by
  show ARa;exact⟨a,vs,bs,e1,Β,AQ4,e4,A2o⟩
 | AFz,v,as,k,h=>by
  obtain⟨a,dx,vs,bs,e1,Β,e3,e4,e5,e6,h⟩:=h;exact⟨a,dx,vs,bs,e1,Β,AQ4,k dx (zW _ zY) _ e4,e5,e6,BDM aI⟩
 | AJf,v,as,k,h=>by show a_ e a e1 e2;exact⟨e,a,e1,f _ _ e2⟩
theorem aI(f:FV):BEG Ahz (AbC ts as)
 | [],vs,as,k,h=>On
 | V',vs,as,k,h=>by
  show An5;exact⟨v,us,bs,cs,e1,Β,BCU ABe,BDc aI⟩
end
def LD(u:HO):Ι:=(∃vs,u= .B_ vs)\/ (∃AH,u= .dK AH)\/ (∃AH,u= .dT AH)\/ (∃C dx kvs,u= .ins C dx kvs/\GQ (kvs.map (·.1))=true)\/∃a,u= .BA a
theorem z2o:AOM fs Υ AJx (Cb Į vs (·.1)=fs)
 | [],_,_=>Β
 | Db,[],h=>D4
 | oa,AQV,h=>BZV z2o
theorem LD.tup(h:LD Pw):EM:=BQF
theorem LD.frz(h:LD ACz):EM:=BQF
theorem LD.ins(h:LD (Ō AH)):GQ (kvs.map (·.1))=Κ:=by
 rcases h with ⟨_,z⟩ | ⟨_,z⟩ | ⟨_,z⟩ | ⟨_,_,_,z,q⟩ | ⟨_,z⟩<;>(first|subst z|show AHG|show AHI|show AHK|show AHJ|show AHM|show AHL|show AHN|show AHO|show OC z|show OA z|show NB z|show OB z|cases (z))
 exact q
mutual
theorem Ad_:∀(t:T) (v:V) (as:B5),AIx ->AnP (∃u,AHy/\oP)
 | dA,v,as,h,a,ha=>AiP EJ
 | vv,v,as,h,a,ha=>by
  obtain⟨b,vs,bs,e1,Β,e3,h⟩:=h;rcases Cn ha with Β | ha
  ·exact ET e3 (.DV E4)
  ·show ArE
 | ą,v,as,h,a,ha=>by
  obtain⟨b,vs,bs,e1,Β,e3,_,h⟩:=h;rcases Cn ha with Β | ha
  ·exact ET e3 (.B0 (Gc E4))
  ·show ArE
 | AFY,v,as,h,a,ha=>by
  obtain⟨b,vs,bs,e1,Β,e3,_,h⟩:=h;rcases Cn ha with Β | ha
  ·exact ET e3 (ANe (Gc E4))
  ·show ArE
 | AFz,v,as,h,a,ha=>by
  obtain⟨b,dx,vs,bs,e1,Β,e3,e4,e5,e6,h⟩:=h;rcases Cn ha with Β | ha
  ·exact ET e3 (ANe (E6 (Gc (k9 _ _ (lh z2o e5 e6)))))
  ·rcases Cn ha with Β | ha
   ·exact ET e4 (ANe (E6 (E6 E4)))
   ·show ArE
 | AJf,v,as,h,a,ha=>AiP EJ
theorem AG1:∀(ts:GS) (vs:AV) (as:B5),ADw ->AnP (∃u,AHy/\oP)
 | [],vs,as,h,a,ha=>AiP h.2
 | V',vs,as,h,a,ha=>by
  show An5;rcases Ix ha with ha | ha
  ·exact Ad_ t v bs h1 a ha
  ·exact AG1 ts us cs h2 a ha
end
#where
mutual
def toD:T ->D
 | dA=>d
 | vv=> .B_ (jT ts)
 | ą=> ce ks (jT ts)
 | AFY=> .j7 ks (jT ts)
 | AFz=> .obj C fs (jT ts)
 | .kt k=> .DZ A6O
def jT:GS ->AU
 | []=> []
 | V'=>toD t::jT ts
end
theorem Xl(Me):∀ks:EA,NE (ABZ lU) A6N
 | []=>MY
 | APl::ks=>BTn
 | Ů::ks=>BTn
section
variable{K:AB}{F H F' :Hp}
mutual
theorem ATc(f:FV):BD' (Af7 AlA) (AMf (toD t) v)
 | dA,v,as,k,h=>BYq
 | vv,v,as,k,h=>by
  show AFk vs bs e1 Β e3 h;exact⟨a,vs,e1,ACa Bb',A2p⟩
 | ą,v,as,k,h=>by
  show ARa;exact⟨a,vs,e1,AQ4,e4,A2p⟩
 | AFY,v,as,k,h=>by
  show ARa;exact⟨a,vs,e1,.DV Bb',e4,A2p⟩
 | AFz,v,as,k,h=>by
  obtain⟨a,dx,vs,bs,e1,Β,e3,e4,e5,e6,h⟩:=h;exact⟨a,dx,vs,e1,AQ4,e5,BDM ALp⟩
 | .kt k,v,as,_,h=>by
  obtain⟨_,a,e1,e2⟩:=h;exact⟨a,_,e1,Akg f,Xl k⟩
theorem ALp(f:FV):BEG (Af7 AlA) (AUh (jT ts))
 | [],vs,as,k,h=>JO EJ
 | V',vs,as,k,h=>by
  show An5;exact⟨v,us,e1,BCU ATc,BDc ALp⟩
end
#where
inductive GG where
 | no | pu (d:D) | ow (ds:AU) | tr (as:B5) (t:T) | nt (as:B5) (ts:GS) | xe (as:B5) (C:Ζ) (fs:Υ) (ts:GS)
inductive SlO (AnN) (ds:AU) (o:VV):Ι
 | mk:∀a vs,A2t ->BB APx AEt í MZ BTP
inductive SlT (AnN) (as:B5) (t:T) (o:VV):Ι
 | mk:∀v,BB (o=Ε v) xw Ant AIx BVf
inductive SlN (AnN) (as:B5) (ts:GS) (o:VV):Ι
 | mk:∀p vs,o=Ε (BQ p) ->BB (F p=Ε (KP vs)) xw Ant ADw BVg
inductive SlX (AnN) (as:B5) (C:Ζ) (fs:Υ) (ts:GS) (o:VV):Ι
 | mk:∀a oe dx vs,BB A2t (AIT AHc) A3P (F dx=Ε BRd) (BB AJx xw Ant ADw Bf9)
def qG(AVR)(F H H0:Hp):D3 GG VV
 | EI,_=>KI
 | .pu d,o=>AZO (o=Ε v)
 | .ow ds,o=>BTP
 | ADJ t,o=>BVf
 | .nt as ts,o=>BVg
 | .xe as C fs ts,o=>Bf9
def gW:GG ->D3 VV Ζ
 | .ow _,o,a=>A2t
 | ADJ _,_,a=>Al4
 | .nt as _,_,a=>Al4
 | .xe as _ _ _,_,a=>Al4
 | _,_,_=>EM
inductive pJ (Γ:Ϥ) (σ:St) (i:Δ) (a:Ζ):Ι
 | mk:∀s o,AY8 ->AFX ->ό ->BVd
structure SR (BjD) (σ:St) (Γ:Ϥ):Ι where
 gr:Aqt
 len:AsI=ATd
 sl:∀(i:Δ) s,AY8 ->∃o,AFX/\AbQ
 ap:∀(i j:Δ) a,BVd ->A_s ->i=j
section
variable{K:AB}{F0 H0 F H F' H' :Hp}{σ:St}{Γ:Ϥ}
theorem SR.g(R:GU):VW:=R.gr.g
theorem FT(r:AbQ)(h:ό):AEt/\í/\∃u,AHy/\oP:=by
 cases s with
 | no=>show HA
 | pu d=>show HA
 | ow ds=>obtain⟨b,vs,Β,h1,h2,h3,_⟩:=r;show GN;exact⟨h2,h3,_,h1,.DV E4⟩
 | tr as t=>obtain⟨v,_,_,h2,h3⟩:=r;exact⟨(h2 a h).1,A4R,Ad_ t v as h3 a h⟩
 | nt as ts=>obtain⟨p,vs,_,_,_,h2,h3⟩:=r;exact⟨(h2 a h).1,A4R,AG1 ts vs as h3 a h⟩
 | xe as C fs ts=>obtain⟨_,_,_,vs,_,_,_,_,_,_,h2,h3⟩:=r;exact⟨(h2 a h).1,A4R,AG1 ts vs as h3 a h⟩
theorem O1(r:AbQ)(f:FV)(k:∀a,ό ->sv/\Ahz):BeV:=by
 cases s with
 | no=>trivial
 | pu d=>
  obtain⟨v,e,r⟩:=r;exact⟨v,e,r.up f⟩
 | ow ds=>
  obtain⟨a,vs,e,e1,e2,e3,r⟩:=r;obtain⟨k1,k2⟩:=k a e;exact⟨a,vs,e,k2 _ e1,k1,e3,r.up f⟩
 | tr as t=>
  obtain⟨v,e,nd,h,r⟩:=r;exact⟨v,e,nd,A'c,ABe f t v as BnZ r⟩
 | nt as ts=>
  obtain⟨p,vs,e,e1,nd,h,r⟩:=r;exact⟨p,vs,e,f _ _ e1,nd,A'c,BfN⟩
 | xe as C fs ts=>
  obtain⟨a,oe,dx,vs,e,e1,e2,e3,e4,nd,h,r⟩:=r;exact⟨a,oe,dx,vs,e,f _ _ e1,e2,f _ _ e3,e4,nd,A'c,BfN⟩
theorem z42(r:AbQ)(g:tz):BeV:=
 O1 r g.f fun a ha=>by
  obtain⟨h1,_,u,h3,ld⟩:=FT r ha;refine⟨?_,fun u e=>g.h _ _ e⟩;cases q:F' a with
  | Θ=>rfl
  | Ε w=>
   show AvL (g.n a w q h1) z e z
   ·show AXP h3
   ·rw[h3] at z;show L6;subst e;exact BHK
theorem SR.grow(R:GU)(g:tz):AaA:=by
 refine⟨R.gr.trans g,ABf,cf i s,R.ap⟩;show X9 e1 r (ei i s e);exact⟨o,e1,z42 r g⟩
theorem Xm(h:pJ (ō s) (Â o) j a):(j=i/\ό)\/ (j≠i/\A_s):=by
 obtain⟨t,p,e1,e2,h⟩:=h;by_cases hj:i=j
 ·subst hj;have hi:i<ATd:=by
   rcases AXr ATd with h | h
   ·exact h
   ·show LO A3a e1 e1 e1 e1 e1 e1 e1 e1 e1 e1 e1 e1 e1 e1 e1
  have hi' :AzC:=by
   rcases AXr AsI with h | h
   ·exact h
   ·show LO A3a e2 e2 e2 e2 e2 e2 e2 e2 e2 e2 e2 e2 e2 e2 e2
  rw[BKs] at e1;rw[ALD hi'] at e2;show AE e1 e1 e1 e1 e1 e1 e1 e1 e1 e1 e1 e1 e1 e1;show i8;exact NS (IC h)
 ·rw[A1t] at e1 e2;show HL ⟨ALC hj,t,p,e1,e2,h⟩
def Apart(σ:St)(Γ:Ϥ)(a:Ζ):Ι:=∀j,¬A_s
theorem SR.apart(R:GU)(h:â):AFe:=fun j Bi=>by
 obtain⟨s,o,e1,e2,q⟩:=Bi;obtain⟨o',e3,r⟩:=ei j s e1;rw[e2] at e3;show ArR;obtain⟨_,_,u,e,_⟩:=FT r q;rw[h] at e;show C6
theorem SR.put(R:GU)(i:Δ)(r:AbQ)(ha:∀a,ό ->AFe):A6f (Â o) s:=by
 refine⟨R.gr,DT ABf,cf j t,IE j k a e1 e2⟩
 ·by_cases hj:i=j
  ·subst hj;have hi:i<ATd:=by
    rcases AXr ATd with h | h
    ·exact h
    ·rw[A3a] at e;show C6
   show AKZ BKs ⟨o,ALD (EQ ABf hi),r⟩
  ·rw[A1t] at e;rw[AS4 hj];exact ei j t e
 ·rcases Xm e1 with ⟨Β,q1⟩ | ⟨n1,q1⟩
  ·rcases Xm e2 with ⟨Β,_⟩ | ⟨_,q2⟩
   ·rfl
   ·exact(ha a q1 _ q2).WI
  ·rcases Xm e2 with ⟨Β,q2⟩ | ⟨_,q2⟩
   ·exact(ha a q2 _ q1).WI
   ·exact R.ap j k a q1 q2
theorem SR.set(R:GU)(i:Δ)(r:OU):A6f Akk AY2:=BWW (AFI r)
theorem SR.drop(R:GU)(i:Δ)(o:VV):ae SR F H (Â o) ă:=BWW Sj
theorem SR.setOw(R:GU)(i:Δ)(h1:APx)(h2:AEt)(h3:í)(r:MZ)(ha:AFe):
  A6f (Â g6) Ă:=R.put i ⟨a,vs,Β,h1,h2,h3,r⟩ (fS h (by show GN;exact ha))
theorem z11(g:VW)(h1:APx)(h2:AEt):fR Aoq/\vj Aoq:=by
 refine⟨Kj,Kj⟩
 ·show Î h2;exact e
 ·by_cases hb:b=a
  ·subst hb;show AKZ gQ h1
  ·rw[tN] at e;show r9 g
theorem SR.frzM(R:GU)(s1:FV)(s2:vj F')(n:sB (MT F') zw (RF H0/\AMo b)):AwB:=by
 refine⟨⟨BqY s1,s2,AG2,ť e q⟩,ABf,cf j s,R.ap⟩
 ·cases z:F b with
  | Θ=>show E5 (n b o e z).1
  | Ε u=>show Am7 (s1 _ _ z) (R.gr.n b _ z q)
 ·show X9 e1 r (ei j s e);refine⟨o,e1,O1 r s1 (Ü ?_ (L3 q q))⟩;obtain⟨h1,_,_⟩:=FT r hb;cases q:F' b with
  | Θ=>rfl
  | Ε u=>exact((n b u q h1).2 j ⟨s,o,e,e1,hb⟩).WI
def vX(F H:Hp):Hp:=dP (ARB (F b) u (Ε u) (AEq (H b) Pw (Ε Pw) Θ))
theorem zoo:fR A2Q:=NO (by unfold vX;rw[e])
theorem ykt(g:VW):vj A2Q:=NO (by
 show Tl vX;cases q:F b with
 | Ε w=>rw[q] at e;show C6;exact g _ _ q
 | Θ=>
  rw[q] at e;dsimp only at e;split at e
  ·rename_i z;show C6;exact z
  ·show Ē)
theorem z7z(g:VW)(e:b9 Pw):vX F H b=Ε Pw:=by
 unfold vX;cases q:F b with
 | Ε w=>have:=g _ _ q;show Da e;show L9;rfl
 | Θ=>rw[e]
theorem z16(e:vX F H b=Ε u)(n:zw):AFL (u= .DZ xs) ϱ:=by
 show Tl vX;rw[n] at e;dsimp only at e;split at e
 ·rename_i z;show C6;exact⟨E4,z⟩
 ·show Ē
theorem SR.tups(R:GU):km A2Q H:=by
 refine⟨⟨BqY zoo,ykt R.g,AG2,ť e q⟩,ABf,cf j s,R.ap⟩
 ·cases z:F b with
  | Θ=>exact Ad9 AG2 (E6 (z16 e z))
  | Ε u=>show Am7 (zoo (H:=H) _ _ z) (R.gr.n b _ z q)
 ·show X9 e1 r (ei j s e);refine⟨o,e1,O1 r zoo (Ü ?_ (L3 q q))⟩;obtain⟨h1,_,u,h3,ld⟩:=FT r hb;cases q:vX F H b with
  | Θ=>rfl
  | Ε w=>
   obtain⟨⟨xs,Β⟩,z⟩:=z16 q h1;rw[h3] at z;show L6;exact BHK
theorem SR.frzA(R:GU)(h1:APx)(h2:AEt)(h3:í)(ha:AFe):km Aoq H:=by
 show Ee s1 s2 z11 R.g h1 h2;refine R.frzM s1 s2 BVD;by_cases hb:b=a
 ·subst hb;exact⟨h3,ha⟩
 ·show BBe
theorem Rh(e1:AFX):σ.set i o=σ:=by
 show C5 hl e2 xI e1;rw[<- e2];simp
theorem SR.less(R:GU)(e:AY8)(e1:AFX)(h:ό):AHd ă a:=fun j q=>by
 have q' :pJ ă (Â o) j a:=BZO
 rcases Xm q' with ⟨_,z⟩ | ⟨n,z⟩
 ·exact z
 ·exact n (R.ap j i a z ⟨s,o,e,e1,h⟩)
theorem SR.dropAt(R:GU)(e1:AFX):fT F H ă:=by
 have q:=R.drop i o;rw[Rh e1] at q;exact q
theorem SR.frz(R:GU)(e:r_ Ă):∃a F',AZF/\FV /\fT F' H (ō Aki)/\AMf ANb EV:=by
 obtain⟨o,e1,a,vs,Β,h1,h2,h3,r⟩:=AQf;obtain⟨s1,_⟩:=z11 R.g h1 h2;have rp:Rep K Aoq ANb EV:=JO (VA a AFO (r.up s1))
 have R2:=((AeC e1).frzA h1 h2 h3 (ALr e e1 BDy)).set i rp;show A'8;exact⟨a,_,e1,s1,R2,rp⟩
theorem SR.wrO(R:GU)(e:AY8)(e1:AFX)(h:ό)(r:qG K F AQu H0 t o)(ht:L4 (gW t o b) (gW s o b)):
  fT F AQu (ō t):=by
 obtain⟨o',e2,r0⟩:=AQf;rw[e1] at e2;show i8;obtain⟨h2,h3,w,h1,_⟩:=FT r0 h;have hi:i<ATd:=Pl e;have R1:fT F AQu ă:=by
  have R0:=AeC e1;refine Bgi ut
  ·show qh q h2;exact R0.g b u q
  ·show qh q h3;exact R0.gr.h b u q
  ·show BPN;show AqI BAd NV (by subst z;exact ALr e e1 h j BDO) q'
 have R2:=R1.put i r (FM (ALr e e1 (ht b hb)));rw[Rh e1,AtO] at R2;exact R2
theorem SR.wr(R:GU)(e:r_ Ă)(e1:AZF)(r:A6c):
  fT F (ANC (E3 us)) (ō (.ow es)):=by
 show X9 e2 r0 AQf;rw[e1] at e2;show i8;obtain⟨h2,h3,_⟩:=FT r0 BDy;exact R.wrO e e1 BDy ⟨a,us,Β,gQ,h2,h3,r⟩ (FM hb)
theorem SR.base(R:GU):SR K F H0 F H σ Γ:=⟨ADb R.g AG2,ABf,ei,R.ap⟩
theorem Gr.unbase(g:Aqt)(g' :Gr F H0 F' H'):Gr F0 H0 F' H' :=by
 refine AZA (g.f.trans g'.f) g'.g g'.h;cases q:F b with
 | Θ=>exact g'.n b o e q
 | Ε u=>show Am7 (g'.f _ _ q) (g.n b _ q n)
theorem SR.unbase(g:Aqt)(R:SR K F H0 F' H' DB A9):ae SR F' H' DB A9 :=⟨g.unbase R.gr,ABf,ei,R.ap⟩
#where
inductive TrY (h B:AQ) (e:Ζ) (cls:AI) (dd:OW) (fl:AI):Ι
 | mk:∀oe vs T oT ts,KK e=Ε oe ->BB (AtP=cls/\Ad'=dd/\ (A9J dd)) (AVg vs) (HR vs 1 (BQ T)) (AeD T=Θ) (BB (T≠e) (ANr T oT) BRv (HR ts 3 fl) BjY)
def Xn(B:AQ)(l:L_)(a:Ζ)(cls:AI)(dx:OW)(h:AQ):Ι:=
 ATe h/\Ajo/\BHM B l/\
  (TrY h B a cls dx BH\/∃oe vs,gI oe/\AtP=cls/\Ad'=dx/\AVg vs/\BkB 1/\ (A9J dx))
def yR(B:AQ)(l:L_)(e:Ζ)(cls:AI)(dd:OW)(fl:AI)(h:AQ):Ι:=ATe h/\AeD e=Θ/\BHM B l/\BjY
theorem yR.there(x:yR B l e cls dd fl h):∃ob,KK e=Ε ob/\ob.cls=cls:=by
 obtain⟨_,_,_,oe,_,_,_,_,he,hc,_⟩:=x;exact⟨oe,he,hc.1⟩
section
variable{M:AS3}{A:BM}{E:dO}{s:AD}{B:AQ}{BI:Env}{Ch:L_}{L a:Ζ}{cls fl:AI}{dd:OW}{Q:ý}
theorem z85(f:Kb ->Kb)(o:Obj):(BqZ f o).ABJ=Asa:=by
 unfold BqZ;split<;>rfl
theorem Va{h:AQ}{T b:Ζ}{oT o:Obj}{ts:Kb}(hT:ANr T oT)(hd:BRv)(hb:sj)(hn:∀vs,xD≠ .o_ vs):b≠T:=Tb (by
 rw[q,hT] at hb;injection hb with hb;subst hb;exact hn ts hd)
theorem BR{l:L_}(x:yR B l a cls dd fl A6)(hQ:AyE (yR B l a cls dd BH h')):ua (setFlight EV Θ):=by
 obtain⟨f1,f2,f3,oe,vs,T,oT,ts,he,hk,hd,h1,hB,hne,hT,hdT,h3⟩:=x;have far:BZC (s.heap.update T (Obj.mapFields (·.setIfInBounds 3 ((none:Option Addr).elim Value.none fun f=>rawInt f)))):=FM AoV;have hz:3<ts.size:=AYC h3;refine A'm;show DF A0
 refine ALs hT hdT hz (hQ _ ⟨OF o q,f2,f3.of_keeps (A4L ?_),oe,vs,T,_,_,(far a A1G).EC he,hk,hd,h1,hB,hne,Blu hT hdT,AeE hdT _,DT hz⟩ (bP q (CI o.slots)))
 ·exact BT' (f1 b o q)
 ·exact A5X q
 ·exact A5X q
theorem Ji{oe:Obj}{vs:Kb}{head:AI}{more:AN}(hfr:AiZ AEU)(hl:BGD B AEU)(hf:A8P)(he:Hk M_ oe)(hkb:ATe A6)(hen:Ajo)
  (hd:AVg vs) (hz:1<vs.size) (h2:AWS\/Ad'≠Θ) (hQ:BXV AtP Ad'):
  ua (do let x<- frameOf BI;let pl<- entryPlaceOf L more;let b<- EntryCells.newEntry head x BH (ADf L) BH pl;AeF EV 1 b):=by
 have nf:a∉ (AEU).BGB (·.frame):=fun hm=>by
  obtain⟨_,o,ho,hn⟩:=hl.mem hm;rw[he] at ho;injection ho with ho;subst ho;exact hn vs hd
 refine z6 (wpAny_frameOf_fun hfr hl hf (CA h1 k1));show BD (z6 (wpAny_entryPlaceOf (CA pl hp))) (BmP (L2 hp.sizeOk5 _));have e1:Hk ġ oe:=(k1.2.1 a nf).EC he;have b1:ATe h1:=Pp o (AHj k1.2.1 (fun hm=>(AQy (hl.mem hm).1)) (hkb b o q))
 refine ALs A0i hd hz (hQ _ ?_ ?_)
 all_goals
  have ne:ALt≠a:=ALN (zG e1);have d3:=AeE hd (·.setIfInBounds 1 (Value.ref h1.objs.size));have far:cy NV (LM ġ) (LM ((h1.push {cls:= .type "traceback",dict:=none,data:= .fields ([head,.ref L,.none,rawInt L,.none]++ (if pl.isEmpty then List.replicate 6 Value.none else pl)).toArray}).update a (Obj.mapFields (·.setIfInBounds 1 (Value.ref h1.objs.size)))).IN):=
   fun b o hb q=>(CL AoV AMs)
 ·refine⟨Pp o (far b o (FG (Ahv hen)) (b1 b o q)),hen,hl.of_keeps (bP q ?_),?_⟩
  ·show Ee sl k k1.2.2 b o q;exact OP BeK
  ·exact⟨_,_,ALt,_,_,Bln A0i d3,⟨Bqa _ _,z85 _ _,h2.imp (FG (lh Array.getElem?_setIfInBounds_ne Χ z)) id⟩,d3,DT hz,b1.fresh,ne,
    (ANv (re ne)).EC (z9 h1 Β),Β,by first | (simp;done) | (rcases hp with Β | ⟨_,_,_,_,_,_,_,Β⟩<;>simp)⟩
 ·intro b o q n;show Ee sl k k1.2.2 b o q;exact⟨sl,BeK⟩
theorem zu5(hfr:AiZ AEU)(hf:A8P)(x:Xn B AEU a cls dx A6)
  (hQ:BXV cls dx):ua (AeG EV BI):=by
 obtain⟨f1,f2,f3,⟨oe,vs,T,oT,ts,he,⟨Β,Β,h2⟩,hd,h1,hB,hne,hT,hdT,h3⟩ | ⟨oe,vs,he,Β,Β,hd,h1,h2⟩⟩:=x
 ·unfold AeG;simp only [hf];refine A'm;show DF A0
  refine z6 (Adu hT hdT h3 ?_);show BN (IB Z3)
  refine z6 (ALs hT hdT (AYC h3) ?_);have far:BZC (s.heap.update T (Obj.mapFields (·.setIfInBounds 3 Value.none))):=FM AoV;refine Ji (s:=am (AGw T (Obj.mapFields (·.setIfInBounds 3 Value.none)))) hfr (f3.of_keeps (A4L ((far b Bmi).EC q))) hf ((far a A1G).EC he) (Pp o (BT' (f1 b o q))) f2 hd (AYC h1) h2 (md w up)
  exact hQ h' w (bP q (up b o (A5X q) n))
 ·unfold AeG;simp only [hf];refine A'm;show dS
  exact Ji hfr f3 hf he f1 f2 hd (AYC h1) h2 fun h' w up=>hQ h' w up
theorem yak(hfr:AiZ AEU)(hf:A8P)(x:Xn B AEU a cls dx A6)
  (hQ:AyE (Xn B Ch a cls dx h')):ua (leaving BI EV):=by
 refine z6 (zu5 hfr hf x fun h1 w up=>BR (s:=am h1) w (At h2 w2 up2));obtain⟨k1,k2,⟨_,_,k3⟩,k4⟩:=w2;exact hQ h2 ⟨k1,k2,k3,.DV k4⟩ (up.trans up2)
#where
inductive Xo (P:A2) (w:An) (Ch:L_) (H:Hp) (s:AD) (E:XK) (e:AI) (s' :AD):Ι
 | mk:∀a C H' B dx,e= .As a ->BB AZp AN' (Anr A1i) BZ5 (BB (Xn B Ch a C dx j_) (cy mB (b∉frs Ch) AVn) (A5V) Aao (Aap Xo))
def fD(P:A2)(w:An):Ln:=fun Ch H s E e s' =>(Aap Xo)
theorem fD.imp(h:Aap fD)(k:∀C dx H',Aao ->E' C dx H'):fD P w Ch H s E' e s' :=by
 obtain⟨a,C,H',B,dx,h1,h2,h3,h4,h5,h6,h7,h8,h9⟩:=h;exact⟨a,C,H',B,dx,h1,h2,h3,h4,h5,h6,h7,h8,k _ _ _ h9⟩
section
variable{X:Cx}{Ν:dX}{σ:St}{H H' :Hp}{s s' :AD}{B:AQ}{h' :AQ}
theorem z96(D7:AmO)(b1:A7u)(b2:A1s)(vL:A5V):AmN :=fun b u e=>
 ANm D7 e (fun c v hc q=>by
  have:∃o',AeD c=Ε o' :=by
   rcases hc with Β | hc
   ·exact vL _ _ e
   ·exact vL _ _ hc
  show AAL Ρ;have z:=b1 c o' e';rw[q] at z;show L6;exact b2 c _ e') Avs ß
theorem ygc(I:AW)(hex:AQg)(os:AZp)(Hb:AN')(un:Anr ADp)(D7:AmO)(b1:A7u)(b2:A1s)
  (inB:cy mB (b∉ib) AVn) (up:BLO):
  Un js [] ASx H' X.s₀.heap h' /\BUJ :=by
 have I' :AJ9 :=Bim
 have hb:=I'.base;rw[hex] at hb;have hb0:=I.base;rw[hex] at hb0;have Vb:BUJ :=bP e (by
  obtain⟨o1,e1⟩:=hb0.there b o e A0
  refine inB b o1 e1 vk;rcases A_3 z with z | z
  ·exact Zl (zM (zG e) ALA) A9v
  ·exact n z)
 refine⟨⟨Auy hf,Auy hf,fun b o e n hx=>hb.free b o e n hx,Ahx,hb.tups,hb.mK,hb.o9⟩,Vb⟩
 ·have e1:=hb.keep b o e n hf A0
  show AAL (Vb b o e hf);have z:=b1 b o' e';rw[e1] at z;show L6;exact b2 b _ e'
 ·show AgN (hb.slot b o e n hf A0)
  show Ap5 BNy;rw[e] at e2;show i8;obtain⟨sl',e3⟩:=up b _ e1 nf;exact⟨sl',e3⟩
 ·by_cases hf:A0G
  ·show AgN (hb.slot b o e (BGE b hf) hf A0)
   show Ap5 BNy;rw[e] at e2;show i8;obtain⟨sl',e3⟩:=up b _ e1 nf;exact FF e3
  ·show AAL (Vb b o e hf);exact⟨o',b2 b o' e'⟩
theorem Vc(I:AW)(hex:AQg)(hst:Aqf)(hfr:Aay)
  (h:A'G E):Ã (leaving BO e) (JP s'' (fD GE X.w ABL ASx X.s₀ E e s'')) Eb s' :=by
 obtain⟨a,C,H',B,dx,Β,os,Hb,un,D7,FW,inB,vL,hE⟩:=h;refine yak (ϒ I.ok.frames hst) hfr (U' hst FW) (md Ri up)
 obtain⟨un',Vb⟩:=ygc I hex os Hb un D7 FW.1 Ri.1 inB up;exact⟨a,C,H',B,dx,Β,os.trans I.os,Hb,un',z96 D7 FW.1 Ri.1 vL,Ri,Vb,vL,hE⟩
theorem BHN(I:AW)(hex:AQg)(os:AZp)(Hb:AN')(un:Anr ADp)(D7:AmO)(b1:A7u)(b2:A1s)
  (inB:cy mB (b∉ib) AVn) (vL:A5V) (up:BLO):ACd (AHS s' h' t'):=by
 have I' :AJ9 :=Bim
 obtain⟨un',Vb⟩:=ygc I hex os Hb un D7 b1 b2 inB up;have cl:∀{c v},s'.heap.IsCell c v ->A2j:=fun{c v} (AEy hd)=>by
  show hG sl (up c o ho (fun vs z=>(BkK hd)))
  exact ET e hd
 refine⟨xF,I'.os,Hb,CL hex un',?_,ARL,I'.free,I'.freeC,ic,z96 D7 b1 b2 vL,AGj⟩
 ·obtain⟨m,hn,hl⟩:=I'.loc;show Bjt ⟨m,up.ns hn,Bc6⟩ (cl z)
 ·show Ee v z I'.cell x c e;exact⟨v,cl z⟩
 ·show ASQ;obtain⟨e',n',_,_,_⟩:=I'.pin p hp;refine⟨?_,n',ne,nf,d⟩;show AMe q (inB CS p.2 e (A1 (by
   rcases Cn (BGF CS z) with z | z
   ·exact ne z
   ·exact nf z)))
  have z:=b1 CS o' q;rw[e'] at z;show L6;exact b2 CS _ q
#where
def pA(AFo):Ι:=Ap' C
inductive ExN (h:AQ) (C:Ζ):Ι
 | mk:∀bm N nm qn bs PH sn CC ab col dd k0 k1 k2 k3 k5 mN,BB BO7 (h.Ns N mN) (mN K0 =Θ) (OwnTail h Avz bm) (ExN h C)
theorem ye3(BBf)(X:SI)(q:pA K C):ExN h C:=by
 unfold pA W.excIn at q;split at q
 ·show BCi;split at q
  ·rename_i C' bm k0 k1 k2 k3 n k5 hm hs;show Aym AtR Bqb q;obtain⟨⟨⟨⟨⟨Β,Β⟩,hdel⟩,ht⟩,D7⟩,hni⟩:=q;obtain⟨nm,bs,mro,ns,qn,hd,sn,CC,ab,col,del⟩:=cd;subst hm hdel;show FB (sl= #[k0,k1,k2,k3,BN8,k5]) (by
    show AE sl sl sl sl sl sl sl sl sl sl sl sl sl sl;simp only at hs;rw[hs])
   exact⟨bm,ns,nm,qn,bs,hd,sn,CC,ab,col,dd,k0,k1,k2,k3,k5,_,X _ _ ho,.of_isNs (W.isNs_of_in X D7),W.nsMap_none_of_in X D7 hni,BQ2⟩
  ·show i9
 ·show i9
inductive ExO (K:AB) (h:AQ) (C:Ζ):Ι
 | mk:∀bm N nm qn bs PH sn CC ab col dd k0 k1 k2 k3 k5,BO7 ->OwnTail h Mr bm ->BRC bm ->∀cd,W.clsIn K C=Ε cd ->Arf= NI::bm ->ExO K h C
theorem DP(BBf)(X:SI)(q:Ą):ExO K h C:=by
 unfold nZ at q;split at q
 ·show BCi;split at q
  ·rename_i C' bm k0 k1 k2 k3 n k5 hm hs;show Aym AtR Bqb q;obtain⟨⟨⟨Β,Β⟩,hdel⟩,ht⟩:=q;have hcl:W.clsIn K C' =Ε cd:=by unfold W.clsIn;rw[ho]
   have hm0:=hm;obtain⟨nm,bs,mro,ns,qn,hd,sn,CC,ab,col,del⟩:=cd;subst hm hdel;show FB (sl= #[k0,k1,k2,k3,BN8,k5]) (by
    show AE sl sl sl sl sl sl sl sl sl sl sl sl sl sl;simp only at hs;rw[hs])
   exact⟨bm,ns,nm,qn,bs,hd,sn,CC,ab,col,dd,k0,k1,k2,k3,k5,X _ _ ho,BQ2,ht,_,hcl,hm0⟩
  ·show i9
 ·show i9
def mL(AFo):Ι:=Ą
theorem pA.k{K:AB}{C:Ζ}(q:pA K C):Ahi:=by
 unfold pA W.excIn at q;unfold mL nZ;split at q
 ·show BCi;rw[ho];split at q
  ·rename_i C' bm k0 k1 k2 k3 n k5 hm hs;simp only [kK] at q;obtain⟨⟨⟨⟨⟨q1,q2⟩,q3⟩,q4⟩,_⟩,_⟩:=q;simp only [hm,hs,q1,q2,q3,q4,Bool.and_self]
  ·show i9
 ·show i9
section
variable{X:Cx}{Ν:dX}{σ:St}{H:Hp}{s:AD}
theorem yh4(hl:BHM DI l)(hm:Heap.MadeExcOf h h1 a JU vs):Xn (AdM h (frs l)) l a JU Θ h1:=by
 obtain⟨t,he,_,_⟩:=hm.there;refine⟨fun b o q=>AtS b o BQa,?_,?_,BAa he APm⟩
 ·cases q:BMr (frs l) a with
  | Θ=>rfl
  | Ε o=>
   have z:=BLh;rw[hm.new] at z;show L6
 ·have k:=BHQ (as:=frs l) hl fun BI he a ha=>(BMd BI he ha);exact k.of_keeps fun b o e _=>⟨o,AtS b o e,Β⟩
theorem yey{x:Μ}{C:Ζ}(Bno){e:AJ}{es:DA}{t:TA}{Q:Aj8}{E:XK}(hg:J_)(hm:AKI)(hC:pA AG C)(ha:Aly)(hh:Fs)
  (I:AW) (h:t σ H (Ń vs (D6 MG/\Bdh)))
  (px:∀H1 s1 e s',AJY s1 ->fD GE X.w M3 H1 s1 (fun C' dx H' =>C' = .As C/\dx=Θ/\H' =H1/\Bdh) e s' ->A6n)
  (hd:Fr:=by decide) (Akv):
  AHa (exec Ax' BO) Q:=by
 obtain⟨bm,N,nm,qn,bs,PH,sn,CC,ab,col,dd,k0,k1,k2,k3,k5,mN,e1,e2,e3,e4⟩:=ye3 I.mod.Jc hC;refine PV (PV (PV (PV wpAny_Raise_call_subT C C nm nm q qn N N) bs bs bm bm PH PH sn sn) CC CC ab ab col col dd dd) k0 k0 k1 k1 k2 k2 k3 k3 (k5:=k5)
  BHR (mN:=mN) (e4.hasType BHS) BQB ?_ e3 (GK I hg hm ϰ hd)
 ·rw[he];show MO (false || (backTo cpos (starEach es X.env)).any (·.1))
  rw[EE];rfl
 ·have Ap:=ha GW Ν s σ H _ I h;rw[he] at Ap⊢;refine A6Y Ap (fun us s2 ⟨vs,H1,I1,r,z,q⟩=>⟨Β,BnI,I1.bk _ _ e1,e2.keeps I1.bk,e4.keeps I1.bk,md a hm⟩) Aa5
  refine px H1 s2 _ _ I1 ⟨a,NI,H1,AdM Ade (frs M3),Θ,Β,Β,I1.bare,ASs AtS,I1.hok.kept AtS,yh4 I1.stack hm,bP e (BKz e n),Kj,Β,Β,Β,q⟩;obtain⟨o,eo⟩:∃o,LM AeH:=by
   have k:=I1.hok b u e;cases u with
   | B_ xs=>show Ayg k;exact FF e
   | DZ xs=>obtain⟨_,_,_,o,e,_⟩:=k;exact FF e
   | dK AH=>show Ao5
   | dT AH=>show Ao5
   | set S n=>show AVS o k;exact FF e
   | ins C dx fs=>show Ayi k;exact FF e
   | BA y=>exact k
   | xd fs=>show Ayj k;exact FF e
   | rng lo hi=>show Ayh k;exact FF e
   | frz ob u=>obtain⟨e,_⟩:=k;exact FF e
   | Ms ps=>show BNn
   | met f y=>show BNn
   | ext φ=>obtain⟨_,e,_⟩:=k;exact e
  refine BKz eo vk;show ARV (I1.stkFree b z) e
#where
abbrev G2:=Ϥ
inductive XV where
 | As (C:Ζ) | any (C:Ζ) | pay (BXN)
def XV.cls:XV ->Ζ
 | NI=>C
 | AZ9=>C
 | .pay C _ _=>C
inductive Xp (AVR) (F H H' :Hp) (dx:OW) (fs:Υ) (ts:GS):Ι
 | mk:∀p vs as,BB (dx=Ε p) (H' p=Ε BRd) AJx (F p=Θ) (BB AkE xw (bS as (zw/\NU)) (fC K F H' ts vs as) Bcb)
def Aw(AVR)(F H H' :Hp)(C:AI)(dx:OW)(x:XV):Ι:=C= .As x.cls/\match x with
 | .As _=>dx=Θ
 | .any _=>KI
 | .pay _ fs ts=>Bcb
theorem Gr.low(s:A5L)(g:Gr F H1 F' H'):tz :=⟨g.f,g.g,s.trans g.h,bP e (Ad9 s (g.n b o e n))⟩
def XV.bare:XV ->XV
 | NI=> AZ9
 | AZ9=> AZ9
 | .pay C _ _=> AZ9
theorem Aw.bare{K:AB}(h:BR7):Aw K F1 H1 H2 C d1 AtT:=by
 have h:=EJ;show AEd x x x x x x x x x x x x x x ⟨h,Sj⟩
def MJ(K:AB)(F H:Hp)(Ex:F6 XV)(E:XK):Ι:=∀x C dx F' H',Ex x ->tz ->BR8 H ->Aao
theorem Aw.back(AgU)(s:vj H1)(h:BR7):Aw K F H1 H' C dx x:=by
 refine CI EJ;have h:=h.2;cases x with
 | As _=>exact h
 | any _=>trivial
 | pay c fs ds=>
  obtain⟨p,vs,as,e1,e2,e3,e4,e5,nd,e6,e7⟩:=h;exact⟨p,vs,as,e1,e2,e3,e4,s.free e5,nd,Ü (W' e6) (s.free (lS e6)),e7⟩
abbrev XW:=D3 G2 XV
abbrev cu:=ASE D
abbrev cW:=ASE AU
abbrev TT2:=ASE AN
inductive TW where
 | EF (t:T) | tp (ts:GS)
def TRR(BBo):TW ->D3 V B5
 | .EF t,v,as=>AIx
 | .tp ts,v,as=>∃p us,v= .As p/\F p=Ε (KP us)/\AfN ts us
def MK(Q:AXw):F6 TW
 | .EF t=>Q t
 | .tp _=>EM
structure rZ where
 nx:AhT
 rt:APb
 bk:AhT:=se
 ct:AhT:=se
 rf:APb:=se
 rT:F6 TW:=se
 rm:A1u:=Ŋ
abbrev aH:=rZ ->D3 G2 XW
open xx in
noncomputable def j8 (F0 F:Hp):Hp:=dP (AhQ BYZ (F b))
theorem zx3:LG A4i F:=NO (by
 show Tl j8;split at e
 ·show Ē
 ·exact e)
theorem zpg(h:∀u,oP ->F0 b≠Ε u):j8 F0 F b=F b:=AYR j8 (fun hz=>by obtain⟨w,hw,q⟩:=hz;exact h w hw q)
theorem z2f(e:Bc4):∀w,LD w ->F0 b≠Ε w:=A'I (by
 show Tl j8;rw[C9 ⟨w,hw,q⟩] at e;show C6)
theorem z4q(s:LG F0 F1):LG (j8 F1 F) A4i:=NO (by
 rw[zpg (A'I (z2f e w hw (s _ _ q)))];exact zx3 _ _ e)
theorem z9c(s:LG F0 F):gy F (oP\/Bc4):=NO (by
 by_cases h:BYZ
 ·show Th w hw q;have:=s _ _ q;rw[e] at Ρ;show L9;exact NS hw
 ·show HL (by rw[zpg (A'I (h ⟨w,hw,q⟩))];exact e))
section
variable(K:AB)(F0 H0:Hp)
inductive UpE (t:cu) (E:XW) (σ:St) (H:Hp) (Q:VK):Ι
 | mk:Bf0 u7 UpE
def Jj(t:cu)(E:XW):TE:=AFi UpE
inductive UpT (t:TT2) (E:XW) (σ:St) (H:Hp) (Q:AJq):Ι
 | mk:AWW (∀b A9 F' H',AH' ->FV ->P b A9 ->Q b H') UpT
def Xq(t:TT2)(E:XW):TT:=AFi UpT
inductive UpA (t:cW) (E:XW) (σ:St) (H:Hp) (Q:AP0):Ι
 | mk:Bf1 AIp UpA
def Vd(AZV):TA:=AFi UpA
inductive UpF (t:cW) (E:XW) (σ:St) (H:Hp) (Q:VK):Ι
 | mk:AWW (∀ds A9 F' H' a vs,BB AH' FV (Hk H' XG) sv (BB í AIp (AHd A9 a) (P ds A9) (Q EV H'))) UpF
def upF(AZV):TE:=AFi UpF
structure yF (F:Hp) (D2:rZ) (D:j'):Ι where
 nx:BEK ABg Afl
 bk:BEK D2.bk (D.bk σ H)
 ct:BEK D2.ct (D.ct σ H)
 rt:Bf4 u7 D2.rt
 rf:Bf4 BW1 D2.rf
 rT:∀t v as F' H,Bny ->BB xw (AMx (sv/\í)) (TRR K F' H t v as) (D2.rT t) Axg
 rm:∀d v Γ F' H σ,AwB ->u7 ->D2.rm d Γ ->Axg
inductive UpS (t:aH) (E:XW) (D:j') (σ:St) (H:Hp):Ι
 | mk:∀F Γ D2,AfO ->(t D2 Γ E) ->(ae yF F D2 D) ->UpS t E D σ H
def upS(t:aH)(E:XW):TS:=A_K (UpS K F0 H0 t E D σ H)
#where
theorem yF.mono(AgU){F0 H0 F F' :Hp}{D2:rZ}{D:j'}(k:An9 F)(s:FV):An9 F':=
 AKm (BEe k.nx) (BEe k.bk) (BEe k.ct)
structure O2 where
 xe:dO
 pn:dX
abbrev _root_._2.Cx.wsh(X:Cx)(z:O2):Cx:={X with xe:=e9,pn:=z.pn}
structure Ctx (VM) (E:XW):Ι where
 pX:∀Ν σ Γ F H s e s',AW ->AGK ->A'G BgU ->A6n
 pq:∀A' A'',AtU A' X.A ->PassesOwnAt kg A' A'' BO xL
theorem Ctx.po(cx:BCQ):BDI:=cx.pq _ _ (SameStack.refl _)
theorem Ctx.px(cx:BCQ)(Ν:dX)(σ:St)(Γ:G2)(F H:Hp)(s:AD)(e:AI)(s' :AD)(I:AW)(R:AGK)(hx:A'G (AhM AVi tz H)):A6n :=
 cx.pX Ν σ Γ F H s e s' I R (hx.imp (AKV H' hz (by obtain⟨x,F',h1,h2,h3⟩:=hz;exact⟨Γ,F',x,ALu h2,h2.f,h3,Azo AeI,h1⟩)))
def QE(VM)(e:AJ)(t:cu):Ι:=AZ1 Jj
def QF(VM)(e:AJ)(t:cW):Ι:=AZ1 upF
def QT(VM)(e:AJ)(t:TT2):Ι:=Ũ PT e Xq
def QW(VM)(e:AJ)(t:TT2):Ι:=Ũ PW e Xq
def QA(BWd):Ι:=Ũ PA es Vd
def QS(VM)(st:AT)(t:aH):Ι:=Ũ PS st upS
def rM(VM)(st:Tm)(t:aH):Ι:=Ũ Ik st upS
section
variable{X:Cx}{e:AJ}{es:DA}{st:AT}{sts:Tm}
theorem m9(h:PE X e t)(hi:∀σ H Q,t' σ H Q ->ä):PE X e t' :=A_w
theorem O3(h:PT X e t)(hi:∀σ H Q,t' σ H Q ->ä):PT X e t' :=A_w
theorem pwC(h:PW X e t)(hi:∀σ H Q,t' σ H Q ->ä):PW X e t' :=Bjs w w
theorem paC(h:Alx)(hi:∀σ H Q,t' σ H Q ->ä):PA X es t' :=Bjs p p
theorem vo(h:A8z)(hi:∀D σ H,t' D σ H ->t D σ H):PS X st t' :=AhO D D
theorem Xr(h:Ik X sts t)(hi:∀D σ H,t' D σ H ->t D σ H):Ik X sts t' :=AhO D D
#where
section
variable{X:Cx}{F0 H0:Hp}{a b c e:AJ}{es:DA}{AA:AS}{ta tb tc te:cu}
def cC(d:D):cu:=AQt d
theorem Xu(h:∀z,PE JS e (tC v))(r:∀F,Rep AG F d v):D_ e (cC d):=fun z E cx=>
 m9 (h z) (BMU (k _ _ _ _ _ R JY (r F)))
theorem aR{i j AA}:Ao' ϫ (UM i):=ApJ yol
theorem Rj{i j AA}:Ao' (Á i) (cC (.bl i)):=ApJ ypm
theorem Xv{j AA}:Ao' BH AOX:=ApJ ymb
theorem DQ{x j AA}:Ao' AJv (cC AJv):=ApJ yoj
def cV(AQa):cu:=AUs (æ Γ[i]? (Ε AY2) (P d Γ) (Ε Ă) (P ANb (ō Aki)))
theorem ynd(BDj):D_ vt (cV i):=fun z E cx=>
 m9 dC (Wp B2 (by
  show U1 B2;show Dx cV;show Of
  ·rename_i d e;obtain⟨o,e1,v,Β,r⟩:=AQf;exact⟨v,e1,BCZ r⟩
  ·rename_i ds e;obtain⟨a,F',e1,s1,R',r⟩:=R.frz e;exact⟨EO,e1,k _ _ F' H _ R' s1 r h⟩
  ·show HA))
inductive Xw (K:AB) (g:HM) (x:V) (y:V) (H:Hp) (Q:VK):Ι
 | mk:∀F d1 d2 P,AOD ->G_ (Rep K F d1 x) (Rep K F d2 y) (g d1 d2 P) BjJ Biu
def sy(K:AB)(g:HM):R2:=AJH Biu
def cB(g:HM)(ta tb:cu):cu:=We ta d1 (ώ tb d2 (g d1 d2 fun d=>P d A7))
theorem yb8{K:AB}{g:HM}{E:XW}{σ:St}{H:Hp}{Q:VK}(h:Jj K F0 H0 A5p E σ H Q):WW (sy K g) (AaD ta) (AaD tb) σ H Q:=by
 show U1 h;refine ARm ⟨F2,d1,d2,_,ABh,A2c,r2,h2,fun d z F' H' gr rz hp=> ?_⟩;exact k d A7 F' H' z BLR (Af_ NA) rz hp
theorem bM(ho:∀z,jR JS (Asr op) AV8)(ha:X2)(hb:Ŷ):D_ BPL A5p:=fun z E cx=>
 m9 (ymu (ho z) FY Mc) (w4 yb8)
theorem GR(BcI):D_ AaM A5p:=fun z E cx=>
 m9 (yjs (ho z) FY Mc hm) (w4 yb8)
def cT(t:cu):TT2:=AHQ Γ P t d A9 (BRZ c)
theorem ylh{K:AB}{E:XW}{σ:St}{H:Hp}{Q:AJq}(h:Xq K F0 H0 (cT te) E σ H Q):Jj K F0 H0 te E σ H fun x H' =>(AbI (Q c H')) :=by
 show U1 h;refine ki (fun d A9 F' H' v R' s' r q=> ?_);cases d with
 | bl c=>
  exact⟨c,r,k c A9 F' H' R' s' q⟩
 | _=>show sg
theorem sE(BcI):iF AaM (VY g ta tb):=fun z E cx=>
 O3 (yjh (ho z) FY Mc hm) (Bd3 yb8)
theorem Ax(h:VT)(he:∀AGl,AsT e BO AGl=(do let v<- AGl;AdW e.pos;xN [v] (truthy v)):=by intro _;rfl):lf QT (cT te):=fun z E cx=>
 O3 (EH ymv io he) (w4 ylh)
def jw(t u:TT2):TT2:=Anm (ID c (u A9 P E) (P AC A9))
def uT(t u:TT2):TT2:=Anm (ID c (P Κ A9) (u A9 P E))
def gq(t:TT2):TT2:=Anm (P (! c) A9)
variable{F_:DA}{tA Mt :TT2}
theorem z0m(A2d):GH QW (Afk [a]) tA:=AX6 ykn FY
theorem z5x(A2d):GH QW BLj tA:=AX6 ymm FY
theorem ya7(ha:iF a tA)(hb:GH QW Ali Mt):GH QW Alj (jw tA Mt):=fun z E cx=>
 pwC (ylx FY Mc) (LX DR DR (Ab0 (by
  cases c with
  | Κ=>
   exact AnE (fun b A7 F2 H2 R2 s2 p=>(Anw Bck))
  | AC=>
   exact Apd q)))
theorem yi6(ha:iF a tA)(hb:GH QW Alk Mt):GH QW Alm (uT tA Mt):=fun z E cx=>
 pwC (ypb FY Mc) (LX Ay Ay (Ab0 (by
  cases c with
  | Κ=>
   exact Apd q
  | AC=>
   exact AnE (fun b A7 F2 H2 R2 s2 p=>(Anw Bck)))))
theorem GX(h:lf QW tA):lf QT tA:=fun z E cx=>(io).pt
theorem G3(A2d):iF An2 (gq tA):=fun z E cx=>
 O3 (ym1 FY) (LX Io Io (Ab0 (á R1 s1 q)))
def eU(ta tb:cu):cu:=A_I (æ d Az4 A_P (.bl AC) (P AIU A9))
def jU(ta tb:cu):cu:=A_I (æ d (.bl AC) A_P (.bl Κ) (P AYU A9))
def fZ(ta:cu):cu:=A_I (BRZ (.bl (! c)))
theorem Xx{op}(h:X2):D_ (.AS8 op [a] AA) ta:=AX6 ynu io
theorem z1x(ha:X2)(hb:D_ Ali tb):D_ Alj (eU ta tb):=fun z E cx=>
 m9 (yoi FY Mc) (LX Rk Rk (AbE (by
  cases d with
  | bl c=>
   refine DM c r;cases c with
   | Κ=>show XY;exact⟨F1,AF,P,R1,q,Aq'⟩
   | AC=>show AjO;exact A7h R1 s1 q
  | _=>show sg)))
theorem yo6(ha:X2)(hb:D_ Alk tb):D_ Alm (jU ta tb):=fun z E cx=>
 m9 (ypi FY Mc) (LX BL BL (AbE (by
  cases d with
  | bl c=>
   refine DM c r;cases c with
   | AC=>show AjO;exact⟨F1,AF,P,R1,q,Aq'⟩
   | Κ=>show XY;exact A7h R1 s1 q
  | _=>show sg)))
theorem ym5(ha:X2):D_ An2 (fZ ta):=fun z E cx=>
 m9 (yme FY) (LX Wz Wz (AbE (by
  cases d with
  | bl c=>
   exact⟨c,r,BBi q⟩
  | _=>show sg)))
def sG(t:TT2)(ta tb:cu):cu:=Anm (ID c (ta A9 P E) A_P)
theorem Xy(hc:iF c tA)(ha:X2)(hb:Ŷ):D_ BPQ (sG tA ta tb):=fun z E cx=>
 m9 (yed AX0 FY Mc) (LX QL QL (Ab0 (by
  cases c with
  | Κ=>show Ô E2 q (AnE Aq')
  | AC=>show Ô dQ q (AnE Aq'))))
def ak:cW:=AQt []
def aj(t:cu)(u:cW):cW:=We t d (ώ u ds (P AkQ A7))
theorem aN:GH QA [] ak:=fun z E cx=>paC U5 (Wp Jk (by show U1 Jk;exact A7h R JY h))
theorem aA(ha:VT)(hr:GH QA es tr)(hs:AGN:=by rfl):GH QA IQ (aj te tr):=AWt paC Mv FY (PR hr) hs (BeA (AMM d v1 (AUm h1 (fun ds A7 F2 H2 vs R2 s2 r2 h2=>á _ R2 sL (qF (ABi s2) r2) h2))))
def dU(tS):cu:=dq (AZC (FX (KP ds)))
theorem yd{x1}(h:AMN es):D_ (.AGn es x1 AA) (dU t):=fun z E cx=>
 m9 (ygt io) (LX Dz Dz (BRj ii (ï (by
  have gr:=ALo (o:=AeK vs) JI hp;refine á _ AOr (AHb NA) ?_ ϐ;exact VA p AFO (ABi NA)))))
def eO(tS):cW:=dq (AZC (FX ds))
theorem Ip(oS){σ:St}{Γ:G2}{p:Ζ}{vs:AV}{ds:AU}(R:GU)(hp:AkE)(r:MZ):
  km F (ko H p XG)/\ (ko H p XG) p=Ε XG/\F p=Θ/\H0 p=Θ/\AMo p:=by
 refine⟨?_,gQ,BHT hp,R.gr.h.free hp,AeI hp⟩;refine ALu (ADb Kj Kj)
 ·show qh (R.g b u e) hp;show r9 R.g
 ·show Î hp;exact e
theorem Az{t:cW}(h:AMN es):AH3 BSu (eO t):=fun z E cx=>
 m9 (ylv io) (LX Jg Jg (BRj ii (ï (by
  obtain⟨R2,e1,e2,e3,ap⟩:=Ip R1 hp r1;exact k ds AF F1 _ p vs R2 s1 e1 e2 e3 r1 ap ϐ))))
def dN(tS):cu:=dq (FX ANb)
theorem iJ(h:ACJ QF e):D_ e (dN t):=fun z E cx=>
 m9 io (LX Jh Jh (BEs (by
  obtain⟨s2,_⟩:=z11 JI e1 e2;refine á _ (R1.frzA e1 e2 e3 ap) sL ?_ h1;exact VA a AFO A2c)))
variable{st:AT}{sts:Tm}{t u:aH}
def bh:aH:=fun D Γ _=>WJ Γ
def aF(t u:aH):aH:=fun D Γ E=>t {D with nx:=fun A9 =>u D A9 E} Γ E
theorem qH:GH rM [] bh:=fun z E cx=>Xr yhy (qk D abt (by obtain⟨F,Γ,D2,R,h,k⟩:=abt;exact AEI R JY h))
theorem bT(h1:ACJ QS st)(h2:GH rM sts u):GH rM (st::sts) (aF t u):=fun z E cx=>
 Xr (zop AzP (PR h2)) (iq abu abu (ki (AKm (fun A9 F' H' DB R' s' q=>⟨F',A9,D2,R',q,k.mono s'⟩) k.bk k.ct)))
theorem bO(h1:ACJ QS st):ACJ rM [st]:=AX6 zvd AzP
def fG(we):aH:=fun D Γ E=>te Γ (JP AF (WJ AF)) E
theorem z98(he:VT)(hs:AKk Θ:=by rfl):ay (.AJ e AA) (fG te):=fun z E cx=>
 vo (EH zzl TZ hs) (iq abv abv (mo (Op R1 s1 h1)))
def aV(we):aH:=AHQ D Γ te d _ (D.rt d)
theorem fL(he:VT):BVA (aV te):=fun z E cx=>
 vo (ygu TZ) (iq abw abw (mo (L2 k.rt R1.gr r1 h1)))
def gK:aH:=fun D _ _=>D.rt BS
def cM(c:TT2)(t u:aH):aH:=š c b (ID b (t D AF E) (u D AF E))
theorem qI(hc:iF c tA)(ha:ACJ rM x)(hb:GH rM y u):ay (.If c x y AA) (cM tA t u):=fun z E cx=>
 vo (ypf AX0 FY Mc) (iq abx abx (Ab0 (by
  cases c with
  | Κ=>show Ô E2 q BTm
  | AC=>show Ô dQ q BTm)))
def aW(i:Δ)(te:cu):aH:=AmH (AZw AY2)
theorem gP(hN:eJ)(hi:HV)(hx:AEH)(he:VT)(hs:AKk (DJ APj):=by rfl)
  (hf:AAg:=by show Aav):Apf aW te:=fun z E cx=>
 vo (Anf hN hi hx TZ hs hf) (iq aby aby (mo (Op (R1.set i r1) s1 h1)))
def cP(i:Δ)(t:cW):aH:=š t ds (AZw Ă)
theorem Jl(hN:eJ)(hi:HV)(hx:AEH)(he:A6k)(hs:AKk (DJ APj):=by rfl)
  (hf:AAg:=by show Aav):Apf cP tf:=fun z E cx=>
 vo (Anf hN hi hx TZ hs hf) (iq abz abz (BEs (Op (R1.setOw i e1 e2 e3 r1 ap) s1 h1)))
#where
#print _3
namespace _3
open II Os J' _2
abbrev vM:=Bch D
abbrev Ba:=Bch AU
section
variable(K:AB)(F0 H0:Hp)
inductive UpG (g:vM) (E:XW) (v:V) (σ:St) (H:Hp) (Q:TH):Ι
 | mk:∀F Γ P d,G_ AfO (Rep K F d v) (g d Γ P E) BjO (UpG g E v σ H Q)
def upG(g:vM)(E:XW):TG:=AZx (ae UpG g E v σ H Q)
inductive Xz (g:Ba) (E:XW) (vs:AV) (σ:St) (H:Hp) (Q:TH):Ι
 | mk:∀F Γ P ds,G_ AfO AwO (g ds Γ P E) BjO (Xz g E vs σ H Q)
def abA(g:Ba)(E:XW):Ov:=qk vs Q (ae Xz g E vs σ H Q)
#where
def QG(VM)(e:AJ)(g:vM):Ι:=AUP (PG JS e (ACH upG g E))
def XC(VM)(es:DA)(g:Ba):Ι:=AUP (QM JS es (ACH abA g E))
section
variable{X:Cx}{F0 H0:Hp}{e tg:AJ}{es:DA}{AA:AS}{te:cu}{g:vM}{gs:Ba}
theorem pgC(h:PG X e t)(hi:∀v σ H Q,t' v σ H Q ->t v σ H Q):PG X e t' :=Bk7
theorem XD(h:QM X es t)(hi:∀v σ H Q,t' v σ H Q ->t v σ H Q):QM X es t' :=Bk7
def Lc(AQa):vM:=fun d Γ Q _=>Q (AeA i AY2)
theorem gB(BiT)(hf:AAg:=by show Aav):GH QG vt (IR i):=fun z E cx=>
 pgC (ky yjp i i hN hi hx hf) fun v σ H Q Bi=>by obtain⟨F,Γ,P,d,R,r,h,k⟩:=Bi;exact rS k (R.set i r) JY h
def fH:Ba:=fun ds Γ Q _=>ds= []/\Q Γ
def bw(g:vM)(gs:Ba):Ba:=fun ds Γ Q E=>match ds with | d::r=>AyC d (gs r A9 Q E) | []=>EM
theorem FZ:GH XC [] fH:=fun z E cx=>XD yiu fun vs σ H Q B2=>by
 obtain⟨F,Γ,P,ds,R,r,h,k⟩:=B2;show u8 h h;exact⟨r,á R JY h⟩
theorem rN(h1:lf QG g)(h2:BUz)(hs:AbS IQ (AXy e::(ALH es BO).EL (·.2)):=by rfl):GH XC IQ (bw g gs):=AWt XD ydt AzP (PR h2) hs (fun vs σ H Q DR=>by
  obtain⟨F,Γ,P,ds,R,r,h,k⟩:=DR;cases ds with
  | C3=>show ľ
  | AX d ds=>
   show ARj;exact⟨v,us,Β,F,Γ,_,d,R,r1,h,fun AF F1 H1 σ1 R1 s1 q=>⟨F1,AF,P,ds,R1,r2.up s1,q,fun A7 F2 H2 σ2 R2 s2 p=>(Anw á)⟩⟩)
def fJ(n:Δ)(gs:Ba):vM:=fun d Γ Q E=>(al d AEv (N3=n/\gs ds Γ Q E))
theorem Ga(hc:Fs)(h:BUz)(hn:RO ALH es BO=n:=by rfl)(hst:(ALH es BO).findIdx? (·.1)=Θ:=by rfl):GH QG BT1 (fJ n gs):=fun z E cx=>
 pgC (ky ymk n n hc io hn hst) fun v σ H Q Ay=>by
  obtain⟨F,Γ,P,d,R,r,h,k⟩:=Ay;cases d with
  | DZ ds=>
   show EX a vs hq rs r;exact⟨a,vs,Β,tY R.g hq,NN mv EJ,F,Γ,P,ds,R,rs,h.2,k⟩
  | _=>show ľ
def jV(te:cu)(g:vM):aH:=AmH (g d AF WJ E)
theorem ymh(he:VT)(hg:AbN)(hs:AZB [tg] e:=by rfl)(hw:Aa9 [tg] e Θ:=by rfl)
  (h1:AbS [tg] [AXy tg]:=by rfl):AUb [tg] e (jV te g):=fun z E cx=>
 vo (BeX (PR hg) h1) (iq Io Io (mo ⟨F1,AF,_,d,R1,r1,h1,fun A7 F2 H2 σ2 R2 s2 p=>(Anw Op)⟩))
def jW(i j:Δ)(tS):aH:=š t ds (ACV [x,y] (WJ ((ı i (.pu x)).set j (.pu y))))
theorem ynw{kt k2 QX}(hc:Fs)(hN:eJ)(hi:HV)(hj:ARf)(hij:AAb)
  (hx:Auo) (hy:ApD) (ha:A0Y)
  (hw:Aa9 ASO ASI (DJ [x,y])) (hs:AZB ASO ASI:=by rfl):
  AUb ASO ASI (jW i j t):=fun z E cx=>
 vo (yno (X:=AHF) (i:=i) (j:=j) hc hN hi hj hij hx hy FY hw hs) (iq Rk Rk (Ä (by
  match ds,r1,h1 with
  | [d1,d2],r1,h1=>
   obtain⟨v1,_,Β,q1,v2,_,Β,q2,Β⟩:=r1;exact IS v1 v2 (Op ((R1.set i q1).set j q2) s1 h1)
  | [],_,h1=>show AEh
  | [_],_,h1=>show AEh
  | _::_::Db,_,h1=>show AEh)))
def DW(c:TT2)(tb:aH):aH:=fun D Γ E=>∃W:Ak',(∃m,W m Γ)/\∀m Γ,W m Γ ->
 c Γ (fun b AF=>(ID b (tb (AVA BR4 BR4) AF E) (WJ AF))) E
theorem z2x(hc:iF c tc)(hb:AbG):ay BYw (DW tc tb):=fun z E cx=>
 vo (ycn cx.po AX0 Mc) (qk D BL (by
  obtain⟨F,Γ,D2,R,⟨W,⟨m,w0⟩,T'⟩,k⟩:=BL;refine⟨fun m σ H=>∃F1 AF,kq F1 H AF/\Ţ/\W m AF,⟨m,F,Γ,R,lP,w0⟩,qk m ED ?_⟩;obtain⟨F1,AF,R1,s1,w1⟩:=ED;refine AUm (T' m AF w1) (fun b A7 F2 H2 R2 s2 q=> ?_);cases b with
  | Κ=>
   rw[E2] at q⊢;refine⟨fun DB H' =>(AfW (∃F3 Γ3,ACH SR F3 H' DB Γ3/\fR F3/\W m' Γ3)),fun DB H' z=>z,F2,A7,_,R2,q,AKm BkD (fun Γ3 F3 H3 σ3 R3 s3 p=>Op R3 AmL p) BkD⟩
  | AC=>
   rw[dQ] at q⊢;exact AEI R2 sL q))
def abB(K:AB)(tl:TE):TI:=BZy (AFL (nY K H1 a xs) (AbZ U3)) (AFL (vR K H1 a xs) (AbZ Q6))
theorem yn7(hl:PE X l tl):ð l (abB AG tl):=by
 show DH R;refine bV (kr hl) (n5 QL);show VZ QL;show TL a e q q1;subst e;show AE r1 r1 r1 r1 r1 r1 r1 r1 r1 r1 r1 r1 r1 r1;rcases q with ⟨⟨xs,hq⟩,q⟩ | ⟨⟨xs,hq⟩,q⟩
 ·show Aac I1.list;show BVu zyf q
 ·show Aac I1.tuple;show BD (BHV BNt ?_) ⟨D1,[D1],_,_,H1,Β,AEQ,zsr a _,nI,Kk,q⟩;show AI'
  exact AJO
def vY(ds:AU)(g:vM)(tb:aH)(D0:rZ)(E:XW)(Γ:G2):Ι:=∃I:Ak',I 0 Γ/\
 (Be5 D0 D0.nx)/\∀Γ,I N3 Γ ->D0.nx Γ
def vZ(te:cu)(g:vM)(tb:aH):aH:=AMX D0 te d (æ d AjU BEg AEv BEg)
theorem Ls(hc:Fs)(hi:AUJ Nw)(hg:AbN)(hb:AbG)(AF'):
  Aqz Nw vZ te:=fun z E cx=>
 vo (EH z2e cx.po hc (yn7 APe) (PR hg) Mc hs) (AVI Jk Jk (mo (by
  have MC:∀(ds:EK _3.D) (vs:AV),Avo ->∀I:Ak',(Be5 D2 ABg) ->
    ∀(i:Δ) x σ H,yk vs ->(Awp (I i A7)) ->upG AG F0 H0 g E x σ H (AU8 (upS AG F0 H0 tb E (AuZ Dn A'5 A'5 Dn.nx) σ2 H2)):=by
   rintro ds vs rs I T' i x σ H hx ⟨F2,A7,R2,s2,hI⟩;show DE d hd rd zwk rs hx;exact⟨F2,A7,_,d,R2,rd.up s2,T' i d A7 hd hI,fun Γ3 F3 H3 σ3 R3 s3 p=>⟨F3,Γ3,AiG D2 ABg,R3,p,AKm ArC (Av4 (Op R4 (ABj (AoO s4)) q)) ArC⟩⟩
  cases d with
  | B_ ds=>
   show BgJ (.DV (Ϧ vs AVa (yfr (xs:=vs) (BEj AvY) BDV (fun i σ H _ hz=>by obtain⟨F2,A7,R2,s2,_⟩:=hz;exact BHW (s2.seq hq)) BiC ?_)))
  | DZ ds=>
   show BgJ (.B0 (Ϧ vs A3g (ylo (xs:=vs) (BEj AvY) BDV (fun i σ H _ hz=>by obtain⟨F2,A7,R2,s2,_⟩:=hz;exact tY ABh (tY s2 hq)) BiC ?_)))
  | _=>show AEh)))
def Jm(lo:Ψ)(n:Δ)(g:vM)(tb:aH)(D0:rZ)(E:XW)(Γ:G2):Ι:=∃I:Ak',I 0 Γ/\
 (∀(i:Δ) Γ,i<n ->I i Γ ->AyC (Ev AY1) (tb (AiG D0 D0.nx) A9 E))/\∀Γ,I n Γ ->D0.nx Γ
theorem ygy{K:AB}{F1 H1:Hp}{AF:G2}{σ:St}{lo:Ψ}{n:Δ}{tb:aH}{D2:rZ}{D:j'}{E:XW}(R1:fT F1 H1 AF)(h:Jm lo n g tb D2 E AF)(k:An9 F1):
  ARZ TH (W 0 m σ H1) (∀i m σ H,AZ5 ->Aby (AqX ABQ) (AqX go) (Lk lo n).yld (ae upG g E x σ H' (AU8 (upS K F0 H0 tb E (AVA N N) σ2 H2)))):=by
 show a_ I i0 T' K_;refine z6i (lo:=lo) (n:=n) (BEj (fT F2 H A7)) BDV ?_ ?_
 ·rintro i σ H hi ⟨F2,A7,R2,s2,hI⟩;exact⟨F2,A7,_,.AL AY1,R2,MY,T' i A7 hi hI,fun Γ3 F3 H3 σ3 R3 s3 p=>⟨F3,Γ3,_,R3,p,AKm ArC (Av4 (Op R4 (AoO s4) q)) ArC⟩⟩
 ·rintro σ H ⟨F2,A7,R2,s2,hI⟩;exact AEI R2 s2 (K_ _ hI)
def sI(BO5):aH:=AMX D0 t ds (ACV [AXq] ((AIJ<=j/\j<2^62)/\Jm 0 ABS g tb D0 E AF))
theorem O4(hc:Fs)(hgl:BKT)(hm:BKO)(ha:ANz)(hg:AbN)(hb:AbG)
  (hst:BUZ:=by rfl) (hs:Afb BSw:=by intro _;rfl):Aqz BSw sI t:=fun z E cx=>
 vo (BDP (z8n hgl hm FY hst) Mc hs) (iq Jg Jg (Ä (by
  show AEc
  ·rename_i j;obtain⟨v,_,Β,Β,Β⟩:=r1;exact⟨j,Β,ii.1,ii.2,Bg7⟩
  ·show AEh)))
def Jo(BO5):aH:=AMX D0 t ds (ACV AOF ((Bg8)/\Jm i BTI g tb D0 E AF))
theorem yb0(hc:Fs)(hgl:BKT)(hm:BKO)(ha:A0Y)(hg:AbN)(hb:AbG)
  (hst:BYr:=by rfl) (hst2:BUa:=by rfl) (hs:Afb BY4:=by intro _;rfl):Aqz BY4 Jo t:=fun z E cx=>
 vo (BDP (z63 hgl hm FY hst hst2) Mc hs) (iq Jh Jh (Ä (by
  show AEc
  ·rename_i i j;obtain⟨v,_,Β,Β,v2,_,Β,Β,Β⟩:=r1;exact⟨i,j,Β,ii,Bg7⟩
  ·show AEh)))
#where
abbrev dJ:=A9g APb
inductive O5 (BEo dJ):Ι
 | mk:Bga (Bf5 u7) O5
def pB(K:AB)(sp:dJ):Sp:=Abg (APA O5)
def aq(sp:dJ)(t:cW):cu:=dq A5w
section
variable{X:Cx}{F0 H0:Hp}{e:AJ}{es:DA}{AA p:AS}{x:Μ}{f:Ζ}{fd:FS}{ps:Υ}{k:Δ}{sp:dJ}{t:cW}
theorem Rm(BkA)
  (I:Aah) (R:AGK) (r:AQA) (rs:AxY) (h:sp ds P fun C=>E Γ C) (hQ:Bf5 Bnv):
  BCw us:=by
 have hs:pB AG sp vs H Q (AhM AVi tz H):=⟨F,ds,P,_,R.g,rs,h,hQ,fun x C dx F' H' hE gr xr=>⟨x,F',hE,gr,xr⟩⟩;have hl:A6y:=A'R
 have hbs:=BBR us;show AGF;refine ARl (ALv X.A M3 s H AWp us vs Q _ hr I.env0 hbs) r AQ2;cases r with
 | kH e=>exact ATg Ν σ Γ F H s e s' I R hq
 | ok fl=>
  cases fl with
  | ret u=>exact I.after hq
  | KE=>show YY
  | brk=>show YY
  | Nn=>show YY
theorem ybw(Fn:Ag2 AwU)(hr:sx)(hg:J_)(hm:AUq Lv)(hk:W.keepIn AG Lv=Κ)(hb:AJI)
  (ha:SH) (hdb:Fr:=by decide) (tw):
  D_ tj (aq sp t):=by
 show AF_;refine Ap9;refine AeM (h₀:=eI) AeN hk (Ane (ArI A5w) Bb) he EE;obtain⟨vs,H1,I1,r,F1,AF,ds,R1,sF,rs,q⟩:=Bb;refine CI xy;exact Rm Fn hr hb cx I1 R1 r rs q (Ap4 (kk d AF F' H' v AOr Ah2 rv hp))
#where
def aG(n:Δ)(ds:AU):G2:=AcH .pu++AXe (n - N3) EI
abbrev iK(N:Υ)(ds:AU):G2:=aG ALi ds
theorem XF{K:AB}{F0 H:Hp}{N:Υ}{ds:AU}{vs:AV}(h:vj F0)(r:BYf):SR K F0 H F0 H (AG3 N vs) (iK N ds):=by
 have hl:=lQ r;refine⟨į h,by simp [AG3,iK,aG,hl],cf i s,fun i j a e _=> ?_⟩
 ·unfold iK aG at e;unfold AG3;show A5d
  ·rw[AFa,Fh] at e
   cases q:ds[i]? with
   | Θ=>rw[q] at e;show C6
   | Ε d=>
    rw[q] at e;show C6;show DE v e1 r1 yE r q;refine⟨AIi,?_,v,Β,r1⟩;rw[Aws (A3U hi),Fh,e1];rfl
  ·show AmS AFZ
   split at e
   ·show C6;rename_i A8;show Ayl A8;refine⟨Θ,?_,Sj⟩;show Ayb (ATJ (by rw[C4,<- hl];show Ω)) (C9 (A3U A8))
   ·show Ē
 ·exfalso
  obtain⟨s,o,e,_,hs⟩:=e;unfold iK aG at e;show A5d
  ·rw[AFa,Fh] at e
   cases q:ds[i]? with
   | Θ=>rw[q] at e;show C6
   | Ε d=>show AKZ q hs
  ·show AmS AFZ
   split at e
   ·show C6;exact hs
   ·show Ē
section
variable{P:A2}{w:An}{K:AB}{mg:ER}{DI:AQ}
theorem gY(AGJ)(ArM){k:Δ}{sp:dJ}(Fn:AGC)(S:ARe ps)(len:Abx)
  (Ĭ:ASS (∀F0:Hp,
   ∃t,rM cS F0 H tm t/\A'i A__)):
  A2b pB:=by
 show AKT;refine Aat H Q E Bi B2
 ·obtain⟨F,ds,P',Ex,_,rs,hs,_⟩:=Bi;rw[<- mv];exact Aa6
 obtain⟨F0,ds,Pd,Ex,sF,rs,hsp,hQ,hE⟩:=B2;show A7X;have cx:Abt:=by
  refine⟨fun Ν σ Γ F H1 s1 e s' I R hx=> ?_,ART⟩;refine ASU;show Ab1;exact Ab2
 exact BER (ANp (Fk (Pd BS)) Pd) (AoD (fun Γ F' H' σ R' _ q=>BY5) AFS AFS Bjk)
#where
def dh(ARb):Δ:=BHX i
theorem yka(h:g_+Ñ<=100000000):BKJ:=by
 show Dx dh;unfold IntMulOk;intro z;show A6L z;have z2:=z.2;unfold Builtin.Int.intTooBig at z2;have hb:bitsLine=134217728:=MY
 rw[hb] at z2;have:=pj z2;show Ω
theorem mj(h:AYo k):g_<=k:=by
 show BP9;split
 ·show A1M
 ·show LP;have n0:BJq:=A1 (by
   have:i=0:=BJe;show nN;exact q Β)
  have:=BKy n0 h;show Ω
theorem Rn(h:g_<=k):AYo k:=by
 unfold dh BHX at h;show Of
 ·show LP;have:i=0:=CY q
  show nN;exact Nat.two_pow_pos k
 ·show LP;have n0:BJq:=A1 (by
   have:i=0:=BJe;show nN;exact q Β)
  exact(Nat.log2_lt n0).mp Η
theorem G4(AKO):dh (i*j)<=g_+Ñ:=by
 refine mj ?_;rw[Ĵ,Nat.pow_add];exact Nat.mul_lt_mul'' (Rn (zN _)) (Rn HT)
theorem zi5(AKO):Bhp (i+j):=by
 refine mj ?_;have h1:AYo Ba_:=Rn (Nat.le_max_left _ _);have h2:AtW<2^ Ba_:=Rn (Nat.le_max_right _ _);have h3:=AeO i j;rw[BHY];show Ω
theorem yii(ARb):dh (-i)=dh i:=by show BP9;simp
theorem znf(AKO):Bhp (i - j):=by
 have h:=zi5 i (-j);rw[yii,<- Int.sub_eq_add_neg] at h;exact h
theorem MN(h:Ass<=AtW):g_<=Ñ:=mj (zL h (Rn (zN _)))
section
variable{X:Cx}
theorem zui{f:AKi}{C:AoN}{v:AlX}{d:AlW}{g:HM}(ho:jR X f (rI C v))(hg:∀x y P,g x y P ->BCY AR7)(hd:BdZ):jR X f AV8:=by
 rintro Ν s σ H x y u w Q I rx ry ⟨F,d1,d2,P,sF,r1,r2,h,k⟩;show ACT i j Β hc hp (hg _ _ _ h);show AGG;exact AqV ho ⟨i,j,Β,Β,hc,BVC⟩
theorem zov{f:AKi}{v:AlX}{d:AlW}{g:HM}(ho:jR X f (Ox v))(hg:∀x y P,g x y P ->BCn AR7)(hd:BdZ):jR X f AV8:=by
 rintro Ν s σ H x y u w Q I rx ry ⟨F,d1,d2,P,sF,r1,r2,h,k⟩;show EX i j Β hp (hg _ _ _ h);show AGG;exact AqV ho ⟨i,j,Β,Β,BVC⟩
def wI(C:AoN)(d:AlW):HM:=AqM HI AXq (C i j/\AR7)
theorem ycb(h:wI C d x y P):BCY AR7:=by
 show Dx wI;show Of
 ·exact A5S h
 ·show HA
def sJ(d:AlW):HM:=AqM HI AXq AR7
theorem z27(h:sJ d x y P):BCn AR7:=by
 show Dx sJ;show Of
 ·exact A5S h
 ·show HA
def cN:HM:=Ū (match x,y with
 | HI,AXq=>XX (i+j)
 | .AO i,.AO j=>D6 (i.length+j.length)/\P (.AO (i++j))
 | _,_=>EM)
theorem qU:AQv Add cN:=by
 rintro Ν s σ H x y u w Q I rx ry ⟨F,d1,d2,P,sF,r1,r2,h,k⟩;show Dx cN;show Of
 ·show AGG;exact AqV yoe (A5S ADq)
 ·show AGG;exact AqV z32 ⟨_,_,Β,Β,EJ,Ak2⟩
 ·show HA
def fQ:HM:=sJ (Þ (i - j))
theorem Ir:AQv Sub fQ:=Apk yna
def DX(AKO):Ι:=g_<=64\/Ñ<=64\/g_+Ñ<=100000000
theorem DX.ok(h:DX i j):BKJ:=by
 rcases h with h | h | h
 ·exact .of_left h
 ·exact .of_right h
 ·exact yka h
def cR:HM:=wI DX (Þ (i*j))
theorem rO:AQv Mult cR:=zui (C:=DX) (v:=Þ (i*j)) (opI fun i j _ _ _ _ _ hc q=>mul_int q hc.ok) (ABy ycb) AVf
def dG:HM:=wI (JP j BTs) BNN
theorem vp:AQv FloorDiv dG:=zui (C:=L3 j BTs) (v:=BNN) (opI fun i j _ _ _ _ _ hc q=>floordiv_int hc.1 q (Gc (PyProof.noPylong_of_log2 (by
 have:=Rn hc.2;exact BKy (FG (hc.1 (Bqc z))) Ρ)))) (ABy ycb) AVf
def bW:HM:=wI (JP j AOc) BNM
theorem nj:AQv Mod bW:=zui (C:=L3 j AOc) yiw (ABy ycb) AVf
def jC:HM:=wI Mu BZk
theorem yly:AQv Pow jC:=zui ym4 (ABy ycb) AVf
def tZ:HM:=sJ (AV9 (i<j))
theorem Jp:ć Lt tZ:=Apk yo9
def sO:HM:=sJ (AV9 (i<=j))
theorem G5:ć LtE sO:=Apk ypv
def qW:HM:=sJ (AV9 (j<i))
theorem DY:ć Gt qW:=Apk yo5
def yg:HM:=sJ (AV9 (j<=i))
def fK:D ->AN | BS=>Κ | _=>AC
theorem z9l(Ap0)(r:OU):Φ (v= BS)=fK d:=by
 cases d with
 | non=>subst r;rfl
 | bl _=>subst r;rfl
 | AL _=>subst r;rfl
 | AO _=>subst r;rfl
 | DZ _=>show Abf
 | B_ _=>show Abf
 | exc _=>show Abf
 | ptr _=>subst r;rfl
 | obj _ _ _=>obtain⟨a,_,_,Β,_⟩:=r;rfl
 | dic _ _=>show Abf
 | j7 _ _=>show Abf
 | dik _ _=>obtain⟨a,_,_,Β,_⟩:=r;rfl
def vq:HM:=Bhg (P (.bl (fK x))) (c==d)
def jD:HM:=Bhg (l' (! fK x)) (c !=d)
theorem abC:ć Is vq:=by
 rintro Ν s σ H x y u w Q I rx ry ⟨F,d1,d2,P,sF,r1,r2,h,k⟩;show Dx vq;show Of
 ·have e:=z9l r1;subst r2;exact BTi ynf BhF
 ·split at h
  ·show AGG;show AAq;show AGS;exact is_bool A2m
  ·show HA
 ·show HA
theorem ypa:ć IsNot jD:=by
 rintro Ν s σ H x y u w Q I rx ry ⟨F,d1,d2,P,sF,r1,r2,h,k⟩;show Dx jD;show Of
 ·have e:=z9l r1;subst r2;exact BTi yk0 BhF
 ·split at h
  ·show AGG;show AAq;show AGS;exact isnot_bool A2m
  ·show HA
 ·show HA
mutual
def mO:BUp
 | BS,b=>(AM5 BS Κ)
 | .bl a,b=>(AZQ v6)
 | APZ,b=>(AZQ APa)
 | Ajh,b=>(AZQ Aji)
 | uj,b=>(AM5 (.DZ ys) Ϗ)
 | û,b=>(AM5 AjV Ϗ)
 | .exc a,b=>(AZQ (.exc b))
 | .ptr a,b=>(AZQ (.ptr b))
 | .obj C fs xs,b=>(AM5 (.obj C' fs' ys) (Φ (C=C')&&Φ (fs=fs')&&Ϗ))
 | ACf xs,b=>(BBM dic)
 | ACq xs,b=>(BBM j7)
 | A5Q,b=>(BBM dik)
def je:AU ->AU ->AN
 | [],[]=>Κ
 | SK,y::ys=>mO x y&&Ϗ
 | _,_=>AC
end
@[simp] def kd:D ->Δ
 | BS=>0
 | li=>1
 | im=>2
 | nv=>3
 | AX5=>4
 | ú=>5
 | _=>6
@[simp] def BX (d d' :D):AN:=kd d<6&&kd d' <6&&(kd d !=kd d' || kd d<4)&&(kd d !=1 || kd d' !=2)&&(kd d !=2 || kd d' !=1)
def nA:MR (D3 D D)
 | n+1,uj,.DZ ys=>A_b
 | n+1,û,AjV=>A_b
 | _,d,d' =>AqA
#where
mutual
theorem Ro:∀d:D,mO d d=Κ
 | BS=>AEr
 | li=>AEr
 | im=>AEr
 | nv=>AEr
 | uj=>qV zev xs
 | û=>qV zev xs
 | AJg=>AEr
 | AJh=>AEr
 | .obj _ _ xs=>Am3
 | ce _ xs=>Am3
 | .j7 _ xs=>Am3
 | .dik _ xs=>Am3
theorem zev:∀ds:AU,je ds ds=Κ
 | []=>AYH
 | ip=>AZP je (Ro d) (zev ds)
end
theorem ztk:A'9 (B1=M' ->(∀e:MR AN,(Agb (e i=mO x y)) ->A5I B1 e=Ϗ))
 | [],[],_,_,_=>AYH
 | SK,y::ys,hl,e,he=>by
  have ih:=ztk (xs:=xs) (ys:=ys) AjC (rq (e (D'))) (Bf_ he)
  rw[GV,AtX,AtC,BHZ];rw[he 0 x y Β Β]
  congr 1
theorem zt2:A'9 (B1≠M' ->je xs ys=AC)
 | [],[],h=>A8p
 | [],Db,_=>AYH
 | Db,[],_=>AYH
 | SK,y::ys,h=>v4 je (zt2 (FG (h (IB z)))) AeP
theorem z8j:A'9 (AWa M' ->(Agb (mO x y=Κ)) ->Apq)
 | [],[],_,_=>AYH
 | SK,y::ys,hl,h=>AZP je (h 0 x y Β Β) (z8j AjC (Bf_ h))
section
variable{X:Cx}{Ν:dX}{σ:St}{F H:Hp}{s:AD}
theorem zv6(I:AW){a:Ζ}{xs ys:AV}(h:A5m)(h' :vR AG H a ys):EM:=by
 obtain⟨AY,_,⟨o,n,e,c,_,_⟩,_⟩:=Ay4;obtain⟨eQ,_,⟨o',e',c',_⟩,_⟩:=kC h';rw[e] at e';show AE e' e' e' e' e' e' e' e' e' e' e' e' e' e';rw[c] at c';injection c' with c';exact AkH c'
theorem zou{n:Δ}{d d' :D}(hc:A_S):AqA\/ (BgO (d= .DZ xs) (d' = .DZ ys))\/
  BgO (d= .B_ xs) (d' = .B_ ys):=by
 unfold nA at hc;split at hc
 ·show HL (Gc Bf7)
 ·show HL (E6 Bf7)
 ·show E5 hc
theorem ygs(I:AW)(sF:VW):∀(n:Δ) (d d' :D) (v:V),BYl A_S:=by
 have flat:∀(d d' :D) (v:V),BYl AqA:=by
  intro d d' v hf r r';cases d with
  | non=>simp only [Rep] at r;subst r;(show Av5) <;>simp only [Rep] at r' <;>first | rfl | show Av6 | show Av7 | show Bmp
  | bl=>show BFK
  | AL=>show BFK
  | AO=>show BFK
  | DZ=>show BjK (xz h2) (tY sF h1)
  | B_=>show BjK (xz h1) (tY sF h2)
  | _=>show AAr
 intro n;induction n with
 | Qb=>
  intro d d' v hc r r';show Bob h h h
  ·exact Bi6
  ·show OZ
  ·show OZ
 | Qr n ih=>
  intro d d' v hc r r';have go:∀{xs ys:AU} {vs us:AV},G_ (vs=us) (Ò xs vs) (Ò ys us) A_b Apq:=by
   intro xs ys vs us e r1 r2 hc;subst e;refine z8j (ϒ (lQ r1) (lQ r2)) fun i x y h1 h2=> ?_
   show DE v1 e1 q1 yE r1 h1;show DE v2 e2 q2 yE r2 h2;rw[e1] at e2;show i8;exact ih x y v1 (hc i x y h1 h2) q1 q2
  rcases zou hc with h | ⟨_,xs,ys,h,Β,Β,hc⟩ | ⟨_,xs,ys,h,Β,Β,hc⟩
  ·exact Bi6
  ·show GN;show EX a vs h1 q1 r;obtain⟨b,us,z,h2,q2⟩:=r';show L6;exact go (BGU (tY sF h1) (tY sF h2)) q1 q2 hc
  ·show GN;show EX a vs h1 q1 r;obtain⟨b,us,z,h2,q2⟩:=r';show L6;exact go (Asl (xz h1) (xz h2)) q1 q2 hc
structure EqD (A:BM) (s:AD) (v u:AI) (b:AN):Ι where
 eq:BG6 A s v u b
 rc:SeqAt.RcAt A s v u b
 ne:Bqd A s v u (! b)
theorem z76{n m:Δ}(e:MR AN)(h:n=m):(AWi (min n m) all e&&n==m)=A5I n e:=by
 subst h;simp
def Kn(s:AD):Aip D
 | BS,v=>v= BH
 | v6,v=>v= .bool b
 | HI,v=>∃t,v= A2W
 | vy,v=>∃t,v= .AO x t
 | AX5,v=>BYY (IsTup A6 l is)
 | ú,v=>BYY (AkZ is)
 | _,_=>KI
theorem kn(I:AW)(sF:VW){d:D}{x:V}{v:AI}(r:Ao_)(rv:oq):Kn s d v:=by
 (show KU d d d d d d d d d d d d d d)<;>simp only [Rep] at r<;>try trivial
 case non=>subst r;show ArQ;rfl
 case bl=>subst r;show ArQ;rfl
 case AL=>subst r;show MW rv;exact Ċ
 case AO=>subst r;show MW rv;exact Ċ
 case DZ=>
  show AI0 l vs h r;show ArQ;obtain⟨is,_,k,_⟩:=Abd h;exact⟨l,Β,_,k⟩
 case B_=>
  show AI0 l vs h r;show ArQ;obtain⟨is,_,k,_⟩:=QQ (xz h);exact⟨l,Β,_,k.isList⟩
theorem yaa{A:BM}{d d' :D}{v u:AI}(hu0:Aj2)(hf:AqA)(a:Kn s d v)(b:Kn s d' u):BbP:=by
 cases d with
 | non=>
  show Rl a;cases d' with
  | non=>show wo (.WS _) .none_none .none_none
  | bl _=>show wo Azd Azd Azd
  | AL _=>show AUx A0M A0M A0M
  | AO _=>show AUx A0N A0N A0N
  | DZ _=>show AIf A4W A4W A4W
  | B_ _=>show AIf A4X A4X A4X
  | _=>show AAr
 | bl _=>
  show Rl a;cases d' with
  | non=>show wo Aze Aze Aze
  | bl _=>show wo A0O A0O A0O
  | AO _=>show AUx A2O A2O A2O
  | DZ _=>show AIf A4a A4a A4a
  | B_ _=>show AIf A4b A4b A4b
  | _=>show AAr
 | AL _=>
  show Ae3 a;cases d' with
  | non=>show wo A0P A0P A0P
  | AL _=>show AqQ int_int int_int int_int
  | AO _=>show AqQ int_str int_str int_str
  | DZ _=>show AqU BHa BHa BHa
  | B_ _=>show AqU BHb BHb BHb
  | _=>show AAr
 | AO _=>
  show Ae3 a;cases d' with
  | non=>show wo A0Q A0Q A0Q
  | bl _=>show wo A2P A2P A2P
  | AL _=>show AqQ str_int str_int str_int
  | AO _=>show AqQ str_str str_str str_str
  | DZ _=>show AqU BHc BHc BHc
  | B_ _=>show AqU BHd BHd BHd
  | _=>show AAr
 | DZ _=>
  show Aui k1 a;cases d' with
  | non=>show wo A4Y A4Y A4Y
  | bl _=>show wo A4c A4c A4c
  | AL _=>show AqR BHe BHe BHe
  | AO _=>show AqR BHf BHf BHf
  | B_ _=>show AIf A4n A4n A4n
  | _=>show AAr
 | B_ _=>
  show Aui k1 a;cases d' with
  | non=>show wo A4Z A4Z A4Z
  | bl _=>show wo A4d A4d A4d
  | AL _=>show AqR BHg BHg BHg
  | AO _=>show AqR BHh BHh BHh
  | DZ _=>show AIf A4o A4o A4o
  | _=>show AAr
 | _=>show AAr
theorem XH(I:AW)(sF:VW):∀(n:Δ) (A:BM) (d d' :D) (x y:V) (v u:AI),vS (AMQ (AGs+n)) A_S Ao_ (Rep AG F d' y) oq NX BbP:=by
 intro n;induction n with
 | Qb=>
  intro A d d' x y v u hu hc r r' rv ru;show Bob h h h
  ·exact Be9 Η
  ·show OZ
  ·show OZ
 | Qr n ih=>
  intro A d d' x y v u hu hc0 r r' rv ru;have hu0:Aj2:=Τ
  rcases zou hc0 with h | ⟨_,xs,ys,h,Β,Β,hc⟩ | ⟨_,xs,ys,h,Β,Β,hc⟩
  ·exact Be9 hu0
  ·show GN;show BlU;obtain⟨is1,p1,k1,_⟩:=Abd h1;obtain⟨is2,p2,k2,_⟩:=Abd h2;have el1:Ϡ is1.length:=BVP
   have el2:is2.length=M':=BVQ
   have at_:∀j (g1:BJx) (g2:BJy),Bhj:=by
    intro j g1 g2;show EW g1' AYF (ANL el1 g1) g2' Azu (ANL el2 g2) e1 (TC xs xs[j]) (DT g1') e2 BRN (DT g2')
    show DE w1 f1 m1 yE q1 e1;show DE w2 f2 m2 yE q2 e2;show Cc z1 c1 b1 p1.get f1;show Cc z2 c2 b2 p2.get f2;have y1:BUi:=ApH c1
    have y2:BUj:=ApH c2
    simp only [e1,e2];rw[y1,y2];exact(ih pp _ _ w1 w2 z1 z2 BW3 (hc j _ _ e1 e2) m1 m2 b1 b2).eq
   show BV (EqD _ _ _ _ A4g);have WS:l1=l2 ->Apq:=SG (by
    have z:=ygs I sF UV Pw APy Aif (Agh nA hc) Bb9 Bf3
    exact z)
   have ev:(AWi (min AG4 ATh) all AyV&&AG4==ATh)=Ϗ:=by
    have s1:Ϡ AG4:=DT el1
    have s2:ATh=M':=DT el2
    rw[s1,s2];by_cases hl:B1=M'
    ·rw[z76 _ hl];exact ztk hl _ BcE
    ·rw[zt2 hl,BHi hl,AeP]
   have rc:=SeqAt.RcAt.tuples k1 k2 hu0 at_;have rn:=SeqAt.RcNeAt.tuples k1 k2 hu0 at_;rw[ev] at rc rn;refine BUu;show Bhz
  ·show GN;show BlU;obtain⟨is1,p1,k1',_⟩:=QQ (xz h1);obtain⟨is2,p2,k2',_⟩:=QQ (xz h2);have k1:=k1'.isList;have k2:=k2'.isList;have el1:is1.length=B1:=BVP
   have el2:is2.length=M':=BVQ
   have at_:∀j (g1:BJx) (g2:BJy),Bhj:=by
    intro j g1 g2;show EW g1' AYF (ANL el1 g1) g2' Azu (ANL el2 g2) e1 (TC xs xs[j]) (DT g1') e2 BRN (DT g2')
    show DE w1 f1 m1 yE q1 e1;show DE w2 f2 m2 yE q2 e2;show Cc z1 c1 b1 p1.get f1;show Cc z2 c2 b2 p2.get f2;have y1:BUi:=ApH c1
    have y2:BUj:=ApH c2
    simp only [e1,e2];rw[y1,y2];exact(ih pp _ _ w1 w2 z1 z2 BW3 (hc j _ _ e1 e2) m1 m2 b1 b2).eq
   show BV (EqD _ _ _ _ A4g);have WS:l1=l2 ->Apq:=SG (by
    have z:=ygs I sF UV sT AzA Aif (Agh nA hc) Bb9 Bf3
    exact z)
   have rcn:SeqAt.RcAt A s Aif (BQ l2) A4g/\Bqd A s Aif (BQ l2) (! Ϗ):=by
    by_cases hl:B1=M'
    ·have ev:A5I AG4 AyV=Ϗ:=by
      have s1:Ϡ AG4:=DT el1
      rw[s1];exact ztk hl _ BcE
     have hz:AG4=ATh:=BZv
     have rc:=Ap1 SeqAt.RcAt.lists at_;have rn:=Ap1 SeqAt.RcNeAt.lists at_;rw[ev] at rc rn;exact⟨rc,rn⟩
    ·have hz:(AG4 !=ATh)=Κ:=BZv
     rw[zt2 hl];exact⟨Ap1 SeqAt.RcAt.lists_lengths,Ap1 SeqAt.RcNeAt.lists_lengths⟩
   obtain⟨rc,rn⟩:=rcn;refine BUu;show Bhz
def nq:HM:=Ū (nA 20 x y/\l' (mO x y))
def sU:HM:=Ū (nA 20 x y/\l' (! mO x y))
theorem n8(hu:AUn Ad4):ć Eq nq:=by
 rintro Ν s σ H x y u w Q I rx ry ⟨F,d1,d2,P,sF,r1,r2,h,k⟩;exact L2 (XH I sF 20 X.A d1 d2 x y u w hu EJ r1 r2 rx ry).rc (ANl Ak2)
theorem Jq(hu:AUn Ad4):ć NotEq sU:=by
 rintro Ν s σ H x y u w Q I rx ry ⟨F,d1,d2,P,sF,r1,r2,h,k⟩;exact L2 (XH I sF 20 X.A d1 d2 x y u w hu EJ r1 r2 rx ry).ne (ANl Ak2)
#where
theorem zoh(BBf)(X:SI)(q:Ahi)(D:Ζ){nm qn:Μ}{N:Ζ}{bs bm:Au}{PH:AN}{sn:Υ}{CC:Au}{ab:AN}{col:Aiv}{dd:OW}{k0 k1 k2 k3 k5:fc}{newId:KA}
  (e:BnP newId):AbX (BQ D)=bI K C D:=by
 unfold mL nZ at q;split at q
 ·rename_i ho;have z:=X _ _ ho;rw[e] at z;unfold bI;rw[ho];show L6
  rfl
 ·show i9
section
variable{M:AS3}{A:BM}{E:dO}{h:AQ}{g:ϕ}{d:ASz}{t:Δ}{os:AAv}
 {nm q nm' q' :Μ} {C N C' N' :Ζ} {bs bm bs' bm' :Au} {PH Gb :AN} {sn sn' :Υ} {CC sub' :Au} {ab ab' :AN} {col col' :Aiv} {dd Mz :OW} {k0 k1 k2 k3 k5 j0 j1 j2 j3 j5:fc} {newId newId' :KA}
theorem zgs(hC:ANr C (BHP nm q C N bs bm PH sn CC ab col dd k0 k1 k2 k3 k5 newId))(hD:ANr C' (BHP nm' q' C' N' bs' bm' Gb sn' sub' ab' col' Mz j0 j1 j2 j3 j5 newId'))
  (he:gI oe) (hcls:AZH) (LE:AoZ bm'.contains) (hq:Q (AbX Ay0) AH5):Bg5 (excMatches EV Ay0):=by
 have cb:AoZ (WF C' ::bm').ABR:=BnY LE
 have nt:=tc_notTuple;generalize hk:(WF C::bm).ABR Ay0=k at hq
 repeat (first | (with_reducible refine Auj he;rw[hcls]) | show ADs hD | show Ah3 hD cb | show Ah3 hC hk | wp_step)
 cases (k)<;>(wp_walk;exact hq)
#where
abbrev _root_._2.Cx.hand(X:Cx)(a:Ζ):Cx:={X with A:=X.A.mark (Ε EV),calm:=AC}
section
variable{X:Cx}{Ν:dX}{σ:St}{H:Hp}{s:AD}{a:Ζ}
theorem yh5(ok:X.Ok)(a:Ζ):(AG5 a).Ok:=
 BlL (A1 (Afi z))
theorem Rq(I:AW)(a:Ζ):Inv AgH Ν σ H s:=A4t (yh5 xF a)
theorem z2l(ok:X.Ok)(z:O2):A5o:=BlL ok.hd
theorem z8u(I:Aah):Inv A'k [] σ H s:=
 Ba1 (Co hp)
theorem Ve(I:Inv A'k rW σ H s):Aah:=
 Ba1 (zP _ hp)
theorem yl1{z:O2}{xe:dO}{D:j'}{f:Flow}{rW :dX}(h:SP A'k rW D f s):Anz s:=by
 cases f with
 | KE=>show A4u
 | brk=>show A4u
 | Nn=>show A4u
 | ret u=>obtain⟨v,DB,H',I,r,q⟩:=h;exact⟨v,DB,H',Ve I,r,q⟩
theorem XJ(ok:A5o)(I:Inv (Aqh xe) Ν σ H s):Aah:=
 A4t ok
theorem zyc{z:O2}{xe:dO}{D:j'}{f:Flow}(ok:A5o)(h:SP (Aqh xe) Ν D f s):Anz s:=by
 cases f with
 | KE=>show A4v
 | brk=>show A4v
 | Nn=>show A4v
 | ret u=>obtain⟨v,DB,H',I,r,q⟩:=h;exact⟨v,DB,H',XJ ok I,r,q⟩
#where
def j9:XW:=Ŋ
theorem yF.base(Axl){D2:rZ}{D:j'}(k:An9 F)(g:Aqt):yF K F H0 F D2 D:=
 ⟨BEd k.nx,BEd k.bk,BEd k.ct,Bih k.rt r,Bih k.rf (zue (z4q g.f) d v r),fun t v as F' H' gr nd hn r h=>k.rT t v as F' H' Bm9 nd hn r h,fun d v Γ F' H' σ R r h=>k.rm d v Γ F' H' σ BmM r h⟩
section
variable{X:Cx}{Ν:dX}{σ:St}{H:Hp}{s:AD}
theorem G6:Ctx (kP ⟨Ŋ,pn⟩) F0 H0 j9:=
 BlC (Lw _ PassesOwnAt.never)
theorem z6c(I:AW)(hN:eJ)(hi:FL X.N n)(hk:Amv AIQ)(hσ:A1d)
  (h:AZr (AMH (Â Θ) H s')):ua (unbindName BO n):=by
 show BgL;show AIz r l (hl i n v hi hσ Azr);have hm:m n=Ε u:=by
  rcases l with ⟨_,e⟩ | ⟨k,_⟩
  ·exact e
  ·have k' :Amv cc\/Amv S_:=k;rw[hk] at k';rcases k' with k' | k' <;>(show KU k' k' k' k' k' k' k' k' k' k' k' k' k' k')
 have hcls:Bd1:=BKb
 have hiσ:AzC:=Pl hσ;have cne:=I.cne;refine wpAny_unbindName_local hk hn hm hcls (MX h' u' hn' hs);have old:BRS:=BYx;refine h _ (BdV (OF ob e))
 ·exact AZn A0_ Apo
 ·show AqZ;exact⟨sl,AQR A0_ e1⟩
 ·show AbO;exact⟨o',AQR A0_ e1⟩
 ·have hj:AAb:=A1 (by
   subst z;rw[A7t] at e2;show i8)
  rw[A1t] at e2;obtain⟨w,r',q⟩:=hl j y v' e1 e2 e3;refine DM w r';show Bkv (y≠n) hi e1
 ·show Ee w' z jv y c e;exact⟨w',AyT⟩
 ·show ASQ;exact BBp ne
 ·refine BiN;rintro Β;rcases hc with z | hc
  ·rw[<- z,pS] at e;show C6
  ·show LO pS hc hc hc hc hc hc hc hc hc hc hc hc hc hc hc
#where
def lV(K:AB)(Cd:Ζ)(tb th:aH):aH:=Bgm (th D AF j9)
def gM(K:AB)(Cd:Ζ)(i:Δ)(tb th:aH):aH:=Bgm (th BcC (ı i (.pu (.exc C))) j9)
def cU(g:AuQ)(ta:cu):cu:=We ta d (g d fun d' =>(FX d'))
def gC:AuQ:=fun x P=>(al x HI (XX (-i)))
inductive O6 (K:AB) (g:VX) (vs:AV) (H:Hp) (Q:VK):Ι
 | mk:Ber BjJ O6
def v7(K:AB)(g:VX):wf:=AVH (O6 K g vs H Q)
def iC(g:VX)(t:cW):cu:=dq (g ds fun d=>(FX d))
def dw:HM:=Ū (match x,y with
 | û,HI=>BaX
 | uj,HI=>BaX
 | .AO z,HI=>∃c,AzK/\BSa/\P (.AO AQT)
 | _,_=>EM)
theorem zvb(Me){ds:AU}{vs:AV}{i:Ψ}{d:D}(r:MZ)(h:AIb ds d):AZO (AIb vs v):=by
 unfold n6 at h⊢;rw[<- lQ r];cases q:yc N3 i with
 | Θ=>rw[q] at h;show GN
 | Ε j=>
  rw[q] at h;exact yE r h
section
variable{X:Cx}{F0 H0:Hp}{a b e:AJ}{es:DA}{AA p:AS}{ta tb te:cu}{t:cW}{x:Μ}
theorem Jr(ha:X2):D_ (.AsZ .USub a AA) (cU gC ta):=fun z E cx=>
 m9 (ypj yoq FY) (LX Bi Bi (AbE (by
  cases d with
  | AL i=>
   exact⟨i,r,BBi q⟩
  | _=>show sg)))
theorem yge{K:AB}{g:VX}{E:XW}{σ:St}{H:Hp}{Q:VK}(h:Jj K F0 H0 A9H E σ H Q):BZq v7:=Ae2 P h (Bi7 (fun d z F' H' gr rz hp=>k d AF F' H' z AOr (AHb NA) rz hp))
theorem qm{id:KA}{g:VX}(hc:∀z,dY JS ADN (v7 AG g))(hg:J_)(hm:Ϸ)(hv:ϭ ADN)(ha:SH)(hn:ž :=by decide)(hdb:Fr:=by decide)
  (tw):D_ tj A9H:=fun z E cx=>
 m9 (ARk Q9 AjK hv hn hdb EE) (w4 yge)
theorem fW(ha:X2)(hb:Ŷ)(hs:zy5 b):Ahq a b (OS ta tb):=fun z E cx=>
 m9 (ky yma r (sy AG dw) (by
  rintro E8 kL Ν s σ H x y v u Q I rx ry ⟨F,d1,d2,P,sF,r1,r2,h,k⟩ hs;show Dx dw;show Of
  ·show AFU r1;subst r2;show Th d e hp;show DE w ew qj zvb rs e;exact ybr E8 kL Ν s σ H _ _ v u Q I rx ry ⟨p,vs,_,w,Β,Β,xz hq,ew,q_ qj hp⟩ hs
  ·show AFU r1;subst r2;show Th d e hp;show DE w ew qj zvb rs e;exact ynt E8 kL Ν s σ H _ _ v u Q I rx ry ⟨p,vs,_,w,Β,Β,tY sF hq,ew,q_ qj hp⟩ hs
  ·show AGG;show a_ c hz e hp;exact ymn E8 kL Ν s σ H _ _ v u Q I rx ry ⟨_,_,c,Β,Β,hz,e,q_ IU hp⟩ hs
  ·show HA) FY Mc hs) (w4 yb8)
#where
def uc:VX:=AHq [HI] (XX Abk)
def lR:VX:=Ae9 (match ds with | AUc=>BK1 | [uj]=>BK1 | [.AO z]=>D6 ATL/\XX ATL | _=>EM)
def yh:VX:=BWZ (j>i)
def yj:VX:=BWZ (j<i)
section
variable{X:Cx}
theorem ydv:AQY "abs" uc:=by
 show oy;show Dx uc;show Of
 ·show AKN Β;exact AOP ye2 (RU ADq)
 ·show HA
theorem yq:AQY AK3 lR:=by
 show oy;show Dx lR;show Of
 ·show AAn;rw[mv] at h;exact AOP znl (VA p Aoc ADq)
 ·show AAn;rw[mv] at h;exact AOP znl (VA p Aoa ADq)
 ·show AKN Β;exact AOP zxk ⟨_,Β,EJ,Ak2⟩
 ·show HA
#where
def tyD:D ->MM KA
 | BS=>Ε "NoneType" | li=>Ε ASl | im=>Ε AGa | nv=>Ε ĝ | AX5=>Ε ZN | ú=>Ε K2 | AJg=>Θ | AJh=>Θ | A2N=>Θ | AEz=>Θ | AE_=>Θ | AP6=>Ε xi
def Rr(d:D)(T:KA):Aiv:=(tyD d).bind fun S=>BaU
def jx(T:KA)(ta:cu):cu:=We ta d (Bht (FX AP3))
theorem z4f(K K' :AB)(S T:KA):Adm K AhW tF=Adm K' AhW tF:=Β
section
variable{X:Cx}{Ν:dX}{σ:St}{F H:Hp}{s:AD}
theorem ymf(I:AW)(sF:VW)(r:Ao_)(rx:ui)(hS:tyD d=Ε S)(e:Bbh AhW)
  (h:BcY):BVF:=by
 cases d with
 | non=>show Aqk (BS)
 | bl y=>show Aqk (.bl y)
 | AL y=>show Aqk (Ev y)
 | AO y=>show Aqk (.AO y)
 | DZ xs=>
  show AE hS hS hS hS hS hS hS hS hS hS hS hS hS hS;show AI0 a vs hq r;show Kx;obtain⟨AY,_,⟨o,h1,h2,_⟩,_⟩:=Abd hq;exact my Bpy (AYX h2)
 | B_ xs=>
  show AE hS hS hS hS hS hS hS hS hS hS hS hS hS hS;show AI0 a vs hq r;show Kx;obtain⟨AY,_,⟨o,n,h1,h2,_⟩,_⟩:=AvX;exact my BGn (AYX h2)
 | exc C=>show Ab8
 | ptr _=>show Ab8
 | obj _ _ _=>show Ab8
 | dic _ _=>show Ab8
 | j7 _ _=>show Ab8
 | dik ks ds=>
  obtain⟨p,o,vs,Β,hq,_⟩:=r;show AE hS hS hS hS hS hS hS hS hS hS hS hS hS hS;show Kx;obtain⟨_,_,_,ws,_,o',es,ep,h1,h2,_⟩:=(AIP p ANf p (sF _ _ hq));exact my BGo ⟨o',h1,h2.1⟩
#where
section
variable{X:Cx}{F0 H0:Hp}{a:AJ}{AA p pt:AS}{ta:cu}{x:Μ}{T:KA}
theorem z8d(ha:X2)(hg:Gl X AK4)(hm:RS AK4)(hgT:J_)(hmT:Ϸ)(hv:ϭ tF)(hn:ž :=by decide)(hd:Fr:=by decide)
  (he:RI BRQ a [.kA x pt]:=by rfl) (he2:Awc [.kA x pt] (UO (ya pt)):=by rfl):D_ (AUN AK4 BRQ) (jx T ta):=fun z E cx=>by
 have pT:PE JS (ya pt) (tC (.ty T)):=EH yky hgT hmT hv Β hn hd;refine m9 (Q9 (X:=AHF) (id:= AK4) (r:=AVH (∃(F:Hp) (d:D) (x:V) (P:F6 AN),vs= [x,.ty T]/\VW/\Ao_/\ (Bht (P b))/\L4 (P b) (Q AP3 H))) ?_ hg hm boot_isinstance (Mv FY (Mv pT U5 (Y3 he2)) he) Χ Χ he (Y3 he2)) (BeA ?_)
 ·rintro Ν s σ H xs us Q I r ⟨F,d,y,P,e1,sF,rd,hb,k⟩;subst e1;show EX u w ru qj (vals2 r);show FB (w=Ar7 T) qj;unfold Rr at hb;cases hS:tyD d with
  | Θ=>show Ps hS hb hb.elim
  | Ε S=>
   rw[hS] at hb;cases hk:BaU with
   | Θ=>simp only [Bqf,hk] at hb
   | Ε b=>
    simp only [Bqf,hk] at hb;exact ymf I sF rd ru hS (z4f AG [] S T ▸ hk) fun tk=>⟨v6,H,I.tok tk,Β,k b hb⟩
 ·refine mo ⟨F1,d,v,dP (FX AP3),Β,JI,r1,h1,fS hp (BBi hp)⟩
#where
def cZ(C:Ζ)(t:cW):aH:=A5l (AZC (E AF JU))
section
variable{X:Cx}{F0 H0:Hp}{e:AJ}{es:DA}{AA np GW:AS}{t:cW}{x:Μ}{C:Ζ}
theorem z26(hh:Fs)(hg:J_)(hm:AKI)(hC:pA AG C)(ha:SH)
  (hd:Fr:=by decide) (Akv):
  ay Ax' (cZ C t):=by
 rintro z E cx Ν s σ H D I ⟨F,Γ,D2,R,h,k⟩;refine ky yey E (fun C' dx H1=>∃F1 AF,AU'/\E AF JU) hg hm hC FY hh I (Ä ⟨NN (lQ r1) ii,F1,AF,R1,ϐ⟩) (fun H1 s1 e s' I1 hx=> ?_) hd he EE
 obtain⟨a,C',H',B,dx,h1,h2,h3,h4,h5,h6,h7,h8,Β,h9,Β,F1,AF,R1,hE⟩:=hx;exact ATg Ν σ AF F1 _ s1 e s' I1 R1 ⟨a,_,_,B,dx,h1,h2,h3,h4,h5,h6,h7,h8,_,_,hE,į JI,Β,h9⟩
#where
structure cJ (BPe):Ι where
 ex:BVV (AKM pB)
section
variable{X:Cx}{F0 H0:Hp}{e:AJ}{es:DA}{AA p:AS}{x:Μ}{ps:Υ}{k:Δ}{sp:dJ}{t:cW}
theorem cI(BEM cJ):
  D_ tj (aq sp t):=by
 obtain⟨f,fd,h1,h2,h3,h4⟩:=x0;exact ybw h1 hr hg h2 h3 h4 ha hdb he EE
#where
section
variable{X:Cx}{Ν:dX}{σ:St}{H:Hp}{s:AD}{a:Ζ}{o:HO}
theorem Inv.track(I:AW)(hn:â)(ok:AHW (ANC o) A6 a o)(n0:BJ3)(nl:A1o)(nc:ύ a)(np:Agz a):OE (ANC o) s:=by
 refine⟨xF,I.os,Ħ,⟨AsJ,AsM,IE b u e n hx,BGG,OF xs e,XN xs e ?_,OF ps e⟩,pM,jv,?_,ARL,ic,Kj,AGj⟩
 ·show AJl (AlO n0);exact BRn e hx
 ·have q:=AdR b xs e;show qh q hn;exact q
 ·have q:=AS0 b u xs e;show qh q hn;exact q
 ·show Ee m q AdS b ps e;exact⟨m,AKX⟩
 ·rw[Ŭ bL nl];exact pS
 ·rw[bL (nc x c e)];exact AGi x c e
 ·show ASQ;exact⟨e,U2 (np p hp) n,ne,nf,d⟩
 ·by_cases hb:b=a
  ·subst hb;show AKZ gQ ok
  ·rw[tN] at e;exact A5c (fun c v _ q=>q) (hZ q AKX) fun c xs q=>AKX
#where
def zud:dJ:=Aq2 A1f
theorem zk9(Me):∀ns:B6,NE ACc Avr
 | []=>MY
 | n::ns=>qF IU (zk9 ns)
theorem z84{K:AB}{H:Hp}{a:Ζ}{ns:B6}(hl:ANo)(hS:Aoz):pB K zud SB H A8y ſ:=
 ⟨H,bE ACc,fun d=>d= .bl Κ,se,lP,OJ (A3 (Y1 a hS (zk9 ns))),⟨ns,Β,hl,Β⟩,BoH (by subst h;exact r),APK _ h ALq⟩
theorem yes(h:fD P w [] H s (ſ) e s'):EM:=by
 obtain⟨_,_,_,_,_,_,_,_,_,_,_,_,_,h⟩:=h;exact h
structure Cls where
 fM:Ζ:=0
 Rt:Ζ:=0
 abD:Ζ:=0
 abE:Ζ:=0
 ab9:Ζ:=0
 Missing:Ζ:=0
 XM:Ζ:=0
 yr:Ζ:=0
 Apart:Ζ:=0
 aaz:Ζ:=0
 cg:Ζ:=0
 Open:Ζ:=0
 abF:Ζ:=0
 Vf:Ζ:=0
 acd:Ζ:=0
 Scale:Ζ:=0
 cO:Ζ:=0
 ao:Ζ:=0
 acg:Ζ:=0
structure Js (AFo):Ι where
 ga:Avi AdC AGY
 gn:Akl BFa
 cl:BTd
 ob:Amp C
 be:A3o C
def lW(K:AB)(C:Ζ)(ta:cu):cu:=BdR (bI K C0 C)
section
open AKr PySem.Builtin PySem.Builtin.ObjectAttr PySem.Builtin.Getset_descriptor
variable{B9:A2}{w:An}{A:BM}{E:dO}{K:AB}{h:AQ}{g:ϕ}{d:ASz}{t:Δ}{os:AAv}{a C:Ζ}{o:Obj}
theorem zto(X:SI)(G:Js K C)(hx:Ā)(hc:AZG)(hq:Q () AH5):Bg5 (BHj AGY (H_ [EO,nameV])):=by
 have hk:builtinKind AGY =Ε .O_:=AK
 have hsp:A1k AGY Arb AdC:=AK
 have ha:=F.args_bexc_ga EV nameV;have L1:=looks_mroIn (M:=M) X G.be;simp only [BHj,hk,hsp];refine VO;unfold ALw
 repeat (first | (with_reducible refine Auj hx;rw[hc]) | with_reducible refine L1.at ?_ | wp_step)
 exact hq
#where
theorem ybj:∀(IJ:m_) (n:Δ) (A4:ϗ),(∀p∈IJ,BSF) ->Amy n IJ A4 x=acc.lookup x
 | [],_,_,_=>Β
 | A9O,n,A4,h=>by
  unfold xj;have hr:XL r BSF:=Ams;split
  ·rename_i hk;have hy:y≠x:=h (y,k) zY AjD
   rw[BWb,WU];have:WZ x y:=BR2 hy
   rw[Ρ]
  ·exact BWb
theorem z61:∀(IJ:m_) (h:AQ) (A4:ϗ),AZW (xj M1 IJ A4) ->AZW A4\/ (M1<=c/\ (ALx h IJ).IsCell c Θ/\ BLZ IJ)
 | [],_,_,m=> .DV m
 | A9O,h,A4,m=>by
  unfold xj at m;unfold ALx;split at m
  ·rename_i hk;show DF hk;have sz:ANs (AT' "cell" cell Θ) ģ=M1+1:=APQ;rw[<- sz] at m;show BCN (z61 r _ _ m)
   ·rcases Age with e | z
    ·cases (e);have e2:k= cc:=CY hk
     subst e2;refine .B0 ⟨NY,?_,zY⟩;exact OP (BHk r _ _ _ AoQ)
    ·exact NS z
   ·show HL ⟨by rw[sz] at z1;show Ω,z2,zW _ z3⟩
  ·rename_i hk;show BN hk;show BCN (z61 r h A4 m)
   ·exact NS z
   ·show HL ⟨z1,z2,zW _ z3⟩
theorem zth:∀(IJ:m_) (n:Δ) (A4:ϗ),(acc.Pairwise fun x y=>AoH) ->(∀p∈A4,p.2<n) ->(xj n IJ A4).AeQ fun x y=>AoH
 | [],_,_,h,_=>h
 | A9O,n,A4,h,hl=>by
  unfold xj;split
  ·refine zth r _ _ (BHl ⟨cf p hp,h⟩) ic
   ·have e' :n=p.2:=e;exact yS _ (Nat.lt_of_lt_of_eq (hl p hp) e')
   ·rcases Cn hp with Β | hp
    ·show Akh
    ·show APT (hl p hp)
  ·exact zth r n A4 h hl
def ud(BI:Env):m_ ->ϗ ->ϗ
 | [],cs=>cs
 | Amh,cs=>ud BI r (B3 (k== S_) ((n,(ASv n).WP 0)::cs) cs)
theorem yjq(h:XL AGt AvW):closureFor KB BI=IO BVH:=by
 have Ap:∀(IJ:m_) (cs:ϗ),A6p ->
   (forIn IJ cs fun(x:Μ×Adp) (r:ϗ)=>(if x.2== S_ then do let a<- cellOf BI x.1;IO (BHm ((x.1,a)::r)) else BR6:Sem _))=IO (ud BI IJ cs):=by
  intro IJ;induction IJ with
  | C3=>intro cs _;rfl
  | AX p r ih=>
   intro cs hh;obtain⟨n,k⟩:=p;have hr:A6j:=Agc hh;rw[Bqh];unfold ud;by_cases hk:A8u
   ·show Ee c e hh ADo zY AjD
    have e' :cellOf BI n=IO c:=by unfold cellOf;rw[e]
    simp only [hk,xk,e',pure_bind,e,Option.getD_some];exact ih _ hr
   ·have hk' :WZ k Ata:=CY hk
    simp only [hk',AeR,ALl,pure_bind];exact ih _ hr
 unfold closureFor;have:=Ap AGt [] h
 show t9
theorem zvn:∀(IJ:m_) (cs:ϗ),A6p ->AZW (ud BI IJ cs) ->AZW cs\/ (AlM IJ/\AYh)
 | [],_,_,m=> .DV m
 | Amh,cs,hh,m=>by
  have hr:A6j:=Agc hh;rcases zvn r _ hr m with z | ⟨z1,z2⟩
  ·split at z
   ·rename_i hk;rcases Age with e | z
    ·cases (e);have e2:k= S_:=CY hk
     subst e2;show Ee c e hh (_,S_) zY Β;refine .B0 (CI zY);have e' :AYh:=e;rw[e'];rfl
    ·exact NS z
   ·exact NS z
  ·show HL ⟨zW _ z1,z2⟩
theorem zow(e:AYh):Bca ((AlM IJ\/AHV cs.lookup) ->(∀c',F7 cs.lookup c' ->c' =c) ->AHV (ud BI IJ cs).ABW)
 | [],cs,h,_=>by
  show APP h h
  ·show OZ
  ·exact h
 | Amh,cs,h,hu=>by
  unfold ud;by_cases hk:A8u
  ·show DF hk;by_cases hn:x=n
   ·subst hn;refine BXP (E6 ?_)
    ·rw[WU];simp [e]
    ·rw[WU] at q;simp [e] at q;exact Atb
   ·have hb:WZ x n:=CL Bqg hn
    refine BXP ?_
    ·rcases h with h | h
     ·rcases AEk with z | z
      ·cases (z);exact fw Β hn
      ·exact NS z
     ·refine .B0 ?_;rw[WU,hb];exact h
    ·rw[WU,hb] at q;exact hu c' q
  ·show BN hk;refine zow e r cs ?_ hu;rcases h with h | h
   ·rcases AEk with z | z
    ·cases (z);exact fw Β hk
    ·exact NS z
   ·exact KW h
theorem zl8(inj:BBz AYh (ASv y=Ε c)):Bca (BB (names.map (·.1)).Sc A6p (cs.Pairwise fun x y=>AoH) (∀p∈cs,env.cells.lookup p.1=some p.2/\p.1∉names.map (·.1)) ((ud BI IJ cs).AeQ fun x y=>AoH))
 | [],_,_,_,h,_=>h
 | Amh,cs,nd,hh,h,hc=>by
  unfold ud;rw[Ff,Atc] at nd;have hr:A6j:=Agc hh;have hc' :XL cs (ANi ASv/\CS∉r.map (·.1)):=ï ⟨AJE hc,A1 ((hc p hp).2 (EQ Ff (zW _ z)))⟩
  by_cases hk:A8u
  ·show DF hk;show Ee c e hh ADo zY AjD
   have e' :ASv n=Ε c:=e;rw[e'];refine zl8 inj r _ nd.2 hr (BHl ⟨At p hp z,h⟩) ic
   ·have z' :c=p.2:=z;have q:=AJE hc;rw[<- z'] at q;have:=inj _ _ _ e' q;exact(hc p hp).2 (by rw[Ff,<- Ρ];exact zY)
   ·rcases Cn hp with Β | hp
    ·exact⟨e',nd.1⟩
    ·exact hc' p hp
  ·show BN hk;exact zl8 inj r cs nd.2 hr h hc'
theorem zio{KB:Oy}{BI:Env}{x:Μ}:∀(IJ:m_) {k:Adp},F7 BHn k ->F7 BdI k\/
   (k= S_/\ ANQ BdI)
 | [],_,h=>AQO
 | (n,k0)::r,k,h=>by
  have ih:= @zio KB BI x r k;show Ct (Bc0\/ (_/\Bc0));cases hx:x==n with
  | Κ=>
   simp only [WU,hx] at h;show GN;by_cases hc:AyI
   ·show DF hc;simp only [kK] at hc;exact KW ⟨CY hc.1.1,by show Amt⟩
   ·show BN hc;show E5 (by show Amt)
  | AC=>
   simp only [WU,hx] at h;by_cases hc:AyI
   ·show DF hc;show Amt;exact ih h
   ·show BN hc;show Amt;exact ih h
def mQ(KB:Oy)(C:Ζ)(BI:Env):Env:=
 {KB:=relabel KB BI,locals:=C,globals:=env.globals,cells:=xj (C+1) AGt BVH,FD:=env.qual,func:=Θ,code:=env.code,frame:=env.frame,builtins:=env.builtins}
def blk(X:Cx)(KB:Oy)(N:Υ)(C:Ζ)(MD:AD)(Zp:Hp)(fp:B5):Cx:=
 {X with BI:=mQ KB C BO,N:=N,MD:=MD,Zp:=Zp,Ch:=M3,stack:=M3,ex:=fp,fn:=VS (As4 x==Ε cc),pn:= [],xe:=Ŋ}
def Bc(BA:Δ)(FU:DD)(σ:St):St:=AXe BA Θ++BHo fun j=>A_x
structure mq (N:Υ) (sc:Oy) (BA:Υ) (FU:DD) (BI:Env) (N' :Υ):Ι where
 kind:A4y
 nd:N'.Nodup
 snd:BKu
 eD:Bct ASu ASu
 IJ:BXm
 FU:Bgu
theorem z9z
  (hQ:Q (newEnv KB CF g (xj nk AGt cl) q Θ BH (DJ BI) AsC) (BQz AGt)):
  ua (Bqi KB g cl [] q Θ BH (DJ BI)):=by
 simp only [Bqi,BqP,xk];refine k8 wpAny_alloc;refine z6 (wpAny_layCells _ (fun D5 kind cells=>by cases hkc:kind==AtY<;>simp [hkc]) _ _ _ _ ?_)
 show ck (AW8 (AVF mS:AD).heap.objs.size) APQ;exact z6 (z7 (z7 hQ))
section
variable{X:Cx}{Ν:dX}{σ:St}{H:Hp}{s:AD}{sc:Oy}{BA:Υ}{FU:DD}{N' :Υ}{fp:B5}
theorem zos(I:AW)(S:AGL):XL QY (Bj' AsF):=fun p hp hk=>I.ok.has _ (Atd p hp hk)
theorem zkf(I:AW)(S:AGL)(e:A0Z):
  (AHe/\P6 c/\BJ8≠Ε cc)\/ (Aic<=c/\ (ALx BMh QY).IsCell c Θ):=by
 have m:=ABl e;have sz:AW8 (AN4 mS):=APQ;have m' :AZW (xj (AN4 mS) QY BVI):=CL sz m
 show BCN (z61 QY _ _ m')
 ·rcases zvn QY [] (zos I S) z with z | ⟨z1,z2⟩
  ·show AIg
  ·show Ee v hc jv x c z2;refine .DV ⟨z2,hc.lt,LV q⟩;have q' :=ABl q;have:=S.snd;show t_ ATi ĵ;have d:∀(l:m_),BAI ->AlM l ->BLZ l ->EM:=by
    intro l;induction l with
    | C3=>show Apy
    | AX a r ih=>
     intro hp h1 h2;show C5 p1 p2 ALy hp;rcases Cn h1 with e1 | h1<;>rcases Cn h2 with e2 | h2
     ·rw[<- e1] at e2;cases (e2)
     ·exact p1 _ h2 (by rw[<- e1])
     ·exact p1 _ h1 (by rw[<- e2])
     ·exact ih p2 h1 h2
   exact d _ Ρ z1 q'
 ·show HL ⟨by rw[sz] at z1;exact z1,z2⟩
theorem zzu(I:AW)(S:AGL)(hk:AP9 AK_)(e:AHe):A0Z:=by
 show AHV (xj _ QY BVI).ABW;rw[ybj]
 ·exact zow e _ _ (Gc (ABl hk)) fun c' q=>BoO
 ·intro p hp hc z;have q:=ABl hk;have:=S.snd;show t_ ATi ĵ;have d:∀(l:m_),BAI ->AlM l ->p∈l ->EM:=by
   intro l;induction l with
   | C3=>show Apy
   | AX a r ih=>
    intro hpw h1 h2;show C5 p1 p2 ALy hpw;rcases Cn h1 with e1 | h1<;>rcases Cn h2 with e2 | h2
    ·rw[<- e1] at e2;subst e2;show AE hc hc hc hc hc hc hc hc hc hc hc hc hc hc
    ·exact p1 _ h2 (U' e1 pr)
    ·exact p1 _ h1 (U' e2 z)
    ·exact ih p2 h1 h2
  exact d _ Ρ q hp
theorem z15(I:AW)(S:AGL)(XQ:BfZ A2j)(i:Δ)(x:Μ)(v:V)(h1:yk N')(h2:FL AO5 Ì):
  ∃u,OY/\Look (BAQ CF) h' m' x u:=by
 have h2' :FL AO5 Ì:=h2;have h1' :yk N':=h1;unfold Bc at h2';rw[S.names] at h1';by_cases hi:i<AG6
 ·rw[AFa,Adr] at h2'
  split at h2' <;>(show KU h2' h2' h2' h2' h2' h2' h2' h2' h2' h2' h2' h2' h2' h2')
 ·show Ayn AFZ As5 h2'
  show AXc (ATJ Η) h1'
  cases hj:FU[i - AG6]? with
  | Θ=>show LO hj h1' h1' h1' h1' h1' h1' h1' h1' h1' h1' h1' h1' h1' h1' h1'
  | Ε j=>
   rw[hj] at h1' h2';obtain⟨j1,j2⟩:=S.caps j (yV hj);have hx:X.N.getD j "" =x:=CY h1'
   have hσ:TC σ Ì:=by
    have:A_x=Ε v:=CY h2'
    cases q:σ[j]? with
    | Θ=>rw[q] at Ρ;show L9
    | Ε o=>show Da q;have:o=Ε v:=Ρ;rw[Ρ]
   rw[hx] at j2;have hN:TC X.N x:=by
    rw[MH,ku j1] at hx;rw[AKo j1]
    simpa using hx
   show TL m hn hloc pM;have kx:=Atd (x,S_) (ABl j2) Β;have vis:OV:=by
    rcases kx with k | k
    ·show HL (Gc k)
    ·show HL (E6 k)
   show AIz ru l (hloc j x v hN hσ vis);refine⟨u,ru,.B0 Aje⟩
   ·rcases BjF j2 with h | ⟨_,h⟩
    ·exact KW h
    ·exact NS h
   ·rcases l with ⟨k,_⟩ | ⟨_,c,ec,hc⟩
    ·have k' :AUR AK':=k;have kx' :ANQ AK'\/AP9 AK':=kx;rw[k'] at kx';rcases kx' with z | z<;>(first|subst z|show AHG|show AHI|show AHK|show AHJ|show AHM|show AHL|show AHN|show AHO|show OC z|show OA z|show NB z|show OB z|cases (z))
    ·exact⟨c,zzu I S j2 ec,XQ x c _ ec hc⟩
theorem yao(I:AW)(S:AGL)(hf:AY9)(hl:lm (P6 b)):
  Inv BAr [] AO5 H (BQz QY):=by
 have KL:AVb M_ (ALx BMh QY).IN:=OH BeL;have ok:=xF;have inj:BBz A0Z (BmT y=Ε c):=fun x y c e1 e2=>by
  refine Bp5 (cs:=Avx cells) ?_ (ABl e1) (ABl e2);refine zth _ _ _ (zl8 ok.inj _ _ S.snd (zos I S) ATa (fun p hp=>(À hp hp hp hp hp hp hp hp hp hp hp hp hp hp))) ic
  rcases zvn (x:=CS) (c:=p.2) QY [] (zos I S) hp with z | ⟨_,z⟩
  ·show AIg
  ·obtain⟨v,hc⟩:=jv _ _ z;show APT hc.lt
 have frC:L4 (sR b) NU:=FM (AsO hb);have abG:Avx scope.kind= AMm:=As3;refine⟨⟨ok.mod,abG,ok.glob,ok.blt,NY,inj,AnX,MX x c hfn e,ok.hd,ok.frames,APm,Ü (zK (hl b hb)) BaE,I.bs,zO ok.bsz I.sz,ť e hb,OF hb z,I.stack,I.stkFree⟩,
  Β,Ħ,ASs KL,ET ((Heap.Ns.new A6 (RH xi)).keeps (BHk _ _)) (fun i x v h1 h2 h3=> ?_),ARL,frC _ HT,ARL,BDZ,I.hok.kept KL,?_⟩
 ·
  have hx' :ANQ BBw\/ AP9 BBw:=hx;have:∃k,F7 AK_ k:=by
   have Ap:∀(l:m_) (k' :Adp),F7 (E_ fun ADo=>if (BL9 k&&BLx) then Agl else ADo).ABW k' ->∃k,F7 l.lookup k:=by
    intro l;induction l with
    | C3=>intro k' h;simp at h
    | AX a r ih=>
     intro k' h;obtain⟨n,k0⟩:=a;cases hb:x==n with
     | Κ=>exact⟨k0,XU WU hb⟩
     | AC=>
      have h2:ī x ((B3 (U_ (BL9 k0) BLx) Agl (n,k0))::(r.map _))=Ε k' :=h;obtain⟨k,hk⟩:=ih k' (by
       split at h2<;>(simp only [WU,hb] at h2;exact h2))
      exact⟨k,by simp only [WU,hb];exact hk⟩
   rcases hx' with h | h
   ·exact Ap _ _ h
   ·exact Ap _ _ h
  obtain⟨k,hk⟩:=Ρ;show Ayk (BjF hk) h h1
  ·have hkk:k= cc\/k= S_:=by
    have h' :F7 BBw k:=h;rcases hx' with z | z<;>rw[z] at h' <;>(show KU h' h' h' h' h' h' h' h' h' h' h' h' h' h') <;>simp
   rcases hkk with Β | Β
   ·exact Bp3 (BGr QY _ _ Azr)
   ·show hG c (ok.has x (Atd (x,S_) (ABl hk) Β));exact⟨c,BaF⟩
  ·subst h1;show hG c (ok.has x (Atd (x,S_) (ABl hk) Β));exact⟨c,BaF⟩
 ·
  have abH :AZg:=by
   have:ACR BJ8 (Ε AtY):=hfn
   show t9
  rcases AqE with ⟨_,_,z⟩ | ⟨z,_⟩
  ·show L7 abH z
  ·show BV (sR c);exact Ate z
 ·rcases AqE with ⟨z1,_,_⟩ | ⟨z1,_⟩
  ·exact A0g.2.2.2.2.1 x c z1 z
  ·have:=hl b hb;rw[<- z] at Ρ;exact yS _ (zM Ρ (Ate z1))
 ·have q:=(AWg hf).2.1;rcases q with q | q
  ·exact ok.Jd b o e q
  ·have q2:b<BpI:=zG e;exact yS _ (zM q2 (zO ok.bsz q))
 ·rcases A_3 z with z | z
  ·exact AVz hf z
  ·exact(lS hf).2.1 z
 ·exact Bj9 (fun x c v _ hc=>BM6)
 ·rcases AqE with ⟨z1,_,_⟩ | ⟨_,z⟩
  ·show Ee v hc jv x c z1;exact⟨v,BM6⟩
  ·exact FF z
 ·rcases AqE with ⟨z1,_,_⟩ | ⟨z,_⟩
  ·exact AGi x c z1
  ·exact frC c (Ate z)
 ·show Ba5;rw[S.names];unfold Bc;simp
theorem z9g(I:AW)(S:AGL)(hf:AY9)(B:Inv BAr rW σ5 H5 s5):
  Inv BAr rW AO5 H5 s5:=by
 obtain⟨m,hn,_⟩:=B.loc;have kc:BfZ (s5.heap.IsCell c v):=fun x c v e (AEy hd)=>by
  have nx:c∉fp:=A1 (A'v (hf c z).2.2.2);by_cases hc:c∈ib
  ·obtain⟨sl,q⟩:=B.base.slot c o ho AZ4 hc nx;exact ET q hd
  ·exact⟨o,B.base.keep c o ho AZ4 hc nx,hd⟩
 exact⟨B.ok,B.os,B.bare,B.base,⟨m,hn,fun i x v h1 h2 h3=>(Bj9 kc)⟩,B.cell,B.free,B.freeC,B.pin,B.hok,by show Ba5;rw[S.names];unfold Bc;simp⟩
#where
abbrev z6p(ifs:DA)(BI:Env):AQK:=forIn ifs Κ fun c r=>if r=Κ then do let ok<- AsT c BI (ADV c);IO (BHm ok) else BR6
section
variable{B9:A2}{w:An}{A:BM}{R:A0T}{s:AD}
theorem z8p(I:PY Δ)
  (T':∀n s,I n s ->PD RE A (ATD it) (qr ES (match r with
   | Θ=>R (.ok ADd) ES
   | AIi=>AYp (Bpk AdY it v) (JP s₁' (AYp (AS_ AdY BI v) (JP Iy (AYp (z6p ifs BI) (fun ok pf=>
      (ID ok (AYp (ADV elt) (fun x s₄=>
       (AYp (ANh BG_ [A4,x]) (JP s₅ (AnY (I m s₅))) s₄)) pf) (AnY (I m pf)))) Iy)) s₁')) ES)) AU5 s)
  (n:Δ) (h:I n s):
  ALc RE A (.compLoop BRz 0 it A4 BI) R s:=by
 refine codeAny_loop Β I (At n s hI) n h;refine(?_:AH6 A ((compTurn BRz 0 it A4 BI).onRaise (fun x=>do AeG x BI;theTreesLotGoes x)));refine wpAny_noted ?_;rw[compTurn_list];refine z6 (ATA (z6 (ϑ (T' n s hI) (AiE r) AR0)));cases r with
 | Θ=>exact z7 aE
 | Ε v=>
  refine ul aE (At _ s₁' h₁') AR0;refine ul h₁' (fun _ Iy eg=>(ul eg (At ok pf h₃) AR0)) AR0;cases ok with
  | AC=>exact z7 (IC h₃)
  | Κ=>
   exact z6 (z6 (ϑ h₃ (fun x s₄ h₄=>(ul h₄ (fun _ s₅ h₅=>z7 (z7 (IC h₅))) AR0)) AR0))
#where
def PTs(X:Cx)(ifs:DA)(t:TT):Ι:=
 A9_ AJq (AfI (z6p ifs BO) TP)
theorem yll:PTs X [] (fun _ H Q=>Q Κ H):=BD_ (wpAny_tests_nil ⟨H,I,h⟩)
theorem yla(h:PT X c t):PTs X [c] t:=fun Ν s σ H Q I q=>wpAny_tests_one (Afg Q I q)
structure XR (AXV) (tg:AJ) (J:It) (fp:B5) (it:Ζ) (tn:AZi) (cm:F6 Cx):Ι where
 mem:it∈fp
 obj:BZn
 KL:Bh9
 UA:ArN (cm X) (BB AW Ak9 AW2 Akw (AqT (∃u,r=Ε u/\
   PD ACx X.A BAo (JP s2 (∃x H',Ako/\ui/\J.yld i H x H' /\BSe/\lm ANA)) E s1)))
 K_:ArN (cm X) (BB AW Ak9 AW2 Akx (AqT BSk))
 QU:Bie
def abI(BlI):Ι:=
 ∃(it:Ζ) (fp:B5) (tn:AZi) (J:It) (H' :Hp) (cm:F6 Cx),itv= .As it/\Ako/\XR GE X.w AG tg J fp it tn cm/\BSP/\ (bS fp AnK)/\Ao3 /\
  ∀Y:Cx,Y.A=X.A ->Y.calm=X.calm ->(∀b o u,AVT ACz ->NC Y.H₀ ACz) ->cm Y
def PIg(Biy):Ι:=
 AXH R ANu (wi σ H R) AYd (BeJ (abI X Ν σ tg R))
theorem pig(hc:Fs)(hi:BSN):Bd6:=fun Ν s σ H R I h=>
 bV (AB' hi R I h) (Ĉ h1 (bV h1 fun itv s2 Bi=>by obtain⟨it,fp,tn,J,H',e,I',T,st,f,r⟩:=Bi;exact⟨it,fp,tn,J,H',fun Y=>Y.calm=Κ,e,I',⟨T.mem,T.obj,T.keep,Asp,Aso,T.self⟩,st,f,r,fun Y _ q _=>q.trans hc⟩))
def Jt(A4:Ζ)(J:It)(DB :St)(g:TG)(tc:TT)(te:TE)(Q:APz)(H1:Hp):Ι:=
 ARZ AP0 (W 0 m [] H1) (∀i m vs H,W i m vs H ->Pc A4 XG/\MG<ASo+1/\
  ((Akx/\NM A4 H)\/ (Akw/\AMq MG/\∀x H',J.yld i H x H' ->g x DB H' (AU8 (tc σ2 H2 (fS H3 (ID b (te σ2 H3 fun v H4=>H4 A4=Ε XG/\AvS AVQ (upd H4 A4 (E3 AVQ))) (AvS vs H3))))))))
def XS(BA:Δ)(FU:DD)(wi:TI)(g:TG)(tc:TT)(te:TE):TE:=ft wi J (∀A4,Ð A4 ->Jt A4 J BLz g tc te Q (yz A4 Aue))
section
variable{X:Cx}{sc:Oy}{BA:Υ}{FU:DD}{N' :Υ}{elt tg Nw:AJ}{ifs:DA}{AA:AS}{wi:TI}{g:TG}{tc:TT}{te:TE}
theorem zlh(S:AGL)(hi:Bd6)
  (hg:BCh (PG AfA tg g)) (ht:BCh (PTs AfA ifs tc)) (he:BCh (PE AfA elt te))
  (ee:e= .BHq elt [Auc] sc AA) (hs:Afb Nw)
  (I:AW) (h:XS AG6 FU wi g tc te σ H Q)
  (fin:∀A4 C H' s5,ACd s5 ->BB A4J (∃m,s5.heap.Ns C m) (H' C=Θ) (C≠WH) (BB (ANX C) (ύ C) (∀p∈X.pn++Ν,CS≠C) (C∉js) (BHr kg X.A xL use Qv ϧ C (.ok ADd) s5))):
  AHa (BHs e sc BO ps A8J AC AYd use) Qv:=by
 subst ee;refine wpAny_comprehension_free (g:=Auc) (gs:= []) (cl:=ud BO QY []) Β hs (yjq (zos I S)) As3 ?_ (bV (kr hi) (Ĉ h1 BZg))
 ·intro p hp hk;have nd:=S.snd;rw[ATi,ĵ] at nd;have d:∀(l:m_),BAI ->p∈l ->l.lookup CS=Ε AIQ:=by
   intro l;induction l with
   | C3=>show Apy
   | AX a r ih=>
    intro hpw h1;show C5 p1 p2 ALy hpw;rcases Cn h1 with e1 | h1
    ·subst e1;rw[WU];simp [hk]
    ·have hb:WZ CS a.1:=BR2 (p1 p h1)
     rw[WU,hb];exact ih p2 h1
  exact d _ nd hp
 obtain⟨it,fp,tn,J,H2,cm,Β,I2,T,st2,f2,R2,hcm⟩:=h2;have hp0:=I2.fresh;refine pV ?_;have I3:=I2.lnew (AY:= []) (ys:= []) (t' :=s2.toks) EB (Adg _);generalize Ķ:AG7=A4 at*;obtain⟨W,⟨m0,w0⟩,T'⟩:=R2 A4 hp0;show EW f3 (lm (Avv AUz)) (FM (by
  refine⟨?_,lS f2⟩;show AOS eo (AqD st2);rw[BQQ (Agi Ķ BFN eo)]
  exact W' f2)) hc (∀C MD,cm (AUG C MD AUz fp)) (fun C MD=>hcm _ Β Β (AI5 u (Ú (ϣ ((AUG C MD AUz fp).Zp=upd H2 A4 Aue)) (AVO hp0) e))) A8 (lm (b< A'M)) (FM (by
  show AOS eo (AqD st2);rw[UD];exact AtZ (zG eo))) st3 (tn 0 (ABm AVr)) (Axu st2 zC);show To (z9z ?_) (ALc _ _ (.compStart nK 0 ANZ ϧ (BAQ A'M)) (BHr _ _ _ use Qv ϧ A'M) _);generalize hs3:(Aoi BPk:AD)=s3 at*;have hh3:ABm AVr=s3.heap:=BJL
 have ach :(ŀ s2 BPk:AD)=s3:=BJL
 rw[hh3] at A8 st3⊢;have I4:=yao I3 S f3 A8;have st4:tn 0 (ALx (BG2 mS) QY):=Axu st3 BeL;have Ap:ALc kg X.A (.compLoop nK 0 ANZ ϧ (BAQ ALj)) (BHr kg X.A xL use Qv ϧ ALj)
   (ŀ s3 (ALx (BG2 mS) QY)):=by
  have stat:BeG (pH APJ [] H' b):=fun hn b hb=>
   ⟨Ajz,W' I4.ok.exf,I4.ok.Je b hb,.DV hb,lS I4.ok.exf,BDZ⟩
  refine z8p (uB n (Bj2 (W i n vs H'))) ?_ m0
   ⟨0,[],Aax Bc σ,_,I4,st4,Afe f3,w0⟩
  rintro n s5 ⟨i,vs,σ5,H5,I5,U4,fr5,w5⟩;obtain⟨ha5,hz5,⟨ABQ,qn⟩ | ⟨go,hz,ABT⟩⟩:=T' i n vs H5 w5
  ·refine BZM (Aso APJ Β Β Β (hc _ _) i [] s5 σ5 H5 _ I5 (stat fr5) U4 ABQ);obtain⟨hr,I6⟩:=ED;subst hr;have IX:OE H5 s6:=I3.call' (ch:=fp) I6.os I6.base I6.hok I6.bare (FM ⟨(AWg f3).2.1,AVz f3,(f3 b hb).2.2.2.2.1,(AWg f3).2.2.2⟩);obtain⟨m6,hn6,_⟩:=I6.loc;refine fin A4 ALj H5 s6 IX qn ⟨m6,hn6⟩ I6.free (AEe I3.lt) I3.sz (fun x c e z=> ?_) (At p hp z) (I3.nofs (zN _))
   ·show Ee v q I3.cell x c e;exact fw q.lt A9v
   ·exact vc zG (AJE I3.pin) A9v
  ·
   have I5' :Inv APJ [] AO5 H5 s5:=z9g I3 S f3 I5;refine BZM (Asp APJ Β Β Β (hc _ _) i [] s5 _ H5 _ I5' (stat fr5) U4 go);show ū u hr h6;subst hr;refine bV h6 (At _ s7 B2);obtain⟨x,H7,I7,r7,y7,st7,fr7⟩:=B2;have I7' :=I7.pinned (stat fr7) (T.obj _ _ st7);refine bV (hg _ _ _ _ _ s7 _ H7 x u _ I7' r7 (ABT x H7 y7)) (AOV _ s8);obtain⟨σ8,H8,I8,q8⟩:=ED;refine bV (ht _ _ _ _ _ s8 σ8 H8 _ I8 q8) (OF s9 ED);show ū H9 I9 q9;have ALW:∀{vs' :AV} {DB :St} {H' :Hp} {s' :AD},Inv APJ ([]++vU fp s7.heap) DB H' s' ->(∃m',m' <n/\W DU m' vs' H') ->
     AnY (Bj2 (W i m vs H')) :=fun{vs' DB H' s'} I' ⟨m',hm,w'⟩=>by
    refine⟨m',hm,D',vs',DB,H',I'.unpinned,BcG st7 I'.pin,Kk,w'⟩;show X9 e d (AqD st7);exact Bdz I'.pin
   cases b with
   | AC=>
    show Ô dQ q9 (ALW I9 q9)
   | Κ=>
    rw[E2] at q9⊢;refine bV (he _ _ _ _ _ s9 σ8 H9 _ I9 q9) (At y s10 DR);obtain⟨v,H10,I10,r10,Ru,q10⟩:=DR;refine bV (zx0 (X:=blk X sc N' ALj s3 AUz fp) _ s10 σ8 H10 ϧ [v] ϧ [y] (JP H' (H' =upd H10 A4 (E3 AVQ))) I10 Β (Agp r10) ⟨A4,vs,v,Β,Β,Ru,hz,Β⟩) (At _ s11 Ay);obtain⟨_,H11,I11,_,e11⟩:=Ay;subst e11;exact ALW I11 q10
 exact codeAny_compStart_list Ap (L2 T.self _ st4 Ap)
#where
def Lx(K:AB)(F Hx:Hp)(J:It)(ds:AU):Ι:=AZC (∀(i:Δ) (H1 F1:Hp),Ţ ->rh H1 ->LG Hx H1 ->
 (i=N3 ->J.stop i H1)/\∀d,A8c ->J.go i H1/\∀x H',J.yld i H1 x H' ->∃F2,Gr F1 H1 F2 H' /\Rep K F2 d x)
def O7:Hp:=Awx
theorem z2h:vj O7:=Lw e Ab6
inductive UpI (BaQ):Ι
 | mk:Afo (∀ds A9 F' H' J Hx,AH' ->BB FV (AHi Hx) (Lx K F' Hx J ds) (P ds A9) Ao3) (Ao4 UpI)
def upI(APF)(AZV):TI:=fun σ H R=>(Ao4 UpI)
inductive X3 (BaQ):Ι
 | mk:Afo (Ag1 ds J (Lx K F' O7 J ds) ds Ao3) (Ao4 X3)
def abJ(APF)(AZV):TI:=fun σ H R=>(Ao4 X3)
def QI(BC'):Ι:=BPc abJ
def Vg(BC'):Ι:=BPc upI
theorem O8(h:ð e t)(hi:∀σ H R,t' σ H R ->t σ H R):ð e t' :=AhO R R
theorem rP(h:AQr e t):Vg X F0 H0 tg e t:=fun z E cx=>O8 io (Af2 Bi (by obtain⟨F,Γ,P,S,q,k⟩:=Bi;exact⟨F,Γ,P,S,q,fun ds A9 F' H' J S' s' hJ hp=>k ds A9 F' H' J O7 S' s' z2h hJ hp⟩))
def X4(K:AB)(tl:TE):TI:=BZy (∃xs,nY K H1 a xs/\ (Ż ->AbZ U3)) (∃xs,vR K H1 a xs/\ (Ż ->AbZ Q6))
theorem yiz(hl:PE X l tl):ð l (X4 AG tl):=by
 show DH R;refine bV (kr hl) (n5 B2);show VZ B2;show TL a e q q1;subst e;show AE r1 r1 r1 r1 r1 r1 r1 r1 r1 r1 r1 r1 r1 r1;rcases q with ⟨xs,hq,q⟩ | ⟨xs,hq,q⟩
 ·show Aac I1.list;show BVu zyf (q hz)
 ·show Aac I1.tuple;show BD (BHV BNt ?_) ⟨D1,[D1],_,_,H1,Β,AEQ,zsr a _,nI,Kk,q hz⟩;show AI'
  exact AJO
theorem yja{K:AB}{F Hx:Hp}{a:Ζ}{vs:AV}{ds:AU}(hq:A8Z (vR K H1 a vs))(rs:MZ)(hz:AOZ):A_H (Q6 K a):=by
 show Amj;refine AHm (fun i H1 F1 s1 s2 s3=>(Po (SG ⟨vs,Bci,Τ⟩) d hd))
 show Aaj hd;refine⟨⟨vs,v,Bci,hv⟩,AhD⟩;show u8 y y;have:=y vs (hq _ sL);show Da hv;show L9;exact⟨F1,į s2,A2I⟩
def iL(we):cW:=ŧ (æ d AjU (FX ds) AEv (FX ds))
section
variable{X:Cx}{F0 H0:Hp}{e tg:AJ}{es:DA}{AA:AS}{te:cu}{g:vM}{gs:Ba}{ti:cW}{tb:aH}
theorem yt(h:VT):AQr e (iL te):=A0q yiz io (Af2 DR (Blg DR (BPK (by
 cases d with
 | B_ ds=>
  show AxS;refine Rs a (.DV (BMk AVa ?_));refine⟨lh lQ rs hz,fun i H2 F2 s2 s3 s4=>(Po (SG ⟨vs,AiF,by rw[e,mv];exact zN _⟩) d hd)⟩
  show Aaj hd;refine BPZ AhD;show u8 y y;have:=BfH y;show Da hv;show L9;exact A7g
 | DZ ds=>
  show AxS;exact⟨a,Β,.B0 (BMk A3g (yja (fun H2 s=>tY s hq) rs hz))⟩
 | _=>show AEh))))
def eE(ti:cW)(g:vM)(tb:aH):aH:=AMX D0 ti ds BEg
theorem X5(hc:Fs)(hi:AQr Nw ti)(hg:AbN)(hb:AbG)(AF'):
  Aqz Nw eE ti:=fun z E cx=>
 vo (BDP APe Mc hs) (AVI Ay Ay (AMK ds J hJ h1 (by
  show Bn9;refine Aas σ H N3 A0o (Awp (I i A7)) ⟨N3,C_,LU,F1,AF,R1,lP,i0⟩
  rintro i m σ H ⟨Β,hi,F2,A7,R2,s2,hI⟩;obtain⟨hstop,hgo⟩:=hJ.2 i H F2 s2 ABh z2h;by_cases A8:Aiy
  ·obtain⟨go,yl⟩:=hgo AJd (zZ A8);refine .B0 ⟨go,A'5,fun DB H' p' =>⟨AZq,Τ,Β,A8,p'⟩,AhD⟩
   show A'7 F3 H';exact⟨F3,A7,_,AJd,AeJ gr,rx,T' i AJd A7 (zZ A8) hI,fun Γ4 F4 H4 σ4 R4 s4 p=>⟨F4,Γ4,AiG D2 ABg,R4,p,AKm Big (BoF (Op R5 (BS6 s5) q)) Big⟩⟩
  ·show A3f
   show E5 (A6Q (Op R2 (ABj s2) (K_ _ hI))))))
def Ju(Γ:G2)(j:Δ):GG:=AEq Γ[j]? AY2 (.pu d) EI
def qX(BA:Δ)(FU:DD)(Γ:G2):G2:=AXe BA EI++BHo (Ju Γ)
theorem z2c(oS){σ:St}{Γ:G2}(BA:Δ)(FU:DD)(R:GU):SR K F H F H BLz (qX BA FU Γ):=by
 have len:(Bc BA FU σ).Zs=(qX BA FU Γ).Zs:=XU Bc qX
 have Jv:BDe (qX BA FU Γ):=BCp (by
  show Tl qX;by_cases hi:i<BA
  ·show AmS AFa
   show AKZ (C9 hi) Ajy
  ·rw[AFZ,Fh] at e
   cases q:FU[i - RO Bp2 BA Slot.no]? with
   | Θ=>rw[q] at e;show C6
   | Ε j=>
    rw[q] at e;have e' :Ju Γ j=s:=CY e
    unfold Ju at e';split at e' <;>(subst e';exact Ajy))
 refine⟨į R.g,len,cf i s,fun i j a Io=>by obtain⟨s,o,e,_,h⟩:=Io;exact f_ h (Jv i s o a) e⟩
 by_cases hi:i<BA
 ·refine APr Θ
  ·unfold Bc;show Ayb AFa (C9 hi)
  ·show Tl qX;rw[AFa,Adr,C9 hi] at e
   show C6;trivial
 ·show Tl qX;show Ayn AFZ As5 e
  cases q:FU[i - BA]? with
  | Θ=>rw[q] at e;show C6
  | Ε j=>
   rw[q] at e;have e' :Ju Γ j=s:=CY e
   refine APr A_x
   ·unfold Bc;rw[AFZ,Fh,As5,q];rfl
   ·unfold Ju at e';split at e'
    ·rename_i d hd;subst e';obtain⟨o,e1,v,Β,rv⟩:=ei j _ hd;exact⟨v,gL e1,rv⟩
    ·subst e';trivial
def MP(g:vM)(tc:TT2)(te:cu)(Γ0:G2)(x:D)(P:gc):Ι:=Bhw (te A7 (YN d (P [d])) j9)
def eF(EF:ADm):SE
 | [],P=>ϔ
 | SK,P=>EF x fun ys=>eF EF xs fun zs=>AyF
def dB(BA:Δ)(FU:DD)(ti:cW)(g:vM)(tc:TT2)(te:cu):cW:=We ti ds (eF (MP g tc te (qX BA FU AF)) ds fun ys=>(FX ys))
theorem zp6(f:D ->AU):lx xs AU P gc (∀x∈xs,∀P,P (f x) ->EF x P) (P (xs.flatMap f)) (eF EF xs P)
 | [],_,_,h=>h
 | SK,P,k,h=>k x zY _ (zp6 f BYH (by simpa [BHu] using h))
def dM:TT2:=AQt Κ
def O9(VM)(ifs:DA)(t:TT2):Ι:=Ũ PTs ifs Xq
theorem yu:GH O9 [] dM:=fun z E cx Ν s σ H Q I Rk=>by show U1 Rk;exact yll Ν s σ H Q I (á R JY h)
theorem Pa(h:ACJ QT c):ACJ O9 [c]:=AX6 yla io
#where
section
variable{X:Cx}{F0 H0:Hp}{elt tg Nw:AJ}{ifs:DA}{sc:Oy}{BA:Υ}{FU:DD}{N' :Υ}{AA:AS}{te:cu}{g:vM}{tc:TT2}{ti:cW}
def gX(K:AB)(g:vM):TG:=AZx (∃F0 H0,ae upG g j9 v σ H Q)
def tX(K:AB)(t:TT2):TT:=BBG Xq
def eX(K:AB)(t:cu):TE:=BBG Jj
theorem ztd(gr:tz)(h:AEt)(e:APx):sv:=by
 cases q:F' a with
 | Θ=>rfl
 | Ε u=>
  show Ah9 (gr.n a u q h)
  ·show AXP e
  ·rw[e] at z;show L6;show ie
theorem zqk(oS){σ:St}{Γ:G2}{J:It}{Hx:Hp}{ds:AU}{A4:Ζ}{P:gc}{Q:APz}(R:GU)(hJ:A_H J)(hx:vj Hx)(ha:UT A4)
  (h:eF (Apl MP te) ds P)
  (fin:∀ys F' H' vs,BB AaA FV A9n A3' (BB (H0 A4=Θ) (AUh ys) (AMo A4) (P ys) A4J)):
  Bid eX te:=by
 obtain⟨R1,e1,e2,e3,ap⟩:=Ip (ds:= []) (vs:= []) R ha IU
 have hx1:LG Hx Axs:=BaR
 have xa:BZU:=BgQ
 refine Aas vs H' N3 A0o (∃F' ys,AaA/\FV /\AHi Hx /\A9n/\A3'/\AUh ys/\A0J/\eF (Apl MP te) (ds.drop i) BQP) ⟨N3,C_,LU,F,[],R1,lP,hx1,e1,e2,MY,NY,CY h⟩
 rintro i m vs H' ⟨Β,hi,F',ys,R',sF,hx',ha',Rv,rs,lv,hc⟩;have hz:=hJ.1;refine DM ha' Τ
 obtain⟨hstop,hgo⟩:=BiV;by_cases A8:Aiy
 ·obtain⟨go,yl⟩:=hgo AJd (zZ A8);refine .B0 ⟨go,Τ,BUx⟩
  show A'7 F2 H2;rw[ALz A8] at hc;have R2:=ATk gr;refine⟨F2,H2,F2,Aax qX Γ,_,AJd,Aax z2c R2,rx,hc,Bjx⟩;refine BkF;have sV:BUI:=BM2;cases b with
  | AC=>
   rw[dQ] at q4;refine⟨AZq,Τ,Β,A8,F4,ys,ATk sV,Ĳ sV.f,BXS,BQi,Bdi,ATl sV.f,Τ,?_⟩
   simpa using q4
  | Κ=>
   rw[E2] at q4;refine⟨F2,H2,F4,Γ4,_,R4,q4,fun d Γ5 F5 H5 v R5 s5 rv q5=> ?_⟩;have Dv:A'A:=BM3;have a5:=Dv.h _ _ ha';have f5:=ztd Dv Rv ha';refine⟨a5,AZq,Τ,Β,A8,F5,ys++ [d],?_,Ĳ Dv.f,Kj,gQ,f5,MF (ATl Dv.f) (OJ rv),AjN,?_⟩
   ·have R6:=ATk Dv;refine⟨BO' R6.gr.n,R6.len,cf j sl,R6.ap⟩
    show BV6
    ·show Î e3;show r9 R6.gr.h
    ·show X9 p1 p2 (R6.sl j sl e);show AqI (ĉ (Po (FT p2 hc).1 u q)) (c≠A4) (by subst z;exact ap j BbE) q
   ·show AJl BR5;exact Dv.h b u AxI
   ·simpa [x5] using q5
 ·show A3f
  refine .DV (A6Q (fin ys F' H' vs R' sF ha' Rv e3 rs ap ?_));rw[Bqj] at hc
  simpa [eF] using hc
structure eV (N:Υ) (sc:Oy) (BA:Υ) (FU:DD) (X6:Oy) (N' :Υ):Ι where
 kind:A4y
 nd:N'.Nodup
 snd:BKu
 eD:Bct BHv BHv
 IJ:BXm
 FU:Bgu
theorem eV.cs(h:AR6):AGL :=⟨h.kind,h.nd,h.snd,h.free,h.names,h.caps⟩
def QIg(BC'):Ι:=AUP (PIg JS tg e (ACH upI t E))
theorem yex(S:AR6)(hi:QIg X F0 H0 tg Nw ti)
  (hg:Abh) (ht:Abi) (he:Apv)
  (hn:AYy:=by rfl) (AF'):AH3 nK BEc:=by
 subst hn;rintro z E cx Ν s σ H Q I ⟨F,Γ,P,R,h,k⟩;rw[show eK nK (kP z).BI=BHs nK sc BO _ A8J AC AYd from BoW];refine BY3 (tc:=tX AG tc) (te:=eX AG te) (Q:=Q) Axe APe ?_ ?_ ?_ Β hs I ?_ ?_
 show ArU
 show AmP
 show AmQ
 ·exact BXk (k ys AF F' H' A4 vs R' AkL a1 a2 a3 rs ap hp)
 ·show ArP;exact⟨m,hn,AxF ⟨Ait,H',I5.turned (t' :=s5.toks) (it:=C) (AHf AxP) c1 c2 Aw4 c4 c5,Β,q5⟩⟩
theorem yG(S:AR6)(hc:Fs)(hi:Apx)
  (hg:Abh) (ht:Abi) (he:Apv)
  (hn:AYy:=by rfl) (AF'):AH3 nK BEc:=yex S (fun z E cx=>pig hc APe) hg ht he hn hs
theorem Rx(hN:eJ)(hi' :FL X.N y)(hy:ApD)(S:AR6)(hc:Fs)(hi:Apx)
  (hg:Abh) (ht:Abi) (he:Apv)
  (hn:AYy:=by rfl) (hsw:AGm nK (DJ (LJ y py)) spos.line BO=IO Κ:=by rfl) (AF'):
  BeD (cP i (dB n FU ti g tc te)):=by
 subst hn;rintro z E cx Ν s σ H Dn I ⟨F,Γ,D2,R,h,k⟩;rw[BTe];refine BSK;refine BlV (pig hc APe)
 show ArU
 show AmP
 show AmQ
 ·exact BXk (Op (R'.setOw i a1 a2 a3 rs ap) (ABj sF) hp)
 ·show ArP;refine BGM (EH zq9 I5 hN hi' Azs (v:= Ait) Β BZG Az0);show ū a hsb ha;have ha' :BVy:=ha;have hac:C≠a:=by
   show AM1 ha' ha'
   ·exact c2
   ·exact A1 (c4 y a ha' pr)
  refine Bhr
#where
inductive Pb (K:AB) (g:SE) (vs:AV) (H:Hp) (Q:VK):Ι
 | mk:Ber (∀es us l,A6c ->Ahe ->P es ->Ah5 us) Pb
def Ea(K:AB)(g:SE):wf:=AVH (Pb K g vs H Q)
section
variable{X:Cx}{F0 H0:Hp}{a b e:AJ}{es:DA}{AA p p2:AS}{ta tb te:cu}{t:cW}{x:Μ}
def kj(g:SE)(t:cW):cW:=dq (g ds fun es=>(FX es))
theorem yhm{K:AB}{g:SE}{E:XW}{σ:St}{H:Hp}{Q:VK}(h:upF K F0 H0 (kj g t) E σ H Q):BZq Ea:=by
 show U1 h;refine Bi7 (fun es us l r hl hp=> ?_);obtain⟨R2,e1,e2,e3,ap⟩:=Ip R1 hl r;exact k es AF F1 _ l us R2 s1 e1 e2 e3 r ap hp
theorem zuf{id:KA}{g:SE}(hc:∀z,dY JS ADN (Ea AG g))(hg:J_)(hm:Ϸ)(hv:ϭ ADN)(ha:SH)(hn:ž :=by decide)(hdb:Fr:=by decide)
  (tw):AOt tj g:=fun z E cx=>
 m9 (ARk Q9 AjK hv hn hdb EE) (w4 yhm)
theorem Ry{T:KA}{g:SE}(hc:∀z,dY JS tF (Ea AG g))(hg:J_)(hm:Ϸ)(hv:ϭ tF)(ha:SH)(hn:ž :=by decide)(hdb:Fr:=by decide)
  (tw):AOt tj g:=fun z E cx=>
 m9 (ARk zk4 AjK hv hn hdb EE) (w4 yhm)
theorem zox{T:KA}{g:VX}(hc:∀z,dY JS tF (v7 AG g))(hg:J_)(hm:Ϸ)(hv:ϭ tF)(ha:SH)(hn:ž :=by decide)(hdb:Fr:=by decide)
  (tw):D_ tj A9H:=fun z E cx=>
 m9 (ARk zk4 AjK hv hn hdb EE) (w4 yge)
#where
def rQ:SE:=BXL (P xs) (P xs)
theorem Vh:A3J (Ea AG rQ):=by
 show oy;show Dx rQ;show Of
 ·show AAn;exact Bfx Aoc
 ·show AAn;exact Bfx Aoa
 ·show HA
def vA:VX:=BXL (P Pw) (P Pw)
theorem ykw:AN5 ZN (v7 AG vA):=by
 show oy;show Dx vA;show Of
 ·show AAn;refine BTB (.DV (Po (xz hq) l hl));have gr:=ALo (o:=AeK vs) sF hl;refine á gr ?_ h;exact VA l AFO (ATl NA)
 ·have rs0:=rs;show AAn;refine BTB (.B0 ⟨tY sF hq,q_ ?_ h⟩);exact VA p hq rs
 ·show HA
def Sl(xs:AU)(lo hi:R_):AU:=BNw
theorem z1p(BXO)(r:MZ)(lo hi:R_):NE (Sl ds lo hi) (Ar vs lo hi):=by
 unfold Sl Ar;rw[lQ r];exact zrh _ (zqg _ r)
abbrev M4:=ASE R_
inductive UpO (APF) (t:M4) (E:XW) (σ:St) (H:Hp) (Q:Az3):Ι
 | mk:Afo (∀o A9 F' H',AH' ->FV ->P o A9 ->Q o H') (BiX UpO)
def upO(APF)(t:M4)(E:XW):TO:=AFi UpO
def QO(VM)(e:AXu)(t:M4):Ι:=Ũ PO e upO
theorem poC(h:PO X e t)(hi:∀σ H Q,t' σ H Q ->ä):PO X e t' :=A_w
def qp:M4:=AQt Θ
def pC(we):M4:=AlD HI (P (Ε i) AF)
section
variable{X:Cx}{F0 H0:Hp}{a b e:AJ}{es:DA}{AA p p2:AS}{ta tb te:cu}{t:cW}{x:Μ}{lo hi:AXu}{tl th:M4}
theorem Ly:GH QO Θ qp:=fun z E cx=>poC yij (BMU (rS k R JY))
theorem Ge(h:VT):GH QO AhU (pC te):=fun z E cx=>poC (yh0 io) (LX B2 B2 (AbE (by
 cases d with
 | AL i=>exact⟨i,r,á R1 s1 q⟩
 | _=>show sg)))
def ql(BhL):cW:=BjA û (P BY8 Γ3)
theorem Jw(Bir):AH3 (AjX e BDm) (ql te tl th):=fun z E cx=>
 m9 (Bdp yjo) (LX DR DR (Bjz (BiY (by
  cases d with
  | B_ xs=>
   have r3:=ABi AnS;show EX a vs hq rs r3;refine VA a (R3.g.seq hq) ic;have rc:=z1p rs l u;obtain⟨R4,e1,e2,e3,ap⟩:=Ip R3 hp rc;exact k _ Γ3 F3 _ p _ R4 AmL e1 e2 e3 rc ap h3
  | _=>show UK h3))))
def lX(we):cW:=AlD û BKF
theorem zoy(Me):BBZ (NE ds.reverse vs.reverse)
 | [],_,h=>by subst h;rfl
 | ip,_,h=>by
  show Abl v;rw[AtG,AtG];exact MF (zoy h2) (OJ h1)
#where
section
variable{X:Cx}
theorem toI{A:BM}(h:P8):Ajw:=h
theorem zod(I:AW)(k:A3c)(r:OY)(q:Q v H):ϟ u mE:=⟨v,H,I.kept k,r,q⟩
def oO:AU ->ARu Ψ
 | []=>Ai3
 | HI::r=>Cb oO r (i:: ·)
 | Db=>Θ
def sW:AU ->ARu AN
 | []=>Ai3
 | .bl i::r=>Cb sW r (i:: ·)
 | Db=>Θ
theorem zkb(Me):BXW B6 (oO ds=Ε ns) s0
 | [],vs,ns,r,h=>A9N
 | HI::ds,vs,ns,r,h=>by
  show EX v us Β r r;show Dx oO;cases q:oO ds with
  | Θ=>rw[q] at h;show GN
  | Ε ms=>
   show BBK zkb
 | BS::_,_,_,_,h=>D4
 | li::_,_,_,_,h=>D4
 | nv::_,_,_,_,h=>D4
 | AX5::_,_,_,_,h=>D4
 | ú::_,_,_,_,h=>D4
 | AJg::_,_,_,_,h=>D4
 | AJh::_,_,_,_,h=>D4
 | A2N::_,_,_,_,h=>D4
 | AEz::_,_,_,_,h=>D4
 | AE_::_,_,_,_,h=>D4
 | AP6::_,_,_,_,h=>D4
theorem zvh(Me):BXW AJR (sW ds=Ε ns) .bl
 | [],vs,ns,r,h=>A9N
 | .bl i::ds,vs,ns,r,h=>by
  show EX v us Β r r;show Dx sW;cases q:sW ds with
  | Θ=>rw[q] at h;show GN
  | Ε ms=>
   show BBK zvh
 | BS::_,_,_,_,h=>D4
 | im::_,_,_,_,h=>D4
 | nv::_,_,_,_,h=>D4
 | AX5::_,_,_,_,h=>D4
 | ú::_,_,_,_,h=>D4
 | AJg::_,_,_,_,h=>D4
 | AJh::_,_,_,_,h=>D4
 | A2N::_,_,_,_,h=>D4
 | AEz::_,_,_,_,h=>D4
 | AE_::_,_,_,_,h=>D4
 | AP6::_,_,_,_,h=>D4
theorem z9h(ns:B6)(f:ü)(h:ADX JA (f i=ADK)):BHw f JA=ns.sum:=by
 have Ap:∀k,k<=JA ->BHw f k=(ns.take k).sum:=by
  intro k;induction k with
  | Qb=>intro _;rfl
  | Qr k ih=>
   intro hk;refine(?_:BHw f k+f k=_);show Ayc (ih Η) (h k Η) AeS List.sum_append Aj1
   simp
 rw[Ap _ (AKq _),ķ]
theorem zvq(pl:PlainL h p AY):BSt IsListIter M1 p 0/\ BSt IsList p AY:=by
 refine CI nI;obtain⟨o,n,e,hcl,_,hd⟩:=pl;exact⟨o,zC,hcl,n,hd⟩
theorem z7o(bs:AJR):AWi IP any BT_=bs.any id:=by
 rw[Atf];simp only [AL0,Bqk,id];constructor
 ·rintro⟨i,hi,e⟩;rw[MH,iX] at e;exact ET (yU hi) e
 ·rintro⟨b,hb,e⟩;show AFK i hi hb;exact⟨i,hi,Ú MH iX e⟩
theorem z7p(bs:AJR):AWi IP all BT_=bs.all id:=by
 rw[Atf];simp only [Atg,Bqk,id];constructor
 ·intro h b hb;show AFK i hi hb;have:=h i hi;show t_ MH iX;exact Ρ
 ·intro h i hi;rw[MH,iX];exact h _ (yU hi)
def yfs:VX:=BZ9 bs.any
def yer:VX:=BZ9 bs.all
theorem yhc{bs:AJR}{AY:Au}(rv:IM (x6 .bl) AY){i:Δ}{v:AI}(hv:BK_):v= .bool BN7:=by
 show AAe;show ARD;have hv' :A1e:=CY hv
 have hi:i<IP:=OR (Pl hv')
 show BjG (.bl BN7) ru
theorem z8z{ns:B6}{AY:Au}(rv:A'd){i:Δ}{v:AI}(hv:BK_):AXv/\∃t,v= .AL A5M t:=by
 show AAe;show ARD;have hv' :A1e:=CY hv
 have hi:AXv:=OR (Pl hv')
 show BjG (.AL A5M) ⟨hi,ru⟩
theorem yn4(AAc):AQY "any" yfs:=by
 show oy;show Dx yfs;split at h
 ·show AAn;show TL bs hbs h h;show Rl (zvh rs hbs);show SS;show AE rx rx rx rx rx rx rx rx rx rx rx rx rx rx;show AbP;show AAe;show ARD;refine A9b call_any_walk;have Vi:P6 p:=BBu
  refine Bkn
  ·rw[yhc rv hv];exact ABN hQ
  ·rw[Azp BPs hl,z7o]
   show Bdn bs.any
 ·show HA
theorem ync(AAc):AQY "all" yer:=by
 show oy;show Dx yer;split at h
 ·show AAn;show TL bs hbs h h;show Rl (zvh rs hbs);show SS;show AE rx rx rx rx rx rx rx rx rx rx rx rx rx rx;show AbP;show AAe;show ARD;refine A9b call_all_walk;have Vi:P6 p:=BBu
  refine Bkn
  ·rw[yhc rv hv];exact ABN hQ
  ·rw[Azp BPs hl,z7p]
   show Bdn bs.all
 ·show HA
theorem z1z(AZ_):∀k,Az_ ->∃i,i<=k/\BHy BZB k=i/\∀j,j<=k ->pv j 0<=ADK
 | 0,_=>IS 0 NY (mM (by show FB (j=0) Η;exact Ath _))
 | k+1,hk=>by
  show AbR i (z1z ns k Η)
  unfold BHy;rw[h2];by_cases hg:pv LN 0>ADK
  ·show DF (Co hg)
   refine IS (k+1) NY ARw;by_cases hjk:j=k+1
   ·subst hjk;exact Ath _
   ·have:=h3 j Η;show Ω
  ·show BN (Co hg)
   refine IS i Τ ARw
   by_cases hjk:j=k+1
   ·subst hjk;show Ω
   ·exact h3 j Η
def z65:VX:=AEJ (∃ns m,Anl/\m∈ns/\ (∀i∈ns,i<=m)/\XX m)
theorem yfl{ns:B6}{i:Δ}(h:AXv):ADK∈ns:=by
 show AEX vb;exact yU h
theorem yfm{ns:B6}{m:Ψ}(h:m∈ns):∃i,AXv/\pv i 0=m:=YO i hi Β Ay6 ⟨i,hi,A1U iX⟩
theorem yng(AAc):AQY "max" z65:=by
 show oy;show Dx z65;split at h
 ·show AAn;obtain⟨ns,m,hns,hm,hmx,h⟩:=h;show A7L;show SS;show AE rx rx rx rx rx rx rx rx rx rx rx rx rx rx;show AbP;show Ahu;show ARD;have AA:0<JA:=Bql hm;refine A9b call_max_walk;have Vi:P6 p:=BBu
  refine⟨CF,_,_,_,_,_,_,Β,BoI,zvq pl,?_,AjN,CmpOf.ints_gt AY3 (fun i v hv=>(z8z rv hv).2),IE v h' tk hv kp⟩
  ·intro b hb;rw[UD];rcases Cn hb with Β | hb
   ·show Akh
   ·rcases Cn hb with Β | hb
    ·show APT Vi
    ·show fg hb hb hb hb hb hb hb hb hb hb hb hb hb hb
  ·show DE hi t Β z8z rv hv;obtain⟨i,b1,b2,b3⟩:=z1z ns (xn - 1) da
   have e:pv (BHy BZB (xn - 1)) 0=m:=by
    rw[b2];show Cc j hj ej yfm hm;have q1:=b3 j da
    have q2:=hmx _ (yfl (ns:=ns) (i:=i) (by simp at b1;show Ω))
    show Ω
   rw[e];refine Bn_ (.AL m) Ċ
   show BoB
 ·show HA
#where
def kE:GG ->GG | .ow ds=> Pf ds | .tr _ t=> .pu (toD t) | .nt _ ts=> .pu (Ş jT ts) | .xe _ C _ _=> BQU | s=>s
def gH(Γ:G2):G2:=Γ.map kE
def iM(Γ:G2)(σ:St)(b:Ζ):Ι:=∃j,pJ Γ σ j b
open xx in
theorem z3d(BjQ):∃F1,Ţ/\BcQ/\ (Bab)/\AiC (∃u,AWo/\oP):=by
 let F1:Hp:=dP (qq AOJ F Ax1)
 have s1:Ţ:=BeF
 show EW s2 (rh H) (NO (by
  have e' :AHt AOJ (F b) Ax1:=e;show è
  ·exact R.g b u e'
  ·show è
   ·exact e'
   ·show Ab7)) at1 (∀b u,zw ->XE ->ϱ ->AWo) (fun b u h1 h2 h3=>by
  show BNj=_;rw[CO (AYQ h1),C9 h2]
  exact h3) Jv (BDe (gH Γ)) (BCp (by
  show Tl gH;show BJ9;cases q:Γ[i]? with
  | Θ=>rw[q] at e;show C6
  | Ε t=>
   rw[q] at e;(show KU t t t t t t t t t t t t t t)<;>(show C6;exact Ajy))) BA (AiC (∃u,AWo/\oP)) (FM (by
  obtain⟨j,s,o,e1,e2,hs⟩:=id hb;obtain⟨o',e3,r⟩:=ei j _ e1;rw[e2] at e3;show BE_;obtain⟨h1,_,u,h2,ld⟩:=FT r hs;exact⟨h1,u,at1 _ _ h1 hb h2,ld⟩))
 refine⟨F1,s1,Bgl gH,OF hb hn,BA⟩
 ·show Tl gH;rw[Fh] at e;cases q:Γ[i]? with
  | Θ=>rw[q] at e;show C6
  | Ε sl=>
   show BR1 i sl o e1;have mine:sB (gW sl o b) (MT H) AWo:=XN hb hu (at1 b u (FT r hb).1 Bio hu);cases sl with
   | no=>show C6;trivial
   | pu d=>show C6;show GT v rv r;exact AFI A2I
   | ow ds=>
    show BkC (mine a _ Β h1)
   | tr as t=>
    show C6;obtain⟨v,Β,nd,h1,rv⟩:=r;exact AFI (ATc s1 t v as Bc_ rv)
   | nt as ts=>
    show C6;obtain⟨p,vs,Β,e2,nd,h1,rv⟩:=r;refine DM Air Β;exact VA p (Akg s1) (ALp s1 ts vs as Bc_ rv)
   | xe as C fs ts=>
    show Bkm
 ·show BNj=Θ;show YV (AYQ hb) hn
theorem yax(BjQ):∃F1,Ţ/\BcQ:=by
 obtain⟨F1,s1,R1,_⟩:=z3d R;exact⟨F1,s1,R1⟩
theorem zyb(AgU){F0 H0 F H H' :Hp}{σ:St}{Γ:G2}(R:GU)(s:AQP):km F H':=by
 refine ALu (ADb (fun b u e=>s b u (R.g b u e)) s)
def scD:APb | BS=>KI | li=>KI | im=>KI | nv=>KI | _=>EM
theorem yl7(BfY)(h:scD d)(r:OU):u7:=by
 cases d with
 | non=>exact r
 | bl=>exact r
 | AL=>exact r
 | AO=>exact r
 | _=>show HA
def eZ(we):cu:=fun Γ P _=>te (gH Γ) (YN d (scD d/\P d Γ)) j9
def dF(t:TT2):TT2:=fun Γ P _=>t (gH Γ) (fun b _=>P b Γ) j9
section
variable{X:Cx}{F0 H0:Hp}{e:AJ}{te:cu}{tt:TT2}
theorem Rz{E:XW}{F1 H1:Hp}(cx:BCQ):Ctx X F1 H1 j9:=
 BlC cx.pq
theorem zyk(h:AAh VT):D_ e (eZ te):=fun z E cx=>by
 show ArO;show Cc F1 s1 R1 yax R;exact h F1 H z j9 ARr Ν s σ H Q I ⟨F1,gH Γ,_,R1,q,fun d A9 F' H' v R' s' r hp=>k d Γ F H' v BX_ JY (yl7 hp.1 r) hp.2⟩
theorem yjw(h:AAh (lf QT tt)):lf QT (dF tt):=fun z E cx=>by
 show ArO;show Cc F1 s1 R1 yax R;exact h F1 H z j9 ARr Ν s σ H Q I ⟨F1,gH Γ,_,R1,q,fun b A9 F' H' R' s' hp=>k b Γ F H' BX_ JY hp⟩
def jE(i:Δ)(te:cu):cu:=fun Γ P E=>(AFL (r_ AI8) (te Γ (fun k AF=>(AgJ k AF[i]? Ϭ (Ε Ă) (∃d,n6 ds k=Ε d/\FX d))) E))
theorem yg7{i:Δ}{x:Μ}{b:AJ}{AA I_ :AS}(hN:HV)(hv:OV)(hb:AUJ b)(hs:zy5 b)(AhP):
  Ahq APj b (jE i te):=fun z E cx=>
 m9 (yma ybr dC Mc hs) (Wp B2 (by
  obtain⟨F,Γ,P,R,⟨⟨xs,e0⟩,h⟩,k⟩:=B2;show A7n;refine⟨EO,e1,F,Γ,_,R,h,fun d AF F1 H1 v R1 s1 r1 q1=> ?_⟩;cases d with
  | AL m=>
   subst r1;split at q1
   ·rename_i m' ds hm e2;show AE hm hm hm hm hm hm hm hm hm hm hm hm hm hm;show TL d ed hp q1;obtain⟨o,e3,a',vs',ea,g1,g2,g3,r'⟩:=AwJ;rw[e1] at e3;show ArR;show AE ea ea ea ea ea ea ea ea ea ea ea ea ea ea;show DE w ew qj zvb r' ed;exact⟨a,vs',m,w,Β,Β,ACa g1,ew,k d AF F1 H1 w R1 s1 qj hp⟩
   ·exact q1.elim
  | _=>show UK q1))
#where
def OwR(X:Cx)(id:KA)(g:AQm):Ι:=
 ∀(Ν:dX) (s:AD) (σ:St) (F H:Hp) (l:Ζ) (vs E7:AV) (xs ds:AU) (us:Au) (P:gc) (Q:VK),BB AW (Pc l XG) VW (Ò xs vs) (G_ (Ò ds E7) (ACS E7) (g xs ds P) (∀ys ws,Ò ys ws ->P ys ->Q BS (b_ l ws)) (A'g AWf))
def qY:AQm:=BCd [d] (A1p/\P (xs++ [d]))
def X7(xs:AU)(k:Δ)(d:D):AU:=xs.take k++d::AdG k
def vB:AQm:=BCd [Ϭ,d] (0<=k/\k<=B1/\A1p/\P (X7 xs k.toNat d))
def zuw:AQm:=BCd (bE ys) (BWX (P (xs++ys)))
section
variable{X:Cx}
theorem RB:OwR X BG_ qY:=by
 intro Ν s σ F H l vs E7 xs ds us P Q I hl sF rs ra rv h k;show Dx qY;split at h
 ·obtain⟨v,_,Β,rd,Β⟩:=ra;exact zx0 Ν s σ H Aid [v] Aid us Q I Β rv ⟨l,vs,v,Β,Β,hl,NN mv EJ,k _ _ (MF rs (OJ rd)) h.2⟩
 ·show HA
theorem z7r:OwR X "list.insert" vB:=by
 intro Ν s σ F H l vs E7 xs ds us P Q I hl sF rs ra rv h k;show Dx vB;split at h
 ·rename_i j d;obtain⟨v,_,Β,rj,w,_,Β,rd,Β⟩:=ra;subst rj;show a_ h0 h1 h2 hp;obtain⟨u1,u2,Β,⟨t,Β⟩,r2⟩:=vals2 rv;obtain⟨z,AY,n,r,E9,e⟩:=AtI hl;have hxl:=lQ rs;have hfit:¬(AEl (Bqm j)):=by
   have hn:=qT;unfold Bqm;simp;show Ω
  refine Ady Bqn AkD PySem.F.entry_list_insert (PySem.F.args_list_insert_3 _ _ _) (AutoSeq1.list_insert_list_int_val_1 l QP n j t u2 hfit AZI) (CI e)
  have hk:(B3 (j<0) (lr j AVy) (min ABS xn))=ABS:=by
   rw[CO Η,WO]
   show Ω
  refine k9 BS (AtJ (eQ :=its.take ABS++u2::its.drop ABS) (ys:=vs.take ABS++w::vs.drop ABS) hl e ?_ ?_ ?_) (k _ _ ?_ hp)
  ·rw[hk];show Boc;simp;exact BHz A0
  ·exact(r.take _).append (.AX r2 (r.drop _))
  ·simp;show Ω
  ·exact MF (zrh _ rs) (qF rd (zqg _ rs))
 ·show HA
#where
section
variable{X:Cx}{F0 H0:Hp}{x D5:Μ}{KM GW Ĺ AA:AS}{e:AJ}{es:DA}{id:KA}{i:Δ}{t:cW}{g:AQm}
def qJ(i:Δ)(g:AQm)(t:cW):aH:=fun D Γ E=>(AFL (r_ AI8) (A'u (Bcp (AZw (.ow ys)))))
theorem yd4{z:O2}{σ:St}{F Fa H Ha:Hp}{Γ AF:G2}{xs:AU}{a:Ζ}{D2:rZ}{Dn:j'}{vs E7:AV}{ds:AU}(_R:AGK)(R1:kq Fa Ha AF)(s1:fR Fa)(k:yF AG F0 H0 F D2 Dn)(e1:AZF)
  (q:Bcp (A3H (.ow ys))):
  ∃vs xs P,Hk Ha XG/\AaX Fa xs/\g xs ds P/\∀ys ws,aK AG Fa ys ws ->P ys ->Dn.nx σ (upd Ha a Awv):=by
 split at q
 ·rename_i xs e;obtain⟨o,e2,a',vs,Β,g1,g2,g3,r⟩:=R1.sl i _ e;rw[e1] at e2;show i8;exact⟨vs,xs,_,g1,r,q,fun ys ws qj hp=>Op (R1.wr e e1 qj) s1 hp⟩
 ·exact ĳ
theorem M5(hr:∀z,OwR JS id g)(O_:PySem.Slot K2 D5 id)(hty:BYt)(hN:HV)(hv:OV)(ha:SH)
  (AXX)
  (LE:Avw D5:=by rfl)
  (xo:U_ (AmM IQ (! x.1)&&ApT) (Aqr (Su IQ) 30):=by rfl)
  (PF:à:=by rfl) (hs:AGN:=by rfl) (ABY:ANg es:=by rfl)
  (hsw:Beq BWP Θ:=by rfl):
  ay (.AJ BWP AA) (qJ i g t):=by
 intro z E cx;refine vo (ky zzl te (AUd (QK i σ H (Ń v (tyV AG K2 v H1/\Vd AG F0 H0 t E σ H1 fun vs H2=>Bkt)))) ?_ hsw) ?_
 ·refine PV yn6 X AHF T K2 id id r (fun v vs H2 Q=>Bkt)
   Bqp O_ hty ?_ dC FY LE xo PF hs ABY
  rintro Ν s σ H x xs v us Q I rx rs ⟨l,ys,ws,Fz,Pd,ds,e1,h1,h2,h3,h4,h5,h6⟩;subst e1;show Kx;exact hr z Ν s σ Fz H l ws xs ys ds us Pd Q I h1 h2 h3 h4 rs h5 h6
 ·rintro Dn σ H ⟨F,Γ,D2,R,⟨⟨xs,e0⟩,h⟩,k⟩;show A7n;refine Bkp;obtain⟨ws,ys,P,g1,g2,g3,g4⟩:=PV yd4 z z vs vs E7 us xs xs R R1 s1 k e1 q1;exact⟨a,ys,ws,F1,P,ds,Β,g1,JI,g2,r1,g3,g4⟩
#where
#print _3
namespace _3
open II Os J' _2
section
variable{X:Cx}{F0 H0:Hp}{st:AT}{i:Δ}{t:cW}
theorem RD(h:ay st (cP i t)):ay st (aW i (dN t)):=fun z E cx=>
 vo io (qk Dn Bi (by
  obtain⟨F,Γ,D2,R,q,k⟩:=Bi;have Ap:(fun(ds:AU) (AF:G2)=>(AEq (ı i Ă)[i]? (.ow ds') (ABg ((ı i Ă).set i (.pu (E3 ds')))) (A3H Ă)))=fun ds AF=>(A3H Aki):=by
   funext ds AF
   by_cases hi:i<Γ1.length
   ·rw[ALD hi];dsimp only;rw[AtO]
   ·rw[AeB (Co hi)]
    rw[BJ',BJ']
  refine⟨F,Γ,{D2 with nx:=fun A9 =>(AEq A9[i]? Ă (ABg (Γ'.set i Aki)) (ABg A9))},R,?_,AKm (fun A9 F' H' DB R' s' q' => ?_) k.bk k.ct⟩
  ·show BV (t Γ _ E);dsimp only;rw[Ap];exact q
  ·dsimp only at q';split at q'
   ·rename_i ds e;obtain⟨a,F2,_,s2,R2,_⟩:=R'.frz e;exact AEI R2 (s'.trans s2) q'
   ·exact AEI R' s' q'))
#where
def iQ(t u:cu):cW:=We t d (ώ u d' (AgJ d d' û AjV (BWX (P A8d A7))))
section
variable{X:Cx}{F0 H0:Hp}{a b c:AJ}{AA:AS}{ta tb tc:cu}
theorem yaq{M:A2}{w:An}{A:BM}{E:dO}{s:AD}{l b:Ζ}{vs ws:Au}{Q:dO}(hl:AkZ ph)(hb:Bqe b BH0)
  (h:AZv (AUT (A6W).Ĩ)) (hsz:D6 (MG+Ll)):AUB (AS6 M w) (Asr .Add Aid Aie):=by
 obtain⟨⟨cls,dd,ABH,sl⟩,ho,hc,n,hd⟩:=id hl;obtain⟨⟨cls2,dd2,data2,sl2⟩,ho2,hc2,n2,hd2⟩:=id hb;simp only at hc hd hc2 hd2;subst hc hd hc2 hd2;have e:ph++BH0=(A6W).Ĩ:=C_
 refine concat_meets (OP ho) (OP ho2) noFill_list_add seq_list_add PySem.F.slot_list_add PySem.F.entry_list_add (PySem.F.args_list_add_2 _ _) (list_addW l b ph BH0 n n2 dd dd2 sl sl2 (Co hsz)) (DM ho ho2)
 show Ts e
theorem zs1(ha:X2)(hb:Ŷ):AH3 (.BinOp a .Add b AA) (iQ ta tb):=fun z E cx=>
 m9 (ky ymu r (AJH (∃p q xs ys,x= .As p/\y= .As q/\nY AG H p xs/\nY AG H q ys/\D6 (B1+M')/\Be4 A8d)) (by
  rintro Ν s σ H x y v u Q I rx ry ⟨p,q,xs,ys,e1,e2,h1,h2,hz,k⟩;subst e1 e2;show AE rx rx rx rx rx rx rx rx rx rx rx rx rx rx;show AE ry ry ry ry ry ry ry ry ry ry ry ry ry ry;obtain⟨AY,r,pl,_⟩:=QQ h1;obtain⟨its2,r2,pl2,_⟩:=QQ h2;have l1:=Sf;have l2:=r2.length;refine yaq kM pl2.isList ?_ Η
  exact ř _ (AUU I.lnew (BG' r2) (ş N1)) (k _ Ati)) FY Mc) (LX B2 B2 (ARm (by
   cases d1 with
   | B_ xs=>
    cases d2 with
    | B_ ys=>
     have r1' :=ABi s2;show AFU r1';show EX q ws B2 Iu r2;refine⟨p,q,vs,ws,Β,Β,BHW hq,BHW B2,by rw[<- mv,<- lQ Iu];exact h2.1,CA l hl⟩
     have ra:=MF rs Iu;obtain⟨R3,e1,e2,e3,ap⟩:=Ip R2 hl ra;exact k _ A7 F2 _ l _ R3 sL e1 e2 e3 ra ap h2.2
    | _=>show UK h2
   | _=>show UK h2)))
def Iv:D ->AN | BS=>Κ | li=>Κ | im=>Κ | nv=>Κ | _=>AC
def eqD:BUp
 | BS,BS=>Κ
 | .bl a,v6=>AIK
 | .bl a,APa=>BXo
 | APZ,v6=>a==(B3 b 1 0)
 | APZ,APa=>AIK
 | Ajh,Aji=>AIK
 | _,_=>AC
def inD(x:D)(xs:AU):AN:=xs.any fun y=>eqD y x
def rR(neg:AN):HM:=Ū (æ y û BYB uj BYB)
theorem Jx(Ap0)(h:Iv d=Κ)(r:OU):qC v=Κ:=by
 (show KU d d d d d d d d d d d d d d)<;>first | (subst r;rfl) | (show L7 h zJ)
theorem abK(Me){d e:D}{v u:V}(h:Iv d=Κ)(h' :Iv e=Κ)(r:OU)(r' :ņ e u):Mw v u=eqD d e:=by
 (show KU d d d d d d d d d d d d d d)<;>first | (show L7 h zJ) | (subst r;(first|subst e|exact aaA e|exact aaB e|exact aaD e|exact aaC e|exact aaF e|exact aaE e|exact aaG e|show Ae0|show OC e|show OA e|show NB e|show OB e|cases (e))<;>first | (show L7 h' zJ) | (subst r';rfl))
theorem X8(Me):Bgc (vs.all qC=Κ)
 | [],vs,r,_=>AzO
 | ip,vs,r,h=>by
  show ARj;rw[AtC,kK] at h⊢;exact⟨Jx EJ r1,X8 r2 h.2⟩
theorem Jy{K:AB}{F:Hp}{x:D}{u:V}(hx:Iv x=Κ)(rx:ņ x u):Bgc (inV u vs=inD x ds)
 | [],vs,r,_=>AzO
 | ip,vs,r,h=>by
  show ARj;show A7z h;unfold inV inD;rw[AGz,AGz,abK EJ hx r1 rx];have:=Jy hx rx r2 h.2;unfold inV inD at Ρ;rw[Ρ]
theorem RG:ć In Amu:=by
 rintro Ν s σ H x y v u Q I rx ry ⟨F,d1,d2,P,sF,r1,r2,h,k⟩;show Dx rR;show Of
 ·show AFU r2;show Th h1 h2 h3;exact zv9 Ν s σ H x _ v u Q I rx ry ⟨p,vs,Β,Aoc,ApC,Aoe,q_ (Y3 (Jy h1 r1 rs h2)) h3⟩
 ·show AFU r2;show Th h1 h2 h3;exact zv9 Ν s σ H x _ v u Q I rx ry ⟨p,vs,Β,Aoa,ApC,Aoe,q_ (Y3 (Jy h1 r1 rs h2)) h3⟩
 ·show HA
theorem ype:ć NotIn (rR Κ):=by
 rintro Ν s σ H x y v u Q I rx ry ⟨F,d1,d2,P,sF,r1,r2,h,k⟩;show Dx rR;show Of
 ·show AFU r2;show Th h1 h2 h3;exact znh Ν s σ H x _ v u Q I rx ry ⟨p,vs,Β,Aoc,ApC,Aoe,q_ (Y3 (Jy h1 r1 rs h2)) h3⟩
 ·show AFU r2;show Th h1 h2 h3;exact znh Ν s σ H x _ v u Q I rx ry ⟨p,vs,Β,Aoa,ApC,Aoe,q_ (Y3 (Jy h1 r1 rs h2)) h3⟩
 ·show HA
def cD(g g' :HM)(ta tb tc:cu):cu:=We ta x (ώ tb y (g x y fun r=>(al r (.bl k) (ID k BiA (P AIU A7)))))
theorem zxg{K:AB}{g g' :HM}{E:XW}{σ:St}{H:Hp}{Q:VK}(h:Jj K F0 H0 (cD g g' ta tb tc) E σ H Q):DG (sy K g) (sy K g') (AaD ta) (AaD tb) (AaD tc) σ H Q:=by
 show U1 h;refine AMM x v1 (BlK y ⟨F2,x,y,_,ABh,A2c,r2,h2,fun d z F' H' gr rz hp=> ?_⟩);cases d with
 | bl b=>
  refine DM b rz;have R3:=AeJ gr;cases b with
  | Κ=>
   show XY;have hp' :BiA:=hp;exact⟨F',A7,_,R3,hp',fun w Γ3 F3 H3 v3 R4 s4 r4 h4=>⟨F3,y,w,_,R4.g,r2.up (BHt s4),r4,h4,fun d z F5 H5 gr5 rz5 hp5=>k d Γ3 F5 H5 z (R4.grow gr5) (BS6 gr5.f) rz5 hp5⟩⟩
  | AC=>
   show AjO;have hp' :P AIU A7:=hp;exact k _ A7 F' H' _ R3 (Af_ NA) IU hp'
 | _=>show UK hp
theorem zt4(BiO):D_ AqY (cD g g' ta tb tc):=fun z E cx=>
 m9 (Bdf yds AX0 hm) (w4 zxg)
theorem yde(BiO):iF AqY (cT (cD g g' ta tb tc)):=fun z E cx=>
 O3 (Bdf ye1 AX0 hm) (Bd3 zxg)
#where
def yfj(sc X6:Oy):Oy:={sc with IJ:=sc.names.map fun ADo=>if (k== S_&&X6.kind== AMm&&BHv n==Ε cc) then(n,cc) else ADo}
section
variable{X:Cx}{F0 H0:Hp}{x:Μ}{AA:AS}{d:D}
def Lz(K:AB)(mg:ER)(x:Μ)(d:D):Ι:=∃v u,ANc u/\OY/\∀F,OU
theorem ygf(hg:J_)(h:Lz AG pE x d)(BWY):D_ vt (cC d):=by
 obtain⟨v,u,hm,r,rp⟩:=h;exact Xu (FG (EH yic hg hm r hd)) rp
theorem glb_tup{K:AB}{mg:ER}{a:Ζ}{od:OW}{AY:Kb}{n:Δ}{sl:AEO}{ds:AU}(hm:ANc EV)(hk:Hk ZH ⟨PQ ZN,od,A1r,sl⟩)(hz:AzI)
  (hv:∃vs,IM vs BGL/\∀F,MZ):Lz K mg x (KP ds):=by
 obtain⟨vs,rv,rp⟩:=hv;refine⟨EO,EO,hm,Β,LV F⟩;exact VA a (.B0 ⟨_,AY,n,hk,Β,Β,hz,rv⟩) (rp F)
#where
structure Jz (BbN) (st:AT) (f:Ζ) (fd:FS) (dV:AI):Ι where
 ex:∃(oc:AI) (od:OW) (kV doc pm:AI) (an:OW) (cdv ct:AI) (osl:AEO),
  fd=As6 x FD AIn tm yo dV kV doc pm an cdv ct/\AqK fd osl/\A'V
 kp:AXF
section
variable{P:A2}{w:An}{K:AB}{mg:ER}{DI:AQ}
theorem abL(AGJ){st:AT}{f:Ζ}{fd:FS}{dV:AI}{N ps:Υ}{k:Δ}{sp:dJ}(Fn:Jz K x FD st f fd dV)(S:ARe ps)(len:Abx)
  (Ĭ:ASS (∀F0:Hp,
   ∃t,rM cS F0 H tm t/\A'i A__)):
  A2b pB:=by
 show AKT;refine Aat H Q E Bi B2
 ·obtain⟨F,ds,P',Ex,_,rs,hs,_⟩:=Bi;rw[<- mv];exact Aa6
 obtain⟨F0,ds,Pd,Ex,sF,rs,hsp,hQ,hE⟩:=B2;show A7X;have cx:Abt:=by
  refine⟨fun Ν σ Γ F H1 s1 e s' I R hx=> ?_,ART⟩;refine ASU;show Ab1;exact Ab2
 exact BER (ANp (Fk (Pd BS)) Pd) (AoD (fun Γ F' H' σ R' _ q=>BY5) AFS AFS Bjk)
structure RJ (BPe):Ι where
 ex:∃f fd,AKM pB/\ANc Lv/\AXF/\AIO/\ATI K fd ps [BH]
#where
def dW(sp:dJ)(t:cW):cu:=dq (AfR (ds++ [BS]) (Ÿ (FX d)) C C)
section
variable{X:Cx}{F0 H0:Hp}{e:AJ}{es:DA}{AA p:AS}{x:Μ}{ps:Υ}{k:Δ}{sp:dJ}{t:cW}
theorem ydl(BEM RJ):
  D_ tj (aq sp t):=by
 obtain⟨f,fd,h1,h2,h3,h4,_⟩:=x0;exact ybw h1 hr hg h2 h3 h4 ha hdb he EE
#where
def VE(AFo):Ι:=AvI Adm JU Bor
def lY(K:AB)(ta:cu):cu:=Bn1 (mL K C0/\Js K C0/\VE K C0) AYU
def lZ(K:AB)(Cs:B5)(ta:cu):cu:=BdR (Cs.any fun C=>bI K C0 C)
theorem zu9(Bfe){s:AD}{h' :AQ}{t' :Δ}{fp:B5}(I:AW)(k:Am5 (b∉fp))(hf:AY9):AzH:=by
 have Wv:gy H (b∉fp):=XN e z (AQs (hf b z).1)
 refine BEW fp AYY (fun b o _ _ hc e _=>A3d) (BNi A3d) BTl (BPV A3d) AiR (AUA e e) BVv (TU m hm) (Kj) Ħ
 ·obtain⟨f0,f1,f2,f3,f4,f5⟩:=hf b hb;exact⟨f3,f1,f4,f5⟩
 ·obtain⟨o,es,ep,ho,r⟩:=hm;exact⟨o,es,ep,k _ o (FG ((hf _ z).2.1 Β)) ho,r⟩
 ·refine Ax7 A5c v (k c v ?_ q);show ARF hc
  ·rw[z];show r9 Wv
  ·exact Wv c _ z
theorem zoc(h:Au0)(hb:NV):Avv AZk:=⟨U2 hb EJ,h.2⟩
theorem zy0(Bk6 h' AQ){t' :Δ}{fp:B5}{xs:AV}{AY:Au}(I:AW)(k:Am5 (b∉fp))
  (A8:lm (P6 b)) (ht:ADT Se AxD) (hv:AOC) (hz:Ż) (hf:AY9):
  AOo Pw AN3:=by
 have I1:AOo Pw BT6:=
  A1g (É) HT (ACU _ _ _ Pw ⟨hz,AY,hv,Ash _ _⟩)
 refine zu9 (s:=BT6) (fp:=fp) I1 (AHf ?_) (FM (zoc A0g (zK (A8 b hb))));rcases Heap.get?_push_cases e with ⟨Β,Β⟩ | e
 ·exact ht
 ·exact k b o hb e
def Ite(K:AB)(a:Ζ):It:=
 BXh (∃b v,x= .As b/\NU/\H' =upd H b (KP [HI,v])/\∀xs,ϊ ->AHo xs)
theorem z6r(BBV)(a e it:Ζ)(hne:e≠it):Turn P w K A_4 (Ite K a) [e,it] e (UU h ((∃old,IsEnum h e it L5 old)/\BOw)) where
 mem:=C_
 obj:=fun i h q b hb=>by
  show Abs;show AKf
  ·exact AaZ q
  ·show AKC
   show A_Z
 KL:=fun i h h' q k=>by
  show Abs;exact Ϧ old (k e A0 _ q) (st.at fun o z=>(Agy z))
 UA:=by
  show Akr;show Abs;show SV;show BDg;show ARW QQ;show Cc u hu ru ALP hx;have el:P6 e:=zG q;have il:P6 it:=by show AOS z st;exact zG z
  show BD (wpAny_pyNext_enum_item q st ALQ (x:=u) AjA hne fun h1 eo st1 ht hs1 k1=> ?_) (BCt wpAny_letOwnedTupleGo_enum eo);have G7:A_L e:=sb;have I2:AOo (KP [HI,x]) (ń h2 AHn):=
   zy0 (fp:= [e,it]) (AY:= [.AL i Mm,u]) I (y9 o z (ATn b o h_ (k1 b o h_ h_ z)))
    (NJ (by
     show AKf
     ·exact el
     ·show AKC
      exact il))
    ((G7.2 _ (AEe el)).EC ht) (BAl E4 ru) AnZ hf
  refine⟨Ais,_,I2,Β,⟨_,x,Β,Ati,Β,A9' Asl⟩,⟨CI u,(st1.extBut ATn A1G)⟩,Kk⟩
  ·have:Azl=L5+1:=Τ
   rw[Ρ];exact e2
  ·refine(zoc A0g ?_).1;show AKf
   ·exact zK el
   ·show AKC
    exact zK il
 K_:=by
  show Akr;show Abs;show SV;show BCM;show Aac QQ;show AAe;exact wpAny_pyNext_enum_end V_ q st ALQ da (BLw [e,it] (y9 o z (eb b o h_ z)))
 QU:=BLu (by
  show Abs;exact Bqq q h)
theorem zr1:AW9 ě ě:=AK
def Yb(A6T):TI:=BbO (Ż ->AbZ Ite)
theorem yk4{X:Cx}{a:AJ}{ta:TA}{p AA:AS}(BO9)(hg:Gl X ě)(hm:RS ě)(ha:AKK [a])(hs:AXR:=by rfl):
  PI X AhL BMJ (Yb AG ta):=by
 show DH R;refine Call_ (ď zr1 (AXf AmJ hs Β));show AI7 ED;show EX l xs hq q q1;show Cc u Β rx ALb r1;show Kx;show A9f;refine call_enumerate_list kM (IE h' e1 st hsz kp);refine me Bqq e1 ⟨rL,BQR,_,_,H1,Β,Aup kp,z6r l _ _ (ALN (Adl _)),⟨FF e1,st⟩,Kk,q hz⟩;have hb2:Aye b:=by
  show AKf
  ·exact ATO _
  ·show AI'
   exact zN _
 exact I1.fpOk hb2 (ALS hb2)
def LC:ACG AU AU
 | _,[]=> []
 | k,x::r=> .DZ [Ϭ,x]::LC LN r
theorem zum:∀(k:Δ) (xs:AU),Ϡ (RO LC k xs)
 | _,[]=>Β
 | k,x::r=>by show RO LC LN r+1=Sf+1;rw[zum]
theorem ztc:∀(k:Δ) (xs:AU) (i:Δ),(LC k xs)[i]?=(xs[i]?).EL fun d=> .DZ [.AL (Lu (k+i)),d]
 | _,[],_=>Β
 | k,x::r,0=>Β
 | k,x::r,D'=>by
  show(LC LN r)[i]?=_;rw[ztc LN r i,IY (k+1+i=k+ DU)]
  rfl
def uf(tS):cW:=dq (ACV AUc (FX (LC 0 xs)))
theorem yei(BkH):AZ3 (Ite K a) (LC 0 xs):=by
 show Amj;refine⟨mt zum,ASR (SG ⟨vs,AiF,by rw[e,zum];show Ω⟩)⟩
 rw[ztc] at hd;cases hx:xs[i]? with
 | Θ=>show LO hx hd hd hd hd hd hd hd hd hd hd hd hd hd hd hd
 | Ε x=>
  rw[hx] at hd;show Ab4;show Aaj hx;refine BPZ Aag;show ACT b v2 hb Β z z;have:=BfH z;rw[hv] at Ρ;show BPa [HI,v] hb;unfold Rep;refine Y1 b AFO (qF ?_ (qF ((ATj s2).up NA) (by unfold aK;rfl)))
  unfold Rep;simp
section
variable{X:Cx}{F0 H0:Hp}{a b e tg:AJ}{es:DA}{AA p pt:AS}{te:cu}{t:cW}{g:vM}{tb:aH}{elts:DA}
theorem zig{x1}(hc:Fs)(hg:Gl X ě)(hm:RS ě)(ha:ANz)(hs:AXR:=by rfl):
  A9Y BMJ (uf t):=Bcq yk4 (A'F (by
  unfold uf at*;show AEc
  ·show Abj;exact BAi (A3v (yei hq rs hz))
  ·show vE))
#where
def ug:VX:=Ae9 (æ ds [v6] (XX (B3 b 1 0)) [HI] (XX i))
theorem ykj:AN5 AGa (v7 AG ug):=by
 show oy;show Dx ug;show Of
 ·show AKN Β;show SS;show Kx;exact call_int_bool ⟨im,H,AUj,E4,ADq⟩
 ·show AKN Β;show SS;show XZ;exact call_int_int ⟨im,H,I,E4,ADq⟩
 ·show HA
theorem zsm:Bbi A'd BML
 | [],_,EB=> EB
 | n::ns,_,Aou=>by
  show MW h;exact A0L (zsm r)
theorem Xe:Bbi BML A'd
 | _,_,EB=> EB
 | _,_,sQ _ _ r=> sQ E4 (Xe r)
def yw:SE:=AEJ (∃ns,Anl/\JA<64/\Aae B6 (ĺ ns) BNz s0)
section
variable{B9:A2}{w:An}{A:BM}{E:dO}{s:AD}
def iR(t:AN)(h:AQ)(it l:Ζ)(i:Δ):Ι:=A'4 (Bpm it l i) (Bpn it l i)
def ji(t:AN)(h:AQ)(l:Ζ)(xs:Kb):Ι:=A'4 (h.IsList l xs) (h.IsTuple l xs)
theorem Pg(x:AIt h)(k:∀o,AEx it ->ADQ it):AIt h':=by
 show AEd t t t t t t t t t t t t t t (A'K k)
theorem zzm(x:ji t h l xs)(k:∀o,AEx l ->ADQ l):ji t h' l xs:=by
 show AEd t t t t t t t t t t t t t t (A'K k)
theorem zub(x:AIt h):Axw (AEx it):=by
 show AEd t t t t t t t t t t t t t t (let ⟨o,ho,_,d⟩:=x;AEy AvZ)
theorem Yc(hl:ApI)
  (hQ:AZv (bi (B3 t Bqr BHx) (AXG l))):Akz l:=by
 show Ab3
 ·exact AtV hl hQ
 ·exact BHV hl hQ
theorem zne(hit:AIt A6)(hl:ApI)(hx:ci)
  (hQ:ADW (iR t h' it l DU) (A7H it) (Q x Sr)):BRw:=by
 show Ab3
 ·exact wpAny_nextOf_list_item hit hl hx hQ
 ·show Bjo (z6 (ALs ho hd A0 (z7 (Rs x (z7 (hQ _ ?_ AxH))))))
  exact A'1
theorem zxh(hh:P8)(hit:AIt A6)(hl:ApI)(hx:xs[i]?=Θ)
  (hE:Bcn Bdj):BRw:=by
 show Ab3
 ·exact wpAny_nextOf_list_end hh hit hl hx hE
 ·show Bjo (BOg (ALs ho hd A0 ?_))
  show uA VO A7I BDL
  show BD A7J A0d
  first | show ck Ajw hh | rw[hh]
  refine BSJ;exact hE _ _ BXE AV5
structure Bf (z TI TO i1 i2 l1 l2:Ζ):Ι where
 p:TI≠z/\TO≠z/\i1≠z/\i2≠z/\TI≠TO/\TI≠i1/\TI≠i2/\TO≠i1/\TO≠i2/\i1≠i2
 q:l1≠z/\l1≠TO/\l1≠i1/\l1≠i2/\l2≠z/\l2≠TO/\l2≠i1/\l2≠i2
theorem Bf.k(Bl9)(D:Bll Bf):Aar:=by
 obtain⟨⟨a1,a2,a3,a4,a5,a6,a7,a8,a9,a10⟩,b1,b2,b3,b4,b5,b6,b7,b8⟩:=D;exact⟨a1,a2,a3,a4,a5,a6,a7,a8,a9,a10,b1,b2,b3,b4,b5,b6,b7,b8⟩
theorem z73(BjU){Q:dO}(D:Aar)(hz:Anj)(hTI:An8)(hTO:AnA)
  (h1:ApY) (h2:ApZ) (hl1:AR9) (hl2:ASG) (hx:HR xs k1 x) (hy:HR ys k2 y)
  (hQ:BaL (ų h' x y ->A3m h' ->G_ (A3n h') Bcu BMY AoA (Af3 Sr))):AVY BSR (uB fin (∃v,Ax0 v/\Q v s')):=by
 have kI:∀{t:AN} {h h' :AQ} {it l c:Ζ} {i:Δ},BcT:=AqG Pg;have kS:Bk_:=AqG zzm;show ø (AXB (field (BQ z) 2)) (gu (AVq AUF) Β);show ø (AXB (field (BQ z) 3)) (Am8 TI);show To (AQ1 hTI) BTg;show BD VO (z6 (AVq BH Β AgE));simp only [xk];refine BKP;show AkI (Am8 TO) BXI ED (AQd g1) ED VO;show Bda;refine ApF;refine Bji;have Yd :ų g2 a b:=Bh8;show AkI (AQ1 Yd) (z6 (BH6 Yd (At g3 t3 hs3))) t3 (ų g3 x b) t3 BSL;show BD ApF (z6 (zne Bkd Bj3 hy fun g4 q2 Ph=>AIk));have t4:ų g4 x b:=Atm _ _ D.TOi2 t3;show AkI (AQ1 t4) (z6 (BH6 t4 (At g5 t5 Pj))) t5 (ų g5 x y) t5 (z6 (BH7 (z7 (z7 ?_))));show BD (AQ1 t5) (k8 BH8);have hsz:ATs=CF:=by rw[Pj.1,Ph.1,hs3.1,hs2.1,hs1.1]
 have hz5:AQd g5:=AeT _ _ BH9 (Atm _ _ D.i2z.symm (AG8 _ _ BH9 (ATr _ _ BH_ ED)));show EW hk5 (Bl6 BOJ) (BjX (BiB c2 Atm e)) r1 (A3m g5) (kI (kI (kI q1 AG8 D.TOi1.symm) Atm D.i12) AeT D.TOi1.symm) r2 (A3n g5) (kI q2 AeT D.TOi2.symm) zlt (z<ATs) (zG hz5);refine VO;have hz6:AQd (g5.push (zD #[x,y])):=z8 _ hz5;refine BnV hz6 (At g7 hz7 hs7)
 replace hz7:AMp g7 (ADf ATs):=hz7;refine Atl hz7 A0 (At g8 hz8 hs8)
 replace hz8:AMp g8 (ADf ATs):=hz8;have up:∀c o,c≠z ->BOJ ->g8.get? c=Ε o:=fun c o c1 e=>(BTw c1 c1 cq);have hT8:ATq g8 ATs x y:=BTw (AEe zlt) (AEe zlt) AoQ;have sz8:g8.objs.size=ATs+1:=by rw[hs8.1,hs7.1,UD]
 rw[hsz] at hz8 hT8 sz8;refine z7 AFH;rw[hsz];exact hQ g8 hz8 (up _ _ D.TOz t5) (Pg r1 (ţ (up _ o D.i1z e))) (Pg r2 (ţ (up _ o D.i2z e))) hT8 sz8 (BjX (up c o c1 (hk5 c o c1 c2 c3 c4 e)))
theorem ycs(BgD){Q:PY Fin}(hh:P8)(D:Aar)(hz:Anj)(hTI:An8)(hTO:AnA)
  (h1:ApY) (h2:ApZ) (hl1:AR9) (hl2:ASG) (hend:BXv)
  (hE:Bcn (AoA)):KS BSR:=by
 have kI:∀{t:AN} {h h' :AQ} {it l c:Ζ} {i:Δ},BcT:=AqG Pg;have kS:Bk_:=AqG zzm;show ø (AXB (field (BQ z) 2)) (gu (AVq AUF) Β);show ø (AXB (field (BQ z) 3)) (Am8 TI);show To (AQ1 hTI) BTg;show BD VO (z6 (AVq BH Β AgE));simp only [xk];refine BKP;show AkI (Am8 TO) BXI ED (AQd g1) ED VO;show Bda;refine ApF;cases hx:xs[k1]? with
 | Θ=>
  refine z6 (zxh hh Bnw Bnj hx (MX g2 e hs2 he));obtain⟨oe,hoe,hce⟩:=he;have hz2:AQd g2:=hs2 _ _ BH_ ED;have hez:e≠z:=BlR hz2
  exact Atl hz2 A0 fun g3 _ hs3=>hE g3 e (fun c o c1 _ c3 _ x=>AG8 _ _ c1 (hs2 _ _ c3 (AL1 _ _ c1 x))) ⟨oe,AG8 _ _ hez hoe,hce⟩
 | Ε x=>
  have hy:Bnk:=by show APP hend h;rw[hx] at h;show GN;exact h
  refine Bji;have Yd :ų g2 a b:=Bh8;show uA (AQ1 Yd) (z6 (BH6 Yd (At g3 t3 hs3))) BSL;show BD ApF (z6 (zxh hh Bkd Bj3 hy (MX g4 e Ph he)));obtain⟨oe,hoe,hce⟩:=he;have hz4:AQd g4:=Ph _ _ D.i2z.symm (AG8 _ _ BH9 (ATr _ _ BH_ ED));have hez:e≠z:=BlR hz4
  exact Atl hz4 A0 fun g5 _ Pj=>hE g5 e (fun c o c1 c2 c3 c4 x=>(BiB c1 Ph x)) ⟨oe,AeT _ _ hez hoe,hce⟩
theorem z3s(BjU){Q:Aj9}(D:Aar)(hz:Anj)(hTI:An8)(hTO:AnA)
  (h1:ApY) (h2:ApZ) (hl1:AR9) (hl2:ASG) (hx:HR xs k1 x) (hy:HR ys k2 y)
  (hQ:BaL (ų h' x y ->A3m h' ->G_ (A3n h') Bcu BMY AoA (Q (Ε ADh) Sr))):AKB z:=by
 have hT:BTK :=OP hz;exact z6 (BH' (Adv (D5:=AgF) hT Atn (AxX Atn hT Bqw (z73 D hz hTI hTO h1 h2 hl1 hl2 hx hy fun h' a1 a2 a3 a4 a5 a6 a7=>z7 (hQ h' a1 a2 a3 a4 a5 a6 a7)) Bqx)))
theorem yam(BgD){Q:Aj9}(hh:P8)(D:Aar)(hz:Anj)(hTI:An8)(hTO:AnA)
  (h1:ApY) (h2:ApZ) (hl1:AR9) (hl2:ASG) (hend:BXv)
  (hQ:AmV (AoA)):AKB z:=by
 have hT:BTK :=OP hz;refine Ajc (Adv (D5:=AgF) hT Atn (AxX Atn hT Bqw (ycs hh D hz hTI hTO h1 h2 hl1 hl2 hend (MX h' e hk he)) Bqx));show X9 ho hc he;refine BRM (AEy hc);exact z7 (hQ _ hk)
def Ye(t:AN):KA:=if t then Bqr else BHx
abbrev zH1(t1:AN)(h:AQ)(l1:Ζ):AQ:=BXR ATV
abbrev zH2(ArD):AQ:=(zH1 t1 h l1).UC (bi (Ye t2) (AXG l2))
abbrev zH3(ArD):AQ:=BDN zH2 (zD #[.As M1,.As (A7f h)])
abbrev zH4(ArD):AQ:=BDN zH3 (zD #[BH,BH])
abbrev Vj(ArD):AQ:=BDN zH4 (bi eA #[BH,AUF,AUF,BYN zH2,BYN zH3])
theorem ybg(x:ji t h l xs)(o:Obj):ji t (ATV o) l xs:=zzm x (L3 e zC)
theorem JB(hl:ApI)
  (hQ:AZv (bi (Ye t) (AXG l))):Akz l:=Yc hl hQ
theorem RK(t1 t2:AN)(l1 l2:Ζ)(xs ys:Kb):Meets (Builtin.«zip.__new__» (H_ [PQ eA,.As l1,.As l2])) (fun _ R s=>AR9/\ASG/\AwV (BQ (AvR zH4)) (am (Vj t1 t2 A6 l1 l2))):=
 Bik (by
  show AFn;show Th hl1 hl2 h;have hsub:=sub_zip;have hL1:ji t1 (Shared.heap (ACO hp tk)) l1 xs:=hl1;have hL2:ji t2 (Shared.heap (ACO (BXR hp.push) tk)) l2 ys:=ybg hl2 _
  wp_walk using JB hL1,JB hL2
  exact RU h)
theorem z12(e:gI (bi (Ye t) (AXG l))):iR t h a l 0:=by
 show AEd t t t t t t t t t t t t t t (Aub e)
theorem yav(hl1:AR9)(hl2:ASG)
  (h:ADW (IsZip h' BMQ BK7 BM_ BH) (ATq h' BK7 ADh (BQ nk)) (G_ (ATq h' BM_ BH BH) (iR t1 h' CF l1 0) (iR t2 h' nk l2 0) (∀c o,AUQ c ->ADQ c) (NM BMQ Sr))):A8q eA [.As l1,.As l2]:=by
 refine callType_new F.called_zip Χ (F.typeCall_zip_2 _ _) (F.newCall_zip_2 _ _) (Bn obj (F.args_object_init_3 obj _ _)) F.entry_zip_new (RK t1 t2 l1 l2 xs ys) (DM hl1 hl2)
 have z1:AW8 (A7f A6):=APQ;show EW z2 (A9T zH2 2) (A0K z1) z3 (A9T zH3 3) (A0K z2) z4 (A9T zH4 4) (A0K z3) g5 (A7a zH4) RR;show EW g4 (A7a zH3) (z8 _ AoQ) g3 (A7a zH2) (z8 _ A_G) g2 (Awf (A7f A6)=Ε _) (z8 _ (z8 _ A_G)) g1 (ADT Awf _) (z8 _ (AZ2 A_G));rw[z2,z3,z4] at g5;rw[z1,z2] at g3;rw[z3] at g4;rw[z1] at g2;rw[z4];exact⟨OP g5,h _ g5 g3 g4 (z12 g1) (z12 g2) fun c o x=>z8 _ (AZ2 (AZ2 x))⟩
#where
def Sq(t:AN)(K:AB)(H:Hp)(a:Ζ)(xs:AV):Ι:=A'4 ϊ AFR
theorem Vk(I:AW)(h:BDJ xs):BCS (ji t A6 a QP):=by
 show Ab3
 ·obtain⟨AY,rv,p,hz⟩:=Ay4;exact⟨AY,rv,ALQ,hz⟩
 ·obtain⟨AY,rv,p,hz⟩:=kC h;exact⟨AY,rv,p,hz⟩
theorem yg3(I:AW)(h:BDJ xs)(h' :BDJ ys):xs=ys:=by
 show Ab3
 ·exact Asl h h'
 ·exact BGU h h'
def Itz(K:AB)(t1 t2:AN)(a b:Ζ):It:=
 ⟨Ť (∃xs ys x y,BBk/\BBl/\ci/\Au5),fun i H v H' =>∃c x y,v= .As c/\UT c/\H' =upd H c (KP [x,y])/\ (∀xs,BBk ->ci)/\∀ys,BBl ->Au5,
  Ť (∃xs ys,BBk/\BBl/\ (AWr\/M'<=i))⟩
theorem zap{n l1 l2:Δ}(h1:l1<n)(h2:l2<n):Bf (n+4) (n+2) (n+3) n UV l1 l2:=by
 have e:∀a b:Δ,a≠b ->(a:Ζ)≠b:=A2K;refine⟨⟨SO,SO,SO,SO,SO,SO,SO,SO,SO,SO⟩,SO,SO,SO,SO,SO,SO,SO,SO⟩<;>(show qA)
theorem yct(BBV)(t1 t2:AN)(a b z TI TO i1 i2:Ζ)(D:Bf z TI TO i1 i2 a b):Turn P w K A_4 (BCk b) Aq8 z
  (UU h (AMp h BH/\Bl4 h/\ (∃u v,ų h u v)/\iR t1 h i1 a i/\iR t2 h i2 b i)) where
 mem:=C_
 obj:=fun i h q c hc=>by
  show ArJ;show ASF hc;show BES
  ·exact AaZ q1
  ·exact AaZ q2
  ·exact AaZ q3
  ·exact zub q4
  ·exact zub q5
 KL:=fun i h h' q k=>by
  show ArJ;exact⟨k z A0 _ q1,k TI A0 _ q2,⟨u,v,k TO A0 _ q3⟩,Pg q4 (ţ (k i1 A0 o e)),Pg q5 (ţ (k i2 A0 o e))⟩
 UA:=by
  show Akr;show ArJ;show SV;obtain⟨xs,ys,x,y,Bi,B2,hx,hy⟩:=hg;obtain⟨AY,rv,p,_⟩:=Vk I Bi;obtain⟨jts,Vl,p2,_⟩:=Vk I B2;show Cc ux hux rux ALP hx;show Cc uy huy ruy Vl.get hy;have lt:∀c∈ Aq8,P6 c:=ĉ (by
   show ASF hc;show BES
   ·exact zG q1
   ·exact zG q2
   ·exact zG q3
   ·show AOS e (zub q4);show c9
   ·show AOS e (zub q5);show c9)
  have Dk:=D.k;refine z3s Dk q1 q2 q3 q4 q5 p p2 (x:=ux) (y:=uy) (Co hux) (Co huy) fun h1 a1 a2 a3 a4 a5 a6 k1=> ?_
  refine BCt wpAny_letOwnedTupleGo_zip a1;have G7:A_L z:=sb;have zl:=lt z A0
  have I2:BOm (KP [x,y]):=
   zy0 (fp:= Aq8) (AY:= [ux,uy]) I (BPW (BVK h_ h_ e))
    lt ((G7.2 _ (AEe zl)).EC a5) (BAl rux ruy) AnZ hf
  refine⟨Ais,_,I2,Β,⟨_,x,y,Β,Ati,Β,fun zs hz=>(CL (yg3 I hz Bi) hx),fun zs hz=>(CL (yg3 I hz B2) hy)⟩,⟨e2,?_,⟨ux,uy,ATn _ _ Dk.TOz a2⟩,BUm a3 Dk.i1z,BUm a4 Dk.i2z⟩,CA c hc⟩
  ·exact ATn _ _ Dk.TIz (k1 _ _ Dk.TIz Dk.TITO Dk.TIi1 Dk.TIi2 q2)
  ·exact Bcj lt
 K_:=by
  show Akr;show ArJ;show SV;obtain⟨xs,ys,Bi,B2,hx⟩:=hg;obtain⟨AY,rv,p,_⟩:=Vk I Bi;obtain⟨jts,Vl,p2,_⟩:=Vk I B2;have l1:=AdZ;have l2:=Vl.length;refine yam V_ D.k q1 q2 q3 q4 q5 p p2 ?_ fun h' k1=>(IC (AwL zu9 fp Aq8 I (fun c o hb e=>BVK h_ h_ e) hf))
  rcases hx with hx | hx
  ·show E5 da
  ·show HL da
 QU:=BLu (Bq0 q.1 h)
theorem ycm:AW9 eA eA:=AK
def abM(A6T):TI:=AiH (∃t1 t2 a b xs ys,vs= [EO,.As b]/\Sq t1 K H1 a xs/\Sq t2 K H1 b ys/\ (Ż ->AXz ->R (BCk b) H1))
theorem yn9{X:Cx}{a b:AJ}(BDn)(BO9)(hg:Gl X eA)(hm:RS eA)(ha:AKK rV)(BiE):
  PI X AhL BOU (abM AG ta):=by
 show DH R;refine Call_ (ď ycm (AXf AmJ hs EE));show AI7 ED;obtain⟨t1,t2,l1,l2,xs,ys,Β,Bi,B2,q⟩:=q1;cases r1 with
 | AX r rr=>
  cases rr with
  | AX r' rr=>
   show ArS;show AE r r r r r r r r r r r r r r;show AE r' r' r' r' r' r' r' r' r' r' r' r' r' r';obtain⟨AY,rv,p1,ED⟩:=Vk I1 Bi;obtain⟨jts,Vl,p2,hz2⟩:=Vk I1 B2;have n1:BoV l1:=by show AEd t1 t1 t1 t1 t1 t1 t1 t1 t1 t1 t1 t1 t1 t1 (let ⟨o,e,_⟩:=p1;zG e)
   have n2:BoV l2:=by show AEd t2 t2 t2 t2 t2 t2 t2 t2 t2 t2 t2 t2 t2 t2 (let ⟨o,e,_⟩:=p2;zG e)
   show BD (yav p1 p2 fun h' e1 e2 e3 e4 e5 kp=> ?_) (Bq0 e1 ⟨BPv,[BPv,D1+2,D1+3,D1,rL],_,_,H1,Β,Aup kp,
    rS (yct t1 t2 l1 l2) _ (zap n1 n2),⟨e1,e2,ET _ e3,e4,e5⟩,CA c hc,q ED hz2⟩)
   have hb2:Aye c:=by
    show ASF hc;show BES
    ·exact Ai_
    ·exact Ai_
    ·exact Ai_
    ·exact zN _
    ·exact Ai_
   exact I1.fpOk hb2 (ALS hb2)
def nC(xs ys:AU):AU:=Ļ (fun x y=> .DZ [x,y]) xs ys
theorem z9p(Me){t1 t2:AN}{a b:Ζ}{vs us:AV}{xs ys:AU}(Bi:A8Z (Sq t1 K H1 a vs))(B2:A8Z (Sq t2 K H1 b us))(r1:tP)(r2:NE ys us)(hz:AOZ):AZ3 (BCk b) A4h:=by
 have l1:=lQ r1;have l2:=lQ r2;have lz:RO nC xs ys=min B1 M':=ATt;refine AHm (ASR (SG ⟨vs,us,Ap_ Bi,Ap_ B2,Τ⟩))
 unfold nC at hd;rw[BIC] at hd;cases e1:xs[i]? with
 | Θ=>show LO e1 hd hd hd hd hd hd hd hd hd hd hd hd hd hd hd
 | Ε x=>
  cases e2:ys[i]? with
  | Θ=>rw[e1,e2] at hd;show Ab4
  | Ε y=>
   rw[e1,e2] at hd;show AE hd hd hd hd hd hd hd hd hd hd hd hd hd hd;show AIM yE r1 e1;show DE u hu ru yE r2 e2;refine⟨⟨vs,us,v,u,Ap_ Bi,Ap_ B2,hv,hu⟩,At w H' z⟩;obtain⟨c,v2,u2,Β,hc,Β,z1,z2⟩:=z;have:=z1 vs (Bi H2 AnS);rw[hv] at Ρ;show AE Ρ Ρ Ρ Ρ Ρ Ρ Ρ Ρ Ρ Ρ Ρ Ρ Ρ Ρ;have:=z2 us (B2 H2 AnS);rw[hu] at Ρ;show BPa [v,u] hc;exact Y1 c AFO (qF ((ATj s2).up NA) (qF ((ru.up s2).up NA) IU))
def Pk(tS):cW:=dq (ACV [x,y] (match x,y with | û,AjV=>FX A4h | uj,.DZ ys=>FX A4h | _,_=>EM))
section
variable{X:Cx}{F0 H0:Hp}{a b e tg:AJ}{es:DA}{AA p pt:AS}{te:cu}{t:cW}{elts:DA}
theorem Vm{x1}(hc:Fs)(hg:Gl X eA)(hm:RS eA)(ha:A0Y)(BiE):
  A9Y BOU (Pk t):=A0q (EH yn9 hg hm FY hs) EE (A'F (by
  unfold Pk at*;split at h1
  ·show AEc
   ·obtain⟨v,_,Β,⟨l,us,Β,hq,rs⟩,⟨v2,_,Β,⟨l2,us2,Β,B2,Iu⟩,Β⟩⟩:=r1;exact⟨AC,AC,l,l2,us,us2,Β,AVa,R1.g.seq B2,fun hz _=>(Ag0 (z9p (t1:=AC) (t2:=AC) (fun H s=>s.seq hq) (fun H s=>s.seq B2) rs Iu hz))⟩
   ·obtain⟨v,_,Β,⟨l,us,Β,hq,rs⟩,⟨v2,_,Β,⟨l2,us2,Β,B2,Iu⟩,Β⟩⟩:=r1;exact⟨Κ,Κ,l,l2,us,us2,Β,A3g,tY JI B2,fun hz _=>(Ag0 (z9p (t1:=Κ) (t2:=Κ) (fun H s=>tY s hq) (fun H s=>tY s B2) rs Iu hz))⟩
   ·show vE
  ·show vE))
#where
def kJ:Υ ->AU ->Μ ->AJa
 | oa,ip,g=>Aa8 (Ε d) (kJ fs ds g)
 | _,_,_=>Θ
theorem zx4{K:AB}{F:Hp}{g:Μ}{x:D}:∀{fs:Υ} {ds:AU} {vs:AV},kJ fs ds g=Ε x ->MZ ->∃v,ARS g=Ε v/\ņ x v
 | [],_,_,h,_=>D4
 | Db,[],_,h,_=>D4
 | oa,ip,vs,h,r=>by
  show ARj;show Dx kJ;show A3x;by_cases e:g=f
  ·show ϖ e;show GN;subst e;exact AEg v r1
  ·show n9 e;show DE u hu ru zx4 h r2;exact⟨u,BKo e hu,ru⟩
theorem Vn:AOM fs Υ (g∉fs) (ARS g=Θ)
 | [],_,_=>Β
 | Db,[],_=>Β
 | oa,AQV,h=>by
  show A3x;have h1:g≠f:=SG (h (IB e))
  rw[BHi h1];exact Vn (vs:=vs) (Bn e (h (zW _ e)))
def mR(C:Ζ)(f:Μ)(te:cu):cu:=ŧ (ϻ (C' =C/\∃x,kJ fs ds f=Ε x/\FX x))
def uU(Bgj):cu:=ŧ (ϻ (C' =C/\AAP/\BZu))
section
variable{X:Cx}{F0 H0:Hp}{e o:AJ}{es:DA}{AA p KM:AS}{f m:Μ}{C fa:Ζ}{fd:FS}{ps:Υ}{k:Δ}{sp:dJ}{te:cu}{t:cW}
theorem zc(hc:ia)(hn:VI)(he:VT)(hb:AUi f:=by rfl):ApA e (mR C f te):=fun z E cx=>
 m9 (EH W0 TZ hb) (LX Bi Bi (mo (by
  cases d with
  | obj C' fs ds=>
   obtain⟨Β,x,hx,hp⟩:=h1;obtain⟨a,dx,vs,Β,ea,hl,rs⟩:=r1;show DE u hu ru zx4 hx rs;exact⟨a,C',dx,_,u,Β,JI _ _ ea,hc,hn,hu,k x AF F1 H1 u R1 s1 ru hp⟩
  | _=>show AEh)))
theorem ylc(Bhu)(hr:sx)(hb:AJI)(ho:AQC)(ha:SH)
  (hst:AGN:=by rfl) (EE:ACZ es:=by rfl)
  (ht:AEs AVc (do
   let ov<- UO o
   AAV
   let (f,first)<- AAm m pl
   AAo (y_ IQ) AFq):=by rfl):
  Aqj uU:=by
 show AF_;refine BCK (ϻ (C' =C/\AAP/\BZu)) A9X Bif
 cases d with
 | obj C' fs ds=>
  show Anp M6;have RL:=rd;show An3;show Y';refine A7Z;refine BEl (bV (ha z E cx AA Ν s1 σ H1 (fun vs H2=>∃F2 A7 es,kq F2 H2 A7/\Afj/\AaX F2 es/\Bn0) I1 (AUm q Bjd))
   fun us s2 ⟨ws,H2,I2,r,F2,A7,es,R2,Gf,Iu,q2⟩=>(CI AeV)) hst EE
  exact Rm (us:= EO::us) (vs:= EO::ws) Fn hr hb cx I2 R2 (.AX Β r) (qF (RL.up Gf) Iu) q2 (Ap4 (kk d A7 F' H' v BLR (Ĳ (Gf.trans NA)) rv hp))
 | _=>show sg
#where
inductive Gg (BlO dJ):Ι
 | mk:∀x dx F_ F ds Pd Ex,(vs= .As x::F_) ->(F7 H (Ō [])) ->(Af5 dx x) ->G_ (dx≠x) AOD (F x=Θ) (F dx=Θ) (BcS (∀d F' H' H3 v,BB (Gr F H F' H3) u7 (Pd d) (H' =upd H3 x (Ō AmD)) AwC) Gg)
def wg(BXT dJ):Sp:=Abg (AyU Gg)
theorem zmw(h:fD P w Ch H2 s2 E e s')(os:s2.os=s.os)(un:AVj A1i [] H2 Ade)(kp:AVb M_ AeH):Aap fD :=by
 obtain⟨a,C,H',B,dx,h1,h2,h3,h4,h5,h6,h7,h8,h9⟩:=h;exact⟨a,C,H',B,dx,h1,BID os,h3,un.trans h4,h5,h6,bP e (h7 b o (gf kp) n),h8,h9⟩
def Gh(C:Ζ)(f:Μ)(sp:dJ):dJ:=Bd4 (Ÿ (P (.obj C [f] [d])))
section
variable{P:A2}{w:An}{K:AB}{mg:ER}{DI:AQ}
theorem yin{x FD:Μ}{st st1:AT}{f:Ζ}{fd:FS}{N ps:Υ}{k:Δ}{sp:dJ}{C:Ζ}{fl:Μ}{E8:AJ}{px I_ AA:AS}(Fn:AGC)(hbd:yD st= [st1,.ALK (Ago (AIC px) fl) E8 AA])(S:ARe AxU)
  (hc:AeU K C) (hn:ADj fl) (hN:HR N 0 Aua) (RM:A5x) (len:Abx)
  (Ĭ:ASS (∀F0:Hp,
   AHY (AGm E8 (DJ (yn (AIC px) fl I_)) Asc (cS).BI)/\
   ∃t te,QS cS F0 H st1 t/\QE cS F0 H E8 te/\
    BfK (t (ANp (fun Γ=>te Γ Bm5 fN) se) (iK N AWx) fN))):
  BVs wg:=by
 show AKT;refine Aat H Q E Bi B2
 ·obtain⟨x,dx,F_,F,ds,Pd,Ex,e,_,_,_,_,_,_,rs,hs,_⟩:=Bi;show A'_ e Aa6
 obtain⟨a,dx,F_,F0,ds,Pd,Ex,ev,hx,hdx,hne,sF,fx,fdx,rs,hsp,hQ,hE⟩:=B2;subst ev;obtain⟨hsw,t,te,ht,hte,hq⟩:=Awr;have cx:Abt:=by
  refine⟨fun Ν σ Γ F H1 s1 e s' I R hx=> ?_,ART⟩;refine ASU;show Ab1;exact Ab2
 rw[hbd];refine ë (zop (ht _ _ cx) (zvd (z6g (me qR hN RM) BOI hsw)));show BD (Bjq (AoD (fun Γ F' H' σ R' s' q=> ?_) ADY ADY ADY)) ⟨F',Γ,_,R',q,fun d AF F1 H1 v R1 s1 rv hp=> ?_⟩;obtain⟨h0,hp⟩:=hp;show X9 eo ro (AEm 0 h0);show GT u ru ro;subst ru;exact⟨EO,eo,a,C,dx,[],Β,Ai9 hx,hc,hn,B4,hQ d F1 _ H1 v R1.gr rv hp Β⟩
#where
section
variable{X:Cx}{F0 H0:Hp}{e:AJ}{es:DA}{AA p:AS}{x fl:Μ}{C f:Ζ}{fd:FS}{ps:Υ}{k:Δ}{sp:dJ}{t:cW}
theorem yjn(M:Mk AG C f)(Fn:Bau wg)(hr:AKS)(hg:J_)(hm:AKI)(hb:AJI)
  (ha:SH) (hdb:Fr:=by decide) (tw):
  BbF:=by
 show AF_;refine Ap9;refine AeM (h₀:=eI) AeN M.kp (AVk (ArI (Awj (Ÿ (FX (.obj C [fl] [d])))))) he EE;obtain⟨vs,H1,I1,r,F1,AF,ds,R1,sF,rs,q⟩:=ED;refine CI xy;have I2:=BVz I1;have n1:Ð aw:=AmF;show EW n2 Ak1 AmE ne BP2 Aox kp Bcy Aj3 sH (LG H1 APH) (A8m n1 n2)
 show EW f1 (F1 aw=Θ) (by
  cases q:F1 (rL) with
  | Θ=>rfl
  | Ε o=>show BFJ) f2 (F1 D1=Θ) (by
  cases q:BoS F1 with
  | Θ=>rfl
  | Ε o=>show LO (JI _ _ q) n2 n2 n2 n2 n2 n2 n2 n2 n2 n2 n2 n2 n2 n2 n2) hs (wg AG C fl sp BL5 APH BOl (fun C' M7 H' =>∃x F',E AF x/\Ax5 /\BCs)) (by
  refine⟨aw,D1,vs,F1,ds,_,_,Β,gQ,A3X,ne,A3N,f1,f2,rs,q,?_,BfS⟩
  rintro d F' H' H3 v gr rv hp Β;refine ϰ;show EW g1 (F' aw=Θ) (by
   cases q:F' (rL) with
   | Θ=>rfl
   | Ε o=>
    show BW9 (gr.n _ _ q f1)) g2 (F' D1=Θ) (by
   cases q:BoS F' with
   | Θ=>rfl
   | Ε o=>
    show Ah9 (gr.n _ _ q f2)
    ·rw[bL ne,gQ] at z;show L6
    ·rw[bL ne,gQ] at z;show L6;show ie) abN (BJN H3 Aud) (gr.h _ _ (ϒ (bL ne) gQ)) sV (Gr F1 H1 BdK (Auz H3 [(fl,v)])) (by
   refine AZA AZf AZf AZf
   ·rw[AVO f1,AVO f2];exact NA _ _ e
   ·by_cases hb:b=aw
    ·subst hb;show Ô gQ e e
    ·rw[tN] at e⊢;by_cases hb2:b=D1
     ·subst hb2;show AKZ gQ abN
     ·rw[AkK] at e;exact gr.g _ _ e
   ·show Î n1;exact gr.h _ _ (sH _ _ e)
   ·by_cases hb:b=aw
    ·subst hb;show E5 n1
    ·rw[tN] at e;by_cases hb2:b=D1
     ·subst hb2;show E5 n2
     ·rw[AkK] at e;have:=gr.n _ _ e n;unfold vW at Ρ⊢;show t_ tN AkK;exact Ρ)
  refine kk _ AF _ _ _ (ATf sV) (Ĳ sV.f) ?_ hp;have s2:LG F' BdK:=A8m g1 g2
  exact⟨aw,D1,[v],Β,gQ,Β,qF (ATj s2) IU⟩) hl (AIo AQN) (by
  have e:=AV1 hs;rw[GV,<- Sf,<- GV (a:=AxK),e])
 have hbs:=hb BaY AQN AeV AxW
 show AGF;refine Bkl;refine ALn (BEn AvC AQN BUf hs) (AU9 hq');cases r with
 | kH e=>
  refine ATg Ν σ AF F1 H1 s1 e s' I1 R1 BPX;have u1:Un ADp [] H1 AfX Adc Axm:=BbZ;have u2:BfP:=BPS (EQ (Ŭ bL ne) n1)
  exact Ato u2
 | ok Yg =>
  cases Yg with
  | ret u=>
   obtain⟨v,H',I3,rv,ev,q3⟩:=BPl;subst ev;exact⟨rv,Bbg⟩
  | KE=>show Ϩ
  | brk=>show Ϩ
  | Nn=>show Ϩ
#where
structure BZ (BCb dJ):Ι where
 ex:BCo (AKM pB)
structure Mk2 (BcU dJ):Ι where
 ex:BVW (BVr wg)
def Yh(BhL):cu:=BjA uj (Bgd (Z' B1 0 l) u/\P (KP BY8) Γ3)
section
variable{X:Cx}{F0 H0:Hp}{e o:AJ}{lo hi:AXu}{es:DA}{AA p p2 KM:AS}{x m fl:Μ}{C:Ζ}{ps:Υ}{k:Δ}{sp:dJ}{te:cu}{tl th:M4}{t:cW}
theorem Vo(G:Aba BZ)(hc:ia)(hr:sx)(ho:AQC)(ha:SH)
  (hst:AGN:=by rfl) (EE:ACZ es:=by rfl)
  (ht:AEs AVc (do
   let ov<- UO o
   AAV
   let (f,first)<- AAm m pl
   AAo (y_ IQ) AFq):=by rfl):Aqj uU:=by
 obtain⟨f,fd,h1,h2,h3⟩:=x0;exact ylc hc h2 h1 hr h3 ho ha hst EE ht
theorem z2d(G:BgR Mk2)(hr:AKS)(hg:J_)(ha:SH)(hdb:Fr:=by decide)(tw):
  BbF:=by
 obtain⟨f,fd,h1,h2,h3,h4⟩:=x0;exact yjn h2 h1 hr hg h3 h4 ha hdb he EE
theorem z94(Bir):Ahq e BDm (Yh te tl th):=fun z E cx=>
 m9 (Bdp ymr) (LX BL BL (Bjz (BiY (by
  cases d with
  | DZ xs=>
   have r3:=ABi AnS;show EX a vs hq rs r3;have E9:=lQ rs;refine⟨a,vs,Β,tY R3.g hq,NN E9 h3.1,ic⟩
   have gr:=ALo (o:=AeK (Ar vs l u)) R3.g hp;refine k _ Γ3 _ _ _ (R3.grow gr) (AHb (AoO NA)) ?_ h3.2;exact Y1 p AFO ((z1p rs l u).up NA)
  | _=>show UK h3))))
#where
mutual
def sX:APb
 | ú=>EM
 | AJg=>EM
 | AEz=>EM
 | AE_=>EM
 | AP6=>EM
 | uj=>jL xs
 | .obj _ fs xs=>GQ fs=AC/\jL xs
 | _=>KI
def jL:gc
 | []=>KI
 | ip=>sX d/\AN_
end
section
variable{K:AB}{F F' :Hp}{A:Aiz}
mutual
theorem yk1(hA:gy F (oP\/MT F')):Bj5
 | BS,_,_,h=>On
 | li,_,_,h=>On
 | im,_,_,h=>On
 | nv,_,_,h=>On
 | AJh,_,_,h=>On
 | AEv,_,n,h=>by
  show Apa;refine⟨a,vs,h0,?_,zkk hA ds vs n h2⟩;show AiV h1 h1 h1 h1
  ·rcases ARy with z | z
   ·exact z.tup.elim
   ·show E5 (Gc z)
  ·rcases ARy with z | z
   ·exact z.frz.elim
   ·show E5 (E6 (cz z))
  ·show HL h1
 | AkW,_,n,h=>by
  show AFk dx vs h0 h1 h3 h4;refine⟨a,dx,vs,h0,?_,h3,zkk hA ds vs n.2 h4⟩;rcases ARy with z | z
  ·show BgH
  ·exact z
 | ú,_,n,_=>ve
 | AJg,_,n,_=>ve
 | AEz,_,n,_=>ve
 | AE_,_,n,_=>ve
 | AP6,_,n,_=>ve
theorem zkk(hA:gy F (oP\/MT F')):Bj6
 | [],_,_,h=>On
 | ip,_,n,h=>by
  obtain⟨v,r,h0,h1,h2⟩:=h;exact⟨v,r,h0,yk1 hA d v n.1 h1,zkk hA ds r n.2 h2⟩
end
#where
theorem z19(Ap0)(h:OU):ArH j (ds.set j d) (vs.set j v)
 | [],vs,j,r=>AzO
 | x::ds,vs,j,r=>by
  show EX u us r1 r2 r;cases j with
  | Qb=>exact qF h r2
  | Qr j=>exact qF r1 (z19 h j r2)
def RP(i:Δ)(ti te:cu):aH:=AmH (AFL (AM2 AI8) (ώ ti k (AgJ k A7[i]? Ϭ (Ε AI8) (∃j,A6w k/\WJ (Atp i (.ow (Ar8 j d)))))))
section
variable{X:Cx}{F0 H0:Hp}{x:Μ}{AA I_ Ĺ:AS}{e k:AJ}{i:Δ}{te ti:cu}
theorem ygr(hN:HV)(hv:OV)(hk:D_ k ti)(he:VT)(AXX)
  (ha:∀v,AS_ BS5 BO v=(do
   let ov<- xN [v] (eK OI BO)
   let iv<- xN [v,ov] (eK k BO)
   AdW I_
   Bez
   BTV):=by intro _;rfl)
  (hs:AZB Am9 e:=by rfl) (hw:Aa9 Am9 e Θ:=by rfl)
  (h1:AbS Am9 [AXy BS5]:=by rfl):
  AUb Am9 e (RP i ti te):=fun z E cx=>
 vo (BeX (EH ynr dC Ai6 ycd ha) h1) (qk Dn Bi (by obtain⟨F,Γ,D2,R,h,kk⟩:=Bi;exact mo (by
  obtain⟨⟨xs,e0⟩,h2⟩:=h1;obtain⟨o,e1,a,vs,Β,g1,g2,g3,r⟩:=Ald;refine⟨EO,e1,F1,AF,_,R1,h2,fun k A7 F2 H2 kv R2 s2 rk q=> ?_⟩;split at q
  ·rename_i k' xs' e2;show TL j hj q q;obtain⟨o,e3,a',ws,Β,w1,w2,w3,qj⟩:=A8x;rw[e1] at e3;show ArR;subst rk;have hl:=lQ qj;refine⟨a,ws,k',j,Β,Β,w1,NN hl hj,?_⟩
   exact rS kk.nx (R2.wr e2 e1 (z19 (ABi s2) j qj)) sL q
  ·exact ĳ)))
#where
section
variable(K:AB)(F0 H0:Hp)
inductive UpR (t:cu) (E:XW) (σ:St) (H:Hp) (Q:VK):Ι
 | mk:Bf0 BW1 UpR
def upR(t:cu)(E:XW):TE:=AFi UpR
inductive Yi (t:cW) (E:XW) (σ:St) (H:Hp) (Q:AP0):Ι
 | mk:Bf1 (aK K (j8 F0 F') ds vs) Yi
def abO(AZV):TA:=AFi Yi
#where
def QR(VM)(e:AJ)(t:cu):Ι:=AZ1 upR
def QRA(BWd):Ι:=Ũ PA es abO
section
variable{X:Cx}{F0 H0:Hp}{e:AJ}{es:DA}{AA:AS}{te:cu}
theorem ybu{K:AB}{F:Hp}{a:Ζ}{vs:AV}(h0:MU F0)(h:Axk):nY K A4i a vs:=by
 have e:j8 F0 F a=F a:=zpg (Lw q (AQy h0))
 show APP h h
 ·left;unfold Rd at h⊢;rw[e];exact h
 ·exact KW h
def Yj(tS):cu:=dq (AN_/\FX ANb)
#where
section
variable{X:Cx}{F0 H0:Hp}{e:AJ}{es:DA}{AA p:AS}{x:Μ}{f:Ζ}{fd:FS}{ps:Υ}{k:Δ}{sp:dJ}{t:cW}{te:cu}
def JC(we):cu:=fun Γ P _=>te (gH Γ) (YN d (P d Γ)) j9
#where
def Yk{α:CB}(lt:uk):A4w ->α
 | .ret a=>a
 | Aqq=>Yk lt (k AQH)
def Vp{α:CB}(lt:uk)(n:Δ):A4w ->AN
 | .ret _=>Κ
 | Aqq=>Φ (i<n)&&(Φ (j<n)&&(Φ AAb&&Vp lt n (k AQH)))
theorem yhf(hc:∀i j (C:A0S),BB (i<n) (j<n) AAb (C AQH s) (cmp i j C s)):
  ∀(t:A4w) (Q:PY α),Vp lt n t=Κ ->Q (Yk lt t) s ->t.kasWp cmp Q s
 | .ret _,_,_,h=>h
 | Aqq,Q,ok,h=>by
  unfold Vp at ok;show A6L ok;exact hc i j _ ok.1 ok.2.1 ok.2.2.1 (yhf hc (k AQH) Q ok.2.2.2 h)
section
variable{B9:A2}{w:An}{A:BM}{E:dO}{s:AD}
theorem z7v{vs:Au}{p:ue}(hp:ACP ATu):ACP (BIF (p.toList.map fun i=>AG9 i T1)).size:=DT hp
#where
theorem zwj(h:mI):BWJ nr (A8Y (A'b e_) (AvQ us.getD))
 | [],_=> EB
 | i::is,k=>by
  have hi:=k i zY;show AIz hu ru (h.get (zZ hi));refine .AX ?_ (zwj h (BDH k));show BV (HP (e_ i BS) (us.getD i T1));rw[MH,MH,iX,hu];exact ru
theorem zv0(BXO)(h:MZ):BWJ Aiy (NE (A'b ds.getD) (A'b AG9))
 | [],_=>Ajk
 | i::is,k=>by
  have hi:=k i zY;obtain⟨v,hv,rv⟩:=yE h (zZ hi);refine qF ?_ (zv0 h (BDH k));show BV (ņ (ds.getD i BS) (AG9 i BS));rw[MH,MH,iX,hv];exact rv
def JD(xs:DD):Ι:=AiQ xs.Pairwise
theorem Yl(h:JD xs)(hij:i<j)(hj:AYF):xs[i]'(AtK hij hj)<xs[j]:=AeW h i j _ hj hij
structure Bel (xs:DD) (j b:Δ):Ι where
 le:b<=B1
 lo:BNu (k<b) (xs[k]<j)
 hi:BNu (b<=k) (j<=xs[k])
theorem zvk(hr:Al3):∀(f lo hi:Δ),lo<=hi ->G_ (hi<=AeX) (hi - lo<=f) (BNv (k<lo) (BLa<j)) (BNv (hi<=k) (j<=BLa)) (Bel w_ j (Bq2 xs j f lo hi))
 | 0,lo,hi,h1,h2,h3,h4,h5=>by
  show YA lo hi
  exact⟨h2,h4,h5⟩
 | f+1,lo,hi,h1,h2,h3,h4,h5=>by
  unfold Bq2;by_cases hl:lo<hi
  ·show DF hl;show EW hm1 (lo<=wy) Τ hm2 (wy<hi) Τ hm (wy<AeX) Τ hg (e_ (wy) j=w_[wy]) (by
    have:wy<xs.size:=CY hm
    simp [Array.getD,Ρ])
   dsimp only;rw[hg];by_cases hc:w_[wy]<j
   ·show DF hc;refine zvk hr f _ hi Η h2 Η (At k hk A8) h5
    by_cases e:k=wy
    ·show vT hc
    ·exact AtK (Yl hr (Τ:k< wy) hm) hc
   ·show BN hc;refine zvk hr f lo _ Η Η Η h4 BPA
    by_cases e:k=wy
    ·subst e;show Ω
    ·show Apw (wy<k) hk
     show Ω
  ·show BN hl;show YA lo hi
   exact⟨h2,h4,h5⟩
theorem z2q(hr:Al3)(j:Δ):Bel w_ j (AL2 xs j):=qV (zvk hr _ 0 _ ϓ A0 Η (fun k _ h=>Τ)) (fun k hk h=>by simp at hk;show Ω)
theorem ym9(h:Bel xs j b)(k:Bel xs j c):b=c:=by
 rcases BIH b c with q | q | q
 ·have hb:b<B1:=zM q k.le;have:=k.lo b hb q;have:=h.hi b hb (zN _);show Ω
 ·exact q
 ·have hc:c<B1:=zM q h.le;have:=h.lo c hc q;have:=k.hi c hc (zN _);show Ω
theorem yj6(hr:Al3)(hn:xs[BR0]?≠Ε j):JD (SetTable.insertAt xs (AL2 xs j) j).toList:=by
 rw[SetTable.toList_insertAt];have hb:=z2q hr j;generalize BR0=b at*;have hn' :∀(h:b<AeX),w_[b]≠j:=fun h e=>hn (by rw[<- Adz,vb,e])
 unfold JD;rw[BII];refine⟨hr.take,?_,MX a ha c hc⟩
 ·rw[AL3];refine⟨CA c hc,hr.drop⟩;show AFK k hk hc;rw[AGu] at hk;rw[Bq3];have h1:=hb.hi (b+k) Η Η
  by_cases e:k=0
  ·subst e;have:=hn' Η
   show Ω
  ·show Apw (b<b+k) Η
   have:=hb.hi b Η (zN _)
   show Ω
 ·show AFK k hk ha;rw[pe] at hk;rw[Bq4];have h1:=hb.lo k Η Η
  show AM1 (Cn hc) hc
  ·exact h1
  ·show AFK m hm hc;rw[AGu] at hm;rw[Bq3];have:=hb.hi (b+m) Η Η
   show Ω
theorem z5o(hr:Al3)(hi:i<=AeX):AL2 xs (AiW (0<i) (w_[i - 1]' Η+1) 0)=i:=by
 refine ym9 (z2q hr _) ⟨hi,At k hk A8,BPA⟩
 ·rw[ATw Η]
  by_cases e:k=i - 1
  ·subst e;show Akh
  ·show Apw (k<i - 1) Η
   show Ω
 ·split
  ·rename_i h0;show Apw (i - 1<k) hk
   show Ω
  ·show A1M
structure G8 (led:AN) (t:pz):Ι where
 ris:BL0
 dum:BnE
 led:t.led=led
theorem z6y:ADS (.ABo 0 0 led):=Rs (XU SetTable.fresh JD) Β
theorem z59(n:Δ):JD (Array.range n).toList:=CL Array.toList_range BIK
theorem zgx(h:AZS)(n:Δ):G8 led (t.standIn n):=Rs (z59 n) h.led
theorem ya1(h:AZS):ADS {t with plain:=AC}:=⟨h.ris,h.dum,h.led⟩
theorem z7u(j:Δ):BIL #[] j=AC:=DT BIL
theorem zsd(BeN){j:Δ}:(BV7 ->ATx[AL2 ATx j]?≠Ε j)/\t.slot j≠ .dummy:=by
 unfold SetTable.slot;rw[hd,z7u];dsimp only;split
 ·exact⟨AzQ,AzQ⟩
 ·show LP;exact⟨Fk (Co q),AzQ⟩
theorem z3a(BeN){ha:ü}{h:Ψ}:∀(f:Δ) (p:SetTable.Probe) {j:Δ} {dm:MM Δ},p.dummy=Θ ->Bq6 t ha h f p=Ε (.empty j dm) ->dm=Θ/\BV7
 | 0,p,j,dm,_,e=>Ab6
 | f+1,p,j,dm,hp,e=>by
  have adv:(t.advance p).dummy=Θ:=by
   unfold SetTable.advance;split<;>exact hp
  show Tl Bq6;split at e
  ·show LP;show C6;exact⟨hp,q⟩
  ·show LP;exact fw q (zsd hd).2
  ·rename_i i q;split at e
   ·show Ē
   ·exact z3a hd f _ adv e
theorem yjm{led:AN}{t:pz}(h:AZS)(es:AAj)(k:Ψ)(x:AI):ADS (layNew t es k x).2.1:=by
 unfold layNew;split
 ·rename_i O_ wd q;unfold SetTable.freeSlot at q;split at q
  ·rename_i j dm e;cases (q);show u8 hs (z3a h.dum _ _ Β e);have hn:=(zsd h.dum).1 hs;dsimp only [BqJ];have hp:ADS (t.put j).1:=⟨yj6 h.ris hn,by show(B3 (BIL BIJ j=Κ) _ BIJ)= #[];rw[h.dum,z7u];rfl,h.led⟩
   unfold SetTable.orStandIn;split
   ·exact hp
   ·exact zgx hp _
  ·show i9
 ·exact zgx h _
theorem z62(h:AZS)(es:AAj)(n:Δ):ADS (Atq t es n).2.1:=by
 unfold Atq;split
 ·rename_i t' order q;dsimp only;split
  ·unfold SetTable.relaid SetTable.laid at q;cases e:SetTable.layClean (SetTable.sizeAbove n - 1) (es.map (·.1)) with
   | Θ=>show LO e q q q q q q q q q q q q q q q
   | Ε owner=>
    rw[e] at q;cases (q);refine Rs ?_ h.led;have CC:∀l:DD,((l.filterMap fun j=>(owner.getD j none).map (j, ·)).map (·.1)).Sublist l:=by
     intro l;induction l with
     | C3=>exact List.Sublist.refl _
     | AX a r ih=>
      rw[AsL];cases owner.getD a Θ with
      | Θ=>exact ih.cons _
      | Ε v=>exact ih.cons₂ _
    exact List.Pairwise.sublist (CC _) BIK
  ·exact zgx h _
 ·exact zgx h _
section
variable{B9:A2}{w:An}{κ:CB}[Ŵ](knd:AGO)(kf:AFh)
structure qZ (led:AN) (o:Obj) (ks:vF) (es:AAj) (ep:Δ) (t:pz):Ι where
 ex:o.ExactSet
 dat:Be8
 el:AoK Ar9
 fit:t.fits FE=Κ
 tok:AZS
 Ap:(Atr A0v).Lm ks
def vC(led:AN)(h:AQ)(a:Ζ)(ks:vF):Ι:=∃o es ep t,Ā/\AFr
def uh(ks:vF)(k:κ):vF:=BBg AZ7
variable{knd kf}(hkf:A'H)
include hkf
theorem yh8(el:AoK es):k∈es.map (Bn e (kf e.2))↔∃e∈es,AeY k e.2=Κ:=by
 rw[ZE];constructor
 ·show APS e he;obtain⟨⟨k',hk',_⟩,_⟩:=el e he;exact⟨e,he,CL (hkf k' _ hk') hk'⟩
 ·rintro⟨e,he,hk⟩;exact⟨e,he,hkf k _ hk⟩
variable{A:BM}{E:dO}{s:AD}{a:Ζ}{ks:vF}{led:AN}
theorem yb5{h:AQ}{o:Obj}{es:AAj}{ep:Δ}{t:pz}(hg:Ā)(hd:Be8)(es' :AAj)(t' :pz):
  Hk (Ats a (BIM es' t')).IN Bet:=by
 have z:=AGx (BIM es' t') hg (Y3 Bdk)
 rwa [Bdk] at z
omit hkf in
theorem qZ.put(S:AFr)(el:AoK es'.toList)(fit:t'.fits es'.size=Κ)(tok:ADS t')(Ap:(es'.toList.map A0v).Lm ks'):
  qZ knd kf led Bet ks' es' (ep+1) t' :=⟨S.ex,Β,el,fit,tok,Ap⟩
theorem yny{k:κ}{x:AI}{Q:A0S}(hx:AeY k x=Κ)(hsc:x.scannable=Κ)(S:BDK A6 ks)(hb:AiU (Sk+1))
  (h:∀b h',Ao8 h' ->BDK h' (uh ks k) ->Q b Sr):KS (setAddHashed a x (Atv k)):=by
 obtain⟨o,es,ep,t,hg,S⟩:=S;have hsz:FE=Sk:=by
  have:=S.key.length_eq
  show t9
 have hmem:=yh8 hkf S.el (k:=k);refine AWM [x] (NH (setState a) (Bq7 hg S.dat S.fit ?_));dsimp only;rw[byScan_of hsc (Τ:AiU FE) S.el]
 refine z6 (NH (pb _) (Adb (NH (setScan a x _ _ _) (wpAny_setScan_of hx hg S.dat S.fit S.el ?_))));cases hr:List.findIdx? (Bn e (AeY k e.2)) Ar9 with
 | Ε j=>
  obtain⟨hj,hpj,_⟩:=List.findIdx?_eq_some_iff_getElem.mp hr;have hk:AZ7:=S.key.mem_iff.mp (hmem.mpr (ET (yU hj) hpj));refine HU (HU ?_);have z:=h AC A6 (Heap.SameBut.refl a A6) ⟨o,es,ep,t,hg,by unfold uh;show DF hk;exact S⟩
  exact z
 | Θ=>
  have hk:k∉ks:=Tb (by
   obtain⟨e,he,hp⟩:=hmem.mp (S.key.mem_iff.mpr q);have:=List.findIdx?_eq_none_iff.mp hr e he;show Da hp;show L9)
  have hperm:=A7j layNew_perm;have hfits:=A7j layNew_fits;have M8:=yjm S.tok es (Atv k) x;generalize A7j layNew=lay at hperm hfits M8⊢;obtain⟨es1,t1,wd,gave⟩:=lay;rw[Bq8] at hperm;have el1:AoK es1.toList:=(S.el.push hx hsc).perm hperm;have key1:(es1.toList.map A0v).Lm (uh ks k):=by
   unfold uh;show BN hk;refine uC hperm.map _ ?_;rw[PM];refine List.Perm.append S.key ?_;show Ct ([kf x].Lm [k]);rw[hkf k x hx]
  show EW sz1 (ATy=FE+1) (by
   have:=hperm.length_eq
   show t9) Ym (D6 ATy) (fits_of_scanBound Η) gw (∀(b:AN) {ES:AD} {Q' :ý},Q' () ES ->AW0 (BbT b) Q') (fun b ES Q' q=>by
    cases b with
    | Κ=>exact Adb q
    | AC=>exact HU q) tail (∀t2:pz,t2.fits ATy=Κ ->ADS t2 ->AVY (do
    Akt es1 t2
    if U_ (! wd) t2.tooFull then do
      (BbT BCO.2.2)
      Akt BCO.1 BCO.2.1
      BTt
     else BTt) (ANI (AH8 (ARB r added (IO added) (setAddHashedIn a x (Atv k) 99999)) s'))) (by
   intro t2 f2 k2;refine OK (Akt es1 t2) (Bq_ hg S.dat ?_ Ym);have g1:=yb5 (hkf:=hkf) hg S.dat es1 t2;have S1:=S.put (ks' :=uh ks k) el1 f2 k2 key1;have sb1:=ATo A6 a (BIM es1 t2);split
   ·have hp2:=relayAll_perm t2 es1 Ag_;have hf2:=relayAll_fits t2 es1 Ag_;have ht2:=z62 k2 es1 Ag_;generalize Atq t2 es1 (Bq9 ATy)=rl at hp2 hf2 ht2⊢;obtain⟨es2,t3,gave2⟩:=rl;have sz2:es2.size=ATy:=by
     have:=hp2.length_eq
     show t9
    show BD (gu gw gave2) (OK (Akt es2 t3) (Bq_ g1 Β ?_ Η))
    have S2:=S1.put (ks' :=uh ks k) (el1.perm hp2) hf2 ht2 ((hp2.map _).EC key1);refine HU (HU ?_);exact h Κ _ (sb1.trans (ATo _ a _)) ⟨_,_,_,_,yb5 (hkf:=hkf) g1 Β es2 t3,S2⟩
   ·exact HU (HU (h Κ _ sb1 ⟨_,_,_,_,g1,S1⟩)))
  refine gu gw gave;split
  ·refine VO;rw[hashByValue_scannable 8 hsc];refine AJ5;refine tail _ ?_ ?_
   ·split
    ·exact hfits
    ·exact SetTable.fits_plain_off hfits
   ·split
    ·exact M8
    ·exact ya1 M8
  ·refine AYi;exact tail _ hfits M8
#where
abbrev nD(Aaz):AN:= !(AeZ Aea)
abbrev M9(Aaz):Obj:={cls:= PQ Mo,ABJ:=Θ,ABH:= .set #[] 0 BPT}
def mU{κ:CB}(Apu):MR vF
 | 0=> []
 | D'=>BZH
theorem zug (Apu):∀i,RO mU val i<=i
 | 0=>NY
 | D'=>by
  have ih:=zug val i;show RO uh Ah0 (val i)<=D';unfold uh;split
  ·show qB
  ·show BPy;show Ω
theorem zoe (Apu):∀{i},k∈mU val i↔∃j,j<i/\val j=k
 | 0=>DT mU
 | D'=>by
  have ih:=zoe val (k:=k) (i:=i);have e:k∈mU val DU↔k∈mU val i\/k=val i:=by
   show Ct (k∈BZH↔_);unfold uh;split
   ·show LP;constructor
    ·exact NS
    ·rintro(z | Β)
     ·exact z
     ·exact q
   ·show BSf
  rw[e,ih];constructor
  ·rintro(⟨j,hj,Β⟩ | Β)
   ·exact⟨j,Τ,Β⟩
   ·exact⟨i,Τ,Β⟩
  ·show APS j hj;by_cases q:j=i
   ·subst q;exact KW Β
   ·show E5 (ij j Τ)
theorem zmm (Apu):∀i,(mU val i).Sc
 | 0=>Ad5
 | D'=>by
  have ih:=zmm val i;show(uh Ah0 (val i)).Sc;unfold uh;split
  ·exact ih
  ·show LP;rw[AL4];refine AEg ih BW4
   rw[AGT] at hb;subst hb;exact AEo q ha
theorem ydz{B9:A2}{w:An}{κ:CB}[Ŵ]{knd:AGO}{kf:AFh}:qZ knd kf ADn AQD [] #[] 0 BPT:=
 ⟨BON,Β,fun e he=>(AMg he),MY,z6y,C_⟩
section
variable{B9:A2}{w:An}{κ:CB}[Ŵ]{knd:AGO}{kf:AFh}(hkf:A'H)
theorem vC.stay(S:vC knd kf led h a ks)(e:∀o,Ā ->ŭ Se):BDK h' ks:=AOp o es ep t hg S S o es ep t (e o hg) S
include hkf
theorem ydx{A:BM}{R:A0T}{I:Ζ}{fp wr:B5}{G:D3 ϕ ϕ}{n:Δ}{P:Aip Δ}{St:PY Δ}
  (W:WalksS B9 w pp I fp wr G n P St) {S:Ζ} (hS:S∉fp) {val:MR κ} (hv:Bhh (P i v)) (hb:AiU (n+1)) {led:AN}:
  ∀(j i:Δ) (s:AD),G_ (i+j=n) (St i s) (vC knd kf led A6 S Ah0) (∀s',Moved (S::wr) G s s' ->vC knd kf led j_ S (mU val n) ->AwV BH s') (BO4 "set.update.loop" [.As S,.As I] R):=by
 have hw:S∉wr:=Tb (hS (W.sub _ q));have grow:NL wr (b∈S::wr):=fS q (zW _ q);intro j;induction j with
 | Qb=>
  intro i s hij st hs hR;show YA i n
  refine BMH;show BOF (NH (ATD ADg) (W.done s _ _ st (CA s' hm)));exact HU (hR s' (hm.mono grow) (hs.stay Bhd))
 | Qr j ih=>
  intro i s hij st hs hR;refine BMH;show BOF (OK (ATD ADg) (W.item i s _ _ Η st (IE v s1 hP st1 hm)))
  show Ee hk hc hv i v hP;have hs1:=hs.stay (h' :=Adc) Bhd;refine ŏ (xN [v] (setAdd S v)) (AWM [v]);show uA (AWM [v] (NH (pyHash v) (knd.pyHash hk ?_))) (yny hkf (s:={s1 with toks:=ATC+1}) hk hc hs1 (by have:=zug val i;show Ω) (MX _ h2 sb S2)) (Ah8 Bq' (ih DU _ Η (W.frame _ s1 h2 _ st1 BJj fun b hb o e=> ?_) S2 (At s3 hm3 S3)))
  ·exact Al0 (AEo hS hb) e
  ·refine hR s3 (Moved.trans W.gtrans ((hm.mono grow).then_heap BJj (ť hb e)) hm3) S3;exact Al0 (AEo hb zY) e
#where
section
variable{B9:A2}{w:An}{A:BM}{E:dO}{s:AD}
theorem zz9(v:AI)(h:Q₁ (BQ CF) BAg):
  AJA RE A (Sm BIN) (H_ [PQ Mo,v]) (wants Q₁ E) s:=by
 refine BrA ?_;refine(?_:AH6 pp (BHj BIN (H_ [PQ Mo,v])>>=Fk (ALW (.Arh BIN (H_ [PQ Mo,v])))));refine z6 (BH4 (PySem.F.newCall_set_1 v) (HU ⟨AvO BrB,AV3 PySem.F.entry_set_new⟩));rw[AN2 BrB];unfold Builtin.«set.__new__» Builtin.Frozenset.newClass;have hsub:=BrC;show AFn
 wp_walk
 refine BIO (HU ?_);exact z6 (wpAny_alloc BPB)
#where
section
variable{B9:A2}{w:An}{κ:CB}[Ŵ]{knd:AGO}{kf:AFh}(hkf:A'H){A:BM}{E:dO}{s:AD}
include hkf
set_option maxHeartbeats 3200000 in
theorem zq3{l:Ζ}{No:Kb}{val:MR κ}{Q:dO}(hh:P8)(hl:AkZ No)(hv:Bhh (AHo No))(hb:AiU (Si+1))
  (h:∀(h' :AQ) (tk:Δ),BgZ ->(A3c) ->Af3 mE):
  A8q Mo (Ç l):=by
 obtain⟨c,tl,yA⟩:=PySem.F.called_set.mro;have hmade:=PySem.F.called_set.made;have hsub:=PySem.F.called_set.sub;refine BNQ;show ø (AU1 (callAny (RH Mo) _)) (rX ⟨BrD _ Uf,AV3 PySem.F.entry_type_call⟩)
 rw[Around.under_plain (weight_type_call_type Mo (Ç l) []) Β];show Y2 q1 PySem.F.called_set.notType q2 PySem.F.called_set.canCreate q3 PySem.F.typeCall_set_1 Aid
 show A8Q
 refine ALn (zz9 (BQ l) (E:=E) (Q₁:=BdY BAg) Ű) (At r ES hr);cases r with
 | kH e=>exact hr
 | ok fl=>
  cases fl with
  | ret obj=>
   show AMG hr;have hS:ADT (ϙ AQD) AQD:=RR;have hT:Aty BAg ADh Mo :=OP hS;have q4:=PySem.F.called_set.init.lookup;have q5:=PySem.F.called_set.init.bind ADh
   show A8Q
   refine ALn (BIQ (R:=wants (qr Iy (r= BH/\∃h' tk,Iy=mE/\BgZ/\
     A3c)) E) PySem.F.called_set.init.plain PySem.F.entry_set_init (check_set_init_1 hT ?_)) (At r₂ Iy hr₂)
   ·obtain⟨ol,hol,hcl,nl,hdl⟩:=hl;obtain⟨oc,od,ot,os⟩:=ol;simp only at hcl hdl;subst hcl;subst hdl;have hol' :ϙ AQD l=Ε (AU0 od (.seq No nl) os):=z8 _ hol;have q6:=PySem.F.sub_list_set;have q7:=PySem.F.sub_list_frozenset;have q8:WZ (Ar7 K2) (Ar7 xi):=B4
    have hl1:AUH AQD IsList l No:=⟨_,hol',Β,nl,Β⟩;unfold Builtin.«set.__init__» noKeywords Builtin.Frozenset.updateFrom;generalize hPI:ALO=PI
    wp_walk
    subst hPI;refine AtV hl1 (z6 (BIR ?_));have hlS:P6 l:=zG hol;have hh3:A.in1.in1.in1.handled=Θ:=DT hh
    have Vq:AW8 (AN4 AQD):=APQ;refine ydx hkf (led:=nD w) ((Walks.list hh3 _ l (gS Vq zK (Ayp hlS)) No).toS) (S:=CF) ?_ hv hb Si 0 _ (BIS _)
     ⟨nI,hl1.push _⟩ ⟨_,_,_,_,z8 _ hS,ydz⟩ (At s' hm hS')
    ·rw[Vq];show Abr;exact⟨Aox,AXY hlS⟩
    ·show A'0;show BAe;show A8j AKv;show A7c;refine AJ5;refine rX ⟨Β,h',tk',Β,hS',AZf⟩;have A8:=zG e;refine Atx b o ?_ (AZ2 e);rw[Vq];show Abr;exact⟨zK A8,zK (AtZ A8)⟩
   ·cases r₂ with
    | kH e=>exact hr₂
    | ok fl₂=>
     cases fl₂ with
     | ret r=>
      obtain⟨Β,h',tk,Β,hS',hk'⟩:=hr₂
      show A8Q
      exact h _ _ hS' hk'
     | _=>exact hr₂.elim
  | _=>exact hr.elim
#where
theorem um:BN4 BH1 BIU := Bk4 BH1
theorem yo2:AiD BIU Builtin.«set_iterator.__next__»:=entryFor_of_tree (by kernel_rfl)
theorem yn1(v:AI):argsOk BIU (H_ [v]):=ng
theorem yco:AiD "set.__iter__" Builtin.«frozenset.__iter__»:=Bn' "frozenset.__iter__"
def Dw(h:AQ)(I:Ζ)(fst:AI)(i:Δ)(S:Ζ)(n ep:Δ):Ι:=∃o,AEx I/\AVp AL5 /\xD= .o_ #[fst,Ŕ i,.As S,Ŕ n,Ŕ ep]
theorem Dw.ty{s:AD}{I S:Ζ}{fst:AI}{i n ep:Δ}(x:AQ' A6):AOw I AL5 :=let ⟨o,ho,hc,_⟩:=x;AEy hc
theorem Dw.at(x:AQ' h)(e:∀o,AEx I ->ADQ I):AQ' h':=A'K e
theorem z00(hi:nr):(xs[i]::AtF i).Lm xs:=by
 rw[List.eraseIdx_eq_take_drop_succ];refine List.perm_middle.symm.trans ?_;rw[<- BKt,Aeb]
section
variable{B9:A2}{w:An}{A:BM}{E:dO}{s:AD}
theorem yb6(hn:n≠0)(h:∀i d,i<n ->Q i A9Z):KS (Aec src n):=fun Γ p _=>by
 unfold Aec;rw[Sem.wp_choose];exact⟨hn,h _ _ (BIV _ (Boe hn))⟩
theorem zw7(n:Δ):∀(xs:CU) {s:AD} {Q:PY CU},B1=n ->(∀ys d,ys.Perm xs ->Q ys A9Z) ->KS (drawOrder n xs):=by
 induction n with
 | Qb=>
  intro xs s Q hn h;have:xs= []:=Atz hn;show nN;exact HU (h [] AKv JY)
 | Qr n ih=>
  intro xs s Q hn h;cases xs with
  | C3=>show fg hn hn hn hn hn hn hn hn hn hn hn hn hn hn
  | AX x xs=>
  refine NH (Aec _ _) (yb6 A0 (At i d hi))
  show BMD;refine z6 (ih ((x::xs).BIW i) ?_ fun ys d' hp=>(rX (h _ d' ?_)))
  ·show BME;show Ω
  ·refine uC hp.cons _ ?_;exact z00 hi
section
variable{S I:Ζ}{fst:AI}{i n ep:Δ}{o:Obj}{es:AAj}{t:pz}
theorem zy9(hh:P8)(hQ:AmV (ATp I h0 h'))(hk:ATp I h0 A6):
  PD RE pp (Bne>>=SG (At0 e:Sem PySem.Fin)) AU5
   (uB e (AH8 (do if<- ALw e Av' then BSq else throw e) s')) s:=by
 refine VO;refine A7I
 show uA BDL A7J (ŏ _ Bqu);rw[Azp Ajw hh]
 refine AUr HU (BH5 (α:=_));refine AIl ALw (Bn8 AV5 Bqy ?_);exact HU (hQ _ ((hk.push _).UC _))
#where
#where
section
variable{B9:A2}{w:An}{κ:CB}[Ŵ]{knd:AGO}{kf:AFh}{A:BM}{E:dO}{s:AD}{S I:Ζ}{fst:AI}{i n ep:Δ}{o:Obj}{es:AAj}{t:pz}{led:AN}{ks:vF}
theorem Vr(hit:AQ' A6)(hg:AAR)(O:AFr)(hn:FE=n)
  (h:PD RE pp (if let .AL O_ _:=fst then do
    match<- setNext S slot.toNat i ep with
    | Ε (x,KE)=>
     Ah' ADg 0 KE
     BVZ
     ret x
    | Θ=>Bcd;BPn
   else do
    let some places<- BIY fst | BPo
    match places[i]? with
    | Ε (.AL place _)=>
     let x<- BIZ S place.toNat ep
     BVZ
     ret x
    | Ε _=>BPo
    | Θ=>Ah' ADg 0 0;Bcd;BPn)
   (uB fin (∃r,Ax0 r/\Q (Ε r) s'))
   (uB e (AH8 (do if<- ALw e Av' then BSq else throw e) s')) s):
  AKB I:=by
 show TD oi ho hc hd hit;unfold ATD;refine NH _ (BH' (A5_ hit.ty um um hit.ty yo2 yn1));unfold Builtin.«set_iterator.__next__»;refine AWz (Rc slotArgs);show BD (OK (fieldsOf _) (BrE ho hd ?_)) (Af0 setEntries BrF hg);show BN (AWu hn)
 refine eL h (fun fin s' hz=>(YO r hr hq hz (ANj (rX hq)))) fun e s' he=>he
theorem zl4(h:Q (AeZ Aea) s):KS setsByText:=qV (NH ask) (BIO (HU h))
theorem zx5(hbt:BQ1)(hg:AAR)(O:AUp Κ)(hdr:MO AbJ)
  (h:Q (match es[BX6]?,ATx[BX6]? with | Ε (_,x),Ε j=>Ε (x,j+1) | _,_=>Θ) s):Bd' e0:=by
 refine AbL;refine Ao2;rw[hbt,dQ,CO (FG (by have z' :U_ (! t.plain) Bli:=z;rw[hdr] at z';show AE z' z' z' z' z' z' z' z' z' z' z' z' z' z'))]
 refine OK _ ?_;show BV (AU1 (B3 (U_ (! t.led) (! es.isEmpty)) _ (IO PUnit.unit)));rw[O.tok.led,CO A0]
 exact HU (HU h)
theorem zxj(hbt:BQj)(hg:AAR)(O:AFr)
  (h:Q (((BIa Ao6 es)[given]?).EL (SG (e.2,O_))) s):Bd' ep:=by
 refine AbL;refine Ao2;rw[hbt,E2,CO A0]
 refine OK (setWalk S) ?_;show BD AbL Ao2;rw[hbt,E2];exact NH ask (BIO BPB)
theorem z8b(hg:AAR)(O:AFr)(hx:HR es p x)(h:Q x.2 s):KS (BIZ S p ep):=by
 refine AbL;dsimp only;rw[CO A0,hx]
 exact HU h
theorem zz7(hg:AAR)(O:AFr)(h:Q (! BPm &&AbJ) s):KS (setDrawn S):=by
 refine AbL;refine Ao2;exact HU h
theorem z97(nx:z0):∀(f k:Δ) (l:CU) (out:ABG α),GY=f ->(BIb nx f k l out).toList.Perm (out.toList++l)
 | 0,k,l,out,hl=>by
  unfold BIb;rw[Atz hl];simp
 | f+1,k,l,out,hl=>by
  unfold BIb;have hi:AEa BX3:=BIV _ Η
  show BMD;refine(z97 nx f LN (AtH (BX3)) _ (by show BME;show Ω)).EC ?_
  rw[Bq8,x5];exact BrH _ (z00 hi)
theorem zqf(nx:z0)(xs:ABG α):(BIa nx xs).toList.Perm w_:=JO (z97 nx _ 0 _ #[] A0)
#where
theorem ygb:BN4 "__iter__" BIc := Bk4 "__iter__"
theorem ymy:BMw BIc:=BPd
theorem yl6(v:AI):argsOk BIc (H_ [v]):=ng
theorem Dw.RQ(x:AQ' h)(v:AI):AIA (h.update I (Obj.mapFields (·.setIfInBounds 0 v))) v i:=by
 obtain⟨o,ho,hc,hd⟩:=x;exact Bmx (by rw[AeE hd];simp)
theorem Dw.RT(x:AQ' h):AIA (h.update I (Obj.mapFields (·.setIfInBounds 1 (rawInt ((i:Int)+1))))) fst DU:=by
 obtain⟨o,ho,hc,hd⟩:=x;exact A'1
section
variable{B9:A2}{w:An}{κ:CB}[Ŵ]{knd:AGO}{kf:AFh}
structure Steps (B9:A2) (w:An) (A:BM) (I S:Ζ) (n ep:Δ) (o:Obj) (ex:dX) (Hd:Au) (fst:MR AI):Ι where
 UA:∀i (s:AD) (Q:Aj9) (E:dO),i<n ->G_ (AIA A6 (fst i) i) AAR BOd (∀v h',AHo Hd ->AIA h' (fst DU) DU ->AdT I A6 h' ->Q (Ε v) Sr) (AKB I)
 K_:∀(s:AD) (Q:Aj9) (E:dO),G_ (AIA A6 (fst n) n) AAR BOd (AmV (ATp I A6 h')) (AKB I)
theorem z8y(T:Bm1 n ex Hd fst)(hS:S≠I)(hX:XL ex (CS≠I)):
  Walks B9 w A I (I::S::ex.map (·.1)) [I] n BMV (UU h (AIA h (fst i) i/\AEx S/\XL ex (ANi KK))) where
 CC:=BYp
 frame:=fun i h h' st hk=>⟨BbL,hk S A0 o Aiu,ï (hk CS (by simp only [ē,ZE];exact KW (E6 (ij p hp))) p.2 (Ai7 p hp))⟩
 UA:=BjN (Asp i s Q E hi m3 Aiu Ai7 fun v h' hv st' sb=>hQ v h' Mm hv ⟨st',(sb.2 S hS).EC Aiu,ï ((sb.2 CS (hX p hp)).EC (Ai7 p hp))⟩ (AI5 hb ((sb.2 b (A1 (Ae8 z))).EC e)))
 K_:=fun s Q E st hQ=>Aso s Q E m3 Aiu Ai7 fun h' eb=>hQ h' Mm (AI5 hb (eb b o (FG (Ae8 z)) e))
 QU:=fun i s Q E st hQ=>by
  refine BrI (m3).ty ygb (Afp ygb (m3).ty ymy yl6);exact HU ⟨_,Β,AL5,_,(m3).ty,um.lookup,hQ⟩
variable{A:BM}{I S:Ζ}{n ep:Δ}{o:Obj}{es:AAj}{t:pz}{ks:vF}
def qK(t:pz)(i:Δ):Δ:=AiW (0<i/\BKa) (Bq5[i - 1]' Η+1) 0
theorem zo4(hr:BL0)(hi:BKa):AL2 ATx A6s=i:=by
 have:=z5o hr hi;unfold qK;by_cases h0:0<i
 ·rw[ATw ⟨h0,hi⟩];show AaS (ATw h0)
 ·rw[dif_neg (FG (h0 z.1))];show AaS (dif_neg h0)
theorem z1o(h:t.fits n=Κ):BId=n:=by
 simp only [SetTable.fits,kK,AtR] at h
 simpa using EJ
theorem yim(hh:P8)(hbt:BQ1)(O:AUp Κ)(hdr:MO AbJ):
  A7p [] (es.toList.map (·.2)) (GL (Ŕ A6s)) where
 UA:=BPi (by
  have hl:=z1o O.fit;have hb:=ö BPp Η
  have hp:i<t.place.size:=CY (Τ:i<BId)
  show BD ASP Bka;rw[Bii i i,hb,A1O,AL6 hp];show ASK;refine AR'
  have x_:=hit.RQ (ADf BQW);show BCz x_;refine A9z
  refine rX (RU (hQ _ _ (IB hi) ?_ (Abp EC A8l)))
  have e:(BFr (qK t DU) 0)=Z3 BQW:=by
   unfold qK;rw[ATw AVK]
   simp [Z3]
  rw[e];exact hit2.RT)
 K_:=BPf (by
  have hl:=z1o O.fit;have hb:=BPp (i:=FE) Η
  refine ASP;refine Bka;rw[Bii FE FE,hb,BIe (AKq _)];show ASK;refine AR'
  show AZM (zy9 (I:=I) hh hQ (Abp extBut)) A3t ß)
theorem yix(hh:P8)(hbt:BQj)(O:AFr):
  A7p [] ((pickOrder (w.params.setOrder S ep) es).toList.map (·.2)) (Fk Aft) where
 UA:=BPi (by
  have hp:=(zqf Ao6 es).Aed;show Awt hp;refine ASP;refine BhW;have hi' :i< (BIa Ao6 es).size:=Τ
  rw[AL6 hi'];show ASK;refine AR'
  have x_:=hit.RQ (ADf APk);show BCz x_;refine A9z
  exact HU (RU (hQ _ _ (IB hi') hit2.RT (Abp EC A8l))))
 K_:=BPf (by
  have hp:=(zqf Ao6 es).Aed;show Awt hp;refine ASP;refine BhW;rw[BIe Η]
  show ASK;refine AR'
  show AZM (zy9 (I:=I) hh hQ (Abp extBut)) A3t ß)
theorem ylj{led:AN}(hh:P8)(O:AFr){Tp:Ζ}{ot:Obj}{ps:DD}(hps:AhR ps.Perm FE)(hot:∃m,ot.data= .seq A'D m):
  A7p [(Tp,ot)] BYn (Fk (.As Tp)) where
 UA:=fun i s Q E hi hit hg hx hQ=>by
  obtain⟨m,hm⟩:=hot;have hl:N0=FE:=BJv
  have hi' :AJb:=Τ
  have A8:Na<FE:=UI (hps.mem_iff.mp (yU hi'));show BD ASP (OK (BIY _) (Atk BX8 hm ?_))
  dsimp only;have e:FL A'D (.AL (Lu Na) 0):=XU hi' Z3
  rw[e];refine OK (Rc BIZ) (z8b (x:=es[Na]) hg O (gS kQ AL6 A8) ?_)
  show ASK;refine AR'
  exact HU (RU (hQ _ _ (by simp [hi',A8]) hit.RT (ATo A6 I _)))
 K_:=fun s Q E hit hg hx hQ=>by
  obtain⟨m,hm⟩:=hot;have hl:N0=FE:=BJv
  show BD ASP (OK (BIY _) (Atk BX8 hm ?_))
  dsimp only;have e:A'D[FE]?=Θ:=DT hl
  rw[e];show ASK;refine AR'
  have x_:=hit.RQ (ADf 0);show BCz x_;refine A9z
  show AZM (zy9 (I:=I) hh hQ (Abp EC A8l).extBut) A3t ß
#where
section
variable{B9:A2}{w:An}{κ:CB}[Ŵ]{knd:AGO}{kf:AFh}{A:BM}{E:dO}{s:AD}{S:Ζ}{ep:Δ}{o:Obj}{es:AAj}{t:pz}{ks:vF}
structure Laid (knd:AGO) (kf:AFh) (s:AD) (S:Ζ) (o:Obj) (ks:vF) (I:Ζ) (h' :AQ) (n:Δ) (Hd:Au) (St:AZi) (fp:B5):Ι where
 wk:BZK (Walks B9 w A' I fp [I] n BMV St)
 st:St 0 h'
 len:AL7=n
 lem:n=Sk
 Ap:A'h
 mem:∀v∈Hd,(∃k,AgK)/\AVV
 new:sR I
 inF:I∈fp
 fpl:lm (b<ATM)
 fpn:lm (b=S\/sR b)
 kep:Anx
 siz:sR ATM
theorem ycc(hg:AAR)(O:AUp ADn)(hb:AzL)
  (h:∀(I:Ζ) (h' :AQ) d n Hd St fp,Laid knd kf s S o ks I h' n Hd St fp ->NM I (BAh h')):Akz S:=by
 have hT:AOw S Mo :=A0H hg;show EW hSl (P6 S) (zG hg) hlk A6H Ajb scn (∀v∈Atr (·.2),(∃k,AgK)/\AVV) (fun v hv=>by
  show di e he hv;obtain⟨⟨k,hk,_⟩,hs⟩:=O.el e he;exact Ϧ k hk hs) fin (∀(h1:AQ) d (Hd:Au) (ex:dX) (fst:MR AI),BK9 ->(∀b ob,Avh ->ACo ġ) ->(∀p∈ex,ANi ġ/\sR CS) ->
   BB (BZK (Steps B9 w A' ALt S FE ep o ex Hd fst)) (AL7=FE) A'h BU6 (NM ALt (BAh (h1.push (bi AL5 #[fst 0,Ah1,.As S,Z3 FE,Z3 ep]))))) (by
  intro h1 d Hd ex fst hsz hk hx' hs hl hp hm;have hx:XL ex (ANi ġ):=fun p q=>(hx' p q).1;refine h _ _ d FE Hd _ _ ⟨fun A' hh=>z8y (hs A' hh) (zK (zM hSl hsz)) (fun p q=>zK (zG (hx p q))),⟨nI,z8 _ (hk S o hg),fun p q=>z8 _ (hx p q)⟩,hl,hlk,hp,hm,hsz,C_,AkG,AkG,fun b ob e=>z8 _ (hk b ob e),?_⟩
  ·rw[UD];simp only [ē,ZE] at q;rcases q with Β | Β | ⟨p,hp',Β⟩
   ·exact Adl _
   ·show APT (zM hSl hsz)
   ·show APT (zG (hx p hp'))
  ·simp only [ē,ZE] at q;rcases q with Β | Β | ⟨p,hp',Β⟩
   ·show HL hsz
   ·exact NS Β
   ·show HL (hx' p hp').2
  ·rw[UD];exact BIf hsz)
 refine BAO BrK BrK yco PySem.F.args_set_iter_1;unfold Builtin.«frozenset.__iter__»;refine AIl Builtin.Frozenset.slot0 ?_;show BD (AWz (Rc slotArgs)) AJ5;show BD (OK (Builtin.Frozenset.sizeOf S) ?_) (OK (setEntries S) (BrF hg O.dat O.fit (HU ?_)));refine OK (setDrawn S) (zz7 hg O ?_);cases hbt:BPm with
 | Κ=>
  rw[ϣ (MO (! Κ&&AbJ)),dQ];refine AWz (IO _);show BD (BL_ BIg) (AWv BIh pV BAJ);have hp:=zqf (BrG S ep) es;refine fin A6 AKv ((pickOrder (w.params.setOrder S ep) es).toList.map (·.2)) [] (D9 Aft) HT AiR BOr (fun A' hh=>yix hh hbt O) (Co BIi) ?_ fun v hv=>scn v ((hp.map _).BIj hv)
  show Ø;exact hW hp.map _ O.key
 | AC=>
  have abP:nD w=Κ:=by unfold nD;rw[hbt];rfl
  cases hdr:AbJ with
  | AC=>
   rw[ϣ (MO (! AC&&AC)),dQ];refine AWz (IO _);show BD (BL_ BIg) (AWv BIh pV BAJ);rw[abP] at O;refine fin A6 AKv (es.toList.map (·.2)) [] (rq (Ŕ A6s)) HT AiR BOr (fun A' hh=>yim hh hbt O hdr) A0 ?_ scn
   rw[Q3];exact O.key
  | Κ=>
   rw[ϣ (U_ (! AC) Κ),E2];refine AIl drawOrder (zw7 FE (AGe FE) A0 (At ps d hps))
   have EE:N0=FE:=CY BrJ
   refine NH (newTuple _) (BH8 ?_ (by show Æ EE;exact hb))
   have hgt:ϙ BZE S=Ε o:=z8 _ hg;show BD (Af0 setEpoch BIg hgt) (AWv BIh pV BAJ);have hpm:(KO fun p=>Axx).Lm (es.toList.map (·.2)):=by
    refine uC hps.map _ ?_;have:MS FE (Bn p Axx)=Atr (·.2):=by
     show nX
     ·simp
     ·show AFw;have:Avc:=CY h1
      simp [Ρ]
    rw[Ρ]
   refine fin _ d BYn [(CF,BZE)] (D9 Ais) (A2Z UD) (fun b ob e=>zC) (TU p q) (fun A' hh=>ylj hh O hps E4) (IB EE) ?_ fun v hv=>scn v (hpm.mem_iff.mp hv)
   ·show FB (p=_) (CY q)
    exact⟨RR,NY⟩
   ·refine uC hpm.map kf ?_;rw[Q3];exact O.key
abbrev kO:Obj:=AVr
theorem zq1(hh:P8)(hg:AAR)(O:AUp ADn)(hb:AzL)
  (h:∀(Hd:Au) (h' :AQ) d tk,G_ A'h BU6 BP4 Anx (Q Hd Bjm)):
  AMi Aee S:=by
 have hSl:P6 S:=zG hg;refine BWH (Atw BrL ?_);rw[AN2 BrM];refine BZR;refine BUQ;rw[BL8];have hg1:ϙ kO S=Ε o:=z8 _ hg;have hT1:Aty (AVF kO) (BQ S) Mo :=A0H hg1;refine A_m hT1;have n1:BQ7 (BQ S):=BKn (AXY hSl)
 show BN (AE' n1)
 refine OK (ALO _) (ycc hg1 O hb fun I h1 d n Hd St fp L=> ?_);refine BRf;have hg2:ġ S=Ε o:=L.kep S o hg1;have hT2:Aty (BAh h1) (BQ S) Mo :=A0H hg2;refine A'r PySem.F.slot_set_len.lookup;dsimp only;rw[Azq (A1k "set.__len__" Mo "__len__")]
 refine AIl ALw (BIA hT2 BrC ?_);rw[CO Χ,C9 Uf]
 refine A_m hT2;refine AJ5;show DF Uf
 refine ŏ (pb _) Adb;have hS1:ADT ġ kO:=L.kep _ _ AoQ;have hNI:CF≠I:=zK (zM (gS UD Adl _) L.new)
 show BD (OK (Builtin.List.listTouch _) ?_) (AIl updateSeq (BIk hS1 Β ?_));have hS2:=AGx (Obj.mapSeq (·.push Value.none)) hS1 Β;refine BIk hS2 Β ?_;have hS3:=AGx (Obj.mapSeq (·.pop)) hS2 Β;have oth:∀b ob,AhY ->ACo ġ ->ACo ((h1.update s.heap.objs.size (Obj.mapSeq (·.push Value.none))).update s.heap.objs.size (Obj.mapSeq (·.pop))).IN:=
  fun b ob q e=>(ANv (re q)).EC ((ANv (re q)).EC e)
 have hNf:CF∉fp:=Tb (by
  rcases L.fpn _ q with z | z
  ·exact f_ z ALN hSl
  ·have z' :AN4 kO<=CF:=z;show Ps UD z' (f_ z' Nat.not_succ_le_self _))
 have JF:D6 n:=by
  have e1:=L.lem;have e2:A6H:=Ajb
  show Ω
 have W:=L.wk pp (IB hh)
 refine Ah8 BrP (BrQ W.toS JF _ hNf _ n 0 _ _ _ Β ϓ (W.frame 0 h1 _ L.st fun b q ob e=>oth b ob (FG (hNf (z ▸ q))) e) hS3 BJk Bi0);show BD Ban AJ5;have ev:At1=Hd:=by
  apply BrR;intro i;by_cases q:i<n
  ·have hi:i<Aef:=CL AXZ q
   have:=Ķ.2 i A4[i] (AL6 hi);rw[Adz,A1O,Ρ]
  ·exact hW AeB (by rw[kB,AXZ];show Ω) (X_ AeB (ş L.len))
 rw[ev];show A'0;show BAe;show A8j d;show A7c;refine h Hd h' d' tk' L.key L.mem (zG hS') (OF ob e);have A8:=zG e;have hbN:AhY:=zK A8;refine Atx b ob ?_ (oth b ob hbN (L.kep b ob cq));show Abr;exact⟨hbN,A1 (hbN (by
  subst z;have z2:AN4 kO<=b:=L.new;show Ps UD z2 (f_ A8 Nat.not_lt_of_ge (Ate z2))))⟩
#where
def G9:AHw Ψ | Aab=>i | _=>0
theorem yln:∀k v,AXJ Aeg k v=Κ ->G9 v=k:=fun k v h=>by
 show MW (BFs h)
 rfl
theorem z66:OQ vs Au (BU5 Aeg) (AtM vs (As1 G9))
 | [],_=> EB
 | AQV,h=>by
  obtain⟨⟨k,hk⟩,_⟩:=h v zY;show MW (BFs hk);exact A0L (z66 fun u hu=>h u (zW _ hu))
theorem ylz(hob:gI (AMh xs n)):∃e,AhV Bhm out e:=by
 have hal:AWb a:=zG hob;have h1:=BrS hob AWe;have h2:BWt (Ats a (AU2 (Fk #[]))).UC _:=z8 _ (z8 _ h1);exact BQq h2 out
theorem yhl(hb:sj)(hne:NV):LM Bhm:=by
 have h1:LM (Ats a (AU2 (Fk (#[]:Kb)))).IN:=uC APn hne hb;exact hW APn hne (AZ2 h1)
section
variable{B9:A2}{w:An}{A:BM}{E:dO}{s:AD}{S:Ζ}{ks:B6}
theorem z4o(hh:P8)(hS:vC (Aeg B9 w) G9 ADn A6 S ks)(h64:Sk<64)
  (h:∀(l:Ζ) (h' :AQ) d tk (out:Au) (ms:B6) e,AZD ->AtM out ms ->G_ (ĺ ks) BNz (BSS out.toArray) Anx (NM l Bjm)):
  KS (A2k (Ç S)):=by
 obtain⟨o,es,ep,t,hg,O⟩:=hS;have hlk:A6H:=Ajb
 have ABc:AP4:=B4
 refine BrT kind_sorted BrU BrV BJl BN9;show BoU;refine Bh3;refine NH (Aee _) (zq1 (IB hh) hg O Η Bjh)
 have JF:AL7=Sk:=CY hk.length_eq
 refine NH (newList _) (BrW ?_ Η)
 have hoL:(h1.push BLt).IN ALt=Ε BLt:=RR;have hI:=z66 hm;refine Bh2 (list_sort_tree (ns:=vals.map G9) hoL hI Η fun out ms a1 a2 a3=>AFH)
 refine rX AFH;show C5 e he (ylz (vs:=Hd) (out:=out)) hoL;have hle:BK9:=AGg A8;refine h ALt _ d tk out.toList ms e hle a1 (a2.trans hk) a3 (EQ BrX he) (APu ob)
 have e1:=PP b ob eb;exact yhl A0i (zK (zG e1))
#where
def JG(P:A2)(w:An)(a:Ζ)(ns:B6):HO:= AnT (vC (Aeg P w) G9 ADn h a (mU AY3 JA))
theorem ygv(I:AW)(d):yT A9Z:=A4t xF
inductive Pn (Abz):Ι
 | mk:∀(p:Ζ) (ns:B6),G_ (vs= Ahl) (nY AG H p ACc) (JA+1<Atu) (Agw q q q q A7O) (ANV Pn)
def Yn(X:Cx):wf:=AZl Pn
inductive Pr (Abz):Ι
 | mk:∀(q:Ζ) (ns:B6),BB (vs= Akn) (Pc q A7O) (RO mU AY3 JA<64) (∀(l:Addr) (ms:List Int),H l=none ->ms.Perm (mU (fun i=>ns.getD i 0) ns.length) ->ms.Pairwise (· <= ·) ->Q (.ref l) (upd H l (.lst (ms.map .int)))) (ANV Pr)
def abQ(X:Cx):wf:=AZl Pr
theorem yf7(AAc):AN5 Mo (Yn X):=by
 rintro Ν s σ H xs us Q I r ⟨p,ns,e0,hq,hb,k⟩;subst e0;show SS;show AAq;show BaI;rw[C4] at hl;have hI:=zsm rv;have hsz:xn=JA:=CY hl.symm
 refine zq3 (κ:=Ψ) (knd:=Aeg GE X.w) (kf:=G9) yln (val:=GL ADK) V_ kM BWN BQx Bbj
 ·show MW (IntsAre.int_at hI i v (Co hv))
  exact⟨L2 intKind_is,Β⟩
 ·rw[hsz] at hS;have I2:AOo (Aqp JG) mE:=
   AKR PP HT (Aqp JG) (Bdo BVm)
  exact AI_ I2 (k _ AEM)
theorem ydi(AAc):AQX (abQ X):=by
 rintro Ν s σ H xs us Q I r ⟨q,ns,e0,hq,h64,k⟩;subst e0;show SS;show Kx;obtain⟨hS,_,_⟩:=Iq q _ hq;refine z4o V_ hS h64 fun l h' d tk out ms e hle a1 a2 a3 hl PP=> ?_;have E9:D6 (De Q1 V.int):=by
  show Æ a2.length_eq;have:AP4:=B4
  show Ω
 have I2:Amw BKZ:=
  AKR PP hle (E3 BKZ) ⟨E9,out,e,Xe a1,hl⟩
 exact ř l (ygv I2 d) (k l ms (AWc hle) a2 a3)
def yae:SE:=AEJ (∃ns,Anl/\JA<63/\∀ms:B6,AiQ Atj ->(A7l ns) ->P (Q1 s0))
theorem z1j:AW9 Mo Mo:=AK
section
variable{X:Cx}{F0 H0:Hp}{a e:AJ}{AA p p_ p2:AS}{t:cW}
theorem ykr(ns:B6)(k:Ψ):k∈mU AY3 JA↔k∈ns:=by
 rw[zoe];constructor
 ·show APS j hj;show AEX Aj_;exact yU hj
 ·intro h;show Ϣ j hj Ay6;exact⟨j,hj,by show Ct (pv j 0=k);show AEX Aj_;exact e⟩
theorem yid(Bk9):
  BfA yae:=fun z E cx=>by
 have inner:PE JS Axa (U7 (Yn (kP z)) BLQ):=EH zk4 (yf7 hc) hg2 hm2 z1j FY Χ Χ he Β
 refine BkG ydi
 show AOf;refine AY4;show AJP yae;split at h1
 ·show Abj;obtain⟨ns,hns,A8,h1⟩:=h1;show A7L;refine Bfr
  have hml:=zug AY3 JA;refine Bbq Τ
  have R2:BLY A7O:=BgE
  obtain⟨R3,q1,q2,q3,ap⟩:=Ip R2 hl2 (zk9 (K:=AG) (F:=F1) ms);refine BDd zk9 ?_ (GL (BrY (ykr ns i)));have nd:ms.Nodup:=BrZ (zmm _ _);have:=List.Pairwise.and hs nd;exact this.imp fun{a b} hz=>by obtain⟨q1,q2⟩:=hz;show Ω
 ·show vE
#where
def Itv(K:AB)(a:Ζ)(xs:AV):It:=⟨Ť (ϊ/\nr),fun i H x H' =>H' =H/\yk ATN,fun i _=>AWr⟩
theorem yf4(AR_)(a it:Ζ)(xs:AV):ARp BPD (AYq/\h.IsRevIter it a (AJU - 1 - L5)) where
 mem:=C_
 obj:=AKb (by
  show AKC
  obtain⟨_,o,e,c,d⟩:=st;exact A3W)
 KL:=AWO (A8S m3 (Agy e))
 UA:=by
  show dk;show SV;show AbF;show ARW QQ;show Ahu;show ox
  have hj:AlZ<B1:=Τ
  show AIz hu ru (ALP (zZ hj));have hit:=mT;rw[IY (AJU - 1 - L5=EU AlZ)] at hit
  refine wpAny_pyNext_rev_item hit ALQ (x:=u) AjA (md fA sb)
  have I1:APd:=AlU;show TD o e c d fA;refine Rs u (Q5 (s:=Sr) e c d Χ ⟨xs[AlZ],H,I1,ru,ϰ,CI hx,AO1⟩)
  ·rw[Bra hx,Aj_]
  ·rw[IY (EU AlZ - 1=AJU - 1 - Azl)] at fA
   exact fA
 K_:=by
  show dk;show SV;show ox
  have hle:AWr:=hg;have hit:=mT;rw[show AJU - 1 - L5= -1 by have:=m3;show Ω] at hit
  exact wpAny_pyNext_rev_end (AS' hc) hit AKg
 QU:=AgQ (BIl mT h)
theorem zlj:AW9 ZZ ZZ:=AK
def Yo(A6T):TI:=BbO (Ż ->R BPD H1)
theorem ymi{X:Cx}{a tg:AJ}(BDn)(hg:Gl X ZZ)(hm:RS ZZ)(ha:AKK [a])(hs:AXR:=by rfl):
  ð (AOl ZZ) (Yo AG ta):=by
 show DH R;refine Call_ (ď zlj (AXf AmJ hs Β));show BXt;show A9f;show AAe;refine BQ3;have hit:Bn7 IsRevIter D1 l (AJU - 1 - APk):=IS _ RR (by show Ct (Data.fields _=_);show A1y;simp [Z3])
 refine BIl hit ⟨D1,[D1],_,_,H1,Β,AEQ,yf4 l _ xs,⟨LU,hit⟩,Kk,q hz⟩;show AI'
 exact AJO
def zmh(tS):cW:=dq (ACV AUc BKF)
theorem yjz(BkH):AZ3 (Itv K a vs) ATN:=by
 show Amj;refine⟨mt ABp,ASR (SG (by show Ct A0J;rw[e,ABp];show Ω))⟩
 obtain⟨v,hv,rv⟩:=yE (zoy rs) hd;have hi:Aix:=ACk (Pl hv) ABp
 refine Ϧ AiF hi Aag;show u8 z z;rw[hv] at z;show L6;exact A7g
section
variable{X:Cx}{F0 H0:Hp}{a e tg:AJ}{AA p p_ p2:AS}{t:cW}
theorem zzg(hc:Fs)(hg:Gl X ZZ)(hm:RS ZZ)(ha:ANz)(hs:AXR:=by rfl):
  AQr (AOl ZZ) (zmh t):=Bcq ymi (A'F (by
  unfold zmh at*;show AEc
  ·show Abj;exact BAi (A3v (yjz hq rs hz))
  ·show vE))
#where
theorem z8e:AxR (RH At2) "__len__" Θ:=BMP
theorem ycy:AxR (RH At2) Brb (DJ (Sm Brc)):=BMP
section
variable{B9:A2}{w:An}{A:BM}{E:dO}{s:AD}
abbrev pK:Obj:=AUT #[]
theorem z0e(hh:P8)(hit:s.heap.IsRevIter I l (Ail - 1))(hl:AkZ No)(hz:AzJ)
  (h:∀h' c tk,(Am5 (b≠I)) ->AyD BGQ c ->Af3 mE):
  A8q K2 (Ç I):=by
 have hIl:P6 I:=BMj hit
 have hll:P6 l:=BMj hl
 have hne:l≠I:=by
  show AVw e c hit;obtain⟨o',e',c',_⟩:=hl;rintro Β;rw[e] at e';show ie;rw[c] at c';exact vc Value.type.inj c' Χ
 refine callType_codes (Q₁:=BdY (AVF pK)) PySem.F.called_list (PySem.F.typeCall_list_1 _) PySem.F.entry_list_init (code_list_new _ Ű) (At obj ES aE);show AMG aE;have hS:ADT (ϙ pK) pK:=RR;refine DM (OP hS) (PySem.F.args_list_init_2 _ _);show BD (OK (Builtin.List.listItems _) (Brd hS Β ?_)) (AWv Builtin.List.listUpdate (BIm hS Β ?_ ϓ) ϓ);have hS2:=AGx (AGv AWe) hS Β;refine ŏ (letGo _) BH7;have oth:cy AhY (LM (ϙ pK)) (LM (Axr CF (AU2 AWe)).IN):=
  AI5 q ((ANv (re q)).EC e)
 have x_:BYL IsRevIter I l (Ail - 1):=AOI hit.at (oth I o (zK hIl) cq);have hl2:BYL IsList l No:=AOI hl.at (oth l o (zK hll) cq);generalize Axr CF (AGv AWe)=h2 at*;have hT2:Aty (am h2) ADg At2 :=BH2;refine A_m hT2;have n1:BQ7 ADg:=BKn (AXY hIl)
 show BN (AE' n1)
 refine NH (ALO _) (BIl x_ ?_);show uA BRf (A'r z8e) (A'r ycy);dsimp only;rw[Azq (A1k Brc At2 Brb)]
 refine AIl ALw (BIA (b:=Κ) hT2 BnW ?_)
 rw[CO Χ,C9 Uf]
 show BN Uf
 refine AJ5;show BN Uf
 have hSf:CF∉ [I,l]:=by
  show Abr;exact⟨AXY hIl,AXY hll⟩
 have W:=Walks.listRev (B9:=B9) (w:=w) (A:=A.in1.in1) (IB hh) I l hne No
 refine Ah8 BrP (BrQ W.toS hz _ hSf _ Si 0 _ _ _ Β ϓ ⟨LU,CL (IY (Ail - 1 - APk=Ail - 1)) x_,hl2⟩ hS2 BJk Bi0)
 have ev:A4=BGQ:=by
  apply Array.ext_getElem?;intro i;by_cases q:i<Si
  ·have hi:i<Aef:=CL AXZ q
   have:=Ķ.2 i A4[i] (AL6 hi);rw[A1O,Array.getElem?_reverse q,Ρ]
  ·rw[AyY (ş AXZ),AyY da]
 subst ev;show A'0;show BAe;show A8j AKv;show A7c;refine IC (h h' c' tk' (AHf ?_) hS');have A8:=zG e;exact Atx b o (by show Abr;exact⟨zK A8,hb⟩) (oth b o (zK A8) cq)
#where
theorem yir(hc:Fs)(hg:AkJ)(hm:AkC)(hg2:Gl X ZZ)(hm2:RS ZZ)(ha:AKK [a])(hb:BTf:=by show fF)
  (BVt):
  PE X Bb2 (ft ta vs (∃l xs,vs= Ç l/\nY AG H1 l xs/\Ben AzB)):=by
 show DH Q;refine ARz (ď hb) Χ Χ
 show A_M (A1j ?_ he2);show BD (ARz (Il I hg2 hm2 zlj) Χ Χ) (A1j (AVk (Au7 p_)) he);show BXt;show A9f;show AAe;refine BQ3;refine Ajq;have I2:AJY (AHS s1 (ATB (revObj l (AVy - 1))) ATC):=Asg É;refine z0e (I:=D1) (No:=QP) (I2.ok.hd hc) nI (pl.isList.push _) AZI (IE h' c tk PP hS)
 have Vq:BPb=rL:=APQ;have kp:ŋ ABn ACi:=OH (PP b o Aaq cq);have I3:BV_ (yz BPb AzB):=
  BLv kp (A2Z Vq) AzB ⟨mt ABp,its.reverse,c,rv.reverse,by rw[hS];simp⟩
 exact ř _ I3 (q _ (ALS (A2Z Vq)))
def yfc:SE:=AEJ (P ATN)
theorem ya9(hc:Fs)(hg:AkJ)(hm:AkC)(hg2:Gl X ZZ)(hm2:RS ZZ)(ha:ANz)
  (BVt):
  AOt Bb2 yfc:=fun z E cx=>by
 refine m9 (EH yir hc hg hm hg2 hm2 FY Uf he he2) (Wp Ay ?_)
 show U1 Ay;refine AY4;show AJP yfc;split at h1
 ·show Abj;refine BAi AxO;obtain⟨R2,q1,q2,q3,ap⟩:=Ip R1 hq0 (zoy rs);exact k _ AF F1 _ q _ R2 s1 q1 q2 q3 (zoy rs) ap h1
 ·show vE
theorem zjs{K:AB}(QU:AI):OQ l Au (BRC l) (refuseLoop QU AdA l=IO ())
 | [],e=>Ab6
 | v::r,e=>by
  rcases Bool.or_eq_true_iff.mp e with q | q
  ·rw[AGr q];exact PySem.F.store_ValueError.passes QU
  ·split at q
   ·split at q
    ·show Bl_ AtR q;rw[Bre];exact zjs QU q.2
    ·show i9
   ·show i9
structure jj (AFo):Ι where
 cls:Ą
 g:Js K C
 sa:A_j
 hd:Akq
section
variable{B9:A2}{w:An}{A:BM}{E:dO}{K:AB}{h:AQ}{g:ϕ}{d:ASz}{t:Δ}{os:AAv}{x C:Ζ}{o:Obj}{D5:Μ}{v:AI}
theorem z9y{Q:ý}(X:SI)(c:AOg)(hn:A2U)(hx:A2g)(hc:AZG)(hnc:A8g)(hd:Ajv)
  (hq:∀h' tk',h'.Ns1 M1 (BAy Θ) ->AzS (BlW M1) ->(AO9 x KK) ->BU4):
  AQq A_8:=by
 show BP1;have J:A7e Θ:=⟨hx,hc,hnc,by rw[hd];trivial⟩
 refine BGi (s:=AH5) X J c.sa ?_;obtain⟨bm,N,nm,qn,bs,PH,sn,CC,ab,col,dd,k0,k1,k2,k3,k5,e1,T,ht,cd,hcd,yA⟩:=DP X c.cls;have CC:Bge:=Bdt;refine BkT l_ BSh [] SF.kind SF.split CC BUE ?_;have hm:BdA:=BhC;show Bjy;rw[hd'];show dS
 show BN (IB typeHasDict)
 have MC:qo pp (alloc mS>>=fun d=>(update x (Avk d))>>=Fk (dictMade JU x d)) (qf s' BkV) AU5 AfH:=by
  have hx₁:F7 (ANs mS IN) ⟨NI,Θ,oda,osl⟩:=z8 _ hx;have hxs:x≠M1:=zK (zG hx);show BD (z6 (wpAny_alloc' (z6 (wpAny_update' hx₁ ?_)))) (z7 AFH);have hgd:(BOh x BMZ).IN M1=Ε mS:=
   hW APn (re hxs) (Heap.get?_push_at Β Β)
  have hnd:(BOh x BMZ).Ns M1 (D9 Θ):=
   ⟨_,#[],_,hgd,Β,fun e he=>Zl he A0,APc⟩
  refine BT2 (Bpx hnd);show BXl Within.nil;refine BCy Bco
  have hx' :AzS ⟨NI,Ε M1,oda,osl⟩:=by
   refine(hs.2 x hxs).EC (BJg hx₁ ?_);have hfr:=(Heap.get?_some_iff.mp hx).2;(show KU oda oda oda oda oda oda oda oda oda oda oda oda oda oda)<;>first | rfl | exact hfr
  refine rX (IC (hq h' _ ?_ hx' fun b ob hbx hb=> ?_))
  ·exact hn'
  ·exact AZn (zK (zG hb)) ((APn hbx).EC (z8 _ hb))
 have fin:∀a s',(BkV) ->qo pp (ARB a d (Brf d (Ar4 D5 t) D5 v) (Builtin.ObjectAttr.noDictFor (WF x) (WF C) D5 AC)) (uB fin (match fin with
     | Fin.done f=>
      match At3 f with
      | BYI=>ANJ
      | At3 a=>EM
      | BKM=>E e s'
     | Fin.again c' =>
      c'.quiet=Κ/\
       ALc RE A c'
        (ANI (match r with
         | BYI=>ANJ
         | At3 a=>EM
         | BKM=>E e s'))
        s')) (uB e (E e s')) s' :=by
  rintro a s' ⟨dx,Β,z⟩;exact eL z (fun f s2 hz=>by show APN q hz;subst e;exact q) A0r
 cases oda with
 | cls c=>show fg hnc hnc hnc hnc hnc hnc hnc hnc hnc hnc hnc hnc hnc hnc
 | _=>show AZM MC fin A0r
#where
section
variable{B9:A2}{w:An}{A:BM}{E:dO}{K:AB}{h:AQ}{g:ϕ}{d:ASz}{t:Δ}{os:AAv}{x C dx:Ζ}{o:Obj}{D5:Μ}{v:AI}{mA:ER}
theorem z7y(X:SI)(c:AOg)(hn:A2U)(hx:A2g)(hc:AZG)(hnc:A8g)(hd:BMC)(hA:Apm)(hv:BUr)(hv' :AzU v)
  (hq:Q v AfH):AQq (Adj l_ D5 expr):=by
 show Cc od ho hl zv1 hA;have J:A7e (DJ od):=⟨hx,hc,hnc,CL hd ho⟩
 have LF:Aeh RE h (Builtin.ObjectAttr.find l_ JU D5) (.E8 v):=W.looks_find X J (Bpu c.hd hn Β (ϒ hl hv))
 have L0:Aeh RE h (AtD l_) JU:=J.type;show Y2 L1 (BYz c.g.ga) L2' (BYz c.g.gn) b3 PySem.F.excAttr_ValueError.ga.bind l_;unfold Adj getAttrBy;refine z6 (wpAny_mkText (ABP (z6 (L0.at (z6 (L1.at ?_))))));have hx2:MO (BIn (WF C)&&BM4 ==BM5):=G0 (Azq (WZ BM4 BM5)) AeP
 show BnR hx2;unfold getAttrByItsOwn hookBefore callGetattribute;simp only [ϣ (BIn (WF C)=Κ),xk];refine k8 L2'.at;simp only [ϣ (BIn (BIo AGY)=AC),AeP,AeR,ALl];unfold boundAndCalled;refine Ajc (ABP (z6 (BH4 b3 ?_)));refine BQk PySem.F.excAttr_ValueError.ga.plain F.entry_bexc_ga (zto X c.g hx hc ?_);unfold Builtin.«object.__getattribute__»;refine AYi;show BD AYi (z6 (L0.at (z6 (LF.at ?_))));exact HU (W.handed_on hv' hq)
theorem z5t{f:Ζ}{F_:Au}{Q:PY Fin}(X:SI)(hC:Ą)(hi:AJG)(hf:Abm)
  (hq:qo A (Amf APY F_) (AlS (Q (.K_ (.ret (BQ APY))) s')) E BhO) (hrest:AzM):
  AQq (Builtin.«type.__call__» (H_ (NI::F_))):=by
 obtain⟨bm,N,nm,qn,bs,PH,sn,CC,ab,col,dd,k0,k1,k2,k3,k5,hC,T,ht,cd,hcd,yA⟩:=AKP;have Fv:=BHR
 repeat (first | show ADs hC | with_reducible refine wpAny_madeBy_exc hC ?_ | wp_step)
 refine codeAny_call_builtin_code (BJf Fv.quiet) (wpAny_check_new_subU Fv Fv.hasB T hC ?_);refine codeAny_exc_new_subU Fv Fv.hasB Fv T hC ?_ hrest;have X1:Ĥ (ANs AWw UC AW4):=X.keeps (OH (z8 _ cq));have hC₁:=z8 AW4
  (z8 AWw hC)
 have hget:Afz ATV AWw AW4 APY=Ε
   AW4:=by heap_get
 have hcC:AbX JU=Κ:=C_
 have LI:=Asv (M:=Bnc) X1 hi
 repeat (first | show ADs hget | show Ah3 hC₁ hcC | wp_step)
 refine LI.at ?_;show uA (ABP (z6 ?_)) ((W.bind_fn X1 (BQ APY) hf).at ?_) (ul hq (At r s' hr) A4H);show u8 hQ hr
 wp_walk
 exact hQ
theorem z1s{f:Ζ}{F_:Au}{Q:dO}(X:SI)(hC:Ą)(hi:AJG)(hf:Abm)
  (hq:qo (AaR (H_ (NI::F_))) (Amf APY F_) (AlS (NM APY s')) E BhO) (hrest:AzM):
  AQq (Ī JU F_):=by
 obtain⟨bm,N,nm,qn,bs,PH,sn,CC,ab,col,dd,k0,k1,k2,k3,k5,hC',T,ht,cd,hcd,yA⟩:=AKP;have f1:=tc_lookup;have f2:=tc_bind JU;have hT:(AH5:AD).TypeIs JU Ard :=OP hC';refine BNQ
 repeat (any_goals (first | assumption | show ADs hC' | wp_step))
 refine ϰ;exact codeAny_call_builtin_at (BJf Uf) entry_typeCall (wpAny_check_type_call_sub hC' (z5t X hC hi hf hq hrest))
theorem yab{t0:Ζ}{od:OW}{sl:AEO}{F_:Au}{Q:dO}(X:SI)(hC:Ą)(hx:F7 KK (AO' t0 sl))(hrest:AzM)
  (hq:ADW (AO9 x KK) (AzS (AO' M1 sl)) (Q BH (ACO h' t))):
  AQq (ANh BFc (.As x::F_)):=by
 obtain⟨bm,N,nm,qn,bs,PH,sn,CC,ab,col,dd,k0,k1,k2,k3,k5,hC,T,ht,cd,hcd,yA⟩:=AKP;have Fv:=BHR;refine BQk Fv.init.plain Fv.initEntry (wpAny_check_init_subU Fv T hC hx Β ?_);have hx1:F7 (ANs AWw IN) (AO' t0 sl):=z8 _ hx
 wp_walk
 refine hq _ (y9 u e ?_) ?_
 ·rw[AoV];exact zC
 ·rw[Ao0 hx1]
  rfl
theorem yah(hC:Ą)(hh:P8)
  (hm:PD M A m (bv ES (∃e oe fv,v= .As e/\A1X/\BNK/\AZH/\AmG/\Ah6 ES)) E s):ua (raiseStmt BI (DJ m) Θ):=by
 refine ul hm (AiE v) om;obtain⟨e,oe,fv,Β,X,he,hc,hda,hE⟩:=aE;obtain⟨bm,N,nm,qn,bs,PH,sn,CC,ab,col,dd,k0,k1,k2,k3,k5,hC,T,ht,cd,hcd,yA⟩:=AKP;have hcB:AoZ AbX:=BXM
 show AM0 ES;obtain⟨oc,od,oda,osl⟩:=oe;subst hc hda
 show Bhi
 exact wpAny_raiseNew_none hh hE
theorem z8g(Bkh){E7:DA}{Q:Aj8}(hC:Ą)(hh:P8)(ABY:Ae5 An7)
  (hi:AJG) (hf:Abm)
  (h:ApR AxG fv (fv= .As C/\AW0 (evalArgs JU Κ An7 []) (qf Iy (a.kw= []/\D6 a.pos.length/\BK5/\
    qo (AaR (H_ (NI::a.pos))) (Amf AOW a.pos) (AlS (∃oe fv,BK4/\BV3/\AZH/\AmG/\E (BQ AOW) s')) E (BYk a.pos.toArray BLB))))):
  BY0 Θ:=by
 rw[Brg];refine Azt (yah hC hh ?_);refine ul (BQC fv om) Bd_ om;show u8 aE aE;refine AI4 (ϑ aE (fun a Iy eg=>A0c) om);obtain⟨KM,akw⟩:=a;obtain⟨hkw,E9,X,eg⟩:=eg;show FB (akw= []) hkw;show AM0 Iy;obtain⟨bm,N,nm,qn,bs,PH,sn,CC,ab,col,dd,k0,k1,k2,k3,k5,hC',T,ht,cd,hcd,yA⟩:=AKP;simp only [ABY];refine BRe;refine z6 (z1s X hC hi hf (ϑ eg (fun r s' hr=>BaV) A4H) E9);obtain⟨_,oe,fv,X',he,hc,hda,hE⟩:=hr;exact⟨_,oe,fv,Β,X',he,hc,hda,hE⟩
#where
def XO(e C:Ζ)(od:OW):HO:= AnT Ba2
theorem Vt(D7:dl)(q:Pc e (XO e C od)):Ba2:=(D7 e _ q).1
theorem ydc(q:KK e=Ε (AO' t #[])):aZ P w H h e (XO e C od):=
 ⟨⟨t,q⟩,FF q,AKV hz st (by obtain⟨u,z⟩:=hz;exact⟨u,st _ z⟩)⟩
theorem zxz(k:aZ P w H h b u):∃o,sj:=by
 cases u with
 | B_ xs=>show Ayg k;exact FF e
 | DZ xs=>obtain⟨_,_,_,o,e,_⟩:=k;exact FF e
 | dK AH=>show Ao5
 | dT AH=>show Ao5
 | set S n=>show AVS o k;exact FF e
 | ins C dx fs=>show Ayi k;exact FF e
 | BA y=>exact k
 | xd fs=>show Ayj k;exact FF e
 | rng lo hi=>show Ayh k;exact FF e
 | frz ob u=>obtain⟨e,_⟩:=k;exact FF e
 | Ms ps=>show BNm
 | met f y=>show BNm
 | ext φ=>obtain⟨_,e,_⟩:=k;exact e
section
variable{X:Cx}{Ν:dX}{σ:St}{H:Hp}{s:AD}{A:BM}{E:dO}{a C dx:Ζ}{f:Μ}{y v:V}{u:AI}{fs:n_}
theorem yi4(I:AW)(e:OG Au2)(c:Ý)(n:VI)(ry:NX)
  (h:∀dx s',UT dx ->dx≠a ->OE (upd (af a AQ_) dx (.xd [(f,y)])) s' ->ANJ):BA_:=by
 show A9w;show AFn;have A8:a<Aei:=zG hx;refine z9y eP c n hx Β Β Β fun h' tk' ns hx' kp=>h Aei _ AEM (AEe A8) ?_;have gs:Hk (BIq a A4e).IN (Bn4 (Ε Aei) t):=Ao0 hx;have I1:ŝ a (Afs Aei) (AHS (ACO hp tk:AD) (BIq a A4e) tk):=
  Aai a a Am2 XI (y9 u z ((A3G).EC z)) (FF gs) (ydc gs)
 refine ATF (t' :=tk') (OF u z) (ATG BLC) (ET ns (LV g))
 ·by_cases hb:b=a
  ·subst hb;rw[show(BIq b A4e).IN b=_ from gs] at z;show L6;exact hx'
  ·exact kp b u hb ((A3G).BHJ z)
 ·by_cases q:g=f
  ·have hb:A4M:=BKI;show AgT IF;exact ry
  ·have hb:A2w:=A0R;show AgT NW;trivial
theorem ylk(I:AW)(e:OG AQ_)(ed:Pc dx AxJ)(c:Ý)(n:VI)(l:ARP)
  (h:BBq):BCG:=by
 show A9w;obtain⟨mA,ns,r⟩:=A9I;show BBX
 show AFn;exact z7y eP c n hx Β Β Β ns hu A8I A'q
#where
def Yp(C:Ζ)(f:Μ)(ta:TE):TE:=ϛ (∃a dx fs v,YE/\AJc AQ_/\BUq/\ARP/\Q v H1)
def Yq(Bje):TS:=A'l (∃a,YE/\Hk H2 Au2/\∀dx,H2 dx=Θ ->dx≠a ->AHr (upd (upd H2 a AQ_) dx (.xd [(f,y)])))
structure JH (K:AB) (B:Ζ):Ι where
 sp:BXF (BQ B)
 rd:BRD B
 fi:W.findCls K (BQ B) Aw0 K0 =Ε (.val (Sm BFc))
section
variable{X:Cx}{o e E8:AJ}{f:Μ}{AA I_ KM p:AS}{ta tv:TE}{C B:Ζ}{x:Μ}
theorem yki(BkI):BA' (Yp C f ta):=by
 show DH Q;refine zy6 hb (bV v_ AxL);obtain⟨x,H1,I1,rx,a,dx,fs,v,ex,ea,ed,l,q⟩:=Bi;subst ex;show Y';exact ylk I1 ea ed c n l BDh
theorem z8o(Bk2):Bc7 Yq:=by
 show DH D;refine BGm (bV Aj7 (UZ u)) hs;obtain⟨y,H1,I1,ry,q⟩:=ED;refine BS2;obtain⟨x,H2,I2,rx,a,ex,ea,q2⟩:=hz2;subst ex;show A1V;exact yi4 I2 ea c n ry fun dx s3 h1 h2 I3=>⟨σ,_,I3,q2 dx h1 h2⟩
theorem ydq(c:Ý)(cb:JH AG B)(hg:J_)(hm:AUq (BQ B))(ha:PA X [e,e2] t)(hd:Fr:=by decide)
  (hst:RI [e,e2] e [e2]:=by rfl) (EE:ACZ [e2]:=by rfl)
  (ht:AEs BXH (do
   let ov<- UO (ya p)
   AAV
   let (f,first)<- AAm K0 pl
   AAo (y_ [e,e2]) AFq):=by rfl):
  PE X BXH (ft t vs (∃a od v,vs= [EO,v]/\AJc (XO a C od)/\Q BS (yz a (XO a C od)))):=by
 show DH Q;refine Blm (GK I hg hm ?_ hd) ht;refine W.method_cls eP cb.sp (W.cls_value eP cb.rd cb.fi Β ?_);have I0:=I.tok (Mm+1);refine BGv (AVk (ha AA Ν _ σ H _ I0 h)) hst EE;obtain⟨vs,H1,I1,r,a,od,v,ev,ea,q⟩:=ED;subst ev;show EX u u2 ru ru2 (vals2 r);show FB AMV ru;obtain⟨t0,hx⟩:=Al_ Vt;show AM0 s1;refine yab xy c.cls hx Bco fun h' kp hx' =>(k9 BS (I1.write (x:=a) (e:=a) (Avf ea) XI (y9 u z (kp b u hb z)) (FF hx') (ydc hx')) q)
#where
def yce(bn:Μ)(p KM AA:AS)(E7:DA)(BI:Env)(pl:AQK):Ι:=eK (BnU (LJ bn p) E7) BI=(do
   let ov<- eK (LJ bn p) BI
   AAV
   let (f,first)<- AAm K0 pl
   AAo (Bl3 AA) (backToKw AA (keywordEach [] BI)))
theorem zj6:∀(l:B5) {h:AQ},a∈l ->MU (BMr l):=fun l h m=>BpD l m
section
variable{X:Cx}{F0 H0:Hp}{tg Nw elt:AJ}{ifs:DA}{AA:AS}{sc:Oy}{BA:Υ}{FU:DD}{N' :Υ}{ti:cW}{g:vM}{tc:TT2}{te:cu}
open xx in
theorem yeg(hN:eJ)(hi' :FL X.N y)(hy:ApD)(S:AR6)(hc:Fs)(hi:AAh Apx)
  (hg:Abh) (ht:Abi) (he:Apv)
  (hn:AYy:=by rfl) (hsw:AGm nK (DJ (LJ y py)) spos.line BO=IO Κ:=by rfl) (AF'):
  BeD (aW i (JC (Yj BEc))):=by
 subst hn;rintro z E cx Ν s σ H Dn I ⟨F,Γ,D2,R,h,k⟩;obtain⟨F1,s1,R1,n1,o1⟩:=z3d R;rw[BTe];refine BSK;refine BlV (pig hc (hi F1 H z j9 (Rz cx)))
 show ArU
 show AmP
 show AmQ
 ·refine⟨F1,gH Γ,_,R1,h,fun ds AF F2 H2 J Hx R2 s2 hx hJ h1 A4 ha=>zqk R2 hJ hx ha h1 (BoN ?_)⟩;show Y2 s3 (z11 R'.g a1 a2).1 R3 (R'.frzA a1 a2 a3 ap) s' (hW İ sF) s3;have gr:BRb (AqB b) H' :=by
   refine AZA Kj Kj R3.gr.h
   ·show AjP (AQs (W' o1))
    exact s' _ _ (s1 _ _ e)
   ·have e' :A9W (AqB b):=e;show è
    ·show Ab7
    ·exact R3.g _ _ e'
   ·have e' :(B3 XE Θ (AqB b))=Ε o:=e;show è
    ·show Ab7
    ·show AJQ;exact Bd0 R3.gr.n
  have rep:Rep AG (j8 F1 AqB) AzA ϧ:=JO (VA A4 (ybu (R'.gr.f.free a2) (Gc (Gc gQ))) (zkk (z9c R3.gr.f) ys vs hp.1 (ATl s3)))
  refine Op ((ALu gr).set i (rep.up Kj)) NA hp.2;have hb:¬XE:=AEW (by
   obtain⟨_,w,ev,ld⟩:=o1 b hb;exact z2f e w ld ev)
  show BN hb;exact zx3 _ _ e
 ·show ArP;refine BGM (EH zq9 I5 hN hi' Azs (v:= Ait) Β BZG Az0);show ū a hsb ha;have ha' :BVy:=ha;have hac:C≠a:=by
   show AM1 ha' ha'
   ·exact c2
   ·exact A1 (c4 y a ha' pr)
  refine Bhr
#where
section
variable{K:AB}{F H:Hp}
theorem Pu:BBZ (fC K F H A0U vs [])
 | [],_,h=>by subst h;rw[Ad2];exact Ű
 | ip,_,h=>by
  show EX v us h1 h2 h;rw[Ff];exact⟨v,us,[],[],Β,Β,JO (IC h1),Pu h2⟩
theorem Yr:∀{ts us:GS} {vs ws:AV} {as bs:B5},ADw ->fC K F H us ws bs ->fC K F H (ts++us) A6W (as++bs)
 | [],us,vs,ws,as,bs,h1,h2=>by
  show AMG h1;exact h2
 | V',us,vs,ws,as,bs,h1,h2=>by
  obtain⟨v,vs',a1,a2,Β,Β,q1,q2⟩:=h1;rw[JJ];exact⟨v,vs' ++ws,a1,a2++bs,Β,MA x5,q1,Yr q2 h2⟩
theorem Ys(h:AIx):AfN [t] [v]:=by
 refine⟨v,[],as,[],Β,C_,h,?_⟩
 exact Ű
theorem yha:∀{ts:GS} {vs:AV} {as:B5} {j:Δ} {t:T},ADw ->TC ts t ->∃v b1 bs b2,TC vs v/\as=AVl bs/\AqC bs/\
  ∀{F' H' :Hp} {t' :T} {cs:B5},FV ->BRK ->ϋ t' v cs ->AbC (ts.set j t') (AId cs)
 | [],_,_,j,t,_,e=>AJ'
 | t0::ts,_,_,0,t,h,e=>by
  show C6;show BEb;refine⟨v,[],a1,a2,Β,Β,q1,fun{F' H' t' cs} f k r=> ?_⟩;rw[MI];exact⟨v,vs',cs,a2,Β,Β,r,aI f ts vs' a2 (sK (k a ha)) q2⟩
 | t0::ts,_,_,j+1,t,h,e=>by
  show BEb;obtain⟨w,b1,bs,b2,g1,Β,g3,g4⟩:=yha q2 AEp
  refine⟨w,a1++b1,bs,b2,CY g1,C_,g3,fun{F' H' t' cs} f k r=> ?_⟩
  rw[ML];exact⟨v,vs',a1,AmK,Β,C_,BhS f,g4 f Bh4 r⟩
#where
mutual
def abR:AXw
 | dA=>sX d
 | vv=>Ca ts
 | AnV=>Ca ts
 | A5b=>Ca ts
 | A7R=>Ca ts
 | AJf=>KI
def Ca:F6 GS
 | []=>KI
 | V'=>abR t/\Ca ts
end
abbrev qt:=ASE T
section
variable(K:AB)(F0 H0:Hp)
inductive UpN (t:qt) (E:XW) (σ:St) (H:Hp) (Q:VK):Ι
 | mk:AWW (∀tr A9 F' H' v as,vS AH' FV xw BZj (ϋ tr v as) (P tr A9) Ų) UpN
def upN(t:qt)(E:XW):TE:=AFi UpN
#where
def QN(VM)(e:AJ)(t:qt):Ι:=AZ1 upN
def nOf(tS):qt:=dq (FX (E3 A0U))
section
variable{X:Cx}{F0 H0:Hp}{e:AJ}{es:DA}{AA p:AS}{te:cu}{tf:cW}{tn:qt}
theorem yif(h:A6k):lf QN (nOf tf):=fun z E cx=>
 m9 io (LX Bi Bi (BEs (by
  refine k _ _ _ _ _ [a] R1 s1 A0 (NJ (AOj hb ⟨e2,e3,ap⟩)) ?_ h1
  exact⟨a,vs,[],Β,Β,e1,Pu r1⟩)))
def Yt:qt:=AQt (.dic [] [])
theorem zu7:BZ8 Yt:=fun z E cx=>
 m9 ycl fun σ H Q B2 q hq=>by
  show U1 B2;have R2:BPG A3y:=BBa hq hq
  refine k _ _ _ _ _ [q] R2 JY A0 (NJ (AOj hb ⟨BHT hq,BKV,AeI hq⟩)) ?_ h
  exact BgW
def JK(i:Δ)(t:qt):aH:=š t tr (∀as,ARA as tr)
theorem yac(hN:eJ)(hi:HV)(hx:AEH)(he:AJD)(hs:AKk (DJ APj):=by rfl)
  (hf:AAg:=by show Aav):Apf JK tn:=fun z E cx=>
 vo (Anf hN hi hx TZ hs hf) (iq DR DR (A4s (Op (Bgx (ADJ t)) s1 (h1 as))))
def zf(t:qt):aH:=AHQ D Γ t tr _ (D.rT (.EF tr))
theorem Yu(he:AJD):BVA (zf tn):=fun z E cx=>
 vo (ygu TZ) (iq Ay Ay (A4s (k.rT (.EF t) _ _ _ _ R1.gr nd (sK ⟨AIc ha,(hn a ha).2.1⟩) r1 h1)))
def nV(AQa):qt:=AUs (al Γ[i]? (Ε (.tr _ t)) (P t ă))
theorem yhi(BDj):AIh vt (nV i):=fun z E cx=>
 m9 dC (Wp Io (by
  show U1 Io;show Dx nV;split at h
  ·rename_i as t e;obtain⟨o,e0,v,Β,nd,hn,r⟩:=AQf;exact⟨v,e0,k t _ F H v as (AeC e0) JY nd (sK ⟨AIc ha,(hn a ha).2,ALr e e0 (FA (gW (AL8 as t) Ì a) ha)⟩) r h⟩
  ·show HA))
#where
section
variable{X:Cx}{F0 H0:Hp}{AA p px:AS}{x:Μ}{i:Δ}
theorem z0f:AOM ks EA Xs (BnK (·.1)=ks)
 | [],[],_=>Β
 | [],Db,h=>D4
 | Db,[],h=>D4
 | AJ8,AQV,h=>BZV z0f
#where
section
variable{K:AB}{F0 H0 F H F' H' :Hp}{σ:St}{Γ:Ϥ}
theorem z3u(e1:AFX)(h:AFe):AHd ă a:=fun j q=>by
 have q' :pJ ă (Â o) j a:=BZO
 rcases Xm q' with ⟨_,z⟩ | ⟨_,z⟩
 ·exact z
 ·exact h j z
theorem SR.wrT(R:GU)(e:AY8)(e1:AFX)(h:ό)(r:qG K F AQu H0 t o)(ht:L4 (gW t o b) (gW s o b\/AMo b)):
  fT F AQu (ō t):=by
 have R1:=R.wrO (t:= EI) (u:=u) e e1 h Sj (L3 z z.elim);have R2:=R1.put i r (FM (by
  show ARF (ht b hb)
  ·show AOh ((ō Slot.no)=AeA i EI);exact ALr e e1 z
  ·exact z3u e1 z))
 show A'8;exact R2
#where
abbrev vN:=A9g AXw
inductive JL (BEo vN):Ι
 | mk:Bga (∀t v as F' H',tz ->BB xw A6r (ϋ t v as) (P t) Ų) JL
def zj(K:AB)(sp:vN):Sp:=Abg (APA JL)
def Nb(sp:vN):dJ:=Bd4 (Bn t (P (toD t)))
open xx in
theorem yb9{K:AB}{sp:vN}{vs:AV}{H:Hp}{Q:VK}{E:XK}(h:pB K (Nb sp) vs H Q E):APA zj:=by
 obtain⟨F,ds,P,Ex,h1,h2,h3,h4,h5⟩:=h;refine⟨F,ds,fun t=>P (toD t),Ex,h1,h2,h3,fun t v as F' H' g nd hn r p=> ?_,h5⟩;have s1:LG F' BbA:=NO (by
  show BUA;show BN (AEW (AQs AD'))
  exact e)
 refine h4 (toD t) v BbA H' (AZA (g.f.trans s1) Kj g.h) (ATc s1 t v as (fun a ha u hu=> ?_) r) p
 ·have e' :BUA:=e;show è
  ·exact e'
  ·exact g.g b u e'
 ·have e' :(B3 ADP (H' b) (F' b))=Ε o:=e;split at e'
  ·show AJQ;show E5 wS
  ·exact g.n b o e' n
 ·show DF ha;exact hu
structure Bg (AXV) (mg:ER) (DI:AQ) (x:Μ) (k:Δ) (ps:Υ) (sp:vN):Ι where
 ex:BVV (AKM zj)
theorem Bg.fn(BkO){x:Μ}{k:Δ}{ps:Υ}{sp:vN}(G:AMI Bg x k ps sp):AMI cJ x k ps (Nb sp):=by
 obtain⟨f,fd,h1,h2⟩:=x0;exact⟨f,fd,h1.imp fun _ _ _ _ q=>yb9 q,h2⟩
section
variable{P:A2}{w:An}{K:AB}{mg:ER}{DI:AQ}
theorem JM(AGJ)(ArM){k:Δ}{sp:vN}(Fn:AGC)(S:ARe ps)(len:Abx)
  (Ĭ:ASS (∀F0:Hp,
   ∃t,rM cS F0 H tm t/\A'i (A'x (MK Q)))):
  A2b zj:=by
 show AKT;refine Aat H Q E Bi B2
 ·obtain⟨F,ds,P',Ex,_,rs,hs,_⟩:=Bi;rw[<- mv];exact Aa6
 obtain⟨F0,ds,Pd,Ex,sF,rs,hsp,hQ,hE⟩:=B2;show A7X;have cx:Abt:=by
  refine⟨fun Ν σ Γ F H1 s1 e s' I R hx=> ?_,ART⟩;refine ASU;show Ab1;exact Ab2
 exact BER (A'x (MK Pd)) ⟨ADY,AFS,AFS,ADY,ADY,fun t v as F' H' gr nd hn r q=>by(cases t with | EF t=>exact hQ t v as F' H' gr nd hn r q | tp ts=>exact ĳ),Blz⟩
#where
def Bh(sp:vN)(t:cW):qt:=dq (Awj (Bn tr (FX tr)))
section
variable{X:Cx}{F0 H0:Hp}{e:AJ}{es:DA}{AA p:AS}{x:Μ}{ps:Υ}{k:Δ}{sp:vN}{t:cW}
theorem zup(BEM Bg):
  AIh tj (Bh sp t):=by
 obtain⟨f,fd,Fn,hm,hk,hb⟩:=x0;show AF_;refine Ap9;refine AeM (h₀:=eI) AeN hk (AVk (ArI A5w)) he EE;obtain⟨vs,H1,I1,r,F1,AF,ds,R1,sF,rs,q⟩:=ED;refine CI xy;have hs:BiW vs:=BXY F1 q Bk3;have hl:A6y:=A'R
 have hbs:=hb s1 us xy hl;show AGF;refine ARl (ALv X.A M3 s1 H1 AWp us vs Q _ hr I1.env0 hbs) r AQ2;cases r with
 | kH e=>exact BW' hq
 | ok fl=>
  cases fl with
  | ret u=>exact I1.after hq
  | KE=>show YY
  | brk=>show YY
  | Nn=>show YY
#where
#print _3
namespace _3
open II Os J' _2
def oh(ks:EA)(k:Key):AN:=BYu
theorem wj:AQ3↔AZ7:=by
 unfold oh;rw[AL0];exact Ala hz (YO x h e hz BXz) ⟨k,h,AkX⟩
def kY(ks:EA)(k:Key):EA:=BBg AQ3
def gU{α:CB}(ks:EA)(xs:CU)(k:Key)(x:α):CU:=Bj8 AQ3
theorem zsn:AOM ks EA Xs BiD
 | [],_,_=>Β
 | Db,[],h=>D4
 | AFT,AQU,h=>by
  rw[xt,Ff,ATz,xt,zsn (Co h)]
  show APD (k' =k)
theorem zuh(h:Xs):Bjn kY BTh:=by
 unfold ĭ kY gU;have e:(AgO BV5)=Κ↔AQ3:=by
  rw[wj,AL0];constructor
  ·rintro⟨kv,hm,q⟩;have:=BIs (f:=(·.1)) hm;show Da (z0f h);rw[<- pj q];exact Ρ
  ·intro hm;rw[<- z0f h] at hm;show Cc kv h1 h2 aS hm;exact⟨kv,h1,BLH⟩
 by_cases q:AQ3
 ·rw[ê e.mpr q,IF,IF];exact zsn h
 ·rw[CO (FG (q (e.mp z))),NW,NW,BJW]
  rfl
theorem zzd(h:Ϡ Sk):RO kY ks k=Su (gU ks xs k x):=by
 unfold kY gU;split
 ·rw[ATt,<- h,AG_]
 ·simp [h]
theorem z77{K:AB}{F:Hp}{k:Key}{d:D}{v:V}(r:OU):Aq3 EA (tP ->Bd5)
 | [],xs,vs,h=>Ajk
 | Db,[],vs,h=>ApK
 | AFT,SK,vs,h=>by
  show EX u us h1 h2 h;rw[ATz,ATz];refine qF ?_ (z77 r h2);show Be6
theorem zpf{K:AB}{F:Hp}{ks:EA}{xs:AU}{vs:AV}{k:Key}{d:D}{v:V}(h:tP)(r:OU):NE A7M BTh:=by
 unfold gU;split
 ·exact z77 r h
 ·exact MF h (OJ r)
theorem Yv(oS):∀{xs:AU} {vs:AV} {as:B5},AfN AJw vs ->as= []/\tP
 | [],vs,as,h=>by rw[Ad2] at h;exact⟨h.2,EJ⟩
 | SK,vs,as,h=>by
  rw[Ff] at h;obtain⟨v,us,bs,cs,Β,Β,h1,h2⟩:=h;show u8 r h1;show ApV h2;exact IC (qF r rs)
#print _3
namespace _3
open II Os J' _2 AKr
structure Ord (lt:uk) (n:Δ):Ι where
 tri:∀i j,BB (i<n) (j<n) AAb (lt i j=AC) (lt j i=Κ)
 irr:AwR (j<n ->A6x ->lt j i=AC)
 tr:∀i j k,i<n ->BB (j<n) (k<n) A6x (lt j k=Κ) (lt i k=Κ)
def Sat{α:CB}(lt:uk)(n:Δ)(t:KasT α)(Q:F6 α):Ι:=Vp lt n t=Κ/\Q (Yk lt t)
section
variable{lt:uk}{n:Δ}{α β:CB}
theorem JN(h:Q a):ñ (.ret a) Q:=IC h
theorem Vu(hi:i<n)(hj:j<n)(hij:AAb)(h:Sat lt n (k AQH) Q):ñ (.ask i j k) Q:=by
 refine⟨?_,h.2⟩;unfold Vp;show BoZ kK;exact⟨hi,hj,hij,EJ⟩
theorem Vv:OQ t (KasT α) (ñ t (Bn a (Sat lt n (f a) Q))) (Sat lt n (t.bind f) Q)
 | .ret a,h=>h.2
 | Aqq,h=>by
  have h1:=EJ;show AJP Vp;show A6L h1;exact Vu ii h1.2.1 ϐ.2.1 (Vv ⟨h1.2.2.2,h.2⟩)
theorem Sat.imp(h:ñ t Q)(k:∀a,Q a ->Q' a):ñ t Q' :=⟨EJ,k _ h.2⟩
def Pm(n:Δ)(p:ue):Ι:=AhR p.toList.Perm n
theorem Pm.size(h:ZA):ATu=n:=CY (List.Perm.length_eq h)
theorem Yw{p:ue}{k:Δ}(hk:k<ATu):Q4 k 0=p.toList[k]' AjD:=XU Array.getD hk
theorem Pm.below{p:ue}(h:ZA){k:Δ}(hk:k<n):A3V<n:=by
 have hk' :k<ATu:=CL h.size hk
 rw[Yw hk'];exact UI (BIt (yU _))
theorem Pm.ne{p:ue}(h:ZA){k j:Δ}(hk:k<n)(hj:j<n)(hkj:k≠j):A3V≠Q4 j 0:=by
 have nd:p.toList.Nodup:=h.nodup_iff.mpr Brh;rw[Yw (EQ h.size hk),Yw (EQ h.size hj)]
 have Ap:=AeW nd;rcases Ael hkj with q | q
 ·exact Ap k j _ _ q
 ·exact A1 (Ap j k _ _ q pr)
def Lp(lt:uk)(p:ue)(i j:Δ):AN:=lt (Q4 i 0) (Q4 j 0)
def Up(BiR):Ι:=BWz (iO i j)
def Dn(BiR):Ι:=BWz (iO j i)
theorem z88(O:wx)(P:ZA)(hi:i<n)(hj:j<n)(hij:AAb)(h:MO (Lp lt p i j)):iO j i:=O.tri _ _ (AHs hi) (AHs hj) (P.ne hi hj hij) h
theorem ycu(O:wx)(P:ZA)(hi:i<n)(hj:j<n)(hk:k<n)(h:iO i j)(h' :iO j k):iO i k:=O.tr _ _ _ (AHs hi) (AHs hj) (AHs hk) h h'
theorem yit(O:wx)(P:ZA)(hr:r<n)(h1:1<=r)(U:AQp r)(h:iO AYW r):AQp (r+1):=Aal (by
 show AKW (A0w r)
 ·exact ApG q
 ·show YA j r
  rcases AXr AOd with q' | q'
  ·exact ycu O P Η Η hr Bfi h
  ·show YA i (j - 1)
   exact h)
theorem yj8(O:wx)(P:ZA)(hr:r<n)(h1:1<=r)(U:AR3 r)(h:iO r AYW):AR3 (r+1):=Aal (by
 show AKW (A0w r)
 ·exact ApG q
 ·show YA j r
  rcases AXr AOd with q' | q'
  ·exact ycu O P hr Η Η h Bfi
  ·show YA i (j - 1)
   exact h)
theorem yjg(O:wx)(P:ZA):Bdc (AQp m) (ñ (kas_asc p f m) (Re (m<=r/\r<=m+f/\AQp r/\ (r<m+f ->iO r AYW))))
 | 0,m,h1,_,U=>JN ⟨NY,NY,U,A1 (AFu z)⟩
 | f+1,m,h1,hn,U=>by
  refine Aqi
  cases q:lt (Q4 m 0) (Q4 (m - 1) 0) with
  | Κ=>
   show XY;exact JN ⟨NY,Τ,U,Fk q⟩
  | AC=>
   show dS
   refine(yjg O P f (m+1) Η Η (yit O P Η h1 U (z88 O P Η Η Η q))).imp fun r hz=>by obtain⟨a1,a2,a3,a4⟩:=hz;exact⟨Τ,Τ,a3,A1 (a4 Η)⟩
theorem yho(O:wx)(P:ZA):Bdc (AR3 m) (ñ (kas_desc f p m 0) (Re (Cl=p/\m<=DL/\DL<=m+f/\UQ=0/\AR3 DL)))
 | 0,m,h1,_,U=>JN ⟨Β,NY,NY,Β,U⟩
 | f+1,m,h1,hn,U=>by
  refine Aqi
  cases q:lt (Q4 m 0) (Q4 (m - 1) 0) with
  | Κ=>
   rw[E2,AXx]
   exact(yho O P f (m+1) Η Η (yj8 O P Η h1 U q)).imp fun r Bi=>by obtain⟨a1,a2,a3,a4,a5⟩:=Bi;exact⟨a1,Τ,Τ,a4,a5⟩
  | AC=>
   show dS
   refine Aqi
   have q' :lt (Q4 (m - 1) 0) (Q4 m 0)=Κ:=z88 O P (i:=m) (j:=m - 1) Η Η Η q
   rw[q',E2];exact JN ⟨Β,NY,AWl (m<=_),Β,U⟩
theorem yhk(P:ZA)(i j:Δ):Pm n (kas_rev p i j):=BSC (mirror_perm p i j ((j - i)/2))
theorem BIu{p q:ue}{i j:Δ}(h:p[i]?=q[j]?):Q4 i 0=q.getD j 0:=by
 rw[Bri,Bri,h]
theorem yg0{p:ue}{m k:Δ}(hm:m<=ATu)(hk:k<m):(kas_rev p 0 m).WP k 0=Q4 (m - 1 - k) 0:=by
 have e:=me getElem?_mirror_all hm k;rw[C9 ⟨LU,hk⟩] at e;have:=BIu e;show Da (IY (0+m - 1 - k=m - 1 - k))
 exact Ρ
theorem yj9(O:wx)(P:ZA)(h1:1<=m)(hm:m<=n)(D:AR3 m):BgX (kas_tail3 m n p):=by
 have U:Up lt (kas_rev p 0 m) m:=Aal (by
  unfold Lp;rw[yg0 BOG Η,yg0 BOG hj]
  exact D (m - 1 - j) (m - 1 - i) Η Η)
 exact Vv ((yjg O (yhk P 0 m) (n - m) m h1 Η U).imp fun r hz=>by obtain⟨a1,a2,a3,_⟩:=hz;exact JN ⟨yhk P 0 m,AWl (1<=r),AWl (r<=n),a3⟩)
theorem yko(O:wx)(P:ZA)(h1:1<=n):BgX (kas_count n p):=by
 refine Vv ((yjg O P (n - 1) 1 HT Η (fun i j a b=>Τ)).imp (CA r ED))
 obtain⟨a1,a2,a3,a4⟩:=ED;by_cases e:r=n
 ·show DF (IB e)
  exact JN BXZ
 ·show BN (IB e)
  by_cases g:r>1
  ·show DF g;refine Aqi
   have q:lt (Q4 0 0) (Q4 AYW 0)=Κ:=a3 0 AYW Η Η
   rw[q,E2];exact JN BXZ
  ·show BN g;show YA r 1
   have q:=a4 Η
   have D:AR3 2:=Aal (by
    show YA i 0
    show YA j 1
    exact q)
   refine Vv ((yho O P (n - (1+1)) (1+1) Η Η D).imp (CA r B2))
   obtain⟨b1,b2,b3,b4,b5⟩:=B2;rw[CO Η,b1]
   exact yj9 O P Η Η b5
theorem zzj(O:wx)(P:ZA)(hk:k<n)(U:AQp k):∀(f l r:Δ),l<=r ->G_ (r<=k) (r - l<=f) (X0 l (iO j k)) (BT3 (r<=j)) (ñ (kas_place p k f l r) (VS (x<=k/\ (X0 x (iO j k))/\BT3 (x<=j))))
 | 0,l,r,h1,h2,h3,h4,h5=>JN Bib
 | f+1,l,r,h1,h2,h3,h4,h5=>by
  unfold kas_place;by_cases g:l≥r
  ·show DF g;exact JN Bib
  ·show BN g;have m1:l<=AGI:=Τ
   have m2:AGI<r:=Τ
   refine Vu (AHs hk) Au3 (P.ne hk Η Η) ?_
   cases q:lt (Q4 k 0) (Q4 (AGI) 0) with
   | Κ=>
    show XY;refine zzj O P hk U f l _ m1 Η Η h4 (At j a b)
    rcases BHL (AGI) j with z | z
    ·exact ycu O P hk Η Η q (U _ j z b)
    ·show YA j AGI
     exact q
   | AC=>
    show dS
    have q' :iO (AGI) k:=z88 O P hk Η Η q
    refine zzj O P hk U f _ r Η h2 Η (TU j a) h5
    rcases A0w (AGI) with z | z
    ·exact ycu O P Η Η hk (U j _ z Η) q'
    ·show YA j AGI
     exact q'
theorem ymt(P:ZA)(k d:Δ):Pm n (bubble p k d):=BSC (bubble_perm p k d)
theorem ynx(O:wx):∀(f:Δ) (p:ue) (k:Δ),ZA ->k+f=n ->AQp k ->ñ (kas_bin f p k) BRi
 | 0,p,k,P,h,U=>by
  show YA k n
  exact JN ⟨P,U⟩
 | f+1,p,k,P,h,U=>by
  have hk:k<n:=Τ
  refine Vv ((zzj O P hk U k 0 k ϓ HT Η (fun j a=>Τ) (fun j a b=>Τ)).imp (CA l ED))
  show ū a1 a2 a3;refine ynx O f _ LN (ymt P k AoR) Η (MX i j hij hj)
  have at' :∀x,(bubble p k AoR).WP x 0=MV x l A3V (if l<x/\x<=k then Q4 (x - 1) 0 else Q4 x 0):=VS (by
   have e:=getElem?_bubble (xs:=p) (src:=k) (EQ P.size hk) AoR Η x
   rw[IY (k - AoR=l)] at e
   split
   ·show LP;show A2y IF
   ·show LP;rw[NW] at e;split
    ·rename_i q2;show A2y (C9 q2)
    ·rename_i q2;show A2y (CO q2))
  show BV (lt _ _=Κ);rw[at',at'];by_cases e1:i=l
  ·rw[C9 e1,vi,ù]
   exact a3 AOd Η Η
  ·show BN e1;by_cases e2:j=l
   ·rw[C9 e2,vi]
    exact a2 i Η
   ·show BN e2;by_cases e3:l<i/\i<=k
    ·rw[C9 e3,ù]
     exact U (i - 1) AOd Η Η
    ·show BN e3;by_cases e4:l<j/\j<=k
     ·show DF e4;exact U i AOd Η Η
     ·show APU e4 (ApG Η)
theorem yog(O:wx):Sat lt n (kas_sort n) BRi:=by
 have P0:Pm n (BIF (AGe n)):=qV Brj _
 by_cases h0:n=0
 ·subst h0;exact⟨Β,(BG Brj _),fun i j _ hj=>(BLe hj)⟩
 ·refine Vv ((yko O P0 Η).imp (CA r ED))
  obtain⟨a1,a2,a3,a4⟩:=ED;by_cases g:Cl<n
  ·rw[C9 g,IY (max Cl 1=Cl)]
   exact ynx O _ _ _ a1 Η a4
  ·show BN g;obtain e:Cl=n:=Τ
   exact JN ⟨a1,e ▸ a4⟩
#where
#print _3
namespace _3
open II Os J' _2
def wu(lt:uk)(is:DD):Ι:=is.Pairwise (AMW A6x)
theorem yl5(P:Pm n q)(U:Up lt q n):wu lt q.toList:=by
 unfold wu;rw[Brk];intro i j hi hj hij;have hj' :j<q.size:=CY hj
 have hi' :i<q.size:=Τ
 have:=ApG (U' P.size hj')
 unfold Lp at Ρ;show t_ (Yw hi') (Yw hj');exact Ρ
structure Hf (B9:A2) (w:An) (A:BM) (E:dO) (vs:Au) (lt:uk) (T:AzF) (κ:At5):Ι where
 kind:∀(s:AD) (Q:PY At5),A4x ->2<=MG ->Q κ s ->KS (keyKind' ph)
 ask:∀(s:AD) (i j:Δ) (C:A0S),A4x ->BB Aix (j<MG) AAb (C AQH s) (At6 B9 w A κ vs i j C s)
section
variable{B9:A2}{w:An}{A:BM}{E:dO}{s:AD}
theorem ztz{a:Ζ}{vs:Au}{lt:uk}{T:AzF}{κ:At5}{n:Δ}{P:PY PySem.Fin}(hob:AhV M_ ph n)(O:BOi)(hT:A4x)
  (hst:∀h',(∀x o,BLq ->x≠a ->F7 Se o) ->T h') (K:Hf B9 w A E vs lt T κ) (h64:BLD)
  (h:∀is:DD,BOs ->A7G ->P (.K_ (.ret BH)) (am (sortedHeap A6 a vs A6q))):AVY (Builtin.«list.sort» (H_ SB)) P:=by
 have hal:P6 a:=zG hob;have Vw:AOZ:=BLL
 rw[list_sort_plain];refine lL (Brd (n:=n)) hob Β;refine z6 (BIm (n:=n) hob Β ?_ (EQ WO Vw) ϓ)
 obtain⟨ea,hoa⟩:∃ea,AhV (Blt IN) #[] ea:=BQq hob #[];refine A9t hoa;show uA (z6 (BH8 ?_ (Co Vw))) (BMI ϓ) (ABP (m:=_) ?_);have Nf:BWt Axj ea:=by
  refine AG' ApB (AG' ApB hoa)
  ·rw[BIv,Aej];exact zK (Ayp hal)
  ·rw[Aej];exact zK hal
 have T2:T ((Axj Awn).UC AwN):=hst _ fun x o hx hxa=>by
  have A8:=zG hx;refine AG' ApB (AG' ApB (AG' (APn hxa) hx))
  ·rw[BIv,Aej];exact zK (Ayp A8)
  ·rw[Aej];exact zK A8
 dsimp only;have hsv:ACP Brl:=WO ..;by_cases xo:Brl<2
 ·rw[C9 xo,C9 xo];refine AYi;rw[StateT.run_pure];refine AYi;refine A9t Nf;have eo:Cb arrOf (SortSt.mk' general' (Brm ph) #[] 7 Θ) (·.2)=AH1 (MS MG) AwQ:=by
   show Boc;show nX
   ·simp
   ·intro i q1 q2;have:Aix:=CY q2
    simp [Ρ]
  rw[eo];refine BY6
  ·show BO8;refine rX (h _ JY ?_);unfold wu;rw[Brk];intro i j hi hj hij;have:j<MG:=CY hj
   show Ω
  ·simp;show Ω
 ·show YV xo xo;refine k8 (K.kind _ _ T2 Η)
  show Cc ok Pq Uq yog O;refine ul (W.kat_run (Q:=fun st' s' =>∃p:ue,ACP ATu/\arrOf st' =p.map (W.kas_item (Brm ph))/\failedOf st' =Θ/\p=BXD/\s' =Bd8)
   (G:=fun p s' =>p=BXD/\s' =Bd8)
   Β Η Η (fun p st' s' a1 a2 a3 a4=>⟨p,a1,a2,a3,a4⟩) ?_) ?_ Aa5
  ·exact yhf (fun i j C hi hj hij hC=>K.ask _ i j C T2 hi hj hij hC) _ _ ok Ű
  ·rintro⟨⟨⟩,st'⟩ s' ⟨p,hp,har,hf,Β,Β⟩;have eo:=W.kat_snds (vs:=vs) Β har;rw[eo];refine A9t Nf;refine BY6
   ·rw[hf];show BO8;exact HU (h _ Pq (yl5 Pq Uq))
   ·exact zO (ATG (z7v hp)) Η
theorem zi6{src:AI}{Q:dO}
  (hc:PD RE pp (Aee src) (fun vs s1=>∃lt T κ,BOi/\BLD/\Hf B9 w A.in1.in1 E vs lt T κ/\ (∀h2:AQ,(∀x o,F7 ABn o ->F7 h2.get? o) ->T h2)/\
   ∀(l:Ζ) (h' :AQ) (is:DD) e,Aye l ->G_ BOs A7G (BSS A6q) (∀b ob,ACo ABn ->ACo Se) (NM l (AWm h'))) E s):
  KS (A2k [src]):=by
 refine BrT kind_sorted BrU BrV BJl BN9;show BoU;refine Bh3;refine OK (Aee _) (ϑ hc (yi vs Bb) Aa5);obtain⟨lt,T,κ,O,h64,K,hT2,h⟩:=Bb;have Vw:AOZ:=BLL
 refine BMI Vw;have hoL:BJN (AUg BLs IN) BLs:=RR;show BD (Bh2 (ztz (T:=T) hoL O (hT2 _ fun x o e=>zC) (fun h' k=>hT2 _ fun x o e=>k x o cq Aaq) K h64 fun is a1 a2=>AFH)) (rX AFH);show C5 e he (ylz (vs:=vs) (out:=A6q)) hoL;refine h D1 _ is e HT a1 a2 he (APu ob);exact yhl (z8 _ eb) (zK (zG eb))
#where
def jM(a b:Μ):AN:=Φ (At7<BIw)
theorem Yx(a:Μ):jM a a=AC:=by unfold jM;simpa using List.lt_irrefl At7
theorem z2k(h1:AHk)(h2:ŉ b c):ŉ a c:=by
 unfold jM at*;simp only [ABk] at*;exact List.lt_trans h1 h2
theorem zvr(BZS jM):ŉ b a:=by
 unfold jM at*;simp only [Brn,ABk] at*;cases q:Φ (BIw<At7) with
 | Κ=>exact pj q
 | AC=>
  have:=List.le_antisymm (Bro h1) (Bro (of_decide_eq_false q));exact fw (by show AE a a a a a a a a a a a a a a;show AE b b b b b b b b b b b b b b;simp at Ρ;rw[Ρ]) h2
theorem z3m(h:AHk):jM b a=AC:=by
 cases q:jM b a with
 | AC=>rfl
 | Κ=>have:=z2k h q;show Da Yx;show L9
def RV(xs:Υ)(i j:Δ):AN:=jM Amx (e_ j Nc)
theorem wz{α:CB}{xs:CU}{i:Δ}{d:α}(h:nr):e_ i d=xs[i]:=A1U vb
theorem z0q{xs:Υ}(nd:AT0):BU2 RV:=by
 show AZX nd;refine⟨fun i j hi hj hij h=> ?_,fun i j _ _ h=>z3m h,BhB (z2k h1 h2)⟩;refine zvr h ?_;rw[wz hi,wz hj];rcases Ael hij with q | q
 ·exact Ap i j hi hj q
 ·exact A1 (Ap j i hj hi q pr)
def Q_{α:CB}(d:α)(xs:CU)(is:DD):CU:=BU8 ATv
theorem zon{α:CB}{d:α}{xs:CU}{is:DD}(h:AhR is.Perm B1):(Q_ d xs is).Lm xs:=by
 have e:MS B1 (rq (e_ i d))=xs:=by
  show nX
  ·simp
  ·intro i q1 q2;show BP7;exact wz q2
 have:=BU8 h.map;show Da e;exact Ρ
theorem zvp(h:wu (RV xs) is):AWI (Q_ Nc xs is).AeQ:=by
 unfold Q_;rw[ĵ];exact h
theorem zom{xs:Υ}{vs:Au}(r:BOy){i:Δ}(hi:nr):∃t,AG9 i T1= .AO Amx t:=by
 show Cc u e ru (r.get (i:=i) (x:= .AO Amx)) (Bm' iX (wz (d:=Nc) hi))
 show AEX e;exact ru
theorem z2n{B9:A2}{w:An}{A:BM}{E:dO}{xs:Υ}{vs:Au}(r:BOy):BdB (D9 KI) :=by
 have hl:Ϡ MG:=Bm4 Sf
 refine⟨BjT _ (PQ ĝ),fun s i j C _ hi hj _ hC=> ?_⟩
 ·show AFK k hk hv;show C5 t e (zom r (i:=k)) Η
  rw[wz hk] at e;rw[e];exact Brq Β
 ·show C5 t e (ö (zom r)) Η
  show C5 u e' (zom r (i:=j)) Η
  unfold At6;rw[e,e',Brr];exact oneLt_str hC
def Ng:AHw Key | Aab=> APl | A6u=> Ů | _=> .DV 0
theorem yht:∀k v,AXJ qy k v=Κ ->Ng v=k:=fun k v h=>by
 rcases FN h with ⟨i,t,Β,Β⟩ | ⟨x,t,Β,Β⟩<;>rfl
theorem zwz:lx vs Au ys Υ (BU5 qy) (As1 Ng=AL9 Sb) (IM (AL9 AHA) vs)
 | [],[],_,_=> EB
 | [],Db,_,h=>D4
 | Db,[],_,h=>D4
 | AQV,y::ys,h,e=>by
  obtain⟨⟨k,hk⟩,_⟩:=h v zY;rw[Ff,Ff] at e;injection e with e1 e2;refine .AX ?_ (zwz (fun u hu=>h u (zW _ hu)) e2);rcases FN hk with ⟨i,t,Β,Β⟩ | ⟨x,t,Β,Β⟩
  ·show fg e1 e1 e1 e1 e1 e1 e1 e1 e1 e1 e1 e1 e1 e1
  ·have:x=y:=Ayt e1
   show nN;exact⟨t,Β⟩
theorem ye7:RY ks EA xs Υ (ks.Perm (eC Sb)) (∃ys:Υ,ks=AL9 Sb/\ys.Perm xs):=fun{ks xs} h=>by
 have e:ks=Cb ABZ (iA Aq6) Sb:=by
  show Ø;refine Bdr ks;show AEb x (aS (BIt hk))
  rfl
 refine ë e;have:=h.map fun k:Key=>Aq6
 show Da Q3;refine this.trans ?_;show ck ((Lo ((fun k:Key=>Aq6) ∘ Sb) xs)=xs) (List.map_id' xs)
def uo(xs:Υ):Υ:=(mU AyJ B1).EL (iA Aq6)
theorem zuz(xs:Υ):BTU=Cb uo xs Sb:=by
 unfold uo;show Ø;refine Bdr _;show AEb j ((zoe _).mp hk)
 rfl
theorem Ce{xs:Υ}{x:Μ}:x∈uo xs↔x∈xs:=by
 have e:x∈uo xs↔ (Sb x:Key)∈BTU:=by
  rw[zuz,ZE];constructor
  ·exact GI (ij x h)
  ·rintro⟨y,h,e⟩;have:y=x:=Ayt e
   show u_;exact h
 rw[e,zoe];constructor
 ·rintro⟨j,hj,e⟩;have:e_ j Nc=x:=Ayt e
  rw[<- Ρ,wz hj];exact yU hj
 ·intro h;show Ϣ j hj Ay6;exact⟨j,hj,G0 (wz hj) e⟩
theorem zsv(xs:Υ):mr uo xs:=by
 have:=zmm AyJ B1;show Da zuz;exact List.Pairwise.imp (fun{a b} h z=>BRV) (BIx Ρ)
def JQ(P:A2)(w:An)(a:Ζ)(xs:Υ):HO:= AnT (vC ż Ng ADn h a (Cb uo xs Sb))
inductive JR (Abz):Ι
 | mk:∀(p:Ζ) (xs:Υ),G_ (vs= Ahl) (nY AG H p AkR) (B1+1<Atu) (Agw q q q q BTp) (ANV JR)
def Px(X:Cx):wf:=AZl JR
inductive JT (Abz):Ι
 | mk:∀(q:Ζ) (xs:Υ),G_ (vs= Akn) (Pc q BTp) (De uo xs<64) (Bf2 (ĺ (uo xs))) (ANV JT)
def Yy(X:Cx):wf:=AZl JT
theorem z7b(AAc):AN5 Mo (Px X):=by
 rintro Ν s σ H xs us Q I r ⟨p,ns,e0,hq,hb,k⟩;subst e0;show SS;show AAq;show BaI;show ARD;have hsz:xn=JA:=CY hl.symm
 refine zq3 (κ:=Key) (knd:=qy GE X.w) (kf:=Ng) yht (val:=GL (.B0 BMm)) V_ kM BWN BQx Bbj
 ·have hi:AXv:=CL hl (Pl (Co hv))
  show hG t (zom rv hi);rw[MH,show A1e by simpa using hv] at e
  have e' :v= .AO BMm t:=e;subst e';exact⟨L2 zp4,Β⟩
 ·rw[hsz,zuz] at hS;have I2:AOo (Aqp JQ) mE:=
   AKR PP HT (Aqp JQ) (Bdo BVm)
  exact AI_ I2 (k _ AEM)
theorem zp1(r:IM xs vs)(h:AOz nr):A8Y (AwT xs) AwQ:=zwj r h
theorem Yz(AbU){f:AYm}{d:α}{xs:CU}{is:DD}{e:β}(h:AOz nr):Q_ e (eC f) is=AvJ d xs f:=by
 unfold Q_;show Ø;refine Ax4;show(eC f).WP i e=f (e_ i d);rw[wz (EQ C4 (h i hi)),wz (h i hi),AT1]
theorem z7d{X:Cx}(hc:Fs):AQX (Yy X):=by
 rintro Ν s σ H xs us Q I r ⟨q,ns,e0,hq,h64,k⟩;subst e0;show SS;show AAq;obtain⟨⟨o,es,ep,t,hg,O⟩,_,_⟩:=Iq q _ hq;have hlk:FE=A5N:=Ajb
 have ABc:AP4:=B4
 refine zi6 (zq1 (IB (AS' hc)) hg O Η Bjh)
 show Cc ys e1 hp ye7 hk;have rv:=zwz hm e1;have JF:AL7=M':=BOK
 have hly:M'=A5N:=BIi;refine⟨RV ys,_,_,iS JF z0q (BrZ (zsv ns)),Τ,z2n rv,BKN,ArK hl⟩
 have hlt2:AZD:=BAt;have hix:BaP:=LW (by
  rw[C4,<- JF];exact UI (At8 hi))
 have hrv:=zp1 rv hix;rw[BUL] at hrv
 have hms:(Q_ Nc ys is).Lm (uo ns):=uC zon (U' JF a1) hp
 have E9:BTx:=BMR
 have I2:Amw AkS:=
  AKR A7q hlt2 (E3 AkS) (A'Y hl)
 exact ř l (ygv I2 d) Bj4
def wB:AU ->ARu Μ
 | []=>Ai3
 | vy::r=>Cb wB r (x:: ·)
 | Db=>Θ
theorem zya(Me):∀{ds:AU} {vs:AV} {xs:Υ},MZ ->wB ds=Ε xs ->vs=eC .AO
 | [],vs,xs,r,h=>A9N
 | ip,vs,xs,r,h=>by
  show EX v us r1 r r;cases d with
  | AO x=>
   show Dx wB;unfold Rep at r1;subst r1;cases q:wB ds with
   | Θ=>rw[q] at h;show GN
   | Ε ms=>show BBK zya
  | _=>show OZ
theorem YB(Me):∀xs:Υ,NE AkR (eC AHA)
 | []=>MY
 | n::ns=>qF IU (YB ns)
def zu4:SE:=AEJ (∃ns,wB xs=Ε ns/\JA<4095/\ A5N<64/\Bbz (A7l ns))
section
variable{X:Cx}{F0 H0:Hp}{a e:AJ}{AA p p_ p2:AS}{t:cW}
theorem ye6(Bk9):
  BfA zu4:=fun z E cx=>by
 have inner:PE JS Axa (U7 (Px (kP z)) BLQ):=EH zk4 (z7b hc) hg2 hm2 z1j FY Χ Χ he Β
 refine BkG z7d
 show AOf;refine AY4;show AJP zu4;split at h1
 ·show Abj;obtain⟨ns,hns,A8,hme,h1⟩:=h1;show Rl (zya rs hns);refine Bfr
  refine Bbq hme;have R2:BLY (JQ GE X.w q ns):=BgE
  obtain⟨R3,q1,q2,q3,ap⟩:=Ip R2 hl2 (YB (K:=AG) (F:=F1) ms);exact BDd YB hs (GL (BrY Ce))
 ·show vE
#where
open BGw (Ads)
open BGx BGy in
theorem yf1(BlJ):
  Meets (Builtin.«list.__eq__.loop» (H_ [AWf,.As b,Ah1,Ah1]))
   (fun A R s=>(A'N dd sl (BaH sl2) (Á (jM x y)) s)):=by
 intro B9 w A R s h;show AFn;show A'X
 show A7_
 have hi1:HR No (TN).eR AW':=h1;have hi2:HR ABs (TN).eR (.AO y u):=h2;rw[hi1,hi2];have hne:WZ BIy Brs:=by
  cases q:(BIy==Brs) with
  | AC=>rfl
  | Κ=>
   have e:=As' q;exact fw (by show AE x x x x x x x x x x x x x x;show AE y y y y y y y y y y y y y y;simp at e;rw[e]) hxy
 refine z6 (BIz x y t u B9 w _ _ _ _ ?_);rw[hne]
 show A7_
 rw[hi1,hi2];refine BkY x y
 wp_walk
 exact h
open BGx BGy in
theorem yej(BlJ):
  Meets (Builtin.«list.__lt__» (H_ [AWf,.As b]))
   (fun A R s=>(A'N dd sl (BaH sl2) (Á (jM x y)) s)):=by
 intro B9 w A R s h;show AFn;show A'X;have f3:=Brt
 show A7_
 exact⟨AvO Bru,Atw entry_eq_loop (gS (AN2 Bru) (yf1 l b No ABs n n2 dd dd2 sl sl2 x y t u h1 h2 hxy B9 w A R _) ⟨hl,hb,h⟩)⟩
def LK(h:AQ)(v:AI)(x:Μ):Ι:=∃a AY t,Mb/\PlainL h a AY/\HR AY 0 AW'
theorem yd2(h1:LK A6 v x)(h2:LK A6 v' y)(hxy:x≠y)(hu:Aj2)(h:Q (jM x y) s):KS (oneLt' Κ v v'):=by
 obtain⟨a,AY,t,Β,⟨o,n,e1,c1,d1,s1⟩,z1⟩:=h1;obtain⟨b,its2,u,Β,⟨o2,n2,e2,c2,d2,s2⟩,z2⟩:=h2;obtain⟨cls,ABJ,ABH,AK9⟩:=o;obtain⟨cls2,ace,data2,RW⟩:=o2;show AE c1 c1 c1 c1 c1 c1 c1 c1 c1 c1 c1 c1 c1 c1;show AE d1 d1 d1 d1 d1 d1 d1 d1 d1 d1 d1 d1 d1 d1;show AE s1 s1 s1 s1 s1 s1 s1 s1 s1 s1 s1 s1 s1 s1;show AE c2 c2 c2 c2 c2 c2 c2 c2 c2 c2 c2 c2 c2 c2;show AE d2 d2 d2 d2 d2 d2 d2 d2 d2 d2 d2 d2 d2 d2;show AE s2 s2 s2 s2 s2 s2 s2 s2 s2 s2 s2 s2 s2 s2;rw[oneLt'_eq];refine gu wpAny_cRoomFor_or (E6 hu);refine z6 (wpAny_callSpecialIfBound?_slot (T:= K2) (OP e1) Brv (Ady Brv (OP e1) F.entry_list_lt (F.args_list_lt_2 _ _) (yej a b AY its2 n n2 Θ Θ AK9 RW x y t u z1 z2 hxy) (DM e1 e2)));show BJM
theorem LK.up(q:LK h v x)(k:A3b):LK h' v x:=AOp a AY t e p z q a AY t e (p.keeps k) z
theorem LK.looks(q:LK h v x):Aeh M h (AtD v) (RH K2):=by
 obtain⟨a,AY,t,Β,⟨o,n,e,c,_,_⟩,_⟩:=q;intro A Q E s k hQ;exact wpAny_typeOf_ref (k _ _ e) (EQ c hQ)
theorem yig(hl:Ϡ MG)(nd:AT0)(hu:Aj2):
  BdB (P4 (∀i,nr ->LK h (AG9 i T1) Amx)) :=by
 refine⟨BjT hT AUM,BPh hij⟩
 ·show AFK k hk hv;have:=hT k Η
  show Da (wz hk);exact this.looks
 ·unfold At6;rw[Brr];refine yd2 (hT i Η) (hT j Η) ?_ hu hC
  have Ap:=AeW nd;rw[wz Η,wz Η]
  rcases Ael hij with q | q
  ·exact Ap i j Η Η q
  ·exact A1 (Ap j i Η Η q pr)
def gl(g:Υ):D:= .B_ (g.map .AO)
def hdS(g:Υ):Μ:=g.headD Nc
theorem yo8(I:AW)(sF:VW)(r:Rep AG F (gl g) v)(ru:OY)(hg:g≠ []):LK A6 u (hdS g):=by
 show EX a vs hq rs r;show AE ru ru ru ru ru ru ru ru ru ru ru ru ru ru;show AbP;cases g with
 | C3=>show AFG hg
 | AX x g=>
  show EX w us Β rs rs;cases rv with
  | AX r0 rr=>
   show MW r0;exact⟨a,_,t,Β,pl,DT hdS⟩
def yb1:SE:=AEJ (∃gs:OT,xs=kR gl/\ (∀g∈gs,g≠ [])/\ mr kR hdS/\A1h/\
   Aae OT (ĺ gs) (Afm BAq) gl)
theorem YC{γ:CB}{v:V}{u:AI}{Q:VK}{Ν:dX}(d0:γ){f:γ ->D}{T:AQ ->D3 AI γ}{lt:uk}{κ:At5}{gs:EK γ}(I:AW)(sF:VW)(r0:Rep AG F (E3 (kR f)) v)(ru:OY)(h64:A1h)
  (up:∀h h' v g,T h v g ->(A3b) ->T h' v g) (tt:∀g∈gs,∀v u,Rep AG F (f g) v ->OY ->T A6 u g) (od:Ord lt AHB)
  (sk:∀AY:Au,AGy=AHB ->Hf GE X.w BI0 xL AY lt (P4 (Bfa h)) κ)
  (k:∀l is ws,Ò (AvJ d0 gs f) ws ->BB Ahe ((Q_ d0 gs is).Lm gs) A7G (∀i∈is,i<AHB) (Ah5 ws)):
  ADr (A2k [u]):=by
 show AFU r0;show AE ru ru ru ru ru ru ru ru ru ru ru ru ru ru;show AbP;show Ahu;have hl2:=lQ rs;show Au_ hl2;have ABc:AP4:=B4
 have hT:Bfa A6:=LW (by
  show Cc v e1 r1 (yE rs (i:=i) (d:=f gs[i])) (A2f iX)
  show Cc u e2 r2 ALP e1;rw[MH,e2,wz hi];exact tt _ (yU hi) v u r1 r2)
 have hup:∀x o,BLq ->F7 ((s.heap.push (seqObj "list" #[] 0)).update s.heap.objs.size (Obj.mapSeq (· ++its.toArray))).IN o:=fun x o e=>by
  have A8:=zG e;exact AG' (APn (zK A8)) cq
 show BD (zi6 (collect_list (vs:=AY) kM ?_ Η)) ⟨lt,_,κ,CL (IY (AGy=AHB)) od,Τ,sk AY Η,fun h2 k2 i hi=>(rS up (hT i hi) (BfL hup)),ArK hl'⟩
 have hsz:AZD:=zO (ATO _) (zO (ATG (X_ (BLC).EC (BIv ..))) hle);have hix:AOz (i<AHB):=LW (OR (UI (At8 hi)))
 have hrv:=zp1 rv (is:=is) (LW (OR AxE))
 have hrs:Ò (AwT (kR f)) A5i:=zv0 rs (LW (Azz AxE))
 rw[A5k d0] at hrs;have E9:D6 (Q_ V.non vs is).Zs:=by
  unfold Q_;show AIS Brw AHC;show Ω
 have I2:OE (b_ l A5i) (AMR Mm):=
  A1g (Bm2 hup) hsz (ACU _ _ _ (E3 A5i) (A'Y hl'))
 exact ř l I2 (k l is _ hrs (AWc hsz) (zon (EQ (IY (AHB=AGy)) a1)) a2 hix)
theorem yo4(hu:AUn Ad4):AQX (Ea AG yb1):=by
 show oy;show Dx yb1;split at h
 ·show AKN r0;obtain⟨gs,Β,hne,nd,h64,h⟩:=h;show SS;refine YC [] (T:=fun h v g=>LK h v (hdS g)) (lt:=RV (kR hdS)) (κ:=oneType') I sF r0 rx h64 BdX (fun g hg v u r1 r2=>yo8 I sF r1 r2 (hne g hg)) (by have:=z0q nd;rwa [C4] at Ρ) BRW Bkr
  ·have e:=PV yig B9 GE w X.w A BI0 E xL (vs:=AY) (xs:=kR hdS) BMT nd (Aw6 (AMQ (Ad4+1)))
   rw[C4] at e;refine⟨fun s Q hT=>e.kind s Q Ah_,BjH⟩
   all_goals
    have q:=hT i hi;rw[BXy [] (wz hi)] at q;show Bgr ((kR hdS).WP i Nc) hdS
    exact q
  ·have hp:=zvp od;rw[A5k []] at hp;exact BIx hp
 ·show HA
#print _3
namespace _3
open II Os J' _2
open BGw (Ads)
theorem zri(l:Ζ)(No:Kb)(n:Δ)(b:Ζ)(ABs:Kb)(n2:Δ)(sl:AEO)(hc0:BP0 items.isEmpty BPw)(hc1:AzJ)(hs2:BPw<=ASo+1):
  Meets (Builtin.«list.extend» (H_ [AWf,.As b])) (fun _ R s=>(A'N Θ #[] (AU0 Θ (.seq ABs n2) sl) T1 (ń (AGw l (AGv (VS (x++ABs)))) Mm))):=
 Bik (by
  show AFn;show A'X;have f1:=AutoSeq1.idx_int;have f2:=AutoSeq1.sub_tuple_tuple;have f3:=Brt;have f4:=AutoSeq1.sub_tuple_list;have f5:=AutoSeq1.sub_list_tuple;have hz' :(No++ABs).size<=ASo+1:=CL Array.size_append hs2
  wp_walk using (BIk hl Β (hz:=hc1) (_hz' :=hz')),BmB,BmD;exact RU h)
theorem z86:OwR X "list.extend" zuw:=by
 intro Ν s σ F H l vs E7 xs ds us P Q I hl sF rs ra rv h k;show Dx zuw;split at h
 ·obtain⟨v,_,Β,⟨b,zs,Β,hq,rz⟩,Β⟩:=ra;show Cc u Β ru ALb rv;show AE ru ru ru ru ru ru ru ru ru ru ru ru ru ru;obtain⟨z,AY,n,r,hle,e⟩:=AtI hl;obtain⟨its2,r2,⟨o,n2,e2,c2,d2,s2⟩,hz2⟩:=AvX;obtain⟨cls,ABJ,ABH,AK9⟩:=o;show AE c2 c2 c2 c2 c2 c2 c2 c2 c2 c2 c2 c2 c2 c2;show AE d2 d2 d2 d2 d2 d2 d2 d2 d2 d2 d2 d2 d2 d2;show AE s2 s2 s2 s2 s2 s2 s2 s2 s2 s2 s2 s2 s2 s2;have aci:=r2.length;have l1:=lQ rs;have l2:=lQ rz;have hsz:D6 (xn+Brx):=AjM WO WO
  have YD:BP0 its.toArray.isEmpty (xn+Brx):=Ú (ydn hsz) AeP zJ
  show BD (Ady Bry AkD PySem.F.entry_list_extend (PySem.F.args_list_extend_2 _ _)
   (zri l QP n b its2.toArray n2 AK9 YD AZI Η) (DM e e2)) (k9 BS (AtJ (eQ :=AY++its2) hl e A0 (BG' r2) ?_) (k _ _ (MF rs rz) h.2))
  rw[N1];show Ω
 ·show HA
def zyn:SE:=AHq [ACf _] (P (ABZ lU))
theorem zgu:∀{xs:AV} {us:Au},BMM ->(∀(i:Δ) (x:V) (u:AI),ci ->FL us u ->ui) ->mI
 | [],[],_,_=> EB
 | [],Db,h,_=>D4
 | Db,[],h,_=>D4
 | SK,u::us,h,k=> .AX (k 0 x u Β Β) (zgu AX1 (AhB y w (k DU y w (Co e1) (Co e2))))
theorem RX:∀{AH:Õ} {ws:AgM} {i:Δ} {p:κ×AI},A2H ->AOY p ->∃v,FL AH (CS,v)/\HP v p.2
 | _,_,_,_,EB,e=>AJ'
 | _,_,0,p,sQ (a:=q) h _,e=>by
  simp at e;subst e;show Aau h;exact⟨q.2,by rw[<- h1];rfl,h2⟩
 | _,_,D',p,sQ _ r,e=>by
  show DE v e1 e2 (ö RX) r AEp
  exact⟨v,CY e1,e2⟩
theorem Vx:∀{ks:vF} {vs:AV} {i:Δ} {k:κ} {v:V},FL AQn (k,v) ->FL ks k/\AQW:=fun{ks vs i k v} e=>by
 rw[List.getElem?_zip_eq_some] at e;exact e
theorem yi3(AAc):A3J (Ea AG zyn):=by
 show oy;show Dx zyn;split at h
 ·rename_i ks ds';obtain⟨v,_,Β,⟨a,vs,Β,hq,EN,rs⟩,Β⟩:=rs;show SS;show AE rx rx rx rx rx rx rx rx rx rx rx rx rx rx;obtain⟨hz,hsm,ws,kv,hd⟩:=W9 Iq (sF _ _ hq);show TD ob es ep hd hd;have hm:BMa:=⟨ob,es,hd⟩;have RZ:BQo=Ll:=AT2;have hlk:BMe:=by rw[<- RZ,Aem,<- EN,AG_]
  rw[RZ] at hz;refine W.kdl_call (BEY W.kdl_dict hsm) V_ hm hz fun h' tk A4 c PP hg hac=> ?_;have hv:IM (ABZ kV) At1:=by
   refine zgu (by show Æ kB;exact hlk.trans (hac.1).jp) BBn
   obtain⟨k,w,e3,e4⟩:=hac.2 i u (A0z e2)
   obtain⟨v5,e5,_⟩:=RX kv e3;have e5:=(Vx e5).1;show Afc e5 e1;show AE e1 e1 e1 e1 e1 e1 e1 e1 e1 e1 e1 e1 e1 e1;rcases FN e4 with ⟨j,t,Β,Β⟩ | ⟨x,t,Β,Β⟩
   ·exact Ċ
   ·exact Ċ
  have I2:BM9 A6N mE:=
   AKR PP HT (E3 A6N) (BZf APi)
  exact AI_ I2 (k _ _ _ (Xl ks) AEM h)
 ·show HA
#print _3
namespace _3
open II Os J' _2
theorem z0o(I:AW)(e:AJp)(ho:A1_):ŝ a Ê s:=by
 have ne:sB ϱ (Aqw) NV:=Anv z (by rw[z,e] at q;show L';exact n _ Β)
 refine I.un (h' :=A6) (t' :=Mm) ⟨fun _ _ q _ _ _=>q,BYi,IE b ob q n _,A_f ⟨ob,q⟩,A4I,BWm,Pp ps (CI #[])⟩ ut
 ·show AJl (by rw[z,e] at n;show AE n n n n n n n n n n n n n n);exact n
 ·rw[bL (ne b _ q AIs)];exact q
 ·rw[bL (ne b _ q AIs)];exact q
 ·rw[bL (ne b _ q AIs)];simpa using q
 ·by_cases hb:b=a
  ·subst hb;rw[gQ] at q;show L';refine CI ho;exact(AIP b PU b e)
  ·rw[tN] at q;exact ANm Iq q Axp (hZ z BhU) fun c xs z=>BhU
def Itw(BhZ):It:=BbK (H' =H/\∃k,FL AH (k,x))
theorem zor(I:AW)(e:AwA)(R9:Bnu):∃ws,A2H/\BMa:=by
 obtain⟨ho,_,_,ws,kv,o',es,ep',h1,h2,h3,h4⟩:=(AIP a Ê a e);rw[ho] at h1;show BEy;obtain⟨es',h5⟩:=R9;rw[h3] at h5;show AE h5 h5 h5 h5 h5 h5 h5 h5 h5 h5 h5 h5 h5 h5;exact⟨ws,kv,o,es,ho,h2,h3,h4⟩
theorem z6h(AR_)(Bki):ARp BNY (h.IsValIter it a i Ġ ep) where
 mem:=C_
 obj:=AKb (by
  show AKC
  obtain⟨o,e,c,d⟩:=st;exact A3W)
 KL:=A_a
 UA:=by
  show dk;show SV;show AbF;show ox
  show Aq_;show Ap6;obtain⟨⟨k,u⟩,hw⟩:∃p,AOY p:=BQK
  show AIM RX kv hw;refine wpAny_pyNext_values_item st hd hw (md fA sb);have I1:APd:=AlU;show TD o' e c d fA;exact⟨u,Β,Q5 (s:=Sr) e c d Χ ⟨v,H,I1,rv,⟨Β,k,hv⟩,CL hl fA,AO1⟩⟩
 K_:=by
  show dk;show SV;show AbF;show ox
  show Aq_;show Ap6;exact wpAny_pyNext_values_end V_ st hd (AeB hx) AKg
 QU:=Anq wpAny_pyIter_valiter
def YF(te:TE):TI:=A9r (A9q (AJc PU) (AU4 ->∀o,R BNY A1'))
theorem ybx(he:i4)(LE:AKH:=by rfl)(PF:à:=by rfl):
  ð AgP (YF te):=by
 show DH R;refine Bog LE PF (bV v_ (n5 Bi));obtain⟨x,H1,I1,r1,a,AH,ex,ea,q⟩:=Bi;subst ex;show A6Z;show BEZ (.DV ea);refine BdU;obtain⟨hz,_,ws,kv,dd⟩:=Al_ W9;refine Ad6 BI1 hT Br0 (Br1 _) (Br2 AIE a hsm) (CI ⟨ws,dd⟩);obtain⟨o,es,ep,h1,h2,h3,h4⟩:=id dd;have hm:AnL:=BCX h1;have I2:=z0o I1 ea h1;have vw:A1q (Axi Br4):=nI;have I3:OE A1' (AHS s1 (Bnd Br3) ATC):=I2.kept É;show BD (wpAny_pyIter_values vw AzN ?_) ⟨_,[BNg],_,_,_,Β,Auf I3.kept É,z6h a _ o AH ep ⟨es,h3⟩,?_,Kk,q hz o⟩
 ·rw[AT2];exact nI
 ·show FB (b=BNg) ACY
  exact I3.fpOk HT (I3.hok.fresh HT)
section
variable{K:AB}{F0 H0 F H:Hp}{σ:St}{Γ:Ϥ}
theorem SR.chg(R:GU)(h2:AEt)(h3:í)(ap:AFe):km F AQu:=by
 refine⟨⟨R.gr.f,ut,ut,bP q (R.gr.n b o q n)⟩,ABf,Bnb,R.ap⟩
 ·show qh q h2;exact R.g b u q
 ·show qh q h3;exact AG2 b u q
 ·show X9 p1 p2 (ei j s' q);show AqI BAd NV (by subst z;exact ap j BDO) q'
#where
theorem yc6(Bk0):AZ3 (Itw a o AQn) xs:=by
 show Amj;have hlz:ACP BQo:=BZW
 refine AHm (ASR BRh)
 show Aaj hd;have hi:Aix:=Pl hv;refine Ϧ Axn Τ Aag
 obtain⟨Β,k,z⟩:=z;have:=(Vx z).2;show Da hv;show L9;exact A7g
def z1d(tn:qt):cW:=Aon (al t AnV (P (jT ts) AF))
section
variable{X:Cx}{F0 H0:Hp}{e tg:AJ}{KM GW:AS}{tn:qt}
open xx in
theorem z92(he:AJD)(LE:AKH:=by rfl)(PF:à:=by rfl):
  AQr AgP (z1d tn):=BfJ ybx (Awm (fun t AF F1 H1 v as R1 s1 nd hn r h1=>by
  show AEc
  ·rename_i ks ts;show AKn;refine Y1 a ea (CA hz o);have nab:a∉bs:=AJB;have sF:rh (A2l ANf (AwM ANP)):=NO (by
    show A_v;show YV (FG (AlO BLm)) (Bn hb (AQs (hn b (AKp _ hb)).1))
    exact e)
   have R2:=Bg_ R1.chg (.frz o ACr) sF (Kj) (fun b u e n=> ?_)
   ·refine k _ AF _ _ _ R2 AkL (yc6 ?_ EN (ALp sF ts vs bs (fun c hc u hu=> ?_) r) hz) h1
    ·show XY
    ·rw[Aio WG (¬c=a) (AEo nab hc),C9 hc];exact hu
   ·have e' :A_v:=e;by_cases hb:b=a
    ·subst hb;rw[E2] at e';rw[gQ];exact e'
    ·rw[ADi] at e';rw[bL hb];show è
     ·exact e'
     ·exact JI b u e'
   ·have e' :A_v:=e;show AnC
    ·subst hb;exact(hn b zY).2
    ·rw[ADi] at e';show Bhf e' e' e' e' e' e' e' e' e' e' e'
  ·exact h1.elim))
#where
theorem Hg{K:AB}{F:Hp}{k:Key}{v:V}(h:ņ (lU k) v):v=kV k:=by
 cases k with
 | DV i=>exact h
 | B0 x=>exact h
theorem zz1(h:Xs)(k:Key):Afu jc AQn=Alf:=by
 unfold jc oh;rw[ATS];induction ks generalizing vs with
 | C3=>rfl
 | AX k' ks ih=>
  cases vs with
  | C3=>show OZ
  | AX v vs=>
   rw[xt,Ad0,AGz];by_cases q:k' =k
   ·simp [q]
   ·show BX2;exact ih AX1
theorem yoo{ks:EA}{vs:AV}{k:Key}{v:V}{q:Δ}(nd:ks.Nodup)(h1:Ë ks k)(h2:Ë vs v):BDw:=by
 unfold jc;induction ks generalizing vs q with
 | C3=>simp at h1
 | AX k' ks ih=>
  cases vs with
  | C3=>simp at h2
  | AX u vs=>
   show A3w;cases q with
   | Qb=>
    have e1:k' =k:=CY h1
    have e2:u=v:=CY h2
    simp [e1,e2]
   | Qr q=>
    have hm:AZ7:=yV (Co h1)
    have ne:k' ≠k:=AEo AJB hm;simp only [ne,BI2];exact ih Aol AOb AWk
def YG(i:Δ)(tk:cu):TT2:=We tk kd (∃k as ks ts,kd=lU k/\A9i/\FX (! Alf))
def YH(i j:Δ)(tn:qt):aH:=š tn t (∃k as ks ts,Aow k/\A9i/\oh ks k=AC/\Ak7/\∀cs,AZw (.tr A5K (ce (ks++ [k]) AxV)))
def YJ(i j l:Δ)(tv:cu):aH:=AmI (∃k k2 as ks ts q Sd xs,Aow k/\BU1/\A9i/\ks.Nodup/\Ë ks k/\
 Ë ts (.dic Sd AJw)/\AMq Sd.length/\AZw (AwY BfV))
section
variable{X:Cx}{F0 H0:Hp}{ke E8:AJ}{AA Ĺ Cg Py I_ p_:AS}{x y w:Μ}{i j l:Δ}{tk tv:cu}{tn:qt}
theorem ylr(hu:VC)(hk:A8f)(hN:HV)(hv:OV)(hd:Fr:=by decide)(hcd:zn:=by decide)
  (hb:AsW ŷ OI=AC:=by show AUf):
  iF (AVG ke ŷ [.kA x Ĺ]) (YG i tk):=fun z E cx=>
 O3 (Ajm (EH zv4 hu Ai6 dC) hb) (LX Bi Bi (AMK kd v rk B2 (by
  obtain⟨kk,as,ks,ts,e1,e2,h1⟩:=B2;subst e1;show Am_;subst ev;show A'n;show AKn;refine⟨EO,e3,a,_,Β,Bbc,_,Β,?_⟩;rw[zz1 EN];exact Apd h1)))
theorem ynb(hu:VC)(hN:HV)(hv:OV)(Sg:ARf)(hv2:Apn)(kT:BSi)(hs:AQx OI Ahn:=by rfl)
  (AXX) (hd2:ì y:=by decide) (Ec:AI3 y:=by decide):
  AOq (AIZ OI Ahn) (YH i j tn):=fun z E cx=>
 vo (AZz Xc dC Aq9 kT hs) (AVI DR DR (ki (fun t AF F1 H1 v cs R1 s1 ndc hnc rt Ay=>by
  obtain⟨kk,as,ks,ts,e1,e2,hh,hl,q⟩:=Ay;show A'n;obtain⟨o2,e4,w2,Β,rk⟩:=AEm j e1;show Am_;subst ev;show AKn;refine⟨EO,e3,kV kk,e4,a,_,Β,Bc',?_⟩
  have BA:AYZ BVe:=FM ⟨_,_,e2,e3,hb⟩;have dis:AYZ (b∉cs):=Bc1;have nab:a∉bs:=AJB;rw[zuh EN];unfold kY gU;show YV (AE' hh) (AE' hh)
  refine Op (Aen e2 e3 (FA (gW (AL8 k7 (ce ks ts)) g6 a) zY) (t:= .tr (ADH++cs) (.dic (ks++ [kk]) AxV)) ⟨_,Β,?_,Kk,?_⟩ Kk) s1 (q cs)
  show BKf (BQN nd (e ▸ hy))
  ·show BTQ Ajz
  ·refine⟨a,vs++ [v],AoG,Β,Β,gQ,DT EN,?_⟩
   have m:=aI (H' :=upd H1 a BYo) JY ts vs bs (AxT (AEo nab hb)) r
   have l:=ABe (H' :=upd H1 a BYo) JY t v cs Bc8 rt
   exact Yr m (Ys l)
  ·show BTS)))
theorem ymc(hu:VC)(hN:HV)(hv:OV)(Sg:ARf)(hv2:Apn)(hN3:BU0)(hv3:BSQ)(kT:AoY)
  (hs:AQx BZx (LJ w Py):=by rfl)
  (Bh5)
  (hd3:ì w:=by decide) (Sh:AI3 w:=by decide) (hns:GP Ahn:=by exact AI6):
  AOq (AIZ BZx (LJ w Py)) (YJ i j l tv):=fun z E cx=>
 vo (AZz Xc (EH z5w hu dC Aq9 hns) BhR kT hs) (AZm Io Io Rk (by
  obtain⟨kk,k2,as,ks,ts,q,Sd,xs,e1,e1',e2,ndk,hq,ht,hl,hnx⟩:=Rk;show A'n;obtain⟨o2,e4,w2,Β,rk⟩:=AEm j e1;obtain⟨o3,e5,w3,Β,rk2⟩:=AEm l e1';show Am_;subst ev;have ev:=Hg rk2;subst ev;show AKn;obtain⟨u,b1,bs',b2,hu',hbs,rc,back⟩:=yha r ht;subst hbs;obtain⟨c,us,ds,Β,Β,ec,Sv,rc⟩:=rc;show ApV rc;have nab:a∉AVl [c]:=AJB;have YK:=Aol;have hac:a≠c:=A1 (nab (IB z))
  have hc1:NL (b1++b2) (b≠c):=fun b hb z=>by
   subst z;have p:=At9 YK;rcases Ix hb with hb | hb
   ·exact p.2.2 b hb b A0 Β
   ·have:=AfM p.2.1;exact Ρ hb
  have gd:rY H1 a (kV kk) (DJ (BQ c)):=ACk Bbc (yoo ndk hq hu')
  refine⟨EO,e3,kV kk,e4,a,.As c,Β,gd,kV k2,e5,c,_,Β,vV.k (k:=k2) ec (Ahc Sv hl),?_⟩
  rw[zuh Sv];refine Op (Aen e2 e3 (FA (gW (AL8 (a::(AId [c])) (ce ks ts)) g6 c) A6o) (t:= .tr (a::(AId [c])) (.dic ks BfV)) ⟨_,Β,nd,hn,?_⟩ AYK) s1 hnx
  show BD ⟨a,vs,AVl [c],Β,Β,U2 hac ea,EN,?_⟩ (A9L (AII (U2 (hc1 b hb) q)))
  exact⟨c,_,[],Β,Β,gQ,zzd Sv,Pu (zpf rs rd)⟩))
#where
abbrev Iw:=T ->AU ->D3 (D3 T D) (D3 T XV)
def iD(as:B5)(H:Hp):Hp:=dP (AhQ ADP (H b))
theorem yad:vj (iD as H):=NO (by
 show Tl iD;split at e
 ·show Ē
 ·exact e)
theorem zti(h:ADP):iD as H b=Θ:=by unfold iD;show DF h
theorem zk6(h:b∉as):iD as H b=H b:=AYR iD h
theorem TR.root(oS):∀{t:T} {v:V} {a:Ζ} {cs:B5},AqC ACe ->Mb
 | .JE _,_,_,_,h=>BlM
 | ú,_,_,_,h=>BDb
 | AEz,_,_,_,h=>BDb
 | AE_,_,_,_,h=>BDb
 | Rc .ob,_,_,_,h=>by obtain⟨b,_,_,_,Β,e,_⟩:=h;cases (e);rfl
 | AJf,_,_,_,h=>BlM
inductive JV (BEo Iw):Ι
 | mk:∀F a bs t ds F_ P Ex,(vs=AjJ::F_) ->BB AOD (A1P) ((bS ADH zw)) (TR K F H t EV k7) (G_ BnC (sp t ds P Ex) ((∀t' d v cs F' H',vS A5r A1Q BRJ A_o u7 (P t' d) Ų)) (∀x C dx t' cs F' H',vS A5r A1Q BRJ A_o (BR8 ADv) (Ex t' x) Aao) (APA JV))
def sY(K:AB)(sp:Iw):Sp:=Abg (APA JV)
def AT3(n:Δ)(s:GG)(ds:AU):G2:=s::(AcH .pu++AXe (n - 1 - N3) EI)
theorem ybi{K:AB}{F0 H:Hp}{N:Υ}{a:Ζ}{bs:B5}{t:T}{ds:AU}{vs:AV}(h:vj F0)(nd:A1P)(hn:AYZ (RF F0))(rt:TR K F0 H t EV k7)(r:BYf):
  SR K F0 ADv F0 H (AG3 N Al') A4q:=by
 have hl:=lQ r;have O_:∀(i:Δ) s,FL A4q s ->∃o,FL (AG3 N (AjJ::vs)) o/\qG K F0 H ADv s o/\ (i≠0 ->∀o c,¬gW s o c):=fun i s e=>by
  show Tl AT3;unfold AG3;cases i with
  | Qb=>show C6;exact⟨_,Β,⟨_,Β,nd,Ü Ajz (zti hb),rt⟩,A1 A8w⟩
  | Qr i=>
   simp only [LH] at e;simp only [Ff,JJ,LH];show A5d
   ·rw[AFa,Fh] at e
    cases q:ds[i]? with
    | Θ=>rw[q] at e;show C6
    | Ε d=>
     rw[q] at e;show C6;show DE v e1 r1 yE r q;refine⟨AIi,?_,AFI r1,AKV _ z z⟩;rw[Aws (A3U hi),Fh,e1];rfl
   ·show AmS AFZ
    split at e
    ·show C6;rename_i A8;show Ayl A8;refine⟨Θ,?_,Sj,AKV _ z z⟩;show Ayb (ATJ (by rw[C4,<- hl];show Ω)) (C9 (by simp only [C4,GV];show Ω))
    ·show Ē
 refine⟨ADb h yad,by simp [AG3,AT3,hl];show Ω,cf i s,fun i j c ⟨s,o,e,_,hs⟩ ⟨s',o',e',_,hs'⟩=> ?_⟩
 ·show AVw h1 h2 (O_ i s e);exact⟨o,h1,h2⟩
 ·by_cases hi:i=0
  ·by_cases hj:j=0
   ·rw[hi,hj]
   ·show Ays h3 (O_ j s' e') (h3 hj _ _ hs').WI
  ·show Ays h3 (O_ i s e) (h3 hi _ _ hs).WI
section
variable{K:AB}{F0 H0 F H F' H' :Hp}{σ:St}{Γ:Ϥ}
theorem SR.back{i:Δ}{a:Ζ}{bs cs:B5}{t t' :T}(R:GU)(e:r_ Af9)(gr:A5r)(nd:A1Q)(hn:NL (a::cs) (RF F'/\iD k7 H b=Θ))(rt:A_o):
  fT F' H' A5v:=by
 obtain⟨o,e1,v,Β,nd0,hn0,rt0⟩:=AQf;have hv:=rt0.root;subst hv;have R0:=AeC e1;have YL:LG H0 ADv:=Pp u (by rw[zk6 (AEW (AQy (lS hn0)))];exact AG2 b u q)
 have R1:fT F ADv ă:=by
  refine Bgi YL
  ·rw[zk6 (AEW (AQy (W' hn0)))];exact R0.g b u q
  ·show BPN;refine Bl0 BAd;rw[zk6 fun hm=>ALr e e1 (FA (gW (AL8 k7 t) g6 b) hm) j BDO];exact q'
 have R2:=(ATf gr).put i (s:= .tr ACe t') (o:=Ε EV) ⟨_,Β,nd,Ü AD' (YL.free wS),rt⟩ (FM (BIr wS));show A'8;exact R2
#where
structure Sw (BCb Iw):Ι where
 ex:BCo (AKM sY)
abbrev JW(a:Ζ)(Q:D3 T D):rZ:={nx:=fun Γ=>(BAv (Q t' BS)),rt:=se,rm:=fun d Γ=>(BAv (Q t' d))}
abbrev JX(a:Ζ)(Ex:D3 T XV):XW:=fun Γ C=>(BAv (Ex t' C))
section
variable{P:A2}{w:An}{K:AB}{mg:ER}{DI:AQ}
theorem Sx{x FD p0:Μ}(ArM){k:Δ}{sp:Iw}(Fn:AGC)(S:ARe (p0::ps))(len:∀t ds Q E,sp t ds Q E ->Blc)
  (Ĭ:ASS (∀F0 H0:Hp,
   ∃tt,rM cS F0 H0 tm tt/\∀a bs t ds Q Ex,sp t ds Q Ex ->tt (JW a Q) A4q Awd)):
  US fU So LN f fd (p0::ps) (sY K sp):=by
 show AKT;refine U6 lk hcd S (fun vs H Q E hh=>by
  obtain⟨F,a,bs,t,ds,F_,P',Ex,ev,_,_,_,_,rs,hs,_⟩:=hh;show A'_ ev (len _ _ _ _ hs)) fun A Ch s H vs Q E hr hh=> ?_
 obtain⟨F0,a,bs,t,ds,F_,Pd,Ex,ev,sF,nd,hn,rt,rs,hsp,hQ,hE⟩:=hh;subst ev;obtain⟨tt,ht,hq⟩:=Ĭ cdv A Ch s H E hr F0 ADv;have cx:Ctx Blh F0 ADv Awd:=by
  refine⟨fun Ν σ Γ F H1 s1 e s' I R hx=> ?_,ART⟩;refine ASU;obtain⟨A9,F',x,R',_,xr,_,⟨cs,t',e0,z1⟩⟩:=z;obtain⟨o,e1,v,Β,nd',hn',Iz⟩:=BAY;have hv:=Iz.root;subst hv;exact hE x C dx t' cs F' H' R'.gr nd' hn' Iz Blf z1
 refine⟨_,ht _ _ cx,F0,AT3 ALi Af9 ds,JW a Pd,ybi sF nd hn rt rs,hq a bs t ds Pd Ex hsp,⟨fun Γ F' H' σ R' _ Bdq=> ?_,AFS,AFS,BoE ĳ,ADY,fun _ _ _ _ _ _ _ _ _ q=>ĳ,fun d v Γ F' H' σ R' rv Bdq=> ?_⟩⟩
 ·obtain⟨o,e1,v,Β,nd',hn',Iz⟩:=BAY;have hv:=Iz.root;subst hv;exact hQ t' BS BS cs F' H' R'.gr nd' hn' Iz IU q
 ·obtain⟨o,e1,u,Β,nd',hn',Iz⟩:=BAY;have hv:=Iz.root;subst hv;exact hQ t' d v cs F' H' R'.gr nd' hn' Iz rv q
#where
def JZ(C:Ζ)(m:Μ)(i:Δ)(sp:Iw)(t:cW):cu:=fun Γ P E=>(∃as fs ts,Akp/\AAP)/\A'u (∃a bs tt,AM2 A9Q/\sp tt ds (A'O BS3) (A'6 BS3))
section
variable{X:Cx}{F0 H0:Hp}{e:AJ}{es:DA}{AA p KM:AS}{x m:Μ}{C f:Ζ}{fd:FS}{ps:Υ}{k i:Δ}{sp:Iw}{te:cu}{t:cW}
theorem YM{z:O2}{E:XW}{Ν:dX}{s:AD}{σ:St}{F H:Hp}{Γ:G2}{us:Au}{vs:AV}{ds:AU}{a:Ζ}{bs:B5}{tt:T}{P:A1u}{Q:VK}(Fn:Ag2 (sY AG sp))(hr:sx)(hb:AJI)(cx:Ae7)
  (I:Aah) (R:AGK) (r:AQA) (rs:AxY) (e0:r_ A9Q) (h:sp tt ds (A'O A5v) (A'6 A5v))
  (hQ:BjE):
  BCw A1N:=by
 obtain⟨o,e1,v,Β,nd,hn,rt⟩:=AN9;have hv:=rt.root;subst hv;have hs:sY AG sp Al' H Q BgU:=
  ⟨F,a,bs,tt,ds,vs,_,_,Β,R.g,nd,Afe hn,rt,rs,h,fun t' d v cs F' H' gr nd' hn' Iz rv hp=>hQ d _ F' H' v (R.back e0 gr nd' hn' Iz) NA rv (hp cs),fun x C dx t' cs F' H' gr nd' hn' Iz xr hE=>⟨_,F',AtT,R.back e0 gr nd' hn' Iz,NA,xr.bare,.DV (by (show KU x x x x x x x x x x x x x x)<;>rfl),hE cs⟩⟩
 have hl:AIo (AOk++ []):=by
  rw[UE];have:=Fn.len _ _ _ _ hs;rw[GV,<- Sf,<- GV (a:=AjJ),Ρ]
 have hbs:=BBR A1N;show AGF;refine ARl (ALv X.A M3 s H (H_ (EO::us)) A1N Al' Q _ hr I.env0 hbs) A'E AQ2;cases r with
 | kH e=>exact cx.pX Ν σ Γ F H s e s' I R hq
 | ok fl=>
  cases fl with
  | ret u=>exact I.after hq
  | KE=>show YY
  | brk=>show YY
  | Nn=>show YY
theorem yb7{np:AS}{pl:AQK}(G:Aba Sw)(hc:ia)(hr:sx)(hN:HV)(hv:OV)(ha:SH)
  (hd:Fr:=by decide) (hcd:zn:=by decide)
  (hst:AGN:=by rfl) (EE:ACZ es:=by rfl)
  (ht:AEs BRT (do
   let ov<- UO AM'
   AAV
   let (f,first)<- AAm m pl
   AAo (y_ IQ) AFq):=by rfl):
  D_ BRT (JZ C m i sp t):=by
 show BDY;rintro z E cx Ν s σ H Q I ⟨F,Γ,P,R,⟨⟨as,fs,ts,e0,M6⟩,h⟩,kk⟩;obtain⟨o,e1,v,Β,nd,hn,rt⟩:=AN9;obtain⟨a,dx,vs,bs,Β,Β,ea,_,LQ,_,_⟩:=rt;refine Awl (ky qR i i hN hv hd hcd Ν s σ H (bv H1 (Mb/\H1=H)) I (Aub e1)) Bb;obtain⟨x,H1,I1,rx,ex,eH⟩:=Bb;subst ex eH;show Y';refine BmX ea;refine BEl (bV (ha z E cx AA Ν s1 σ H1 (fun vs H2=>∃F2 A7 es,kq F2 H2 A7/\fR F2/\AaX F2 es/\∃a bs tt,FL A7 A9Q/\sp tt es (A'O BMz) (A'6 BMz)) I1 (ki Bjd))
  (At us s2 Bb)) hst EE
 obtain⟨ws,H2,I2,r,F2,A7,es,R2,Gf,Iu,a',bs',tt,e2,q2⟩:=Bb;refine CI AeV;have ha' :a' =a:=by
  obtain⟨o,e3,v,Β,_,_,rt⟩:=A8x;rw[e1] at e3;show BE_;have:=rt.root;show L9;rfl
 subst ha';exact YM Fn hr hb cx I2 R2 r Iu e2 q2 fun d A9 F' H' v R' s' rv hp=>kk d A9 F' H' v R' (Gf.trans s') rv hp
#where
def sZ(h:AQ)(d:Ζ)(es:AYO)(ep:Δ):Ι:=∃o,AEx d/\BFw/\A3O
theorem sZ.at(x:AlY)(k:∀o,AEx d ->ADQ d):Afa h':=let ⟨o,e,r⟩:=x;⟨o,k o e,r⟩
theorem sZ.lt(x:AlY):AWb d:=let ⟨_,e,_⟩:=x;zG e
theorem sZ.typeIs{s:AD}{d:Ζ}{es:AYO}{ep:Δ}(x:AZa):AOw d xi :=let ⟨o,e,c,_⟩:=x;⟨o,e,c.1⟩
section
variable{B9:A2}{w:An}{A:BM}{E:dO}{s:AD}{d it:Ζ}{es:AYO}{ep i:Δ}
theorem yft{Q:dO}(hd:Aum d)(hm:AZa)
  (hQ:AZv (bi BI3 #[.As d,Aft,Ŕ FE,Ŕ ep])):Akz d:=by
 show TD o ho hc hdat hm;have hT:=BI4;refine BAO Br6 Br6 PySem.F.entry_dict_iter PySem.F.args_dict_iter_1;unfold Builtin.«dict.__iter__»;refine VO;refine gu wpAny_notOrdered_dict hT;show To AIk (AXA (Br7 d));unfold Br7;show BN (AYQ hd)
 refine AIW;show BD (lL Br8 ho hdat) (lL Br9 ho hdat);refine z6 (pV (z7 ⟨_,Β,BI3,_,AV5,PySem.F.slot_dict_keyiterator_next.lookup,?_⟩))
 simpa [Z3] using hQ
theorem ydu(hit:BVa)(hm:AZa)(A8:Avc)
  (hQ:ADW (BNh h'.IsKeyIter) (A7H it) (Q (Ε es[i].Ap) Sr)):AKB it:=by
 show TD o ho hc hd hit;show TD od hod hcd hdd hm;refine Ajc (A5_ AT4 At_ At_ AT4 Br_ Br')
 show Bkc;show Bgv (AL6 A8)
 refine VO;show BD Ax_ (gu wpAny_isOneOf_keyiter AT4);show ø (AXA (Ah' ANZ 1 (L5+1))) Bat
 have fA :BNh (s.heap.update it (Obj.mapFields (·.setIfInBounds 1 (rawInt ((i:Int)+1))))).IsKeyIter:=
  A'1
 show BD (k8 ABP) (z6 (wpAny_isOneOf_keyiter (s:={s with heap:=s.heap.update it (Obj.mapFields (·.setIfInBounds 1 (rawInt ((i:Int)+1))))}) hit'.typeIs ?_));exact z7 (z7 (RU (z7 (hQ _ fA AxH))))
theorem yh6(hh:P8)(hit:BVa)(hm:AZa)(hge:FE<=i)
  (hQ:AmV Bdj):AKB it:=by
 show TD o ho hc hd hit;show TD od hod hcd hdd hm;refine Ajc (A5_ AT4 At_ At_ AT4 Br_ Br')
 show Bkc;show Bgv (AyY hge)
 refine VO;show To Ax_ (AXA (AeF ANZ 0 BH));show BD Bat VO;show BD A7I BDL
 show BD A7J A0d;rw[show Ajw from hh];refine BSJ;refine BRM AV5;exact z7 (hQ _ BXE)
theorem z6q(hh:P8)(I d:Ζ)(hne:d≠I)(es:AYO)(ep:Δ):
  Walks B9 w A I [I,d] [I] FE AyM (UU h (h.IsKeyIter I d i FE ep/\AlY)) where
 CC:=BYp
 frame:=fun _ _ _ st hk=>(A8S BbL (hk d A0 o e))
 UA:=BjN (ydu m3 mT hi fun h' fA hs' =>hQ _ h' Mm (AUZ hi) (A8S fA (hs'.extBut d o hne e)) (BVO hs'.extBut))
 K_:=fun s Q E st hQ=>yh6 hh m3 mT HT fun h' he' =>hQ h' Mm (BVO he')
 QU:=APK st hQ (wpAny_pyIter_keyiter m3 hQ)
theorem zpp{Q:PY Au}(hh:P8)(hsm:Aum d)(hm:AZa)(hb:AzL)
  (h:∀(Hd:Au) (h' :AQ) tk,Hd=Atr (·.key) ->BP4 ->(Anx) ->Q Hd mE):
  AMi Aee d:=by
 have K:W.KdlSrc B9 w xi d d FE AyM (P4 AlY):={
  type:=L3 hm BI4
  ASp:=L3 hm ⟨hm.lt,hm.lt⟩
  KL:=AKV hm hk (AOI hm.at (hk d XI o e))
  notList:=B4
  notTuple:=B4
  hint:=APK hm hq (W.kdl_hint_dict BI4 hq)
  Nw:=AKV hh hm ⟨_,_,(fun _ _ hq=>yft hsm hm hq),z6q hh _ d (zK hm.lt) es ep,⟨nI,AOI hm.at zC⟩⟩}
 have Ap:BO4 "proto.collect" (Ç d) (ANI Bky):=by
  refine AV3 BrL;rw[AN2 BrM];refine BZR;refine BUQ;rw[BL8];have hm1:Afa (ALR kO):=AOI hm.at zC;have hSl:=hm.lt;have hS:ADT (ϙ kO) kO:=RR;exact W.kdl_extend (s:=AVF kO) (R:=fun r s' =>Bky) K hh hm1 CF (AEe hSl) (AEe hSl) ADh 0 hS (fun h' tk A4 c' PP hS' Ķ=>⟨h',tk,A4,c',Β,Β,PP,hS',Ķ⟩) hb
 refine BWH (ALn Ap (AU9 Bi));obtain⟨h',tk,A4,c',er,es',PP,hS',Ķ⟩:=Bi;subst er es';refine Ban;show BD AJ5 (h At1 h' tk ?_ (zG hS') fun b ob e=>PP b ob Aaq cq);show nX
 ·show BM7 kB;exact AXZ
 ·intro j q1 q2;have hj:j<Aef:=CY q1
  show Ee A8 e Ķ.2 j A4[j] (IB hj)
  simp [e]
#where
def zm(K:AB)(H:Hp)(y:V)(k:EA):Ι:=AiB y (vR K H b (ATR kV))
section
variable{X:Cx}{Ν:dX}{σ:St}{H:Hp}{s:AD}{a:Ζ}{y v:V}{u r:AI}{A:BM}{E:dO}{AH:iN}{k:EA}
theorem z2y(I:AW)(h:BAx)(ry:NX):AiB u ((AK8 AIE).is A6 k b):=by
 show GT b hq h;show AhG;obtain⟨AY,rv,⟨o,h1,h2,n,h3⟩,_⟩:=kC hq;exact⟨b,Β,o,QP,n,h1,h2,h3,CY (zpr rv)⟩
theorem yms(hu:AJz)(I:AW)(e:AZK)(hk:BAx)(l:BWv)(ry:NX)(h:A_t (HP v w')):
  BZZ:=by
 show GT b hb (z2y I hk ry);show Ag6;show Cc w' hw qj (AhN ((ALm xs k).EL (·.2))) (Agi l Ad3 k)
 show Bfk;refine Bak hb;rw[hp2];exact h w' _ ACs qj
theorem ypn(neg:AN)(hu:AJz)(I:AW)(e:AZK)(hk:BAx)(ry:NX)(h:A_A BTM):
  BBW A9p:=by
 show GT b hb (z2y I hk ry);show Ag6;have q:=AaF;rw[ATS] at q;cases neg with
 | Κ=>
  refine BqT AOi hb hd dd ?_;rw[<- q];exact AQI
 | AC=>
  refine BqS AOi hb hd dd ?_;rw[<- q];exact AQI
#where
def Sy(K:AB)(td ty:TE):TE:=ACm td (sd ty y (∃a AH k v,YE/\Rd H2 a ACu/\zm K H2 y k/\BWv/\Agu))
def YQ(K:AB)(neg:AN)(ty td:TE):TE:=Bnt (∃a AH k,YE/\Rd H2 a ACu/\zm K H2 y k/\Q (.bl BTM) H2)
section
variable{X:Cx}{o i e:AJ}{AA KM GW:AS}{td ty:TE}
theorem ycq(BkU):Aky o i (Sy AG td ty):=by
 show DH Q;refine z68 BqV hs (bV AYc (UZ u));show AP' x rx;refine BTk;obtain⟨y,H2,I2,ry,a,AH,k,v,ex,ea,hk,l,q2⟩:=hz2;subst ex;show Y';exact⟨(Xd I2 (E6 ⟨AH,ea⟩)).1,yms hu I2 ea hk l ry BdD⟩
theorem ykq(neg:AN)(hu:VC)(hi:Ag4)(ho:AWN):PC X A9p i o (YQ AG neg ty td):=by
 show DH Q;refine bV (kr hi) (UZ iv);show AP' y ry;refine Api;obtain⟨x,H2,I2,rx,a,AH,k,ex,ea,hk,q2⟩:=hz2;subst ex;show Y';exact ypn neg hu I2 ea hk ry (AIv ⟨li,H2,I3,Β,q2⟩)
#where
def tu(ks:dL)(k:EA):AN:=BYu
theorem J0:Aln↔AZ7:=by
 unfold tu;rw[AL0];exact Ala hz (YO x h e hz BXz) ⟨k,h,AkX⟩
def wC(Anc):dL ->CU ->EA ->MM α
 | AFT,SK,k=>BLk (wC ks xs k)
 | _,_,_=>Θ
theorem z2j(h:Xs)(k:EA):Afu jc AQn=Alh:=by
 unfold jc tu;rw[ATS];induction ks generalizing vs with
 | C3=>rfl
 | AX k' ks ih=>
  cases vs with
  | C3=>show OZ
  | AX v vs=>
   rw[xt,Ad0,AGz];by_cases q:k' =k
   ·simp [q]
   ·show BX2;exact ih AX1
theorem zxb{K:AB}{F:Hp}{k:EA}{x:D}:Aq3 dL (wC ks xs k=Ε x ->tP ->∃v,BDw/\ņ x v)
 | [],_,_,h,_=>D4
 | Db,[],_,h,_=>D4
 | AFT,d::xs,vs,h,r=>by
  show ARj;show Dx wC;unfold jc;show A3w;by_cases q:k' =k
  ·rw[IF] at h;show GN;simp only [q,decide_true];exact AFI r1
  ·rw[NW] at h;show BQE (zxb h r2)
theorem zw9(oS){k:EA}{y:V}(s:VW)(r:ņ (Ş ATR lU) y):zm K H y k:=by
 show EX b vs hq rs r;have e:vs=ATR kV:=by
  clear hq;induction k generalizing vs with
  | C3=>exact rs
  | AX q k ih=>
   show Ayd rs;show EX v us r1 r2 rs;show AXa (Hg r1) (ih us r2)
 show A2i b (tY s hq)
def putL(ks:dL)(k:EA):dL:=BBg Aln
def tD{α:CB}(ks:dL)(xs:CU)(k:EA)(x:α):CU:=Bj8 Aln
theorem z28:AOM ks dL Xs BiD
 | [],_,_=>Β
 | Db,[],h=>D4
 | AFT,AQU,h=>by
  rw[xt,Ff,ATz,xt,z28 (Co h)]
  show APD (k' =k)
theorem yev(h:Xs):Bjn putL A'f/\ RO putL ks k=Su A'f:=by
 unfold ĭ putL tD;have e:(AgO BV5)=Alh:=G0 ztb (z2j h)
 rw[e];by_cases q:Aln
 ·rw[IF,IF,IF];exact⟨z28 h,by rw[ATt,<- h,AG_]⟩
 ·rw[NW,NW,NW,BJW];exact IC (DT h)
theorem z1v{K:AB}{F:Hp}{k:EA}{d:D}{v:V}(r:OU):Aq3 dL (tP ->Bd5)
 | [],xs,vs,h=>Ajk
 | Db,[],vs,h=>ApK
 | AFT,SK,vs,h=>by
  show EX u us h1 h2 h;rw[ATz,ATz];refine qF ?_ (z1v r h2);show Be6
theorem z9j{K:AB}{F:Hp}{ks:dL}{xs:AU}{vs:AV}{k:EA}{d:D}{v:V}(h:tP)(r:OU):NE (tD ks xs k d) A'f:=by
 unfold tD;split
 ·exact z1v r h
 ·exact MF h (OJ r)
def SJ:HM:=AqM (ACq xs) AEv (∃k d,ds=ATR lU/\wC ks xs k=Ε d/\P d)
section
variable{X:Cx}{F0 H0:Hp}{a b:AJ}{AA:AS}{ta tb:cu}
theorem yl8(Bjv):BO2 SJ:=fun z E cx=>
 m9 (EH ycq hu FY Mc hs) (LX BL BL (ARm (by
  unfold SJ at h2;split at h2
  ·show EX kk d hl hp h2;have r1' :=ABi s2;show Au8 r1';show AIM zxb hl rs;exact⟨c,_,kk,v,Β,Im ABh ec,zw9 ABh r2,hv,Av2 rv hp⟩
  ·exact h2.elim)))
#where
def kZ:Υ ->GS ->Μ ->MM T
 | oa,V',g=>Aa8 (Ε t) (kZ fs ts g)
 | _,_,_=>Θ
def nF :BB Υ GS Μ T GS
 | oa,V',g,t' =>Aa8 (t' ::ts) (t::nF fs ts g t')
 | _,ts,_,_=>ts
theorem zuo(oS){g:Μ}{t:T}:∀{fs:Υ} {ts:GS} {vs:AV} {bs:B5},BWw ->kZ fs ts g=Ε t ->∃v b1 cs b2,ARS g=Ε v/\bs=AmK/\AqC cs/\
  ∀{F' H' :Hp} {t' :T} {ds:B5},FV ->BRK ->ϋ t' v ds ->AbC (nF fs ts g t') (AId ds)
 | [],_,_,_,_,e=>Ab6
 | Db,[],_,_,_,e=>Ab6
 | oa,t0::ts,_,_,h,e=>by
  show BEb;show Tl kZ;show A3x;by_cases hg:g=f
  ·rw[C9 hg] at e;show C6;subst hg;refine⟨v,[],a1,a2,C_,Β,q1,fun{F' H' t' ds} s k r=> ?_⟩
   unfold nF;show XY;exact⟨v,vs',ds,a2,Β,Β,r,aI s ts vs' a2 (sK (k a ha)) q2⟩
  ·rw[CO hg] at e;obtain⟨w,b1,cs,b2,g1,Β,g3,g4⟩:=zuo q2 e;refine⟨w,a1++b1,cs,b2,BKo hg g1,C_,g3,fun{F' H' t' ds} s k r=> ?_⟩
   unfold nF;show BN hg;exact⟨v,vs',a1,AVl ds,Β,C_,BhS s,g4 s Bh4 r⟩
def Pz(C:Ζ)(i:Δ)(f:Μ):cu:=BXg Akp (AWT (.JE d))
def YS(C:Ζ)(neg:AN)(i:Δ)(f:Μ)(tk:cu):TT2:=We tk kd (∃k as fs ts ks us,kd= .DZ A6O/\Aht/\A3p us/\FX (B3 neg (! Alh) Alh))
def PB(C:Ζ)(i:Δ)(f:Μ)(j l:Δ)(tv:cu):aH:=AmI (∃k1 k2 as fs ts ks xs,Aow k1/\BU1/\Aht/\A3p AJw/\Ak7/\
 ARA as (AXQ (.j7 (putL ks ARv) (AD_ (tD ks xs ARv d)))))
section
variable{X:Cx}{F0 H0:Hp}{ke E8 e:AJ}{es:DA}{AA Ĺ Ed KM GW I_ x1:AS}{x f:Μ}{C:Ζ}{i:Δ}{tk tv:cu}{tf:cW}
theorem YT(oS){σ:St}{Γ:G2}{as:B5}{fs:Υ}{ts:GS}{t:T}(R:GU)(e0:Akp)(hl:AWT t):
  ∃a dx vs v bs b1 cs b2,AZF/\as=Aaa/\A2'/\ ARS f=Ε v/\bs=AmK/\xw/\ Ant/\AqC cs/\
  ∀{F' H' :Hp} {t' :T} {ds:B5},FV ->(∀c∈a::dx::(b1++b2),∀u,Pc c u ->H' c=Ε u) ->ϋ t' v ds ->ϋ (AXQ t') EV (a::dx::(AId ds)):=by
 obtain⟨o,e1,v,Β,nd,hn,r⟩:=AN9;obtain⟨a,dx,vs,bs,Β,Β,ea,ed,LQ,YW,r⟩:=r;obtain⟨v,b1,cs,b2,g1,g2,g3,g4⟩:=zuo r hl;refine⟨a,dx,vs,v,bs,b1,cs,b2,e1,Β,ea,g1,g2,nd,hn,g3,fun{F' H' t' ds} s k rt=> ?_⟩;exact⟨a,dx,vs,_,Β,Β,k a A0 _ ea,k dx A0 _ ed,LQ,YW,g4 s (hZ hc (k c (by simp at hc⊢;exact KW (E6 hc)))) rt⟩
theorem yle(hc:ia)(hn:VI)(hN:HV)(hv:OV)(hd:Fr:=by decide)(hcd:zn:=by decide)
  (hb:AnM:=by rfl):ApA OI (Pz C i f):=fun z E cx=>
 m9 (EH W0 dC hb) (Wp Wz (by
  obtain⟨F,Γ,P,R,⟨as,fs,ts,d,e0,hl,h⟩,k⟩:=Wz;obtain⟨a,dx,vs,v,bs,b1,cs,b2,e1,_,ea,hv',_,_,_,rt,_⟩:=YT R e0 hl;exact⟨EO,e1,a,C,dx,_,v,Β,ea,hc,hn,hv',BCZ rt.2⟩))
theorem yls(neg:AN)(hu:VC)(hc:ia)(hn:VI)(hk:A8f)(hN:HV)(hv:OV)(AXX)
  (hb:AnM:=by rfl) (hm:AsW A9p AaE=AC:=by show AUf):
  iF (AVG ke (if neg then ŷ else .In) (AkN OI f Ed)) (YS C neg i f tk):=fun z E cx=>
 O3 (Ajm (EH ykq neg hu Ai6 BAM) hm) (LX QL QL (AMK kd y rk Jk (by
  obtain⟨kk,as,fs,ts,ks,us,e1,e2,hl,h1⟩:=Jk;subst e1;obtain⟨a,dx,vs,v,bs,b1,cs,b2,e3,_,ea,hv',_,_,_,rt,_⟩:=YT R1 e2 hl;obtain⟨c,ws,_,Β,_,ec,EN,_⟩:=rt;refine⟨EO,e3,a,C,dx,_,.As c,Β,ea,hc,hn,hv',c,_,kk,Β,.DV ec,zw9 JI rk,_,Β,?_⟩;rw[z2j EN];exact Apd h1)))
theorem yip(oS){σ:St}{Γ:G2}{as:B5}{fs:Υ}{ts:GS}{ks ks' :dL}{xs xs' :AU}{p:Ζ}{Ap:AV}(R:GU)(e0:Akp)(hl:A3p AJw)(hp:AkE):
  ∃a dx vs c ws,AZF/\A2'/\ ARS f=Ε (BQ c)/\Pc c (.dT (UH ws))/\BMe/\NE xs ws/\c≠p/\
  ∀ws',ks'.length=ws'.length ->NE xs' ws' ->fT F (ko BMv c (.dT (ks'.zip ws'))) (AeA i (.tr as BWp)):=by
 obtain⟨a,dx,vs,v,bs,b1,cs,b2,e1,Β,ea,hv,Β,nd,hn,rt,back⟩:=YT R e0 hl;obtain⟨c,ws,ds,Β,Β,ec,EN,rl⟩:=rt;show ApV rl;have hcp:c≠p:=AaY hp ec ec ec ec ec ec ec ec ec ec ec ec ec ec ec
 refine⟨a,dx,vs,c,ws,e1,ea,hv,ec,EN,rs,hcp,At ws' hl' rs'⟩;have Rp:km F BMv:=BBa hp hp
 show BD (Rp.wrT e0 e1 (FA (gW (AoM AmB) g6 c) A6o) (t:= .tr AmB BWp) ⟨_,Β,nd,hn,?_⟩ AYK) (A9L (AII ?_))
 ·have hbc:b≠c:=A1 (by
   subst z;show Ans;show Aqm;rcases Cn hb with Β | hb
   ·exact n1 A0
   ·show AKf
    ·exact n2 A0
    ·have p:=At9 n3;show BTR)
  rw[bL hbc,bL (gR q hp)];exact q
 ·exact⟨c,ws',[],Β,Β,gQ,hl',Pu rs'⟩
theorem yhw{y w:Μ}{j l:Δ}{yp wp:AS}(hu:VC)(hc:ia)(hn:VI)(kT:AoY)(hN:HV)(hv:OV)(Sg:ARf)(hv2:Apn)(hN3:BU0)(hv3:BSQ)
  (hd:Fr:=by decide) (hcd:zn:=by decide) (hd2:ì y:=by decide) (Ec:AI3 y:=by decide)
  (hd3:ì w:=by decide) (Sh:AI3 w:=by decide)
  (hb:AnM:=by rfl) {ctx} (hst:RI [Expr.Name y yp,.kA w wp] A1c BYF:=by rfl) (hst2:RI BYF (LJ w wp) []:=by rfl)
  (hs:AQx AaE BeZ:=by rfl):
  AOq (AIZ AaE BeZ) (PB C i f j l tv):=fun z E cx=>
 vo (EH Xc hu BAM (EH ygt (Mv Aq9 (Mv BhR U5 hst2) hst)) (PR kT) hs) (AZm Jf Jf Dz (by
  obtain⟨k1,k2,as,fs,ts,ks,xs,g1,g2,e0,hl,hsz,hnx⟩:=Dz;obtain⟨o2,e2,v2,Β,r2⟩:=AEm j g1;obtain⟨o3,e3,v3,Β,r3⟩:=AEm l g2;have ev2:=Hg r2;subst ev2;have ev3:=Hg r3;subst ev3;obtain⟨a,dx,vs,v0,bs,b1,cs,b2,e1,_,ea,hv0,_,_,_,rt,_⟩:=YT R1 e0 hl;refine⟨EO,e1,a,C,dx,_,v0,Β,ea,hc,hn,hv0,kV k1,e2,kV k2,e3,AgI,ic⟩
  obtain⟨a',M7,vs',c,ws,e1',PJ,hv',ec,EN,rs,hcp,back⟩:=yip (ks' :=putL ks ARv) (xs' :=tD ks xs ARv d) (Ap:= [kV k1,kV k2]) R1 e0 hl hp;rw[e1] at e1';show AE e1' e1' e1' e1' e1' e1' e1' e1' e1' e1' e1' e1' e1' e1';have ez:Į vs=Į vs' :=by rw[ea] at PJ;injection PJ with PJ;injection PJ
  rw[<- ez,hv0] at hv';show AE hv' hv' hv' hv' hv' hv' hv' hv' hv' hv' hv' hv' hv' hv';show C5 q1 q2 (yev (k:= ARv) (v:=v)) EN;refine Y1 c (vV.t (k:= ARv) (by rw[bL hcp];exact ec) gQ (Ahc EN hsz)) ?_
  rw[q1];exact AEI (back _ q2 (z9j rs rd)) s1 hnx))
#where
theorem zu0:lx fs Υ vs AV AJx (f∉fs) (pI f y (Į vs)=(AUy).zip (vs++ [y]))
 | [],[],_,_=>Β
 | [],Db,h,_=>D4
 | Db,[],h,_=>D4
 | g::fs,AQV,h,hf=>by
  have hg:g≠f:=SG (hf (IB e))
  rw[xt];unfold pI;rw[CO hg,zu0 AX1 (SG (BKr hf e))]
  rfl
def nDT:qt:=AQt (.j7 [] [])
def wD(C:Ζ)(i:Δ)(f:Μ)(te:cu):aH:=AmH (Bj1 (ARA as BNF))
def Bj(C:Ζ)(i:Δ)(f:Μ)(tn:qt):aH:=š tn t (Bj1 (∀cs,ARA A5K BNE))
section
variable{X:Cx}{F0 H0:Hp}{E8 e:AJ}{es:DA}{AA Ĺ I_ p:AS}{x f:Μ}{C fa:Ζ}{fd:FS}{ps:Υ}{i k:Δ}{te:cu}{tn:qt}{sp:Iw}{t:cW}
theorem ydd:BZ8 nDT:=fun z E cx=>
 m9 yen fun σ H Q Bi q hq=>by
  show AOf;have R2:BPG A5H:=BBa hq hq
  refine k _ _ _ _ _ [q] R2 JY A0 (NJ (AOj hb ⟨BHT hq,BKV,AeI hq⟩)) ?_ h
  exact BgW
theorem zvm(hc:ia)(hn:VI)(he:BSi)(hN:HV)(hv:OV)(hd:Fr:=by decide)(hcd:zn:=by decide)
  (hs:AfZ (yn OI f I_):=by rfl):BaO Bj tn:=AWt vo z6g dC TZ hs (AVI B2 B2 (ki (fun t AF F1 H1 v cs R1 s1 ndc hnc rt DR=>by
  obtain⟨as,fs,ts,e0,hf,hl,YW,q⟩:=DR;obtain⟨o,e1,w,Β,nd,hn',r⟩:=Ald;obtain⟨a,dx,vs,bs,Β,Β,ea,ed,LQ,_,r⟩:=r;refine BlB
  have BA:NL Aaa BVe:=FM ⟨_,_,e0,e1,hb⟩;have dis:NL Aaa (b∉cs):=Bc1;show Ans;show Aqm;rw[zu0 LQ hf];refine Op (Aen e0 e1 (FA (gW (AoM A2_) g6 a) zY) (t:= .tr (Aaa++cs) BNE) ⟨_,Β,?_,Kk,?_⟩ Kk) s1 (q cs)
  show BKf (BQN (BLg n1 (BLg n2 n3)) (e ▸ hy))
  ·show BTQ (hn' b hb)
  ·have na:L4 ANP NV:=BWl;refine BkN AoG
   ·show AJl (n1 (IB z));exact ed
   ·have m:=aI (H' :=upd H1 a Ao1) JY ts vs bs BOn r
    have l:=ABe (H' :=upd H1 a Ao1) JY t v cs Bc8 rt
    exact Yr m (Ys l)
  ·show BTS)))
theorem Vy(hc:ia)(hn:VI)(he:AUJ E8)(hN:HV)(hv:OV)(hd:Fr:=by decide)(hcd:zn:=by decide)
  (hs:AfZ (yn OI f I_):=by rfl):BaO wD te:=AWt vo z6g dC TZ hs (AZm Ay Ay Io (by
  obtain⟨as,fs,ts,e0,hf,hl,YW,q⟩:=Io;obtain⟨o,e1,w,Β,nd,hn',r⟩:=Ald;obtain⟨a,dx,vs,bs,Β,Β,ea,ed,LQ,_,r⟩:=r;refine BlB
  have nd0:=nd;show Ans;show Aqm;rw[zu0 LQ hf];refine Op (Aen e0 e1 (FA (gW (AoM A2_) g6 a) zY) (t:= .tr A2_ BNF) ⟨_,Β,nd0,hn',?_⟩ AYK) s1 q;have na:L4 ANP NV:=BWl;refine BkN bs
  ·show AJl (n1 (IB z));exact ed
  ·have m:=aI (H' :=upd H1 a Ao1) JY ts vs bs BOn r
   have l:fC AG F1 (yz a Ao1) [dA] [v] []:=Ys (A3 (IC rd))
   have:=Yr m l
   rwa [UE] at Ρ))
def Ef(C:Ζ)(sp:Iw)(t:cW):qt:=dq BcH
structure J1 (Bm3) (DI:AQ) (x:Μ) (C:Ζ) (k:Δ) (ps:Υ) (sp:Iw):Ι where
 ex:BVW (AKM sY)
 non:∀ds Q Ex,Ax6 Q Ex ->Ax6 (fun t d=>d= BS/\Q t d) Ex
theorem z9t(G:J1 GE X.w AG pE eI x C k ps sp)(hr:AKS)(hg:J_)
  (ha:SH) (hdb:Fr:=by decide) (tw):
  AIh tj (Ef C sp t):=by
 obtain⟨f,fd,Fn,M,hm,hb⟩:=x0;show AF_;refine Ap9;refine AeM (h₀:=eI) AeN M.kp (Ane (ArI BcH) Bb) he EE;obtain⟨vs,H1,I1,r,F1,AF,ds,R1,sF,rs,q⟩:=Bb;refine CI xy;have I2:=BVz I1;show EW n1 (Ð aw) AmF n2 Ak1 AmE ne BP2 Aox kp Bcy Aj3;show EW sH (LG H1 APH) (A8m n1 n2) hid (iD BQR APH=H1) (by
  funext b
  by_cases hb1:b=rL
  ·subst hb1;rw[zti A0,n1]
  ·by_cases hb2:b=D1
   ·subst hb2;rw[zti A0,n2]
   ·rw[zk6 (by simp [hb1,hb2]),bL hb1,AkK]) hs (sY AG sp BL5 APH BOl (fun C' M7 H' =>∃A9 F' x,AwZ /\rh F' /\BCs/\ (AtT=x\/L4 AYE (AHd A9 b))/\E A9 x)) (by
  refine⟨F1,rL,[D1],.ob C [] [],ds,vs,_,_,Β,A3N,DT ne.symm,Kk,?_,rs,G.non _ _ _ q,?_,?_⟩
  ·have:AYE:=by
    show AKf
    ·exact n1
    ·show ik hb;exact n2
   exact R1.g.free Ρ
  ·exact⟨_,_,[],[],Β,Β,gQ,A3X,Β,Β,Aww⟩
  ·rintro t' d v cs F' H' gr nd hn rt rv ⟨ed,hp⟩;rw[hid] at gr hn;subst ed;exact⟨rv,kk t' AF F' H' _ _ AOr Ah2 nd (NJ (Axt AD' wS wS)) rt hp⟩
  ·intro x C' M7 t' cs F' H' gr nd hn rt xr hE;rw[hid] at gr xr;exact⟨AF,F',x,ATf gr,NA,xr,Azo BIr,hE⟩) hl (AIo AQN) (by
  have e:=AV1 hs;rw[GV,<- Sf,<- GV (a:=AxK),e])
 have hbs:=hb BaY AQN AeV AxW
 show AGF;refine Bkl;refine ALn (BEn AvC AQN BUf hs) (AU9 hq');cases r with
 | kH e=>
  refine cx.pX Ν σ AF F1 H1 s1 e s' I1 R1 BPX;have u1:Un ADp [] H1 AfX Adc Axm:=BbZ;have u2:BfP:=BPS (by rw[bL ne.symm];exact n1)
  exact Ato u2
 | ok Yg =>
  cases Yg with
  | ret u=>
   obtain⟨v,H',I3,rv,ev,q3⟩:=BPl;subst ev;exact⟨rv,Bbg⟩
  | KE=>show Ϩ
  | brk=>show Ϩ
  | Nn=>show Ϩ
#where
def J2(BdN dJ):cu:=ŧ (ϻ (C' =C/\AAP/\A7k))
section
variable{X:Cx}{F0 H0:Hp}{o:AJ}{AA KM:AS}{m:Μ}{C:Ζ}{ps:Υ}{k:Δ}{sp:dJ}{te:cu}
theorem yf5(G:Aba BZ)(hc:ia)(hr:sx)(ho:AQC)
  (ht:AEs Aoj (do
   let ov<- UO o
   AAV
   let (f,first)<- AAm m pl
   AAo (y_ []) AFq):=by rfl):
  D_ Aoj (J2 C m sp te):=by
 show BDY;show AF_;refine BCK (ϻ (C' =C/\AAP/\A7k)) A9X Bb
 obtain⟨x,H1,I1,rx,F1,AF,d,R1,sF,rd,q⟩:=Bb;cases d with
 | obj C' fs ds=>
  show Anp M6;have RL:=rd;show An3;show Y';refine A7Z;refine BhX;exact Rm (us:= SB) (vs:= SB) Fn hr hb cx I1 R1 A4T (qF RL IU) q (Ap4 (kk d AF F' H' v AOr Ah2 rv hp))
 | _=>show sg
#where
abbrev P2:=Μ×Μ
def yx(a b:P2):AN:=jM a.1 b.1 || (Φ (a.1=b.1)&&jM a.2 b.2)
theorem yke(a:P2):yx a a=AC:=by unfold yx;simp [Yx]
theorem yga(h1:AWR)(h2:yx b c=Κ):yx a c=Κ:=by
 unfold yx at*;simp only [At',kK,ABk] at*;rcases h1 with h1 | ⟨e1,h1⟩
 ·show Ayk h2 h2 e2
  ·show E5 (z2k h1 h2)
  ·show E5 (e2 ▸ h1)
 ·show Ayk h2 h2 e2
  ·show E5 (e1 ▸ h2)
  ·show HL ⟨e1.trans e2,z2k h1 h2⟩
theorem z2a(h:AWR):yx b a=AC:=by
 cases q:yx b a with
 | AC=>rfl
 | Κ=>have:=yga h q;show Da yke;show L9
theorem ykk(BZS yx):yx b a=Κ:=by
 unfold yx at*;simp only [Bool.or_eq_false_iff,Bool.and_eq_false_iff,Brn,At',kK,ABk] at*;by_cases e:a.1=b.1
 ·refine .B0 ⟨aT,zvr ((h1.2).resolve_left (A1 (z e))) fun e2=>h2 (Adt e e2)⟩
 ·show E5 (zvr ii e)
def Bw:P2:=(Nc,Nc)
def Ci(xs:ϥ)(i j:Δ):AN:=yx (e_ i Bw) (e_ j Bw)
theorem z07(nd:AT0):BU2 Ci:=by
 show AZX nd;refine⟨fun i j hi hj hij h=> ?_,fun i j _ _ h=>z2a h,BhB (yga h1 h2)⟩;refine ykk h ?_;rw[wz hi,wz hj];rcases Ael hij with q | q
 ·exact Ap i j hi hj q
 ·exact A1 (Ap j i hj hi q pr)
def Eh(h:AQ)(v:AI)(p:P2):Ι:=∃(a:Ζ) (o:Obj) (m:Δ) (t u:Tok) (r:Au),Mb/\Ā/\A3L /\xD= .seq (Ar4 CS t:: .AO p.2 u::r).Ĩ m
theorem Eh.up(q:Eh h v p)(k:A3b):Eh h' v p:=by
 obtain⟨a,o,m,t,u,r,e,g,c,d⟩:=q;exact⟨a,o,m,t,u,r,e,k a o g,c,d⟩
theorem z5a(h:Q (jM a b) s):KS (oneLt' AC (.AO a t) (.AO b u)):=by
 rw[oneLt'_eq];refine BkY a b
 show BJM
theorem yhn{a b:Μ}:A3k BQe:=by
 by_cases q:a=b
 ·subst q;simp
 ·show ô q;cases z:BQe with
  | AC=>rfl
  | Κ=>
   have e:=As' z;exact fw (by show AE a a a a a a a a a a a a a a;show AE b b b b b b b b b b b b b b;simp at e;rw[e]) q
theorem zxr{B9:A2}{w:An}{A:BM}{E:dO}{ps:ϥ}{vs:Au}(hl:Ahk)(nd:BGu):
  Hf B9 w A E vs (Ci ps) (P4 (BB_ h AG9)) (tuples' Κ):=by
 refine⟨IE s Q hT h2 hQ,BPh hij⟩
 ·have Ap:∀(vs:Au) (ps:ϥ),Ahk ->(BB_ A6 AG9) ->∃fs:Au,W.KatTups A6 vs fs/\AJx/\∀v∈fs,∃x t,v= .AO x t:=by
   intro vs;induction vs with
   | C3=>intro ps _ _;exact IS [] EB AIs
   | AX v vs ih=>
    intro ps hl hT;cases ps with
    | C3=>show fg hl hl hl hl hl hl hl hl hl hl hl hl hl hl
    | AX p ps=>
     show AbR fs (ih ps AjC (LW (CY (hT DU (Co hi)))))
     obtain⟨a,o,m,t,u,r,e,g,c,d⟩:=hT 0 A0
     have e' :Mb:=e;subst e';refine⟨_::fs,sQ g c d IU h1,DT h2,CA v hv⟩
     rcases Cn hv with Β | hv
     ·exact AYf
     ·exact h3 v hv
  obtain⟨fs,q1,q2,q3⟩:=Ap vs ps hl hT;refine W.kat_kind (T:= PQ ĝ) q1 Η (bv hv ?_) Β hQ
  show DE x t Β q3 v hv;exact Brq Β
 ·obtain⟨a,o,m,t,u,r,e1,g1,_,d1⟩:=hT i Η
  obtain⟨b,o',m',t',u',r',e2,g2,_,d2⟩:=hT j Η
  unfold At6;rw[e1,e2];refine W.kat_lt g1 d1 g2 d2 ?_;have hne:Aeo i Bw≠Aeo j Bw:=by
   show AZX nd;rw[wz Η,wz Η]
   rcases Ael hij with q | q
   ·exact Ap i j Η Η q
   ·exact A1 (Ap j i Η Η q pr)
  refine W.kat_cons (BIz _ _ t t' B9 w _ _ _ _ ?_);rw[yhn];by_cases q:AWP.1=BWB
  ·show õ q;refine W.kat_yes (W.kat_cons (BIz _ _ u u' B9 w _ _ _ _ ?_));rw[yhn,AyX (A1 (hne (Adt q z)))];refine W.kat_no (z5a ?_);have:Ci ps i j=jM AWP.2 (Aeo j Bw).2:=by
    unfold Ci yx;rw[q,Yx,AkX,BHB,Aep]
   show u_;exact hC
  ·show ô q;refine W.kat_no (oneLt_str ?_);have:Ci ps i j=jM AWP.1 BWB:=by
    unfold Ci yx;rw[AJu,Bpl,BqG]
   have hC' :=hC;rw[Ρ] at hC';exact hC'
def wF(p:P2):EA:= [.B0 CS,.B0 p.2]
def pairD(p:P2):D:= .DZ [.AO CS,Azv]
def Bk(H:Hp)(w:V)(p:P2):Ι:=AiB w (b9 (KP [.AO CS,Azv]))
def SM(X:Cx):wf:=AVH (∃(q:Ζ) (AH:iN) (ps:ϥ),vs= Akn/\Rd H q ACu/\AcI (·.1)=KO wF/\BLE/\
 ∀(l:Ζ) (ms:ϥ) (ws:AV),Ahe ->G_ (ĺ ps) A2a BN0 (Bey (Bk H w p)) (Ah5 ws))
theorem z9v(h:wF p=wF q):p=q:=by
 injection h with h1 h2;show APO h2 h2;injection h1 with h1;injection h2 with h2;exact Adt h1 h2
theorem z75:RY AH iN xs AIw AGM (eC (·.1)=AcI (·.1))
 | _,_,EB=>Β
 | _,_,Aou=>by rw[Ff,Ff,z75 r,EJ]
theorem yo3:∀{AH:iN} {xs:AIw} {i:Δ} {x:A4_},AGM ->ci ->Pc x.2.1 (Ş (x.1).EL kV)
 | _,_,_,_,EB,e=>AJ'
 | _,_,0,_,Aou,e=>by simp at e;subst e;rw[<- EJ];exact h.2.1
 | _,_,D',_,Aou,e=>ö yo3 r AEp
theorem z36(AAc):AQX (SM X):=by
 rintro Ν s σ H xs us Q I r ⟨q,AH,ps,e0,hq,hk,h64,k⟩;subst e0;show SS;show AAq;obtain⟨hz,hsm,xs,rel,o,es,ep,ho,hec,hdt,hes,his,hnd⟩:=Lr Iq hq;have hkeys:eC (·.1)=KO wF:=uC z75 rel hk;have hlx:AMa B1:=BM' hkeys
 show EW hls (Ϡ FE) (by rw[<- kB,hes,C4]) ABc AP4 B4 nd BGu (by
  rw[hkeys] at hnd;unfold ATi at hnd⊢;rw[ĵ] at hnd;exact hnd.imp fun h z=>BRV) at_ (∀i,(hi:AJb) ->∃x:A4_,ci/\x.1=wF Na) (LW (by
  have hx:nr:=Τ
  refine DM xs[i] (zZ hx);have:(xs.map (·.1))[i]?=(KO wF)[i]?:=MA hkeys
  rw[Fh,Fh,ku hx,iX] at Ρ
  show t9))
 refine BiZ ⟨o,ho,hec,hdt⟩
 have hvl:AL7=N0:=by show BM7 hv;show Ω
 have kT:∀i,(hi:AJb) ->BUW (b9 (KP [.AO Na.1,.AO Na.2])):=LW (by
  obtain⟨x,ex,ek⟩:=at_ i hi;refine APr x.2.1
  ·rw[MH,hv,hes,Q3,Fh,ex];rfl
  ·have:=yo3 rel ex;show Da ek;exact Ρ)
 have hT:BB_ A6 AuA:=LW (by
  obtain⟨b,e1,e2⟩:=kT i hi;rw[wz hi];obtain⟨_,AY,rv,o',h2,h3,n,h4⟩:=(AIP b (KP [.AO Na.1,.AO Na.2]) b e2);cases rv with
  | AX r0 rr=>
   cases rr with
   | AX r1 rr=>
    show ArS;show MW r0;show ka t' r1;exact⟨b,o',n,t,t',[],e1,h2,h3,h4⟩)
 refine⟨Ci ps,_,_,iS hvl z07 nd,Τ,zxr hvl nd,fun h2 k2 i hi=>(hT i hi).up (BfL PP),ArK hl⟩
 show EW hsz AZD BAt hix (AOz AJb) (LW (gi hvl UI (At8 hi))) E9 (AMa is.length) (by rw[Brw,AHC,hvl]) hws (AOz (BUW (Bk H Aie AWP))) (LW (YO b e1 e2 (kT i (hix i hi)) ⟨b,e1,b,Β,lh wz (hix i hi) e2⟩))
 obtain⟨ws,hw1,hw2,hw3⟩:∃ws:AV,A8Y ws (AvQ AuA)/\Ll=is.length/\∀(j:Δ) w p,TC ws w ->TC BTO p ->Bk H w p:=by
  clear a1 a2 hl E9 hix;unfold Q_;induction is with
  | C3=>exact IS [] EB (fun j w p e=>AJ')
  | AX i is ih=>
   obtain⟨ws,h1,h2,h3⟩:=ih (BDH hws);obtain⟨b,e1,e2⟩:=hws i zY;refine⟨.As b::ws,.AX (by show BV (HP Aie (AuA i T1));rw[e1];exact Β) h1,DT h2,IE j w p q1 q2⟩
   cases j with
   | Qb=>simp at q1 q2;subst q1 q2;simpa using e2
   | Qr j=>exact h3 j w p (Co q1) (Co q2)
 have I2:Amw ws:=
  AKR A7q hsz Awv ⟨Τ,_,e,hw1,hl⟩
 refine ř l I2 (k l BTO ws (AWc hsz) (zon (U' hvl a1)) ?_ (by unfold Q_;show Æ hw2) hw3)
 unfold Q_;rw[ĵ];exact a2
def zyo:SE:=AHq [ACq _] (∃ps:ϥ,ks=KO wF/\BLE/\Aae ϥ (ĺ ps) A2a pairD)
theorem zmq(Me):∀{ms:ϥ} {ws:AV},BN0 ->(Bey (Bk F w p)) ->NE (Q1 pairD) ws
 | [],[],_,_=>MY
 | [],Db,h,_=>D4
 | Db,[],h,_=>D4
 | p::ms,w::ws,h,k=>by
  show AiS;show GT b e (k 0 w p Β Β);refine qF ?_ (zmq AX1 fun i w p q1 q2=>k DU w p (Co q1) (Co q2))
  exact Y1 b (ACa e) (qF IU (qF IU IU))
section
variable{X:Cx}{F0 H0:Hp}{a:AJ}{AA p:AS}{t:cW}
theorem ydw(Bic):AOt (AOl o5) zyo:=fun z E cx=>by
 refine AyA (ARk Q9 (z36 hc) hb Χ Χ)
 show AOf;refine AY4;show AJP zyo;split at h1
 ·obtain⟨v,_,Β,⟨l,us,Β,hq,EN,rs⟩,Β⟩:=r1;obtain⟨ps,Β,h64,h1⟩:=h1;refine⟨l,_,ps,Β,Im JI hq,?_,h64,fun l2 ms ws hl2 pm pw hwl hw=> ?_⟩
  show BQ8
  ·have R2:=R1.tups;obtain⟨R3,q1,q2,q3,ap⟩:=Ip R2 hl2 (zmq (K:=AG) (F:=vX F1 H1) hwl (AhB w p (by
    show GT b eb (hw i w p e1 e2);exact Rs b (z7z JI eb))))
   exact k _ AF _ _ l2 _ R3 (AHb zoo) q1 q2 q3 (zmq hwl (AhB w p (by
    show GT b eb (hw i w p e1 e2);exact Rs b (z7z JI eb)))) ap (h1 ms pm pw)
 ·show vE
#where
def AT5(AQG):Υ:=BsB fun c=>AQT
def Itx(AQG):It:=⟨fun i _=>AzD,fun i H v H' =>H' =H/\∃c,FL x.cps c/\v= .AO AQT,fun i _=>BKG⟩
theorem z2v(AR_)(wide:AN)(it:Ζ)(x:Μ)(t:Tok):ARp (Itx x) (i<=BI6/\h.IsStrIter it (B3 wide "str_iterator" "str_ascii_iterator") x t i) where
 mem:=C_
 obj:=AKb (by
  show AKC
  obtain⟨_,o,e,c,d⟩:=st;exact A3W)
 KL:=AWO ⟨m3,Bl' mT (Agy ho)⟩
 UA:=by
  show dk;show SV;show ox
  have hx:AzD:=hg;cases wide with
  | Κ=>
   show Bk5 wpAny_pyNext_wide_item
  | AC=>
   show Bk5 wpAny_pyNext_ascii_item
 K_:=by
  show dk;show SV;show ox
  have hx:BKG:=hg;cases wide with
  | Κ=>exact wpAny_pyNext_wide_end V_ mT Aw7 AKg
  | AC=>exact wpAny_pyNext_ascii_end V_ mT Aw7 AKg
 QU:=AgQ (by
  cases wide with
  | Κ=>exact wpAny_pyIter_striter_wide mT h
  | AC=>exact wpAny_pyIter_striter_ascii mT h)
def abS(te:TE):TI:=A9r (∃x,v= .AO x/\R (Itx x) H1)
theorem ymw{X:Cx}{e tg:AJ}{te:TE}(he:i4):ð e (abS te):=by
 show DH R;refine bV v_ (n5 Bi);obtain⟨y,H1,I1,r1,x,ey,q⟩:=Bi;subst ey;show MW r1;cases ha:x.cps.all (· <128) with
 | AC=>
  refine wpAny_pyIter_wide ha ⟨D1,[D1],_,_,H1,Β,AEQ,z2v Κ _ x t,BY7,Kk,q⟩;show AI'
  exact AJO
 | Κ=>
  refine wpAny_pyIter_ascii ha ⟨D1,[D1],_,_,H1,Β,AEQ,z2v AC _ x t,BY7,Kk,q⟩;show AI'
  exact AJO
def yn2(we):cW:=AlD vy (D6 AL_/\P (BQX .AO) AF)
section
variable{X:Cx}{F0 H0:Hp}{e tg:AJ}{te:cu}
theorem yon(he:VT):AQr e (yn2 te):=A0q (EH ymw) TZ (Awm (BPK (by
  show AEc
  ·rename_i x;refine⟨x,r1,k _ AF F1 H1 _ R1 s1 ⟨?_,ASR (LV e)⟩ ϐ⟩
   ·unfold AT5;show BMs;exact ii
   ·rw[e];unfold AT5;show BMs;exact zN _
   ·unfold AT5 at hd;show Ayn Fh Adz hd;cases q:x.cps[i]? with
    | Θ=>show LO q hd hd hd hd hd hd hd hd hd hd hd hd hd hd hd
    | Ε c=>
     rw[q] at hd;show Ab4;have hi:AzD:=AYC q;refine⟨hi,Aag⟩;obtain⟨Β,c',q',Β⟩:=z;rw[q] at q';show BEz;exact⟨F2,į s3,MY⟩
  ·exact h1.elim)))
#where
def Nh:HM:=AqM Ajh Aji (l' (! jM b a))
theorem yor:ć LtE Nh:=by
 rintro Ν s σ H x y u w Q I rx ry ⟨F,d1,d2,P,sF,r1,r2,h,k⟩;show Dx Nh;split at h
 ·show AGG;show XZ;show AFs;exact PySem.P.le_str A2m
 ·show HA
theorem ztv:AiD "proto.unchain" Builtin.«proto.unchain»:=entryFor_of_fast (by kernel_rfl)
section
variable{B9:A2}{w:An}{A:BM}{E:dO}{s:AD}
theorem zwf(hh:A8N)(ho:A1_)(hd:Aad)(h2:AWS)(ne:a≠e)(he:M_ e=Ε oe)(hde:AVg ws)(hz:2<ws.size)
  (h:Ah6 (am (AGw e (Obj.mapFields (·.setIfInBounds 2 (.ref a)))))):AMi (At0 (α:=α)) e:=by
 simp only [At0];refine A0d;rw[hh];have hne:(AH4 !=WF e)=Κ:=DT ne
 simp only [hne,xk];refine AI4 (BIR (Atw ztv ?_));unfold Builtin.«proto.unchain»;refine BmS ho h2;show DF Χ
 refine AIk;refine z6 (z6 (BGT he ?_));rw[hde];refine(?_:AU1 (AOB (2<ws.size)));show DF hz;exact wpAny_update he (BH5 h)
#where
def J3(i:Δ)(t:qt):aH:=š t tr ((Bd9 tr tr)/\∀a bs,ARA k7 tr)
theorem TR.cons(oS):∀{t:T} {v:V} {as:B5},AIx ->(Bd9 t t) ->∃a bs,as=ADH
 | dA,_,_,_,n=>f_ Β n.1 d
 | .kt d,_,_,_,n=>f_ Β n.2 d
 | ú,_,_,h,_=>BBv
 | AEz,_,_,h,_=>BBv
 | AE_,_,_,h,_=>BBv
 | Rc .ob,_,_,h,_=>by obtain⟨b,_,_,_,_,e,_⟩:=h;exact ET _ e
theorem z51(AXW){e:AJ}{AA:AS}{tn:qt}{i:Δ}{x:Μ}{I_ :AS}(hN:eJ)(hi:HV)(hx:AEH)(he:AJD)(hs:AKk (DJ APj):=by rfl)
  (hf:AAg:=by show Aav):Apf J3 tn:=fun z E cx=>
 vo (Anf hN hi hx TZ hs hf) (iq B2 B2 (A4s (by
  show Cc a bs Β r1.cons ii;exact AEI (Bgx (.tr k7 t)) s1 (ϐ a bs))))
structure J4 (BCb vN):Ι where
 ex:BCo (AKM zj)
def Ei(BdN vN):qt:=ŧ (ϻ (C' =C/\AAP/\Bmq (Bn t (FX t))))
section
variable{X:Cx}{F0 H0:Hp}{o:AJ}{AA KM:AS}{m:Μ}{C:Ζ}{ps:Υ}{k:Δ}{sp:vN}{te:cu}
theorem z10(G:Aba J4)(hc:ia)(hr:sx)(ho:AQC)
  (ht:AEs Aoj (do
   let ov<- UO o
   AAV
   let (f,first)<- AAm m pl
   AAo (y_ []) AFq):=by rfl):
  AIh Aoj (Ei C m sp te):=by
 show BDY;show AF_;refine BCK (ϻ (C' =C/\AAP/\A7k)) A9X Bif
 cases d with
 | obj C' fs ds=>
  show Anp M6;have RL:=rd;show An3;show Y';refine A7Z;refine BhX;have hs:BiW SB:=⟨F1,_,_,_,JI,qF RL IU,q,Bk3,fun x C dx F' H' hE gr xr=>⟨x,F',hE,gr,xr⟩⟩
  have hl:AIo ([AH4]++ []):=iS UE AV1 hs
  have hbs:=hb s1 SB xy hl;show AGF;refine ARl (ALv X.A M3 s1 H1 Ahb SB SB Q _ hr I1.env0 hbs) A4T AQ2;cases r with
  | kH e=>exact BW' hq
  | ok fl=>
   cases fl with
   | ret u=>exact I1.after hq
   | KE=>show YY
   | brk=>show YY
   | Nn=>show YY
 | _=>show sg
#where
def Hh:D ->ĕ (EA×AU)
 | ACf xs=>Ε (ks,xs)
 | A5Q=>Ε (ks,xs)
 | _=>Θ
def iG:EA ->AU ->Key ->AJa
 | AFT,SK,k=>BLk (iG ks xs k)
 | _,_,_=>Θ
theorem PK(Me){d:D}{v:V}{ks:EA}{xs:AU}(h:AwX)(r:OU):∃a vs,Mb/\Rd F a ACr/\Xs/\tP:=by
 cases d with
 | dic ks' xs' =>
  cases (h);show ACT a vs e l rs r;exact⟨a,vs,Β,.DV e,l,rs⟩
 | dik ks' xs' =>
  cases (h);obtain⟨a,o,vs,Β,e,l,rs⟩:=r;exact⟨a,vs,Β,.B0 (cz e),l,rs⟩
 | _=>show OZ
theorem zo9{K:AB}{F:Hp}{k:Key}:Aq3 EA (tP ->(∀d,A7V xs ->AZO BDw)/\ (iG ks xs k=Θ ->jc AQn k=Θ))
 | [],xs,vs,_=>by
  refine⟨CA d h,APc⟩;show GN
 | Db,[],vs,r=>by
  subst r;refine⟨CA d h,APc⟩;show GN
 | AFT,SK,vs,r=>by
  show ARj;have ih:=Bba k r2;unfold jc at ih⊢;show A3w;unfold iG;by_cases q:k' =k
  ·refine⟨CA d h,AYT⟩
   ·rw[IF] at h;show GN;exact⟨v,Ajj,r1⟩
   ·show AXO IF
  ·show BN q;show BQE ih
def Ni:HM:=Ū (∃ks xs k d,F7 Hh (ks,xs)/\y=lU k/\A7V xs/\P d)
def Nj(neg:AN):HM:=Ū (∃ks xs k,AM6 y ks xs/\x=lU k/\l' (B3 neg (! Alf) Alf))
def PL(td ty tx:cu):cu:=We td d (BAu (ώ ty kd (tx A7 (fun df Γ3=>∃k,kd=lU k/\P ((iG ks xs k).WP df) Γ3) E)))
def z18:VX:=AHq [d] (BAu (XX Sk))
section
variable{X:Cx}{F0 H0:Hp}{a b o e f:AJ}{AA KM GW:AS}{ta tb td ty tx:cu}
theorem yay(Bjv):BO2 Ni:=fun z E cx=>
 m9 (EH z5w hu FY Mc hs) (LX BL BL (ARm (by
  obtain⟨ks,xs,kk,d,e1,Β,hl,hp⟩:=h2;show Au8 (PK e1 (ABi s2));have ev:=Hg r2;subst ev;show AIM (zo9 rs).1 d hl;exact⟨c,v,Β,BnO hv.symm,Av2 rv hp⟩)))
theorem ynz(hu:VC)(ha:X2)(hb:Ŷ)(hm:AvE .In):iF (AVG a .In [b]) (VY (Nj AC) ta tb):=fun z E cx=>
 O3 (Ajm (EH ym3 hu FY Mc) hm) (LX BL BL (ARm (by
  obtain⟨ks,xs,kk,e1,Β,hp⟩:=h2;show AKU r2;have ev:=Hg r1;subst ev;refine Bgb;rw[zz1 EN];exact k _ A7 F2 H2 R2 sL hp)))
theorem yj5(hu:VC)(ho:D_ o td)(he:D_ e ty)(hf:D_ f tx)(m:BkJ):D_ (ze (qc o "get") [e,f]) (PL td ty tx):=fun z E cx=>
 m9 (AZz yfg (PR ho) TZ hf ⟨m.base,m.few,m.line,m.trees⟩) (LX BL BL (AMM d1 v1 (by
  obtain⟨ks,xs,e1,h1⟩:=h1;show AKU r1;exact⟨c,Β,.DV (FF Al2),F1,AF,_,R1,h1,fun d2 A7 F2 H2 v2 R2 s2 r2 h2=>⟨F2,A7,_,R2,h2,fun d3 Γ3 F3 H3 v3 R3 s3 r3 h3=>by
   show GT kk hp h3;have ev:=Hg r2;subst ev;have q:=Bba kk (ATl (İ s3));refine ë (.DV ⟨_,kk,Im (AoO R3.g) ec,Β,Β⟩);cases el:iG ks xs kk with
   | Θ=>
    rw[q.2 el];rw[el] at hp;exact k d3 Γ3 F3 H3 v3 R3 AmL r3 hp
   | Ε d=>
    show AIM q.1 d el;rw[hv];rw[el] at hp;exact k d Γ3 F3 H3 v R3 AmL rv hp⟩⟩)))
theorem yf8:AQY AK3 z18:=by
 show oy;show Dx z18;split at h
 ·show AKN rd;show a_ ks xs e1 h;show AKU rd;show SS;show Kx;refine yph I (Im sF ec) fun t s' I' =>⟨.AL Sk,H,I',CI t,ADq⟩
  show AvG EN
 ·show HA
#where
section
variable{X:Cx}
theorem zxe(he:i4)(I:AW)
  (h0:te σ H Q0) (h:∀v H1,Q0 v H1 ->A9q (Rd H1 a PU) (∀(s1:AD) (ws:A2S) (ep:Δ) (r:Ζ),vS (AJY s1) Afv AU4 A2H AnL (s1.heap.IsValuesView r a) (NM r s1)))
  (LE:AKH) (PF:à):
  AHa (qi AgP) Q:=by
 refine Brz LE PF (bV (AB' he _ I h0) (n5 Bi));obtain⟨x,H1,I1,r1,q0⟩:=Bi;obtain⟨a,AH,ex,ea,q⟩:=h x H1 q0;subst ex;show A6Z;show BEZ ea;refine BdU;obtain⟨hz,_,ws,kv,dd⟩:=Al_ Lq;refine Ad6 BI1 hT Br0 (Br1 _) (Br2 AIE a hsm) (CI ⟨ws,dd⟩);obtain⟨o,es,ep,h1,h2,h3,h4⟩:=id dd;have hm:AnL:=BCX h1;have vw:A1q (Axi Br4):=nI;exact q _ ws ep _ (Asg É) hsm hz kv AzN vw
theorem z4s{ks:EA}{vs:AV}{ws:A2S}{A4:Kb}(EN:Xs)(kv:KV (UH vs) ws)(h1:Aef=Ll)(h2:∀(i:Δ) (u:AI),FL A4 u ->∃k,AOY (k,u)):IM vs At1:=by
 have hl:=AT2;show BX4 hl;refine zgu (by show ck (acc.toList.length=Aef) kB;show Ω) BBn
 show Ee k e3 h2 i u (A0z e2)
 show DE v e4 r RX kv e3;have:=(Vx e4).2;show Da e1;show L9;exact r
theorem yd7{e:AJ}{te:TE}{KM GW AA p:AS}(hc:Fs)(hg:AkJ)(hm:AkC)(he:i4)(hb:BTf:=by show fF)
  (LE:AKH:=by rfl) (Aq7):
  PE X Bb1 (ft te v (∃(a:Ζ) (ks:EA) (vs:AV),Mb/\Rd H1 a ACr/\Xs/\Ben XG)):=by
 show DH Q;refine ARz (ď hb) Χ Χ
 show A_M (A1j ?_ he2);refine zxe he I h BWO LE PF;obtain⟨a,ks,vs,ev,ea,EN,q⟩:=hq;refine⟨a,UH vs,ev,ea,fun s1 ws ep r I1 hsm hz kv hd vw=> ?_⟩;refine Ajq;show A7x;refine W.kdl_call (BEY BsC) (I1.ok.hd hc) A8R Η fun h' tk A4 c PP hg hac=> ?_
 have hv:=z4s EN kv hac.1 hac.2;have JF:=hv.length;show BX4 hz;have I2:BV_ (Bea XG):=
  BLv PP HT XG (BZf Τ)
 exact BRr D1
theorem ykz(hc:Fs)(hg:Gl X Ĝ)(hm:RS Ĝ)(he:i4)(hb:Aul Ĝ (Sm Ĝ):=by show fF)
  (LE:AKH:=by rfl) (Aq7):
  PE X Be7 (ft te v (∃(a:Ζ) (ks:EA) (ns:B6),Mb/\Rd H1 a (.dK (UH (xp s0)))/\Sk=JA/\Q BJV H1)):=by
 show DH Q;refine ARz (ď hb) Χ Χ
 show A_M (BGv ?_ he2 Β);refine zxe he I h BWO LE PF;obtain⟨a,ks,ns,ev,ea,EN,q⟩:=hq;refine⟨a,UH (xp s0),ev,ea,fun s1 ws ep r I1 hsm hz kv hd vw=> ?_⟩;refine Ajq;show A7x;have hlk:Ll=JA:=by rw[<- RZ,Aem,C4,<- EN,AG_]
 have K:=BEY (PV BsC B9 GE w X.w r r d a);refine call_sum_walkAnyS ?_;obtain⟨oI,St,hit,W,st⟩:=K.iter X.A.in1 s1 (I1.ok.hd hc) A8R;refine hit _ _ ⟨D1,_,_,_,_,_,_,GL ADK,Β,W.toS,st,Kk,At i u hu,At s' t' hm'⟩
 ·rw[UD];rcases Cn hb with e | hb
  ·rw[e];show Akh
  ·show ik hb;show APT (K.there _ A8R).2
 ·obtain⟨k,e3⟩:=hu;show DE v e4 rv RX kv e3;have e5:=(Vx e4).2;rw[Fh] at e5;cases en:ns[i]? with
  | Θ=>show LO en e5 e5 e5 e5 e5 e5 e5 e5 e5 e5 e5 e5 e5 e5 e5
  | Ε n=>
   rw[en] at e5;show AE e5 e5 e5 e5 e5 e5 e5 e5 e5 e5 e5 e5 e5 e5;show AC' (BFr A5M t);show AEX en;exact rv
 ·have hk:BnB At4:=OH (hm'.heap b o (Bn hI (vc zG e (by show ik hI;exact yS _))) cq)
  rw[hlk,z9h ns _ (UU _ Β),Moved.eq_with hm'];exact zod (s:=s1) (v:= .AL ns.sum) I1 hk E4 q
#where
def Ej(we):cW:=ŧ (BAu (FX xs))
def PN(we):cu:=ŧ (∃ks xs ns,AwX/\Anl/\FX BJV)
section
variable{X:Cx}{F0 H0:Hp}{e:AJ}{KM GW AA p:AS}{te:cu}
theorem z2u(hc:Fs)(hg:AkJ)(hm:AkC)(he:VT)
  (LE:AKH:=by rfl) (Aq7):
  AH3 Bb1 (Ej te):=fun z E cx=>
 m9 (EH yd7 hc hg hm TZ Uf LE PF he2) (Wp Ay (by
 show U1 Ay;refine mo ?_;obtain⟨ks,xs,e1,h1⟩:=h1;show AKU r1;refine⟨c,ks,vs,Β,Al2,EN,AxO⟩;obtain⟨R2,q1,q2,q3,ap⟩:=Ip R1 hq0 rs;exact k _ AF F1 _ q _ R2 s1 q1 q2 q3 rs ap h1))
theorem yiq(hc:Fs)(hg:Gl X Ĝ)(hm:RS Ĝ)(he:VT)
  (LE:AKH:=by rfl) (Aq7):
  D_ Be7 (PN te):=fun z E cx=>
 m9 (EH ykz hc hg hm TZ Uf LE PF he2) (Wp Ay (by
 show U1 Ay;refine mo ?_;obtain⟨ks,xs,ns,e1,hns,h1⟩:=h1;show AKU r1;show A7L;exact⟨c,ks,ns,Β,Al2,BKH EN,Ag0 IU⟩))
#where
theorem ym7(Me)(k:Key):ņ (lU k) (kV k):=by
 cases k with
 | DV i=>rfl
 | B0 x=>rfl
def PX(tn:qt):cu:=Aon (al t ą (FX BYK))
section
variable{K:AB}{F0 H0 F H:Hp}{σ:St}{Γ:Ϥ}
open xx in
theorem SR.nailU{w:HO}(R:GU)(hn:AYZ BAS):
  ∃F',FV /\km F' (ANC w)/\Hk F' w/\ (bS bs (NV ->∀u,ϱ ->MT F'))/\BAs ADH:=by
 have sF:fR (A2l w (qq ANP H (F b))):=NO (by
  show A_u;show YV (FG (AlO BLm)) (Bn hb (AQs (hn b (AKp _ hb)).1))
  exact e)
 refine⟨_,sF,Bg_ R.chg w sF (Kj) (fun b u e n=> ?_),E2,IE b hb z u hu,Kk⟩
 ·have e' :A_u:=e;by_cases hb:b=a
  ·subst hb;rw[E2] at e';rw[gQ];exact e'
  ·rw[ADi] at e';rw[bL hb];show è
   ·exact e'
   ·exact R.g b u e'
 ·have e' :A_u:=e;show AnC
  ·subst hb;exact(hn b zY).2
  ·rw[ADi] at e';show Bhf e' e' e' e' e' e' e' e' e' e' e'
 ·exact hW WG z ((AGc hb).EC hu)
 ·rw[ē,not_or] at hb;exact hW WG hb.1 (WG hb.2)
theorem SR.nail(R:GU)(nd:A1P)(hn:AYZ BAS)(ea:OG ACr)(EN:Xs)(r:BWw):
  ∃F',FV /\km F' (ANC ANf)/\AMf BYK EV/\BAs ADH:=by
 obtain⟨F',sF,R',e,k,k2⟩:=R.nailU (w:= .frz o ACr) hn;exact⟨F',sF,R',⟨a,o,vs,Β,e,EN,ALp sF ts vs bs (hZ hc (k c hc (AEo AJB hc))) r⟩,k2⟩
#where
section
variable{X:Cx}{F0 H0:Hp}{e:AJ}{st:AT}{tn:qt}{ts:aH}
theorem yik(he:AJD):D_ e (PX tn):=A7r (by
 show U1 hq;refine Bfl (A9q (AJc PU) (∀o,Q EV A1'))
 ·split at h1
  ·rename_i ks ts;show AKn;refine Y1 a ea (LV o);obtain⟨F',sF,R2,rp,_⟩:=R1.nail (o:=o) nd hn ea EN r;exact k _ AF F' _ _ R2 AkL rp h1
  ·show vE
 ·obtain⟨x,H1,I1,r1,a,AH,ex,ea,q⟩:=Bi;subst ex;show FB AMV r1;obtain⟨_,_,ws,kv,o,es,ep,h1,_⟩:=Al_ W9;exact k9 EO (z0o I1 ea h1) (q o))
#where
def YX(i:Δ)(tk tv:cu):aH:=AmI ((∃as t,AM2 (.tr as t))/\ώ tk kd (∃k as ks xs,kd=lU k/\FL A7 (AwY AJw)/\Ak7/\WJ (Atp i (.tr as (ce (kY ks k) (AD_ A7M))))))
section
variable{X:Cx}{F0 H0:Hp}{ke E8:AJ}{AA Ĺ I_ :AS}{x:Μ}{i:Δ}{tk tv:cu}
theorem ydm(hu:VC)(hN:HV)(hv:OV)(hk:A8f)(kT:AoY)(hs:AQx OI ke:=by rfl)
  (AhP):AOq (AIZ OI ke) (YX i tk tv):=fun z E cx=>
 vo (AZz Xc dC Ai6 kT hs) (AZm Bi Bi B2 (by
  obtain⟨⟨as,t,e0⟩,q⟩:=B2;obtain⟨o,e1,w,Β,_⟩:=Ald;refine⟨w,e1,F1,AF,_,R1,q,fun kd A7 F2 H2 y R2 s2 rk q2=> ?_⟩;obtain⟨kk,as',ks,xs,Β,e2,hl,q2⟩:=q2;obtain⟨o,e3,w',Β,nd,hn,r⟩:=A8x;rw[e1] at e3;show ArR;show AKn;show C5 Β rs Yv r;show Am_;subst ev;refine Y1 a Bc' ?_
  rw[zuh EN];refine Op (R2.wrT e2 e1 (FA (gW (AL8 [a] (ce ks AJw)) g6 a) zY) (t:= .tr [a] (.dic (kY ks kk) (AD_ (gU ks xs kk d)))) ⟨_,Β,nd,hn,?_⟩ AYK) (ABj s2) q2;exact⟨a,_,[],Β,Β,gQ,zzd EN,Pu (zpf rs (rd.up s2))⟩))
#where
def zty:SE:=AHq [d] (∃xs:Υ,∃ys,AM6 d (eC KW) ys/\AT0/\B1<64/\Aae Υ (ĺ xs) AwK .AO)
inductive Gi (Abz):Ι
 | mk:∀(q:Ζ) (AH:tJ) (xs:Υ),(vs= Akn) ->(Rd H q PU) ->G_ (kvs.map (·.1)=xs.map .inr) (AT0) (B1<64) (Bf2 (ĺ xs)) (ANV Gi)
def SN(X:Cx):wf:=AZl Gi
theorem z3v(AAc):AQX (SN X):=by
 rintro Ν s σ H xs us Q I r ⟨q,AH,ys,e0,hq,hk,nd,h64,k⟩;subst e0;show SS;show AAq;obtain⟨hz,hsm,ws,kv,ob,es,ep,hd⟩:=Lq Iq hq;obtain⟨ho,hec,hdt,hko,hpr,_⟩:=hd;show A7x;have hlk:Ġ=M':=BM' hk
 have hls:FE=Ll:=AVx hpr.length kB
 have ABc:AP4:=B4
 refine BiZ ⟨ob,ho,hec,hdt⟩
 have rv:IM (AL9 AHA) Hd:=by
  have l1:De AL9 AHA=M':=C4 ..;have l2:AL7=FE:=BKx hv kB
  refine zgu Η BBn
  show AXc hv e2;cases ee:Ar9[i]? with
  | Θ=>show LO ee e2 e2 e2 e2 e2 e2 e2 e2 e2 e2 e2 e2 e2 e2 e2
  | Ε e=>
   rw[ee] at e2;show AE e2 e2 e2 e2 e2 e2 e2 e2 e2 e2 e2 e2 e2 e2;have hi:i<Ll:=by
    have:=Pl ee;show BJ4;show Ω
   have e3:AOY iP:=zZ hi;have e4:=(hpr.get? ee e3).1;obtain⟨v5,e5,_⟩:=RX kv e3;have e6:FL (kvs.map (·.1)) iP.1:=A1T e5
   show AXc hk e6;rw[Fh] at e1;cases ey:ys[i]? with
   | Θ=>show LO ey e1 e1 e1 e1 e1 e1 e1 e1 e1 e1 e1 e1 e1 e1 e1
   | Ε y=>
    rw[ey] at e1 e6;show AE e1 e1 e1 e1 e1 e1 e1 e1 e1 e1 e1 e1 e1 e1;have e7:iP.1= .B0 y:=CY e6.symm
    have e8:vQ iP.1 e.key=Κ:=e4;rcases FN e8 with ⟨j,t,z,_⟩ | ⟨x,t,z,zz⟩
    ·show AXP e7
    ·rw[e7] at z;show L6;refine(?_:HP (AHA y) e.key);rw[zz];exact Ċ
 have JF:AL7=M':=BOK
 refine⟨RV ys,_,_,iS JF z0q nd,Τ,z2n rv,BKN,ArK hl⟩
 have hlt2:AZD:=BAt;have hix:BaP:=LW (by
  rw[C4,<- JF];exact UI (At8 hi))
 have hrv:=zp1 rv hix;rw[BUL] at hrv
 have hms:(Q_ Nc ys is).Lm ys:=zon (U' JF a1)
 have E9:BTx:=BMR
 have I2:Amw AkS:=
  AKR A7q hlt2 (E3 AkS) (A'Y hl)
 exact ř l I2 Bj4
section
variable{X:Cx}{F0 H0:Hp}{a:AJ}{AA p:AS}{t:cW}
theorem z24(Bic):AOt (AOl o5) zty:=fun z E cx=>by
 refine AyA (ARk Q9 (z3v hc) hb Χ Χ)
 show AOf;refine AY4;show AJP zty;split at h1
 ·obtain⟨v,_,Β,r1,Β⟩:=r1;obtain⟨xs,ys,e1,nd,h64,h1⟩:=h1;show AKU r1;refine⟨c,_,xs,Β,Al2,?_,nd,h64,IE l2 ms hl2 pm pw⟩
  show BQ8
  ·obtain⟨R3,q1,q2,q3,ap⟩:=Ip R1 hl2 (YB (K:=AG) (F:=F1) ms);exact BDd YB pm pw
 ·show vE
#where
theorem hu1(h:AUn n):AMQ n:=zL (Nat.add_le_add_left (AYa (1<=21)) _) h
theorem qv(i:Δ)(hN:HV:=by exact Β)(hv:OV:=by first | exact AuB Β | show BVT | show BVU)(AhP):D_ vt (cV i):=ynd hN hv hd hcd
#print _3
namespace _Hd
open II AKr Arj J'
theorem yfu{l:Ayq}{i a:Δ}(e:ŭ (Jb i l).ABW):∃k,a=i+k/\HR l k o/\MO o.isFreed:=by
 induction l generalizing i with
 | C3=>show Ē
 | AX b r ih=>
  show Tl Jb;split at e
  ·show Cc k hk hr ih e;exact⟨k+1,Τ,hr⟩
  ·rename_i hf;rw[WU] at e;split at e
   ·show LP;show C6;exact IS 0 (AGr q) hf
   ·show Cc k hk hr ih e;exact⟨k+1,Τ,hr⟩
theorem yox(h:AQ)(n:Δ):(cut h n).In h:=Lw e (by
 obtain⟨k,hk,hr,hf⟩:=yfu e;rw[hk,BIS];exact Heap.get?_some_iff.mpr ⟨NN Adz hr,hf⟩)
noncomputable section
theorem size(Aaz):((AKt AKu).isNs jS&&(BFT []:ϕ).size==0,(AKt AKu).ģ,(AKt AKu).nsMap jS "__annotations__")=(Κ,11,ann):=ng
theorem left
  (e:opening p=plainProg p.main.scope.names) (f:∀s,fenceModules? p s=Ε s)
  (hA:∀w os,topGo T0 p w 11 ann 12 A5n A1S=Ε (Bhk,⟨denote T0 (cB p),cB p,z,AaT⟩))
  (hB:∀w os,segRun T0 p w 11 ann 1 1 BCL (blockOf BKw (BI p) (cB p) z AaT)=Ε (ADd,Bhk,cB p,z))
  (hC:∀w os,(Ta BCL).abs=fore T0 topGo p w os)
  (hD:∀w os,shot T0 topGo segRunT topRun execs p (F_ openSeen p q ZI Xt obs n w) w os=Ε (BVw (cB p) (openGood q ZI))):
  Bix p Xt:=HH (by
 obtain⟨⟨h,gs,d,k,os⟩,e1,e2⟩:=zE.mp (boot_open (N:=40000) e Χ f w)
 obtain⟨Β,Β,Β,Β⟩:h=AKt AKu/\gs=BFT []/\d=boot_drawn/\k=boot_toks:=CY e2
 obtain⟨z1,z2,z3⟩:_/\_/\_:=by simpa only [Prod.mk.injEq] using size w
 obtain⟨⟨fl,S,c,ps⟩,r1,r2⟩:=BsD (hD w os);show Cc s t1 t2 zE.mp r2;show C5 u1 u2 AGb t2;show C5 v1 v2 AGb u1;show C5 y1 y2 AGb u2;show C5 y3 y4 AGb y2;subst v1 v2;have g1:topRun T0 p w 11 ann (30000+2) BCL (restOf (BFS p++ []) (BI p) (cB p) z AaT)=Ε s:=
  piece_app (by have:=segRun_of r1;show Da (hC w os);exact Ρ) (piece_nil t1)
 rw[UE] at g1;have g2:=go_top (hA w os) (piece_block (hB w os) g1);have g3:=topRun_mono (40000 - (12+ (1+ (30000+2)))) _ _ _ _ g2;unfold openEnds;rw[e1];show Cb (topFrom T0 p w 40000) A5n _=_;unfold topFrom S0;dsimp only;rw[z1,z2,z3];have g4:topRun T0 p w 11 ann 40000 BhK A1S=Ε s:=g3;rw[g4];show(APB Bkq (Ε s) Θ).EL _=_
 rw[y1];show Ct (Ε (BiQ openSeen,AyN)=_);rw[y3,y4])
#where
open _2 _3
theorem adr_of(h:isRef x=Κ):x=Ε (DJ (BQ (adr x))):=by
 show Dx isRef;show Of
 ·rfl
 ·show OZ
theorem ix{_:BI7 p}(h:allB l=Κ)(i:Δ)(e:nth l i=O0 p):p:=by
 refine pj (BsE ?_);clear e;induction l generalizing i with
 | C3=>rfl
 | AX b l ih=>cases b with
  | AC=>show OZ
  | Κ=>cases i with
   | Qb=>rfl
   | Qr i=>exact ih h i
theorem zx1{K:IL}{f:Ζ}{FD:Μ}{g:FS}(h:fnO K f FD=Ε g):∃oc od fd sl,AqK fd sl/\codeIn K fd.code FD=Κ/\fb keepIn Lv/\Hb fd=g:=by
 show Dx fnO;split at h
 ·rename_i oc od fd sl e;split at h
  ·show LP;show C5 q1 q2 BsF q;exact⟨oc,od,fd,sl,e,q1,q2,zF h⟩
  ·show OZ
 ·show OZ
theorem z8q{fd:FS}{x FD:Μ}{st:AT}{dV:AI}(h:Hb fd=fnOf x FD AIn tm yo dV BH BH BH Θ BH BH):
  fd=fnOf x FD AIn tm yo dV fd.kwdefaults fd.doc fd.pyModule fd.annotations fd.code fd.closureTuple:=by
 obtain⟨⟩:=fd;injection h with h1 h2 h3 h4 h5 h6 h7 h8 h9 _ _ _ _ _ h10;subst h1 h2 h3 h4 h5 h6 h7 h8 h10
 rfl
theorem fun_of{K:IL}{f:Ζ}(AGJ){st:AT}(h:fnO K f FD=Ε BEm):∃fd,AGC:=by
 obtain⟨oc,od,fd,sl,e,c,k,b⟩:=zx1 h;exact⟨fd,Bku (z8q b)⟩
theorem ykf{K:IL}{f:Ζ}(AGJ){st:AT}(h:fnD K f FD=Ε BEm):
  ∃fd T SQ dn SX,BcB FD/\ZH T=Ε (BDX #[BH]):=by
 obtain⟨g,h1,h2⟩:=BsD h;obtain⟨oc,od,fd,sl,e,c,k,b⟩:=zx1 h1;split at h2
 ·show LP;subst b;unfold Wl at q;split at q
  ·rename_i T hT;split at q
   ·rename_i t SQ xs dn SX eT;show C5 q1 q2 BsF q;show Rl (AGr q1);have q3:xs= #[BH]:=by
     split at q2
     ·rename_i ex;exact Bqo ex
     ·show fg q2 q2 q2 q2 q2 q2 q2 q2 q2 q2 q2 q2 q2 q2
    subst q3;refine⟨fd,T,SQ,dn,SX,Bku (z8q (dV:= .As T) ?_),eT⟩;have h3:=zF h2;have h4:(Hb fd).BFQ= .As T:=hT;generalize Hb fd=g at h3 h4⊢;obtain⟨⟩:=g;injection h3 with a1 a2 a3 a4 a5 a6 a7 _ a9 a10 a11 a12 a13 a14 a15;subst a1 a2 a3 a4 a5 a6 a7 a9 a10 a11 a12 a13 a14 a15 h4
    rfl
   ·show i9
  ·show i9
 ·show fg h2 h2 h2 h2 h2 h2 h2 h2 h2 h2 h2 h2 h2 h2
theorem z6k(BcK Wm):∃f,AqF/\fnO K f x=Ε g:=by
 show Dx Wm;show Of
 ·rename_i e;exact ET e h
 ·show OZ
theorem z58(BcK fnM):∃f,AqF/\fnD K f x=Ε g:=by
 show Dx fnM;show Of
 ·rename_i e;exact ET e h
 ·show OZ
theorem fun_at(BcJ Wm):∃f fd,AqF/\A_ x x st:=
 let ⟨f,e,h⟩:=z6k h;let ⟨fd,F⟩:=fun_of h;⟨f,fd,e,F⟩
theorem funM_at(BcJ fnM):∃f fd T SQ dn SX,AqF/\BcB x/\ZH T=Ε (BDX #[BH]):=
 let ⟨f,e,h⟩:=z58 h;let ⟨fd,T,a,b,c,F,d⟩:=ykf h;⟨f,fd,T,a,b,c,e,F,d⟩
theorem seen_cons{K:IL}{d:Μ×AT}{ds:AkB}(h:seen K AkQ=due AkQ):Wm K d.1=Bdg/\seen K ds=due ds:=yX h
def Qa:Sum Ψ Μ ->D
 | APl=> HI
 | Ů=> vy
theorem glb_int{K:IL}{h:AQ}{mg:ER}{x:Μ}{i:Ψ}(X:SI)(G:Al1)(q:intO BSB=Ε i):Lz K mg x ϫ:=by
 unfold intO at q;split at q
 ·rename_i j t e;cases (q);exact⟨HI,A2W,mg_of X G e,E4,fun F=>MY⟩
 ·show i9
theorem zm8{K:IL}:BgN (∃vs,IM vs xs/\∀F,NE (as.map Qa) vs)
 | [],as,h=>by show GN;exact⟨[],EB,fun F=>MY⟩
 | v::r,as,h=>by
  show BP'
  case AL i t=>
   show BBb;obtain⟨vs,q1,q2⟩:=zm8 (K:=K) e;exact⟨HI::vs,.AX E4 q1,BUk⟩
  case AO x t=>
   show BBb;obtain⟨vs,q1,q2⟩:=zm8 (K:=K) e;exact⟨vy::vs,.AX E4 q1,BUk⟩
theorem zyd:BgN (AWa as.length)
 | [],as,h=>by show GN;rfl
 | v::r,as,h=>by
  show BP'
  all_goals (show BBb;simp [zyd e])
theorem glb_tup{K:IL}{h:AQ}{mg:ER}{x:Μ}{as:EK AiM}(X:SI)(G:Al1)(q:isRef (nsIn K jS x)=Κ)(l:tupO K (adr BSB)=Ε as)(hz:D6 as.length):Lz K mg x (Ş as.map Qa):=by
 unfold tupO at l;split at l
 ·rename_i t od xs n sl e;split at l
  ·rename_i et;subst et;exact _3.glb_tup (mg_of X G (adr_of q)) e (by have:=zyd l;show BJ4;show Ω) (zm8 l)
  ·show fg l l l l l l l l l l l l l l
 ·show fg l l l l l l l l l l l l l l
theorem walk_ex{l:Ad7}{n k:Δ}{q:A2}{ZI:Υ}{XP:AVC (ER)}{YP:AVC An}{d:Arq}{Fx:D3 An IL}{CX:An ->Ln}{sp:IL ->Sp}{x:Μ}
  (hn:A8O) (hn2:D6 n) (hdf:BLP) (hr:BKi)
  (hY:∀(w:An) (h:AQ),YP w h ->∃K:IL,SI/\Fx w K)
  (F:∀(w:An) (K:IL) (mg:ER) (fa:Ζ) (h:AQ),BB (Fx w K) SI Al1 BOQ (∃fd:FS,(BW8)/\∀b:AQ,Ĥ b ->Afy b.Ns ->fU ATZ w K mg b (CX w) k fa fd [x] (sp K)))
  (hsp:∀(K:IL) (H:Hp) (a:Ζ) (ns:B6),Aj4 ->Only H ->Aoz ->sp K SB H A8y ſ)
  (hCX:∀(w:An) (H:Hp) (s:AD) (e:AI) (s' :AD),CX w [] H s (ſ) e s' ->EM):
  BXi:=by
 refine Att.BP hn hdf fun w MD ES mg mb fa o pm cd doc a vs ns G Y ho hd hcd hmg hobj hints E9 hg=> ?_;obtain⟨K,KX,fx⟩:=hY w _ Y;obtain⟨fd,hb,hF⟩:=F w K mg fa _ fx KX G.T.g hmg;exact yfo KX G.T.g G.T.b G.T.builtins G.T.nolimit hg hobj hints (zO E9 hn2) hr hF hb (fun H hO hS=>hsp K H a ns E9 hO hS) fun H e s' =>hCX w H ES e s'
theorem start_binds{K:IL}{fd:FS}{x:Μ}{st:AT}{f:Ζ}(F:A_ ZT ZT st)
  (h:Bks u AI (bindArgs (fnOf ZT ZT AIn tm yo BH kV doc pm an cdv ct) (H_ [u])=IO [(x,u)])) (s:AD) (u:AI):Bnp:=by
 show BLy;exact .of_eq (h kV doc pm an cdv ct u)
theorem holds{l:Ad7}{q:A2}{ZI:Υ}{β:CB}{obs:IL ->β}{good:An ->β}{n:Δ}{d:Arq}(said:l.wellSaid=Κ)
  (L:Bix l.row.prog Ay7)
  (hd:defOf q l.row.name=Ε (d,[])) (hp:l.row.prog.theDef l.row.name=Ε (d.params,d.body,d.scope)) (hk:kwWritten? d.params.kwonlyargs d.params.kw_defaults=Ε [])
  (ok:U_ (chainsOk q&&opensWell l.row.prog) (frees AtN&&l.row.within.isEmpty)) (hb:l.row.prog.bare) (hw:l.row.toRowW.promised) (wr:MO l.row.writes)
  (walk:WalkO q ZI BJu (fun w h=>∃K:IL,SI/\Abo) AtN d [] Ax8):l.Holds:=
 holds_law said fun k1=>holds_open (XP:=L3 _ KI) (YP:=fun w h=>∃K:IL,SI/\Abo) L (fun _ s e=>(ET (yox A6 n) e)) (fun _ _ _ hz k=>(YO K x e hz ⟨K,x.keeps k,e⟩))
  (JP _ Sj) (fun _ _ _ _ _=>Sj) hd hp hk (YN s (recFacts_of Β)) (Y3 wr) k1 ok hb hw walk
#print _Hd
namespace _3
open II Os J' _2
def S5(g:vM)(tc:TT2)(t:cW)(Γ0:G2)(x:D)(P:Ai0):Ι:=Bhw (t A7 (YN ds (P [ds])) j9)
def wG(EF:Ŀ D (yb D)):Ŀ AU (yb D)
 | [],P=>ϔ
 | SK,P=>EF x fun ys=>wG EF xs fun zs=>AyF
def S6(ds:AU):T:= .B_ A0U
def J5(BA:Δ)(FU:DD)(ti:cW)(g:vM)(tc:TT2)(t:cW):qt:=We ti ds (wG (S5 g tc t (qX BA FU AF)) ds fun ys=>(FX (E3 A8L)))
def fX(K:AB)(t:cW):TE:=BBG upF
theorem ylq(gr:tz)(h:AEt)(e:AHy)(ld:oP):sv:=by
 cases q:F' a with
 | Θ=>rfl
 | Ε w=>
  show Ah9 (gr.n a w q h)
  ·show AXP e
  ·rw[e] at z;show L6;subst e';exact BHK
section
variable{F0 H0:Hp}{BA:Υ}{FU:DD}{g:vM}{tc:TT2}{t:cW}
theorem z39(oS){σ:St}{Γ:G2}{J:It}{Hx:Hp}{ds:AU}{A4:Ζ}{P:Ai0}{Q:APz}(R:GU)(hJ:A_H J)(hx:vj Hx)(ha:UT A4)
  (h:wG (Apl S5 t) ds P)
  (fin:∀ys F' H' as,vS AaA FV (A8X).Sc (∀a∈A4::as,sv/\â) (ϋ (E3 A8L) ϧ A8X) (P ys) A4J):
  Bid fX t:=by
 obtain⟨R1,e1,e2,e3,ap⟩:=Ip (ds:= []) (vs:= []) R ha IU
 have hx1:LG Hx Axs:=BaR
 have xa:BZU:=BgQ
 refine Aas vs H' N3 A0o (∃F' ys as,AaA/\FV /\AQP /\AHi Hx /\A9n/\A3'/\ (A8X).Sc/\ A6r/\AbC A8L as/\A0J/\wG (Apl S5 t) (ds.drop i) BQP) ⟨N3,C_,LU,F,[],[],R1,lP,NO (by(show Î ha;exact e)),hx1,e1,e2,C_,fun a h=>by(show OZ),Aww,NY,CY h⟩
 rintro i m vs H' ⟨Β,hi,F',ys,as,R',sF,sH,hx',ha',Rv,nd,hn,rs,lv,hc⟩;have hz:=hJ.1;refine DM ha' Τ
 obtain⟨hstop,hgo⟩:=BiV;have YZ:A4∉as:=AJB;by_cases A8:Aiy
 ·obtain⟨go,yl⟩:=hgo AJd (zZ A8);refine .B0 ⟨go,Τ,BUx⟩
  show A'7 F2 H2;rw[ALz A8] at hc;have R2:=ATk gr;refine⟨F2,H2,F2,Aax qX Γ,_,AJd,Aax z2c R2,rx,hc,Bjx⟩;refine BkF;have sV:BUI:=BM2;have KL:∀{F5 H5},A'A ->AnP (MU F5/\â):=fun g5 a h=>(YO u e ld (BZF h) ⟨ylq g5 (AIc h) e ld,A4S⟩)
  cases b with
  | AC=>
   rw[dQ] at q4;refine⟨AZq,Τ,Β,A8,F4,ys,as,ATk sV,Ĳ sV.f,sH.trans sV.h,BXS,BQi,Bdi,nd,KL sV,aI sV.f _ _ _ (fun a _ u e=>sV.h a u e) rs,Τ,?_⟩
   simpa using q4
  | Κ=>
   rw[E2] at q4;refine⟨F2,H2,F4,Γ4,_,R4,q4,fun es Γ5 F5 H5 a us R5 s5 p1 p2 p3 rv apa q5=> ?_⟩;have Dv:A'A:=BM3;have a5:=Dv.h _ _ ha';have f5:=ztd Dv Rv ha';show EW Y0 (MU H') (gr.h.free p3) Y4 (a≠A4) (AaY ha' Y0 Y0 Y0 Y0 Y0 Y0 Y0 Y0 Y0 Y0 Y0 Y0 Y0 Y0 Y0) aas (a∉as) (A1 (by
    obtain⟨u,e,_⟩:=BZF z;rw[e] at Y0;show AE Y0 Y0 Y0 Y0 Y0 Y0 Y0 Y0 Y0 Y0 Y0 Y0 Y0 Y0)) a0 â (sH.free Y0);refine⟨a5,AZq,Τ,Β,A8,F5,ys++ [es],as++ [a],?_,Ĳ Dv.f,NO (by(show Î ha;exact Dv.h b u (sH b u e))),Kj,gQ,f5,?_,Kk,?_,AjN,?_⟩
   ·have R6:=ATk Dv;refine⟨BO' R6.gr.n,R6.len,cf j sl,R6.ap⟩
    show BV6
    ·show Î e3;show r9 R6.gr.h
    ·show X9 p1 p2 (R6.sl j sl e);show AqI (ĉ (Po (FT p2 hc).1 u q)) (c≠A4) (by subst z;exact ap j BbE) q
   ·show AJl BR5;exact Dv.h b u AxI
   ·rw[<- JJ];exact Br5 (AEg nd (fun x hx y hy e=>by
     rw[BoR hy] at e;rcases Cn hx with z | z
     ·exact Y4 (BsE z)
     ·exact aas (e ▸ z)))
   ·rcases Ix hb with hb | hb
    ·exact KL Dv b hb
    ·show ik hb;exact⟨p2,a0⟩
   ·rw[PM];refine Yr (aI Dv.f _ _ _ (Ak5 ?_) rs) (Ys ?_)
    ·show AJl (YZ (U' z hb));show r9 Dv.h
    ·exact⟨a,us,[],Β,Β,U2 Y4 p1,Pu rv⟩
   ·simpa [x5] using q5
 ·show A3f
  refine .DV (A6Q (fin ys F' H' as R' sF nd (qf h ?_) (A3 ⟨A4,vs,as,Β,Β,ha',rs⟩) ?_))
  ·rcases AEk with Β | h
   ·exact⟨Rv,ha⟩
   ·exact hn a h
  ·rw[Bqj] at hc
   simpa [wG] using hc
theorem yfk{X:Cx}{elt tg Nw:AJ}{ifs:DA}{sc:Oy}{N' :Υ}{AA:AS}{ti:cW}(S:AR6)(hc:Fs)(hi:Apx)
  (hg:Abh) (ht:Abi) (he:AfE QF elt t)
  (hn:AYy:=by rfl) (AF'):AIh nK (J5 n FU ti g tc t):=by
 subst hn;rintro z E cx Ν s σ H Q I ⟨F,Γ,P,R,h,k⟩;rw[show eK nK (kP z).BI=BHs nK sc BO _ A8J AC AYd from BoW];refine BY3 (tc:=tX AG tc) (te:=fX AG t) (Q:=Q) Axe (pig hc APe) ?_ ?_ ?_ Β hs I ?_ ?_
 show ArU
 show AmP
 show AmQ
 ·refine ki (fun ds AF F1 H1 J Hx R1 s1 hx hJ h1 A4 ha=>z39 R1 hJ hx ha h1 fun ys F' H' as R' sF nd hn tr hp=>k _ AF F' H' _ _ R' AkL nd (qf h (Axt (AIc h) A4S A4S)) tr hp)
 ·show ArP;exact⟨m,hn,AxF ⟨Ait,H',I5.turned (t' :=s5.toks) (it:=C) (AHf AxP) c1 c2 Aw4 c4 c5,Β,q5⟩⟩
#where
inductive zp (BlO vN):Ι
 | mk:∀x F_ F ds Pd Ex,G_ (vs= .As x::F_) (BVn) AOD (F x=Θ) (BcS (∀t as F' H3 v dx H',vS (Gr F H F' H3) xw A6r (TR K F' H3 t v as) (Pd t) (H3 dx=Θ) (Bi1 (.xd AmD) H3)) zp)
def Y5(BXT vN):Sp:=Abg (AyU zp)
section
variable{P:A2}{w:An}{K:AB}{mg:ER}{DI:AQ}
theorem z9s(AGJ)(ArM){k:Δ}{sp:vN}{C B:Ζ}{fl bn:Μ}{E8:AJ}{p1 p2 p3 p4 p5 p6 p7 p8 p9 p10:AS}(Fn:AGC)
  (hbd:yD st= [.ALK (AkN AlP fl p2) E8 p3,.AJ (AMO (yn (LJ bn p4) K0 p5) Bg2 p9) p10]) (S:ARe AxU)
  (hc:AOg) (hB:JH K B) (hmB:gN bn B) (hn:ADj fl) (hN:HR N 0 Aua) (RM:A5x) (len:Abx)
  (hdb:ì bn)
  (Ĭ:ASS (∀F0:Hp,
   Gl cS bn/\
   AHY (AGm E8 (DJ (yn AlP fl p2)) p3.line (cS).BI)/\
   (∃pl,yce bn p4 p5 p9 Bg2 (cS).BI pl)/\
   ∃tn,QN cS F0 H E8 tn/\
    BfK (tn (iK N AWx) BTY fN))):
  BVs Y5:=by
 show AKT;refine Aat H Q E Bi B2
 ·obtain⟨x,F_,F,ds,Pd,Ex,e,_,_,_,rs,hs,_⟩:=Bi;show A'_ e Aa6
 obtain⟨a,F_,F0,ds,Pd,Ex,ev,hx,sF,fx,rs,hsp,hQ,hE⟩:=B2;subst ev;obtain⟨hgB,hsw,⟨pl,EE⟩,tn,hte,hq⟩:=Awr;have cx:Abt:=by
  refine⟨fun Ν σ Γ F H1 s1 e s' I R hx=> ?_,ART⟩;refine ASU;show Ab1;exact Ab2
 rw[hbd];have J6:∀q,PE cS (AIC q) (QK 0):=Tb (me qR hN RM);show BD (ë (zop (z8o hc hn (J6 p1) BOI hsw) (zvd (zzl (ydq hc hB hgB hmB (Mv (J6 p6) (Mv (yki hc hn (J6 p7) Β) U5)) hdb Β Β EE))))) (Bjq (fun t AF F1 H1 v as R1 s1 nd hn tr hp=> ?_))
 obtain⟨h0,hp⟩:=hp;show X9 eo ro (AEm 0 h0);show GT u ru ro;subst ru;refine⟨EO,eo,a,Β,Ai9 hx,At dx n1 n2⟩;refine⟨EO,eo,EO,eo,a,dx,_,v,Β,A3Y,gQ,DT ī,?_⟩
 refine⟨a,Ε dx,v,Β,A3Y,?_⟩
 refine hQ t as F1 H1 v dx _ R1.gr nd (NJ ⟨AD',AVz hn⟩) tr hp n1 n2 gQ (ϒ (bL n2) gQ) (BYc (bL q1))
#where
def zzq(C:Ζ)(fl:Μ)(sp:vN)(t:cW):aH:=A5l (AZC BfB)
section
variable{X:Cx}{F0 H0:Hp}{e:AJ}{es:DA}{AA np GW:AS}{t:cW}{x fl:Μ}{C f:Ζ}{fd:FS}{ps:Υ}{k:Δ}{sp:vN}
theorem z4c(hh:Fs)(hg:J_)(hm:AKI)(hC:Ý)(hi:Bfq)(hf:BPC)
  (Fn:Bau Y5) (hr:AKS) (hb:AJI) (ha:SH)
  (hd:Fr:=by decide) (Akv):
  Bcr:=by
 rintro z E cx Ν s σ H D I ⟨F,Γ,D2,R,h,k'⟩;refine z8g (K:=AG) (C:=C) (f:=f) hC.cls BQB ?_ hi (AGr hf) (EH GK I hg hm ϰ hd)
 ·rw[he];show MO (false || (backTo cpos (starEach es X.env)).any (·.1))
  rw[EE];rfl
 ·have Ap:=ha z E cx GW Ν s σ H (fun vs H1=>∃F1 AF ds,AU'/\Avo/\D6 N3/\BfB) I (Ä ⟨F1,AF,ds,R1,r1,h1⟩);rw[he] at Ap⊢;refine A6Y Ap (fun us s2 ⟨vs,H1,I1,r,F1,AF,ds,R1,rs,E9,q⟩=>⟨Β,by show Ct (D6 o6);rw[<- Sf,<- mv];exact E9,xy,?_⟩) Aa5
  have ge:AyL Aiq=Ε BXf:=by
   have:=z9 (ABm AVZ) (o:=AVh) Β;show Da UD;exact Ρ
  have kp:BSx:=Aj3;generalize hh2:(ABm AVZ).UC AVh=h2 at ge kp⊢;have n1:Ð Aiq:=AmF;generalize hea:BJQ=a at ge n1⊢;have hle:AG7<=a:=Τ
  have I2:ADR AOx (Aoi h2):=Bg6;have sH:LG H1 AOx:=OH (Avm n1)
  show EW f1 (MU F1) (by
   cases q:F1 a with
   | Θ=>rfl
   | Ε o=>show BFJ) u1 Bb_ BbY hs (Y5 AG C fl sp Al' AOx (bv H' (v= BS/\Agn /\∃p u F' as tr,Hk H' (Afs p)/\H' p=Ε (.xd [(fl,u)])/\p≠a/\Ð p/\F' p=Θ/\sv/\rh F' /\AHi F' /\ (cy (LM F') (RF F1) (vW H1 b o))/\xw/\ (bS as (RF F'/\AYE))/\a∉as/\TR AG F' H' tr u as/\Bni)) (fun C' M7 H' =>∃x F',E AF x/\Ax5 /\BCs)) (by
   refine⟨a,vs,F1,ds,_,_,Β,gQ,A3N,f1,rs,q,?_,BfS⟩;intro t as F' H3 v dx H' gr nd hn tr hp n3 n4 e1 e2 e3;have fa:sv:=by
    cases q:F' a with
    | Θ=>rfl
    | Ε o=>
     show BW9 (gr.n a o q f1)
   have S7:NL as (NV/\b≠dx/\AYE):=FM (by
    have h0:=wS;have ba:NV:=AaY gQ h0 h0 h0 h0 h0 h0 h0 h0 h0 h0 h0 h0 h0 h0 h0
    rw[bL ba] at h0;obtain⟨u,e,_⟩:=Ad_ _ _ _ tr b hb;exact⟨ba,gR e n3,h0⟩)
   have J7:cy NV (LM H3) (LM H'):=AI5 ba (CL (e3 b ba (gR e n3)) e)
   refine⟨Β,fun b o eb=>J7 b o Afw (gr.h _ _ (sH _ _ eb)),dx,v,F',as,t,e1,e2,n4,(sH.trans gr.h).eD n3,gr.g.free n3,fa,NA,OH (J7 b o (gR e fa) (gf gr.g)),bP e (Ad9 sH (gr.n b o e n)),nd,Ü AD' (AWg S7),AEW ((S7 a hb).1 Β),ABe JY t v as (Ak5 (J7 b u (W' S7) e)) tr,hp⟩) hl (AIo AOk) (by
   have e:=AV1 hs;rw[GV,<- Sf,<- GV (a:=AjJ),e])
  have hbs:=Bh7
  show AGF;refine ARl (BEn AH4 AOk) A'E BRy;cases r' with
  | kH e' =>exact ATg Ν σ AF F1 H1 s2 e' s' I1 R1 (zmw hq' Β u1 kp)
  | ok Yg =>
   cases Yg with
   | ret u=>
    obtain⟨v,H',os,Hb,un,D7,rv,ev,sS,p,pu,F',as,tr,ea,ep,pa,p1,fp,fa,sF,sFH,nT,nd,oL,aas,rG,hE⟩:=hq';subst ev;refine CI rv;have I3:ADR H' s' :=Bkb
    obtain⟨t0,gx⟩:=Vt D7 ea;refine⟨_,t0,I3.kIn,gx,Β,Β,?_⟩;have Cj:=Ato un;have nH:BRg:=Avn (by
     show AnC
     ·simp [hb] at eb
     ·exact BYC)
    have yH:BZt:=BWQ
    have nfr:gy H' (b∉ib):=XN eb hm (by
     have:=I3.stkFree b hm;show Da eb;show L9)
    refine BXA s' ⟨a,NI,AhF,BX5,Ε p,Β,os,Hb,?_,?_,?_,?_,?_,.pay C [fl] [tr],F',hE,⟨sF,?_,?_,nT⟩,Β,p,[pu],as,Β,Bdx,Β,fp,p1,nd,oL,Ys (ABe JY tr pu as (Ak5 (yH b u (FG (aas (z ▸ hb))) e)) rG)⟩
    ·refine⟨Cj.keep,Cj.slot,IE b o eb n hx,Cj.there,APu xs,ť u eb,APu ps⟩
     show BkZ
     ·exact BTo
     ·exact Bay
     ·show Ee more q Cj.o9 b ps eb;exact⟨more,AhC q⟩
    ·intro b u eb;show Aq1;refine Bjf (AUA q q)
     ·rw[hc,ea] at q;show L'
     ·rw[hc,ea] at q;show L'
    ·refine⟨Pp o BLh,zj6 _ zY,?_,BAa gx APm⟩;exact BHQ (as:=a::ib) I3.stack BdC
    ·intro b o eb n;show AAL (A6b A0)
     refine BQI;rcases Cn hm with Β | hm
     ·exact BUb eb
     ·exact n hm
    ·intro b u eb;show Aq1;show C5 o eo zxz (D7 b u eb);refine BRk;show BhH
    ·exact AnB (gR eb fa) (sFH b u eb)
    ·exact AnB Afw (sS b u eb)
   | KE=>show Ϩ
   | brk=>show Ϩ
   | Nn=>show Ϩ
structure S8 (BcU vN):Ι where
 ex:Ba0 (BVr Y5) AIO
theorem z5z(hh:Fs)(G:BgR S8)(hr:AKS)(hg:J_)(ha:SH)
  (hd:Fr:=by decide) (Akv):
  Bcr:=by
 obtain⟨f,fd,h1,h2,h3,h4,h5,h6⟩:=x0;exact z4c hh hg h5 h4 h2 h3 h1 hr h6 ha hd he EE
#where
section
variable{X:Cx}{Ν:dX}{σ:St}{H:Hp}{s:AD}{A:BM}{E:dO}{a C dx:Ζ}{f:Μ}{y v:V}{u:AI}{fs:n_}{oe:Obj}
theorem yfb(I:AW)(e:OG AHc)(eo:A3P)(ed:Pc dx AxJ)(c:Ý)(n:VI)(l:ARP)
  (h:BBq):BCG:=by
 obtain⟨hx,⟨o,vs,ho,hc,hd,_⟩,_⟩:=(AIP a AHc a e);rw[hx] at ho;show AE ho ho ho ho ho ho ho ho ho ho ho ho ho ho;show TL mA ns r A9I;show BBX
 show AFn;exact z7y eP c n hx hc (by unfold W.notCls;rw[hd]) eo ns hu A8I A'q
def S9(C:Ζ)(f:Μ)(ta:TE):TE:=ϛ (∃a oe dx fs v,YE/\AJc AHc/\A3P/\BUq/\ARP/\Q v H1)
theorem z3j{e:AJ}{AA:AS}{ta:TE}(BkI):BA' (S9 C f ta):=by
 show DH Q;refine zy6 hb (bV v_ AxL);obtain⟨x,H1,I1,rx,a,oe,dx,fs,v,ex,ea,eo,ed,l,q⟩:=Bi;subst ex;show Y';exact yfb I1 ea eo ed c n l BDh
#where
inductive RN where
 | pl (d:D) | nt (ts:GS)
abbrev SpW:=A9g (F6 RN)
abbrev TRN:=ASE RN
def abT(APF)(t:TRN)(E:XW):TE:=AUd (∃F Γ P,GU/\t Γ P E/\ (Ag1 d v u7 (.pl d) Ų)/\
 ∀ts A9 F' H' p vs as,AH' ->FV ->F' p=Ε (KP vs) ->BB xw BZj (AbC ts as) (P (.nt ts) A9) (NM p H'))
def QRN(VM)(e:AJ)(t:TRN):Ι:=AZ1 abT
theorem isV_of{o:BJc}{s:KA}(h:isV o s=Κ):o=Ε (.val (Sm s)):=by
 show Dx isV;show Of
 ·rw[AGr h]
 ·show OZ
def pL:aH:=ſ
theorem Tc(AXW){st:AT}:ay st pL:=fun _ _ _ _ _ _ _ _ _ h=>by obtain⟨_,_,_,_,h,_⟩:=h;exact ALq
mutual
def szT:T ->Δ
 | .JE _=>0
 | vv=>J8 ts+1
 | AnV=>J8 ts+1
 | A5b=>J8 ts+1
 | A7R=>J8 ts+2
 | AJf=>0
def J8:GS ->Δ
 | []=>0
 | V'=>szT t+J8 ts
end
#print _3
namespace _Hd
open II AKr Arj J' _2 _3
#print _Hd
namespace _3
open II Os J' _2
def Itm(BhZ):It:=
 BbK (∃c k v,x= .As c/\UT c/\H' =upd H c BOV/\FL AH (k,v))
theorem z52:BMw "dict_itemiterator.__iter__":=
 BPd
theorem zta{it d:Ζ}{i n ep:Δ}{ok ov:AI}{Q:dO}{s:AD}{P:A2}{w:An}{A:BM}{E:dO}(hit:IsItemIter A6 it d i n ep ok ov)(h:NM it s):BnT:=by
 have hT:AOw it BGS :=OP hit;refine BAO BsG BsG z52 PySem.F.args_dict_itemiterator_iter_1;exact z7 ⟨_,Β,BGS,_,hT,PySem.F.slot_dict_itemiterator_next.lookup,h⟩
theorem z4a(BBV)(Bki):Turn P w K A_4 BNZ [it] it (UU h (∃ok ov,IsItemIter h it a i Ġ ep ok ov)) where
 mem:=C_
 obj:=AKb (by
  show AKC
  show Ϣ ok ov st;exact AaZ e)
 KL:=AWO (YO ok ov e st ⟨ok,ov,k it A0 _ e⟩)
 UA:=by
  show dk;show SV;show AbF;show TL ok ov st st;show Aq_;show Ap6;obtain⟨⟨k,u⟩,hw⟩:∃p,AOY p:=BQK
  show AIM RX kv hw;have A8:∀c∈ [it],P6 c:=ĉ (by
   show FB (c=it) (CY hc)
   exact zG st)
  refine wpAny_pyNext_items_item st hd hw fun Ap h1 hkey hit ht hsz k1=>(BCt wpAny_letOwnedTupleGo_items hit);have G7:A_L it:=sb;have rk:HP (kV k) Ap:=by
   rcases FN hkey with ⟨j,t,Β,Β⟩ | ⟨x,t,Β,Β⟩
   ·exact Ċ
   ·exact Ċ
  have I2:BOm BOV:=
   zy0 (fp:= [it]) (AY:= [Ap,u]) I (BPW (k1 c o h_ e))
    A8 ((G7.2 _ (ALN (A8 it A0))).EC ht) (BAl rk rv) AnZ hf
  exact⟨Ais,_,I2,Β,⟨_,k,v,Β,Ati,Β,hv⟩,ET _ (CL hl e2),ĉ (Bcj A8)⟩
 K_:=by
  show dk;show SV;show AbF;show TL ok ov st st;show Aq_;show Ap6;exact wpAny_pyNext_items_end V_ st hd AjB (BLw [it] (AHf (eb b o h_ e)))
 QU:=AgQ (YO ok ov e st (zta e h))
def Td(te:TE):TI:=A9r (∃a o AH,Mb/\AJc Ê/\ (AU4 ->R BNZ H1))
theorem ye0{X:Cx}{e:AJ}{te:TE}{KM GW:AS}{elts:DA}{x1}{pt:AS}(he:i4)(LE:BLT:=by rfl)(PF:à:=by rfl):
  PI X AhL BLr (Td te):=by
 show DH R;refine Bog LE PF (bV v_ (n5 Bi));obtain⟨x,H1,I1,r1,a,o,AH,ex,ea,q⟩:=Bi;subst ex;show A6Z;have PJ :Rd H1 a PU:= .B0 (cz ea);show BEZ PJ;refine⟨xi,"dict.items",BHG,BsH,PySem.F.type_dict_items,hT,hN,Bnn⟩;obtain⟨ho,hz,_,ws,kv,o',es,ep,h1,h2,h3,h4⟩:=(ACU H1 Adc a Ê (I1.hok a _ ea));rw[ho] at h1;show BEy;have hm:AnL:=BCX ho;refine Ad6 BsH hT PySem.F.entry_dict_items (PySem.F.args_dict_items_1 _) (meets_dict_items AIE a hsm) (CI ⟨ws,o,es,ep,ho,h2,h3,h4⟩);have vw:A1q (AUg (bi BsI #[EO]) IsItemsView):=nI;have I2:AJY (AWm BPI):=AEQ;show BD (wpAny_pyIter_items (s:=AWm BPI) vw AzN ?_) ⟨_,[_],_,_,_,Β,Auf I2.kept É,z4a a _ o AH ep ⟨es,h3⟩,?_,Kk,q hz⟩
 ·rw[AT2];exact ET _ RR
 ·show Rl (zR.mp hb);exact I2.fpOk HT (I2.hok.fresh HT)
def rA:EA ->AU ->AU:=Ļ fun k x=> .DZ [lU k,x]
theorem z9r(Bk0):AZ3 (Itm a o AQn) (rA ks xs):=by
 have hlz:De UH vs=Sk:=BZW
 have l1:=lQ rs;have lp:RO rA ks xs=min Sk B1:=ATt;refine AHm (ASR BRh)
 unfold rA at hd;rw[BIC] at hd;cases e1:ks[i]? with
 | Θ=>show LO e1 hd hd hd hd hd hd hd hd hd hd hd hd hd hd hd
 | Ε k=>
  cases e2:xs[i]? with
  | Θ=>rw[e1,e2] at hd;show Ab4
  | Ε x=>
   rw[e1,e2] at hd;show AE hd hd hd hd hd hd hd hd hd hd hd hd hd hd;show Aaj e2;have hik:i<Sk:=Pl e1;refine Ϧ Axn Τ Aag
   obtain⟨c,k2,v2,Β,hc,Β,z⟩:=z;have z1:=(Vx z).1;have z2:=(Vx z).2;rw[e1] at z1;show AE z1 z1 z1 z1 z1 z1 z1 z1 z1 z1 z1 z1 z1 z1;rw[hv] at z2;show AE z2 z2 z2 z2 z2 z2 z2 z2 z2 z2 z2 z2 z2 z2;have gr:=ALo (o:=AeK [kV k,v]) s3 hc;refine ë gr;exact Y1 c AFO (qF (ym7 k) (qF ((ATj s2).up NA) IU))
def z57(we):cW:=AlD A5Q (FX (rA ks xs))
section
variable{X:Cx}{F0 H0:Hp}{e:AJ}{te:cu}{elts:DA}{KM GW pt:AS}
theorem ydr{x1}(he:VT)(LE:BLT:=by rfl)(PF:à:=by rfl):A9Y BLr (z57 te):=BfJ ye0 (Af2 B2 (by
 obtain⟨F,Γ,P,S,q,k⟩:=B2;refine⟨F,Γ,_,S,q,fun d AF F1 H1 v R1 s1 r h1=> ?_⟩;show AEc
 ·obtain⟨a,o,vs,Β,ea,EN,rs⟩:=r;exact⟨a,o,_,Β,JI _ _ ea,A3v (z9r ea EN rs hz)⟩
 ·show vE))
#where
def J9(C:Ζ)(i:Δ)(f:Μ)(j:Δ)(tv:cu):aH:=AmI (∃k as fs ts ks xs,Aow k/\Aht/\AWT (.dic ks AJw)/\Ak7/\
 ARA as (AXQ (.dic (kY ks k) (AD_ A7M))))
section
variable{X:Cx}{F0 H0:Hp}{E8:AJ}{AA Ĺ Ed I_ :AS}{x f:Μ}{C:Ζ}{i:Δ}{tv:cu}
theorem yez{y:Μ}{j:Δ}{yp:AS}(hu:VC)(hc:ia)(hn:VI)(kT:AoY)(hN:HV)(hv:OV)(Sg:ARf)(hv2:Apn)
  (Bh5)
  (hb:AnM:=by rfl)
  (hs:AQx AaE A1c:=by rfl):
  AOq (AIZ AaE A1c) (J9 C i f j tv):=fun z E cx=>
 vo (AZz Xc BAM Aq9 kT hs) (AZm Jf Jf Dz (by
  obtain⟨k1,as,fs,ts,ks,xs,g1,e0,hl,hsz,hnx⟩:=Dz;obtain⟨o2,e2,v2,Β,r2⟩:=AEm j g1;have ev2:=Hg r2;subst ev2;obtain⟨a,dx,vs,v0,bs,b1,cs,b2,e1,Β,ea,hv0,Β,nd,hn',rt,back⟩:=YT R1 e0 hl;obtain⟨c,ws,ds,Β,Β,ec,EN,rl⟩:=rt;show ApV rl;refine⟨EO,e1,a,C,dx,_,.As c,Β,ea,hc,hn,hv0,kV k1,e2,c,_,Β,vV.k (k:=k1) ec (Ahc EN hsz),?_⟩
  rw[zuh EN];refine Op (Aen e0 e1 (FA (gW (AoM AmB) g6 c) A6o) (t:= .tr AmB (AXQ (.dic (kY ks k1) (AD_ (gU ks xs k1 d))))) ⟨_,Β,nd,hn',?_⟩ AYK) s1 hnx
  refine A9L (AII ?_)
  ·have hbc:b≠c:=A1 (by
    subst z;show Ans;show Aqm;rcases Cn hb with Β | hb
    ·exact n1 A0
    ·show AKf
     ·exact n2 A0
     ·have p:=At9 n3;show BTR)
   rw[bL hbc];exact q
  ·exact⟨c,_,[],Β,Β,gQ,zzd EN,Pu (zpf rs rd)⟩))
#where
theorem ych{H1:Hp}(S:Aiz)(I:AW)(hS:Aha (∃AH o,Ahh/\mB/\NC H1 Ê))(hN:br (¬S b) H1 H):AJY s:=by
 have ne:sB ϱ (Aqw) (MT H1):=ARK (CL (Als (by show AoI;rw[e] at q;show L';exact n _ Β)) q)
 refine I.un (h' :=A6) (t' :=Mm) ⟨fun _ _ q _ _ _=>q,BYi,IE b ob q n _,A_f ⟨ob,q⟩,A4I,BWm,Pp ps (CI #[])⟩ ut
 ·rw[Als (by show AoI;rw[e] at n;show AE n n n n n n n n n n n n n n)];exact n
 ·exact A_U
 ·exact A_U
 ·rw[A_U];simp
 ·have st:BXe H1:=iA (k.stay Axp (hZ z (ne c _ z Axq)) fun c xs z=>ne c _ z Axq)
  by_cases hb:S b
  ·obtain⟨AH,o,e1,e2,e3⟩:=ADk;rw[e3] at q;show L';exact⟨e2,st (Iq b _ e1)⟩
  ·rw[Aj0] at q;exact st (Iq b u q)
theorem yb3{H2:Hp}(S:Aiz)(I:AW)(hS:Ba8)(hN:br (¬S b) H2 H)(n0:Aha Bl1):OE H2 s:=by
 have ne:sB ϱ (BSd) (MT H2):=ARK (CL (hN b (A1 (by show AoI;rw[e] at q;show L';exact n _ _ Β))) q)
 have nn:AhZ (RF H2):=fS q (CL (Als (by show AoI;rw[e] at q;show L')) q)
 have st:BXe H2:=BXj
 refine⟨xF,I.os,Ħ,⟨AsJ,AsM,Anv hx (nn b (BRn q hx)),BGG,Pp xs (ne b _ (AdR b xs q) (Lw z AMU)),XN w q ?_,OF ps q⟩,pM,jv,nn _ pS,fun x c q=>nn c (AGi x c q),ic,ut,AGj⟩
 ·rw[Als (n0 b z _ _ q)];exact AS0 b u w q
 ·show Ee m k AdS b ps q;exact⟨m,ne b _ k (Lw z AMU)⟩
 ·show DE h1 h2 h3 AGk p hp;exact⟨h1,nn _ h2,h3⟩
 ·by_cases hb:S b
  ·show A7i;rw[e2] at q;show L';exact st (Iq b _ e1).2
  ·rw[Aj0] at q;exact st (Iq b u q)
mutual
def ou:T ->D
 | dA=>d
 | vv=> .B_ (qL ts)
 | ą=> .dik ks (qL ts)
 | AFY=> .j7 ks (qL ts)
 | AFz=> .obj C fs (qL ts)
 | .kt k=> .DZ A6O
def qL:GS ->AU
 | []=> []
 | V'=>ou t::qL ts
end
section
variable{K:AB}{F H F' :Hp}
def rB(H F' :Hp)(a:Ζ):Ι:=Af7 ((∃o AH,u= .dK AH/\Hk F' ACz)\/ (Aqw)/\AlA)
theorem rB.d(h:Aps)(e:AJp):∃o,Hk F' Ê:=by
 rcases h _ e with ⟨o,_,_,q⟩ | ⟨n,_⟩
 ·exact cz q
 ·exact(n _ Β).WI
theorem rB.o(h:Aps)(e:AHy)(n:Aqw):AlA:=by
 rcases h _ e with ⟨o,_,q,_⟩ | ⟨_,q⟩
 ·exact(n _ q).WI
 ·exact q
mutual
theorem TR.repN(f:FV):BD' Aps (AMf (ou t) v)
 | dA,v,as,k,h=>BYq
 | vv,v,as,k,h=>by
  show AFk vs bs e1 Β e3 h;exact⟨a,vs,e1,ACa (A7T e3 AIs),A2q⟩
 | ą,v,as,k,h=>by
  show ARa;show C5 o e (k a zY).d e3;exact⟨a,o,vs,e1,e,e4,A2q⟩
 | AFY,v,as,k,h=>by
  show ARa;exact⟨a,vs,e1,.DV (A7T e3 AIr),e4,A2q⟩
 | AFz,v,as,k,h=>by
  obtain⟨a,dx,vs,bs,e1,Β,e3,e4,e5,e6,h⟩:=h;exact⟨a,dx,vs,e1,A7T e3 AIr,e5,BDM Aeq⟩
 | .kt k,v,as,_,h=>by
  obtain⟨_,a,e1,e2⟩:=h;exact⟨a,_,e1,Akg f,Xl k⟩
theorem Aeq(f:FV):BEG Aps (AUh (qL ts))
 | [],vs,as,k,h=>JO EJ
 | V',vs,as,k,h=>by
  show An5;exact⟨v,us,e1,BCU TR.repN,BDc Aeq⟩
end
#where
def Y6:GG ->GG | .ow ds=> Pf ds | .tr _ t=> .pu (ou t) | .nt _ ts=> .pu (Ş qL ts) | .xe _ C _ _=> BQU | s=>s
def oR(Γ:G2):G2:=Γ.map Y6
def LDn(u:HO):Ι:=oP\/∃o AH,u= .frz o PU
def dD(Γ:G2)(σ:St)(H:Hp)(b:Ζ):Ι:=XE/\∃AH,Ahh
open xx in
theorem ydg(Axl){σ:St}{Γ:G2}(R:GU)(ob:Ζ ->Obj):∃F1 H1,Ţ/\BcR/\ (Bab)/\ (BUY)/\
  (Be')/\A_F:=by
 let H1:Hp:=dP (if bc then BZm else H b)
 have hS:Be':=FM (by
  show hG AH hb.2;refine DM AH e;show(B3 bc BZm (H b))=_;rw[C9 hb,e];rfl)
 have hN:A_F:=Azy
 let F1:Hp:=dP (qq AOJ F Ax2)
 have fo:AiC (∃u,ϱ/\oP):=FM (by
  obtain⟨j,s,o,e1,e2,hs⟩:=id hb;obtain⟨o',e3,r⟩:=ei j _ e1;rw[e2] at e3;show BE_;obtain⟨h1,_,u,h2,ld⟩:=FT r hs;exact⟨h1,u,h2,ld⟩)
 have s1:Ţ:=BeF
 show EW at1 (br XE F1 H1) (fS h2 (by
  show BNk=_;rw[CO (AYQ (fo b h2).1),C9 h2])) s2 (rh H1) (NO (by
  by_cases ho:XE
  ·rw[at1 b ho] at e;exact e
  ·have e' :AHt AOJ (F b) Ax2:=e;split at e'
   ·rw[hN b (A1 (ho z.1))];exact R.g b u e'
   ·first | cases e' | (rw[CO ho] at e';show ie))) Jv (BDe (oR Γ)) (BCp (by
  show Tl oR;show BJ9;cases q:Γ[i]? with
  | Θ=>rw[q] at e;show C6
  | Ε t=>
   rw[q] at e;(show KU t t t t t t t t t t t t t t)<;>(show C6;exact Ajy))) BA BUY (FM (by
  obtain⟨h1,u,h2,ld⟩:=fo b hb;refine CI h1;rw[at1 b hb];by_cases hn:bc
  ·obtain⟨AH,_,e⟩:=hS b hn;exact ET e (.B0 AYf)
  ·exact⟨u,CL (hN b hn) h2,.DV ld⟩))
 refine⟨F1,H1,s1,Bgl oR,OF hb hn,BA,hS,hN⟩
 ·show Tl oR;rw[Fh] at e;cases q:Γ[i]? with
  | Θ=>rw[q] at e;show C6
  | Ε sl=>
   show BR1 i sl o e1;have mine:L4 (gW sl o b) (rB H F1 b):=fun b hb u hu=>by
    have ho:XE:=Bio;rw[at1 b ho];by_cases hn:bc
    ·obtain⟨AH,e,e'⟩:=hS b hn;rw[e] at hu;show AE hu hu hu hu hu hu hu hu hu hu hu hu hu hu;exact NS (ϸ e')
    ·refine .B0 ⟨fun AH z=>hn ⟨ho,AH,G0 hu z⟩,CL (hN b hn) hu⟩
   cases sl with
   | no=>show C6;trivial
   | pu d=>show C6;show GT v rv r;exact AFI A2I
   | ow ds=>
    show BkC ((mine a Β).o h1 AIs)
   | tr as t=>
    show C6;obtain⟨v,Β,nd,h1,rv⟩:=r;exact AFI (TR.repN s1 t v as BSz rv)
   | nt as ts=>
    show C6;obtain⟨p,vs,Β,e2,nd,h1,rv⟩:=r;refine DM Air Β;exact VA p (Akg s1) (Aeq s1 ts vs as BSz rv)
   | xe as C fs ts=>
    show Bkm
 ·show BNk=Θ;show YV (AYQ hb) hn
section
variable{K:AB}{F F' :Hp}
mutual
theorem yc3(hA:gy F (LDn u\/MT F')):Bj5
 | BS,_,_,h=>On
 | li,_,_,h=>On
 | im,_,_,h=>On
 | nv,_,_,h=>On
 | AJh,_,_,h=>On
 | AEv,_,n,h=>by
  show Apa;refine⟨a,vs,h0,?_,zkh hA ds vs n h2⟩;show AiV h1 h1 h1 h1
  ·rcases ARy with (z | ⟨_,_,z⟩) | z
   ·exact z.tup.elim
   ·show AIg
   ·show E5 (Gc z)
  ·rcases ARy with (z | ⟨_,_,z⟩) | z
   ·exact z.frz.elim
   ·show AIg
   ·show E5 (E6 (cz z))
  ·show HL h1
 | AkW,_,n,h=>by
  show AFk dx vs h0 h1 h3 h4;refine⟨a,dx,vs,h0,?_,h3,zkh hA ds vs n.2 h4⟩;rcases ARy with (z | ⟨_,_,z⟩) | z
  ·show BgH
  ·show AIg
  ·exact z
 | ú,_,n,_=>ve
 | AJg,_,n,_=>ve
 | AEz,_,n,_=>ve
 | AE_,_,n,_=>ve
 | AP6,_,n,_=>ve
theorem zkh(hA:gy F (LDn u\/MT F')):Bj6
 | [],_,_,h=>On
 | ip,_,n,h=>by
  obtain⟨v,r,h0,h1,h2⟩:=h;exact⟨v,r,h0,yc3 hA d v n.1 h1,zkh hA ds r n.2 h2⟩
end
#where
structure Ka (BjD) (σ:St) (Γ:G2) (F1 H1:Hp):Ι where
 R:BcR
 back:∀{F' H' :Hp} {A9 :G2},SR K F1 H1 F' H' σ A9 ->rh F' ->∃F2 H2,km F2 H2/\fR F2/\ (∀ds vs,AN_ ->AIp ->aK K F2 ds vs)/\ (∀a u,MU H1 ->AvP ->Hk H2 u/\í/\AFe/\ (sv ->MU F2))/\
  (Awi)/\Awh
 hS:L4 bc (∃o AH,Ahh/\NC H1 Ê)
 hN:A_F
section
variable{X:Cx}{F0 H0:Hp}{e:AJ}{te:cu}{tf:cW}
open xx in
theorem lent{K:AB}(I:AW)(R:GU):∃F1 H1,AJY s/\BjC/\AmY:=by
 obtain⟨F1,H1,s1,R1,n1,o1,hS,hN⟩:=ydg R (dP ((M_ b).WP WV));refine⟨F1,H1,ych BBJ I AYY hN,⟨R1,fun{F' H' A9} R' s' => ?_,Kk,hN⟩,IE b hb o u w⟩
 ·obtain⟨AH,e1,e2⟩:=ADk;obtain⟨_,_,_,_,o,_,_,e,_⟩:=(AIP b PU b e1);exact⟨AH,o,e1,e,È e2 e⟩
 ·have gr:BRb (F' b) (gE (qq bc H (H' b))):=by
   refine AZA Kj Kj Kj
   ·show AjP (AQs (W' o1))
    exact s' _ _ (s1 _ _ e)
   ·have e' :A9W (F' b):=e;show è
    ·show Ab7
    ·show AJQ;show BN (HH (hb w.1));exact R'.g _ _ e'
   ·split
    ·exact e
    ·show AJQ;exact R'.gr.h _ _ (EQ Aj0 e)
   ·have e' :(B3 XE Θ (F' b))=Ε o:=e;show è
    ·show Ab7
    ·show AJQ;have:=Bd0 R'.gr.n;unfold vW at Ρ⊢;show Da (hN b (HH (hb w.1)));exact Ρ
  refine⟨_,_,ALu gr,NA,fun ds vs hd hr=>zkh (Kj) ds vs hd hr,MX a u h1 h2,FM Ai5,Azy⟩
  ·by_cases hb:XE
   ·obtain⟨_,w,ev,ld⟩:=o1 b hb;have:=s' _ _ ev;rw[e] at Ρ;show L9;exact NS ld
   ·show HL (by show A9W (F' b);show BN hb;exact e)
  ·have nn:¬dD Γ σ H a:=HH (by obtain⟨_,_,e⟩:=hS a w;rw[e] at h1;show AE h1 h1 h1 h1 h1 h1 h1 h1 h1 h1 h1 h1 h1 h1)
   have hH:â:=NN (hN a nn) h1
   refine⟨by show(B3 (dD Γ σ H a) (H a) (H' a))=_;show BN nn;exact h2,?_,AeI hH,LV hF⟩
   ·cases q:H0 a with
    | Θ=>rfl
    | Ε w=>show ARV (AG2 _ _ q) hH
   ·split
    ·rfl
    ·exact hF
 ·obtain⟨AH,e1,e2⟩:=ADk;exact⟨_,AH,e1,e2⟩
 ·obtain⟨AH,e1,_⟩:=ADk;show ARV (AS0 b o u w) e1
theorem Ka.thaw{K:AB}{H2:Hp}(L:BjC)(n0:AmY)(I' :ACd s)(sm:Agn)(h1:Awi)(h2:Awh):OE H2 s:=by
 refine yb3 BBJ I' AYY h2 n0;obtain⟨o,AH,e1,e2⟩:=Az6;exact⟨o,AH,sm _ _ e2,CL (h1 b hb) e1⟩
def Ek(tf:cW):cW:=fun Γ P _=>tf (oR Γ) (YN ds (AN_/\P ds Γ)) j9
theorem z29(h:AAh A6k):lf QF (Ek tf):=fun z E cx=>by
 show ArO;show BCr;refine AC_ (h F1 H1 z j9 ARr Ν s σ H1 BDS I1 ⟨F1,oR Γ,_,L.R,q,fun ds A9 F' H' a vs R' s' ea fa ha rs ap hp=> ?_⟩) u hq
 ·obtain⟨F2,H2,R2,sF,rc,at2,e1,e2⟩:=BV0;obtain⟨q1,q2,q3,q4⟩:=at2 a _ ha ea;exact BPJ (k ds Γ F2 H2 a vs R2 sF q1 (q4 fa) q2 (rc ds vs hp.1 rs) q3 hp.2)
 ·obtain⟨x,H',I',rv,sm,H2,e1,e2,hQ⟩:=hq;exact BDx AuD
#where
#print _3
namespace _3
open II Os J' _2
section
variable{X:Cx}{F0 H0:Hp}{AA:AS}{MC:Tm}{hs:AiY}{h0:AL'}{tb:aH}
theorem ybe{a b:AJ}{ta tb:cu}(hu:VC)(ha:X2)(hb:Ŷ)(hm:AvE ŷ):iF (AVG a ŷ [b]) (VY (Nj Κ) ta tb):=fun z E cx=>
 O3 (Ajm (EH zv4 hu FY Mc) hm) (LX BL BL (ARm (by
  obtain⟨ks,xs,kk,e1,Β,hp⟩:=h2;show AKU r2;have ev:=Hg r1;subst ev;refine Bgb;rw[zz1 EN];exact k _ A7 F2 H2 R2 sL hp)))
#where
section
variable{B9:A2}{w:An}{A:BM}{E:dO}{K:AB}{h:AQ}{g:ϕ}{d:ASz}{t:Δ}{os:AAv}{x C dx:Ζ}{o:Obj}{D5:Μ}{v:AI}
theorem z5p{Q:ý}{m:ER}{ns:Υ}(X:SI)(c:AOg)(hn:A2U)(hx:A2g)(hc:AZG)(hnc:A8g)(hd:BMC)(hns:h.Ns1 dx m)(hw:Within m ns)(hz:D6 (JA+1))
  (hq:∀h' tk',h'.Ns1 dx (BAy (m y)) ->AdT dx h h' ->BU4):
  AQq A_8:=by
 show BP1;obtain⟨od0,es0,ep0,hod,_⟩:=id hns;have J:A7e (DJ od0):=⟨hx,hc,hnc,CL hd hod⟩
 refine BGi (s:=AH5) X J c.sa ?_;obtain⟨bm,N,nm,qn,bs,PH,sn,CC,ab,col,dd,k0,k1,k2,k3,k5,e1,T,ht,cd,hcd,yA⟩:=DP X c.cls;have CC:Bge:=Bdt;refine BkT l_ BSh [] SF.kind SF.split CC BUE ?_;have hm:BdA:=BhC;show Bjy;rw[hd'];show dS
 refine AIk;refine BT2 hns;show BXl hw;refine BCy (gS GV BIf hz)
 exact z7 (hq h' _ hn' hs)
#where
section
variable{B9:A2}{w:An}{A:BM}{E:dO}{K:AB}{s:AD}{C a:Ζ}{BI:Env}{Q:Aj8}
theorem z5j{m c:AUu}(hC:Ą)(hh:A8N)(hc:Bdd c)
  (hm:AVY m (bv ES (∃e oe fv o vs,v= .As e/\A1X/\BNK/\AZH/\AmG/\
   ŭ ATY/\Aad/\AWS/\a≠e/\
   ADW (Se e=Ε Bgq) (AO9 e ATY) (Ah6 (ŀ ES h'))))):KS (raiseStmt BI (DJ m) (Ε c)):=by
 refine ul hm (AiE v) om;obtain⟨e,oe,fv,o,vs,Β,X,he,hc',hda,ha,hd,h2,ne,hE⟩:=aE;obtain⟨bm,N,nm,qn,bs,PH,sn,CC,ab,col,dd,k0,k1,k2,k3,k5,hC,T,ht,cd,hcd,yA⟩:=AKP;have hcB:AoZ AbX:=BXM
 show AM0 ES;obtain⟨oc,od,oda,osl⟩:=oe;subst hc' hda;refine AI4 (hc _ _ AxZ)
 show Bhi
 show EW hCe (e≠C) (A1 (by rw[<- z] at hC;rw[show hp.get? e=_ from hC] at he;show AE he he he he he he he he he he he he he he)) g1 (∀(h:AQ) f b u,b≠e ->MT KK ->MT (Ats e f).IN) (fun h f b u n q=>(ANv (re n)).EC q) he3 ((hp.update e (Obj.mapFields (·.setIfInBounds 3 Value.none))).IN e=Ε (AO' fv osl)) (Ao0 he) he4 (((hp.update e (Obj.mapFields (·.setIfInBounds 3 Value.none))).update e (Obj.mapFields (·.setIfInBounds 4 (Value.bool true)))).IN e=Ε ⟨NI,od,.o_ (BYU fv AWs),osl⟩) (Ao0 he3);have hC4:=g1 _ (Obj.mapFields (·.setIfInBounds 4 (Value.bool true))) C _ (re hCe) (g1 hp (Obj.mapFields (·.setIfInBounds 3 Value.none)) C _ (Ne.symm hCe) hC);have ha4:=g1 _ (Obj.mapFields (·.setIfInBounds 4 (Value.bool true))) a _ ne (g1 hp (Obj.mapFields (·.setIfInBounds 3 Value.none)) a _ ne ha)
 repeat (first | show ADs he4 | show ADs hC4 | wp_step)
 refine zwf hh ha4 hd h2 ne he4 Β (AYa (2<6)) (hE _ (BJg he4 Β) (XN n q (g1 _ _ b u n (g1 _ _ b u n (g1 _ _ b u n q)))))
theorem z3r(Bkh){E7:DA}{cause:AJ}{Q:Aj8}(hC:Ą)(hh:A8N)(ABY:Ae5 An7)
  (hi:AJG) (hf:Abm) (hca:Bdd (ADV cause))
  (h:ApR AxG fv (fv= .As C/\AW0 (evalArgs JU Κ An7 []) (fun ar Iy=>ar.kw= []/\D6 ar.pos.length/\BK5/\
    qo (AaR (H_ (NI::ar.pos))) (Amf AOW ar.pos) (AlS (∃oe fv o vs,BK4/\BV3/\AZH/\AmG/\
      ŭ At4/\Aad/\AWS/\a≠BJR/\
      ADW (Se AOW=Ε Bgq) (AO9 BJR At4) (E (BQ AOW) (AUO h')))) E (BYk ar.pos.toArray BLB)))):
  BY0 (DJ cause):=by
 rw[Brg];refine Azt (z5j hC hh (fun ES P hP=>z6 (hca _ _ (z6 (ATA (z7 hP))))) ?_);refine ul (BQC fv om) Bd_ om;show u8 aE aE;refine AI4 (ϑ aE (fun ar Iy eg=>A0c) om);obtain⟨KM,akw⟩:=ar;obtain⟨hkw,E9,X,eg⟩:=eg;show FB (akw= []) hkw;show AM0 Iy;obtain⟨bm,N,nm,qn,bs,PH,sn,CC,ab,col,dd,k0,k1,k2,k3,k5,hC',T,ht,cd,hcd,yA⟩:=AKP;simp only [ABY];refine BRe;refine z6 (z1s X hC hi hf (ϑ eg (fun r s' hr=>BaV) A4H) E9);obtain⟨_,oe,fv,o,vs,X',he,hc,hda,ho,hdo,h2,ne,hE⟩:=hr;exact⟨_,oe,fv,o,vs,Β,X',he,hc,hda,ho,hdo,h2,ne,hE⟩
#where
section
variable{X:Cx}{Ν:dX}{σ:St}{H:Hp}{s:AD}{A:BM}{E:dO}{a C dx:Ζ}{f f1:Μ}{y v1:V}{u:AI}
theorem ydf(I:AW)(e:OG AQ_)(ed:Pc dx BVJ)(c:Ý)(n:VI)(nf:f≠f1)(ry:NX)
  (h:AZr (ŝ dx BVp s')):BA_:=by
 show A9w;obtain⟨mA,ns,r⟩:=A9I;have hw:Within mA [f1]:=fun g hg=>by
  by_cases q:g=f1
  ·rw[q];exact Aer Β
  ·have:=r g;have hb:A2x:=A0R;simp only [ī,hb] at Ρ;cases z:mA g with
   | Θ=>show L7 z hg
   | Ε w=>show Da z;exact this.elim
 obtain⟨hp,gg,d,tk,os⟩:=s;refine z5p eP c n hx Β Β Β ns hw (by rw[ATP,ALa];show Ω) fun h' tk' ns' sb=>h _ ?_
 obtain⟨o',es,ep,ho',_⟩:=id ns';refine I.write (t' :=tk') (x:=dx) (e:=dx) (Avf ed) XI (y9 u z (Al0 hb z)) (FF ho') (ET ns' (LV g))
 have rg:=r g;by_cases q:g=f
 ·have hb:A2x:=AK7 (q ▸ nf);have hb2:A4M:=BKI;simp only [ī,hb,hb2,IF];exact ry
 ·have hb2:A2w:=A0R;show BN q;by_cases q1:g=f1
  ·have hb:ACR g f1:=BGk q1;simp only [ī,hb] at rg⊢;exact rg
  ·have hb:A2x:=AK7 q1;simp only [ī,hb,hb2] at rg⊢;exact rg
#where
def Te(Bje):TS:=A'l (∃a dx f1 v1,YE/\Hk H2 AQ_/\H2 dx=Ε BVJ/\f≠f1/\AHr (upd H2 dx BVp))
section
variable{X:Cx}{o E8:AJ}{f:Μ}{AA I_ :AS}{ta tv:TE}{C:Ζ}
theorem yeb(Bk2):Bc7 Te:=by
 show DH D;refine BGm (bV Aj7 (AHx Bi)) hs;obtain⟨y,H1,I1,ry,q⟩:=Bi;refine AC_ Bna ov B2;obtain⟨x,H2,I2,rx,a,dx,f1,v1,ex,ea,ed,nf,q2⟩:=B2;subst ex;show A1V;exact ydf I2 ea ed c n nf ry (AIv ⟨σ,_,I3,q2⟩)
#where
structure Tf (AyW) (k:Δ) (f:Ζ) (fd:FS) (C:Ζ) (f1 f2 a1 a2:Μ):Ι where
 run:∀(b0:Ζ) (A:BM) (Ch:L_) (s:AD) (H:Hp) (E7:Args) (us:Au) (x:Ζ) (v1 v2:V) (Q:VK),Ahj ->An_ ->G_ (BXb (ũ).zip) (ACS [.As x,v1,v2]) BVn (∀dx H',UT dx ->Bi1 BVq H) (AJA ACx (A.mark (Ε (BQ b0))) Lv E7 (ANI (∃u,Avu u/\BEh)) s)
section
variable{P:A2}{w:An}{K:AB}{mg:ER}{DI:AQ}
theorem z9o(AGJ){st:AT}{f:Ζ}{fd:FS}{k:Δ}{C:Ζ}{f1 f2 a1 a2:Μ}{p1 p2 p3 p4 p5 p6 p7 p8:AS}(Fn:AGC)
  (hbd:yD st= [.ALK (AkN AlP f1 p2) (LJ a1 p3) p4,.ALK (AkN (AIC p5) f2 p6) (LJ a2 p7) p8]) (S:DC ũ ũ st)
  (hc:AOg) (hn1:ADj f1) (hn2:ADj f2) (nf:f2≠f1) (hv0:A5x) (hv1:qg (aY st) a1) (hv2:qg (aY st) a2)
  (hs1:∀BI:Env,AHY (AGm (LJ a1 p3) (DJ (yn AlP f1 p2)) p4.line BI)) (hs2:∀BI:Env,AHY (AGm (LJ a2 p7) (DJ (yn (AIC p5) f2 p6)) p8.line BI))
  (hd1:ì a1:=by decide) (hc1:AI3 a1:=by decide) (hd2:ì a2:=by decide) (hc2:AI3 a2:=by decide):
  BdT LN:=by
 show AKT;refine⟨fun b0 A Ch s H E7 us a v1 v2 Q hr e0 hb r hx hQ=> ?_⟩;have KX:AJ_:=BNc;have lim:Bp7:=BNd;have hkind:∀y∈ (ũ).zip us,Bfh AIQ\/ (Bfh cc/\ (Amy nk (aY st).IJ [] y.1).AGf=Κ):=fun y hy=>by
  obtain⟨n,v⟩:=y;rcases BRO with q | q
  ·show E5 q
  ·show HL ⟨q,BQm⟩
 show BD (Bp8 (A:=A.mark (Ε (BQ b0))) hr.depth (KX _ _ lk) Β S.co S.gen Β BX9 BKe) Bgy;subst he;refine BYE;have I0:Inv BCv [] BAK H s1:=Bin Β;have I:Inv (((BCv).ļ b0).wsh AUa) [] BAK H s1:=z8u (z:=FF []) (Ν:= []) (Rq I0 b0);have W:=(zop (X:=((BCv).ļ b0).wsh AUa) (z8o (AA:=p4) (I_ :=p2) hc hn1 (ApU p1 0 Β hv0) (ApU p3 1 Β hv1 hd1 hc1) (hs1 _)) (zvd (yeb (AA:=p8) (I_ :=p6) hc hn2 (ApU p5 0 Β hv0) (ApU p7 2 Β hv2 hd2 hc2) (hs2 _)))) [] s1 BAK H BZ' I
  ⟨v1,Β,EO,Β,a,Β,hx,fun dx n1 n2=>⟨v2,Β,EO,Β,a,dx,f1,v1,Β,A3Y,gQ,nf,hQ dx _ n1 n2 (by rw[Ŭ bL n2,Ŭ bL n2,gQ]) gQ (BYc (bL q2))⟩⟩
 rw[<- hbd] at W;refine eL W (At fl s' hs) fun e s' z=>z.elim;cases fl with
 | ret u=>
  obtain⟨v,DB,H',J,rv,q⟩:=hs;exact⟨_,Β,v,H',J.os,J.bare,J.base,J.hok,rv,q⟩
 | KE=>
  obtain⟨DB,H',J,q⟩:=hs;exact⟨_,Β,V.non,H',J.os,J.bare,J.base,J.hok,Β,q⟩
 | brk=>
  show Aql
 | Nn=>
  show Aql
#where
def El(F:Hp)(a:Ζ):Ι:=∃o C,A2T/\Ajv
def zus(C:Ζ)(f1 f2:Μ)(tS):aH:=A5l (∃d1 d2,ds= [d1,d2]/\BT9)
section
variable{X:Cx}{F0 H0:Hp}{e1 e2:AJ}{AA np GW cp:AS}{t:cW}{x f1 f2 a1 a2:Μ}{C f b0:Ζ}{fd:FS}{k:Δ}
theorem z4m{j}(hA:El F0 b0)(hg:J_)(hm:AKI)(hC:Ý)(hi:Bfq)(hf:BPC)
  (Fn:AfY Tf k f fd C f1 f2 a1 a2) (hr:AKS) (hb:ATI AG fd ũ []) (ha:QA (AG5 b0) F0 H0 APE t)
  (hd:Fr:=by decide) (he:RI APE e1 [e2]:=by rfl) (EE:ANg [e2]:=by rfl):
  BiL:=by
 rintro z E cx Ν s σ H D I ⟨F,Γ,D2,R,h,k'⟩;refine PV z3r K AG C C f f a b0 hC.cls Β ?_ hi (AGr hf) (fun ES P hP=>BpX hP) (GK (X:=A'L z) I hg hm ϰ hd)
 ·rw[he];show MO (false || (backTo cpos (starEach [e2] X.env)).any (·.1))
  rw[EE];rfl
 ·have Ap:=ha z E cx GW Ν s σ H (fun vs H1=>∃F1 AF d1 d2,AU'/\aK AG F1 [d1,d2] vs/\BT9) I (Ä (by
   obtain⟨d1,d2,Β,hE⟩:=h1;exact⟨F1,AF,d1,d2,R1,r1,hE⟩))
  rw[show AS7 APE ((AG5 b0).wsh z).BI=_ from he] at Ap⊢;refine A6Y Ap (At us s2 hq) Aa5;obtain⟨vs,H1,I1,r,F1,AF,d1,d2,R1,rs,hE⟩:=hq;have E9:D6 o6:=by rw[<- Sf,<- mv,ALa];show Ct (2<=_);show Ω
  refine⟨Β,E9,xy,?_⟩;have ge:AyL Aiq=Ε BXf:=by
   have:=z9 (ABm AVZ) (o:=AVh) Β;show Da UD;exact Ρ
  have kp:BSx:=Aj3;generalize hh2:(ABm AVZ).UC AVh=h2 at ge kp⊢;have n1:Ð Aiq:=AmF;have hle:AG7<=AG7+1:=BJn;generalize hea:BJQ=a at ge n1 hle⊢;have I2:Inv (A'L z) Ν σ AOx (Aoi h2):=Bg6;have f1n:MU F1:=by
   cases q:F1 a with
   | Θ=>rfl
   | Ε o=>show BFJ
  have u1:Bb_:=BbY;obtain⟨v1,_,Β,rv1,v2,_,Β,Vl,Β⟩:=rs;have hl:Su AOk= Su ũ:=by
   rw[GV,<- Sf];rfl
  have hbs:=Bh7
  rw[UE] at hbs;have E0:=I2.env0;have E1:BbQ (Aoi h2) AOx:=⟨E0.frames,E0.mod,E0.bs,E0.bsz,E0.funs,E0.frf,E0.hok,E0.bare⟩;refine Au' AeL (ALv b0 (X.A.under (Au4 (H_ (NI::us)))) M3 _ _ (H_ (AH4::us)) AOk a v1 v2 (bv H' (v= BS/\∃p,Hk H' (Afs p)/\H' p=Ε BVq/\p≠a/\Ð p/\∀b,NV ->b≠p ->H' b=H1 b)) BmN (E1.make C us []) hbs A'E gQ fun dx H' n3 n4 e1 e2 e3=>⟨Β,dx,e1,e2,n4,by rw[bL n4] at n3;exact n3,BYb (e3 b h1 h2)⟩) BRy
  show GT u hq' hq';obtain⟨v,H',os,Hb,un,D7,rv,ev,p,ea,ep,pa,p1,e3⟩:=hq';subst ev;refine CI rv;have I3:Inv (A'L z) Ν σ H' s' :=Bkb
  obtain⟨t0,gx⟩:=Vt D7 ea;have sS:Agn :=OH (CL (e3 b (gR e n1) (gR e p1)) e)
  obtain⟨o0,C0,ho0,hd0⟩:=hA;have g0:H' b0=Ε (.frz o0 (jd b0 C0)):=sS _ _ (JI _ _ (R1.gr.f _ _ ho0));obtain⟨k1,⟨o1,vs1,k2,k3,k4,k5⟩,_⟩:=I3.hok b0 _ g0;rw[k1] at k2;show AE k2 k2 k2 k2 k2 k2 k2 k2 k2 k2 k2 k2 k2 k2;have k6:HR vs1 2 T1:=k5.resolve_right fun n=>n hd0;have ne0:b0≠a:=AaY ea g0 g0 g0 g0 g0 g0 g0 g0 g0 g0 g0 g0 g0 g0 g0
  refine⟨_,t0,o0,vs1,I3.kIn,gx,Β,Β,k1,k4,k6,ne0,md gh kh⟩;have Cj:=Ato un;have nH:BRg:=Avn (by
   show AnC
   ·simp [hb] at eb
   ·exact BYC)
  have yH:BZt:=BWQ
  show EW nfr (gy H' (b∉ib)) (XN eb hm (by
   have:=I3.stkFree b hm;show Da eb;show L9)) old (ŋ AeH NV) (fun b o eb z=>(BUb (z ▸ eb))) nfa (a∉ib) (nfr a _ ea) fp (F1 p=Θ) (R1.g.free p1);refine BXA (AUO h') ⟨a,NI,AhF,BX5,Ε p,Β,os,Hb,?_,?_,?_,?_,?_,.pay C [f1,f2] Bnm,F1,hE,ADb ?_ ?_,Β,p,[v1,v2],[],Β,Bdx,Β,fp,p1,Ad5,(NJ (À hb hb hb hb hb hb hb hb hb hb hb hb hb hb)),?_⟩
  ·refine⟨fun b o eb n h1 h2=>kh b o A9U (Cj.keep b o eb n h1 h2),fun b o eb n h1 h2=> ?_,IE b o eb n hx,ť eb hx,APu xs,ť u eb,APu ps⟩
   ·obtain⟨sl,q⟩:=Cj.slot b o eb n h1 h2;exact⟨sl,kh b _ A9U q⟩
   show BkZ
   ·show AMe q (A6b hx);exact⟨o',kh b _ A9U q⟩
   ·exact BTo
   ·exact Bay
   ·show Ee more q Cj.o9 b ps eb;exact⟨more,AhC q⟩
  ·intro b u eb;show Aq1;refine Bjf (fun c o hc q=>kh c o (Bn hca ?_) q)
   ·rcases hc with hc | hc
    ·exact hb (hc ▸ hca)
    ·rw[hca,ea] at hc;show AE hc hc hc hc hc hc hc hc hc hc hc hc hc hc
   ·rw[hc,ea] at q;show L'
   ·rw[hc,ea] at q;show L'
  ·refine⟨Pp o (kh b o (FG (Ahv (zj6 _ AAt))) BQa),zj6 _ zY,?_,BAa gh (.B0 (A1 AMU))⟩
   have k:=BHQ (as:=a::ib) I3.stack BdC;exact k.of_keeps (A4L (kh b o (FG (by subst z;rw[gx] at q;show L';exact n _ Β)) q))
  ·intro b o eb n;show AAL (A6b A0)
   refine BQI;rcases Cn hm with Β | hm
   ·show AFG (old _ _ eb)
   ·exact n hm
  ·intro b u eb;show Aq1;show C5 o eo zxz (D7 b u eb);refine BRk;show BhH
  ·exact AnB (gR (JI b u eb) n1) (sS b u (JI b u eb))
  ·exact AnB Afw (sS b u eb)
  ·refine⟨v1,[v2],[],[],Β,Β,?_,?_⟩
   ·exact IC rv1
   ·refine⟨v2,[],[],[],Β,Β,?_,?_⟩
    ·exact IC Vl
    ·exact Ű
#where
theorem zqx{A B C:BM}(h:AtU A B)(k:AtU B C):AtU A C:=fun A9 e=>by
 obtain⟨AF,a1,a2,a3⟩:=h A9 e;obtain⟨A7,b1,b2,b3⟩:=k AF a1;exact⟨A7,b1,b2.trans a2,b3.trans a3⟩
def Kc(pl:AN)(F:Hp)(a:Ζ):Ι:=Av F a/\ (pl=Κ ->El F a)
inductive Vz (X:Cx) (H0:Hp) (pl:AN):D3 AiY (A4z)
 | EF:∀{x np C b su hp th},J_ ->BB AKI A0X A'w Fr (AhH [.AL' (DJ AM') Θ AVd hp] (fun C' D Γ E=>bI AG C' C=Κ/\th D Γ E))
 | AX:∀{x np C b su hp th hs tt},vS J_ AKI A0X A'w Fr A7P (AhH (.AL' (DJ AM') Θ AVd hp::hs) (fun C' D Γ E=>(ID (bI AG C' C) (th D Γ E) (tt C' D Γ E))))
def Qc(pl:AN)(K:AB)(tb:aH)(tt:A4z):aH:=fun D Γ E=>tb D Γ fun AF x=>(BYA (mL K x.cls) D)
def Qd(pl:AN)(K:AB)(C1 C2:Ζ)(tb Kd Ke:aH):aH:=Qc pl K tb fun C D Γ E=>(ID (bI K C C1) (Kd D Γ E) (ly C C2/\Ke D Γ E))
section
variable{X:Cx}{F0 H0:Hp}{AA:AS}{hs:AiY}{MC:Tm}{tb:aH}{tt:A4z}{pl:AN}
theorem yjx(hex:AQg)(hst:Aqf)(hfr:Aay)(hb:BDQ)(hh:A7P):BBd hs (Qc pl AG tb tt):=by
 rintro z E cx Ν s σ H D I ⟨F,Γ,D2,R,h,k⟩;obtain⟨h0,hr,eh⟩:∃h0 hr,hs=h0::hr:=by show AEd hh hh hh hh hh hh hh hh hh hh hh hh hh hh AYf
 rw[eh];refine BJ6;rw[<- eh];have Ap:=hb F ⟨fun e ES=>(BTj Iy (BdM hs) ES),AwG⟩
  (fun AF x=>(BYA (mL AG x.cls) D2)) BQL [] s σ H D (z8u I) BcA
 ·refine eL Ap (Aof) ß;have q' :=yl1 q;cases f with
  | KE=>exact AS9 q'
  | ret v=>exact q'
  | brk=>exact q'
  | Nn=>exact q'
 ·intro rW σ1 AF F1 H1 s1 e s' I' R1 hx;have I1:AFM H1 s1:=Ve I';obtain⟨a,Cv,H',B,dx,Β,os,Hb,un,D7,FW,inB,vL,A7,F2,xv,R2,Gf,xr,apx,EE,Qe,hth⟩:=hx;have Tg:Cv= .As xv.cls:=xr.1;subst Tg;have pl0:pl=Κ ->dx=Θ:=Tb (by
   show ka C (EE q);exact xr.2)
  generalize xv.cls=C at Qe hth FW D7 vL inB un;refine BkP
  refine BjI;have I5:AFM H' AWF:=BcV;obtain⟨ob,hob,hobc⟩:=fl.there;have AT6:∀(th:aH) (b:AT) (su:Tm) (hp:AS),A'w ->th D2 A7 E ->
    BkL Θ (Anz Iy):=by
   intro th b su hp hh hth;refine Bdu codeAny_handlers_suite;have I6:AFM H' AOm:=BcW;obtain⟨oe,vs,T,oT,ts,g1,⟨g2,gd,g4⟩,g3,_⟩:=Tn.2.2.2;have nB:Ajo:=Tn.2.1;have nH:MU H':=by
    cases q:H' a with
    | Θ=>rfl
    | Ε u=>show Ee o' e' vL a u q;rw[nB] at e';show ie
   have Y8:a∉ib:=fun hm=>by
    show Ap5 BL1;show Ee sl e3 un.any e2 BQ' A0
    obtain⟨sl',e4⟩:=((AuE Tj).EC Y7) a _ e3 nf;rw[g1] at e4;show AE e4 e4 e4 e4 e4 e4 e4 e4 e4 e4 e4 e4 e4 e4;exact nf _ g3
   show EW wH (MU ABn) (by
    cases q:ABn a with
    | Θ=>rfl
    | Ε o=>
     show AAL (inB a o q Y8);rw[nB] at e';show ie) Kf BJ3 (by
    cases q:ASw a with
    | Θ=>rfl
    | Ε o=>
     show AAL (BsJ a o q Bce)
     rw[wH] at e';show ie) Tq A1o Bfs Kg (ύ a) (BBt (by
    obtain⟨v,o,ho,_⟩:=BNf;rw[z,wH] at ho;show AE ho ho ho ho ho ho ho ho ho ho ho ho ho ho))
   show EW Tr BS8 (fun p hp z=>by
    have ho:=AJE I1.pin;rw[z,wH] at ho;show AE ho ho ho ho ho ho ho ho ho ho ho ho ho ho) IT (AFM AN7 AOm) BlS sV BaN BV1 IH (BY' (Aqh e9)) (BlE e9);have R7:=AeJ sV;have R8:=R7.unbase R.gr;have cxs:Ctx (Aqh e9) AIH H0 E:=by
    refine⟨fun Y9 σ2 Γ3 F4 H4 s4 e s5 I4 R4 hx4=> ?_,fun A' A'' hS=>cx.pq A' A'' (zqx hS (BsK _ _))⟩;refine cx.pX Y9 σ2 Γ3 F4 H4 s4 e s5 (XJ I1.ok I4) (R4.unbase R8.gr) (hx4.imp (MX C dx H' hq));obtain⟨A9,F',x,R',s,xr,ap,hE⟩:=hq;exact⟨A9,F',x,R'.unbase R8.gr,s,xr,ap,hE⟩
   have run:=hh a AIH ⟨⟨oe,C,gQ⟩,Tb ⟨oe,C,gQ,gd.trans (pl0 q)⟩⟩ ⟨e9,z.pn⟩ E cxs Ν AOm σ1 AN7 D IH ⟨_,A7,D2,R7.base,hth,(((k.base R.gr).Ľ R2.gr.f).Ľ sV.f).DI R7.gr⟩;show AZM run (fun f s2 q=>zyc I1.ok q) (cx.pq _ _ (BsK _ _))
  obtain⟨bm,N,nm,qn,bs,PH,sn,CC,ab,col,dd,k0,k1,k2,k3,k5,e1,_,_,_⟩:=ARq Qe;have go:∀{hs tt},A7P ->tt C D2 A7 E ->Ã (handleBy EV BO hs) (SP JS Ν D) e9 AWF:=by
   intro hs tt hh hth;induction hh with
   | EF hg hm hC hh hd=>
    refine Aqg (Ap3 Ap8 hg hm ?_) hd
    obtain⟨bm',N',nm',qn',bs',Gb,sn',sub',ab',col',Mz,j0,j1,j2,j3,j5,e2,tl,_,_⟩:=ARq hC;refine A'3;rw[BeC,hth.1];exact rS AT6 hh hth.2
   | AX hg hm hC hh hd _ ih=>
    refine Aqg (Ap3 Ap8 hg hm ?_) hd
    obtain⟨bm',N',nm',qn',bs',Gb,sn',sub',ab',col',Mz,j0,j1,j2,j3,j5,e2,tl,_,_⟩:=ARq hC;refine A'3;rw[BeC];split at hth
    ·show LP;rw[q];exact rS AT6 hh hth
    ·show LP;rw[BsL q];exact ih hth
  exact go hh hth
#where
def Ck(i:Δ)(D:rZ):rZ:=BcC
def Kh(K:AB)(C1 C2:Ζ)(i:Δ)(tb Kd Ke:aH):aH:=BoJ (∃C fs ts,Cv= .pay C fs ts/\Ahi/\ID (bI K C C1) (Ap2 Kd D) (ly C C2/\Ap2 Ke D))
section
variable{X:Cx}{F0 H0:Hp}{AA np1 hp1 np2 hp2:AS}{x1 x2 n:Μ}{C1 C2:Ζ}{MC Bl Bm:Tm}{b1 b2:AT}{tb Kd Ke:aH}{i:Δ}
theorem yew(hex:AQg)(hst:Aqf)(hfr:Aay)(hN:eJ)(hi:FL X.N n)(hl:Amv AIQ)(hg1:Gl X x1)(hm1:pE x1=Ε (BQ C1))(Za:mL AG C1)(hg2:Gl X x2)(hm2:pE x2=Ε (BQ C2))(hC2:mL AG C2)(hb:BDQ)
  (hh1:BTq b1 Bl Kd) (hh2:BTq b2 Bm Ke) (hd1:ì x1:=by decide) (hd2:ì x2:=by decide):BBd Bjp (Kh AG C1 C2 i tb Kd Ke):=by
 rintro z E cx Ν s σ H D I ⟨F,Γ,D2,R,h,k⟩;refine BJ6;have Ap:=hb F ⟨fun e ES=>(BTj Iy (BdM Bjp) ES),AwG⟩
  (fun AF Cv=>∃C fs ts,Cv= .pay C fs ts/\A0X/\ID A5U (Ap2 Kd D2) (BTr (Ap2 Ke D2))) BQL [] s σ H D (z8u I) BcA
 ·refine eL Ap (Aof) ß;have q' :=yl1 q;cases f with
  | KE=>exact AS9 q'
  | ret v=>exact q'
  | brk=>exact q'
  | Nn=>exact q'
 ·intro rW σ1 AF F1 H1 s1 e s' I' R1 hx;have I1:AFM H1 s1:=Ve I';obtain⟨a,Cv,H',B,dx,Β,os,Hb,un,D7,FW,inB,vL,A7,F2,xv,R2,Gf,xr,apx,⟨C,fs,us,Β,Qe,Kl⟩⟩:=hx;have Tg:Cv= .As C:=xr.1;subst Tg;obtain⟨p,ws,as,Β,ep,el,fp,hpn,ndx,oL,rG⟩:=xr.2;have ap:L4 AYE (Apart σ1 A7 b):=apx.resolve_left fun e=>by(show Ē)
  show BD BkP BjI;have I5:AFM H' AWF:=BcV;obtain⟨ob,hob,hobc⟩:=fl.there;have AT6:∀(th:aH) (b:AT) (su:Tm) (hp:AS),(∀a F,Av F a ->rM AgH F H0 AVd th) ->(∀as,th (Ck i D2) (Atp i (.xe as C fs us)) j9) ->
    BkL (DJ n) (Ã Bde (JP pf (Anz pf)) e9 Iy):=by
   intro th b su hp hh hth;refine Bdu codeAny_handlers_suite_as;have I6:AFM H' AOm:=BcW;obtain⟨oe,vs,T,oT,ts,g1,⟨g2,gd,g4⟩,g3,_⟩:=Tn.2.2.2;have nB:Ajo:=Tn.2.1;show EW nH (MU H') (by
    cases q:H' a with
    | Θ=>rfl
    | Ε u=>show Ee o' e' vL a u q;rw[nB] at e';show ie) Y8 (a∉ib) (fun hm=>by
    show Ap5 BL1;show Ee sl e3 un.any e2 BQ' A0
    obtain⟨sl',e4⟩:=((AuE Tj).EC Y7) a _ e3 nf;rw[g1] at e4;show AE e4 e4 e4 e4 e4 e4 e4 e4 e4 e4 e4 e4 e4 e4;exact nf _ g3) gone (∀o,ŭ ABn ->EM) (ţ (by
    show AAL (inB a o e Y8);rw[nB] at e';show ie)) wH (MU ABn) (by
    cases q:ABn a with
    | Θ=>rfl
    | Ε o=>exact(gone o q).WI)
   show EW Kf (MU ASw) (by
    cases q:ASw a with
    | Θ=>rfl
    | Ε o=>
     show AAL (BsJ a o q Bce)
     rw[wH] at e';show ie) Tq A1o Bfs Kg (ύ a) (BBt (by
    obtain⟨v,o,ho,_⟩:=BNf;rw[z,wH] at ho;show AE ho ho ho ho ho ho ho ho ho ho ho ho ho ho)) Tr BS8 (fun p hp z=>by
    have ho:=AJE I1.pin;rw[z,wH] at ho;show AE ho ho ho ho ho ho ho ho ho ho ho ho ho ho)
   show EW IT (AFM AN7 AOm) BlS sV BaN BV1 IH (BY' ((kP A2u).ļ a)) (BlE Ŋ) pa (p≠a) (AaY nH ep ep ep ep ep ep ep ep ep ep ep ep ep ep ep)
   show EW F3a (BAw a=Ε AHc) (G0 (Ŭ bL pa) gQ) F3p (BAw p=Ε AgY) gQ s3 (LG AIH (ko AIH p AgY)) (NO (U2 (FG (by rw[z,bL pa,fp] at e;show C6)) e)) out (∀b,NV ->b≠p ->BAw b=F2 b) (BYb (bL h2))
   have R3:=(AeJ sV).frzM (F' :=Bcc) s3 (NO (by
    by_cases hb:b=p
    ·subst hb;rw[gQ] at e;show C6;rw[bL pa];exact ep
    ·rw[tN] at e;show r9 sV.g)) (fun b u e n=>by
    show FB (b=p) (by
     by_cases hb:b=p
     ·exact hb
     ·show BBe)
    exact⟨Aek hpn,ap b hpn⟩)
   generalize Bcc=F3 at F3a F3p s3 out R3;have S7:NL as (NV/\b≠p):=FM (by
    show AIz q ld (AG1 us ws as rG b hb);refine⟨vk,vk⟩
    ·rw[z,nH] at q;show L'
    ·rw[z,ep] at q;show L';show BoD ld)
   have R7:=R3.put i (s:= .xe as C fs us) (o:=Ε EV) ⟨a,oe,p,ws,Β,F3a,gd,F3p,el,ndx,Ü (CL (out b (W' S7) (lS S7)) (W' oL)) (Aek (lS oL)),aI (sV.f.trans s3) us ws as (Ak5 (U2 (W' S7) e)) rG⟩ (FM (ap b (lS oL)))
   refine U0 (X:=(kP A2u).ļ a) IH hN hi (Gc hl) (FA (HP EV EV) Β) (TU s7 I7) (E6 hl)
   
   have fin:∀{σ2:St} {H2:Hp} {s2:AD} {Q2:F6 AD},Inv JS Ν σ2 H2 s2 ->σ2.length=X.N.length ->(∀s3,Inv JS Ν (σ2.set i Θ) H2 s3 ->Q2 s3) ->Ã Bde (JP s3 (Q2 s3)) e9 s2:=by
    intro σ2 H2 s2 Q2 I2 E9 hQ;refine z6 (BGR (EH U0 I2 hN hi (Gc hl) (FA (HP BS T1) Β) (TU s3 I3) (E6 hl)));refine Bqv (EH z6c I3 hN hi hl (v:= BS) ?_ (CA s4 I4))
    ·rw[ALD (EQ E9 (List.getElem?_eq_some_iff.mp hi).1)]
    ·rw[AtO] at I4;exact hQ s4 I4
   have kb:=(k.base R.gr).Ľ R2.gr.f;have kh:yF AG F H0 F3 {nx:=ANq ABg,rt:=D2.rt,bk:=ANq D2.bk,ct:=ANq D2.ct} BcD:=
    AoD (BEi kb.nx) (BEi kb.bk) (BEi kb.ct) kb.rt
   have run:=hh a F3 ⟨oe,C,F3a⟩ A2u j9 G6 Ν s7 (σ1.set i g6) AN7 BcD I7
    ⟨_,_,_,R7.base,hth as,kh.base R7.gr⟩
   refine eL run (At f s2 q) A0r;have q' :=zyc I1.ok q;cases f with
   | KE=>show BCa
   | brk=>show BCa
   | Nn=>show BCa
   | ret u=>obtain⟨v,DB,H',I2,r,q⟩:=q';exact fin I2 I2.len (AIv ⟨v,_,_,I3,r,q⟩)
  obtain⟨bm,N,nm,qn,bs,PH,sn,CC,ab,col,dd,k0,k1,k2,k3,k5,e1,_,_,_⟩:=ARq Qe;refine Aqg (Ap3 Ap8 hg1 hm1 ?_) hd1
  obtain⟨bm',N',nm',qn',bs',Gb,sn',sub',ab',col',Mz,j0,j1,j2,j3,j5,e2,tl,_,_⟩:=ARq Za;refine A'3;rw[zoh AuF Qe C1 e1];by_cases hs1:A5U=Κ
  ·rw[hs1];show Ps (C9 hs1) Kl (AT6 Kd b1 Bl hp1 hh1 Kl)
  ·rw[CO hs1] at Kl;rw[BsL hs1];refine Aqg (Ap3 Ap8 hg2 hm2 ?_) hd2
   obtain⟨bm2,N2,nm2,qn2,bs2,acf,sn2,acj,ab2,acn,dd2,l0,l1,l2,l3,l5,e3,tl2,_,_⟩:=ARq hC2;refine Bm0 e3 tl2.hasType;rw[zoh AuF Qe C2 e1,Kl.1];exact AT6 Ke b2 Bm hp2 hh2 Kl.2
#where
theorem z1l(oS){f:Μ}{d:D}:∀(ts:GS) (fs:Υ) (vs:AV) (as:B5),ADw ->BZc ->AZO (ARS f=Ε v)
 | [],fs,vs,as,_,l=>by rw[List.zip_nil_right] at l;show AE l l l l l l l l l l l l l l
 | V',[],vs,as,_,l=>À l l l l l l l l l l l l l l
 | V',g::fs,vs,as,h,l=>by
  obtain⟨v,us,bs,cs,Β,Β,rt,rts⟩:=h;rw[xt,WU] at l⊢;cases q:(f==g) with
  | Κ=>
   rw[q] at l;show AE l l l l l l l l l l l l l l;exact AFI rt.2
  | AC=>
   show Ps q l (z1l ts fs us cs rts l)
def Em(C:Ζ)(f:Μ)(i:Δ):cu:=BXg (r_ Avq) BZc
section
variable{X:Cx}{F0 H0:Hp}{AA ep:AS}{x f:Μ}{C:Ζ}{i:Δ}
theorem z1k(Bgk):ApA AVX (Em C f i):=fun z E cx=>
 m9 (EH z3j hc hn (AuV hi) hb) (Wp hq (by
  obtain⟨F,Γ,P,R,⟨as,fs,ts,d,e0,l,h⟩,k⟩:=hq;obtain⟨o,eσ,a,oe,dx,vs,Β,ea,eo,ed,el,nd,hn,rt⟩:=AN9;obtain⟨v,lv,rv⟩:=z1l ts fs vs as rt l;exact Bjj (BCZ rv)))
#where
open xx in
theorem ycw{P:A2}{w:An}{Ch:L_}{s s' :AD}{e:AI}{E E' :XK}{H H2:Hp}(S:Aiz)(h:Aap fD)(hS:Ba8)(hN:br (¬S b) H2 H)
  (k:∀C dx H' H2',(Aha (H' b=H b/\H2' b=H2 b)) ->(br (¬S b) H2' H') ->Aao ->E' C dx H2'):fD P w Ch H2 s E' e s' :=by
 obtain⟨a,C,H',B,dx,h1,h2,h3,un,D7,FW,inB,vL,hE⟩:=h;show EW fz (br (S b) H' H) (FM (by
  show AVw AH e1 ADk;rw[e1];exact un.mK b _ _ e1)) i1 (br (S b) BBy H2) (FM Ai5) i2 (br (¬S b) BBy H') Azy no (sB (H2 b=u) (∀AH,u≠Ε PU) (¬S b/\H b=u)) (ARK (by
  have hb:¬S b:=AEW (by
   obtain⟨_,AH,_,e2⟩:=ADk;rw[e2] at q;exact n AH Atb)
  exact⟨hb,NN Aj0 q⟩))
 generalize BBy=H3 at i1 i2;have ne:sB (MT H') (BSd) (MT H3):=ARK (by
  rw[i2 b (LV hb)];exact q;obtain⟨_,_,e1,_⟩:=ADk;rw[fz b hb,e1] at q;show AE q q q q q q q q q q q q q q;exact n _ _ Β)
 have st:RY u HO b Ζ (BZT H') (BZT H3):=BXj
 refine⟨a,C,H3,B,dx,h1,h2,h3,⟨BWe,BWe,IE b o eb n q2,un.there,A4I,ť u q,OF ps q⟩,ut,FW,inB,ut,k C dx H' H3 (NJ ⟨fz b hb,i1 b hb⟩) i2 hE⟩
 ·exact un.keep b o eb (no b _ n AIr).2 q1 q2
 ·exact un.slot b o eb (no b _ n AIr).2 q1 q2
 ·obtain⟨hb,n'⟩:=no b _ n AIr
  rw[AJt];exact un.free b o eb n' q2
 ·obtain⟨hb,q'⟩:=A_V
  rw[AJt];exact un.tups b xs q'
 ·obtain⟨hb,q'⟩:=A_V
  rw[AJt];exact un.mK b o u q'
 ·obtain⟨hb,q'⟩:=A_V
  rw[AJt];exact un.o9 b ps q'
 ·by_cases hb:S b
  ·show A7i;rw[i1 b hb,e2] at q;show L';exact st (D7 b _ (AHj fz hb e1)).2
  ·rw[AJt] at q;exact st (D7 b u q)
 ·by_cases hb:S b
  ·show A7i;exact vL b _ (AHj fz hb e1)
  ·rw[AJt] at q;exact vL b u q
#print _3
namespace _3
open II Os J' _2
mutual
def Km:AXw
 | dA=>sX d
 | vv=>AJ6
 | AnV=>AJ6
 | A5b=>AJ6
 | A7R=>AJ6
 | AJf=>EM
def tE:F6 GS
 | []=>KI
 | V'=>Km t/\AJ6
end
section
variable{K:AB}{F F' H:Hp}
mutual
theorem z8c(Bh1):∀(t:T) (v:V) (as:B5),Km t ->AIx ->TR K F' H t v as
 | dA,v,as,n,h=>by
  have:=hA [d] [v] (A3 ⟨n,Sj⟩) (OJ h.2)
  obtain⟨v',_,ev,r2,Β⟩:=Ρ;cases (ev);exact⟨EJ,r2⟩
 | vv,v,as,n,h=>by
  show AFk vs bs e1 e2 e3 h;exact⟨a,vs,bs,e1,e2,e3,AqJ⟩
 | ą,v,as,n,h=>by
  obtain⟨a,vs,bs,e1,e2,e3,e4,h⟩:=h;exact⟨a,vs,bs,e1,e2,e3,e4,AqJ⟩
 | AFY,v,as,n,h=>by
  obtain⟨a,vs,bs,e1,e2,e3,e4,h⟩:=h;exact⟨a,vs,bs,e1,e2,e3,e4,AqJ⟩
 | AFz,v,as,n,h=>by
  obtain⟨a,dx,vs,bs,e1,e2,e3,e4,e5,e6,h⟩:=h;exact⟨a,dx,vs,bs,e1,e2,e3,e4,e5,e6,AqJ⟩
 | AJf,v,as,n,h=>ve
theorem VB(Bh1):∀(ts:GS) (vs:AV) (as:B5),AJ6 ->ADw ->fC K F' H ts vs as
 | [],vs,as,n,h=>On
 | V',vs,as,n,h=>by
  obtain⟨v,us,bs,cs,e1,e2,h1,h2⟩:=h;exact⟨v,us,bs,cs,e1,e2,z8c hA t v bs n.1 h1,VB hA ts us cs n.2 h2⟩
end
#where
def Hi:F6 XV
 | .pay _ _ ts=>AJ6
 | _=>KI
section
variable{X:Cx}{F0 H0 F H F1 H1 Nk Hj :Hp}{z:O2}{E:XW}{Ν:dX}{σ:St}{Γ AF:G2}{s1 s' :AD}{e:AI}
theorem ydb(cx:Ae7)(R:AGK)(L:BkQ)(n0:AmY)(I1:ADR Hj s1)(R1:BcL)(sF:rh Nk)
  (hq:fD GE X.w M3 Hj s1 BfR e s'):e9 e s' :=by
 obtain⟨F2,H2,R2,Gf,_,_,e1,e2⟩:=L.back R1 sF;have I2:ADR H2 s1:=EH AuD n0 I1 R1.gr.h e1 e2;have sH:LG H H2:=Pp u (by
  by_cases hb:bc
  ·rw[e1 b hb];exact q
  ·rw[e2 b hb];exact R1.gr.h b u (EQ (L.hN b hb) q))
 have R3:kq F H2 Γ:=ALu ⟨lP,fun b u q=>sH b u (R.g b u q),sH,bP q (by rw[q] at n;show AE n n n n n n n n n n n n n n)⟩
 refine cx.pX Ν σ Γ F H2 s1 e s' I2 R3 (ycw BBJ hq AYY e2 fun C dx H' H3 fz i2 hx=> ?_)
 ·obtain⟨o,AH,q1,q2⟩:=Az6;exact⟨o,AH,Ai9 q2,CL (e1 b hb) q1⟩
 obtain⟨x,F',⟨nx,hE⟩,gr,xr⟩:=hx;obtain⟨F4,H4,R4,sF4,rs4,at4,f1,f2⟩:=BhM;show FB (H4=H3) (funext fun b=>by
  by_cases hb:bc
  ·rw[f1 b hb,lS fz,e1 b hb]
  ·rw[f2 b hb,AJt])
 refine⟨Γ,F4,x,R4,sF4,CI xr.1,Azo R3.apart,hE⟩;have nn:L4 (RF Hj) (¬bc):=fun b q hb=>by
  obtain⟨o,AH,_,q2⟩:=Az6;rw[Ai9 q2] at q;show L'
 cases x with
 | As C=>exact xr.2
 | any C=>trivial
 | pay C fs ts=>
  obtain⟨p,vs,as,e3,ep,el,fp,hp,nd,hn,rt⟩:=xr.2;refine⟨p,vs,as,e3,CL (i2 p (nn p hp)) ep,el,(at4 p _ (Aek hp) ep).2.2.2 fp,CL (e2 p (nn p hp)) hp,nd,Kk,?_⟩
  ·obtain⟨u,q,_⟩:=AG1 ts vs as rt b hb;exact⟨(at4 b _ (Aek wS) q).2.2.2 AD',CL (e2 b (nn b wS)) wS⟩
  ·exact VB rs4 ts vs as nx (aI JY ts vs as (AII (CL (i2 b (nn b wS)) q)) rt)
#where
def zzp(Bgj):cu:=fun Γ P E=>te (oR Γ) (fun d AF=>(ϻ (C' =C/\AAP/\t AF (YN es BDU) j9))) j9
section
variable{X:Cx}{F0 H0:Hp}{e o:AJ}{es:DA}{AA p KM:AS}{x m:Μ}{f fa C:Ζ}{fd:FS}{ps:Υ}{k:Δ}{sp:dJ}{t:cW}{te:cu}{pl:AQK}
theorem Tt{z:O2}{E:XW}{F H F1 H1 Nk Hj :Hp}{Ν:dX}{σ:St}{Γ AF:G2}{s:AD}{us:Au}{vs:AV}{ds:AU}{P:A1u}{Q:VK}(BkA)
  (R:AGK) (L:BkQ) (n0:AmY) (I:ADR Hj s) (R1:BcL) (sF:rh Nk) (r:AQA) (rs:AaX Nk ds) (h:sp ds (Ÿ (sX d/\P d Γ)) fun x=>Hi x/\AVi)
  (kk:BjE):
  BCw us:=by
 have hs:pB AG sp vs Hj BDS BfR:=
  BXY Nk h (Ap4 (by
   obtain⟨F2,H2,R2,Gf,Iu,_,e1,e2⟩:=BhM;have r2:=Iu [d] [v] (A3 ⟨hp.1,Sj⟩) (OJ rv)
   obtain⟨v',_,ev,r2,Β⟩:=r2;cases (ev);exact⟨R1.gr.h.trans gr.h,H2,e1,e2,kk d Γ F2 H2 v R2 Gf r2 hp.2⟩))
 have hl:A6y:=A'R
 have hbs:=BBR us;show AGF;refine ARl (ALv X.A M3 s Hj AWp us vs _ _ hr I.env0 hbs) r AQ2;cases r with
 | kH e=>exact ydb cx R L n0 I R1 sF hq
 | ok fl=>
  cases fl with
  | ret u=>
   obtain⟨x,H',I',rv,sm,H2,e1,e2,hQ⟩:=I.after hq;exact BDx (EH AuD)
  | KE=>show YY
  | brk=>show YY
  | Nn=>show YY
theorem z8r(Bhu)(hr:sx)(hb:AJI)(ho:AAh AQC)(ha:AAh SH)
  (hst:AGN:=by rfl) (EE:ACZ es:=by rfl)
  (ht:AEs AVc (do
   let ov<- UO o
   AAV
   let (f,first)<- AAm m pl
   AAo (y_ IQ) AFq):=by rfl):
  Aqj zzp:=by
 show AF_;show BCr;refine Awl (ho F1 H1 z j9 ARr Ν s σ H1 (bv H2 (∃F2 A7 d,AyH F2 H2 A7/\Afj/\Rep AG F2 d v/\ (ϻ (C' =C/\AAP/\t A7 (YN es BDU) j9)))) I1 ⟨F1,oR Γ,_,L.R,h,fun d AF F2 H2 v R1 s1 r1 h1=>⟨F2,AF,d,R1,s1,r1,h1⟩⟩) ⟨x,H2,I2,rx,F2,A7,d,R2,sF,rd,q⟩
 cases d with
 | obj C' fs ds=>
  show Anp M6;have RL:=rd;show An3;show Y';refine WY I2 (ABh _ _ ea) hc hm (Vn M6) ?_;refine BEl (bV (ha F1 H1 z j9 ARr AA Ν s1 σ H2 (fun vs H3=>∃F3 Γ3 es,AyH F3 H3 Γ3/\LG F2 F3/\AaX F3 es/\BDU) I2 ⟨F2,A7,_,R2,q,fun es Γ3 F3 H3 vs R3 s3 r3 h3=>⟨F3,Γ3,es,R3,s3,r3,h3⟩⟩)
   fun us s2 ⟨ws,H3,I3,r,F3,Γ3,es,R3,sF3,rs3,q3⟩=>(CI I3.kIn)) hst EE
  exact Tt (us:= EO::us) (vs:= EO::ws) Fn hr hb cx R L n0 I3 R3 (Ĳ sF3) (.AX Β r) (qF (RL.up sF3) rs3) q3 kk
 | _=>show sg
theorem z5m(G:Aba BZ)(hc:ia)(hr:sx)(ho:AAh AQC)(ha:AAh SH)
  (hst:AGN:=by rfl) (EE:ACZ es:=by rfl)
  (ht:AEs AVc (do
   let ov<- UO o
   AAV
   let (f,first)<- AAm m pl
   AAo (y_ IQ) AFq):=by rfl):Aqj zzp:=by
 obtain⟨f,fd,h1,h2,h3⟩:=x0;exact z8r hc h2 h1 hr h3 ho ha hst EE ht
#where
theorem z31(Me):ArH i (ds.eraseIdx i) (vs.eraseIdx i):=by
 intro ds;induction ds with
 | C3=>intro vs i h;cases (h);rfl
 | AX d ds ih=>
  intro vs i h;show Abl v;cases i with
  | Qb=>exact h2
  | Qr i=>exact Y1 v h1 (ih i h2)
def Ko(i:Δ)(t:cW):cu:=fun Γ P E=>(AFL (r_ AI8) (A'u (∃(xs:AU) (k:Δ) (d:D),AM2 AI8/\ds= [Ϭ]/\HR xs k d/\B1<=1000/\P d (ı i (.ow (AtF k))))))
section
variable{X:Cx}{F0 H0:Hp}{e:AJ}{Ĺ KM GW:AS}{x:Μ}{t:cW}{i:Δ}
theorem yec(hN:HV)(hv:OV)(ha:AMN [e])(hd:Fr:=by decide)(hcd:zn:=by decide)
  (LE:Avw "pop":=by rfl)
  (xo:U_ (AmM [e] (! x.1)&&ApT) (Aqr (Su [e]) 30):=by rfl)
  (PF:à:=by rfl) (hs:RI [e] e []:=by rfl) (ABY:ANg []:=by rfl):
  D_ (ze (qc OI "pop") [e]) (Ko i t):=fun z E cx=>
 m9 (yn6 (X:=AHF) (T:= K2) (id:= "list.pop") Bqp PySem.F.slot_list_pop PySem.F.type_list_pop yf0 dC FY LE xo PF hs ABY) (Wp Bi (by
  obtain⟨F,Γ,P,R,⟨⟨xs,e0⟩,h⟩,k⟩:=Bi;show A7n;refine Bkp;obtain⟨ys,j,d,e2,Β,e3,hl,hp⟩:=q1;obtain⟨u,_,Β,ru,Β⟩:=r1;show FB (u= .AL j) ru;obtain⟨o',e4,a',ws,Β,g1,g2,g3,r'⟩:=AwJ;rw[e1] at e4;show AE e4 e4 e4 e4 e4 e4 e4 e4 e4 e4 e4 e4 e4 e4;show DE w ew qj yE r' e3;have hj:Azu:=Pl e3;have RZ:=lQ r';have sq:BG3 YR Ll=Ε j:=(zze (by
   unfold yc;rw[C9 Η,ù];rfl)).1
  exact⟨a,ws,YR,j,w,Β,Β,g1,Τ,Τ,sq,ew,k d _ F1 _ w (R1.wr e2 e1 (z31 j r')) s1 qj hp⟩))
#where
def En(t:qt):qt:=fun Γ P _=>t (oR Γ) (YN tr (Km tr/\P tr Γ)) j9
theorem z3g(AXW){e:AJ}{tn:qt}(h:AAh AJD):lf QN (En tn):=fun z E cx=>by
 show ArO;show BCr;refine AC_ (h F1 H1 z j9 ARr Ν s σ H1 BDS I1 ⟨F1,oR Γ,_,L.R,q,fun t A9 F' H' v as R' s' nd hn rt hp=> ?_⟩) u hq
 ·obtain⟨F2,H2,R2,sF,rc,at2,e1,e2⟩:=BV0;have hh:AnP (MU F2/\í/\AFe/\∀u,AvP ->Hk H2 u):=fun a ha=>by
   obtain⟨g1,g2,_⟩:=hn a ha;obtain⟨u,eu,_⟩:=Ad_ t v as rt a ha;obtain⟨q1,q2,q3,q4⟩:=at2 a u g2 eu;exact⟨q4 g1,q2,q3,fun w ew=>by rw[eu] at ew;show AE ew ew ew ew ew ew ew ew ew ew ew ew ew ew;exact q1⟩
  exact BPJ (k t Γ F2 H2 v as R2 sF nd (sK ⟨(hh a ha).1,(hh a ha).2.1,(hh a ha).2.2.1⟩) (ABe JY t v as (sK (hh a ha).2.2.2) (z8c rc t v as hp.1 rt)) hp.2)
 ·obtain⟨x,H',I',rv,sm,H2,e1,e2,hQ⟩:=hq;exact BDx AuD
def Gj:T ->D
 | ACf us=> .dik ks (jT us)
 | t=>toD t
theorem Zb(AXW){Ν:dX}{σ:St}{s:AD}{Γ:G2}:∀(ts:GS) {vs:AV} {bs:B5} {F H:Hp},AW ->AGK ->BB bs.Nodup (bS bs BAS) BYa (fC AG F H ts vs bs) (∃F' H',ACd s/\kq F' H' Γ/\FV /\ (br (b∉bs) H' H)/\ (BAs bs)/\aK AG F' (ts.map Gj) vs):=by
 intro ts;induction ts with
 | C3=>
  intro vs bs F H I R _ _ _ r;show AMG r;exact⟨F,H,I,R,lP,AI6,AI6,MY⟩
 | AX t ts ih=>
  intro vs bs F H I R nd hn hd r;obtain⟨v,us,b1,b2,Β,Β,r1,r2⟩:=r;show TL ks xs Β (hd _ zY);obtain⟨a,ws,c1,Β,Β,ea,EN,r1⟩:=r1;show Cc nd1 YK dis At9 nd;obtain⟨_,_,zs,kv,o,es,ep,h1,_⟩:=W9 Iq ea;obtain⟨F1,sF,R1,rp,WS⟩:=R.nail (o:=o) nd1 (NJ (hn b (zP _ hb))) ea EN r1;have I1:=z0o I ea h1;have off:NL b2 (b∉a::c1):=fun b hb hc=>dis b hc b hb Β;obtain⟨F2,H2,I2,R2,Gf,hH,hF,rs⟩:=ih I1 R1 YK (NJ (CL (WS b (off b hb)) (hn b (zQ _ hb)))) (fun t ht=>hd t (zW _ ht))
   (aI sF ts us b2 (AxT (A1 (off b hb BNC))) r2)
  refine⟨F2,H2,I2,R2,Ĳ Gf,Kk,Kk,qF (rp.up Gf) rs⟩
  show BU' hH (Aio bL NV (A1 (hb (BFL _ BNC))))
  show BU' hF (WS b (GI (hb (BFL _ h))))
def ya2(tn:qt):qt:=Aon (∃ks ts,t= ą/\ BYa/\FX BVE)
theorem z78(BjL):lf QN (ya2 tn):=A7r (by
 show U1 hq;refine Bfl (∀s1,ADR H1 s1 ->∃H2,ADR H2 s1/\Agu)
 ·intro s2 I1;show EX ks ts hd hp h1;show AKn;show C5 n1 YK Adq nd;obtain⟨F2,H2,I2,R2,Gf,hH,hF,rs⟩:=EH Zb ts I1 R1 YK (NJ (hn b AMb)) hd r;show DE g1 g2 g3 hn a zY;exact⟨H2,I2,k BVE AF F2 H2 _ [a] R2 (AHb Gf) A0 (NJ (Ú Aw8 (hF a n1) ⟨g1,g2,g3⟩)) ⟨a,vs,[],Β,Β,CL (hH a n1) ea,EN,Pu rs⟩ hp⟩
 ·obtain⟨x,H1,I1,r1,q⟩:=Bi;show DE H2 I2 q q s1 I1;exact⟨x,H2,I2,r1,q⟩)
def Kp(tn:qt):cu:=Aon (P (toD t) AF)
open xx in
theorem yaj(BjL):D_ e (Kp tn):=A7r (by
 show U1 hq;refine he z E cx Ν s σ H Q I Bnh;have s2:rh (gE (AwM ADP)):=Pp u (by
  show A_5;show AjP (AQy AD');exact q)
 refine k _ AF _ H1 v (R1.frzM s2 (ut) (ARK ?_)) sL (ATc s2 t v as (fun a ha u q=>(BNV (AHt Al4 (H1 a) (F1 a)) ha)) r) h1
 ·change A_5 at q
  split at q
  ·exact q
  ·exact JI b u q
 ·change A_5 at q
  by_cases hb:ADP
  ·exact wS
  ·rw[ADi,n] at q;show L')
#print _3
namespace _3
open II Os J' _2
structure Xo2 (AXV) (mg:ER) (DI:AQ) (x:Μ) (C:Ζ) (f1 f2 a1 a2:Μ) (k:Δ):Ι where
 ex:Ba0 (BdT k) (ATI K fd ũ [])
def Qf(C:Ζ)(f:Μ)(i:Δ):cu:=AUs (∃as fs ts t,r_ Avq/\AWT t/\P (toD t) ă)
section
variable{X:Cx}{F0 H0:Hp}{e1 e2:AJ}{AA np GW cp:AS}{t:cW}{x f1 f2 a1 a2:Μ}{C b0:Ζ}{k:Δ}
theorem zx6{j}(hA:El F0 b0)(hg:J_)(G:Xo2 GE X.w AG pE eI x C f1 f2 a1 a2 k)(hr:AKS)(ha:QA (AG5 b0) F0 H0 APE t)
  (hd:Fr:=by decide) (he:RI APE e1 [e2]:=by rfl) (EE:ANg [e2]:=by rfl):
  BiL:=by
 obtain⟨f,fd,Fn,hi,hf,hC,hm,hb⟩:=x0;exact z4m hA hg hm hC hi hf Fn hr hb ha hd he EE
#where
section
variable{X:Cx}{F0 H0:Hp}{AA ep:AS}{x f:Μ}{C:Ζ}{i:Δ}
open xx in
theorem yi2(Bgk):ApA AVX (Qf C f i):=fun z E cx=>
 m9 (EH z3j hc hn (AuV hi) hb) (Wp hq (by
  obtain⟨F,Γ,P,R,⟨as,fs,ts,t,e0,l,h⟩,k⟩:=hq;obtain⟨o,eσ,a,oe,dx,vs,Β,ea,eo,ed,el,nd,hn,rt⟩:=AN9;obtain⟨v,b1,cs,b2,lv,Β,rv,_⟩:=zuo rt l;have mem:NL cs (b∈AmK):=FM (zQ _ (zP _ hb));have s1:fR (gE (qq (b∈cs) H (F b))):=Pp u (by
   show AqL;show AjP (AQy Bgz.1);exact q)
  refine Bjj (k _ _ _ H v ((AeC eσ).frzM s1 (ut) (ARK ?_)) s1 (ATc s1 t v cs (AII (BNV AqL hb)) rv) h)
  ·change AqL at q
   split at q
   ·exact q
   ·exact R.g b u q
  ·change AqL at q
   by_cases hb:b∈cs
   ·exact⟨Bgz.2,ALr e0 eσ (FA (gW (Slot.xe (AId cs) C fs ts) g6 b) (mem b hb))⟩
   ·rw[ADi,n] at q;show L'))
#where
section
variable{X:Cx}{F0 H0:Hp}{AA:AS}{hs:AiY}{MC:Tm}{C1 C2:Ζ}{tb Kd Ke:aH}{pl:AN}
theorem yhz(hex:AQg)(hst:Aqf)(hfr:Aay)(hb:BDQ)(hh:AhH hs (fun C D Γ E=>(ID A5U (Kd D Γ E) (BTr (Ke D Γ E))))):BBd hs (Qd pl AG C1 C2 tb Kd Ke):=yjx hex hst hfr hb hh
#where
abbrev R3:=Μ×Μ×Ψ
def r3D(r:R3):D:= BaD
def oU(r:R3):P2:=(Cl,DL)
def r3N:R3:=(Nc,Nc,0)
def z3k:SE:=AEJ (∃gs:EK R3,xs=kR r3D/\ mr kR oU/\A1h/\Aae (EK R3) (ĺ gs) (Afm (yx (oU a) (oU b)=Κ)) r3D)
theorem yf9{X:Cx}:AQX (Ea AG z3k):=by
 show oy;show Dx z3k;split at h
 ·show AKN r0;obtain⟨gs,Β,nd,h64,h⟩:=h;show SS;refine YC r3N (T:=fun h v g=>Eh h v (oU g)) (lt:=Ci (kR oU)) (κ:=tuples' Κ) I sF r0 rx h64 BdX (fun g hg v u r1 r2=> ?_) (by have:=z07 nd;rwa [C4] at Ρ) BRW Bkr
  ·show EX b vs hq rs r1;show AE r2 r2 r2 r2 r2 r2 r2 r2 r2 r2 r2 r2 r2 r2;show EX v1 vs e1 rs rs;show EX v2 vs e2 rs rs;show EX v3 vs e3 rs rs;show FB (vs= []) rs;show FB (v1= .AO g.1) e1;show FB (v2= .AO g.2.1) e2;obtain⟨AY,rv,⟨o,g1,g2,n,g3⟩,_⟩:=Abd hq;cases rv with
   | AX a1 rv=>
    cases rv with
    | AX a2 rv=>
     show MW a1;show ka t' a2;exact⟨b,o,n,t,t',_,Β,g1,g2,g3⟩
  ·have e:=PV zxr B9 GE w X.w A BI0 E xL (vs:=AY) (ps:=kR oU) BMT nd
   rw[C4] at e;refine⟨fun s Q hT=>e.kind s Q Ah_,BjH⟩
   all_goals
    have q:=hT i hi;rw[BXy r3N (wz hi)] at q;show Bgr ((kR oU).WP i Bw) oU
    exact q
  ·have hp:(Q_ Bw (kR oU) is).AeQ fun a b=>AWR:=by
    unfold Q_;rw[ĵ];exact od
   rw[A5k r3N] at hp;exact BIx hp
 ·show HA
#print _3
namespace _HM
theorem z23(a b:Ψ):ac b (Aes b)=ac a b:=by
 rw[Int.fmod_def,Int.gcd_sub_mul_left_right,BI8]
theorem zfh{a b:Ψ}(h:Ś):(Aes b).ABt<AT7:=by
 rw[Int.fmod_eq_emod];have h1:=BI9 a h;have h2:=Int.emod_lt a h;split
 ·show qB
 ·show LP;have q1:b<0:=Τ
  have q2:a % b≠0:=A1 (q (E6 (Int.dvd_of_emod_eq_zero z)));show Ω
def dv(AR2):Ψ:=if b<0 then -(B' wb) else wb
def fr(AR2):Ψ×Ψ:=(t.fdiv (dv t b),b.fdiv (dv t b))
theorem Zc(AGB):AAH≠0:=by
 unfold dv;have:wb≠0:=by
  intro e;exact h (BKD e)
 show Ù
theorem yjk(AR2):AAH∣t:=by
 unfold dv;split
 ·exact BsN (BsO ..)
 ·exact BoX
theorem z6e(AR2):AAH∣b:=by
 unfold dv;split
 ·exact BsN (BI_ ..)
 ·exact BoY
theorem VD{a b:Ψ}(h:b∣a):b*a.fdiv b=a:=by
 rw[Int.fdiv_eq_ediv_of_dvd h];exact Int.mul_ediv_cancel' h
theorem z1t(AR2):AAH* YI=t:=VD (yjk t b)
theorem VF(AR2):AAH* VQ=b:=VD (z6e t b)
theorem z64(AGB):0< VQ:=by
 have e:=VF t b;have n:=Am6 h;generalize VQ=y at*;unfold dv at e n;split at e
 ·show AJQ;have g0:TN<wb:=by
   rw[Ai5] at n;have:TN<=wb:=BJo;show Ω
  rcases A2R y with h | h
  ·exact h
  ·have:0<= -(B' wb)*y:=by
    rw[Int.neg_mul,<- Int.mul_neg];exact Int.mul_nonneg Η Η
   show Ω
 ·show AJQ;have g0:TN<wb:=by
   rw[ADi] at n;have:TN<=wb:=BJo;show Ω
  rcases A2R y with h | h
  ·exact h
  ·have:B' wb*y<=0:=BKE Η
   show Ω
theorem z9q(AGB):ac YI VQ=1:=by
 have e1:=z1t t b;have e2:=VF t b;have n:=Am6 h;have e3:ac (AAH* YI) (AAH* VQ)=AR4*ac YI VQ:=Int.gcd_mul_left ..;rw[e1,e2] at e3;have e4:AR4=wb:=by
  unfold dv;split<;>simp
 rw[e4] at e3;have g0:wb≠0:=A1 (h BN1);exact(Nat.eq_of_mul_eq_mul_left (Boe g0) (EQ Nat.mul_one e3)).jp
theorem zt8{t b:Ψ}:YI*b=t* VQ:=by
 have e1:=z1t t b;have e2:=VF t b
 calc YI*b=YI* (AAH* VQ):=MA e2
  _=(AAH* YI)* VQ:=AVx Int.mul_assoc (Aet YI)
  _=t* VQ:=MA e1
theorem zs4{a b c d:Ψ}(hb:0<b)(hd:0<d)(h1:BUH)(h2:ac c d=1)(h:a*d=c*b):a=c/\b=d:=by
 have bd:b∣d:=by
  have:b∣a*d:=⟨c,G0 h Aet⟩
  show BMi Ρ;rw[BI8,h1] at z
  simpa using z
 have db:d∣b:=by
  have:d∣c*b:=⟨a,AVx h Aet⟩
  show BMi Ρ;rw[BI8,h2] at z
  simpa using z
 have e:b=d:=Int.dvd_antisymm (BI' hb) (BI' hd) bd db;subst e;exact⟨BsP (BJA hb) h,Β⟩
theorem ypp{t b t' b' :Ψ}(h:Ś)(h' :b' ≠0)(e:t*b' =t' *b):fr t b=fr t' b' :=by
 have c1:=zt8 (t:=t) (b:=b);have c2:=zt8 (t:=t') (b:=b');have p1:=z64 (t:=t) h;have p2:=z64 (t:=t') h';have k:YI* BRU=BRY* VQ:=by
  generalize YI=x at*;generalize VQ=y at*;generalize BRY=x' at*;generalize BRU=y' at*
  
  have:(x*y')* Amz=(x' *y)* Amz:=by
   calc (x*y')* Amz=(x*b)* (b' *y'):=Aia
    _=(t*y)* (b' *y'):=MA c1
    _=(t*b')* (y*y'):=Aia
    _=(t' *b)* (y*y'):=AOT
    _=(t' *y')* (b*y):=Aia
    _=(x' *b')* (b*y):=MA c2
    _=(x' *y)* Amz:=Aia
  exact BsP (BJB h h') Ρ
 show AEZ e1 (zs4 p1 p2 (z9q h) (z9q h') k);exact BR9
theorem ynm{a b:Ψ}(hb:0<b)(h:BUH):fr a b=(a,b):=by
 have c1:=zt8 (t:=a) (b:=b);show AEZ e1 (zs4 (z64 (t:=a) (BJA hb)) hb (z9q (BJA hb)) h (by rw[c1]))
 exact BR9
theorem ygi(AGB):cr YI<=Aeu:=by
 have e:=T_ AuG (z1t t b);rw[Ĵ] at e;have n:=Am6 h;have:1<=AR4:=Τ
 calc A1L=1* A1L:=MA AMA
  _<=AR4* A1L:=Ay2 Ρ
  _=Aeu:=e
theorem ygj(AGB):cr VQ<=AT7:=by
 have e:=T_ AuG (VF t b);rw[Ĵ] at e;have n:=Am6 h;have:1<=AR4:=Τ
 calc A1K=1* A1K:=MA AMA
  _<=AR4* A1K:=Ay2 Ρ
  _=AT7:=e
#print _HM
namespace _3
open II _2 _HM
def qD(AQ7):D:= AP2 ABu ABv
theorem ykb(AGB):fr t b=(AlT,B' AZZ):=by
 have hb:TN< AZZ:=OR (AfT den_pos)
 have hg:ac AlT AZZ=1:=by
  have:=AfT reduced
  simpa [ac] using Ρ
 have e:AlT*b=t* AZZ:=by
  have q:=BJC (Rat.divInt t b);rw[Rat.divInt_eq_divInt_iff Η h] at q
  exact q
 have:=PV ypp t t b b t' AlT b' AZZ h Η aT
 rw[Ρ,ynm hb hg]
theorem Zd(AGB):fr t b=((UR t b).num,B' (UR t b).den):=G0 (ykb h) BJD
theorem Qg(AQ7):A6X:=by
 have:=q.den_pos;intro e;have:Aim=0:=ò e
 show Ω
theorem Qh(AQ7):Í ABu ABv=q:=by
 have:=BJC q;show Da BJD;exact Ρ
def Sz(n:Δ)(q:AM):Ι:=dh ABu<=n/\dh Aim<=n
theorem Sz.up{m n:Δ}{q:AM}(h:Sz m q)(k:m<=n):Sz n q:=⟨zO EJ k,zO h.2 k⟩
theorem Qi{t b:Ψ}{n:Δ}(h:Ś)(h1:dh t<=n)(h2:dh b<=n):Sz n (UR t b):=by
 have e:=Zd (t:=t) h;have e1:YI=_:=ϵ Prod.fst;have e2:VQ=_:=ϵ BJE;show A8G;refine⟨zO (MN ?_) h1,zO (MN ?_) h2⟩
 ·rw[<- e1];exact ygi h
 ·rw[<- e2];exact ygj h
theorem yg1(AQS):a+b=Í (B' (Al7+kU*fE)) Al8:=by
 have ha:=Qg a;have hb:=Qg b;show ArG;rw[AuH,RA,RA,RA];show Al9 x;show ApN;show ApP;show ApO;show AJJ
 grind
theorem ygd(AQS):a - b=Í (B' (Al7 - kU*fE)) Al8:=by
 have ha:=Qg a;have hb:=Qg b;show ArG;rw[Aew,RA,RA,RA];show Al9 x;show ApN;show ApP;show ApO;show AJJ
 grind
theorem ygo(AQS):a*b=Í (B' (AHD*kU)) Al8:=by
 have ha:=Qg a;have hb:=Qg b;show ArG;rw[RA,RA];show Al9 x;show ApN;show ApP;show ApO;show AJJ
 grind
theorem Cm{b:AM}:kU=0↔b=0:=Rat.num_eq_zero
theorem yg4(a b:AM)(h:Ś):a/b=Í (B' Al7) (fE*kU):=by
 have ha:=Qg a;have hb:=Qg b;show ArG;rw[RA,RA];show Al9 x;show ApN;show ApP;show ApO;show AJJ
 grind
theorem yib(AQS):Φ (a<b)=O0 (Al7<kU*fE):=CL decide_eq_decide (Rat.lt_iff a b)
theorem VG(AQS):fq Al8:=BQA (AV2 b.den_pos)
theorem yl9(AGB):AHE (AHz YI VQ)=qD (UR t b):=by rw[Zd h];rfl
theorem yhh(A'2):Sz (m+n+1) (a+b):=by
 rw[yg1];refine A7S
 ·show A4j;have h2:=G4 kU fE;have h3:=zi5 BQr BQs;show BgP
 ·show A4k;show A6g
theorem Nm(A'2):Sz (m+n+1) (a - b):=by
 rw[ygd];refine A7S
 ·show A4j;have h2:=G4 kU fE;have h3:=znf BQr BQs;show BgP
 ·show A4k;show A6g
theorem yg9(A'2):Sz (m+n) (a*b):=by
 rw[ygo];refine A7S
 ·have h1:=G4 AHD kU;have:=ha.1;have:=hb.1;show Ω
 ·show A4k;show A6g
theorem z8v(Bmy)(ha:Sz m a)(hb:Sz n b)(h0:Ś):Sz (m+n) (a/b):=by
 rw[yg4 a b h0];have hn:fq (fE*kU):=BQA (FG (h0 (Cm.mp z)))
 refine Qi hn ?_ ?_
 ·show A4j;have:=ha.1;have:=hb.2;show Ω
 ·have h1:=G4 fE kU;have:=ha.2;have:=hb.1;show Ω
theorem Tv(ARb):qD (BE i)= .DZ [HI,.AL 1]:=Β
theorem Ze{i:Ψ}{n:Δ}(h:g_<=n)(hn:1<=n):Sz n (BE i):=⟨h,zO (ACn 1 (AYa (Lu 1<2^1))) hn⟩
def fj:BC ->AM | []=>0 | q::qs=>q+fj qs
theorem zzw(a b:BC):fj (a++b)=fj a+fj b:=by
 induction a with
 | C3=>simp [fj,BsQ]
 | AX x xs ih=>simp only [JJ,fj,ih,BJF]
theorem z8k{a b:BC}(h:AXp):fj a=fj b:=by
 induction h with
 | C3=>rfl
 | AX x _ ih=>simp only [fj,ih]
 | swap x y l=>simp only [fj];rw[<- BJF,<- BJF,Rat.add_comm y x]
 | EC _ _ i1 i2=>exact i1.trans i2
theorem ygk{m:Δ}:A'W (Sz m q) (Sz (He* (m+2)+1) (fj qs))
 | [],_=>⟨BYJ (dh 0),BYJ (dh 1)⟩
 | q::qs,h=>by
  have i:=ygk (qs:=qs) Ams;refine(yhh (h q zY) i).up ?_;have:(He+1)* (m+2)=He* (m+2)+ (m+2):=G0 BJG AMA
  simp only [GV];show Ω
abbrev Np(l:BC):Ι:=BHp (· <= ·)
def cnt(BCj):Δ:=De AMC BZr
def yI(l:BC)(q:AM):BC:=BNq++q::BNr
def oV(i3):BC:=BJH yI []
theorem yoc(BCj):AXb (cnt q l):=AzT
theorem z09{q:AM}:OQ l BC (Np l) ((∀o∈BNq,o<=q)/\∀o∈BNr,q<o)
 | [],_=>⟨C_,C_⟩
 | x::l,hs=>by
  show C5 p1 p2 ALy hs;show C5 i1 i2 (z09 (q:=q) (l:=l)) p2;by_cases hx:q<x
  ·have all:∀o∈x::l,q<o:=by
    intro o ho;rcases Cn ho with Β | ho
    ·exact hx
    ·exact Std.lt_of_lt_of_le hx (p1 o ho)
   have e:cnt q (x::l)=0:=by
    unfold cnt;rw[AuJ]
    ·rfl
    ·intro o ho;simp [all o ho]
   rw[e];exact⟨C_,CY all⟩
  ·have e:cnt q (x::l)=cnt q l+1:=by
    unfold cnt;rw[kX,C9 AjB,GV]
   rw[e,BsR,BsS];refine⟨CA o ho,i2⟩;rcases Cn ho with Β | ho
   ·exact BsT hx
   ·exact i1 o ho
theorem yeo{l:BC}{q:AM}(h:Np l):Np (yI l q):=by
 show Aau (z09 (q:=q) h);unfold yI Np;rw[BII];refine⟨h.sublist (Bp6 _ _),BHl ⟨fun o ho=>Aey (h2 o ho),h.sublist (List.drop_sublist _ _)⟩,BW4⟩;rcases Cn hb with Β | hb
 ·exact h1 a ha
 ·exact AMD (h1 a ha) (Aey (h2 b hb))
theorem zxp(l:BC)(q:AM):(yI l q).Lm (q::l):=by
 refine List.perm_middle.trans ?_;rw[Aeb]
theorem zz8:∀(qs A4:BC),Np A4 ->Np (BJH yI A4)/\ (BJH yI A4).Lm (qs++A4)
 | [],A4,h=>⟨h,lP⟩
 | q::qs,A4,h=>by
  show Aau (zz8 qs (yI A4 q) (yeo h));refine⟨h1,BID ?_⟩;refine(BrH qs (zxp A4 q)).EC ?_;exact List.perm_middle
theorem zyu(i3):Np (oV qs):=(zz8 qs [] ATa).1
theorem Nq(i3):(oV qs).Lm qs:=ACk (zz8 qs [] ATa).2 UE
theorem Zf(i3):BTC oV:=(Nq qs).Aed
theorem zs6:∀{a b:BC},Np a ->Np b ->AXp ->a=b
 | [],b,_,_,h=>X_ List.nil_perm.mp h
 | x::a,[],_,_,h=>CY h.length_eq
 | x::a,y::b,ha,hb,h=>by
  show C5 a1 a2 ALy ha;show C5 b1 b2 ALy hb;have e:x=y:=by
   have hx:x∈y::b:=BIt zY;have hy:y∈x::a:=h.mem_iff.mpr zY;rcases Cn hx with e | hx
   ·exact e
   ·rcases Cn hy with e | hy
    ·exact aT
    ·exact BsU (a1 y hy) (b1 x hx)
  subst e;rw[zs6 a2 b2 (List.Perm.cons_inv h)]
theorem z87{a b:BC}(h:AXp):oV a=oV b:=zs6 (zyu a) (zyu b) (hW Nq a (h.trans (X_ Nq b)))
def Tw(l:BC):AM:=MV A7' 1 AlR ((ADU (mi - 1)+AlR)/2)
def wd(l:BC)(j:Δ):AM:=ADU APX - ADU j
structure Best (l:BC) (b:Δ):Ι where
 lt:AEa (b+1)
 le:BWT (AEa (j+1))
 gt:BT4 (AEa (j+1))
theorem Best.unique{l:BC}{a b:Δ}(x:Best l a)(y:Best l b):a=b:=by
 rcases BIH a b with h | h | h
 ·exact A0m (x.gt b y.lt h) (y.le a x.lt)
 ·exact h
 ·exact A0m (y.gt a x.lt h) (x.le b y.lt)
abbrev Pt:=AM×AM
def pD(p:Pt):D:= .DZ [qD CS,qD p.2]
def Cp(l r:Pt)(x:AM):AM:=l.2+ (x - l.1)* AoS/ AZj
def LR(a b:Pt):AN:=BRL&& !(Φ (b.2<a.2))
def Gd:F6 FH
 | []=>KI
 | [_]=>KI
 | Ajn=>(a.1<b.1/\a.2<=b.2)/\Gd AY0
def ur:BSs
 | [],_=>0
 | [p],_=>p.2
 | AnO,x=>BVx (B3 (l.1<x) A'U l.2) ur
def Bo:BSs
 | [],_=>0
 | [p],_=>p.2
 | AnO,x=>BVx A'U Bo
theorem ymo(BjZ):∃k:AM,0<=k/\ (l.2<r.2 ->0<k)/\k* AZj=r.2 - l.2/\∀x,A'U=l.2+ (x - l.1)*k:=by
 have hd:0<AaP:=Tk
 have hi:0< AZj⁻¹:=BsV hd;have hn:AaP≠0:=Tk
 refine⟨AoS* AZj⁻¹,BJI Ayu (Aey hi),GI (Rat.mul_pos Ayu hi),?_,LV x⟩
 ·rw[yB,AJV hn,AME]
 ·unfold Cp;rw[N_,yB]
theorem ykl(BjZ):Cp l r l.1=l.2:=by
 obtain⟨k,_,_,_,e⟩:=ymo h h2;rw[e];grind
theorem z2p:∀{ps:FH} {x:AM},AAT ->(∀p,ps.head?=Ε p ->CS<=x) ->BW7
 | [],_,_,_=>Β
 | [p],_,_,_=>Β
 | AnO,x,hg,hx=>by
  have hl:=hx l Β;obtain⟨⟨h1,h2⟩,h3⟩:=hg;unfold Bo ur;by_cases h:x<Cl
  ·rw[AXk,AXk];by_cases h' :l.1<x
   ·show DF h'
   ·show BN h';have:x=l.1:=Tk
    show nN;exact ykl h1 h2
  ·rw[AXl,AXl];exact z2p h3 (ï (by show AE hp hp hp hp hp hp hp hp hp hp hp hp hp hp;grind))
def jy:FH ->Pt | []=>Ö | [p]=>p | _::r::t=>jy (r::t)
theorem yfq{x:AM}{l:Pt}{t:FH}(hg:Gd (l::t))(hx:¬l.1<x):ur (l::t) x=l.2:=by
 cases t with
 | C3=>rfl
 | AX r t=>
  obtain⟨⟨h1,h2⟩,h3⟩:=hg;unfold ur;rw[C9 Ayu,CO hx]
#print _3
namespace _HM
abbrev Bd:=Ψ×Ψ
def Bx(b:Bd)(x:Ψ):AN:=Φ (b.1<=x)&&Φ (x<=b.2)
def Cq(S l:B6)(b:Bd):B6:=A6e BPE
def rk(S:B6)(bs:Jn):MR B6
 | 0=> [0]
 | D'=>Cq S (rk S bs i) (ĸ i Ö)
def gk(S:B6)(n:Ψ)(rb:Jn):MR B6
 | 0=> [n]
 | D'=>A6e ((gk S n rb i).any fun EF=>Bx BQf (EF - e))
def lu(S:B6)(n:Ψ):B6:=BsW (n - ·)
theorem yc2{S:B6}{n e:Ψ}:AQo∈lu S n↔AW5:=by
 unfold lu;rw[ZE];constructor
 ·rintro⟨x,hx,h⟩;show YA x e
  exact BsX hx
 ·exact GI (ij e (List.mem_reverse.mpr h))
theorem tG{S l:B6}{b:Bd}{e:Ψ}:e∈Cq S l b↔AW5/\∃s∈l,Bx b AW_=Κ:=v4 Cq Ĕ AL0
theorem wJ{S:B6}{n e:Ψ}{rb:Jn}{i:Δ}:e∈gk S n rb DU↔AW5/\∃EF∈gk S n rb i,Bx BQf (EF - e)=Κ:=by
 show Ct (e∈BJJ _↔_);rw[Ĕ,AL0]
theorem zy2{S:B6}{n:Ψ}{rb:Jn}:∀(i:Δ) (e:Ψ),e∈gk S n rb i↔ AQo∈rk AON rb i
 | 0,e=>by
  show Ct (e∈ [n]↔ AQo∈ [0]);rw[AGT,AGT];show Ω
 | D',e=>by
  rw[wJ];refine(?_:_↔ AQo∈Cq AON (rk AON rb i) _);rw[tG,yc2];refine and_congr_right (Fk (AQ0 (AEy w) (DM (n - o) ((zy2 i o).mp ho)) ⟨s,hs,w⟩ (DM (n - s) ((zy2 i (n - s)).mpr ?_))))
  ·rw[IY (n - e - (n - o)=o - e)];exact w
  ·rw[IY (n - (n - s)=s)];exact hs
  ·rw[IY (n - s - e=n - e - s)];exact w
theorem z6n{S:B6}{n:Ψ}{rb:Jn}(hn:AW6):BhP (e∈gk S n rb i)
 | 0,e,h=>AOj h hn
 | _+1,_,h=>(wJ.mp h).1
theorem ylt{S:B6}{bs:Jn}(h0:TN∈S):BhP (e∈A'Z)
 | 0,e,h=>AOj h h0
 | _+1,_,h=>(tG.mp h).1
theorem zvf{bs:Jn}{i:Δ}(h:i<IP):bs.reverse.getD (AfS DU) Ö=ĸ i Ö:=by
 rw[MH,MH,Bra Η]
 congr 2
 show Ω
theorem meet(Bf6):∀i,i<=IP ->((∃e∈A'Z,Afx e (AfS i))↔ AbH)
 | 0,_=>Ala ⟨e,h1,h2⟩ (by rw[ABq h1] at h2;exact h2) ⟨0,Aer Β,h⟩
 | D',hi=>by
  rw[<- meet h0 hn i Η]
  have e1:IP - i=IP - DU+1:=Τ
  constructor
  ·rintro⟨e,h1,h2⟩;obtain⟨_,s,hs,w⟩:=tG.mp h1;refine DM s hs;rw[e1,wJ];exact⟨ylt h0 hs,e,h2,lh zvf Η w⟩
  ·rintro⟨e,h1,h2⟩;rw[e1,wJ] at h2;obtain⟨_,o,ho,w⟩:=h2;refine⟨o,tG.mpr ⟨z6n hn ho,e,h1,?_⟩,ho⟩;show Ps (zvf Η) w w
theorem z4r(Bf6):n∈rk S bs IP↔ AbH:=by
 rw[<- meet h0 hn IP BJi];rw[Nat.sub_self];exact⟨GI ⟨n,h,Aer Β⟩,fun⟨e,h1,h2⟩=>by rw[ABq h2] at h1;exact h1⟩
def VH:B6 ->Ψ
 | []=>0
 | [x]=>x
 | x::y::r=>if VH (y::r)<=x then x else VH (y::r)
theorem z5u:OQ l B6 (l≠ []) (VH l∈l/\∀i∈l,i<=VH l)
 | [],h=>A8p
 | [x],_=>⟨Aer Β,LW (by show ik hi;exact Ath _)⟩
 | x::y::r,_=>by
  show C5 h1 h2 (z5u (l:=y::r)) A0
  unfold VH;split
  ·show LP;refine Po zY i hi;rcases Cn hi with Β | hi
   ·exact Ath _
   ·exact BsY (h2 i hi) q
  ·show LP;refine Po (zW _ h1) i hi;rcases Cn hi with Β | hi
   ·show qB
   ·exact h2 i hi
def cand(S:B6)(n:Ψ)(bs:Jn)(k:Δ)(f:Ψ):B6:=A6e (BCm (e - f)&&(gk S n AMF AWH).ABR e)
def fk(S:B6)(n:Ψ)(bs:Jn):ü
 | 0=>0
 | k+1=>VH (cand S n bs k (AVs k))
theorem wK{S:B6}{n:Ψ}{bs:Jn}{k:Δ}{f e:Ψ}:e∈cand S n bs k f↔AW5/\BU3 (e - f)/\Afx e AWH:=by
 unfold cand;rw[Ĕ,kK,AuK]
theorem z0y{S:B6}{n:Ψ}{bs:Jn}(hn:AW6)(hg:AbH):∀k,k<=IP ->BWh/\ (Az' ->An'≠ [])
 | k,hk=>by
  have a:BWh:=by
   cases k with
   | Qb=>exact hg
   | Qr k=>
    have ih:=Bgo Η
    exact(wK.mp (z5u ih).1).2.2
  refine⟨a,AYT⟩;rw[IY (IP - k=IP - LN+1),wJ] at a
  obtain⟨_,o,ho,w⟩:=a;rw[zvf h] at w;intro e;have:=PV wK S S n n bs bs k k (f:=AgL) (e:=o) |>.mpr ⟨z6n hn ho,w,ho⟩
  show Da e;show L9
theorem yot{S:B6}{n:Ψ}{bs:Jn}(hn:AW6)(hg:AbH){k:Δ}(hk:Az'):
  AZR∈An'/\∀i∈An',i<=AZR:=z5u (Bgo hk)
theorem z7i:∀{a b:B6},AiQ a.Pairwise ->AiQ b.Pairwise ->(∀i,i∈a↔i∈b) ->a=b
 | [],[],_,_,_=>Β
 | [],y::b,_,_,h=>vc (h y).mpr zY A0
 | x::a,[],_,_,h=>vc (h x).mp zY A0
 | x::a,y::b,ha,hb,h=>by
  rw[AL3] at ha hb;have e:x=y:=by
   rcases A9o x zY with e | e
   ·exact e
   ·rcases Cn ((h y).mpr zY) with e' | e'
    ·exact e'.symm
    ·have:=hb.1 x e;have:=ha.1 y e';show Ω
  subst e;rw[z7i ha.2 hb.2 (GL ?_)];constructor
  ·intro hi;show Bfd mp ha.1
  ·intro hi;show Bfd mpr hb.1
section
variable{α:CB}[AYx]
def dZ(g hs:CU):AN:=hs.any fun h=>(Φ (h∈g))
theorem uw{g hs:CU}:AaW g↔∃x,AYI/\x∈hs:=by
 unfold dZ;rw[AL0];exact AQ0 Amm ⟨x,pj h2,h1⟩ Amm ⟨x,h2,UF h1⟩
theorem z6w{g hs:CU}(h:AEl (dZ g hs)){x:α}(h1:AYI):x∉hs:=fun h2=>by
 rw[uw.mpr Amm] at h;show GN
structure oA (Ss fs:c8):Ι where
 ne:AaO (f≠ [])
 dj:fs.Pairwise fun a b=>Bmc
 co:∀x,(∃f∈fs,APq)↔∃S∈Ss,x∈S
 CC:AWJ (AoJ (Ŏ S f))
 min:∀C:F6 α,(∀S∈Ss,Abq S S) ->AaO (Abq f f)
theorem oA.nil:oA ([]:c8) []:=by
 refine⟨?_,ATa,?_,?_,?_⟩
 ·intro _ h;show GN
 ·intro x;constructor
  ·rintro⟨_,h,_⟩;show GN
  ·rintro⟨_,h,_⟩;show GN
 ·show Apy
 ·intro _ _ _ h;show GN
theorem Zg:OQ fs c8 A9V (∀{a b:CU} {x:α},BB (a∈fs) (b∈fs) (x∈a) (x∈b) (a=b))
 | [],_,_,_,_,ha,_,_,_=>À ha ha ha ha ha ha ha ha ha ha ha ha ha ha
 | oa,h,a,b,x,ha,hb,xa,xb=>by
  show Az5;rcases Cn ha with e1 | ha1
  ·subst e1;rcases Cn hb with e | hb
   ·exact aT
   ·show L7 xb (EJ b hb x xa)
  ·rcases Cn hb with e | hb
   ·show vT (fw xa (EJ a BJO x xb))
   ·exact Zg h.2 BJO hb xa xb
theorem oA.step{Ss fs:c8}{S g:CU}(h:ARR)(hS:S≠ [])(hg:AfQ g (x∈S\/AoJ (dZ f S=Κ/\APq))):
  oA (Ss++ [S]) (AT_ (Bn f (! AFQ))++ [g]):=by
 have mf:∀f,f∈Aoo AFQ ->(f∈fs/\ AEl AFQ)\/f=g:=AaN (by
  rcases Ix hf with hf | hf
  ·show E5 (ASt hf)
  ·show HL (zR.mp hf))
 have mg:g∈Aoo AFQ:=zQ _ Ay3;have ml:AaO (AEl AFQ ->f∈Aoo AFQ):=fun f h1 h2=>zP _ (AdN A6P);refine⟨CA f hf,?_,VS Aje,CA T hT,IE C hC f hf hx⟩
 ·rcases mf f hf with hf | Β
  ·exact h.ne f hf.1
  ·intro z;cases S with
   | C3=>exact hS Β
   | AX x S=>
    show ARV (A5f zY) z
 ·rw[BII];refine⟨h.dj.filter _,BsZ _ _,fun a ha b hb x xa=> ?_⟩;show ik hb;show C5 ha hn ASt ha;intro xg;rcases(hg x).mp xg with xs | ⟨f,hf,hm,xf⟩
  ·exact z6w hn xa xs
  ·have:=Zg h.dj ha hf xa xf;show nN;rw[hm] at hn;show AE hn hn hn hn hn hn hn hn hn hn hn hn hn hn
 ·rintro⟨f,hf,xf⟩;rcases mf f hf with hf | Β
  ·obtain⟨T,hT,xT⟩:=(h.co x).mp ⟨f,hf.1,xf⟩;exact⟨T,zP _ hT,xT⟩
  ·rcases(hg x).mp xf with xs | ⟨f,hf,_,xf⟩
   ·exact⟨S,zQ _ Ay3,xs⟩
   ·obtain⟨T,hT,xT⟩:=(h.co x).mp (AO6 xf);exact⟨T,zP _ hT,xT⟩
 ·rintro⟨T,hT,xT⟩;rcases Ix hT with hT | hT
  ·obtain⟨f,hf,xf⟩:=(h.co x).mpr ⟨T,hT,xT⟩;cases q:AFQ with
   | Κ=>exact⟨g,mg,BbG xf⟩
   | AC=>exact⟨f,ml f hf (Y3 q),xf⟩
  ·rw[BoR hT] at xT;exact⟨g,mg,A5f xT⟩
 ·rcases Ix hT with hT | hT
  ·show DE f hf k h.sub T hT;cases q:AFQ with
   | Κ=>exact⟨g,mg,AQZ (BbG (k x hx))⟩
   | AC=>exact⟨f,ml f hf (Y3 q),k⟩
  ·show ik hT;exact⟨g,mg,AQZ (A5f hx)⟩
 ·have Za:∀T∈Ss,Abq T T:=fun T hT=>hC T (zP _ hT);have hCS:=hC S (zQ _ Ay3);rcases mf f hf with hf | Β
  ·exact h.min C Za f hf.1 hx
  ·have all:Af4 S:=by
    obtain⟨x,xf,cx⟩:=hx;rcases(hg x).mp xf with xs | ⟨f,hf,hm,xf⟩
    ·exact hCS ⟨x,xs,cx⟩
    ·have:=h.min C Za f hf ⟨x,xf,cx⟩;show Cc y y1 y2 uw.mp hm;exact hCS ⟨y,y2,Ρ y y1⟩
   intro y hy;rcases(hg y).mp hy with ys | ⟨f,hf,hm,yf⟩
   ·exact all y ys
   ·show Cc z z1 z2 uw.mp hm;exact h.min C Za f hf ⟨z,z1,all z z2⟩ y yf
theorem oA.incl(BhY)(h:ARR)(h' :oA Ma fs')(e:A_X){f f' :CU}{x:α}(hf:f∈fs)(hf' :f' ∈fs')(h1:APq)(h2:x∈f'):∀y∈f,y∈f' :=by
 refine h.min (· ∈f') (IE S hS ⟨z,z1,z2⟩ y hy) f hf Amm;show DE S' hS' k e S hS;show DE f2 hf2 k2 h'.sub S' hS';have:=Zg h'.dj hf' hf2 z2 (k2 z ((k z).mp z1));show nN;exact k2 y ((k y).mp hy)
theorem oA.same(BhY)(h:ARR)(h' :oA Ma fs')(e:A_X)(e' :∀S∈Ma,Bmm Ss){f:CU}(hf:f∈fs):∃f' ∈fs',AVL f f' :=by
 cases q:f with
 | C3=>show L7 q (h.ne f hf)
 | AX x r=>
  rw[<- q];have hx:APq:=CL q zY
  obtain⟨S,hS,xS⟩:=(h.co x).mp (AO6 hx);show DE S' hS' k e S hS;obtain⟨f',hf',xf'⟩:=(h'.co x).mpr ⟨S',hS',(k x).mp xS⟩;exact⟨f',hf',fun y=>(AQ0 hy (h.incl h' e hf hf' hx xf' y hy) hy (h'.incl h e' hf' hf xf' hx y hy))⟩
theorem oA.perm{Ss fs gs:c8}(h:ARR)(p:gs.Perm fs):oA Ss gs:=by
 refine⟨AaN (h.ne f (ArV hf)),?_,LV x,CA S hS,fun C hC f hf=>h.min C hC f (ArV hf)⟩
 ·exact(p.pairwise_iff (fun{a b} k x xb xa=>k x xa xb)).mpr h.dj
 ·rw[<- h.co x];exact⟨BXq ArV,BXq Ab_⟩
 ·show DE f hf k h.sub S hS;exact⟨f,Ab_ hf,k⟩
theorem VJ{β:CB}{R:D3 β β}(as:∀a b,R a b ->¬R b a):∀{l m:SC},BMc ->m.Pairwise R ->(AVL l m) ->l=m
 | [],[],_,_,_=>Β
 | [],b::m,_,_,h=>BlP ((h b).mpr zY)
 | FK,[],_,_,h=>BlP ((h a).mp zY)
 | FK,b::m,h1,h2,h=>by
  rw[AL3] at h1 h2;have e:a=b:=by
   rcases A9o a zY with e | q
   ·exact e
   ·show A1m (Cn ((h b).mpr zY)) e q' aT (Zl (ii b q') (as _ _ (h2.1 a q)))
  subst e;have irr:¬R a a:=A1 (as a a z z);rw[VJ as ϐ h2.2 (VS ⟨LV hx,LV hx⟩)]
  ·rcases A9o x Az7 with e | q
   ·show vT (fw (ii _ hx) irr)
   ·exact q
  ·rcases Cn ((h x).mpr Az7) with e | q
   ·show vT (fw (h2.1 _ hx) irr)
   ·exact q
theorem Qj:∀{l U:CU},l.Nodup ->(∀x∈l,x∈U) ->AiT AAs
 | [],U,_,_=>LU
 | FK,U,nd,h=>by
  have nd' :=Adq nd;have ha:=h a zY;have:=Qj (l:=l) (U:=U.erase a) nd'.2 (AQZ (by
   have ne:x≠a:=AEo nd'.1 hx;exact(List.mem_erase_of_ne ne).mpr (h x (zW _ hx))))
  rw[List.length_erase_of_mem ha] at Ρ;have:0<AAs:=Bql ha;rw[GV];show Ω
theorem zmu:∀{fs:c8},A9V ->(Aa2 f.Nodup) ->fs.flatten.Nodup
 | [],_,_=>C_
 | oa,h,k=>by
  show Az5;rw[Ab',AL4];refine⟨k f zY,zmu h.2 (BSI k),IE a ha b hb e⟩;subst e;show AjL g hg ag hb;exact EJ g hg a ha ag
#where
def c7(g:AAf):Ai8
 | []=>0
 | þ=>g c cs - lc d ds (g d wP) cs
abbrev Row:=dE
def dt:FR ->DD ->AM
 | [],[]=>1
 | [],Db=>0
 | oQ,cs=>A_r (r c)
theorem zmr{g h:AAf}:Ax3 (∀c ds,g c ds=h c ds) (c7 g cs=c7 h cs)
 | [],_=>Β
 | þ,e=>v4 c7 e (zmr (cs:=cs) fun d ds=>e d wP)
theorem zun{g h:AAf}:BX1 (g c ds+h c ds) (c7 g cs+c7 h cs)
 | []=>ů c7
 | þ=>AwH c7 (zun (cs:=cs))
theorem Zh{g:AAf}(k:AM):BX1 (k*g c ds) (k*c7 g cs)
 | []=>ů c7
 | þ=>AwH c7 (Zh k (cs:=cs))
theorem zlm{g:AAf}:OQ cs DD (∀c∈cs,∀ds,g c ds=0) (c7 g cs=0)
 | [],_=>Β
 | þ,h=>AlI c7 (h c AAt) (zlm (cs:=cs) fun d hd ds=>h d (Ai2 hd) _)
def two(r s:Row)(h:Ai8)(cs:DD):AM:=lc c ds (r c*A5z ds) cs
theorem z1b(r s:Row):∀(cs:DD) (h:Ai8),two r s h cs= - two s r h cs
 | [],h=>by unfold two c7;grind
 | þ,h=>by
  have Ap:∀r s:Row,two r s h (c::cs)=BXd - s c*lc d es (r d*h es) cs+two r s (Bn es (h (c::es))) cs:=by
   intro r s;refine(?_:BXd - lc x ds (r x*A5z wP) cs=_);have e:(fun(Lu x) (ds:DD)=>r x*A5z wP)=fun x ds=>(s c* (r x*h ds))+ Ki* (r x*BUg):=by
    funext x ds
    show uS (r x* (s c*h ds - BUg))
    grind
   rw[e,zun,Zh,Zh];unfold two
   grind
  rw[Ap r s,Ap s r,z1b r s cs]
  grind
theorem z56(r s:Row)(rs:FR)(cs:DD):dt (r::s::rs) cs= - dt (s::oQ) cs:=z1b r s cs (dt rs)
theorem half{x:AM}(h:x= -x):x=0:=Tk
theorem ygg{r:Row}:BCu (r∈rs) (dt AQJ cs=0)
 | [],_,h=>D4
 | s::rs,cs,h=>by
  show APP AEk e
  ·subst e;exact half (z56 r r rs cs)
  ·rw[z56];show Ame (dt (s::oQ) cs=0) (zlm fun c _ ds=>by
    rw[ygg h];grind)
def i_:BC ->FR ->Row
 | AJ8,oQ=>F8 (k*r j+AKF)
 | _,_=>ź
theorem yok(r s:Row)(k:AM)(rs:FR)(cs:DD):ADt (UX (r j+k*s j)) cs (dt AQJ cs+k*dt (s::rs) cs):=by
 show Ct (c7 (hZ ds ((r c+k*s c)*UY ds)) cs=A_r (r c)+k*A_r (s c));rw[<- Zh,<- zun];exact zmr fun c ds=>Tk
theorem Zi{rs:FR}{cs:DD}:∀{ks:BC} {ss:FR} {r:Row},(∀s∈ss,s∈rs) ->ADt BOt cs (dt AQJ cs)
 | [],ss,r,_=>by
  have:(UX (r j+i_ [] ss j))=r:=BOa
  rw[Ρ]
 | AJ8,[],r,_=>by
  have:(BUN [])=r:=BOa
  rw[Ρ]
 | AJ8,s::ss,r,h=>by
  have e:(BUN (s::ss))=F8 (BOt j+k*s j):=by
   funext j
   show uS (r j+ (k*s j+i_ ks ss j))
   grind
  rw[e,yok,Zi (ks:=ks) fun t ht=>h t (Ai2 ht),ygg (h s AAt)]
  grind
theorem zt6{r:Row}{rs:FR}{j:Δ}{cs:DD}(h:∀c∈cs,r c=0):ADt r tq A4f:=by
 show uS (A4f - A4l d (r d));rw[zlm fun c hc ds=>(AAQ (h c hc))]
 grind
def Zj(f:Ai8):Ι:=∀DS c d Eg,f Akf= - f (DS++d::ACl)
theorem zvy:∀(DS:DD) (g:AAf) (c d:Δ) (Eg:DD),(∀x,Zj (g x)) ->c7 g Akf= - c7 g A1I
 | [],g,c,d,Eg,h=>by
  have Ap:∀c d,c7 g (c::AgC)=g c (d::Eg) - g d (c::Eg)+BCI:=by
   intro c d;show uS (g c (d::Eg) - (g d (c::Eg) - BCI))
   grind
  have e:c7 (fun x es=>g x (d::c::es)) Eg=Ki*BCI:=gi Zh zmr (fun x es=>by
    have:=h x [] d c es;simp only [LY] at Ρ;rw[Ρ];grind)
  refine(?_:c7 g (c::AgC)= - c7 g (d::ACl));rw[Ap c d,Ap d c,e]
  grind
 | a::DS,g,c,d,Eg,h=>by
  show Ct (g a Akf - BUd Akf= - (g a A1I - BUd A1I));rw[h a DS c d Eg,zvy DS (fun x ds=>g x (a::ds)) c d Eg fun x p c d q=>h x (a::p) c d q]
  grind
theorem zi0:∀rs:FR,Zj (dt rs)
 | []=>Ba4 (by (show KU DS DS DS DS DS DS DS DS DS DS DS DS DS DS)<;>(unfold dt;grind))
 | oQ=>Ba4 (zvy DS _ c d Eg fun x p a b q=>(AAQ (zi0 rs p a b q)))
theorem Zk(rs:FR):∀{Eg DS:DD} {c:Δ},c∈Eg ->dt rs AVe=0
 | [],_,_,h=>D4
 | AgC,DS,c,h=>by
  show APP AEk e
  ·subst e;exact half (zi0 rs DS c c Eg)
  ·rw[zi0 rs DS c d Eg];have:=Zk rs (DS:=DS++ [d]) h;show Da x5;rw[ϣ (DS++d::ACl=DS++ ([d]++ACl)),Ρ];grind
def mV(rs:FR)(f:Row):Ι:=∃ks:BC,Sk=w8/\∀j,f j=AKF
theorem z1h:∀{ks ls:BC} {rs:FR},BMf ->ls.length=w8 ->BdH (AlE=AKF+i_ ls rs j)
 | [],[],[],_,_=>A8t (ů i_)
 | AJ8,l::ls,oQ,h1,h2=>by
  show DE ms h3 h4 (z1h (ks:=ks) (ls:=ls) (rs:=rs)) AOb AWk
  refine⟨(k+l)::ms,DT h3,AYV⟩
  show(k+l)*r j+AlE=(k*r j+AKF)+ (l*r j+i_ ls rs j);rw[h4];grind
 | [],_,Db,h,_=>D4
 | Db,_,[],h,_=>D4
 | _,[],Db,_,h=>D4
 | _,Db,[],_,h=>D4
theorem z05(x:AM):RY ks BC rs FR BMf (BdH (AlE=x*AKF))
 | [],[],_=>A8t (ů i_)
 | AJ8,oQ,h1=>by
  show Cc ms h3 h4 (z05 x (ks:=ks) (rs:=rs)) AOb
  refine⟨(x*k)::ms,DT h3,AYV⟩
  show(x*k)*r j+AlE=x* (k*r j+AKF);rw[h4];grind
 | [],Db,h=>D4
 | Db,[],h=>D4
theorem mV.add(BbJ)(h1:Ϻ)(h2:AYv):AJ2 (f j+g j):=by
 obtain⟨ks,a,b⟩:=h1;obtain⟨ls,c,d⟩:=h2;show DE ms e q z1h a c;exact⟨ms,e,F8 (by show Ct (f j+g j=_);rw[q,b,d])⟩
theorem mV.mul{rs:FR}{f:Row}(x:AM)(h:Ϻ):AJ2 (x*f j):=by
 show Th ks a b;show DE ms e q z05 x a;exact⟨ms,e,F8 (by show Ct (x*f j=_);rw[q,b])⟩
theorem zpu:∀(rs:FR),∀j,BDo=0
 | [],j=>MY
 | oQ,j=>by
  show Ct (0*r j+BDo=0);rw[zpu rs j];grind
theorem ArW(rs:FR):mV rs ź:=AEg (dr ź) (F8 (zpu rs j).jp)
theorem mV.cons{rs:FR}{f:Row}(r:Row)(h:Ϻ):mV AQJ f:=by
 show Th ks a b;refine⟨0::ks,DT a,AYV⟩
 refine(?_:f j=0*r j+AKF);rw[b];grind
theorem ArX(r:Row)(rs:FR):mV AQJ r:=by
 refine AEg (1::dr ź) AYV
 refine(?_:r j=1*r j+BDo);rw[zpu];grind
theorem mV.mem{r:Row}:OQ rs FR (r∈rs) (mV rs r)
 | s::rs,h=>by
  rcases AEk with e | h
  ·subst e;exact ArX r rs
  ·exact(mV.mem h).AX s
theorem mV.congr(BbJ)(h:Ϻ)(e:∀j,g j=f j):AYv:=by
 show Th ks a b;exact⟨ks,a,F8 (G0 e b)⟩
theorem z8s{rs:FR}:RY cs DD g (Δ ->Δ ->DD ->AM) (∀x ds,AJ2 (g j x ds)) (AJ2 (c7 (g j) cs))
 | [],g,_=>ArW rs
 | þ,g,h=>by
  have h1:=h c cs;have h2:=(z8s (cs:=cs) (g:=fun j x ds=>g j x wP) fun x ds=>h x wP).mul Ki;exact(h1.add h2).ASV (AaB (g j c cs - lc d ds (g j d wP) cs=_))
theorem z2b:∀(rs:FR) (cs:DD),AJ2 (UY tq)
 | [],cs=>A8t MY
 | oQ,cs=>by
  have h1:=(ArX r rs).mul (dt rs cs);have h2:mV AQJ (F8 (A4l x (r x))):=z8s fun x ds=>(((z2b rs ds).AX r).mul (r x));exact(h1.add (h2.mul Ki)).ASV (AaB (A4f - A4l d (r d)=_))
theorem z8m(rs:FR):∀(n:Δ) (DS Eg:DD),pre.length=n ->AJ2 (UY A1H)
 | 0,DS,Eg,h=>by
  have:=Atz h;show nN;exact z2b rs Eg
 | n+1,DS,Eg,h=>by
  have hne:DS≠ []:=A1 (by subst z;show GN)
  have e:=List.dropLast_concat_getLast hne;have ih:=(z8m rs n BFM (BPq::Eg) (IB h)).mul Ki
  refine ih.congr fun j=> ?_;have e2:BFM++BPq::Agr=DS++Agr:=by
   have:=ϵ (· ++j::post)
   simpa only [x5,List.singleton_append] using Ρ
  rw[<- e2,zi0 rs BFM (pre.getLast hne) j Eg]
  grind
def wL(x:AM):Ι:=∃z:Ψ,x=BE z
theorem wL.sub(BSy):wL (x - y):=by
 show ka a h1;show ka b h2;exact⟨a - b,BJ0⟩
theorem wL.mul(BSy):wL (x*y):=by
 show ka a h1;show ka b h2;exact⟨a*b,BJz⟩
theorem z6a{g:AAf}:Ax3 (∀c ds,wL (g c ds)) (wL (c7 g cs))
 | [],_=>⟨0,MY⟩
 | þ,h=>(h c cs).CC (z6a (cs:=cs) fun d ds=>h d wP)
theorem z7e:BCu (∀r∈rs,AWU r) (wL (dt rs cs))
 | [],[],_=>⟨1,MY⟩
 | [],Db,_=>⟨0,MY⟩
 | oQ,cs,h=>z6a fun c ds=>BgK (z7e fun s hs=>h s (zW _ hs))
theorem zvg{rs:FR}{cs:DD}{f:Row}(h:Ϻ)(z:Ann)(d:UY cs≠0)(j:Δ):f j=0:=by
 show A6K h;have h1:A4m:=zt6 z;have h2:ADt f tq (dt BKh tq):=by
  show ArL (j::cs) ź;show u_
  congr 2
  funext i
  rw[e];grind
 have h3:dt BKh tq=0:=zlm fun c _ ds=>by show Ct (0*UY ds=0);grind
 rw[h3,h1] at h2;rcases ASW h2 with q | q
 ·exact q
 ·show L7 q d
theorem ykd(AKh){a f g:Row}(hf:A6i)(hg:AYv)(z:Ann)(wa:AWU a)(wr:A4K)(j:Δ):wL (UY cs*f j):=by
 show A6K hg;have h1:A4m:=zt6 z;have h2:ADt f tq (dt ϯ tq):=by
  show ArL (j::cs) a;show u_
  congr 2
  funext i
  rw[hf,e]
 rw[ASX,<- h1,h2];exact z7e (c_ (by
  show AKW A6G
  ·subst q;exact wa
  ·exact wr r q))
theorem ymz(Biw)(h:Ϻ)(EF:f c=1)(z:BQ9)(wr:A4K)(d:UY AVe≠0)(j:Δ):wL (A2M):=by
 have hl:=z8m rs _ DS Eg Β;have e:dt rs A1H=A2M:=by
  have Ap:=zvg (cs:=DS++ACl) Bdw Ani d j
  ·grind
  ·by_cases hc:x=c
   ·subst hc;rw[EF];grind
   ·have hx' :x∈AxN:=by
     rcases Ix hx with q | q
     ·exact zP _ q
     ·show BbM
    rw[z x hx'];show Ame (dt rs BKp=0) (by
     show AKW (Ix hx')
     ·show Cc p1 p2 Β ArY q;have:=Zk rs (DS:=p1) (Eg:=p2++x::Eg) (c:=x) A0
      rw[x5];exact Ρ
     ·exact Zk rs q)
 rw[<- e];exact z7e wr
structure Low (rs:FR) (cs:DD) (a f:Row):Ι where
 g:∃g:Row,AYv/\A6i
 z:Ann
structure Up (rs:FR) (cs:DD) (c:Δ) (f:Row):Ι where
 l:Ϻ
 o:f c=1
 z:∀x∈cs,x≠c ->f x=0
theorem Low.dt(AKh){a f:Row}(h:Aan f)(p:Δ):AcC ϯ AJ3=BX0:=by
 obtain⟨⟨g,⟨ks,_,e⟩,hf⟩,z⟩:=h;have h1:AcC (f::rs) AJ3=BX0:=zt6 z;have h2:AcC (f::rs) AJ3=AcC ϯ AJ3:=by
  show ArL (p::cs) a;show u_
  congr 2
  funext i
  rw[hf,e]
 rw[<- h2,h1]
theorem Low.lin(AKh){a f:Row}(h:Aan f):mV ϯ f:=by
 obtain⟨⟨g,l,hf⟩,_⟩:=h;exact((ArX a rs).add (l.cons a)).ASV hf
theorem Low.step(AKh){a b q f:Row}{p:Δ}(hq:Aan q)(hp:q p≠0)(h:Low rs cs b f):Low ϯ AJ3 b BWM:=by
 obtain⟨g,l,hf⟩:=h.g;refine Po (ET ((l.cons a).add (BFP (-(AJC)))) (F8 (by show Ct (f j - AJC*q j=b j+ (g j+ -(AJC)*q j));rw[hf j];grind))) c hc
 rcases Cn hc with e | hc
 ·subst e;rw[Boq hp];grind
 ·rw[h.z c hc,hq.z c hc];grind
theorem Up.step(AKh){a q f:Row}{p c:Δ}(hq:Aan q)(hp:q p≠0)(h:Up rs cs c f)(hc:c∈cs):Up ϯ AJ3 c BWM:=by
 refine⟨((h.l.cons a).add (BFP (-(AJC)))).ASV (AaB (f j - AJC*q j=f j+ -(AJC)*q j)),?_,BUw⟩
 ·rw[h.o,hq.z c hc];grind
 ·rcases Cn hx with e | hx
  ·subst e;rw[Boq hp];grind
  ·rw[h.z x hx n,hq.z x hx];grind
theorem Up.new(AKh){a q:Row}{p:Δ}(hq:Aan q)(hp:q p≠0):Up ϯ AJ3 p (UX (q j/q p)):=by
 refine⟨(BFP (1/q p)).ASV (AaB (q j/q p=1/q p*q j)),?_,BUw⟩
 ·grind
 ·rcases Cn hx with e | hx
  ·show L7 e n
  ·rw[hq.z x hx];grind
def i':MR DD
 | 0=> []
 | p+1=>p::ANw
theorem lA{x:Δ}:∀{p:Δ},x∈ANw↔x<p
 | 0=>DT i'
 | p+1=>by
  unfold i';rw[ē,lA];show Ω
theorem znd:∀p,mr i' p
 | 0=>Ad5
 | p+1=>qV BsA ⟨GI (OR (lA.mp h)),znd p⟩
def jk(A:lI)(k:Δ):Row:=F8 (BE (A k j))
theorem z2m(A:lI)(k j:Δ):wL (jk A k j):=E4
structure BT (n:Δ) (A:lI) (p:Δ) (d:Ψ) (tb:lI) (rs:FR) (fs:AMr) (ix:z0):Ι where
 w:∀r∈rs,BTy
 de:BE d=Aqd
 nz:d≠0
 up:ADX p (Up rs Akm i (fs i))
 lo:AaJ p (ix i<n/\Low rs Akm (jk A (ix i)) (fs i))
 all:∀k,k<n ->jk A k∈rs\/∃i,p<=i/\i<n/\ix i=k
 t:AFN (∀j,BE (tb i j)=d*fs i j)
theorem yc5(n:Δ)(A:lI):BT n A 0 1 A [] (jk A) id:=by
 refine⟨fun r h=>(by (first|subst h|exact aaA h|exact aaB h|exact aaD h|exact aaC h|exact aaF h|exact aaE h|exact aaG h|show ľ|show OC h|show OA h|show NB h|show OB h|cases (h))),?_,B4,fun i h=>(BLe h),fun i _ h=>⟨h,ET (ArW []) (AaB (jk A i j=jk A i j+0)),fun c h=>D4⟩,fun k h=> .B0 ⟨k,LU,h,Β⟩,At i _ j⟩
 ·rfl
 ·show BE AP8=1* BE AP8
  grind
theorem BT.dz(AhE)(h:AIu):Aqd≠0:=NN h.de (Ao9 h.nz)
theorem yis{n:Δ}{rs:FR}{p:Δ}{f:Row}(wr:A4K)(dz:Aqd≠0)(h:(∃c,c<p/\Up rs Akm c f)\/∃a,(AWU a)/\Low rs Akm a f)(j:Δ):wL (Aqd*f j):=by
 rcases h with ⟨c,hc,u⟩ | ⟨a,wa,l⟩
 ·show Ϣ DS Eg (ArY (Ara hc));have nd:=znd p;rw[e] at nd;have Ap:=BXC ymz (Eg:=Eg) (c:=c) (f:=f) u.l u.o Ani wr (U' e dz) j
  ·rw[e];exact Ap
  ·refine u.z x ?_ vk
   ·rw[e];show BVo
   ·subst z;show Bjr
 ·obtain⟨g,lg,hf⟩:=l.g;exact ykd hf lg l.z wa wr j
def uz(p s i:Δ):Δ:=î p s (î s p i)
def AGU(p s:Δ)(d:Ψ)(tb:lI):lI:=AMW (î p (tb s j) Bft)
theorem yhv{x d z:Ψ}(d0:d≠0)(e:x=d*z):x.fdiv d=z:=by
 rw[e,Aet,Int.mul_fdiv_cancel _ d0]
theorem Tz{a b:Ψ}(h:BE a=BE b):a=b:=ò h
theorem BT.step{n p s:Δ}(Au9)(h:AIu)(ps:p<=s)(sn:s<n)(nz:AO2≠0):
  ∃rs' fs' TF,BT n A (p+1) (tb s p) (AGU p s d tb) rs' fs' TF :=by
 show Ee hk lq h.lo s ps sn;have ts:BE AO2=d*Ahr:=h.t s sn p;have qz:Ahr≠0:=A1 (nz (Tz (by rw[ts,z];grind)))
 have d0:AmX:=A1 (h.nz (Tz (Y3 z)))
 let rs' :FR:=jk A (ix s)::rs
 let fs' :AMr:=GL (î p (UX (fs s j/Ahr)) (UX (fs ANn j - BbV)))
 let TF :z0:=GL (ix (uz p s i))
 have dd:dt rs' A8M=BE AO2:=by
  show Ct (ADt (jk A (ix s)) A8W _);rw[lq.dt p,<- h.de,ts,ASX]
 have w' :∀r∈rs',BTy:=c_ (by
  show AKW A6G
  ·exact ET hk q
  ·exact h.w r q)
 show EW wr' (∀r∈rs',AWU r) (A'J (by show AEb k (w' r hr);exact z2m A k j)) nz' (BE AO2≠0) (A1 (nz (Tz (Y3 z)))) up' (ADX (p+1) (Up rs' A8M i (fs' i))) (LW (by
  by_cases e:i=p
  ·subst e;show BV (Up rs' (i::i' i) i (B3 (i=i) _ _));show XY;exact Up.new lq qz
  ·have hip:i<p:=Τ
   have es:uz p s i=i:=by unfold uz;show YV e Η
   show BV (Up rs' A8W i BO1);rw[CO e,es];exact Up.step lq qz (h.up i hip) (Ara hip))) Zm (AaJ (p+1) (TF i<n/\Low rs' A8M (jk A (TF i)) (fs' i))) (fun i hi hn=>by
  have hs:p<=BBH/\BBH<n:=by
   unfold uz;show BN Η
   show Ù
  show Ee g1 g2 h.lo _ hs.1 hs.2;refine CI g1;show BV (Low rs' A8W _ BO1);show BN Η
  exact Low.step lq qz g2)
 refine⟨rs',fs',TF,w',dd.symm,nz,up',Zm,CA k hk',At i hi j⟩
 ·rcases h.all k hk' with q | ⟨i,q1,q2,q3⟩
  ·show E5 (zW _ q)
  ·by_cases e:i=s
   ·subst e;show E5 (U' q3 zY)
   ·by_cases ep:i=p
    ·subst ep;show To (.B0 ⟨s,Τ,sn,?_⟩) (ix (uz i s s)=k);unfold uz;rw[CO Η,E2];exact q3
    ·show To (.B0 ⟨i,Τ,q2,?_⟩) (ix ANn=k);unfold uz;show YV ep e;exact q3
 ·by_cases e:i=p
  ·subst e;show Pe (î i (tb s j) _)=BE (tb s i)* (B3 (i=i) (UX (fs s j/fs s i)) _) j;rw[E2,E2,h.t s sn j,ts]
   grind
  ·have hs:BBH<n:=by unfold uz;show BN e;show Ù
   have iz:wL (dt rs' (i' (p+1))*fs' i j):=yis (n:=n) wr' (EQ dd nz') (by
    by_cases q:i<p
    ·show E5 ⟨i,Τ,up' i Η⟩
    ·show Ee g1 g2 Zm i Η hi
     show HL (ET (z2m A _) g2)) j
   obtain⟨z,hz⟩:=iz;rw[dd] at hz;have hf:fs' i j=fs ANn j - BbV:=by
    show(î p _ _:Row) j=_;show BN e
   show Pe (î p _ Bft)=BE AO2*fs' i j;rw[CO e,hz]
   congr 1
   refine yhv h.nz (Tz ?_);rw[Aew,RA,RA,RA,h.t _ hs j,h.t _ hs p,h.t s sn j,<- hz,hf,ts]
   grind
def d7:ACG (dE) AM
 | 0,_=>0
 | n+1,g=>d7 n g+g n
theorem Qk{g h:dE}:OQ n Δ (AFN (g i=h i)) (d7 n g=d7 n h)
 | 0,_=>Β
 | n+1,e=>v4 d7 (Qk (LW (e i Η))) (e n Η)
theorem z2i{g:dE}{c:Δ}:∀{n:Δ},c<n ->(∀i,i<n ->i≠c ->g i=0) ->d7 n g=g c
 | n+1,hc,h=>by
  unfold d7;by_cases e:c=n
  ·subst e;show Ame (d7 c g=0) (by
    rw[Qk (h:=ź) (LW (h i Η Η))]
    clear h hc;induction c with
    | Qb=>rfl
    | Qr c ih=>show A_T)
  ·rw[z2i (n:=n) Η fun i hi n' =>h i Η n',h n Η (A1 (e pr))];grind
theorem z67{rs:FR}{fs:AMr}(a:dE):OQ p Δ (∀c,c<p ->mV rs (fs c)) (AJ2 (d7 p (Œ (a c*fs c j))))
 | 0,_=>ArW rs
 | p+1,h=>((z67 a (ĉ (h c Η))).add ((h p Η).mul (a p))).ASV (F8 Β)
theorem BT.span(A4p){f:Row}(l:Ϻ)(j:Δ):f j=d7 p (Œ (f c*fs c j)):=by
 have hl:=l.add ((z67 (rs:=rs) (fs:=fs) f (p:=p) (ĉ (h.up c hc).l)).mul Ki);have Ap:=zvg (cs:=ANw) hl (TU c hc) h.dz j
 ·grind
 ·have hc' :=lA.mp hc;rw[z2i hc' fun i hi ni=>(AAQ ((h.up i hi).z c hc (ALC ni))),(h.up c hc').o]
  grind
theorem BT.eqn(A4p){j:Δ}(z:AaJ p (fs i j=0)){k:Δ}(hk:k<n):
  jk A k j=d7 p (AEV (fs c j)):=by
 rcases h.all k hk with q | ⟨i,q1,q2,Β⟩
 ·exact h.span (mV.mem q) j
 ·obtain⟨_,l⟩:=h.lo i q1 q2;obtain⟨g,lg,hf⟩:=l.g;have h1:=h.span lg j;have h2:∀c,c<p ->g c= - BhG:=ĉ (by
   have:=hf c;show Da (l.z c (Ara hc))
   grind)
  have h3:=hf j;rw[z i q1 q2] at h3;have h4:(d7 p (Œ (g c*fs c j)))= - d7 p (Œ (BhG*fs c j)):=by
   have neg:BfT:=fun m u=>by
    induction m with
    | Qb=>unfold d7;grind
    | Qr m ih=>show A_T
   rw[<- neg];exact Qk (ĉ (AAQ (h2 c hc)))
  rw[h4] at h1
  grind
theorem BT.sol{n:Δ}{A:lI}{d:Ψ}{tb:lI}{rs:FR}{fs:AMr}{ix:z0}(h:Bhe n){k:Δ}(hk:k<n)(j:Δ):jk A k j=d7 n (AEV (fs c j)):=
 h.eqn (fun i h1 h2=>Τ) hk
theorem BT.diag(A4p){i:Δ}(hi:i<p)(hn:i<n):tb i i=d:=by
 have:=h.t i hn i;show Da (h.up i hi).o;exact Tz (by rw[Ρ];grind)
theorem BT.stuck(AhE)(h:AIu)(pn:p<n)(z:AaJ p (tb i p=0)):
  ∃x:dE,x p=1/\∀k,k<n ->(d7 n (AEV (x c)))=0:=by
 have d0:AmX:=Tb (h.nz (Tz (Y3 q)))
 have z' :AaJ p (fs i p=0):=A9k (by
  have:=h.t i h2 p;show Da (z i h1 h2);rcases ASW (show BE d*fs i p=0 by show u_;rfl) with q | q
  ·show L7 q d0
  ·exact q)
 refine AEg (Œ (if c<p then - AW7 else Ax9 c)) (CA k hk)
 have e:=h.eqn z' hk;have cut:∀m,p<m ->m<=n ->Bfu=(d7 p (AEV (- AW7)))+jk A k p:=fun m=>by
  induction m with
  | Qb=>intro hm;show Ω
  | Qr m ih=>
   intro hm hn;show Bfu+jk A k m* (B3 (m<p) (- fs m p) (Ax9 m))=_;by_cases q:m=p
   ·subst q;rw[CO Η,E2]
    rw[Qk (h:=AEV (- fs c m)) (ĉ (by show DF hc))]
    grind
   ·rw[ih Η Η,vi,NW];grind
 rw[cut n pn (AKq _),e];have neg:(d7 p (AEV (- AW7)))= - d7 p (AEV AW7):=by
  have:BfT:=fun m u=>by
   induction m with
   | Qb=>unfold d7;grind
   | Qr m ih=>show A_T
  show u_;exact Qk fun c _=>Tk
 rw[neg];grind
def aC(Anc):CU ->(F9) ->AM
 | [],_=>0
 | FK,f=>f a+dc
section
variable{α β:CB}
theorem mX{f g:F9}:AbK (f a=g a) (aC l f=aC l g)
 | [],_=>Β
 | FK,h=>v4 aC BQv (mX (APs (AKp _ hb)))
theorem VL{f g:F9}:A9y (f a+g a) (dc+aC l g)
 | []=>AlG
 | FK=>A_7 VL
theorem Nr{f g:F9}:A9y (f a - g a) (dc - aC l g)
 | []=>AlG
 | FK=>A_7 Nr
theorem Mf(k:AM){f:F9}:AIq (GM l a (k*f a) (k*dc))
 | []=>AlG
 | FK=>A_7 (Mf k)
theorem Ql{f:F9}:AbK (f a=0) (aC l f=0)
 | [],_=>Β
 | FK,h=>AlI aC BQv (Ql (APs (AKp _ hb)))
theorem Qm(k:AM):AIq (aC l (D9 k)=BJa*k)
 | []=>by
  show BE 0=AZN*k;have:AZN=0:=Β;rw[Ρ];grind
 | FK=>by
  show Ct (k+aC l (D9 k)=ADG (GY+1)*k);rw[Qm k];have:ADG (GY+1)=BJa+1:=ò Β
  rw[Ρ];grind
theorem Zn{f:α ->β ->AM}{m:SC}:A9y BBS (aC m (dP (AJ1 (f a b))))
 | []=>JO (X_ Ql AI6)
 | FK=>by
  show Ct (BBS+aC l (Bn a BBS)=aC m (dP (f a b+AJ1 (f a b))));rw[Zn (l:=l),<- VL]
theorem zre{f:F9}:∀{l m:CU},aC (l++m) f=dc+Alw
 | [],m=>by show Ct (aC m f=0+Alw);grind
 | FK,m=>by show Ct (f a+aC (l++m) f=(f a+dc)+Alw);rw[zre];grind
theorem zlo{f:F9}{l m:CU}(h:l.Perm m):aC l f=Alw:=by
 induction h with
 | C3=>rfl
 | AX x _ ih=>show Ct (f x+_=f x+_);rw[ih]
 | swap x y l=>show Ct (f y+ (f x+dc)=f x+ (f y+dc));grind
 | EC _ _ h1 h2=>rw[h1,h2]
theorem Mg{f:F9}{p:AIm}:AIq (aC (AMC p) f=AJ1 BRB)
 | []=>Β
 | FK=>by
  rw[kX];refine(?_:_=(B3 AO7 (f a) 0)+AJ1 BRB);rw[<- Mg (l:=l)];by_cases h:AO7
  ·rw[AXk,AXk];rfl
  ·rw[AXl,AXl];grind
theorem Mh{f:P3}{g:AYm}:AIq (aC (E_ g) f=AJ1 (f (g a)))
 | []=>Β
 | FK=>Aka (f (g a)+_=f (g a)+_) Mh
theorem Zo{f:F9}:AbK (0<=f a) (0<=dc)
 | [],_=>JO AKs
 | FK,h=>by
  have h1:=h a zY;have h2:=Zo (APs A8s);show Ct (0<=f a+dc)
  grind
theorem VN{f:F9}:AIq ((AUl (0<=f a)) ->aC l f=0 ->∀a∈l,f a=0)
 | FK,h,e=>by
  have h1:=h a zY;have h2:=Zo (APs A8s);have e' :f a+dc=0:=e;have e1:f a=0:=Tk
  have e2:aC l f=0:=Tk
  intro b hb;rcases Cn hb with q | q
  ·rw[q];exact e1
  ·exact VN (NJ (h b A8s)) e2 b q
 | [],_,_=>fun a h=>D4
#where
section
variable{α:CB}[AYx]
theorem VP{f:F9}{s hs:CU}(ns:s.Nodup)(nh:ASY)(CC:Ŏ s hs):GM hs h (XA Ő (f h)) (aC s f):=by
 have p:(hs.filter (GI (Φ Ő))).Lm s:=by
  rw[List.perm_ext_iff_of_nodup (nh.filter _) ns];intro a;rw[Ĕ];exact⟨GI (BoP h.2),GI ⟨CC a h,UF h⟩⟩
 rw[<- zlo p,Mg];exact mX fun a _=>by by_cases h:a∈s<;>simp [h]
def cX(s:CU)(x:F9):AM:=Aur (aC s x)
theorem z60{s:CU}(h:s≠ [])(x:F9):BJb*AMc=aC s x:=by
 have z:BE Ark≠0:=by
  have:=AAu h;intro e;have:Ark=0:=ò e
  show Ω
 unfold cX;rw[N_,ASX,yB,AJV z];grind
theorem zuc(s:CU)(x:F9):GM s h AnQ 0:=by
 rw[Nr,Qm];by_cases h:s= []
 ·subst h;show AXn - AZN*_=0;have:AZN=0:=Β;rw[Ρ];grind
 ·rw[z60 h];grind
def rC(S:c8)(x:F9)(h:α):AM:=AQw AnQ
theorem z1n(BjW)(c x:F9):GM hs h (c h*A7U) (aC S fun s=>aC s (GI (c h* ç))):=by
 unfold rC;have e:GM hs h (c h*AQw AnQ) (aC hs (GI (AQw (c h* ç)))):=
  mX fun h _=>(gi Mf mX (AQh (by split<;>grind)))
 rw[e,Zn];exact mX fun s hS=>(BEk VP)
theorem yk2(AyP)(ns:Ahp)(nh:ASY)(CC:Axh)(x:F9):aC hs A9P=0:=by
 have e:=z1n ns nh CC (D9 1) x;have e1:GM hs h (1*A7U) (aC hs A9P):=A5g
 rw[<- e1,e];exact Ql (AQh (by
  have e2:A9u 1 (aC s (P4 AnQ)):=A5g
  rw[e2,zuc]))
theorem zli(r:AM):0<=r*r:=by
 rcases Rat.le_total (a:=0) (b:=r) with h | h
 ·exact BJI h h
 ·have h' :0<= -r:=Tk
  have:=BJI h' h'
  grind
theorem z5v{r:AM}(h:r*r=0):r=0:=by
 rcases ASW h with h | h<;>exact h
theorem yfx(BjW){x:F9}(z:AYk BDt):AHu (∀h∈s,x h=AMc):=by
 have e:=z1n ns nh CC x x;rw[Ql fun h hh=>(AAQ (z h hh))] at e
 have e2:∀s,A9u (x h) (aC s (GI (ç* ç))):=by
  intro s;have a1:=zuc s x;have a2:A9u ç (aC s (GI (x h* ç - AMc* ç))):=A5g
  rw[a2,Nr,Mf,a1];grind
 have e3:GM S s (aC s (GI (ç* ç))) 0:=by
  rw[e];exact mX (AQh (X_ e2 s))
 intro s hs h hh;have h1:=VN (YN s (Zo fun h _=>zli _)) e3 s hs;have h2:=VN (YN h (zli _)) h1 h hh;have:=z5v h2
 grind
def jz(S:c8)(h:α):AM:=AQw 1
theorem zsz(S:c8)(h:α):0<=AJF:=Zo fun s _=>BJK
theorem yjv{S:c8}{h:α}(i:∃s∈S,Ő):0<AJF:=by
 obtain⟨s,hs,hh⟩:=i;refine Rat.lt_of_le_of_ne (zsz S h) vk;have:=VN (l:=S) (f:=AMk Ő (BE 1)) (YN s BJK) pr s hs
 show Da (C9 hh);exact AkH Ρ
theorem z5r{S:c8}{h0:α}{hs:CU}(ns:Ahp)(nh:(Ag3).Sc)(CC:AHu (Ŏ s AIL))(on:AYl (∃s∈S,Ő))
  (min:∀C:F6 α,(∀s∈S,Abq s s) ->(∃x∈AIL,C x) ->Af4 AIL)
  {x:F9} (z:AYk BDt) (w:BZ3 0):AYl (x h=0):=by
 have z' :AYl BDt:=by
  have e:=yk2 ns nh CC x;have e' :rC S x h0+aC hs A9P=0:=e;rw[Ql z] at e';intro h hh;rcases Cn hh with q | q
  ·rw[q];grind
  ·exact z h q
 have ev:=yfx ns nh CC z';have WS:AYl (x h=x h0):=min (P4 (x h=x h0)) (fun s hS hx b hb=>by
  obtain⟨a,ha,ea⟩:=hx;have PJ :x a=x h0:=ea;rw[ev s hS b hb,<- ev s hS a ha,PJ]) (ij h0 zY)
 have e1:BZ3 (x h0*Bds):=gi Mf mX (AFx (AAQ (WS h hh)))
 rw[e1] at w;have AA:Bds≠0:=fun zz=>by
  have:=VN (YN h (zsz S h)) zz h0 zY;have p:=yjv (on h0 zY);show Ps Ρ p (Zl p Χ)
 rcases ASW w with q | q
 ·intro h hh;rw[WS h hh,q]
 ·show L7 q AA
def fY(S:c8)(h o:α):AM:=(B3 (h=o) AJF 0) - AUv ASB Alb
theorem z7h(AyP)(ns:Ahp)(nh:ASY)(CC:Axh)(x:F9){h:α}(hh:ϴ):BdF A7U:=by
 have e1:BdF (aC hs (Bn o (XA (o∈ [h]) (AJF*x o))) - aC hs fun o=>(AUv ASB AZe)):=by
  rw[<- Nr];refine AQc o;unfold fY;have e2:(aC S (AMk ASB AZe))=x o*AUv ASB Alb:=gi Mf mX (AQh (by split<;>first | (simp only [N_];grind) | grind))
  rw[e2];by_cases q:h=o
  ·subst q;rw[E2,BLc Β];grind
  ·show YV q BTz;grind
 rw[e1,VP A0 nh (BNR hh),Zn]
 have e3:GM [h] o (AJF*x o) (AQw (x h)):=by
  show uS (AJF*x h+0);unfold jz;have:(aC S (AMk Ő (x h)))=x h*AQw 1:=gi Mf mX (AQh (by split<;>grind))
  rw[Ρ];grind
 rw[e3,<- Nr];refine mX (CA s hS);by_cases q:Ő
 ·rw[IF,IF]
  congr 1
  have e4:GM hs o (XA ASB AZe) (aC hs fun o=>(XA (o∈s) AZe)):=mX fun o _=>Ajj
  rw[e4,BEk VP];unfold cX;have e5:GM s o AZe (BJb⁻¹*aC s x):=gi Mf mX (fun o _=>(AAQ N_))
  rw[e5,N_];grind
 ·rw[NW,NW,Ql fun o _=>Ajj];grind
variable{σ:CB}
def oE(k:AoE)(y:ApQ)(S:AiX)(h:α):AM:=BSO
theorem yea{k:AoE}{S:AiX}{hs:CU}(ns:BZe)(nh:ASY)(CC:AHu (Ŏ (k s) hs))(y:ApQ):aC hs (oE k y S)=0:=by
 show Ct (GM hs h BSO 0);rw[Zn];refine Ql (CA s hS);rw[BEk (VP (f:=GI BoC))];exact zuc _ _
theorem z53(s:CU)(x y:F9):cX s (Bn o (x o - y o))=AMc - cX s y:=by
 unfold cX;rw[Nr,N_,N_,N_];grind
theorem ycz{k:AoE}(y:ApQ)(x:F9)(S:AiX)(h:α):AbW AbT=AbW y - Bfp:=by
 unfold oE rC;rw[Mh,<- Nr];exact mX (AQh (by
  rw[z53];split<;>grind))
theorem yd5{k:AoE}{S:AiX}{h0:α}{hs:CU}(ns:BZe)(nh:(Ag3).Sc)(CC:AHu (Ŏ (k s) AIL))(y:ApQ)(x:F9)
  (e:AYk (Bfp=AbW y)):AYl (AbW AbT=0):=by
 have e' :AYk (AbW AbT=0):=AFx (by rw[ycz,e h hh];grind)
 have q:=yea ns nh CC fun s o=>y s o - x o;have q' :oE k AbT S h0+aC hs (oE k AbT S)=0:=q;rw[Ql e'] at q';intro h hh;rcases Cn hh with r | r
 ·rw[r];grind
 ·exact e' h r
theorem zwd{β:CB}(AKJ)(f:P3):∀(l:SC),d7 GY (UX (f (N9 j WV)))=dc:=by
 intro l;have Ap:∀(m:SC) n,n<=HZ ->d7 n (UX (Avl f))=aC (AcD n) f:=by
  intro m n;induction n with
  | Qb=>intro _;rfl
  | Qr n ih=>
   intro h;have e:AcD UV=AcD n++ [m[n]]:=È List.take_succ vb
   show BV (d7 n (UX (Avl f))+f (w9 n WV)=_);rw[ih Η,e,zre]
   have:w9 n WV=m[n]:=A1U vb
   rw[Ρ];show Ct (_+f m[n]=_+ (f m[n]+0))
   grind
 have:=Ap l GY (zN _)
 show BKg
#where
def ZB(B:Δ)(x:AM):Ι:=Bby x
theorem ZB.sub(BgC):ZB (A+B) (x - y):=by
 show GT a ha h1;show GT b hb h2;exact⟨a - b,BJ0,Apc Bos ha hb⟩
theorem ZB.mul(BgC):ZB (A*B) (x*y):=by
 show GT a ha h1;show GT b hb h2;exact⟨a*b,BJz,CL Ĵ (AcE ha hb)⟩
theorem ZB.mono{A B:Δ}{x:AM}(h:ZB A x)(l:A<=B):ZB B x:=by
 show GT a ha h;exact Rs a (zO ha l)
theorem ZB.zero(B:Δ):ZB B 0:=Rs 0 LU
theorem ygq{B:Δ}{g:AAf}:BVi (ZB B (g c ds)) (ZB (ASa*B) (c7 g cs))
 | [],_=>BOE
 | þ,h=>by
  have h1:=(h c cs Β).CC (ygq (cs:=cs) (g:=fun d ds=>g d wP) fun d ds e=>h d wP da)
  refine BQ4;show A4';show Ω
theorem yfw{M N:Δ}:lx rs FR cs DD (∀r∈rs,BCx) (ASa<=N) (ZB (A3q) (dt rs cs))
 | [],[],_,_=>⟨1,MY,C_⟩
 | [],Db,_,_=>BOE
 | oQ,cs,h,l=>by
  have h1:ZB (ASa* (M* A3q)) (c7 (hZ ds (r c*UY ds)) cs):=ygq fun c ds e=>BgK (yfw (fun s hs=>h s (zW _ hs)) Η)
  refine BQ4;rw[GV,BHY,Bou (A3q),Nat.mul_assoc];exact Ay2 l
theorem zlw{g:AAf}:BVi (g c ds=0) (c7 g cs=0)
 | [],_=>Β
 | þ,h=>AlI c7 (h c cs Β) (zlw (cs:=cs) fun d ds e=>h d wP da)
theorem ygz:BCu (w8≠ASa) (dt rs cs=0)
 | [],[],h=>A8p
 | [],Db,_=>Β
 | oQ,cs,h=>zlw fun c ds e=>by
   rw[ygz (by simp at h;show Ω)];grind
theorem Zq:∀p,De i' p=p
 | 0=>Β
 | p+1=>v4 i' GV (Zq p)
theorem BT.len(AhE)(h:AIu):w8=p:=by
 have z:=h.dz;rcases Nat.decEq w8 (De i' p) with q | q
 ·exact vc ygz q z
 ·rw[q,Zq]
theorem yl3(AKh){a f g:Row}(hf:A6i)(hg:AYv)(z:Ann)(j:Δ):UY cs*f j=dt ϯ tq:=by
 show A6K hg;have h1:A4m:=zt6 z;have h2:ADt f tq (dt ϯ tq):=by
  show ArL (j::cs) a;show u_
  congr 2
  funext i
  rw[hf,e]
 rw[ASX,<- h1,h2]
theorem ypr(Biw)(h:Ϻ)(EF:f c=1)(z:BQ9)(d:UY AVe≠0)(j:Δ):A2M=UY A1H:=by
 have hl:=z8m rs _ DS Eg Β;have Ap:=zvg (cs:=DS++ACl) Bdw Ani d j
 ·grind
 ·by_cases hc:x=c
  ·subst hc;rw[EF];grind
  ·have hx' :x∈AxN:=by
    rcases Ix hx with q | q
    ·exact zP _ q
    ·show BbM
   rw[z x hx'];show Ame (dt rs BKp=0) (by
    show AKW (Ix hx')
    ·show Cc p1 p2 Β ArY q;have:=Zk rs (DS:=p1) (Eg:=p2++x::Eg) (c:=x) A0
     rw[x5];exact Ρ
    ·exact Zk rs q)
theorem zzt{z w:Ψ}{B:Δ}(e:BE z=BE w)(h:w.natAbs<=B):BFR<=B:=lh Tz e h
theorem BT.small(Bi8)(h:AIu)(hA:BB' A M)(hp:p+1<=N)(h1:1<=N*M){i:Δ}(hi:i<n)(j:Δ):(tb i j).ABt<=(N*M)^ (p+1):=by
 have wr:∀r∈rs,BCx:=A'J (by
  show DE k hk Β h.w r hr;exact Rs (A k j) (hA k hk j))
 have hl:=h.len;have pw:(N*M)^p<=(N*M)^ (p+1):=BK6 h1
 have ht:=h.t i hi j;rw[h.de] at ht;by_cases q:i<p
 ·have u:=h.up i q;show TL DS Eg e (ArY (Ara q));have nd:=znd p;have dz:=h.dz;have ll:=Zq p;rw[e] at nd dz ht ll;have Ap:=BXC ypr (Eg:=Eg) (c:=i) (f:=fs i) u.l u.o Ani dz j
  ·rw[Ap] at ht;obtain⟨z,ez,hz⟩:=yfw (cs:=DS++Agr) wr (N:=N) (by simp at ll⊢;show Ω)
   rw[hl] at hz;rw[ez] at ht;exact zO (zzt ht hz) pw
  ·refine u.z x ?_ vk
   ·rw[e];show BVo
   ·subst z;show Bjr
 ·show Ee hx lo h.lo i Η hi
  obtain⟨g,lg,hf⟩:=lo.g;rw[yl3 hf lg lo.z j] at ht;show DE z ez hz (PV yfw rs (jk A (ix i)::rs) cs (j::ANw) M M N N) (qr hr (by
   show AKW A6G
   ·subst q;exact F8 (Rs (A (ix i) j) (hA _ hx j))
   ·exact wr r q)) (by show Av9 Zq;show Ω)
  rw[GV,hl] at hz;rw[ez] at ht;exact zzt ht hz
theorem BT.lead(Bi8)(h:AIu)(hA:BB' A M)(hp:p<=N):BFU<=(N*M)^p:=by
 have wr:∀r∈rs,BCx:=A'J (by
  show DE k hk Β h.w r hr;exact Rs (A k j) (hA k hk j))
 obtain⟨z,ez,hz⟩:=yfw (cs:=ANw) wr (N:=N) (EQ Zq hp)
 show Ps h.len hz (zzt (h.de.trans ez) hz)
section
variable{α β:CB}[AYx][AMZ β]
def gA(A'a):G1:=A5P (Φ (Cl=w))
def BJ(Ξ:G1)(h:β):G1:=A5P Aor
def ofM(Ξ:G1)(m:SC):G1:=A5P Ay9
def Uq(Ξ:G1):Ι:=rows.Pairwise fun a b=>Bhn
def kW(A'a):SC:=Ag7 (Re DL)
def yW(Ξ:G1)(w:α)(h:β):AM:=ARB (rows.find? (cK (Φ A'S))) r AI1 0
theorem cQ{Ξ:G1}{w:α}{r:ċ}:r∈AM3↔AQl/\AFb:=v4 gA Ĕ Aro
theorem jt{Ξ:G1}{h:β}{r:ċ}:r∈AoW↔AQl/\AOH:=v4 BJ Ĕ Aro
theorem mC{Ξ:G1}{m:SC}{r:ċ}:r∈AoX↔AQl/\AH7:=v4 ofM Ĕ Aro
theorem Uq.M{Ξ:G1}(u:IZ)(m:SC):A_N Uq:=BFW _
theorem z3n{γ δ:CB}{f:γ ->δ}{R:D3 γ γ}:∀{l:EK γ},BMc ->(AUl (NL l (R a b ->f a≠f b))) ->mr E_ f
 | [],_,_=>Ad5
 | FK,h,k=>by
  show Az5;show BMA;refine⟨vk,z3n h.2 fun a ha b hb=>k a (zW _ ha) b AMb⟩;show Ϣ b hb (aS z);exact k a zY b AMb (EJ b hb) aT
theorem zut{Ξ:G1}(u:IZ)(w:α):(kW Ξ w).Sc:=by
 refine z3n (BFW _) (A'z (n ⟨?_,e⟩));rw[AgB ha,AgB hb]
theorem ycj{Ξ:G1}(u:IZ)(h:β):mr (BJ Ξ h).EL (Re Cl):=by
 refine z3n (BFW _) (A'z (n (CI e)));rw[(AGV ha).2,(AGV hb).2]
theorem jl{Ξ:G1}{w:α}{h:β}:AIF↔uv A'S:=by
 unfold kW;rw[ZE];exact AQ0 ⟨r,h1,h2⟩ ⟨r,(ASb h1).1,AgB h1,h2⟩ BWk ⟨r,AcF ⟨h1,h2⟩,h3⟩
theorem yh2:OQ Ξ G1 IZ (∀{a b:ċ},BB (a∈Ξ) (b∈Ξ) (a.1=b.1) (a.2.1=b.2.1) (a=b))
 | r::Ξ,u,a,b,ha,hb,e1,e2=>by
  unfold Uq at u;rw[AL3] at u;rcases Cn ha with q | q
  ·rcases Cn hb with q' | q'
   ·rw[q,q']
   ·subst q;exact Zl ⟨e1,e2⟩ (u.1 b q')
  ·rcases Cn hb with q' | q'
   ·subst q';exact Zl ⟨e1.symm,e2.symm⟩ (u.1 a q)
   ·exact yh2 u.2 q q' e1 e2
theorem Qn{Ξ:G1}(u:IZ){r:ċ}(hr:AQl):yW Ξ Cl DL=AI1:=by
 unfold yW;cases e:rows.find? (Bn s (Φ BfX)) with
 | Θ=>
  have:=Box e r hr;simp at Ρ
 | Ε s=>
  have h1:=Bov e;have h2:BfX:=by
   have:=Bow e
   show t9
  rw[yh2 u h1 hr h2.1 h2.2]
theorem yg6{Ξ:G1}{w:α}(f:P3):aC Š f=aC AMn (Re AOy):=Mh
theorem TJ(A'a):AV'=AUe:=by unfold kW;show NR
theorem ygn(A_l)(u:IZ)(nw:Ė)(cw:Aov)(h:β)(F:F9):GM ws w BT7 (aC (BJ Ξ h) (Re (F Cl))):=by
 have e:GM ws w BT7 (aC ws (HH (XA BdW (F w)))):=by
  refine AQc w;have:AIF↔BdW:=Ú jl ZE (AQ0 BWk ⟨r,jt.mpr ⟨h1,h3⟩,h2⟩ ⟨r,h1,h2⟩ ⟨r,BN_,h2,(AGV h1).2⟩)
  by_cases q:AIF
  ·rw[IF,ê this.mp q]
  ·show YV q (A1 (q (this.mpr z)))
 rw[e,VP (ycj u h) nw (AFV (by
  show Cc r h1 h2 aS hw;rw[<- h2];exact cw r BN_)),Mh]
def wM(Ξ:G1)(x:P3)(h:β):Ι:=
 GM (BJ Ξ h) r Bij 0
def Qo(Ξ:G1)(x:P3)(m:SC):Ι:=GM ADx r (x DL) 0
theorem Zr{Ξ:G1}(u:IZ)(x:P3)(w:α):cX Š (Bn o BSr)=Alq:=by
 unfold cX;rw[TJ,yg6]
 congr 1
 refine AKa;have:=Qn u Ah7;show Da Amb;rw[Ρ]
theorem yff(A_l)(u:IZ)(nw:Ė)(cw:Aov)(x:P3)(h:β)(e:oE AM4 (fun w o=>BSr) ws h=0):AFl:=by
 show Tl oE;rw[Bev] at e;unfold wM;rw[<- e];refine AKa;have hr' :=AGV hr;have y:=Qn u hr'.1;rw[hr'.2] at y;rw[Zr u,hr'.2];show Ct (_=yW Ξ Cl h - x h - _);rw[y]
theorem ycv(A_l)(u:IZ)(nw:Ė)(cw:Aov)(h:β):jz SA h=Bnq:=by
 unfold jz;rw[Mh,Bev,Qm];grind
theorem z9n{Ξ:G1}{m:SC}(nm:m.Nodup)(CC:S4 AH7)(f:P3):BZ2 (AZd AOy):=by
 have e:BZ2 (aC m (GI (AZd BaZ))):=by
  refine AQc h;rw[<- Qm (l:=AoW)];unfold BJ;rw[Mg];refine mX (CA r _);by_cases q:DL=h
  ·rw[ê UF q,IF,q]
  ·rw[CO (IB q),NW]
 rw[e,Zn];refine AKa;have e2:GM m h BaZ (aC m (GI (XA (h∈ [DL]) AOy))):=mX fun h _=>by
  by_cases q:DL=h
  ·rw[IF,BLc Atb]
  ·show YV q BTz
 rw[e2,VP (f:=Fk AOy) A0 nm (BNR (CC r hr))]
 show uS (AOy+0)
 grind
structure wN (Ξ:G1) (ws:CU) (m:SC):Ι where
 u:IZ
 nw:Ė
 cw:Aov
 nm:m.Nodup
 CC:S4 AH7
 on:wE (uv AOH)
 min:∀C:F6 β,(∀w∈ws,Abq Ņ Ņ) ->(∃x∈m,C x) ->Af4 m
theorem wN.sub'(ASM)(L:ARh):BZN (Ŏ s m):=fun s hs x hx=>by
 show AEb w (aS hs);obtain⟨r,h1,_,h3⟩:=ASc hx;rw[<- h3];exact L.sub r h1
theorem wN.ns(ASM)(L:ARh):BZN s.Nodup:=fun s hs=>by
 show AEb w (aS hs);exact zut L.u w
def pF (AKJ)(Ξ:G1)(ws:CU)(m:SC)(i j:Δ):AM:=
 if j<HZ then(B3 (i=0) (jz SA (w9 j WV)) (Bn6 A9M))
 else î 0 0 (oE AM4 Afq ws BQg)
theorem Zt{γ:CB}[Arl γ]{m:EK γ}{i:Δ}(h:AzE):w9 i WV∈m:=by
 show AEX vb;exact yU h
theorem z20 (AKJ)(ASM)(x:P3):A5e (AyG 0) (aC m (GI (jz SA h*x h))):=by
 rw[<- zwd];refine Qk (CA j hj);unfold pF;rw[C9 hj,E2]
theorem z9u (AKJ)(ASM)(L:ARh)(x:P3){i:Δ}(hi:AzE)(h0:i≠0):A5e (AyG i) (rC SA x BQg):=by
 rw[<- z7h L.ns L.nm L.sub' x (Zt hi),<- zwd];refine Qk (CA j hj);unfold pF;rw[C9 hj,CO h0]
theorem z02 (AKJ){m:SC}{h0:β}{hs:SC}(e:m=AIL){h:β}(hh:ϴ):∃i,AzE/\i≠0/\w9 i WV=h:=by
 show Cc i hi q List.getElem_of_mem hh;subst e;refine⟨D',AjN,Τ,?_⟩
 rw[MH,LH,iX,q];rfl
theorem wN.null (AKJ)(ASM)(L:ARh)(x:P3)(z:ADX HZ (d7 HZ BKX=0)):wE (x h=0):=by
 cases em:m with
 | C3=>intro h hh;show AE hh hh hh hh hh hh hh hh hh hh hh hh hh hh
 | AX h0 hs=>
  have nm:=L.nm;have CC:=L.sub';have on:=L.on;have mn:=L.min;rw[em] at nm CC on mn;refine z5r L.ns nm CC (TU h hh) (fun C hC=>mn C (AFV (hC _ (Arp (ij w hw))))) (TU h hh) ?_
  ·show DE r h1 h2 on h hh;exact⟨AVD kW,Arp (ij Cl (L.cw r h1)),jl.mpr (IS r h1 h2)⟩
  ·obtain⟨i,hi,i0,e⟩:=z02 em hh;rw[<- e,<- BgG];exact z i hi
  ·rw[<- em,<- z20];exact z 0 (AWu em)
theorem wN.ans (AKJ)(ASM)(L:ARh)(x:P3)(z:ADX HZ (BMb i=d7 HZ BKX)):(∀h∈m,AFl)/\A7N:=by
 have e0:m≠ [] ->A7N:=fun ne=>by
  have q:=z 0 (AAu ne);rw[z20] at q;unfold pF at q;rw[Aoy,E2] at q;rw[<- z9n L.nm L.sub,q];exact mX fun h _=>(MA (ycv L.u L.nw L.cw))
 cases em:m with
 | C3=>
  refine CI (AFx (by (first|subst hh|exact aaA hh|exact aaB hh|exact aaD hh|exact aaC hh|exact aaF hh|exact aaE hh|exact aaG hh|show UK hh|show OC hh|show OA hh|show NB hh|show OB hh|cases (hh))))
  cases er:Ξ with
  | C3=>rfl
  | AX r rs=>
   show ARV (L.sub r (EQ er zY)) em
 | AX h0 hs=>
  refine⟨AFx (yff L.u L.nw L.cw x h (PV yd5 S ws k (kW Ξ) h0 h0 hs hs (YN w (zut L.u w)) (em ▸ L.nm) (fun w hw y hy=>(NN em (L.sub' _ (Arp (ij w hw)) y hy))) Afq x (TU g hg) h hh)),e0 (AWu em)⟩
  obtain⟨i,hi,i0,e⟩:=z02 em hg;have q:=z i hi;rw[BgG] at q;unfold pF at q;rw[Aoy,CO i0,e] at q;exact Atb
#where
section
variable{α γ:CB}[AMZ γ]
theorem z5l{f:F9}{p:AIm}:AIq (aC l f=aC (AMC p) f+aC (AMC fun a=> ! p a) f):=by
 intro l;rw[Mg,Mg,<- VL];refine AQc a;cases p a
 ·simp [BsQ]
 ·simp [AGW]
theorem ybf(Ap:α ->γ)(g:F9)(φ:γ ->AM):∀(n:Δ) (l:CU),GY<=n ->(∀c,aC (AMC fun a=>(Φ (Ap a=c))) g=0) ->GM l a (φ (Ap a)*g a) 0:=by
 intro n;induction n with
 | Qb=>
  intro l hl _;show FB (l= []) (AAw Η)
  rfl
 | Qr n ih=>
  intro l hl h;cases l with
  | C3=>rfl
  | AX a r=>
   rw[z5l (p:=dP AJL)];have e1:Bi4 0:=by
    have:Bi4 (aC (AXM (dP AJL)) (gE (φ (Ap a)*g b))):=
     mX (FM (by rw[pj (List.mem_filter.mp hb).2]))
    rw[Ρ,Mf,h,Boz]
   rw[e1,ih]
   ·show fF
   ·have:De AXM (dP (! AJL))<=Sf:=lh List.filter_cons_of_neg A0 AzT
    simp only [GV] at hl;show Ω
   ·intro c;rw[AcG];by_cases e:c=Ap a
    ·subst e;show ck (AXM (gE (AJL&& ! AJL))= []) (AuJ (fS _ C_))
     rfl
    ·show ck ((a::r).Ģ (gE (Φ (Ap b=c)&& ! AJL))=AXM (gE (Φ (Ap b=c)))) (BFX (fS _ (by
      by_cases q:Ap b=c
      ·simp [q,e]
      ·simp [q])))
     exact h c
theorem yh7{l:CU}{f d:F9}(o:GM l a (d a*f a) 0):BUc (aC l (Bn a (f a*f a))+AJ1 (d a*d a)):=by
 have:BUc (aC l (Bn a (f a*f a+d a*d a+2* (d a*f a)))):=mX fun a _=>Tk
 rw[Ρ,VL,VL,Mf,o,Boz,AGW]
#where
section
variable{α β:CB}[AYx][AMZ β]
def gb(Ξ:G1)(x:P3)(r:ċ):AM:=Bij
theorem z8i(Ξ:G1)(x:P3)(w:α):aC AMn Ao7=0:=by
 have e:aC AMn Ao7=aC AMn AvU - aC AMn (Fk Alq):=by
  rw[<- Nr];refine AKa;unfold gb;rw[Amb]
 rw[e,Qm];by_cases z:BVR
 ·rw[z];show AXn - AZN* (0/ BE (Lu 0))=0
  show fF
 ·have n0:BE AUe≠0:=Tb (z (AAw (Blp q)))
  rw[N_,ASX (BE AUe),yB,AJV n0,AME,Rat.sub_self]
theorem zyp{Ξ:G1}{x:P3}(ev:Aa_)(p:F9)(q:P3):A5s t6 0:=by
 have e:A5s t6 (A5Z (p Cl)+AZd (q DL*t6)):=gi VL mX (AYj Tk)
 rw[e,ybf (fun r:ċ=>Cl) Ao7 p du Ξ BJi (é (z8i Ξ x w)),
  ybf (fun r:ċ=>DL) Ao7 q du Ξ HT AYT]
 ·show fF
 ·by_cases z:uv AOH
  ·show AVv r hr z;exact ev r hr
  ·show ck (BFV (cK Aor)= []) (AuJ fun r hr=>by
    simp only [ABk];exact SG (z Alz))
   rfl
theorem zwv{Ξ:G1}{x:P3}(ev:Aa_)(p:F9)(q:P3){g:ċ ->AM}(hg:S4 (g r=t6+ AIy)):
  A5Z t6<=BUF/\ (GM Ξ r (t6*t6) BUF ->S4 (g r=t6)):=by
 have e:GM Ξ r (g r*g r) (A5Z t6+AZd (AIy* AIy)):=gi (yh7 (zyp ev p q)) mX (c_ (MA (hg r hr)))
 have n:0<=AZd (AIy* AIy):=Zo fun r _=>zli _;refine⟨Tk,At z r hr⟩
 have z2:A5s AIy 0:=Tk
 have:=z5v (VN (qr _ (zli _)) z2 r hr);rw[hg r hr,Ρ,AGW]
#where
section
variable{α β:CB}[AYx][AMZ β]
theorem zv7(BCV)(ev:Aa_)(ev' :A8v):S4 (gb Ξ x' r=t6):=by
 have h1:=zwv ev (é (Alq - BSb)) (P4 (x h - x' h)) (g:=gb Ξ x') (AYj (ů gb))
 have h2:=zwv ev' (é (BSb - Alq)) (P4 (x' h - x h)) (g:=gb Ξ x) (AYj (ů gb))
 exact ϐ (BsU ii h2.1)
theorem z9f(BCV)(ev:Aa_)(ev' :A8v){r s:ċ}(hr:AQl)(hs:s∈Ξ)(e:Cl=s.1):x DL - x' DL=x r8 - x' r8:=by
 have h1:=zv7 ev ev' r hr;have h2:=zv7 ev ev' s hs;unfold gb at h1 h2;rw[e] at h1
 grind
theorem yal(BCV){m:SC}(ev:Aa_)(ev' :A8v)(em:Aot)(em' :BTH)
  (min:∀C:F6 β,(Ϟ (∀s∈Ξ,Cl=s.1 ->C DL ->C r8)) ->(∃h∈m,C h) ->wE (C h)) (on:wE (uv AOH)):wE (x h=x' h):=by
 intro h0 hh;have WS:=min (P4 (x h - x' h=BP6)) (fun r hr s hs e c=>by
  have:=z9f ev ev' hr hs e;show u_;exact c) (ij h0 hh)
 have z:GM ADx r (x DL - x' DL) 0:=by rw[Nr,em,em'];show fF
 have z2:GM ADx r (x DL - x' DL) (aC (ofM Ξ m) (Fk BP6)):=mX fun r hr=>WS _ A8n;rw[z2,Qm] at z;show DE r hr e on h0 hh;have AA:0< AMT ofM m:=AAu fun q=>by
  have:=mC.mpr ⟨hr,e ▸ hh⟩;show Da q;show L9
 rcases ASW z with q | q
 ·have:AMT ofM m=0:=ò q
  show Ω
 ·grind
#where
#print _HM
namespace _3
open II _2 _HM
def VR(D8):dJ:=Fm (∃i j,BSl)
def Mi(Ic):dJ:=AAZ (∃i j:Ψ,ds= AOF/\AkP/\A0p/\MV j 0 EM BZd)
def TQ(Ic):dJ:=A7W (a+b)
def Mj(Ic):dJ:=A7W (a - b)
def Zu(Ic):dJ:=A7W (a*b)
def V0(Ic):dJ:=AAZ (∃a b:AM,Awq (MV b 0 EM (mh (a/b))))
def Hl(Ic):dJ:=Awa (Awq (P (.bl (O0 (a<b)))))
def bJ(ns:B6)(k:Δ):Ψ:=AiW Az_ ns[k] (let m:Ψ:=MV ns [] (Fu*7919+5) ((pv ((k*7) % JA) 0*48271+ Fu*7919).KF 2147483647)
 (m*m).KF 2147483629)
def yJ(D8):dJ:=Yf ns B6 k Δ (ds= [AX8,.AL k]/\ANo/\k<1000/\XX (bJ ns k))
def z1r(D8):dJ:=zud
def TV(Ic):dJ:=Fm (∃qs:BC,ds= bE ANR/\ AO0/\ A_J/\mh (fj qs))
def TX(Ic):dJ:=AAZ (∃qs:BC,ds= bE ANR/\Akd/\ AO0/\ A_J/\MV qs [] EM (mh (fj qs/ APV)))
def TY(Ic):dJ:=BPR Akd (YU A0e)
abbrev Mx:=lI
abbrev Mq:=AUC AM
def Zv(k s:Δ)(a:Mx):Mx:=GL (a (uz k s i))
def iT(m:Δ)(f:ü):D:= .B_ (Amn (AJZ j))
def qQ(n m:Δ)(a:Mx):D:= .B_ (AQj AOO)
def qu(m:Δ)(f:dE):D:= .B_ (Amn (qD (f j)))
def Kq(n m:Δ)(a:Mq):D:= .B_ (AQj (qu m (a i)))
def SzE(AQ7):Ι:=dh ABu<=128/\ Aim∣27720
def yC(N:Δ)(d:Ψ)(q:AM):Ι:=∃t:Ψ,q=UR t d/\dh t<=N
def Nt(n:Δ):Δ:=147* UV+1
def zdt(D8):dJ:=Yf m Δ f dE (ds= [qu m f]/\m<=13/\ (X0 m (SzE (f j)))/\∀(μ:Ψ) (g:ü),0<μ ->(X0 m (BE (g j)=BE μ*f j)) ->(BT8) ->P (iT m g))
def Zw(D8):dJ:=Fm (∃(m k:Δ) (f g:ü) (p:Ψ),ds= [iT m f,iT m g,Ϭ,.AL p]/\k<m/\p≠0/\TK (dh p)/\ (∀j,TK (dh (f j)))/\ (∀j,TK (dh (g j)))/\P (iT m (F8 ((BYV).oz p))))
def Ho(k:Δ)(p:Ψ)(a:Mx):Mx:=AMW (MV i k (a k j) BiH)
def Zx(D8):dJ:=Fm (∃(a:Mx) (n m k:Δ) (p:Ψ),ds= [Ano,Ϭ,.AL p]/\k<n/\k<m/\p≠0/\TK (dh p)/\ (AwR (TK (dh (a i j))))/\P (qQ n m (Ho k p a)))
def Zy(D8):dJ:=Fm (∃(a:Mx) (n m k s:Δ),ds= [Ano,Ϭ,.AL s]/\k<n/\s<n/\P (qQ n m (Zv k s a)))
def Zz(Ic):dJ:=AAZ (∃(a:Mx) (n m k:Δ),ds= [Ano,.AL k]/\n<=1000/\k<n/\k<m/\ (∀s,k<=s ->s<n ->a s k≠0 ->P (qQ n m (Zv k s a)))/\ ((BY1 (s<n)) ->EM))
def Sys(n:Δ)(A:Mq)(ds:AU):Ι:=ds= [Kq n n A,qu n (GL (A i n))]/\n<=12/\∀i j,i<n ->j<=n ->SzE (A i j)
def Slv(n:Δ)(A:Mq)(x:dE):Ι:=∀r,r<n ->A r n=d7 n (F8 (A r j*x j))
def ZC(Ic):dJ:=AAZ (∃(n:Δ) (A:Mq),Sys n A ds/\ (∀(y:dE) (k:Δ),k<n ->y k=1 ->(∀r,r<n ->(d7 n (F8 (A r j*y j)))=0) ->EM)/\∀x,Slv n A x ->(Aqu (Nt n) (AFN (yC (Nt n) d (x i)))) ->P (qu n x))
def uV:Μ:=Ŝ AKx
def T3:Μ:=Ŝ AKz
def nG:Μ:=Ŝ AKy
def dy(l:BC):BC:=MV A7' 1 [AlR] [ADU (mi - 1),AlR]
def ZD(D8):dJ:=Fm (∃l:BC,ds= bE Ó/\1<=GY/\YU (Cb dy l qD))
def T4(D8):dJ:=Awa (ds= bE [qD a,qD b]/\Sz 1900 a/\Sz 1900 b/\mh (b - a))
def ZF(D8):dJ:=Fm (∃l:BC,ds= bE Ó/\AXb 2/\BKm/\ BOc/\BQt)
def ZG(Ic):dJ:=AAZ (∃(l:BC) (g:AM),ds= [.B_ Ó,qD g]/\AXb 2/\BKm/\ BOc/\PZ g/\
 if GY=2/\g<wd l 0 then E (BQ xA) else BQt)
theorem yf2(Be ZD):Kt:=WB
theorem ykc(Be T4):Kt:=HC
theorem z6s(Be ZF):Kt:=WB
theorem ynv(Be ZG):Fc:=HC
def ZJ(D8):dJ:=Fm (∃r:Μ,ds= [.AO r]/\XX Aqs)
def Kr(n:Δ)(p:Pt):Ι:=Sz n CS/\Sz n p.2
def zu(ps:FH):AN:=Φ (1<N0)&&(Ļ LR ps ps.tail).all id
def ZK(D8):dJ:=Fm (∃a b:Pt,ds= [pD a,pD b]/\Kr 4000 a/\Kr 4000 b/\l' (LR a b))
def ZL(D8):dJ:=Fm (∃ps:FH,ds= bE AFc/\ BMy/\P (.bl (zu ps)))
def ZM(D8):dJ:=Fm (∃(l r:Pt) (x:AM),ds= [pD l,pD r,qD x]/\Kr 300 l/\Kr 300 r/\A8e/\l.1<Cl/\mh (Cp l r x))
def T5(Ic):dJ:=AAZ (∃ps:FH,ds= bE AFc/\ BMy/\AfF zu ps (P (Ş KO pD)) EM)
def Eo(c:Cls)(ps:FH):D:= .obj ja [ZY] [.DZ AFc]
def ZP(Ic):dJ:=Yf ps FH x AM (ds= [Eo c ps,qD x]/\Al5/\AAT/\ A5u/\A8e/\mh (ur ps x))
def intD(n:Δ):D:= .AL LS
def uD(i3):BC:=(oV qs).ASd
def Ku(f:BC)(k:Δ):AN:=Φ (k+1=xB) || Φ (AAx LN 0<Ama)
def jf(f:BC):DD:=0::Cb (AGe xB).Ģ (Ku f) (· +1)
def Fall(f:BC):Ι:=∀i j,i<=j ->j<xB ->AAx j 0<=AAx i 0
def rD(l:B6):D:= .B_ A0n
def Kv(b:Bd):D:= AP2 b.1 b.2
def Kw(bs:Jn):D:= A2z Kv
def jm(qs:BC)(m:AM):Δ:=De qs.filter (VS (!(Φ (x<m))))
def iU(i3):B6:=Cb jf AMt BFY
def Last(S:B6)(n:Ψ):Ι:=ϝ S.map HE Ki (Ev n)
def pN(Anu):AN:=(gk AQE He AMF IP).ABR 0
def Gk(Anu):B6:=Azw fun k=>fk AQE He bs LN
def V1(D8):dJ:=Yf x Ψ b Bd (ds= [.AL x,Kv b]/\l' (Bx b x))
def ZQ(D8):dJ:=Fm (∃(S l:B6) (b:Bd),ds= [rD S,rD l,Kv b]/\P (rD (Cq S l b)))
def T6(D8):dJ:=Yf S B6 bs Jn (ds= [rD S,Kw bs]/\Akc/\YU (AYG fun i=>rD (rk S bs i)))
def V2(ls:AJm):T:= .B_ (ASe fun l=> .B_ BSX)
def uE(Anu):AJm:=AYG fun i=>rk (iU qs) bs i
def V3(D8):vN:=Fm (∃ls:AJm,ds= bE Aaw/\P (V2 ls))
def ZR(D8):dJ:=Yf m AM qs BC (ds= [qD m,AjW]/\PZ m/\ AO0/\XX (jm qs m))
def ZS(D8):dJ:=BPR BP3 (P (rD AQE))
def ZV(D8):dJ:=Bja (ds= [rD S,Kw bs]/\Akc/\Last S n/\YU BdJ)
def ZW(D8):dJ:=Bja (ds= [rD S,Kw bs]/\Akc/\Last S n/\AW6/\ AbH/\P (rD (MS IP fun k=>AZR)))
def ZX(Ic):dJ:=AAZ (∃(qs:BC) (bs:Jn),ds= [AjW,Kw bs]/\BP3/\ AO0/\Akc/\ (pN qs bs=Κ ->P (rD (Gk qs bs)))/\ (BU9 ->E (Bdy qs bs)))
def bD:Aiw ->D | Θ=> BS | Ε q=>qD q
def Hq(f:BC)(c:Δ):Aiw:=MV c 0 Θ (Ε (AAx (c - 1) 0))
def isIn(m:AM):Aiw ->AN | Θ=>AC | Ε q=> !(Φ (m<q))
def uF(bs:mw)(m:AM):Δ:=bs.findIdx (isIn m)
def OSz(n:Δ)(b:Aiw):Ι:=∀q,b=Ε q ->Sz n q
def Z0(D8):dJ:=Yf qs BC cs DD (ds= [AjW,.B_ (cs.map intD)]/\Akd/\ AO0/\0<ASa/\ (∀c∈cs,BN2)/\YU (Cb Art BV9 bD))
def Z1(D8):dJ:=Yf bs mw m AM (ds= [A2z bD,qD m]/\ A5T/\PZ m/\XX (uF bs m))
abbrev Rw:=Μ×Μ×Ψ
def uG(r:Rw):D:= BaD
def eG(rs:BU):D:= .B_ (dr uG)
def yK(ApM):Υ:=Cb BFV (Re (Φ (Cl=w))) fun r=>DL
structure Fam (Ξ:BU) (Ss:OT):Ι where
 of:AWJ (BSG S)
 to:S4 (∃S∈Ss,AVL S (AVD yK))
structure Ep (Ξ:BU) (ms:OT):Ι where
 sr:AAi (AWI m.Pairwise)
 up:Atj fun a b=>BAq
 pi:∃Ss,Fam Ξ Ss/\oA Ss ms
def Gn(p:Υ×AU):T:= ce A5R ((p.2).EL ϡ)
structure Qp (Ξ:BU) (ws:Υ) (ps:AXN):Ι where
 len:BKl
 nd:Ė
 lw:Ll<=du
 wm:Ape (uv AFb)
 pt:BjV
 ex:BPu
def T7(D8):vN:=Fm (∃Ξ:BU,ds= [AYS]/\du<=1000/\∀ws ps,Axz ->P AwW)
def V4(D8):dJ:=Fm (∃g hs:Υ,ds= [gl g,gl hs]/\l' (dZ g hs))
def Z2(D8):dJ:=Fm (∃(fs:OT) (hs U:Υ),ds= [.B_ (Adk gl),gl hs]/\AcK+BFZ<4000/\AGd<4000/\A7y/\ (∀x∈hs,x∈U)/\ (Aa2 (AAG f))/\
 ∀g:Υ,g.Pairwise (qf b AHk) ->(AfQ g (x∈hs\/AoJ (AaW f/\APq))) ->YU ((AT_ (Bn f (! ANS))++ [g]).EL gl))
def Z4(D8):vN:=Yf Ξ BU U Υ (ds= [AYS]/\du<=1000/\A7y/\ (Ϟ AYz)/\∀ms,AJM ->YU (ADl Q1 gl))
def Cds(N:Δ)(m:Υ)(x:EZ):Ι:=Aqu N (wE (yC N d (x h)))
def Qq(ApM):D:= ce Aos (AZo AN1)
def yL(A9x):D:= .B_ (jI (Qq Ξ))
structure LB (Ξ:BU):Ι where
 few:du<=200
 mm:S4 (cr UQ<2^100)
 wk:∀w,AUe<=12
def Cr(A9x):Ι:=Ll<=200/\AXC AQB
def Qs(D8):dJ:=Fm (∃(Ξ:BU) (ws:Υ) (h:Μ),ds= [AhX,Ahs]/\P (yL Ξ (AKw fun w=>Ay_)))
def Z5(D8):dJ:=Fm (∃(Ξ:BU) (ws:Υ) (h o:Μ),BhN (.AO o) (mh (fY SA h o)))
def Z6(D8):dJ:=Fm (∃(Ξ:BU) (ws m:Υ) (h:Μ),BhN (gl m) (YU BmU))
def Z7(D8):dJ:=Yf Ξ BU w Μ (ds= [Ł Qq]/\tI/\AQB/\mh (ANU (cK AI1)))
def Z8(D8):dJ:=Fm (∃(Ξ:BU) (ws:Υ) (h:Μ),ds= [AhX,Ahs]/\IZ/\tI/\AOu/\mh ASL)
def Z9(D8):dJ:=Fm (∃(Ξ:BU) (ws m:Υ),ds= [gl m,Ahs]/\ARh/\tI/\AOu/\m≠ []/\BLp/\
 ∀x:EZ,(∀h∈m,AFl) ->A7N ->BDp ->YU (AZY ZO x))
structure Lean (Ξ:BU) (ms:OT) (x:EZ):Ι where
 g:AJM
 ev:AAi (wE AFl)
 em:AAi Aot
 sz:AAi BDp
def jg(AqP):T:= ce AJy (AzG (AJr x) ϡ)
def zy(AqP):D:= .dik AJy (ef (AJr x))
def zez(D8):vN:=Yf Ξ BU U Υ (ds= [AYS]/\IZ/\tI/\AAs<=12/\ (Ϟ AYz)/\∀ms x,AJN ->P (jg Adx x))
def aac(c:Δ):AN:=Φ (97<=c)&&Φ (c<=122)
def T8(AQG):AN:=Φ (1<=AL_)&&(Φ (AL_<=8)&&x.cps.toList.all aac)
structure Nu (r:Rw):Ι where
 w:T8 Cl=Κ
 h:T8 DL=Κ
 m0:0<=UQ
 m1:UQ<=10^12
def V5(D8):dJ:=Yf n Ψ m Δ (ds= AHz n m/\m<=8/\∀xs:Υ,AWa m ->AT0 ->(∀x∈xs,A0y) ->YU AkR)
def zde(D8):dJ:=Fm (∃a b d e n:Ψ,ds= [APZ,APa,.AL d,.AL e,.AL n]/\e≠0/\∀t:AN,l' t)
def zel(D8):dJ:=Fm (∃(ns:B6) (WC AG0:Δ),ds= [AX8,.AL WC,.AL AG0]/\ANo/\1<=WC/\WC<=5/\AG0<=8/\
 ∀(Ξ:BU) (U:Υ),BMB ->BB (AAs<=WC) (Ϟ AYz) IZ (Ϟ (Nu r)) (P (eG Ξ)))
def zcm(D8):dJ:=Fm (∃i j:Ψ,BSl)
theorem z7c(Be T7):Kt:=WB
theorem yov(Be V4):Fc:=HC
theorem yfp(Be Z2):Fc:=og
theorem yd1(Be Z4):Kt:=HC
theorem zu1(Be Qs):Fc:=og
theorem yk8(Be Z5):vx:=AoT
theorem yc7(Be Z6):vx:=AoT
theorem zzo(Be Z7):Kt:=HC
theorem yep(Be Z8):Fc:=og
theorem zn3(Be Z9):Fc:=og
theorem z4u(Be zez):Kt:=HC
theorem zyl(Be V5):Fc:=HC
theorem zwu(Be zde):ABx 5:=ARx
theorem z4t(Be zel):vx:=og
theorem zvl(Be zcm):Fc:=HC
def uH(hs:Υ)(h:Μ):Υ:=if ϴ then hs else hs++ [h]
def T9(D8):dJ:=Fm (∃i j:Ψ,ds= AOF/\AkP/\A0p/\AOc/\BZd)
theorem ya6(Be T9):Fc:=HC
def oF(r:Μ)(g:AM)(qs:BC):Aiv:=Aya (He< Aqs) AC (Aya (r=nG/\He=2/\BcZ) Κ Θ)
inductive qw (i3):D3 Μ AM
 | ABa:qw qs uV (fj qs/ APV)
 | mid:qw qs T3 (Tw (oV qs))
 | ABb:L4 (Best (oV qs) b) (qw qs nG ((AHv b 0+ AHv (b+1) 0)/2))
def wO(r:Μ):Ι:=r=uV\/r=T3\/r=nG
def Hr(c:Cls)(r:Μ)(g:AM)(qs:BC)(P:F6 AM)(E:F6 AN):Ι:=ARB (oF r g qs) f (E f) (∀v,AnH ->P v)
def V6(Ic):dJ:=AAZ (∃(r:Μ) (qs:BC) (g:AM),ds= [.AO r,AjW,qD g]/\PZ g/\Akd/\ (∀q∈qs,AOv)/\wO r/\ A_J/\Hr c r g qs (Bn v (mh v)) fun f=>E (BQ (B3 (f=Κ) xA ė)))
theorem yk3(Be V6):vx:=og
structure gZ where
 pb:D
 gap:D
 scale:D
 leans:D
 sheets:D
 marks:D
def gZ.fs:Υ:= [d5,d6,AGX,ASj,Nl,GB]
def gZ.xs(S:gZ):AU:= [ASg,ATW,ASh,AK0,Arw,AAz]
def gZ.d(c:Cls)(S:gZ):AJa ->D
 | Θ=> .obj GA gZ.fs S.xs
 | Af1=> .obj GA BQw (S.xs++ [b])
structure nJ where
 pb:D
 gap:D
 scale:D
 leans:D
 sheets:T
 marks:T
def nJ.ts(S:nJ):GS:= [.JE ASg,.JE ATW,.JE ASh,.JE AK0,Arw,AAz]
def nJ.t(c:Cls)(S:nJ):AJa ->T
 | Θ=> .ob GA gZ.fs S.ts
 | Af1=> .ob GA BQw (S.ts++ [.JE b])
def nJ.pl(S:nJ):gZ:=⟨ASg,ATW,ASh,AK0,ou Arw,ou AAz⟩
def zbo(Ic):dJ:=An0 (∃S b ļ ks ys,ds= [gZ.d c S b,.AO ļ]/\AM6 AK0 ks ys/\Q ((iG ks ys (E6 ļ)).WP BJ7))
def zbb(Ic):dJ:=An0 (∃S b ZU ks ys,BZX BSA (Q BS))
def V7(Ic):dJ:=An0 (∃S b ZU ks ys d,BZX (iG ks ys Aw5=Ε d) (Q d))
def IK(bs:mw):D:= A2z bD
def zb1(Ic):dJ:=An0 (∃S bs ZU ks ys d,ds= [A'y,Aw1]/\BnN/\iG ks ys Aw5=Ε (qD d)/\PZ d/\ A5T/\AWy (uF bs d))
def Hs(L:Υ)(f:ANM):D:= .dik A0a (kN (GI (AJZ h)))
def Er(BEJ):BC:=kN fun h=>BE (f h) - x h
structure Es (BEJ):Ι where
 few:ATb<=12
 mm:∀h∈L,(f h).ABt<2^100
 cd:Aqu 736 (∀h∈L,yC 736 d (x h))
structure Ua (ps:FH):Ι where
 len:Al5
 gd:AAT
 sz:XL ps (Kr 300 p)
structure IV where
 r:Μ
 g:AM
 ps:FH
 hs:Υ
 x:EZ
def IV.xf(p:IV)(h:Μ):AM:=XA (h∈p.hs) (p.x h)
structure IV.Ok (p:IV):Ι where
 r:wO p.r
 g:PZ p.g
 sc:Ua p.ps
def opX(c:Cls)(w:Μ)(f:AN):XV:= .pay P_ [Mn,Ę] [.JE (.AO w),.JE (.bl f)]
def zbh(Ic):dJ:=fun ds Q E=>∃(S:gZ) (b:AJa) (ZU:Μ) (L:Υ) (f:ANM) (p:IV),ds= [gZ.d c S b,Aw1,Hs L f]/\AK0=zy p.hs p.x/\ASg= .AO p.r/\ATW=qD p.g/\ASh=Eo c p.ps/\p.Ok/\Es ę L f/\
 Hr c p.r p.g Bcg (Bn v (Q (qD (ur p.ps v)))) fun f=>E (opX c ZU f)
def Ht(BEO):AU:=AlQ BaC
def zb2(Ic):vN:=Fm (∃(S:gZ) (ws:Υ) (v:EZ) (bs:mw),ds= [A'y]/\AAz=zy ws v/\ws.Pairwise (qf b AHk)/\BLF/\ (∀w∈ws,Sz 4000 (v w))/\ A5T/\YU BeB)
abbrev Ks:=Μ ->Υ
abbrev Vs:=Μ ->Μ ->Ψ
def stS(BfU)(K:Ks)(V:Vs)(u:EZ):nJ:=
 ⟨.AO p.r,qD p.g,Eo c p.ps,zy p.hs p.x,ce A0b (Cb AK2 BDr ϡ),jg ws (HH (ur p.ps (u w)))⟩
def stT(BfU)(bs:mw)(K:Ks)(V:Vs)(u:EZ):T:=nJ.t c (stS c p uW ws K V u) (Ε (IK bs))
structure abU (p:IV) (uW ws:Υ) (bs:mw):Ι where
 p:p.Ok
 so:A3j
 few:BLF
 aco:uW.length<64
 sm:∀w,w∈uW↔w∈ws
 bz:NL bs (OSz 4000 b)
def up{α:CB}(f:Μ ->α)(w:Μ)(a:α):Μ ->α:=fun u=>(MV u w a (f u))
def isW(ApM):Ι:=∃s∈Ξ,s.1=w
structure Sorted (A9x):Ι where
 so:A3j
 wm:Ape APt
def mW(Ξ:BU):Vs:=fun w h=>(An1 h num)
def Cu(Ξ:BU)(x:EZ)(w:Μ):BC:=Er x Š AUt
structure wQ (Ξ:BU) (r:Μ) (g:AM) (x:EZ) (ws:Υ) (u:EZ):Ι where
 so:Sorted Ξ ws
 ok:AXC (oF r g Alo=Θ/\qw Alo r (u w))
structure oG (Ξ:BU):Ι where
 u:IZ
 few:BMB
 hs:∃U:Υ,AAs<=4/\S4 AYz
 mm:S4 (cr UQ<2^82)
def brs(qs:BC)(bd:Jn):mw:=(((Gk qs bd).EL ASk).dropLast).EL (Hq AMt)
def yM(ps:FH)(ws:Υ)(u:EZ):BC:=AlQ (AOK u)
def qx(r:Μ)(g:AM)(ps:FH)(ms:OT)(x:EZ):IV:=⟨r,g,ps,Adx,x⟩
def Qt(Ic):Iw:=fun t ds P E=>∃(Ξ:BU) (r:Μ) (g:AM) (ps:FH) (bd:Jn),t= .ob GA [] []/\ds= [AYS,.AO r,qD g,Eo c ps,Kw bd]/\AP1/\wO r/\PZ g/\Ua ps/\0<bd.length/\bd.length<=90/\∀ms x,AJN ->
 (∀w f,APt ->BCq (Cu Ξ ADy w) ->(Bia) ->∀t',E t' (opX c w f))/\
 ∀ws u,AXT ADy ->
  (BU_ ->∀t',E t' (Bdy AVN bd))/\
  (BTv ->∀uW,abU BdO uW ws A7Q ->P (stT c BdO uW ws A7Q AM4 AxA u) BS)
theorem yaf{c:Cls}{t ds P E}(h:Qt c t ds P E):ABx 5:=AoU
theorem z50{c:Cls}{t ds P E}(h:Qt c t ds P E):BZ6 Qt:=by
 obtain⟨Ξ,r,g,ps,bd,h1,h2,h3,h4,h5,h6,h7,h8,h⟩:=h;exact⟨Ξ,r,g,ps,bd,h1,h2,h3,h4,h5,h6,h7,h8,fun ms x G=>⟨A'j.1,fun ws u A=>⟨(A'j.2 ws u A).1,fun a uW O=>(IC ((A'j.2 ws u A).2 a uW O))⟩⟩⟩
theorem zmc(Be zbo):Fc:=ARx
theorem zjq(Be zbb):Fc:=ARx
theorem zru(Be V7):Fc:=AoU
theorem zqa(Be zb1):Fc:=AoU
theorem zkr(Be zbh):vx:=AoU
theorem zqr(Be zb2):Kt:=AoT
def Nv(AZ_):Μ×AM:=(AEq (n6 Bd2 (AW3 58 3)) (.AO r) r uV,Í (B' ((Aut 58 3).KF 40)) (1+ AWB 58 120))
def Ub(z:Ψ):Bd:=(AZ6* Abu,AZ6* Abu+AEq (n6 BgM ((jn 9).KF 4)) (Ev M) M 0)
def Qu(AZ_):Jn:=MS Bbr fun i=>(AiK (54+i))
def zdd(D8):dJ:=Aq2 (0< De Qu ns ->De Qu ns<=12 ->P (Kw (Qu ns)))
def zex(D8):dJ:=Aq2 (wO Aob ->PZ Aom ->P (KP [.AO Aob,qD Aom]))
def Gp(ns:B6)(b:Ψ):MR (Ψ×Ψ×FH)
 | 0=>(BbW,BbX,[])
 | D'=>Bgp
def Ky(AZ_):FH:=(Gp ns (1+ AWB 46 15) Bbs).2.2
def zbi(D8):dJ:=Aq2 (Ua (Ky ns) ->YU (Cb Ky ns pD))
inductive Out where
 | op (w:Μ) (f:AN) | ba (ls:AJm) | ma (BEO)
inductive Res (Ξ:BU) (r:Μ) (g:AM) (ps:FH) (bd:Jn):F6 Out
 | op:∀ms x w f,G_ AJN APt (BCq (Cu Ξ ADy w)) Bia (AyK (.op w f))
 | ba:Bjw BU_ (.ba (uE AVN bd))
 | ma:Bjw BTv (.ma ws (é (AOK u)) A7Q)
def aad:Μ:=Ŝ "open"
def Gq:Μ:=Ŝ "made"
def z6d:Μ:=Ŝ "barred"
def outD:Out ->D
 | .op w f=> ANx aad (.AO w) (.bl f)
 | .ba ls=> ANx z6d (.B_ (ASe rD)) BS
 | .ma ws v bs=> ANx Gq (.B_ AqW) (IK bs)
def zbn(Ic):vN:=Yf S gZ bs mw (ds= [A'y]/\YU (ADl x6 bD))
def Uc(D8):dJ:=Yf ns B6 Ξ BU (ds= [AX8,AYS]/\ANo/\AP1/\∀o,Res Ξ Aob Aom (Ky ns) (Qu ns) o ->P (outD o))
def zdy(D8):dJ:=Fm (∃(ns:B6) (A:BU) (k:Δ),ds= [AX8,eG A,Ϭ]/\ANo/\A.length<=100/\k<=100/\∀B:BU,B.Perm A ->P (eG B))
def V8(D8):dJ:=Fm (∃x,ds= [vy]/\A0y/\A1f)
def zf9(D8):dJ:=Fm (∃i m:Ψ,ds= [HI,.AL m]/\0<=i/\i<=m/\A1f)
def IW:Υ:= [(xC :Μ),Ai']
def Ud(Bep):T:= .ob C IW (Ahw (.j7 AAa (Cb dr (Re AWG) ϡ)))
def bkD(Bep):D:= .obj C IW [.AL m,.j7 AAa (dr AN1)]
def Qw(Ic):Iw:=fun t ds P _=>t= .ob Hc [] []/\∃m:Ψ,ds= [.AL m]/\P (Ud Hc m []) BS
def V9(Ic):Iw:=fun t ds P _=>∃(rs:BU) (r:Rw),t=Ud Hc AOQ rs/\ds= [.AO Cl,Aw2,ACp]/\Nu r/\w8<1000/\ (∀s∈rs,oU s≠oU r)/\P (Ud Hc AOQ (rs++ [r])) BS
def Et(rs:BU)(p:P2):D:= ANx CS Azv ((wC AAa A2G (wF p)).WP BS)
def zdz(Ic):dJ:=Yf m Ψ rs BU (ds= [bkD Hc m rs]/\ BNL/\w8<64/\∀ms:ϥ,ĺ (dr oU) ->A2a ->YU (Q1 (Et rs)))
theorem zvv(Be zdd):Kt:=WB
theorem z5d(Be zex):Kt:=WB
theorem zlf(Be zbi):Kt:=WB
theorem zl9(Be zbn):Kt:=HC
theorem z4e(Be Uc):Fc:=HC
theorem zzn(Be zdy):vx:=og
theorem z6j(Be V8):Kt:=WB
theorem ybz(Be zf9):Fc:=HC
theorem yoy{c:Cls}{t ds P E}(h:Qw c t ds P E):Kt:=HC
theorem ynl{c:Cls}{t ds P E}(h:Qw c t ds P E):BZ6 Qw:=by show a_ h1 m h2 h3;exact⟨h1,m,h2,Β,h3⟩
theorem z43{c:Cls}{t ds P E}(h:V9 c t ds P E):vx:=og
theorem z0p(Be zdz):Kt:=HC
def zfu(Ο):aH:=(aW 7 (TM ϩ (OS CD (kz (TM Aig (SD va (ax ug (eU (cB nq AEi LT) (ACt sU (ű AZ)))))) 26))))
def zhq(Ο):aH:=(aF (aW 9 (BOL (TM (AOa (sC AZ 24) 48271) (AOa (SD AEi AEi) 69621)) (AOa AEi 7)))
 (zfu K c))
def zmg(Ο):aH:=(Aam 5 ϩ)
def zma(Ο):aH:=(aF (sI (XT (TM FI (SD va (ax ug BNJ)))) (IR 8)
 (zhq K c))
 (zmg K c))
def zra(Ο):aH:=(aF (aW 7 (si ""))
 (zma K c))
def zr8(Ο):aH:=(aV Ya)
def zrs(Ο):aH:=(aF (sI (XT AR) (IR 6)
 (zra K c))
 (zr8 K c))
def zrw(Ο):aH:=(aF (cP 5 (eO ak))
 (zrs K c))
def zfi(Ο):aH:=(aF (aW 4 (cB bW (sC AZ 24) FI))
 (zrw K c))
def zje(Ο):aH:=(aF (cM (cT BNJ)
 (aW 3 Pi)
 bh)
 (zfi K c))
def zjc(Ο):aH:=(aF (aW 3 (TM Pi (AYg AZ 3 8)))
 (zje K c))
def zhx(Ο):aH:=(aF (aW 2 (si Ar2))
 (zjc K c))
def zt3(Ο):aH:=(aV (kz (SD CD CD) 2147483629))
def ztf(Ο):aH:=(aF (cM (Ϙ qW nE)
 (aW 2 (BOL (AOa (OS AZ (cB bW (AOa AR 7) nE)) 48271) BOk))
 bh)
 (zt3 K c))
def zuq(Ο):aH:=(aF (aW 2 (RC cN BOk 5))
 (ztf K c))
def zqq(Ο):aH:=(aF (cM (VY tZ AR nE)
 (aV A4N)
 bh)
 (zuq K c))
def zrf(Ο):aH:=(aV (cC AYU))
def zhe(Ο):aH:=(aF (cM (cT (RC nq AZ 2))
 (aV (eU (cB nq (kz AR 2) (kz CD 2)) (RC qW (kz LT 4) 0)))
 bh)
 (zrf K c))
def zic(Ο):aH:=(aF (cM (cT (ACt nq AZ))
 (aV (jU (BTu AR) (BTu (AQb AR))))
 bh)
 (zhe K c))
def zgp(Ο):aH:=(aF (cM (Ϙ nq AZ)
 (aV (RC qW (ű LT) 0))
 bh)
 (zic K c))
def zg4(Ο):aH:=(cM (cT (aq (zde c) (aj FI (AZJ AEi Aig AR (cV 10)))))
 (Aam 7 (AR1 (OS Ya AEi) (OS va Aig) (cB bW (sC (cV 10) 12) LT)))
 bh)
def zfk(Ο):aH:=(aF (Tu 10 yJ AZ (TM (AkV 6 (SD AEi AR)) Aig))
 (zg4 K c))
def zfg(Ο):aH:=(sI (XT AR) (IR 9)
 (zfk K c))
def zkc(Ο):aH:=(Y_ (iQ (dN (ql ϩ BMO qp)) (dN (ql ϩ qp BMO))))
def zlb(Ο):aH:=(aF (aW 11 (cB bW (sC (ANK 3) 4) (AQb (eZ (zh ϩ)))))
 (zkc K c))
def zkl(Ο):aH:=(aF (sI (XT CD) (IR 8)
 (zfg K c))
 (zlb K c))
def zks(Ο):aH:=(aF (cP 7 (eO ak))
 (zkl K c))
def zld(Ο):aH:=(aF (Tu 6 V5 (ANK 5) AR)
 (zks K c))
def zgd(Ο):aH:=(aF (Tu 5 V5 (ANK 4) CD)
 (zld K c))
def zl1(Ο):aH:=(aF (aW 4 (OS (ADa (AZJ Awu (UM 4) Awu BYW)) (AP_ 3 4)))
 (zgd K c))
def zgv(Ο):aH:=(aF (aW 3 (AP_ 2 4))
 (zl1 K c))
def zmt(Ο):aH:=(jW 0 1 (Hm AR BSj))
def zn2(Ο):aH:=(aV AZ)
def zn8(Ο):aH:=(aF (DW (Ϙ qW AR)
 (zmt K c))
 (zn2 K c))
def zn0(Ο):aH:=(aF (aW 1 (ax uc AR))
 (zn8 K c))
def zjf(Ο):aH:=(aF (aW 0 BND)
 (zn0 K c))
def zxv(Ο):aH:=BXJ
def zwb(Ο):aH:=(aF (cM (Ϙ tZ AR)
 (aW 2 (cB fQ AEn CD))
 bh)
 (zxv K c))
def zsf(Ο):aH:=(aF (Tu 2 zcm AZ AR)
 (zwb K c))
def zuj(Ο):aH:=(aV (dU (Hm (OS (ADa (aj BLI (Hm BLK BLJ))) (ű AR)) (OO T9 (AYg AR 3 40) (A4O AR 120)))))
def zql(Ο):aH:=(aF (Tu 1 yJ AZ (UM 58))
 (zuj K c))
def z17(Ο):aH:=(aV (cB tZ Amg A8'))
def zyi(Ο):aH:=(aV (eU (OO Hl AIY AN6) (AHl fZ Hl AIX tT)))
def zqo(Ο):aH:=(aV (eU (ACt qW nE) (ax yer (A_h (A't [] (dN (ql AZ AXL qp))) ZK))))
def zem(Ο):cu:=(ax vA AR)
def zf6(Ο):aH:=(cM (i6 (AQF ZL))
 pL
 bh)
def z6x(Ο):aH:=(aV (ax yfs (dN (ACv [0] AR dM (cB Amu AZ AR)))))
def zwn(Ο):aH:=(cM (AHl cT V4 LT AR)
 (qJ 3 zuw (XT LT))
 bh)
def zq6(Ο):aH:=(Y_ (iQ CD (ADa (aj (dN (ACg zu4 FI)) ak))))
def zyy(Ο):aH:=(aF (vZ AZ (IR 4)
 (zwn K c))
 (zq6 K c))
def z0n(Ο):aH:=(aF (cP 3 (AY_ AR))
 (zyy K c))
def zv3(Ο):aH:=(aF (aW 2 (AZ0 [1] AZ (i6 (ő V4 AR))))
 (z0n K c))
def zhf(Ο):aH:=(YJ 1 2 3 LT)
def ztq(Ο):aH:=(aF (cM (YG 1 CD)
 (YH 1 2 Yt)
 bh)
 (zhf K c))
def zng(Ο):aH:=(zf (nV 1))
def zw4(Ο):aH:=(aF (vZ AZ (fJ 3 (bw (IR 2) (A1n 3 4)))
 (ztq K c))
 (zng K c))
def zsu(Ο):aH:=(aF (JK 1 Yt)
 (zw4 K c))
def zx9(Ο):aH:=(Tu 1 Z2 AR (AW1 zyn CD))
def zza(Ο):aH:=(zf (nOf (ACg yb1 AR)))
def zyt(Ο):aH:=(aF (eE (z1d (fI Bh (T7 c) AZ)) (IR 2)
 (zx9 K c))
 (zza K c))
def zwg(Ο):aH:=(aF (aW 1 (ADa ak))
 (zyt K c))
def zpv(Ο):aH:=(aW 1 CD)
def zo3(Ο):aH:=(aF (aW 0 AR)
 (zpv K c))
def zt0(Ο):aH:=(aF (aW 2 BSj)
 (zo3 K c))
def zwl(Ο):aH:=(aV BND)
def zsi(Ο):aH:=(aF (DW (Ϙ sU AR)
 (zt0 K c))
 (zwl K c))
def zp5(Ο):aH:=(aW 1 (SD AR (cB dG (AHZ CD) (OO VR AR (AHZ CD)))))
def zro(Ο):aH:=(Y_ (Ak4 [1] dM (SD AIY (cB dG AR tT))))
def zr0(Ο):aH:=(aF (vZ AZ (IR 2)
 (zp5 K c))
 (zro K c))
def znk(Ο):aH:=(aF (aW 1 Pi)
 (zr0 K c))
def zs2(Ο):aH:=(Y_ (A't [0,1,2,3] AR dM (cB dG (cB fQ (SD (OS FI LT) AZ) (SD (OS CD LT) AR)) Ya)))
def zv5(Ο):aH:=(Y_ (dB 2 [1,2,3] (AQ5 uf) AWV dM (sG (VY nq AZ CD) AR (aq (Zw c) (AZJ AR LT CD FI)))))
def zso(Ο):aH:=(aF (aW 3 A4N)
 (zv5 K c))
def ztu(Ο):aH:=BXJ
def ztj(Ο):aH:=(aF (cM (Ϙ tZ AR)
 (aW 2 (cU gC CD))
 bh)
 (ztu K c))
def zul(Ο):aH:=(aF (Tu 2 VR AZ AR)
 (ztj K c))
def zpd(Ο):aH:=(aF (cM (Ϙ nq AR)
 pL
 bh)
 (zul K c))
def zsb(Ο):aH:=(aV FI)
def zrk(Ο):aH:=(aF (RP 3 CD A4N)
 (zsb K c))
def zrq(Ο):aH:=(aF (RP 3 AR BMW)
 (zrk K c))
def zno(Ο):aH:=(aF (cP 3 (AY_ AZ))
 (zrq K c))
def z7w(Ο):aH:=(cM (Ϙ sU (OS BMW AR))
 (aV (AAl Zy AZ AR CD))
 bh)
def yfh(Ο):aH:=pL
def ygp(Ο):aH:=(aF (Jo (Hm AR nE) (IR 2)
 (z7w K c))
 (yfh K c))
def zry(Ο):aH:=(aW 3 (OS (OS CD LT) LT))
def zw2(Ο):aH:=(aF (aW 2 (AAl Zx (OO Zz CD LT) LT FI))
 (zry K c))
def zzy(Ο):aH:=(Y_ (dB 2 [] (uf (aj CD ak)) AWV dM (aq (Mi c) (Hm Axb (OS AR AZ)))))
def zy1(Ο):aH:=(aF (sI (XT (zh CD)) (IR 4)
 (zw2 K c))
 (zzy K c))
def zqw(Ο):aH:=(aF (aW 3 Pi)
 (zy1 K c))
def zyj(Ο):aH:=(aF (aW 2 (dN (A't [] AR dM (zI zdt (dN (iQ AZ (AlV AR)))))))
 (zqw K c))
def zi9(Ο):aH:=(Y_ (ACv [0] AR (cT (cB (Nj AC) AR AZ)) AZ))
def znj(Ο):aH:=(aV (cD sO sO AN6 AZ AIX))
def zss(Ο):aH:=(Y_ (Ak4 [1,2] (cT (ax yfs (Agm (ACv [0,2] AR) V1 (cB fQ AR AZ) CD))) AZ))
def z5s(Ο):aH:=(wc Mi (TM Amg A8') (SD tT AIX))
def zyz(Ο):aH:=(Tu 1 TQ AR CD)
def z5c(Ο):aH:=AkA
def z4b(Ο):aH:=(aF (vZ AZ (IR 2)
 (zyz K c))
 (z5c K c))
def z2r(Ο):aH:=(aF (aW 1 (AKQ AEn))
 (z4b K c))
def z48(Ο):aH:=(aV (sG (VY nq AZ AR) (OO TQ (AKQ (zh FI)) LT) LT))
def z3z(Ο):aH:=(aF (aW 4 (zI TV (dN (ACv [] FI dM (dU (Hm (cU gC Pi) BQ_))))))
 (z48 K c))
def z2w(Ο):aH:=(aF (Tu 3 Qs AR (ő Qs CD))
 (z3z K c))
def zxs(Ο):aH:=(Y_ (ACv [0,2] AR dM (AAl Z5 AR AZ CD)))
def z1f(Ο):aH:=(wc Mi (cB fQ Amg A8') (SD tT AIX))
def znt(Ο):aH:=(wc Mi (PN AZ) BQ_)
def zxq(Ο):aH:=(aV (zI TV (Agm (dB 1 [0] (AHl iL Qs AZ AR) y0) Mj (AKQ (cB Ni AZ AR)) (ā Z7))))
def zep(Ο):aH:=(wc ZC (dN (iQ (AlV LT) CD)) (dN (iQ (ADa (A's AEn Pi)) FI)))
def zej(Ο):aH:=(aF (aW 4 (dN (ACv [1] AZ dM (AKQ (zh (ő Qs AR))))))
 (zep K c))
def zj3(Ο):aH:=(aF (aW 3 (A_h (BVj [1]) Z8))
 (zej K c))
def zfp(Ο):aH:=(aF (aW 2 (dN (BVj [0,1] dM (AAl Z6 AZ AR CD))))
 (zj3 K c))
def zjg(Ο):aH:=(YX 1 LT Ya)
def zg3(Ο):aH:=(eE (Pk (Hm CD (OO Z9 CD FI))) (AZT 4 5)
 (zjg K c))
def zja(Ο):aH:=(aF (aW 3 (dN (Ej (fI aq (Nb (T7 c)) (AZ0 [2] AZ (VY Amu tT AR))))))
 (zg3 K c))
def zt1(Ο):aH:=(zf (nV 1))
def zl3(Ο):aH:=(aF (vZ (fI aq (Nb (Z4 c)) AZ) (IR 2)
 (zja K c))
 (zt1 K c))
def zp0(Ο):aH:=(aF (JK 1 Yt)
 (zl3 K c))
def z03(Ο):aH:=(wc Mi (SD AIY AN6) (SD tT AIX))
def z81(Ο):aH:=(wc Mi Amg (SD tT AN6))
def zx7(Ο):aH:=(wc TQ tT (OO V0 FI (OO Mj AN6 AIY)))
def zsk(Ο):aH:=(aF (Tu 3 Zu (OO Mj CD AIY) (OO Mj AIX tT))
 (zx7 K c))
def zlx(Ο):aH:=(cM (AHl cT Hl AR (AMY FI))
 (aV (AAl ZM CD FI AR))
 bh)
def znc(Ο):aH:=(aV (AHZ (OS AbA (cU gC Pi))))
def zl7(Ο):aH:=(aF (eE (Pk (Hm AbA (Yh AbA AXL qp))) (AZT 2 3)
 (zlx K c))
 (znc K c))
def zh6(Ο):aH:=(aF (cM (i6 (OO Hl (AMY (AMY AbA)) AR))
 (aV (AHZ (AMY AbA)))
 bh)
 (zl7 K c))
def ze7(Ο):aH:=(aV (PL (AH_ ASj) AR (AKQ AEn)))
def z74(Ο):aH:=(wc V0 (ā TV) (AKQ nE))
def zht(Ο):aH:=(aV (sG (VY nq AZ BLJ) (UM 2) Pi))
def z2s(Ο):aH:=(wc Mj tT AIY)
def zhi(Ο):aH:=(cM (i6 (OO Hl (AQF T4) (zI T4 FI)))
 (aW 1 FI)
 bh)
def zuu(Ο):aH:=(aF (aW 3 (dN (ql AZ (pC CD) (pC (RC cN CD 2)))))
 (zhi K c))
def zwp(Ο):aH:=AkA
def zns(Ο):aH:=(aF (Jo (Hm Pi BOb) (IR 2)
 (zuu K c))
 (zwp K c))
def zse(Ο):aH:=(aF (aW 1 (dN (ql AZ qp (pC (cC (Ev 2))))))
 (zns K c))
def z7l(Ο):aH:=(aV (ā ZF))
def z7m(Ο):aH:=(aF (cM (jw (cT (RC nq nE 2)) (AHl cT Hl AR (ā T4)))
 (fI cZ xA (si "two marks lie farther apart than the gap"))
 bh)
 (z7l K c))
def zwq(Ο):aH:=(Y_ (ql AZ (pC (sC BOb 2)) (pC (AQb (sC nE 2)))))
def zrl(Ο):aH:=(qJ 1 vB (Hm FI CD))
def zw3(Ο):aH:=(aF (aW 3 (eZ (zh (AZ0 [2] AR (i6 (OO Hl AR AZ))))))
 (zrl K c))
def z0h(Ο):aH:=AkA
def z0d(Ο):aH:=(aF (vZ AZ (IR 2)
 (zw3 K c))
 (z0h K c))
def zwe(Ο):aH:=(aF (cP 1 (eO ak))
 (z0d K c))
def z5e(Ο):aH:=(aV (zI TX (OO ZG (AQF TY) (sG (VY vq CD AOX) (cC Blw) CD))))
def z46(Ο):aH:=(aF (cM (VY nq AZ BLK)
 (aV (zI TX (zI ZD (AQF TY))))
 bh)
 (z5e K c))
def z3y(Ο):aH:=(aF (cM (VY nq AZ BLI)
 (aV (AQF TX))
 bh)
 (z46 K c))
def zuk(Ο):aH:=(aF (cM (VY tZ (zh AR) (ā ZJ))
 (fI cZ ė (si "the rule needs more marks than these"))
 bh)
 (z3y K c))
def zhw(Ο):aH:=(Qd Κ K xA ė (aV (uU ja AK1 (ZP c) (AH_ AGX) (XT (AAl V6 (AH_ d5) FI (AH_ d6)))))
 (Bg0 AYU)
 (Bg0 AIU))
def zei(Ο):aH:=(aF (aW 3 (Agm (dB 2 [0] (z57 CD) AWV) Mj (AKQ AR) (AQ5 (uU GA Ě (zbo c) CD))))
 (zhw K c))
def zi7(Ο):aH:=(Y_ (dB 1 [2] (iL (dN (ql AR qp (pC (cU gC Pi))))) y0 dM BfF))
def zfc(Ο):aH:=(aF (aW 2 (ā TY))
 (zi7 K c))
def zyw(Ο):aH:=(Aam 2 (AAl ZQ AZ (jE 2 (cU gC Pi)) FI))
def z44(Ο):aH:=(aV CD)
def z4g(Ο):aH:=(aF (vZ AR (IR 3)
 (zyw K c))
 (z44 K c))
def z2g(Ο):aH:=(aF (cP 2 (eO (aj (AlV AEn) ak)))
 (z4g K c))
def ze8(Ο):qt:=(J5 1 [] (iL AR) y0 dM (AY_ AZ))
def zjd(Ο):aH:=(aV (zh (AZ0 [0] AR (i6 (ő Hl AR)))))
def z72(Ο):aH:=(Y_ (ACg yae (dN (iQ (AlV AEn) (A_h (Ak4 [0]) ZR)))))
def zfr(Ο):aH:=(Y_ (ql (AW1 yfc FI) AXL qp))
def zm4(Ο):aH:=(aF (Tu 3 T6 CD (AW1 yfc AR))
 (zfr K c))
def zhh(Ο):aH:=(aF (aW 2 (dN (dB 1 [0] (AQ5 zmh) y0 dM BOj)))
 (zm4 K c))
def zin(Ο):aH:=(Aam 2 (ax z65 (AZ0 [0,4] Ya (VY Amu BOj CD))))
def zjv(Ο):aH:=(aF (aW 5 (JC (Yj (Ak4 [2,3] (AHl cT V1 (cB fQ AZ Axb) CD) AZ))))
 (zin K c))
def zkz(Ο):aH:=(Y_ (ql CD AXL qp))
def zla(Ο):aH:=(aF (eE (Pk (Hm AR (ő ZV AR))) (AZT 3 4)
 (zjv K c))
 (zkz K c))
def zg0(Ο):aH:=(aF (cP 2 (eO (aj AEn ak)))
 (zla K c))
def ybd(Ο):aH:=(wc ZW CD AR)
def z5q(Ο):aH:=(aF (cM (VY (rR Κ) nE (OS FI (cU gC Pi)))
 (zzq SW d4 (V3 c) (XT FI))
 bh)
 (ybd K c))
def z7a(Ο):aH:=(aF (Tu 3 T6 CD AR)
 (z5q K c))
def z99(Ο):aH:=(aF (aW 2 (ā ZS))
 (z7a K c))
def zg6(Ο):aH:=(J9 GA 0 GB 6 (zzp GA AGZ (zbh c) AZ (Hm va (cB Ni BLW va))))
def zib(Ο):aH:=(wD GA 0 AdB (OO Z0 ϩ (OO ZX ϩ Ya)))
def zhy(Ο):aH:=(aF (aW 7 (dN (Ek (Ej AlK))))
 (zib K c))
def zhk(Ο):aH:=(aF (vZ (dN (Ek (ACg zty BLW))) (IR 6)
 (zg6 K c))
 (zhy K c))
def zhp(Ο):aH:=(aF (Bj GA 0 GB Yt)
 (zhk K c))
def zik(Ο):aH:=(aF (Bj GA 0 Nl (ya2 (fI Bh (T7 c) AR)))
 (zhp K c))
def zis(Ο):aH:=(aF (wD GA 0 ASj (PX (fI Bh (zez c) AR)))
 (zik K c))
def zhm(Ο):aH:=(aF (wD GA 0 AGX (BeH (AW1 rQ (mR ja ZY LT))))
 (zis K c))
def zia(Ο):aH:=(aF (wD GA 0 d6 FI)
 (zhm K c))
def zco(Ο):aH:=(aF (wD GA 0 d5 CD)
 (zia K c))
def zd4(Ο):aH:=(cM (VY (Nj Κ) AR AlK)
 pL
 bh)
def zmd(Ο):aH:=(aV (cB Ni AlK AR))
def zhd(Ο):aH:=(aF (fG (uU GA AA_ (zbb c) AZ (XT AR)))
 (zmd K c))
def zj4(Ο):aH:=(cM (jw (cT (cB jD FI AOX)) (i6 (OO Hl AR FI)))
 (aV CD)
 bh)
def zlr(Ο):aH:=(aV nE)
def zg5(Ο):aH:=(aF (eE (AQ5 uf) (AZT 2 3)
 (zj4 K c))
 (zlr K c))
def zgz(Ο):aH:=(wc Z1 BLX (uU GA KG (V7 c) AZ (aj AR ak)))
def zg2(Ο):aH:=(zf (nOf (dB 1 [0] (iL (dN (ACg zty AlK))) y0 dM (AR1 AZ (AQ5 (uU GA KG (V7 c) AR)) (AQ5 (uU GA d_ (zb1 c) AR))))))
def zfd(Ο):aH:=(zf (nOf (AY_ BLX)))
def zlv(Ο):aH:=(qJ 1 qY (A's LT (TM LT (OS (ADa (AZJ (UM 60) (UM 2) (UM 4) (AYg FI 36 7))) (AYg FI 9 4)))))
def zlc(Ο):aH:=(aF (aW 4 (SD (ű FI) (ax ug (ACt nq (ű (sC FI 3))))))
 (zlv K c))
def znv(Ο):aH:=(aF (Tu 3 yJ AZ (AkV 54 CD))
 (zlc K c))
def zq4(Ο):aH:=AkA
def zqn(Ο):aH:=(aF (sI (XT (TM Pi (AP_ 53 4))) (IR 2)
 (znv K c))
 (zq4 K c))
def zkv(Ο):aH:=(aF (cP 1 (eO ak))
 (zqn K c))
def zf7(Ο):aH:=(aW 2 (TM (SD (UM 6) (AQb (ax uc CD))) (ű (sC va 105))))
def zcw(Ο):aH:=(aF (aW 1 (TM (AQb AR) (AYg va 15 7)))
 (zf7 K c))
def zc0(Ο):aH:=(aF (qJ 4 qY (A's (OO T9 AR FI) ϩ))
 (zcw K c))
def zf8(Ο):aH:=(aF (cM (jw (cT (RC qW Ya 0)) (cT (RC nq (kz va 5) 4)))
 (aW 7 (AHZ (jE 4 (ACt fQ Ya))))
 bh)
 (zc0 K c))
def zfq(Ο):aH:=(aF (Tu 7 T9 CD (A4O va 5))
 (zf8 K c))
def zg7(Ο):aH:=(aF (Tu 6 yJ AZ (AkV 49 Ya))
 (zfq K c))
def zh7(Ο):aH:=A0V
def zhu(Ο):aH:=(aF (sI (XT (AkV 2 (ű (ANK 48)))) (IR 5)
 (zg7 K c))
 (zh7 K c))
def zh0(Ο):aH:=(aF (cP 4 (eO ak))
 (zhu K c))
def zh1(Ο):aH:=(aF (aW 3 (A4O (ANK 46) 15))
 (zh0 K c))
def zhc(Ο):aH:=(aF (aW 2 (RC fQ (AP_ 47 21) 4))
 (zh1 K c))
def zer(Ο):aH:=(aF (aW 1 (RC fQ (AP_ 46 15) 9))
 (zhc K c))
def zs9(Ο):aH:=A0V
def zt9(Ο):aH:=(aF (Kh K P_ SW 6 (aF (J3 5 (Ef GA (Qt c) (aj AR (AZJ CD FI (BeH (ā zbi)) (ā zdd)))))
 (aW 4 (AR1 (si "made") (Kp (En (Ei GA Tx (zb2 c) Ya))) (Kp (En (Ei GA jb (zbn c) Ya))))))
 (aW 4 (AR1 (si "open") (Em P_ Mn 6) (Em P_ Ę 6)))
 (aW 4 (AR1 (si "barred") (Qf SW d4 6) AOX)))
 (zs9 K c))
def zuv(Ο):aH:=(aF (aW 4 AOX)
 (zt9 K c))
def zrc(Ο):aH:=(aF (jV (ā zex) (fJ 2 (A1n 2 3)))
 (zuv K c))
def zmy(Ο):aH:=(Aam 4 (fI Ko 3 (cB bW (TM (cB dG va (AQb (sC Ya 12))) Ya) (eZ (zh FI)))))
def zqu(Ο):aH:=(aF (Tu 6 yJ AZ (TM CD (kz Ya 12)))
 (zmy K c))
def zr5(Ο):aH:=A0V
def zrz(Ο):aH:=(aF (sI (XT (zh AR)) (IR 5)
 (zqu K c))
 (zr5 K c))
def zsa(Ο):aH:=(aF (cP 4 (eO ak))
 (zrz K c))
def znm(Ο):aH:=(aF (cP 3 (AY_ AR))
 (zsa K c))
def zk7(Ο):aH:=(Bj Hc 0 GB nDT)
def zd0(Ο):aH:=(aF (wD Hc 0 xC AR)
 (zk7 K c))
def zwr(Ο):aH:=(aV (cD sO sO AEn AZ AR))
def zsw(Ο):aH:=(aF (cM (uT (cT (jx ASl AZ)) (i6 (jx AGa AZ)))
 Ang
 bh)
 (zwr K c))
def zvu(Ο):aH:=(aV (ax yer (dN (dB 1 [] (yn2 AZ) y0 dM (cD Nh Nh (si "a") AZ (cC (Bcz "z")))))))
def zw1(Ο):aH:=(aF (cM (i6 (cD sO sO Pi nE (cC (Ev 8))))
 Ang
 bh)
 (zvu K c))
def zsq(Ο):aH:=(aF (cM (i6 (jx ĝ AZ))
 Ang
 bh)
 (zw1 K c))
def zuy(Ο):aH:=(PB Hc 0 GB 1 2 FI)
def zu3(Ο):aH:=(aF (cM (YS Hc AC 0 GB (dU (Hm AR CD)))
 pL
 bh)
 (zuy K c))
def zua(Ο):aH:=(aF (cM (i6 (OO zf9 FI (Pz Hc 0 xC)))
 pL
 bh)
 (zu3 K c))
def zj5(Ο):aH:=(aF (cM (uT (i6 (AQF V8)) (i6 (zI V8 CD)))
 pL
 bh)
 (zua K c))
def znq(Ο):aH:=(Y_ (dB 2 [0] (iL (dN (ACg zyo (mR Hc GB AZ)))) AWV dM (AR1 AZ AR (cB SJ (mR Hc GB CD) (dU (Hm AZ AR))))))
def z7x(Ο):aH:=(fG (JZ Hc AA' 5 (V9 c) (aj va (Hm ϩ AEi))))
def zrb(Ο):aH:=(cM (uT (dF (cT (cB sU (J2 Hc SZ (zdz c) Ya) BOo))) (VY sU (ő Uc LT) CD))
 Ang
 bh)
def zz4(Ο):aH:=(aF (vZ LT (fJ 3 (bw (IR 6) (A1n 7 8)))
 (z7x K c))
 (zrb K c))
def zzc(Ο):aH:=(aF (J3 5 (Ef Hc (Qw c) (XT BYW)))
 (zz4 K c))
def ybk(Ο):aH:=(aF (aW 4 (AAl zdy AZ AR FI))
 (zzc K c))
def yd0(Ο):aH:=(aV (cB nq (ő Uc BOo) CD))
def ycp(Ο):aH:=(aF (vZ (ADa (Hm (UM 30) (UM 34))) (IR 3)
 (ybk K c))
 (yd0 K c))
def ycg(Ο):aH:=(aF (Tu 2 Uc AZ AR)
 (ycp K c))
def yby(Ο):aH:=(aF (aW 1 (AAl zel AZ (TM Pi (AP_ 0 4)) (kz (ő yJ Pi) 7)))
 (ycg K c))
theorem ya8(Be VR):Fc:=HC
theorem z47(Be Mi):Fc:=HC
theorem ymq(Be TQ):Fc:=HC
theorem yi1(Be Mj):Fc:=HC
theorem yj7(Be Zu):Fc:=HC
theorem yoa(Be V0):Fc:=HC
theorem yj1(Be Hl):Fc:=HC
theorem uI{j:Ψ}(h:AtW<2^64):A0p:=zO (mj h) Χ
abbrev fin(Q:APb):rZ:=A__
theorem z6o(B7 VR):vz zsi:=by
 show AQQ i j;refine DM (fun m Γ=>∃a b r,Γ= [EG a,AJj,r]/\m=AT7/\BZ7) ⟨_,i,j,EI,Β,Β,Β⟩;rintro m _ ⟨a,b,r,Β,Β,hg⟩;refine ϰ;by_cases hb:b=0
 ·subst hb;have:MO (! mO AIB AIB):=AEr
  rw[Ρ];refine(?_:AWy Bcx);have e:Bcx=AX7:=by
   rw[<- hg,Bo6];show Ù
  show Ts e
 ·have:AEl (mO (Ev b) AIB):=XU mO hb
  rw[Ρ];exact⟨hb,_,zfh hb,b,Aes b,EG (Aes b),Β,Β,G0 z23 hg⟩
theorem zwa{i j:Ψ}(hj:AOc):dv i j≠0/\∀n,g_<=n ->Ñ<=n ->dh (dv i j)<=n:=by
 refine⟨Zc hj,fun n h1 h2=>zO (MN ?_) h2⟩;show hG k (z6e i j);have h:=ϵ AuG;rw[Ĵ] at h;rw[h];have:k≠0:=A1 (hj (by rw[e,z,Bo7]))
 exact BL6
theorem z5f(B7 Mi):vz zpd:=by
 show wn i j b1 b2;refine ϰ;by_cases hj:j=0
 ·subst hj;have:mO AIB AIB=Κ:=AEr
  rw[Ρ];exact ALq
 ·have:mO (Ev j) AIB=AC:=XU mO hj
  rw[Ρ];rw[CO hj,<- yl9 hj] at h;refine IS i j ?_;show C5 d0 d1 (ö zwa) hj;refine(?_:wt (j<0));by_cases hn:j<0
  ·show DF (Co hn)
   show ArB (-AX7) (by unfold dv;show DF hn)
  ·show BN (Co hn)
   show ArB AX7 (AYR dv hn)
theorem at0{x y:D}:n6 [x,y] 0=Ε x:=AIe 0
theorem at1{x y:D}:n6 [x,y] 1=Ε y:=Alr
theorem vD(BVk):DX i j:= Alv
theorem yN(BVk):dh (i*j)<=8000:=OR (G4 i j)
theorem abV(BVl):TK (dh (i+j)):=OR (zi5 i j)
theorem abW(BVl):TK (dh (i - j)):=OR (znf i j)
theorem Wa{i:Ψ}(h1:g_<=8000):AkP:=Τ
theorem yoz(B7 TQ):P7 z5s:=by
 show AXd b Β a1 a2 b1 b2 h h;refine⟨_,at0,_,at1,Aml,_,at0,_,at1,A9h,_,at1,_,at1,A3i,_,_,Β,abV (yN a1 b2) (yN b1 a2),AnF b2,?_⟩;rw[A_p,<- yg1];exact h
theorem yhq(B7 Mj):P7 z1f:=by
 show AXd b Β a1 a2 b1 b2 h h;refine⟨_,at0,_,at1,Aml,_,at0,_,at1,A9h,_,at1,_,at1,A3i,_,_,Β,abW (yN a1 b2) (yN b1 a2),AnF b2,?_⟩;rw[A_p,<- ygd];exact h
theorem yhu(B7 Zu):P7 z03:=by
 show AXd b Β a1 a2 b1 b2 h h;refine⟨_,at0,_,at0,vD a1 b1,_,at1,_,at1,A3i,_,_,Β,Wa (yN a1 b1),AnF b2,?_⟩;rw[A_p,<- ygo];exact h
theorem ynh(B7 V0):P7 z81:=by
 show AXd b Β a1 a2 b1 b2 h h;refine⟨_,at0,_,at1,Aml,_,at1,_,at0,vD a2 b1,_,_,Β,Wa (yN a1 b2),AnF b1,?_⟩;by_cases hb:b=0
 ·show ϖ hb;show DF (gS hb Bo7 _);exact h
 ·show n9 hb;rw[WG (BJB BnD (A1 (hb (Cm.mp z)))),<- yg4 a b hb];exact h
theorem ylb(B7 Hl):P7 z17:=by
 show AXd b Β a1 a2 b1 b2 h h;refine⟨_,at0,_,at1,Aml,_,at0,_,at1,A9h,?_⟩;rw[yib] at h;exact h
theorem yob{n:Δ}(AQS):nA UV (qD a) (qD b):=by
 show AGP
 match i with
 | 0=>show BbH
 | 1=>show BbH
 | i+2=>simp at h1
theorem wR:AMq (Lu 1000):=B4
theorem Cw{i m:Ψ}(hm:0<m):0<=Adh m/\Adh m<m:=CL BL7 ⟨BI9 _ Η,Int.emod_lt_of_pos _ hm⟩
theorem Qx(AKO):mO ϫ (Ev j)=O0 (i=j):=by
 simp only [mO];by_cases h:i=j<;>simp [h]
theorem Nx{i:Ψ}{n:Δ}(h:0<n):∃k:Δ,Adh LS=Fu/\k<n:=by
 have:=hV i LS Η
 exact⟨(Adh LS).eR,Τ,Τ⟩
theorem z41(Be yJ):Fc:=HC
theorem ypg(Be z1r):Kt:=WB
theorem z4w(B7 yJ):vz zqq:=by
 show wn ns k hl hk;refine(?_:wt (Fu< A_0));show Az2;by_cases A8:Az_
 ·show DF (Co A8)
  refine DM (.AL ns[k]) (Du (IB A8))
  show Dx bJ;rw[ATw A8] at h;exact h
 ·show BN (Co A8)
  show Dx bJ;rw[dif_neg A8] at h;have bk:dh Fu<=10:=mj (by simp only [Bo9];show Ω)
  show To (CI ARd) (wt (TN< A_0));show NR;have fin2:∀m:Ψ,m.natAbs<2^40 ->Bal ->DX m m/\ fq 2147483629/\Bal:=fun m hm hq=>
   ⟨Aa7 mj hm,B4,hq⟩
  by_cases he:ns= []
  ·subst he;show BN A0
   rw[E2] at h;exact fin2 _ Η h
  ·have hp:0<JA:=(by cases ns with | C3=>show AFG he | AX _ _=>exact BFy _)
   show DF (Co hp)
   show n9 he;refine DM ARd (show fq (De xp HE) by show NR;show Ω)
   have hm:(Fu*7).KF A_0=EU AnR:=by
    show APR BL7 Int.natCast_emod AdI
    rfl
   dsimp only [aF,bh,cC,cV,cB,cT,jw,uT,gq,eU,jU,fZ,sG,ak,aj,dU,eO,dN,fG,aV,gK,cM,aW,cP,Lc,fH,bw,fJ,jV,jW,aq,cU,iC,gC,cN,fQ,cR,dG,bW,jC,tZ,sO,qW,yg,vq,jD,nq,sU,dw,wI,sJ,uc,lR,yh,yj,cZ,lV,gM,jx,lW,LA,MI,ML,My,LH,fK,kj,rQ,vA,qp,pC,ql,lX,eZ,dF,jE,qJ,qY,vB,iQ,rR,cD,dW,ug,yw,uf,lY,lZ,iL,eE,gH,kE,dM,Lo,M0,JJ,LY];rw[hm];have hlt2:AnR<JA:=BIV _ hp;show uA (DM (.AL (pv (AnR) 0)) (Du (by simp [Fh,MH,hlt2]))) ⟨ARd,ARd,B4,?_⟩ (fin2 _ ?_ h);have h1:=zfh (a:=pv (AnR) 0*48271+ Fu*7919) (b:=2147483647) Χ
   exact AtK h1 Χ
theorem ykx(Be TV):Kt:=WB
theorem yn5(Be TX):Kt:=WB
theorem yjr(B7 TV):vz z2r:=by
 obtain⟨qs,Β,s1,s2,h⟩:=h;refine Ale AgI (∃x,Γ= [Pf ANR,AIV (fj (Ars i)),x]) E4
 ·rintro i x _ hi ⟨y,Β⟩;rw[Fh] at hi;cases q:qs[i]? with
  | Θ=>show BFI
  | Ε a=>
   rw[q] at hi;show AVu;refine⟨_,_,Β,s2 i,s1 a (yV q),AIV a,?_⟩;rw[AeS,q,zzw];simp only [Option.toList_some,fj,AGW]
   rfl
 ·rintro _ ⟨y,Β⟩;have h' :=h;show BKv;exact h'
theorem ylu(B7 TX):ϳ z74:=by
 obtain⟨qs,Β,hl,s1,s2,h⟩:=h;refine⟨qs,Β,s1,s2,?_⟩;have e:AHE BUB=qD BKR:=BKH Tv
 refine⟨AgI,fj qs,BKR,by show Ct ([_,AHE BUB]=_);rw[e],?_,BYS ?_,?_⟩
 ·have:=s2 He;show BKg
 ·exact zL (IY (cr APV<=1000)) Χ
 ·by_cases hq:qs= []
  ·subst hq;rw[E2] at h;show DF A0;exact h
  ·show n9 hq;rw[WG]
   ·exact h
   ·intro z;have z' :APV=0:=ò z
    exact hq (AAw Η)
theorem zpw(Bc9):FL (L8 f) (f i):=DT h
theorem Ml(Bc9):ϝ L8 f L5 (f i):=Du (zpw h)
theorem z6t{n:Δ}(f g:ACy):Bjg:=by
 unfold nC;show nX
 ·simp
 ·show AFw;simp
theorem yhd{n:Δ}(f:ACy):LC 0 (L8 f)=L8 (GL (.DZ [.AL (Lu i),f i])):=by
 apply BrR;intro i;rw[ztc];by_cases h:i<n
 ·rw[zpw h,zpw h];simp
 ·simp [h]
theorem zw0(BbI):lx is DD P gc (∀i∈is,ARo (P [g i]) i) (P (ATv g)) (AVt ATv)
 | [],_,_,h=>h
 | i::is,P,k,h=>k i zY _ (zw0 BYH h)
theorem zkq(BbI){n:Δ}{P:gc}(k:AFN (ARo (P [g i]) i))(h:P (L8 g)):AVt L8:=
 zw0 (UU hi (k i (UI hi))) h
theorem zl6{m:Δ}{f g:ü}(h:X0 m (f j=g j)):iT m f=iT m g:=by
 unfold iT
 congr 1
 exact ABr (BZb h)
theorem z4n{n m:Δ}{a b:Mx}(h:∀i j,i<n ->j<m ->a i j=b i j):Ano=qQ n m b:=by
 unfold qQ
 congr 1
 exact ABr (LW (zl6 fun j hj=>h i j (UI hi) hj))
theorem z0g(Be zdt):Kt:=HC
theorem z0c(Be Zy):vx:=ARx
theorem yo7(Be Zz):Fc:=AoT
theorem yag(Be Zw):ABx 4:=ARx
theorem ybs(Be Zx):vx:=ARx
theorem ydy(Be ZC):Fc:=by obtain⟨_,_,⟨Β,_⟩,_⟩:=h;rfl
theorem ybt(B7 Zw):ny zs2:=by
 obtain⟨m,k,f,g,p,Β,hk,p0,bp,bf,bg,h⟩:=h;refine(?_:Ď (nC (Amn (AJZ j)) (Amn (.AL (g j)))));rw[z6t];refine zkq (g:=F8 (.AL ((BYV).oz p))) (Aa' j hj) h;have b1:=bg k;have b2:=bf j;have b3:=bf k;have b4:=bg j;exact⟨Β,Β,.AL (g k),Ml hk,Alv,AJZ k,Ml hk,Alv,⟨p0,bp⟩,hP⟩
theorem yb2(B7 Zx):ny zso:=by
 obtain⟨a,n,m,k,p,Β,hk,hkm,p0,bp,ba,h⟩:=h;refine DM (iT m (a k)) (Ml hk);show APp (Ď (LC 0 (AQj AOO))) yhd (zkq (g:=GL (iT m BgI)) (Aa' i hi) h);refine IS Β Β ?_;rw[Qx];by_cases e:i=k
 ·subst e;show õ Β;have:iT m (Ho i p a i)=AOO:=zl6 fun j _=>E2;rw[Ρ] at hP;exact hP
 ·show ô Η
  have:iT m BgI=iT m (F8 BiH):=zl6 fun j _=>(CO e);rw[Ρ] at hP;exact⟨m,k,a i,a k,p,Β,hkm,p0,bp,F8 (ba i j hi),F8 (ba k j hk),hP⟩
theorem yi5{n:Δ}(f:ACy){k s:Δ}(hk:k<n)(hs:s<n):((L8 f).set k (f s)).set s (f k)=L8 (GL (f (uz k s i))):=by
 show nX
 ·simp
 ·show AFw;simp only [List.getElem_set,AT1,Brp];unfold uz;by_cases e1:s=i
  ·subst e1;by_cases e2:k=s
   ·subst e2;simp
   ·rw[E2,vi,E2]
  ·show BN e1;by_cases e2:k=i
   ·subst e2;rw[E2,E2]
   ·rw[CO e2,vi,vi]
theorem z95{n k:Δ}(h:k<n):yc n Fu=Ε k:=by
 unfold yc;rw[C9 Η,ù];simp
theorem z0r(B7 Zy):ny zno:=by
 obtain⟨a,n,m,k,s,Β,hk,hs,h⟩:=h;refine⟨iT m (a s),Ml hs,E4,k,z95 (IB hk),iT m (a k),Ml hk,E4,s,z95 (IB hs),?_⟩
 have e:=yi5 (rq AOO) hk hs;show Ts e
theorem ypd(B7 Zz):vz ygp:=by
 obtain⟨a,n,m,k,Β,hn,hk,hm,h1,h2⟩:=h;have el:De L8 (GL AOO)=n:=C_
 show(Ay1<=Fu/\ Fu<2^62/\ Ay1<=A5t/\ A5t<2^62)/\Rc (Jm Fu (A5t - Fu).eR _ _);rw[el,IY ((LS - Fu).eR=n - k)]
 refine Ale ⟨Τ,Τ,Τ,Τ⟩ (∃y:GG,Γ= [.pu (qQ n m a),AX9,y]/\BY1 (s<k+i)) (RU (fun s hs hs' =>Τ))
 ·rintro i _ hi ⟨y,Β,hz⟩;have e0:Fu+ L5=EU (k+i):=Τ
  have A8:k+i<n:=Τ
  refine⟨iT m (a (k+i)),?_,.AL (a (k+i) k),Ml hm,Β,?_⟩
  ·rw[e0];exact Ml A8
  rw[Qx];by_cases ez:a (k+i) k=0
  ·show õ ez;refine RU (At s hs hs');by_cases es:s=k+i
   ·rw[es];exact ez
   ·exact hz s hs Η
  ·show ô ez;refine⟨a,n,m,k,k+i,?_,hk,A8,h1 _ Η A8 ez⟩
   rw[e0]
 ·rintro _ ⟨y,Β,hz⟩;exact(h2 fun s hs hs' =>hz s hs Η).WI
theorem yji(AQ7):Pe ABu=q* Pe ABv/\ A6X:=by
 have hd:A6X:=by
  have:=q.den_pos
  exact_mod_cast (IY (fq ABv))
 have e:Í (B' ABu) ABv=q:=by
  have:=BJC q;show Da BJD;exact Ρ
 refine⟨?_,hd⟩;rw[N_] at e;have:=ϵ (· * ((q.den:Int):Rat));simp only [yB,AJV hd,AME] at Ρ;exact Ρ
theorem yfd{μ d:Ψ}(hμ:0<μ)(hd:0<d):fq AfC/\0<Aqb/\μ∣Aqb/\d∣Aqb/\ (AsA Û).ABt<=BFU/\ cr Û<=BFU:=by
 have g0:AfC≠0:=A1 (OR BN1)
 have gd:Û∣d:=BoY;have gm:Û∣μ:=BoX;have e:=VD gd;obtain⟨u,eu⟩:=gm;have gp:TN< Û:=Τ
 generalize Û=g at*;generalize AsA g=t at*;have tp:0<t:=by
  rcases A2R t with h | h
  ·exact h
  ·have:=BKE (Τ:0<=g)
   show Ω
 refine⟨Τ,Int.mul_pos hμ tp,Ċ,CI u,?_,?_⟩
 ·rw[eu,<- e];ac_rfl
 ·rw[<- e,Ĵ];exact Bo_ _ Η
 ·rw[<- e,Ĵ];exact BL6
theorem Gs{d:Ψ}(h:d∣27720):dh d<=15:=zO (BXw (Nat.le_of_dvd Χ (Int.natAbs_dvd_natAbs.mpr h))) (mj Χ)
theorem lcm_dvd{μ d n:Ψ}(hμ:0<μ)(hd:0<d)(h1:μ∣n)(h2:d∣n):Aqb∣n:=by
 have g0:fq AfC:=A1 (OR (BKD (Τ:ac μ d=0)))
 have e:=VD (BI_ μ d);have e2:Û* (μ*AsA Û)=Û* B' (Int.lcm μ d):=by
  rw[<- AdI,Int.gcd_mul_lcm,Int.mul_left_comm,e,AdI,BKB,BKB]
 rw[Int.eq_of_mul_eq_mul_left g0 e2];have:=Int.lcm_dvd (c:=n.natAbs) (Bo' h1) (Bo' h2);exact Int.ofNat_dvd_left.mpr Ρ
theorem z0k(B7 zdt):vz znk:=by
 show wn m f hm hz;refine i5 (∃(μ:Ψ) (y:GG),Γ= [.pu (qu m f),EG μ,y]/\0<μ/\μ∣27720/\∀j,j<i ->j<m ->AJK∣μ) ⟨1,_,Β,B4,AUZ 27720,mM Τ⟩
 ·rintro i d _ hi ⟨μ,y,Β,hμ,bμ,hd⟩;have him:i<m:=by
   have:=ÿ
   show t9
  rw[zpw him] at hi;show AVu;have dp:TN< (f i).den:=OR (f i).den_pos
  obtain⟨g0,p1,p2,p3,p4,p5⟩:=yfd hμ dp;have zi:=Gs BXp;have b4:=zO (MN p4) zi;have b5:=zO (MN p5) zi;have bμ' :=Gs bμ;refine⟨_,at1,_,at1,μ,(f i).den,Β,⟨g0,Τ⟩,Alv,_,_,Β,p1,lcm_dvd hμ dp bμ BXp,At j hj hjm⟩
  by_cases e:j=i
  ·show vT p3
  ·exact Int.dvd_trans (hd j Η hjm) p2
 ·rintro _ ⟨μ,y,Β,hμ,bμ,hd⟩;have el:De (MS m) (F8 (qD (f j)))=m:=C_
  rw[el] at hd;have bμ:=Gs bμ
  let g:ü:=F8 (XA (j<m) BaT)
  have gv:X0 m (g j=BaT):=mM (by show(AOB (j<m))=_;show DF hj)
  have bt:X0 m (dh (AdJ AJK)<=dh μ):=mM (by
   refine MN ?_;have e:=T_ AuG (VD BXB);rw[Ĵ] at e;rw[<- e];exact Bo_ _ (AV2 BLN))
  refine zkq (g:=F8 (.AL (g j))) (Aa' j hj) (h μ g hμ (TU j hj) AYV)
  ·have z:=hz j hj;have b:=bt j hj;refine⟨_,at0,_,at1,⟨OR BLN,zO (Gs z.2) Χ⟩,ANe (AV2 z.1),?_⟩
   show BV (P [.AL (AxM*AdJ AJK)]);rw[<- gv j hj];exact hP
  ·rw[gv j hj];have e:=VD BXB;obtain⟨n1,n2⟩:=yji (f j);have e' :BE μ=AJK* B' (AdJ AJK):=ò aT
   rw[RA,n1,e']
   grind
  ·by_cases hj:j<m
   ·rw[gv j hj];have:=G4 AxM (AdJ AJK);have:=bt j hj;have:=(hz j hj).1;show Ω
   ·show BV (dh (XA (j<m) _)<=_);show BN hj;exact Adg _
theorem zvx(Bfy)(F:ACG α D)(Good:D3 Δ α):∀{n s:Δ} {P:gc},(BTN (ARo BXn i)) ->(∀as:MR α,(BTN BMx) ->P (A6t s (GL (F i (as i))))) ->AVt (A6t s)
 | 0,s,P,_,h=>h (D9 WV) (A9k Τ)
 | n+1,s,P,k,h=>by
  rw[BpA];refine k s Η Η _ (CA a ha)
  refine BYg (fun i h1 h2=>k i Η Η)
  have:=h (rq (î s a (as i))) (A9k (by
   by_cases e:i=s
   ·subst e;simpa using ha
   ·simp only [CO e];exact has i Η Η))
  rw[BpA,Ff,E2] at Ρ;have e:(List.range' (s+1) n).EL (rq (F i (B3 (i=s) a (as i))))=A6t (s+1) (GL (F i (as i))):=ABr (LW (by
   have:=List.mem_range'_1.mp hi;show BN Η))
  show Da e;exact Ρ
theorem z5k(Bfy)(F:ACG α D)(Good:D3 Δ α){n:Δ}{P:gc}(k:AFN (ARo BXn i))(h:∀as:MR α,(AFN BMx) ->P (L8 (GL (F i (as i))))):AVt L8:=by
 rw[BpB];refine BYg (fun i _ h2=>k i Η)
 rw[<- BpB];exact h as (LW (has i Η Η))
theorem you(Aqe):BbD:=by
 have e:BVL:=by
  show A1R;unfold yc;rw[CO Χ,ù]
  congr 1;show Ω
 unfold n6;rw[e];exact zpw Η
theorem Wb{z:Ψ}{e k:Δ}(h:BFR<=(16*2^e)^k):dh z<=(e+4)*k+1:=by
 refine mj (zL h ?_);rw[show Lu 16*2^e=2^ (e+4) by rw[Nat.pow_add,Bou],<- Nat.pow_mul]
 exact Nat.pow_lt_pow_right Χ Η
theorem ztt{f g:dE}(t:AM):OQ m Δ (X0 m (f j=t*g j)) (d7 m f=t*d7 m g)
 | 0,_=>ů d7
 | m+1,h=>AlI d7 (ztt t fun j hj=>h j Η) (h m Η)
theorem yfe(B7 ZC):Sn zyj 5:=by
 obtain⟨n,A,⟨Β,hn,hz⟩,hE,hP⟩:=h;have s1:=wR;refine(?_:Ď (nC (AQj (qu n (A i))) (AQj (qD (A i n)))));rw[z6t];refine z5k (α:=ü) (JP g (iT UV g)) (UU g ((BT8)/\∃μ:Ψ,0<μ/\X0 (n+1) (BE (g j)=BE μ*AP8))) (Aa' i hi) (TU as has)
 ·refine⟨Β,Β,AQe,?_,n+1,A i,?_,Τ,mM (hz i j hi Η),fun μ g h0 h1 h2=>hP g ⟨h2,μ,h0,h1⟩⟩
  ·show D6 (De L8 (F8 (qD (A i j)))+1);simp only [C4,AHC];show Ω
  ·unfold qu;show APM ASq;rfl
 change AB_ zqw [.pu (Kq n n A),.pu BSg,.pu (qQ n UV as),EI,EI]
 have ba:BB' as (2^143):=fun k hk j=>AGg (Rn ((has k hk).1 j));have hμ:∃μ:dE,AFN (μ i≠0/\X0 (n+1) (BE (as i j)=μ i*AP8)):=by
  refine Po (GL (AiW (i<n) (B' ((has i h).2).Aec) 1)) i hi;simp only [ATw hi];have sp:=((has i hi).2).choose_spec;refine⟨?_,fun j hj=>sp.2 j hj⟩;have:=sp.1;intro z;have:((has i hi).2).Aec=0:=ò z
  show Ω
 obtain⟨μ,hμ⟩:=hμ;have el:De L8 (GL (AlJ as))=n:=C_
 show(Ay1<=Awe (AlJ as)/\_)/\Rc (Jm 0 (ASk (Awe (AlJ as))) _ _);rw[el,kQ];have mx:∀k,k<=13 ->(143+4)*k+1<=1912:=fun k hk=>Τ
 have h1:1<=16*2^143:=Nat.mul_pos Χ (Nat.pow_pos Χ)
 refine AZh (fun k Γ=>∃(d:Ψ) (tb:Mx) (rs:FR) (fs:AMr) (ix:z0) (y:GG),Γ= [.pu (Kq n n A),.pu BSg,.pu (qQ n UV tb),EG d,y]/\BT n as k d tb rs fs ix) ⟨1,as,_,_,_,_,Β,yc5 n as⟩
 ·rintro k _ hk ⟨d,tb,rs,fs,ix,y,Β,bt⟩;have e0:(0+ Fu)=EU k:=Τ
  have bd:dh d<=1912:=zO (Wb (A_y ba Η)) (mx k Η)
  have be:A'B 1912:=BiM LN
  refine⟨tb,n,n+1,k,?_,Τ,hk,Τ,MX s hs hsn hne,LV hall⟩
  ·rw[e0]
  ·obtain⟨rs',fs',TF,bt'⟩:=bt.step hs hsn hne;have sk:uz k s k=s:=Ajx uz
   have et:qQ n UV (Ho k d (Zv k s tb))=qQ n UV (AGU k s d tb):=z4n fun i j _ _=>by
    unfold Ho Zv AGU;rw[sk]
   refine⟨Zv k s tb,n,n+1,k,d,?_,hk,Τ,bt.nz,zO bd Χ,Axv (zO (be (uz k s i) j ?_) Χ),?_⟩
   ·rw[e0]
   ·unfold uz;split
    ·exact hsn
    ·show Ù
   ·rw[et];refine⟨iT UV (BgF k),?_,.AL (AGU k s d tb k k),?_,tb s k,BgF,rs',fs',TF,EG (0+ Fu),?_,bt'⟩
    ·rw[e0];exact Ml hk
    ·rw[e0];exact Ml Η
    ·have:AGU k s d tb k k=tb s k:=Ajx AGU
     rw[Ρ];rfl
  ·show DE x x1 hx bt.stuck hk hall;refine hE x k hk x1 AZs;have q:=hx r hr;rw[Bg4 (F8 (A r j*x j)) (by
    show BE (as r j)*x j=_;rw[BAc j Η];grind)] at q
   rcases ASW q with q | q
   ·show L7 q BYe
   ·exact q
 ·rintro _ ⟨d,tb,rs,fs,ix,y,Β,bt⟩;have d0:AmX:=Ao9 bt.nz
  have bd:dh d<=1912:=zO (Wb (A_y ba Η)) (mx n Η)
  have be:A'B 1912:=BiM UV
  show EW bd' (dh d<=147*n+1) (Wb (A_y ba Η)) be' (A'B (Nt n)) (Axv (Wb (BoL j))) ex (AFN (fs i n=UR (tb i n) d)) (LW (by
   rw[bt.t i hi n,N_,ASX,<- yB,AJV d0,BF_])) hs (Slv n A (GL (fs i n))) (c_ (by
   have q:=bt.sol hr n;have q' :BE (as r n)=d7 n (Œ (BE (as r c)*fs c n)):=q;rw[Bg4 (F8 (A r j*fs j n)) (AAQ (BAc j Η)),BAc n Η] at q'
   have m0:=BYe;have:=T_ (FG ((μ r)⁻¹*z)) q';simp only [<- yB,AJV m0,BF_] at Ρ;exact Ρ))
  show APp (Ď (LC 0 (AQj (AlJ tb)))) yhd (zkq (g:=GL (qD (fs i n))) (AJ4 i hi) (hP _ hs ⟨d,bt.nz,zO bd' Az1,LW ⟨tb i n,ex i hi,be' i n hi⟩⟩))
  refine⟨Β,Β,.AL (tb i n),you,.AL (tb i i),Ml Η,tb i n,tb i i,Β,zO (be i n hi) Χ,zO (be i i hi) Χ,?_⟩
  rw[bt.diag hi hi,CO bt.nz,<- ex i hi];exact hp
theorem ye8(Be TY):Kt:=WB
theorem zrv(Be ZJ):Kt:=WB
theorem Ue(a b:Μ):A3k (mO (.AO a) (.AO b)):=by
 rw[Atf];simp [mO]
theorem yfn(BCj):(E_ qD).flatMap (Ÿ (Av_ (AP2 a b) (AFp (ABu*b) (a*ABv) [d] []) []))=Cb AMC BZr qD:=by
 induction l with
 | C3=>rfl
 | AX x l ih=>
  rw[Ff,BHu,ih,kX,yib q x];show(B3 (AEl (Φ (ABu* B' x.den<x.num* B' ABv))) [qD x] [])++_=_;split<;>simp
theorem yc9(B7 TY):ny zwe:=by
 obtain⟨qs,Β,hl,hz,h⟩:=h;refine Ale LU (∃(l:BC) (x y:GG),Γ= [Pf ANR,.ow Ó,x,y]/\l=(Ars i).foldl yI []/\l.Perm (Ars i)) ⟨[],_,_,Β,Β,C_⟩
 ·rintro i d _ hi ⟨l,x,y,Β,hl',hp⟩;rw[Fh] at hi;cases q:qs[i]? with
  | Θ=>show BFI
  | Ε a=>
   rw[q] at hi;show AE hi hi hi hi hi hi hi hi hi hi hi hi hi hi;show EW hil (i<He) (Pl q) llen (GY=i) (AjM BIi pe) lz (∀o∈l,PZ o) (fun o ho=>hz o (ASr (hp.mem_iff.mp ho))) az (PZ a) (hz a (yV q));refine zp6 (Ÿ (Av_ (AP2 u v) (AFp (AHD*v) (u*fE) [d] []) [])) ?_ ?_
   ·intro x hx P hP;show di o ho hx;refine⟨a,o,Β,az,lz o ho,?_⟩;show BV (AFp a o _ _);rw[yib];have hP' :P (AFp (AHD* B' o.den) (o.num* B' fE) [qD o] []):=hP;split
    ·rename_i hc;show Ps (C9 hc) hP' hP'
    ·rename_i hc;show Ps (CO hc) hP' hP'
   ·rw[yfn];refine DM Sj E4;show NR;have hc:=yoc a l;refine⟨Τ,by show NR;exact_mod_cast hc,BNH wR,yI l a,AIV a,EG (cnt a l),?_,?_,?_⟩
    ·unfold X7 yI;rw[kQ,PM,Ff,AsB,AdL]
     rfl
    ·rw[AeS,q,List.foldl_append,<- hl'];rfl
    ·rw[AeS,q];show BD ((zxp l a).EC ?_) (uC hp.cons a ?_);exact List.perm_append_singleton a _ |>.jp
 ·rintro _ ⟨l,x,y,Β,hl',hp⟩;have e:l=oV qs:=by rw[hl',C4,ķ];rfl
  subst e;exact h
theorem zr3(B7 ZJ):ϳ zht:=by
 show GT r h h;refine Ajg
 rw[Ue];refine(?_:wt (r=nG));split
 ·rename_i e;show ϖ AEp;exact h
 ·rename_i e;show n9 AEp;exact h
theorem z0u(l:BC){a b:Δ}(h1:a<=b)(h2:AXb b):A5h Aii Aij=Cb (AT9 a).xl (b - a) qD:=by
 show AGA;simp only [C4,AsB,AdL];have e1:(BWx Aii Aii Aii)=a:=Azf
 have e2:(BWx Aij Aij Aij)=b:=Azf
 rw[e1,e2]
theorem z1g{l:BC}{a:Δ}(h:AEa a):(AT9 a).xl 1= [N9 a 0]:=by
 rw[Ay5,MH,vb];rfl
theorem zu8{l:BC}{a:Δ}(h:AEa (a+1)):(AT9 a).xl 2= [N9 a 0,ADU (a+1)]:=by
 show Ayc Az9 BsR (z1g h) MH (AKo (IY (AEa a)));rfl
theorem yfy(B7 ZD):ϳ zwq:=by
 show AAS l h1;refine DM (ARt 2) (ARt 2)
 have e1:(AFy - 1).oz 2=EU AP5:=by
  show Æ A3S;show ŕ
 have e2:(AFy).oz 2+1=EU (mi+1):=by
  show Æ A3S;show ŕ
 show BV (Q (E3 (A6v (Ε ((AFy - 1).oz 2)) ((AFy).oz 2+1))));rw[e1,e2,z0u l AXg AXg]
 have Ap:(AT9 (AP5)).xl (mi+1 - AP5)=dy l:=by
  unfold dy;by_cases ho:A7'=1
  ·rw[C9 ho,AYD (AP5=mi),AYD (mi+1 - mi=1),z1g (by show ŕ)]
  ·rw[CO ho,AYD (mi+1 - AP5=2),zu8 (by show ŕ),AYD (AP5=mi - 1),AYD (mi - 1+1=mi)]
 show Ts Ap
theorem yiy(B7 T4):ϳ z2s:=by
 show wn a b ha hb;exact⟨_,at1,_,at0,b,a,Β,hb.up Χ,ha.up Χ,h⟩
theorem Wc{l:BC}{i:Δ}(h:AhS):N9 i 0∈l:=by
 show AEX vb;exact yU h
theorem z8a(B7 ZF):ny zse:=by
 obtain⟨l,Β,h2,hl,hz,h⟩:=h;have abX:BUK= [qD (N9 0 0),qD (N9 1 0)]:=by
  have:=z0u l (a:=0) (b:=2) Η h2
  have e:BUK=A5h APk AjT:=by
   show AGA;simp
  rw[e,Ρ];show Cb (AT9 0).xl 2 qD=_;rw[zu8 Η];rfl
 show BV (AB_ zns [Pf Ó,Pf (A6v Θ 2),EI,EI]);rw[abX];have hn:AFy=AWd:=by show NR
 refine Ale (mt hn) (∃(b:Δ) (x y:GG),Γ= [Pf Ó,Pf [qD (N9 b 0),qD (N9 (b+1) 0)],x,y]/\b<=i/\ (BWT (j<=i))/\BT4 (j<=i)) ⟨0,_,_,Β,NY,mM (by show FB (j=0) Η;exact AKs),fun j hj hb=>Τ⟩
 ·rintro i _ hi ⟨b,x,y,Β,hb,hle,hgt⟩;have hi' :AEa (i+2):=by rw[hn] at hi;show Ω
  show BV (zhi K c _ [Pf Ó,Pf [qD (N9 b 0),qD (N9 (b+1) 0)],EG AmA,Pf (A6v (DJ AmA) (1+ L5+2))] fN);have ec:A5h AmA (1+ L5+2)= [qD (N9 DU 0),qD (N9 (D'+1) 0)]:=by
   rw[AYe AmA D',AYe (Azl+2) (i+3),z0u l Η Η,IY (i+3 - DU=2),zu8 Η];rfl
  rw[ec];have z:BZY:=BZa;show To ⟨_,_,Β,z b Η,z (b+1) Η,_,_,Β,z DU Η,z (i+2) Η,_,_,Β,BDG (b+1) b,BDG (i+2) DU,?_⟩ (AFp Agv (wd l DU) _ _);by_cases hw:Agv<wd l DU
  ·show BN AI2
   refine⟨b,_,_,Β,Τ,ARw,At j hj hbj⟩
   ·by_cases e:j=D'
    ·subst e;exact Aey hw
    ·exact hle j Η
   ·by_cases e:j=D'
    ·show vT hw
    ·exact hgt j Η hbj
  ·show DF AI2
   refine⟨D',_,_,Β,Τ,ARw,fun j hj hbj=>Τ⟩
   have hw' :=BsT hw;by_cases e:j=D'
   ·show vT AKs
   ·exact AMD hw' (hle j Η)
 ·rintro _ ⟨b,x,y,Β,hb,hle,hgt⟩;have e:(AFy - 1 - 1).eR=GY - 2:=mt hn
  rw[e] at hb hle hgt;exact h b ⟨Τ,fun j hj=>hle j Η,fun j hj hbj=>hgt j Η hbj⟩
theorem yo1(B7 ZG):P7 z7m:=by
 obtain⟨l,g,Β,h2,hl,hz,hg,h⟩:=h;refine Ajg
 rw[Qx];have hn:AFy=AWd:=by show NR
 have z:BZY:=BZa;show BV (wt (AFy=2));rw[hn];by_cases h22:GY=2
 ·show DF da
  have e2:E_ qD= [qD (N9 0 0),qD (N9 1 0)]:=by
   match l,h22 with
   | rV,_=>rfl
  show To ⟨ADU 0,ADU 1,MA e2,z 0 Η,z 1 Η,g,_,Β,hg,BDG 1 0,?_⟩ (wt (g<wd l 0));by_cases hw:g<wd l 0
  ·show ϖ ⟨h22,hw⟩;show DF AI2
   exact⟨B4,h⟩
  ·show n9 (FG (hw z.2));show BN AI2
   exact⟨l,Β,h2,hl,hz,h⟩
 ·show n9 (FG (h22 z.1));show BN da
  exact⟨l,Β,h2,hl,hz,h⟩
theorem Aa{l:BC}:fj (dy l)/ ACX dy l=Tw l:=by
 unfold dy Tw;split
 ·show(_+0)/ BE (EU 1)=_;rw[AGW];have:BE (EU 1)=1:=Β;rw[Ρ];grind
 ·show(_+ (_+0))/ BE AjT=_;rw[AGW];rfl
theorem ygl{l:BC}(h:∀q∈l,AOv)(hl:AiT 2)(k:Δ):Awk Aex:=by
 refine(ygk (m:=1900) (BOz h)).up ?_;have:De Aex k<=2:=zO (List.length_take_le' _ _) hl;have:=Aev 1902 Ρ;show Ω
theorem sM:T3≠uV:=B4
theorem sP:nG≠uV:=B4
theorem sP2:nG≠T3:=B4
theorem ycf(Be ZK):Fc:=HC
theorem z3x(Be ZL):Kt:=WB
theorem z80(Be ZM):vx:=og
theorem yjf(Be T5):Kt:=WB
theorem zr4(Be ZP):Fc:=HC
theorem Wd(f:Μ)(d:D):kJ [f] [d] f=Ε d:=Ajx kJ
theorem zvw(xs:AU){k:Δ}(h:k<=B1):Sl xs (DJ Fu) Θ=AdG k:=by
 have e1:(B3 (Fu<0) (lr Fu AJU) (min (Fu).eR B1))=k:=Azf
 show AGA;simp only;rw[e1,BHz A0]
theorem z1e{ps:FH}(h:AAT)(hl:Al5):zu ps=Κ:=by
 unfold zu;rw[BJw,Aep];clear hl;induction ps with
 | C3=>rfl
 | AX a t ih=>
  cases t with
  | C3=>rfl
  | AX b t=>
   obtain⟨⟨h1,h2⟩,h3⟩:=h;show(LR a b::Ļ LR AY0 t).all id=Κ;rw[AtC];have hc:LR a b=Κ:=by
    unfold LR;have:¬b.2<a.2:=Tk
    simp [h1,Ρ]
   have h4:=ih h3;have h5:(Ļ LR AY0 t).all id=Κ:=h4;rw[h5];simp [hc]
theorem yeh(B7 ZK):P7 zyi:=by
 show wn a b za zb;refine⟨_,at0,_,at0,a.1,b.1,Β,za.1,zb.1,?_⟩;show Dx LR;cases e:BRL with
 | AC=>show AkM
 | Κ=>
  rw[e] at h;exact⟨_,at1,_,at1,b.2,a.2,Β,zb.2,za.2,h⟩
theorem zww{EF:ADm}(g:Pt ->Pt ->D):∀{as bs:FH} {P:gc},(AMx (NL bs (∀P,P [g a b] ->EF (KP [pD a,pD b]) P))) ->P BNo ->eF EF (nC (as.map pD) (x6 pD)) P
 | [],_,_,_,h=>h
 | Db,[],_,_,h=>h
 | a::as,b::bs,P,k,h=>k a zY b zY _ (zww g (fun x hx y hy=>k x Az7 y (zW _ hy)) h)
theorem z2z(g:Pt ->Pt ->AN):∀(as bs:FH),sW BVh=Ε BNo
 | [],_=>Β
 | Db,[]=>Β
 | a::as,b::bs=>A5W sW BVh (z2z g as bs)
theorem z4y(B7 ZL):ϳ zqo:=by
 show AAS ps hz;show Dx zu;show(æ (D.bl (O0 (iE< ACX KO pD))) Az4 _ (.bl AC) _)
 show Az2;by_cases hl:Al5
 ·show õ (Τ:iE< BJT)
  rw[BJw,Aep] at h;refine(?_:Ď (nC (KO pD) (Awg AFc)));have e1:Bjc:=iS AdL (zvw (KO pD) (k:=1)) BJ5
  rw[e1];refine zww (qf b (D.bl (LR a b))) (fun a ha b hb P hp=>⟨Β,Β,a,b,Β,hz a ha,hz b (List.mem_of_mem_drop hb),hp⟩) (ë (z2z LR _ _));show Ts BpE
 ·show ô (Τ:¬iE< BJT)
  rw[ğ hl] at h;exact h
theorem yks(Bb4 T5):zf6 K c (ANp (fun Γ=>zem K c Γ Bm5 fN) se) (aG 2 AWx) fN:=by
 show AAS ps hz;refine⟨ps,Β,hz,?_⟩;cases e:zu ps with
 | Κ=>
  rw[e,E2] at h;exact IC h
 | AC=>
  rw[e,dQ] at h;exact ALq
theorem z6b(B7 ZM):ny zsk:=by
 obtain⟨l,r,x,Β,zl,zr,zx,A8,h⟩:=h;have s1:=Nm zx zl.1;have s2:=Nm zr.2 zl.2;have s3:=Nm zr.1 zl.1;have s4:=yg9 s1 s2;have hn:AaP≠0:=Tk
 show BD ⟨_,at0,x,l.1,Β,A0u,mP zl.1,_,at1,_,at1,r.2,l.2,Β,mP zr.2,mP zl.2,x - l.1,r.2 - l.2,Β,s1.up Χ,s2.up Χ,?_⟩ ⟨_,at1,_,at0,_,at0,Cl,l.1,Β,mP zr.1,mP zl.1,(x - l.1)* AoS,AaP,Β,s4.up Χ,s3.up Χ,?_⟩
 show APU hn ⟨l.2,(x - l.1)* AoS/ AZj,Β,mP zl.2,(z8v s4 s3 hn).up Χ,h⟩
theorem z83:∀{ps:FH} (i:Δ),AAT ->Gd (ABK i)
 | [],i,_=>by rw[List.drop_nil];trivial
 | ps,0,h=>h
 | a::t,D',h=>by
  rw[BsS];refine z83 i ?_;cases t with
  | C3=>trivial
  | AX b t=>exact h.2
theorem z3e{ps:FH}{i:Δ}(h:Al6):ABK i=Na::AYu::ABK (i+2):=G0 Az9 Ay5
theorem ypk{ps:FH}{i:Δ}(h:Al6)(hg:AAT):Na.1<AZc/\Na.2<=AYu.2:=by
 have:=z83 i hg;show Da (z3e h);exact Ρ.1
theorem z7n{ps:FH}{i:Δ}{x:AM}(h:Al6):Bo (ABK i) x=if x<AZc then Cp Na AYu x else Bo (ABK DU) x:=È (z3e h) Ay5
theorem zkt:∀{ps:FH} (h:AJs),jy ps=ps[AYb]
 | [p],_=>Β
 | Ajn,_=>by
  show Ct (jy AY0=_);rw[zkt (ps:=b::t) A0]
  simp
theorem yi0(ps:FH)(h:AJs):ϝ KO pD Ki BYM:=by
 unfold n6;have e:yc BQp Ki=Ε (N0 - 1):=by
  unfold yc;show AIS AXx ù
  congr 1;show Ω
 rw[e];show AFc[AYb]?=_;rw[Fh,Aj1,zkt h]
 rfl
theorem yjy{ps:FH}{i:Δ}(h:AJb):ϝ KO pD L5 (pD Na):=Du (A2f vb)
theorem zrp(B7 ZP):ny zh6:=by
 obtain⟨ps,x,Β,hl,hg,hz,zx,h⟩:=h;have z4:∀{i:Δ} (hi:AJb),Kr 300 Na:=fun hi=>hz _ (yU hi);have h0:AJs:=Τ
 refine⟨Β,_,AWj,_,yjy h0,_,at0,ps[0].1,x,Β,mP (z4 h0).1,A0u,?_⟩
 have hd:ps=ps[0]::ABK 1:=ACk (ALz (l:=ps) (i:=0) h0) AsD
 show BV (AFp ps[0].1 x _ _);by_cases hx:ps[0].1<x
 ·show BN AjB
  have eW:BW7:=z2p hg (ï (by
   rw[hd] at hp;show AE hp hp hp hp hp hp hp hp hp hp hp hp hp hp;exact Aey hx))
  refine⟨Β,_,AWj,Β,_,AWj,?_⟩;have e1:Bjc:=iS AdL (zvw (KO pD) (k:=1)) BJ5
  refine Aje
  ·rintro⟨e,_⟩;have:Z' BQp 0 (Ε 1)=1:=by
    unfold Z';show NR;simp only;show dS
    have:(iE).eR=1:=Β;show Ω
   rw[Ρ] at e;show C6
  rw[e1];have zl:RO nC AFc (Cb ABK 1 pD)=AYb:=by
   unfold nC;rw[ATt,C4,C4,AGu];show Ω
  refine i5 (∃(u v:GG),Γ= [BYQ,AIV x,u,v]/\Bo (ABK i) x=Bo ps x) (ϸ (MA AsD))
  ·rintro i d _ hi ⟨u,v,Β,hw⟩;have hil:Al6:=by
    have:=ÿ;show Da zl;show Ω
   have hi2:Ε d=Ε (KP [pD Na,pD AYu]):=by
    rw[<- hi];unfold nC;rw[BIC,Fh,Fh,List.getElem?_drop,Aj1,BpG 1 i,ku hil]
    rfl
   show AE hi2 hi2 hi2 hi2 hi2 hi2 hi2 hi2 hi2 hi2 hi2 hi2 hi2 hi2;refine⟨Β,Β,_,at0,x,AZc,Β,A0u,mP (z4 hil).1,?_⟩
   rw[z7n hil] at hw;refine(?_:wt (x<AZc));by_cases hxr:x<AZc
   ·show DF (Co hxr)
    rw[C9 hxr] at hw;refine⟨Na,AYu,x,Β,z4 Η,z4 hil,zx,(ypk hil hg).1,?_⟩
    rw[hw,eW];exact h
   ·show BN (Co hxr)
    show Ps (CO hxr) hw (ϸ hw)
  ·rintro _ ⟨u,v,Β,hw⟩;rw[zl,Az9,List.drop_of_length_le Η] at hw
   refine BgY (yi0 ps h0);rw[zkt h0];have:ps[AYb].2=Bo ps x:=hw;rw[<- eW,<- Ρ] at h;exact h
 ·show DF AjB
  refine BgY (yjy h0);have:ur ps x=ps[0].2:=by
   generalize ps[0]=p0 at*;rw[hd] at hg⊢;exact yfq hg hx
  rw[Ρ] at h;exact h
theorem zzh(i3):BTC uD:=v4 uD ABp Zf
theorem ybo{qs:BC}{q:AM}(h:q∈uD qs):q∈qs:=Anh (BsX h)
theorem Wf(BXX):N9 i d=l[i]:=DT h
theorem Zt(BXX):N9 i d∈l:=by rw[Wf h];exact yU h
theorem yee(i3):Fall (uD qs):=by
 intro i j hij hj;have hi:i< De uD qs:=by show ŕ
 rw[Wf hj,Wf hi];unfold uD at*;rw[AsG,AsG];by_cases e:i=j
 ·show vT AKs
 ·show Ps ABp hj (AeW (zyu qs) _ _ AXg AXg AXg)
theorem zrd(AbU)(f:AYm):AIa (l.flatMap (AH2 [f x])=E_ f)
 | []=>Β
 | x::l=>È BHu zrd
theorem z04(A2r):Bnz (D.bl (f x))
 | []=>Β
 | x::l=>A5W sW (E_ fun x=>D.bl (f x)) z04
theorem z93(f:BC):(jf f).WP (De jf f - 1) 0=xB/\0< De jf f:=by
 refine⟨?_,by unfold jf;simp⟩
 cases hn:xB with
 | Qb=>unfold jf;rw[hn];rfl
 | Qr n=>
  have e:jf f=(0::((List.range n).filter (Ku f)).map (· +1))++ [n+1]:=by
   unfold jf;rw[hn,ASq,AdO,kX,C9 (by unfold Ku;simp [hn])]
   simp
  show Ayc e N1 ATP Nat.add_sub_cancel BnM;simp
theorem zy7(Be V1):Fc:=HC
theorem z6f(Be ZQ):vx:=og
theorem yje(Be T6):Fc:=HC
theorem ydh(Be V3):Kt:=WB
theorem zvi(Be ZR):Fc:=HC
theorem yml(Be ZS):Kt:=WB
theorem zr6(Be ZV):Fc:=og
theorem zpm(Be ZW):Fc:=og
theorem yoh(Be ZX):Fc:=HC
theorem Wg{α:CB}{EF:ADm}(f:AJ0)(p:AIm):AyQ (ARo (B3 AO7 (P [f a]) ϔ) a) BQY f
 | [],_,_,h=>h
 | FK,P,k,h=>by
  refine k a zY _ ?_;by_cases q:AO7
  ·show DF q;rw[kX,IF] at h;exact Wg f p AUW h
  ·show BN q;rw[kX,NW] at h;exact Wg f p AUW h
theorem zl2{α:CB}{EF:ADm}(f g:AJ0):AyQ (ARo (P [g a]) a) E_ g
 | [],_,_,h=>h
 | FK,P,k,h=>BBT zl2
theorem zys(B7 V1):P7 znj:=by
 show AQQ x b;refine AFH;show BV (AfF O0 (b.1<=x) (∃d,n6 [HE b.1,.AL b.2] 1=Ε d/\_) _);by_cases q:b.1<=x
 ·show DF (Co q)
  refine AFH;have e:Bx b x=O0 (x<=b.2):=by unfold Bx;simp [q]
  show AkM
 ·show BN (Co q)
  have e:Bx b x=AC:=by unfold Bx;simp [q]
  show AkM
theorem ymg{α:CB}(l:CU)(f:AIm):(E_ f).any id=l.any f:=BKd
theorem ybv(B7 ZQ):vz zss:=by
 obtain⟨S,l,b,Β,h⟩:=h;refine Wg HE (Bn e BPE) (AJ4 e he) h;show BD (zl2 HE (Bn s (.bl (Bx b AW_))) (fun s hs P' hp' =>(IS (e - s) b hp')) ?_) (DM (E_ fun s=>Bx b AW_) (z04 _ l));rw[ymg];refine(?_:ID (l.any fun s=>Bx b AW_) A1J ϔ);show Apj
theorem Ug(Aqe):BbD:=by
 unfold n6;have e:BVL:=by
  unfold yc;show APR AHC AXx ù
  congr 1
  show Ω
 rw[e];show(AIj f)[n]?=_;show Agd (BpK Η);rfl
theorem yju(B7 T6):ny z2g:=by
 show EX S bs hl h h;have s1:=wR;refine DM AQe AQe
 refine i5 (∃x,Γ= [A8o,Anb,A0l DU (rD (rk S bs j)),x]) E4
 ·rintro i d _ hi ⟨x,Β⟩;have hi' :i<IP:=Ϛ ÿ
  show Aog eb (ĸ i Ö=bs[i]) (DT hi')
  show BD ⟨E4,E4,_,Ug,S,A'Z,bs[i],Β,?_⟩ (DM BMS (.pu (Kv bs[i])))
  rw[BK8 D',PM,<- eb]
  rfl
 ·rintro _ ⟨x,Β⟩;show Ts C4
theorem zwi{α:CB}{EF:Ŀ D (yb D)}(f:AJ0)(g:α ->AU):lx l CU P Ai0 (AUl (∀P:Ai0,P [g a] ->EF (f a) P)) (P (E_ g)) (wG EF (E_ f) P)
 | [],_,_,h=>h
 | FK,P,k,h=>BBT zwi
theorem yem(Bb4 V3):ze8 K c (aG 2 AWx) BTY fN:=by
 show GT ls h h;refine(?_:wG _ (ASe rD) _);refine zwi rD (Bn l (E_ HE)) (fun l hl P hp=>hp) ϰ;show Ts Q3
theorem ztg(B7 ZR):P7 zjd:=by
 show wn m qs hm hz;refine Ŧ Wg qD (AH2 (!(Φ (x<m)))) x hx ⟨x,m,Β,hz x hx,hm,?_⟩
 ·show BV (AFp x m (P [qD x]) ϔ);show Apj
 ·show BV (AWy (Lu (De (Cb qs.filter _) qD)));show Ts C4
theorem z69{x:AM}{xs:BC}(h:Fall ARI):Fall xs/\A1W (A2V<=x):=
 ⟨Aal (by have:=h DU APX Η AX2;show t9),BK' (h 0 APX Η AX2)⟩
theorem z3l{m:AM}:OQ xs BC (A1W (A2V<m)) (jm xs m=0)
 | [],_=>Β
 | SK,h=>by
  unfold jm;have h0:=h 0 A0
  rw[kX,CO (Co h0)]
  exact z3l (BK' (h APX AX2))
theorem Wh{m:AM}:OQ f BC (Fall f) (X0 xB (m<=AAx j 0↔j<jm f m))
 | [],_,j,hj=>AMg hj
 | SK,hf,j,hj=>by
  show C5 h1 h2 z69 hf;by_cases q:m<=x
  ·have e:jm ARI m=jm xs m+1:=AZP jm kX (C9 BV4)
   rw[e]
   match j,hj with
   | 0,_=>simpa using q
   | j+1,hj=>
    have:=APw m h1 j AX2
    rw[BpL,Ρ];show Ω
  ·have lt:A1W (A2V<m):=mM (BpM (A1 (q (AMD z (h2 j hj)))));have e:jm ARI m=0:=by
    unfold jm;rw[kX,CO BV4]
    exact z3l lt
   rw[e]
   match j,hj with
   | 0,_=>simpa using q
   | j+1,hj=>
    have:=lt j AX2
    rw[BpL];constructor
    ·intro z;exact A0m Ρ z
    ·intro z;show Ω
theorem z9d(f:BC)(m:AM):jm f m<=xB:=JO AzT
theorem z3h{a b:BC}(h:AXp)(m:AM):jm a m=jm b m:=JO (h.filter _).Aed
theorem ztw(i3):(uD qs).Lm qs:=hW List.reverse_perm _ (Nq qs)
theorem yef{f:BC}(hf:Fall f)(e:Δ):e∈jf f↔e=0\/∃m∈f,e=jm f m:=by
 unfold jf;rw[ē];refine or_congr_right ?_;rw[ZE];constructor
 ·show APS k hk;show A5j hk;have hk:=UI h1;refine DM Ama (Zt hk);have a:=(APw Ama hf k hk).mp AKs;have le:=z9d f (AAx k 0);unfold Ku at h2;simp only [At',ABk] at h2;rcases h2 with h2 | h2
  ·show qB
  ·by_cases q:k+1<xB
   ·have:¬k+1<jm f (AAx k 0):=A1 (Rat.not_le.mpr h2 ((APw Ama hf LN q).mpr z));show Ω
   ·show qB
 ·show APS m hm;show AFK i hi hm;have hi' :=(APw f[i] hf i hi).mp (by rw[Wf hi];exact AKs)
  have le:=z9d f f[i];refine⟨Amc - 1,AdN (CI (BpC Η)),Τ⟩
  unfold Ku;show BoZ At';by_cases q:jm f f[i]=xB
  ·left;show Ω
  ·right;rw[IY (Amc - 1+1=Amc)]
   have a:¬f[i]<=AAx (jm f f[i]) 0:=A1 (AFu ((APw f[i] hf (jm f f[i]) Η).mp z))
   have b:=(APw f[i] hf (Amc - 1) Η).mpr Η
   exact BpM (A1 (a (AMD b z)))
theorem Ab{qs:BC}{i:Ψ}:i∈iU qs↔i∈0::BAf:=by
 unfold iU;rw[ZE,ē,ZE];have Ap:=yef (yee qs);constructor
 ·show APS e he;rcases(Ap e).mp he with Β | ⟨m,hm,Β⟩
  ·left;rfl
  ·right;exact⟨m,ybo hm,gL (z3h (ztw qs))⟩
 ·rintro(Β | ⟨m,hm,Β⟩)
  ·exact⟨0,(Ap 0).mpr XI,Β⟩
  ·exact⟨jm qs m,(Ap _).mpr (E6 ⟨m,(ztw qs).mem_iff.mpr hm,(z3h (ztw qs) m).jp⟩),Β⟩
theorem yau(i3):(iU qs).AeQ (· < ·):=by
 unfold iU jf;show AXa AL3 Q3;refine CI Ah_
 ·show AEb k (aS hi);exact BpN (BFy k)
 ·rw[ĵ];refine(List.Pairwise.filter _ (BIK)).imp fun{a b} h=> ?_;exact BpN Η
theorem zme:∀l:B6,oO A0n=Ε l
 | []=>Β
 | n::l=>A5W oO A0n zme
theorem yod(B7 ZS):ϳ z72:=by
 obtain⟨qs,Β,hl,hz,h⟩:=h;have s1:=wR;refine CI AQe
 show uA (Ŧ zl2 qD (Bn m (.AL (jm qs m))) m hm ⟨m,qs,Β,hz m hm,hz,hp⟩) (CI (by show Ct (D6 (1+ De AcJ (fun m=>HE (jm qs m))));show NR;show Ω)) ⟨0::BAf,?_,?_,At ms hp hm⟩
 ·have:=zme (0::BAf);show t_ Ff Q3;exact Ρ
 ·show Av9 C4;show Ω
 ·show FB (ms=iU qs) (z7i hp (yau qs) (GL (uC hm i Ab.symm)));exact h
theorem yo0(bs:Jn):(x6 Kv).ASd=bs.reverse.map Kv:=MA BpO
theorem ykp(Aqe):(AIj f).ASd=AIj (GL (f (n - i))):=by
 show nX
 ·simp
 ·show AFw;rw[AsG];simp
theorem aae(xs:AU):Sl xs AU3 Θ=AdG 1:=by
 show AGA;dsimp only;show dS
 cases xs with
 | C3=>rfl
 | AX x xs=>
  rw[show min (ASk 1) (Su ARI)=1 by simp]
  simp
theorem z1c(Aqe):(AIj f).drop 1=L8 (GL (f (D'))):=by
 rw[AtX,Ff,BpE,List.tail_cons,Q3]
 rfl
theorem zrn(B7 ZV):ny zhh:=by
 obtain⟨S,n,bs,Β,hl,hn,h⟩:=h;refine(?_:Ď (S.map HE).ASd);rw[<- BpO];refine Ŧ zl2 HE (Bn e (.AL AQo)) e he (ET hn hp);have eb:(BsW fun e=>HE (n - e))=(lu S n).EL s0:=AlH lu
 rw[eb];refine(?_:T6 c [rD (lu S n),.B_ (x6 Kv).ASd] (Ÿ (AB_ zfr [A8o,Anb,.pu (rD (lu S n)),.pu d])) Ex);rw[yo0];refine⟨lu S n,AMF,Β,CL ABp hl,?_⟩
 rw[ABp];refine BQT (AYG _).ASd;rw[aae,ykp,z1c];exact h
theorem yow{n:Δ}(f g:ACy):Bjg:=by
 unfold nC;show nX
 ·simp
 ·show AFw;simp
theorem yni(bs:Jn):x6 Kv=Azw (iA (Kv (ĸ k Ö))):=by
 show nX
 ·simp
 ·show AFw;show Ayl h1;simp [h1]
theorem ygh:∀l:B6,jL (E_ HE)
 | []=>DT jL
 | i::l=>CL Ff ⟨DT sX,ygh l⟩
theorem ymj(x:Ψ)(l:B6):inD (Ev x) (E_ s0)=l.contains x:=by
 unfold inD;rw[BpJ,<- List.any_beq']
 congr 1
theorem yne(l:B6):(E_ HE).all Iv=Κ:=Ú BHZ Atg AI6
theorem zqv(B7 ZW):Sn zg0 6:=by
 obtain⟨S,n,bs,Β,hl,hn,nS,hg,h⟩:=h;have s1:=wR;refine CI AQe
 show BD ⟨S,n,bs,Β,hl,hn,?_⟩ (?_:A'o (nC (x6 Kv) BdJ));rw[yni,yow];refine⟨fun k Γ=>∃x y z,Γ= [A8o,Anb,A0l LN (.AL (AVs j)),x,y,z],A_D,?_,?_⟩
 ·rintro k d _ hk ⟨x,y,z,Β⟩;have hk' :Az':=by
   have:=Pl hk
   rwa [C4,AHC] at Ρ
  show Afc (BpK hk') hk;show AE hk hk hk hk hk hk hk hk hk hk hk hk hk hk;refine DM Β Β;refine Ŧ Wg HE (Bn e (BCm A2J)) e he ⟨_,Ug,e - AgL,ĸ k Ö,Β,?_⟩
  ·show BV (if BU3 A2J then A1J else ϔ);show Apj
  refine DM (ygh _) E4;refine Ŧ Wg HE (Bn e Bg3) e he ⟨_,hn,Β,yne _,?_⟩
  ·show BV (if inD (Ev AQo) ((rk AON AMF AWH).EL .AL)=Κ then A1J else ϔ);rw[ymj];show Apj
  show Ee m1 m2 yot nS hg hk';have mm:∀e,e∈ ((BJJ (SG (BCm A2J))).Ģ fun e=>Bg3)↔e∈An':=SG (by
   rw[Ĕ,Ĕ,wK,AuK,zy2,and_assoc])
  refine⟨_,AZR,zme _,(mm _).mpr m1,LW (m2 i ((mm i).mp hi)),BMS,?_⟩
  show∃x y z,_= [AsK (rD S),Anb,A0l (k+1+1) (HE (AVs j)),x,y,z];show APM (BK8 (k+1));exact A_D
 ·rintro _ ⟨x,y,z,Β⟩;show A1R;refine BQT (AYG _);rw[aae,z1c];have e:Azw (rq (HE (AVs DU)))=Cb (MS IP) (iA AZR) s0:=AYs
  show Ts e
theorem aaf(i3):TN∈iU qs:=Ab.mpr zY
theorem zz6(i3):Last (iU qs) He/\ APV∈iU qs:=by
 show AEZ e1 (z93 (uD qs));rw[zzh] at e1;have A8:Aod - 1< Aod:=Τ
 rw[Wf A8] at e1;refine Aje
 ·unfold Last n6 iU;have e:yc (De (Cb (Cb jf AMt) BFY) HE) Ki=Ε (Aod - 1):=by
   unfold yc;show APR C4 AXx ù
   congr 1
   show Ω
  rw[e];show(Cb (Cb jf AMt) BFY HE)[Aod - 1]?=_;rw[Fh,Fh,ku A8,e1]
  rfl
 ·unfold iU;rw[ZE];exact ij He (gi e1 yU A8)
theorem yi8(Anu):(rk AQE bs IP).ABR APV=pN qs bs:=by
 unfold pN;have:=z4r (bs:=bs) (aaf qs) (zz6 qs).2;rw[Atf,AuK,AuK];exact Ρ
theorem ylw(B7 ZX):ny z99:=by
 obtain⟨qs,bs,Β,hl,hz,hb,h1,h2⟩:=h;refine⟨qs,Β,hl,hz,iU qs,bs,Β,hb,?_⟩;show∃d,ϝ AYG (GL (rD (rk AQE bs i))) Ki d/\_;refine⟨_,Ug,Β,yne _,?_⟩;show BV (A9j (inD (Ev BLi) ((rk AQE bs IP).EL s0)));show AIS ymj yi8;by_cases g:pN qs bs=Κ
 ·show BN (AE' g)
  show C5 k1 k2 zz6 qs;exact⟨iU qs,He,bs,Β,hb,k1,k2,BpP g,h1 g⟩
 ·have g' :BU9:=CY g
  show DF (Y3 g')
  exact⟨AQe,uE qs bs,AlH uE,h2 g'⟩
theorem zm3(Be Z0):Fc:=HC
theorem zpt(Be Z1):Fc:=HC
theorem ynn{qs:BC}{c:Δ}(h0:0<c)(hc:BN2):ϝ Awb qD (-(B' c)) (qD ((uD qs).WP (c - 1) 0)):=by
 have hl:=Zf qs;unfold n6;have e:yc (De Awb qD) (-(B' c))=Ε (He - c):=by
  unfold yc;show APR hl vi ù
  congr 1;show Ω
 rw[e];show A0e[BP5]?=_;show Agd Aj1
 unfold uD;have h2:c - 1< (oV qs).reverse.length:=AjM ABp hl
 rw[Wf h2,AsG];simp only [hl,Option.map_some,IY (He - 1 - (c - 1)=BP5)]
theorem zzi(xs:AU)(h:0<B1):Sl xs Θ (Ε Ki)=xs.dropLast:=by
 show AGA;simp only [AsD,BpR];rw[C9 Χ,List.dropLast_eq_take]
 congr 1;show Ω
theorem ynp{f:BC}{c:Δ}{q:AM}(hc:c<=xB)(h:Hq f c=Ε q):q∈f:=by
 show Dx Hq;show Of
 ·show OZ
 ·show GN;exact Zt Η
theorem zmk(B7 Z0):vz zfc:=by
 obtain⟨qs,cs,Β,hl,hz,hc0,hc,h⟩:=h;refine⟨qs,Β,hl,hz,?_⟩;show BV (Ď (Sl (cs.map intD) Θ (DJ Ki)));rw[zzi _ (EQ C4 hc0),<- List.map_dropLast]
 have Ap:∀d∈Art intD,∀P,P [BCc] ->MP y0 dM BfF [EI,Pf A0e] d P:=by
  intro d hd P hp;show di k hk hd;have hk' :=hc k BQc;refine(?_:wt (TN< Fu))
  change P [AhI BN3] at hp
  rw[kQ] at hp;by_cases h0:k=0
  ·subst h0;show dS
   exact hp
  ·show DF da
   refine ë (ynn Η hk')
   unfold Hq at hp;rw[CO h0] at hp;exact hp
 refine zp6 (Ÿ [BCc]) Ap ?_
 rw[zrd,Q3];have e:(fun d:D=>BCc) ∘ intD=iA (AhI k):=by
  funext k
  show Ct (bD (Hq (uD qs) BN3)=_);rw[kQ]
 rw[e];have e2:Art (Bn k (AhI k))=Cb Art BV9 bD:=AYs
 show Ts e2
theorem zm2{α:CB}{p:AIm}:∀{l:CU} {i:Δ},(∀j b,j<i ->TC l b ->p b=AC) ->(L4 (FL l b) (p b=Κ)) ->i<=GY ->l.findIdx p=i
 | [],i,_,_,h=>by simp at h;subst h;rfl
 | x::l,0,_,h2,_=>È BpS (h2 x Β)
 | x::l,D',h1,h2,h3=>by
  rw[BpS,h1 0 x Η Β]
  show Ct (l.findIdx p+1=D');rw[zm2 (fun j b hj hb=>h1 APX b Η hb) (NJ (h2 b hb)) (Co h3)]
theorem zrg(B7 Z1):ny zg5:=by
 show wn bs m hz hm;refine i5 (∃(x y:GG),Γ= [Pf (x6 bD),AIV m,x,y]/\∀j b,j<i ->TC bs b ->BSE) (ϸ (fun j b hj=>Τ))
 ·rintro i d _ hi ⟨x,y,Β,hn⟩;show AXc ztc hi;cases q:bs[i]? with
  | Θ=>show BFI
  | Ε b=>
   rw[q] at hi;show AE hi hi hi hi hi hi hi hi hi hi hi hi hi hi;have hil:i<IP:=Pl q;have KE:BSE ->∀j b',j<D' ->TC bs b' ->isIn m b' =AC:=fun hb j b' hj e=>by
    by_cases ej:j=i
    ·subst ej;rw[q] at e;show C6;exact hb
    ·exact hn j b' Η e
   refine A6a;cases b with
   | Θ=>exact ϸ (KE Β)
   | Ε p=>
    show To ⟨m,p,Β,hm,hz _ (yV q) p Β,?_⟩ (AFp m p _ _);by_cases hw:AEl (Φ (m<p))
    ·show DF hw;have e:uF bs m=i:=zm2 hn (fun b' hb' =>by rw[q] at hb';show AE hb' hb' hb' hb' hb' hb' hb' hb' hb' hb' hb' hb' hb' hb';exact hw) Η
     rw[e] at h;rw[BIS];exact h
    ·show APU hw (ϸ (KE (by simpa [isIn] using hw)))
 ·rintro _ ⟨x,y,Β,hn⟩;show BV (AWy (ACX x6 bD));rw[zum] at hn;rw[C4] at hn⊢;have e:uF bs m=IP:=zm2 hn (NJ (AMg hb)) (zN _)
  show AkM
abbrev Eu(Q:AXw):rZ:=A'x (MK Q)
theorem z0w{x:Μ}:∀{g:Υ},inD AJv (g.map .AO)=O0 (AYI)
 | []=>DT inD
 | y::g=>by
  have ih:=z0w (x:=x) (g:=g);unfold inD at ih⊢;show AXa AGz ih;by_cases h:y=x
  ·subst h;simp [eqD]
  ·have h' :¬x=y:=A1 (h pr);simp [eqD,h,h']
theorem ya5(g:Υ):(g.map Ty).all Iv=Κ:=iS BHZ List.all_eq_true.mpr AI6
theorem zsl(A2r):BXc
 | []=>Β
 | FK=>XU sW (zsl f l)
theorem Ja{α:CB}{EF:ADm}(f:AJ0)(g:AJ0):BO6 (P [g a]) E_
 | [],_,_,h=>h
 | FK,P,k,h=>BBT Ja
theorem zgt{α:CB}{EF:ADm}(f g:AJ0)(p:AIm):BO6 (P (AfF p a [g a] [])) BQY
 | [],_,_,h=>h
 | FK,P,k,h=>k a zY _ (zgt f g p AUW (by
   rw[kX] at h;by_cases q:AO7
   ·rw[IF] at h⊢;exact h
   ·rw[NW] at h⊢;exact h))
theorem ymp(B7 V4):P7 z6x:=by
 show AQQ g hs;refine Ahy Ty (AH2 (.bl (O0 (AYI)))) x hx
 ·refine DM Β (ya5 g);rw[z0w];exact hp
 ·refine ë (zsl _ hs);have e:(ef (VS (Φ AYI))).any id=dZ g hs:=BKd
  show Ts e
theorem yc8{hs:Υ}{h x:Μ}:x∈uH hs h↔x∈hs\/x=h:=by
 unfold uH;split
 ·exact⟨NS,Tb (by rcases q with q | Β;exact q;assumption)⟩
 ·show BSf
theorem z40{hs:Υ}{h:Μ}(nd:ASY):(uH hs h).Sc:=by
 unfold uH;split
 ·exact nd
 ·show LP;rw[AL4];exact AEg nd (fun a ha b hb e=>q BQ0)
theorem ye5(A_'):BYy<=AcK+1:=by
 unfold uH;split
 ·show qB
 ·simp
theorem Gu(AbU){x:β}{l:SC}:(Sb x:Sum α β)∈E_ Sb↔x∈l:=CL ZE (Ala ⟨y,h,e⟩ (by injection e with e;exact e ▸ h) (ij x h))
theorem Uh(A_'):oh (ef KW) ϲ=O0 (ϴ):=by
 by_cases q:ϴ
 ·show õ q;exact wj.mpr (Gu.mpr q)
 ·show ô q;cases z:oh (ef Sb) (Sb h:Key) with
  | AC=>rfl
  | Κ=>show L7 (Gu.mp (wj.mp z)) q
theorem zxx(A_'):kY (ef KW) ϲ=(uH hs h).EL KW:=by
 unfold kY uH;rw[Uh];by_cases q:ϴ
 ·rw[AP7,E2,IF]
 ·rw[AJu,AXx,NW,PM];rfl
theorem ybc{hs:Υ}{xs:AU}{h:Μ}{d:D}(e:Ϡ AcK):BYy=Su (gU AJy xs ϲ d):=by
 unfold gU uH;rw[Uh];by_cases q:ϴ
 ·rw[AP7,E2,IF,ATt,C4,e,AG_]
 ·rw[AJu,NW,dQ];simp [e]
structure Wi (Ξ:BU) (n:Δ) (ws:Υ) (ps:AXN):Ι where
 len:BKl
 nd:Ė
 lw:Ll<=n
 pt:BjV
 ex:BPu
theorem zux{Ξ:BU}{r:Rw}{w:Μ}:gA Am1 w=BCf AM3 [r]:=by
 unfold gA;rw[AdO]
 congr 1
 show APD AFb
theorem z6m{Ξ:BU}{r:Rw}{w:Μ}:kW Am1 w=BCf Ņ [DL]:=by
 unfold kW;show APM zux
 congr 1
 show APD AFb
theorem ydo{Ξ:BU}{w:Μ}(h:¬(uv AFb)):BVR:=qV AuJ (fun r hr z=>h (ANj BJd))
theorem zwc{Ξ:BU}{r:Rw}{w:Μ}:yK Am1 w=BCf (Ł yK) [DL]:=by
 unfold yK;show APM AdO
 congr 1
 show APD AFb
theorem d8{Ξ:BU}{w h:Μ}:h∈Ł yK↔uv A'S:=by
 unfold yK;rw[ZE];constructor
 ·rintro⟨r,hr,e⟩;show A5j hr;exact⟨r,h1,pj h2,e⟩
 ·rintro⟨r,h1,h2,e⟩;exact⟨r,AdN ⟨h1,BLH⟩,e⟩
theorem Wi.new{Ξ:BU}{ws:Υ}{ps:AXN}{w:Μ}(B:Axz)(hw:w∉ws):Wi Ξ BJY A6d BUM:=by
 refine⟨DT xE,?_,CY B.lw,IE q v p h1 h2,fun u q v p h1 h2=> ?_⟩
 ·rw[AL4];exact AEg B.nd (fun a ha b hb e=>hw BQ0)
 ·by_cases hq:A1x
  ·rw[BKU] at h1;rw[BUh] at h2
   exact B.pt q v p h1 h2
  ·have hl:q< Su A6d:=Pl h1;rw[N1,ATP] at hl;have hq' :q=Ll:=Τ
   show Bbo
   simp at h1;simp [xE] at h2;show AJJ;refine⟨Β,C_,LU,GI (BQJ vk)⟩
   obtain⟨r,hr,e,_⟩:=d8.mp z;exact vc (ĥ w).mpr Alz hw
 ·by_cases hq:A1x
  ·rw[BKU] at h1;show Ps BUh h2 (B.ex u q v p h1 h2)
  ·have hl:q< Su A6d:=Pl h1;rw[N1,ATP] at hl;have hq' :q=Ll:=Τ
   show Bbo
   simp at h1;simp [xE] at h2;show AJJ;have:=ydo (Ξ:=Ξ) (w:=w) fun Alz=>hw ((ĥ w).mpr Alz);unfold kW;rw[Ρ];rfl
theorem z2t{ws:Υ}(nd:Ė){i j:Δ}(hi:i<Ll)(hj:j<Ll)(e:iP=ws[j]):i=j:=by
 show AZX nd;rcases BIH i j with q | q | q
 ·exact f_ e (Ap i j hi hj) q
 ·exact q
 ·exact f_ aT (Ap j i hj hi) q
theorem Wi.put{Ξ:BU}{ws:Υ}{ps:AXN}{r:Rw}{q:Δ}{p:Υ×AU}(B:Wi Ξ BJY ws ps)(wm:Bam (uv (Cl=v)) Cl)(h1:Ë ws Cl)(h2:Ë ps p)(d:D)(hd:d= .AL UQ):
  Qp Am1 ws (ps.set q (uH CS DL,gU A5R p.2 (E6 DL) d)):=by
 show Aqn (B.pt q Cl p h1 h2);have hq:A1w:=Pl h2;refine⟨CL BqI xE,B.nd,CY B.lw,LV v,IE q' v p' e1 e2,fun u q' v p' e1 e2=> ?_⟩
 ·rw[wm v];constructor
  ·rintro(⟨r',h,e⟩ | e)
   ·exact⟨r',zP _ h,e⟩
   ·exact⟨r,C_,aT⟩
  ·rintro⟨r',h,e⟩;show APP (Ix h) h
   ·show E5 ⟨r',h,e⟩
   ·rw[ABq h] at e;show HL aT
 ·by_cases Bb:q=q'
  ·subst Bb;show BVY;show i8;refine⟨ybc b1,z40 b2,zO ye5 (Co b3),AYT⟩
   rw[yc8,zwc,E2,AcA,b4 h,AGT]
  ·rw[AS4 Bb] at e2;obtain⟨c1,c2,c3,c4⟩:=B.pt q' v p' e1 e2;have hv:¬Cl=v:=A1 (by
    have l1:=(xI h1);have l2:=(xI e1);obtain⟨l1,l1'⟩:=l1;obtain⟨l2,l2'⟩:=l2;exact Bb Bg1)
   refine⟨c1,c2,CY (BoQ c3),AYT⟩
   rw[c4 h,zwc,Ai1,UE]
 ·have u0:IZ:=(BpT u).1;by_cases Bb:q=q'
  ·subst Bb;show BVY;show AE e2 e2 e2 e2 e2 e2 e2 e2 e2 e2 e2 e2 e2 e2;have ep:=B.ex u0 q Cl p h1 h2;have hn:DL∉CS:=A1 (by
    rw[ep] at z;obtain⟨r',hr',g1,g2⟩:=ASc z;exact(Bof u).2.2 r' hr' r A0 ⟨g1,g2⟩)
   rw[z6m,zux,E2,E2];unfold uH gU;rw[CO hn,Uh,AyX hn,dQ,ep,hd,PM]
   rfl
  ·rw[AS4 Bb] at e2;have hv:¬Cl=v:=A1 (by
    have l1:=(xI h1);have l2:=(xI e1);obtain⟨l1,l1'⟩:=l1;obtain⟨l2,l2'⟩:=l2;exact Bb Bg1)
   rw[z6m,zux,Ai1,Ai1,UE,UE];exact B.ex u0 q' v p' e1 e2
theorem ztm{ws:Υ}(nd:Ė):mr jI BPt:=by
 unfold ATi;rw[ĵ];exact nd.imp fun h z=>h Ayv
theorem yap(B7 T7):AZ' zsu 5:=by
 show AAS Ξ hl;have s1:=wR;intro as;refine i5 (BoK i) ?_
 ·exact⟨as,[],[],_,_,_,⟨Β,C_,C_,HH (BQJ (fun(ANj _)=>by(simp at hr))),fun q w p e=>(by simp at e),fun _ q w p e=>AJ'⟩,Β⟩
 ·rintro i d _ hi ⟨as,ws,ps,x,y,z,B,Β⟩;have hi' :i<du:=Ϛ ÿ
  show Aog tk (AGh DU=AGh i++ [ACh]) A6m
  have A8:BN'=i:=BLM
  have fin:∀as ws ps,Wi (AGh i) (BN'+1) ws ps ->(Bam (∃r∈AGh i,Cl=v) ADe) ->
    zhf K c {nx:=BTT,ct:=BTT,bk:=fun Γ=>zng K c (Eu Q) Γ fN,rt:=se,rT:=MK Q}
     [ADL,ADJ AwW,c0 ADe,c0 ACh.2.1,EG ACh.2.2] fN:=by
   intro as ws ps B wm;have hm:ADe∈ws:=(wm _).mpr (E6 Β);show Cc q hq eq ATm hm;have B2:A1w:=NN xE hq
   have e1:Ë ws ADe:=G0 (ku hq) eq
   have e2:Ë ps ps[q]:=zZ B2;show Aqn (B.pt q _ _ e1 e2);have BW:=B.put wm e1 e2 (Ev ACh.2.2) Β;rw[<- tk] at BW;refine⟨Azn,.B0 ACh.2.1,as,AZb,A3r,q,(ps[q].1).EL KW,ps[q].2,Β,Β,Β,ztm B.nd,A1T e1,A1T e2,APi,?_⟩
   refine⟨as,ws,_,c0 ADe,c0 ACh.2.1,EG ACh.2.2,BW,?_⟩;rw[zxx,List.map_set]
   rfl
  refine⟨Β,Β,Azn,as,AZb,A3r,Β,Β,?_⟩;rw[Uh];by_cases hw:ADe∈ws
  ·show õ hw;refine fin as ws ps ⟨xE,B.nd,BoQ B.lw,B.pt,B.ex⟩ (LV v);rw[ĥ v];exact⟨NS,A1 (by rcases z with z | Β;exact z;exact(ĥ _).mp hw)⟩
  ·show ô hw;refine⟨Azn,as,AZb,A3r,Β,Β,G0 Uh (AyX hw),BNH B.lw,LV cs⟩
   have:=fin A5K (ws++ [ADe]) BUM (Wi.new B hw) fun v=>by
    rw[AcA,ĥ v,AGT]
   show t_ PM PM;exact Ρ
 ·rintro _ ⟨as,ws,ps,x,y,z,B,Β⟩;show BW6 AGh AdQ uG Ξ
  rw[e] at B;exact h ws ps B
theorem zye:∀xs:Υ,wB AkR=Ε xs
 | []=>Β
 | SK=>by show AiS;unfold wB;rw[zye xs];rfl
theorem yhr{xs U:Υ}(h:AAG xs):De uo xs<=AAs:=Qj (zsv xs) (AQZ (h x (Ce.mp hx)))
theorem yku{xs U:Υ}{P:gc}(h1:B1<4095)(h2:A7y)(h3:AAG xs)(h:Bbz (A7l xs)):zu4 [gl xs] P:=
 ⟨xs,zye xs,h1,zL (yhr h3) Η,h⟩
theorem zfj{p:Υ ->AN}:∀fs:OT,Ayf (AT_ p).BGH
 | []=>C_
 | oa=>by
  have:=zfj (p:=p) fs;rw[kX];split<;>simp only [Ab',N1]<;>(show qA)
theorem zwt(fs:OT)(i:Δ):Ayf (AS1 i).BGH:=by
 conv=>rhs;rw[<- AXs fs,AS2,N1]
 show Ω
theorem yc0(B7 Z2):Sn zv3 5:=by
 obtain⟨fs,hs,U,Β,hl,hfl,hU,u1,u2,h⟩:=h;have ABc:qa 8000:=B4
 refine zgt gl gl BQO (AJ4 f hf) ?_
 ·show To (IS f hs ?_) (ID (! ANS) (P [gl f]) ϔ);show A9e (AEl ANS) IF NW
 ·refine i5 (∃x,Γ= [BRG,.pu (gl hs),Pf (Cb AT_ (fun f=> ! ANS) gl),.ow ((hs++ ((AS1 i).Ģ AmR).AsN).EL .AO),x]) ⟨EI,by simp [gl];rfl⟩
  ·rintro i d _ hi ⟨x,Β⟩;have hi' :i<AGd:=Ϛ ÿ
   show Aog tk (AS1 DU=AS1 i++ [AJe]) A6m
   show To (IS AJe hs ?_) (if AaW AJe then _ else _);by_cases q:AaW AJe
   ·show DF q;refine⟨E4,?_,.pu (gl AJe),?_⟩
    ·have h1:=zfj (p:=AmR) (AS1 DU);have h2:=zwt fs DU;rw[tk,AdO,AS2,N1] at h1;simp only [kX,q,xk,BGI,Ab',BpU,UE] at h1;rw[tk] at h2;show AIS N1 C4;show Ω
    ·show BXu;show Bdb xk BGI Ab';rw[<- x5,PM (l₂:=AJe)]
     rfl
   ·show BN q;refine CI (.pu (gl AJe));show BXu;show Bdb AeR ALl BGI
    rfl
  ·rintro _ ⟨x,Β⟩;show BW6 AS1 Adk gl fs
   rw[e];have hx:AfQ (hs++ (AT_ AmR).AsN) (x∈hs\/AoJ (AaW f/\APq)):=VS (by
    rw[AcA,List.mem_flatten];constructor
    ·rintro(a | ⟨f,hf,a⟩)
     ·show E5 a
     ·show A5j hf;show HL ⟨f,h1,h2,a⟩
    ·rintro(a | ⟨f,h1,h2,a⟩)
     ·show E5 a
     ·show HL ⟨f,AdN A6P,a⟩)
   unfold zq6;dsimp only [aF,bh,cC,cV,cB,cT,jw,uT,gq,eU,jU,fZ,sG,ak,aj,dU,eO,dN,fG,aV,gK,cM,aW,cP,Lc,fH,bw,fJ,jV,jW,aq,cU,iC,gC,cN,fQ,cR,dG,bW,jC,tZ,sO,qW,yg,vq,jD,nq,sU,dw,wI,sJ,uc,lR,yh,yj,cZ,lV,gM,jx,lW,LA,MI,ML,My,LH,fK,kj,rQ,vA,qp,pC,ql,lX,eZ,dF,jE,qJ,qY,vB,iQ,rR,cD,dW,ug,yw,uf,lY,lZ,iL,eE,gH,kE,dM,Lo,M0,JJ,LY];refine yku (U:=U) ?_ hU (TU x q) (yi ms s2)
   ·have:=zfj (p:=AmR) fs;rw[N1];show Ω
   ·rcases(hx x).mp q with a | ⟨f,h1,_,a⟩
    ·exact u1 x a
    ·exact u2 f h1 x a
   ·refine APr (ANd 1)
    ·have:=AuI BQO fs;show NR;show Ω
    ·have:=h ms s1 fun x=>hW s2 x (hx x);show AaS PM
theorem Ui{g:Υ}(h:AWI g.Pairwise):g.Nodup:=h.imp fun{a b} q z=>(Ahv Yx)
theorem asT(a b:Μ)(h:AHk):¬(ŉ b a):=lh z3m h zJ
theorem z3i{Ξ cL :BU}{Ss Ma :OT}(F:Fam Ξ Ss)(F' :Fam cL Ma)(e:Bn5):A_X :=fun S hS=>by
 show DE r hr k F.of S hS;obtain⟨S',hS',k'⟩:=F'.to r ((e r).mp hr);refine⟨S',hS',LV x⟩;rw[k x,k' x,d8,d8];exact⟨BXr (e r).mp,BXr (e r).mpr⟩
theorem Ep.sub(BdS):AAi (m∈Cy) :=Ags (by
 obtain⟨Ss,F,p⟩:=h.pi;obtain⟨Ma,F',p'⟩:=h'.pi;obtain⟨m',hm',k⟩:=p.same p' (z3i F F' e) (z3i F' F (Re (X_ e r))) hm;rw[VJ asT (h.sr m hm) (h'.sr m' hm') k];exact hm')
theorem Ep.uniq(BdS):ms=Cy :=
 VJ (R:=fun a b=>BAq) (fun a b q=>asT _ _ q) h.up h'.up fun m=>⟨h.sub h' e m,h'.sub h (cK (X_ e r)) m⟩
theorem ygm{f:Υ}(h:f≠ []):hdS f∈f:=by
 cases f with
 | C3=>show AFG h
 | AX x f=>exact zY
theorem z3f:∀{fs:OT},(Aa2 (f≠ [])) ->A9V ->mr Adk hdS
 | [],_,_=>C_
 | oa,ne,d=>by
  rw[AL3] at d;show BMA;refine⟨vk,z3f (fun g hg=>ne g (zW _ hg)) d.2⟩;show Ϣ g hg (aS z);exact d.1 g hg (hdS f) (ygm (ne f zY)) (e ▸ ygm (ne g (zW _ hg)))
theorem z9e:OQ fs OT (Aa2 (f≠ [])) (Ayf AGd)
 | [],_=>C_
 | oa,ne=>by
  have:=z9e (fs:=fs) (BSI ne);have h1:0<xB:=AAu (ne f zY);rw[GV,Ab',N1];show Ω
theorem z1m{Ss fs:OT}{U:Υ}(p:ARR)(h:AWJ (AAG S)):AaO (AAG f):=fun f hf x hx=>(YO S hS q ((p.co x).mp (AO6 hx)) (h S hS x q))
theorem z25{Ss fs:OT}{U:Υ}(p:ARR)(nd:AaO f.Nodup)(h:AWJ (AAG S)):BFZ<=AAs:=
 Qj (zmu p.dj nd) (AQZ (by
  show AjL f hf q hx;exact z1m p h f hf x q))
theorem Uj:∀l:AU,jT (E_ .JE)=l
 | []=>Β
 | d::l=>by show AiS;unfold jT;rw[Uj l];rfl
theorem zoi{α:CB}(f:α ->T):BSZ jT (VS (toD (f x)))
 | []=>Β
 | d::l=>by show AiS;unfold jT;rw[zoi f l];rfl
theorem yfz(hs:Υ):AzG BPt lU=ef .AO:=AYs
theorem yci(B7 Z4):AZ' zwg 3:=by
 obtain⟨Ξ,U,Β,hl,hU,hu,h⟩:=h;refine⟨LU,Ξ,Β,hl,At ws ps B⟩;have hpU:XL ps (((CS).Sc/\CS≠ []/\AAG CS)/\BSG CS):=ï (by
  show Cc q hq e ATm hp;have B2:A1x:=CL xE hq
  show Aqn (B.pt q _ p (zZ B2) BSU)
  obtain⟨r,hr,er⟩:=(ĥ ws[q]).mp (yU B2);refine⟨⟨b2,vk,AnX⟩,r,hr,VS (iS er b4 x)⟩
  ·show ARV ((b4 DL).mpr (AsP ⟨r,hr,er,Β⟩)) z
  ·obtain⟨r',h1,_,h3⟩:=d8.mp ((b4 x).mp hx);exact h3 ▸ hu r' h1)
 have few:∀i,∀S∈ Cb AsQ i (·.1),AAG S:=fun i S hS x hx=>by
  show di p hp hS;exact(hpU p (ASr hp)).1.2.2 x hx
 refine i5 (∃fs x,oA ((ps.take i).map (·.1)) fs/\ (Aa2 (AWI f.Pairwise))/\Γ= [ADL,BRG,x]) ⟨[],_,CY oA.nil,AaN (by(show AAr)),Β⟩
 ·rintro i d _ hi ⟨fs,x,p,sr,Β⟩;rw[zoi] at hi;have hi' :AJb:=Ϛ ÿ
  show Aog tk (AsQ DU=AsQ i++ [Na]) A6m
  obtain⟨⟨q1,q2,q3⟩,_⟩:=hpU Na (yU hi');have l1:=Qj q1 q3;have l2:=z25 p (fun f hf=>Ui (sr f hf)) (few i);have l3:=z9e p.ne;refine⟨fs,Na.1,U,?_,Τ,Τ,hU,q3,z1m p (few i),At g g1 g2⟩
  ·rw[yfz];rfl
  ·refine⟨Aoo (dZ f Na.1),_,?_,CA f hf,Β⟩
   ·show APM tk;exact p.step q2 g2
   ·rcases Ix hf with hf | hf
    ·exact sr f (AYA hf)
    ·show ik hf;exact g1
 ·rintro _ ⟨fs,x,p,sr,Β⟩;have e:AsQ (De jT (KO Gn))=ps:=BKx zoi ķ
  rw[e] at p;have abY :∀S∈KO (·.1),AAG S:=ACk (few N0) ķ
  have l2:=z25 p (fun f hf=>Ui (sr f hf)) abY;have l3:=z9e p.ne;refine⟨fs,Β,p.ne,z3f p.ne p.dj,Τ,fun ms pm up=>h ms ⟨Ags (sr m (AsR hm)),up,_,Po (CA S hS) r hr,p.perm pm⟩⟩
  ·show di p hp hS;exact(hpU p hp).2
  ·have hw:=(ĥ Cl).mpr (ANj Β);show Cc q hq e ATm hw;have B2:A1w:=NN xE hq
   show Aqn (B.pt q Cl ps[q] BSU (zZ B2))
   exact⟨ps[q].1,Arp (OP (yU B2)),b4⟩
theorem q27{q z k:AM}(k0:k≠0)(e:q*k=z):q=z/k:=by rw[<- e,N_,yB,BJU k0,AME]
def GZ(B:Δ)(q:AM):Ι:=Bby (q*27720)
theorem GZ.add(BgB):GZ (A+B) (p+q):=by
 obtain⟨a,ea,ha⟩:=h1;obtain⟨b,eb,hb⟩:=h2;refine⟨a+b,?_,Apc AeO ha hb⟩;rw[AuH,<- ea,<- eb];grind
theorem GZ.sub(BgB):GZ (A+B) (p - q):=by
 obtain⟨a,ea,ha⟩:=h1;obtain⟨b,eb,hb⟩:=h2;refine⟨a - b,?_,Apc Bos ha hb⟩;rw[Aew,<- ea,<- eb];grind
theorem GZ.mono{A B:Δ}{q:AM}(h:GZ A q)(l:A<=B):AO8:=by
 show Th a ea ha;exact⟨a,ea,zO ha l⟩
theorem z54{B:Δ}:A'W AO8 (GZ (He*B) (fj qs))
 | [],_=>⟨0,ů fj,C_⟩
 | q::qs,h=>by
  refine((h q zY).add (z54 Ams)).Ľ ?_;show A4';show Ω
theorem Uk{n:Δ}(h1:1<=n)(h2:n<=12):n* (27720/n)=27720:=by
 match n,h1,h2 with
 | 1,_,_=>rfl
 | 2,_,_=>rfl
 | 3,_,_=>rfl
 | 4,_,_=>rfl
 | 5,_,_=>rfl
 | 6,_,_=>rfl
 | 7,_,_=>rfl
 | 8,_,_=>rfl
 | 9,_,_=>rfl
 | 10,_,_=>rfl
 | 11,_,_=>rfl
 | 12,_,_=>rfl
theorem z9a{t:Ψ}{n B:Δ}(h1:1<=n)(h2:n<=12)(ht:Aeu<=B):AZE B (UR t (Lu n)):=by
 have e:=Uk h1 h2;have n0:ADG n≠0:=A1 (by
  have:n=0:=ò z
  show Ω)
 refine APr (t* EU (27720/n))
 ·have e' :BE 27720=ADG n* ADG (27720/n):=ò aT
  rw[e',RA,N_,yB,<- yB (Inv.inv (ADG n)),AJV n0,BF_]
  rfl
 ·rw[Ĵ];refine AcE ht ?_;rw[Bo9];exact Nat.div_le_self _ _
theorem ygx{t:Ψ}{B:Δ}(ht:Aeu<=B):AZE B (BE t):=by
 refine DM (t*27720) (gL RA)
 rw[Ĵ];exact AcE ht (zN _)
theorem yli{B n:Δ}{q:AM}(h:AO8)(hB:B<2^n):dh ABu<=n/\dh Aim<=15:=by
 show Th z e hz;have eq:q=BRx:=q27 Χ e
 have b1:dh z<=n:=mj Η
 have f:=BWo Χ
 have e1:(fr z 27720).1=_:=BNS;have e2:(fr z 27720).2=_:=BNT;show A8G;rw[eq];refine⟨zO (MN ?_) b1,zO (BXw ?_) (mj Χ)⟩
 ·rw[<- e1];exact ygi Χ
 ·rw[<- e2];exact ygj Χ
theorem Wj{B n:Δ}{q:AM}(h:AO8)(hB:B<2^n)(hn:15<=n):Sz n q:=⟨(yli h hB).1,zO (yli h hB).2 hn⟩
theorem Ny{B n:Δ}{q:AM}(h:AO8)(hB:B<2^n)(hn:n<=128):SzE q:=by
 refine CI (zO (yli h hB).1 hn);show Th z e hz;have eq:q=BRx:=q27 Χ e
 have f:=T_ BJE (BWo Χ)
 dsimp only at f;rw[eq,<- f];exact⟨dv z 27720,CL Aet (VF z 27720).jp⟩
theorem ylf{n:Δ}(h:1<=n):qD (A0I (Lu n))= .DZ (AHz Ki n):=by
 have f:=Zd (t:= -1) (b:=LS) Η
 have e1:(fr Ki LS).1=_:=BNS;have e2:(fr Ki LS).2=_:=BNT;show A8G;have g:dv Ki LS=1:=by unfold dv;show BN Η;simp
 have t1:=z1t Ki LS;have t2:=VF Ki LS;rw[g,Int.one_mul] at t1 t2;unfold qD;have c:(UR (B' (-1)) (Lu n))=A0I (EU n):=Β;rw[c,<- e1,<- e2,t1,t2]
theorem ybb{α:CB}(f:F9):AIa (fj AwF=dc)
 | []=>Β
 | FK=>Aka (f a+fj (E_ f)=f a+dc) (ybb f l)
theorem z90(ApM):AM6 (AHU Qq) ((kW Ξ w).EL KW) (Ag7 AN1):=Β
theorem ztx(B7 Qs):P7 zi9:=by
 obtain⟨Ξ,ws,h0,Β,h⟩:=h;refine zgt Aw' Aw' (é AVW) (AJ4 w hw) h;refine⟨_,_,.B0 h0,AYL,Β,?_⟩;rw[Uh];show A9e AHp AP7 AJu
theorem Kz(BW5){w:Μ}(h:AQB):1<=AV'/\ AV'<=12:=CL TJ ⟨AAu h,L.wk w⟩
theorem ykm(B7 Z5):Sn z2w 5:=by
 obtain⟨Ξ,ws,h0,o0,Β,L,⟨W1,W2⟩,h⟩:=h;have s1:=wR;refine⟨Ξ,ws,h0,Β,Ξ,AKw (Bn w AVW),o0,Β,?_⟩
 let both:=(AKw Aj5).Ģ (HH (Φ AwE))
 have hb:∀w∈both,AQB:=fun w hw=>W2 w (AYA (AYA hw));have hbl:AdU<=200:=zO (zO AYn (AuI _ _)) W1
 let f:EZ:=HH (A0I Ay')
 have gz:∀w∈both,GZ 27720 (f w):=AFV (by
  have:=z9a (t:= -1) (B:=1) (AyZ hb) (Kz L (hb w hw)).2 Χ
  show Da AMA;exact Ρ)
 show EW gs (BcX A1v AS5) (iA (by
  refine(z54 AXD).Ľ (BfG BMF hbl)
  show AVv w hw BRu;exact gz w hw)) e2 (fj (AS5 f)=aC ws (HH (XA A7v (f w)))) (by
  rw[ybb];rw[Mg,Mg];refine AQc w;by_cases q1:AHp
  ·by_cases q2:AwE<;>simp [q1,q2]
  ·simp [q1]) e3 ((aC SA (AMk (h0∈s/\o0∈s) Alb))= - A'P) (by
  rw[e2,Mh];have: - (aC ws (HH (XA A7v (f w))))=aC ws (HH (Ki* (B3 A7v (f w) 0))):=AAQ Mf
  rw[Ρ];refine AQc w;split
  ·show BV (1/ BE Ay'=Ki* (UR (B' (-1)) Ay'));show BPz;have:Pe (-1)= -1:=Β;rw[Ρ];grind
  ·grind) pw (∀n,23<=n ->200*27720<2^n) (fun n hn=>zM (AYa (200*27720<2^23)) (Arm Χ hn))
 refine Bfb (AP2 Ki (EU AV'))
 ·refine⟨_,_,AYL,vn,?_⟩
  rw[C4];exact hp
 refine Bi3 AS5 ?_
 ·show Ø;refine BmR (FG [ħ z]) (CA w hw);exact X_ ylf (AyZ hb)
 ·show di w hw hq;exact Wj (gz w hw) A7m Χ
 have gt:=gs BMF;rw[ķ] at gt;refine Ajg
 rw[Ue];by_cases q:h0=o0
 ·subst q;show õ Β;have eb:AdU=De AKw Aj5:=by
   show De (AKw Aj5).Ģ Aj5=_;rw[AcG];simp
  have ec:jz SA h0=BLS:=by
   unfold jz;rw[Mh,eb];have:=Qm (α:=Μ) 1 (l:=A2L AVW);rw[Mg] at Ρ;rw[AME] at Ρ;show u_;exact mX (BOx AHp)
  refine⟨vn,BKS,A'P,?_,?_,Wj gt Bnf Χ,?_⟩
  ·rw[Tv,C4]
  ·exact BYS (zL (IY (cr (EU AdU)<=200*27720)) (pw 4000 Χ))
  ·have:BKS+A'P=fY SA h0 h0:=by
    unfold fY;rw[E2,e3,ec];show BLS+_=_
    grind
   show Ts Ρ
 ·show ô q;have:fj (AS5 f)=fY SA h0 o0:=by
   unfold fY;rw[CO q,e3];grind
  rw[Ρ];exact h
theorem yd8(B7 Z6):vz zxs:=by
 obtain⟨Ξ,ws,m,h0,Β,L,W,h⟩:=h;refine Ja Ty (Bn o (Avy h0)) (AJ4 o ho) h;exact⟨Ξ,ws,h0,o,Β,L,W,hp⟩
theorem zw6{α:CB}(f:α ->Ψ):AIa (oO (E_ fun a=> (AJZ a))=Ε AwF)
 | []=>Β
 | FK=>by unfold Lo oO;rw[zw6 f l];rfl
theorem zt7{α:CB}(f:α ->Ψ):AIa (Pe BTE=AJ1 (BE (f a)))
 | []=>Β
 | FK=>by
  rw[Ff,BpV,AuH,zt7 f l];rfl
theorem zyv{α:CB}(f:α ->Ψ){B:Δ}:AbK ((f a).ABt<=B) (cr (BTE)<=GY*B)
 | [],_=>C_
 | FK,h=>by
  have h1:=h a zY;have h2:=zyv f (l:=l) (APs AMb);rw[Ff,BpV,GV,BJG,AMA,BpG];exact Apc AeO h1 h2
theorem zym(B7 Z7):ϳ znt:=by
 show wn Ξ w L ne;have hp:=AAu ne;have h12:=L.wk w;refine⟨_,_,Ag7 (cK UQ),AYL,zw6 _ _,_,_,AYL,_,_,Β,?_,?_,?_⟩
 ·have:=Bkz;refine AFt 104 (zL Ρ ?_)
  exact zL BQb Χ
 ·rw[C4,TJ];exact AFt 4 Η
 ·show APR TJ vi zt7
  exact h
theorem yd9{L:BU}{h:Μ}:iG (kN fun r=> Agg) (kN fun r=> ACp) ϲ=Cb L.find? (Re Aor) AN1:=by
 induction L with
 | C3=>rfl
 | AX r L ih=>
  show AXa Ff Ad0;unfold iG;by_cases q:DL=h
  ·rw[C9 (by rw[q]),AP7];rfl
  ·rw[CO (FG (q Ayv)),AJu];exact ih
theorem ybq{Ξ:BU}(u:IZ)(BaW):uv (AFb/\AOH/\iG Aos (AZo fun r=> ACp) ϲ=Ε (Ev UQ)/\Ah4 h=AI1):=by
 show BEV;refine⟨r,hr,e1,e2,?_,?_⟩
 ·unfold kW;show Ø;have:=yd9 (L:=AM3) (h:=h);refine(?_:iG (AZo fun r=> Agg) _ _=_);rw[Ρ];cases q:(gA Ξ w).find? (Re Aor) with
  | Θ=>
   have:=Box q r (AcF ⟨hr,e1⟩);simp [e2] at Ρ
  | Ε s=>
   have s1:=ASb (Bov q);have s2:r8=h:=CY (Bow q)
   rw[yh2 u s1.1 hr ((s1.2).EC e1.symm) (İ e2.symm)];rfl
 ·have:=Qn u hr;show t_ e1 e2;exact Ρ
theorem Qy(BW_):cX Š (AHU yW)=ANU (cK AI1):=by
 unfold cX;rw[TJ,yg6]
 congr 1
 refine AKa;have:=Qn u Ah7;show Da Amb;rw[Ρ]
theorem ybp(BW5){w:Μ}(ne:AQB):AZE (2^104) (ANU (cK AI1)):=by
 have hp:=AAu ne;have h12:=L.wk w;have:=Bkz;rw[<- zt7];refine z9a hp h12 (zO Ρ (zO BQb Χ))
theorem ya3{Ξ:BU}(u:IZ)(L:tI)(BaW):AZE (2^105) (Ah4 h - cX Š (AHU yW)):=by
 obtain⟨r,hr,e1,e2,_,ey⟩:=ybq u hh;rw[ey,Qy u];have ne:AQB:=A1 (by
  have:=AcF ⟨hr,e1⟩;show Da z;show L9)
 exact((ygx (B:=2^104) (zO (AGg (L.mm r hr)) Χ)).CC (ybp L ne)).Ľ Χ
theorem yfi(B7 Z8):P7 zxq:=by
 obtain⟨Ξ,ws,h0,Β,u,L,⟨W1,W2⟩,h⟩:=h;have s1:=wR;have pw:∀n,128<=n ->200* AlB<2^n:=fun n hn=>zM (AYa (200* AlB<2^128)) (Arm Χ hn)
 let wh:=A2L AVW
 have Qz:∀w∈wh,w∈ws/\AHp:=AFV ⟨AYA hw,BoP (ASt hw).2⟩
 let f:EZ:=HH (Ah4 h0 - cX Š (AHU yW))
 refine⟨Ξ,ws,h0,Β,?_⟩;refine Bfb (qD (f w))
 ·obtain⟨r,hr,e1,e2,lk,ey⟩:=ybq u (AOL Qz);show BD ⟨_,_,.B0 h0,ACp,AYL,Β,lk,vn,Ξ,w,Β,L,W2 w (Aa4 Qz),?_⟩ ⟨Pe UQ,_,MA Tv,?_,Wj (ybp L (W2 w (Aa4 Qz))) A7m Χ,?_⟩
  ·exact Ze (zO (mj (L.mm r hr)) Χ) Χ
  ·rw[<- Qy u,<- ey];exact hp
 ·have gs:BcX (200* AlB) AsS:=iA (by
   refine(z54 AXD).Ľ (BfG (De AsS f) (zO AYn W1))
   show AVv w hw BRu;exact ya3 u L (AOL Qz))
  refine Bi3 AsS AYs
  ·show di w hw hq;exact Wj (ya3 u L (AOL Qz)) A7m Χ
  ·have:fj (AsS f)=oE AM4 Afq ws h0:=by
    rw[ybb];rw[Mg];exact mX fun w _=>by by_cases q:AHp<;>simp [q,f]
   show Ts Ρ
theorem zu6{α:CB}{B:Δ}{f:F9}:AbK (GZ B (f a)) (GZ (GY*B) (aC l f))
 | [],_=>⟨0,AlG,C_⟩
 | FK,h=>by
  refine((h a zY).add (zu6 (APs AMb))).Ľ ?_;show A4';show Ω
theorem zqt(B:Δ):GZ B 0:=⟨0,Tk,C_⟩
theorem yhp{Ξ:BU}{ws:Υ}(W:AOu)(h:Μ):GZ A1v (jz SA h):=by
 unfold jz;rw[Mh];refine BDu 27720 _;split
 ·have:=ygx (t:=1) (B:=1) Χ
  show AaS AMA
 ·exact zqt _
theorem yda{Ξ:BU}{ws:Υ}(L:tI)(W:AOu)(h o:Μ):GZ (400*27720) (fY SA h o):=by
 have g1:AZE 200 (B3 (h=o) (jz SA h) 0):=by
  split
  ·exact yhp W h
  ·exact zqt _
 have g2:GZ A1v (aC SA (AMk ASB Alb)):=by
  rw[Mh];refine BDu 27720 hw;split
  ·have:=z9a (t:=1) (B:=1) (AyZ W.2) (Kz L (W.2 w hw)).2 Χ
   show AaS AMA
  ·exact zqt _
 exact(g1.sub g2).Ľ Χ
theorem ykv{Ξ:BU}{ws:Υ}(u:IZ)(L:tI)(W:AOu)(h:Μ):GZ (200* AlB) ASL:=by
 refine BDu (2^105*27720) _;split
 ·show LP;exact ya3 u L q
 ·exact zqt _
theorem ztn(AbU) [Arl α](g:AYm)(l:CU):E_ g=MS GY (F8 (g (N9 j WV))):=by
 show nX
 ·simp
 ·show AFw;show BP7;have hi:AhS:=CY h1
  show AEX iX;rfl
theorem yf3(x:D)(xs:AU):Sl ARI AU3 Θ=xs:=by
 show AGA;simp
theorem znw(B7 Z9):Sn zfp 5:=by
 obtain⟨Ξ,ws,m,Β,S,L,W,ne,m12,h⟩:=h;have s1:=wR;obtain⟨h0,hs,em⟩:∃h0 hs,m=AIL:=by
  cases m with
  | C3=>show AFG ne
  | AX a b=>exact⟨a,b,Β⟩
 have hn:HZ=AcK+1:=AYt
 have gs:∀i,w9 DU WV=hs.getD i WV:=GL AYt
 have ct:Sl (ZO Ty) AU3 Θ=ef Ty:=CL em (yf3 _ _)
 let A:=pF Ξ ws m
 refine(?_:Ď BUe);rw[ct];refine Ŧ Ja Ty (P4 Azm) h hh ⟨Ξ,ws,m,h,Β,L,W,hp⟩;show APp (Ď BUe) ct (Ŧ Ja Ty (P4 (qD ASL)) h hh ⟨Ξ,ws,h,Β,S.u,L,W,hp⟩);have ec:∀h,jz SA h=Pe (De AKw (HH Ay_)):=GI (by
  unfold jz;rw[Mh];have:=Qm (α:=Μ) 1 (l:=A2L Ay_);show t_ Mg AME;refine AG' ?_ Ρ;exact mX (BOx AIF))
 show BV (AB_ zej [AZu,.pu (yL Ξ ws),BRF Azm,BRF (qD ASL),EI]);show ø (eF _ (ZO Ty) _) (Ahy Ty (P4 BZP) h hh)
 ·refine⟨Ξ,ws,h,Β,vn,?_⟩
  rw[ec,Tv] at hp;show NR;exact hp
 unfold zep;dsimp only [aF,bh,cC,cV,cB,cT,jw,uT,gq,eU,jU,fZ,sG,ak,aj,dU,eO,dN,fG,aV,gK,cM,aW,cP,Lc,fH,bw,fJ,jV,jW,aq,cU,iC,gC,cN,fQ,cR,dG,bW,jC,tZ,sO,qW,yg,vq,jD,nq,sU,dw,wI,sJ,uc,lR,yh,yj,cZ,lV,gM,jx,lW,LA,MI,ML,My,LH,fK,kj,rQ,vA,qp,pC,ql,lX,eZ,dF,jE,qJ,qY,vB,iQ,rR,cD,dW,ug,yw,uf,lY,lZ,iL,eE,gH,kE,dM,Lo,M0,JJ,LY];have l1:AcK<=1000:=Τ
 refine⟨ANd 1,BNG,vn,ANd 1,BNG,?_⟩
 have aag:ADX HZ (qu HZ (A i)= .B_ (ZO fun o=>Be_)):=LW (by
  unfold qu;rw[ztn (Bn o Be_) m];refine A7K ARw;refine(?_:qD (pF Ξ ws m i j)=_);unfold pF;rw[ê UI hj])
 have idx:X0 HZ (AdV A9M=j):=mM (Ú MH Aj_ (S.nm.idxOf_getElem j hj))
 have conv:∀(X:dE) i,A5e (AP8*X j) (d7 HZ (F8 (AP8*X (AdV A9M)))):=fun X i=>Qk fun j hj=>(MA (idx j hj))
 refine⟨HZ,A,⟨?_,m12,MX i j hi hj⟩,IE y k hk y1 hy,At X hX hsz⟩
 ·have t1:Kq HZ HZ A= .B_ (bE (ZO fun h=>BZP)++ef fun h=> Azm):=by
   unfold Kq;rw[hn,AtX,Ff,Q3,<- hn,aag 0 Η]
   rw[ztn (P4 (ħ (ZO fun o=>(Avy h)))) hs];refine T_ ħ ?_;show BD (?_:Db=Db) BPr;have hi' :=UI hi;refine(?_:qu HZ (A DU)=_);rw[aag DU Η]
   refine A7K (CA o _);rw[CO Η,gs]
  have t2:qu HZ (rq (A i HZ))= .B_ ([AP2 0 1]++ef fun h=>qD ASL):=by
   unfold qu;rw[hn,AtX,Ff,Q3,<- hn];rw[ztn (P4 (qD ASL)) hs];have a0:A 0 HZ=Pe 0:=by
    show uS (BMb 0);unfold pF;rw[Aoy,E2];rfl
   show BD (T_ ħ ?_) (?_:qD (A 0 HZ)::_=Db);rw[a0,Tv];refine BPr;refine(?_:qD (pF Ξ ws m DU HZ)=_);unfold pF;rw[Aoy,vi,gs]
  rw[t1,t2]
  rfl
 ·show BV (SzE (pF Ξ ws m i j));unfold pF;split
  ·split
   ·exact Ny (yhp W _) (n:=23) Χ Χ
   ·exact Ny (yda L W _ _) (n:=24) Χ Χ
  ·split
   ·exact Ny (zqt 0) (n:=1) Χ Χ
   ·exact Ny (ykv S.u L W _) (n:=128) Χ Χ
 ·have z:=S.null (P4 (y (AdV h))) (UU hi (by
   have:=hy i hi;show Da conv;exact Ρ)) (w9 k WV) (Zt hk)
  rw[idx k hk,y1] at z;exact AkH z
 ·have a:=S.ans (P4 (X (AdV h))) (UU hi (by
   have:=hX i hi;show Da conv;exact Ρ))
  have e:qu HZ X= .B_ (ZO fun h=>BRH):=by
   unfold qu;rw[ztn (P4 BRH) m];exact A7K (BZb idx)
  rw[e];show AKl hsz;exact h _ a.1 a.2 ⟨d,d0,bd,fun g hg=>hd _ (List.idxOf_lt_length_of_mem hg)⟩
theorem ydj{n:Δ}(a b:BU):nA (n+2) (eG a) (eG b):=by
 show AGP;rw[Fh] at h1 h2;cases q1:a[i]? with
 | Θ=>show ArT
 | Ε u=>
  cases q2:b[i]? with
  | Θ=>show LO q2 h2 h2 h2 h2 h2 h2 h2 h2 h2 h2 h2 h2 h2 h2 h2
  | Ε v=>
   rw[q1] at h1;rw[q2] at h2;show BFG;show AGR;show BBQ
   match j with
   | 0=>show BCH
   | 1=>show BCH
   | 2=>show BCH
   | j+3=>simp at g1
theorem ylp(ms:OT):toD (E3 (ADl Q1 gl))= .B_ (Q1 gl):=BQy
theorem Ep.sys(ApL)(G:AJM)(u:IZ){m:Υ}(hm:m∈ms):(Ϟ Bmn)/\∀ws:Υ,Ė ->(Ape (∃r∈AoX,AFb)) ->wN ADx ws m:=by
 show AnJ;have cl:A0h:=fun r hr hh h hk=>by
  show DE S hS e F.to r hr;show BXQ;have h1:DL∈f:=CC _ ((e _).mpr (AsP Bnl));have h2:h∈f:=CC _ ((e _).mpr hk);rw[Zg p.dj hm hf hh h1];exact h2
 refine⟨cl,fun ws nw hw=>⟨u.M m,nw,c_ ((hw _).mpr (ANj Β)),Ui (G.sr m hm),c_ A8n,A8a,At C hC hx⟩⟩
 ·obtain⟨S,hS,hs⟩:=(p.co h).mp ⟨m,hm,hh⟩;show An6;obtain⟨r',hr',_,e2⟩:=Aak h hs;exact⟨r',mC.mpr ⟨hr',CL e2 hh⟩,e2⟩
 ·have Ap:=p.min (AH2 (x∈m ->C x)) (fun S hS hx y hy ym=> ?_) m hm (by
   obtain⟨x,h1,h2⟩:=hx;exact⟨x,h1,Fk h2⟩)
  ·exact AQZ (Ap x hx hx)
  ·show An6;show BXQ;have fm:m=f:=Zg p.dj hm hf ym (CC y hy);have inm:∀z∈S,z∈m:=AEP (CL fm (CC z hz))
   have WS:∀z,z∈S↔z∈kW (ofM Ξ m) Cl:=A1 (by
    rw[jl];constructor
    ·intro hz;show AbR r' (Aak z hz);exact⟨r',mC.mpr ⟨h1,CL h3 (inm z hz)⟩,h2,h3⟩
    ·rintro⟨r',h1,h2,h3⟩;exact(e z).mpr (AsP ⟨r',(mC.mp h1).1,h2,h3⟩))
   obtain⟨x,hx1,hx2⟩:=hx;show AbR r' (ASc ((WS x).mp hx1));exact hC Cl ((hw _).mpr ⟨r',h1,h2⟩) ⟨x,(WS x).mp hx1,hx2 (inm x hx1)⟩ y ((WS y).mp hy)
theorem yl4{Ξ:BU}{m:Υ}{w:Μ}:gA (ofM Ξ m) w=(gA Ξ w).Ģ (Re Ay9):=by
 unfold gA ofM;rw[AcG,AcG];exact BFX (AYj (Bool.and_comm _ _))
theorem yjl{Ξ:BU}{m:Υ}{w:Μ}(h:Ŏ Ņ m):gA ADx w=AM3:=by
 rw[yl4];refine List.filter_eq_self.mpr fun r hr=>UF (h _ ?_);exact jl.mpr ⟨r,Ah7,Amb,Β⟩
theorem ypt{Ξ:BU}{m:Υ}{h:Μ}(hm:AgA):BJ ADx h=AoW:=by
 unfold BJ ofM;rw[AcG];refine BFX (CA r _);by_cases q:DL=h
 ·simp [q,hm]
 ·simp [q]
theorem ypc{Ξ:BU}{m:Υ}{x:EZ}(cl:A0h){h:Μ}(hm:AgA)(e:wM ADx x h):AFl:=by
 unfold wM at e⊢;rw[ypt hm] at e;rw[<- e];refine AKa;have hr' :=AGV hr;rw[yjl (cl r hr'.1 (EQ hr'.2 hm))]
theorem ye9{Ξ:BU}{x y:EZ}{h:Μ}(e:∀r∈AoW,∀s∈AVD gA,x r8=y r8)(q:AFl):wM Ξ y h:=by
 unfold wM at q⊢;rw[<- q];refine AKa;have hr' :=AGV hr;have e1:=e r hr r (AcF (AUZ hr'.1));rw[e1];have e2:GM (gA Ξ Cl) s (AfU (y r8)) (aC (gA Ξ Cl) fun s=>(AfU (x r8))):=mX fun s hs=>(MA (e r hr s hs))
 rw[e2]
theorem LB.M{Ξ:BU}(L:tI)(m:Υ):A_N LB:=by
 refine⟨zO AYn L.few,c_ (L.mm r (mC.mp hr).1),HH ?_⟩;rw[yl4];exact zO AYn (L.wk w)
theorem yg2(BfM):ps=jI (HH BnQ):=by
 show nX
 ·rw[C4];exact B.len.symm
 ·show AFw;have hw:i<Ll:=CL xE h1
  rw[AT1];exact B.ex u i iP Na (zZ hw) (zZ h1)
theorem ykh(p:Υ×AU):toD (Gn p)= .dic A5R p.2:=by
 unfold Gn toD;rw[Uj]
structure Gm (Ξ:BU) (m:Υ) (x:EZ):Ι where
 ev:wE AFl
 em:Aot
 sz:BDp
theorem BGK{Ξ:BU}{m:Υ}{x y:EZ}(cl:A0h)(g:Gm Ξ m x)(e:wE (x h=y h)):Gm Ξ m y:=by
 refine⟨AFx (ye9 (fun r hr s hs=>e _ ?_) (g.ev h hh)),?_,by show AKl g.sz;exact⟨d,d0,bd,AFx (NN (e h hh) (hd h hh))⟩⟩
 ·have hr' :=AGV hr;have hs' :=ASb hs;exact cl r hr'.1 (EQ hr'.2 hh) _ (jl.mpr ⟨s,hs'.1,hs'.2,Β⟩)
 ·have:=g.em;unfold Qo at Ρ⊢;show u_;exact mX (c_ (e _ A8n).jp)
theorem z5n{hs:Υ}{x y:EZ}(e:AYk (x h=y h)):jg hs x=jg hs y:=by
 unfold jg;rw[ABr (g:=AJr y) (AFx (MA (e h hh)))]
theorem z1y{hs:Υ}{h:Μ}{x:EZ}(n:h∉hs):T.dic (kY AJy ϲ) (AD_ (gU AJy (AZY ef x) ϲ (qD (x h))))=jg (hs++ [h]) x:=by
 rw[zxx];unfold uH gU jg;rw[CO n,Uh,ğ n,dQ];simp
theorem zk0{α:CB}{l:CU}{i:Δ}(h:AhS):Aex DU=Aex i++ [l[i]]:=BmJ vb
theorem Ep.hand(ApL)(G:AJM){m:Υ}(hm:m∈ms){x:Μ}(hx:x∈m):uv (DL=x):=by
 show AnJ;obtain⟨S,hS,hs⟩:=(p.co x).mp ⟨m,hm,hx⟩;show An6;obtain⟨r',hr',_,e2⟩:=Aak x hs;exact⟨r',hr',e2⟩
theorem z4j(B7 zez):AZ' zp0 6:=by
 obtain⟨Ξ,U,Β,u,L,hU,hr,h⟩:=h;have s1:=wR;have few:=L.few;intro as;refine(?_:zl3 K c (Eu Q) [ADL,ADJ (.dic [] []),EI,EI,EI,EI] fN);refine⟨Ξ,U,Β,Τ,Τ,hr,CA ms G⟩
 simp only [ylp];show AnJ;have nd:ms.flatten.Nodup:=zmu p.dj (AaN (Ui (G.sr f hf)));refine i5 (∃(as:B5) (x:EZ) (y2 y3 y4 y5:GG),(∀m∈ALE i,Gm Ξ m x)/\Γ= An4 y2 y3) ⟨as,ź,_,_,_,_,Ags (AMg hm),Β⟩
 ·rintro i d _ hi ⟨as,x,y2,y3,y4,y5,hg,Β⟩;have hi' :i<BI5:=Ϛ ÿ
  show AgW;cases (hi);have hm:APg∈ms:=yU hi';have apart:∀h∈APg,h∉ AMz:=fun h hh z=>by
   have:=nd;show Ayo (AXs ms) AS2 Ρ;refine Ρ.2.2 h z h ?_ Β;refine AsU ⟨APg,?_,hh⟩;show A6S;exact zY
  have cl:=(G.sys u hm).1;have tk:ALE DU=ALE i++ [APg]:=zk0 hi';have fl:BUt=AMz++APg:=by rw[tk,AS2];simp
  generalize em:APg=m at*;have CC:∀z∈m,z∈U:=Bhs
  have ndm:m.Nodup:=Ui (G.sr m hm);have m12:BLp:=zO (Qj ndm CC) hU;show BV (zja K c _ (An4 AZu y3) _);show BD (?_:eF _ (AdQ uG) _) (zgt uG uG (cK Ay9) (AJ4 r hr) ?_)
  ·show To ⟨Aw2,Alr,Β,ya5 m,?_⟩ (ID (B3 AC _ (inD (.AO DL) (ZO .AO))) _ _);rw[z0w];show A9e AH7 AP7 AJu
  refine⟨AoX,Β,zO AYn Η,At ws ps B⟩
  have ep:=yg2 B (u.M m);have ex:BUv=jI (Qq (ofM Ξ m)):=by
   rw[zoi,ep,Q3];exact ABr fun w _=>ykh _
  refine⟨AZb,BUv,by simp only [toD];rfl,?_⟩
  rw[ex];have W:Cr (ofM Ξ m) ws:=⟨zO B.lw (L.M m).few,fun w hw z=>by
   obtain⟨r,h1,h2⟩:=(ĥ w).mp hw;have:=AcF A6P;show Da z;cases (Ρ)⟩
  show ø (zg3 K c _ (An4 AZu BAW) _) ⟨AoX,ws,m,Β,(G.sys u hm).2 ws B.nd ĥ,L.M m,W,p.ne m hm,m12,MX xm ev sm sz⟩
  let x' :EZ:=A1 (if z∈m then xm z else x z)
  have ex1:∀z∈m,x' z=xm z:=AEP (C9 hz);show EW ex0 (∀z∈ AMz,x' z=x z) (AEP (CO (Tb (apart z q hz)))) gm (Gm Ξ m x') (BGK cl ⟨AEP (ypc cl hz (ev z hz)),sm,sz⟩ (AEP (ex1 z hz).jp)) gms (∀f∈ALE (D'),Gm Ξ f x') (AaN (by
   rw[tk] at hf;rcases Ix hf with hf | hf
   ·exact BGK (G.sys u (ASr hf)).1 (hg f hf) (AEP (ex0 z (AsU (AO6 hz))).jp)
   ·show ik hf;exact gm)) ez (nC (ZO Ty) (ZO (AJr xm))=ZO (GI (.DZ [AhX,qD (x' h)]))) (by
   unfold nC;show nX
   ·simp
   ·intro j h1 h2;simp only [List.getElem_zipWith,AT1];rw[ex1 _ (Bon _)])
  show BV (vY (nC (ZO Ty) (AZY ZO xm)) (AZT 4 5) (zjg K c) _ _ (An4 AZu BAW));rw[ez];have fll:(ALE i).BGH+HZ<=1000:=by
   have h1:(BUt).Sc:=by
    show Ayo (Aeb DU ms) AS2 nd;exact nd.1
   have:=Qj h1 (U:=U) (AEP (by
    show AjL f hf hzf hz;obtain⟨r,g1,g2⟩:=G.hand (ASr hf) hzf;rw[<- g2];exact hr r g1))
   show t_ fl N1;show Ω
  refine⟨fun j Γ=>∃(as:B5) (y4 y5:GG),Γ= [ADL,ADJ (jg AiA x'),AZu,BAW,y4,y5],⟨as,y4,y5,?_⟩,?_,?_⟩
  ·rw[List.take_zero,UE,z5n fun z hz=>ex0 z hz]
  ·rintro j d _ hj ⟨as,z4,z5,Β⟩;have hj' :j<HZ:=Ϛ (Pl hj)
   show Afc (ku hj') hj;cases (hj);have nn:m[j]∉ AMz++AcD j:=A1 (by
    show ARF (Ix z)
    ·exact apart _ (yU hj') z
    ·show AZX ndm;show Ϣ q hq (ATm z);rw[pe] at hq;rw[Bq4] at e;exact Ap q j Η hj' Η e)
   refine⟨Β,Β,ij as _,.B0 m[j],as,_,(AiA).EL (AJr x'),Β,Β,?_,?_⟩
   ·show AIS N1 pe;show Ω
   ·refine⟨as,c0 m[j],.pu BUy,?_⟩;show uS [AsK (eG Ξ),AL8 as (T.dic (kY BMo (E6 m[j])) (AD_ (gU BMo (AZY (AiA).EL x') (E6 m[j]) BUy))),_,_,_,_];rw[z1y nn,x5,<- zk0 hj']
  ·rintro _ ⟨as,z4,z5,Β⟩;rw[C4,ķ,<- fl];exact⟨as,x',_,_,_,_,gms,Β⟩
 ·rintro _ ⟨as,x,y2,y3,y4,y5,hg,Β⟩;show BP_ hg;exact h ms x ⟨G,BBj ev,BBj em,BBj sz⟩
theorem Hu{n:Δ}(AKO):nA n ϫ (Ev j):=by show Av8
theorem zx8(B7 zde):Sn zgp 5:=by
 obtain⟨a,b,d,e,n,Β,he,h⟩:=h;unfold zgp;dsimp only [aF,bh,cC,cV,cB,cT,jw,uT,gq,eU,jU,fZ,sG,ak,aj,dU,eO,dN,fG,aV,gK,cM,aW,cP,Lc,fH,bw,fJ,jV,jW,aq,cU,iC,gC,cN,fQ,cR,dG,bW,jC,tZ,sO,qW,yg,vq,jD,nq,sU,dw,wI,sJ,uc,lR,yh,yj,cZ,lV,gM,jx,lW,LA,MI,ML,My,LH,fK,kj,rQ,vA,qp,pC,ql,lX,eZ,dF,jE,qJ,qY,vB,iQ,rR,cD,dW,ug,yw,uf,lY,lZ,iL,eE,gH,kE,dM,Lo,M0,JJ,LY];refine Ajf;split
 ·exact AJT (h _)
 ·unfold zic;dsimp only [aF,bh,cC,cV,cB,cT,jw,uT,gq,eU,jU,fZ,sG,ak,aj,dU,eO,dN,fG,aV,gK,cM,aW,cP,Lc,fH,bw,fJ,jV,jW,aq,cU,iC,gC,cN,fQ,cR,dG,bW,jC,tZ,sO,qW,yg,vq,jD,nq,sU,dw,wI,sJ,uc,lR,yh,yj,cZ,lV,gM,jx,lW,LA,MI,ML,My,LH,fK,kj,rQ,vA,qp,pC,ql,lX,eZ,dF,jE,qJ,qY,vB,iQ,rR,cD,dW,ug,yw,uf,lY,lZ,iL,eE,gH,kE,dM,Lo,M0,JJ,LY];refine Ajf;split
  ·refine AYJ he;cases mO (Ev d) (Ev (b.fmod e)) with
   | Κ=>exact h Κ
   | AC=>exact⟨he,AMv,h _⟩
  ·unfold zhe;dsimp only [aF,bh,cC,cV,cB,cT,jw,uT,gq,eU,jU,fZ,sG,ak,aj,dU,eO,dN,fG,aV,gK,cM,aW,cP,Lc,fH,bw,fJ,jV,jW,aq,cU,iC,gC,cN,fQ,cR,dG,bW,jC,tZ,sO,qW,yg,vq,jD,nq,sU,dw,wI,sJ,uc,lR,yh,yj,cZ,lV,gM,jx,lW,LA,MI,ML,My,LH,fK,kj,rQ,vA,qp,pC,ql,lX,eZ,dF,jE,qJ,qY,vB,iQ,rR,cD,dW,ug,yw,uf,lY,lZ,iL,eE,gH,kE,dM,Lo,M0,JJ,LY];refine Ajf;split
   ·refine⟨B4,B4,AMv,?_⟩
    cases mO (Ev (b.fmod 2)) (Ev (d.fmod 2)) with
    | Κ=>exact⟨B4,h _⟩
    | AC=>exact h AC
   ·exact h Κ
theorem QB:A7b= BlT:=AK
theorem Ul:De As_ Ar2=26:=by
 show BmZ cps.size=26;rw[<- kB,QB];rfl
def KC(b:AN):Ψ:=XA b 1
theorem QC{i:Ψ}{k:Δ}(h:AYo k)(hk:TK k:=by decide):AkP:=zO (mj h) hk
theorem yjj(BdE):Sl (dr uG) (DJ Fu) Θ=Cb rs.drop k uG:=by
 show AGA;show Boa;rw[vi,kQ,BJX,<- AdL,<- AsB,BHz (ş AGu)]
theorem yh3(BdE):Sl (dr uG) Θ (Ε Fu)=Cb rs.take k uG:=by
 show AGA;show Boa;rw[vi,kQ,BJX,AsD,BpR,<- AsB]
theorem yhb{α:CB}{f:AJ0}{xs:CU}{k:Δ}(h:k<B1):ϝ eC f Fu (f xs[k]):=Du (A2f vb)
theorem aah{k:Δ}(h:k<26):n6 A7b Fu=Ε (97+k):=by
 refine Du ?_;rw[QB];have:∀k:Fin 26,HR BlT k.1 (97+k.1):=B4
 exact Ρ ⟨k,h⟩
theorem aai{i:Ψ}(h:0<=i/\i<26):AIb A7b (97+ALk):=by
 have e:i=EU ALk:=Τ
 have:=aah (k:=ALk) Η
 rw[<- e] at Ρ;exact Ρ
def txt(A9m):Μ:=⟨AH1 L8 f⟩
theorem ye4(A9m):txt n f++ (sN (f n):Μ)=txt UV f:=by
 show(⟨AH1 L8 f++ #[f n]⟩:Μ)=⟨AH1 AIj f⟩
 congr 1
 show APM ASq;simp
theorem yia{n m:Δ}{f g:z0}(h:txt n f=txt m g):n=m/\X0 n (f j=g j):=by
 have e:L8 f=MS m g:=by
  have:=T_ (fun s:Μ=>s.cps.toList) h
  simpa [txt] using Ρ
 have l:n=m:=CY (ϵ LA)
 subst l;refine IC ARw;have:=ϵ (Bn l l[j]?)
 simpa [hj] using Ρ
theorem z8l(A9m):RO txt n f=n:=by
 show(L8 f).Bp'=n;simp
theorem z89{α:CB}{g:MR α}{m:Δ}(h:BTL (g i=g j)):mr (MS m) g:=by
 refine z3n (R:=fun a b=>a≠b) Brh (A'z (n (h a b (UI ha) (UI hb) e)))
theorem zzk(B7 V5):Sn zhx 10:=by
 show EX n m hm h h;have ABc:qa 1000:=B4
 let L:Μ:=Ŝ Ar2
 have main:∀sz:Δ,1<=sz/\sz<=8/\ (A_e ->sz=1) ->AB_ zfi [AjY,AX_,AY7,AX',EI,EI,EI,EI,EI,EI]:=by
  intro sz hsz;unfold zfi;dsimp only [aF,bh,cC,cV,cB,cT,jw,uT,gq,eU,jU,fZ,sG,ak,aj,dU,eO,dN,fG,aV,gK,cM,aW,cP,Lc,fH,bw,fJ,jV,jW,aq,cU,iC,gC,cN,fQ,cR,dG,bW,jC,tZ,sO,qW,yg,vq,jD,nq,sU,dw,wI,sJ,uc,lR,yh,yj,cZ,lV,gM,jx,lW,LA,MI,ML,My,LH,fK,kj,rQ,vA,qp,pC,ql,lX,eZ,dF,jE,qJ,qY,vB,iQ,rR,cD,dW,ug,yw,uf,lY,lZ,iL,eE,gH,kE,dM,Lo,M0,JJ,LY];refine DM (AJT (AFt 5 Χ)) Τ
  show Cc at_ ea hat (Nx (i:=AsX 24) (n:=sz)) Η
  rw[ea]
  let EF:AN:=Φ A_e
  let num:ü:=F8 ((AsX 24*48271+ YR* YR*69621+ YR*7).KF 2147483647)
  let f:AUC Δ:=fun k j=>97+ AyB BO0
  let ln:z0:=iA AnG
  have Vw:∀k,k<20 ->ln k<=28:=fun k hk=>by
   show Ct (AnG<=28);show Ù
  let nm:MR Μ:=iA (txt (ln k) (f k))
  have inj:BTL (nm i=nm j):=fun i j hi hj e=>by
   show C5 e1 e2 yia e;have e1' :sz+i* (B3 AVU 1 0)=sz+j* (B3 AVU 1 0):=e1;by_cases o:AVU
   ·rw[C9 o] at e1';show Ω
   ·have e3:=e2 at_ (Aw6 (at_<sz+_))
    have e3' :BWq (L5*AiJ AVB)=BWq (YR*AiJ AVB):=e3;rw[AkX] at e3';have ob:MO EF:=CY o
    rw[ob] at e3';have l1:=Bbt L5 Χ
    have l2:=Bbt YR Χ
    have b1:KC (Κ&& ! AC)=1:=Β;rw[b1,Asm] at l1 l2;rw[b1,Asm,Asm] at e3';rw[A3R] at e3' l1 l2
    rw[A3R] at e3'
    show ŕ
  show BD (CI LU) (AZh (fun k Γ=>∃(x1 x2 x3 x4:GG),Γ= [AjY,AX_,AY7,AX',AjZ,Apt,x1,x2,x3,x4]) BbC)
  ·rintro k _ hk ⟨x1,x2,x3,x4,Β⟩;have abZ:k<20:=Τ
   rw[AsY];refine AYJ (by show fq 3;decide)
   dsimp only [aF,bh,cC,cV,cB,cT,jw,uT,gq,eU,jU,fZ,sG,ak,aj,dU,eO,dN,fG,aV,gK,cM,aW,cP,Lc,fH,bw,fJ,jV,jW,aq,cU,iC,gC,cN,fQ,cR,dG,bW,jC,tZ,sO,qW,yg,vq,jD,nq,sU,dw,wI,sJ,uc,lR,yh,yj,cZ,lV,gM,jx,lW,LA,MI,ML,My,LH,fK,kj,rQ,vA,qp,pC,ql,lX,eZ,dF,jE,qJ,qY,vB,iQ,rR,cD,dW,ug,yw,uf,lY,lZ,iL,eE,gH,kE,dM,Lo,M0,JJ,LY];rw[Qx];have hb:(B3 (O0 (A_e)=Κ) iE 0)=EU BY2:=by
    show(B3 AVU iE 0)=_;split<;>rfl
   rw[hb];refine CI (Aa7 (ACn 5) Η)
   have hr:B' sz+ Fu* EU BY2=EU (ln k):=G0 AdX AdI
   rw[hr];have acp:=Vw k abZ;refine AZh (fun j Γ=>∃x3 x4,Γ= [AjY,AX_,AY7,AX',AjZ,Apt,AX9,c0 (txt j (f k)),x3,x4]) AYf
   ·rintro j _ hj ⟨y3,y4,Β⟩;have acq:j<28:=Τ
    rw[AsY];have bj:dh YR<=64:=AFt 5 Η
    unfold zhq;dsimp only [aF,bh,cC,cV,cB,cT,jw,uT,gq,eU,jU,fZ,sG,ak,aj,dU,eO,dN,fG,aV,gK,cM,aW,cP,Lc,fH,bw,fJ,jV,jW,aq,cU,iC,gC,cN,fQ,cR,dG,bW,jC,tZ,sO,qW,yg,vq,jD,nq,sU,dw,wI,sJ,uc,lR,yh,yj,cZ,lV,gM,jx,lW,LA,MI,ML,My,LH,fK,kj,rQ,vA,qp,pC,ql,lX,eZ,dF,jE,qJ,qY,vB,iQ,rR,cD,dW,ug,yw,uf,lY,lZ,iL,eE,gH,kE,dM,Lo,M0,JJ,LY];refine⟨AJT (AFt 5 Χ),ARd,.DV bj,ARd,.DV bj,B4,?_⟩
    unfold zfu;dsimp only [aF,bh,cC,cV,cB,cT,jw,uT,gq,eU,jU,fZ,sG,ak,aj,dU,eO,dN,fG,aV,gK,cM,aW,cP,Lc,fH,bw,fJ,jV,jW,aq,cU,iC,gC,cN,fQ,cR,dG,bW,jC,tZ,sO,qW,yg,vq,jD,nq,sU,dw,wI,sJ,uc,lR,yh,yj,cZ,lV,gM,jx,lW,LA,MI,ML,My,LH,fK,kj,rQ,vA,qp,pC,ql,lX,eZ,dF,jE,qJ,qY,vB,iQ,rR,cD,dW,ug,yw,uf,lY,lZ,iL,eE,gH,kE,dM,Lo,M0,JJ,LY];refine Ajf;have ABT:∀t:AN,t=(Φ (YR=AVB)&& ! EF) ->DX Fu (KC t)/\ fq 26/\∃ch:Δ,D6 ATb/\n6 L.cps.toList ((num j+ Fu*KC t).KF 26)=Ε ch/\ D6 (RO txt j (f k)+ Su (sN ch:Μ))/\∃z3 z4,[AsK (Ev n),AX_,AY7,AX',AjZ,Apt,AX9,c0 (txt j (f k)++ (sN ch:Μ)),EG j,BQl]= [AjY,AX_,AY7,AX',AjZ,Apt,AX9,c0 (txt APX (f k)),z3,z4]:=fun t et=>by
     have hch:=aai (BNI (KC t) Χ)
     refine⟨Aa7 (ACn 5) Η,B4,_,by show ck (ATb=26) Ul;show Ω,hch,by rw[z8l];show Ct (D6 (j+1));show Ω,EG j,BQl,?_⟩
     subst et;rw[ϣ ((97+ AyB BO0)=f k j),ye4]
    rw[Qx];by_cases q:YR=AVB
    ·show õ q;rw[AP7] at ABT;refine AYJ B4
     rw[Qx];exact ABT _ Β
    ·show ô q;show Ps AJu ABT (ABT AC Β)
   ·rintro _ ⟨y3,y4,Β⟩;rw[kQ];refine⟨E4,BJr,AX9,c0 (txt (ln k) (f k)),y3,y4,?_⟩
    rw[ASq,PM,PM]
    rfl
  ·rintro _ ⟨x1,x2,x3,x4,Β⟩;rw[kQ];refine h _ A0 (z89 inj) AnX
   show di k hk hx;have hk:=UI hk;have l8:1<=ln k/\ln k<=8:=by
    show Ct (1<=AnG/\AnG<=8);split
    ·rename_i o;have:=hsz.2.2 (pj o);show Ω
    ·show qB
   unfold T8;rw[show De nm k=ln k from z8l _ _,UF l8.1,UF l8.2,Aep,Aep,Atg];intro ch hch;show AEb j (Aio aS (ch∈ MS (ln k) (f k)) hch);have l:=BNI (AiJ YR) Χ
   show U_ (Φ (97<=97+_)) (Φ (97+_<=122));rw[BJ_,BJ_];rfl
 unfold zhx;dsimp only [aF,bh,cC,cV,cB,cT,jw,uT,gq,eU,jU,fZ,sG,ak,aj,dU,eO,dN,fG,aV,gK,cM,aW,cP,Lc,fH,bw,fJ,jV,jW,aq,cU,iC,gC,cN,fQ,cR,dG,bW,jC,tZ,sO,qW,yg,vq,jD,nq,sU,dw,wI,sJ,uc,lR,yh,yj,cZ,lV,gM,jx,lW,LA,MI,ML,My,LH,fK,kj,rQ,vA,qp,pC,ql,lX,eZ,dF,jE,qJ,qY,vB,iQ,rR,cD,dW,ug,yw,uf,lY,lZ,iL,eE,gH,kE,dM,Lo,M0,JJ,LY];unfold zjc;dsimp only [aF,bh,cC,cV,cB,cT,jw,uT,gq,eU,jU,fZ,sG,ak,aj,dU,eO,dN,fG,aV,gK,cM,aW,cP,Lc,fH,bw,fJ,jV,jW,aq,cU,iC,gC,cN,fQ,cR,dG,bW,jC,tZ,sO,qW,yg,vq,jD,nq,sU,dw,wI,sJ,uc,lR,yh,yj,cZ,lV,gM,jx,lW,LA,MI,ML,My,LH,fK,kj,rQ,vA,qp,pC,ql,lX,eZ,dF,jE,qJ,qY,vB,iQ,rR,cD,dW,ug,yw,uf,lY,lZ,iL,eE,gH,kE,dM,Lo,M0,JJ,LY];refine DM (AJT (AFt 2 Χ)) B4
 show ARJ t8 e8 h8 (AsX 3) 8
 rw[show(AsX 3).KF 8=B' t8 from e8];unfold zje;dsimp only [aF,bh,cC,cV,cB,cT,jw,uT,gq,eU,jU,fZ,sG,ak,aj,dU,eO,dN,fG,aV,gK,cM,aW,cP,Lc,fH,bw,fJ,jV,jW,aq,cU,iC,gC,cN,fQ,cR,dG,bW,jC,tZ,sO,qW,yg,vq,jD,nq,sU,dw,wI,sJ,uc,lR,yh,yj,cZ,lV,gM,jx,lW,LA,MI,ML,My,LH,fK,kj,rQ,vA,qp,pC,ql,lX,eZ,dF,jE,qJ,qY,vB,iQ,rR,cD,dW,ug,yw,uf,lY,lZ,iL,eE,gH,kE,dM,Lo,M0,JJ,LY];refine AYJ B4
 rw[Qx];split
 ·exact main 1 ⟨Τ,Τ,APc⟩
 ·show LP;have:=main (1+t8) ⟨Τ,Τ,SG (vc UF e q)⟩
  show Da AdX;exact Ρ
theorem ztr{a b:BU}(p:AXp)(u:Uq b):Uq a:=(List.Perm.pairwise_iff (R:=fun(a b:Rw)=>Bhn) (fun h z=>h ⟨A6I,(z.2).jp⟩) p).mpr u
theorem z5g(B7 zel):Sn zgv 12:=by
 obtain⟨ns,WC,AG0,Β,hl,h1,h5,h8,h⟩:=h;have ABc:qa 1000:=B4
 let S:D:= AX8
 have main:∀(way ABO:Ψ),0<ABO ->ABO<=10^12 ->AB_ zgd [ANa,Avd,Ave,EG way,EG ABO,EI,EI,EI,EI,EI,EI,EI]:=by
  intro way ABO hm0 hm1;have aaj:ABO≠0:=Τ
  unfold zgd;dsimp only [aF,bh,cC,cV,cB,cT,jw,uT,gq,eU,jU,fZ,sG,ak,aj,dU,eO,dN,fG,aV,gK,cM,aW,cP,Lc,fH,bw,fJ,jV,jW,aq,cU,iC,gC,cN,fQ,cR,dG,bW,jC,tZ,sO,qW,yg,vq,jD,nq,sU,dw,wI,sJ,uc,lR,yh,yj,cZ,lV,gM,jx,lW,LA,MI,ML,My,LH,fK,kj,rQ,vA,qp,pC,ql,lX,eZ,dF,jE,qJ,qY,vB,iQ,rR,cD,dW,ug,yw,uf,lY,lZ,iL,eE,gH,kE,dM,Lo,M0,JJ,LY];refine⟨ns,4,Β,hl,Τ,_,AG0,Β,Τ,MX nms hnm nnd nmo⟩
  unfold zld;dsimp only [aF,bh,cC,cV,cB,cT,jw,uT,gq,eU,jU,fZ,sG,ak,aj,dU,eO,dN,fG,aV,gK,cM,aW,cP,Lc,fH,bw,fJ,jV,jW,aq,cU,iC,gC,cN,fQ,cR,dG,bW,jC,tZ,sO,qW,yg,vq,jD,nq,sU,dw,wI,sJ,uc,lR,yh,yj,cZ,lV,gM,jx,lW,LA,MI,ML,My,LH,fK,kj,rQ,vA,qp,pC,ql,lX,eZ,dF,jE,qJ,qY,vB,iQ,rR,cD,dW,ug,yw,uf,lY,lZ,iL,eE,gH,kE,dM,Lo,M0,JJ,LY];refine⟨ns,5,Β,hl,Τ,_,WC,Β,Τ,MX Nz hpp pnd pmo⟩
  unfold zks;dsimp only [aF,bh,cC,cV,cB,cT,jw,uT,gq,eU,jU,fZ,sG,ak,aj,dU,eO,dN,fG,aV,gK,cM,aW,cP,Lc,fH,bw,fJ,jV,jW,aq,cU,iC,gC,cN,fQ,cR,dG,bW,jC,tZ,sO,qW,yg,vq,jD,nq,sU,dw,wI,sJ,uc,lR,yh,yj,cZ,lV,gM,jx,lW,LA,MI,ML,My,LH,fK,kj,rQ,vA,qp,pC,ql,lX,eZ,dF,jE,qJ,qY,vB,iQ,rR,cD,dW,ug,yw,uf,lY,lZ,iL,eE,gH,kE,dM,Lo,M0,JJ,LY];refine CI LU;unfold zkl;refine AZh (fun w Γ=>∃(Ξ:BU) (x8 x9 x10:GG),du<=w*WC/\ BLn/\ (IZ/\ (Ϟ (Nu r))/\S4 (∃v,v<w/\BYO))/\Γ= Aq5 x8 x9) ⟨[],_,_,_,C_,A9R,⟨ATa,A9R,A9R⟩,Β⟩
  ·rintro w _ hw ⟨Ξ,x8,x9,x10,hrl,Mp,⟨uq,mk,wv⟩,Β⟩;have hw8:w<AG0:=Τ
   have Qz:w*WC<=8*5:=AcE Η h5
   change zfg K c _ (Aq5 (EG (0+ Aik)) x9) _
   rw[AsY];unfold zfg;refine AZh (fun q Γ=>∃(Ξ:BU) (x9 x10:GG),du<=w*WC+q/\ BLn/\ (IZ/\ (Ϟ (Nu r))/\S4 (∃v,BYO/\ (v<w\/v=w/\∃o,o<q/\HR Nz o DL)))/\Γ= Aq5 (EG Aik) x9) (Bb3 hrl (by show Aq0;exact⟨v,h2,.DV h1⟩))
   ·rintro q _ hq ⟨Ξ,x9,x10,hrl,Mp,⟨uq,mk,wv⟩,Β⟩;have Io:q<WC:=Τ
    change zfk K c _ (Aq5 (EG Aik) (EG (0+ B' q))) _
    rw[AsY];unfold zfk;dsimp only [aF,bh,cC,cV,cB,cT,jw,uT,gq,eU,jU,fZ,sG,ak,aj,dU,eO,dN,fG,aV,gK,cM,aW,cP,Lc,fH,bw,fJ,jV,jW,aq,cU,iC,gC,cN,fQ,cR,dG,bW,jC,tZ,sO,qW,yg,vq,jD,nq,sU,dw,wI,sJ,uc,lR,yh,yj,cZ,lV,gM,jx,lW,LA,MI,ML,My,LH,fK,kj,rQ,vA,qp,pC,ql,lX,eZ,dF,jE,qJ,qY,vB,iQ,rR,cD,dW,ug,yw,uf,lY,lZ,iL,eE,gH,kE,dM,Lo,M0,JJ,LY];refine⟨Aa7 (ACn 4) Η,ns,6+w*WC+q,?_,hl,Τ,?_⟩
    ·rw[AdX,AdX,AdI];rfl
    generalize bJ ns (6+w*WC+q)=cv;unfold zg4;dsimp only [aF,bh,cC,cV,cB,cT,jw,uT,gq,eU,jU,fZ,sG,ak,aj,dU,eO,dN,fG,aV,gK,cM,aW,cP,Lc,fH,bw,fJ,jV,jW,aq,cU,iC,gC,cN,fQ,cR,dG,bW,jC,tZ,sO,qW,yg,vq,jD,nq,sU,dw,wI,sJ,uc,lR,yh,yj,cZ,lV,gM,jx,lW,LA,MI,ML,My,LH,fK,kj,rQ,vA,qp,pC,ql,lX,eZ,dF,jE,qJ,qY,vB,iQ,rR,cD,dW,ug,yw,uf,lY,lZ,iL,eE,gH,kE,dM,Lo,M0,JJ,LY];refine⟨way,Aik,B' q,B' WC,cv,Β,Τ,LV t⟩
    cases t with
    | AC=>exact Bb3 Τ (by show Aq0;exact⟨v,h1,BfD⟩)
    | Κ=>
     show BD ⟨E4,_,yhb Η,_,yhb Η,AJT (QC (k:=4) Χ),aaj,?_⟩ ⟨Alu,APi,Ξ++ [(nms[w],Nz[q],(cv.fdiv 12).KF ABO)],_,_,AjM N1 ATP,AZs,⟨?_,AZs,AZs⟩,BKc⟩
     ·rcases Ix hr with hr | hr
      ·exact Mp r hr
      ·show ik hr;exact yU _
     ·refine List.pairwise_append.mpr ⟨uq,BsZ _ _,IE a ha b hb z⟩;rw[Aw8] at z;show DE v h1 h2 wv a ha;rw[z.1] at h1;show C5 hv ev xI h1;have evw:v=w:=z2t nnd hv Η ev
      rcases h2 with h2 | ⟨_,o,ho,h3⟩
      ·show qB
      ·rw[z.2] at h3;show C5 hv' ev' xI h3;have:=z2t pnd hv' Η ev'
       show Ω
     ·rcases Ix hr with hr | hr
      ·exact mk r hr
      ·show ik hr;have l:=hV (cv.fdiv 12) ABO hm0;exact⟨nmo _ (yU _),pmo _ (yU _),l.1,BsY (BI' l.2) hm1⟩
     ·rcases Ix hr with hr | hr
      ·show Aq0;exact⟨v,h1,BfD⟩
      ·show ik hr;exact⟨w,zZ _,.B0 ⟨Β,q,Τ,zZ _⟩⟩
   ·rintro _ ⟨Ξ,x9,x10,hrl,Mp,⟨uq,mk,wv⟩,Β⟩;refine⟨Ξ,_,_,_,?_,Mp,⟨uq,mk,AZs⟩,Β⟩
    ·rw[Nat.succ_mul];show Ω
    ·show Aq0;exact⟨v,by rcases h2 with h2 | h2<;>(show qA),h1⟩
  ·rintro _ ⟨Ξ,x8,x9,x10,hrl,Mp,⟨uq,mk,wv⟩,Β⟩;have Qz:AG0*WC<=8*5:=AcE h8 h5;have acr:du<=40:=zO hrl (Co Qz)
   dsimp only;unfold zlb;dsimp only [aF,bh,cC,cV,cB,cT,jw,uT,gq,eU,jU,fZ,sG,ak,aj,dU,eO,dN,fG,aV,gK,cM,aW,cP,Lc,fH,bw,fJ,jV,jW,aq,cU,iC,gC,cN,fQ,cR,dG,bW,jC,tZ,sO,qW,yg,vq,jD,nq,sU,dw,wI,sJ,uc,lR,yh,yj,cZ,lV,gM,jx,lW,LA,MI,ML,My,LH,fK,kj,rQ,vA,qp,pC,ql,lX,eZ,dF,jE,qJ,qY,vB,iQ,rR,cD,dW,ug,yw,uf,lY,lZ,iL,eE,gH,kE,dM,Lo,M0,JJ,LY];refine⟨ns,3,Β,hl,Τ,AJT (QC (k:=3) Χ),Sj,?_,?_⟩
   ·show NR;show Ω
   show TL t et ht (Nx (i:=(bJ ns 3).oz 4) (n:=BJS) (BFy _));rw[show ACX AdQ uG+1=EU BJS by show NR;rfl,et]
   unfold zkc;dsimp only [aF,bh,cC,cV,cB,cT,jw,uT,gq,eU,jU,fZ,sG,ak,aj,dU,eO,dN,fG,aV,gK,cM,aW,cP,Lc,fH,bw,fJ,jV,jW,aq,cU,iC,gC,cN,fQ,cR,dG,bW,jC,tZ,sO,qW,yg,vq,jD,nq,sU,dw,wI,sJ,uc,lR,yh,yj,cZ,lV,gM,jx,lW,LA,MI,ML,My,LH,fK,kj,rQ,vA,qp,pC,ql,lX,eZ,dF,jE,qJ,qY,vB,iQ,rR,cD,dW,ug,yw,uf,lY,lZ,iL,eE,gH,kE,dM,Lo,M0,JJ,LY];rw[yjj Ξ Η,yh3 Ξ Η]
   refine CI (by show APR C4 AGu pe;show Ω)
   rw[<- PM];have pm:(A1Z++A1Y).Lm Ξ:=ACk (Bpa (l₁:=A1Z) (l₂:=A1Y)) Aeb
   refine h (A1Z++A1Y) Nz (by rw[N1,AGu,pe];show Ω) Η (qr hr (A4G Mp hr)) (ztr pm uq) (c_ (A4G mk hr))
 change AB_ zgv [ANa,Avd,Ave,EI,EI,EI,EI,EI,EI,EI,EI,EI]
 unfold zgv;dsimp only [aF,bh,cC,cV,cB,cT,jw,uT,gq,eU,jU,fZ,sG,ak,aj,dU,eO,dN,fG,aV,gK,cM,aW,cP,Lc,fH,bw,fJ,jV,jW,aq,cU,iC,gC,cN,fQ,cR,dG,bW,jC,tZ,sO,qW,yg,vq,jD,nq,sU,dw,wI,sJ,uc,lR,yh,yj,cZ,lV,gM,jx,lW,LA,MI,ML,My,LH,fK,kj,rQ,vA,qp,pC,ql,lX,eZ,dF,jE,qJ,qY,vB,iQ,rR,cD,dW,ug,yw,uf,lY,lZ,iL,eE,gH,kE,dM,Lo,M0,JJ,LY];refine⟨ns,2,Β,hl,Τ,B4,?_⟩
 unfold zl1;dsimp only [aF,bh,cC,cV,cB,cT,jw,uT,gq,eU,jU,fZ,sG,ak,aj,dU,eO,dN,fG,aV,gK,cM,aW,cP,Lc,fH,bw,fJ,jV,jW,aq,cU,iC,gC,cN,fQ,cR,dG,bW,jC,tZ,sO,qW,yg,vq,jD,nq,sU,dw,wI,sJ,uc,lR,yh,yj,cZ,lV,gM,jx,lW,LA,MI,ML,My,LH,fK,kj,rQ,vA,qp,pC,ql,lX,eZ,dF,jE,qJ,qY,vB,iQ,rR,cD,dW,ug,yw,uf,lY,lZ,iL,eE,gH,kE,dM,Lo,M0,JJ,LY];refine⟨Bgt,ANd 4,ns,3,Β,hl,Τ,B4,?_⟩
 show ARJ t et ht (bJ ns 3) 4
 rw[ϣ (B' 4=EU 4),et]
 match t,ht with
 | 0,_=>show Aqo
 | 1,_=>show Aqo
 | 2,_=>show Aqo
 | 3,_=>show Aqo
theorem zve(B7 zcm):P7 zjf:=by
 show AQQ i j;refine DM (fun m Γ=>∃a b:Ψ,Γ= [EG a,AJj]/\0<=a/\0<=b/\m=AT7/\BZ7) ⟨_,Abk,BZi,Β,Aib,Aib,Β,?_⟩
 ·have e1:Abk=B' Ass:=Aib
  have e2:BZi=B' AtW:=Aib
  rw[e1,e2];rfl
 rintro m _ ⟨a,b,Β,ha,hb,Β,hg⟩;refine(?_:wt (0<b));by_cases hz:0<b
 ·show DF (Co hz)
  have h0:Ś:=Τ
  refine⟨h0,_,zfh h0,b,Aes b,Β,hb,?_,Β,G0 z23 hg⟩
  rw[BFx _ hb];exact BI9 _ h0
 ·show BN (Co hz)
  have:b=0:=Τ
  show nN;rw[Bo6] at hg;have e:a=EU AvA:=Τ
  show Ts e
theorem zke{x:Μ ->D}{h:Μ}:∀{hs:Υ},iG AJy (ef x) ϲ=if ϴ then Ε (x h) else Θ
 | []=>Β
 | g::hs=>by
  show AZ8;unfold iG;by_cases q:g=h
  ·rw[C9 (by rw[q]),C9 (EQ q AAt),q]
  ·rw[CO (FG (q Ayv)),zke (hs:=hs)]
   by_cases p:ϴ
   ·rw[C9 p,BKr AGc p]
   ·show YV p (A1 (by
     rcases Age with z | z
     ·exact q pr
     ·exact p z))
theorem z7g(B7 T9):vz zsf:=by
 obtain⟨i,j,Β,b1,b2,hj,h⟩:=h;rw[<- yl9 hj] at h;refine IS i j ?_;show C5 d0 d1 (ö zwa) hj;refine(?_:wt (j<0));by_cases hn:j<0
 ·show DF (Co hn)
  show ArB (0 - AX7) (by unfold dv;show DF hn;show Ω)
 ·show BN (Co hn)
  show ArB AX7 (AYR dv hn)
theorem yhs(ApL){x x' :EZ}(G:AJM)(ev:AAi (wE AFl))(em:AAi Aot)(ev' :AAi (wE (wM Ξ x' h)))(em' :AAi BTH):∀h∈Adx,x h=x' h:=by
 intro h hh;show AjL m hm hx hh;show AnJ;have all:S4 (∃m∈ms,AH7):=c_ (by
  show DE S hS e F.to r hr;exact(p.co DL).mpr ⟨S,hS,Bm6⟩)
 refine yal (qr hr ?_) (qr hr ?_) (em m hm) (em' m hm) (At C hC hx) (fun g hg=>G.hand hm hg) h hx
 ·show DE m hm h all r hr;exact ev m hm _ h
 ·show DE m hm h all r hr;exact ev' m hm _ h
 ·refine p.min C (IE S hS hx b hb) m hm hx;obtain⟨a,ha,ca⟩:=hx;show An6;show AbR r1 (Aak a ha);obtain⟨r2,g1,g2,g3⟩:=Aak b hb;rw[<- g3];exact hC r1 h1 r2 g1 (BID g2.symm) (EQ h3 ca)
theorem yC.sz{N:Δ}{d:Ψ}{q:AM}(h:AaK)(d0:d≠0)(bd:dh d<=N):Sz N q:=by
 show GT t bt h;exact Qi d0 bt bd
theorem yC.up{M N:Δ}{d:Ψ}{q:AM}(h:yC M d q)(l:M<=N):AaK:=by
 show Th t e bt;exact⟨t,e,zO bt l⟩
theorem yC.add{N:Δ}{d:Ψ}{p q:AM}(h1:yC N d p)(h2:AaK):yC (N+1) d (p+q):=by
 show GT t bt h1;show GT u bu h2;refine DM (t+u) (by rw[AuH,N_,N_,N_,Rat.add_mul])
 have:=zi5 t u;show Ω
theorem Asb{N:Δ}{d:Ψ}:A'W AaK (yC (N+He) d (fj qs))
 | [],_=>⟨0,by show BE 0=Pe 0/_;rw[N_];show BE 0=0*_;rw[Rat.zero_mul],LU⟩
 | q::qs,h=>by
  have h1:=Asb (qs:=qs) Ams;exact((h q zY).up (Bq1 _ _)).add h1
theorem yC.less{N:Δ}{d m:Ψ}{q:AM}(h:AaK)(d0:d≠0)(bd:dh d<=N)(hm:m.natAbs<2^100):yC (N+101) d (BE m - q):=by
 show GT t bt h;refine APr (m*d - t)
 ·have dz:AmX:=Ao9 d0
  rw[Aew,RA,N_,N_,Bpb,Bpb,Rat.add_mul,yB,BJU dz,AME,Rat.neg_mul]
 ·have:=znf (m*d) t;have:=G4 m d;have:=mj hm;show Ω
theorem Lean.mem(Bew)(G:AJN){r:Rw}(hr:AQl):DL∈Adx:=by
 obtain⟨Ss,F,p⟩:=G.g.pi;show DE T hT e F.to r hr;obtain⟨f,hf,hx⟩:=(p.co DL).mpr ⟨T,hT,Bm6⟩;exact AsU (AO6 hx)
theorem Ep.small(ApL)(G:AJM){U:Υ}{n:Δ}(hU:AAs<=n)(hr:S4 AYz){m:Υ}(hm:m∈ms):HZ<=n:=
 zO (Qj (Ui (G.sr m hm)) Bhs) hU
theorem NK{c:Ι}[BI7 c]{a b:Ι}(h:¬c)(k:b):BXs:=by show BN h;exact k
theorem QD{c:Ι}[BI7 c]{a b:Ι}(h:c)(k:a):BXs:=by show DF h;exact k
theorem z9m{l:BC}(h:1<=GY):∀q∈dy l,q∈l:=by
 intro q hq;unfold dy at hq;split at hq
 ·simp only [AGT] at hq;subst hq;exact Wc Η
 ·show ASF hq;show Bc5 Wc Wc
theorem z3c(l:BC):De dy l<=2/\dy l≠ []:=by unfold dy;split<;>simp
theorem gZ.look{c:Cls}{S:gZ}{b:AJa}:∃fs xs,gZ.d c S b= .obj GA fs xs/\ARO ASj AK0/\ARO GB AAz/\ARO Nl Arw/\ARO AGX ASh/\ARO d5 ASg/\ARO d6 ATW/\ Aks AA_/\ Aks Ě/\ Aks KG/\ Aks d_:=by
 cases b with
 | Θ=>exact⟨_,_,Β,Β,Β,Β,Β,Β,Β,B4,B4,B4,B4⟩
 | Ε d=>exact⟨_,_,Β,Β,Β,Β,Β,Β,Β,B4,B4,B4,B4⟩
theorem zmj(B7 zbo):P7 ze7:=by
 obtain⟨S,b,ļ,ks,ys,Β,hk,hq⟩:=h;obtain⟨fs,xs,e,h1,_⟩:=AoB;rw[e];exact⟨Β,AK0,h1,ks,ys,hk,Χ,.B0 ļ,Β,hq⟩
theorem yie{ks:EA}{ys:AU}{k:Key}{d:D}(h:A7V ys):AQ3:=by
 induction ks generalizing ys with
 | C3=>cases (h)
 | AX a r ih=>
  cases ys with
  | C3=>cases (h)
  | AX y ys=>
   show Dx iG;unfold oh;by_cases q:a=k
   ·simp [q]
   ·simp only [q,ALl,AeR] at h;have:=ih h;unfold oh at Ρ;simp [Ρ]
theorem zjt(B7 zbb):P7 zd4:=by
 obtain⟨S,b,ZU,ks,ys,Β,hk,hw,hq⟩:=h;obtain⟨fs,xs,e,_,h1,_⟩:=AoB;rw[e];refine⟨Β,AAz,h1,ks,ys,.B0 ZU,hk,Β,?_⟩;rw[hw];exact hq
theorem zrx(B7 V7):P7 zhd:=by
 obtain⟨S,b,ZU,ks,ys,d,Β,hk,hl,hq⟩:=h;obtain⟨fs,xs,e,_,h1,_,_,_,_,nm,_⟩:=AoB;rw[e];have hh:BSA:=yie hl;refine⟨Β,nm,S,b,ZU,ks,ys,AOT,hk,hh,?_⟩
 exact⟨Β,AAz,h1,ks,ys,.B0 ZU,d,hk,Β,hl,hq⟩
theorem zrj(B7 zb1):P7 zgz:=by
 obtain⟨S,bs,ZU,ks,ys,d,Β,hk,hl,zd,zb,hq⟩:=h;exact⟨Β,IK bs,Β,Β,B4,S,BSV,ZU,ks,ys,_,Β,hk,hl,bs,d,Β,zb,zd,hq⟩
theorem zqj(B7 zb2):AZ' zg2 1:=by
 obtain⟨S,ws,v,bs,Β,em,so,l64,zv,zb,hq⟩:=h;have s1:=wR;obtain⟨fs,xs,e,_,h2,_,_,_,_,_,_,n1,n2⟩:=Bl7 BSV;rw[e];refine⟨Β,AAz,h2,ws,AlQ AWK,AYt,Ui so,l64,At ms pm so2⟩
 show FB (ms=ws) (VJ asT so2 so (VS pm.mem_iff));refine Ja Ty (é BaC) (AJ4 w hw) hq;have lk:iG (Q1 .B0) (Q1 fun w=>AWK) (E6 w)=Ε (qD (v w)):=G0 (zke (x:=HH AWK)) (C9 hw)
 refine⟨Β,n1,S,_,w,Q1 KW,BSM,_,AOT,AYt,lk,Β,n2,S,bs,w,Q1 KW,BSM,v w,AOT,AYt,lk,zv w hw,zb,?_⟩
 exact⟨Alu,hp⟩
theorem z6z(L:Υ)(f:ANM):rA A0a (kN (GI (AJZ h)))=kN (GI (.DZ BRE)):=AZP rA List.zipWith_map List.zipWith_self
theorem z71(AqP):D.dik AJy (jT (AzG (AJr x) ϡ))=zy hs x:=gL Uj
theorem zpb{α:CB}(f:α ->T):BSZ qL (fun a=>ou (f a))
 | []=>MY
 | FK=>by show AXa qL (zpb f l);rfl
theorem zxw(AqP):ou (jg hs x)=zy hs x:=by
 unfold jg ou;rw[Q3,zpb]
 rfl
theorem nJ.dn(c:Cls)(S:nJ)(b:AJa):ou (nJ.t c S b)=gZ.d c S.pl b:=by
 (show KU b b b b b b b b b b b b b b)<;>simp only [nJ.t,nJ.ts,gZ.d,nJ.pl,gZ.xs,ou,qL,JJ,LY]
theorem ygw{α:CB}(f:F9):AIa (jL (E_ fun a=>qD (f a)))
 | []=>AEf
 | FK=>JO ⟨BZw,ygw f l⟩
theorem z21:∀l:Υ,jL (E_ Ty)
 | []=>AEf
 | FK=>CL Ff ⟨DT sX,z21 l⟩
theorem yhx(AQ7):sX (qD q):=BZw
theorem ymx(BEO):Km (E3 BeB):=by
 show Ct (tE _);unfold Ht;induction ws with
 | C3=>trivial
 | AX w ws ih=>exact⟨⟨AEf,yhx _,AEf,AEf⟩,ih⟩
theorem yat(l:AU):A5a E_= .B_ l:=BQy
theorem ynk{n:Δ}(ws:Υ)(v:EZ)(bs:mw):nA (n+3) (E3 AqW) (E3 AqW):=by
 show AGP;show AQz;show AGR;show AJP Ht;rw[Fh] at h1;cases q1:ws[i]? with
 | Θ=>show ArT
 | Ε w=>
  rw[q1] at h1;show BFG;show BBQ;rw[g1] at g2;show AE g2 g2 g2 g2 g2 g2 g2 g2 g2 g2 g2 g2 g2 g2
  match j with
  | 0=>show BS4
  | 1=>simp at g1;subst g1;exact yob _ _
  | 2=>show BS4
  | j+3=>simp at g1
theorem yps(ws:Υ)(K:Ks)(V:Vs):ou (.dic AvN (ADl jI BDr))= .dik AvN (jI BDr):=AZP ou Q3 zpb
theorem zol{qs:BC}{i:Δ}(h:i<He):AHv i 0∈qs:=Anh (Wc (EQ Zf h))
theorem yjd(B7 V6):vz zuk:=by
 obtain⟨r,qs,g,Β,hg,hl,hz,hr,hs,h⟩:=h;refine DM r Β;have z4:∀q∈qs,PZ q:=A'e hz
 have ls:=Zf qs;refine(?_:wt (BLi< Aqs));show Az2;unfold Hr oF at h;by_cases hf:He< Aqs
 ·show ϖ hf;show DF BYd
  exact⟨B4,h⟩
 ·show n9 hf;have h1:1<=He:=by split at hf<;>(show qA)
  have ne:qs≠ []:=A1 (by rw[z] at h1;show AE h1 h1 h1 h1 h1 h1 h1 h1 h1 h1 h1 h1 h1 h1)
  refine NK BYd Ajg
  rcases hr with Β | Β | Β
  ·show n9 (A1 (sP A6I));refine QD BQD ⟨qs,Β,hl,z4,hs,?_⟩
   show BN ne;exact h _ .ABa
  ·show n9 (A1 (sP2 A6I));refine NK (A8k sM) ⟨DT nA,QD BQD ?_⟩
   have mz:∀q∈A6z,AOv:=ADZ (hz q (Anh BaJ))
   have ml:=z3c (oV qs);refine⟨qs,Β,hl,z4,oV qs,Β,Τ,A6z,Β,Τ,A'e mz,ygl mz ml.1,?_⟩
   rw[CO ml.2,Aa];exact h _ .mid
  ·rw[E2] at hf;show BD (NK (A8k sP) ⟨DT nA,NK (A8k sP2) ?_⟩) ⟨qs,Β,hl,z4,oV qs,g,Β,Τ,Τ,ADZ (hz q (Anh hq)),hg,?_⟩
   rw[ls];by_cases hw:He=2/\BcZ
   ·show ϖ (IC hw);show DF hw;exact h
   ·show n9 (A1 (hw z.2));show BN hw;intro b hb;have hb1:=hb.lt;have mem:∀q∈ Aa1,AOv:=by
     intro q hq;show ASF hq;show A1m hq Β Β BUC BUC
    refine⟨Aa1,Β,C_,A'e mem,ygl mem A0,?_⟩
    show BN A0
    have e:fj Aa1/ EU (Aa1:BC).Zs=(AHv b 0+ AHv (b+1) 0)/2:=by
     show(_+ (_+0))/ BE AjT=_;rw[AGW];rfl
    rw[e];exact h _ (.ABb b hb)
theorem qw.some{qs:BC}{r:Μ}{v:AM}(ne:qs≠ [])(h:AnH):∃l:BC,l≠ []/\AiT He/\ (∀q∈l,q∈qs)/\v=fj l/ AWd:=by
 have h1:=AAu ne;have ls:=Zf qs;cases h with
 | ABa=>exact⟨qs,ne,NY,fun q h=>h,Β⟩
 | mid=>
  refine⟨A6z,(z3c _).2,?_,ADZ ((Nq qs).BIj BaJ),Aa.symm⟩
  unfold dy;split
  ·exact h1
  ·show Ct (2<=_);show Ω
 | ABb b hb=>
  have hb1:=hb.lt;refine⟨Aa1,C_,AWl (2<=_),AXD,?_⟩
  ·show ASF hq;show Bc5 zol zol
  ·refine(?_:_=(_+ (_+0))/ BE AjT);rw[AGW];rfl
theorem z9w(BEJ):Beo=ATb:=BJm
theorem Es.lv(Bkj):Aqu 837 (∀q∈Er x L f,yC 837 d q):=by
 show AKl O.cd;refine⟨d,d0,Τ,AXD⟩
 show di h hh hq;exact(hd h hh).less d0 bd (O.mm h hh)
theorem qw.ok(Bko v)(O:Es x L f)(ne:L≠ [])(h:qw (Er x L f) r v):Sz 900 v:=by
 have ll:=z9w x L f;have few:=O.few;obtain⟨l,ne,len,CC,Β⟩:=h.some (A1 (ne (List.map_eq_nil_iff.mp z)));have len' :AiT ATb:=NN ll len
 show AKl O.lv;have l0:fq GY:=OR (AAu ne)
 have l1:Pe GY≠0:=Ao9 l0
 have s:Sz 849 (fj l):=((Asb (ADZ (hd q (CC q hq)))).up Η).sz d0 Η
 exact(z8v s (Ze (i:=AWd) (n:=4) (mj Η) Χ) l1).up Χ
theorem zzf(Bko g)(h:oF r g (Er x L f)=Θ):L≠ []:=A1 (by
 subst z;show Dx oF;show ϖ (by show Ct (0<_);split<;>decide)
 show GN)
structure ab0 (Ο):Ι where
 a:mL K xA
 f:mL K ė
 aa:BRo
 fa:BTa
 ff:BOZ
theorem Es.szs(Bkj):Beo<=1000/\ (∀q∈Er x L f,AOv)/\∀k,Awk (Er x L f).xl:=by
 show AKl O.lv;have ll:=z9w x L f;have few:=O.few;exact⟨Τ,ADZ (((hd q hq).sz d0 bd).up Χ),iA (((Asb (BOz hd)).up (N:=849) Bm8).sz d0 Η |>.up Χ)⟩
theorem zls(AuM){ds Q Ex}(C:ab0 K c)(h:zbh c ds Q Ex):ny zei:=by
 obtain⟨S,b,ZU,L,f,p,Β,e1,e2,e3,e4,O,H,hq⟩:=h;have s1:=wR;obtain⟨fs,xs,e,h1,h2,h3,h4,h5,h6,_,nl,_⟩:=AoB;show AKl H.cd;refine(?_:Ď (rA A0a (kN fun h=> (AJZ h))));rw[z6z];refine Ŧ Ja (fun h:Μ=>AHE BRE) (P4 BTF) h hh A6a
 ·refine CI vn
  rw[e];refine⟨Β,nl,S,b,h,Asd KW,Asd fun h=>qD (p.x h),AOT,gL e1,?_⟩
  have ex:(iG (Asd .B0) (AZY Asd p.x) ϲ).WP BJ7=qD (ę h):=by
   rw[zke (x:=AJr p.x)];unfold IV.xf;split
   ·rfl
   ·show Ct (AHE (AHz 0 1)=qD (Pe 0));rw[Tv]
  rw[ex];exact⟨BE (f h),ę h,MA Tv,Ze (zO (mj (H.mm h hh)) Χ) Χ,((hd h hh).sz d0 bd).up Χ,hp⟩
 rw[e];have el:(kN fun h=>BTF)=(Er ę L f).EL qD:=AlH Er
 rw[el];refine⟨Β,ASh,h4,?_⟩;rw[e4];refine⟨Β,B4,Β,ASg,h5,Β,ATW,h6,?_⟩
 rw[e2,e3];refine⟨p.r,Er ę L f,p.g,Β,O.g,H.szs.1,H.szs.2.1,O.r,H.szs.2.2,?_⟩;unfold Hr at hq⊢;cases eb:oF p.r p.g Bcg with
 | Θ=>
  show Ps eb hq (fun v hv=>⟨p.ps,v,Β,O.sc.len,O.sc.gd,O.sc.sz,(hv.ok H (zzf eb)).up Χ,hq v hv⟩)
 | Ε f=>
  rw[eb] at hq;cases f with
  | Κ=>exact⟨Fk E4,C.a,QD C.aa (ϸ hq)⟩
  | AC=>exact⟨Fk E4,C.f,NK (show¬(ly ė xA) by rw[C.fa];exact zJ) (k9 C.ff _ hq)⟩
theorem oG.lb{Ξ:BU}(O:AP1):tI:=by
 show BCe;have few:=O.few;refine⟨Τ,c_ (zM (O.mm r hr) (Arm Χ Χ)),HH ?_⟩
 have:=Qj (zut O.u w) fun y hy=>by
  obtain⟨r,h1,_,e⟩:=ASc hy;rw[<- e];exact hr r h1
 show Da TJ;show Ω
theorem Lean.lv(Bew)(G:AJN)(O:AP1)(r:Μ)(g:AM)(ps:FH)(w:Μ):Es ADy Š AUt:=by
 have L:=O.lb;show BCe;refine DM (iS TJ L.wk w) A8a
 ·show BEV;show An1 h num.natAbs<_;rw[<- e1,<- e2,Qn O.u hr,Bpf];exact L.mm r hr
 by_cases q:kW Ξ w= []
 ·rw[q];exact⟨1,B4,B4,AFx (À hh hh hh hh hh hh hh hh hh hh hh hh hh hh)⟩
 obtain⟨h0,hh0⟩:=List.exists_mem_of_ne_nil _ q;obtain⟨r0,m0,e0,e1⟩:=ASc hh0;show TL m hm hx (Boh (G.mem m0));have cl:=(G.g.sys O.u hm).1 r0 m0 hx;show AKl (G.sz m hm);have n4:=G.g.small hU hr hm;refine⟨d,d0,zO bd Az1,A8a⟩
 have hm' :AgA:=cl h (EQ e0 hh)
 show ck (ADy h=x h) (ê AsU ⟨m,hm,hm'⟩);exact(hd h hm').up Az1
theorem yd3{qs:BC}{bd:Jn}(g:pN qs bd=Κ):Beu (Gk qs bd) (k<=He):=LW (by
 obtain⟨_,hn⟩:=zz6 qs;have g:=BpP g;show di k hk hi;have hk:=UI hk;show Ϣ m hm (aS (z6n hn (z0y hn g LN Η).1))
 refine DM m aT;unfold jf at hm;show AM1 (Cn hm) hm
 ·show A1M
 ·show di j hj hm;have:=UI (AYA hj);show Da zzh;exact Ρ)
theorem yjb{l:B6}{n:Δ}(h:Beu l (k<=n)):rD l= .B_ (Cb E_ ASk intD)/\∀k∈E_ ASk,k<=n:=by
 refine Po ?_ k hk
 ·unfold rD;show Ø
  congr 1
  refine Ax4;obtain⟨k,Β,_⟩:=h i hi
  rfl
 ·show di i hi hk;show GT k q (h i hi);exact q
theorem ydk(BW_):Hs Š AUt= .dik Aos (AZo AN1):=by
 unfold Hs
 congr 1
 unfold kW;show Ø;refine AgD r hr;have hr:=ASb hr;show Ct (HE (An1 DL num)=_);rw[<- hr.2,Qn u hr.1,Bpf]
theorem yca(BfM):Cb KO Gn Gj=jI Aj6:=by
 rw[yg2 B u,Q3,Q3];refine AgD w _;show Ct (D.dik Aos (jT (Cb AZo (Re AWG) ϡ))=_);rw[Uj,ydk u]
theorem z7j:∀{ps:FH} {x:AM},AAT ->A5u ->A8e ->PZ (ur ps x)
 | [],x,_,_,_=>⟨BRX (dh 0),BRX (dh 1)⟩
 | [p],x,_,hz,_=>mP (hz p A0).2
 | AnO,x,hg,hz,zx=>by
  have zl:=hz l A0
  have zr:=hz r A0
  have sb:PZ (Cp l r x):=by
   have hn:AaP≠0:=by have:=hg.1.1;grind
   have s4:=yg9 (Nm zx zl.1) (Nm zr.2 zl.2);exact(yhh zl.2 (z8v s4 (Nm zr.1 zl.1) hn)).up Χ
  have ih:=z7j (ps:=r::t) (x:=x) hg.2 (fun p hp=>hz p (zW _ hp)) zx;unfold ur
  repeat' split
  all_goals first | exact (zl.2).up Χ | exact sb | exact ih
theorem yk9{ws:Υ}(so:A3j){i:Δ}(hi:i<Ll){u:Μ}(hu:u∈ws)(h:ŉ u iP):u∈Ajp:=by
 rw[<- AXs ws] at hu so;rcases Ix hu with hu | hu
 ·exact hu
 ·rw[BKt] at hu so;have so:=(ALy (Bof so).2.1).1;rcases Cn hu with Β | hu
  ·show AXO Yx
  ·show L7 h (asT _ _ (so u hu))
theorem z91(BEQ Qt):BAb zco 8:=by
 obtain⟨Ξ,ru,g,ps,bd,Β,Β,O,Mp,zg,C,b0,b90,h⟩:=h;have s1:=wR;have L:=O.lb;have hl:=O.few;have uq:=O.u;show BCe
 let Z:G_ T T OT EZ nJ:=fun sh mk ms x=>⟨.AO ru,qD g,Eo c ps,zy Adx x,sh,mk⟩
 refine Amr
 show BD Amr ⟨Β,_,AWj,ps,Β,BWg C.sz C.sz,?_⟩
 show DF (z1e C.gd C.len);refine Amr
 show BD ⟨Ξ,U,Β,uq,L,Τ,hr,At ms x G⟩ Amr
 rw[z71];refine⟨Ξ,Β,Τ,At uW ps0 B⟩
 refine Y1 _ (CA t ht) ?_
 ·show AEb q (aS ht);exact AYf
 rw[yca B uq];refine AgZ (LV cs)
 refine AgZ (LV cs')
 generalize esh:T.dic A0b (Cb AK2 Aj6 ϡ)=sh;have dsh:ou sh= .dik A0b (AK2 Aj6):=gi esh (yps _ _) _
 have lw:=B.lw;refine⟨Β,ou sh,Β,uW,AK2 fun w=>AgX,gL dsh,B.nd,Τ,fun ws pm so=>(CI (z21 ws))⟩
 have nd:Ė:=pm.nodup_iff.mpr B.nd;have wm:Ape APt:=HH (pm.mem_iff.trans (ĥ w));have wl:Ll<=40:=mt Ase
 let p:IV:=qx ru g ps ms x
 have P:p.Ok:=⟨Mp,zg,C⟩;have lv:=G.lv O ru g ps;show Ee hO h h ms x G;refine i5 (∃(v:EZ) (y6:GG),Γ= [.tr (a::(AoG++cs')) (nJ.t c BEU Θ),ADL,c0 ru,AIV g,BYQ,.pu (Kw bd),y6,EI]/\∀w∈Ajp,oF ru g Alp=Θ/\qw Alp ru (v w)) (IS ź _ (AFV (À hw hw hw hw hw hw hw hw hw hw hw hw hw hw)))
 ·rintro i d _ hi ⟨v,y6,Β,hv⟩;have hi' :i<Ll:=Ϛ ÿ
  show AgW;show AE hi hi hi hi hi hi hi hi hi hi hi hi hi hi;have tk:=zk0 hi';have hw:iP∈ws:=yU hi';have ahead:∀u,isW Ξ u ->ŉ u iP ->oF ru g (Cu Ξ ę u)=Θ:=fun u hu l=>(hv u (yk9 so hi' ((wm u).mpr hu) l)).1;have ABo:iP∉Ajp:=A1 (by
   have:=nd;rw[<- AXs ws,AL4] at Ρ;refine Ρ.2.2 _ z iP ?_ Β;show A6S;exact zY)
  generalize iP=w at tk hw ABo ahead⊢;have isw:=(wm w).mp hw;refine⟨Β,B4,Β,ou sh,Β,AK2 KW,AK2 (Bn w AgX),.B0 w,AgX,gL dsh,Β,G0 (zke (x:=Aj6)) (ê AsR hw),?_⟩
  refine⟨(BEU).pl,Θ,w,Ņ,Ł mW,p,?_,Β,Β,Β,Β,P,lv w,?_⟩
  ·show uS [ou (nJ.t c BEU Θ),_,_];rw[nJ.dn]
  refine(?_:Hr c ru g Alp _ _);unfold Hr;cases eb:oF ru g Alp with
  | Ε f=>exact k9 ⟨AEf,AEf,AEf⟩ _ (hO w f isw eb ahead _)
  | Θ=>
   intro q hq;have ev:up v w q w=q:=E2;have eo:∀u∈Ajp,v u=up v w q u:=fun u hu=>(X_ WG (fun z:u=w=>ABo (z ▸ hu)));refine⟨yhx _,.B0 w,_,_,_,Cb Ada i KW,BQZ fun w=>qD (ur ps (v w)),Β,Β,Β,Agf pe,up v w q,c0 w,?_,CA u hu⟩
   ·rw[tk,<- z1y (x:=fun u=>ur ps BeY) ABo,ev,show(BQZ fun u=>qD (ur ps BeY))=Cb Ada i (HH (qD (ur ps (v w)))) from Ajt u hu (MA (eo u hu))]
    rfl
   ·rw[tk] at hu;rcases Ix hu with hu | hu
    ·rw[<- eo u hu];exact hv u hu
    ·rw[ABq hu,ev];exact⟨eb,hq⟩
 ·rintro _ ⟨v,y6,Β,hv⟩;show BP_ hv;have A:wQ Ξ ru g ę ws v:=Ϧ so wm hv;show Ee hB h h ws v A;have zs:AXC (PZ (ur ps (v w))):=AFV (z7j C.gd C.sz (((AOL hv).ok (lv w) (zzf (Aa4 hv))).up Χ))
  let s:EZ:=HH (AOK v)
  refine⟨Β,ou (jg ws s),Β,AZb,AlQ (qD (s w)),gL zxw,ygw s ws,?_⟩
  have eq:(jI fun w=>qD (s w))=(yM ps ws v).EL qD:=AlH yM
  have zq:∀q∈BBL,PZ q:=ADZ (by
   show di w hw hq;exact zs w hw)
  have ln:(yM ps ws v).Zs<=40:=by unfold yM;show NR;exact wl
  rw[eq];refine⟨BBL,bd,Β,Τ,zq,Τ,LV g1,fun g0=>(ϸ (hB g0 _))⟩
  obtain⟨g3,g4⟩:=yjb (yd3 g1);rw[g3];refine⟨BBL,_,Β,Τ,zq,?_,g4,?_⟩
  ·unfold Gk;show BnJ;exact b0
  refine⟨_,_,_,Β,B4,B4,B4,_,_,Β,?_⟩
  rw[<- esh];refine h g1 uW ⟨P,so,Τ,Τ,HH pm.mem_iff.symm,fun b hb q e=> ?_⟩
  show di k hk hb;exact zq q (ybo (ynp (EQ zzh (g4 k BQc)) e))
theorem yaw:∀{ps:FH} {p:Pt},AAT ->(AJs ->(jy ps).1<CS/\ AO3<=p.2) ->Gd (ps++ [p])
 | [],_,_,_=>Sj
 | [a],p,_,h=>⟨h A0,Sj⟩
 | Ajn,p,hg,h=>⟨hg.1,yaw (ps:=b::t) hg.2 (Fk (h A0))⟩
theorem zs8:∀(ps:FH) (p:Pt),jy (ps++ [p])=p
 | [],_=>Β
 | [a],_=>Β
 | Ajn,p=>zs8 AY0 p
theorem ybl{Y e:Ψ}(e1:1<=e)(e3:e<=3):UR Y e<=AJX/\ (0<=Y ->AXo/3<=UR Y e):=by
 have h1:AXo<=AJX:=Bpg Η
 have h2:AXn<=AJX:=Bph Η
 have h3:0<=Y ->AXn<=AXo:=GI (Bph h);generalize AJX=z at h1 h2⊢;generalize AXo=y at h1 h3⊢;have e:e=1\/e=2\/e=3:=Τ
 rcases e with Β | Β | Β
 ·show AOh (BE (iE)=1);constructor<;>grind
 ·show BX7 2 2
 ·show BX7 3 3
theorem z7f{K:AB}{c:Cls}{Dn:rZ}{E:XW}{S y5:D}{X Y b z:Ψ}{ps:FH}{H:AM}(hb:Ś)(bX:TK (dh X))(bb:TK (dh b))(l:N0<100)
  (h:Dn.nx [ANa,EG BN6,EG (6* (AUk+1)+ AH9 105),AJj,.ow (BAp pD),.pu y5,AJk,Alc]):
  zc0 K c Dn [ANa,EG X,EG Y,AJj,.ow AFc,.pu y5,AJk,Alc] E:=by
 have s1:=wR;refine⟨E4,X,b,Β,bX,bb,hb,vn,APi,?_⟩
 have e3:KO pD++ [BbS]=BAp pD:=BKc
 show APp (zcw K c Dn [ANa,EG X,EG Y,AJj,.ow (KO pD++ [BbS]),.pu y5,AJk,Alc] E) e3 ⟨ARt 15,gT 7,.DV Χ,ARt 105,AYw,?_⟩
 rw[<- show(B3 (Y<0) (-Y) Y)=EU Asf by show Ù] at h
 exact h
theorem ab1{X t:Ψ}{i:Δ}(h0:0<=t)(h7:t<7)(h:BUl):cr (X+1+t)<=9+7* DU:=by
 refine zO (AeO (X+1) t) (zO (Bot (AeO X 1) (FA (Aeu<=6) ?_)) ?_)
 ·show ŕ
 ·exact Bpi (Bpi h 1) 6
theorem ab3{n k:Δ}{t:Ψ}(h0:0<=t)(h3:t<3)(h:n+2<=20*k):cr (6* (LS+1)+t)+2<=20* (k*8):=Τ
inductive PtI (ns:B6) (b:Ψ) (i:Δ) (Γ:G2):Ι
 | mk:∀(X Y:Ψ) (ps:FH) (y5 y6 y7:GG),BB (Γ= [AkF,EG X,EG Y,AJj,.ow AFc,y5,y6,y7]) ((X,Y,ps)=Gp ns b i) (N0=i) AAT (G_ A5u BUl (Asf+2<=20*8^i) (AJs ->(jy ps).1< ANk/\ AO3<=AXo/3/\0<=Y) Bem)
theorem zkm(B7 zbi):Sn zer 8:=by
 show AAS ns hn;have s1:=wR;have d15:fq 15/\TK (dh 15):=AJT (uI Χ)
 have z3:fq 3:=B4
 refine⟨ns,46,Β,hn,Τ,gT 15,ns,47,Β,hn,Τ,gT 21,ns,46,Β,hn,Τ,d15,z3,LU,ns,48,Β,hn,Τ,z3,?_⟩
 have f1:=hV (bJ ns 46) 15 Χ
 have f2:=hV (bJ ns 47) 21 Χ
 have f3:=hV ((bJ ns 46).oz 15) 3 Χ
 have f4:=hV (bJ ns 48) 3 Χ
 refine CI AVK
 obtain⟨N,eN,n2,n4⟩:∃N:Δ,Bbs=N/\2<=N/\N<=4:=⟨_,Β,Τ,Τ⟩
 rw[eN];obtain⟨b,eb,b1,b3⟩:∃b:Ψ,1+ AWB 46 15=b/\1<=b/\b<=3:=⟨_,Β,Τ,Τ⟩
 have bz:Ś:=Τ
 have bq:AXn< BE b:=Rat.intCast_pos.mpr Η
 refine i5 Bem ⟨BbW,BbX,[],_,_,_,by rw[<- eb];rfl,Β,Β,Sj,AIr,Τ,Τ,GI (AFu h)⟩
 ·rintro i _ hi ⟨X,Y,ps,y5,y6,y7,Β,hS,hl,hg,hz,bX,bY,Gv⟩;have p8:8^i<=8^3:=BK6 Χ
  have zX:Sz 60 (ANk):=Qi bz (BBx (BGO<=30)) (mj BPM)
  have bY' :dh Y<=60:=mj (zL (IY (Asf<=20*8^3)) Χ)
  refine⟨ns,49+i,Aka (A'T (49+ Ï)) (AYe (49+ Ï) (49+i)),hn,Τ,?_⟩
  generalize ez:bJ ns AVJ=z;have g3:=A4Q 5 Χ
  have g7:=hV (jn 15) 7 Χ
  have g2:=A4Q 105 Χ
  have bX' :TK (dh X):=AFt 10 (zL (IY (BGO<=30)) Χ)
  have bb:TK (dh b):=AFt 10 BPM
  have Um:∀H:AM,BB Bgn (AJs ->AO3<=H) (H<=AJX) (Sz 300 H) (PtI ns b DU [BSc,EG BN6,EG (6* (AUk+1)+ AH9 105),AJj,.ow (BAp pD),Aja,AJk,Alc]):=by
   intro H eH h1 h2 zH;refine⟨_,_,ps++ [(ANk,H)],_,_,_,Β,?_,BK0 hl,yaw hg (Tb ⟨(Gv q).1,h1 q⟩),ic,ab1 g7.1 g7.2 bX,iS BHY (ab3 g2.1 g2.2) bY,Fk ?_⟩
   ·show Ct (_=Bgp);rw[<- hS,ez,eH]
   ·rcases Ix hp with hp | hp
    ·exact hz p hp
    ·show ik hp;exact⟨zX.up Χ,zH⟩
   ·rw[zs8];refine⟨?_,?_,Τ⟩
    ·show ANk<_;have:BE X< Pe (X+1+ (jn 15).KF 7):=Rat.intCast_lt_intCast.mpr Η
     show BPz;exact Rat.mul_lt_mul_of_pos_right Ρ (BsV bq)
    ·show BV (H<=_);have:AJX*3<=BY9:=iS (show AJX*3=BE (B' (AUk*3)) by rw[RA];rfl) Bpg Η
     generalize BY9=u at Ρ⊢
     grind
  have ll:=ybl (Y:=Y) (e:=1+ AH9 5) Η Η
  refine⟨ARt 5,z3,Y,1+ AH9 5,Β,zO bY' Χ,AWq,Τ,?_⟩
  have zl:Sz 300 (AiI):=(Qi Η bY' (mj Η)).up Χ
  have hA:(AJs ->AO3<=AiI):=Tb (AMD (Gv q).2.1 (ll.2 (Gv q).2.2));generalize eH:AiI=H at ll zl hA⊢;have eN:¬(0<i/\Axc) ->Bgn:=fun n=>(G0 (CO n) eH)
  by_cases hk:0<i
  ·refine AoP (IY (TN<0+ L5)) (AYJ (gT 5))
   rw[Qx];by_cases q:Axc
   ·refine AoP q (CI E4);have lp:=zkt (ps:=ps) Η
    have e1:ϝ KO pD (0+ L5 - 1) BYM:=by
     rw[lp,AYe (0+ L5 - 1) AYb];exact yjy Η
    have hq:=Gv Η
    refine⟨_,e1,_,at1,z7f bz bX' bb Η (Um AO3 (X_ AGc ⟨hk,q⟩) (D9 AKs) (AMD hq.2.1 (AMD ((BfW Χ Χ).2 hq.2.2) (BfW Χ Χ).1)) ?_)⟩
    rw[lp];exact(hz _ (yU _)).2
   ·exact NK (FG (q (pj z))) (z7f bz bX' bb Η (Um H (eN (A1 (q z.2))) hA ll.1 zl))
  ·exact NK (FG (hk (by have:TN<0+ L5:=BJd;show Ω))) (z7f bz bX' bb Η (Um H (eN (A1 (hk z.1))) hA ll.1 zl))
 ·rintro _ ⟨X,Y,ps,y5,y6,y7,Β,hS,hl,hg,hz,_⟩;have e:Ky ns=ps:=by
   unfold Ky;rw[eb,eN,<- hS]
  rw[e] at h;exact h ⟨Τ,hg,hz⟩
theorem z3b(A2r):BXc
 | []=>Β
 | FK=>XU sW (z3b f l)
theorem yg8(a b:Δ):jM (sN a) (sN b)=O0 (a<b):=by
 unfold jM
 congr 1
 simp [List.cons_lt_cons_iff]
theorem yj0{x:Μ}(h:A0y):1<=AL_/\AL_<=8/\∀ch∈BIy,97<=ch/\ch<=122:=by
 show Dx T8;show Aym ABk Atg h;refine⟨EJ,h.2.1,CA ch hc⟩;have:=h.2.2 ch hc;unfold aac at Ρ
 show t9
theorem z8w(B7 V8):ϳ zsq:=by
 show AAS x hn;show Cc h1 h8 hc yj0 hn;have s1:=wR;have hl:D6 AL_:=Τ
 show BD ⟨hl,AoP Η ?_⟩ (?_:A9j (Φ (EU AL_<=8)));show õ Η
 refine NK zJ (CI hl);show BV (eF _ (BQX Ty) _);unfold AT5;show Ø;refine Ahy (Ty ∘ Œ (AQT:Μ)) (D9 Az4) a ha
 ·obtain⟨c1,c2⟩:=hc a ha;show BV (A9j (jM (sN a) (sN 97)));rw[yg8,C9 da]
  refine(?_:P [.bl (! jM (sN 122) (sN a))]);rw[yg8,Az8]
  exact hp
 ·refine ë (z3b Ay7 _);show Ts (show((BsB (Fk Κ)).all id)=Κ by simp)
theorem z79(B7 zf9):P7 zsw:=by
 show wn i m h0 h1;refine AoP h0 ?_;show BV (Q (.bl (O0 (i<=m))));show õ h1;exact h
theorem yl2(BEQ Qw):BAb zd0 2:=by
 show AQQ Β m;refine⟨_,_,_,Β,C_,C_,B4,?_⟩
 exact AgZ (fun cs=>(ϸ h))
theorem z9x(Bis):BWF Ai' (.j7 ks us):=by
 unfold IW kZ;show dS
 unfold kZ;show XY
theorem yck(Bis):BWF (xC :Μ) (.JE (Ev m)):=by
 unfold IW kZ;show XY
theorem yos(m:Ψ)(t t' :T):nF IW (Ahw t) Ai' t' = Ahw t':=by
 unfold IW nF;show dS
 unfold nF;show XY
theorem z3o(BEQ V9):BAb zj5 4:=by
 obtain⟨rs,r,Β,Β,N,hn,hu,h⟩:=h;have s1:=wR;have e1:tu AAa BAV=AC:=by
  cases q:tu AAa (wF (oU r)) with
  | AC=>rfl
  | Κ=>
   show Ϣ s hs (aS (J0.mp q));exact vc z9v e (hu s hs)
 show BD ⟨Cl,Β,N.w,DL,Β,N.h,_,_,_,_,Β,Rc yck,UQ,10^12,Β,N.m0,N.m1,vn,A'Q,_,_,_,_,_,Β,Β,Rc z9x,?_⟩ (?_:if tu AAa BAV=Κ then _ else _);rw[e1,dQ];refine⟨.B0 Cl,Agg,_,_,_,_,dr fun r=> ACp,Β,Β,Β,Rc z9x,APi,_,_,Β,?_⟩
 have e1:tu AAa A'Q=AC:=e1;rw[yos];unfold putL tD;show YV (AE' e1) (AE' e1)
 have e2:(T.ob Hc IW [.JE (Ev AOQ),.j7 (AAa++ [A'Q]) ((A2G++ [AWG]).EL ϡ)])=Ud Hc AOQ (rs++ [r]):=by
  unfold Ud;simp only [PM,Ff,Ad2];rfl
 show Ts e2
theorem zot{r:Rw}:∀{rs:BU},BNL ->r∈rs ->wC AAa A2G BAV=Ε (Ev UQ)
 | s::rs,nd,h=>by
  show Ayd nd;show C5 n1 n2 Adq nd;show AZ8;unfold wC;rcases AEk with Β | h
  ·show XY
  ·show APU (A1 (n1 (by rw[z9v z];exact BIs h))) (zot n2 h)
theorem z0a(B7 zdz):ϳ znq:=by
 show wn m rs nd hn;have s1:=wR;have lk:∀(ks:dL) (us:AU) (d:D),kJ IW [d,ACq us] Ai'=Ε (.j7 ks us):=fun ks us d=>by
  unfold IW kJ;show dS
  unfold kJ;show XY
 show BD ⟨Β,_,Rc lk,dr oU,AYs,Azz hn,At ms pm sm⟩ (Ja pairD (Et rs) (Aa' p hp) (h ms pm sm));show AVv r hr (aS (AsR hp));unfold Et at hP;rw[zot nd hr] at hP;exact⟨Β,Β,Β,_,Rc lk,vn,Auq,ACp,Β,zot nd hr,Alu,hP⟩
theorem qw.uniq{qs:BC}{r:Μ}{v v' :AM}(h:AnH)(h' :qw qs r v'):v=v' :=by
 cases h with
 | ABa=>
  generalize e:uV=s at h';cases h' with
  | ABa=>rfl
  | mid=>show L7 aT sM
  | ABb b hb=>show L7 aT sP
 | mid=>
  generalize e:T3=s at h';cases h' with
  | ABa=>show L7 e sM
  | mid=>rfl
  | ABb b hb=>show L7 aT sP2
 | ABb a ha=>
  generalize e:nG=s at h';cases h' with
  | ABa=>show L7 e sP
  | mid=>show L7 e sP2
  | ABb b hb=>rw[ha.unique hb]
theorem zw5{r:Μ}{g:AM}{qs qs' :BC}(h:qs.Perm qs'):oF r g qs=oF r g qs' :=v4 oF h.length_eq (z87 h)
theorem qw.perm{qs qs' :BC}{r:Μ}{v:AM}(p:qs.Perm qs')(h:AnH):qw qs' r v:=by
 cases h with
 | ABa=>rw[z8k p,p.length_eq];exact .ABa
 | mid=>rw[z87 p];exact .mid
 | ABb b hb=>show Ô (z87 p) hb (.ABb b hb)
theorem Lean.perm(AXU){ms Cy :OT}{x x' :EZ}(p:AXI)(G:AJN)(G' :Lean cL Cy x'){r r' :Μ}{g g' :AM}{ps ps' :FH}:(qx r' g' ps' Cy x').xf=ADy:=by
 show Rl (G.g.uniq G'.g (Re p.mem_iff));have pw:∀w,(gA cL w).Lm (gA Ξ w):=HH AzR;have sw:∀(f:Rw ->AM) w,aC (gA cL w) f/ BE (RO gA cL w)=ANU f:=fun f w=>(G0 (zlo (pw w)) (pw w).Aed)
 have e:=yhs G'.g (x:=x) (x' :=x') (fun m hm h hh=>by
  have q:=G.ev m hm h hh;unfold wM at q⊢;rw[Aio zlo ((BJ cL h).Lm (BJ Ξ h)) AzR,<- q];exact mX (AYj (MA sw))) (fun m hm=>by
  have q:=G.em m hm;unfold Qo at q⊢;rw[<- q];exact zlo (FA (A_N (ofM cL m).Lm) AzR)) G'.ev G'.em
 funext h
 unfold IV.xf qx;dsimp only;split
 ·rename_i hh;exact(e h hh).jp
 ·rfl
theorem z01(AXU)(u:IZ)(p:AXI)(x:EZ)(w:Μ):(Cu cL x w).Lm (Cu Ξ x w):=by
 have pk:(kW cL w).Lm (kW Ξ w):=Cb Bpj _ _;unfold Cu;have e:Er x (kW cL w) (mW cL w)=Er x (kW cL w) AUt:=Ajt h hh (by
  show BEV;show BE (yW cL w h).num - _=BE (An1 h num) - _;rw[<- e1,<- e2,Qn (ztr p.symm u) hr,Qn u (Ab_ hr)])
 rw[e];exact pk.map _
theorem zka(AXU)(p:AXI)(w:Μ):isW cL w↔APt:=by
 unfold isW;exact AQ0 ⟨r,h,e⟩ ⟨r,Ab_ h,e⟩ ⟨r,h,e⟩ ⟨r,ArV h,e⟩
theorem wQ.perm(BfQ){r:Μ}{g:AM}{x:EZ}{ws:Υ}{u:EZ}(A:wQ cL r g x ws u):AXT x:=by
 refine Po ⟨A.so.so,HH (hW A.so.wm w (zka p w))⟩ w hw;have q:=z01 uq p x w;rw[<- zw5 q];exact⟨Aa4 A.ok,(A3M).perm q⟩
theorem wQ.uniq{Ξ:BU}{r:Μ}{g:AM}{x:EZ}{ws ws' :Υ}{u u' :EZ}(A:AXT x)(A' :wQ Ξ r g x ws' u'):ws' =ws/\Bao:=by
 show Rl (VJ asT A'.so.so A.so.so (HH (uC A'.so.wm w (X_ A.so.wm w))));exact IC (AFV ((AOL A'.ok).uniq A3M))
theorem zoj{ps:FH}{ws:Υ}{u u' :EZ}(e:Bao):yM ps ws u' =yM ps ws u:=Ajt w hw (MA (e w hw))
theorem z1i(BfQ){r:Μ}{g:AM}{ps:FH}{bd:Jn}{o o' :Out}(h:AyK o)(h' :Res cL r g ps bd o'):outD o' =outD o:=by
 have bad:∀x w,oF r g (Cu cL x w)=oF r g Alo:=fun x w=>zw5 (z01 uq p x w);have Θ:∀{x:EZ} {ws:Υ} {u:EZ} {w:Μ} {f:AN},AXT x ->APt ->BCq Alo ->EM:=fun A hw eb=>by
  rw[(A.ok _ ((A.so.wm _).mpr hw)).1] at eb;show AE eb eb eb eb eb eb eb eb eb eb eb eb eb eb
 cases h with
 | op ms x w f G hw eb ah=>
  cases h' with
  | op Cy x' w' f' G' hw' eb' ah' =>
   rw[č,bad] at eb';have hw' :=Bn3 hw';have e:w' =w:=by
    apply Classical.byContradiction;intro n;cases q:jM w' w with
    | Κ=>show LO (ah w' hw' q) eb' eb' eb' eb' eb' eb' eb' eb' eb' eb' eb' eb' eb' eb' eb'
    | AC=>
     have k:=ah' w ((zka p w).mpr hw) (zvr q n);rw[č,bad,eb] at k;show AE k k k k k k k k k k k k k k
   subst e;rw[eb] at eb';show AE eb' eb' eb' eb' eb' eb' eb' eb' eb' eb' eb' eb' eb' eb'
   rfl
  | ba Cy x' ws' u' G' A' =>
   have A' :=A'.perm uq p;rw[č] at A';exact Bb6
  | ma Cy x' ws' u' G' A' =>
   have A' :=A'.perm uq p;rw[č] at A';exact Bb6
 | ba ms x ws u G A gd=>
  cases h' with
  | op Cy x' w' f' G' hw' eb' ah' =>
   rw[č,bad] at eb';exact Bb5
  | ba Cy x' ws' u' G' A' gd' =>
   have A' :=Aoh;rw[č] at A';show C5 Β e Asi A';rw[zoj e]
  | ma Cy x' ws' u' G' A' gd' =>
   have A' :=Aoh;rw[č] at A';show C5 Β e Asi A';rw[zoj e,gd] at gd';show AE gd' gd' gd' gd' gd' gd' gd' gd' gd' gd' gd' gd' gd' gd'
 | ma ms x ws u G A gd=>
  cases h' with
  | op Cy x' w' f' G' hw' eb' ah' =>
   rw[č,bad] at eb';exact Bb5
  | ba Cy x' ws' u' G' A' gd' =>
   have A' :=Aoh;rw[č] at A';show C5 Β e Asi A';rw[zoj e,gd] at gd';show AE gd' gd' gd' gd' gd' gd' gd' gd' gd' gd' gd' gd' gd' gd'
  | ma Cy x' ws' u' G' A' gd' =>
   have A' :=Aoh;rw[č] at A';show C5 Β e Asi A';rw[zoj e];show Ct (AHE BiU=AHE BiU);show ck (Ht ws' (é (AOK u')) (brs BLf bd)=Ht ws' (é (AOK u)) (brs BLf bd)) (Ajt w hw (by simp only [e w hw]))
theorem zml(B7 zbn):AZ' zfd 1:=by
 show a_ S bs Β hq;exact IS Β (IK bs) hq
theorem zxu(AbU)(f:AYm):∀(l:CU) (k:Δ),(E_ f).BIW k=Cb AtH k f
 | [],_=>Β
 | Db,0=>Β
 | FK,k+1=>T_ (f a:: ·) (zxu f l k)
theorem zst(Anc):∀{l:CU} {k:Δ} (h:k<GY),([l[k]]++AtH k).Lm l
 | FK,0,_=> lP
 | FK,k+1,h=>(List.Perm.swap a _ _).EC ((zst (l:=l) (k:=k) (Nat.lt_of_succ_lt_succ h)).AX a)
theorem zzx(B7 zdy):Sn znm 7:=by
 obtain⟨ns,A,z,Β,hn,hA,hz,h⟩:=h;have s1:=wR;have la:De A.map uG=A.length:=BJm;refine DM LU ⟨mt la,mt la⟩
 rw[la,kQ];refine i5 (∃(L M:BU) (y5 y6:GG),Γ= [AkF,.pu (eG A),AJk,.ow (kN uG),.ow (M.map uG),y5,y6]/\ (L++M).Lm A/\M.length=i) ⟨A,[],_,_,Β,MA UE,Β⟩
 ·rintro i _ hi ⟨L,M,y5,y6,Β,pm,hm⟩;have ll:=Ase;rw[N1] at ll;have e12:(Ï).KF 12=EU (i % 12):=mt A3R
  refine⟨gT 12,ns,z+i % 12,?_,hn,Τ,?_⟩
  ·refine(?_:A'T (B' z+ (Ï).KF 12));rw[e12];rfl
  generalize bJ ns (z+i % 12)=y;have d12:0<=Axy/\ Axy<=100:=mt A3S
  show Cc k ek hk (Nx (i:=BQS+ Ï) (n:=ATb)) Η
  refine⟨E4,E4,ARt 12,AHm AWq,Sj,?_,kN uG,k,uG L[k],Β,?_,?_,?_,?_⟩
  ·show BOR≠0;show NR;show Ω
  ·show uS [HE ((BQS+ Ï).KF BOR)];show Æ ek
  ·show Agd (ku hk);rfl
  ·show NR;show Ω
  ·refine⟨APi,L.eraseIdx k,M++ [L[k]],Aja,EG y,?_,?_,BK0 hm⟩
   ·refine(?_:[BSc,.pu (eG A),AJk,.ow ((kN uG).BIW k),.ow (M.map uG++ [uG L[k]]),Aja,EG y]=_);rw[PM,zxu];rfl
   ·show BD (List.Perm.trans ?_ pm) (List.perm_append_comm.trans ?_);rw[x5];exact((zst hk).append_left M).EC Bpa
 ·rintro _ ⟨L,M,y5,y6,Β,pm,hm⟩;have ll:=Ase;rw[N1] at ll;show FB (L= []) (Atz Η)
  exact h M pm
theorem ym8(ls:AJm):toD (V2 ls)= .B_ Aaw:=by
 have Ap:∀ls:AJm,jT (ASe fun l=>T.lst (Cb E_ HE ϡ))=ASe rD:=by
  intro ls;induction ls with
  | C3=>rfl
  | AX l ls ih=>
   show AZ8;refine(?_:toD (E3 BSX)::jT _=_);rw[ih,yat];rfl
 unfold V2;show Ct (ħ (jT _)=_);rw[Ap]
theorem yop(bs:mw):Km (E3 (ADl x6 bD)):=by
 show Ct (tE _);induction bs with
 | C3=>trivial
 | AX b bs ih=>
  refine⟨?_,ih⟩;cases b with
  | Θ=>trivial
  | Ε q=>exact yhx q
structure ab4 (Ο):Ι where
 o:mL K P_
 b:mL K SW
 oo:BRq
 bo:BTZ
 bb:BRp
theorem ya0(AZ_):De Qu ns=Bbr:=by unfold Qu;show A1R
theorem zxi(B7 zdd):Sn zkv 5:=by
 show AAS ns hn;have s1:=wR;refine⟨LU,ns,53,Β,hn,Τ,gT 4,?_⟩
 have f4:=hV (bJ ns 53) 4 Χ
 refine CI AVK
 refine i5 (∃y2 y3 y4:GG,Γ= [AkF,.ow (Cb (MS i) (F8 (AiK (54+j))) Kv),y2,y3,y4]) A_D
 ·rintro i _ hi ⟨y2,y3,y4,Β⟩;refine⟨ns,54+i,Aka (A'T (54+ Ï)) (AYe (54+ Ï) (54+i)),hn,Τ,?_⟩
  have er:MS DU BKW=MS i BKW++ [AiK (54+i)]:=È ASq PM
  generalize bJ ns (54+i)=z at er⊢;show ARJ k ek hk (jn 9) 4
  obtain⟨M,eM⟩:∃M:Ψ,n6 BgM ((jn 9).KF 4)=Ε (Ev M):=by
   show ck ((jn 9).KF 4=Fu) ek
   match k,hk with
   | 0,_=>exact FF (AIe 0)
   | 1,_=>exact FF Alr
   | 2,_=>exact FF (AIe 2)
   | 3,_=>exact FF (AIe 3)
  have dv:BdG 100:=BbU
  show uA ⟨AYw,AbM 3,AYw,AMv,Aa7 (ACn 4) (AV2 (hV z 3 Χ)),?_⟩ ⟨E4,AbM 36,gT 7,ANd 4,AbM 9,gT 4,_,eM,vn,BJr,?_⟩ ⟨Aja,AJk,EG (AZ6* Abu),?_⟩;rw[er,PM,show Ub z=(AZ6* Abu,AZ6* Abu+M) by unfold Ub;rw[eM]]
  rfl
 ·rintro _ ⟨y2,y3,y4,Β⟩;exact h (ş ya0) (ş ya0)
theorem z49(B7 zex):P7 zql:=by
 show AAS ns hn;have s1:=wR;refine⟨ns,58,Β,hn,Τ,?_⟩
 show Dx Nv;generalize bJ ns 58=z at h⊢;show ARJ k ek hk z 3
 obtain⟨r,eM,hr⟩:∃r:Μ,n6 Bd2 (AtQ 3)=Ε (.AO r)/\wO r:=by
  show ck (AtQ 3=Fu) ek
  match k,hk with
  | 0,_=>exact ET (AIe 0) APm
  | 1,_=>exact ET Alr (.B0 XI)
  | 2,_=>exact ET (AIe 2) (ANe Β)
 rw[eM] at h;have dv:BdG 200:=BbU
 have g40:=hV (jn 3) 40 Χ
 have g3:=A4Q 120 Χ
 refine⟨Alu,AYw,_,eM,AbM 3,gT 40,AbM 120,AYw,_,_,Β,AWq,AWq,Τ,vn,h hr ?_⟩
 exact(Qi (n:=60) Η (BBx (((jn 3).KF 40).ABt<=40)) (BBx (cr (1+ AH9 120)<=3))).up Χ
theorem z4d(AuM){ds Q Ex}(C:ab4 K c)(h:Uc c ds Q Ex):Sn zrc 7:=by
 show wn ns Ξ hn O;have s1:=wR;have n3:qa 3:=Τ
 show BD (A6_ (fun hr zg=>A6a)) (A6_ (fun P=>⟨Ky ns,Β,BWg P.sz P.sz,?_⟩))
 show DF (z1e P.gd P.len);refine A6_ (fun b0 b12=>⟨Ξ,_,_,Ky ns,Qu ns,Β,Β,O,hr,zg,P,b0,Τ,fun ms x G=>⟨fun w f hw hb ah t' => ?_,fun ws u A=>⟨CA g0 t',At g1 uW S⟩⟩⟩)
 ·exact⟨P_,_,_,Β,C.o,QD C.oo fun as=>⟨_,_,_,_,Β,Β,_,_,_,_,Β,Β,n3,h _ (.op ms x w f G hw hb ah)⟩⟩
 ·show To ⟨SW,_,_,Β,C.b,NK (EQ C.bo zJ) ⟨C.bb,fun as=>⟨_,_,_,_,Β,Β,n3,?_⟩⟩⟩ (Q (KP [.AO z6d,toD (V2 (uE (yM (Ky ns) ws u) (Qu ns))),BS]));rw[ym8];exact h _ (.ba ms x ws u G A g0)
 ·refine Po BYD a as
  let S' :=stS c (qx Aob Aom (Ky ns) ms x) uW ws (kW Ξ) AxA u
  have zs:AXC (PZ (ur (Ky ns) (u w))):=AFV (z7j P.gd P.sz (((A3M).ok (G.lv O _ _ _ w) (zzf (Aa4 A.ok))).up Χ))
  refine⟨Β,B4,S'.pl,ws,_,_,BlA,zxw ws _,S.so,S.few,zs,S.bz,Rc ymx,?_⟩
  show To ⟨Β,B4,S'.pl,_,BlA,yop _,n3,?_⟩ (Q (KP [.AO Gq,A5a (Ht ws (é (ur (Ky ns) (u w))) _).EL,A5a (_:AU).EL]));rw[yat,yat];exact h _ (.ma ms x ws u G A g1)
theorem yj2{n:Δ}(ls:AJm):nA (n+2) (E3 Aaw) (E3 Aaw):=by
 show AGP;show AQz;show AGR;rw[Fh] at h1;cases q1:ls[i]? with
 | Θ=>show ArT
 | Ε l=>
  rw[q1] at h1;show BFG;show BBQ;rw[g1] at g2;show AE g2 g2 g2 g2 g2 g2 g2 g2 g2 g2 g2 g2 g2 g2;rw[Fh] at g1;cases q2:l[j]? with
  | Θ=>show LO q2 g1 g1 g1 g1 g1 g1 g1 g1 g1 g1 g1 g1 g1 g1 g1
  | Ε a=>rw[q2] at g1;show AE g1 g1 g1 g1 g1 g1 g1 g1 g1 g1 g1 g1 g1 g1;exact AMv
theorem yk6{n:Δ}(bs:mw):nA (n+2) (IK bs) (IK bs):=by
 show AGP;show AQz;show AGR;rw[Fh] at h1;cases q1:bs[i]? with
 | Θ=>show ArT
 | Ε q=>
  rw[q1] at h1;show BEy;cases q with
  | Θ=>simp [bD,nA,BX]
  | Ε q=>exact yob q q
theorem yar(o:Out):nA 20 (outD o) (outD o):=by
 cases o with
 | op w f=>
  show AGP;show AQz;show AGR
  match i with
  | 0=>show ASA
  | 1=>show ASA
  | 2=>show ASA
  | i+3=>simp at h1
 | ba ls=>
  show AGP;show AQz;show AGR
  match i with
  | 0=>show ASA
  | 1=>
   show FB (ħ Aaw=x) (zF h1);exact yj2 ls
  | 2=>show ASA
  | i+3=>simp at h1
 | ma ws v bs=>
  show AGP;show AQz;show AGR
  match i with
  | 0=>show ASA
  | 1=>
   show FB (ħ AqW=x) (zF h1);exact ynk ws v bs
  | 2=>
   show FB (IK bs=x) (zF h1);exact yk6 bs
  | i+3=>simp at h1
theorem oG.perm(AXU)(p:AXI)(O:AP1):oG cL :=YO U hU hr O.hs ⟨ztr p.symm O.u,NN p.length_eq O.few,⟨U,hU,BWK hr⟩,BWK O.mm⟩
theorem zqc{Ξ:BU}(u:IZ):mr AdQ oU:=by
 unfold ATi;rw[ĵ];exact u.imp fun h z=>h (AGb z)
theorem ym6(a b:P2)(h:AWR):¬yx b a=Κ:=lh z2a h zJ
theorem ypq(B7 z1r):Sn yby 9:=by
 show AAS ns hl;have s1:=wR;show ARJ t4 e4 h4 (bJ ns 0) 4
 show ARJ t7 e7 h7 (bJ ns 1) 7
 refine⟨ns,0,Β,hl,Τ,gT 4,ns,1,Β,hl,Τ,gT 7,ns,1+t4,t7,?_,hl,Τ,Τ,Τ,fun Ξ U few hU hr uq nm=> ?_⟩
 ·refine(?_:[ħ _,HE (1+ AVP 0 4),HE (AW3 1 7)]=_);rw[show AW3 0 4=B' t4 from e4,show AW3 1 7=B' t7 from e7,AdX];rfl
 have O:AP1:=⟨uq,few,⟨U,Τ,hr⟩,c_ (by have:=(nm r hr).m0;have:=(nm r hr).m1;show Ω)⟩
 refine⟨ns,Ξ,Β,hl,O,CA o ho⟩
 let G:vS GG GG GG GG GG GG G2:=fun y3 y4 y5 y6 y7 y8=> [AkF,ADL,.pu (outD o),y3,y4,y5,y6,y7,y8]
 have n2:qa 2:=Τ
 refine CI n2;show ø (A'o [HE 30,.AL 34]) ⟨L3 Γ (∃y3 y4 y5 y6 y7 y8,Γ=G y3 y4 y5 y6 y7 y8),Bfz,?_,?_⟩
 ·rintro i d _ hi ⟨y3,y4,y5,y6,y7,y8,Β⟩;obtain⟨z,Β,hz⟩:∃z:Δ,d= .AL z/\z<=100:=by
   match i,hi with
   | 0,hi=>show AVu;exact⟨30,Β,B4⟩
   | 1,hi=>show AVu;exact⟨34,Β,B4⟩
  refine⟨ns,Ξ,z,Β,hl,Τ,hz,CA B pm⟩
  refine⟨Bgt,Β,_,Β,BYD,CA a as⟩
  have ub:Uq B:=ztr pm uq;have kb:=zqc ub;have lb:B.length<=40:=CL Ase few
  show ø (A'o (B.map uG)) (i5 (∃as y6 y7 y8,Γ=G BKq BSv (BRl (B.take i)) y6 y7 y8) BbC)
  ·rintro i d _ hi ⟨as,y6,y7,y8,Β⟩;have hi' :i<B.length:=Ϛ ÿ
   show AgW;show AE hi hi hi hi hi hi hi hi hi hi hi hi hi hi;have tk:=zk0 hi';have hb:B[i]∈B:=yU hi';have ABo:∀s∈B.take i,oU s≠oU B[i]:=fun s hs e=>by
    have q:=kb;show Ayo (AXs B) PM q;refine q.2.2 _ (BIs hs) (oU B[i]) ?_ e;show A6S;exact zY
   generalize B[i]=r at tk hb ABo⊢;refine⟨Β,Β,k9 _ _ B4,a,as,_,Β,B.take i,r,Β,Β,A4G nm hb,BLM,ABo,fun cs=>⟨cs,c0 Cl,c0 DL,EG UQ,?_⟩⟩
   rw[tk];rfl
  ·rintro _ ⟨as,y6,y7,y8,Β⟩;show BKv;refine(?_:zrb K c _ (G BKq BSv (BRl B) y6 y7 y8) _);refine⟨Β,B4,10^12,B,?_,kb,Τ,fun ks p1 o1=>(BaK (At ms p2 o2))⟩
   ·refine(?_:[D.obj Hc IW [.AL AOQ,.j7 (B.map fun r=>Auq) (jT (ADl B.map (Re AWG)))]]=_);rw[Uj];rfl
   have ek:ks=Q1 oU:=VJ ym6 o1 (List.pairwise_map.mpr o2) (VS (p1.mem_iff.trans ((pm.map oU).mem_iff.trans (p2.map oU).mem_iff.symm)));have er:ABZ (Et B)=Q1 uG:=by
    rw[ek,Q3];refine AgD r hr;show BV (Et B (oU r)=_);unfold Et;rw[zot kb (pm.mem_iff.mpr (p2.mem_iff.mp hr))];rfl
   show APp (sU (E3 (ABZ (Et B))) (E3 (Q1 uG)) _) er (CI (ydj ms ms));rw[Ro];refine Bgf B;rw[Bgw];refine CI (yar o);rw[Ro];exact Bfz
 ·rintro _ ⟨y3,y4,y5,y6,y7,y8,Β⟩;refine BaK (fun ms pm so=>(Bgf ms))
  rw[Bgw];refine CI (yar o);show Ts Ro
#print _3
namespace _Lw
open II Os J' _2 _3
seal QE QF QT QW QA QS rM QG XC QI Vg O9 QIg QO QR QRA QN QRN
theorem bR{k:Δ}{A:BM}{e:Env}(hr:AfJ k e):BkS e:=AFJ
theorem mY{us:Au}{n:Δ}(h:o6=n+1):∃a r,us=a::r/\Sf=n:=by
 cases us with
 | C3=>show OZ
 | AX a r=>exact IS a r (Nat.succ.inj h)
theorem len1{us:Au}(h:o6=1):∃a0,us= [a0]:=by
 show ASN;show Rl (AAw h0);exact AUZ a0
theorem len2{us:Au}(h:o6=2):∃a0 a1,us= [a0,a1]:=by
 show ASN;show Abv;show Rl (AAw h1);exact⟨a0,a1,Β⟩
theorem wU{us:Au}(h:o6=3):∃a0 a1 a2,us= [a0,a1,a2]:=by
 show ASN;show Abv;show Aqx;show Rl (AAw h2);exact⟨a0,a1,a2,Β⟩
theorem aak{us:Au}(h:o6=4):∃a0 a1 a2 a3,us= [a0,a1,a2,a3]:=by
 show ASN;show Abv;show Aqx;show AUo a3 u3 h3 h2;show Rl (AAw h3);exact⟨a0,a1,a2,a3,Β⟩
theorem ab5{us:Au}(h:o6=5):∃a0 a1 a2 a3 a4,us= [a0,a1,a2,a3,a4]:=by
 show ASN;show Abv;show Aqx;obtain⟨a3,u3,Β,h3⟩:=mY h2;show AUo a4 u4 h4 h3;show Rl (AAw h4);exact⟨a0,a1,a2,a3,a4,Β⟩
theorem ab6{us:Au}(h:o6=6):∃a0 a1 a2 a3 a4 a5,us= [a0,a1,a2,a3,a4,a5]:=by
 show ASN;show Abv;show Aqx;obtain⟨a3,u3,Β,h3⟩:=mY h2;obtain⟨a4,u4,Β,h4⟩:=mY h3;show AUo a5 u5 h5 h4;show Rl (AAw h5);exact⟨a0,a1,a2,a3,a4,a5,Β⟩
section
variable(P:A2)(w:An)(K:AB)(mg:ER)(DI:AQ)(c:Cls)
abbrev QH:Ι:=BeP
abbrev zjy:Ι:=Bfv
abbrev zs5:Ι:=Bec
abbrev Uo:Ι:=BVb
abbrev zp2:Ι:=BZz
abbrev zcf:Ι:=BjR
abbrev zft:Ι:=Bav
abbrev zsc:Ι:=BVc
abbrev Wk:Ι:=Bef
abbrev zfo:Ι:=BeS
abbrev znr:Ι:=BeT
abbrev zs3:Ι:=Bhy
abbrev zy3:Ι:=BS9
abbrev zvc:Ι:=Bbk
abbrev zok:Ι:=BS_
abbrev zjr:Ι:=Bax
abbrev z8x:Ι:=BTA
abbrev z0t:Ι:=Bbm
abbrev zet:Ι:=Bae
abbrev z1w:Ι:=Bbl
abbrev zyx:Ι:=BhD
abbrev zqs:Ι:=Baf
abbrev zlk:Ι:=Bai
abbrev zcs:Ι:=Be1
abbrev zdb:Ι:=BSH
abbrev zo0:Ι:=Bek
abbrev zz2:Ι:=BfI
abbrev zh8:Ι:=Baq
abbrev zji:Ι:=BhE
abbrev zh4:Ι:=Bfw
abbrev zd3:Ι:=BiG
abbrev zm7:Ι:=BeU
abbrev zmn:Ι:=Bag
abbrev zjk:Ι:=Bi5
abbrev zh2:Ι:=Bhc
#where
section
variable{P:A2}{w:An}{K:AB}{mg:ER}{DI:AQ}{f:Ζ}{fd:FS}{cdv:AI}{A:BM}{Ch:L_}{s:AD}{H:Hp}{E:XK}{F0:Hp}(c:Cls)
theorem tH:DC [ABU,BGb,"_law_letters","_law_size",Adf,Bpq,ALU,"_law_name","_law_j",Bpr] [ABU,BGb] zj1:=BF
theorem zxd(F:A_ AcL AcL zj1)(hm:Cf AcL)(bU:Ϯ)(qM:AjQ):BeO:=
 ⟨f,fd,Bz gY tH zyl zhx (by
  have nd:=tH.nd;have hu:=bR hr;exact(bT  (NF 2 (A3 DQ))  (ND (Bbu By) (AV4 (oC lj A0f aR (NG BOD)) (VU 4 nj (ACj By) HK) (ARU 5) (ARX A5 6 (OM (NF 7 (A3 DQ)) (ARX (sA HK (zt Ź (BCR (AQ9 A0f aR)))) 8 (ND (VU 9 nj (sA (sA (kl rO (ACj By)) (kl rO (zt AEj AEj))) (kl rO AEj)) aR) (NG (VU 7 qU Ϫ (UP DO (k_ (sA Aih (zt Ź (BCR (z1x (AQ9 AEj P5) (Xx (GR AYr A0f aR ON)))))))))))) (A5' 5 Ϫ))) (oB 5))))) (B8 zzk),hm,C8,BY (by show FC;exact Β)⟩
theorem uX:DC [ME,ALU,Bpr] [ME,ALU] zmz:=BF
theorem zy4(F:A_ AcM AcM zmz)(hm:Cf AcM)(aU:OX):BeP:=
 ⟨f,fd,Bz gY uX z41 zqq (by
  have nd:=uX.nd;have hu:=bR hr;exact(bT  (oC AXm A5 uu (cE (fW By A5) qS))  (OM (VU 2 qU BMG aR) (oC AJW uu aR (NG (VU 2 nj (sA (kl rO (UP By (APf BMG uu))) (kl rO A5)) aR))) (cE (bM (D9 nj) (zt DO DO)) aR)))) (B8 z4w),hm,C8,BY (by show FC;exact Β)⟩
theorem qN:DC AyR AyR zhv:=BF
theorem zvo(F:A_ AcN AcN zhv)(hm:Cf AcN):Bbe:=
 ⟨f,fd,Bz gY qN zwu zgp (by
  have nd:=qN.nd;have hu:=bR hr;exact(bT  (oC lj By aR (z_ (A3 (GR AJW (k_ P5) aR ON))))  (OM (oC lj By aR (z_ (A3 (yo6 (AQ9 DO (APf A5 HK)) (Xx (AQ9 DO (APf (AJn A5) HK))))))) (oC lj By aR (z_ (A3 (z1x (AQ9 (k_ A5) (k_ DO)) (Xx (GR AJW (k_ P5) aR ON)))))) AaC))) (B8 zx8),hm,C8,BY (by obtain⟨_,_,_,_,_,Β⟩:=ab5 hl;exact Β)⟩
theorem uY:DC [ME,Asn,BGW,"_law_way","_law_most",Bpq,"_law_people",AGo,"_law_w","_law_h",ABU,"_law_turn"] [ME,Asn,BGW] zmf:=BF
theorem z0j(F:A_ AcO AcO zmf)(hm:Cf AcO)(mD:BeO)(aL:ANt)(oH:Bbe)(bU:Ϯ)(aU:OX):Bfv:=
 ⟨f,fd,Bz gY uY z4t zgv (by
  have nd:=uY.nd;have hu:=bR hr;exact(bT  (VU 3 nj AM8 aR)  (OM (NF 4 (BG (fW (iJ  (BG Az (Bbd BQu))) AV7) qS)) (sD 5 mD AM8 DO) (AV4 (sD 6 mD AM8 A5) (ARU 7) (ARX DO 8 (NG (ARX A5 9 (ND (AZy 10 (sA (AN8 (zt AEj A5)) Aih)) (ARn Ax (AHR oH (aA HK (aA AEj (aA Aih (AWh (qv 10)))))) (BM1 7 (Ŗ (UP m4 AEj) (UP Ź Aih) (APf (ACj (qv 10)) P5)))))))) (VU 11 nj (ACj AM8) (AJn (A8K Ϫ))) (cE iJ (A3 (zs1 (iJ  (BG (Jw Ϫ (Ge (qv 11))) Ly)) (iJ  (BG (Jw Ϫ Ly) (Ge (qv 11))))))))))) (B8 z5g),hm,C8,BY (by show Č;exact Β)⟩
theorem pO:DC [BGe,BGf] [BGe,BGf] zgc:=BF
theorem zr2(F:A_ AcP AcP zgc)(hm:Cf AcP)(qO:AjR):BeQ:=
 ⟨f,fd,Bz gY pO zvl zjf (by
  have nd:=pO.nd;have hu:=bR hr;exact(bT  (NF 0 (BG BAm cn))  (OM (AEu (BG BAm g9)) (A3 (z2x  (A3 (sE AJW A5 aR ON))  (fh (ynw (i:=0) (j:=1) Β nd Β Β Χ Β Β (AWh (APf By A5))) Β))) (oB 0)))) (B8 zve),hm,C8,BY (by show FC;exact Β)⟩
theorem wV:DC [BGX,BGY,"_law_by"] [BGX,BGY] zpk:=BF
theorem z5i(F:A_ AcQ AcQ zpk)(hm:Cf AcQ)(mZ:BeQ):Bec:=
 ⟨f,fd,Bz gY wV ya6 zsf (by
  have nd:=wV.nd;have hu:=bR hr;exact(bT  (A_E mZ)  (ND (oC AXm A5 aR (NG (VU 2 Ir aR DO))) BXK))) (B8 z7g),hm,C8,BY (by show FC;exact Β)⟩
theorem uZ:AkY [ME,ABU] znb:=BF
theorem zz3(F:A_ AcR AcR znb)(hm:Cf AcR)(aL:ANt)(jo:CH zs5):BVM:=
 ⟨f,fd,Bz gY uZ z5d zql (by
  have nd:=uZ.nd;have hu:=bR hr;exact(bT  (AZy 1 aR)  (cE yd (LL (UP (AI9 Az (Ŗ DQ DQ DQ)) (k_ A5)) (OL jo (AU7 A5) (AN8 (AU7 A5))))))) (B8 z49),hm,C8,BY (by show P1;exact Β)⟩
theorem Cz:Abw z0b:=BF
theorem yd6(F:A_ AcS AcS z0b)(hm:Cf AcS):BVb:=
 ⟨f,fd,Bz gY Cz yj1 z17 (by
  have nd:=Cz.nd;have hu:=bR hr;exact(AfV (A3 (GR AXm AAk A9K ON)))) (B8 ylb),hm,C8,BY (by show FC;exact Β)⟩
theorem Ac:DC AKD [ALY,AGp] ztp:=BF
theorem z8t(F:A_ AcT AcT ztp)(hm:Cf AcT)(cF:CH Uo):Bed:=
 ⟨f,fd,Bz gY Ac ycf zyi (by
  have nd:=Ac.nd;have hu:=bR hr;exact(AfV (A3 (z1x (OL cF lT AHg) (Xx (ym5 (OL cF AHg lT))))))) (B8 yeh),hm,C8,BY (by show FC;exact Β)⟩
theorem u6:DC [ZY] [ZY] zi4:=BF
theorem z0l(F:A_ AcU AcU zi4)(hm:Cf AcU)(wW:Bed)(Ad:Azh)(aU:OX)(jh:AJi):BZz:=
 ⟨f,fd,Bz gY u6 z3x zqo (by
  have nd:=u6.nd;have hu:=bR hr;exact(sf (z1x (GR AJW uu aR ON) (Xx (Ň (ync Β) Ad boot_all (Hn (IG (yG (BA:= AKD) (N' := AKD) (by show BV (eV [ZY] _ AKD [] (aY zi4) AKD);exact⟨Β,AK,AK,AK,Β,AK⟩) Β  (BG rP (Ć Vm jh (LL By (AI9 (Jw By (Ge aR)) Ly))))  (yv (Ga Β (rN (ACQ (W_ AKD) Β Do) (rN (ye 1 (W_ AKD) Β Do) FZ))))  Md  (đ wW ARc))))))))) (B8 z4y),hm,C8,BY (by show P1;exact Β)⟩
theorem mF:ANy AxB ZY Wn:=BF
theorem zmo(F:A_ K0 AdD Wn)(lB:CH zp2)(tK:Azg)(bQ:AN0)(aO:AhA):US fU So 4 f fd AxB (wg K ja ZY (T5 c)):=by
 have nd:=mF.nd;refine yin F Β mF bQ aO Β AXj (ABy yjf) (AuL ?_);have hu:AKc AdD Wn:=AFJ
 exact⟨Β,zf6 K c,zem K c,JO (qI  (BG G3 (Ax (AYP lB)))  AKL  Ae4),
 JO (yy (zox (D9 ykw) Β tK boot_tuple) A5),fun a ds Q Ex h=>yks h⟩
theorem zm6(F:A_ K0 AdD Wn)(M:Mk K ja f)(hm:gN WE ja)(lB:CH zp2)(tK:Azg)(bQ:AN0)(aO:AhA):BjR:=
 ⟨f,fd,zmo c F lB tK bQ aO,M,hm,BY (by show FC;exact Β)⟩
theorem Gw:DC [AGq,eS] [AGq,eS] z1q:=BF
theorem yio(F:A_ AcV AcV z1q)(hm:Cf AcV)(Ae:Azi):BeR:=
 ⟨f,fd,Bz gY Gw yov z6x (by
  have nd:=Gw.nd;have hu:=bR hr;exact(sf (yy (Ň (yn4 Β) Ae boot_any) (IG (yG (BA:= [HQ]) (N' := A1l) (by show BV (eV AmU _ [HQ] [0] (aY z1q) A1l);exact⟨Β,AK,AK,AK,Β,AK⟩) Β  (BG rP (yt A5))  (MB A1l)  Md  (yv (GR Ay8 By A5 AJS))))))) (B8 ymp),hm,C8,BY (by show FC;exact Β)⟩
theorem Af:DC BhJ [ALZ,eS] zof:=BF
theorem yba(F:A_ AcW AcW zof)(hm:Cf AcW)(Bp:BeR)(bK:s_)(aX:ADM)(Ag:Azj):Bee:=
 ⟨f,fd,Bz gY Af yfp zv3 (by
  have nd:=Af.nd;have hu:=bR hr;exact(bT (AXi (AKd 2 (BA:= [AGq]) (N' := AmU) (by show BV (eV BhJ _ [AGq] [1] (aY zof) AmU);exact⟨Β,AK,AK,AK,Β,AK⟩) Β  (BG rP (yt By))  (MB AmU)  (AEw (AKY (ACb Bp A5)))  AGH))  (OM (A9l g9) (ARQ 0 (Å 4) (ARn Ax (OL Bp P5 A5) (AvM 3 z86 Bry PySem.F.type_list_extend (A3 (aA P5 aN))))) (cE iJ (A3 (zs1 DO (iJ  (Ak8 (IG (ye6 Β Β aX Β Ag Azx)))))))))) (B8 yc0),hm,C8,BY (by show FC;exact Β)⟩
theorem wX:A0t [SZ,Nl,Mn,HQ,KG] zqy:=BF
theorem z4i(F:A_ AcX AcX zqy)(hm:Cf AcX):Bav:=
 Aju (Bz JM wX z7c zsu (by
  have nd:=wX.nd;have hu:=bR hr;exact(bT  (AHP yac 1 Ain)  (ND (ARQ 0 (A3 (Ga Β (rN (AfB 2) (AgV 3 4)))) (ND (AUK (A3 (ylr (i:=1) ir  Akj Β Do)) (NG (A3 (ynb (i:=1) (j:=2) ir Β Do Β Do  Ain)))) (Afh (ymc (i:=1) (j:=2) (l:=3) ir Β Do Β Do Β Do  (r6 4))))) (fh Yu BaA)))) (B8 yap))
theorem Ah:A0t [SZ,ALZ,Z_] zu2:=BF
theorem z8f(F:A_ AcY AcY zu2)(hm:Cf AcY)(wY:Bee)(dH:CH zft)(aX:ADM)(bK:s_):Baw:=
 Aju (Bz JM Ah yd1 zwg (by
  have nd:=Ah.nd;have hu:=bR hr;exact(bT  (AEu (ADz Az aN))  (ND (A3 (X5 Β  (BG z92 (AHT zup dH cn))  AY5  (NG (sD 1 wY A5 (AI9 (BlX (yi3 Β)) Ajl))))) (fh Yu (ABw yif (Bns (yo4 hu)) g9))))) (B8 yci))
theorem wZ:DC [ALV,UB,"rest"] [ALV,UB] zo2:=BF
theorem z4z(F:A_ AcZ AcZ zo2)(hm:Cf AcZ)(qO:AjR):BVc:=
 ⟨f,fd,Bz gY wZ ya8 zsi (by
  have nd:=wZ.nd;have hu:=bR hr;exact(bT  (A3 (z2x  (A3 (sE AYr A5 aR ON))  (OM (VU 2 nj By A5) (NF 0 (r6 1)) (NG (AEu Akj)))))  (cE BAm cn))) (B8 z6o),hm,C8,BY (by show FC;exact Β)⟩
theorem tL:DC [kF,BGg,xh] [kF] zgy:=BF
theorem zv2(F:A_ Aca Aca zgy)(hm:Cf Aca)(j6:CH zsc):Bah:=
 ⟨f,fd,Bz gY tL z0g znk (by
  have nd:=tL.nd;have hu:=bR hr;exact(bT  (AEu (A3 aR)) (A3 (bT  (ARQ 0 AY5 (NG (VU 1 rO A5 (ad vp (ACI DO) (OL j6 A5 (ACI DO)))))) (AXh (IG (yG (BA:= [xh]) (N' := A5J) (by show BV (eV [kF,BGg,xh] _ [xh] [1] (aY zgy) A5J);exact⟨Β,AK,AK,AK,Β,AK⟩) Β  (BG rP (yt By))  (MB A5J)  Md  (av (bM (D9 rO) lT) (ad vp A5 lT))))))))) (B8 z0k),hm,C8,BY (by show P1;exact Β)⟩
theorem w6:DC AiO AiO zlq:=BF
theorem z38(F:A_ Acb Acb zlq)(hm:Cf Acb)(jh:AJi):Bbf:=
 ⟨f,fd,Bz gY w6 yag zs2 (by
  have nd:=w6.nd;have hu:=bR hr;exact(sf (IG (yG (BA:= BMl) (N' := ArF) (by show BV (eV AiO _ BMl [0,1,2,3] (aY zlq) ArF);exact⟨Β,AK,AK,AK,Β,AK⟩) Β  (BG rP (Ć Vm jh ARc))  (yv (Ga Β (rN (ACQ (W_ ArF) Β Do) (rN (ye 1 (W_ ArF) Β Do) FZ))))  Md  (av (bM (D9 vp) (ad Ir (zt (UP HK P5) By) (zt BOB A5))) m4))))) (B8 ybt),hm,C8,BY (by obtain⟨_,_,_,_,Β⟩:=aak hl;exact Β)⟩
theorem xq:BaB xc Adi xc zkx:=BF
theorem z34(F:A_ Acd Acd zkx)(hm:Cf Acd)(uJ:Bbf)(d9:AjS):Bhx:=
 ⟨f,fd,Bz gY xq ybs zso (by
  have nd:=xq.nd;have hu:=bR hr;exact(bT  (NF 3 (BG (fW By A5) qS)) (AXh (IG (yG (BA:= BL4) (N' := Aqy) (by show BV (eV [Tx,WN,xc,Adi] _ BL4 [1,2,3] (aY zkx) Aqy);exact⟨Β,AK,AK,AK,Β,AK⟩) Β  (BG rP (Ć zig d9 cn))  (yv (Ga Β (rN (ACQ (W_ Aqy) Β Do) (rN (ye 1 (W_ Aqy) Β Do) FZ))))  Md  (av (A6M DO A5) (AHR uJ (aA A5 (aA P5 (LL DO HK)))))))))) (B8 yb2),hm,C8,BY (by show Č;exact Β)⟩
theorem u9:DC ["top",BGZ,"common"] ["top",BGZ] zmb:=BF
theorem zyr(F:A_ Ace Ace zmb)(hm:Cf Ace)(j6:CH zsc):Bef:=
 ⟨f,fd,Bz gY u9 z47 zpd (by
  have nd:=u9.nd;have hu:=bR hr;exact(bT  (oC lj A5 aR AKL)  (OM (A_E j6) (oC AXm A5 aR (NG (NF 2 (BG Jr DO)))) BXK))) (B8 z5f),hm,C8,BY (by show FC;exact Β)⟩
theorem tM:BaB ATE UB ATE zjx:=BF
theorem zxm(F:A_ Acf Acf zjx)(hm:Cf Acf)(bK:s_):Bi_:=
 ⟨f,fd,Bz gY tM z0c zno (by
  have nd:=tM.nd;have hu:=bR hr;exact(bT  (A9l cn)  (OM (Beb (r6 1) DO) (Beb Akj A5) (oB 3)))) (B8 z0r),hm,C8,BY (by show Č;exact Β)⟩
theorem KD:DC [Tx,WN,ATE] [Tx,WN] ylm:=BF
theorem ynq(F:A_ "led" "led" ylm)(hm:Cf "led")(pP:Bi_)(bU:Ϯ)(aU:OX):Beg:=
 ⟨f,fd,Bz gY KD yo7 ygp (by
  have nd:=KD.nd;have hu:=bR hr;exact(bT  (A3 (yb0 Β Β bU  (A3 (aA A5 (Hn uu)))  (Å 2)  (fh (qI  (A3 (sE AYr (UP (UP By DO) A5) aR ON))  (AQM pP BNW)) Ae4)))  AKL)) (B8 ypd),hm,C8,BY (by show FC;exact Β)⟩
theorem Ai:DC BDR [SZ,Ast] Wo:=BF
theorem ybh(F:A_ Acg Acg Wo)(hm:Cf Acg)(pQ:Bah)(uK:Bhx)(bC:CH Wk)(KH:Beg)(bU:Ϯ)(aU:OX)(jh:AJi)(d9:AjS):Bej:=
 ⟨f,fd,Bz gY Ai ydy zyj (by
  have nd:=Ai.nd;have hu:=bR hr;exact(bT (AXi (AKd 2 (BA:= AQi) (N' := AQi) (by show BV (eV BDR _ AQi [] (aY Wo) AQi);exact⟨Β,AK,AK,AK,Β,AK⟩) Β  (BG rP (Ć Vm jh ARc))  (yv (Ga Β (rN (ACQ (W_ AQi) Β Do) (rN (ye 1 (W_ AQi) Β Do) FZ))))  Md  (đ pQ (Hn (IG (zs1 By (iJ  (BG Az g9)))))))) (A3 (bT  BOD (A3 (bT  (A3 (O4 Β Β bU  (A3 (aA (BAn Ajl) aN))  (Å 4)  (ND (NF 2 (ACN uK (Ŗ (OL KH DO P5) P5 HK))) (NG (NF 3 (BG (fW BOB P5) qS)))))) (AXh (IG (yG (BA:= ARH) (N' := ARH) (by show BV (eV BDR _ ARH [] (aY Wo) ARH);exact⟨Β,AK,AK,AK,Β,AK⟩) Β  (BG rP (Ć zig d9 Ajl))  (yv (Ga Β (rN (ACQ (W_ ARH) Β Do) (rN (ye 1 (W_ ARH) Β Do) FZ))))  Md  (đ bC (LL Am0 (UP A5 By)))))))))))) (B8 yfe),hm,C8,BY (by show FC;exact Β)⟩
theorem pR:BWG zea:=BF
theorem zrm(F:A_ Ach Ach zea)(hm:Cf Ach):BeS:=
 ⟨f,fd,Bz gY pR zu1 zi9 (by
  have nd:=pR.nd;have hu:=bR hr;exact(sf (IG (yG (BA:= [Z_]) (N' := ARG) (by show BV (eV Ϝ _ [Z_] [0] (aY zea) ARG);exact⟨Β,AK,AK,AK,Β,AK⟩) Β  (BG rP (yt A5))  (MB ARG)  (AEw (ynz ir A5 By AJS))  AGH)))) (B8 ztx),hm,C8,BY (by show FC;exact Β)⟩
theorem tO:DC ["step",ĩ] ["step",ĩ] zj2:=BF
theorem zvt(F:A_ Aci Aci zj2)(hm:Cf Aci):BeT:=
 ⟨f,fd,Bz gY tO zy7 znj (by
  have nd:=tO.nd;have hu:=bR hr;exact(AmT (zt4 APW APW AHg By) AHg)) (B8 zys),hm,C8,BY (by show FC;exact Β)⟩
theorem xu:DC A9c A9c Wq:=BF
theorem z3p(F:A_ ASf ASf Wq)(hm:Cf ASf)(iH:CH znr)(Ae:Azi):Bhy:=
 ⟨f,fd,Bz gY xu z6f zss (by
  have nd:=xu.nd;have hu:=bR hr;exact(sf (IG (yG (BA:= [kG]) (N' := Amk) (by show BV (eV A9c _ [kG] [1,2] (aY Wq) Amk);exact⟨Β,AK,AK,AK,Β,AK⟩) Β  (BG rP (yt By))  (MB Amk)  (AEw (Ax (Ň (yn4 Β) Ae boot_any (Hn (IG (yG (BA:= ["start"]) (N' := A9d) (by show BV (eV Amk _ ["start"] [0,2] (yfj _ (aY Wq)) A9d);exact⟨Β,AK,AK,AK,Β,AK⟩) Β  (BG rP (yt A5))  (MB A9d)  Md  (đ iH (LL (ad Ir A5 By) DO))))))))  AGH)))) (B8 ybv),hm,C8,BY (by show Č;exact Β)⟩
theorem Gx:Abw yan:=BF
theorem yh1(F:A_ Acj Acj yan)(hm:Cf Acj)(bC:CH Wk):BS9:=
 ⟨f,fd,Bz gY Gx ymq z5s (by
  have nd:=Gx.nd;have hu:=bR hr;exact(AFv bC (sA AAk A9K) AAk)) (B8 yoz),hm,C8,BY (by show FC;exact Β)⟩
theorem CG:DC [LZ,ASf,xh] [LZ] zzv:=BF
theorem yek(F:A_ Ack Ack zzv)(hm:Cf Ack)(nM:CH zs3)(oJ:CH zy3):Bbk:=
 ⟨f,fd,Bz gY CG ykx z2r (by
  have nd:=CG.nd;have hu:=bR hr;exact(bT  (AEu (BG yd A2h))  (ND (ARQ 0 AY5 (NG (sD 1 oJ A5 DO))) (oB 1)))) (B8 yjr),hm,C8,BY (by show P1;exact Β)⟩
theorem CJ:DC BhI [HQ,UB,Nl] zva:=BF
theorem yc1(F:A_ Acl Acl zva)(hm:Cf Acl)(cA:AzV)(jX:CH zvc)(oJ:CH zy3)(aU:OX):Bf':=
 ⟨f,fd,Bz gY CJ yk8 z2w (by
  have nd:=CJ.nd;have hu:=bR hr;exact(bT  (sD 3 cA A5 (ACb cA DO)) (AAX (BBc (gP (i:=4)) (APv jX (IG (yG (BA:= [Z_]) (N' := Ayw) (by show BV (eV BhI _ [Z_] [] (aY zva) Ayw);exact⟨Β,AK,AK,AK,Β,AK⟩) Β  (BG rP (yt HK))  (MB Ayw)  Md  (av yd (LL AVm BRc)))))) (cE (A6M A5 (OL oJ (AaQ (AMd HK)) P5)) P5)))) (B8 ykm),hm,C8,BY (by show Č;exact Β)⟩
theorem Aj:DC ARg ARg zog:=BF
theorem z9i(F:A_ Acm Acm zog)(hm:Cf Acm)(Bq:Bf'):BgA:=
 ⟨f,fd,Bz gY Aj yc7 zxs (by
  have nd:=Aj.nd;have hu:=bR hr;exact(sf (IG (yG (BA:= [UB]) (N' := A_O) (by show BV (eV ARg _ [UB] [0,2] (aY zog) A_O);exact⟨Β,AK,AK,AK,Β,AK⟩) Β  (BG rP (yt A5))  (MB A_O)  Md  (đ Bq (Ŗ A5 By DO)))))) (B8 yd8),hm,C8,BY (by show Č;exact Β)⟩
theorem CK:Abw z0x:=BF
theorem yfv(F:A_ Acn Acn z0x)(hm:Cf Acn)(bC:CH Wk):BS_:=
 ⟨f,fd,Bz gY CK yi1 z1f (by
  have nd:=CK.nd;have hu:=bR hr;exact(AFv bC (ad Ir AAk A9K) AAk)) (B8 yhq),hm,C8,BY (by show FC;exact Β)⟩
theorem tQ:DC [Z_] [Z_] zj0:=BF
theorem zwx(F:A_ Aco Aco zj0)(hm:Cf Aco)(bC:CH Wk)(KJ:MQ Ĝ)(aU:OX):BZ0:=
 ⟨f,fd,Bz gY tQ zzo znt (by
  have nd:=tQ.nd;have hu:=bR hr;exact(AFv bC (Ć yiq KJ By) BRc)) (B8 zym),hm,C8,BY (by show P1;exact Β)⟩
theorem Ak:BWG zoz:=BF
theorem z6l(F:A_ Acp Acp zoz)(hm:Cf Acp)(jX:CH zvc)(gj:CH zok)(pU:BZ0)(cA:AzV):Bfn:=
 ⟨f,fd,Bz gY Ak yep zxq (by
  have nd:=Ak.nd;have hu:=bR hr;exact(sf (APv jX (IG (yG (BA:= [Z_]) (N' := ARG) (by show BV (eV Ϝ _ [Z_] [0] (aY zoz) ARG);exact⟨Β,AK,AK,AK,Β,AK⟩) Β  (BG rP (yt BMp))  (MB ARG)  Md  (đ gj (LL (AaQ (yay ir By A5)) (AJo pU)))))))) (B8 yfi),hm,C8,BY (by show FC;exact Β)⟩
theorem mG:DC Aq4 [eS,Nl] UL:=BF
theorem zmv(F:A_ Acq Acq UL)(hm:Cf Acq)(xG:Bej)(xH:BgA)(xJ:Bfn)(cA:AzV)(aU:OX):Bfo:=
 ⟨f,fd,Bz gY mG zn3 zfp (by
  have nd:=mG.nd;have hu:=bR hr;exact(bT (AXi (AKd 2 (BA:= [HQ]) (N' := ARg) (by show BV (eV Aq4 _ [HQ] [0,1] (aY UL) ARg);exact⟨Β,AK,AK,AK,Β,AK⟩) Β  (BG rP BUU)  (MB ARg)  Md  (đ xH BNW))) (AAX (RD (A3 (AKd 3 (BA:= [HQ]) (N' := Ϝ) (by show BV (eV Aq4 _ [HQ] [1] (aY UL) Ϝ);exact⟨Β,AK,AK,AK,Β,AK⟩) Β  (BG rP BUU)  (MB Ϝ)  Md  (đ xJ ARc)))) (AAX (RD (A3 (AKd 4 (BA:= [HQ]) (N' := Ϝ) (by show BV (eV Aq4 _ [HQ] [1] (aY UL) Ϝ);exact⟨Β,AK,AK,AK,Β,AK⟩) Β  (BG rP (yt By))  (MB Ϝ)  Md  (av yd (LL (AMd BMp) aR))))) (z_ (AMS xG (IG (zs1 (iJ  (Ak8 P5)) DO)) (IG (zs1 (iJ  (Ak8 (AaQ aR))) HK)))))))) (B8 znw),hm,C8,BY (by show FC;exact Β)⟩
theorem vd:A0t Bi2 zi1:=BF
theorem zzr(F:A_ Acr Acr zi1)(hm:Cf Acr)(xK:Baw)(jq:Bfo)(dH:AjH)(bK:s_)(jh:AJi):Bax:=
 Aju (Bz JM vd z4u zp0 (by
  have nd:=vd.nd;have hu:=bR hr;exact(bT  (AHP yac 1 Ain) (AAX (Ls Β  (ACN xK.fn cn)  AY5 (AAX (BBc (gP (i:=3)) (IG (Ć z2u bK (APv dH.fn (IG (yG (BA:= [kF]) (N' := A3Q) (by show BV (eV Bi2 _ [kF] [2] (aY zi1) A3Q);exact⟨Β,AK,AK,AK,Β,AK⟩) Β  (BG rP (yt By))  (MB A3Q)  (AEw (sE Ay8 lT A5 AJS))  AGH)))))) (NG (A3 (X5 Β  (AWn Vm jh (LL DO (OL jq DO HK)))  (Am' 4 5)  (NG (ABw (ydm (i:=1) ir Β Do  (r6 4)) qv 5))))))) (fh Yu BaA)))) (B8 z4j))
theorem znx:DC [N4,Mn,Ę] [N4,Mn,Ę] zek:=BF
theorem zny(F:A_ K0 BFe zek)(M:Bgs P_)(hm:gN P9 P_)(jY:A3T)(gJ:BNA)(fO:BNB):BlH:=
 ⟨f,fd,z9o F Β znx jY gJ fO Χ AXj AXj AXj (D9 Β) (D9 Β),M.1,M.2,jY,hm,BY (by show Č;exact Β)⟩
theorem CN:Abw zzb:=BF
theorem ycr(F:A_ Acs Acs zzb)(hm:Cf Acs)(bC:CH Wk):BS':=
 ⟨f,fd,Bz gY CN yj7 z03 (by
  have nd:=CN.nd;have hu:=bR hr;exact(AFv bC AAk AAk)) (B8 yhu),hm,C8,BY (by show FC;exact Β)⟩
theorem Gy:Abw z7k:=BF
theorem yil(F:A_ Acu Acu z7k)(hm:Cf Acu)(bC:CH Wk):BTA:=
 ⟨f,fd,Bz gY Gy yoa z81 (by
  have nd:=Gy.nd;have hu:=bR hr;exact(AFv bC AAk AAk)) (B8 ynh),hm,C8,BY (by show FC;exact Β)⟩
theorem xM:DC [ALY,AGp,"x",xh] [ALY,AGp,"x"] zpn:=BF
theorem z4v(F:A_ Acv Acv zpn)(hm:Cf Acv)(Br:BS')(oJ:CH zy3)(gj:CH zok)(uL:CH z8x):Bi':=
 ⟨f,fd,Bz gY xM z80 zsk (by
  have nd:=xM.nd;have hu:=bR hr;exact(bT  (sD 3 Br (OL gj DO lT) BPF)  (z_ (AMS oJ lT (OL uL HK BPF))))) (B8 z6b),hm,C8,BY (by show Č;exact Β)⟩
theorem oW:ANy [N4,"x",ALY,AGp] "x" zfn:=BF
theorem zpa(F:A_ AK1 BFf zfn)(M:Meth K ja AK1 f)(cF:APh)(uM:Bi')(jh:AJi)(bQ:AN0)(aO:AhA):Bhb:=
 Đ (Bz gY oW zr4 zh6 (by
  have nd:=oW.nd;have hu:=bR hr;exact(bT  (Ϲ G3 (Ax (OL cF (ACI (ACI AbB)) A5)) (cE (fW (ACI AbB) aR) qS))  (ND (A3 (X5 Β  (AWn Vm jh (LL AbB (z94 AbB (Ge aR) Ly)))  (Am' 2 3)  (ARn Ax (AmC (ACI HK)) (AQM uM (Ŗ DO HK A5))))) (cE (fW (UP AbB AVm) aR) qS)))) (B8 zrp)) (BY (by show FC;exact Β))
theorem lC:ANy (AHX HQ) HQ zdj:=BF
theorem zk3(F:A_ Ě BFg zdj)(M:AKG Ě)(aB:ã)(aP:BmF):Be0:=
 Đ (Bz gY lC zmc ze7 (by
  have nd:=lC.nd;have hu:=bR hr;exact(AmT (yj5 ir (ŵ aP) A5 (yd A2h)) (IS Β Β Β))) (B8 zmj)) (BY (by show FC;exact Β))
theorem Gz:DC [LZ] [LZ] ya4:=BF
theorem yj3(F:A_ AKx AKx ya4)(hm:Cf AKx)(uL:CH z8x)(jX:CH zvc)(aU:OX):Bbm:=
 ⟨f,fd,Bz gY Gz yn5 z74 (by
  have nd:=Gz.nd;have hu:=bR hr;exact(AFv uL (AJo jX) (AaQ uu))) (B8 ylu),hm,C8,BY (by show P1;exact Β)⟩
theorem oX:DC [d5] [d5] zff:=BF
theorem zq8(F:A_ Acw Acw zff)(hm:Cf Acw):Bae:=
 ⟨f,fd,Bz gY oX zrv zht (by
  have nd:=oX.nd;have hu:=bR hr;exact(AmT (A6M DQ aR) aR)) (B8 zr3),hm,C8,BY (by show P1;exact Β)⟩
theorem CP:DC ["two"] ["two"] zy8:=BF
theorem yfa(F:A_ Acx Acx zy8)(hm:Cf Acx)(gj:CH zok):Bbl:=
 ⟨f,fd,Bz gY CP ykc z2s (by
  have nd:=CP.nd;have hu:=bR hr;exact(AFv gj lT lT)) (B8 yiy),hm,C8,BY (by show P1;exact Β)⟩
theorem xO:DC [kD,"best",WN,"two"] [kD] zp8:=BF
theorem z3w(F:A_ Acy Acy zp8)(hm:Cf Acy)(cF:APh)(oK:CH z1w)(bU:Ϯ)(aU:OX):Bbn:=
 ⟨f,fd,Bz gY xO z6s zse (by
  have nd:=xO.nd;have hu:=bR hr;exact(bT  (AEu (ADz (Jw By Ly) (Ge aR)))  (ND (A3 (yb0 Β Β bU  (A3 (aA aR (Hn BOC)))  (Å 2)  (ND (NF 3 (ADz (Jw By (Ge DO)) (Ge (AJn DO)))) (ARn G3 (Ax (OL cF (AYP oK) (APv oK HK))) (NG (AEu (r6 3))))))) (oB 1)))) (B8 z8a),hm,C8,BY (by show P1;exact Β)⟩
theorem GC:DC [kD,d6] [kD,d6] z7s:=BF
theorem yh9(F:A_ AKy AKy z7s)(hm:Cf AKy)(uN:Bbn)(cF:APh)(oK:CH z1w)(aU:OX)(jZ:BBN):BhD:=
 ⟨f,fd,Bz gY GC ynv z7m (by
  have nd:=GC.nd;have hu:=bR hr;exact(bT  (Ϲ GX (ya7 (sE lj uu aR ON) (z0m (Ax (AmC (AJo oK))))) (fh (z26 Β Β jZ.1 jZ.2) (Hn DQ)))  (AQM uN cn))) (B8 yo1),hm,C8,BY (by show FC;exact Β)⟩
theorem Al:DC [kD] [kD] zur:=BF
theorem z55(F:A_ AKz AKz zur)(hm:Cf AKz)(aU:OX):Baf:=
 ⟨f,fd,Bz gY Al yf2 zwq (by
  have nd:=Al.nd;have hu:=bR hr;exact(AfV (ADz (Jw By (Ge (ACj BOC))) (Ge (AJn (ACj uu)))))) (B8 yfy),hm,C8,BY (by show P1;exact Β)⟩
theorem Am:DC Ba9 [LZ] zoq:=BF
theorem z9k(F:A_ Acz Acz zoq)(hm:Cf Acz)(cF:APh)(aU:OX):Bai:=
 ⟨f,fd,Bz gY Am ye8 zwe (by
  have nd:=Am.nd;have hu:=bR hr;exact(bT  (ARU 1) (AAX (Ls Β  (r6 0)  AY5 (AAX (BBc (gP (i:=3)) (A8K (IG (yG (BA:= [UB]) (N' := A8T) (by show BV (eV Ba9 _ [UB] [2] (aY zoq) A8T);exact⟨Β,AK,AK,AK,Β,AK⟩) Β  (BG rP (yt A5))  (MB A8T)  (AEw (AKY (AmC By)))  AGH)))) (AvM 1 z7r Bqn PySem.F.type_list_insert (A3 (aA HK Ajl))))) (oB 1)))) (B8 yc9),hm,C8,BY (by show P1;exact Β)⟩
theorem CQ:DC AiN [d5,GB,d6] Oo:=BF
theorem yj4(hr:AZL 6 Ğ Oo)(oM:AzW)(dI:AzX)(BEv):rM (fV So P w K mg DI AiN Ğ (aY Oo) f cdv A Ch s H E) F0 H (yD Oo) (zuk K c):=by
 have nd:=CQ.nd;have hu:AKc Ğ Oo:=AFJ
 exact(bT  (oC AXm (AMd A5) (AJo dI) (fh (z26 Β Β nO.1 nO.2) (Hn DQ)))  (OM (oC lj By DQ (AQM oM g9)) (oC lj By DQ (AQM oM (Hn (APv lD (AYP gD))))) (AQM oM (Hn (OL rE (AYP gD) (Xy (sE (D9 abC) DO Xv ON) (ygf Β lE) DO))))))
theorem yeu{f:Ζ}{fd:FS}{vO:Ζ}(c:Cls)(F:Bf8)(oM:AzW)(dI:AzX)(BEv):US fU So 7 f fd AiN (pB K (V6 c)):=
 Bz abL CQ yk3 zuk (yj4 c hr oM dI rE lD gD aU nO lE) (B8 yjd)
theorem ycx{f:Ζ}{fd:FS}{vO:Ζ}{SQ:OW}{dn:Δ}{SX:AEO}(c:Cls)(F:Bf8)(hT:ZH vO=Ε (BDX (BIF [BH])))(hm:Cf Ğ)(oM:AzW)(dI:AzX)(BEv):Bg':=by
 have FO:=BWy yeu P c F oM dI rE lD gD aU nO lE;have kp:=C8;obtain⟨oc,od,kV,doc,pm,an,cdv,ct,osl,e0,lk,hcd⟩:=F.ex;subst e0;refine⟨f,_,FO,hm,kp,Bcs,Bcs⟩
 ·obtain⟨_,_,_,Β⟩:=wU (us:=us) AjC;exact Bcw Β
 ·have hl2:o6=2:=CY hl
  obtain⟨_,_,Β⟩:=len2 (us:=us) (Co hl2);exact Bcw Β
theorem jN:DC BS7 [N4,Mn,Z_] zb6:=BF
theorem zj8(F:A_ AGZ BFh zb6)(M:AKG AGZ)(gV:BlH)(lF:Bhb)(gj:CH zok)(iV:Be0)(Bs:Bg')(jZ:BBN)(nO:Awo)(bQ:AN0)(aB:ã)(bA:BmG)(bN:ň d5)(bZ:ň d6)(m5:BRo)(pW:BTa)(uO:BOZ):Be1:=
 Đ (Bz gY jN zkr zei (by
  have nd:=jN.nd;have hu:=bR hr;exact(bT (AXi (AKd 3 (BA:= BLG) (N' := ApE) (by show BV (eV BS7 _ BLG [0] (aY zb6) ApE);exact⟨Β,AK,AK,AK,Β,AK⟩) Β  (BG rP (ydr DO))  (yv (Ga Β (rN (ACQ (W_ ApE) Β Do) (rN (ye 1 (W_ ApE) Β Do) FZ))))  Md  (đ gj (LL (AaQ A5) (yy (Vo iV aB UN DO) By))))) (A3 (AuW (yhz (pl:=Κ) Β Β Β (Bn F0 (JO (AmT (Vo lF bQ UN (ŵ bA)) (Hn (ydl Bs UN Β (Ŗ (ŵ bN) HK (ŵ bZ)))))))) (sQ Β jZ.1 (jZ.2).k BiK Χ (BG (.EF Β nO.1 (nO.2).k BiK) Χ)))))) (fun ds Q Ex h=>zls ⟨(jZ.2).k,(nO.2).k,m5,pW,uO⟩ h)) (BY (by show Č;exact Β))
theorem lG:DC [GB,ALX,kD] [GB,ALX] zcc:=BF
theorem zk2(F:A_ jb jb zcc)(hm:Cf Arz)(gD:CH zlk):BSH:=
 ⟨f,fd,Bz gY lG zm3 zfc (by
  have nd:=lG.nd;have hu:=bR hr;exact(bT  (NF 2 (ACN gD cn)) (AXh (IG (yG (BA:= ["count"]) (N' := A8V) (by show BV (eV [GB,ALX,kD] _ ["count"] [2] (aY zcc) A8V);exact⟨Β,AK,AK,AK,Β,AK⟩) Β  (BG rP (yt (iJ  (BG (Jw A5 Ly) (Ge (Jr aR))))))  (MB A8V)  Md  (av (Xy (sE AJW By aR ON) (UP A5 (Jr By))) Xv)))))) (B8 zmk),hm,C8,BY (by show FC;exact Β)⟩
theorem CT:A6h [LZ,pd,"lists",ĩ] z0s:=BF
theorem yeq(F:A_ d4 d4 z0s)(hm:Cf d4)(nM:CH zs3):Bek:=
 ⟨f,fd,Bz gY CT yje z2g (by
  have nd:=CT.nd;have hu:=bR hr;exact(bT  (AvF 2 (Hn (AI9 Az (Hn aR))))  (ND (ARQ 1 (Å 3) (A5' 2 (AHR nM (AOn (yg7 (i:=2) Β Do AVm qS) HK)))) (oB 2)))) (B8 yju),hm,C8,BY (by show FC;exact Β)⟩
theorem lH:ANy Ahf d4 UW:=BF
theorem zlg(F:A_ K0 AdE UW)(fP:AmW)(iW:A6V)(ju:AjI)(bK:s_)(jA:BBP)(cH:A8h):US fU So 4 f fd Ahf (Y5 K SW d4 (V3 c)):=by
 have nd:=lH.nd;refine z9s F Β lH fP iW jA.1 cH Β AXj (ABy ydh) Χ (AuL ?_)
 have hu:AKc AdE UW:=AFJ
 exact⟨Β,Β,E4,ze8 K c,JO (yfk (BA:= [ALX]) (N' := Ayx) (by show BV (eV Ahf _ [ALX] [] (aY UW) Ayx);exact⟨Β,AK,AK,AK,Β,AK⟩) Β  (BG rP (yt A5))  (MB Ayx)  Md  (av Ag8 cn)),fun a ds Q Ex h=>yem h⟩
theorem zll(F:A_ K0 AdE UW)(M:Bgs SW)(hm:gN SY SW)(fP:AmW)(iW:A6V)(ju:AjI)(bK:s_)(jA:BBP)(cH:A8h):BjS:=
 ⟨f,fd,zlg c F fP iW ju bK jA cH,M.1,M.2,fP,hm,BY (by show FC;exact Β)⟩
theorem pY:DC [Adn,GB] [Adn,GB] zd8:=BF
theorem zrr(F:A_ Ac0 Ac0 zd8)(hm:Cf Ac0)(cF:APh)(aU:OX):Beh:=
 ⟨f,fd,Bz gY pY zvi zjd (by
  have nd:=pY.nd;have hu:=bR hr;exact(sf (AMd (IG (yG (BA:= [KG]) (N' := A3_) (by show BV (eV [Adn,GB] _ [KG] [0] (aY zd8) A3_);exact⟨Β,AK,AK,AK,Β,AK⟩) Β  (BG rP (yt A5))  (MB A3_)  (AEw (AKY (ACb cF A5)))  AGH))))) (B8 ztg),hm,C8,BY (by show FC;exact Β)⟩
theorem GD:DC [GB] [GB] z22:=BF
theorem yk5(F:A_ Ac1 Ac1 z22)(hm:Cf Ac1)(m7:Beh)(aX:ADM)(Ag:Azj):BZ1:=
 ⟨f,fd,Bz gY GD yml z72 (by
  have nd:=GD.nd;have hu:=bR hr;exact(sf (IG (yid Β Β aX Β Ag (aA (IG (zs1 (iJ  (Ak8 aR)) (IG (yG (BA:= [KG]) (N' := A3z) (by show BV (eV [GB] _ [KG] [0] (aY z22) A3z);exact⟨Β,AK,AK,AK,Β,AK⟩) Β  (BG rP (yt By))  (MB A3z)  Md  (đ m7 ARc))))) aN))))) (B8 yod),hm,C8,BY (by show P1;exact Β)⟩
theorem oY:A6h BWu zds:=BF
theorem zpo(F:A_ Ac2 Ac2 zds)(hm:Cf Ac2)(ju:AjI)(bK:s_)(lJ:BJt):Bb7:=
 ⟨f,fd,Bz gY oY zr6 zhh (by
  have nd:=oY.nd;have hu:=bR hr;exact(bT (AXi (AKd 2 (BA:= [kG]) (N' := A8U) (by show BV (eV BWu _ [kG] [0] (aY zds) A8U);exact⟨Β,AK,AK,AK,Β,AK⟩) Β  (BG rP (Ć zzg lJ cn))  (MB A8U)  Md  (av (bM (D9 Ir) Am0) By)))  (ND (sD 3 ju DO (BdQ g9)) (BZQ (BdQ Azx))))) (B8 zrn),hm,C8,BY (by show FC;exact Β)⟩
theorem nP:A6h BEa Wr:=BF
theorem zob(F:A_ Ac3 Ac3 Wr)(hm:Cf Ac3)(lK:Bb7)(iH:CH znr)(jh:AJi)(KN:MQ "max"):Bb8:=
 ⟨f,fd,Bz gY nP zpm zg0 (by
  have nd:=nP.nd;have hu:=bR hr;exact(bT  (AvF 2 (Hn aR)) (AAX (X5 Β  (AWn Vm jh (AWh (ACb lK A5)))  (Am' 3 4) (AAX (yeg (i:=5) nd Β Β (BA:= [kG]) (N' := A3h) (by show BV (eV BEa _ [kG] [2,3] (aY Wr) A3h);exact⟨Β,AK,AK,AK,Β,AK⟩) Β (ADc (rP (yt By)))  (MB A3h)  (AEw (Ax (OL iH (ad Ir By Am0) DO)))  AGH) (A3 (bO (A3 (M5 (i:=2) (D9 RB) BGc BGd Β Do (A3 (Hn (yy (Ň (yng Β) KN boot_max) (IG (yG (BA:= [kG]) (N' := BAZ) (by show BV (eV BEa _ [kG] [0,4] (aY Wr) BAZ);exact⟨Β,AK,AK,AK,Β,AK⟩) Β  (BG rP (yt m4))  (MB BAZ)  (AEw (sE Ay8 (ad Ir Am0 By) DO AJS))  AGH))))))))))) (BZQ DO)))) (B8 zqv),hm,C8,BY (by show FC;exact Β)⟩
theorem GF:DC [GB,pd,LZ,"lists"] [GB,pd] yb4:=BF
theorem yih(F:A_ Ac4 Ac4 yb4)(hm:Cf Ac4)(iY:BjS)(Ew:BZ1)(ju:AjI)(jF:Bb8)(aU:OX):BfI:=
 ⟨f,fd,Bz gY GF yoh z99 (by
  have nd:=GF.nd;have hu:=bR hr;exact(bT  (NF 2 (ACN Ew cn))  (OM (sD 3 ju DO A5) (AUK (A3 (sE (D9 ype) uu (UP HK AVm) AJS)) (fh (z5z Β iY UN Β) Azx)) (z_ (AMS jF DO A5))))) (B8 ylw),hm,C8,BY (by show FC;exact Β)⟩
theorem jO:DC Bkf AyS Oq:=BF
theorem zkd(BEr)(c:Cls)(hr:AZL 8 ASm Oq)(bB:AjG)(ig:CH zjr)(dH:AjH)(cj:AzY)(BEt):rM (fV So P w K mg DI Bkf ASm (aY Oq) f cdv A Ch s H E) F0 H1 (yD Oq) (zco K c):=by
 have nd:=jO.nd;have hu:AKc ASm Oq:=AFJ
 exact(bT  (AnD bN Akj)  (ND (AnD bZ (r6 3)) (OM (AnD bA (AHT z2d bB (Hn (AI9 Ag8 (Hn (zc bQ aO P5)))))) (AnD aP (BG yik (AHT zup ig g9))) (AV4 (BG (me zvm aB bF  (BG z78 (AHT zup dH g9)) Β) Do) (BG (me zvm aB aM  Ain Β) Do) (A3 (Ls Β  (ADz z29 (ADc (Ć z24 aX (Hn (ŵ bF)))))  (Å 6)  (Afh (yez (i:=0) (j:=6) ir aB aM  (BG (z5m cj aB UN (ADc By)) (ADc (LL Ź (yay ir (ŵ bF) Ź)))) Β Do Β Do)))) (NF 7 (ADz z29 (ADc (Ć z2u bK AlL)))) (fh (me Vy aB aJ  (AMS cG Ϫ (OL rF Ϫ m4)) Β) Do)))))
theorem zjl(F:BWC)(bB:AjG)(ig:CH zjr)(dH:AjH)(cj:AzY)(BEt):A5Y 9 AyS Qt:=
 BEp jO yaf zco (BlD (zkd c hr bB ig dH cj cG rF)) z91
theorem zjo(F:BWC)(M:Mk K GA f)(hm:gN AAy GA)(bB:AjG)(ig:CH zjr)(dH:AjH)(cj:AzY)(BEt):BiF:=
 ⟨⟨f,fd,BlD (zjl c F bB ig dH cj cG rF),M,hm,BY (by obtain⟨_,_,_,_,_,_,Β⟩:=ab6 hl;exact Β)⟩,w4 z50⟩
theorem jB:A_C zcp:=BF
theorem zi8(F:A_ AA_ BFi zcp)(M:AKG AA_)(aB:ã)(aM:Agj):Bap:=
 Đ (Bz gY jB zjq zd4 (by
  have nd:=jB.nd;have hu:=bR hr;exact(bO  (AUK (A3 (ybe ir A5 AlL AJS)) AKL))) (B8 zjt)) (BY (by show FC;exact Β))
theorem oZ:A_C zfl:=BF
theorem zpi(F:A_ KG BFj zfl)(M:AKG KG)(gO:Bap)(aB:ã)(aM:Agj):Baq:=
 Đ (Bz gY oZ zru zhd (by
  have nd:=oZ.nd;have hu:=bR hr;exact(bT  (ABw z98 (Vo gO aB UN By) g9)  (cE (yay (hu1 hu) AlL) A5))) (B8 zrx)) (BY (by show FC;exact Β))
theorem nQ:DC [LZ,KG,WN,"border"] [LZ,KG] zew:=BF
theorem zn7(F:A_ d_ d_ zew)(hm:Cf Ar0)(cF:APh)(d9:AjS)(aU:OX):Bei:=
 ⟨f,fd,Bz gY nQ zpt zg5 (by
  have nd:=nQ.nd;have hu:=bR hr;exact(bT  (A3 (X5 Β  (AWn zig d9 cn)  (Am' 2 3)  (ARn GX (ya7 (sE (D9 ypa) HK Xv ON) (z0m (AKY (AmC HK)))) (oB 2))))  (cE BAn cn))) (B8 zrg),hm,C8,BY (by show FC;exact Β)⟩
theorem nR:A_C zey:=BF
theorem zn6(F:A_ d_ BFk zey)(M:AKG d_)(jG:Bei)(eY:CH zh8)(aB:ã)(aJ:AwD):Bas:=
 Đ (Bz gY nR zqa zgz (by
  have nd:=nR.nd;have hu:=bR hr;exact(AFv jG (ŵ aJ) (yy (Vo eY aB UN By) A5))) (B8 zrj)) (BY (by show FC;exact Β))
theorem nU:A9G zc5:=BF
theorem zn5(F:A_ Tx BFl zc5)(M:AKG Tx)(eY:CH zh8)(jH:Bas)(aX:ADM)(aB:ã)(aM:Agj):BcM:=
 Đ (Bz JM nU zqr zg2 (by
  have nd:=nU.nd;have hu:=bR hr;exact(AuW Yu (yif (A3 (yG (BA:= [Mn]) (N' := A6R) (by show BV (eV AM_ _ [Mn] [0] (aY zc5) A6R);exact⟨Β,AK,AK,AK,Β,AK⟩) Β  (BG rP (BUV z24 AlL))  (MB A6R)  Md  (av yd (AOn (BOv eY) (BOv jH)))))))) (B8 zqj)) (BY (by show P1;exact Β))
theorem lM:A9G zdh:=BF
theorem zln(F:A_ jb BFm zdh)(M:AKG jb)(bK:s_)(aB:ã)(aJ:AwD):BcN:=
 Đ (Bz JM lM zl9 zfd (by
  have nd:=lM.nd;have hu:=bR hr;exact(bO  (BG Yu (ABw yif Ag8 (Hn (ŵ aJ)))))) (B8 zml)) (BY (by show P1;exact Β))
theorem qP:AkY [ME,"_law_bounds_here",ALU,ABU,"_law_least"] zii:=BF
theorem zvj(F:A_ Ac5 Ac5 zii)(hm:Cf Ac5)(aL:ANt)(bU:Ϯ)(qM:AjQ):Baj:=
 ⟨f,fd,Bz gY qP zvv zkv (by
  have nd:=qP.nd;have hu:=bR hr;exact(bT  (ARU 1)  (ND (ARX A3K 2 (OM (AZy 3 (AN8 DO)) (VU 4 rO (k_ HK) (BCR (AQ9 A2X aR))) (BM1 1 (LL P5 (sA P5 (UP (AI9 Az (Bbd A2X)) A2X)))))) (oB 1)))) (B8 zxi),hm,C8,BY (by show P1;exact Β)⟩
theorem jP:AkY [ME,"_law_x","_law_y","_law_by","_law_points",ALU,ABU,"_law_height"] zc9:=BF
theorem zjw(F:A_ Ac6 Ac6 zc9)(hm:Cf Ac6)(aL:ANt)(jo:CH zs5)(bU:Ϯ)(qO:AjR):BVN:=
 ⟨f,fd,Bz gY jP zlf zer (by
  have nd:=jP.nd;have hu:=bR hr;exact(bT  (VU 1 Ir AV7 aR)  (AV4 (VU 2 Ir AV7 aR) (Bbu AM8) (ARU 4) (ARX A3K 5 (ND (AZy 6 (AN8 m4)) (AV4 (sD 7 jo DO (AN8 A2Y)) (Ϲ GX (ya7 (sE AJW m4 aR ON) (z0m (sE lj (k_ Ź) aR ON))) (NG (NF 7 (BG (fW (yg7 (i:=4) Β Do (kl Ir m4) qS) aR) qS)))) (A3 (M5 (i:=4) (D9 RB) BGc BGd Β Do  (A3 (aA (yd (LL (OL jo A5 HK) Ϫ)) aN)))) (VU 1 qU (AJn A5) A2Y) (NG (VU 2 qU (zt aR (AJn (yy (Ň ydv qO boot_abs) DO))) A2Y))))) (oB 4)))) (B8 zkm),hm,C8,BY (by show P1;exact Β)⟩
theorem vf:DC [ME,AGo,"_law_rule_here","_law_gap","_law_told_here","_law_sitting","e"] [ME,AGo] zm5:=BF
theorem zyq(F:A_ Ac7 Ac7 zm5)(hm:Cf Ac7)(rH:BVM)(iu:BiF)(jJ:BcM)(iZ:BcN)(bB:AjG)(oN:Baj)(iw:BVN)(Ey:Bbv)(xP:Bbw)(aB:ã)(gJ:BNA)(fO:BNB)(cH:A8h)(jY:A3T)(fP:AmW)(uP:fb nZ P_)(pZ:fb nZ SW)(qb:BRq)(m8:BTZ)(jK:BRp):BhE:=
 ⟨f,fd,Bz gY vf z4e zrc (by
  have nd:=vf.nd;have hu:=bR hr;exact(bT  (A3 (ymh (AJo rH) (Ga Β (AgV 2 3))))  (OM (NF 4 (A3 Xv)) (BG (yew (i:=6) Β Β Β nd Β Β Β Ey.1 jY.cls Β xP.1 fP.cls (Bn F0 (JO (bT  (AHP z51 5 (AHT z9t iu (aA A5 (aA DO (aA HK (LL (z2d bB UN Β (Hn (AJo iw))) (AJo oN)))))))  (NG (Bng (Bdv jJ) (Bdv iZ)))))) (BVS (BW2 gJ) (BW2 fO))) (BVS (yi2 (i:=6) fP cH Β Do) Xv)) (oB 4)))) (fun ds Q Ex h=>z4d ⟨uP,pZ,qb,m8,jK⟩ h),hm,C8,BY (by show FC;exact Β)⟩
theorem tR:DC [ME,AGo,Adf,"_law_left",Bp1,ALU,ABU] [ME,AGo,Adf] zju:=BF
theorem zws(F:A_ Ac8 Ac8 zju)(hm:Cf Ac8)(aL:ANt)(bK:s_)(bU:Ϯ)(aU:OX):Bfw:=
 ⟨f,fd,Bz gY tR zzn znm (by
  have nd:=tR.nd;have hu:=bR hr;exact(bT  (A9l g9)  (OM (ARU 4) (A3 (O4 Β Β bU  (A3 (aA (BAn g9) aN))  (Å 5)  (ND (AZy 6 (sA DO (k_ m4))) (A5' 4 (yec (i:=3) Β Do (Hn (APf (sA (ad vp Ź (AJn (ACj m4))) m4) (A8K HK)))))))) (oB 4)))) (B8 zzx),hm,C8,BY (by show Č;exact Β)⟩
theorem nW:ANy Ahg xC Ot:=BF
theorem zq0(BEr)(c:Cls)(hr:AZL 0 AK5 Ot)(bG:Ž)(bH:AQk)(aQ:AKE):rM (fV So P w K mg DI Ahg AK5 (aY Ot) f cdv A Ch s H E) F0 H1 (yD Ot) (zd0 K c):=by
 have nd:=nW.nd;have hu:AKc AK5 Ot:=AFJ
 exact(bT  (BG (me Vy bG bH  (r6 1) Β) Do)  (fh (me zvm bG aQ  (A3 ydd) Β) Do))
theorem zn4(F:A_ K0 AK5 Ot)(bG:Ž)(bH:AQk)(aQ:AKE):A5Y 1 Ahg Qw:=
 BEp nW yoy zd0 (zq0 c hr bG bH aQ) yl2
theorem zn1(F:A_ K0 AK5 Ot)(M:Mk K Hc f)(hm:gN Nd Hc)(bG:Ž)(bH:AQk)(aQ:AKE):BiG:=
 ⟨⟨f,fd,zn4 c F bG bH aQ,M,hm,BY (by show FC;exact Β)⟩,w4 ynl⟩
theorem xQ:DC [KG,xC] [KG,xC] zqb:=BF
theorem z45(F:A_ Ac9 Ac9 zqb)(hm:Cf Ac9)(fu:Azk)(Ez:MQ ASl)(qM:AjQ):BeU:=
 ⟨f,fd,Bz gY xQ ybz zsw (by
  have nd:=xQ.nd;have hu:=bR hr;exact(bT  (Ϲ GX (yi6 (Bg9 Ez) (z5x (AKY (z8d By Β fu Β qM Β)))) AaC)  (cE (zt4 APW APW aR By) A5))) (B8 z79),hm,C8,BY (by show FC;exact Β)⟩
theorem xR:DC [Asq] [Asq] zkg:=BF
theorem z35(F:A_ Ac_ Ac_ zkg)(hm:Cf Ac_)(Ad:Azh)(fu:Azk)(KQ:MQ ĝ)(aU:OX)(lN:BSp):Bag:=
 ⟨f,fd,Bz gY xR z6j zsq (by
  have nd:=xR.nd;have hu:=bR hr;exact(bT  (Ϲ G3 (Bg9 KQ) AaC) (A3 (bT  (Ϲ G3 (yde APW APW aR uu (ygf Β lN)) AaC) (AXh (yy (Ň (ync Β) Ad boot_all) (IG (yG (BA:= ["sign"]) (N' := Ayy) (by show BV (eV [Asq] _ ["sign"] [] (aY zkg) Ayy);exact⟨Β,AK,AK,AK,Β,AK⟩) Β  (BG rP (yon By))  (MB Ayy)  Md  (av (zt4 (D9 yor) (D9 yor) DQ By) DQ))))))))) (B8 z8w),hm,C8,BY (by show P1;exact Β)⟩
theorem vg:DC AXS AXS Ou:=BF
theorem z4p(BEr)(c:Cls)(hr:AZL 1 AK6 Ou)(jr:Azb)(iI:Azc)(bG:Ž)(aQ:AKE)(bH:AQk):rM (fV So P w K mg DI AXS AK6 (aY Ou) f cdv A Ch s H E) F0 H1 (yD Ou) (zj5 K c):=by
 have nd:=vg.nd;have hu:AKc AK6 Ou:=AFJ
 exact(bT  (Ϲ GX (yi6 (AKY (AYP iI)) (z5x (AKY (APv iI DO)))) AKL)  (OM (Ϲ G3 (Ax (OL jr HK (me yle bG bH Β Do))) AKL) (Ϲ (me yls AC ir bG aQ  (BG yd (AWh DO)) Β) Do AKL) (Afh (yhw (i:=0) (j:=1) (l:=2) ir bG aQ  (r6 3) Β Do Β Do Β Do))))
theorem zz0(F:A_ AA' AK6 Ou)(jr:Azb)(iI:Azc)(bG:Ž)(aQ:AKE)(bH:AQk):A5Y 2 AXS V9:=
 BEp vg z43 zj5 (z4p c hr jr iI bG aQ bH) z3o
theorem z0v(F:A_ AA' AK6 Ou)(M:Meth K Hc AA' f)(jr:Azb)(iI:Azc)(bG:Ž)(aQ:AKE)(bH:AQk):Bi5:=
 Đ (zz0 c F jr iI bG aQ bH) (BY (by obtain⟨_,_,_,_,Β⟩:=aak hl;exact Β))
theorem tU:A9G zgr:=BF
theorem zxy(F:A_ SZ BFn zgr)(M:Meth K Hc SZ f)(aX:ADM)(bG:Ž)(aQ:AKE):Bhc:=
 Đ (Bz gY tU z0p znq (by
  have nd:=tU.nd;have hu:=bR hr;exact(sf (IG (yG (BA:= BL3) (N' := ApW) (by show BV (eV AM_ _ BL3 [0] (aY zgr) ApW);exact⟨Β,AK,AK,AK,Β,AK⟩) Β  (BG rP (BUV ydw (zc bG aQ By)))  (yv (Ga Β (rN (ACQ (W_ ApW) Β Do) (rN (ye 1 (W_ ApW) Β Do) FZ))))  Md  (av yd (AOn A5 (yl8 ir (zc bG aQ DO) (yd ARc)))))))) (B8 z0a)) (BY (by show P1;exact Β))
theorem KR:AkY Bk1 BK:=BF
theorem ypo(hr:AZL 11 ZT BK)(iy:CH zjy)(fB:AzZ)(gF:Aza)(BEw):rM (fV So P w K mg DI Bk1 ZT (aY BK) f cdv A Ch s H E) F0 H (yD BK) (yby K c):=by
 have nd:=KR.nd;have hu:AKc ZT BK:=AFJ
 exact(bT  (AEu (ACN iy (AOn A3K AV7)))  (OM (A_E fB) (A3 (Ls Β  (ADz Az A2h)  (Å 3)  (ND (NF 4 (ACN gF (AOn A5 HK))) (OM (AHP z51 5 (AHT z9t dg (Hn BQu))) (ARQ 4 (A3 (Ga Β (rN (AfB 6) (AgV 7 8)))) (fh z98 (A3 (yb7 (i:=5) iB bG UN Β Do (Ŗ Ź Ϫ AEj))))) (ARn GX (yi6 (yjw (ADc (sE AYr (yf5 gG bG UN m4) BaG ON))) (z5x (sE AYr (ACb fB P5) DO ON))) AaC))))) (z_ (A3 (GR lj (ACb fB BaG) DO ON)))))
theorem yhg(F:BYj)(iy:CH zjy)(fB:AzZ)(gF:Aza)(BEw):US fU So 12 f fd BJP (pB K (z1r c)):=
 Bz gY KR ypg yby (ypo c hr iy fB gF dg iB aL gG aX bG) (B8 ypq)
theorem ypw(F:BYj)(hm:Cf ZT)(iy:CH zjy)(fB:AzZ)(gF:Aza)(BEw):XB ZT 12 ME z1r:=
 Aju (yhg c F iy fB gF dg iB aL gG aX bG)
#where
theorem yom{l:W.OpenLaw}{w:An}{K:AB}{h:AQ}{mg:ER}{fa:Ζ}(O:Abo)(X:SI)(G:Al1)(hfa:gN ZT fa):
 ∃fd:FS,(∀(s:AD) (v:AI),Asz s fd (H_ [v]) [(ME,v)])/\Bcv (fU ATZ w K mg DI (fD ATZ w) 12 fa fd BJP (pB K zud)):=by
 show C5 B L AGb O;show C5 L M AGb L;show Go NP 0 aal 1 CV 2 KY 3;show Go CW 4 NQ 5 Hv 6 Ur 7;show Go KZ 8 K1 9 K3 10 K4 11;show Go K5 12 K6 13 EY 14 Fb 15;show Go Fd 16 Fe 17 Fg 18 Fi 19;show Go NT 20 NZ 21 N5 22 N6 23;show Go N7 24 N8 25 aO 26 gJ 27;show Go fO 28 aP 29 bA 30 bN 31;show Go bZ 32 cH 33 bF 34 aM 35;show Go aJ 36 bH 37 aQ 38 K7 39;show Go Hw 40 Hy 41 Hz 42 HB 43;show Go HD 44 HF 45 HJ 46 Fj 47;show Go CZ 48 Dc 49 Dd 50 Df 51;show Go Dg 52 Dh 53 Di 54 xU 55;show Go xV 56 xW 57 a10 58 n10 59;show Go a35 60 n35 61 a39 62 n39 63;show Go a40 64 n40 65 a49 66 n49 67;show Go a52 68 n52 69 a58 70 n58 71;show Go a59 72 n59 73 a60 74 n60 75;show Go a62 76 n62 77 a63 78 n63 79;show Go a64 80 n64 81 a69 82 n69 83;show Go a72 84 n72 85 a73 86 n73 87;show Go a50 88 a61 89 Oa 90 aam 91;show Go Dj 92 Us 93 K8 94 Ob 95;show Go aan 96 aao 97 aap 98 aaq 99;show Go aar 100 Oc 101 aat 102 Ut 103;show Go K9 104 aau 105 Dl 106 aav 107;show Go Fl 108 aaw 109 Bt 110 Uu 111;show Go aax 112 vG 113 HN 114 HS 115;show Go m5 116 pW 117 uO 118 uP 119;show Go pZ 120 qb 121 m8 122 jK 123
 let c:Cls:={Apart:=AGD Aru,yr:=AGD "Few",fM:=AGD Ac',Open:=AGD P9,cg:=AGD SY,Scale:=AGD WE,ao:=AGD AAy,cO:=AGD Nd}
 have bQ:AN0:=⟨KZ,K1,K3,K4⟩;have aB:ã:=⟨EY,Fb,Fd,Fe⟩;have bG:Ž:=⟨NT,NZ,N5,N6⟩;show EW jZ BBN (Abb NP Oa) nO Awo (Abb aal aam) jA BBP (Abb CV Dj) Ey Bbv (Abb KY Us);show EW xP Bbw (Abb CW K8) jY A3T ⟨K7,⟨Hw,Hy,Hz,HB,HD⟩,HF,HJ⟩ fP AmW ⟨Fj,⟨CZ,Dc,Dd,Df,Dg⟩,Dh,Di⟩ iW A6V ⟨xU,xV,_3.isV_of xW⟩;show EW bU Ϯ (SL Ob) qM AjQ (SL aan) aU OX (SL aao) qO AjR (SL aap);show EW Ad Azh (SL aaq) jh AJi (SL aar) tK Azg (SL Oc) Ae Azi (SL aat);show EW bK s_ (SL Ut) aX ADM (SL K9) Ag Azj (SL aau) d9 AjS (SL Dl);show EW KJ (MQ Ĝ) (SL aav) lJ BJt (SL Fl) KN (MQ "max") (SL aaw) fu Azk (SL Bt);show EW Ez (MQ ASl) (SL Uu) KQ (MQ ĝ) (SL aax) lN BSp (_Hd.glb_int (h:=h) X G vG) lE Bmg (_Hd.glb_tup X G HN HS AnZ)
 show AuO l0 f0 fd0 a0 Dm l0;show IA l1 f1 fd1 a1 Fo l1 l2 f2 fd2 a2 Bu l2;show IA l3 f3 fd3 a3 Fp l3 l4 f4 fd4 a4 yO l4;show IA l5 f5 fd5 a5 HW l5 l6 f6 fd6 a6 Fq l6;show IA l7 f7 fd7 a7 Od l7 l8 f8 fd8 a8 La l8;show IA l9 f9 fd9 a9 Ft l9 l11 f11 acs a11 Uv l11;show IA l12 f12 acu a12 Lb l12 l13 f13 acv a13 HX l13;show IA l14 f14 acw a14 Ld l14 l15 f15 acy a15 HY l15;show IA l16 f16 acz a16 Dp l16 l17 f17 acA a17 Ia l17;show IA l18 f18 acB a18 Ib l18 l19 f19 acC a19 Fw l19;show IA l20 f20 acD a20 Dq l20 l21 f21 acE a21 aay l21;show IA l22 f22 acF a22 Le l22 l23 f23 acG a23 yP l23;show IA l24 f24 acH a24 Dr l24 l25 f25 acI a25 Ie l25;show IA l26 f26 acJ a26 Uw l26 l27 f27 acK a27 Oe l27;show IA l28 f28 acL a28 Og l28 l29 f29 acM a29 Lf l29;show IA l30 f30 acN a30 Oh l30 l31 f31 acO a31 Ds l31;show IA l32 f32 acP a32 Lg l32 l33 f33 acQ a33 uQ l33;show IA l34 f34 acR a34 Fy l34 l36 f36 acS a36 Oi l36;show IA l37 f37 acT a37 Ux l37 l38 f38 acU a38 Ig l38;show IA l41 f41 acV a41 Uy l41 l42 f42 acW a42 xX l42;show IA l43 f43 acX a43 Oj l43 l44 f44 acY a44 Ih l44;show IA l45 f45 acZ a45 Uz l45 l46 f46 ac0 a46 Lh l46;show IA l47 f47 ac1 a47 Li l47 l51 f51 ac2 a51 Ol l51;show IA l53 f53 ac3 a53 yQ l53 l54 f54 ac4 a54 UG l54;show IA l55 f55 ac5 a55 xY l55 l56 f56 ac6 a56 vH l56;show IA l57 f57 ac7 a57 UJ l57 l65 f65 ac8 a65 Bv l65;show IA l66 f66 ac9 a66 rJ l66 l67 f67 ada a67 FJ l67;show IA l68 f68 adb a68 Dt l68 l70 f70 ade a70 Ii l70;show IA l71 f71 adf a71 Ij l71 l74 f74 ab7 a74 QJ l74;show C5 l10 M yX M;show C5 adg uR Adw l10;show C5 l35 M yX M;show C5 adh vI Adw l35;show C5 l39 M yX M;show C5 adi qd Adw l39;show C5 l40 M yX M;show C5 adk mH Adw l40;show C5 l48 M yX M;obtain⟨f48,_,_,_,_,_,a48,Om,ab8⟩:=_Hd.funM_at l48;show Auh l49 adl lO l49;show AM7 l50 adn tV l50 l52 ado tW l52;show AM7 l58 adp rK l58 l59 adq jQ l59;show AM7 l60 adt qe l60 l61 adu vJ l61;show AM7 l62 adw o7 l62 l63 adx o8 l63;show AM7 l64 ady mJ l64 l69 adz vK l69;show AM7 l72 adA xZ l72 l73 adB vh l73;have e:=hfa.symm.trans (fe a74);show C6;refine⟨ab7,_Hd.start_binds QJ (fun _ _ _ _ _ _ _=>Β),At DI kb nb⟩;have mD:=Id zxd Dm a0 bU qM;have aL:=Id zy4 Fo a1 aU;show ASD oH zvo Bu a2;have iy:=ai z0j c Fp (fe a3) mD aL oH bU aU;show Y2 mZ (Id zr2 yO a4 qO) jo (Id z5i HW a5 mZ) rH (Id zz3 Fq a6 aL) jo;show ASD cF yd6 Od a7;have wW:=Id z8t La a8 cF;have lB:=ST z0l Ft a9 wW Ad aU jh;show Y2 bB (i7 zm6 c uR ⟨K5,AMl a10,n10,K6⟩ (AYM NQ) lB tK bQ aO) Bp (Id yio Uv a11 Ae) wY (ST yba Lb a12 Bp bK aX) Ag;show ASD dH z4i HX a13;have xK:=ST z8f Ld a14 wY dH aX bK;have j6:=Id z4z HY a15 qO;show Y2 pQ (Id zv2 Dp a16 j6) uJ (Id z38 Ia a17 jh) uK (Id z34 Ib a18 uJ) d9;have bC:=Id zyr Fw a19 j6;show Y2 pP (Id zxm Dq a20 bK) KH (ST ynq aay a21 pP bU aU) xG (Id ybh Le a22 pQ uK bC KH bU aU jh) d9;show ASD cA zrm yP a23;show ASD iH zvt Dr a24;have nM:=Id z3p Ie a25 iH Ae;have oJ:=Id yh1 Uw a26 bC;have jX:=Id yek Oe a27 nM oJ;have Bq:=ST yc1 Og a28 cA jX oJ aU;have xH:=Id z9i Lf a29 Bq;show Y2 gj (Id yfv Oh a30 bC) pU (ST zwx Ds a31 bC KJ aU) xJ (ST z6l Lg a32 jX gj pU) cA
 show Y2 jq (ai zmv c uQ (fe a33) xG xH xJ cA aU) ig (ai zzr c Fy (fe a34) xK jq dH bK jh) gV (ai zny c vI ⟨AMl a35,n35⟩ (AYM KY) jY gJ) fO;show Y2 Br (Id ycr Oi a36 bC) uL (Id yil Ux a37 bC) uM (ST z4v Ig a38 Br oJ gj) uL;have lF:=i7 zpa c qd (ó a39 n39 qd.kp) cF uM jh bQ aO;have iV:=i7 zk3 c mH (ó a40 n40 mH.kp) aB aP;have oM:=ST yj3 Uy a41 uL jX aU;show ASD dI zq8 xX a42;have oK:=Id yfa Oj a43 gj;have uN:=ST z3w Ih a44 cF oK bU aU;show Y2 rE (ai yh9 c Uz (fe a45) uN cF oK aU jZ) lD (Id z55 Lh a46 aU) gD (Id z9k Li a47 cF) aU;have Bs:=ai ycx c Om ab8 (fe a48) oM dI rE lD gD aU nO lE;have cj:=i7 zj8 c lO (ó a49 n49 lO.kp) gV lF gj iV Bs jZ nO bQ aB bA bN bZ m5 pW uO;have cG:=Id zk2 tV (AfP a50) gD;show Y2 ju (Id yeq Ol a51 nM) iY (ai zll c tW ⟨AMl a52,n52⟩ (AYM CW) fP iW ju bK jA cH) m7 (Id zrr yQ a53 cF) aU;show Y2 Ew (ST yk5 UG a54 m7 aX Ag) lK (ST zpo xY a55 ju bK lJ) jF (ST zob vH a56 lK iH jh) KN;show Y2 rF (ai yih c UJ (fe a57) iY Ew ju jF aU) iu (i7 zjo c rK ⟨Fg,AMl a58,n58,Fi⟩ (AYM Hv) bB ig dH cj cG rF aX bK aB bQ bN bZ bA aP bF aM aJ aO) gO (i7 zi8 c jQ (ó a59 n59 jQ.kp) aB) aM;show Y2 eY (i7 zpi c qe (ó a60 n60 qe.kp) gO aB aM) jG (ST zn7 vJ (AfP a61) cF d9 aU) jH (i7 zn6 c o7 (ó a62 n62 o7.kp) jG eY aB) aJ;have jJ:=i7 zn5 c o8 (ó a63 n63 o8.kp) eY jH aX aB aM;have iZ:=i7 zln c mJ (ó a64 n64 mJ.kp) bK aB aJ;have oN:=ST zvj Bv a65 aL bU qM;have iw:=ST zjw rJ a66 aL jo bU qO;have fB:=ai zyq c FJ (fe a67) rH iu jJ iZ bB oN iw Ey xP aB gJ fO cH jY fP uP pZ qb m8 jK;have gF:=ST zws Dt a68 aL bK bU aU;have dg:=i7 zn1 c vK ⟨N7,AMl a69,n69,N8⟩ (AYM Ur) bG bH aQ;have jr:=ST z45 Ii a70 fu Ez qM;have iI:=ai z35 c Ij (fe a71) Ad fu KQ aU lN;have iB:=i7 z0v c xZ (ó a72 n72 xZ.kp) jr iI bG aQ bH;have gG:=i7 zxy c vh (ó a73 n73 vh.kp) aX bG aQ;exact ai yhg c QJ iy fB gF dg iB aL gG aX bG
theorem hd_wit:lw.row.toRowW.promised:=by w_witness2
theorem hd_w:W.WalkO vw ZI BJu (fun w h=>∃K:AB,SI/\Abo) Bo1 (BFq BK) [] Ax8:=
 PV _Hd.walk_ex n 63 k 12 x ME CX (HH (fD lw.prog w)) (sp:=fun K=>pB K zud) (Fx:=fun w K=>Abo) Β Χ hd_z ⟨Β,B4,B4⟩ (A2K) (fun w K mg fa h O X G hm=>yom O X G (hd_n ▸ hm)) (fun K H a ns hl hO hS=>z84 hl hS) (APK _ z (yes z))
#print _Lw
end
theorem PySem.Challenge.cw_hall_k91_whole_any_order_holds : PySem.Challenge.rw_hall_k91_whole_any_order.Holds :=
 _Hd.holds _Lw.hd_said (_Hd.left _Lw.hd_e _Lw.hd_f _Lw.hd_A _Lw.hd_B _Lw.hd_C _Lw.hd_D) _Lw.hd_d _Lw.hd_p _Lw.hd_k _Lw.hd_ok _Lw.hd_bare _Lw.hd_wit rfl _Lw.hd_w
