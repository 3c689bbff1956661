import PyProof.Rows.All
import Wide.All
import OpenK.AllK
import Wide.FinOn
import Lean
import PyProof.EqAt
import PyProof.EqKinds
import PyProof.TupleCall
import PyProof.Rows.EqDataRows
import PyProof.Rows.InDataRows
import PyProof.StrLawsRepr
import PyProof.AutoListH
import PyProof.TupleKey
import PyProof.P3Eq
import PyProof.FString2
import PyProof.FactsAll.bool
import KE.KDictList
import PyProof.Rows.RuleB_bool
import PySem.Challenge.RW_hatchwaits_k66_back_papers_judged
set_option genInjectivity false in
set_option genSizeOf false in
structure PySem.W.Fast where(tw5637667576277096602 tw11580229996007546165 tw9009185105240291061 tw11894484399808131705 tw10685797505379728208 tw78460409992526786 tw16137825584871728127 tw4227369786616049326 tw417060323662211934 tw14006009525483494650 tw14913100325901379373 tw5366088026846972002 tw11884533835424637710 tw3191798541535152436 tw9873396005302926013 tw12592852479436366841 tw9366122273879850530 tw15847450797360790411 tw9850250057318409117 tw7832432933222854324 tw10237000609051928533 tw16789039650316119111 tw9462802539590997287 tw3085923308227932862 tw646036323890780962 tw1613972967880887842 tw1943530339819906592 tw2704574023183126807 tw2212818022815546927 tw9305454124467689136 tw2608239904783539808 tw6532483238684883659 tw4801457996011527479 tw2614364874287224138 tw9209809643530968482 tw9477921413278830287 tw9263869947447242762 tw11997236778302262745 tw4539938602325802509 tw15531174109603686784 tw8586842149022747137 tw16532638888613754849 tw6935623808161974544 tw4099468684121478069 tw7693619872433071030 tw1691032645158917543 tw6135936782511367068 tw6162871011944085630 tw1734394559965560538 tw9578617179561101364 tw16471381651600143341 tw8906631665311610534 tw11359030205551058194 tw1093657696616030866 tw2166777836030137536 tw1153590815664234526 tw12872971123672557081 tw13903877418552247682 tw9803104764116915584 tw16570738272084181683 tw10245570399101553006 tw5630378055197892937 tw4152389347121515620 tw5745220023630096686 tw4022993480184332130 tw7331138435276368750 tw958347831079235161 tw7115182878642707182 tw6565383394921267427 tw4597300219530114547 tw16014741982414288247 tw18014915465787207732 tw14394565091762295599 tw733499761082278728 tw8265963804747654688 tw9042742400427445509 tw3442955527124085841 tw10645990336096763310 tw1712011978032013115 tw16558040844239736410 tw4681823433992183689 tw9094867536807863370 tw7160641142847059360 tw8431303673641740305 tw5415309911835823724 tw1219653302576917035 tw10780648751629315187 tw9451131548829577210 tw14970689551182383379 tw2744140533261384953 tw5060439323326238399 tw10403260178700734680 tw14547527009249032869 tw8817394855929074537 tw8160074247596274848 tw1930895981440190484 tw13800974235824706540 tw13546401747821090033 tw2676846376367757032 tw15207147940364081981 tw6393963917381051032 tw5336400511655147259 tw6974151239387808241 tw11689769041682599320 tw16075513873713676005 tw9969117556408862955 tw16793428916839363937 tw1948602212346055177 tw17957061706019576220 tw16423552299787888212 tw235005917976801673 tw248239727333994415 tw2288093381422036618 tw4829913776301589157 tw3109982297558960840 tw2848194175619106365 tw2285875973807029094 tw17978298582039445365 tw13803928169039915272 tw5331434757842712329 tw898044019348397998 tw12721486760329077943 tw9279095962234660286 tw12255341190105069438 tw5661944381898029235 tw17182925662502134899 tw14409789594705719735 tw259053553621906305 tw2551477611519568809 tw9893661071609721360 tw16404445206012297653 tw8876754184945766754 tw17238306561116090058 tw12534449941100975544 tw15710905856577451097 tw9159039845759068418 tw5316212818651978978 tw3168042629533558550 tw15238641638161793448 tw12359765605365949828 tw7453101816507933579 tw3476179744130822983 tw2709926349819646853 tw1980256236388813409 tw16015490952313069505 tw17938359175217864160 tw639675427766025456 tw9045488707652868590 tw4035842269330307998 tw4638973093092707821 tw10190045021689016867 tw267356800481168855 tw16016857229819663622 tw10452930359555335304 tw11625245445124658014 tw1813118423740100014 tw17634788555764287732 tw3998272099101993150 tw5470177260471612422 tw351958047022307582 tw5741155993214982468 tw4757282565005799130 tw6251697196471132827 tw9861378357360495205 tw9602686922139453077 tw14433290507610514244 tw12965428964071941291 tw2744109621408467552 tw5036860677948689307 tw11206306268150734609 tw12416863624749857332 tw4473281845595971879 tw3196188107733183425 tw7292807684744166896 tw7269673882793994812 tw18378778404000391656 tw17941063032460067532 tw13343631613041097932 tw11249290167496090292 tw10850588286685104414 tw14665055388577966744 tw11268271697959834990 tw4435033496975899595 tw16855536373723211499 tw4829644296832289916 tw3261198042594476448 tw5511893490161386801 tw10217257246950859378 tw10800203574162218804 tw14350431759470323397 tw13320242422751245814 tw3123736422962162577 tw14220898011374619893 tw3194291909807897319 tw16171384792778640981 tw2216321941405697209 tw15783719974172322119 tw10717287150923482385 tw2487104603671890381 tw681116488658192023 tw10295377872221112482 tw9657550619125712034 tw5054121147052063176 tw13402218266705917586 tw11626953445021976509 tw4790766159046222562 tw1294488443385789298 tw12712299503110492567 tw7844047973591952183 tw18437684828485417012 tw17922352991941584681 tw3528321233495937550 tw17489782881138939501 tw4605401936584665247 tw16211290709110112439 tw8941839537425951790 tw6346820480491817958 tw8852830160145600164 tw9019174916735095128 tw17192349807021698983 tw8815918283181389422 tw7279180034869142395 tw13028850413097108807 tw16537247041493044977 tw4909720278955805914 tw12554734424029977171 tw1955529537368040540 tw331131545517307599 tw17471888158574079254 tw1805620283336995214 tw13233758475003366385 tw945143013657755357 tw4833034109829153860 tw2455251677219165173 tw7309394595319821925 tw16955072383876272754 tw7191034172632107839 tw7020954079893478961 tw7253872818242267200 tw9873040975058296271 tw5138295812292744033 tw12748340269852922540 tw17136089462715754962 tw18324702343198436149 tw14855753668664071926 tw4239702729015330964 tw618776348442667391 tw16503336462072048962 tw8765556390096943234 tw3803705216119880236 tw122346775314089485 tw964590933876593933 tw15764483166242024223 tw16902616116208898618 tw4966967646067205563 tw178217596314243688 tw6293027251098722779 tw7355010444261451208 tw15814202608975673200 tw15881011535223955192 tw8744264100969068790 tw9948239319846703281 tw7989650064270243462 tw2304824905992890900 tw4883273591350302177 tw12018514259579686464 tw7609908404725211460 tw11212421110377135983 tw7985453387401330512 tw7895312223594991219 tw2233934256024734662 tw15308615777216273249 tw4014894144142038806 tw4106033192235582202 tw17595697989637132605 tw1383439816072197171 tw4801835601923670163 tw9085946492334314877 tw9353495727242427305 tw1742351983098735707 tw6705990234685058286 tw15046913552807399525 tw1552447457551688335 tw754371320795457191 tw12487568400428715551 tw14851296425581228635 tw8459571440673373341 tw5667886687549805088 tw13927283873999916096 tw9986710743972353941 tw4311736327259746215 tw17204847199861979141 tw14024752189760303136 tw1505891694281330563 tw4439676555780312245 tw10136827356785349535 tw4738867872566184997 tw2025273383642416931 tw750347819535031217 tw5111642824655178614 tw49805901954433856 tw17791787044878729385 tw10826841965882021968 tw2900642267108098393 tw16544160920701956751 tw6037245972696260828 tw17590392609681019478 tw23401860335051756 tw9318333205634265463 tw13701638049051508143 tw5621810313381426447 tw16161614597077874362 tw18436392774950993665 tw13871895349451883392 tw9035845103838683417 tw9111404042998681269 tw10053545322025552083 tw16066822612723143744 tw7361926774255576150 tw14766038695738518580 tw16270832638745095125 tw3831865834113102141 tw9169239045319570585 tw1389326860242499842 tw5570141111810932320 tw7815919647675781742 tw15705043067212696492 tw12448553187281392723 tw13268976794104163576 tw16736566386340895737 tw14582134933764176048 tw14133401204862250321 tw9473046598150633808 tw11531899252035614419 tw4858349877602289721 tw15882508517423732340 tw11383692970002486586 tw12982974662479786035 tw15068284512305834811 tw124939807127122968 tw8227448835214795400 tw9412859117956841320 tw4041182566705878711 tw684152625208589673 tw18240261654278483211 tw13466488105977981170 tw17021760616786917166 tw4689845380885360128 tw4637340135050818589 tw11897994938509011453 tw1875907542101165363 tw2002621459983642424 tw530876862254488439 tw16332616624005161889 tw1145709909138904690 tw15781319046494086383 tw162528134117905278 tw3820632224502601642 tw15305417246574295893 tw2336660143515302643 tw2209009408052621993 tw13956886107954047052 tw14444739695741849844 tw7727911466092969065 tw6184365812823314884 tw6947084300697838275 tw6200170976241906715 tw17185902819829156948 tw8665399855135675676 tw5299509589262794004 tw3024597550632053504 tw971878108486271202:Nat)
abbrev Qf:=PySem.W.Frag
open PySem renaming PyData->My,Value->SN,Addr->SQ,Shared->SR,Program->SS,World->SU,Around->SW,Scope->SX,FuncData->SY,Stmt->SZ,Expr->Ta,Heap->Tb,sizeLine->Tc,starEach->Td,Obj->Te,Env->Tf,backTo->Ti,Keyword->Tj,wpAny->Tn,mainGlobals->To,swapsWith->Tp,attributeBase->Tq,bootBuiltins->Ts,foldedSetIterable->Tt,assignEach->Tu,cLine->Tv,NameKind->Tx,backToKw->Tz,keywordEach->TB
open PyProof.Rows renaming Keyed->Tw
set_option compiler.extract_closed false
noncomputable section
local macro_rules | `(tactic| omega)=>`(tactic| lia)
local macro_rules|`(def $i:declId $s:optDeclSig $v:declVal)=>`(noncomputable def $i:declId $s:optDeclSig $v:declVal)
local macro_rules|`(#v[$a,*])=>`(⟨$a,*⟩)
def Ms:=@PySem.wpAny_bind
def Mt:=@PySem.wpAny_pure
def Mu:=@PySem.Heap.get?_push_of_some
def Mv:=@List.length_map
def Mw:=@List.mem_cons_of_mem
def Mx:=@if_pos
def Mz:=@Nat.le_refl
def MA:=@PySem.Heap.lt_size
def MB:=@List.map_cons
def MC:=@if_neg
def MD:=@List.mem_cons_self
def ME:=@List.length_cons
def MF:=@List.getElem?_set_ne
def MG:=@Nat.le_trans
def MH:=@Option.some.inj
def MI:=@Nat.lt_of_lt_of_le
def MJ:=@List.mem_cons
def MK:=@List.getElem?_eq_some_iff
def ML:=@List.getElem?_set_self
def MM:=@PySem.Heap.get?_push_size
def MN:=@List.getElem?_eq_getElem
def MO:=@List.size_toArray
def MP:=@Option.map_eq_some_iff
def MQ:=@List.getElem?_map
def MR:=@Nat.ne_of_lt
def MS:=@of_decide_eq_true
def MT:=@Nat.lt_of_le_of_lt
def MU:=@Option.bind_some
def MV:=@Bool.false_ne_true
def MW:=@decide_eq_true
def MX:=@decide_eq_false
def MY:=@PySem.wpAny_mono
def MZ:=@List.mem_append_right
def Na:=@Bool.false_eq_true
def Nb:=@List.mem_map
def Nc:=@List.mem_singleton
def Nd:=@Nat.pow_le_pow_right
def Nf:=@List.cons_append
def Ng:=@List.drop_eq_getElem_cons
def Nh:=@Nat.zero_add
def Ni:=@List.length_append
def Nj:=@PySem.wpAny_newObj_type
def Nk:=@Nat.pow_lt_pow_right
def Nl:=@List.find?_cons_of_pos
def Nm:=@List.find?_cons_of_neg
def Nn:=@List.map_map
def Np:=@List.mem_of_getElem?
def Nq:=@List.nil_append
def Nr:=@PySem.sizeLine_eq
def Nt:=@PySem.W.mg_none_of
def Nu:=@PyProof.Rows.slot_tuple_getitem
def Nv:=@Nat.zero_le
def Nw:=@List.getD_eq_getElem?_getD
def Nx:=@PySem.wpAny_call_entry
def Ny:=@Bool.and_eq_true
def Nz:=@List.lookup_cons
def NA:=@PyProof.Rows.wpS_bind
def NB:=@PySem.Heap.size_push
def NC:=@Int.natAbs_natCast
def ND:=@Array.length_toList
def NF:=@PySem.wpAny_field
def NG:=@List.map_nil
def NH:=@List.not_mem_nil
def NI:=@Int.toNat_natCast
def NJ:=@if_false
def NK:=@PySem.mem_of_lookup
def NL:=@PySem.wpAny_holding
def NM:=@List.mem_append
def NO:=@List.length_set
def NP:=@List.length_nil
def NQ:=@Nat.mul_le_mul
def NR:=@PySem.wpAny_callSpecial?_slot
def NS:=@Nat.le_of_lt
def NT:=@Nat.ne_of_gt
def NU:=@congrArg
def NV:=@PySem.W.kia_one
def NW:=@List.append_nil
def NX:=@Option.isSome_iff_exists
def NY:=@PySem.Heap.get?_update_ne
def NZ:=@List.getElem?_replicate
def Oa:=@PySem.W.mg_of
def Ob:=@PySem.wpAny_seqItems
def Oc:=@List.map_append
def Od:=@Rat.not_lt
def Oe:=@PyProof.Rows.wpS_pure
def Of:=@if_true
def Og:=@List.getElem?_eq_none_iff
def Oh:=@PySem.F.slot_dict_keyiterator_next
def Oi:=@List.length_range
def Oj:=@PySem.Heap.get?_update_self
def Ol:=@Nat.pow_add
def Om:=@of_decide_eq_false
def On:=@Nat.lt_succ_self
def Oo:=@List.getElem?_append_right
def Oq:=@PySem.Heap.get?_update_other
def Os:=@List.drop_of_length_le
def Ot:=@PySem.wpAny_truthy_bool
def Ou:=@beq_eq_false_iff_ne
def Ov:=@List.map_congr_left
def Ow:=@Ne.symm
def Ox:=@List.pairwise_cons
def Oy:=@List.getElem_mem
def Oz:=@List.mem_append_left
def OA:=@Nat.mul_le_mul_right
def OB:=@List.replicate_succ
def OC:=@List.getElem?_range
def OD:=@List.take_of_length_le
def OE:=@Nat.mul_pos
def OF:=@PySem.wpAny_standAt
def OG:=@PySem.wpAny_rule
def OH:=@Bool.not_true
def OI:=@PySem.F.slot_tuple_iterator_next
def OJ:=@List.take_length
def OL:=@List.getElem?_eq_none
def OM:=@PySem.wpAny_pyIter_tuple
def OO:=@List.getElem?_append_left
def OP:=@List.mem_filter
def OQ:=@List.nodup_cons
def OR:=@List.find?_cons
def OS:=@or_false
def OT:=@List.flatten_cons
def OU:=@decide_eq_true_eq
def OV:=@Nat.lt_irrefl
def OW:=@PySem.wpAny_typeNameOfWhole_keyiter
def OX:=@List.getElem?_cons_succ
def OY:=@List.filterMap_cons
def OZ:=@List.length_take
def Pa:=@List.getElem_map
def Pb:=@PySem.SeqAt.canLay_of_shaped
def Pc:=@List.all_eq_true
def Pd:=@Rat.normalize_eq_mkRat
def Pe:=@PyProof.Rows.callWith_type1
def Pf:=@PySem.wpAny_Call_Name_kw
def Ph:=@PySem.Obj.data_mapFields
def Pi:=@PySem.wpAny_setField_rec
def Pj:=@Nat.lt_or_ge
def Pk:=@PySem.wpAny_execs_nil
def Pl:=@PySem.wpAny_passesOwn
def Pm:=@List.length_replicate
def Po:=@List.length_singleton
def Pq:=@Nat.not_lt_zero
def Pr:=@List.getElem?_toArray
def Pt:=@Classical.choose_spec
def Pu:=@List.sizeOf_lt_of_mem
def Pw:=@Option.isSome_map
def Px:=@Nat.lt_succ_of_lt
def Py:=@List.pairwise_iff_getElem
def Pz:=@PySem.wpAny_setField
def PB:=@Int.natAbs_mul
def PD:=@PySem.wpAny_typeNameOf_keyiter
def PF:=@PySem.AutoSeq1.sub_tuple_tuple
def PH:=@Rat.mkRat_eq_div
def PJ:=@PySem.F.plain_max_loop
def PL:=@List.length_reverse
def PN:=@PySem.Heap.SameBut.update
def PP:=@Rat.intCast_natCast
def PQ:=@List.length_eq_zero_iff
def PR:=@PySem.Paired.length
def PU:=@List.all_cons
def PX:=@PySem.wpAny_attempt
def PY:=@PySem.wpAny_call
def PZ:=@PySem.call_meets
def Qa:=@PySem.wpAny_specialOf
def Qc:=@List.zip_cons_cons
def Qd:=@Nat.mul_ne_zero
def Qe:=@Rat.div_mul_cancel
def Qg:=@Rat.den_intCast
def Qh:=@PySem.W.cellsFrom_some
def Qi:=@List.reverse_cons
def Qj:=@Int.gcd_dvd_right
def Qk:=@List.mem_range
def Ql:=@Array.getElem?_toList
def Qm:=@PySem.F.slot_zip_next
def Qn:=@Int.gcd_pos_of_ne_zero_right
def Qo:=@Nat.dvd_refl
def Qp:=@List.length_drop
def Qq:=@Nat.not_lt
def Qr:=@PySem.wpAny_callSpecialIfBoundUnlessNone?_slot
def Qt:=@PySem.F.slot_tuple_mul
def Qu:=@List.drop_length
def Qv:=@PySem.Around.under_plainId
def Qw:=@Array.getElem?_eq_some_iff
def Qx:=@Bool.true_and
def Qy:=@Int.le_refl
def Qz:=@PySem.wpAny_letGo
def QA:=@List.mem_map_of_mem
def QB:=@Nat.add_le_add_left
def QC:=@Bool.eq_iff_iff
def QD:=@Option.map_some
def QE:=@List.getElem?_zip_eq_some
def QF:=@Int.natCast_mul
def QG:=@PySem.F.args_tuple_add_2
def QH:=@PySem.wpAny_comprehension_free
def QI:=@PyProof.Rows.wpS_forRange
def QJ:=@List.getElem_range
def QK:=@PySem.F.args_dict_keyiterator_next_1
def QL:=@PySem.F.slot_str_getitem
def QM:=@Int.emod_lt_of_pos
def QN:=@PySem.W.looks_findIn
def QO:=@Int.mul_ediv_cancel_left
def QP:=@Option.toList_some
def QQ:=@PyProof.Rows.Reads.keeps
def QR:=@Bool.false_and
def QS:=@PySem.F.entry_dict_keyiterator_next
def QT:=@PySem.F.slot_dict_itemiterator_iter
def QU:=@PySem.wpAny_tryCatch
def QV:=@PySem.F.entry_tuple_add
def QW:=@PySem.AutoSeq1.sub_tuple_list
def QX:=@PySem.AutoSeq1.sub_list_tuple
def QY:=@List.append_assoc
def QZ:=@PySem.F.slot_tuple_hash
def Ra:=@Option.some.injEq
def Rb:=@PySem.F.args_tuple_iterator_next_1
def Rc:=@List.take_add_one
def Re:=@Nat.dvd_mul_right
def Rf:=@PySem.F.slot_tuple_add
def Rg:=@PySem.Calls.callWith_builtin
def Rh:=@decide_true
def Ri:=@PySem.AutoSeq1.sub_list_list
def Rj:=@PySem.F.entry_tuple_iterator_next
def Rk:=@Nat.le_succ
def Rl:=@PySem.intItems_at
def Rn:=@Nat.one_mul
def Ro:=@List.any_cons
def Rq:=@PySem.plainId_quiet
def Rr:=@PySem.wpAny_execs_cons
def Rt:=@PySem.Heap.size_update
def Ru:=@PySem.wpAny_forIn_list
def Rv:=@PySem.wpAny_isInstance
def Rw:=@PySem.F.slot_bool_hash
def Rx:=@PySem.W.Looks.ld
def Ry:=@List.filter_cons
def Rz:=@PyProof.Rows.IsTup.new
def RA:=@PySem.Obj.isFreed_of_fields
def RB:=@Nat.le_of_ble_eq_true
def RC:=@PySem.wpAny_loadName_local
def RD:=@PySem.codeAny_mono
def RE:=@List.of_mem_zip
def RF:=@PySem.wpAny_typeOf
def RG:=@PySem.typeIs_str
def RH:=@List.foldl_cons
def RI:=@PySem.F.slot_int_rmul
def RJ:=@decide_false
def RK:=@PyProof.Rows.pairsOf_size
def RL:=@PySem.wpAny_ite_false
def RM:=@Int.emod_nonneg
def RN:=@PySem.wpAny_updateSeq_pair
def RO:=@PySem.codeAny_call_builtin
def RP:=@PySem.codeAny_builtin
def RQ:=@Rat.num_intCast
def RR:=@List.length_pos_iff
def RS:=@List.nodup_nil
def RT:=@Int.natAbs_neg
def RU:=@Rat.mkRat_self
def RV:=@Rat.div_def
def RW:=@List.mem_filterMap
def RX:=@PySem.Calls.spliced_cons
def RY:=@PySem.Heap.IsSliceOf.new
def RZ:=@Int.lt_or_eq_of_le
def Sa:=@PySem.wpAny_tupleItemsOf
def Sb:=@PySem.F.args_tuple_mul_2
def Sd:=@PySem.Heap.get?_some_iff
def Se:=@Nat.lt_of_le_of_ne
def Sf:=@PySem.F.attrBase_ValueError
def Sg:=@Nat.pos_of_ne_zero
def Sj:=@Int.fdiv_eq_ediv_of_nonneg
def Sk:=@Nat.add_assoc
def Sl:=@PySem.wpAny_onRaise
def Sn:=@Nat.le_of_dvd
def So:=@PySem.W.kitx_list
def Sq:=@Nat.le_of_lt_succ
def Sr:=@List.mapM_toArray
def Su:=@Option.getD_none
def Sv:=@Nat.mul_comm
def Sw:=@Nat.lt_trans
def Sx:=@List.all_map
def Sy:=@map_eq_pure_bind
def SA:=@beq_self_eq_true
def SC:=@Nat.gcd_comm
def SD:=@Int.gcd_dvd_left
def SE:=@Int.mul_comm
def SF:=@Rat.mkRat_eq_iff
def SI:=@Nat.mul_lt_mul''
def SJ:=@decide_eq_decide
def SK:=@Nat.dvd_mul_left
def SL:=@List.forIn_cons
def SM:=@Nat.log2_lt
def bS9 {α:Type _}{β:Type _}{x:Option α}{f:α->Option β}{b:β}(h:x.bind f=some b):∃a,x=some a/\f a=some b:=Option.bind_eq_some_iff.1 h
set_option Elab.async false
set_option linter.all false
set_option maxRecDepth 100000
abbrev nDb:=λx:PySem.Str=>(x == ("__debug__":PySem.Str))=false
abbrev nCd:=λx:PySem.Str=>(x == ("__classdict__":PySem.Str))=false
set_option hygiene false
local macro_rules | `(tactic| walk_at "v")=>`(tactic| first | exact Or.inl rfl | exact Or.inr rfl | exact Or.inr (Or.inl rfl) | exact Or.inr (Or.inr rfl) | assumption)
local macro_rules | `(tactic| walk_at "kb")=>`(tactic| (refine G5.2 ?_;dsimp only[B9,MB,NG,ME,NP,List.replicate,Nf,Nq,Nat.reduceAdd,Nat.reduceSub]))
local macro_rules | `(tactic| walk_at "ka")=>`(tactic| (refine#v[_,rfl,_,_,rfl,rfl,(by show(0:Int)<1000003;decide),_,rfl,_,_,rfl,rfl,.inl #v[by decide,by decide],_,rfl,_,_,rfl,rfl,.inr #v[by omega,by omega],_,_,rfl,rfl,_,rfl,_,_,rfl,rfl,.inl #v[by decide,by decide],_,_,rfl,rfl,_,_,rfl,rfl,_,_,rfl,rfl,.inr #v[by decide,by decide],_,_,rfl,rfl,(by show(0:Int)<999961;decide),?_];refine#v[_,rfl,_,rfl,_,_,rfl,rfl,.inl #v[by omega,by omega],_,rfl,_,_,rfl,rfl,.inl #v[by decide,by decide],_,_,rfl,rfl,_,_,rfl,rfl,_,_,rfl,rfl,(by show(0:Int)<2097143;decide),?_];exact#v[_,rfl,_,_,rfl,rfl,.inr #v[by decide,by decide],_,_,rfl,rfl,(by show(0:Int)<2147483629;decide),_,_,rfl,rfl,#v[by decide,by decide],_,rfl,_,_,rfl,rfl,M,Z]))
set_option hygiene true
namespace L2
open PySem PySem.Spec PyProof.Rows
section
abbrev Key :=Sum Int Str
def gS:Key->SN->Bool
 | .inl k,v=>SN.isInt k v
 | .inr x,v=>SN.isStrOf x v
def Ha (w:SU):Key->Int
 | .inl k=>hashInt k
 | .inr x=>hashStr w x
theorem A3:∀{k:Key} {v:SN},gS k v=true->(∃i t,k=Sum.inl i/\v=SN.int i t)\/(∃x t,k=Sum.inr x/\v=SN.str x t)
 | .inl i,v,h=>by
  obtain⟨t,e⟩:=SN.isInt_shape (k:=i) (v:=v) h;exact .inl #v[i,t,rfl,e]
 | .inr x,v,h=>by obtain⟨t,e⟩:=SN.isStrOf_shape (x:=x) (v:=v) h;exact .inr #v[x,t,rfl,e]
def uF (i:Int)(t:Tok):gS (.inl i) (.int i t)=true:=by simp[gS,SN.isInt]
def uz (x:Str)(t:Tok):gS (.inr x) (.str x t)=true:=by simp[gS,SN.isStrOf]
def DU (a b:Int):decide ((Sum.inl a:Key)=Sum.inl b)=(a == b):=by
 by_cases e:a=b
 .subst e;simp
 .have h:¬(Sum.inl a:Key)=Sum.inl b:=λq=>e<|Sum.inl.inj q
  rw[MX h];exact(Ou.2 e).symm
def EH (a b:Str):decide ((Sum.inr a:Key)=Sum.inr b)=decide (a=b):=by
 by_cases e:a=b
 .subst e;simp
 .have h:¬(Sum.inr a:Key)=Sum.inr b:=λq=>e<|Sum.inr.inj q
  rw[MX h,MX e]
def DN (a:Int)(b:Str):decide ((Sum.inl a:Key)=Sum.inr b)=false:=MX (λq=>nomatch q)
def DX (a:Str)(b:Int):decide ((Sum.inr a:Key)=Sum.inl b)=false:=MX (λq=>nomatch q)
def v4 (prog:SS)(w:SU):PySem.KeyKind prog w Key where
 is:=gS
 hash:=Ha w
 inj:=λv a b l f=>by
  rcases A3 l with ⟨i,t,rfl,rfl⟩ | ⟨x,t,rfl,rfl⟩
  .rcases A3 f with ⟨j,u,rfl,e⟩ | ⟨y,u,rfl,e⟩
   .injection e with c _;rw[c]
   .exact nomatch e
  .rcases A3 f with ⟨j,u,rfl,e⟩ | ⟨y,u,rfl,e⟩
   .exact nomatch e
   .injection e with c _;rw[c]
 byValue:=λk v h=>by rcases A3 h with ⟨i,t,rfl,rfl⟩ | ⟨x,t,rfl,rfl⟩ <;> rfl
 pyHash:=λd h=>by
  rcases A3 d with ⟨i,t,rfl,rfl⟩ | ⟨x,t,rfl,rfl⟩
  .exact wpAny_pyHash_int h
  .exact wpAny_pyHash_str h
 eqBool:=λg d h=>by
  rcases A3 g with ⟨i,t,rfl,rfl⟩ | ⟨x,t,rfl,rfl⟩
  .rcases A3 d with ⟨j,u,rfl,rfl⟩ | ⟨y,u,rfl,rfl⟩
   .rw[DU]at h;exact wpAny_eqBool_int h
   .rw[DN]at h;exact SeqAt.EqAt.int_str i t y u _ _ _ _ h
  .rcases A3 d with ⟨j,u,rfl,rfl⟩ | ⟨y,u,rfl,rfl⟩
   .rw[DX]at h;exact SeqAt.EqAt.str_int x t j u _ _ _ _ h
   .rw[EH]at h;exact wpAny_eqBool_str h
 «strs»:=λk x t v h=>by
  rcases A3 h with ⟨i,u,rfl,e⟩ | ⟨y,u,rfl,e⟩
  .exact nomatch e
  .injection e with c _
   subst c;cases v <;> rfl
def nG (prog:SS)(w:SU)(i:Int)(t:Tok):(v4 prog w).is (.inl i) (.int i t)=true:=uF i t
def mj (prog:SS)(w:SU)(x:Str)(t:Tok):(v4 prog w).is (.inr x) (.str x t)=true:=uz x t
end
variable {h':Tb}
section
inductive V where
 | non | bl (b:Bool) | int (i:Int) | str (x:Str) | byt (b:Array UInt8) | flt (b:UInt64) | ref (a:SQ) | ty (n:String)
 deriving DecidableEq
def s0:V->SN->Prop
 | .non,u=>u=SN.none
 | .bl b,u=>u=SN.bool b
 | .int i,u=>∃t,u=SN.int i t
 | .str x,u=>∃t,u=SN.str x t
 | .byt b,u=>∃t,u=SN.bytes b t
 | .flt b,u=>∃t,u=SN.float b t
 | .ref a,u=>u=SN.ref a
 | .ty n,u=>u=SN.type n
abbrev m9 :List V->List SN->Prop:=Paired s0
def m9.length {xs:List V}{us:List SN}(r:m9 xs us):xs.length=us.length:=PR r
theorem m9.get:∀{xs:List V} {us:List SN} {i:Nat} {x:V},m9 xs us->xs[i]? = some x->∃u,us[i]? = some u/\s0 x u
 | _,_,_,_,.nil,e=>by simp at e
 | _,_,0,_,.cons r _,e=>by simp at e;subst e;exact#v[_,rfl,r]
 | _,_,i+1,x,.cons _ t,e=>by obtain⟨u,b,a⟩:=m9.get (i:=i) (x:=x) t (by simpa using e);exact#v[u,by simpa using b,a]
theorem m9.set {x:V}{u:SN}(r:s0 x u):∀{xs:List V} {us:List SN} (i:Nat),m9 xs us->m9 (xs.set i x) (us.set i u)
 | _,_,_,.nil=>.nil
 | _,_,0,.cons _ t=>.cons r t
 | _,_,i+1,.cons q t=>.cons q<|m9.set r i t
theorem m9.append:∀{xs ys:List V} {us ws:List SN},m9 xs us->m9 ys ws->m9 (xs++ys) (us++ws)
 | _,_,_,_,.nil,s=>s
 | _,_,_,_,.cons r t,s=>.cons r<|m9.append t s
theorem m9.take:∀{xs:List V} {us:List SN} (n:Nat),m9 xs us->m9 (xs.take n) (us.take n)
 | _,_,0,_=>.nil
 | _,_,_+1,.nil=>.nil
 | _,_,n+1,.cons r t=>.cons r<|m9.take n t
theorem m9.drop:∀{xs:List V} {us:List SN} (n:Nat),m9 xs us->m9 (xs.drop n) (us.drop n)
 | _,_,0,r=>r
 | _,_,_+1,.nil=>.nil
 | _,_,n+1,.cons _ t=>m9.drop n t
def dX:Option V->Option SN->Prop
 | some v,some u=>s0 v u
 | none,none=>True
 | _,_=>False
def KV {κ:Type}:List (κ×V)->List (κ×SN)->Prop:=Paired λ(p:κ×V) (q:κ×SN)=>p.1=q.1/\s0 p.2 q.2
def kV:Key->V
 | .inl i=>.int i
 | .inr x=>.str x
inductive HO where
  | lst (xs:List V)
  | tup (xs:List V)
  | dK (dz:List (Key×V)) | dT (dz:List (List Key×V))
  | set (S:Int->Bool) (n:Nat)
  | ins (C dx:SQ) (fs:List (Str×V))
  | own (x:SQ)
  | xd (fs:List (Str×V))
  | met (f x:SQ)
  | rng (lo hi:Int)
  | frz (o:Te) (u:HO)
  | tbl (ps:Array SN)
  | ext (φ:Tb->Prop)
abbrev Hp :=SQ->Option HO
def upd (H:Hp)(a:SQ)(o:HO):Hp:=λb=>if b=a then some o else H b
def j3 {H:Hp}{a:SQ}{o:HO}:upd H a o a=some o:=by unfold upd;rw[Mx rfl]
def i8 {H:Hp}{a b:SQ}{o:HO}(h:b≠a):upd H a o b=H b:=by unfold upd;rw[MC h]
def lp {H:Hp}{a:SQ}{o u:HO}:upd (upd H a o) a u=upd H a u:=by funext b;unfold upd;split <;> rfl
def Gp {H:Hp}{a b:SQ}{o u:HO}(h:H a=some o)(h':H b=some u)(d:o≠u):a≠b:=by intro e;subst e;rw[h]at h';exact d<|MH h'
def u7 {H:Hp}{a b:SQ}{o:HO}(h:H a=some o)(h':H b=none):a≠b:=by intro e;subst e;rw[h]at h';cases h'
section
variable (P:SS)(w:SU)
def x5 (H:Hp)(h:Tb)(a:SQ):HO->Prop
 | .lst c=>c.length<=Tc/\∃(b:List SN) (n:Nat),m9 c b/\h.get? a=some { cls:=.type "list",data:=.seq b.toArray n }
 | .tup c=>c.length<=Tc/\∃b:List SN,m9 c b/\IsTup h a b.toArray
 | .dK dz=>dz.length<=Tc/\(a == sysModules)=false/\∃g,KV dz g/\h.DictOf (v4 P w) a g
 | .dT dz=>dz.length<=Tc/\(a == sysModules)=false/\∃c:List (List Key×SQ×SN),
   Paired (λ(p:List Key×V) (q:List Key×SQ×SN)=>p.1=q.1/\H q.2.1=some (.tup<|p.1.map kV)/\s0 p.2 q.2.2) dz c /\
   ∃o k l,h.get? a=some o/\o.ExactDict/\o.data = .dict k l/\k.toList=c.map (entryOfKey<|tupleKind<|v4 P w)/\(c.map (·.1)).Nodup
 | .set S n=>h.SetOf (intKind P w) a S n
 | .ins C dx fs=>H dx=some (.own a)/\fs.length<=1000/\dx≠a/\h.get? a=some (PySem.W.instObj C dx) /\
   ∃d,h.Ns1 dx d/\(∀f,dX (fs.lookup f)<|d f)/\PySem.Within d (fs.map (·.1))
 | .own _=>∃o,h.get? a=some o
 | .xd fs=>∃d,h.Ns1 a d/\∀f,dX (fs.lookup f)<|d f
 | .rng lo hi=>∃t u v,h.get? a=some { cls:=.type "range",data:=.fields #[.int lo t,.int hi u,.int 1 v] }
 | .frz o u=>h.get? a=some o/\x5 H h a u
 | .tbl ps=>h.get? a=some { cls:=.none,data:=.fields ps }
 | .met f x=>h.get? a=some (PySem.W.methodObj (.ref f)<|.ref x)
 | .ext e=>e h/\(∃o,h.get? a=some o)/\∀j i:Tb,e j->(∀o,j.get? a=some o->i.get? a=some o)->e i
def HOk (H:Hp)(h:Tb):Prop:=∀a o,H a=some o->x5 P w H h a o
end
section
variable {P:SS}{w:SU}{H H':Hp}{h:Tb}{a:SQ}{o:HO}
def x5.lt (x:x5 P w H h a o):a<h.objs.size:=by
 cases o with
 | lst c=>obtain⟨_,_,_,_,e⟩:=x;exact MA e
 | tup c=>obtain⟨_,_,_,p⟩:=x;exact p.lt
 | dK b=>obtain⟨_,_,_,_,o,_,_,e,_⟩:=x;exact MA e
 | dT b=>obtain⟨_,_,_,_,o,_,_,e,_⟩:=x;exact MA e
 | set S n=>obtain⟨o,_,_,_,e,_⟩:=x;exact MA e
 | ins C l fs=>obtain⟨_,_,_,e,_⟩:=x;exact MA e
 | own y=>obtain⟨_,e⟩:=x;exact MA e
 | xd fs=>obtain⟨_,⟨_,_,_,e,_⟩,_⟩:=x;exact MA e
 | rng j k=>obtain⟨_,_,_,e⟩:=x;exact MA e
 | frz i u=>obtain⟨e,_⟩:=x;exact MA e
 | tbl g=>exact MA (show h.get? a=some _ from x)
 | met f y=>exact MA (show h.get? a=some _ from x)
 | ext d=>obtain⟨_,⟨_,e⟩,_⟩:=x;exact MA e
theorem Paired.mapP {α β:Type}{F G:α->β->Prop}:∀{l₁:List α} {l₂:List β},Paired F l₁ l₂->(∀a b,F a b->G a b)->Paired G l₁ l₂
 | _,_,.nil,_=>.nil
 | _,_,.cons r t,f=>.cons (f _ _ r)<|Paired.mapP t f
def x5.stay (x:x5 P w H h a o)(k:∀b u,(b=a\/H b=some (.own a))->h.get? b=some u->h'.get? b=some u)
  (ho:∀b,H b=some (.own a)->H' b=some (.own a)) (ht:∀b xs,H b=some (.tup xs)->H' b=some (.tup xs)):x5 P w H' h' a o:=by
 induction o with
 | lst xs=>obtain⟨z,l,n,r,e⟩:=x;exact#v[z,l,n,r,k _ _ (.inl rfl) e]
 | tup xs=>obtain⟨z,l,r,g,e,c⟩:=x;exact#v[z,l,r,g,k _ _ (.inl rfl) e,c]
 | dK A=>obtain⟨z,y,D,r,g,i,j,e,c⟩:=x;exact#v[z,y,D,r,g,i,j,k _ _ (.inl rfl) e,c]
 | dT A =>obtain⟨z,y,xs,r,g,i,j,e,c⟩:=x;exact#v[z,y,xs,Paired.mapP r λp q z=>#v[z.1,ht _ _ z.2.1,z.2.2],g,i,j,k _ _ (.inl rfl) e,c]
 | set S n=>obtain⟨g,i,j,t,e,c⟩:=x;exact#v[g,i,j,t,k _ _ (.inl rfl) e,c]
 | ins C L fs =>obtain⟨d,z,E,e,s,⟨m,i,j,G,c⟩,r⟩:=x;exact#v[ho _ d,z,E,k _ _ (.inl rfl) e,s,#v[m,i,j,k _ _ (.inr d) G,c],r]
 | own y=>obtain⟨g,e⟩:=x;exact#v[g,k _ _ (.inl rfl) e]
 | xd fs=>obtain⟨s,⟨m,i,j,e,c⟩,r⟩:=x;exact#v[s,#v[m,i,j,k _ _ (.inl rfl) e,c],r]
 | rng J K=>obtain⟨t,u,v,e⟩:=x;exact#v[t,u,v,k _ _ (.inl rfl) e]
 | frz g u F=>obtain⟨e,q⟩:=x;exact#v[k _ _ (.inl rfl) e,F q]
 | tbl B =>have e:h.get? a=some { cls:=.none,data:=.fields B }:=x;show h'.get? a=some { cls:=.none,data:=.fields B };exact k a _ (.inl rfl) e
 | met f y =>have e:h.get? a=some (PySem.W.methodObj (.ref f)<|.ref y):=x;show h'.get? a=some (PySem.W.methodObj (.ref f)<|.ref y);exact k a _ (.inl rfl) e
 | ext I=>obtain⟨p,⟨o,e⟩,st⟩:=x;exact#v[st _ _ p λo q=>k _ _ (.inl rfl) q,#v[o,k _ _ (.inl rfl) e],st]
def HOk.lt (x:HOk P w H h)(e:H a=some o):a<h.objs.size:=(x a o e).lt
def HOk.fresh (x:HOk P w H h)(e:h.objs.size<=a):H a=none:=by
 cases q:H a with
 | none=>rfl
 | some u=>exact absurd (MI (x.lt q) e)<|OV _
def HOk.kept (x:HOk P w H h)(k:∀b u,h.get? b=some u->h'.get? b=some u):HOk P w H h':=λa o e =>
 (x a o e).stay (λb u _ q=>k b u q) (λ_ q=>q) λ_ _ q=>q
def HOk.laid (x:HOk P w H h)(k:∀b u,h.get? b=some u->h'.get? b=some u)(hp:h.objs.size<=a)(new:x5 P w (upd H a o) h' a o):HOk P w (upd H a o) h':=λb u e=>by
 have d:=x.fresh hp;by_cases f:b=a
 .subst f;rw[j3]at e;cases e;exact new
 .rw[i8 f]at e;exact(x b u e).stay (λc v _ q=>k c v q) (λc q=>by rw[i8<|u7 q d];exact q) λc g q=>by rw[i8<|u7 q d];exact q
end
def Rd (H:Hp)(a:SQ)(u:HO):Prop:=H a=some u\/∃o,H a=some (.frz o u)
def Rd.ok {P:SS}{w:SU}{H:Hp}{h:Tb}{a:SQ}{u:HO}(r:Rd H a u)(x:HOk P w H h):x5 P w H h a u:=by
 rcases r with r | ⟨o,r⟩
 .exact x a u r
 .obtain⟨_,q⟩:=x a _ r;exact q
def Mut:Option HO->Prop
 | some (.lst _)=>True
 | some (.dK _)=>True
 | some (.dT _)=>True
 | some (.set _ _)=>True
 | some (.ins _ _ _)=>True
 | some (.ext _)=>True
 | _=>False
section
variable {P:SS}{w:SU}{H:Hp}{h:Tb}{x e:SQ}{o':HO}
def HOk.write (ok:HOk P w H h)(mu:Mut (H x))(he:e=x\/H e=some (.own x))(k:∀b u,b≠e->h.get? b=some u->h'.get? b=some u)(heo:∃u,h'.get? e=some u)
  (new:x5 P w (upd H x o') h' x o'):HOk P w (upd H x o') h':=λb u q=>by
 have d:∀c y,H c=some (.own y)->c≠x:=λc y r z=>by subst z;rw[r]at mu;exact mu
 have f:∀c g,H c=some (.tup g)->c≠x:=λc g r z=>by subst z;rw[r]at mu;exact mu
 by_cases j:b=x
 .subst j;rw[j3]at q;cases q;exact new
 .rw[i8 j]at q;by_cases a:b=e
  .have l:H b=some (.own x):=by
    rcases he with z | z
    .exact absurd (a.trans z) j
    .rw[a];exact z
   rw[q]at l;cases l;obtain⟨v,m⟩:=heo;exact#v[v,by rw[a];exact m]
  .refine(ok b u q).stay (λc v i r=>k c v ?_ r) (λc r=>by rw[i8<|d c b r];exact r) λc g r=>by rw[i8<|f c g r];exact r
   rcases i with rfl | i
   .exact a
   .rintro rfl;rcases he with z | z
    .exact d c b i z
    .rw[i]at z;cases z;exact j rfl
end
structure Un (fs ex:List SQ) (H H':Hp) (h h':Tb):Prop where
 keep:∀b o,h.get? b=some o->H b=none->b ∉ fs->b ∉ ex->h'.get? b=some o
 slot:∀b o,h.get? b=some o->H b=none->b∈fs->b ∉ ex->∃sl,h'.get? b=some { o with slots:=sl }
 free:∀b o,h.get? b=some o->H b=none->b ∉ ex->H' b=none
 there:∀b o,h.get? b=some o->b ∉ ex->∃o',h'.get? b=some o'
 tups:∀b xs,H b=some (.tup xs)->H' b=some (.tup xs)
 frzs:∀b o u,H b=some (.frz o u)->H' b=some (.frz o u)
 tbls:∀b ps,H b=some (.tbl ps)->∃more,H' b=some (.tbl<|ps++more)
section
variable {fs ex:List SQ}{H H1:Hp}{h h1:Tb}{a x e:SQ}{o:HO}
def Un.any (u:Un fs ex H H1 h h1){b:SQ}{ob:Te}(q:h.get? b=some ob)(n:H b=none)(hx:b ∉ ex):∃sl,h1.get? b=some { ob with slots:=sl }:=by
 by_cases a:b∈fs
 .exact u.slot b ob q n a hx
 .exact#v[ob.slots,u.keep b ob q n a hx]
def Un.kept (k:∀b u,h.get? b=some u->h'.get? b=some u):Un fs ex H H h h' :=
 #v[λb a q _ _ _=>k b a q,λb a q _ _ _=>#v[a.slots,k b a q],λ_ _ _ n _=>n,λb a q _=>#v[a,k b a q],λ_ _ q=>q,λ_ _ _ q=>q,λ_ c q=>#v[#[],by rw[q];simp]]
def Un.refl :Un fs ex H H h h:=Un.kept λ_ _ q=>q
def Un.laid (k:∀b u,h.get? b=some u->h'.get? b=some u)(hp:h.objs.size<=a)(hn:H a=none):Un fs ex H (upd H a o) h h' where
 keep:=λb u q _ _ _=>k b u q
 slot:=λb u q _ _ _=>#v[u.slots,k b u q]
 free:=λb u q n _=>by rw[i8<|MR<|MI (MA q) hp];exact n
 there:=λb u q _=>#v[u,k b u q]
 tups:=λb c q=>by rw[i8<|u7 q hn];exact q
 frzs:=λb u c q=>by rw[i8<|u7 q hn];exact q
 tbls:=λb d q=>#v[#[],by rw[i8<|u7 q hn,q];simp]
def Un.write (mu:Mut (H x))(he:e=x\/H e=some (.own x))(k:∀b u,b≠e->h.get? b=some u->h'.get? b=some u)(heo:∃u,h'.get? e=some u):Un fs ex H (upd H x o) h h':=by
 have d:∀b,H b=none->b≠x:=λb n z=>by subst z;rw[n]at mu;exact mu
 have f:∀b,H b=none->b≠e:=λb n z=>by
  subst z;rcases he with r | r
  .exact d b n r
  .rw[n]at r;cases r
 have c:∀b u,H b=some u->¬Mut (some u)->b≠x:=λb u q i z=>by subst z;rw[q]at mu;exact i mu
 refine#v[λb u q n _ _=>k b u (f b n) q,λb u q n _ _=>#v[u.slots,k b u (f b n) q],λb u q n _=>by rw[i8<|d b n];exact n,λb u q _=>?_,
  λb g q=>by rw[i8<|c b _ q λz=>z];exact q,λb u g q=>by rw[i8<|c b _ q λz=>z];exact q,λb j q=>#v[#[],by rw[i8<|c b _ q λz=>z,q];simp]]
 by_cases a:b=e
 .subst a;exact heo
 .exact#v[u,k b u a q]
end
def trk (h:Tb)(H:Hp):List SQ:=(List.range h.objs.size).filter λa=>(H a).isSome
def iW (h:Tb)(H:Hp):Tb:=PySem.W.hideAll h<|trk h H
def sO (h:Tb)(H:Hp):(iW h H).objs.size=h.objs.size:=PySem.W.hideAll_size _ _
def xI {h:Tb}{H:Hp}{b:SQ}{o:Te}(e:h.get? b=some o)(n:H b=none):(iW h H).get? b=some o :=
 PySem.W.hideAll_get _ e λa=>by have q:(H b).isSome=true:=(OP.1 a).2;rw[n]at q;simp at q
def Af {h:Tb}{H:Hp}{b:SQ}{o:Te}(e:(iW h H).get? b=some o):h.get? b=some o/\H b=none:=by
 have a:h.get? b=some o:=PySem.W.of_hideAll (trk h H) e;refine#v[a,?_];cases q:H b with
 | none=>rfl
 | some x =>have c:b∈trk h H:=OP.2 #v[Qk.2<|MA a,by simp[q]];have z:(iW h H).get? b=none:=PySem.W.hideAll_none (trk h H) c;rw[z]at e;cases e
end
variable {π:List (SQ×Te)}{g':Array GenState}{t':Nat}
section
structure Mod (K:Qf) (mg:Str->Option SN) (base:Tb):Prop where
 kin:K.In base
 glob:base.Ns To mg
 blt:∃mb,base.Ns builtinsNs mb/\∀x:Str,x ≠ "__name__"->mb x=Ts x
 nolimit:base.NoLimit
structure Cx where
 prog:SS
 w:SU
 K:Qf
 mg:Str->Option SN
 base:Tb
 A:SW
 N:List Str
 s₀:SR
 H₀:Hp
 env:Tf
 outer:List Tf
 stack:List Tf
 ex:List SQ
 fn:Str->Bool
 calm:Bool
 pn:List (SQ×Te)
 xe:SN->SR->Prop
def frs (l:List Tf):List SQ:=l.filterMap (·.frame)
abbrev Cx.fs (X:Cx):List SQ:=frs X.outer
def Vis (sc:SX)(x:Str):Prop:=sc.names.lookup x=some .local\/sc.names.lookup x=some .cell\/sc.names.lookup x=some .free
def Loc (sc:SX)(x:Str):Prop:=sc.names.lookup x=some .local\/sc.names.lookup x=some .cell
def Hy (env:Tf)(h:Tb)(m:Str->Option SN)(x:Str)(u:SN):Prop :=
 (env.kindOf x=some .local/\m x=some u)\/((env.kindOf x=some .cell\/env.kindOf x=some .free)/\∃c,env.cells.lookup x=some c/\h.IsCell c (some u))
structure Cx.Ok (X:Cx):Prop where
 mod:Mod X.K X.mg X.base
 kind:X.env.scope.kind = .function
 glob:X.env.globals=To
 blt:X.env.builtins=builtinsNs
 above:X.s₀.heap.objs.size<=X.env.locals
 inj:∀x y c,X.env.cells.lookup x=some c->X.env.cells.lookup y=some c->x=y
 has:∀x,(X.env.kindOf x=some .cell\/X.env.kindOf x=some .free)->∃c,X.env.cells.lookup x=some c
 cab:∀x c,X.fn x=true->X.env.cells.lookup x=some c->X.s₀.heap.objs.size<=c
 hd:X.calm=true->X.A.handled=none
 frames:X.A.frames=some X.stack
 stk:X.stack=X.outer\/(X.stack=X.env::X.outer/\X.env.frame=some X.env.locals)
 exf:∀b∈X.ex,b≠X.env.locals/\∀x c,X.env.cells.lookup x=some c->c≠b
 bs:∀b o,X.base.get? b=some o->X.s₀.heap.get? b=some o/\X.H₀ b=none
 bsz:X.base.objs.size<=X.s₀.heap.objs.size
 noex:∀b o,X.base.get? b=some o->b ∉ X.ex
 exfs:∀b∈X.ex,b ∉ X.fs
 funs:X.s₀.heap.FunFrames X.base X.outer
 frf:∀b∈X.fs,X.H₀ b=none
structure Inv (X:Cx) (π:List (SQ×Te)) (σ:List (Option V)) (H:Hp) (s:SR):Prop where
 ok:X.Ok
 os:s.os=X.s₀.os
 bare:AllBare s.gens
 base:Un X.fs X.ex X.H₀ H X.s₀.heap s.heap
 loc:∃m,s.heap.Ns X.env.locals m/\∀(i:Nat) (x:Str) (v:V),X.N[i]? = some x->σ[i]? = some (some v)->Vis X.env.scope x->∃u,s0 v u/\Hy X.env s.heap m x u
 cell:∀x c,X.env.cells.lookup x=some c->∃v,s.heap.IsCell c v
 free:H X.env.locals=none
 freeC:∀x c,X.env.cells.lookup x=some c->H c=none
 pin:∀p∈X.pn++π,s.heap.get? p.1=some p.2/\H p.1=none/\p.1≠X.env.locals/\p.1 ∉ X.fs/\∀v,p.2.data ≠ .cell v
 hok:HOk X.prog X.w H s.heap
 len:σ.length=X.N.length
section
variable {X:Cx}{σ:List (Option V)}{H H':Hp}{s:SR}
def Cx.Ok.nofr (ok:X.Ok){b:SQ}{o:Te}(e:X.base.get? b=some o):b ∉ X.fs:=λa=>by have:=(ok.funs.mem a).1;rw[e]at this;cases this
def Inv.bs (I:Inv X π σ H s):∀b o,X.base.get? b=some o->s.heap.get? b=some o/\H b=none:=λb o e =>
 #v[I.base.keep b o (I.ok.bs b o e).1 (I.ok.bs b o e).2 (I.ok.nofr e)<|I.ok.noex b o e,I.base.free b o (I.ok.bs b o e).1 (I.ok.bs b o e).2<|I.ok.noex b o e]
def Inv.bk (I:Inv X π σ H s):∀b o,X.base.get? b=some o->s.heap.get? b=some o:=λb o e=>(I.bs b o e).1
def Inv.mod (I:Inv X π σ H s):Mod X.K X.mg X.base:=I.ok.mod
def Inv.kIn (I:Inv X π σ H s):X.K.In s.heap:=I.ok.mod.kin.keeps I.bk
def Inv.nolimit (I:Inv X π σ H s):s.heap.NoLimit:=I.ok.mod.nolimit.keeps I.bk
def Inv.lt (I:Inv X π σ H s):X.env.locals<s.heap.objs.size:=let #v[_,a,_]:=I.loc;a.lt
def Inv.sz (I:Inv X π σ H s):X.s₀.heap.objs.size<=s.heap.objs.size:=MG I.ok.above<|NS I.lt
def Inv.nofs (I:Inv X π σ H s){a:SQ}(h:s.heap.objs.size<=a):a ∉ X.fs:=λc=>by obtain⟨_,o,b,_⟩:=I.ok.funs.mem c;exact absurd (MI (MA b)<|MG I.sz h)<|OV _
def Inv.cne (I:Inv X π σ H s):∀x c,X.env.cells.lookup x=some c->c≠X.env.locals:=λx c e z=>by obtain⟨v,o,d,f⟩:=I.cell x c e;obtain⟨m,⟨g,h,i,a,b,_⟩,_⟩:=I.loc;rw[z,a]at d;cases d;rw[b]at f;cases f
def Inv.funs (I:Inv X π σ H s):s.heap.FunFrames X.base X.outer:=by
 have all:∀(l:List Tf),(∀b∈frs l,b∈X.fs)->X.s₀.heap.FunFrames X.base l->s.heap.FunFrames X.base l:=by
  intro l;induction l with
  | nil=>intro _ _;trivial
  | cons n r g =>
   intro f hl;obtain⟨k,⟨L,o,a,j,i,m⟩,h⟩:=hl;have d:L∈X.fs:=f L (by unfold frs;rw[OY,a];exact MD);obtain⟨p,e⟩:=I.base.slot L o i (I.ok.frf L d) d λz=>I.ok.exfs L z d
   exact#v[k,#v[L,_,a,j,e,m],g (λb c=>f b (by unfold frs;rw[OY,a];exact Mw _ c)) h]
 exact all X.outer (λ_ c=>c) I.ok.funs
def Inv.stack (I:Inv X π σ H s):s.heap.FunFrames X.base X.stack:=by
 rcases I.ok.stk with e | ⟨e,b⟩
 .rw[e];exact I.funs
 .rw[e];obtain⟨m,a,_⟩:=I.loc;refine .cons (by rw[I.ok.kind];decide) b a ?_ I.funs;exact Tb.get?_none_of_le<|MG I.ok.bsz I.ok.above
def Inv.stkSub (I:Inv X π σ H s):∀b∈frs X.stack,b∈X.env.locals::X.fs:=λb a=>by
 rcases I.ok.stk with e | ⟨e,c⟩
 .rw[e]at a;exact Mw _ a
 .rw[e]at a;unfold frs at a;rw[OY,c]at a;exact a
def Inv.stkFree (I:Inv X π σ H s):∀b∈frs X.stack,H b=none:=λb a=>by
 rcases MJ.1 (I.stkSub b a) with e | a
 .rw[e];exact I.free
 .obtain⟨_,o,c,_⟩:=I.ok.funs.mem a;exact I.base.free b o c (I.ok.frf b a) λz=>I.ok.exfs b z a
def Inv.step {d':Drawn}{ch:List SQ}(I:Inv X π σ H s)
  (hch:∀b∈ch,(b∈X.ex\/X.s₀.heap.objs.size<=b)/\b≠X.env.locals/\(∀x c,X.env.cells.lookup x=some c->c≠b)/\∀p∈X.pn++π,p.1≠b)
  (keep:∀b o,b≠X.env.locals->b ∉ X.fs->b ∉ ch->s.heap.get? b=some o->H b=none->h'.get? b=some o)
  (slot:∀b o,b≠X.env.locals->b∈X.fs->b ∉ ch->s.heap.get? b=some o->H b=none->∃sl,h'.get? b=some { o with slots:=sl }) (free:∀b o,b ∉ ch->s.heap.get? b=some o->H b=none->H' b=none)
  (there:∀b o,b ∉ ch->s.heap.get? b=some o->∃o',h'.get? b=some o')
  (tups:∀b xs,H b=some (.tup xs)->H' b=some (.tup xs)) (frzs:∀b o u,H b=some (.frz o u)->H' b=some (.frz o u)) (tbls:∀b ps,H b=some (.tbl ps)->∃more,H' b=some (.tbl<|ps++more))
  (ns:∀m,s.heap.Ns X.env.locals m->h'.Ns X.env.locals m) (hok:HOk X.prog X.w H' h') (hg:AllBare g') :
  Inv X π σ H' { s with heap:=h',gens:=g',drawn:=d',toks:=t' }:=by
 have y:∀b o,X.s₀.heap.get? b=some o->b≠X.env.locals:=λb o e=>MR<|MI (MA e) I.ok.above
 have h:∀b o,X.s₀.heap.get? b=some o->b ∉ X.ex->b ∉ ch:=λb o e a t=>by
  rcases(hch b t).1 with z | z
  .exact a z
  .exact absurd (MI (MA e) z)<|OV _
 have g:∀x c,X.env.cells.lookup x=some c->∀v,s.heap.IsCell c v->h'.IsCell c v:=λx c e v #v[o,w,C]=>by
  have f:c ∉ ch:=λz=>(hch c z).2.2.1 x c e rfl
  by_cases G:c∈X.fs
  .obtain⟨sl,q⟩:=slot c o (I.cne x c e) G f w<|I.freeC x c e;exact#v[_,q,C]
  .exact#v[o,keep c o (I.cne x c e) G f w<|I.freeC x c e,C]
 refine#v[I.ok,I.os,hg,#v[λb o e n t a=>?_,λb o e n t a=>?_,λb o e n a=>?_,λb o e a=>?_,λb xs e=>tups b xs<|I.base.tups b xs e,λb o xs e=>frzs b o xs<|I.base.frzs b o xs e,λb ps e=>?_],?_,λx c e=>?_,?_,λx c e=>?_,λp F=>?_,hok,I.len]
 .exact keep b o (y b o e) t (h b o e a) (I.base.keep b o e n t a)<|I.base.free b o e n a
 .obtain⟨sl,j⟩:=I.base.slot b o e n t a;obtain⟨B,A⟩:=slot b _ (y b o e) t (h b o e a) j<|I.base.free b o e n a;exact#v[B,A]
 .obtain⟨o',j⟩:=I.base.there b o e a;exact free b o' (h b o e a) j<|I.base.free b o e n a
 .obtain⟨o',j⟩:=I.base.there b o e a;exact there b o' (h b o e a) j
 .obtain⟨K,j⟩:=I.base.tbls b ps e;obtain⟨J,A⟩:=tbls b _ j;exact#v[K++J,by rw[A,Array.append_assoc]]
 .obtain⟨m,L,hl⟩:=I.loc;refine#v[m,ns m L,λi x v j A M=>?_];obtain⟨u,r,l⟩:=hl i x v j A M;refine#v[u,r,?_];rcases l with l | ⟨k,c,e,z⟩
  .exact .inl l
  .exact .inr #v[k,c,e,g x c e _ z]
 .obtain⟨v,z⟩:=I.cell x c e;exact#v[v,g x c e v z]
 .obtain⟨m,⟨o,_,_,w,_⟩,_⟩:=I.loc;exact free _ o (λz=>(hch _ z).2.1 rfl) w I.free
 .obtain⟨v,o,w,C⟩:=I.cell x c e;exact free c o (λz=>(hch c z).2.2.1 x c e rfl) w<|I.freeC x c e
 .obtain⟨e,n,E,D,d⟩:=I.pin p F;have f:p.1 ∉ ch:=λz=>(hch p.1 z).2.2.2 p F rfl
  exact#v[keep p.1 p.2 E D f e n,free p.1 p.2 f e n,E,D,d]
def Inv.un (I:Inv X π σ H s)(u:Un X.fs [] H H' s.heap h')(hok:HOk X.prog X.w H' h'):Inv X π σ H' { s with heap:=h',toks:=t' }:=by
 obtain⟨m,⟨o,q,t,g,r⟩,_⟩:=id I.loc;obtain⟨k,j⟩:=u.any g I.free (by simp);exact I.step (g':=s.gens) (d':=s.drawn) (ch:=[]) (λ_ z=>nomatch z) (λb o _ c _ e n=>u.keep b o e n c<|by simp) (λb o _ c _ e n=>u.slot b o e n c<|by simp) (λb o _ e n=>u.free b o e n<|by simp) (λb o _ e=>u.there b o e<|by simp) u.tups u.frzs u.tbls (λp i=>by obtain⟨l,d,f,a,h⟩:=i;rw[g]at a;cases a;exact#v[_,d,f,j,h]) hok I.bare
def Inv.call {d':Drawn}{ch:List SQ}(I:Inv X π σ H s)(u:Un (frs X.stack) ch H H' s.heap h')(hok:HOk X.prog X.w H' h')(hg:AllBare g')
  (hch:∀b∈ch,(b∈X.ex\/X.s₀.heap.objs.size<=b)/\b≠X.env.locals/\(∀x c,X.env.cells.lookup x=some c->c≠b)/\∀p∈X.pn++π,p.1≠b) :
  Inv X π σ H' { s with heap:=h',gens:=g',drawn:=d',toks:=t' }:=by
 obtain⟨m,⟨o,w,y,i,r⟩,_⟩:=id I.loc;obtain⟨q,f⟩:=u.any i I.free λz=>(hch _ z).2.1 rfl
 exact I.step (ch:=ch) hch (λb o f l a e n=>u.keep b o e n (λz=>(MJ.1<|I.stkSub b z).elim f l) a) (λb o _ _ a e n=>u.any e n a) (λb o a e n=>u.free b o e n a) (λb o a e=>u.there b o e a) u.tups u.frzs u.tbls (λv k=>by obtain⟨t,g,h,d,j⟩:=k;rw[i]at d;cases d;exact#v[_,g,h,f,j]) hok hg
def Inv.turned {it:SQ}(I:Inv X π σ H s)(k:∀b o,b≠it->s.heap.get? b=some o->h'.get? b=some o)(hn:H it=none)(hL:it≠X.env.locals)
  (h1:it∈X.ex\/X.s₀.heap.objs.size<=it) (h2:∀x c,X.env.cells.lookup x=some c->c≠it) (h3:∀p∈X.pn++π,p.1≠it):Inv X π σ H { s with heap:=h',toks:=t' }:=by
 have d:∀b u,H b=some u->b≠it:=λb u e z=>by rw[z,hn]at e;cases e
 refine I.step (g':=s.gens) (d':=s.drawn) (ch:=[it]) (λb h=>?_) (λb o _ _ a e _=>k b o (λz=>a<|by simp[z]) e) (λb o _ _ a e _=>#v[o.slots,k b o (λz=>a<|by simp[z]) e]) (λ_ _ _ _ n=>n)
  (λb o a e=>#v[o,k b o (λz=>a<|by simp[z]) e]) (λ_ _ e=>e) (λ_ _ _ e=>e) (λb l e=>#v[#[],by rw[e];simp]) (λm g=>?_) (λb u e=>?_) I.bare
 .have e:b=it:=by simpa using h
  subst e;exact#v[h1,hL,h2,h3]
 .obtain⟨o,i,j,f,r⟩:=g;exact#v[o,i,j,k _ o (Ow hL) f,r]
 .refine(I.hok b u e).stay (λc v a q=>k c v ?_ q) (λ_ q=>q) λ_ _ q=>q
  rcases a with z | z
  .rw[z];exact d b u e
  .exact d c _ z
def Inv.tok (I:Inv X π σ H s)(t:Nat):Inv X π σ H { s with toks:=t }:=I.un (h':=s.heap) (t':=t) Un.refl I.hok
def Inv.kept (I:Inv X π σ H s)(k:∀b u,s.heap.get? b=some u->h'.get? b=some u):Inv X π σ H { s with heap:=h',toks:=t' }:=I.un (Un.kept k)<|I.hok.kept k
def Inv.laid {a:SQ}{o:HO}(I:Inv X π σ H s)(k:∀b u,s.heap.get? b=some u->h'.get? b=some u)(hp:s.heap.objs.size<=a)(new:x5 X.prog X.w (upd H a o) h' a o) :
  Inv X π σ (upd H a o) { s with heap:=h',toks:=t' }:=I.un (Un.laid k hp<|I.hok.fresh hp)<|I.hok.laid k hp new
def Inv.write {x e:SQ}{o:HO}(I:Inv X π σ H s)(mu:Mut (H x))(he:e=x\/H e=some (.own x))(k:∀b u,b≠e->s.heap.get? b=some u->h'.get? b=some u)(heo:∃u,h'.get? e=some u)
  (new:x5 X.prog X.w (upd H x o) h' x o):Inv X π σ (upd H x o) { s with heap:=h',toks:=t' }:=I.un (Un.write mu he k heo)<|I.hok.write mu he k heo new
def Inv.pins_of {pins':List (SQ×Te)}(I:Inv X π σ H s)(h:∀p∈pins',s.heap.get? p.1=some p.2/\H p.1=none/\p.1≠X.env.locals/\p.1 ∉ X.fs/\∀v,p.2.data ≠ .cell v):Inv X pins' σ H s :=
 #v[I.ok,I.os,I.bare,I.base,I.loc,I.cell,I.free,I.freeC,λp a=>(NM.1 a).elim (λz=>I.pin p<|Oz _ z)<|h p,I.hok,I.len]
def gK {N:List Str}(hN:N.Nodup){i j:Nat}{x:Str}(a:N[i]? = some x)(b:N[j]? = some x):i=j:=by obtain⟨f,d⟩:=MK.1 a;obtain⟨e,c⟩:=MK.1 b;exact(List.getElem_inj hN).1<|d.trans c.symm
def uP {M:Model}{A:SW}{E:SN->SR->Prop}{i:Nat}{x:Str}{v:V}{u:SN}{Q:Unit->SR->Prop}(I:Inv X π σ H s)(hN:X.N.Nodup)(hi:X.N[i]? = some x)(hx:Loc X.env.scope x)(r:s0 v u)
  (h:∀s',Inv X π (σ.set i<|some v) H s'->(∃a,Tb.SameBut a s.heap s'.heap/\(a=X.env.locals\/X.env.cells.lookup x=some a))->Q () s') (hf:X.fn x=true\/X.env.scope.names.lookup x=some .local:=by walk_at "v"):Tn M A (storeName X.env x u) Q E s:=by
 obtain⟨m,hn,hl⟩:=id I.loc;have N:(X.env.scope.kind == .class||(X.env.scope.kind == .module&&X.env.locals != X.env.globals))=false:=by rw[I.ok.kind];rfl
 have D:i < σ.length:=by rw[I.len];exact(MK.1 hi).1
 have cne:=I.cne;have g:∀{a:SQ} {h':Tb},(∃o,s.heap.get? a=some o/\H a=none)->Tb.SameBut a s.heap h'->HOk X.prog X.w H h':=λ{a h'} ha f b ob e=>by
  obtain⟨_,_,w⟩:=ha;refine(I.hok b ob e).stay (λc R t q=>(f.2 c ?_).trans q) (λ_ q=>q) λ_ _ q=>q
  rintro rfl;rcases t with rfl | t
  .rw[w]at e;cases e
  .rw[w]at t;cases t
 rcases hx with C | C
 .refine wpAny_storeName_local C hn (λh' ac f=>?_) N;obtain⟨oL,_,_,ab,_⟩:=id hn;refine h _ #v[I.ok,I.os,I.bare,#v[λb o e n J hx=>?_,λb o e n J hx=>?_,I.base.free,λb o e hx=>?_,I.base.tups,I.base.frzs,I.base.tbls],#v[_,ac,λj y U l B e3=>?_],λy c e=>?_,I.free,I.freeC,λp hp=>?_,g #v[oL,ab,I.free] f,by simpa using I.len] #v[_,f,.inl rfl]
  .exact(f.2 b<|MR<|MI (MA e) I.ok.above).trans<|I.base.keep b o e n J hx
  .obtain⟨Y,l⟩:=I.base.slot b o e n J hx;exact#v[Y,(f.2 b<|MR<|MI (MA e) I.ok.above).trans l]
  .obtain⟨o',l⟩:=I.base.there b o e hx;exact#v[o',(f.2 b<|MR<|MI (MA e) I.ok.above).trans l]
  .by_cases F:j=i
   .subst F;rw[hi]at l;cases l;rw[ML D]at B;cases B;exact#v[u,r,.inl #v[C,by simp]]
   .rw[MF<|Ow F]at B;obtain⟨W,Z,q⟩:=hl j y U l B e3;refine#v[W,Z,?_];rcases q with ⟨k,e⟩ | ⟨k,c,e,z⟩
    .refine .inl #v[k,?_];have:y≠x:=λe=>F<|gK hN l<|e▸hi
     simp[this,e]
    .exact .inr #v[k,c,e,z.sameBut f<|cne y c e]
  .obtain⟨R,z⟩:=I.cell y c e;exact#v[R,z.sameBut f<|cne y c e]
  .obtain⟨e,n,S,nf,d⟩:=I.pin p hp;exact#v[(f.2 p.1 S).trans e,n,S,nf,d]
 .have G:X.fn x=true:=by
   rcases hf with z | z
   .exact z
   .rw[z]at C;cases C
  obtain⟨c,t⟩:=I.ok.has x<|.inl C;obtain⟨R,z⟩:=I.cell x c t;refine wpAny_storeName_cell I.ok.kind C t z (λh' P f=>?_);obtain⟨oc,L,K⟩:=id z;refine h { s with heap:=h' } #v[I.ok,I.os,I.bare,#v[λb o e n J hx=>?_,λb o e n J hx=>?_,I.base.free,λb o e hx=>?_,I.base.tups,I.base.frzs,I.base.tbls],#v[m,hn.sameBut f<|Ow<|cne x c t,λj y U l B e3=>?_],λy T e=>?_,I.free,I.freeC,λp hp=>?_,g #v[oc,L,I.freeC x c t] f,by simpa using I.len] #v[c,f,.inr t]
  .exact(f.2 b<|MR<|MI (MA e)<|I.ok.cab x c G t).trans<|I.base.keep b o e n J hx
  .obtain⟨Y,l⟩:=I.base.slot b o e n J hx;exact#v[Y,(f.2 b<|MR<|MI (MA e)<|I.ok.cab x c G t).trans l]
  .obtain⟨o',l⟩:=I.base.there b o e hx;exact#v[o',(f.2 b<|MR<|MI (MA e)<|I.ok.cab x c G t).trans l]
  .by_cases F:j=i
   .subst F;rw[hi]at l;cases l;rw[ML D]at B;cases B;exact#v[u,r,.inr #v[.inl C,c,t,P]]
   .rw[MF<|Ow F]at B;obtain⟨W,Z,q⟩:=hl j y U l B e3;refine#v[W,Z,?_];rcases q with q | ⟨k,T,e,z'⟩
    .exact .inl q
    .refine .inr #v[k,T,e,z'.sameBut f ?_];rintro rfl;exact F<|gK hN l<|I.ok.inj _ _ _ e t▸hi
  .by_cases O:T=c
   .subst O;exact#v[_,P]
   .obtain⟨w2,z2⟩:=I.cell y T e;exact#v[w2,z2.sameBut f O]
  .obtain⟨e,n,S,nf,d⟩:=I.pin p hp;refine#v[(f.2 p.1 ?_).trans e,n,S,nf,d];intro q;rw[q,L]at e;have q':oc=p.2:=MH e;exact d R (by rw[<-q'];exact K)
def W4 {M:Model}{A:SW}{E:SN->SR->Prop}{i:Nat}{x:Str}{v:V}{u:SN}{Q:Unit->SR->Prop}(I:Inv X π σ H s)(hN:X.N.Nodup)(hi:X.N[i]? = some x)(hx:Loc X.env.scope x)(r:s0 v u)
  (h:∀s',Inv X π (σ.set i<|some v) H s'->Q () s') (hf:X.fn x=true\/X.env.scope.names.lookup x=some .local:=by walk_at "v"):Tn M A (storeName X.env x u) Q E s :=
 uP I hN hi hx r (λs' a _=>h s' a) hf
def Inv.call' {s':SR}{ch:List SQ}(I:Inv X π σ H s)(ho:s'.os=s.os)(u:Un (frs X.stack) ch H H' s.heap s'.heap)(hok:HOk X.prog X.w H' s'.heap)(hg:AllBare s'.gens)
  (hch:∀b∈ch,(b∈X.ex\/X.s₀.heap.objs.size<=b)/\b≠X.env.locals/\(∀x c,X.env.cells.lookup x=some c->c≠b)/\∀p∈X.pn++π,p.1≠b):Inv X π σ H' s':=by obtain⟨h',g',d',t',a⟩:=s';have e:a=s.os:=ho;subst e;exact I.call (g':=g') (t':=t') (d':=d') u hok hg hch
end
abbrev XK :=SN->Option SQ->Hp->Prop
abbrev St :=List<|Option V
abbrev VK :=V->Hp->Prop
abbrev TE :=St->Hp->VK->Prop
abbrev TT :=St->Hp->(Bool->Hp->Prop)->Prop
abbrev TA :=St->Hp->(List V->Hp->Prop)->Prop
structure Ends where
 nx:St->Hp->Prop
 rt:VK
 bk:St->Hp->Prop:=λ_ _=>False
 ct:St->Hp->Prop:=λ_ _=>False
abbrev TS :=Ends->St->Hp->Prop
def EP (X:Cx)(π:List (SQ×Te))(σ:St)(Q:VK)(u:SN)(s':SR):Prop:=∃v a,Inv X π σ a s'/\s0 v u/\Q v a
def TP (X:Cx)(π:List (SQ×Te))(σ:St)(Q:Bool->Hp->Prop)(b:Bool)(s':SR):Prop:=∃a,Inv X π σ a s'/\Q b a
def AP (X:Cx)(π:List (SQ×Te))(σ:St)(Q:List V->Hp->Prop)(us:List SN)(s':SR):Prop:=∃a b,Inv X π σ b s'/\m9 a us/\Q a b
def SP (X:Cx)(π:List (SQ×Te))(D:Ends)(f:Flow)(s':SR):Prop :=
 match f with
 | .next=>∃a b,Inv X π a b s'/\D.nx a b
 | .brk=>∃a b,Inv X π a b s'/\D.bk a b
 | .cont=>∃a b,Inv X π a b s'/\D.ct a b
 | .ret u=>∃v a b,Inv X π a b s'/\s0 v u/\D.rt v b
def PE (X:Cx)(e:Ta)(t:TE):Prop :=
 ∀(π:List (SQ×Te)) (s:SR) (a:St) (H:Hp) (Q:VK),Inv X π a H s->t a H Q->Tn (model X.prog X.w) X.A (eval e X.env) (EP X π a Q) X.xe s
def PT (X:Cx)(e:Ta)(t:TT):Prop :=
 ∀(π:List (SQ×Te)) (s:SR) (a:St) (H:Hp) (Q:Bool->Hp->Prop),Inv X π a H s->t a H Q->Tn (model X.prog X.w) X.A (isTrue e X.env<|eval e X.env) (TP X π a Q) X.xe s
def PW (X:Cx)(e:Ta)(t:TT):Prop :=
 ∀(a:Sem SN) (π:List (SQ×Te)) (s:SR) (b:St) (H:Hp) (Q:Bool->Hp->Prop),Inv X π b H s->t b H Q->Tn (model X.prog X.w) X.A (isTrue e X.env a) (TP X π b Q) X.xe s
def PW.pt {X:Cx}{e:Ta}{t:TT}(h:PW X e t):PT X e t:=h _
def PA (X:Cx)(es:List Ta)(t:TA):Prop :=
 ∀(b:Pos) (π:List (SQ×Te)) (s:SR) (a:St) (H:Hp) (Q:List V->Hp->Prop),Inv X π a H s->t a H Q->Tn (model X.prog X.w) X.A (spliced<|Ti b<|Td es X.env) (AP X π a Q) X.xe s
def PS (X:Cx)(st:SZ)(t:TS):Prop :=
 ∀(π:List (SQ×Te)) (s:SR) (a:St) (H:Hp) (D:Ends),Inv X π a H s->t D a H->Tn (model X.prog X.w) X.A (exec st X.env) (SP X π D) X.xe s
def PSs (X:Cx)(st:List SZ)(t:TS):Prop :=
 ∀(π:List (SQ×Te)) (s:SR) (a:St) (H:Hp) (D:Ends),Inv X π a H s->t D a H->Tn (model X.prog X.w) X.A (execs st X.env) (SP X π D) X.xe s
def thn {α:Type}{t:Sem α}{Q Q':α->SR->Prop}{M:Model}{A:SW}{E:SN->SR->Prop}{s:SR}(h:Tn M A t Q E s)(hQ:∀a s,Q a s->Q' a s):Tn M A t Q' E s:=MY h hQ λ_ _ x=>x
end
variable {pos:Pos}{ta:TE}
section
section
variable {X:Cx}
def Q2 (i:Nat):TE:=λa H Q=>∃v,a[i]? = some (some v)/\Q v H
def tC (v:V):TE:=λ_ H Q=>Q v H
def D5 {i:Nat}{x:Str}(hN:X.N[i]? = some x)(hv:Vis X.env.scope x)(hd:nDb x:=by decide)(hcd:nCd x:=by decide):PE X (.Name x pos) (Q2 i):=by
 intro π s f H Q I h;obtain⟨v,e,h⟩:=h;obtain⟨m,g,hl⟩:=I.loc;obtain⟨u,r,l⟩:=hl i x v hN e hv;have fin:EP X π f Q u s:=#v[v,H,I,r,h];rcases l with ⟨b,j⟩ | ⟨b,c,d,a⟩
 .exact wpAny_Name (RC I.ok.kind b g j fin) hd
 .rcases b with b | b
  .exact wpAny_Name (wpAny_loadName_cell I.ok.kind b d a fin) hd
  .exact wpAny_Name (wpAny_loadName_free I.ok.kind b d a fin hcd) hd
def u0 {i j pos}:PE X (.Constant (.int i) j pos) (tC<|.int i):=λ_ _ _ H _ I h=>wpAny_Constant_int #v[.int i,H,I.tok _,#v[_,rfl],h]
def GR {b j pos}:PE X (.Constant (.bool b) j pos) (tC<|.bl b):=λ_ _ _ H _ I h=>Constant_bool #v[.bl b,H,I,rfl,h]
def Ct {j pos}:PE X (.Constant .none j pos) (tC .non):=λ_ _ _ H _ I h=>Constant_none #v[.non,H,I,rfl,h]
def vT {x j pos}:PE X (.Constant (.str x) j pos) (tC<|.str x):=λ_ _ _ H _ I h=>Calls.Constant_str #v[.str x,H,I.tok _,#v[_,rfl],h]
def Gl (X:Cx)(x:Str):Prop:=X.env.kindOf x=some .globalImplicit
def cJ {E:SN->SR->Prop}{s:SR}{σ:St}{H:Hp}{x:Str}{u:SN}{Q:SN->SR->Prop}(I:Inv X π σ H s)(hg:Gl X x)(hm:X.mg x=some u)(h:Q u s)
  (hd:nDb x:=by decide):Tn (model X.prog X.w) X.A (eval (.Name x pos) X.env) Q E s :=
 Calls.Name_function_global I.ok.kind hg (Calls.loadGlobal_global (by rw[I.ok.glob];exact I.mod.glob.keeps I.bk) hm h) hd
def cF {E:SN->SR->Prop}{s:SR}{σ:St}{H:Hp}{x:Str}{u:SN}{Q:SN->SR->Prop}(I:Inv X π σ H s)(hg:Gl X x)(hm:X.mg x=none)(hv:Ts x=some u)(h:Q u s)
  (hn:x ≠ "__name__":=by decide) (hd:nDb x:=by decide):Tn (model X.prog X.w) X.A (eval (.Name x pos) X.env) Q E s:=by obtain⟨c,b,a⟩:=I.mod.blt;exact Calls.Name_function_global I.ok.kind hg (Calls.loadGlobal_builtin (by rw[I.ok.glob];exact I.mod.glob.keeps I.bk) hm (by rw[I.ok.blt];exact b.keeps I.bk) ((a x hn).trans hv) h) hd
def kX {x:Str}{v:V}{u:SN}(hg:Gl X x)(hm:X.mg x=some u)(r:s0 v u)(hd:nDb x:=by decide):PE X (.Name x pos) (tC v) :=
 λ_ _ _ H _ I h=>cJ I hg hm #v[v,H,I,r,h] hd
def rW {x:Str}{v:V}{u:SN}(hg:Gl X x)(hm:X.mg x=none)(hv:Ts x=some u)(r:s0 v u)(hn:x ≠ "__name__":=by decide)(hd:nDb x:=by decide):PE X (.Name x pos) (tC v) :=
 λ_ _ _ H _ I h=>cF I hg hm hv #v[v,H,I,r,h] hn hd
variable {a b:Ta}{tb:TE}
def tB (t:TE):TT:=λa H Q=>t a H λx b=>∃c,x = .bl c/\Q c b
def qg {e:Ta}{t:TE}(h:PE X e t)(he:∀whole,isTrue e X.env whole=(do let v <-whole;standAt e.pos;holding [v] (truthy v)):=by intro _;rfl):PT X e (tB t):=by intro π s a H Q I f;refine isTrue_plain (thn (h π s a H _ I f) λv s1 #v[x,i,g,b,c]=>?_)<|he _;obtain⟨d,rfl,q⟩:=c;cases b;exact Ot #v[i,g,q]
variable {tA tB':TT}{rest:List Ta}
def Ao (t u:TT):TT:=λa H Q=>t a H λc b=>if c=true then u a b Q else Q false b
def tOr (t u:TT):TT:=λa H Q=>t a H λc b=>if c=true then Q true b else u a b Q
def CK (t:TT):TT:=λa H Q=>t a H λc b=>Q (!c) b
def kF (ha:PT X a tA):PW X (.BoolOp .And [a] pos) tA:=by
 intro d π s b H Q I h;refine isTrue_and (thn (ha π s b H Q I h) λc s1 e=>?_);cases c with
 | true=>exact isTrue_and_nil e
 | false=>exact e
def CL (ha:PT X a tA):PW X (.BoolOp .Or [a] pos) tA:=by
 intro d π s b H Q I h;refine isTrue_or (thn (ha π s b H Q I h) λc s1 e=>?_);cases c with
 | false=>exact isTrue_or_nil e
 | true=>exact e
def lD (ha:PT X a tA)(hb:PW X (.BoolOp .And (b::rest) pos) tB'):PW X (.BoolOp .And (a::b::rest) pos) (Ao tA tB'):=by
 intro i π s d H Q I h;refine isTrue_and (thn (ha π s d H _ I h) λc s1 #v[g,f,e]=>?_);cases c with
 | true=>exact hb i π s1 d g Q f e
 | false=>exact#v[g,f,e]
def Gn (ha:PT X a tA)(hb:PW X (.BoolOp .Or (b::rest) pos) tB'):PW X (.BoolOp .Or (a::b::rest) pos) (tOr tA tB'):=by
 intro i π s d H Q I h;refine isTrue_or (thn (ha π s d H _ I h) λc s1 #v[g,f,e]=>?_);cases c with
 | true=>exact#v[g,f,e]
 | false=>exact hb i π s1 d g Q f e
def wI (ha:PT X a tA):PT X (.UnaryOp .Not a pos) (CK tA):=by intro π s b H Q I h;exact isTrue_not (ha π s b H (λc d=>Q (!c) d) I h)
def BR (ta tb:TE):TE:=λa H Q=>ta a H λx b=>∃c,x = .bl c/\if c=true then tb a b Q else Q (.bl false) b
def BH (ta:TE):TE:=λa H Q=>ta a H λx b=>∃c,x = .bl c/\Q (.bl (!c)) b
def CI {op}{t:TE}(h:PE X a t):PE X (.BoolOp op [a] pos) t:=λπ s b H Q I c=>BoolOp_one<|h π s b H Q I c
def Ep (ha:PE X a ta)(hb:PE X (.BoolOp .And (b::rest) pos) tb):PE X (.BoolOp .And (a::b::rest) pos) (BR ta tb):=by
 intro π s e H Q I h;refine BoolOp_and (thn (ha π s e H _ I h) λv s1 #v[x,g,f,i,d]=>?_);obtain⟨c,rfl,d⟩:=d;cases i;refine Ot ?_;cases c with
 | true=>exact hb π s1 e g Q f d
 | false=>exact#v[.bl false,g,f,rfl,d]
def Dd (ha:PE X a ta):PE X (.UnaryOp .Not a pos) (BH ta):=by intro π s d H Q I h;refine UnaryOp_ (thn (ha π s d H _ I h) λv s1 #v[x,g,f,e,b]=>?_);obtain⟨c,rfl,b⟩:=b;cases e;exact not_of<|Ot #v[.bl (!c),g,f,rfl,b]
def tIf (t:TT)(ta tb:TE):TE:=λa H Q=>t a H λc b=>if c=true then ta a b Q else tb a b Q
def mH {c:Ta}(hc:PT X c tA)(ha:PE X a ta)(hb:PE X b tb):PE X (.IfExp c a b pos) (tIf tA ta tb):=by
 intro π s e H Q I h;refine wpAny_IfExp (thn (hc π s e H _ I h) λd s1 #v[i,g,f]=>?_);cases d with
 | true=>exact ha π s1 e i Q g f
 | false=>exact hb π s1 e i Q g f
end
end
variable {te:TE}{es:List Ta}{tg:Ta}{body:List SZ}
section
def SqL (K:Qf)(H:Hp)(a:SQ)(xs:List V):Prop :=
 Rd H a (.lst xs) \/
  ∃(o:Te) (b:Array SN) (n:Nat),K.lookup a=some o/\o.cls = .type "list" /\ o.dict=none/\o.data = .seq b n/\b.size<=Tc/\m9 xs b.toList
def SqT (K:Qf)(H:Hp)(a:SQ)(xs:List V):Prop :=
 Rd H a (.tup xs) \/
  ∃(o:Te) (b:Array SN) (n:Nat),K.lookup a=some o/\o.cls = .type "tuple" /\ o.data = .seq b n/\b.size<=Tc/\m9 xs b.toList
def Hl:SN->Option V
 | .none=>some .non
 | .bool b=>some<|.bl b
 | .int i _=>some<|.int i
 | .str x _=>some<|.str x
 | .bytes b _=>some<|.byt b
 | .float b _=>some<|.flt b
 | .ref a=>some<|.ref a
 | .type n=>some<|.ty n
 | _=>none
def s0.abs {x:V}{u:SN}(r:s0 x u):Hl u=some x:=by
 cases x with
 | non=>cases r;rfl
 | bl _=>cases r;rfl
 | int _=>obtain⟨t,rfl⟩:=r;rfl
 | str _=>obtain⟨t,rfl⟩:=r;rfl
 | byt _=>obtain⟨t,rfl⟩:=r;rfl
 | flt _=>obtain⟨t,rfl⟩:=r;rfl
 | ref _=>cases r;rfl
 | ty _=>cases r;rfl
def s0.inj {x y:V}{u:SN}(r:s0 x u)(q:s0 y u):x=y:=MH<|r.abs.symm.trans q.abs
theorem m9.inj:∀{xs ys:List V} {us:List SN},m9 xs us->m9 ys us->xs=ys
 | _,_,_,.nil,.nil=>rfl
 | _,_,_,.cons r t,.cons r' t'=>by rw[r.inj r',m9.inj t t']
section
variable {X:Cx}{σ:St}{H:Hp}{s:SR}{a:SQ}{xs ys:List V}
def SqL.of {K:Qf}(h:H a=some (.lst xs)):SqL K H a xs:=.inl<|.inl h
def SqT.of {K:Qf}(h:H a=some (.tup xs)):SqT K H a xs:=.inl<|.inl h
def Inv.list (I:Inv X π σ H s)(h:SqL X.K H a xs):∃its:List SN,m9 xs its/\PlainL s.heap a its.toArray/\xs.length<=Tc:=by
 rcases h with h | ⟨o,its,n,c,f,d,b,g,r⟩
 .obtain⟨z,its,n,r,e⟩:=h.ok I.hok;exact#v[its,r,#v[_,n,e,rfl,rfl,rfl],z]
 .refine#v[its.toList,r,#v[o,n,I.kIn a o c,f,d,by simpa using b],?_];have e:=r.length;simp only[ND]at e;omega
def Inv.tuple (I:Inv X π σ H s)(h:SqT X.K H a xs):∃its:List SN,m9 xs its/\IsTup s.heap a its.toArray/\xs.length<=Tc:=by
 rcases h with h | ⟨o,its,n,c,d,b,f,r⟩
 .obtain⟨z,its,r,p⟩:=h.ok I.hok;exact#v[its,r,p,z]
 .refine#v[its.toList,r,#v[o,I.kIn a o c,d,n,by simpa using b],?_];have e:=r.length;simp only[ND]at e;omega
def Inv.list_inj (I:Inv X π σ H s)(h:SqL X.K H a xs)(h':SqL X.K H a ys):xs=ys:=by
 obtain⟨c,r,⟨o,n,e,_,_,d⟩,_⟩:=I.list h;obtain⟨b,i,⟨k,l,f,_,_,g⟩,_⟩:=I.list h';rw[e]at f;cases f;rw[d]at g;injection g with j _
 have:c=b:=by simpa using NU Array.toList j
 subst this;exact r.inj i
def Inv.tuple_inj (I:Inv X π σ H s)(h:SqT X.K H a xs)(h':SqT X.K H a ys):xs=ys:=by
 obtain⟨c,r,⟨o,e,_,n,d⟩,_⟩:=I.tuple h;obtain⟨b,i,⟨k,f,_,l,g⟩,_⟩:=I.tuple h';rw[e]at f;cases f;rw[d]at g;injection g with j _
 have:c=b:=by simpa using NU Array.toList j
 subst this;exact r.inj i
end
abbrev Cx.wish (X:Cx)(E:SN->SR->Prop):Cx:={ X with xe:=E }
abbrev Cx.nox (X:Cx):Cx:=X.wish λ_ _=>False
def Cx.Ok.wish {X:Cx}(ok:X.Ok)(E:SN->SR->Prop):(X.wish E).Ok :=
 #v[ok.mod,ok.kind,ok.glob,ok.blt,ok.above,ok.inj,ok.has,ok.cab,ok.hd,ok.frames,ok.stk,ok.exf,ok.bs,ok.bsz,ok.noex,ok.exfs,ok.funs,ok.frf]
def Cx.Ok.unwish {X:Cx}{E:SN->SR->Prop}(ok:(X.wish E).Ok):X.Ok :=
 #v[ok.mod,ok.kind,ok.glob,ok.blt,ok.above,ok.inj,ok.has,ok.cab,ok.hd,ok.frames,ok.stk,ok.exf,ok.bs,ok.bsz,ok.noex,ok.exfs,ok.funs,ok.frf]
section
variable {X:Cx}{σ:St}{H:Hp}{s:SR}{E:SN->SR->Prop}
def Inv.wish (I:Inv X π σ H s)(E:SN->SR->Prop):Inv (X.wish E) π σ H s:=#v[I.ok.wish E,I.os,I.bare,I.base,I.loc,I.cell,I.free,I.freeC,I.pin,I.hok,I.len]
def Inv.unwish (I:Inv (X.wish E) π σ H s):Inv X π σ H s:=#v[I.ok.unwish,I.os,I.bare,I.base,I.loc,I.cell,I.free,I.freeC,I.pin,I.hok,I.len]
def SP.unwish {D:Ends}{f:Flow}{s':SR}(h:SP (X.wish E) π D f s'):SP X π D f s':=by
 cases f with
 | next=>obtain⟨a,b,I,q⟩:=h;exact#v[a,b,I.unwish,q]
 | brk=>obtain⟨a,b,I,q⟩:=h;exact#v[a,b,I.unwish,q]
 | cont=>obtain⟨a,b,I,q⟩:=h;exact#v[a,b,I.unwish,q]
 | ret u=>obtain⟨v,a,b,I,r,q⟩:=h;exact#v[v,a,b,I.unwish,r,q]
def PT.nox {e:Ta}{t:TT}(h:PT X.nox e t):PT X e t:=λπ s σ H Q I a =>
 MY (h π s σ H Q (I.wish _) a) (λ_ _ #v[c,b,q]=>#v[c,b.unwish,q]) λ_ _ z=>False.elim z
def PSs.nox {st:List SZ}{t:TS}(h:PSs X.nox st t):PSs X st t:=λπ s σ H D I a =>
 MY (h π s σ H D (I.wish _) a) (λ_ _ q=>q.unwish) λ_ _ z=>False.elim z
end
section
variable {X:Cx}{st:SZ}{rest:List SZ}{t u:TS}{e:Ta}
def yA :TS:=λD a H=>D.nx a H
def yi (t u:TS):TS:=λD a H=>t { D with nx:=u D } a H
def fU :PSs X [] yA:=λ_ _ a H _ I h=>Pk #v[a,H,I,h]
def B6 (h1:PS X st t)(h2:PSs X rest u):PSs X (st::rest) (yi t u):=by
 intro π s b H D I h;refine Rr (thn (h1 π s b H { D with nx:=u D } I h) λf s1 q=>?_);cases f with
 | next =>obtain⟨a,d,c,q⟩:=q;exact h2 π s1 a d D c q
 | ret v=>exact q
 | brk=>exact q
 | cont=>exact q
def S5 (h1:PS X st t):PSs X [st] t:=by
 intro π s a H D I h;refine Rr (thn (h1 π s a H D I h) λf s1 q=>?_);cases f with
 | next=>exact Pk q
 | ret v=>exact q
 | brk=>exact q
 | cont=>exact q
def Inv.quiet {σ:St}{H:Hp}{s:SR}(I:Inv X π σ H s):interactive X.env=false:=by simp[interactive,I.ok.kind]
def nv (te:TE):TS:=λD a H=>te a H λ_ b=>D.nx a b
def rN (he:PE X e te)(hs:Tp e none pos.line X.env=pure false:=by rfl):PS X (.Expr e pos) (nv te):=by intro π s a H D I h;exact wpAny_Expr_any (thn (he π s a H _ I h) λv s1 #v[x,d,c,f,b]=>#v[a,d,c,b]) I.quiet hs
def Dt (te:TE):TS:=λD a H=>te a H D.rt
def eJ (he:PE X e te):PS X (.Return (some e) pos) (Dt te):=by intro π s a H D I h;exact wpAny_Return_some (thn (he π s a H _ I h) λv s1 #v[x,f,d,b,c]=>#v[x,a,f,d,b,c])
def AL (c:TT)(t u:TS):TS:=λD a H=>c a H λb d=>if b=true then t D a d else u D a d
def nr {c:Ta}{a b:List SZ}{tc:TT}(hc:PT X c tc)(ha:PSs X a t)(hb:PSs X b u):PS X (.If c a b pos) (AL tc t u):=by
 intro π s e H D I h;refine wpAny_If (thn (hc π s e H _ I h) λd s1 #v[i,g,f]=>?_);cases d with
 | true=>exact ha π s1 e i D g f
 | false=>exact hb π s1 e i D g f
end
abbrev TG :=V->St->Hp->(St->Hp->Prop)->Prop
abbrev TGs :=List V->St->Hp->(St->Hp->Prop)->Prop
def PG (X:Cx)(target:Ta)(t:TG):Prop :=
 ∀(π:List (SQ×Te)) (s:SR) (b:St) (H:Hp) (v:V) (u:SN) (Q:St->Hp->Prop),Inv X π b H s->s0 v u->t v b H Q ->
  Tn (model X.prog X.w) X.A (assign target X.env u) (λ_ d=>∃a c,Inv X π a c d/\Q a c) X.xe s
def PGs (X:Cx)(ts:List Ta)(t:TGs):Prop :=
 ∀(π:List (SQ×Te)) (s:SR) (b:St) (H:Hp) (c:List V) (us:List SN) (Q:St->Hp->Prop),Inv X π b H s->m9 c us->t c b H Q ->
  Tn (model X.prog X.w) X.A (assignInOrder ((Tu ts X.env).map (·.2)) us) (λ_ e=>∃a d,Inv X π a d e/\Q a d) X.xe s
abbrev Ed :=V->V->V->Hp->(Hp->Prop)->Prop
def GE (X:Cx)(t:Ed):Prop :=
 ∀(π:List (SQ×Te)) (s:SR) (a:St) (H:Hp) (o i v:V) (b c u:SN) (Q:Hp->Prop),Inv X π a H s->s0 o b->s0 i c->s0 v u->t o i v H Q ->
  Tn (model X.prog X.w) X.A (setItem b c u) (λ_ e=>∃d,Inv X π a d e/\Q d) X.xe s
section
variable {X:Cx}
def O8 (i:Nat):TG:=λv a H Q=>Q (a.set i<|some v) H
def Ay {i:Nat}{x:Str}(hN:X.N.Nodup)(hi:X.N[i]? = some x)(hx:Loc X.env.scope x)(hf:X.fn x=true\/X.env.scope.names.lookup x=some .local:=by walk_at "v"):PG X (.Name x pos) (O8 i):=by intro π s b H v u Q I r h;exact wpAny_assign_Name (W4 I hN hi hx r (λc a=>#v[_,H,a,h]) hf)
def FY :TGs:=λb a H Q=>b=[]/\Q a H
def Bg (t:TG)(u:TGs):TGs:=λc b H Q=>∃v r,c=v::r/\t v b H λa d=>u r a d Q
def yM :PGs X [] FY:=by intro π s a H b us Q I r h;obtain⟨e,h⟩:=h;subst e;cases r;exact assignInOrder_nil #v[a,H,I,h]
def wR {e:Ta}{t:TG}{u:TGs}(h1:PG X e t)(h2:PGs X es u)
  (hs:(Tu (e::es) X.env).map (·.2)=assign e X.env::(Tu es X.env).map (·.2):=by rfl):PGs X (e::es) (Bg t u):=by
 intro π s b H j us Q I r h;obtain⟨v,k,f,h⟩:=h;subst f;cases r with
 | cons r c =>rw[hs];refine assignInOrder_cons (thn (h1 π s b H _ _ _ I r h) λ_ s1 #v[a,i,g,d]=>?_);exact h2 π s1 a i _ _ Q g c d
def EW (K:Qf)(n:Nat)(t:TGs):TG:=λv c H Q=>∃a b,v = .ref a/\SqT K H a b/\b.length=n/\t b c H Q
def CG {k:Nat}{t:TGs}{n:Nat}(hc:X.calm=true)(h:PGs X es t)
  (hn:(Tu es X.env).length=n:=by rfl) (hst:(Tu es X.env).findIdx? (·.1)=none:=by rfl):PG X (.Tuple es k pos) (EW X.K n t):=by
 intro π s d H v u Q I r c;obtain⟨a,g,m,l,hl,c⟩:=c;subst m;cases r;obtain⟨i,f,ht,q⟩:=I.tuple l;refine assign_Tuple_tuple (I.ok.hd hc) ht (by simp[hn,<-hl,f.length]) hst λh' j=>?_
 have p:Inv X π d H { s with heap:=h' }:=I.kept (t':=s.toks) λb o e=>j b o (MR<|MA e) e
 exact h π _ d H g _ Q p (by simpa using f) c
def Hr (to ti:TE)(t:Ed):TG:=λv a H Q=>to a H λo d=>ti a d λi c=>t o i v c λb=>Q a b
def pY {o i:Ta}{to ti:TE}{t:Ed}(ho:PE X o to)(hi:PE X i ti)(hs:GE X t)
  (ha:∀v,assign (.Subscript o i pos) X.env v=(do
   let ov <-holding [v] (eval o X.env)
   let iv <-holding [v,ov] (eval i X.env)
   standAt pos
   holding [v,ov,iv] (setItem ov iv v)
   release [v,ov,iv] []):=by intro _;rfl):PG X (.Subscript o i pos) (Hr to ti t):=by intro π s a H v u Q I r h;rw[ha];refine Ms (NL<|thn (ho π s a H _ I h) λov s1 #v[x,n,k,c,f]=>?_);refine Ms (NL<|thn (hi π s1 a n _ k f) λiv s2 #v[y,m,j,b,e]=>?_);refine Ms (OF<|Ms<|NL<|thn (hs π s2 a m x y v ov iv u _ j c b r e) λ_ p #v[l,g,d]=>?_);exact wpAny_release #v[a,l,g,d]
def bA (te:TE)(g:TG):TS:=λD a H=>te a H λx b=>g x a b D.nx
def jQ {e:Ta}{g:TG}(he:PE X e te)(hg:PG X tg g)(hs:swapsWithSole [tg] e pos.line X.env=pure false:=by rfl)(hw:swappedStores [tg] e X.env=pure none:=by rfl)
  (h1:(Tu [tg] X.env).map (·.2)=[assign tg X.env]:=by rfl):PS X (.Assign [tg] e pos) (bA te g):=by intro π s a H D I h;refine wpAny_Assign_stores (thn (he π s a H _ I h) λv s1 #v[x,f,d,b,c]=>?_) hs hw;rw[h1];exact thn (hg π s1 a f x v _ d b c) λ_ s2 q=>q
def O1 {i:Nat}{x:Str}{e:Ta}{pos':Pos}(hN:X.N.Nodup)(hi:X.N[i]? = some x)(hx:Loc X.env.scope x)(he:PE X e te)(hs:Tp e (some<|.Name x pos') pos.line X.env=pure false:=by rfl)(hf:X.fn x=true\/X.env.scope.names.lookup x=some .local:=by walk_at "v") :
  PS X (.Assign [.Name x pos'] e pos) (bA te<|O8 i):=by intro π s a H D I h;refine wpAny_Assign_Name (thn (he π s a H _ I h) λv s1 #v[y,g,f,b,c]=>?_) hs;exact W4 f hN hi hx b (λs2 d=>#v[_,g,d,c]) hf
def GP (i j:Nat)(ta:TA):TS:=λD a H=>ta a H λb c=>∃v w,b=[v,w]/\D.nx ((a.set i<|some v).set j<|some w) c
def DB {i j:Nat}{x y:Str}{a b:Ta}{ta:TA}{px py pt:Pos}{kt k2 pt2}(hc:X.calm=true)(hN:X.N.Nodup)(hi:X.N[i]? = some x)(hj:X.N[j]? = some y)(hij:i≠j)
  (hx:X.env.scope.names.lookup x=some .local) (hy:X.env.scope.names.lookup y=some .local) (ha:PA X [a,b] ta)
  (hw:swappedStores [.Tuple [.Name x px,.Name y py] kt pt] (.Tuple [a,b] k2 pt2) X.env=pure (some [x,y]))
  (hs:swapsWithSole [.Tuple [.Name x px,.Name y py] kt pt] (.Tuple [a,b] k2 pt2) pos.line X.env=pure false:=by rfl) :
  PS X (.Assign [.Tuple [.Name x px,.Name y py] kt pt] (.Tuple [a,b] k2 pt2) pos) (GP i j ta):=by
 intro π s l H D I h;rw[exec_Assign_arm];refine Ms<|OF ?_;rw[hs];refine Ms<|Mt ?_;rw[MC<|by decide];refine Ms (Tuple_<|thn (ha _ π s l H _ I h) λus s1 #v[G,n,F,t,g]=>?_);obtain⟨v,w,A,g⟩:=g;subst A;obtain⟨d,c,rfl,r,f⟩:∃d c,us=[d,c]/\s0 v d/\s0 w c:=by
  cases t with
  | cons p q =>
   cases q with
   | cons z u =>cases u;exact#v[_,_,rfl,p,z]
 refine Nj ?_ (by show 2<=Tc;decide);have E:Inv X π l n { s1 with heap:=s1.heap.push { cls:=.type "tuple",data:=.seq [d,c].toArray } }:=F.kept (t':=s1.toks) λb o e=>Mu _ e
 rw[hw];refine Ms<|Mt ?_;show Tn (model X.prog X.w) X.A (do rule "assign.swapped-stores";let items <-unpackItems (.ref s1.heap.objs.size) 2 none;assignInOrder [λv=>bindName X.env y v,λv=>bindName X.env x v] items.reverse;pure Flow.next) _ _ _;refine Ms (OG<|Ms<|unpackItems_tuple (items:=#[d,c]) (I.ok.hd hc) (Rz s1.heap _) λh' k=>?_);have C:=E.kept (h':=h') (t':=s1.toks) λb o e=>k b o (MR<|MA e) e
 show Tn _ _ (assignInOrder [λv=>bindName X.env y v,λv=>bindName X.env x v] [c,d] >>= λ_=>pure Flow.next) _ _ _;refine Ms (assignInOrder_cons<|wpAny_bindName<|W4 C hN hj (.inl hy) f (λs2 B=>?_)<|.inr hy);refine assignInOrder_cons (wpAny_bindName<|W4 B hN hi (.inl hx) r (λJ m=>assignInOrder_nil<|Mt ?_)<|.inr hx);rw[List.set_comm _ _<|Ow hij]at m;exact#v[_,n,m,g]
end
section
variable {X:Cx}
def oN (c:TT)(tb:TS):TS:=λD a H=>∃W:Nat->St->Hp->Prop,(∃m,W m a H)/\∀m a H,W m a H ->
 c a H λb f=>if b=true then ∃N:St->Hp->Prop,(∀d g,N d g->∃e,e<m/\W e d g)/\tb { D with nx:=N,ct:=N,bk:=D.nx } a f else D.nx a f
def yH {c:Ta}{tc:TT}{tb:TS}(hp:PassesOwn (model X.prog X.w) X.A X.env X.xe)(hc:PT X c tc)(hb:PSs X body tb):PS X (.While c body [] pos) (oN tc tb):=by
 intro π s y H D I h;obtain⟨W,⟨C,A⟩,g⟩:=h;refine wpAny_While (codeAny_whileLoop (λn B=>∃e x,Inv X π e x B/\W n e x) ?_ C #v[y,H,I,A]);rintro n s1 ⟨d,w,E,z⟩;refine Pl hp (thn (hc π s1 d w _ E<|g n d w z) λb s2 #v[u,t,k]=>?_);cases b with
 | true =>
  obtain⟨N,r,k⟩:=k;rw[Mx rfl];refine Pl hp (thn (hb π s2 d u _ t k) λf F j=>?_);cases f with
  | next =>obtain⟨a,i,q,m⟩:=j;obtain⟨o,p,l⟩:=r a i m;exact#v[o,p,a,i,q,l]
  | cont =>obtain⟨a,i,q,m⟩:=j;obtain⟨o,p,l⟩:=r a i m;exact#v[o,p,a,i,q,l]
  | brk=>exact j
  | ret v=>exact j
 | false =>rw[MC MV];exact Pk #v[d,u,t,k]
end
structure It where
 go:Nat->Hp->Prop
 yld:Nat->Hp->V->Hp->Prop
 stop:Nat->Hp->Prop
def bx (X:Cx)(π:List (SQ×Te))(H:Hp)(b:SQ):Prop :=
 H b=none/\b≠X.env.locals/\b ∉ X.fs/\(b∈X.ex\/X.s₀.heap.objs.size<=b)/\(∀x c,X.env.cells.lookup x=some c->c≠b)/\∀p∈X.pn++π,p.1≠b
def Inv.fpOk {X:Cx}{σ:St}{H H':Hp}{s:SR}{b:SQ}(I:Inv X π σ H s)(hb:s.heap.objs.size<=b)(hn:H' b=none):bx X π H' b:=by
 refine#v[hn,NT<|MI I.lt hb,I.nofs hb,.inr<|MG I.sz hb,λx c e z=>?_,λp a z=>?_]
 .obtain⟨v,q⟩:=I.cell x c e;exact absurd (MI q.lt (by rw[z];exact hb))<|OV _
 .exact absurd (MI (MA (I.pin p a).1) (by rw[z];exact hb))<|OV _
structure Turn (P:SS) (w:SU) (K:Qf) (tg:Ta) (J:It) (fp:List SQ) (it:SQ) (tn:Nat->Tb->Prop):Prop where
 mem:it∈fp
 obj:∀i h,tn i h->∀b∈fp,∃o,h.get? b=some o/\∀v,o.data ≠ .cell v
 keep:∀i h h',tn i h->(∀b∈fp,∀o,h.get? b=some o->h'.get? b=some o)->tn i h'
 item:∀(X:Cx),X.prog=P->X.w=w->X.K=K->X.calm=true->∀(i:Nat) (π:List (SQ×Te)) (s:SR) (σ:St) (H:Hp) (E:SN->SR->Prop),Inv X π σ H s->(∀b∈fp,bx X π H b)->tn i s.heap->J.go i H ->
  Tn (model P w) X.A (pyNext<|.ref it) (λr s1=>∃u,r=some u /\
   Tn (model P w) X.A (letOwnedTupleGo tg (.ref it) u) (λ_ s2=>∃x H',Inv X π σ H' s2/\s0 x u/\J.yld i H x H'/\tn (i+1) s2.heap/\∀b∈fp,H' b=none) E s1) E s
 done:∀(X:Cx),X.prog=P->X.w=w->X.K=K->X.calm=true->∀(i:Nat) (π:List (SQ×Te)) (s:SR) (σ:St) (H:Hp) (E:SN->SR->Prop),Inv X π σ H s->(∀b∈fp,bx X π H b)->tn i s.heap->J.stop i H ->
  Tn (model P w) X.A (pyNext<|.ref it) (λr s1=>r=none/\Inv X π σ H s1) E s
 self:∀(A:SW) (i:Nat) (s:SR) (Q:SN->SR->Prop) (E:SN->SR->Prop),tn i s.heap->Q (.ref it) s->Tn (model P w) A (pyIter<|.ref it) Q E s
abbrev TI :=St->Hp->(It->Hp->Prop)->Prop
def PIE (X:Cx)(π:List (SQ×Te))(σ:St)(tg:Ta)(R:It->Hp->Prop)(itv:SN)(s2:SR):Prop :=
 ∃(d:SQ) (e:List SQ) (c:Nat->Tb->Prop) (J:It) (a:Hp),itv = .ref d/\Inv X π σ a s2/\Turn X.prog X.w X.K tg J e d c/\c 0 s2.heap/\(∀b∈e,bx X π a b)/\R J a
def PI (X:Cx)(tg iter:Ta)(wi:TI):Prop :=
 ∀(π:List (SQ×Te)) (s:SR) (a:St) (H:Hp) (R:It->Hp->Prop),Inv X π a H s->wi a H R ->
  Tn (model X.prog X.w) X.A (eval iter X.env) (λv s1=>Tn (model X.prog X.w) X.A (pyIter v) (PIE X π a tg R) X.xe s1) X.xe s
def vy {M:Model}{A:SW}{E:SN->SR->Prop}{s:SR}{it:SQ}{u:SN}{o:Te}{n:String}{vs:Array SN}{Q:Unit->SR->Prop}(ho:s.heap.get? it=some o)(hc:o.cls = .type n)(hd:o.data = .fields vs)
    (hn:["enumerate","zip","dict_itemiterator","dict_reverseitemiterator","odict_iterator","itertools.zip_longest","itertools.pairwise"].contains n=false) (hQ:Q () s):Tn M A (letOwnedTupleGo tg (.ref it) u) Q E s:=by
  unfold letOwnedTupleGo;cases tg <;> first
    | exact Mt hQ
    | (cases u <;> first
        | exact Mt hQ
        | (refine Ms (wpAny_load ho ?_)
           rw[hc,hd]
           show Tn M A (if (["enumerate","zip","dict_itemiterator","dict_reverseitemiterator","odict_iterator","itertools.zip_longest","itertools.pairwise"].contains n&&vs[0]? == some (rawInt _))=true then _ else _) Q E s
           rw[MC (by intro h;rw[hn,QR]at h;cases h)]
           exact Mt hQ))
def Itl (K:Qf)(a:SQ):It :=
 #v[λi H=>∃b x,SqL K H a b/\b[i]? = some x,λi H x c=>c=H/\∀b,SqL K H a b->b[i]? = some x,λi H=>∃b,SqL K H a b/\b.length<=i]
def Itt (K:Qf)(a:SQ):It :=
 #v[λi H=>∃b x,SqT K H a b/\b[i]? = some x,λi H x c=>c=H/\∀b,SqT K H a b->b[i]? = some x,λi H=>∃b,SqT K H a b/\b.length<=i]
def Itr (lo:Int)(n:Nat):It:=#v[λi _=>i<n,λi H x a=>a=H/\x = .int (lo+i),λi _=>n<=i]
def sU {P:SS}{w:SU}{K:Qf}(a it:SQ):Turn P w K tg (Itl K a) [it] it (λi h=>h.IsListIter it a i) where
 mem:=by simp
 obj:=λi h st b f=>by
  have e:b=it:=by simpa using f
  subst e;obtain⟨o,e,c,d⟩:=st;exact#v[o,e,λv z=>by rw[d]at z;cases z]
 keep:=λi h h' st k=>st.at λo e=>k it (by simp) o e
 item:=by
  intro X t r y J i π s G H E I l st hg;subst t r y;obtain⟨L,x,j,q⟩:=hg;obtain⟨n,m,p,O⟩:=I.list j;obtain⟨u,R,N⟩:=m.get q;obtain⟨F,D,S,C,B,A⟩:=l it (by simp);refine wpAny_pyNext_list_item st p.isList (x:=u) (by simpa using R) λh' g M=>?_
  have U:Inv X π G H { s with heap:=h' }:=I.turned (t':=s.toks) (λb o f e=>(M.2 b f).trans e) F D C B A;obtain⟨o,e,c,d⟩:=id g;exact#v[u,rfl,vy (s:={ s with heap:=h' }) e c d (by decide) #v[x,H,U,N,#v[rfl,λV Q=>by rw[I.list_inj Q j];exact q],g,λb f=>(l b f).1]]
 done:=by intro X t r y J i π s G H E I l st hg;subst t r y;obtain⟨L,j,q⟩:=hg;obtain⟨n,m,p,O⟩:=I.list j;obtain⟨F,D,S,C,B,A⟩:=l it (by simp);have hl:=m.length;exact wpAny_pyNext_list_end (I.ok.hd J) st p.isList (by simp;omega) λh' T=>#v[rfl,I.turned (t':=s.toks) (λb o f e=>T b o f e) F D C B A]
 self:=λ_ _ _ _ _ st h=>wpAny_pyIter_listiter st h
def pD {P:SS}{w:SU}{K:Qf}(a it:SQ):Turn P w K tg (Itt K a) [it] it (λi h=>h.IsTupleIter it a i) where
 mem:=by simp
 obj:=λi h st b g=>by
  have e:b=it:=by simpa using g
  subst e;obtain⟨o,e,c,d⟩:=st;exact#v[o,e,λv z=>by rw[d]at z;cases z]
 keep:=λi h h' st k=>st.at λo e=>k it (by simp) o e
 item:=by
  intro X t r y J i π s G H E I m st hg;subst t r y;obtain⟨L,x,l,q⟩:=hg;obtain⟨f,n,p,O⟩:=I.tuple l;obtain⟨u,R,N⟩:=n.get q;obtain⟨F,D,S,C,B,A⟩:=m it (by simp);refine wpAny_pyNext_tuple_item st (show s.heap.IsTuple a f.toArray from p) (x:=u) (by simpa using R) λh' j M=>?_
  have U:Inv X π G H { s with heap:=h' }:=I.turned (t':=s.toks) (λb o g e=>(M.2 b g).trans e) F D C B A;obtain⟨o,e,c,d⟩:=id j;exact#v[u,rfl,vy (s:={ s with heap:=h' }) e c d (by decide) #v[x,H,U,N,#v[rfl,λV Q=>by rw[I.tuple_inj Q l];exact q],j,λb g=>(m b g).1]]
 done:=by intro X t r y J i π s G H E I m st hg;subst t r y;obtain⟨L,l,q⟩:=hg;obtain⟨f,n,p,O⟩:=I.tuple l;obtain⟨F,D,S,C,B,A⟩:=m it (by simp);have hl:=n.length;exact wpAny_pyNext_tuple_end (I.ok.hd J) st (show s.heap.IsTuple a f.toArray from p) (by simp;omega) λh' T=>#v[rfl,I.turned (t':=s.toks) (λb o g e=>T b o g e) F D C B A]
 self:=λ_ _ _ _ _ st h=>wpAny_pyIter_tupleiter st h
def oi {P:SS}{w:SU}{K:Qf}(it:SQ)(lo:Int)(n:Nat):Turn P w K tg (Itr lo n) [it] it (λi h=>IsRangeIter h it (lo+(i:Nat)*1) ((n:Int)-(i:Nat)) 1) where
 mem:=by simp
 obj:=λi h st b a=>by
  have e:b=it:=by simpa using a
  subst e;exact#v[_,st,λv z=>by have A:Data.fields _=Data.cell v:=z;cases A]
 keep:=λi h h' st k=>k it (by simp) _ st
 item:=by
  intro X j f l g i π s x H E I d st hg;subst j f l;obtain⟨u,r,D,q,p,m⟩:=d it (by simp);have W:=Walks.range (prog:=X.prog) (w:=X.w) (I.ok.hd g) it lo 1 n;refine W.item i s _ _ hg st λv h' y C c B=>?_
  obtain⟨t,rfl⟩:=C;have G:Inv X π x H { s with heap:=h',toks:=y }:=I.turned (λb o a e=>B b o (by simpa using a) e) u r q p m;refine#v[_,rfl,vy (s:={ s with heap:=h',toks:=y }) (n:="range_iterator") c rfl rfl (by decide) #v[.int<|lo+i,H,G,#v[t,?_],#v[rfl,rfl],c,λb a=>(d b a).1]];rw[Int.mul_one]
 done:=by intro X j f l g i π s x H E I d st hg;subst j f l;obtain⟨u,r,D,q,p,m⟩:=d it (by simp);exact wpAny_pyNext_range_end (I.ok.hd g) st (by have:n<=i:=hg;omega) λh' F=>#v[rfl,I.turned (t':=s.toks) (λb o a e=>F b o a e) u r q p m]
 self:=λ_ _ _ _ _ st h=>wpAny_pyIter_rangeiter st h
end
variable {fp:List SQ}
section
section
variable {X:Cx}
def yf {σ:St}{H:Hp}{s:SR}{R:It->Hp->Prop}{E:SN->SR->Prop}{lo hi:Int}{t u v:Tok}{tk:Nat}(I:Inv X π σ H s)(h1:-(2 ^ 62)<=lo)(h2:lo<2 ^ 62)(h3:-(2 ^ 62)<=hi)(h4:hi<2 ^ 62)
  (q:R (Itr lo (hi-lo).toNat) H):Tn (model X.prog X.w) X.A (pyIter<|.ref s.heap.objs.size) (PIE X π σ tg R) E { s with heap:=s.heap.push { cls:=.type "range",data:=.fields #[.int lo t,.int hi u,.int 1 v] },toks:=tk }:=by
 refine wpAny_pyIter_range (IsRange.new ..) (small_one h1 h2 h3 h4) ?_;have a:Inv X π σ H { s with heap:=s.heap.push { cls:=.type "range",data:=.fields #[.int lo t,.int hi u,.int 1 v] },toks:=tk }:=I.kept λb o e=>Mu _ e
 refine#v[(s.heap.push { cls:=.type "range",data:=.fields #[.int lo t,.int hi u,.int 1 v] }).objs.size,[(s.heap.push { cls:=.type "range",data:=.fields #[.int lo t,.int hi u,.int 1 v] }).objs.size],_,_,H,rfl,
  a.kept (t':=tk) λb o e=>Mu _ e,oi _ lo (hi-lo).toNat,?_,λb c=>?_,q]
 .have f:lo+((0:Nat):Int)*1=lo:=by simp
  have d:(((hi-lo).toNat:Nat):Int)-((0:Nat):Int)=Builtin.Range.rangeSize lo hi 1:=by rw[rangeSize_one];split <;> omega
  show IsRangeIter _ _ (lo+((0:Nat):Int)*1) ((((hi-lo).toNat:Nat):Int)-((0:Nat):Int)) 1;rw[f,d];exact MM _ rfl
 .have e:b=(s.heap.push { cls:=.type "range",data:=.fields #[.int lo t,.int hi u,.int 1 v] }).objs.size:=by simpa using c
  subst e;exact a.fpOk (Mz _)<|a.hok.fresh<|Mz _
def Bj (ta:TA):TI:=λa H R=>ta a H λb c=>∃j:Int,b=[.int j] /\ -(2 ^ 62)<=j/\j<2 ^ 62/\R (Itr 0 j.toNat) c
def tT {a:Ta}{ta:TA}{p:Pos}(hg:Gl X "range")(hm:X.mg "range" = none)(ha:PA X [a] ta)(hs:Td [a] X.env=[(false,eval a X.env)]:=by rfl):PI X tg (.Call (.Name "range" p) [a] [] pos) (Bj ta):=by
 intro π s c H R I h;refine Call_ (cF I hg hm boot_range<|Pe (thn (ha pos π s c H _ I h) λus s1 #v[k,l,i,f,b]=>?_) hs rfl);obtain⟨j,e,b,g,q⟩:=b;subst e;cases f with
 | cons r d =>cases d;obtain⟨t,rfl⟩:=r;exact call_range_1 (yf i (by omega) (by omega) b g<|by simpa using q)
def xF (wi:TI)(g:TG)(tb:TS):TS:=λD a H=>wi a H λJ h=>∃W:Nat->Nat->St->Hp->Prop,(∃m,W 0 m a h)/\∀i m a H,W i m a H ->
 (J.stop i H/\D.nx a H)\/(J.go i H/\∃N:St->Hp->Prop,(∀b c,N b c->∃e,e<m/\W (i+1) e b c)/\∀x c,J.yld i H x c->g x a c λd f=>tb { D with nx:=N,ct:=N,bk:=D.nx } d f)
def eG (fp:List SQ)(h:Tb):List (SQ×Te):=fp.filterMap λb=>(h.get? b).map λo=>(b,o)
def N8 {h:Tb}{b:SQ}{o:Te}(hb:b∈fp)(e:h.get? b=some o):(b,o)∈eG fp h:=RW.2 #v[b,hb,by rw[e];rfl]
def tD {h:Tb}{p:SQ×Te}(hp:p∈eG fp h):p.1∈fp/\h.get? p.1=some p.2:=by
 obtain⟨b,a,e⟩:=RW.1 hp;cases q:h.get? b with
 | none=>rw[q]at e;cases e
 | some o =>rw[q]at e;have c:(b,o)=p:=MH e;subst c;exact#v[a,q]
def Inv.pinned {σ:St}{H:Hp}{s:SR}(I:Inv X π σ H s)(hf:∀b∈fp,bx X π H b)(ho:∀b∈fp,∃o,s.heap.get? b=some o/\∀v,o.data ≠ .cell v):Inv X (π++eG fp s.heap) σ H s :=
 I.pins_of λp f=>(NM.1 f).elim (λz=>I.pin p<|MZ _ z) λz=>by obtain⟨a,e⟩:=tD z;obtain⟨i,h,g,_⟩:=hf p.1 a;obtain⟨o,c,d⟩:=ho p.1 a;rw[e]at c;cases c;exact#v[e,i,h,g,d]
def Inv.unpinned {pl:List (SQ×Te)}{σ:St}{H:Hp}{s:SR}(I:Inv X (π++pl) σ H s):Inv X π σ H s:=I.pins_of λp a=>I.pin p<|MZ _<|Oz _ a
def wU {iter:Ta}{wi:TI}{g:TG}{tb:TS}(hp:PassesOwn (model X.prog X.w) X.A X.env X.xe)(hc:X.calm=true)(hi:PI X tg iter wi)(hg:PG X tg g)(hb:PSs X body tb)
  (hs:∀x,Tt iter X.env x=pure x:=by intro _;rfl):PS X (.For tg iter body [] pos) (xF wi g tb):=by
 intro π s Q H D I h;refine wpAny_For (thn (hi π s Q H _ I h) λv s1 h1=>thn h1 λab s2 h2=>?_) hs;obtain⟨it,fp,R,J,H2,e,I2,T,K,Y,W,⟨m0,w0⟩,z⟩:=h2;subst e;have k:∀{t:Hp},(∀b∈fp,t b=none)->∀b∈fp,bx X π t b:=λhn b hb=>#v[hn b hb,(Y b hb).2]
 refine codeAny_forLoop_any (λn V=>∃i j t,Inv X π j t V/\R i V.heap/\(∀b∈fp,t b=none)/\W i n j t) ?_ m0 #v[0,Q,H2,I2,K,λb hb=>(Y b hb).1,w0];rintro n U ⟨i,c,F,Z,B,E,w3⟩;rcases z i n c F w3 with ⟨A,qn⟩ | ⟨go,N,hN,step⟩
 .refine Pl hp (thn (T.done X rfl rfl rfl hc i π U c F X.xe Z (k E) B A) λr s4 #v[M,I4]=>?_);subst M;exact Pk #v[c,F,I4,qn]
 .refine Pl hp (thn (T.item X rfl rfl rfl hc i π U c F X.xe Z (k E) B go) λr s4 #v[u,M,h4]=>?_);subst M;refine Pl hp (thn h4 λ_ S #v[x,H5,I5,r5,y5,y,O]=>?_);have P:=I5.pinned (k O)<|T.obj _ _ y;refine Pl hp (thn (hg _ S c H5 x u _ P r5<|step x H5 y5) λ_ s6 #v[G,H6,I6,q6]=>?_);refine Pl hp (thn (hb _ s6 G H6 _ I6 q6) λf L w=>?_);have l:∀{a:St} {q:Hp},Inv X (π++eG fp S.heap) a q L->N a q->∃m,m<n/\∃i j t,Inv X π j t L/\R i L.heap/\(∀b∈fp,t b=none)/\W i m j t:=λ{a q} p C=>by obtain⟨m',hm,w7⟩:=hN a q C;refine#v[m',hm,i+1,a,q,p.unpinned,T.keep _ _ _ y λb hb o e=>(p.pin (b,o)<|MZ _<|MZ _<|N8 hb e).1,λb hb=>?_,w7];obtain⟨o,e,d⟩:=T.obj _ _ y b hb;exact(p.pin (b,o)<|MZ _<|MZ _<|N8 hb e).2.1
  cases f with
  | next=>obtain⟨a,q,p,C⟩:=w;exact l p C
  | cont=>obtain⟨a,q,p,C⟩:=w;exact l p C
  | brk=>obtain⟨a,q,p,w⟩:=w;exact#v[a,q,p.unpinned,w]
  | ret v=>obtain⟨x7,a,q,p,r7,w⟩:=w;exact#v[x7,a,q,p.unpinned,r7,w]
end
end
section
abbrev R2 :=V->V->Hp->VK->Prop
def OpR (X:Cx)(f:SN->SN->Sem SN)(r:R2):Prop :=
 ∀(π:List (SQ×Te)) (s:SR) (a:St) (H:Hp) (x y:V) (v u:SN) (Q:VK),Inv X π a H s->s0 x v->s0 y u->r x y H Q ->
  Tn (model X.prog X.w) X.A (f v u) (EP X π a Q) X.xe s
def UnR (X:Cx)(f:SN->Sem SN)(r:V->Hp->VK->Prop):Prop :=
 ∀(π:List (SQ×Te)) (s:SR) (a:St) (H:Hp) (x:V) (v:SN) (Q:VK),Inv X π a H s->s0 x v->r x H Q ->
  Tn (model X.prog X.w) X.A (f v) (EP X π a Q) X.xe s
def A1 (X:Cx)(f:SN)(r:List V->Hp->VK->Prop):Prop :=
 ∀(π:List (SQ×Te)) (s:SR) (a:St) (H:Hp) (b:List V) (us:List SN) (Q:VK),Inv X π a H s->m9 b us->r b H Q ->
  Tn (model X.prog X.w) X.A (call f us) (EP X π a Q) X.xe s
def Hi (X:Cx)(r:V->Hp->(Bool->Hp->Prop)->Prop):Prop :=
 ∀(π:List (SQ×Te)) (s:SR) (a:St) (H:Hp) (x:V) (v:SN) (Q:Bool->Hp->Prop),Inv X π a H s->s0 x v->r x H Q ->
  Tn (model X.prog X.w) X.A (truthy v) (TP X π a Q) X.xe s
def tOp (r:R2)(ta tb:TE):TE:=λa H Q=>ta a H λx c=>tb a c λy b=>r x y b Q
def tUn (r:V->Hp->VK->Prop)(ta:TE):TE:=λa H Q=>ta a H λx b=>r x b Q
def rI (C:Int->Int->Prop)(g:Int->Int->V):R2:=λx y H Q=>∃i j,x = .int i/\y = .int j/\C i j/\Q (g i j) H
def rI0 (g:Int->Int->V):R2:=λx y H Q=>∃i j,x = .int i/\y = .int j/\Q (g i j) H
def rU (g:Int->V):V->Hp->VK->Prop:=λx H Q=>∃i,x = .int i/\Q (g i) H
section
variable {X:Cx}{a b c:Ta}{tb:TE}
def EO (ha:PE X a ta)(hb:PE X b tb){s:SR}{σ:St}{H:Hp}{R:V->V->Hp->Prop}(I:Inv X π σ H s)
  (h:ta σ H λx H1=>tb σ H1 λy H2=>R x y H2) {Q:SN->SR->Prop} {f:SN->SN->Sem SN}
  (hf:∀v u s2 x y H2,Inv X π σ H2 s2->s0 x v->s0 y u->R x y H2->Tn (model X.prog X.w) X.A (f v u) Q X.xe s2) :
  Tn (model X.prog X.w) X.A (eval a X.env) (λv s₁=>Tn (model X.prog X.w) X.A (eval b X.env) (λu s₂=>Tn (model X.prog X.w) X.A (f v u) Q X.xe s₂) X.xe s₁) X.xe s:=by
 refine thn (ha π s σ H _ I h) λv s1 #v[x,H1,j,d,g]=>?_
 refine thn (hb π s1 σ H1 _ j g) λu s2 #v[y,H2,i,c,e]=>?_
 exact hf v u s2 x y H2 i d c e
def C3 {op:Operator}{r:R2}(ho:OpR X (binaryOp op) r)(ha:PE X a ta)(hb:PE X b tb):PE X (.BinOp a op b pos) (tOp r ta tb):=by intro π s c H Q I h;exact wpAny_BinOp (EO ha hb I h λv u s2 x y g f e d q=>ho π s2 c g x y v u Q f e d q)
def wq {op:UnaryOp}{r:V->Hp->VK->Prop}(ho:UnR X (unaryOp op) r)(ha:PE X a ta):PE X (.UnaryOp op a pos) (tUn r ta):=by intro π s b H Q I h;exact UnaryOp_ (thn (ha π s b H _ I h) λv s1 #v[x,f,e,c,d]=>ho π s1 b f x v Q e c d)
def opI {f:SN->SN->Sem SN}{C:Int->Int->Prop}{g:Int->Int->Int}
  (rule:∀(i j:Int) (t u:Tok) (s:SR) (Q:SN->SR->Prop) (E:SN->SR->Prop),C i j->Q (.int (g i j) s.toks) { s with toks:=s.toks+1 }->Tn (model X.prog X.w) X.A (f (.int i t)<|.int j u) Q E s) :
  OpR X f (rI C λi j=>.int<|g i j):=by intro π s d H x y v u Q I b a h;obtain⟨i,j,rfl,rfl,c,q⟩:=h;obtain⟨t,rfl⟩:=b;obtain⟨t',rfl⟩:=a;exact rule i j t t' s _ _ c #v[.int<|g i j,H,I.tok _,#v[_,rfl],q]
def Gx {f:SN->SN->Sem SN}{g:Int->Int->Int}
  (rule:∀(i j:Int) (t u:Tok) (s:SR) (Q:SN->SR->Prop) (E:SN->SR->Prop),Q (.int (g i j) s.toks) { s with toks:=s.toks+1 }->Tn (model X.prog X.w) X.A (f (.int i t)<|.int j u) Q E s) :
  OpR X f (rI0 λi j=>.int<|g i j):=by intro π s c H x y v u Q I b a h;obtain⟨i,j,rfl,rfl,q⟩:=h;obtain⟨t,rfl⟩:=b;obtain⟨t',rfl⟩:=a;exact rule i j t t' s _ _ #v[.int<|g i j,H,I.tok _,#v[_,rfl],q]
def yN {f:SN->SN->Sem SN}{g:Int->Int->Bool}
  (rule:∀(i j:Int) (t u:Tok) (s:SR) (Q:SN->SR->Prop) (E:SN->SR->Prop),Q (.bool<|g i j) s->Tn (model X.prog X.w) X.A (f (.int i t)<|.int j u) Q E s) :
  OpR X f (rI0 λi j=>.bl<|g i j):=by intro π s c H x y v u Q I b a h;obtain⟨i,j,rfl,rfl,q⟩:=h;obtain⟨t,rfl⟩:=b;obtain⟨t',rfl⟩:=a;exact rule i j t t' s _ _ #v[.bl<|g i j,H,I,rfl,q]
def Ht (i j:Int):Prop:=0<j/\j<1073741824
def zq (i j:Int):Prop:=0<=j/\j<=1000000/\i.natAbs<2 ^ 64
def yj (i j:Int):Prop:=(-(2 ^ 64)<i/\i<2 ^ 64)\/(-(2 ^ 64)<j/\j<2 ^ 64)
def yj.ok {i j:Int}(h:yj i j):IntMulOk i j:=by
 rcases h with ⟨b,a⟩ | ⟨b,a⟩
 .exact .of_left<|intBits_le_64 b a
 .exact .of_right<|intBits_le_64 b a
def ck :OpR X (binaryOp .Add) (rI0 λi j=>.int<|i+j):=Gx λ_ _ _ _ _ _ _ q=>add_int q
def Cw :OpR X (binaryOp .Sub) (rI0 λi j=>.int<|i-j):=Gx λ_ _ _ _ _ _ _ q=>sub_int q
def bO :OpR X (binaryOp .Mult) (rI yj λi j=>.int<|i*j):=opI λ_ _ _ _ _ _ _ a q=>mul_int q a.ok
def jY :OpR X (binaryOp .FloorDiv) (rI Ht λi j=>.int<|i / j):=opI λi j _ _ _ _ _ a q=>by have c:(0:Int)<j:=a.1;have b:j<1073741824:=a.2;exact floordiv_int (by omega) (by rw[Sj i<|by omega];exact q) (.inl<|PyProof.noPylong_small<|by omega)
def Y7 :OpR X (binaryOp .Mod) (rI (λ_ j=>0<j) λi j=>.int<|i % j):=opI λi j _ _ _ _ _ a q=>by have b:(0:Int)<j:=a;exact mod_int' (by omega) (by rw[Int.fmod_eq_emod_of_nonneg i<|by omega];exact q)
def vP :OpR X (binaryOp .Pow) (rI zq λi j=>.int<|i ^ j.toNat):=opI λ_ _ _ _ _ _ _ a q=>pow_int_small a.1 a.2.1 a.2.2 q
def unI {f:SN->Sem SN}{g:Int->Int}
  (rule:∀(i:Int) (t:Tok) (s:SR) (Q:SN->SR->Prop) (E:SN->SR->Prop),Q (.int (g i) s.toks) { s with toks:=s.toks+1 }->Tn (model X.prog X.w) X.A (f<|.int i t) Q E s) :
  UnR X f (rU λi=>.int<|g i):=by intro π s b H x v Q I a h;obtain⟨i,rfl,q⟩:=h;obtain⟨t,rfl⟩:=a;exact rule i t s _ _ #v[.int<|g i,H,I.tok _,#v[_,rfl],q]
def oG :UnR X (unaryOp .USub) (rU λi=>.int (-i)):=unI λ_ _ _ _ _ q=>neg_int q
end
def Gy:V->V->Bool
 | .non,.non=>true | .non,.int _=>true | .int _,.non=>true | .non,.bl _=>true | .bl _,.non=>true | .non,.str _=>true | .str _,.non=>true
 | .int _,.int _=>true | .bl _,.bl _=>true | .str _,.str _=>true | .byt _,.byt _=>true
 | .int _,.str _=>true | .str _,.int _=>true | .bl _,.str _=>true | .str _,.bl _=>true
 | _,_=>false
def rEq :R2:=λx y H Q=>Gy x y=true/\Q (.bl<|decide (x=y)) H
def rNe :R2:=λx y H Q=>Gy x y=true/\Q (.bl (!decide (x=y))) H
def rA {i j:Int}:decide (V.int i=V.int j)=(i == j):=by rw[QC];simp
def yI {i j:Bool}:decide (V.bl i=V.bl j)=(i == j):=by rw[QC];simp
def rT {i j:Str}:decide (V.str i=V.str j)=(i == j):=by rw[QC];simp
def rC {i j:Array UInt8}:decide (V.byt i=V.byt j)=(i.toList == j.toList):=by rw[QC];cases i;cases j;simp
section
variable {X:Cx}{a b c:Ta}{tb:TE}
def v6 {σ:St}{H:Hp}{s:SR}{Q:VK}{k k':Bool}(I:Inv X π σ H s)(q:Q (.bl k) H)(e:k=k'):EP X π σ Q (.bool k') s:=by subst e;exact#v[.bl k,H,I,rfl,q]
def Fm :OpR X (compareOp .Eq) rEq:=by
 intro π s d H x y v u Q I c a h;obtain⟨b,q⟩:=h;cases x with
 | non =>
  cases c;cases y with
  | non=>cases a;exact PySem.EqNone.eq_none_none (v6 I q<|by simp)
  | bl j=>cases a;exact PySem.EqNone.eq_none_bool (v6 I q<|by simp)
  | int j=>obtain⟨t',rfl⟩:=a;exact PySem.EqNone.eq_none_int (v6 I q<|by simp)
  | str j=>obtain⟨t',rfl⟩:=a;exact PySem.EqNone.eq_none_str (v6 I q<|by simp)
  | _=>exact absurd (show false=true from b) MV
 | bl i =>
  cases c;cases y with
  | non=>cases a;exact PySem.EqNone.eq_bool_none (v6 I q<|by simp)
  | bl j=>cases a;exact eq_bool<|v6 I q yI
  | str j=>obtain⟨t',rfl⟩:=a;exact PySem.EqMixed.eq_bool_str (v6 I q<|by simp)
  | _=>exact absurd (show false=true from b) MV
 | int i =>
  obtain⟨t,rfl⟩:=c;cases y with
  | non=>cases a;exact PySem.EqNone.eq_int_none (v6 I q<|by simp)
  | int j=>obtain⟨t',rfl⟩:=a;exact eq_int<|v6 I q rA
  | str j=>obtain⟨t',rfl⟩:=a;exact PySem.EqMixed.eq_int_str (v6 I q<|by simp)
  | _=>exact absurd (show false=true from b) MV
 | str i =>
  obtain⟨t,rfl⟩:=c;cases y with
  | non=>cases a;exact PySem.EqNone.eq_str_none (v6 I q<|by simp)
  | bl j=>cases a;exact PySem.EqMixed.eq_str_bool (v6 I q<|by simp)
  | int j=>obtain⟨t',rfl⟩:=a;exact PySem.EqMixed.eq_str_int (v6 I q<|by simp)
  | str j=>obtain⟨t',rfl⟩:=a;exact eq_str<|v6 I q rT
  | _=>exact absurd (show false=true from b) MV
 | byt i =>
  obtain⟨t,rfl⟩:=c;cases y with
  | byt j=>obtain⟨t',rfl⟩:=a;exact PySem.W.eq_bytes<|v6 I q rC
  | _=>exact absurd (show false=true from b) MV
 | _=>cases y <;> exact absurd (show false=true from b) MV
def FP :OpR X (compareOp .NotEq) rNe:=by
 intro π s d H x y v u Q I c a h;obtain⟨b,q⟩:=h;cases x with
 | non =>
  cases c;cases y with
  | non=>cases a;exact PySem.EqNone.ne_none_none (v6 I q<|by simp)
  | bl j=>cases a;exact PySem.EqNone.ne_none_bool (v6 I q<|by simp)
  | int j=>obtain⟨t',rfl⟩:=a;exact PySem.EqNone.ne_none_int (v6 I q<|by simp)
  | str j=>obtain⟨t',rfl⟩:=a;exact PySem.EqNone.ne_none_str (v6 I q<|by simp)
  | _=>exact absurd (show false=true from b) MV
 | bl i =>
  cases c;cases y with
  | non=>cases a;exact PySem.EqNone.ne_bool_none (v6 I q<|by simp)
  | bl j=>cases a;exact ne_bool<|v6 I q<|NU not yI
  | str j=>obtain⟨t',rfl⟩:=a;exact PySem.EqMixed.ne_bool_str (v6 I q<|by simp)
  | _=>exact absurd (show false=true from b) MV
 | int i =>
  obtain⟨t,rfl⟩:=c;cases y with
  | non=>cases a;exact PySem.EqNone.ne_int_none (v6 I q<|by simp)
  | int j=>obtain⟨t',rfl⟩:=a;exact ne_int<|v6 I q<|NU not rA
  | str j=>obtain⟨t',rfl⟩:=a;exact PySem.EqMixed.ne_int_str (v6 I q<|by simp)
  | _=>exact absurd (show false=true from b) MV
 | str i =>
  obtain⟨t,rfl⟩:=c;cases y with
  | non=>cases a;exact PySem.EqNone.ne_str_none (v6 I q<|by simp)
  | bl j=>cases a;exact PySem.EqMixed.ne_str_bool (v6 I q<|by simp)
  | int j=>obtain⟨t',rfl⟩:=a;exact PySem.EqMixed.ne_str_int (v6 I q<|by simp)
  | str j=>obtain⟨t',rfl⟩:=a;exact ne_str<|v6 I q<|NU not rT
  | _=>exact absurd (show false=true from b) MV
 | byt i =>
  obtain⟨t,rfl⟩:=c;cases y with
  | byt j=>obtain⟨t',rfl⟩:=a;exact PySem.W.ne_bytes<|v6 I q<|NU not rC
  | _=>exact absurd (show false=true from b) MV
 | _=>cases y <;> exact absurd (show false=true from b) MV
def Bp :OpR X (compareOp .Lt) (rI0 λi j=>.bl<|decide (i<j)):=yN λ_ _ _ _ _ _ _ q=>lt_int q
def FF :OpR X (compareOp .LtE) (rI0 λi j=>.bl<|decide (i<=j)):=yN λ_ _ _ _ _ _ _ q=>le_int q
def xt :OpR X (compareOp .Gt) (rI0 λi j=>.bl<|decide (j<i)):=yN λ_ _ _ _ _ _ _ q=>gt_int q
def BJ :OpR X (compareOp .GtE) (rI0 λi j=>.bl<|decide (j<=i)):=yN λ_ _ _ _ _ _ _ q=>ge_int q
def eI (b:Ta){op:CmpOp}(h:op ≠ .In:=by decide)(h2:op ≠ .NotIn:=by decide):behindInMarks op b=false:=by
 have c:(op == CmpOp.In)=false:=by cases op <;> first | rfl | exact absurd rfl h
 have a:(op == CmpOp.NotIn)=false:=by cases op <;> first | rfl | exact absurd rfl h2
 cases b <;> simp[behindInMarks,c,a]
def AZ {op:CmpOp}{r:R2}(ho:OpR X (compareOp op) r)(ha:PE X a ta)(hb:PE X b tb)(hm:behindInMarks op b=false):PE X (.Compare a [op] [b] pos) (tOp r ta tb):=by intro π s c H Q I h;exact wpAny_Compare1 (EO ha hb I h λv u s2 x y g f e d q=>ho π s2 c g x y v u Q f e d q) hm
def BW (t:TE):TT:=λa H Q=>t a H λx b=>∃k,x = .bl k/\Q k b
def dG {op:CmpOp}{r:R2}(ho:OpR X (compareOp op) r)(ha:PE X a ta)(hb:PE X b tb)(hm:behindInMarks op b=false):PT X (.Compare a [op] [b] pos) (BW<|tOp r ta tb):=by
 intro π s d H Q I h;refine wpAny_isTrue_Compare1 (thn (ha π s d H _ I h) λv s1 #v[x,w,p,i,m]=>thn (hb π s1 d w _ p m) λu s2 #v[y,t,o,g,l] =>
  thn (ho π s2 d t x y v u _ o i g l) λc A #v[z,q,n,f,k,e,j]=>?_) hm
 subst e;cases f;exact Ot #v[q,n,j]
def xG (K:Qf)(x:V)(H:Hp)(k:Bool):Prop :=
 match x with
 | .non=>k=false
 | .bl b=>k=b
 | .int i=>k=(i != 0)
 | .str y=>y.length<=Tc/\k=((y.length:Int) != 0)
 | .byt y=>y.size<=Tc/\k=((y.size:Int) != 0)
 | .ref p=>(∃a,SqL K H p a/\k = !a.isEmpty)\/(∃a,SqT K H p a/\k = !a.isEmpty)\/∃c,H p=some (.dK c)/\k = !c.isEmpty
 | _=>False
def oU {κ:Type}{dz:List (κ×V)}{vs:List (κ×SN)}(r:KV dz vs):(!vs.isEmpty) = !dz.isEmpty:=by cases r <;> rfl
def iq {xs:List V}{its:List SN}(r:m9 xs its):(!its.toArray.isEmpty) = !xs.isEmpty:=by cases r <;> simp
def cj :(Tc:Nat)<2 ^ 63:=by rw[Nr];decide
def Fe :Hi X (λx H Q=>∃k,xG X.K x H k/\Q k H):=by
 intro π s A H x v Q I g h;obtain⟨k,e,q⟩:=h;have hl:=cj;have B:Tc=16777216:=Nr;cases x with
 | non =>cases g;have a:k=false:=e;subst a;exact truthy_none #v[H,I,q]
 | bl b =>cases g;have a:k=b:=e;subst a;exact Ot #v[H,I,q]
 | int i =>obtain⟨t,rfl⟩:=g;have a:k=(i != 0):=e;subst a;exact PySem.P.truthy_int #v[H,I,q]
 | str y =>obtain⟨t,rfl⟩:=g;obtain⟨w,a⟩:y.length<=Tc/\k=((y.length:Int) != 0):=e;subst a;exact PySem.P.truthy_str (by omega) #v[H,I.tok _,q]
 | byt y =>obtain⟨t,rfl⟩:=g;obtain⟨w,a⟩:y.size<=Tc/\k=((y.size:Int) != 0):=e;subst a;exact PySem.W.truthy_bytes (by omega) #v[H,I.tok _,q]
 | ref p =>
  cases g;have a:(∃f,SqL X.K H p f/\k = !f.isEmpty)\/(∃f,SqT X.K H p f/\k = !f.isEmpty)\/∃c,H p=some (.dK c)/\k = !c.isEmpty:=e;rcases a with ⟨f,j,a⟩ | ⟨f,j,a⟩ | ⟨c,j,a⟩
  .subst a;obtain⟨o,r,n,u⟩:=I.list j;have d:=r.length;exact wpAny_truthy_list n.isList (by simp only[MO];omega) #v[H,I.tok _,by rw[iq r];exact q]
  .subst a;obtain⟨o,r,n,u⟩:=I.tuple j;have d:=r.length;exact truthy_tuple n (by simp only[MO];omega) #v[H,I.tok _,by rw[iq r];exact q]
  .subst a;obtain⟨u,z,l,r,m⟩:c.length<=Tc/\(p == sysModules)=false/\∃l,KV c l/\s.heap.DictOf (v4 X.prog X.w) p l:=I.hok p _ j;have d:c.length=l.length:=PR r;exact wpAny_truthy_dict z m (by omega) #v[H,I.tok _,by rw[oU r];exact q]
 | _=>exact(show False from e).elim
def wL (ha:PE X a ta)(he:∀whole,isTrue a X.env whole=(do let v <-whole;standAt a.pos;holding [v] (truthy v))) :
  PT X a (λσ H Q=>ta σ H λx H'=>∃k,xG X.K x H' k/\Q k H'):=by intro π s σ H Q I h;exact isTrue_plain (thn (ha π s σ H _ I h) λv s1 #v[x,e,d,b,c]=>Fe π s1 σ e x v Q d b c)<|he _
def oH :OpR X (binaryOp .Add) (λx y H Q=>∃i j,x = .str i/\y = .str j/\i.length+j.length<=Tc/\Q (.str<|i++j) H):=by intro π s d H x y v u Q I b a h;obtain⟨i,j,rfl,rfl,c,q⟩:=h;obtain⟨t,rfl⟩:=b;obtain⟨t',rfl⟩:=a;exact add_str (λt' e=>#v[.str<|i++j,H,I.tok _,#v[_,rfl],q]) c
def N5 {x:V}{us:List SN}(r:m9 [x] us):∃u,us=[u]/\s0 x u:=by
 cases r with
 | cons b a=>cases a;exact#v[_,rfl,b]
def vM {x y:V}{us:List SN}(r:m9 [x,y] us):∃u w',us=[u,w']/\s0 x u/\s0 y w':=by
 cases r with
 | cons d c =>
  cases c with
  | cons b a=>cases a;exact#v[_,_,rfl,d,b]
def yD :A1 X (.builtin "abs") (λxs H Q=>∃i,xs=[.int i]/\Q (.int<|if i<0 then -i else i) H):=by intro π s a H xs us Q I r h;obtain⟨i,rfl,q⟩:=h;obtain⟨u,rfl,t,rfl⟩:=N5 r;exact call_abs_int λu b=>#v[.int (if i<0 then -i else i),H,I.tok _,#v[_,rfl],q]
def tS (hc:X.calm=true):A1 X (.builtin "max") (λxs H Q=>∃i j,xs=[.int i,.int j]/\Q (.int<|if j > i then j else i) H):=by
 intro π s b H xs us Q I r h;obtain⟨i,j,rfl,q⟩:=h;obtain⟨u,c,rfl,⟨t,rfl⟩,⟨t',rfl⟩⟩:=vM r;refine max_two_ints (I.ok.hd hc) λh' d k=>#v[_,H,I.kept k,?_,q]
 by_cases a:j > i
 .rw[Mx a,Mx a];exact#v[_,rfl]
 .rw[MC a,MC a];exact#v[_,rfl]
def jn :A1 X (.type "int") (λxs H Q=>(∃i,xs=[.int i]/\Q (.int i) H)\/∃k,xs=[.bl k]/\Q (.int<|if k then 1 else 0) H):=by
 intro π s b H xs us Q I r h;rcases h with ⟨i,rfl,q⟩ | ⟨k,rfl,q⟩
 .obtain⟨u,rfl,t,rfl⟩:=N5 r;exact call_int_int #v[.int i,H,I,#v[_,rfl],q]
 .obtain⟨u,rfl,a⟩:=N5 r;cases a;exact call_int_bool #v[.int (if k then 1 else 0),H,I.tok _,#v[_,rfl],q]
end
end
variable {C dx:SQ}{mA:Str->Option SN}
section
structure ObjM (h:Tb) (x dx C:SQ) (mA:Str->Option SN):Prop where
 obj:h.get? x=some (PySem.W.instObj C dx)
 ns:h.Ns1 dx mA
 ne:dx≠x
def jB {h:Tb}(n:h.Ns1 dx mA):∃od,h.get? dx=some od/\∀name,PySem.W.lookIn name od=some (mA name):=by
 obtain⟨o,es,k,d,i,g,_,f⟩:=n;refine#v[o,d,λname=>?_];have e:=f name;unfold nsFind findBy at e;rw[<-Array.find?_toList]at e;unfold PySem.W.lookIn;rw[i];dsimp only;split
 .rename_i y q;rw[q]at e;exact NU some e
 .rename_i q;rw[q]at e;have a:es.toList.any (·.refKey)=false:=by rw[List.any_eq_false];intro y c;obtain⟨z,t,b⟩:=g y<|Array.mem_toList_iff.1 c;simp[DictEntry.refKey,b]
  have j:¬es.toList.any (·.refKey)=true:=by rw[a];exact MV
  rw[MC j];exact NU some e
def ObjM.look {h:Tb}{x:SQ}(I:ObjM h x dx C mA):∃od,PySem.W.InstAt h x (PySem.W.instObj C dx) C (some od)/\∀name,PySem.W.lookIn name od=some (mA name) :=
 let #v[od,a,hl]:=jB I.ns
 #v[od,#v[I.obj,rfl,rfl,a],hl]
def dX.some_of {v:V}{o:Option SN}(r:dX (some v) o):∃u,o=some u/\s0 v u:=by
 cases o with
 | none=>exact(show False from r).elim
 | some u=>exact#v[u,rfl,r]
section
variable {P:SS}{w:SU}{H:Hp}{h:Tb}{a:SQ}{fs:List (Str×V)}
def ze (hok:HOk P w H h)(e:H a=some (.ins C dx fs)):∃mA,ObjM h a dx C mA/\(∀f,dX (fs.lookup f)<|mA f)/\PySem.Within mA (fs.map (·.1))/\fs.length<=1000/\H dx=some (.own a):=by obtain⟨d,z,c,b,mA,n,r,q⟩:=(show x5 P w H h a (.ins C dx fs) from hok a _ e);exact#v[mA,#v[b,n,c],r,q,z,d]
end
structure Cls (K:Qf) (C:SQ):Prop where
 pg:PySem.W.plainGet K C Str.empty=true
 hd:PySem.W.hasDictIn K C=true
 po:PySem.W.plainOver K C=true
 sa:PySem.W.findIn K (.ref C) "__setattr__" = some (some<|.builtin "object.__setattr__")
def Cls.get {K:Qf}(c:Cls K C)(f:Str):PySem.W.plainGet K C f=true:=c.pg
section
variable {s:SR}{f:Str}{A:SW}{E:SN->SR->Prop}
def yZ {prog:SS}{w:SU}{env:Tf}{e:Ta}{f:Str}{s:SR}{Q:SN->SR->Prop}(hb:Tq e f env (eval e env)=eval e env)
  (h:Tn (model prog w) A (eval e env) (λo s₁=>Tn (model prog w) A (getAttr o f true) Q E s₁) E s):Tn (model prog w) A (eval (.Attribute e f pos) env) Q E s :=
 Attribute_any_ h (by rw[arm_eval_Attribute,hb])
end
section
variable {X:Cx}{σ:St}{H:Hp}{s:SR}{A:SW}{E:SN->SR->Prop}{Q:SN->SR->Prop}{c:SN}{b:Bool}
inductive TyOf (K:Qf) (H:Hp):V->SN->Prop where
 | non:TyOf K H .non (.type "NoneType")
 | bl (x:Bool):TyOf K H (.bl x) (.type "bool")
 | int (i:Int):TyOf K H (.int i) (.type "int")
 | str (x:Str):TyOf K H (.str x) (.type "str")
 | flt (x:UInt64):TyOf K H (.flt x) (.type "float")
 | lst {a:SQ} {xs:List V} (e:H a=some (.lst xs)):TyOf K H (.ref a) (.type "list")
 | frz {a:SQ} {o:Te} {xs:List V} (e:H a=some (.frz o<|.lst xs)):TyOf K H (.ref a) (.type "list")
 | tup {a:SQ} {xs:List V} (e:H a=some (.tup xs)):TyOf K H (.ref a) (.type "tuple")
 | dK {a:SQ} {dz:List (Key×V)} (e:H a=some (.dK dz)):TyOf K H (.ref a) (.type "dict")
 | dT {a:SQ} {dz:List (List Key×V)} (e:H a=some (.dT dz)):TyOf K H (.ref a) (.type "dict")
 | ins {a C dx:SQ} {fs:List (Str×V)} (e:H a=some (.ins C dx fs)) (cl:Cls K C) (ha:PySem.W.findIn K (.ref C) "__class__" = some (some<|.builtin "object.__class__"))
   (hn:PySem.W.specialIn K (.builtin "object.__class__") "__get__" = some (some<|.builtin "getset_descriptor.__get__")) (htk:PySem.W.takesIn K (.builtin "object.__class__")=some true)
   (hm:PySem.W.mroIn K C (.type "object")=some true):TyOf K H (.ref a) (.ref C)
def aZ {x:V}{u t:SN}(I:Inv X π σ H s)(rx:s0 x u)(ty:TyOf X.K H x t)(e:PySem.W.kitOne X.K t c=some b)(h:∀tk,Q (.bool b) { s with toks:=tk }) :
  Tn (model X.prog X.w) A (call (.builtin "isinstance") [u,c]) Q E s:=by
 cases ty with
 | non=>cases(show u=SN.none from rx);exact NV PySem.W.kitx_none I.kIn True.intro e (λz=>nomatch z) h
 | bl y=>cases(show u=SN.bool y from rx);exact NV PySem.W.kitx_bool I.kIn True.intro e (λz=>nomatch z) h
 | int i=>obtain⟨t,q⟩:=(show ∃t,u=SN.int i t from rx);cases q;exact NV PySem.W.kitx_int I.kIn True.intro e (λz=>nomatch z) h
 | str y=>obtain⟨t,q⟩:=(show ∃t,u=SN.str y t from rx);cases q;exact NV PySem.W.kitx_str I.kIn True.intro e (λz=>nomatch z) h
 | flt y=>obtain⟨t,q⟩:=(show ∃t,u=SN.float y t from rx);cases q;exact NV PySem.W.kitx_float I.kIn True.intro e (λz=>nomatch z) h
 | @lst a j d =>cases(show u=SN.ref a from rx);obtain⟨_,_,n,_,f⟩:=(show x5 X.prog X.w H s.heap a (.lst j) from I.hok a _ d);exact NV So I.kIn #v[_,f,rfl] e (λz=>nomatch z) h
 | @frz a r j d =>cases(show u=SN.ref a from rx);obtain⟨_,_,_,n,_,f⟩:=(show x5 X.prog X.w H s.heap a (.frz r<|.lst j) from I.hok a _ d);exact NV So I.kIn #v[_,f,rfl] e (λz=>nomatch z) h
 | @tup a j d =>cases(show u=SN.ref a from rx);obtain⟨_,_,_,p⟩:=(show x5 X.prog X.w H s.heap a (.tup j) from I.hok a _ d);obtain⟨o,f,k,_⟩:=p;exact NV PySem.W.kitx_tuple I.kIn #v[o,f,k] e (λz=>nomatch z) h
 | @dK a g d =>cases(show u=SN.ref a from rx);obtain⟨_,_,F,_,p⟩:=(show x5 X.prog X.w H s.heap a (.dK g) from I.hok a _ d);obtain⟨o,es,D,f,k,_⟩:=p;exact NV PySem.W.kitx_dict I.kIn #v[o,f,k.1] e (λz=>nomatch z) h
 | @dT a g d =>cases(show u=SN.ref a from rx);obtain⟨_,_,j,_,o,es,D,f,k,_⟩:=(show x5 X.prog X.w H s.heap a (.dT g) from I.hok a _ d);exact NV PySem.W.kitx_dict I.kIn #v[o,f,k.1] e (λz=>nomatch z) h
 | @ins a C dx fs d m B v l w =>cases(show u=SN.ref a from rx);obtain⟨mA,O,_⟩:=ze I.hok d;obtain⟨G,J,_⟩:=O.look;exact NV (PySem.W.kitx_own (m.get _) m.hd B v l w) I.kIn J e (λz=>nomatch z) h
end
end
variable {kindOf:Str->Option Tx}
section
structure Room (k:Nat) (A:SW):Prop where
 hd:A.handled=none
 dp:A.depth+3*k+5<recursionLimit
 un:A.units+16*k+200<Tv
 gd:A.guards=some []
def Room.mono {j k:Nat}{A:SW}(r:Room k A)(h:j<=k):Room j A:=#v[r.hd,by have:=r.dp;omega,by have:=r.un;omega,r.gd]
def Room.deeper {k:Nat}{A:SW}(r:Room (k+1) A)(env:Tf):Room k (A.deeper env) :=
 #v[r.hd,by have:=r.dp;show A.depth+1+3*k+5<_;omega,by have:=r.un;show A.units+3+16*k+200<_;omega,r.gd]
def pH {A:SW}{us:List SN}{kw:List (Str×SN)}:(A.under<|.builtin "type.__call__" #v[.ref C::us,kw]).depth=A.depth+1:=by first | rfl | simp[SW.under,Code.weight,Code.isCreation,Code.isGuard,Code.isCaller,Code.frames,Code.isFrame,guardIds]
def nY {A:SW}{us:List SN}{kw:List (Str×SN)}:(A.under<|.builtin "type.__call__" #v[.ref C::us,kw]).units=A.units+1:=by first | rfl | simp[SW.under,Code.cUnits,Code.frames,Code.isFrame]
def nB {A:SW}{us:List SN}{kw:List (Str×SN)}(h:A.guards=some []):(A.under<|.builtin "type.__call__" #v[.ref C::us,kw]).guards=some []:=by first | exact h | simp[SW.under,Code.guards,Code.isGuard,guardIds,h]
def Room.make {k:Nat}{A:SW}(r:Room (k+1) A)(C:SQ)(us:List SN)(kw:List (Str×SN)):Room k (A.under<|.builtin "type.__call__" #v[.ref C::us,kw]) :=
 #v[r.hd,by have:=r.dp;rw[pH];omega,by have:=r.un;rw[nY];omega,nB r.gd]
def Room.depth {k:Nat}{A:SW}(r:Room k A):A.depth<recursionLimit:=by have:=r.dp;omega
def Room.units {k:Nat}{A:SW}(r:Room k A):A.units+64<Tv:=by have:=r.un;omega
def T4 :TA:=λ_ H Q=>Q [] H
def x6 (ta:TE)(tr:TA):TA:=λa H Q=>ta a H λx d=>tr a d λb c=>Q (x::b) c
section
variable {X:Cx}{e:Ta}{t:TA}
def B1 :PA X [] T4:=λ_ _ _ _ H Q I h=>Calls.spliced_nil #v[[],H,I,.nil,h]
def n6 (ha:PE X e te)(hr:PA X es t)(hs:Td (e::es) X.env=(false,eval e X.env)::Td es X.env:=by rfl):PA X (e::es) (x6 te t):=by intro pos π s a H Q I h;rw[hs];show Tn _ _ (spliced ((false,eval e X.env)::Ti pos (Td es X.env))) _ _ s;refine RX (thn (ha π s a H _ I h) λu s1 #v[x,l,j,d,g]=>?_);exact thn (hr pos π s1 a l _ j g) λus s2 #v[b,k,i,c,f]=>#v[x::b,k,i,.cons d c,f]
def oE (t:TA):TE:=λc H Q=>t c H λa b=>a.length<=Tc/\∀p,b p=none->Q (.ref p) (upd b p<|.tup a)
def Ag (t:TA):TE:=λc H Q=>t c H λa b=>a.length<=Tc/\∀p,b p=none->Q (.ref p) (upd b p<|.lst a)
def ik {x1}(h:PA X es t):PE X (.Tuple es x1 pos) (oE t):=by intro π s d H Q I g;refine wpAny_Tuple_spliced (thn (h pos π s d H _ I g) λus s1 #v[f,c,a,r,z,q]=>#v[by rw[<-r.length];exact z,?_]);have i:c s1.heap.objs.size=none:=a.hok.fresh<|Mz _;refine#v[.ref s1.heap.objs.size,upd c s1.heap.objs.size<|.tup f,a.laid (t':=s1.toks) (λb u e=>Mu _ e) (Mz _) ?_,rfl,q _ i];exact#v[z,us,r,#v[_,MM _ rfl,rfl,_,rfl]]
def kq (h:PA X es t):PE X (.List es pos) (Ag t):=by intro π s d H Q I g;refine wpAny_List_spliced (thn (h pos π s d H _ I g) λus s1 #v[f,c,a,r,z,q]=>#v[by rw[<-r.length];exact z,?_]);have i:c s1.heap.objs.size=none:=a.hok.fresh<|Mz _;refine#v[.ref s1.heap.objs.size,upd c s1.heap.objs.size<|.lst f,a.laid (t':=s1.toks) (λb u e=>Mu _ e) (Mz _) ?_,rfl,q _ i];exact#v[z,us,0,r,MM _ rfl]
end
abbrev Sp :=List V->Hp->VK->XK->Prop
abbrev CXT :=List Tf->Hp->SR->XK->SN->SR->Prop
structure Env0 (P:SS) (w:SU) (K:Qf) (mg:Str->Option SN) (base:Tb) (A:SW) (outer:List Tf) (s:SR) (H:Hp):Prop where
 frames:A.frames=some outer
 mod:Mod K mg base
 bs:∀b o,base.get? b=some o->s.heap.get? b=some o/\H b=none
 bsz:base.objs.size<=s.heap.objs.size
 funs:s.heap.FunFrames base outer
 frf:∀b∈frs outer,H b=none
 hok:HOk P w H s.heap
 bare:AllBare s.gens
def CE (outer:List Tf)(P:SS)(w:SU)(H:Hp)(s:SR)(Q:VK)(u:SN)(s':SR):Prop :=
 ∃v a,s'.os=s.os/\AllBare s'.gens/\Un (frs outer) [] H a s.heap s'.heap/\HOk P w a s'.heap/\s0 v u/\Q v a
def CR (CX:CXT)(outer:List Tf)(P:SS)(w:SU)(H:Hp)(s:SR)(Q:VK)(E:XK)(r:Result)(s':SR):Prop :=
 match r with
 | .ok (.ret u)=>CE outer P w H s Q u s'
 | .ok _=>False
 | .error e=>CX outer H s E e s'
structure FnOk (P:SS) (w:SU) (K:Qf) (mg:Str->Option SN) (base:Tb) (CX:CXT) (k:Nat) (f:SQ) (fd:SY) (ps:List Str) (sp:Sp):Prop where
 len:∀vs H Q E,sp vs H Q E->vs.length=ps.length
 run:∀(A:SW) (outer:List Tf) (s:SR) (H:Hp) (args:Args) (us:List SN) (vs:List V) (Q:VK) (E:XK),Room k A->Env0 P w K mg base A outer s H->BindsTo s fd args (ps.zip us)->m9 vs us->sp vs H Q E ->
  codeAny (model P w) A (.call (.ref f) args) (CR CX outer P w H s Q E) s
section
variable {X:Cx}{σ:St}{H:Hp}{s s':SR}
def Inv.env0 (I:Inv X π σ H s):Env0 X.prog X.w X.K X.mg X.base X.A X.stack s H :=
 #v[I.ok.frames,I.ok.mod,I.bs,MG I.ok.bsz I.sz,I.stack,I.stkFree,I.hok,I.bare]
def Inv.after {Q:VK}{u:SN}(I:Inv X π σ H s)(h:CE X.stack X.prog X.w H s Q u s'):EP X π σ Q u s':=by obtain⟨v,j,f,a,un,e,r,q⟩:=h;obtain⟨i,g,d,t,c⟩:=s';obtain rfl:c=s.os:=f;exact#v[v,j,I.call (h':=i) (g':=g) (d':=d) (t':=t) (ch:=[]) un e a<|λb z=>absurd z<|by simp,r,q]
end
def aE (sp:Sp)(dvs:List V)(E:XK)(t:TA):TE:=λa H Q=>t a H λb c=>sp (b++dvs) c Q E
def bD (K:Qf)(fd:SY)(ps:List Str)(ds:List SN):Prop :=
 ∀(s:SR) (us:List SN),K.In s.heap->(us++ds).length=ps.length->BindsTo s fd #v[us,[]] (ps.zip<|us++ds)
def bD.all {K:Qf}{fd:SY}{ps:List Str}(h:∀us:List SN,us.length=ps.length->bindArgs fd #v[us,[]]=pure (ps.zip us)):bD K fd ps []:=λs us _ hl=>by rw[NW]at hl ⊢;exact .of_eq<|h us hl
def qr (CX:CXT)(X:Cx)(E:XK):Prop:=∀(π:List (SQ×Te)) (b:St) (H:Hp) (s:SR) (e:SN) (a:SR),Inv X π b H s->CX X.stack H s E e a->X.xe e a
section
variable {X:Cx}{CX:CXT}{k:Nat}{f:SQ}{fd:SY}{ps:List Str}{sp:Sp}{dvs:List V}{ds:List SN}{E:XK}{x:Str}{p:Pos}{e:Ta}{t:TA}
def Do {σ:St}{H:Hp}{s:SR}{Q:VK}{us:List SN}{vs:List V}(F:FnOk X.prog X.w X.K X.mg X.base CX k f fd ps sp)(hr:Room k X.A)(hb:bD X.K fd ps ds)(hd:m9 dvs ds)(hx:qr CX X E)
  (I:Inv X π σ H s) (r:m9 vs us) (h:sp (vs++dvs) H Q E):Tn (model X.prog X.w) X.A (call (.ref f) us) (EP X π σ Q) X.xe s:=by
 have b:m9 (vs++dvs) (us++ds):=r.append hd;have hl:(us++ds).length=ps.length:=by rw[<-b.length];exact F.len _ _ _ _ h
 refine PY (RD (F.run X.A X.stack s H #v[us,[]] (us++ds) (vs++dvs) Q E hr I.env0 (hb s us I.kIn hl) b h) λr c a=>?_);cases r with
 | error e=>exact hx π σ H s e c I a
 | ok d =>
  cases d with
  | ret u=>exact I.after a
  | next=>exact False.elim a
  | brk=>exact False.elim a
  | cont=>exact False.elim a
def AE (F:FnOk X.prog X.w X.K X.mg X.base CX k f fd ps sp)(hr:Room k X.A)(hg:Gl X x)(hm:X.mg x=some (.ref f))(hk:PySem.W.keepIn X.K (.ref f)=true)(hb:bD X.K fd ps ds)(hd:m9 dvs ds)(hx:qr CX X E)
  (ha:PA X (e::es) t) (hdb:nDb x:=by decide) (he:Td (e::es) X.env=(false,eval e X.env)::Td es X.env:=by rfl) (hpl:(Ti pos<|Td es X.env).any (·.1)=false:=by rfl) :
  PE X (.Call (.Name x p) (e::es) [] pos) (aE sp dvs E t):=by intro π s b H Q I h;refine Pf<|cJ I hg hm ?_ hdb;refine PySem.W.callWith_K (h₀:=X.base) I.ok.mod.kin hk (thn (ha pos π s b H _ I h) λus s1 #v[c,d,a,r,q]=>#v[a.kIn,?_]) he hpl;exact Do F hr hb hd hx a r q
end
structure FnScope (N P:List Str) (sc:SX):Prop where
 kind:sc.kind = .function:=by rfl
 co:sc.isCoroutine=false:=by rfl
 gen:sc.isGenerator=false:=by rfl
 nd:N.Nodup:=by decide +kernel
 pre:N.take P.length=P:=by rfl
 par:∀x∈P,sc.names.lookup x=some .local\/sc.names.lookup x=some .cell:=by decide +kernel
 nofree:∀y∈sc.names,y.2 ≠ .free:=by decide +kernel
theorem jE {kindOf:Str->Option Tx}{x:Str}:∀{binds:List (Str×SN)} {m:Str->Option SN},(∀v,(x,v) ∉ binds)->bindL kindOf binds m x=m x
 | [],_,_=>rfl
 | (n,v)::r,m,h=>by
  unfold bindL;rw[jE λw a=>h w<|Mw _ a];split
  .have:x≠n:=by rintro rfl;exact h v MD
   simp[this]
  .rfl
theorem jF {kindOf:Str->Option Tx}{x:Str}:∀{binds:List (Str×SN)} {m:Str->Option SN},(∀v,(x,v) ∉ binds)->bindC kindOf binds m x=m x
 | [],_,_=>rfl
 | (n,v)::r,m,h=>by
  unfold bindC;rw[jF λw a=>h w<|Mw _ a];split
  .rfl
  .have:x≠n:=by rintro rfl;exact h v MD
   simp[this]
def dZ {x:Str}{v:SN}:∀{P:List Str} {vs:List SN} {i:Nat} {m:Str->Option SN},P.Nodup->P[i]? = some x->vs[i]? = some v->kindOf x=some .local ->
  bindL kindOf (P.zip vs) m x=some v
 | [],_,_,_,_,h,_,_=>by simp at h
 | _::_,[],_,_,_,_,h,_=>by simp at h
 | p::P,w::vs,0,m,nd,h1,h2,hk=>by
  simp at h1 h2;subst h1;subst h2;show bindL kindOf ((p,w)::P.zip vs) m p=_;unfold bindL;rw[jE λv a=>(OQ.1 nd).1 (RE a).1,Mx hk];simp
 | p::P,w::vs,i+1,m,nd,h1,h2,hk=>by show bindL kindOf ((p,w)::P.zip vs) m x=_;unfold bindL;exact dZ (i:=i) (OQ.1 nd).2 (by simpa using h1) (by simpa using h2) hk
def jK {x:Str}{v:SN}:∀{P:List Str} {vs:List SN} {i:Nat} {m:Str->Option SN},P.Nodup->P[i]? = some x->vs[i]? = some v->kindOf x≠some .local ->
  bindC kindOf (P.zip vs) m x=some v
 | [],_,_,_,_,h,_,_=>by simp at h
 | _::_,[],_,_,_,_,h,_=>by simp at h
 | p::P,w::vs,0,m,nd,h1,h2,hk=>by
  simp at h1 h2;subst h1;subst h2;show bindC kindOf ((p,w)::P.zip vs) m p=_;unfold bindC;rw[jF λv a=>(OQ.1 nd).1 (RE a).1,MC hk];simp
 | p::P,w::vs,i+1,m,nd,h1,h2,hk=>by show bindC kindOf ((p,w)::P.zip vs) m x=_;unfold bindC;exact jK (i:=i) (OQ.1 nd).2 (by simpa using h1) (by simpa using h2) hk
def V9 (N:List Str)(vs:List V):St:=vs.map some++List.replicate (N.length-vs.length) none
def K8 (CX:CXT)(P:SS)(w:SU)(K:Qf)(mg:Str->Option SN)(base:Tb)(N:List Str)(qual:Str)(scope:SX)(f:SQ)(cd:SN)(A:SW)(outer:List Tf)(s:SR)(H:Hp)(E:XK):Cx where
 prog:=P
 w:=w
 K:=K
 mg:=mg
 base:=base
 A:=A.deeper<|envOfC qual scope s.heap.objs.size f cd
 N:=N
 s₀:=s
 H₀:=H
 env:=envOfC qual scope s.heap.objs.size f cd
 outer:=outer
 stack:=envOfC qual scope s.heap.objs.size f cd::outer
 ex:=[]
 calm:=true
 fn:=λ_=>true
 pn:=[]
 xe:=λe b=>Tn (model P w) (A.deeper<|envOfC qual scope s.heap.objs.size f cd) (leaving (envOfC qual scope s.heap.objs.size f cd) e) (λ_ a=>CX outer H s E e a) (λc a=>CX outer H s E c a) b
def md {sc:SX}{n:Nat}{x:Str}(h:sc.names.lookup x=some .cell):∃c,(cellsFrom n sc.names []).lookup x=some c:=by have q:=Qh sc.names n []<|.inl h;exact NX.1 q
def uK {CX:CXT}{P:SS}{w:SU}{K:Qf}{mg:Str->Option SN}{base:Tb}{N ps:List Str}{qual:Str}{scope:SX}{f:SQ}{cd:SN}{A:SW}{outer:List Tf}{s s1:SR}{H:Hp}{E:XK}{us:List SN}{vs:List V}
  (S:FnScope N ps scope) (hd:A.handled=none) (e0:Env0 P w K mg base A outer s H) (hl:vs.length=ps.length) (r:m9 vs us)
  (x:InCallC s s.heap.objs.size (bindL (envOfC qual scope s.heap.objs.size f cd).kindOf (ps.zip us) λ_=>none) (cellsFrom (s.heap.objs.size+1) scope.names []) (bindC (envOfC qual scope s.heap.objs.size f cd).kindOf (ps.zip us) λ_=>none) s1) :
  Inv (K8 CX P w K mg base N qual scope f cd A outer s H E) [] (V9 N vs) H s1:=by
 have F:ps.length<=N.length:=by have:=NU List.length S.pre;rw[OZ]at this;omega
 obtain⟨t,I,rfl,C⟩:=x.done;have g:∀b:SQ,b ∉ (K8 CX P w K mg base N qual scope f cd A outer s H E).ex:=λb z=>absurd (show b∈([]:List SQ) from z) (by simp)
 refine#v[#v[e0.mod,S.kind,rfl,rfl,Mz _,λy z c t d=>?_,λy j=>?_,λy c _ h=>?_,λ_=>hd,SW.frames_deeper e0.frames,.inr #v[rfl,rfl],λb z=>absurd z<|g b,e0.bs,e0.bsz,λb _ _=>g b,λb z=>absurd z<|g b,e0.funs,e0.frf],
  rfl,e0.bare,Un.kept C,#v[_,x.toInCall.ns,λi y v t d J=>?_],λy c h=>#v[_,x.cell y c h],e0.hok.fresh<|Mz _,λy c h=>?_,λp m=>absurd (show p∈([]:List (SQ×Te)) from m) (by simp),e0.hok.kept C,?_]
 .exact name_of_addr x.apart (NK t)<|NK d
 .have j:scope.names.lookup y=some .cell\/scope.names.lookup y=some .free:=j;rcases j with j | j
  .exact md j
  .exact absurd rfl<|S.nofree _<|NK j
 .exact NS<|x.above y c<|NK h
 .have o:i<vs.length:=by
   unfold V9 at d;by_cases o:i<vs.length
   .exact o
   .rw[Oo<|by simpa using o]at d;rw[NZ]at d;split at d <;> cases d
  have G:vs[i]? = some v:=by
   unfold V9 at d;rw[OO (by simpa using o),MQ]at d;cases e:vs[i]? with
   | none=>rw[e]at d;cases d
   | some a=>rw[e]at d;cases d;rfl
  obtain⟨u,B,D⟩:=r.get G;have m:ps[i]? = some y:=by rw[<-S.pre,List.getElem?_take_of_lt<|by omega];exact t
  have l:ps.Nodup:=by rw[<-S.pre];exact S.nd.sublist<|List.take_sublist _ _
  refine#v[u,D,?_];rcases S.par y (Np m) with k | k
  .exact .inl #v[k,dZ l m B k]
  .obtain⟨c,e⟩:=md (n:=s.heap.objs.size+1) k;refine .inr #v[.inl k,c,e,?_];have q:=x.cell y c e;rw[jK l m B (by show scope.names.lookup y≠_;rw[k];decide)]at q;exact q
 .exact e0.hok.fresh<|NS<|x.above y c<|NK h
 .unfold V9;show _=N.length;rw[Ni,Mv,Pm];omega
def Cg {CX:CXT}{P:SS}{w:SU}{K:Qf}{mg:Str->Option SN}{base:Tb}{k:Nat}{f:SQ}{name qual:Str}{params:Arguments}{scope:SX}{dV kV doc pm dr ct oc:SN}{an od:Option SQ}
  {osl:Array (Option SN)} {N ps:List Str} {sp:Sp} (lk:K.lookup f=some #v[oc,od,.func<|PySem.W.fnOf name qual params body scope dV kV doc pm an dr ct,osl]) (hcd:PySem.W.codeIn K dr qual=true) (S:FnScope N ps scope)
  (len:∀vs H Q E,sp vs H Q E->vs.length=ps.length)
  (hbody:∀(A:SW) (outer:List Tf) (s:SR) (H:Hp) (vs:List V) (Q:VK) (E:XK),Room k (A.deeper<|envOfC qual scope s.heap.objs.size f dr)->sp vs H Q E ->
   ∃t,PSs (K8 CX P w K mg base N qual scope f dr A outer s H E) body t/\t { nx:=λ_ H'=>Q .non H',rt:=Q } (V9 N vs) H) :
  FnOk P w K mg base CX (k+1) f (PySem.W.fnOf name qual params body scope dV kV doc pm an dr ct) ps sp:=by
 refine#v[len,λA outer s H p us vs Q E m h F r g=>?_];have hl:=len _ _ _ _ g;have z:K.In s.heap:=h.mod.kin.keeps λb o e=>(h.bs b o e).1
 have l:s.heap.NoLimit:=h.mod.nolimit.keeps λb o e=>(h.bs b o e).1
 have c:∀y∈ps.zip us,scope.names.lookup y.1=some .local\/(scope.names.lookup y.1=some .cell/\((cellsFrom (s.heap.objs.size+1) scope.names []).lookup y.1).isSome=true):=λ#v[n,v] B=>by
  rcases S.par n (RE B).1 with q | q
  .exact .inl q
  .exact .inr #v[q,Qh _ _ _<|.inl q]
 refine codeAny_call_function m.depth (z _ _ lk) rfl S.co S.gen rfl (PySem.W.codeRec_of z hcd)<|F _ _ _ _ ?_;refine wpAny_newFunctionEnv_cells S.kind c λL D s1 x=>?_
 subst D;refine#v[l.keeps x.toInCall.keep,codeAny_func ?_];obtain⟨t,ht,C⟩:=hbody A outer s H vs Q E (m.deeper _) g;have I:Inv (K8 CX P w K mg base N qual scope f dr A outer s H E) [] (V9 N vs) H s1:=uK S m.hd h hl r x;refine MY (ht [] s1 (V9 N vs) H _ I C) (λG i d=>?_) λe i d=>d
 have fin:∀{a:St} {H':Hp} {v:V} {u:SN},Inv (K8 CX P w K mg base N qual scope f dr A outer s H E) [] a H' i->s0 v u->Q v H'->CE outer P w H s Q u i :=
  λ{a H' v u} J j q=>#v[v,H',J.os,J.bare,J.base,J.hok,j,q]
 cases G with
 | ret u =>obtain⟨v,a,H',J,j,q⟩:=d;exact fin J j q
 | next =>obtain⟨a,H',J,q⟩:=d;exact fin (v:=V.non) (u:=SN.none) J rfl q
 | brk =>obtain⟨_,_,_,q⟩:=d;exact False.elim q
 | cont =>obtain⟨_,_,_,q⟩:=d;exact False.elim q
end
section
section
variable {X:Cx}{x:Str}{p:Pos}{e:Ta}{t:TA}{id T:String}{r:List V->Hp->VK->Prop}
def tCB (r:List V->Hp->VK->Prop)(t:TA):TE:=λa H Q=>t a H λb c=>r b c Q
def M6 (hc:A1 X (.builtin id) r)(hg:Gl X x)(hm:X.mg x=none)(hv:Ts x=some (.builtin id))(ha:PA X (e::es) t)(hn:x ≠ "__name__":=by decide)(hdb:nDb x:=by decide)
  (he:Td (e::es) X.env=(false,eval e X.env)::Td es X.env:=by rfl) (hpl:(Ti pos<|Td es X.env).any (·.1)=false:=by rfl):PE X (.Call (.Name x p) (e::es) [] pos) (tCB r t):=by intro π s a H Q I h;refine Pf<|cF I hg hm hv ?_ hn hdb;exact PyProof.Rows.callWith_builtin1 (thn (ha pos π s a H _ I h) λus s1 #v[b,g,f,c,d]=>hc π s1 a g b us Q f c d) he hpl
def sL (hc:A1 X (.type T) r)(hg:Gl X x)(hm:X.mg x=none)(hv:Ts x=some (.type T))(ha:PA X (e::es) t)(hn:x ≠ "__name__":=by decide)(hdb:nDb x:=by decide)
  (he:Td (e::es) X.env=(false,eval e X.env)::Td es X.env:=by rfl) (hpl:(Ti pos<|Td es X.env).any (·.1)=false:=by rfl):PE X (.Call (.Name x p) (e::es) [] pos) (tCB r t):=by intro π s a H Q I h;refine Pf<|cF I hg hm hv ?_ hn hdb;exact Pe (thn (ha pos π s a H _ I h) λus s1 #v[b,g,f,c,d]=>hc π s1 a g b us Q f c d) he hpl
end
end
end L2
namespace HT
open PySem PyProof.Rows
section
variable {prog:SS}{w:SU}{A:SW}{E:SN->SR->Prop}{s:SR}
def cat_tup {t b:SQ}{vs ws:List SN}{Q:SN->SR->Prop}(ht:IsTup s.heap t vs.toArray)(hb:IsTup s.heap b ws.toArray)(hv:vs≠[])
  (h1:ws=[]->Q (.ref t) s) (h2:ws≠[]->Q (.ref s.heap.objs.size) { s with heap:=s.heap.push { cls:=.type "tuple",data:=.seq (vs++ws).toArray } })
  (hsz:vs.length+ws.length<=Tc):Tn (model prog w) A (binaryOp .Add (.ref t)<|.ref b) Q E s:=by
 obtain⟨⟨cls,dd,data,k⟩,i,o,n,m⟩:=id ht;obtain⟨⟨p,g,j,c⟩,a,f,l,d⟩:=id hb;simp only at o m f d;subst o m f d;have e:vs.toArray++ws.toArray=(vs++ws).toArray:=by simp
 by_cases h:ws=[]
 .exact concat_meets #v[_,i,rfl] #v[_,a,rfl] noFill_tuple_add seq_tuple_add Rf QV (QG _ _)
   (tuple_addW1 t b vs.toArray ws.toArray n l dd g k c (by simpa using hv)<|by simp[h]) #v[i,a,h1 h]
 .refine concat_meets #v[_,i,rfl] #v[_,a,rfl] noFill_tuple_add seq_tuple_add Rf QV (QG _ _)
   (tuple_addW2 t b vs.toArray ws.toArray n l dd g k c (by simpa using hv) (by simpa using h) (by rw[MO,MO];exact hsz)) #v[i,a,?_]
  rw[e];exact h2 h
def sIx (n d:Nat):Option Int->Nat
 | none=>d
 | some v=>if v<0 then(v+(n:Int)).toNat else min v.toNat n
def sIx_none (n d:Nat):sIx n d none=d:=rfl
def sIx_nat (n d k:Nat):sIx n d (some (k:Int))=min k n:=by show(if (k:Int)<0 then((k:Int)+(n:Int)).toNat else min (k:Int).toNat n)=min k n;rw[MC (by omega),NI]
def CT (n d:Nat)(hd:d<=n)(o:Option Int):sIx n d o<=n:=by
 cases o with
 | none=>exact hd
 | some v =>
  show(if v<0 then(v+(n:Int)).toNat else min v.toNat n)<=n;by_cases a:v<0
  .rw[Mx a];omega
  .rw[MC a];exact Nat.min_le_right _ _
def qI (v:Int)(n d:Nat):(if v<0 then max (v+(n:Int)) 0 else min v (n:Int))=((sIx n d (some v):Nat):Int):=by
 show(if v<0 then max (v+(n:Int)) 0 else min v (n:Int))=(((if v<0 then(v+(n:Int)).toNat else min v.toNat n):Nat):Int);by_cases a:v<0
 .simp only[Mx a];omega
 .simp only[MC a];omega
def qi (lo hi:Option Int)(n:Nat):Builtin.Slice.sliceAdjust lo hi 1 (n:Int)=(((sIx n 0 lo:Nat):Int),((sIx n n hi:Nat):Int)):=by
 have a:¬((1:Int)<0):=by omega
 unfold Builtin.Slice.sliceAdjust;simp only[a,NJ];refine Prod.ext ?_ ?_
 .cases lo with
  | none=>rfl
  | some v=>exact qI v n 0
 .cases hi with
  | none=>rfl
  | some v=>exact qI v n n
def oW (i j:Nat):Builtin.Slice.slicePlaces (i:Int) (j:Int) 1=j-i:=by
 unfold Builtin.Slice.slicePlaces;have a:(1:Int) > 0:=by omega
 simp only[a,Of,Int.ediv_one];split <;> omega
def bR {v:SN}{o:Option Int}{Q:Option Int->SR->Prop}(p:IsPart v o)(h:Q o s):Tn (model prog w) A (Builtin.Slice.slicePartIndex v) Q E s:=by
 cases p with
 | none=>exact slicePart_none h
 | int i t=>exact slicePart_int h
def X9 {sl:SQ}{vl vu:SN}{lo hi:Option Int}{n:Nat}{Q:Int×Int×Nat->SR->Prop}(hs:s.heap.IsSliceOf sl vl vu .none)(pl:IsPart vl lo)(pu:IsPart vu hi)
  (h:Q (((sIx n 0 lo:Nat):Int),1,sIx n n hi-sIx n 0 lo) s):Tn (model prog w) A (Builtin.Slice.sliceApplied (.ref sl)<|pure (n:Int)) Q E s:=by obtain⟨d,a,c,b⟩:=id hs;unfold Builtin.Slice.sliceApplied Builtin.Slice.sliceFields;refine Ms<|Ms<|NF a b (x:=vl) rfl<|Ms<|NF a b (x:=vu) rfl<|Ms<|NF a b (x:=.none) rfl<|Mt ?_;refine Ms<|slicePart_none ?_;show Tn _ _ (if ((1:Int) == 0)=true then _ else _) _ _ s;rw[MC<|by decide];refine Ms<|bR pl<|Ms<|bR pu<|Ms<|Mt ?_;show Tn _ _ (match Builtin.Slice.sliceAdjust lo hi 1 (n:Int) with | (lo,hi)=>pure (lo,(1:Int),Builtin.Slice.slicePlaces lo hi 1)) _ _ s;rw[qi lo hi n];show Tn _ _ (pure (((sIx n 0 lo:Nat):Int),(1:Int),Builtin.Slice.slicePlaces ((sIx n 0 lo:Nat):Int) ((sIx n n hi:Nat):Int) 1)) _ _ s;rw[oW];exact Mt h
def xo (xs:Array SN)(i k:Nat):((List.range k).filterMap λ(m:Nat)=>xs[((i:Int)+(m:Int)*1).toNat]?).toArray=((xs.toList.drop i).take k).toArray:=by
 have e:(λ(m:Nat)=>xs[((i:Int)+(m:Int)*1).toNat]?) = λm=>xs[i+m]?:=by
  funext m;have:((i:Int)+(m:Int)*1).toNat=i+m:=by omega
  rw[this]
 rw[e];have:=pick_run xs i k;rw[List.filterMap_map]at this;have a:((λx=>xs[x]?) ∘ λx=>i+x) = λm=>xs[i+m]?:=rfl
 rw[a]at this;rw[this]
def getItem_tuple_cut {t sl:SQ}{items:Array SN}{vl vu:SN}{lo hi:Option Int}{Q:SN->SR->Prop}(ht:IsTup s.heap t items)(hs:s.heap.IsSliceOf sl vl vu .none)(pl:IsPart vl lo)(pu:IsPart vu hi)
  (hw:¬(sIx items.size 0 lo=0/\sIx items.size items.size hi=items.size))
  (h:Q (.ref s.heap.objs.size) { s with heap:=s.heap.push { cls:=.type "tuple",data:=.seq ((items.toList.drop<|sIx items.size 0 lo).take<|sIx items.size items.size hi-sIx items.size 0 lo).toArray } })
  (hsz:items.size<=Tc):Tn (model prog w) A (getItem (.ref t)<|.ref sl) Q E s:=by
 have a:sizeOk (.seq ((items.toList.drop<|sIx items.size 0 lo).take<|sIx items.size items.size hi-sIx items.size 0 lo).toArray):=by show((items.toList.drop<|sIx items.size 0 lo).take<|sIx items.size items.size hi-sIx items.size 0 lo).toArray.size<=Tc;rw[MO,OZ,Qp,ND];omega
 have k:sIx items.size items.size hi<=items.size:=CT _ _ (Mz _) hi;obtain⟨f,b,d,g⟩:=id hs;have e:s.TypeIs (.ref sl) "slice":=#v[f,b,d];unfold getItem;try with_reducible refine NL ?_
 first | refine Ms (Mt ?_) | skip
 refine Ms (wpAny_sequenceKey ht.typeIs (by decide) ?_);refine Ms (NR (name:=Str.ofString "__getitem__") ht.typeIs Nu
  (Nx Nu ht.typeIs entry_tuple_getitem ?_<|args_tuple_getitem _ _))
 show Tn _ _ (Builtin.Tuple.tupleItemsOf (.ref t) >>= _) _ _ s;refine Ms<|tupleItemsOf_ ht ?_;refine Ms<|RF e ?_;rw[Mx<|by decide];refine Ms<|X9 hs pl pu ?_;have c:¬((((sIx items.size 0 lo:Nat):Int) == 0&&(1:Int) == 1&&(sIx items.size items.size hi-sIx items.size 0 lo) == items.size)=true):=by intro q;rw[Ny,Ny]at q;have j:((sIx items.size 0 lo:Nat):Int)=0:=eq_of_beq q.1.1;have i:sIx items.size items.size hi-sIx items.size 0 lo=items.size:=eq_of_beq q.2;exact hw #v[by omega,by omega]
 show Tn _ _ (if (((sIx items.size 0 lo:Nat):Int) == 0&&(1:Int) == 1&&(sIx items.size items.size hi-sIx items.size 0 lo) == items.size)=true then _ else _) _ _ s;rw[MC c,xo];first
  | exact Ms (m:=Builtin.Tuple.tupleExact _)<|Nj (Mt #v[_,rfl,Mt h]) a
  | exact Ms (m:=Builtin.Tuple.tupleExact _)<|Nj (Ms<|Mt<|Mt #v[_,rfl,Mt h]) a
  | exact Ms<|Ms (m:=Builtin.Tuple.tupleExact _)<|Nj (Mt<|Mt #v[_,rfl,Mt h]) a
  | exact Ms<|Ms (m:=Builtin.Tuple.tupleExact _)<|Nj (Mt #v[_,rfl,Mt h]) a
end
end HT
namespace L2
open PySem PySem.Spec PyProof.Rows
variable {pos:Pos}
section
abbrev TO :=St->Hp->(Option Int->Hp->Prop)->Prop
def PO (X:Cx)(e:Option Ta)(t:TO):Prop :=
 ∀(a:List (SQ×Te)) (s:SR) (b:St) (H:Hp) (Q:Option Int->Hp->Prop),Inv X a b H s->t b H Q ->
  Tn (model X.prog X.w) X.A (evalPart e X.env) (λu d=>∃o c,Inv X a b c d/\IsPart u o/\Q o c) X.xe s
def sx :TO:=λ_ H Q=>Q none H
def BV (t:TE):TO:=λa H Q=>t a H λx b=>∃i,x = .int i/\Q (some i) b
def Z1 {ns:List Int}:∀{us:List SN},m9 (ns.map V.int) us->IntsAre us ns:=by
 induction ns with
 | nil=>intro us r;rw[NG]at r;cases r;exact .nil
 | cons n ns c =>
  intro us r;rw[MB]at r;cases r with
  | cons b a =>obtain⟨t,e⟩:=b;subst e;exact .cons n t<|c a
section
variable {X:Cx}{e:Ta}{te:TE}{lo hi:Option Ta}{tl th:TO}{p2:Pos}
def qJ :PO X none sx:=by intro a s b H Q I h;rw[evalPart_none];exact Mt #v[none,H,I,.none,h]
def lN (h:PE X e te):PO X (some e) (BV te):=by
 intro a s b H Q I f;rw[evalPart_some];refine thn (h a s b H _ I f) λu s1 #v[x,j,g,c,d]=>?_
 obtain⟨i,rfl,q⟩:=d;obtain⟨t,rfl⟩:=c;exact#v[some i,j,g,.int i t,q]
def SlR (X:Cx)(r:V->Option Int->Option Int->Hp->VK->Prop):Prop :=
 ∀(a:List (SQ×Te)) (s:SR) (b:St) (H:Hp) (x:V) (v d c:SN) (lo hi:Option Int) (e:SQ) (Q:VK),Inv X a b H s->s0 x v->s.heap.IsSliceOf e d c .none->IsPart d lo->IsPart c hi->r x lo hi H Q ->
  ∃T f,typeLookup (.type T) "__getitem__" = pure (some<|.builtin f)/\s.TypeIs v T/\Tn (model X.prog X.w) X.A (getItem v<|.ref e) (EP X a b Q) X.xe s
def tSl (r:V->Option Int->Option Int->Hp->VK->Prop)(te:TE)(tl th:TO):TE:=λa H Q=>te a H λx d=>tl a d λl c=>th a c λu b=>r x l u b Q
def mG {r:V->Option Int->Option Int->Hp->VK->Prop}(hr:SlR X r)(he:PE X e te)(hl:PO X lo tl)(hu:PO X hi th):PE X (.Subscript e (.Slice lo hi none p2) pos) (tSl r te tl th):=by
 intro a s d H Q I h;refine Subscript_ (thn (he a s d H _ I h) λv s1 #v[x,C,A,j,n]=>?_);refine wpAny_Slice (thn (hl a s1 d C _ A n) λg s2 #v[l,B,z,p,m]=>thn (hu a s2 d B _ z m) λf c #v[u,i,y,o,k]=>?_);rw[evalPart_none];refine Mt ?_;have w:Inv X a d i { c with heap:=c.heap.push { cls:=.type "slice",data:=.fields #[g,f,.none] } }:=y.kept (t':=c.toks) λb D q=>Mu _ q
 obtain⟨T,E,t,ht,hg⟩:=hr a { c with heap:=c.heap.push { cls:=.type "slice",data:=.fields #[g,f,.none] } } d i x v g f l u c.heap.objs.size Q w j (RY ..) p o k;show Tn (model X.prog X.w) X.A (subscriptTail e (.Slice lo hi none p2) v<|.ref c.heap.objs.size) (EP X a d Q) X.xe { c with heap:=c.heap.push { cls:=.type "slice",data:=.fields #[g,f,.none] } };exact tail_any (ops:=[.ref c.heap.objs.size,v]) ht t hg (by with_unfolding_all rfl)
def eF (xs:List V)(lo hi:Option Int):List V:=(xs.drop<|HT.sIx xs.length 0 lo).take<|HT.sIx xs.length xs.length hi-HT.sIx xs.length 0 lo
def ff (xs:List V)(lo hi:Option Int):(eF xs lo hi).length<=xs.length:=by unfold eF;rw[OZ,Qp];omega
def Hk (K:Qf):V->Option Int->Option Int->Hp->VK->Prop:=λx lo hi H Q=>∃a b,x = .ref a/\SqT K H a b /\
 ¬(HT.sIx b.length 0 lo=0/\HT.sIx b.length b.length hi=b.length)/\∀p,H p=none->Q (.ref p) (upd H p<|.tup<|eF b lo hi)
def CP :SlR X (Hk X.K):=by
 intro f s p H x v u t lo hi w Q I i n k j h;obtain⟨a,d,rfl,l,m,q⟩:=h;cases i;obtain⟨e,r,ht,g⟩:=I.tuple l;have c:e.toArray.size=d.length:=by rw[MO];exact r.length.symm
 refine#v["tuple",_,Nu.lookup,ht.typeIs,?_];refine HT.getItem_tuple_cut ht n k j (by rw[c];exact m) ?_ (by rw[c];exact g);rw[c];refine#v[.ref s.heap.objs.size,_,I.laid (t':=s.toks) (o:=.tup<|eF d lo hi) (λb y q=>Mu _ q) (Mz _) ?_,rfl,q _<|I.hok.fresh<|Mz _];exact#v[MG (ff d lo hi) g,_,(r.drop<|HT.sIx d.length 0 lo).take<|HT.sIx d.length d.length hi-HT.sIx d.length 0 lo,Rz _ _]
def Gv (K:Qf):R2:=λx y H Q=>∃a b d c,x = .ref a/\y = .ref b/\SqT K H a d/\SqT K H b c/\d≠[]/\d.length+c.length<=Tc /\
 (c=[]->Q (.ref a) H)/\(c≠[]->∀p,H p=none->Q (.ref p) (upd H p<|.tup<|d++c))
def m9.nil_iff {xs:List V}{us:List SN}(r:m9 xs us):us=[]↔xs=[]:=by
 cases r with
 | nil=>simp
 | cons _ _=>simp
def Bb :OpR X (binaryOp .Add) (Gv X.K):=by intro e s C H x y v u Q I l k h;obtain⟨a,b,j,i,rfl,rfl,B,A,t,g,n,m⟩:=h;cases l;cases k;obtain⟨r,d,p,_⟩:=I.tuple B;obtain⟨f,c,p2,_⟩:=I.tuple A;refine HT.cat_tup p p2 (λz=>t<|d.nil_iff.1 z) (λz=>#v[.ref a,H,I,rfl,n<|c.nil_iff.1 z]) (λz=>?_) (by rw[<-d.length,<-c.length];exact g);refine#v[.ref s.heap.objs.size,_,I.laid (t':=s.toks) (o:=.tup<|j++i) (λb D q=>Mu _ q) (Mz _) ?_,rfl,m (λw=>z<|c.nil_iff.2 w) _<|I.hok.fresh<|Mz _];exact#v[by rw[Ni];exact g,_,d.append c,Rz _ _]
end
end
variable {π:List (SQ×Te)}{its:List SN}
section
def ixN (n:Nat)(i:Int):Option Nat:=if 0<=i then(if i<n then some i.toNat else none) else if -(n:Int)<=i then some (i+n).toNat else none
def atI {α:Type}(xs:List α)(i:Int):Option α:=(ixN xs.length i).bind λj=>xs[j]?
def qM {n:Nat}{i:Int}{j:Nat}(h:ixN n i=some j):seqIndex? i n=some j/\j<n /\ -(n:Int)<=i/\i<n:=by
 unfold ixN at h;by_cases b:0<=i
 .rw[Mx b]at h;by_cases a:i<n
  .rw[Mx a]at h;have e:i.toNat=j:=MH h;exact#v[by rw[seqIndex_of b a,e],by omega,by omega,a]
  .rw[MC a]at h;cases h
 .rw[MC b]at h;by_cases a:-(n:Int)<=i
  .rw[Mx a]at h;have e:(i+n).toNat=j:=MH h;exact#v[by rw[seqIndex_neg (by omega) a,e],by omega,a,by omega]
  .rw[MC a]at h;cases h
def fO {α:Type}{xs:List α}{i:Int}{v:α}(h:atI xs i=some v):∃j,seqIndex? i xs.length=some j/\xs[j]? = some v/\j<xs.length /\ -(xs.length:Int)<=i/\i<xs.length:=by
 unfold atI at h;cases e:ixN xs.length i with
 | none=>rw[e]at h;cases h
 | some j =>rw[e]at h;obtain⟨d,c,b,a⟩:=qM e;exact#v[j,d,h,c,b,a]
def V4 {α:Type}{xs:List α}{j:Nat}{v:α}(h:xs[j]? = some v):atI xs (j:Int)=some v:=by
 have a:j<xs.length:=(MK.1 h).1;have e:ixN xs.length (j:Int)=some j:=by unfold ixN;rw[Mx (by omega),Mx<|by omega];simp
 unfold atI;rw[e];exact h
def qX (b:Ta):Prop:=∀o i,subscripted b false o i=operate [o,i] (getItem o i)
def IxR (X:Cx)(r:R2):Prop :=
 ∀(b a:Ta) (π:List (SQ×Te)) (s:SR) (c:St) (H:Hp) (x y:V) (v u:SN) (Q:VK),Inv X π c H s->s0 x v->s0 y u->r x y H Q ->
  subscripted a false v u=operate [v,u] (getItem v u)->Tn (model X.prog X.w) X.A (subscriptTail b a v u) (EP X π c Q) X.xe s
def MtR (X:Cx)(id:String)(r:V->List V->Hp->VK->Prop):Prop :=
 ∀(π:List (SQ×Te)) (s:SR) (a:St) (H:Hp) (x:V) (b:List V) (v:SN) (us:List SN) (Q:VK),Inv X π a H s->s0 x v->m9 b us->r x b H Q ->
  Tn (model X.prog X.w) X.A (call (.builtin id) (v::us)) (EP X π a Q) X.xe s
section
variable {X:Cx}{a b:Ta}{ta tb:TE}
def bH {r:R2}(hr:IxR X r)(ha:PE X a ta)(hb:PE X b tb)(hs:qX b):PE X (.Subscript a b pos) (tOp r ta tb):=by intro π s c H Q I h;exact Subscript_ (EO ha hb I h λv u s2 x y g f e d q=>hr a b π s2 c g x y v u Q f e d q<|hs _ _)
def Fk (K:Qf):R2:=λx y H Q=>∃p a i v,x = .ref p/\y = .int i/\SqL K H p a/\atI a i=some v/\Q v H
def GQ (K:Qf):R2:=λx y H Q=>∃p a i v,x = .ref p/\y = .int i/\SqT K H p a/\atI a i=some v/\Q v H
def He :R2:=λx y H Q=>∃z i c,x = .str z/\y = .int i/\z.length<=Tc/\atI z.cps.toList i=some c/\Q (.str #v[#[c]]) H
def O5 :IxR X (Fk X.K):=by
 intro b c π s g H x y v u Q I A o h k;obtain⟨p,G,i,z,rfl,rfl,B,C,q⟩:=h;cases A;obtain⟨t,rfl⟩:=o;obtain⟨its,r,e,J⟩:=I.list B;obtain⟨j,a,F,L,E,D⟩:=fO C;obtain⟨w,m,d⟩:=r.get F;have hl:=r.length;have K:=cj;have fin:EP X π g Q w s:=#v[z,H,I,d,q];by_cases l:0<=i
 .have f:i.toNat=j:=by rw[seqIndex_of l D]at a;exact MH a
  exact item_listR e.isList l (by omega) (by rw[f];simpa using m) fin k
 .have f:(i+(its.toArray.size:Int)).toNat=j:=by rw[seqIndex_neg (by omega) E]at a;rw[MO,<-hl];exact MH a
  exact subscriptTail_builtinR (x:=w) e.isList.typeIs slot_list_getitem.lookup
   (wpAny_getItem_list_neg (Q:=λr n=>r=w/\EP X π g Q r n) e.isList (by omega) (by rw[MO] <;> omega) (by omega) (by rw[f];simpa using m) #v[rfl,fin]) k
def ET :IxR X (GQ X.K):=by
 intro a b π s d H x y v u Q I k g h l;obtain⟨p,C,i,z,rfl,rfl,m,n,q⟩:=h;cases k;obtain⟨t,rfl⟩:=g;obtain⟨its,r,e,D⟩:=I.tuple m;obtain⟨j,A,o,J,G,F⟩:=fO n;obtain⟨w,B,c⟩:=r.get o;have hl:=r.length;have E:=cj;have fin:EP X π d Q w s:=#v[z,H,I,c,q];exact subscriptTail_builtinR (x:=w) e.typeIs slot_tuple_getitem.lookup
  (getItem_tuple (j:=j) (Q:=λr f=>r=w/\EP X π d Q r f) e (by omega) (by omega) (by rw[MO,<-hl];exact A) (by simpa using B) #v[rfl,fin]) l
def EU :IxR X He:=by
 intro a b π s r H x y v u Q I f e h g;obtain⟨z,i,c,rfl,rfl,A,k,q⟩:=h;obtain⟨t,rfl⟩:=f;obtain⟨w,rfl⟩:=e;obtain⟨j,d,n,C,m,l⟩:=fO k;have hl:z.cps.toList.length=z.length:=by simp[Str.length]
 rw[hl]at d m l;have B:=cj;exact tail_any (RG s z t) slot_str_getitem.lookup (getItem_str (c:=c) (by have p:decide (i < -(2 ^ 63:Int))=false:=MX (by omega);have o:decide (i >= 2 ^ 63)=false:=MX (by omega);rw[p,o,Bool.or_false]) (by rw[d];simpa using n) #v[.str #v[#[c]],H,I.tok _,#v[_,rfl],q]) g
def om (its:List SN)(n j:Nat)(u:SN):Te.mapSeq (·.setIfInBounds j u) { cls:=.type "list",data:=.seq its.toArray n }={ cls:=.type "list",data:=.seq (its.set j u).toArray n }:=by simp[Te.mapSeq]
def Inv.lst {σ:St}{H:Hp}{s:SR}{p:SQ}{xs:List V}(I:Inv X π σ H s)(h:H p=some (.lst xs)) :
  ∃(its:List SN) (n:Nat),m9 xs its/\s.heap.get? p=some { cls:=.type "list",data:=.seq its.toArray n }/\xs.length<=Tc:=by obtain⟨z,its,n,r,e⟩:=I.hok p _ h;exact#v[its,n,r,e,z]
def Inv.lstUpd {σ:St}{H:Hp}{s:SR}{p:SQ}{xs ys:List V}{its':List SN}{n n':Nat}{f:Te->Te}(I:Inv X π σ H s)(h:H p=some (.lst xs))
  (ho:s.heap.get? p=some { cls:=.type "list",data:=.seq its.toArray n }) (hf:f { cls:=.type "list",data:=.seq its.toArray n }={ cls:=.type "list",data:=.seq its'.toArray n' }) (r:m9 ys its') (hz:ys.length<=Tc) (t:Nat) :
  Inv X π σ (upd H p<|.lst ys) { s with heap:=s.heap.update p f,toks:=t }:=by
 have e:(s.heap.update p f).get? p=some { cls:=.type "list",data:=.seq its'.toArray n' }:=by rw[Oj f ho (by rw[hf] <;> rfl),hf]
 refine I.write (x:=p) (e:=p) (by rw[h];trivial) (.inl rfl) (λb u a q=>(Oq _ _<|Ow a).trans q) #v[_,e] ?_;exact#v[hz,its',n',r,e]
def Fu :V->V->V->Hp->(Hp->Prop)->Prop:=λo i v H Q=>∃p a k j,o = .ref p/\i = .int k/\H p=some (.lst a)/\ixN a.length k=some j/\Q (upd H p<|.lst<|a.set j v)
def gQ :GE X Fu:=by
 intro π s m H o i v C D u Q I y z x h;obtain⟨p,w,k,j,rfl,rfl,d,B,q⟩:=h;cases y;obtain⟨t,rfl⟩:=z;obtain⟨its,n,r,b,A⟩:=I.lst d;obtain⟨a,F,f,e⟩:=qM B;have hl:=r.length;have E:=cj;have l:Inv X π m (upd H p<|.lst<|w.set j v) { s with heap:=s.heap.update p (Te.mapSeq (·.setIfInBounds j u)) } :=
  I.lstUpd d b (om its n j u) (r.set x j) (by rw[NO];exact A) s.toks
 by_cases g:0<=k
 .have c:k.toNat=j:=by rw[seqIndex_of g e]at a;exact MH a
  exact PySem.W.ki_setAt b g (by omega) (by rw[MO,<-hl];exact e) (by rw[c];exact#v[_,l,q])
 .have c:(k+(its.toArray.size:Int)).toNat=j:=by rw[seqIndex_neg (by omega) f]at a;rw[MO,<-hl];exact MH a
  exact PySem.W.ki_setBack b (by omega) (by rw[MO,<-hl];exact f) (by omega) (by rw[c];exact#v[_,l,q])
def lF (lo hi:Option Int)(n:Nat):(sliceBounds lo hi none n).1=((HT.sIx n 0 lo:Nat):Int)/\(sliceBounds lo hi none n).2.1=((HT.sIx n n hi:Nat):Int)/\(sliceBounds lo hi none n).2.2=1:=by
 refine#v[?_,?_,rfl]
 .cases lo with
  | none=>simp[sliceBounds,HT.sIx]
  | some i =>
   simp only[sliceBounds,HT.sIx,Su,show(1:Int) > 0 by decide,Of]
   by_cases h:i<0
   .simp only[h,Of] <;> omega
   .simp only[h,NJ] <;> omega
 .cases hi with
  | none=>simp[sliceBounds,HT.sIx]
  | some i =>
   simp only[sliceBounds,HT.sIx,Su,show(1:Int) > 0 by decide,Of]
   by_cases h:i<0
   .simp only[h,Of] <;> omega
   .simp only[h,NJ] <;> omega
def jd (its:List SN)(lo hi:Option Int):slicePick its.toArray lo hi none=((its.drop<|HT.sIx its.length 0 lo).take<|HT.sIx its.length its.length hi-HT.sIx its.length 0 lo).toArray:=by obtain⟨c,b,a⟩:=lF lo hi its.toArray.size;unfold slicePick;rw[c,b,a];simp only[sliceRange_one,pick_run,MO] <;> rfl
def Hz (K:Qf):V->Option Int->Option Int->Hp->VK->Prop:=λx c d H Q=>∃a b,x = .ref a/\SqL K H a b/\∀p,H p=none->Q (.ref p) (upd H p<|.lst<|eF b c d)
def qU :SlR X (Hz X.K):=by intro π s n H x v t p e f u Q I g m j i h;obtain⟨a,c,rfl,l,q⟩:=h;cases g;obtain⟨its,r,ht,k⟩:=I.list l;have d:=r.length;refine#v["list",_,slot_list_getitem.lookup,ht.isList.typeIs,?_];refine wpAny_getItem_list_slice ht.isList m j i .none (by simp) ?_ (by rw[MO] <;> omega);rw[jd,<-d];refine#v[.ref s.heap.objs.size,_,I.laid (t':=s.toks) (o:=.lst<|eF c e f) (λb w q=>Mu _ q) (Mz _) ?_,rfl,q _<|I.hok.fresh<|Mz _];exact#v[MG (ff c e f) k,_,0,(r.drop<|HT.sIx c.length 0 e).take<|HT.sIx c.length c.length f-HT.sIx c.length 0 e,MM _ rfl]
def R9 :A1 X (.builtin "len") (λxs H Q=>∃p ys,xs=[.ref p]/\(SqL X.K H p ys\/SqT X.K H p ys)/\Q (.int ys.length) H):=by
 intro π s g H xs us Q I r h;obtain⟨p,ys,rfl,b,q⟩:=h;obtain⟨u,rfl,e⟩:=N5 r;cases e;have i:=cj;rcases b with b | b
 .obtain⟨its,c,d,f⟩:=I.list b;have a:=c.length;exact Calls.call_len_list d.isList (by simp only[MO] <;> omega) #v[.int ys.length,H,I.tok _,#v[s.toks+1,by rw[MO,a]],q]
 .obtain⟨its,c,d,f⟩:=I.tuple b;have a:=c.length;exact len_tuple d (by simp only[MO] <;> omega) #v[.int ys.length,H,I.tok _,#v[s.toks+1,by rw[MO,a]],q]
def kC :A1 X (.builtin "len") (λxs H Q=>∃z,xs=[.str z]/\z.length<=Tc/\Q (.int z.length) H):=by intro π s a H xs us Q I r h;obtain⟨z,rfl,b,q⟩:=h;obtain⟨u,rfl,t,rfl⟩:=N5 r;have c:=cj;exact len_str (by omega) #v[.int z.length,H,I.tok _,#v[_,rfl],q]
def dP :A1 X (.type "list") (λxs H Q=>∃p ys,xs=[.ref p]/\(SqL X.K H p ys\/SqT X.K H p ys)/\∀l,H l=none->Q (.ref l) (upd H l<|.lst ys)):=by
 intro π s w H xs us Q I r h;obtain⟨p,ys,rfl,g,q⟩:=h;obtain⟨u,rfl,x⟩:=N5 r;cases x;have fin:∀(its:List SN),m9 ys its->ys.length<=Tc->∀(a:Tb) (d:Nat),(∀b v,s.heap.get? b=some v->a.get? b=some v) ->
   a.get? s.heap.objs.size=some { cls:=.type "list",dict:=none,data:=.seq its.toArray d,slots:=#[] }->EP X π w Q (.ref s.heap.objs.size) { s with heap:=a }:=λits c f a d kp e =>
  #v[.ref s.heap.objs.size,_,I.laid (t':=s.toks) kp (Mz _) (show x5 X.prog X.w _ a _ (.lst ys) from#v[f,its,d,c,e]),rfl,q _<|I.hok.fresh<|Mz _]
 rcases g with g | g
 .obtain⟨its,c,j,f⟩:=I.list g;have i:=c.length;obtain⟨o,k,t,n,m⟩:=j.isList;exact call_list_seq p (.inl rfl) k t m (λa d kp e=>fin its c f a d kp e) (by simp only[MO] <;> omega)
 .obtain⟨its,c,j,f⟩:=I.tuple g;have i:=c.length;obtain⟨o,k,t,n,m⟩:=j;exact call_list_seq p (.inr rfl) k t m (λa d kp e=>fin its c f a d kp e) (by simp only[MO] <;> omega)
def je :A1 X (.type "tuple") (λxs H Q=>∃p ys,xs=[.ref p]/\((SqL X.K H p ys/\∀l,H l=none->Q (.ref l) (upd H l<|.tup ys))\/(SqT X.K H p ys/\Q (.ref p) H))):=by
 intro π s g H xs us Q I r h;obtain⟨p,ys,rfl,h⟩:=h;obtain⟨u,rfl,m⟩:=N5 r;cases m;rcases h with ⟨f,q⟩ | ⟨f,q⟩
 .obtain⟨its,c,d,i⟩:=I.list f;have j:=c.length;refine call_tuple_list d.isList (λa kp=>?_) (by simp only[MO] <;> omega);have k:Inv X π g H { s with heap:=a }:=I.kept (t':=s.toks) kp;have n:Inv X π g (upd H a.objs.size<|.tup ys) { s with heap:=a.push { cls:=.type "tuple",data:=.seq its.toArray } } :=
   k.laid (t':=s.toks) (λb o e=>Mu _ e) (Mz _) (show x5 X.prog X.w _ _ _ (.tup ys) from#v[i,its,c,Rz _ _])
  exact#v[.ref a.objs.size,_,n,rfl,q _<|k.hok.fresh<|Mz _]
 .obtain⟨its,c,d,i⟩:=I.tuple f;exact call_tuple_same d #v[.ref p,H,I,rfl,q]
def tyV (K:Qf)(T:String)(x:V)(H:Hp):Prop:=match x with
 | .str _=>T = "str"
 | .int _=>T = "int"
 | .ref p=>(T = "list" /\ ∃b,SqL K H p b)\/(T = "tuple" /\ ∃o,K.lookup p=some o/\o.cls = .type "tuple" /\ o.dict=none) \/
   (T = "dict" /\ ((∃a,H p=some (.dK a))\/∃a,H p=some (.dT a)))\/(T = "set" /\ ∃S n,H p=some (.set S n))
 | _=>False
def DD {σ:St}{H:Hp}{s:SR}{T:String}{x:V}{v:SN}(I:Inv X π σ H s)(r:s0 x v)(ty:tyV X.K T x H) :
  s.TypeIs v T/\∀a,v = .ref a->∃ob,s.heap.get? a=some ob/\ob.dict=none:=by
 cases x with
 | str z =>obtain⟨t,rfl⟩:=r;cases(show T = "str" from ty);exact#v[RG s z t,λ_ e=>nomatch e]
 | int i =>obtain⟨t,rfl⟩:=r;cases(show T = "int" from ty);exact#v[typeIs_int s i t,λ_ e=>nomatch e]
 | ref p =>
  cases r;rcases ty with ⟨rfl,m,k⟩ | ⟨rfl,o,b,l,g⟩ | ⟨rfl,b⟩ | ⟨rfl,S,n,b⟩
  .obtain⟨its,_,j,_⟩:=I.list k;refine#v[j.isList.typeIs,λa e=>?_];cases e;obtain⟨o,n,e,c,g,_⟩:=j;exact#v[o,e,g]
  .refine#v[#v[o,I.kIn p o b,l],λa e=>?_];cases e;exact#v[o,I.kIn _ o b,g]
  .have z:∃o,s.heap.get? p=some o/\o.ExactDict:=by
    rcases b with ⟨f,b⟩ | ⟨f,b⟩
    .obtain⟨_,_,_,_,o,_,_,e,d,_⟩:=I.hok p _ b;exact#v[o,e,d]
    .obtain⟨_,_,_,_,o,_,_,e,d,_⟩:=I.hok p _ b;exact#v[o,e,d]
   obtain⟨o,e,d⟩:=z;refine#v[#v[o,e,d.1],λa h=>?_];cases h;exact#v[o,e,d.2.1]
  .obtain⟨o,_,_,_,e,d,_⟩:=I.hok p _ b;refine#v[#v[o,e,d.1],λa h=>?_];cases h;exact#v[o,e,d.2.1]
 | _=>exact False.elim ty
def tBM (K:Qf)(T:String)(r:V->List V->Hp->VK->Prop)(to:TE)(t:TA):TE:=λa H Q=>to a H λx b=>tyV K T x b/\t a b λc d=>r x c d Q
variable {o e:Ta}{es:List Ta}{to:TE}{t:TA}{name:Str}{apos cpos:Pos}{T id:String}{r:V->List V->Hp->VK->Prop}
def Bx (pa:PlainAttrs T)(slot:Slot T name id)(hty:typeOf (.builtin id)=pure (.type "method_descriptor"))(hm:MtR X id r)(ho:PE X o to)(ha:PA X (e::es) t)
  (hbase:Tq o name X.env (eval o X.env)=eval o X.env:=by rfl)
  (hfew:((Ti cpos<|Td (e::es) X.env).all (λx=>!x.1)&&(Tz cpos<|TB [] X.env).all (λx=>x.1.isSome)
   && decide ((e::es).length+([]:List Tj).length+(if ([]:List Tj).isEmpty then 0 else 1)<30))=true:=by rfl)
  (hline:(apos.endLine == cpos.line)=true:=by rfl) (hs:Td (e::es) X.env=(false,eval e X.env)::Td es X.env:=by rfl) (hplain:(Ti cpos<|Td es X.env).any (·.1)=false:=by rfl) :
  PE X (.Call (.Attribute o name apos) (e::es) [] cpos) (tBM X.K T r to t):=by intro π s a H Q I h;refine wpAny_Call_method_late hbase hfew hline rfl (thn (ho π s a H _ I h) λv s1 #v[x,q,d,b,g,k]=>?_);obtain⟨m,l⟩:=DD d b g;refine#v[T,id,pa,slot,hty,m,l,?_];have c:=ha cpos π s1 a q _ d k;rw[hs]at c ⊢;refine Rg (by show(false||(Ti cpos<|Td es X.env).any (·.1))=false;rw[hplain] <;> rfl)<|Calls.evalArgs_plain ?_;exact thn c λus s2 #v[f,p,n,i,j]=>hm π s2 a p x f v us Q n b i j
end
end
variable {t':Nat}
section
def MtM (X:Cx)(id:String)(r:V->List V->Hp->VK->Prop):Prop :=
 ∀(π:List (SQ×Te)) (s:SR) (a:St) (H:Hp) (x:V) (b:List V) (v:SN) (us:List SN) (Q:VK),Inv X π a H s->s0 x v->m9 b us->r x b H Q ->
  Tn (model X.prog X.w) X.A (call (.builtin id) (v::us)) (EP X π a Q) X.xe s
theorem m9.one:∀{x:V} {us:List SN},m9 [x] us->∃u,us=[u]/\s0 x u
 | _,_,.cons r .nil=>#v[_,rfl,r]
def m9.reverse {xs:List V}{us:List SN}(h:m9 xs us):m9 xs.reverse us.reverse:=by
 induction h with
 | nil=>exact .nil
 | cons r t a=>rw[Qi,Qi];exact m9.append a<|.cons r .nil
theorem m9.rep {xs:List V}{us:List SN}(h:m9 xs us):∀k:Nat,m9 (List.replicate k xs).flatten (List.replicate k us).flatten
 | 0=>.nil
 | k+1=>by rw[OB,OB,OT,OT];exact m9.append h<|m9.rep h k
def dU (its:List SN):∀(k:Nat) (acc:List SN),
  List.foldl (λx1 x2=>x1++x2) acc.toArray (List.replicate k its.toArray)=(acc++(List.replicate k its).flatten).toArray
 | 0,acc=>by simp
 | k+1,acc=>by
  have e:acc.toArray++its.toArray=(acc++its).toArray:=by simp
  have a:(acc++its)++(List.replicate k its).flatten=acc++(List.replicate (k+1) its).flatten:=by rw[OB,OT,QY]
  rw[<-a,<-dU its k (acc++its),<-e,OB,RH]
section
variable {X:Cx}{σ:St}{H:Hp}{s:SR}{l b:SQ}{xs ys:List V}
def Inv.lset {its':List SN}{n:Nat}{f:Array SN->Array SN}(I:Inv X π σ H s)(hH:H l=some (.lst xs))
  (e:s.heap.get? l=some { cls:=.type "list",data:=.seq its.toArray n }) (hf:f its.toArray=its'.toArray) (hv:m9 ys its') (hz:ys.length<=Tc) :
  Inv X π σ (upd H l<|.lst ys) { s with heap:=s.heap.update l<|Te.mapSeq f,toks:=t' }:=by have q:=PySem.IsL.update e f;rw[hf]at q;refine I.write (x:=l) (e:=l) (by rw[hH];exact trivial) (.inl rfl) (λc u b a=>(Oq s.heap (Te.mapSeq f)<|Ow b).trans a) #v[_,q] ?_;exact#v[hz,its',_,hv,q]
def Inv.lnew (I:Inv X π σ H s)(hv:m9 ys its)(hz:ys.length<=Tc) :
  Inv X π σ (upd H s.heap.objs.size<|.lst ys) { s with heap:=s.heap.push { cls:=.type "list",data:=.seq its.toArray },toks:=t' } :=
 I.laid (λ_ _ q=>Mu _ q) (Mz _) #v[hz,its,0,hv,MM _ rfl]
def Inv.fresh (I:Inv X π σ H s):H s.heap.objs.size=none:=I.hok.fresh<|Mz _
def Inv.lstM (I:Inv X π σ H s)(hH:H l=some (.lst xs)):xs.length<=Tc/\∃(its:List SN) (n:Nat),m9 xs its/\xs.length=its.length/\s.heap.get? l=some { cls:=.type "list",data:=.seq its.toArray n }:=by obtain⟨z,its,n,r,e⟩:=I.hok l _ hH;exact#v[z,its,n,r,r.length,e]
def mQ {n:Nat}(h:n<=Tc):Builtin.List.listTooLong n=false:=by unfold Builtin.List.listTooLong;exact MX (by omega)
end
section
variable {X:Cx}
def kE :V->List V->Hp->VK->Prop:=λx b H Q=>∃l a y,x = .ref l/\b=[y]/\H l=some (.lst a)/\a.length<Tc/\Q .non (upd H l<|.lst<|a++[y])
def aU :MtM X "list.append" kE:=by intro π s f H x i v us Q I b c h;obtain⟨l,g,y,rfl,rfl,a,j,q⟩:=h;cases b;obtain⟨u,rfl,d⟩:=c.one;obtain⟨z,its,n,r,hl,e⟩:=I.lstM a;refine PZ F.slot_list_append #v[_,e,rfl] F.entry_list_append (F.args_list_append_2 _ _) (PySem.list_append l its.toArray n u (by rw[MO];omega)) #v[e,?_];refine#v[.non,_,I.lset (its':=its++[u]) a e (by simp) (r.append<|.cons d .nil) ?_,rfl,q];rw[Ni,Po];omega
def kP :V->List V->Hp->VK->Prop:=λx d H Q=>∃l b c a,x = .ref l/\d=[.ref b]/\H l=some (.lst c)/\H b=some (.lst a)/\c.length+a.length<=Tc/\Q .non (upd H l<|.lst<|c++a)
def ug :MtM X "list.extend" kP:=by
 intro π s w H x C v us Q I g i h;obtain⟨l,b,B,y,rfl,rfl,f,p,D,q⟩:=h;cases g;obtain⟨u,rfl,j⟩:=i.one;cases j;obtain⟨z,its,n,r,hl,e⟩:=I.lstM f;obtain⟨A,a,m,k,o,t⟩:=I.lstM p;have d:its.toArray.size+a.toArray.size<=Tc:=by rw[MO,MO];omega
 have c:¬(!its.toArray.isEmpty&&Builtin.List.listTooLong (its.toArray.size+a.toArray.size))=true:=by rw[mQ d,Bool.and_false];exact MV
 refine PZ F.slot_list_extend #v[_,e,rfl] F.entry_list_extend (F.args_list_extend_2 _ _)
  (AutoSeq1.list_extend_list_list_0 l its.toArray n b a.toArray m c (by rw[MO];omega)<|by omega) #v[e,t,?_]
 refine#v[.non,_,I.lset (its':=its++a) f e (by simp) (r.append k) ?_,rfl,q];rw[Ni];omega
def GS :R2:=λx y H Q=>∃l b c a,x = .ref l/\y = .ref b/\H l=some (.lst c)/\H b=some (.lst a)/\c.length+a.length<=Tc/\∀p,H p=none->Q (.ref p) (upd H p<|.lst<|c++a)
def xK :OpR X (binaryOp .Add) GS:=by
 intro π s o H x y v u Q I d c h;obtain⟨l,b,w,p,rfl,rfl,i,j,B,q⟩:=h;cases d;cases c;obtain⟨z,its,n,r,hl,e⟩:=I.lstM i;obtain⟨t,a,A,f,g,m⟩:=I.lstM j;refine PySem.P.add_list e m ?_ (by rw[MO,MO];omega);have k:its.toArray++a.toArray=(its++a).toArray:=by simp
 rw[k];exact#v[.ref _,_,I.lnew (t':=s.toks) (r.append f) (by rw[Ni];omega),rfl,q _ I.fresh]
def Hh :R2:=λx y H Q=>∃l k a,x = .ref l/\y = .int k/\H l=some (.lst a) /\ -(2 ^ 63)<=k/\k<2 ^ 63/\a.length*k.toNat<=Tc /\
 ∀p,H p=none->Q (.ref p) (upd H p<|.lst (List.replicate k.toNat a).flatten)
def jS {α:Type}(xs:List α)(k:Nat):(List.replicate k xs).flatten.length=k*xs.length:=by
 induction k with
 | zero=>simp
 | succ k a=>rw[OB,OT,Ni,a,Nat.succ_mul,Nat.add_comm]
def Cr :OpR X (binaryOp .Mult) Hh:=by
 intro π s G H x y v u Q I A w h;obtain⟨l,k,J,rfl,rfl,B,D,C,o,q⟩:=h;cases A;obtain⟨t,rfl⟩:=w;obtain⟨z,its,n,r,hl,e⟩:=I.lstM B;have d:its.toArray.size*k.toNat<=Tc:=by rw[MO,<-hl];exact o
 have g:¬its.toArray.size*k.toNat > (2 ^ 63-1) / 8:=by
  have:(Tc:Nat)<=(2 ^ 63-1) / 8:=by decide
  omega
 have f:¬(!Builtin.List.listFitsIndex k)=true:=by rw[fitsIndex_both D C];exact MV
 have b:¬Builtin.List.listTooLong (its.toArray.size*k.toNat)=true:=by rw[mQ d];exact MV
 have c:List.foldl (λj i=>j++i) #[] (List.replicate (if its.toArray.isEmpty=true then 0 else k.toNat) its.toArray)=(List.replicate k.toNat its).flatten.toArray:=by
  have E:∀m:Nat,List.foldl (λj i=>j++i) #[] (List.replicate m its.toArray)=(List.replicate m its).flatten.toArray:=λm=>by have:=dU its m [];rw[Nq]at this;exact this
  rw[E];cases its with
  | nil=>simp
  | cons a K=>rw[MC<|by simp]
 refine wpAny_binaryOp_repeat_ref (T:="list") (U:="int") (by decide) #v[_,e,rfl] (λp=>typeIs_int p k t) noFill_list_mul F.fills_int_mul RI repeat_list F.slot_int_index.lookup
  (PZ RI (typeIs_int s k t) F.entry_int_rmul (F.args_int_rmul_2 _ _) (int___rmul___int_list k t l its.toArray n)
   #v[e,rfl,#v[_,e,rfl],PZ F.slot_list_mul #v[_,e,rfl] F.entry_list_mul (F.args_list_mul_2 _ _) (AutoListH.list___mul___list_int_3 l its.toArray n k t f g b) #v[e,?_]])
 rw[c];exact#v[.ref _,_,I.lnew (t':=s.toks) (r.rep k.toNat) (by rw[jS,Sv];exact o),rfl,q _ I.fresh]
end
end
variable {o:Option V}{dz:List (List Key×V)}
section
section
variable {κ:Type}[DecidableEq κ]
def cw (dz:List (κ×V))(k:κ):Option V:=(dz.find? λa=>decide (a.1=k)).map (·.2)
def au (dz:List (κ×V))(k:κ)(v:V):List (κ×V) :=
 if (dz.any λa=>decide (a.1=k))=true then dz.map (λa=>if a.1=k then(a.1,v) else a) else dz++[(k,v)]
def hJ {p:κ×V}{r:List (κ×V)}{k:κ}(e:p.1=k):cw (p::r) k=some p.2:=by simp[cw,OR,e]
def iw {p:κ×V}{r:List (κ×V)}{k:κ}(e:¬p.1=k):cw (p::r) k=cw r k:=by simp[cw,OR,e]
theorem mO (k:κ):∀dz:List (κ×V),(dz.any λkv=>decide (kv.1=k))=(cw dz k).isSome
 | []=>rfl
 | p::r=>by
  rw[Ro];by_cases e:p.1=k
  .simp only[hJ e,MW e,Bool.true_or,Option.isSome_some]
  .rw[iw e,MX e,Bool.false_or];exact mO k r
def fy (dz:List (κ×V))(k:κ)(v:V):(au dz k v).length<=dz.length+1:=by
 unfold au;split
 .rw[Mv];omega
 .rw[Ni,ME,NP];omega
def dX.isSome_eq {u:Option SN}(r:dX o u):o.isSome=u.isSome:=by
 cases o with
 | none=>cases u with
  | none=>rfl
  | some _=>exact(show False from r).elim
 | some _=>cases u with
  | none=>exact(show False from r).elim
  | some _=>rfl
def dX.getD {u:Option SN}{d:V}{d':SN}(r:dX o u)(rd:s0 d d'):s0 (o.getD d) (u.getD d'):=by
 cases o with
 | none=>cases u with
  | none=>exact rd
  | some _=>exact(show False from r).elim
 | some _=>cases u with
  | none=>exact(show False from r).elim
  | some _=>exact r
def KV.val {dz:List (κ×V)}{vs:List (κ×SN)}(r:KV dz vs)(k:κ):dX (cw dz k) (valueAt vs k):=by
 unfold KV at r;induction r with
 | nil=>exact True.intro
 | @cons p q i a h t f =>
  obtain⟨d,g⟩:=h;by_cases e:p.1=k
  .have c:q.1=k:=d.symm.trans e;have b:valueAt (q::a) k=some q.2:=by simp[valueAt,OR,c]
   rw[hJ e,b];exact g
  .have c:¬q.1=k:=λz=>e<|d.trans z
   have b:valueAt (q::a) k=valueAt a k:=by simp[valueAt,OR,c]
   rw[iw e,b];exact f
def KV.any {dz:List (κ×V)}{vs:List (κ×SN)}(r:KV dz vs)(k:κ):(dz.any λkv=>decide (kv.1=k))=vs.any λkv=>decide (kv.1=k):=by
 unfold KV at r;induction r with
 | nil=>rfl
 | cons h t a=>rw[Ro,Ro,a,h.1]
def KV.repl {dz:List (κ×V)}{vs:List (κ×SN)}(r:KV dz vs)(k:κ){y:V}{u:SN}(ry:s0 y u) :
  KV (dz.map λkv=>if kv.1=k then(kv.1,y) else kv) (vs.map λkv=>if kv.1=k then(kv.1,u) else kv):=by
 unfold KV at r ⊢;induction r with
 | nil=>exact .nil
 | @cons p q f d h t b =>
  rw[MB,MB];refine .cons ?_ b;obtain⟨a,c⟩:=h;by_cases e:p.1=k
  .rw[Mx e,Mx<|a.symm.trans e];exact#v[a,ry]
  .rw[MC e,MC<|λz=>e<|a.trans z];exact#v[a,c]
def KV.put {dz:List (κ×V)}{vs:List (κ×SN)}(r:KV dz vs)(k:κ){y:V}{u:SN}(ry:s0 y u):KV (au dz k y) (stored vs k u):=by
 unfold au stored;rw[r.any k];by_cases e:(vs.any λa=>decide (a.1=k))=true
 .rw[Mx e,Mx e];exact r.repl k ry
 .rw[MC e,MC e];exact Paired.snoc r #v[rfl,ry]
def KV.length {dz:List (κ×V)}{vs:List (κ×SN)}(r:KV dz vs):dz.length=vs.length:=PR r
end
def vK {P:SS}{w:SU}{k:Key}{u:SN}(r:s0 (kV k) u):(v4 P w).is k u=true:=by
 cases k with
 | inl i=>obtain⟨t,e⟩:=(show ∃t,u=SN.int i t from r);subst e;exact nG P w i t
 | inr x=>obtain⟨t,e⟩:=(show ∃t,u=SN.str x t from r);subst e;exact mj P w x t
theorem jx {P:SS}{w:SU}:∀{ks:List Key} {us:List SN},m9 (ks.map kV) us->ItemsAre (v4 P w) ks us
 | [],_,r=>by rw[NG]at r;cases r;exact .nil
 | k::ks,_,r=>by
  rw[MB]at r;cases r with
  | cons h t=>exact .cons (vK h)<|jx t
abbrev KT (H:Hp):List (List Key×V)->List (List Key×SQ×SN)->Prop:=Paired λp q=>p.1=q.1/\H q.2.1=some (.tup<|p.1.map kV)/\s0 p.2 q.2.2
def KT.val {H:Hp}{xs:List (List Key×SQ×SN)}(r:KT H dz xs)(k:List Key):dX (cw dz k) ((atKey xs k).map (·.2)):=by
 induction r with
 | nil=>exact True.intro
 | @cons p q i a h t f =>
  obtain⟨d,_,g⟩:=h;by_cases e:p.1=k
  .have c:q.1=k:=d.symm.trans e;have b:atKey (q::a) k=some q.2:=by simp[atKey,OR,c]
   rw[hJ e,b];exact g
  .have c:¬q.1=k:=λz=>e<|d.trans z
   have b:atKey (q::a) k=atKey a k:=by simp[atKey,OR,c]
   rw[iw e,b];exact f
def KT.repl {H:Hp}{xs:List (List Key×SQ×SN)}(r:KT H dz xs)(k:List Key){y:V}{u:SN}(ry:s0 y u) :
  KT H (dz.map λkv=>if kv.1=k then(kv.1,y) else kv) (xs.map<|putAt k u):=by
 induction r with
 | nil=>exact .nil
 | @cons p q g f h t c =>
  rw[MB,MB];refine .cons ?_ c;obtain⟨a,b,d⟩:=h;unfold putAt;by_cases e:p.1=k
  .rw[Mx e,Mx<|a.symm.trans e];exact#v[a,b,ry]
  .rw[MC e,MC<|λz=>e<|a.trans z];exact#v[a,b,d]
def KT.put {H:Hp}{xs:List (List Key×SQ×SN)}(r:KT H dz xs)(k:List Key){b:SQ}{y:V}{u:SN}(hb:H b=some (.tup<|k.map kV))(ry:s0 y u) :
  KT H (au dz k y) (storedH xs k b u):=by
 have e:(dz.any λa=>decide (a.1=k))=(atKey xs k).isSome:=by rw[mO,(r.val k).isSome_eq,Pw]
 unfold au storedH;rw[e];by_cases q:(atKey xs k).isSome=true
 .rw[Mx q,Mx q];exact r.repl k ry
 .rw[MC q,MC q];exact Paired.snoc r #v[rfl,hb,ry]
def KT.keeps {H H':Hp}{xs:List (List Key×SQ×SN)}(r:KT H dz xs)(ht:∀b ys,H b=some (.tup ys)->H' b=some (.tup ys)):KT H' dz xs :=
 Paired.mapP r λ_ _ z=>#v[z.1,ht _ _ z.2.1,z.2.2]
section
variable {P:SS}{w:SU}{H:Hp}{h:Tb}{a:SQ}
def Cb {u:HO}(ok:HOk P w H h)(e:Rd H a u):x5 P w H h a u:=e.ok ok
def Gc {dz:List (Key×V)}(ok:HOk P w H h)(e:Rd H a (.dK dz)):dz.length<=Tc/\(a == sysModules)=false/\∃vs,KV dz vs/\h.DictOf (v4 P w) a vs :=
 show x5 P w H h a (.dK dz) from Cb ok e
def Bi {dz:List (Key×V)}(ok:HOk P w H h)(e:H a=some (.dK dz)):dz.length<=Tc/\(a == sysModules)=false/\∃vs,KV dz vs/\h.DictOf (v4 P w) a vs:=Gc ok<|.inl e
def xR {ks:List Key}(ok:HOk P w H h)(e:H a=some (.tup<|ks.map kV)):(tupleKind<|v4 P w).is h ks a:=by obtain⟨_,its,r,o,d,c,n,b⟩:=(show x5 P w H h a (.tup<|ks.map kV) from ok a _ e);exact#v[o,its.toArray,n,d,c,b,by simpa using jx r]
def Gm (ok:HOk P w H h)(e:Rd H a (.dT dz)):dz.length<=Tc/\(a == sysModules)=false /\
  ∃xs,KT H dz xs/\h.DictOfH (tupleKind<|v4 P w) a xs:=by
 obtain⟨z,y,xs,r,o,n,s,k,j,i,g,f⟩:=(show x5 P w H h a (.dT dz) from Cb ok e);refine#v[z,y,xs,r,o,n,s,k,j,i,g,λx b=>?_,f];have all:∀{l:List (List Key×V)} {m:List (List Key×SQ×SN)},KT H l m->∀x∈m,(tupleKind<|v4 P w).is h x.1 x.2.1:=by
  intro l m q;induction q with
  | nil=>intro x b;exact nomatch b
  | @cons p q v u c t d =>
   intro x b;rcases MJ.1 b with e | b
   .subst e;exact xR ok (by rw[<-c.1];exact c.2.1)
   .exact d x b
 exact all r x b
def FL (ok:HOk P w H h)(e:H a=some (.dT dz)):dz.length<=Tc/\(a == sysModules)=false /\
  ∃xs,KT H dz xs/\h.DictOfH (tupleKind<|v4 P w) a xs:=Gm ok<|.inl e
end
def AY (H:Hp)(a:SQ)(y v:V)(H':Hp):Prop :=
 (∃dz k,H a=some (.dK dz)/\y=kV k/\dz.length<Tc/\H'=upd H a (.dK<|au dz k v)) \/
 ∃dz k b,H a=some (.dT dz)/\y = .ref b/\H b=some (.tup<|k.map kV)/\dz.length<Tc/\H'=upd H a (.dT<|au dz k v)
def AY.k {H:Hp}{a:SQ}{dz:List (Key×V)}{k:Key}{v:V}(e:H a=some (.dK dz))(hl:dz.length<Tc):AY H a (kV k) v (upd H a<|.dK<|au dz k v):=.inl #v[dz,k,e,rfl,hl,rfl]
section
variable {X:Cx}{σ:St}{H:Hp}{s:SR}{a:SQ}{y v:V}{u r:SN}{A:SW}{E:SN->SR->Prop}
def Inv.big (I:Inv X π σ H s):sysModules<s.heap.objs.size:=by have h:To<s.heap.objs.size:=(I.mod.glob.keeps I.bk).lt;exact Sw (by decide) h
def cS {h':Tb}{ob:HO}(I:Inv X π σ H s)(mu:Mut (H a))(hs:Tb.SameBut a s.heap h')(he:∃q,h'.get? a=some q)(new:x5 X.prog X.w (upd H a ob) h' a ob) :
  Inv X π σ (upd H a ob) { s with heap:=h',toks:=t' } :=
 I.write (x:=a) (e:=a) mu (.inl rfl) (λb q c z=>(hs.2 b c).trans z) he new
def Cz {P:SS}{w:SU}{H':Hp}{h':Tb}{dz:List (Key×V)}{vs:List (Key×SN)}(z:dz.length<=Tc)(hd:(a == sysModules)=false)(rel:KV dz vs)(dd:h'.DictOf (v4 P w) a vs) :
  x5 P w H' h' a (.dK dz):=#v[z,hd,vs,rel,dd]
def tQ {H':Hp}{Q:Unit->SR->Prop}(hu:A.units+1<Tv)(I:Inv X π σ H s)(g:AY H a y v H')(ry:s0 y u)(rv:s0 v r)(h:∀s',Inv X π σ H' s'->Q () s') :
  Tn (model X.prog X.w) A (setItem (.ref a) u r) Q E s:=by
 rcases g with ⟨dz,k,e,o,l,p⟩ | ⟨dz,k,b,e,o,x,l,p⟩
 .subst o p;obtain⟨z,n,C,d,dd⟩:=Bi I.hok e;have j:C.length<=Tc:=by rw[<-d.length];exact z
  have hl:(au dz k v).length<=Tc:=by have:=fy dz k v;omega
  refine wpAny_setItem_pairs (hsz:=j) (vK ry) dd λt f m=>h _ ?_
  have D:∃q,t.get? a=some q:=let #v[q,_,_,i,_]:=f;#v[q,i];exact cS I (by rw[e];exact True.intro) m D<|Cz hl n (d.put k rv) f
 .subst o p;cases(show u=SN.ref b from ry);obtain⟨z,n,B,d,dd⟩:=FL I.hok e;have j:B.length<=Tc:=by rw[<-PR d];exact z
  have hl:(au dz k v).length<=Tc:=by have:=fy dz k v;omega
  refine wpAny_setItem_heap (hsz:=j) (tupleKind_room_in1 hu) (xR I.hok x) dd λt f m=>h _ ?_
  obtain⟨q,L,M,i,K,J,G,_,F⟩:=f;refine cS I (by rw[e];exact True.intro) m #v[q,i] #v[hl,n,_,(d.put k x rv).keeps λc N w=>?_,q,L,M,i,K,J,G,F];rw[i8<|Gp w e<|λz=>nomatch z];exact w
end
def EA (i:Ta):Prop:=∀a b,subscripted i false a b=operate [a,b] (getItem a b)
def zt {prog:SS}{w:SU}{A:SW}{E:SN->SR->Prop}{s:SR}{env:Tf}{value slice:Ta}{T id:String}{Q:SN->SR->Prop}
  (hl:typeLookup (.type T) "__getitem__" = pure (some<|.builtin id)) (hs:EA slice)
  (h:Tn (model prog w) A (eval value env) (λo s₁=>Tn (model prog w) A (eval slice env) (λi s₂=>s₂.TypeIs o T/\Tn (model prog w) A (getItem o i) Q E s₂) E s₁) E s) :
  Tn (model prog w) A (eval (.Subscript value slice pos) env) Q E s:=by
 refine Subscript_ (MY h (λo s₁ d=>MY d (λi s₂ a=>?_) λ_ _ x=>x) λ_ _ x=>x);obtain⟨e,a⟩:=a;unfold subscriptTail;refine Ms ?_;rw[getitemInPython_of_ne e.not_modules];refine Ms<|Qa e hl ?_;have fin:Tn (model prog w) A (subscripted slice false o i) (λr b=>Tn (model prog w) A (letTemporaryGo value o r >>= λ_=>pure r) Q E b) E s₂:=by rw[hs o i];exact wpAny_operating (MY a (λr b c=>Ms<|wpAny_letTemporaryGo<|Mt c) λ_ _ x=>x)
 first
  | exact Mt<|Ms fin
  | exact Ms<|Mt<|Ms fin
  | exact Ms fin
def wV {P:SS}{w:SU}{H:Hp}(h:Tb)(hb:sysModules<h.objs.size):x5 P w H (h.push { cls:=.type "dict",data:=.dict #[] }) h.objs.size (.dK []) :=
 #v[Nv _,Ou.2<|Ow<|MR hb,[],.nil,Tb.DictOf.new h]
def Df :TE:=λ_ H Q=>∀p,H p=none->Q (.ref p) (upd H p<|.dK [])
section
variable {X:Cx}
def vt :PE X (.Dict [] [] pos) Df:=λπ s b H Q I h =>
 wpAny_Dict_empty #v[.ref s.heap.objs.size,_,I.laid (a:=s.heap.objs.size) (o:=.dK []) (t':=s.toks) (λ_ _ q=>Mu _ q) (Mz _)<|wV s.heap I.big,rfl,h _<|I.hok.fresh<|Mz _]
end
structure M2 (X:Cx) (o:Ta) (m:Str) (apos:Pos) (e f:Ta) (cpos:Pos):Prop where
 base:Tq o m X.env (eval o X.env)=eval o X.env
 few:((Ti cpos<|Td [e,f] X.env).all (λx=>!x.1)&&(Tz cpos<|TB [] X.env).all (λx=>x.1.isSome)
  && decide (([e,f]:List Ta).length+([]:List Tj).length+(if ([]:List Tj).isEmpty then 0 else 1)<30))=true
 line:(apos.endLine == cpos.line)=true
 trees:Ti cpos (Td [e,f] X.env)=[(false,eval e X.env),(false,eval f X.env)]
end
end L2
namespace Att
open PySem PySem.W PySem.Calls PyProof.Rows
def fF {P:Params}{h:Tb}:∀(ns:List Int) (vs:List SN),WellAll P h vs (ns.map WData.int)->IntsAre vs ns:=by
 intro ns;induction ns with
 | nil =>intro vs w;rw[NG]at w;cases w;exact .nil
 | cons n ns c =>
  intro vs w;rw[MB]at w;cases w with
  | cons a b =>cases a;exact .cons _ _<|c _ b
def ue {l:OpenLaw}{n:Nat}(hn:l.most=some n){P:Params}{h:Tb}{args:List WData}{vals:List SN}
  (hpre:l.row.toRowW.claim.pre args=true) (hwl:WellAll P h vals args) :
  ∃a vs ns,vals=[SN.ref a]/\args=[WData.list<|ns.map WData.int]/\h.get? a=some { cls:=.type "list",data:=.seq vs.toArray }/\IntsAre vs ns/\ns.length<=n:=by
 have g:WShape.hasAll [] args [.list .int]=true:=(pre_splitW hpre).1;have i:l.pre.holds [] { args:=args }=true:=(pre_splitW hpre).2;obtain⟨d,r,rfl,t,s⟩:=hasAllW_cons g;obtain rfl:=hasAllW_nil s;obtain⟨u,rfl,p⟩:=hasW_list t;obtain⟨ns,rfl⟩:=items_int p;have b:ns.length<=n:=by
  unfold OpenLaw.pre at i;have f:(WTm.not<|.lt (.lit<|.int (n:Int))<|.len<|.arg 0).holds [] { args:=[.list<|ns.map .int] }=true:=by have f:=(holds_andW i).1;rw[hn]at f;exact f
  have e:=condW_of f<|w_not<|w_lt w_lit<|w_len_list<|w_arg rfl;rw[Mv]at e;refine Nat.le_of_not_lt λq=>?_
  have m:(n:Int)<((ns.length:Nat):Int):=by omega
  first
   | (rw[MW m]at e;exact absurd e<|by decide)
   | (simp at e;omega)
 cases hwl with
 | cons k j =>
  cases j;cases k with
  | list o c=>exact#v[_,_,ns,rfl,rfl,o,fF ns _ c,b]
def uH (l:OpenLaw)(args:List WData):l.row.toRowW.claim.post args (.bool true) args=true :=
 postW_of (r:=l.row.toRowW) (X:=(true == true))
  (show WShape.has [] (.bool true) .bool=true by first | rfl | decide | simp[WShape.has,WShape.arms,WShape.armsAll])
  (show(WTm.eq .res<|.lit<|.bool true).value [] { args:=args,res:=some<|.bool true,after:=args }=some (.bool<|true == true) from w_eq_bool (w_res rfl) w_lit) rfl
def attach_call {l:OpenLaw}{n:Nat}{q:SS}{loose:List Str}{XP:(Str->Option SN)->Tb->Prop}{YP:SU->Tb->Prop}{d:DefRec}
  (hn:l.most=some n) (hdf:d.params.defaults=[])
  (call:∀(w:SU) (s₀ s₁:SR) (mg mb:Str->Option SN) (fa:SQ) (o:Te) (pm cd doc:SN) (a:SQ) (vs:List SN) (ns:List Int),
   Ground q loose [] XP w s₀ mg mb s₁.heap->YP w s₁.heap ->
   s₁.heap.get? fa=some o->o.data = .func (docDef d.name d.params d.body d.scope pm cd doc)->s₁.heap.CodeRec cd d.name->mg d.name=some (.ref fa) ->
   s₁.heap.get? a=some { cls:=.type "list",data:=.seq vs.toArray }->IntsAre vs ns->ns.length<=n->s₁.gens = #[] ->
   codeAny (model l.prog w) callerA (.call (.ref fa) #v[[.ref a],[]]) (λr s'=>r = .ok (.ret<|.bool true)/\OldK s₁.heap s'.heap/\s'.os=s₁.os/\AllBare s'.gens) s₁) :
  WalkO q loose XP YP l.row.toRowW d [] (λf vs=>PySem.call f vs):=by intro w s₀ s₁ mg mb G Y fa o pm cd doc D kV v z j p i hg s k as c m t h y;obtain rfl:D = .none:=Dflts.none p hdf;obtain rfl:kV = .none:=Dflts.noKw p;obtain⟨a,vs,ns,rfl,rfl,e,b,g⟩:=ue hn c h;refine enter_call (RD (call w s₀ s₁ mg mb fa o pm cd doc a vs ns G Y v (fd_plain z) j i e b g hg) λr s' u=>?_);obtain⟨rfl,C,B,A⟩:=u;exact#v[.inl #v[.bool true,.bool true,[],rfl,λ_=>rfl,.bool true,uH l _,λ_=>#v[List.Pairwise.nil,λ_ x=>(nomatch x)]],C,B,A]
end Att
namespace L2
open PySem PySem.Spec PyProof.Rows
section
theorem jJ:∀{vs:List SN} {ns:List Int},IntsAre vs ns->m9 (ns.map V.int) vs
 | _,_,.nil=>.nil
 | _,_,.cons n t h=>.cons #v[t,rfl]<|jJ h
end
end L2
namespace L2
open PySem PySem.Spec PyProof.Rows
def defArgs (s:SZ):Arguments:=match s with
 | .FunctionDef _ a _ _ _ _ _ _ _ _=>a
 | _=>{ posonlyargs:=[],args:=[],vararg:=none,kwonlyargs:=[],kw_defaults:=[],kwarg:=none,defaults:=[] }
def defBody (s:SZ):List SZ:=match s with
 | .FunctionDef _ _ b _ _ _ _ _ _ _=>b
 | _=>[]
def defScope (s:SZ):SX:=match s with
 | .FunctionDef _ _ _ _ _ _ sc _ _ _=>sc
 | _=>{ kind:=.function,names:=[],isGenerator:=false,isCoroutine:=false }
abbrev CX0:CXT:=λ_ _ _ _ _ _=>False
abbrev E0:XK:=λ_ _ _=>False
def Ft {X:Cx}:qr CX0 X E0:=λ_ _ _ _ _ _ _ h=>h.elim
structure Fun (K:Qf) (x qual:Str) (st:SZ) (f:SQ) (fd:SY):Prop where
 ex:∃(oc:SN) (od:Option SQ) (kV doc pm:SN) (an:Option SQ) (dr ct:SN) (osl:Array (Option SN)),
  fd=PySem.W.fnOf x qual (defArgs st) (defBody st) (defScope st) .none kV doc pm an dr ct/\K.lookup f=some #v[oc,od,.func fd,osl]/\PySem.W.codeIn K dr qual=true
 kp:PySem.W.keepIn K (.ref f)=true
section
variable {P:SS}{w:SU}{K:Qf}{mg:Str->Option SN}{base:Tb}
def Fun.ok {x qual:Str}{st:SZ}{f:SQ}{fd:SY}{N ps:List Str}{k:Nat}{sp:Sp}(F:Fun K x qual st f fd)(S:FnScope N ps (defScope st))(len:∀vs H Q E,sp vs H Q E->vs.length=ps.length)
  (hbody:∀(dr:SN) (A:SW) (outer:List Tf) (s:SR) (H:Hp) (vs:List V) (Q:VK) (E:XK),Room k (A.deeper<|envOfC qual (defScope st) s.heap.objs.size f dr)->sp vs H Q E ->
   ∃t,PSs (K8 CX0 P w K mg base N qual (defScope st) f dr A outer s H E).nox (defBody st) t/\t { nx:=λ_ H'=>Q .non H',rt:=Q } (V9 N vs) H):FnOk P w K mg base CX0 (k+1) f fd ps sp:=by
 obtain⟨j,i,kV,e,g,l,dr,ct,c,rfl,lk,b⟩:=F.ex;refine Cg lk b S len λA outer s H vs Q E d a=>?_
 obtain⟨t,h,q⟩:=hbody dr A outer s H vs Q E d a;exact#v[t,h.nox,q]
def Fun.binds {x qual:Str}{st:SZ}{f:SQ}{fd:SY}{ps:List Str}(F:Fun K x qual st f fd)
  (h:∀(kV doc pm:SN) (an:Option SQ) (dr ct:SN) (us:List SN),us.length=ps.length->bindArgs (PySem.W.fnOf x qual (defArgs st) (defBody st) (defScope st) .none kV doc pm an dr ct) #v[us,[]]=pure (ps.zip us)):bD K fd ps []:=by obtain⟨d,c,kV,doc,pm,an,dr,ct,a,rfl,lk,b⟩:=F.ex;exact .all<|h kV doc pm an dr ct
def fun_mk {x qual:Str}{st:SZ}{f:SQ}{oc:SN}{od an:Option SQ}{osl:Array (Option SN)}{kV doc pm dr ct:SN}(l:K.lookup f=some #v[oc,od,.func<|PySem.W.fnOf x qual (defArgs st) (defBody st) (defScope st) .none kV doc pm an dr ct,osl])
  (c:PySem.W.codeIn K dr qual=true) (k:PySem.W.keepIn K (.ref f)=true):Fun K x qual st f (PySem.W.fnOf x qual (defArgs st) (defBody st) (defScope st) .none kV doc pm an dr ct):=#v[#v[oc,od,kV,doc,pm,an,dr,ct,osl,rfl,l,c],k]
end
def tV {n:Nat}(h:n<=1000):n<Tc:=MT h (by decide)
section
variable {X:Cx}
def pv (i:Nat){x:Str}{pos:Pos}(hN:X.N[i]? = some x:=by rfl)(hv:Vis X.env.scope x:=by first | exact Or.inl rfl | exact Or.inr (Or.inl rfl) | exact Or.inr<|Or.inr rfl)(hd:nDb x:=by decide)
  (hcd:nCd x:=by decide):PE X (.Name x pos) (Q2 i):=D5 hN hv hd hcd
end
def FE {A B:Prop}(h:B):if false=true then A else B:=by rw[MC MV];exact h
def ub {c A B:Prop}[Decidable c](h1:c->A)(h2:¬c->B):if c then A else B:=by
 by_cases h:c
 .rw[Mx h];exact h1 h
 .rw[MC h];exact h2 h
def j5 (H H':Hp):Prop:=∀b o,H b=some o->H' b=some o
def j5.refl (H:Hp):j5 H H:=λ_ _ h=>h
end L2
set_option maxHeartbeats 4000000
namespace L2
open PySem PySem.Spec PyProof.Rows
variable {scope:SX}{env:Tf}{elt iter:Ta}{pos:Pos}{ifs:List Ta}
section
def J7 (f:Str->SQ):List (Str×Tx)->List (Str×SQ)->List (Str×SQ)
 | [],acc=>acc
 | (n,kd)::r,acc=>J7 f r (if (kd == Tx.free)=true then(n,f n)::acc else acc)
def O0 {f:Str->SQ}(h:∀y∈scope.names,y.2 = .free->cellOf env y.1=pure (f y.1)) :
  closureFor scope env=pure (J7 f scope.names []):=by
 have d:∀(l:List (Str×Tx)) (a:List (Str×SQ)),(∀y∈l,y.2 = .free->cellOf env y.1=pure (f y.1)) ->
   (forIn l a (λ(x:Str×Tx) (o:List (Str×SQ))=>if (x.2 == Tx.free)=true then(do let c <-cellOf env x.1;pure (ForInStep.yield ((x.1,c)::o))) else pure (ForInStep.yield o)):Sem (List<|Str×SQ))=pure (J7 f l a):=by
  intro l;induction l with
  | nil=>intro a _;rfl
  | cons y r k =>
   intro a j;obtain⟨n,g⟩:=y;rw[SL];by_cases b:(g == Tx.free)=true
   .have e:g = .free:=by simpa using b
    have m:=j (n,g) MD e;simp only[b,Of];dsimp only at m;rw[m];show(forIn r ((n,f n)::a) _:Sem _)=_;rw[k _ λz i=>j z<|Mw _ i];simp only[J7,b,Of]
   .simp only[b,NJ];show(forIn r a _:Sem _)=_;rw[k _ λz i=>j z<|Mw _ i];simp only[J7,b,NJ];rfl
 have:=d scope.names [] h;unfold closureFor;show(forIn scope.names [] _ >>= λr=>pure r)=_;rw[show(forIn scope.names ([]:List (Str×SQ)) _:Sem _)=_ from this];rfl
theorem Q9 {f:Str->SQ}:∀(l:List (Str×Tx)) (acc:List (Str×SQ)) {x:Str} {c:SQ},(J7 f l acc).lookup x=some c->((x,Tx.free)∈l/\c=f x)\/acc.lookup x=some c
 | [],_,_,_,h=>.inr h
 | (n,kd)::r,acc,x,c,h=>by
  rw[J7]at h;rcases Q9 r _ h with ⟨a,i⟩ | a
  .exact .inl #v[Mw _ a,i]
  .by_cases b:(kd == Tx.free)=true
   .rw[Mx b]at a;have e:kd = .free:=by simpa using b
    subst e;by_cases d:x=n
    .subst d;simp at a;exact .inl #v[MD,a.symm]
    .have g:(x == n)=false:=Ou.2 d;rw[Nz,g]at a;exact .inr a
   .rw[MC b]at a;exact .inr a
theorem aX {f:Str->SQ}:∀(l:List (Str×Tx)) (acc:List (Str×SQ)) {x:Str},((x,Tx.free)∈l\/acc.lookup x=some (f x))->(J7 f l acc).lookup x=some (f x)
 | [],_,_,h=>by
  rcases h with h | h
  .exact absurd h (by simp)
  .exact h
 | (n,kd)::r,acc,x,h=>by
  rw[J7];refine aX r _ ?_;by_cases a:(kd == Tx.free)=true
  .rw[Mx a];have e:kd = .free:=by simpa using a
   subst e;by_cases b:x=n
   .subst b;exact .inr (by simp)
   .have c:(x == n)=false:=Ou.2 b;rcases h with h | h
    .rcases MJ.1 h with z | z
     .cases z;exact absurd rfl b
     .exact .inl z
    .exact .inr (by rw[Nz,c];exact h)
  .rw[MC a];rcases h with h | h
   .rcases MJ.1 h with z | z
    .cases z;exact absurd rfl a
    .exact .inl z
   .exact .inr h
def nt {x:Str}(h:(relabel scope env).names.lookup x=some .cell\/(relabel scope env).names.lookup x=some .free):(x,Tx.free)∈scope.names\/(x,Tx.cell)∈scope.names:=by
 have g:∀a,(relabel scope env).names.lookup x=some a->a = .cell\/a = .free->(x,Tx.free)∈scope.names\/(x,Tx.cell)∈scope.names:=by
  intro a h i;have f:=NK h;unfold relabel at f;obtain⟨⟨n,d⟩,c,e⟩:=Nb.1 f;by_cases b:(d == Tx.free&&env.scope.kind == .function&&env.kindOf n == some .cell)=true
  .simp only[b,Of]at e;cases e;have:d = .free:=by simp only[Ny]at b;simpa using b.1.1
   subst this;exact .inl c
  .simp only[b,NJ]at e;cases e;rcases i with r | r
   .subst r;exact .inr c
   .subst r;exact .inl c
 rcases h with h | h
 .exact g _ h<|.inl rfl
 .exact g _ h<|.inr rfl
def N7 (scope:SX)(cl:List (Str×SQ))(n:Nat):List (Str×SQ):=cellsFrom (n+1) scope.names cl
theorem L5:∀(names:List (Str×Tx)) (n:Nat) (acc:List (Str×SQ)),cellsFrom n names acc=cellsFrom n names []++acc
 | [],_,_=>rfl
 | (x,k)::r,n,acc=>by
  unfold cellsFrom;split
  .rw[L5 r (n+1) ((x,n)::acc),L5 r (n+1) [(x,n)],QY];rfl
  .exact L5 r n acc
theorem bf:∀(names:List (Str×Tx)) (n:Nat) {x:Str} {c:SQ},(x,c)∈cellsFrom n names []->(x,Tx.cell)∈names
 | [],_,_,_,h=>by cases h
 | (y,k)::r,n,x,c,h=>by
  unfold cellsFrom at h;split at h
  .rename_i a;rw[L5]at h;rcases NM.1 h with h | h
   .exact Mw _<|bf r (n+1) h
   .have a:k = .cell:=by simpa using a
    subst a;cases Nc.1 h;exact MD
  .exact Mw _<|bf r n h
theorem yq {α:Type}:∀{l r:List (Str × α)} {x:Str} {c:α},(l++r).lookup x=some c->l.lookup x=some c\/(l.lookup x=none/\r.lookup x=some c)
 | [],r,x,c,h=>.inr #v[rfl,h]
 | (y,v)::l,r,x,c,h=>by
  rw[Nf,Nz]at h;rw[Nz];cases hb:x == y with
  | true=>rw[hb]at h;exact .inl h
  | false=>rw[hb]at h;exact yq h
theorem lO {α:Type}:∀{l r:List (Str × α)} {x:Str},l.lookup x=none->(l++r).lookup x=r.lookup x
 | [],r,x,h=>rfl
 | (y,v)::l,r,x,h=>by
  rw[Nz]at h;rw[Nf,Nz];cases hb:x == y with
  | true=>rw[hb]at h;cases h
  | false=>rw[hb]at h;exact lO h
theorem kM {α:Type}:∀{l r:List (Str × α)} {x:Str} {c:α},l.lookup x=some c->(l++r).lookup x=some c
 | [],r,x,c,h=>by cases h
 | (y,v)::l,r,x,c,h=>by
  rw[Nz]at h;rw[Nf,Nz];cases hb:x == y with
  | true=>rw[hb]at h;exact h
  | false=>rw[hb]at h;exact kM h
def pX {M:Model}{A:SW}{E:SN->SR->Prop}{s:SR}{globals:SQ}{closure:List (Str×SQ)}{qual:Str}{func:Option SQ}{code:SN}{builtins:SQ}{Q:Tf->SR->Prop}
  (hQ:∀h₁:Tb,h₁.Ns s.heap.objs.size (λ_=>none)->(∀b o,s.heap.get? b=some o->h₁.get? b=some o)->CellsOk h₁ (s.heap.objs.size+1) (cellsFrom (s.heap.objs.size+1) scope.names []) ->
   Q (newEnv scope s.heap.objs.size globals (cellsFrom (s.heap.objs.size+1) scope.names closure) qual func code (some env) builtins) { s with heap:=h₁ }) :
  Tn M A (newFunctionEnv scope globals closure [] qual func code (some env) builtins) Q E s:=by simp only[newFunctionEnv,Option.isSome_some,Of];refine Ms<|wpAny_alloc ?_;refine Ms (wpAny_layCells _ (λd a c=>by cases hkc:a == Tx.cell <;> simp[hkc]) _ _ _ _ ?_);have ok:=cellsFrom_ok scope.names (s.heap.push { cls:=.type "dict",data:=.dict #[] }) (s.heap.objs.size+1) [] #v[λ_ _ f=>(nomatch f),List.Pairwise.nil] (by rw[NB];exact Mz _);rw[NB]at ok;rw[show({ s with heap:=s.heap.push { cls:=.type "dict",data:=.dict #[] } }:SR).heap.objs.size=s.heap.objs.size+1 from NB ..];rw[List.forIn_nil];refine Ms<|Mt<|Mt ?_;exact hQ _ ((Tb.Ns.new s.heap<|.type "dict").keeps<|pushCells_keeps _ _) (λb o e=>pushCells_keeps _ _ b o<|Mu _ e) ok
theorem bL {φ:Str×Tx->Str×Tx}(hφ:∀n k,φ (n,k)=(n,k)\/(k = .free /\ φ (n,k)=(n,.cell))):∀{names:List (Str×Tx)} {x:Str},names.lookup x=some .free->(names.map φ).lookup x=some .cell\/(names.map φ).lookup x=some .free
 | [],_,h=>by simp at h
 | (n,k)::r,x,h=>by
  have a:=@bL φ hφ r x;rw[MB];cases hx:x == n with
  | true =>
   simp only[Nz,hx]at h;cases h;rcases hφ n .free with e | ⟨_,e⟩
   .rw[e,Nz,hx];exact .inr rfl
   .rw[e,Nz,hx];exact .inl rfl
  | false =>
   simp only[Nz,hx]at h;rcases hφ n k with e | ⟨_,e⟩
   .rw[e,Nz,hx];exact a h
   .rw[e,Nz,hx];exact a h
def jP {x:Str}(h:scope.names.lookup x=some .free):(relabel scope env).names.lookup x=some .cell\/(relabel scope env).names.lookup x=some .free:=by
 unfold relabel;refine bL (λn k=>?_) h;by_cases a:(k == Tx.free&&env.scope.kind == .function&&env.kindOf n == some .cell)=true
 .refine .inr #v[?_,Mx a];simp only[Ny]at a;simpa using a.1.1
 .exact .inl<|MC a
def rM (target iter:Ta)(ifs:List Ta)(it:SN)(env:Tf)(act:Sem Fin->Sem Fin)(more:Sem Fin):Sem Fin:=do
 standAt iter.pos
 match <-pyNext it with
 | none=>pure<|.done .next
 | some v =>
  letOwnedTupleGo target it v
  assign target env v
  let mut ok:=true
  for c in ifs do
   if ok then ok <-isTrue c env (eval c env)
  if ok then act more else more
def lP (elt:Ta)(acc:SN)(env:Tf):Sem Unit:=do let _ <-call (.builtin "list.append") [acc,<-eval elt env]
section
variable {prog:SS}{w:SU}{A:SW}{R:Result->SR->Prop}{s:SR}
def GU {gens:List Comprehension}{d:Nat}{it acc:SN}{target:Ta}{act:Sem Fin->Sem Fin}(I:Nat->SR->Prop)
  (ht:compTurn (.ListComp elt gens scope pos) d it acc env=rM target iter ifs it env act (again<|.compLoop (.ListComp elt gens scope pos) d it acc env))
  (turn:∀n s,I n s->Tn (model prog w) A (pyNext it) (λr s₁=>match r with
   | none=>R (.ok .next) s₁
   | some v=>Tn (model prog w) A (letOwnedTupleGo target it v) (λ_ s₀=>Tn (model prog w) A (assign target env v) (λ_ s₂ =>
     Tn (model prog w) A (forIn ifs true λc r=>if r=true then do let ok <-isTrue c env (eval c env);pure (ForInStep.yield ok) else pure (ForInStep.yield r)) (λok s₃ =>
      if ok=true then ∀(k:Sem Fin) (Q:Fin->SR->Prop) (E:SN->SR->Prop),(∀s₅,(∃m,m<n/\I m s₅)->Tn (model prog w) A k Q E s₅)->Tn (model prog w) A (act k) Q E s₃
      else ∃m,m<n/\I m s₃) (λ_ _=>False) s₂) (λ_ _=>False) s₀) (λ_ _=>False) s₁) (λ_ _=>False) s)
  (n:Nat) (h:I n s):codeAny (model prog w) A (.compLoop (.ListComp elt gens scope pos) d it acc env) R s:=by
 refine codeAny_loop rfl I (λn s j=>?_) n h;show Tn _ A ((compTurn (.ListComp elt gens scope pos) d it acc env).onRaise (λx=>do noteFrame x env;theTreesLotGoes x)) _ _ s;refine wpAny_noted ?_;rw[ht];unfold rM;refine Ms (OF<|Ms<|MY (turn n s j) (λr s₁ b=>?_) λ_ _ e=>e.elim);cases r with
 | none=>exact Mt b
 | some v =>
  refine Ms (MY b (λ_ s₀ i=>?_) λ_ _ e=>e.elim);refine Ms (MY i (λ_ s₂ g=>Ms<|MY g (λok s₃ a=>?_) λ_ _ e=>e.elim) λ_ _ e=>e.elim);cases ok with
  | false=>exact Mt #v[rfl,a]
  | true=>exact a _ _ _ λs₅ f=>Mt #v[rfl,f]
end
def bY (k:Nat)(cap:List Nat)(σ:St):St:=List.replicate k none++cap.map λj=>(σ[j]?).join
structure Caps (ON:List Str) (osc:SX) (N:List Str) (k:Nat) (cap:List Nat) (scope:SX):Prop where
 kind:scope.kind = .function:=by rfl
 cell:∀y∈scope.names,y.2 = .cell->scope.names.lookup y.1=some .cell:=by decide +kernel
 loc:∀y∈scope.names,y.2 = .local->scope.names.lookup y.1=some .local:=by decide +kernel
 free:∀y∈scope.names,y.2 = .free->osc.names.lookup y.1=some .cell\/osc.names.lookup y.1=some .free:=by decide +kernel
 len:N.length=k+cap.length:=by rfl
 capx:(cap.map λj=>ON[j]?)=(N.drop k).map some:=by rfl
 capf:∀x∈N.drop k,scope.names.lookup x=some .free:=by decide +kernel
def cxC (X:Cx)(N:List Str)(scope:SX)(cl:List (Str×SQ))(C:SQ)(ex:List SQ)(π:List (SQ×Te))(s₀:SR)(H₀:Hp):Cx where
 prog:=X.prog
 w:=X.w
 K:=X.K
 mg:=X.mg
 base:=X.base
 A:=X.A
 N:=N
 s₀:=s₀
 H₀:=H₀
 env:=compEnvC scope cl C X.env
 outer:=X.stack
 stack:=X.stack
 ex:=ex
 fn:=λx=>match scope.names.lookup x with
  | some .cell=>true
  | _=>false
 calm:=X.calm
 pn:=X.pn++π
 xe:=λ_ _=>False
def PTs (X:Cx)(ifs:List Ta)(t:TT):Prop :=
 ∀(a:List (SQ×Te)) (s:SR) (b:St) (H:Hp) (Q:Bool->Hp->Prop),Inv X a b H s->t b H Q ->
  Tn (model X.prog X.w) X.A (forIn ifs true λc r=>if r=true then do let ok <-isTrue c X.env (eval c X.env);pure (ForInStep.yield ok) else pure (ForInStep.yield r)) (TP X a b Q) X.xe s
def Fq :TT:=λ_ H Q=>Q true H
def zg {X:Cx}:PTs X [] Fq:=λ_ _ _ H _ I h=>wpAny_tests_nil #v[H,I,h]
def Ae {X:Cx}{c:Ta}{t:TT}(h:PT X c t):PTs X [c] t:=λa s b H Q I q=>wpAny_tests_one<|h a s b H Q I q
def tLC (wi:TI)(k:Nat)(cap:List Nat)(g:TG)(tt:TT)(te:TE):TE:=λh H Q=>wi h H λJ n=>∀D,n D=none ->
 ∃W:Nat->Nat->St->List V->Hp->Prop,(∃m,W 0 m (bY k cap h) []<|upd n D<|.lst [])/\∀i m c a e,W i m c a e ->
  (J.stop i e/\Q (.ref D) e) \/
  (J.go i e/\∀x l,J.yld i e x l->g x c l λb o=>tt b o λok f=>if ok=true then te b f λy j=>j D=some (.lst a)/\a.length<Tc/\∃d,d<m/\W (i+1) d b (a++[y]) (upd j D<|.lst<|a++[y])
   else f D=some (.lst a)/\∃d,d<m/\W (i+1) d b a f)
abbrev TM :=St->Hp->(St->Hp->Prop)->Prop
def PM (Y:Cx)(act:Sem Fin->Sem Fin)(t:TM):Prop:=∀(a:List (SQ×Te)) (s:SR) (c:St) (H:Hp) (Q:St->Hp->Prop),Inv Y a c H s->t c H Q ->
 ∀(k:Sem Fin) (R:Fin->SR->Prop) (E:SN->SR->Prop),(∀d b e,Inv Y a b e d->Q b e->Tn (model Y.prog Y.w) Y.A k R E d)->Tn (model Y.prog Y.w) Y.A (act k) R E s
def ll {X:Cx}{tg:Ta}{rest:List Comprehension}{osc:SX}{N:List Str}{k:Nat}{cap:List Nat}{g:TG}{tt:TT}{cl:List (Str×SQ)}{act:Tf->Sem Fin->Sem Fin}
  {π:List (SQ×Te)} {σ:St} {H3:Hp} {s3:SR} {D it:SQ} {fp:List SQ} {tn:Nat->Tb->Prop} {J:It} {Qs:Hp->Prop} {W:Nat->Nat->St->Hp->Prop} {m0:Nat} {P:SQ->Result->SR->Prop}
  (hturn:∀env,compTurn (.ListComp elt (#v[tg,iter,ifs,0]::rest) scope pos) 0 (.ref it) (.ref D) env=rM tg iter ifs (.ref it) env (act env) (again<|.compLoop (.ListComp elt (#v[tg,iter,ifs,0]::rest) scope pos) 0 (.ref it) (.ref D) env))
  (hc:X.calm=true) (hosc:X.env.scope=osc) (hcap:Caps X.N osc N k cap scope)
  (hcl:∀{x:Str} {c:SQ},cl.lookup x=some c->X.env.cells.lookup x=some c) (hhas:∀x,(x,Tx.free)∈scope.names->∃c,cl.lookup x=some c)
  (hg:∀cl C ex π s H,PG (cxC X N scope cl C ex π s H) tg g)
  (ht:∀cl C ex π s H,PTs (cxC X N scope cl C ex π s H) ifs tt)
  (I3:Inv X π σ H3 s3) (T:Turn X.prog X.w X.K tg J fp it tn) (st:tn 0 s3.heap) (f3:∀b∈fp,bx X π H3 b) (w0:W 0 m0 (bY k cap σ) H3)
  (hend:∀s6 σ5 H5,Inv (cxC X N scope (N7 scope cl s3.heap.objs.size) s3.heap.objs.size fp π s3 H3) [] σ5 H5 s6->Inv X π σ H5 s6->Qs H5->P s3.heap.objs.size (.ok .next) s6)
  (turn:∀i m O' H',W i m O' H'->(J.stop i H'/\Qs H') \/
   (J.go i H'/\∃C:Bool->St->Hp->Prop,(∀x H2,J.yld i H' x H2->g x O' H2 λσ2 H3=>tt σ2 H3 λok H4=>C ok σ2 H4)/\(∀σ2 H4,C false σ2 H4->∃m',m'<m/\W (i+1) m' σ2 H4) /\
    ∀(pins':List (SQ×Te)) (s:SR) (σ2:St) (H4:Hp),Inv (cxC X N scope (N7 scope cl s3.heap.objs.size) s3.heap.objs.size fp π s3 H3) pins' σ2 H4 s->C true σ2 H4->∀(k:Sem Fin) (R:Fin->SR->Prop) (E:SN->SR->Prop),
     (∀s' σ3 H5,Inv (cxC X N scope (N7 scope cl s3.heap.objs.size) s3.heap.objs.size fp π s3 H3) pins' σ3 H5 s'->(∃m',m'<m/\W (i+1) m' σ3 H5)->Tn (model X.prog X.w) X.A k R E s')->Tn (model X.prog X.w) X.A (act (compEnvC scope (N7 scope cl s3.heap.objs.size) s3.heap.objs.size X.env) k) R E s)) :
  Tn (model X.prog X.w) X.A (newFunctionEnv scope X.env.globals cl [] X.env.qual none .none<|some X.env) (λcenv s₄ =>
   codeAny (model X.prog X.w) X.A (.compStart (.ListComp elt (#v[tg,iter,ifs,0]::rest) scope pos) 0 (.ref it) (.ref D) { cenv with scope:=relabel scope X.env }) (P cenv.locals) s₄) X.xe s3:=by
 refine pX λG L w okc=>?_
 have t:∀{x:Str} {c:SQ},(N7 scope cl s3.heap.objs.size).lookup x=some c->((cellsFrom (s3.heap.objs.size+1) scope.names []).lookup x=some c/\scope.names.lookup x=some .cell/\G.IsCell c none/\s3.heap.objs.size<c)\/cl.lookup x=some c:=λ{x c} e=>by
  unfold N7 at e;rw[L5]at e;rcases yq e with z | z
  .have hm:=NK z;obtain⟨K,a2⟩:=okc.empty x c hm;exact .inl #v[z,hcap.cell _ (bf _ _ hm) rfl,K,a2]
  .exact .inr z.2
 have ba:∀{x:Str} {c:SQ},cl.lookup x=some c->c<s3.heap.objs.size:=λ{x c} e=>by obtain⟨v,z⟩:=I3.cell x c<|hcl e;exact z.lt
 have am:∀{x:Str},scope.names.lookup x=some .free->(N7 scope cl s3.heap.objs.size).lookup x=cl.lookup x:=λ{x} e=>by
  unfold N7;rw[L5];refine lO ?_;cases q:(cellsFrom (s3.heap.objs.size+1) scope.names []).lookup x with
  | none=>rfl
  | some c =>have z:=hcap.cell _ (bf _ _<|NK q) rfl;rw[e]at z;cases z
 have af:∀x y c,(N7 scope cl s3.heap.objs.size).lookup x=some c->(N7 scope cl s3.heap.objs.size).lookup y=some c->x=y:=λx y c h1 h2=>by
  rcases t h1 with ⟨K,_,_,A⟩ | a <;> rcases t h2 with ⟨b1,_,_,b4⟩ | b
  .exact name_of_addr okc.apart (NK K)<|NK b1
  .exact absurd (ba b)<|Qq.2<|NS A
  .exact absurd (ba a)<|Qq.2<|NS b4
  .exact I3.ok.inj x y c (hcl a)<|hcl b
 have al:∀x,((relabel scope X.env).names.lookup x=some .cell\/(relabel scope X.env).names.lookup x=some .free)->∃c,(N7 scope cl s3.heap.objs.size).lookup x=some c:=λx hx=>by
  unfold N7;rw[L5];cases q:(cellsFrom (s3.heap.objs.size+1) scope.names []).lookup x with
  | some c=>exact#v[c,kM q]
  | none =>
   rcases nt hx with z | z
   .obtain⟨c,e⟩:=hhas x z;exact#v[c,(lO q).trans e]
   .have y:=Qh scope.names (s3.heap.objs.size+1) []<|.inl<|hcap.cell _ z rfl;rw[q]at y;cases y
 have an:∀x c,(cxC X N scope (N7 scope cl s3.heap.objs.size) s3.heap.objs.size fp π s3 H3).fn x=true->(N7 scope cl s3.heap.objs.size).lookup x=some c->s3.heap.objs.size<=c:=λx c h e=>by
  rcases t e with ⟨_,_,_,A⟩ | a
  .exact NS A
  .have hx:scope.names.lookup x=some .cell:=by
    have h:(match scope.names.lookup x with | some .cell=>true | _=>false)=true:=h;split at h
    .assumption
    .cases h
   have y:=Qh scope.names (s3.heap.objs.size+1) []<|.inl hx;obtain⟨c',I⟩:=NX.1 y;have M:(N7 scope cl s3.heap.objs.size).lookup x=some c':=by unfold N7;rw[L5];exact kM I
   rw[e]at M;cases M;exact NS (okc.empty x c<|NK I).2
 have ap:∀b∈fp,b≠s3.heap.objs.size:=λb f=>by obtain⟨o,e,_⟩:=T.obj _ _ st b f;exact MR<|MA e
 have cne:∀b∈fp,∀{x:Str} {c:SQ},(N7 scope cl s3.heap.objs.size).lookup x=some c->c≠b:=λb f {x c} e=>by
  rcases t e with ⟨_,_,_,A⟩ | a
  .obtain⟨o,e,_⟩:=T.obj _ _ st b f;exact Ow<|MR<|Sw (MA e) A
  .exact(f3 b f).2.2.2.2.1 x c<|hcl a
 have Z:∀{x:Str} {c:SQ},(N7 scope cl s3.heap.objs.size).lookup x=some c->H3 c=none:=λ{x c} e=>by
  rcases t e with ⟨_,_,_,A⟩ | a
  .exact I3.hok.fresh<|NS A
  .exact I3.freeC x c<|hcl a
 have nofs:∀{b:SQ},b≠X.env.locals->b ∉ X.fs->b ∉ frs X.stack:=λ{b} h1 h2 z=>(MJ.1<|I3.stkSub b z).elim h1 h2
 have IY:Inv (cxC X N scope (N7 scope cl s3.heap.objs.size) s3.heap.objs.size fp π s3 H3) [] (bY k cap σ) H3 { s3 with heap:=G }:=by
  refine#v[#v[I3.ok.mod,hcap.kind,I3.ok.glob,I3.ok.blt,Mz _,af,al,an,I3.ok.hd,I3.ok.frames,.inl rfl,
   λb f=>#v[ap b f,λx c e=>cne b f e],I3.bs,MG I3.ok.bsz I3.sz,λb o e f=>?_,λb f=>nofs (f3 b f).2.1 (f3 b f).2.2.1,I3.stack,I3.stkFree],
   rfl,I3.bare,Un.kept w,#v[_,L,λi x v e1 M e3=>?_],λx c e=>?_,I3.hok.fresh<|Mz _,λx c e=>Z e,λp Q=>?_,I3.hok.kept w,?_]
  .rcases(f3 b f).2.2.2.1 with z | z
   .exact I3.ok.noex b o e z
   .exact absurd (MI (MA e)<|MG I3.ok.bsz z)<|OV _
  .by_cases hi:i<k
   .unfold bY at M;rw[OO (by simpa using hi),NZ,Mx hi]at M;cases M
   .obtain⟨d,rfl⟩:∃d,i=k+d:=#v[i-k,by omega];unfold bY at M;rw[Oo (by simp),Pm,Nat.add_sub_cancel_left,MQ]at M;obtain⟨j,hj,hv⟩:=MP.1 M;have bh:σ[j]? = some (some v):=by
     cases q:σ[j]? with
     | none=>rw[q]at hv;cases hv
     | some o=>rw[q]at hv;exact NU some hv
    have a9:(N.drop k)[d]? = some x:=by rw[List.getElem?_drop];exact e1
    have hx:X.N[j]? = some x:=by have z:=NU (λl=>l[d]?) hcap.capx;simp only[MQ,hj,a9,QD]at z;exact MH z
    have Y:=hcap.capf x<|Np a9;have a7:=NK Y;have V:=hcap.free _ a7 rfl;rw[<-hosc]at V;obtain⟨m,hn,hl⟩:=I3.loc;obtain⟨u,r,l⟩:=hl j x v hx bh<|.inr V;refine#v[u,r,?_];rcases l with ⟨hk,_⟩ | ⟨hk,c,bm,bj⟩
    .have hk:X.env.scope.names.lookup x=some .local:=hk;rcases V with z | z <;> (rw[hk]at z;cases z)
    .obtain⟨c',I⟩:=hhas x a7;have:c'=c:=MH<|(hcl I).symm.trans bm;subst this;exact .inr #v[jP Y,c',(am Y).trans I,bj.keeps w]
  .rcases t e with ⟨_,_,a3,_⟩ | a
   .exact#v[_,a3]
   .obtain⟨v,z⟩:=I3.cell x c<|hcl a;exact#v[v,z.keeps w]
  .have Q:p∈(X.pn++π)++[]:=Q;rw[NW]at Q;obtain⟨K,a2,a3,A,a5⟩:=I3.pin p Q;exact#v[w _ _ K,a2,MR<|MA K,nofs a3 A,a5]
  .show(bY k cap σ).length=N.length;unfold bY;rw[Ni,Pm,Mv,hcap.len]
 have B:∀{H':Hp},(∀b∈fp,H' b=none)->∀b∈fp,bx (cxC X N scope (N7 scope cl s3.heap.objs.size) s3.heap.objs.size fp π s3 H3) [] H' b:=λ{H'} hn b f=>by obtain⟨a0,K,a2,a3,A,a5⟩:=f3 b f;refine#v[hn b f,ap b f,nofs K a2,.inl f,λx c e=>cne b f e,λp Q=>a5 p ?_];have Q:p∈(X.pn++π)++[]:=Q;rwa [NW]at Q
 have O:codeAny (model X.prog X.w) X.A (.compLoop (.ListComp elt (#v[tg,iter,ifs,0]::rest) scope pos) 0 (.ref it) (.ref D)<|compEnvC scope (N7 scope cl s3.heap.objs.size) s3.heap.objs.size X.env)
   (P s3.heap.objs.size) { s3 with heap:=G }:=by
  refine GU (λn s'=>∃i O' H',Inv (cxC X N scope (N7 scope cl s3.heap.objs.size) s3.heap.objs.size fp π s3 H3) [] O' H' s'/\tn i s'.heap/\(∀b∈fp,H' b=none)/\W i n O' H') (hturn _) ?_ m0
   #v[0,_,H3,IY,T.keep _ _ _ st λb _ o e=>w b o e,λb f=>(f3 b f).1,w0]
  rintro n s5 ⟨i,σ5,H5,I5,ad,a8,w5⟩;rcases turn i n σ5 H5 w5 with ⟨ac,q⟩ | ⟨go,C,step,bi,a6⟩
  .refine thn (T.done (cxC X N scope (N7 scope cl s3.heap.objs.size) s3.heap.objs.size fp π s3 H3) rfl rfl rfl hc i [] s5 σ5 H5 _ I5 (B a8) ad ac) λr s6 #v[hr,I6]=>?_
   subst hr;have I7:Inv X π σ H5 s6:=I3.call' I6.os I6.base I6.hok I6.bare λb f=>by obtain⟨a0,K,a2,a3,A,a5⟩:=f3 b f;exact#v[a3,K,A,a5]
   exact hend s6 σ5 H5 I6 I7 q
  .refine thn (T.item (cxC X N scope (N7 scope cl s3.heap.objs.size) s3.heap.objs.size fp π s3 H3) rfl rfl rfl hc i [] s5 σ5 H5 _ I5 (B a8) ad go) λr s6 #v[u,hr,h6]=>?_
   subst hr;refine thn h6 λ_ s7 #v[x,H7,I7,r7,y7,U,bn]=>?_
   have bp:=I7.pinned (B bn)<|T.obj _ _ U;have F:∀{s':SR} {O':St} {H':Hp},Inv (cxC X N scope (N7 scope cl s3.heap.objs.size) s3.heap.objs.size fp π s3 H3) ([]++eG fp s7.heap) O' H' s'->tn (i+1) s'.heap/\∀b∈fp,H' b=none:=λ{s' O' H'} I'=>by refine#v[T.keep _ _ _ U λb f o e=>(I'.pin (b,o)<|MZ _<|MZ _<|N8 f e).1,λb f=>?_];obtain⟨o,e,d⟩:=T.obj _ _ U b f;exact(I'.pin (b,o)<|MZ _<|MZ _<|N8 f e).2.1
   refine thn (hg _ _ _ _ _ _ _ s7 σ5 H7 x u _ bp r7<|step x H7 y7) λ_ s8 #v[S,H8,I8,q8]=>?_
   refine thn (ht _ _ _ _ _ _ _ s8 S H8 _ I8 q8) λok s9 #v[H9,I9,q9]=>?_
   cases ok with
   | false =>obtain⟨m',hm,w9⟩:=bi _ _ q9;obtain⟨k1,k2⟩:=F I9;exact#v[m',hm,i+1,S,H9,I9.unpinned,k1,k2,w9]
   | true =>
    intro kk R E hk;refine a6 _ s9 S H9 I9 q9 kk R E λbg ab br bb #v[m',hm,be]=>hk bg ?_
    obtain⟨k1,k2⟩:=F bb;exact#v[m',hm,i+1,ab,br,bb.unpinned,k1,k2,be]
 exact codeAny_compStart_list O (T.self X.A 0 _ _ _ (T.keep _ _ _ st λb _ o e=>w b o e) O)
def xu {X:Cx}{tg:Ta}{osc:SX}{N:List Str}{k:Nat}{cap:List Nat}{g:TG}{tt:TT}{te:TE}{cl:List (Str×SQ)}
  {π:List (SQ×Te)} {σ:St} {H3:Hp} {s3:SR} {D it:SQ} {fp:List SQ} {tn:Nat->Tb->Prop} {J:It} {Q:VK} {W:Nat->Nat->St->List V->Hp->Prop} {m0:Nat}
  (hc:X.calm=true) (hosc:X.env.scope=osc) (hcap:Caps X.N osc N k cap scope)
  (hcl:∀{x:Str} {c:SQ},cl.lookup x=some c->X.env.cells.lookup x=some c) (hhas:∀x,(x,Tx.free)∈scope.names->∃c,cl.lookup x=some c)
  (hg:∀cl C ex π s H,PG (cxC X N scope cl C ex π s H) tg g)
  (ht:∀cl C ex π s H,PTs (cxC X N scope cl C ex π s H) ifs tt)
  (he:∀cl C ex π s H,PE (cxC X N scope cl C ex π s H) elt te)
  (I3:Inv X π σ H3 s3) (hD:H3 D=some (.lst [])) (T:Turn X.prog X.w X.K tg J fp it tn) (st:tn 0 s3.heap) (f3:∀b∈fp,bx X π H3 b) (w0:W 0 m0 (bY k cap σ) [] H3)
  (turn:∀i m O' acc H',W i m O' acc H'->(J.stop i H'/\Q (.ref D) H') \/
   (J.go i H'/\∀x H2,J.yld i H' x H2->g x O' H2 λσ2 H3=>tt σ2 H3 λok H4=>if ok=true then te σ2 H4 λy H5=>H5 D=some (.lst acc)/\acc.length<Tc/\∃m',m'<m/\W (i+1) m' σ2 (acc++[y]) (upd H5 D<|.lst<|acc++[y])
    else H4 D=some (.lst acc)/\∃m',m'<m/\W (i+1) m' σ2 acc H4)) :
  Tn (model X.prog X.w) X.A (newFunctionEnv scope X.env.globals cl [] X.env.qual none .none<|some X.env) (λcenv s₄ =>
   codeAny (model X.prog X.w) X.A (.compStart (.ListComp elt [#v[tg,iter,ifs,0]] scope pos) 0 (.ref it) (.ref D) { cenv with scope:=relabel scope X.env }) (compPost (model X.prog X.w) X.A X.xe none (EP X π σ Q) (.ref D) cenv.locals) s₄) X.xe s3:=by
 refine ll (act:=λenv k=>do lP elt (.ref D) env;k) (P:=λC=>compPost (model X.prog X.w) X.A X.xe none (EP X π σ Q) (.ref D) C) (Qs:=Q<|.ref D) (W:=λi m O' H'=>∃acc,H' D=some (.lst acc)/\W i m O' acc H') (λenv=>by rfl) hc hosc hcap hcl hhas hg ht I3 T st f3 #v[[],hD,w0] (λM G H5 F I7 q=>?_) λi m O' H' #v[acc,Z,w]=>?_
 .obtain⟨m,S,_⟩:=id F.loc;refine#v[m,S,λf t=>?_];obtain⟨g0,g1,g2,g3,g4,g5⟩:=I3.fpOk (H':=H5) (b:=s3.heap.objs.size) (Mz _) F.free;exact#v[.ref D,H5,I7.turned (t':=M.toks) (λb o Y e=>(t.2 b Y).trans e) g0 g1 g3 g4 g5,rfl,q]
 .rcases turn i m O' acc H' w with h | ⟨go,step⟩
  .exact .inl h
  .refine .inr #v[go,_,step,λσ2 H4 h=>?_,λr s σ2 H4 I h k R E U=>?_]
   .obtain⟨v,m',u,L⟩:=(show H4 D=some (.lst acc)/\∃m',m'<m/\W (i+1) m' σ2 acc H4 from h);exact#v[m',u,acc,v,L]
   .refine Ms (Ms<|MY (he _ _ _ _ _ _ _ s σ2 H4 _ I h) (λK n #v[y,d,B,p,a,O,m',u,j]=>?_) λ_ _ f=>f.elim);refine Ms (MY (aU (X:=cxC X N scope (N7 scope cl s3.heap.objs.size) s3.heap.objs.size fp π s3 H3) _ n σ2 d (.ref D) [y] (.ref D) [K] (λ_ H'=>H'=upd d D (.lst<|acc++[y])) B rfl (.cons p .nil) #v[D,acc,y,rfl,rfl,a,O,rfl])
     (λ_ l #v[_,ab,A,_,z]=>Mt ?_) λ_ _ f=>f.elim)
    subst z;exact U l σ2 _ A #v[m',u,_,j3,j]
def Gs {X:Cx}{tg:Ta}{osc:SX}{N:List Str}{k:Nat}{cap:List Nat}{wi:TI}{g:TG}{tt:TT}{te:TE}
  (hc:X.calm=true) (hosc:X.env.scope=osc) (hcap:Caps X.N osc N k cap scope) (hi:PI X tg iter wi)
  (hg:∀cl C ex π s H,PG (cxC X N scope cl C ex π s H) tg g)
  (ht:∀cl C ex π s H,PTs (cxC X N scope cl C ex π s H) ifs tt)
  (he:∀cl C ex π s H,PE (cxC X N scope cl C ex π s H) elt te)
  (hs:∀x,Tt iter X.env x=pure x:=by intro _;rfl) :
  PE X (.ListComp elt [#v[tg,iter,ifs,0]] scope pos) (tLC wi k cap g tt te):=by
 intro π s w H Q I h;have i:∀y∈scope.names,y.2 = .free->∃c,X.env.cells.lookup y.1=some c:=λy m n=>I.ok.has y.1 (by show X.env.scope.names.lookup y.1=_\/X.env.scope.names.lookup y.1=_;rw[hosc];exact hcap.free y m n)
 let f:Str->SQ:=λx=>(X.env.cells.lookup x).getD 0
 have z:∀y∈scope.names,y.2 = .free->X.env.cells.lookup y.1=some (f y.1):=λy m n=>by obtain⟨c,e⟩:=i y m n;show _=some ((X.env.cells.lookup y.1).getD 0);rw[e];rfl
 have a:closureFor scope X.env=pure (J7 f scope.names []):=O0 λy m n=>by unfold cellOf;rw[z y m n]
 have p:∀{x:Str} {c:SQ},(J7 f scope.names []).lookup x=some c->X.env.cells.lookup x=some c:=λ{x c} e=>by
  rcases Q9 _ _ e with ⟨r,u⟩ | r
  .rw[u];exact z (x,.free) r rfl
  .simp at r
 have d:∀x,(x,Tx.free)∈scope.names->∃c,(J7 f scope.names []).lookup x=some c:=λx G=>#v[_,aX _ _<|.inl G]
 generalize J7 f scope.names []=cl at a p d;rw[eval_ListComp];refine QH (use:=none) (cl:=cl) rfl hs a hcap.kind hcap.loc ?_;refine thn (hi π s w H _ I h) λv s1 r=>thn r λF s2 u=>?_
 obtain⟨R,K,O,J,M,e,B,T,l,A,E⟩:=u;subst e;obtain⟨W,⟨P,D⟩,j⟩:=E s2.heap.objs.size<|B.hok.fresh<|Mz _;refine Nj ?_;have L:Inv X π w (upd M s2.heap.objs.size<|.lst []) { s2 with heap:=s2.heap.push { cls:=.type "list",data:=.seq ([]:List SN).toArray } }:=B.lnew (ys:=[]) (its:=[]) (t':=s2.toks) .nil<|Nv _;have t:∀b∈K,b≠s2.heap.objs.size:=λb q=>by obtain⟨o,e,_⟩:=T.obj _ _ l b q;exact MR<|MA e
 exact xu hc hosc hcap p d hg ht he L j3 T (T.keep _ _ (s2.heap.push { cls:=.type "list",data:=.seq ([]:List SN).toArray }) l λb _ o e=>Mu _ e) (λb q=>#v[by rw[i8<|t b q];exact(A b q).1,(A b q).2]) D j
end
section
mutual
def c8 (K:Qf)(H:Hp):My->V->Prop
 | .none,v=>v = .non
 | .bool b,v=>v = .bl b
 | .int i,v=>v = .int i
 | .str x,v=>v = .str x
 | .tuple ds,v=>∃a c,v = .ref a/\SqT K H a c/\c6 K H ds c
 | .list ds,v=>∃a c,v = .ref a/\H a=some (.lst c)/\c6 K H ds c
 | .dict _,_=>False
def c6 (K:Qf)(H:Hp):List My->List V->Prop
 | [],xs=>xs=[]
 | d::ds,xs=>∃x r,xs=x::r/\c8 K H d x/\c6 K H ds r
end
section
variable {X:Cx}{π:List (SQ×Te)}{σ:St}{H:Hp}{s:SR}
mutual
theorem M9 (I:Inv X π σ H s):∀(d:My) (v:V) (u:SN),c8 X.K H d v->s0 v u->∃as,Reads s.heap u d as
 | .none,v,u,h,r=>by
  simp only[c8]at h;subst h;cases(show u=SN.none from r);exact#v[_,.none]
 | .bool b,v,u,h,r=>by
  simp only[c8]at h;subst h;cases(show u=SN.bool b from r);exact#v[_,.bool b]
 | .int i,v,u,h,r=>by
  simp only[c8]at h;subst h;obtain⟨t,rfl⟩:=(show ∃t,u=SN.int i t from r);exact#v[_,.int i t]
 | .str x,v,u,h,r=>by
  simp only[c8]at h;subst h;obtain⟨t,rfl⟩:=(show ∃t,u=SN.str x t from r);exact#v[_,.str x t]
 | .tuple ds,v,u,h,r=>by
  simp only[c8]at h;obtain⟨a,e,rfl,j,k⟩:=h;cases(show u=SN.ref a from r);obtain⟨c,f,ht,_⟩:=I.tuple j;obtain⟨o,p,m,n,l⟩:=ht;obtain⟨as,g⟩:=aF I ds e c k f;exact#v[_,.tuple p m l g]
 | .list ds,v,u,h,r=>by
  simp only[c8]at h;obtain⟨a,e,rfl,j,k⟩:=h;cases(show u=SN.ref a from r);obtain⟨c,f,ht,_⟩:=I.list<|SqL.of j;obtain⟨o,p,m,n,l⟩:=ht.isList;obtain⟨as,g⟩:=aF I ds e c k f;exact#v[_,.list p m l g]
 | .dict dz,v,u,h,r=>by simp only[c8]at h
theorem aF (I:Inv X π σ H s):∀(ds:List My) (xs:List V) (us:List SN),c6 X.K H ds xs->m9 xs us->∃as,ReadsAll s.heap us ds as
 | [],xs,us,h,r=>by
  simp only[c6]at h;subst h;cases r;exact#v[_,.nil]
 | d::ds,xs,us,h,r=>by
  simp only[c6]at h;obtain⟨x,a,rfl,i,g⟩:=h;cases r with
  | cons f e =>obtain⟨as,c⟩:=M9 I d x _ i f;obtain⟨bs,b⟩:=aF I ds a _ g e;exact#v[_,.cons c b]
end
end
structure Shw (d:My) (dp n:Nat):Prop where
 sh:d.showable=true
 nd:d.hasDict=false
 de:d.depth<=dp
 ln:d.shown.length<=n
def Shw.int {i:Int}{k:Nat}(h:i.natAbs<2 ^ k)(hk:0<k)(hk2:k<=1900):Shw (.int i) 0 (k+20):=by
 have a:i.natAbs.log2<1920:=by
  by_cases b:i.natAbs=0
  .rw[b];decide
  .have:=(SM b).2 h;omega
 refine#v[by simp only[My.showable,a,Rh],by simp only[My.hasDict],by simp only[My.depth];omega,?_];have c:i.natAbs.log2<k:=by
  by_cases b:i.natAbs=0
  .rw[b];exact hk
  .exact(SM b).2 h
 have e:=int_text_length_le hk c;simp only[My.shown];rw[PySem.ofString_length];omega
section
variable {X:Cx}
def BA (K:Qf):List V->Hp->VK->Prop:=λb H Q=>∃a d,b=[.ref a]/\c8 K H d (.ref a)/\Shw d 50 16000000/\Q (.str d.shown) H
def uI (hg:X.A.guards=some [])(hu:X.A.units+64<Tv):A1 X (.builtin "repr") (BA X.K):=by intro c s k H l us Q I r h;obtain⟨a,d,rfl,j,b,q⟩:=h;obtain⟨u,rfl,f⟩:=N5 r;cases f;obtain⟨as,g⟩:=M9 I d (.ref a) (.ref a) j rfl;refine repr_of_reads' g b.sh (My.noDict_hsm b.nd) hg (by have:=b.de;omega) (λ_ _ e=>e) (λn u m i=>#v[.str d.shown,H,I.kept i,#v[u,rfl],q]) (MG b.ln (by rw[Nr];decide))
end
end
end L2
namespace HT
open PySem PyProof.Rows
section
variable {prog:SS}{w:SU}{A:SW}{E:SN->SR->Prop}{s:SR}
def getItem_tuple_whole {t sl:SQ}{items:Array SN}{vl vu:SN}{lo hi:Option Int}{Q:SN->SR->Prop}(ht:IsTup s.heap t items)(hs:s.heap.IsSliceOf sl vl vu .none)(pl:IsPart vl lo)(pu:IsPart vu hi)
  (h0:sIx items.size 0 lo=0) (h1:sIx items.size items.size hi=items.size) (h:Q (.ref t) s):Tn (model prog w) A (getItem (.ref t)<|.ref sl) Q E s:=by
 obtain⟨e,b,c,f⟩:=id hs;have d:s.TypeIs (.ref sl) "slice":=#v[e,b,c];unfold getItem;try with_reducible refine NL ?_
 first | refine Ms (Mt ?_) | skip
 refine Ms (wpAny_sequenceKey ht.typeIs (by decide) ?_);refine Ms (NR (name:=Str.ofString "__getitem__") ht.typeIs Nu
  (Nx Nu ht.typeIs entry_tuple_getitem ?_<|args_tuple_getitem _ _))
 show Tn _ _ (Builtin.Tuple.tupleItemsOf (.ref t) >>= _) _ _ s;refine Ms<|tupleItemsOf_ ht ?_;refine Ms<|RF d ?_;rw[Mx<|by decide];refine Ms<|X9 hs pl pu ?_;have a:(((sIx items.size 0 lo:Nat):Int) == 0&&(1:Int) == 1&&(sIx items.size items.size hi-sIx items.size 0 lo) == items.size)=true:=by rw[h0,h1];simp
 show Tn _ _ (if (((sIx items.size 0 lo:Nat):Int) == 0&&(1:Int) == 1&&(sIx items.size items.size hi-sIx items.size 0 lo) == items.size)=true then _ else _) _ _ s;rw[Mx a];unfold Builtin.Tuple.tupleIsExact;refine Ms ?_;refine Ms<|RF ht.typeIs<|Mt ?_;rw[Mx<|by decide];exact Ms<|OG<|Mt #v[_,rfl,Mt h]
def pP (n:Nat):Builtin.Slice.sliceAdjust none none (-1) (n:Int)=((n:Int)-1,-1):=by unfold Builtin.Slice.sliceAdjust;simp
def oV (n:Nat):Builtin.Slice.slicePlaces ((n:Int)-1) (-1) (-1)=n:=by
 unfold Builtin.Slice.slicePlaces;rw[MC<|by decide];split
 .rw[show(-(-1):Int)=1 by decide,Int.ediv_one];omega
 .omega
def eK {sl:SQ}{vst:SN}{n:Nat}{Q:Int×Int×Nat->SR->Prop}(hs:s.heap.IsSliceOf sl .none .none vst)(pst:IsPart vst (some (-1)))
  (h:Q ((n:Int)-1,-1,n) s):Tn (model prog w) A (Builtin.Slice.sliceApplied (.ref sl)<|pure (n:Int)) Q E s:=by obtain⟨d,a,c,b⟩:=id hs;unfold Builtin.Slice.sliceApplied Builtin.Slice.sliceFields;refine Ms<|Ms<|NF a b (x:=.none) rfl<|Ms<|NF a b (x:=.none) rfl<|Ms<|NF a b (x:=vst) rfl<|Mt ?_;refine Ms<|bR pst ?_;show Tn _ _ (if ((-1:Int) == 0)=true then _ else _) _ _ s;rw[MC<|by decide];refine Ms<|slicePart_none<|Ms<|slicePart_none<|Ms<|Mt ?_;show Tn _ _ (match Builtin.Slice.sliceAdjust none none (-1) (n:Int) with | (lo,hi)=>pure (lo,(-1:Int),Builtin.Slice.slicePlaces lo hi (-1))) _ _ s;rw[pP n];show Tn _ _ (pure ((n:Int)-1,(-1:Int),Builtin.Slice.slicePlaces ((n:Int)-1) (-1) (-1))) _ _ s;rw[oV];exact Mt h
theorem X7 {α β:Type}{f g:α->Option β}:∀{l:List α},(∀x∈l,f x=g x)->l.filterMap f=l.filterMap g
 | [],_=>rfl
 | x::r,h=>by rw[OY,OY,h x MD,X7 λy a=>h y<|Mw _ a]
def yx (xs:Array SN):((List.range xs.size).filterMap λ(m:Nat)=>xs[(((xs.size:Int)-1)+(m:Int)*(-1)).toNat]?).toArray=xs.toList.reverse.toArray:=by
 congr 1;have e:((List.range xs.size).filterMap λ(m:Nat)=>xs[(((xs.size:Int)-1)+(m:Int)*(-1)).toNat]?)=(List.range xs.size).filterMap λm=>xs.toList.reverse[m]?:=by
  refine X7 λm a=>?_
  have a:=Qk.1 a;rw[List.getElem?_reverse<|by simpa using a];have:(((xs.size:Int)-1)+(m:Int)*(-1)).toNat=xs.toList.length-1-m:=by rw[ND];omega
  rw[this];simp
 rw[e];have:=PySem.W.krv_all xs.toList.reverse.toArray;simpa using this
def getItem_tuple_rev {t sl:SQ}{items:Array SN}{vst:SN}{Q:SN->SR->Prop}(ht:IsTup s.heap t items)(hs:s.heap.IsSliceOf sl .none .none vst)(pst:IsPart vst (some (-1)))
  (h:Q (.ref s.heap.objs.size) { s with heap:=s.heap.push { cls:=.type "tuple",data:=.seq items.toList.reverse.toArray } })
  (hsz:items.size<=Tc):Tn (model prog w) A (getItem (.ref t)<|.ref sl) Q E s:=by
 have a:sizeOk (.seq items.toList.reverse.toArray):=by show items.toList.reverse.toArray.size<=Tc;rw[MO,PL,ND];exact hsz
 obtain⟨f,b,d,g⟩:=id hs;have e:s.TypeIs (.ref sl) "slice":=#v[f,b,d];unfold getItem;try with_reducible refine NL ?_
 first | refine Ms (Mt ?_) | skip
 refine Ms (wpAny_sequenceKey ht.typeIs (by decide) ?_);refine Ms (NR (name:=Str.ofString "__getitem__") ht.typeIs Nu
  (Nx Nu ht.typeIs entry_tuple_getitem ?_<|args_tuple_getitem _ _))
 show Tn _ _ (Builtin.Tuple.tupleItemsOf (.ref t) >>= _) _ _ s;refine Ms<|tupleItemsOf_ ht ?_;refine Ms<|RF e ?_;rw[Mx<|by decide];refine Ms<|eK hs pst ?_;have c:¬(((items.size:Int)-1 == 0&&(-1:Int) == 1&&items.size == items.size)=true):=by simp
 show Tn _ _ (if ((items.size:Int)-1 == 0&&(-1:Int) == 1&&items.size == items.size)=true then _ else _) _ _ s;rw[MC c,yx];first
  | exact Ms (m:=Builtin.Tuple.tupleExact _)<|Nj (Mt #v[_,rfl,Mt h]) a
  | exact Ms (m:=Builtin.Tuple.tupleExact _)<|Nj (Ms<|Mt<|Mt #v[_,rfl,Mt h]) a
  | exact Ms<|Ms (m:=Builtin.Tuple.tupleExact _)<|Nj (Mt<|Mt #v[_,rfl,Mt h]) a
  | exact Ms<|Ms (m:=Builtin.Tuple.tupleExact _)<|Nj (Mt #v[_,rfl,Mt h]) a
end
end HT
namespace L2
open PySem PySem.Spec PyProof.Rows
section
section
variable {X:Cx}
def Ci (K:Qf):V->Option Int->Option Int->Hp->VK->Prop:=λx c d H Q=>∃a b,x = .ref a/\SqT K H a b/\((eF b c d=b/\HT.sIx b.length 0 c=0/\HT.sIx b.length b.length d=b.length->Q (.ref a) H) /\
 (¬(HT.sIx b.length 0 c=0/\HT.sIx b.length b.length d=b.length)->∀p,H p=none->Q (.ref p) (upd H p<|.tup<|eF b c d)))
def zB :SlR X (Ci X.K):=by
 intro e s o H x v q p k n t Q I g m j i h;obtain⟨a,d,rfl,l,u,y⟩:=h;by_cases c:HT.sIx d.length 0 k=0/\HT.sIx d.length d.length n=d.length
 .cases g;obtain⟨f,r,ht,z⟩:=I.tuple l;have b:f.toArray.size=d.length:=by rw[MO];exact r.length.symm
  have w:=u #v[by unfold eF;rw[c.1,c.2];simp,c.1,c.2];exact#v["tuple",_,Nu.lookup,ht.typeIs,HT.getItem_tuple_whole ht m j i (by rw[b];exact c.1) (by rw[b];exact c.2) #v[.ref a,H,I,rfl,w]]
 .exact CP e s o H (.ref a) v q p k n t Q I g m j i #v[a,d,rfl,l,c,y c]
def yt (hc:X.calm=true):A1 X (.builtin "sum") (λxs H Q=>∃(a:SQ) (ns:List Int),xs=[.ref a]/\SqL X.K H a (ns.map V.int)/\Q (.int ns.sum) H):=by
 intro d s o H xs us Q I r h;obtain⟨a,ns,rfl,l,q⟩:=h;obtain⟨u,rfl,j⟩:=N5 r;cases j;obtain⟨k,i,p,v⟩:=I.list l;have f:=Z1 i;obtain⟨c,b⟩:=f.allInts.items;have hl:s.heap.IsList a (intItems c):=b▸p.isList;refine sum_intListG (I.ok.hd hc) hl λw t g n=>#v[.int ns.sum,H,I.kept n,#v[g,?_],q]
 have m:=f.numsOf;have e:numsOf (intItems c).toList=ns:=by rw[<-b];exact m
 rw[nums_intItems]at e;rw[preSum_eq,OD (by simp),e]
end
end
variable {pos:Pos}{H':Hp}
section
def i5 (P:SS)(w:SU)(K:Qf)(mg:Str->Option SN)(base:Tb)(x:Str)(k:Nat)(ps:List Str)(sp:Sp):Prop :=
 ∃f a,FnOk P w K mg base CX0 k f a ps sp/\mg x=some (.ref f)/\PySem.W.keepIn K (.ref f)=true/\bD K a ps []
def eD {X:Cx}{x:Str}{k:Nat}{ps:List Str}{sp:Sp}{p:Pos}{e:Ta}{es:List Ta}{t:TA}(C:i5 X.prog X.w X.K X.mg X.base x k ps sp)(hr:Room k X.A)(hg:Gl X x)(ha:PA X (e::es) t)
  (hdb:nDb x:=by decide) (he:Td (e::es) X.env=(false,eval e X.env)::Td es X.env:=by rfl) (hpl:(Ti pos<|Td es X.env).any (·.1)=false:=by rfl) :
  PE X (.Call (.Name x p) (e::es) [] pos) (aE sp [] E0 t):=by obtain⟨f,a,G,m,kp,b⟩:=C;exact AE G hr hg m kp b .nil Ft ha hdb he hpl
def KpE (D:SQ->Prop)(H H':Hp):Prop:=∀b o,H b=some o->¬D b->H' b=some o
def SqT.kp {K:Qf}{H:Hp}{a:SQ}{xs:List V}{D:SQ->Prop}(h:SqT K H a xs)(k:KpE D H H')(hD:∀b,D b->∃dz,H b=some (.dK dz)):SqT K H' a xs:=by
 rcases h with (h | ⟨o,h⟩) | h
 .refine .inl (.inl<|k _ _ h λz=>?_);obtain⟨dz,e⟩:=hD _ z;rw[h]at e;cases e
 .refine .inl (.inr #v[o,k _ _ h λz=>?_]);obtain⟨dz,e⟩:=hD _ z;rw[h]at e;cases e
 .exact .inr h
section
variable {K:Qf}{H:Hp}{D:SQ->Prop}
mutual
theorem c8.kp (k:KpE D H H')(hD:∀b,D b->∃dz,H b=some (.dK dz)):∀(d:My) (v:V),c8 K H d v->c8 K H' d v
 | .none,v,h=>by simpa only[c8] using h
 | .bool b,v,h=>by simpa only[c8] using h
 | .int i,v,h=>by simpa only[c8] using h
 | .str x,v,h=>by simpa only[c8] using h
 | .tuple ds,v,h=>by
  simp only[c8]at h ⊢;obtain⟨a,c,e,f,g⟩:=h;exact#v[a,c,e,f.kp k hD,c6.kp k hD ds c g]
 | .list ds,v,h=>by
  simp only[c8]at h ⊢;obtain⟨a,c,e,f,g⟩:=h;refine#v[a,c,e,k _ _ f λz=>?_,c6.kp k hD ds c g];obtain⟨dz,e⟩:=hD _ z;rw[f]at e;cases e
 | .dict dz,v,h=>by simp only[c8]at h
theorem c6.kp (k:KpE D H H')(hD:∀b,D b->∃dz,H b=some (.dK dz)):∀(ds:List My) (xs:List V),c6 K H ds xs->c6 K H' ds xs
 | [],xs,h=>by simpa only[c6] using h
 | d::ds,xs,h=>by simp only[c6]at h ⊢;obtain⟨x,r,e,c,a⟩:=h;exact#v[x,r,e,c8.kp k hD d x c,c6.kp k hD ds r a]
end
end
def j5.kpE {H:Hp}(s:j5 H H'):KpE (λ_=>False) H H':=λb o h _=>s b o h
def c8.same {K:Qf}{H:Hp}{d:My}{v:V}(h:c8 K H d v)(s:j5 H H'):c8 K H' d v:=c8.kp s.kpE (λ_ z=>z.elim) d v h
def c6.same {K:Qf}{H:Hp}{ds:List My}{xs:List V}(h:c6 K H ds xs)(s:j5 H H'):c6 K H' ds xs:=c6.kp s.kpE (λ_ z=>z.elim) ds xs h
def SqT.same {K:Qf}{H:Hp}{a:SQ}{xs:List V}(h:SqT K H a xs)(s:j5 H H'):SqT K H' a xs:=h.kp s.kpE (λ_ z=>z.elim)
def j5.upd {H:Hp}{p:SQ}{o:HO}(hp:H p=none):j5 H (upd H p o):=λb u e=>by rw[i8<|u7 e hp];exact e
section
variable {K:Qf}{H:Hp}
theorem c6.length:∀{ds:List My} {xs:List V},c6 K H ds xs->xs.length=ds.length
 | [],xs,h=>by simp only[c6]at h;subst h;rfl
 | d::ds,xs,h=>by simp only[c6]at h;obtain⟨x,r,rfl,b,a⟩:=h;rw[ME,ME,a.length]
theorem c6.get:∀{ds:List My} {xs:List V} {i:Nat} {x:V},c6 K H ds xs->xs[i]? = some x->∃d,ds[i]? = some d/\c8 K H d x
 | [],xs,i,x,h,e=>by simp only[c6]at h;subst h;simp at e
 | d::ds,xs,i,x,h,e=>by
  simp only[c6]at h;obtain⟨y,r,rfl,b,a⟩:=h;cases i with
  | zero=>simp at e;subst e;exact#v[d,rfl,b]
  | succ i=>simpa using a.get (i:=i) (by simpa using e)
theorem c6.snoc:∀{ds:List My} {xs:List V} {d:My} {x:V},c6 K H ds xs->c8 K H d x->c6 K H (ds++[d]) (xs++[x])
 | [],xs,d,x,h,h'=>by simp only[c6]at h;subst h;simp only[Nq,c6];exact#v[x,[],rfl,h',rfl]
 | e::ds,xs,d,x,h,h'=>by simp only[c6]at h;obtain⟨y,r,rfl,b,a⟩:=h;simp only[Nf,c6];exact#v[y,r++[x],rfl,b,a.snoc h']
theorem c6.append {ds':List My}{xs':List V}(h':c6 K H ds' xs'):∀{ds:List My} {xs:List V},c6 K H ds xs->c6 K H (ds++ds') (xs++xs')
 | [],xs,h=>by simp only[c6]at h;subst h;simpa using h'
 | e::ds,xs,h=>by simp only[c6]at h;obtain⟨y,r,rfl,b,a⟩:=h;simp only[Nf,c6];exact#v[y,r++xs',rfl,b,c6.append h' a]
theorem c6.reverse:∀{ds:List My} {xs:List V},c6 K H ds xs->c6 K H ds.reverse xs.reverse
 | [],xs,h=>by simp only[c6]at h;subst h;simp[c6]
 | d::ds,xs,h=>by simp only[c6]at h;obtain⟨y,r,rfl,b,a⟩:=h;rw[Qi,Qi];exact(c6.reverse a).snoc b
theorem c6.take:∀{ds:List My} {xs:List V} (n:Nat),c6 K H ds xs->c6 K H (ds.take n) (xs.take n)
 | [],xs,n,h=>by simp only[c6]at h;subst h;simp[c6]
 | d::ds,xs,0,h=>by simp[c6]
 | d::ds,xs,n+1,h=>by simp only[c6]at h;obtain⟨y,r,rfl,b,a⟩:=h;simp only[List.take_succ_cons,c6];exact#v[y,r.take n,rfl,b,c6.take n a]
def c8.tup {ds:List My}{xs:List V}{a:SQ}(h:H a=some (.tup xs))(h2:c6 K H ds xs):c8 K H (.tuple ds) (.ref a):=by simp only[c8];exact#v[a,xs,rfl,SqT.of h,h2]
def c8.lst {ds:List My}{xs:List V}{a:SQ}(h:H a=some (.lst xs))(h2:c6 K H ds xs):c8 K H (.list ds) (.ref a):=by simp only[c8];exact#v[a,xs,rfl,h,h2]
def c6.nil :c6 K H [] []:=by simp only[c6]
def c6.cons {d:My}{x:V}{ds:List My}{xs:List V}(h:c8 K H d x)(h2:c6 K H ds xs):c6 K H (d::ds) (x::xs):=by simp only[c6];exact#v[x,xs,rfl,h,h2]
def c8.int {i:Int}:c8 K H (.int i) (.int i):=by simp only[c8]
def c8.bl {b:Bool}:c8 K H (.bool b) (.bl b):=by simp only[c8]
def c8.st {x:Str}:c8 K H (.str x) (.str x):=by simp only[c8]
def c8.non :c8 K H .none .non:=by simp only[c8]
def c8.ofTup {ds:List My}{v:V}(h:c8 K H (.tuple ds) v):∃a xs,v = .ref a/\SqT K H a xs/\c6 K H ds xs:=by simpa only[c8] using h
end
def Dh {J:It}{D:SQ}(n:Nat){g:TG}{tt:TT}{te:TE}{Q:Hp->Prop}{σ0:St}{H0:Hp}(Pv:Nat->St->List V->Hp->Prop)(h0:Pv 0 σ0 [] H0)
  (hgo:∀i σ acc H,i<n->Pv i σ acc H->J.go i H) (hstop:∀σ acc H,Pv n σ acc H->J.stop n H)
  (hs:∀i σ acc H,i<n->Pv i σ acc H->∀x H2,J.yld i H x H2->∀R:St->List V->Hp->Prop,(∀σ acc H,Pv (i+1) σ acc H->R σ acc H) ->
   g x σ H2 λσ2 H3=>tt σ2 H3 λok H4=>if ok=true then te σ2 H4 λy H5=>H5 D=some (.lst acc)/\acc.length<Tc/\R σ2 (acc++[y]) (upd H5 D<|.lst<|acc++[y]) else H4 D=some (.lst acc)/\R σ2 acc H4)
  (hd:∀σ acc H,Pv n σ acc H->Q H) :
  ∃W:Nat->Nat->St->List V->Hp->Prop,(∃m,W 0 m σ0 [] H0)/\∀i m O' acc H',W i m O' acc H' ->
  (J.stop i H'/\Q H') \/
  (J.go i H'/\∀x H2,J.yld i H' x H2->g x O' H2 λσ2 H3=>tt σ2 H3 λok H4=>if ok=true then te σ2 H4 λy H5=>H5 D=some (.lst acc)/\acc.length<Tc/\∃m',m'<m/\W (i+1) m' σ2 (acc++[y]) (upd H5 D<|.lst<|acc++[y])
   else H4 D=some (.lst acc)/\∃m',m'<m/\W (i+1) m' σ2 acc H4):=by
 refine#v[λi m σ acc H=>m=n-i/\i<=n/\Pv i σ acc H,#v[n,by simp,Nv _,h0],?_];rintro i m σ acc H ⟨rfl,b,p⟩;by_cases a:i<n
 .exact .inr #v[hgo i σ acc H a p,λx H2 y=>hs i σ acc H a p x H2 y (λσ acc H=>∃m',m'<n-i/\m'=n-(i+1)/\i+1<=n/\Pv (i+1) σ acc H) λσ acc H q=>#v[n-(i+1),by omega,rfl,a,q]]
 .have e:i=n:=by omega
  subst e;exact .inl #v[hstop σ acc H p,hd σ acc H p]
end
section
section
variable {X:Cx}{K:Qf}
def Ai {es:List Ta}{k:Nat}{t:TGs}{n:Nat}(hK:X.K=K)(hc:X.calm=true)(h:PGs X es t)
  (hn:(Tu es X.env).length=n:=by rfl) (hst:(Tu es X.env).findIdx? (·.1)=none:=by rfl):PG X (.Tuple es k pos) (EW K n t):=by subst hK;exact CG hc h hn hst
def zU (hK:X.K=K):IxR X (GQ K):=by subst hK;exact ET
def xC (hK:X.K=K):IxR X (Fk K):=by subst hK;exact O5
def bE (hK:X.K=K):A1 X (.builtin "len") (λxs H Q=>∃p ys,xs=[.ref p]/\(SqL K H p ys\/SqT K H p ys)/\Q (.int ys.length) H):=by subst hK;exact R9
def aN (hK:X.K=K):A1 X (.type "tuple") (λxs H Q=>∃p ys,xs=[.ref p]/\((SqL K H p ys/\∀l,H l=none->Q (.ref l) (upd H l<|.tup ys))\/(SqT K H p ys/\Q (.ref p) H))):=by subst hK;exact je
def iR (hK:X.K=K)(hg:X.A.guards=some [])(hu:X.A.units+64<Tv):A1 X (.builtin "repr") (BA K):=by subst hK;exact uI hg hu
def vx (hK:X.K=K):SlR X (Ci K):=by subst hK;exact zB
def tH {a:Ta}{ta:TE}(hK:X.K=K)(ha:PE X a ta)(he:∀whole,isTrue a X.env whole=(do let v <-whole;standAt a.pos;holding [v] (truthy v))) :
  PT X a (λσ H Q=>ta σ H λx H'=>∃k,xG K x H' k/\Q k H'):=by subst hK;exact wL ha he
end
end
section
section
variable {X:Cx}{K:Qf}
def FC (K:Qf):R2:=λx y H Q=>∃a b d c,x = .ref a/\y = .ref b/\SqT K H a d/\SqT K H b c/\d.length+c.length<=Tc /\
 (d=[]->Q (.ref b) H)/\(c=[]->Q (.ref a) H)/\∀p,H p=none->Q (.ref p) (upd H p<|.tup<|d++c)
def zV (hK:X.K=K):OpR X (binaryOp .Add) (FC K):=by
 subst hK;intro c s C H x y v u Q I o m h;obtain⟨a,b,l,D,rfl,rfl,z,w,R,L,J,G⟩:=h;by_cases p:l=[]
 .cases o;cases m;obtain⟨P,F,N,_⟩:=I.tuple z;obtain⟨d,S,M,_⟩:=I.tuple w;subst p;cases F;obtain⟨⟨cls,dd,A,E⟩,q,t,n,r⟩:=id N;obtain⟨⟨B,j,k,i⟩,e,g,O,f⟩:=id M;simp only at t r g f;subst t r g f;exact concat_meets #v[_,q,rfl] #v[_,e,rfl] noFill_tuple_add seq_tuple_add Rf QV (QG _ _)
   (tuple_addW0 a b #[] d.toArray n O dd j E i rfl) #v[q,e,#v[.ref b,H,I,rfl,L rfl]]
 .exact Bb c s C H (.ref a) (.ref b) v u Q I o m #v[a,b,l,D,rfl,rfl,z,w,p,R,J,λ_=>G]
end
end
section
def uO {X:Cx}{y:Str}{py:Pos}{ix:Nat}{elt tg iter:Ta}{ifs:List Ta}{scope osc:SX}{N:List Str}{k:Nat}{cap:List Nat}{g:TG}{tt:TT}{te:TE}{cl:List (Str×SQ)}
  {π:List (SQ×Te)} {σ:St} {H3:Hp} {s3:SR} {D it:SQ} {fp:List SQ} {tn:Nat->Tb->Prop} {J:It} {Q:St->Hp->Prop} {W:Nat->Nat->St->List V->Hp->Prop} {m0:Nat}
  (hNd:X.N.Nodup) (hix:X.N[ix]? = some y) (hLy:Loc X.env.scope y) (hfy:X.fn y=true\/X.env.scope.names.lookup y=some .local)
  (hc:X.calm=true) (hosc:X.env.scope=osc) (hcap:Caps X.N osc N k cap scope)
  (hcl:∀{x:Str} {c:SQ},cl.lookup x=some c->X.env.cells.lookup x=some c) (hhas:∀x,(x,Tx.free)∈scope.names->∃c,cl.lookup x=some c)
  (hg:∀cl C ex π s H,PG (cxC X N scope cl C ex π s H) tg g)
  (ht:∀cl C ex π s H,PTs (cxC X N scope cl C ex π s H) ifs tt)
  (he:∀cl C ex π s H,PE (cxC X N scope cl C ex π s H) elt te)
  (I3:Inv X π σ H3 s3) (hD:H3 D=some (.lst [])) (T:Turn X.prog X.w X.K tg J fp it tn) (st:tn 0 s3.heap) (f3:∀b∈fp,bx X π H3 b) (w0:W 0 m0 (bY k cap σ) [] H3)
  (turn:∀i m O' acc H',W i m O' acc H'->(J.stop i H'/\Q (σ.set ix<|some<|.ref D) H') \/
   (J.go i H'/\∀x H2,J.yld i H' x H2->g x O' H2 λσ2 H3=>tt σ2 H3 λok H4=>if ok=true then te σ2 H4 λy H5=>H5 D=some (.lst acc)/\acc.length<Tc/\∃m',m'<m/\W (i+1) m' σ2 (acc++[y]) (upd H5 D<|.lst<|acc++[y])
    else H4 D=some (.lst acc)/\∃m',m'<m/\W (i+1) m' σ2 acc H4)) :
  Tn (model X.prog X.w) X.A (newFunctionEnv scope X.env.globals cl [] X.env.qual none .none<|some X.env) (λcenv s₄ =>
   codeAny (model X.prog X.w) X.A (.compStart (.ListComp elt [#v[tg,iter,ifs,0]] scope pos) 0 (.ref it) (.ref D) { cenv with scope:=relabel scope X.env }) (compPost (model X.prog X.w) X.A X.xe (some<|assign (.Name y py) X.env) (λ_ s'=>∃O' H',Inv X π O' H' s'/\Q O' H') (.ref D) cenv.locals) s₄) X.xe s3:=by
 refine ll (act:=λj k=>do lP elt (.ref D) j;k) (P:=λC=>compPost (model X.prog X.w) X.A X.xe (some<|assign (.Name y py) X.env) (λ_ s'=>∃O' H',Inv X π O' H' s'/\Q O' H') (.ref D) C) (Qs:=λH'=>Q (σ.set ix<|some<|.ref D) H') (W:=λi m O' H'=>∃acc,H' D=some (.lst acc)/\W i m O' acc H') (λj=>by rfl) hc hosc hcap hcl hhas hg ht I3 T st f3 #v[[],hD,w0] (λZ ab H5 I6 I7 q=>?_) λi m O' H' #v[acc,ac,w]=>?_
 .obtain⟨m,hn,_⟩:=id I6.loc;obtain⟨g0,g1,g2,g3,g4,g5⟩:=I3.fpOk (H':=H5) (b:=s3.heap.objs.size) (Mz _) I6.free;obtain⟨o,es,ep,ho,a,d⟩:=id hn;have O:Inv X (π++[(s3.heap.objs.size,o)]) σ H5 Z:=I7.pins_of λp hp=>by
   rcases NM.1 hp with z | z
   .exact I7.pin p<|MZ _ z
   .rw[Nc.1 z];exact#v[ho,g0,g1,g2,λv z=>by have Y:o.data = .cell v:=z;rw[a]at Y;cases Y]
  show Tn (model X.prog X.w) X.A (assign (.Name y py) X.env<|.ref D) _ _ Z;refine wpAny_assign_Name (W4 O hNd hix hLy (v:=.ref D) rfl (λs7 I8=>?_) hfy);have L:=(I8.pin (s3.heap.objs.size,o)<|MZ _<|MZ _<|Nc.2 rfl).1;refine#v[m,#v[o,es,ep,L,a,d],λn F=>?_];exact#v[_,H5,I8.unpinned.turned (t':=s7.toks) (λb o hb e=>(F.2 b hb).trans e) g0 g1 g3 g4 g5,q]
 .rcases turn i m O' acc H' w with h | ⟨go,step⟩
  .exact .inl h
  .refine .inr #v[go,_,step,λσ2 H4 h=>?_,λB s σ2 H4 I h k R E hk=>?_]
   .obtain⟨K,m',G,w9⟩:=(show H4 D=some (.lst acc)/\∃m',m'<m/\W (i+1) m' σ2 acc H4 from h);exact#v[m',G,acc,K,w9]
   .refine Ms (Ms<|MY (he _ _ _ _ _ _ _ s σ2 H4 _ I h) (λyv u #v[y,l,U,A,f,hz,m',G,r]=>?_) λ_ _ n=>n.elim);refine Ms (MY (aU (X:=cxC X N scope (N7 scope cl s3.heap.objs.size) s3.heap.objs.size fp π s3 H3) _ u σ2 l (.ref D) [y] (.ref D) [yv] (λ_ H'=>H'=upd l D (.lst<|acc++[y])) U rfl (.cons A .nil) #v[D,acc,y,rfl,rfl,f,hz,rfl])
     (λ_ t #v[_,ad,S,_,M]=>Mt ?_) λ_ _ n=>n.elim)
    subst M;exact hk t σ2 _ S #v[m',G,_,j3,r]
def vi {X:Cx}{y:Str}{py spos:Pos}{ix:Nat}{elt tg iter:Ta}{ifs:List Ta}{scope osc:SX}{N:List Str}{k:Nat}{cap:List Nat}{wi:TI}{g:TG}{tt:TT}{te:TE}
  (hNd:X.N.Nodup) (hix:X.N[ix]? = some y) (hLy:Loc X.env.scope y)
  (hc:X.calm=true) (hosc:X.env.scope=osc) (hcap:Caps X.N osc N k cap scope) (hi:PI X tg iter wi)
  (hg:∀cl C ex π s H,PG (cxC X N scope cl C ex π s H) tg g)
  (ht:∀cl C ex π s H,PTs (cxC X N scope cl C ex π s H) ifs tt)
  (he:∀cl C ex π s H,PE (cxC X N scope cl C ex π s H) elt te)
  (hs:∀x,Tt iter X.env x=pure x:=by intro _;rfl) (hfy:X.fn y=true\/X.env.scope.names.lookup y=some .local:=by walk_at "v")
  (hsw:Tp (.ListComp elt [#v[tg,iter,ifs,0]] scope pos) (some<|.Name y py) spos.line X.env=pure true:=by rfl) :
  PS X (.Assign [.Name y py] (.ListComp elt [#v[tg,iter,ifs,0]] scope pos) spos) (bA (tLC wi k cap g tt te)<|O8 ix):=by
 intro π s z H U I h;have i:∀y∈scope.names,y.2 = .free->∃c,X.env.cells.lookup y.1=some c:=λy n p=>I.ok.has y.1 (by show X.env.scope.names.lookup y.1=_\/X.env.scope.names.lookup y.1=_;rw[hosc];exact hcap.free y n p)
 let f:Str->SQ:=λx=>(X.env.cells.lookup x).getD 0
 have B:∀y∈scope.names,y.2 = .free->X.env.cells.lookup y.1=some (f y.1):=λy n p=>by obtain⟨c,e⟩:=i y n p;show _=some ((X.env.cells.lookup y.1).getD 0);rw[e];rfl
 have a:closureFor scope X.env=pure (J7 f scope.names []):=O0 λy n p=>by unfold cellOf;rw[B y n p]
 have q:∀{x:Str} {c:SQ},(J7 f scope.names []).lookup x=some c->X.env.cells.lookup x=some c:=λ{x c} e=>by
  rcases Q9 _ _ e with ⟨t,w⟩ | t
  .rw[w];exact B (x,.free) t rfl
  .simp at t
 have d:∀x,(x,Tx.free)∈scope.names->∃c,(J7 f scope.names []).lookup x=some c:=λx M=>#v[_,aX _ _<|.inl M]
 generalize J7 f scope.names []=cl at a q d;rw[exec_Assign_Name_used _ _ _ _ hsw];refine Ms<|OF<|Ms ?_;show Tn _ X.A (do let _ <-comprehension (.ListComp elt [#v[tg,iter,ifs,0]] scope pos) scope X.env _ (newList []) false (eval iter X.env) (some<|assign (.Name y py) X.env)) _ _ s;refine Ms (MY (QH (use:=some<|assign (.Name y py) X.env) (cl:=cl) (Q:=λ_ A=>∃j F,Inv X π j F A/\U.nx j F) rfl hs a hcap.kind hcap.loc ?_) (λ_ A O=>Mt<|Mt O) λ_ _ e=>e);refine thn (hi π s z H _ I h) λv s1 t=>thn t λL s2 w=>?_
 obtain⟨Z,P,V,J,S,e,E,T,m,D,K⟩:=w;subst e;obtain⟨W,⟨Y,G⟩,l⟩:=K s2.heap.objs.size<|E.hok.fresh<|Mz _;refine Nj ?_;have R:Inv X π z (upd S s2.heap.objs.size<|.lst []) { s2 with heap:=s2.heap.push { cls:=.type "list",data:=.seq ([]:List SN).toArray } }:=E.lnew (ys:=[]) (its:=[]) (t':=s2.toks) .nil<|Nv _;have u:∀b∈P,b≠s2.heap.objs.size:=λb r=>by obtain⟨o,e,_⟩:=T.obj _ _ m b r;exact MR<|MA e
 exact uO hNd hix hLy hfy hc hosc hcap q d hg ht he R j3 T (T.keep _ _ (s2.heap.push { cls:=.type "list",data:=.seq ([]:List SN).toArray }) m λb _ o e=>Mu _ e) (λb r=>#v[by rw[i8<|u b r];exact(D b r).1,(D b r).2]) G l
end
section
section
theorem eY:∀{xs:List V} {us:List SN},xs.length=us.length->(∀(i:Nat) x u,xs[i]? = some x->us[i]? = some u->s0 x u)->m9 xs us
 | [],[],_,_=>.nil
 | [],_::_,e,_=>by simp at e
 | _::_,[],e,_=>by simp at e
 | x::xs,u::us,e,h=>.cons (h 0 x u rfl rfl) (eY (by simpa using e) λi y v b a=>h (i+1) y v (by simpa using b)<|by simpa using a)
end
end
section
def tyD:My->String
 | .none=>"NoneType"
 | .bool _=>"bool"
 | .int _=>"int"
 | .str _=>"str"
 | .list _=>"list"
 | .tuple _=>"tuple"
 | .dict _=>"dict"
def isT (a T:String):Bool:=a == T||(a == "bool" && T == "int")
def zh (K:Qf):∀a∈["NoneType","bool","int","str","list","tuple"],∀T∈["bool","int","str","list","tuple"],PySem.W.kitOne K (.type a) (.type T)=some (isT a T):=by intro a b T c;simp only[MJ,NH,OS]at b c;rcases b with rfl | rfl | rfl | rfl | rfl | rfl <;> rcases c with rfl | rfl | rfl | rfl | rfl <;> rfl
section
variable {X:Cx}{K:Qf}
def zZ {K:Qf}{H:Hp}{d:My}{x:V}(h:c8 K H d x):tyD d∈["NoneType","bool","int","str","list","tuple"]:=by cases d <;> simp[tyD];simp only[c8]at h
def BP (K:Qf):List V->Hp->VK->Prop:=λa H Q=>∃(x:V) (T:String) (d:My),a=[x,.ty T]/\c8 K H d x/\T∈["bool","int","str","list","tuple"]/\Q (.bl<|isT (tyD d) T) H
def ux (hK:X.K=K):A1 X (.builtin "isinstance") (BP K):=by
 subst hK;intro g s A H y us Q I r h;obtain⟨x,T,d,rfl,c,E,q⟩:=h;obtain⟨u,B,rfl,f,k⟩:=vM r;cases(show B=SN.type T from k);have e:=zh X.K (tyD d) (zZ c) T E;have fin:∀j,EP X g A Q (.bool<|isT (tyD d) T) { s with toks:=j }:=λj=>#v[.bl<|isT (tyD d) T,H,I.tok j,rfl,q]
 cases d with
 | none =>simp only[c8]at c;subst c;exact aZ I f .non e fin
 | bool b =>simp only[c8]at c;subst c;exact aZ I f (.bl b) e fin
 | int i =>simp only[c8]at c;subst c;exact aZ I f (.int i) e fin
 | str z =>simp only[c8]at c;subst c;exact aZ I f (.str z) e fin
 | tuple G =>obtain⟨a,y,rfl,m,t⟩:=c.ofTup;cases(show u=SN.ref a from f);obtain⟨l,C,⟨o,w,v,n,F⟩,_⟩:=I.tuple m;exact NV PySem.W.kitx_tuple I.kIn #v[_,w,v] e (λz=>nomatch z) fin
 | list G =>simp only[c8]at c;obtain⟨a,y,rfl,m,t⟩:=c;cases(show u=SN.ref a from f);obtain⟨l,C,p,_⟩:=I.list<|SqL.of m;obtain⟨o,w,v,n,F⟩:=p.isList;exact NV So I.kIn #v[_,w,v] e (λz=>nomatch z) fin
 | dict D=>simp only[c8]at c
end
end
section
section
variable {X:Cx}{K:Qf}
def tM {bs:List Bool}:(List.range bs.length).all (λi=>bs.getD i false)=bs.all id:=by
 induction bs with
 | nil=>rfl
 | cons b r a =>
  rw[ME,List.range_succ_eq_map,PU,Sx,PU];have:((λi=>(b::r).getD i false) ∘ Nat.succ) = λi=>r.getD i false:=by funext i;simp
  rw[this,a];rfl
def Hq (K:Qf):List V->Hp->VK->Prop:=λb H Q=>∃(a:SQ) (bs:List Bool),b=[.ref a]/\SqL K H a (bs.map V.bl)/\Q (.bl<|bs.all id) H
def xS (hK:X.K=K)(hc:X.calm=true):A1 X (.builtin "all") (Hq K):=by
 subst hK;intro m s z H B us Q I r h;obtain⟨a,bs,rfl,w,q⟩:=h;obtain⟨u,rfl,g⟩:=N5 r;cases g;obtain⟨c,l,p,E⟩:=I.list w;have d:c.length=bs.length:=by rw[<-l.length,Mv]
 have k:a<s.heap.objs.size:=by obtain⟨o,e,_⟩:=p.isList;exact MA e
 refine call_all_walk<|wpAny_pyIter_list p.isList ?_;have j:a≠s.heap.objs.size:=MR k;refine#v[_,_,_,_,_,_,λi=>bs.getD i false,rfl,Walks.list (A:=X.A.in1) (I.ok.hd hc) _ a j c.toArray,#v[#v[_,MM _ rfl,rfl,rfl],?_],?_,λt C x=>?_]
 .exact p.isList.at λo e=>Mu _ e
 .intro i v D G J f t;have f:c[i]? = some v:=by simpa using f
  obtain⟨F,_⟩:=MK.1 f;have y:(bs.map V.bl)[i]? = some (V.bl<|bs.getD i false):=by rw[MQ,MN<|by omega];simp[List.getD,MN<|show i<bs.length by omega]
  obtain⟨u,n,g⟩:=l.get y;rw[f]at n;cases n;cases(show v=SN.bool _ from g);exact Ot t
 .refine#v[.bl<|bs.all id,H,I.kept λb o e=>x b o (by simp;exact MR<|MA e)<|Mu _ e,?_,q];show SN.bool _=SN.bool _;rw[MO,d,tM]
end
end
end L2
namespace L2
open PySem PyProof.Rows
def Lx (κ:Nat->Int)(i j:Nat):Prop:=κ i < κ j\/(κ i = κ j/\i<j)
structure SB (kd:SortKind) (a0:Array Tw) (st:SortSt):Prop where
 size:(arrOf st).size=a0.size
 kind:kindOf st=kd
 failed:failedOf st=none
 pend:pendingOf st = #[]
variable {kd:SortKind}
def SB.setArr {a0:Array Tw}{st:SortSt}(h:SB kd a0 st){xs:Array Tw}(hp:xs.size=(arrOf st).size):SB kd a0 (PyProof.Rows.setArr st xs):=#v[hp.trans h.size,h.kind,h.failed,h.pend]
structure SG (kd:SortKind) (a0:Array Tw) (st:SortSt) (p:Nat->Nat):Prop where
 base:SB kd a0 st
 inj:∀i j,i<a0.size->j<a0.size->p i=p j->i=j
 at_:∀i,i<a0.size->(arrOf st)[i]? = a0[p i]?
 lt:∀i,i<a0.size->p i<a0.size
def gL (prog:SS)(w:SU)(A:SW)(s:SR)(kd:SortKind)(a0:Array Tw)(κ:Nat->Int):Prop :=
 ∀(i j:Nat) (x y:Tw),i≠j->a0[i]? = some x->a0[j]? = some y->∀(E:SN->SR->Prop) (Q:Bool->SR->Prop),Q (decide (κ i < κ j)) s->Tn (model prog w) A (keyLt' kd x.1 y.1) Q E s
def SoK (κ:Nat->Int)(p:Nat->Nat)(n:Nat):Prop:=∀i j,i<=j->j<n->κ (p i) <= κ (p j)
def SoS (κ:Nat->Int)(p:Nat->Nat)(n:Nat):Prop:=(∀i j,i<j->j<n->Lx κ (p i) (p j))/\(∀i,n<=i->p i=i)/\∀i,i<n->p i<n
variable {κ:Nat->Int}
def SoS.sorted {p:Nat->Nat}{n:Nat}(h:SoS κ p n):SoK κ p n:=by
 intro i j b a;by_cases e:i=j
 .subst e;exact Qy _
 .rcases h.1 i j (by omega) a with q | q
  .exact Int.le_of_lt q
  .exact Int.le_of_eq q.1
def SoS.more {p:Nat->Nat}{n m:Nat}(h:SoS κ p n)(hnm:n<=m)(hs:SoK κ p m):SoS κ p m:=by
 refine#v[λi j b e=>?_,λi d=>h.2.1 i (by omega),λi d=>?_]
 .by_cases c:j<n
  .exact h.1 i j b c
  .have q:=hs i j (by omega) e;have f:=h.2.1 j (by omega);rcases RZ q with q | q
   .exact .inl q
   .refine .inr #v[q,?_];rw[f];by_cases a:i<n
    .have:=h.2.2 i a;omega
    .rw[h.2.1 i<|by omega];exact b
 .by_cases a:i<n
  .have:=h.2.2 i a;omega
  .rw[h.2.1 i<|by omega];exact d
variable {nrem:Nat}
section
variable {prog:SS}{w:SU}{A:SW}{E:SN->SR->Prop}{s:SR}{a0:Array Tw}
def mV {st:SortSt}{p:Nat->Nat}{i j:Nat}{Q:Option Bool->SortSt->Prop}(g:SG kd a0 st p)(hL:gL prog w A s kd a0 κ)(hi:i<a0.size)(hj:j<a0.size)(hij:i≠j)
  (h:Q (some<|decide (κ (p i) < κ (p j))) st):wpS (model prog w) A E s (ltAt' i j) Q st:=by have f:=g.at_ i hi;have e:=g.at_ j hj;have d:=g.lt i hi;have c:=g.lt j hj;have b:a0[p i]? = some a0[p i]:=getElem?_pos a0 (p i) d;have a:a0[p j]? = some a0[p j]:=getElem?_pos a0 (p j) c;rw[ltAt'_eq];refine NA<|wpS_get ?_;show wpS _ _ _ _ (do let x <-elem' (arrOf st) i;let y <-elem' (arrOf st) j;lt' x y) Q st;rw[elem'_eq,elem'_eq,f,e,b,a];refine NA<|Oe<|NA<|Oe ?_;rw[lt'_eq];refine NA<|wpS_get ?_;rw[g.base.kind];refine NA (wpS_lift<|PX<|hL _ _ _ _ (λz=>hij<|g.inj i j hi hj z) b a _ _ ?_);exact#v[rfl,Oe h]
def SG.bub {st:SortSt}{p:Nat->Nat}(g:SG kd a0 st p){k l:Nat}(hk:k<a0.size)(hl:l<=k) :
  SG kd a0 (setArr st<|bubble (arrOf st) k<|k-l) (λi=>if i=l then p k else if l<i/\i<=k then p (i-1) else p i):=by
 refine#v[g.base.setArr<|bubble_size _ _ _,λi j a b e=>?_,λi a=>?_,λi a=>?_]
 .have q:=g.inj;try dsimp only at e
  repeat' split at e
  all_goals first
   | omega
   | (have:=q _ _ (by omega) (by omega) e;omega)
 .have e:=getElem?_bubble (xs:=arrOf st) (src:=k) (by rw[g.base.size];exact hk) (k-l) (by omega) i;rw[show k-(k-l)=l by omega]at e;show(bubble (arrOf st) k<|k-l)[i]? = _;rw[e];repeat' split
  .exact g.at_ _ hk
  .exact g.at_ _ (by omega)
  .exact g.at_ _ a
 .try dsimp only
  repeat' split
  .exact g.lt _ hk
  .exact g.lt _ (by omega)
  .exact g.lt _ a
def SG.mir {st:SortSt}{p:Nat->Nat}(g:SG kd a0 st p){u v:Nat}(hv:v<=a0.size) :
  SG kd a0 (setArr st<|mirror (arrOf st) u v<|(v-u) / 2) (λi=>if u<=i/\i<v then p (u+v-1-i) else p i):=by
 refine#v[g.base.setArr<|mirror_size _ _ _ _,λi j a b e=>?_,λi a=>?_,λi a=>?_]
 .have q:=g.inj;try dsimp only at e
  repeat' split at e
  all_goals first
   | omega
   | (have:=q _ _ (by omega) (by omega) e;omega)
 .have e:=getElem?_mirror_all (xs:=arrOf st) (i:=u) (j:=v) (by rw[g.base.size];exact hv) i;show(mirror (arrOf st) u v<|(v-u) / 2)[i]? = _;rw[e];repeat' split
  .exact g.at_ _ (by omega)
  .exact g.at_ _ a
 .try dsimp only
  split
  .exact g.lt _ (by omega)
  .exact g.lt _ a
def tj {st:SortSt}{p:Nat->Nat}{n ok:Nat}{Q:Bool->SortSt->Prop}(hL:gL prog w A s kd a0 κ)(hn:n<=a0.size)(hok:ok<=n)(hB:SG kd a0 st p)(hs:SoS κ p ok)
  (h:∀st' p',SG kd a0 st' p'->SoS κ p' n->Q true st'):wpS (model prog w) A E s (binarySort' 0 n ok) Q st:=by
 rw[binarySort'_eq];simp only[Nh];refine NA (wpS_mono (QI (I:=λk c st'=>c=(none,())/\∃p',SG kd a0 st' p'/\SoS κ p' (min k n))
  (Q:=λc st'=>c=(none,())/\∃p',SG kd a0 st' p'/\SoS κ p' n) ?step ?fin ?init) ?post)
 case post =>
  rintro c st' ⟨rfl,p',m,e⟩
  exact Oe<|h st' p' m e
 case init =>
  refine#v[rfl,p,hB,?_]
  by_cases u:ok=0
  .subst u
   refine hs.more (by omega) λi j F N=>?_
   have:i=j:=by omega
   subst this;exact Qy _
  .rw[show min (max ok 1) n=ok by omega];exact hs
 case fin =>
  rintro c st' ⟨O,p',m,e⟩
  refine#v[O,p',m,?_]
  rwa [show min (max (max ok 1) n) n=n by omega]at e
 case step =>
  rintro k c st' P M ⟨rfl,p',t,d⟩
  rw[show min k n=k by omega]at d
  have H:k<a0.size:=by omega
  have e:=d.sorted
  have m:=t.base
  refine NA (wpS_mono (QI (I:=λx c a=>a=st'/\∃l r,c=(none,l,r)/\l<=r/\r<=k/\r-l<=k-x /\
    (∀i,i<l->κ (p' i) <= κ (p' k))/\(∀i,r<=i->i<k->κ (p' k) < κ (p' i)))
   (Q:=λc a=>a=st'/\∃l r,c=(none,l,r)/\l<=k /\
    (∀i,i<l->κ (p' i) <= κ (p' k))/\(∀i,l<=i->i<k->κ (p' k) < κ (p' i))) ?istep ?ifin ?iinit) ?ipost)
  case iinit=>exact#v[rfl,0,k,rfl,by omega,by omega,by omega,λi y=>by omega,λi u z=>by omega]
  case ifin =>
   rintro c a ⟨rfl,l,r,rfl,C,o,L,f,g⟩
   have:l=r:=by omega
   subst this
   exact#v[rfl,l,l,rfl,o,f,g]
  case istep =>
   rintro x c a _ K ⟨rfl,l,r,rfl,C,o,L,f,g⟩
   dsimp only
   by_cases v:l >= r
   .rw[Mx v]
    have:l=r:=by omega
    subst this
    exact Oe #v[rfl,l,l,rfl,o,f,g]
   .rw[MC v]
    refine NA (mV t hL H (by omega) (by omega) ?_)
    by_cases b:κ (p' k) < κ (p'<|(l+r) / 2)
    .simp only[b,Rh,Of]
     refine Oe #v[rfl,l,(l+r) / 2,rfl,by omega,by omega,by omega,f,λi u z=>?_]
     exact Int.lt_of_lt_of_le b<|e _ _ u z
    .simp only[b,RJ,Na,NJ]
     refine Oe #v[rfl,(l+r) / 2+1,r,rfl,by omega,by omega,by omega,λi u=>?_,g]
     exact Int.le_trans (e i ((l+r) / 2) (by omega)<|by omega)<|Int.not_lt.1 b
  case ipost =>
   rintro c a ⟨rfl,l,r,rfl,D,f,g⟩
   show wpS _ _ _ _ (do moveDown' k l;pure (ForInStep.yield (none,()))) _ _
   rw[moveDown'_eq]
   refine NA<|wpS_modify<|Oe #v[rfl,_,t.bub H D,?_]
   rw[show min (k+1) n=k+1 by omega]
   have J:=d.2.1 k<|Mz _
   have B:∀i,i<l->Lx κ (p' i) (p' k):=λi y=>by
    have q:=f i y;rcases RZ q with q | q
    .exact .inl q
    .refine .inr #v[q,?_];rw[J];exact d.2.2 i (by omega)
   have G:∀i,l<=i->i<k->Lx κ (p' k) (p' i):=λi u z=>by have q:=g i u z;exact .inl q
   refine#v[λi j F N=>?_,λi y=>?_,λi y=>?_]
   .dsimp only
    repeat' split
    all_goals first
     | (exfalso;omega)
     | exact B _ (by omega)
     | exact G _ (by omega) (by omega)
     | exact d.1 _ _ (by omega) (by omega)
   .dsimp only
    rw[MC (by omega),MC<|by omega]
    exact d.2.1 i (by omega)
   .dsimp only
    repeat' split
    .rw[J];omega
    .have:=d.2.2 (i-1) (by omega);omega
    .have:=d.2.2 i (by omega);omega
def vf {st:SortSt}{p:Nat->Nat}{a:Nat}{Q:AscSt->SortSt->Prop}(hL:gL prog w A s kd a0 κ)(hn:nrem<=a0.size)(ha:1<=a)(han:a<=nrem)(hG:SG kd a0 st p)
  (hs:SoK κ p a)
  (h:∀n,a<=n->n<=nrem->SoK κ p n->(n=nrem \/ κ (p n) < κ (p<|n-1))->Q (none,n) st) :
  wpS (model prog w) A E s (ascLoop a nrem) Q st:=by
 unfold ascLoop;refine QI (I:=λx c e=>e=st/\c=(none,x)/\SoK κ p x) ?step ?fin #v[rfl,rfl,hs];case fin =>
  rintro c e ⟨rfl,rfl,d⟩
  rw[show max a nrem=nrem by omega]at d ⊢
  exact h nrem han (Mz _) d<|.inl rfl
 case step =>
  rintro x c e m o ⟨rfl,rfl,d⟩
  dsimp only
  refine NA (mV hG hL (by omega) (by omega) (by omega) ?_)
  by_cases b:κ (p x) < κ (p<|x-1)
  .simp only[b,Rh,Of]
   exact Oe (h x m (by omega) d<|.inr b)
  .simp only[b,RJ,Na,NJ]
   refine Oe #v[rfl,rfl,λi j k q=>?_]
   by_cases f:j<x
   .exact d i j k f
   .have g:j=x:=by omega
    subst g
    by_cases l:i=j
    .subst l;exact Qy _
    .exact Int.le_trans (d i (j-1) (by omega)<|by omega)<|Int.not_lt.1 b
def DoS (κ:Nat->Int)(p:Nat->Nat)(n:Nat):Prop:=(∀i j,i<j->j<n->Lx κ (p j) (p i))/\(∀i,n<=i->p i=i)/\∀i,i<n->p i<n
def nU {st:SortSt}{p:Nat->Nat}{n:Nat}{Q:Option Nat->SortSt->Prop}(hL:gL prog w A s kd a0 κ)(hn:nrem<=a0.size)(h1:1<=n)(hnn:n<=nrem)(hB:SG kd a0 st p)
  (hs:DoS κ p n) (h:∀m st' p',SG kd a0 st' p'->1<=m->m<=nrem->SoS κ p' m->Q (some m) st') :
  wpS (model prog w) A E s (tail3 n nrem) Q st:=by
 unfold tail3;refine NA<|wpS_reverse ?_;have f:=hB.mir (u:=0) (v:=n) (by omega);have e:SoS κ (λi=>if 0<=i/\i<n then p (0+n-1-i) else p i) n:=by
  refine#v[λi j g k=>?_,λi d=>?_,λi d=>?_]
  .dsimp only;rw[Mx (by omega),Mx<|by omega];exact hs.1 _ _ (by omega) (by omega)
  .dsimp only;rw[MC<|by omega];exact hs.2.1 i d
  .dsimp only;rw[Mx<|by omega];exact hs.2.2 _ (by omega)
 exact NA (vf hL hn h1 hnn f e.sorted λm c b a _=>Oe<|h m _ _ f (by omega) b<|e.more c a)
def GoS (κ:Nat->Int)(p:Nat->Nat)(g n:Nat):Prop :=
 DoS κ p g/\g<n/\(∀i,g<=i->i<n->κ i = κ (n-1))/\∀i,i<g->κ (n-1) < κ (p i)
def GoS.close {st:SortSt}{p:Nat->Nat}{g n:Nat}(hG:SG kd a0 st p)(h:GoS κ p g n)(hn:n<=a0.size):DoS κ (λi=>if g<=i/\i<n then p (g+n-1-i) else p i) n:=by
 obtain⟨a,hg,c,hl⟩:=h;refine#v[λi j b e=>?_,λi d=>?_,λi d=>?_]
 .dsimp only;by_cases k:g<=i
  .rw[Mx (by omega),Mx (by omega),a.2.1 _ (by omega),a.2.1 _<|by omega];refine .inr #v[?_,by omega];rw[c _ (by omega) (by omega),c (g+n-1-i) (by omega)<|by omega]
  .by_cases f:g<=j
   .rw[Mx (by omega),MC (by omega),a.2.1 _<|by omega];refine .inl ?_;rw[c _ (by omega)<|by omega];exact hl i (by omega)
   .rw[MC (by omega),MC<|by omega];exact a.1 i j b (by omega)
 .dsimp only;rw[MC<|by omega];exact a.2.1 i (by omega)
 .dsimp only;split
  .rw[a.2.1 _<|by omega];omega
  .have:=a.2.2 i (by omega);omega
def GoS.close1 {p:Nat->Nat}{g n:Nat}(h:GoS κ p g n)(e:n=g+1):DoS κ p n:=by
 obtain⟨b,hg,k,hl⟩:=h;subst e;refine#v[λi j a f=>?_,λi d=>b.2.1 i (by omega),λi d=>?_]
 .by_cases c:j<g
  .exact b.1 i j a c
  .have:j=g:=by omega
   subst this;rw[b.2.1 j<|Mz _];exact .inl<|hl i a
 .by_cases c:i<g
  .have:=b.2.2 i c;omega
  .rw[b.2.1 i<|by omega];exact d
def Aq {st:SortSt}{p:Nat->Nat}{n:Nat}{Q:DescSt->SortSt->Prop}(hL:gL prog w A s kd a0 κ)(hn:nrem<=a0.size)(h1:1<=n)(hnn:n<=nrem)(hB:SG kd a0 st p)
  (hs:GoS κ p (n-1) n)
  (h:∀m neq st' p',SG kd a0 st' p'->n<=m->m<=nrem->neq+1<=m->GoS κ p' (m-(neq+1)) m->Q (none,m,neq) st') :
  wpS (model prog w) A E s (descLoop n nrem) Q st:=by
 unfold descLoop;refine QI (I:=λx c st'=>∃neq p',c=(none,x,neq)/\SG kd a0 st' p'/\neq+1<=x/\GoS κ p' (x-(neq+1)) x) ?step ?fin #v[0,p,rfl,hB,by omega,hs];case fin =>
  rintro c st' ⟨neq,p',rfl,e,q,a⟩
  rw[show max n nrem=nrem by omega]at q a ⊢
  exact h nrem neq st' p' e hnn (Mz _) q a
 case step =>
  rintro x c st' t C ⟨neq,p',rfl,e,q,a⟩
  dsimp only
  refine NA (mV e hL (by omega) (by omega) (by omega) ?_)
  have B:p' x=x:=a.1.2.1 x (by omega)
  have z:p' (x-1)=x-1:=a.1.2.1 (x-1) (by omega)
  rw[B,z]
  have put:∀{o:Nat->Nat},κ x < κ (x-1)->DoS κ o x->(∀i,i<x->κ (x-1) <= κ (o i))->GoS κ o (x+1-(0+1)) (x+1):=by
   intro o b d F;rw[show x+1-(0+1)=x by omega];refine#v[d,by omega,λi h1 D=>?_,λi k=>?_]
   .rw[show i=x by omega];rfl
   .exact Int.lt_of_lt_of_le b<|F i k
  have l:∀i,i<x->κ (x-1) <= κ (p' i):=λi k=>by
   by_cases hg:i<x-(neq+1)
   .exact Int.le_of_lt<|a.2.2.2 i hg
   .rw[a.1.2.1 i<|by omega];exact Int.le_of_eq (a.2.2.1 i (by omega) k).symm
  by_cases b:κ x < κ (x-1)
  .simp only[b,Rh,Of]
   by_cases g:neq > 0
   .rw[Mx g]
    have y:=e.mir (u:=x-(neq+1)) (v:=x) (by omega)
    refine NA (wpS_reverse<|Oe #v[0,_,rfl,y,by omega,put b (a.close e<|by omega) λi k=>?_])
    try dsimp only
    split
    .exact l _ (by omega)
    .exact l _ k
   .rw[MC g]
    exact Oe #v[0,p',rfl,e,by omega,put b (a.close1<|by omega) l]
  .simp only[b,RJ,Na,NJ]
   refine NA (mV e hL (by omega) (by omega) (by omega) ?_)
   rw[B,z]
   by_cases f:κ (x-1) < κ x
   .simp only[f,Rh,Of]
    exact Oe (h x neq st' p' e t (by omega) q a)
   .simp only[f,RJ,Na,NJ]
    have j:κ x = κ (x-1):=by omega
    refine Oe #v[neq+1,p',rfl,e,by omega,?_]
    rw[show x+1-(neq+1+1)=x-(neq+1) by omega]
    refine#v[a.1,by omega,λi h1 D=>?_,λi k=>?_]
    .rw[show x+1-1=x by omega]
     by_cases r:i=x
     .subst r;rfl
     .rw[j];exact a.2.2.1 i h1 (by omega)
    .rw[show x+1-1=x by omega,j];exact a.2.2.2 i k
def fC {st:SortSt}{p:Nat->Nat}{n:Nat}{Q:Option Nat->SortSt->Prop}(hL:gL prog w A s kd a0 κ)(hn:nrem<=a0.size)(hnn:n+1<=nrem)(hB:SG kd a0 st p)
  (hs:GoS κ p n (n+1)) (h:∀m st' p',SG kd a0 st' p'->1<=m->m<=nrem->SoS κ p' m->Q (some m) st') :
  wpS (model prog w) A E s (descPart n nrem) Q st:=by
 unfold descPart;refine NA<|wpS_lift<|OG #v[rfl,?_];refine NA (Aq hL hn (by omega) hnn hB hs λm e st' p' b f c g d=>?_);dsimp only;by_cases a:e > 0
 .rw[Mx a];exact NA (wpS_reverse<|nU hL hn (by omega) c (b.mir<|by omega) (d.close b<|by omega) h)
 .rw[MC a];exact nU hL hn (by omega) c b (d.close1<|by omega) h
def xO {st:SortSt}{Q:Option Nat->SortSt->Prop}(hL:gL prog w A s kd a0 κ)(hn:nrem<=a0.size)(h1:1<=nrem)(hB:SG kd a0 st id)
  (h:∀m st' p',SG kd a0 st' p'->1<=m->m<=nrem->SoS κ p' m->Q (some m) st') :
  wpS (model prog w) A E s (countRun' 0 nrem) Q st:=by
 rw[countRun0_eq];have t:SoS κ id 0:=#v[λi j _ r=>by omega,λi _=>rfl,λi f=>by omega];have one:SoK κ id 1:=λi j o r=>by
  have:i=j:=by omega
  subst this;exact Qy _
 refine NA (vf hL hn (Mz 1) h1 hB one λn l g c q=>?_);dsimp only;by_cases d:n=nrem
 .rw[Mx<|by simpa using d];exact Oe (h n st id hB l g<|t.more (by omega) c)
 .rw[MC<|by simpa using d];have e:κ n < κ (n-1):=q.resolve_left d;by_cases p:n > 1
  .rw[Mx p];refine NA (mV hB hL (by omega) (by omega) (by omega) ?_);simp only[id];by_cases a:κ 0 < κ (n-1)
   .simp only[a,Rh,Of];exact Oe (h n st id hB l g<|t.more (by omega) c)
   .simp only[a,RJ,Na,NJ];have b:∀j,j<n->κ j = κ (n-1):=by intro j u;have y:κ 0 <= κ j:=c 0 j (by omega) u;have x:κ j <= κ (n-1):=c j (n-1) (by omega) (by omega);omega
    refine NA (wpS_reverse<|fC hL hn (by omega) (hB.mir<|by omega) ?_ h);refine#v[#v[λi j o r=>?_,λi f=>?_,λi f=>?_],by omega,λi h1 v=>?_,λi f=>?_]
    .dsimp only;rw[Mx (by omega),Mx<|by omega];refine .inr #v[?_,by simp only[id];omega];simp only[id];rw[b _ (by omega),b (0+n-1-i)<|by omega]
    .dsimp only;rw[MC<|by omega];rfl
    .dsimp only;rw[Mx<|by omega];simp only[id];omega
    .rw[show i=n by omega];rfl
    .dsimp only;rw[Mx<|by omega];simp only[id]at e ⊢;rw[b (0+n-1-i) (by omega),show n+1-1=n by omega];exact e
  .rw[MC p];have k:n=1:=by omega
   subst k;refine fC hL hn (by omega) hB #v[#v[λi j o r=>by omega,λi f=>rfl,λi f=>f],by omega,λi h1 v=>?_,λi f=>?_] h
   .rw[show i=1 by omega]
   .rw[show i=0 by omega];exact e
def oQ (κ:Nat->Int)(a0:Array Tw)(st:SortSt):Prop :=
 failedOf st=none/\pendingOf st = #[(0,a0.size,0)]/\(arrOf st).size=a0.size/\∃p,(∀i,i<a0.size->(arrOf st)[i]? = a0[p i]?)/\SoS κ p a0.size
def SG.done {st:SortSt}{p:Nat->Nat}(g:SG kd a0 st p)(h:SoS κ p a0.size):oQ κ a0 (setPending st<|(pendingOf st).push (0,a0.size,0)) :=
 #v[g.base.failed,by show(pendingOf st).push _=_;rw[g.base.pend];rfl,g.base.size,p,g.at_,h]
def AD {st:SortSt}{Q:Unit->SortSt->Prop}(hL:gL prog w A s kd a0 κ)(hB:SG kd a0 st id)(h2:2<=a0.size)(h64:a0.size<64)
  (h:∀st',failedOf st'=none->(arrOf st').size=a0.size->(∃p,(∀i,i<a0.size->(arrOf st')[i]? = a0[p i]?)/\SoS κ p a0.size)->Q () st'):wpS (model prog w) A E s sortRuns' Q st:=by
 rw[sortRuns'_eq];refine NA<|wpS_get ?_;dsimp only;have o:minRun' a0.size a0.size 0=a0.size:=by
  obtain⟨f,C⟩:∃f,a0.size=f+1:=#v[a0.size-1,by omega];have:minRun' (f+1) a0.size 0=a0.size:=by rw[minRun'_succ,Mx h64];rfl
  rwa [<-C]at this
 simp only[hB.base.size,o];refine NA (wpS_mono (QI
  (I:=λx c st'=>(x=0/\c=(none,0)/\SG kd a0 st' id)\/(1<=x/\c=(none,a0.size)/\oQ κ a0 st'))
  (Q:=λc st'=>c=(none,a0.size)/\oQ κ a0 st') ?step ?fin (.inl #v[rfl,rfl,hB])) ?post)
 case fin =>
  rintro c st' (⟨v,_,_⟩ | ⟨_,D,b⟩)
  .omega
  .exact#v[D,b]
 case step =>
  rintro x c st' _ v (⟨rfl,rfl,t⟩ | ⟨u,rfl,b⟩)
  .dsimp only
   rw[MC<|by omega]
   simp only[Nat.sub_zero,Nat.min_self,Nh]
   refine NA (xO hL (Mz _) (by omega) t λm l G d y q e=>?_)
   dsimp only
   by_cases g:m<a0.size
   .rw[Mx g]
    refine NA<|wpS_lift<|OG #v[rfl,?_]
    refine NA (tj hL (Mz _) q d e λk F j n=>?_)
    simp only[OH,Na,NJ]
    refine NA<|wpS_get ?_
    have r:(pendingOf k).back? = none:=by rw[j.base.pend];rfl
    rw[r]
    dsimp only
    exact NA (wpS_modify<|Oe<|.inr #v[by omega,rfl,j.done n])
   .rw[MC g]
    have z:m=a0.size:=by omega
    subst z
    refine NA<|wpS_get ?_
    have r:(pendingOf l).back? = none:=by rw[d.base.pend];rfl
    rw[r]
    dsimp only
    exact NA (wpS_modify<|Oe<|.inr #v[by omega,rfl,d.done e])
  .dsimp only
   rw[Mx<|Mz _]
   exact Oe #v[rfl,b]
 case post =>
  rintro c st' ⟨rfl,b⟩
  dsimp only
  refine NA (wpS_mono (QI (I:=λ_ c a=>a=st'/\c=(none,())) (Q:=λc a=>a=st'/\c=(none,())) ?_ (λ_ _ B=>B) #v[rfl,rfl]) ?_)
  .rintro x c a _ _ ⟨rfl,rfl⟩
   refine NA<|wpS_get ?_
   rw[Mx (by rw[b.2.1];exact Mz 1)]
   exact Oe #v[rfl,rfl]
  .rintro c a ⟨rfl,rfl⟩
   exact Oe<|h _ b.1 b.2.2.1 b.2.2.2
end
end L2
namespace L2
open PySem PySem.Spec PyProof.Rows PySem.W
section
def cdO (c:SQ)(q:Str):HO:=.ext λh=>h.CodeRec (.ref c) q
def FA (H:Hp)(P:SQ)(q:Str):Prop:=∃a,H P=some (.tbl a)/\TriplesOk a.toList/\∀b d,codeAmong b a.toList=some d->∃c,d = .ref c/\H c=some (cdO c q)
def BMd (base:Tb)(mg:Str->Option SN):Prop:=∃b a,mg "__builtins__" = some (.ref b)/\b≠builtinsNs/\base.get? b=some a/\a.cls = .type "module" /\ a.dict=some builtinsNs/\a.data = .plain
end
section
def tO:V->Int
 | .int i=>i
 | .bl b=>if b then 1 else 0
 | _=>0
def ja (ks:List V)(i:Nat):Int:=tO<|ks.getD i .non
def By (ks xs ys:List V):Prop:=ys.length=xs.length/\∃p,SoS (ja ks) p xs.length/\∀i,i<xs.length->ys[i]? = xs[p i]?
end
section
def atl {α:Type}(a:Array α):a.toList.length=a.size:=ND
end
section
section
variable {prog:SS}{w:SU}{A:SW}{E:SN->SR->Prop}{s:SR}
def lC {a:SQ}{vs:List SN}{n:Nat}{kd:SortKind}{κ:Nat->Int}{P:PySem.Fin->SR->Prop}(ho:s.heap.get? a=some (seqObj "list" vs.toArray n))(h64:vs.length<64)
  (hkind:2<=vs.length->∀(h':Tb) (Q:SortKind->SR->Prop),(∀b o,b≠a->s.heap.get? b=some o->h'.get? b=some o)->Q kd { s with heap:=h' }->Tn (model prog w) A (keyKind' vs.toArray) Q E { s with heap:=h' })
  (hlt:∀h':Tb,(∀b o,b≠a->s.heap.get? b=some o->h'.get? b=some o)->gL prog w A { s with heap:=h' } kd (pairsOf vs) κ)
  (h:∀(out:Array SN) (p:Nat->Nat),out.size=vs.length->(∀i,i<vs.length->out.toList[i]? = vs[p i]?)->SoS κ p vs.length->P (.done<|.ret .none) { s with heap:=sortedHeap s.heap a vs out }) :
  Tn (model prog w) A (Builtin.«list.sort» #v[[.ref a],[]]) P E s:=by
 rw[list_sort_plain];have v:a<s.heap.objs.size:=MA ho;refine Ms<|listItems_at ho rfl ?_;refine Ms (listUpdate_at ho rfl ?_ (by rw[MO,Nr];omega)<|Nv _);obtain⟨f,q⟩:∃f,(s.heap.update a<|Te.mapSeq λ_=>#[]).get? a=some (seqObj "list" #[] f):=#v[_,get?_update_seq ho<|λ_=>#[]];refine Ms<|seqEpoch_at q rfl ?_;refine Ms (wpAny_newTuple ?_ (by show vs.length<=_;rw[Nr];omega));refine Ms<|wpAny_newList ?_<|Nv _;refine NL ?_;have d:(((s.heap.update a<|Te.mapSeq λ_=>#[]).push<|seqObj "tuple" vs.toArray 0).push<|seqObj "list" #[] 0).get? a=some (seqObj "list" #[] f):=by rw[Tb.get?_push_ne _ _ _ (by rw[size_push',Rt];exact MR<|Px v),Tb.get?_push_ne _ _ _ (by rw[Rt];exact MR v)];exact q
 have s1:=PN s.heap a (Te.mapSeq λ_=>(#[]:Array SN));have kept:∀b o,b≠a->s.heap.get? b=some o->(((s.heap.update a<|Te.mapSeq λ_=>#[]).push<|seqObj "tuple" vs.toArray 0).push<|seqObj "list" #[] 0).get? b=some o:=λb o y e=>Mu _<|Mu _<|(s1.2 b y).trans e
 show Tn (model prog w) A _ P E { s with heap:=((s.heap.update a<|Te.mapSeq λ_=>#[]).push<|seqObj "tuple" vs.toArray 0).push (seqObj "list" #[] 0) };dsimp only;have m:vs.toArray.size=vs.length:=by simp
 have fin:∀(c:SortSt) (p:Nat->Nat),(arrOf c).size=vs.length->(∀i,i<vs.length->(arrOf c)[i]? = (pairsOf vs)[p i]?)->SoS κ p vs.length->P (.done<|.ret .none) { s with heap:=sortedHeap s.heap a vs ((arrOf c).map (·.2)) }:=by intro c p l t r;refine h _ p (by rw[Array.size_map];exact l) (λi g=>?_) r;rw[Ql,Array.getElem?_map,t i g,<-Ql,pairsOf_toList];have u:=r.2.2 i g;have f:vs[p i]? = some vs[p i]:=MN u;rw[show(vs.zip vs)[p i]? = some (vs[p i],vs[p i]) from QE.2 #v[f,f],f];rfl
 by_cases k:vs.toArray.size<2
 .rw[Mx k,Mx k];refine Ms<|Mt ?_;rw[StateT.run_pure];refine Ms<|Mt ?_;dsimp only;refine Ms<|seqEpoch_at d rfl ?_;refine Ms (listUpdate_at d rfl ?_ (hsz2:=by rw[Array.size_map];show(pairsOf vs).size<=_;rw[RK,Nr];omega));simp only[bne_self_eq_false,Na,NJ];rw[m]at k;exact Mt (fin (SortSt.mk' general' (vs.toArray.zip vs.toArray) #[] 7 none) id (RK vs) (λi _=>rfl) #v[λi j G F=>by omega,λi _=>rfl,λi g=>g])
 .rw[MC k,MC k];rw[m]at k;refine Ms (hkind (by omega) _ _ kept ?_);refine Ms (MY (AD (a0:=pairsOf vs) (κ:=κ) (kd:=kd) (st:=SortSt.mk' kd (vs.toArray.zip vs.toArray) #[] 7 none)
   (Q:=λ_ c=>failedOf c=none/\(arrOf c).size=(pairsOf vs).size/\∃p,(∀i,i<(pairsOf vs).size->(arrOf c)[i]? = (pairsOf vs)[p i]?)/\SoS κ p (pairsOf vs).size)
   (hlt _ kept) #v[#v[rfl,rfl,rfl,rfl],λi j _ _ e=>e,λi _=>rfl,λi g=>g] (by rw[RK];omega) (by rw[RK];exact h64) λc C B z=>#v[C,B,z]) ?_ λ_ _ e=>e)
  rintro ⟨⟨⟩,c⟩ D ⟨rfl,x,l,p,t,r⟩;rw[RK]at l t r;dsimp only;refine Ms<|seqEpoch_at d rfl ?_;refine Ms (listUpdate_at d rfl ?_ (hsz2:=by rw[Array.size_map,l,Nr];omega));rw[x];simp only[bne_self_eq_false,Na,NJ];exact Mt<|fin c p l t r
end
end
end L2
namespace L2
def cb {α:Type}(p:Int × α):List (Int × α)->List (Int × α)
 | []=>[p]
 | q::r=>if p.1<=q.1 then p::q::r else q::cb p r
def N3 {α:Type}:List (Int × α)->List (Int × α)
 | []=>[]
 | p::r=>cb p<|N3 r
theorem mx {α β:Type}(f:α->β)(p:Int × α):∀l:List (Int × α),cb (p.1,f p.2) (l.map λq=>(q.1,f q.2))=(cb p l).map λq=>(q.1,f q.2)
 | []=>rfl
 | q::r=>by
  simp only[MB,cb];split
  .rfl
  .rw[MB,mx f p r]
theorem cm {α β:Type}(f:α->β):∀l:List (Int × α),N3 (l.map λq=>(q.1,f q.2))=(N3 l).map λq=>(q.1,f q.2)
 | []=>rfl
 | p::r=>by rw[MB,N3,N3,cm f r];exact mx f p _
theorem dS {α:Type}(p:Int × α):∀l:List (Int × α),(cb p l).Perm (p::l)
 | []=>.refl _
 | q::r=>by
  rw[cb];split
  .exact .refl _
  .exact((dS p r).cons q).trans<|.swap p q r
theorem V7 {α:Type}:∀l:List (Int × α),(N3 l).Perm l
 | []=>.refl _
 | p::r=>(dS p _).trans<|(V7 r).cons p
def LxP (a b:Int×Nat):Prop:=a.1<b.1\/(a.1=b.1/\a.2<b.2)
theorem qR {p:Int×Nat}:∀{l:List (Int×Nat)},l.Pairwise LxP->(∀q∈l,p.2<q.2)->(cb p l).Pairwise LxP
 | [],_,_=>by simp[cb]
 | q::r,h,hl=>by
  rw[Ox]at h;rw[cb];split
  .rename_i b;refine Ox.2 #v[λz a=>?_,Ox.2 h];have c:LxP p q:=by
    rcases RZ b with e | e
    .exact .inl e
    .exact .inr #v[e,hl q MD]
   rcases MJ.1 a with rfl | a
   .exact c
   .have f:=h.1 z a;unfold LxP at c f ⊢;omega
  .rename_i d;refine Ox.2 #v[λz a=>?_,qR h.2 λz a=>hl z<|Mw _ a];rcases MJ.1 ((dS p r).mem_iff.mp a) with rfl | a
   .exact .inl (by omega)
   .exact h.1 z a
theorem jq:∀{l:List (Int×Nat)},l.Pairwise (λa b=>a.2<b.2)->(N3 l).Pairwise LxP
 | [],_=>.nil
 | p::r,h=>by rw[Ox]at h;exact qR (jq h.2) λq c=>h.1 q<|(V7 r).mem_iff.mp c
theorem jL:∀{l₁ l₂:List (Int×Nat)},l₁.Perm l₂->l₁.Pairwise LxP->l₂.Pairwise LxP->l₁=l₂
 | [],l₂,p,_,_=>p.nil_eq
 | a::r,[],p,_,_=>by have:=p.length_eq;simp at this
 | a::r,b::t,p,h1,h2=>by
  rw[Ox]at h1 h2;have g:a=b:=by
   rcases MJ.1 (p.mem_iff.1<|MD (a:=a) (l:=r)) with e | e
   .exact e
   .rcases MJ.1 (p.mem_iff.2<|MD (a:=b) (l:=t)) with c | c
    .exact c.symm
    .have f:=h2.1 a e;have d:=h1.1 b c;unfold LxP at f d;omega
  subst g;rw[jL (p.cons_inv) h1.2 h2.2]
theorem hX:∀(n:Nat) (l:List Nat),l.Nodup->(∀x∈l,x<n)->l.length=n->l.Perm (List.range n)
 | 0,l,_,_,hl=>by rw[PQ.1 hl];exact .refl _
 | n+1,l,d,f,hl=>by
  have c:∀(m:Nat) (l:List Nat),l.Nodup->(∀x∈l,x<m)->l.length<=m:=by
   intro m;induction m with
   | zero =>
    intro l _ f;cases l with
    | nil=>simp
    | cons a r=>exact absurd (f a MD) (by omega)
   | succ m h =>
    intro l d f;by_cases g:m∈l
    .have e:=h (l.erase m) (d.erase m) λx b=>by
      have j:=f x<|List.mem_of_mem_erase b;have i:x≠m:=λz=>by subst z;exact(List.Nodup.not_mem_erase d) b
      omega
     rw[List.length_erase_of_mem g]at e;omega
    .have e:=h l d λx b=>by
      have j:=f x b;have i:x≠m:=λz=>g<|z▸b
      omega
     omega
  have k:n∈l:=by
   by_cases g:n∈l
   .exact g
   .have e:=c n l d λx b=>by
     have j:=f x b;have i:x≠n:=λz=>g<|z▸b
     omega
    omega
  have h:=hX n (l.erase n) (d.erase n) (λx b=>by
   have j:=f x<|List.mem_of_mem_erase b;have i:x≠n:=λz=>by subst z;exact(List.Nodup.not_mem_erase d) b
   omega) (by rw[List.length_erase_of_mem k];omega)
  refine(List.perm_cons_erase k).trans<|(h.cons n).trans ?_;rw[List.range_succ];exact(List.perm_append_singleton n<|List.range n).symm
def ye {ks xs ys:List V}(h:By ks xs ys)(hl:ks.length=xs.length):ys=(N3<|(ks.map tO).zip xs).map Prod.snd:=by
 obtain⟨o,p,d,g⟩:=h;generalize hn:xs.length=n at o d g hl;have m:((List.range n).map p).Nodup:=by
  rw[List.nodup_iff_pairwise_ne,Py];intro i j b f a;have c:j<n:=by simpa using f
  simp only[Pa,QJ];intro e;have q:=d.1 i j a c;rw[e]at q;unfold Lx at q;omega
 have pr:=hX n ((List.range n).map p) m (λx r=>by obtain⟨i,b,rfl⟩:=Nb.1 r;exact d.2.2 i<|Qk.1 b) (by simp)
 have l:(((List.range n).map p).map λi=>(ja ks i,i)).Pairwise LxP:=by
  rw[Py];intro i j b f a;have c:j<n:=by simpa using f
  simp only[Pa,QJ];exact d.1 i j a c
 have k:(N3<|(List.range n).map λi=>(ja ks i,i)).Pairwise LxP:=jq (by rw[Py];intro i j b f a;simpa using a)
 have e:=jL ((pr.map λi=>(ja ks i,i)).trans (V7 _).symm) l k;have v:(ks.map tO).zip xs=((List.range n).map λi=>(ja ks i,i)).map λq=>(q.1,xs.getD q.2 .non):=by
  refine List.ext_getElem? λi=>?_
  rw[Nn];by_cases b:i<n
  .have u:(ks.map tO)[i]? = some (ja ks i):=by rw[MQ];unfold ja;rw[Nw,MN<|by omega];rfl
   have t:xs[i]? = some (xs.getD i .non):=by rw[Nw,MN<|by omega];rfl
   rw[show((ks.map tO).zip xs)[i]? = some (ja ks i,xs.getD i .non) from QE.2 #v[u,t],MQ,OC b];rfl
  .rw[OL (by rw[List.length_zip,Mv];omega),OL (by simp;omega)]
 rw[v,cm<|λi=>xs.getD i .non,<-e,Nn,Nn,Nn];refine List.ext_getElem? λi=>?_
 by_cases b:i<n
 .rw[g i b,MQ,OC b];have s:=d.2.2 i b;show xs[p i]? = some (xs.getD (p i) .non);rw[Nw,MN<|by omega];rfl
 .rw[OL (by omega),OL (by simp;omega)]
end L2
namespace L3
open PySem
section
open Sem (wp)
structure SubKind (prog:SS) (w:SU) (K:Type) [DecidableEq K] extends HeapKind prog w K where
 deep:Nat
 quietN:∀{A:SW} {E:SN->SR->Prop} {s:SR} {k:K} {a:SQ} {n:Nat} {Q:Bool->SR->Prop},deep<=n->is s.heap k a->Q true s->Tn (model prog w) A (eqIsQuiet n<|.ref a) Q E s
section
variable {prog:SS}{w:SU}{K K2:Type}[DecidableEq K][DecidableEq K2](knd:KeyKind prog w K)(sub:SubKind prog w K2)(p:Nat->Bool)
inductive ItemsN (h:Tb):Nat->List (K ⊕ K2)->List SN->Prop
 | nil {j:Nat}:ItemsN h j [] []
 | val {j:Nat} {k:K} {v:SN} {ks:List (K ⊕ K2)} {vs:List SN}:p j=false->knd.is k v=true->ItemsN h (j+1) ks vs->ItemsN h j (.inl k::ks) (v::vs)
 | ref {j:Nat} {k:K2} {a:SQ} {ks:List (K ⊕ K2)} {vs:List SN}:p j=true->sub.is h k a->ItemsN h (j+1) ks vs->ItemsN h j (.inr k::ks) (.ref a::vs)
def K7 (h:Tb)(ks:List (K ⊕ K2))(a:SQ):Prop:=∃o items n,h.get? a=some o/\o.cls = .type "tuple" /\ o.data = .seq items n/\ItemsN knd sub p h 0 ks items.toList
variable {knd sub p}
def ItemsN.inj {h:Tb}{j:Nat}{x y:List (K ⊕ K2)}{vs:List SN}(hx:ItemsN knd sub p h j x vs)(hy:ItemsN knd sub p h j y vs):x=y:=by
 induction hx generalizing y with
 | nil=>cases hy;rfl
 | val e f _ d =>
  cases hy with
  | val a c b=>rw[knd.inj _ _ _ f c,d b]
  | ref a c b=>rw[e]at a;cases a
 | ref e f _ d =>
  cases hy with
  | val a c b=>rw[e]at a;cases a
  | ref a c b=>rw[sub.inj f c,d b]
def K7.typeIs {s:SR}{ks:List (K ⊕ K2)}{a:SQ}(x:K7 knd sub p s.heap ks a):s.TypeIs (.ref a) "tuple":=let #v[o,_,_,b,c,_]:=x;#v[o,b,c]
def K7.inj {h:Tb}{a:SQ}{x y:List (K ⊕ K2)}(hx:K7 knd sub p h x a)(hy:K7 knd sub p h y a):x=y:=by
 obtain⟨o,items,n,g,_,j,i⟩:=hx;obtain⟨f,c,l,d,_,b,e⟩:=hy;obtain rfl:o=f:=MH<|g.symm.trans d;rw[j]at b;injection b with k _
 subst k;exact i.inj e
def ItemsN.keeps {h h':Tb}{d:SQ}{o:Te}{es ep}{j:Nat}{ks:List (K ⊕ K2)}{vs:List SN}(x:ItemsN knd sub p h j ks vs)(ho:h.get? d=some o)(hd:o.data = .dict es ep)(hs:Tb.SameBut d h h'):ItemsN knd sub p h' j ks vs:=by
 induction x with
 | nil=>exact .nil
 | val b c _ a=>exact .val b c a
 | ref b c _ a=>exact .ref b (sub.keeps c ho hd hs) a
def K7.keeps {h h':Tb}{ks:List (K ⊕ K2)}{a d:SQ}{o:Te}{es ep}(x:K7 knd sub p h ks a)(ho:h.get? d=some o)(hd:o.data = .dict es ep)(hs:Tb.SameBut d h h'):K7 knd sub p h' ks a:=by
 obtain⟨f,items,n,c,i,b,g⟩:=x;have e:a≠d:=by rintro rfl;obtain rfl:f=o:=MH<|c.symm.trans ho;rw[hd]at b;exact nomatch b
 exact#v[f,items,n,(hs.2 a e).trans c,i,b,g.keeps ho hd hs]
def fj (knd:KeyKind prog w K)(sub:SubKind prog w K2):K ⊕ K2->Int
 | .inl k=>knd.hash k
 | .inr k=>sub.hash k
def gq (sub:SubKind prog w K2):K ⊕ K2->Nat
 | .inl _=>1
 | .inr k=>sub.draws k
def aH (knd:KeyKind prog w K)(sub:SubKind prog w K2)(ks:List (K ⊕ K2)):Int:=reduceHash<|Builtin.Tuple.tupleHashOf<|ks.map<|fj knd sub
variable {A:SW}{E:SN->SR->Prop}{s:SR}
def mY {ks:List (K ⊕ K2)}{a:SQ}{Q:Int->SR->Prop}(hu:A.units<Tv)(hr:sub.room A.in1)(hk:K7 knd sub p s.heap ks a)(h:Q (aH knd sub ks) { s with toks:=s.toks+((ks.map<|gq sub).sum+1) }) :
  Tn (model prog w) A (PySem.pyHash<|.ref a) Q E s:=by
 have g:=hk.typeIs;obtain⟨o,items,n,m,_,r,q⟩:=hk;unfold PySem.pyHash;first | unfold pyHashByItsType | skip
 first | refine Ms (wpAny_cRoomFor_or (.inr hu) ?_) | skip
 refine Ms<|Qa g QZ.lookup ?_;show Tn _ _ (if (some (SN.builtin "tuple.__hash__") == some SN.none)=true then _ else _) Q E s;rw[MC (by rw[beq_builtin_none];exact MV)];refine Ms<|Qa g QZ.lookup ?_;show Tn _ _ (callSpecialIfBoundUnlessNone? (.ref a) "__hash__" _ >>= _) Q E s;refine Ms<|Qr g QZ<|Nx QZ g F.entry_tuple_hash ?_<|F.args_tuple_hash_1 _;show Tn _ _ (Builtin.Tuple.tupleItemsOf (.ref a) >>= _) _ _ s;refine Ms<|Sa m r ?_;refine Ms ?_;rw[<-Array.forIn_toList];refine Ru _
  (λc (b:Array Int) i=>∃done left,ks=done++left/\ItemsN knd sub p s.heap done.length left c/\b.toList=done.map (fj knd sub)/\i={ s with toks:=s.toks+(done.map<|gq sub).sum })
  _ ?_ ?_ _ _ #v[[],ks,rfl,q,rfl,rfl]
 .rintro x c b i ⟨done,left,rfl,hl,f,rfl⟩;cases hl with
  | @val _ k _ d _ l j e =>refine Ms<|knd.pyHash j ?_;exact Mt #v[done++[.inl k],d,by simp,by simpa using e,by simp[f,fj],by simp[Sk,gq]]
  | @ref _ k a d _ l j e =>refine Ms<|sub.pyHash hr j ?_;exact Mt #v[done++[.inr k],d,by simp,by simpa using e,by simp[f,fj],by simp[Sk,gq]]
 .rintro b i ⟨done,left,rfl,hl,f,rfl⟩;cases hl;rw[NW]at h;show Tn _ _ (retInt<|Builtin.Tuple.tupleHashOf b.toList) _ _ _;rw[f];refine wpAny_ret_mkInt ?_;show Tn _ _ (if (decide (-(2:Int) ^ 63<=Builtin.Tuple.tupleHashOf (done.map<|fj knd sub))&&decide (Builtin.Tuple.tupleHashOf (done.map<|fj knd sub)<2 ^ 63))=true then _ else _) Q E _;unfold aH reduceHash at h;by_cases hr:(decide (-(2:Int) ^ 63<=Builtin.Tuple.tupleHashOf (done.map<|fj knd sub))&&decide (Builtin.Tuple.tupleHashOf (done.map<|fj knd sub)<2 ^ 63))=true
  .rw[Mx hr];rw[Mx hr]at h;exact Mt (by simpa [Sk] using h)
  .rw[MC hr];rw[MC hr]at h;exact Ms (OG<|Mt<|by simpa [Sk] using h)
def jW {x y:List (K ⊕ K2)}{a b:SQ}{P:Fin->SR->Prop}(hr:sub.room A)(hx:K7 knd sub p s.heap x a)(hy:K7 knd sub p s.heap y b)(h:P (.done<|.ret<|.bool<|decide (x=y)) s) :
  Tn (model prog w) A (Builtin.«tuple.__eq__» #v[[.ref a,.ref b],[]]) P E s:=by
 have Z:=hy.typeIs;obtain⟨oa,N,na,T,_,Y,V⟩:=hx;obtain⟨ob,L,nb,S,_,X,U⟩:=hy;show Tn _ _ (isInstance (.ref b) (.type "tuple") >>= _) _ _ s;refine Ms<|Rv Z isSubtype_tuple_tuple ?_;simp only[OH,Na,NJ];refine Ms<|Sa T Y ?_;refine Ms<|Sa S X ?_;refine Ms ?_;refine Ru _
  (λB r Q=>r.1=none/\Q=s/\∃j O M o m,B=List.zip o m/\ItemsN knd sub p s.heap j O o/\ItemsN knd sub p s.heap j M m/\decide (O=M)=decide (x=y)/\(o.length == m.length)=(N.size == L.size))
  _ ?_ ?_ _ _ #v[rfl,rfl,0,x,y,N.toList,L.toList,rfl,V,U,rfl,by simp]
 .rintro ⟨u,v⟩ B r Q ⟨F,rfl,j,O,M,o,m,l,D,k,c,i⟩;cases D with
  | nil=>simp at l
  | @val _ H u' q n R h1 z =>
   cases k with
   | nil=>simp at l
   | @ref _ C b' f d g J e=>rw[R]at g;cases g
   | @val _ C v' f d g J e =>
    simp only[Qc,List.cons.injEq,Prod.mk.injEq]at l;obtain⟨⟨rfl,rfl⟩,rfl⟩:=l;refine Ms<|knd.eqBool (a:=H) (b:=C) h1 J ?_;by_cases G:H=C
    .subst G;rw[MW rfl];simp only[OH,Na,NJ];refine Mt #v[rfl,rfl,j+1,q,f,n,d,rfl,z,e,?_,by simpa using i];rw[<-c];by_cases t:q=f
     .simp[t]
     .simp[t]
    .rw[MX G];simp only[Bool.not_false,Of];have W:decide (x=y)=false:=by rw[<-c];simp[G]
     rw[W]at h;exact Ms<|Mt<|Mt<|Mt h
  | @ref _ H a' q n R h1 z =>
   cases k with
   | nil=>simp at l
   | @val _ C v' f d g J e=>rw[R]at g;cases g
   | @ref _ C b' f d g J e =>
    simp only[Qc,List.cons.injEq,Prod.mk.injEq]at l;obtain⟨⟨rfl,rfl⟩,rfl⟩:=l;refine Ms<|sub.eqBool (x:=H) (y:=C) hr h1 J ?_;by_cases G:H=C
    .subst G;rw[MW rfl];simp only[OH,Na,NJ];refine Mt #v[rfl,rfl,j+1,q,f,n,d,rfl,z,e,?_,by simpa using i];rw[<-c];by_cases t:q=f
     .simp[t]
     .simp[t]
    .rw[MX G];simp only[Bool.not_false,Of];have W:decide (x=y)=false:=by rw[<-c];simp[G]
     rw[W]at h;exact Ms<|Mt<|Mt<|Mt h
 .rintro ⟨r1,r2⟩ Q ⟨F,rfl,j,O,M,o,m,l,D,k,c,i⟩;simp only at F;subst F;refine Mt ?_;have I:(N.size == L.size)=decide (x=y):=by
   rw[<-c,<-i];cases D with
   | nil =>
    cases k with
    | nil=>simp
    | val _ _ _=>simp
    | ref _ _ _=>simp
   | val _ _ _ =>
    cases k with
    | nil=>simp
    | val _ _ _=>simp at l
    | ref _ _ _=>simp at l
   | ref _ _ _ =>
    cases k with
    | nil=>simp
    | val _ _ _=>simp at l
    | ref _ _ _=>simp at l
  show P (.done<|.ret<|.bool<|N.size == L.size) Q;rw[I];exact h
def nC {x y:List (K ⊕ K2)}{a b:SQ}{Q:Bool->SR->Prop}(hu:A.units<Tv)(hr:sub.room A.in1)(hx:K7 knd sub p s.heap x a)(hy:K7 knd sub p s.heap y b)(h:Q (decide (x=y)) s) :
  Tn (model prog w) A (PySem.eqBool (.ref a)<|.ref b) Q E s:=by
 unfold PySem.eqBool;try with_reducible refine NL ?_
 show Tn _ _ (if (SN.ref a == SN.ref b)=true then _ else _) Q E s;by_cases c:(SN.ref a == SN.ref b)=true
 .rw[Mx c];have e:a=b:=by have:=eq_of_beq c;injection this
  subst e;obtain rfl:=hx.inj hy;exact Ms (OG<|Mt<|by simpa using h)
 .rw[MC c];refine Ms (wpAny_richCompare_same_room (op:=.Eq) hx.typeIs hy.typeIs F.slot_tuple_eq
   (Nx F.slot_tuple_eq hx.typeIs F.entry_tuple_eq (jW ?rm hx hy #v[_,rfl,(λe=>nomatch e),Ot h])<|F.args_tuple_eq_2 _ _) hu)
  case rm=>exact hr
def ia {ks:List (K ⊕ K2)}{a:SQ}{n:Nat}{Q:Bool->SR->Prop}(hn:sub.deep+1<=n)(hk:K7 knd sub p s.heap ks a)(h:Q true s):Tn (model prog w) A (eqIsQuiet n<|.ref a) Q E s:=by
 have g:=hk.typeIs;obtain⟨o,items,m,l,_,t,q⟩:=hk;obtain⟨n,rfl⟩:∃k,n=k+1:=#v[n-1,by omega];unfold eqIsQuiet;refine Ms<|Qa g F.slot_tuple_eq.lookup ?_;show Tn _ _ (isInstance (.ref a) (.type "tuple") >>= _) _ _ s;refine Ms<|Rv g isSubtype_tuple_tuple ?_;simp only[OH,Na,NJ];refine Ms<|Ob l t ?_;refine Ms ?_;show Tn _ _ (forIn items _ _) _ _ s;rw[<-Array.forIn_toList];refine Ru _ (λb r d=>r.1=none/\d=s/\∃j ks,ItemsN knd sub p s.heap j ks b) _ ?_ ?_ _ _ #v[rfl,rfl,0,ks,q]
 .rintro v b r d ⟨e,rfl,j,ks,c⟩;cases c with
  | val i f ht =>rw[eqIsQuiet_byValue _<|knd.byValue _ _ f];refine Ms<|Mt ?_;simp only[OH,Na,NJ];exact Mt #v[rfl,rfl,_,_,ht]
  | ref i f ht =>refine Ms (sub.quietN (by omega) f ?_);simp only[OH,Na,NJ];exact Mt #v[rfl,rfl,_,_,ht]
 .rintro ⟨x,u⟩ d ⟨e,rfl,_⟩;simp only at e;subst e;exact Mt h
end
def vo {prog:SS}{w:SU}{K K2:Type}[DecidableEq K][DecidableEq K2](knd:KeyKind prog w K)(sub:SubKind prog w K2)(p:Nat->Bool)(hd:sub.deep<8):SubKind prog w (List<|K ⊕ K2) where
 is:=K7 knd sub p
 hash:=aH knd sub
 draws:=λe=>(e.map<|gq sub).sum+1
 room:=λA=>A.units<Tv/\sub.room A.in1
 inj:=λd c=>d.inj c
 keeps:=λx g hd f=>x.keeps g hd f
 pyHash:=λa b h=>mY a.1 a.2 b h
 eqBool:=λa d c h=>nC a.1 a.2 d c h
 quiet:=λb h=>ia (by omega) b h
 deep:=sub.deep+1
 quietN:=λi b h=>ia i b h
end
section
open Sem (wp)
def bIn (b:Bool):Int:=if b then 1 else 0
def ao (i:Int):SN->Bool
 | .int j _=>j == i
 | .bool b=>bIn b == i
 | _=>false
def M3 {i:Int}{v:SN}(h:ao i v=true):(∃t,v = .int i t)\/∃b,v = .bool b/\bIn b=i:=by
 cases v with
 | int j t=>exact .inl #v[t,by simp[ao]at h;rw[h]]
 | bool b=>exact .inr #v[b,rfl,by simpa [ao] using h]
 | _=>simp[ao]at h
section
variable {prog:SS}{w:SU}{A:SW}{E:SN->SR->Prop}{s:SR}
def nc {b:Bool}{Q:Int->SR->Prop}(h:Q (hashInt<|bIn b) { s with toks:=s.toks+1 }):Tn (model prog w) A (PySem.pyHash<|.bool b) Q E s:=by
 have a:=rawHash_range<|bIn b;unfold PySem.pyHash;have c:[SN.bool b].any SN.onHeap=false:=rfl;refine Ms ?_;rw[cRoomFor,MC (by rw[c];exact MV)];refine Mt ?_;refine Ms<|Qa (typeIs_bool s b) Rw.lookup ?_;show Tn _ _ (if (some (SN.builtin "int.__hash__") == some SN.none)=true then _ else _) Q E s;rw[MC (by rw[beq_builtin_none];exact MV)];refine Ms<|Qa (typeIs_bool s b) Rw.lookup ?_;show Tn _ _ (callSpecialIfBoundUnlessNone? (.bool b) "__hash__" _ >>= _) Q E s;refine Ms (Qr (typeIs_bool s b) Rw
  (Nx Rw (typeIs_bool s b) entry_int_hash
   (show Tn _ _ (do ret (<-mkInt (rawHash<|bIn b))) _ _ s from wpAny_ret_mkInt ?_) (args_int_hash _)))
 show Tn _ _ (if (decide (-(2:Int) ^ 63<=rawHash (bIn b))&&decide (rawHash (bIn b)<2 ^ 63))=true then _ else _) Q E _;rw[Mx (by rw[MW a.1,MW a.2];rfl)];exact Mt h
end
def rX (prog:SS)(w:SU):PySem.KeyKind prog w Int where
 is:=ao
 hash:=hashInt
 inj:=λv a b i f=>by
  rcases M3 i with ⟨t,rfl⟩ | ⟨x,rfl,rfl⟩
  .simpa [ao] using f
  .simpa [ao] using f
 byValue:=λk v h=>by rcases M3 h with ⟨t,rfl⟩ | ⟨x,rfl,rfl⟩ <;> rfl
 pyHash:=λc h=>by
  rcases M3 c with ⟨t,rfl⟩ | ⟨x,rfl,rfl⟩
  .exact wpAny_pyHash_int h
  .exact nc h
 eqBool:=λ{A E s a b u v Q} g c h=>by
  have j:∀x y:Int,(x == y)=decide (x=y):=λx y=>by by_cases e:x=y <;> simp[e]
  rw[<-j]at h;rcases M3 g with ⟨t,rfl⟩ | ⟨x,rfl,rfl⟩
  .rcases M3 c with ⟨d,rfl⟩ | ⟨y,rfl,rfl⟩
   .exact wpAny_eqBool_int h
   .exact SeqAt.EqAt.int_bool a t y _ _ _ _ h
  .rcases M3 c with ⟨d,rfl⟩ | ⟨y,rfl,rfl⟩
   .exact SeqAt.EqAt.bool_int x b d _ _ _ _ h
   .refine SeqAt.EqAt.bool_bool x y _ _ _ _ ?_;have:(bIn x == bIn y)=(x == y):=by cases x <;> cases y <;> rfl
    rw[<-this];exact h
 «strs»:=λk x t v h=>by simp[ao]at h
end
end L3
namespace L3
open PySem PySem.Spec PyProof.Rows L2
variable {π:List (SQ×Te)}
section
section
variable {K:Type}[DecidableEq K]
def cQ {P:SS}{w:SU}(kind:SubKind P w K)(a:SQ)(xs:List (K×SQ×V)):Tb->Prop:=λh=>xs.length<=Tc/\(a == sysModules)=false/\∃b:List (K×SQ×SN),
 Paired (λ(p:K×SQ×V) (q:K×SQ×SN)=>p.1=q.1/\p.2.1=q.2.1/\s0 p.2.2 q.2.2) xs b /\
 ∃o c d,h.get? a=some o/\o.ExactDict/\o.data = .dict c d/\c.toList=b.map (entryOfKey kind.toHeapKind)/\(b.map (·.1)).Nodup
variable {P:SS}{w:SU}{kind:SubKind P w K}{a:SQ}{xs:List (K×SQ×V)}
def cQ.dict {h:Tb}(d:cQ kind a xs h)(hk:∀x∈xs,kind.is h x.1 x.2.1):xs.length<=Tc/\(a == sysModules)=false/\∃vs:List (K×SQ×SN),
  Paired (λ(p:K×SQ×V) (q:K×SQ×SN)=>p.1=q.1/\p.2.1=q.2.1/\s0 p.2.2 q.2.2) xs vs/\h.DictOfH kind.toHeapKind a vs:=by
 obtain⟨z,y,vs,r,o,m,n,l,k,j,g,f⟩:=d;refine#v[z,y,vs,r,o,m,n,l,k,j,g,?_,f];clear g f z;induction r with
 | nil=>intro x b;cases b
 | @cons p q u s c t i =>
  intro x b;rcases MJ.1 b with e | b
  .subst e;rw[<-c.1,<-c.2.1];exact hk p MD
  .exact i (λx b=>hk x<|Mw _ b) x b
def kr (xs:List (K×SQ×V))(k:K):Option V:=(xs.find? λx=>decide (x.1=k)).map (·.2.2)
def kJ (xs:List (K×SQ×V))(k:K)(b:SQ)(v:V):List (K×SQ×V):=if (kr xs k).isSome then xs.map (λx=>if x.1=k then(x.1,x.2.1,v) else x) else xs++[(k,b,v)]
abbrev PV (xs:List (K×SQ×V))(vs:List (K×SQ×SN)):Prop:=Paired (λ(p:K×SQ×V) (q:K×SQ×SN)=>p.1=q.1/\p.2.1=q.2.1/\s0 p.2.2 q.2.2) xs vs
def PV.val {xs:List (K×SQ×V)}{vs:List (K×SQ×SN)}(r:PV xs vs)(k:K):dX (kr xs k) ((atKey vs k).map (·.2)):=by
 unfold kr atKey;induction r with
 | nil=>exact True.intro
 | @cons p q d c a t b =>
  rw[OR,OR,a.1];by_cases e:q.1=k
  .rw[MW e];exact a.2.2
  .rw[MX e];exact b
def PV.repl {xs:List (K×SQ×V)}{vs:List (K×SQ×SN)}(r:PV xs vs)(k:K){y:V}{u:SN}(ry:s0 y u):PV (xs.map λx=>if x.1=k then(x.1,x.2.1,y) else x) (vs.map<|putAt k u):=by
 induction r with
 | nil=>exact .nil
 | @cons p q g f h t c =>
  rw[MB,MB];refine .cons ?_ c;obtain⟨a,b,d⟩:=h;unfold putAt;by_cases e:p.1=k
  .rw[Mx e,Mx<|a.symm.trans e];exact#v[a,b,ry]
  .rw[MC e,MC<|λz=>e<|a.trans z];exact#v[a,b,d]
def PV.put {xs:List (K×SQ×V)}{vs:List (K×SQ×SN)}(r:PV xs vs)(k:K){b:SQ}{y:V}{u:SN}(ry:s0 y u):PV (kJ xs k b y) (storedH vs k b u):=by
 have e:(kr xs k).isSome=(atKey vs k).isSome:=by rw[(PV.val r k).isSome_eq,Pw]
 unfold kJ storedH;rw[e];by_cases q:(atKey vs k).isSome=true
 .rw[Mx q,Mx q];exact PV.repl r k ry
 .rw[MC q,MC q];exact Paired.snoc r #v[rfl,rfl,ry]
def vJ (xs:List (K×SQ×V))(k:K)(b:SQ)(v:V):(kJ xs k b v).length<=xs.length+1:=by
 unfold kJ;split
 .rw[Mv];omega
 .simp
def cQ.obj {H:Hp}{h:Tb}(d:cQ kind a xs h):x5 P w H h a (.ext<|cQ kind a xs):=by refine#v[d,let #v[_,_,_,_,o,_,_,e,_]:=d;#v[o,e],λj i d k=>?_];obtain⟨z,y,b,r,o,f,g,e,c⟩:=d;exact#v[z,y,b,r,o,f,g,k o e,c]
end
section
variable {K:Type}[DecidableEq K]{X:Cx}{kind:SubKind X.prog X.w K}{σ:L2.St}{H:Hp}{s:SR}{a b:SQ}{v:V}{k:K}{r:SN}{xs:List (K×SQ×V)}{A:SW}{E:SN->SR->Prop}
def Gz (I:Inv X π σ H s)(e:H a=some (.ext<|cQ kind a xs)):cQ kind a xs s.heap:=(show x5 X.prog X.w H s.heap a (.ext<|cQ kind a xs) from I.hok a _ e).1
def sY {Q:SN->SR->Prop}(hu:kind.room A.in1)(I:Inv X π σ H s)(e:H a=some (.ext<|cQ kind a xs))(hk:∀x∈xs,kind.is s.heap x.1 x.2.1)(kb:kind.is s.heap k b)(g:kr xs k=some v)(h:∀w' s',Inv X π σ H s'->s0 v w'->Q w' s') :
  Tn (model X.prog X.w) A (getItem (.ref a)<|.ref b) Q E s:=by obtain⟨z,m,i,d,dd⟩:=(Gz I e).dict hk;obtain⟨w',j,c⟩:=dX.some_of (v:=v) (o:=(atKey i k).map (·.2)) (by rw[<-g];exact PV.val d k);obtain⟨p,l,f⟩:=MP.1 j;refine wpAny_getItem_heap hu kb dd l ?_;rw[f];exact h w' _ (I.tok _) c
def uD {Q:Unit->SR->Prop}(hu:kind.room A.in1)(I:Inv X π σ H s)(e:H a=some (.ext<|cQ kind a xs))(hk:∀x∈xs,kind.is s.heap x.1 x.2.1)(kb:kind.is s.heap k b)(hl:xs.length<Tc)(rv:s0 v r)(h:∀s',Inv X π σ (upd H a<|.ext<|cQ kind a<|kJ xs k b v) s'->Q () s') :
  Tn (model X.prog X.w) A (setItem (.ref a) (.ref b) r) Q E s:=by
 obtain⟨z,m,g,c,dd⟩:=(Gz I e).dict hk;have j:g.length<=Tc:=by rw[<-PR c];exact z
 refine wpAny_setItem_heap (hsz:=j) hu kb dd λu d l=>h _ ?_
 obtain⟨q,w,y,f,t,p,o,_,n⟩:=d;have i:cQ kind a (kJ xs k b v) u:=#v[by have:=vJ xs k b v;omega,m,_,PV.put c k rv,q,w,y,f,t,p,o,n];exact cS I (by rw[e];exact True.intro) l #v[q,f] i.obj
end
end
section
structure NKey where
 K:Type
 dec:DecidableEq K
 kind:∀(P:SS) (w:SU),SubKind P w K
 hsh:K->Int
 hs:∀P w k,(kind P w).hash k=hsh k
 dp:Nat
 hdp:∀P w,(kind P w).deep=dp
 At:Qf->Hp->K->SQ->Prop
 ok:∀{X:Cx} {π:List (SQ×Te)} {σ:L2.St} {H:Hp} {s:SR} {k:K} {b:SQ},Inv X π σ H s->At X.K H k b->(kind X.prog X.w).is s.heap k b
 keeps:∀{L:Qf} {H H':Hp} {k:K} {b:SQ},At L H k b->(∀c xs,SqT L H c xs->SqT L H' c xs)->At L H' k b
 room:∀(P:SS) (w:SU) (A:SW),A.units+dp<Tv->(kind P w).room A
instance (κ:NKey):DecidableEq κ.K:=κ.dec
def GH (P:SS)(w:SU):SubKind P w Empty where
 is:=λ_ _ _=>False
 hash:=λk=>k.elim
 draws:=λk=>k.elim
 room:=λ_=>True
 inj:=λh=>h.elim
 keeps:=λh=>h.elim
 pyHash:=λ_ h=>h.elim
 eqBool:=λ_ h=>h.elim
 quiet:=λh=>h.elim
 deep:=0
 quietN:=λ_ h=>h.elim
def Cn :NKey where
 K:=Empty
 dec:=inferInstance
 kind:=GH
 hsh:=λk=>k.elim
 hs:=λ_ _ k=>k.elim
 dp:=0
 hdp:=λ_ _=>rfl
 At:=λ_ _ _ _=>False
 ok:=λ_ h=>h.elim
 keeps:=λh=>h.elim
 room:=λ_ _ _ _=>True.intro
section
variable (κ:NKey)(p:Nat->Bool)
inductive VKeys (L:Qf) (H:Hp):Nat->List (Int ⊕ κ.K)->List V->Prop
 | nil {j:Nat}:VKeys L H j [] []
 | int {j:Nat} {i:Int} {ks:List (Int ⊕ κ.K)} {vs:List V}:p j=false->VKeys L H (j+1) ks vs->VKeys L H j (.inl i::ks) (.int i::vs)
 | bl {j:Nat} {b:Bool} {ks:List (Int ⊕ κ.K)} {vs:List V}:p j=false->VKeys L H (j+1) ks vs->VKeys L H j (.inl (bIn b)::ks) (.bl b::vs)
 | ref {j:Nat} {k:κ.K} {a:SQ} {ks:List (Int ⊕ κ.K)} {vs:List V}:p j=true->κ.At L H k a->VKeys L H (j+1) ks vs->VKeys L H j (.inr k::ks) (.ref a::vs)
variable {κ p}
def VKeys.keeps {L:Qf}{H H':Hp}{j:Nat}{ks:List (Int ⊕ κ.K)}{vs:List V}(x:VKeys κ p L H j ks vs)(hk:∀c xs,SqT L H c xs->SqT L H' c xs):VKeys κ p L H' j ks vs:=by
 induction x with
 | nil=>exact .nil
 | int b _ a=>exact .int b a
 | bl b _ a=>exact .bl b a
 | ref b d _ a=>exact .ref b (κ.keeps d hk) a
def VKeys.items {X:Cx}{σ:L2.St}{H:Hp}{s:SR}(ok:Inv X π σ H s){j:Nat}{ks:List (Int ⊕ κ.K)}{vs:List V}(x:VKeys κ p X.K H j ks vs):∀{us:List SN},m9 vs us->ItemsN (rX X.prog X.w) (κ.kind X.prog X.w) p s.heap j ks us:=by
 induction x with
 | nil=>intro us r;cases r;exact .nil
 | @int j i ks vs g _ f =>
  intro us r;cases r with
  | cons d c =>obtain⟨t,e⟩:=(show ∃t,_=SN.int i t from d);subst e;exact .val g (show ao i (.int i t)=true by simp[ao])<|f c
 | @bl j b ks vs g _ f =>
  intro us r;cases r with
  | cons d c =>cases(show _=SN.bool b from d);exact .val g (show ao (bIn b) (.bool b)=true by simp[ao])<|f c
 | @ref j k a ks vs g h _ f =>
  intro us r;cases r with
  | cons d c =>cases(show _=SN.ref a from d);exact .ref g (κ.ok ok h)<|f c
end
def xn (κ:NKey)(p:Nat->Bool)(hd:κ.dp<8):NKey where
 K:=List<|Int ⊕ κ.K
 dec:=inferInstance
 kind:=λP w=>vo (rX P w) (κ.kind P w) p (by rw[κ.hdp];exact hd)
 hsh:=λc=>reduceHash (Builtin.Tuple.tupleHashOf (c.map λk=>match k with | .inl i=>hashInt i | .inr k=>κ.hsh k))
 hs:=λP w c=>by
  show aH _ _ c=_;unfold aH;congr 2;refine Ov λk _=>?_
  cases k with
  | inl i=>rfl
  | inr k=>exact κ.hs P w k
 dp:=κ.dp+1
 hdp:=λP w=>by show(κ.kind P w).deep+1=_;rw[κ.hdp]
 At:=λL H c b=>∃a,SqT L H b a/\VKeys κ p L H 0 c a
 ok:=λ{X π l H s k b} I #v[a,e,x]=>by obtain⟨d,r,⟨o,j,h,n,g⟩,_⟩:=I.tuple e;exact#v[o,d.toArray,n,j,h,g,by simpa using x.items I r]
 keeps:=λ#v[a,e,x] f=>#v[a,f _ _ e,x.keeps f]
 room:=λP w A m=>#v[by omega,κ.room P w A.in1 (by show A.units+1 + κ.dp<Tv;omega)]
def X6 :NKey:=xn Cn (λ_=>false) (by decide)
def aG :NKey:=xn X6 (λ_=>true) (by decide)
def kZ :NKey:=xn aG (λj=>j == 0) (by decide)
end
section
def NDi (κ:NKey)(a:SQ)(xs:List (κ.K×SQ×V)):Tb->Prop:=λh=>xs.length<=Tc/\(a == sysModules)=false/\∃b:List (κ.K×SQ×SN),
 Paired (λ(p:κ.K×SQ×V) (q:κ.K×SQ×SN)=>p.1=q.1/\p.2.1=q.2.1/\s0 p.2.2 q.2.2) xs b /\
 ∃o c d,h.get? a=some o/\o.ExactDict/\o.data = .dict c d/\c.toList=b.map (λq=>(#v[κ.hsh q.1,.ref q.2.1,q.2.2]:DictEntry))/\(b.map (·.1)).Nodup
def pC (κ:NKey)(P:SS)(w:SU)(a:SQ)(xs:List (κ.K×SQ×V)):NDi κ a xs=cQ (κ.kind P w) a xs:=by
 funext h;unfold NDi cQ;have e:(λ(q:κ.K×SQ×SN)=>(#v[κ.hsh q.1,.ref q.2.1,q.2.2]:DictEntry))=entryOfKey (κ.kind P w).toHeapKind:=by funext q;unfold entryOfKey;rw[κ.hs P w]
 rw[e]
def FN (κ:NKey)(L:Qf)(H:Hp)(a:SQ)(y:V)(o:Option V):Prop:=∃(c:List (κ.K×SQ×V)) (k:κ.K) (b:SQ),H a=some (.ext<|NDi κ a c)/\(∀x∈c,κ.At L H x.1 x.2.1)/\y = .ref b /\ κ.At L H k b/\o=kr c k
def FO (κ:NKey)(L:Qf)(H:Hp)(a:SQ)(y v:V)(H':Hp):Prop:=∃(c:List (κ.K×SQ×V)) (k:κ.K) (b:SQ),H a=some (.ext<|NDi κ a c)/\(∀x∈c,κ.At L H x.1 x.2.1)/\y = .ref b /\ κ.At L H k b/\c.length<Tc/\H'=upd H a (.ext<|NDi κ a<|kJ c k b v)
def Cj (κ:NKey):TE:=λ_ H Q=>∀p,H p=none->(∃h,NDi κ p [] h)->Q (.ref p) (upd H p<|.ext<|NDi κ p [])
def Ca (κ:NKey)(L:Qf)(td ty:TE):TE:=λb H Q=>td b H λx d=>ty b d λy c=>∃a v,x = .ref a/\FN κ L c a y (some v)/\Q v c
def Bo (κ:NKey)(L:Qf)(td ty tv:TE):TS:=λD b H=>tv b H λv g=>td b g λx f=>ty b f λy e=>∃a c,x = .ref a/\FO κ L e a y v c/\((∀d,c a=some (.ext d)->∃h,d h)->D.nx b c)
section
variable {κ:NKey}{X:Cx}{σ:L2.St}{H:Hp}{s:SR}{a:SQ}{xs:List (κ.K×SQ×V)}{A:SW}{E:SN->SR->Prop}
def sD (I:Inv X π σ H s)(e:H a=some (.ext<|NDi κ a xs)):NDi κ a xs s.heap:=(show x5 X.prog X.w H s.heap a (.ext<|NDi κ a xs) from I.hok a _ e).1
def Dp (I:Inv X π σ H s)(e:H a=some (.ext<|NDi κ a xs)):s.TypeIs (.ref a) "dict" /\ (∀b,SN.ref a = .ref b->∃ob,s.heap.get? b=some ob/\ob.dict=none)/\(a == sysModules)=false:=by obtain⟨z,f,g,r,o,h,i,d,c,_⟩:=sD I e;refine#v[#v[o,d,c.1],λb q=>?_,f];cases q;exact#v[o,d,c.2.1]
def BU (hu:A.units+9<Tv)(hd:κ.dp<=8):(κ.kind X.prog X.w).room A.in1:=κ.room _ _ _ (by show A.units+1 + κ.dp<Tv;omega)
def qb {y v:V}{u:SN}{Q:SN->SR->Prop}(hu:A.units+9<Tv)(hd:κ.dp<=8)(I:Inv X π σ H s)(g:FN κ X.K H a y (some v))(ry:s0 y u)(h:∀w' s',Inv X π σ H s'->s0 v w'->Q w' s') :
  Tn (model X.prog X.w) A (getItem (.ref a) u) Q E s:=by obtain⟨xs,k,b,e,f,rfl,c,l⟩:=g;cases(show u=SN.ref b from ry);rw[pC κ X.prog X.w]at e;exact sY (BU hu hd) I e (λx d=>κ.ok I<|f x d) (κ.ok I c) l.symm h
def nZ {y v:V}{u r:SN}{H':Hp}{Q:Unit->SR->Prop}(hu:A.units+9<Tv)(hd:κ.dp<=8)(I:Inv X π σ H s)(g:FO κ X.K H a y v H')(ry:s0 y u)(rv:s0 v r)(h:∀s',Inv X π σ H' s'->Q () s') :
  Tn (model X.prog X.w) A (setItem (.ref a) u r) Q E s:=by obtain⟨xs,k,b,e,f,rfl,c,hl,rfl⟩:=g;cases(show u=SN.ref b from ry);rw[pC κ X.prog X.w]at e h;exact uD (BU hu hd) I e (λx d=>κ.ok I<|f x d) (κ.ok I c) hl rv h
end
section
variable {κ:NKey}{X:Cx}{o i e f value:Ta}{pos pos':Pos}{td ty tv:TE}
def Ah {σ:L2.St}{H:Hp}{s:SR}(I:Inv X π σ H s):NDi κ s.heap.objs.size [] (s.heap.push { cls:=.type "dict",data:=.dict #[] }) :=
 #v[Nv _,Ou.2<|Ow<|MR I.big,[],.nil,_,#[],0,MM _ rfl,#v[rfl,rfl,rfl],rfl,rfl,RS]
def Ax :PE X (.Dict [] [] pos) (Cj κ):=λπ s b H Q I h =>
 wpAny_Dict_empty #v[.ref s.heap.objs.size,_,I.laid (a:=s.heap.objs.size) (o:=.ext<|NDi κ s.heap.objs.size []) (t':=s.toks) (λ_ _ q=>Mu _ q) (Mz _) (by have d:NDi κ s.heap.objs.size [] (s.heap.push { cls:=.type "dict",data:=.dict #[] }):=#v[Nv _,Ou.2<|Ow<|MR I.big,[],.nil,_,#[],0,MM _ rfl,#v[rfl,rfl,rfl],rfl,rfl,RS];rw[pC κ X.prog X.w]at d ⊢;exact d.obj),rfl,h _ (I.hok.fresh<|Mz _) #v[_,Ah I]]
def zy (hu:X.A.units+9<Tv)(hd:κ.dp<=8)(ho:PE X o td)(hi:PE X i ty)(hs:EA i):PE X (.Subscript o i pos) (Ca κ X.K td ty):=by intro π s d H Q I h;refine zt PySem.F.slot_dict_getitem.lookup hs (thn (ho π s d H _ I h) λu s1 #v[x,w,r,l,n]=>thn (hi π s1 d w _ r n) λC s2 #v[y,t,f,j,a,v,p,g,m]=>?_);subst p;obtain rfl:u=SN.ref a:=l;obtain⟨z,k,b,e,_⟩:=id g;exact#v[(Dp f e).1,qb hu hd f g j λA B q c=>#v[v,t,q,c,m]]
def yO (hu:X.A.units+9<Tv)(hd:κ.dp<=8)(ho:PE X o td)(hi:PE X i ty)(hv:PE X value tv)(hs:Tp value (some<|.Subscript o i pos') pos.line X.env=pure false) :
  PS X (.Assign [.Subscript o i pos'] value pos) (Bo κ X.K td ty tv):=by intro π s b H D I h;refine wpAny_Assign_Subscript (thn (hv π s b H _ I h) λr s1 #v[v,C,A,m,q]=>thn (ho π s1 b C _ A q) λu s2 #v[x,B,z,l,p]=>thn (hi π s2 b B _ z p) λF E #v[y,G,w,k,a,d,t,g,n]=>?_) hs;subst t;obtain rfl:u=SN.ref a:=l;exact nZ hu hd w g k m λj c=>#v[b,d,c,n λf e=>#v[_,(show x5 X.prog X.w d j.heap a (.ext f) from c.hok a _ e).1]]
end
end
end L3
namespace L3
open PySem PySem.Spec PyProof.Rows L2 PySem.W
def fI (h:Tb)(d:SQ)(es:Array DictEntry)(ep:Nat):Prop:=∃o,h.get? d=some o/\o.ExactDict/\o.data = .dict es ep
variable {es:Array DictEntry}{ep:Nat}
def fI.at' {h h':Tb}{d:SQ}(x:fI h d es ep)(e:∀o,h.get? d=some o->h'.get? d=some o):fI h' d es ep:=let #v[o,a,r]:=x;#v[o,e _ a,r]
def fI.typeIs {s:SR}{d:SQ}(x:fI s.heap d es ep):s.TypeIs (.ref d) "dict":=let #v[o,a,b,_]:=x;#v[o,a,b.1]
section
variable {prog:SS}{w:SU}{A:SW}{E:SN->SR->Prop}{s:SR}{it d:SQ}{i:Nat}
def xM {Q:SN->SR->Prop}(hd:(d == sysModules)=false)(hm:fI s.heap d es ep)
  (hQ:Q (.ref s.heap.objs.size) { s with heap:=s.heap.push { cls:=.type "dict_keyiterator",data:=.fields #[.ref d,.int 0 0,.int es.size 0,.int ep 0] } }) :
  Tn (model prog w) A (pyIter<|.ref d) Q E s:=by have b:=hm.typeIs;obtain⟨o,c,e,a⟩:=hm;refine wpAny_pyIter_slot b PySem.F.slot_dict_iter<|Nx PySem.F.slot_dict_iter b PySem.F.entry_dict_iter ?_<|PySem.F.args_dict_iter_1 _;unfold Builtin.«dict.__iter__»;refine Ms ?_;unfold Builtin.Dict.dictSlotNone;refine Ms<|wpAny_notOrdered_dict b<|Mt ?_;show Tn _ _ (Builtin.Dict.showsAll d >>= _) _ _ s;unfold Builtin.Dict.showsAll;rw[MC (by rw[hd];exact MV)];refine Ms<|Mt<|Ms<|wpAny_dictEntries c a<|Ms<|wpAny_dictEpoch c a ?_;refine Ms<|Nj<|Mt #v[_,rfl,"dict_keyiterator",_,#v[_,MM _ rfl,rfl],Oh.lookup,?_];simpa [rawInt] using hQ
def xb {Q:Option SN->SR->Prop}(hit:s.heap.IsKeyIter it d i es.size ep)(hm:fI s.heap d es ep)(hlt:i<es.size)
  (hQ:∀h',h'.IsKeyIter it d (i+1) es.size ep->Tb.SameBut it s.heap h'->Q (some es[i].key) { s with heap:=h' }):Tn (model prog w) A (pyNext<|.ref it) Q E s:=by
 obtain⟨o,f,h,e⟩:=id hit;obtain⟨j,b,g,c⟩:=hm;unfold pyNext;refine Ms (PX (NR (name:=Str.ofString "__next__") hit.typeIs Oh
  (Nx Oh hit.typeIs QS ?_<|QK _)))
 refine Ms<|Mt<|Ms<|Ms ?_;first | refine Ms (OW hit.typeIs<|Mt ?_) | refine Ms<|PD hit.typeIs<|Mt ?_
 refine Ms<|wpAny_fieldsOf f e ?_;simp only[show Builtin.Dict_items.ownsTuple "dict_keyiterator" = false by decide,Na,NJ];show Tn _ _ (if (SN.ref d == SN.none)=true then _ else _) _ _ s;rw[MC<|show ¬((SN.ref d == SN.none)=true) from MV];refine Ms<|Mt<|Ms<|wpAny_dictEntries b c ?_;rw[MC<|by simp];refine Ms<|Mt<|Ms<|wpAny_dictEpoch b c ?_;rw[MC<|by simp];refine Mt ?_;simp only[show ¬((i:Int)<0) from by omega,NJ,NI,Array.getElem?_eq_getElem hlt];refine Ms ?_;first | refine Ms (OW hit.typeIs<|Mt ?_) | refine Ms<|PD hit.typeIs<|Mt ?_
 refine Ms<|wpAny_isOneOf_keyiter hit.typeIs ?_;show Tn _ _ (setField (.ref it) 1 (rawInt<|(i:Int)+1) >>= _) _ _ s;refine Ms (Pz f e (by simp) ?_);have a:(s.heap.update it (Te.mapFields (·.setIfInBounds 1 (rawInt<|(i:Int)+1)))).IsKeyIter it d (i+1) es.size ep :=
  #v[_,Oj _ f<|RA<|Ph e _,(Te.cls_mapFields ..).trans h,by rw[Ph e];simp[rawInt]]
 refine Ms<|NL ?_;refine Ms (wpAny_isOneOf_keyiter (s:={ s with heap:=s.heap.update it (Te.mapFields (·.setIfInBounds 1 (rawInt<|(i:Int)+1))) }) a.typeIs ?_);show Tn _ _ (pure es[i].key) _ _ _;exact Mt<|Mt #v[_,rfl,Mt<|hQ _ a<|PN ..]
def AR {Q:Option SN->SR->Prop}(hh:A.handled=none)(hit:s.heap.IsKeyIter it d es.size es.size ep)(hm:fI s.heap d es ep)
  (hQ:∀h',Tb.ExtBut it s.heap h'->Q none { s with heap:=h' }):Tn (model prog w) A (pyNext<|.ref it) Q E s:=by
 obtain⟨o,f,j,g⟩:=id hit;obtain⟨i,c,h,e⟩:=hm;unfold pyNext;refine Ms (PX (NR (name:=Str.ofString "__next__") hit.typeIs Oh
  (Nx Oh hit.typeIs QS ?_<|QK _)))
 refine Ms<|Mt<|Ms<|Ms ?_;first | refine Ms (OW hit.typeIs<|Mt ?_) | refine Ms<|PD hit.typeIs<|Mt ?_
 refine Ms<|wpAny_fieldsOf f g ?_;simp only[show Builtin.Dict_items.ownsTuple "dict_keyiterator" = false by decide,Na,NJ];show Tn _ _ (if (SN.ref d == SN.none)=true then _ else _) _ _ s;rw[MC<|show ¬((SN.ref d == SN.none)=true) from MV];refine Ms<|Mt<|Ms<|wpAny_dictEntries c e ?_;rw[MC<|by simp];refine Ms<|Mt<|Ms<|wpAny_dictEpoch c e ?_;rw[MC<|by simp];refine Mt ?_;simp only[show ¬((es.size:Int)<0) from by omega,NJ,NI,Array.getElem?_eq_none<|Mz _];refine Ms ?_;first | refine Ms (OW hit.typeIs<|Mt ?_) | refine Ms<|PD hit.typeIs<|Mt ?_
 show Tn _ _ (setField (.ref it) 0 .none >>= _) _ _ s;refine Ms (Pz f g (by simp) ?_);show Tn _ _ (newExc (.type "StopIteration") [] >>= _) _ _ _;refine Ms ?_;simp only[newExc,newTuple];refine Ms (Nj ?_<|by size_fits);refine Ms (m:=firstArgMember _ _) (wpAny_of_eq (a:=SN.none) (by first | rfl | (simp only[firstArgMember];rfl)) ?_);refine Nj ?_ (by size_fits);simp only[raiseNew];refine Ms<|wpAny_handled ?_;rw[show A.in1.handled=none from hh];refine Ms<|Mt<|wpAny_throw ?_;refine Ms<|Rv (T:="StopIteration") (b:=true) #v[_,MM _ rfl,rfl] isSubtype_stop ?_;exact Mt<|hQ _<|((PN ..).extBut.push _).push _
def uk (hh:A.handled=none)(I d:SQ)(hne:d≠I)(es:Array DictEntry)(ep:Nat) :
  Walks prog w A I [I,d] [I] es.size (λi v=>∃h:i<es.size,v=es[i].key) (λi h=>h.IsKeyIter I d i es.size ep/\fI h d es ep) where
 sub:=λb a=>by simp at a;simp[a]
 frame:=λ_ _ _ st l=>#v[st.1.at λo e=>l I (by simp) o e,st.2.at' λo e=>l d (by simp) o e]
 item:=λi s Q E m st g=>xb st.1 st.2 m λk f c=>g _ k s.toks #v[m,rfl] #v[f,st.2.at' λo e=>c.extBut d o hne e] λb o a e=>c.extBut b o (λh=>a<|by simp[h]) e
 done:=λs Q E st g=>AR hh st.1 st.2 λk j=>g k s.toks λb o a e=>j b o (λh=>a<|by simp[h]) e
 self:=λ_ _ _ _ st g=>wpAny_pyIter_keyiter st.1 g
def fI.lt {h:Tb}(x:fI h d es ep):d<h.objs.size:=let #v[_,a,_]:=x;MA a
def zJ (lo:(d == sysModules)=false):KdlSrc prog w "dict" d d es.size (λi v=>∃h:i<es.size,v=es[i].key) (λh=>fI h d es ep) where
 type:=λ_ a=>a.typeIs
 there:=λ_ a=>#v[a.lt,a.lt]
 keep:=λ_ _ a c=>a.at' λo e=>c d (.inl rfl) o e
 notList:=by decide
 notTuple:=by decide
 hint:=λ_ _ _ _ a b=>kdl_hint_dict a.typeIs b
 iter:=λ_ _ f a=>#v[_,_,(λ_ _ b=>xM lo a b),uk f _ d (MR a.lt) es ep,#v[#v[_,MM _ rfl,rfl,rfl],a.at' λo e=>Mu _ e]]
end
def oC {K:Type}{xs:List (K×SQ×V)}{vs:List (K×SQ×SN)}(rel:Paired (λ(p:K×SQ×V) (q:K×SQ×SN)=>p.1=q.1/\p.2.1=q.2.1/\L2.s0 p.2.2 q.2.2) xs vs):m9 (xs.map λx=>V.ref x.2.1) (vs.map λq=>SN.ref q.2.1):=by
 induction rel with
 | nil=>exact .nil
 | @cons a b f e c _ d =>rw[MB,MB];exact .cons (by rw[c.2.1];exact rfl) d
end L3
namespace L3
open PySem PySem.Spec PyProof.Rows L2
section
def zG:My->Option Int
 | .int i=>some i
 | .bool b=>some<|bIn b
 | _=>none
def jy:List My->Option (List<|Int ⊕ Empty)
 | []=>some []
 | d::ds=>(zG d).bind λi=>(jy ds).map (.inl i :: ·)
def bF:List My->Option (List<|Int ⊕ List (Int ⊕ Empty))
 | []=>some []
 | .tuple es::ds=>(jy es).bind λk=>(bF ds).map (.inr k :: ·)
 | _::_=>none
def BB:My->Option X6.K
 | .tuple ds=>jy ds
 | _=>none
def BK:My->Option aG.K
 | .tuple ds=>bF ds
 | _=>none
def qp:My->Option kZ.K
 | .tuple [.tuple ds,.int i]=>(bF ds).map λk=>[.inr k,.inl i]
 | _=>none
section
variable {K:Qf}{H:Hp}
theorem jt:∀{ds:List My} {ks:List (Int ⊕ Empty)} {vs:List V} {j:Nat},jy ds=some ks->c6 K H ds vs->VKeys Cn (λ_=>false) K H j ks vs
 | [],ks,vs,j,e,h=>by
  simp only[jy,Ra]at e;simp only[c6]at h;subst e h;exact .nil
 | d::ds,ks,vs,j,e,h=>by
  simp only[c6]at h;obtain⟨x,r,rfl,f,k⟩:=h;simp only[jy]at e;obtain⟨i,a,m⟩:=bS9 e;obtain⟨g,l,rfl⟩:=MP.1 m;have c:=jt (j:=j+1) l k;cases d with
  | int n=>simp only[zG,Ra]at a;subst a;cases(show x=V.int n from f);exact .int rfl c
  | bool b=>simp only[zG,Ra]at a;subst a;cases(show x=V.bl b from f);exact .bl rfl c
  | _=>simp[zG]at a
def nI {d:My}{k:X6.K}{v:V}(e:BB d=some k)(h:c8 K H d v):∃b,v = .ref b/\X6.At K H k b:=by
 cases d with
 | tuple i =>simp only[c8]at h;obtain⟨a,c,rfl,g,f⟩:=h;exact#v[a,rfl,c,g,jt e f]
 | none=>exact nomatch (show(none:Option X6.K)=some k from e)
 | bool _=>exact nomatch (show(none:Option X6.K)=some k from e)
 | int _=>exact nomatch (show(none:Option X6.K)=some k from e)
 | str _=>exact nomatch (show(none:Option X6.K)=some k from e)
 | list _=>exact nomatch (show(none:Option X6.K)=some k from e)
 | dict _=>exact nomatch (show(none:Option X6.K)=some k from e)
theorem jH:∀{ds:List My} {ks:List (Int ⊕ List (Int ⊕ Empty))} {vs:List V} {j:Nat},bF ds=some ks->c6 K H ds vs->VKeys X6 (λ_=>true) K H j ks vs
 | [],ks,vs,j,e,h=>by
  simp only[bF,Ra]at e;simp only[c6]at h;subst e h;exact .nil
 | d::ds,ks,vs,j,e,h=>by
  simp only[c6]at h;obtain⟨x,r,rfl,g,f⟩:=h;cases d with
  | tuple i =>simp only[bF]at e;obtain⟨k,n,m⟩:=bS9 e;obtain⟨a,l,rfl⟩:=MP.1 m;obtain⟨b,rfl,c⟩:=nI (d:=.tuple i) n g;exact .ref rfl c<|jH (j:=j+1) l f
  | _=>simp[bF]at e
def qH {d:My}{k:aG.K}{v:V}(e:BK d=some k)(h:c8 K H d v):∃b,v = .ref b/\aG.At K H k b:=by
 cases d with
 | tuple i =>simp only[c8]at h;obtain⟨a,c,rfl,g,f⟩:=h;exact#v[a,rfl,c,g,jH e f]
 | none=>exact nomatch (show(none:Option aG.K)=some k from e)
 | bool _=>exact nomatch (show(none:Option aG.K)=some k from e)
 | int _=>exact nomatch (show(none:Option aG.K)=some k from e)
 | str _=>exact nomatch (show(none:Option aG.K)=some k from e)
 | list _=>exact nomatch (show(none:Option aG.K)=some k from e)
 | dict _=>exact nomatch (show(none:Option aG.K)=some k from e)
def vL {d:My}{k:kZ.K}{v:V}(e:qp d=some k)(h:c8 K H d v):∃b,v = .ref b/\kZ.At K H k b:=by
 unfold qp at e;split at e
 .rename_i m i;obtain⟨p,l,rfl⟩:=MP.1 e;simp only[c8,c6]at h;obtain⟨a,n,rfl,j,x,r,rfl,g,y,o,rfl,f,rfl⟩:=h;obtain⟨b,rfl,c⟩:=qH (d:=.tuple m) l (by simp only[c8];exact g);subst f;exact#v[a,rfl,_,j,.ref rfl c<|.int rfl .nil]
 .cases e
end
end
variable {vs:List (Key×SN)}{ep:Nat}{dz:List (Int×V)}
section
def dF (p:Int×V):Key×V:=(.inl p.1,p.2)
def FrI (a:SQ)(dz:List (Int×V))(vs:List (Key×SN))(ep:Nat):Tb->Prop:=λh=>dz.length<=Tc/\(a == sysModules)=false/\KV (dz.map dF) vs/\∀P w,h.DictAt (v4 P w) a vs ep
def iX (a:SQ)(φ:Tb->Prop):Prop:=∃h,φ h/\∃o b ep,h.get? a=some o/\o.data = .dict b ep
def uw {P P':SS}{w w':SU}{l:List DictEntry}{m:List (Key×SN)}(h:Pairs (v4 P w) l m):Pairs (v4 P' w') l m:=by
 induction h with
 | nil=>exact .nil
 | cons c b _ a=>exact .cons c b a
def tW {P:SS}{w:SU}{l:List DictEntry}{m:List (Key×SN)}{x:DictEntry}(h:Pairs (v4 P w) l m)(hx:x∈l):∃q∈m,gS q.1 x.key=true:=by
 induction h with
 | nil=>cases hx
 | cons c d _ a =>
  rcases MJ.1 hx with rfl | hx
  .exact#v[_,MD,c]
  .obtain⟨q,b,h⟩:=a hx;exact#v[q,Mw _ b,h]
def yK {P:SS}{w:SU}{h:Tb}{a:SQ}(hv:∀q∈vs,∃i,q.1 = .inl i)(d:h.DictAt (v4 P w) a vs ep)(P':SS)(w':SU):h.DictAt (v4 P' w') a vs ep:=by obtain⟨o,r,e,p,t,n,f,j⟩:=d;refine#v[o,r,e,p,t,λx c=>?_,uw f,j];obtain⟨k,b,l⟩:=n x c;obtain⟨q,m,g⟩:=tW f<|Array.mem_toList_iff.2 c;obtain⟨i,s⟩:=hv q m;have u:k=q.1:=(v4 P w).inj _ _ _ b g;refine#v[k,b,?_];rw[l,u,s];rfl
def Cu :∀{dz:List (Int×V)} {vs:List (Key×SN)},KV (dz.map dF) vs->∀q∈vs,∃i,q.1 = .inl i:=λ{dz}=>by
 induction dz with
 | nil=>intro vs h q a;cases h;cases a
 | cons p dz b =>
  intro vs h q a;cases h with
  | cons d c =>
   rcases MJ.1 a with rfl | a
   .exact#v[p.1,d.1.symm]
   .exact b c q a
section
variable {P:SS}{w:SU}{X:Cx}{π:List (SQ×Te)}{σ:L2.St}{H:Hp}{s:SR}{h:Tb}{a:SQ}
def FrI.obj (d:FrI a dz vs ep h):x5 P w H h a (.ext<|FrI a dz vs ep):=by
 refine#v[d,?_,λi g d k=>?_]
 .obtain⟨_,_,_,b⟩:=d;obtain⟨o,f,e,_⟩:=b P w;exact#v[o,e]
 .obtain⟨z,y,r,b⟩:=d;refine#v[z,y,r,λP w=>?_];obtain⟨o,f,e,c⟩:=b P w;exact#v[o,f,k o e,c]
def qK (a:SQ)(h:Tb):Tb.SameBut a h h:=#v[rfl,λ_ _=>rfl]
def eP (I:Inv X π σ H s)(e:H a=some (.ext<|FrI a dz vs ep)):FrI a dz vs ep s.heap:=(show x5 X.prog X.w H s.heap a (.ext<|FrI a dz vs ep) from I.hok a _ e).1
def Gw (I:Inv X π σ H s)(e:H a=some (.ext<|FrI a dz vs ep)):Inv X π σ (upd H a<|.dK<|dz.map dF) s:=by obtain⟨z,y,r,d⟩:=eP I e;obtain⟨o,f,b,c⟩:=d X.prog X.w;exact cS (t':=s.toks) I (by rw[e];exact True.intro) (qK _ _) #v[o,b] #v[by rw[Mv];exact z,y,vs,r,o,f,ep,b,c]
def FrI.n (d:FrI a dz vs ep h)(P:SS)(w:SU):iX a (FrI a dz vs ep):=by obtain⟨_,_,_,b⟩:=id d;obtain⟨o,c,e,_,f,_⟩:=b P w;exact#v[h,d,o,c,ep,e,f]
def FG (I:Inv X π σ H s)(e:H a=some (.dK<|dz.map dF)):∃vs ep,Inv X π σ (upd H a<|.ext<|FrI a dz vs ep) s/\iX a (FrI a dz vs ep):=by obtain⟨z,y,vs,r,o,d,ep,b,c⟩:=Bi I.hok e;have f:FrI a dz vs ep s.heap:=#v[by rw[Mv]at z;exact z,y,r,yK (P:=X.prog) (w:=X.w) (Cu r) #v[o,d,b,c]];exact#v[vs,ep,cS (t':=s.toks) I (by rw[e];exact True.intro) (qK _ _) #v[o,b] f.obj,f.n X.prog X.w]
end
def NDi.n {κ:NKey}{a:SQ}{xs:List (κ.K×SQ×V)}{h:Tb}(d:NDi κ a xs h):iX a (NDi κ a xs):=by obtain⟨_,_,vs,_,o,b,ep,e,_,c,_⟩:=id d;exact#v[h,d,o,b,ep,e,c]
end
variable {fp:List SQ}{H':Hp}{ts:List (Str×SQ×SQ)}{φ:Tb->Prop}
section
abbrev St :=L2.St
def hid (H:Hp)(B:List SQ):Hp:=λb=>if b∈B then none else H b
def l7 {H:Hp}{B:List SQ}{b:SQ}(h:b ∉ B):hid H B b=H b:=by unfold hid;rw[MC h]
def G2 {H:Hp}{B:List SQ}{b:SQ}(h:b∈B):hid H B b=none:=by unfold hid;rw[Mx h]
def f8 {H:Hp}{B:List SQ}:j5 (hid H B) H:=λb o e=>by
 by_cases h:b∈B
 .rw[G2 h]at e;cases e
 .rwa [l7 h]at e
def N0 {H:Hp}{B B':List SQ}(s:∀b∈B',b∈B):j5 (hid H B) (hid H B'):=λb o e=>by
 by_cases h:b∈B
 .rw[G2 h]at e;cases e
 .rw[l7 h]at e;rw[l7 λz=>h<|s b z];exact e
def Kp (fp:List SQ)(H H':Hp):Prop:=∀b o,H b=some o->b ∉ fp->H' b=some o
def Kp.refl {H:Hp}:Kp fp H H:=λ_ _ e _=>e
def Kp.trans {H H1 H2:Hp}(a:Kp fp H H1)(b:Kp fp H1 H2):Kp fp H H2:=λc o e n=>b c o (a c o e n) n
def Kp.same {H:Hp}(s:j5 H H'):Kp fp H H':=λb o e _=>s b o e
def Kp.upd {H:Hp}{p:SQ}{o:HO}(hp:H p=none):Kp fp H (upd H p o):=Kp.same<|j5.upd hp
def Kp.hid {B:List SQ}{H:Hp}(k:Kp fp H H')(s:∀b∈fp,b∈B):j5 (hid H B) (hid H' B):=λb o e=>by
 by_cases h:b∈B
 .rw[G2 h]at e;cases e
 .rw[l7 h]at e ⊢;exact k b o e λz=>h<|s b z
def aW {H:Hp}{B:List SQ}{a:SQ}{o:HO}(h:a∈B):hid (upd H a o) B=hid H B:=by
 funext b;by_cases c:b∈B
 .rw[G2 c,G2 c]
 .rw[l7 c,l7 c,i8];intro e;subst e;exact c h
def L7 (K:Qf)(fp B:List SQ)(H:Hp):My->V->Prop
 | .tuple ds,v=>∃a c,v = .ref a/\SqT K (hid H B) a c/\c6 K (hid H B) ds c
 | .list ds,v=>∃a c,v = .ref a/\hid H fp a=some (.lst c)/\c6 K (hid H B) ds c
 | .none,v=>v = .non
 | .bool b,v=>v = .bl b
 | .int i,v=>v = .int i
 | .str x,v=>v = .str x
 | .dict _,_=>False
section
variable {K:Qf}{B:List SQ}{H:Hp}{d:My}{v:V}
def Cf (h:c8 K (hid H B) d v)(s:∀b∈fp,b∈B):L7 K fp B H d v:=by
 cases d with
 | tuple i =>simp only[c8]at h;obtain⟨a,c,e,f,g⟩:=h;exact#v[a,c,e,f,g]
 | list i =>simp only[c8]at h;obtain⟨a,c,e,f,g⟩:=h;exact#v[a,c,e,N0 s _ _ f,g]
 | _=>simpa only[c8,L7] using h
def L7.dat (h:L7 K fp B H d v):c8 K H d v:=by
 cases d with
 | tuple g =>obtain⟨a,b,e,c,f⟩:=h;simp only[c8];exact#v[a,b,e,c.same f8,f.same f8]
 | list g =>obtain⟨a,b,e,c,f⟩:=h;simp only[c8];exact#v[a,b,e,f8 _ _ c,f.same f8]
 | _=>simpa only[c8,L7] using h
def L7.step (h:L7 K fp B H d v)(k:Kp fp H H')(s:∀b∈fp,b∈B):L7 K fp B H' d v:=by
 have f:=k.hid s;have j:=k.hid (B:=fp) λ_ z=>z
 cases d with
 | tuple l =>obtain⟨a,c,e,g,i⟩:=h;exact#v[a,c,e,g.same f,i.same f]
 | list l =>obtain⟨a,c,e,g,i⟩:=h;exact#v[a,c,e,j _ _ g,i.same f]
 | _=>exact h
def L7.tup {ds:List My}(h:L7 K fp B H (.tuple ds) v):c8 K (hid H B) (.tuple ds) v:=by obtain⟨a,b,e,c,d⟩:=h;simp only[c8];exact#v[a,b,e,c,d]
def BOk (H:Hp)(B:List SQ):Prop:=∀b∈B,∃o,H b=some o
def BOk.nin (h:BOk H B){p:SQ}(hp:H p=none):p ∉ B:=λz=>by obtain⟨o,e⟩:=h p z;rw[hp]at e;cases e
def K5 {p:SQ}{ds:List My}{xs:List V}(bk:BOk H B)(hp:H p=none)(h:c6 K (hid H B) ds xs):c8 K (hid (upd H p<|.tup xs) B) (.tuple ds) (.ref p):=by have e:j5 (hid H B) (hid (upd H p<|.tup xs) B):=(Kp.upd (fp:=[]) hp).hid (by simp);refine c8.tup ?_<|h.same e;rw[l7<|bk.nin hp];exact j3
def S8 {p:SQ}{ds:List My}{xs:List V}(bk:BOk H B)(hp:H p=none)(h:c6 K (hid H B) ds xs):c8 K (hid (upd H p<|.lst xs) B) (.list ds) (.ref p):=by have e:j5 (hid H B) (hid (upd H p<|.lst xs) B):=(Kp.upd (fp:=[]) hp).hid (by simp);refine c8.lst ?_<|h.same e;rw[l7<|bk.nin hp];exact j3
end
def NoT (o:HO):Prop:=(∀a,o ≠ .tbl a)/\∀φ,o ≠ .ext φ
class Feeds where
 S:Type
 At:SQ->SQ->Hp->S->Prop
 some1:∀{d c H F},At d c H F->∃o,H d=some o/\NoT o
 some2:∀{d c H F},At d c H F->∃o,H c=some o/\NoT o
 congr:∀{d c H H' F},At d c H F->H' d=H d->H' c=H c->At d c H' F
 lam:List Str
abbrev GF :=Option<|SQ×SQ
def tabsK (l:List Str)(K:Qf):List (Str×SQ×SQ):=l.filterMap λx=>(PySem.W.tabIn K x).map λp=>(x,p)
def Ff (x:Str):Str:=x ++ ".<locals>." ++ "<lambda>"
def T3 (ts:List (Str×SQ×SQ))(H:Hp):Prop:=∀t∈ts,FA H t.2.2<|Ff t.1
def T3.congr {H:Hp}(h:T3 ts H)(e:∀b,(b∈ts.map (·.2.2)\/∃φ,H b=some (.ext φ))->H' b=H b):T3 ts H':=λt ht=>by obtain⟨g,k,j,i⟩:=h t ht;refine#v[g,(e _<|.inl<|QA ht).trans k,j,λa l q=>?_];obtain⟨c,f,d⟩:=i a l q;exact#v[c,f,(e c<|.inr #v[_,d]).trans d]
def T3.but {H:Hp}{d:SQ}{o0:HO}(h:T3 ts H)(hd:H d=some o0)(hn:NoT o0)(kp:∀b o,H b=some o->b≠d->H' b=some o):T3 ts H':=h.congr λb c=>by
 obtain⟨o,e,a⟩:∃o,H b=some o/\b≠d:=by
  rcases c with c | ⟨φ,e⟩
  .obtain⟨t,ht,rfl⟩:=Nb.1 c;obtain⟨f,e,_⟩:=h t ht;exact#v[_,e,λz=>by rw[z,hd]at e;exact hn.1 f<|MH e]
  .exact#v[_,e,λz=>by rw[z,hd]at e;exact hn.2 φ<|MH e]
 rw[e];exact kp b o e a
section
variable [Feeds]
def tabP (K:Qf):List SQ:=(tabsK Feeds.lam K).map (·.2.2)
def m8 (K:Qf):GF->List SQ
 | none=>tabP K
 | some (d,c)=>d::c::tabP K
def DC {K:Qf}{G:GF}{b:SQ}(h:b∈tabP K):b∈m8 K G:=by
 cases G with
 | none=>exact h
 | some p=>exact Mw _<|Mw _ h
abbrev FS :=Feeds.S
abbrev M (α:Type):=FS->Option (α×FS)
def HB (G:GF)(H:Hp)(F:FS):Prop:=match G with
 | none=>True
 | some (d,c)=>Feeds.At d c H F
def FAt (K:Qf)(G:GF)(H:Hp)(F:FS):Prop:=HB G H F/\T3 (tabsK Feeds.lam K) H
def FAt.bok {K:Qf}{G:GF}{H:Hp}{F:FS}(h:FAt K G H F):BOk H (m8 K G):=λb a=>by
 have f:b∈tabP K->∃o,H b=some o:=λz=>by obtain⟨t,ht,rfl⟩:=Nb.1 z;obtain⟨i,g,_⟩:=h.2 t ht;exact#v[_,g]
 cases G with
 | none=>exact f a
 | some p =>
  obtain⟨d,c⟩:=p;simp only[m8,MJ]at a;rcases a with rfl | rfl | a
  .obtain⟨o,e,_⟩:=Feeds.some1 h.1;exact#v[o,e]
  .obtain⟨o,e,_⟩:=Feeds.some2 h.1;exact#v[o,e]
  .exact f a
def FAt.congr {K:Qf}{G:GF}{H:Hp}{F:FS}(h:FAt K G H F)(e:∀b,(b∈m8 K G\/∃φ,H b=some (.ext φ))->H' b=H b):FAt K G H' F:=by
 refine#v[?_,h.2.congr λb a=>e b<|a.imp DC id];cases G with
 | none=>trivial
 | some p =>obtain⟨d,c⟩:=p;exact Feeds.congr h.1 (e d<|.inl<|by simp[m8]) (e c<|.inl<|by simp[m8])
def FAt.same {K:Qf}{G:GF}{H:Hp}{F:FS}(h:FAt K G H F)(s:j5 H H'):FAt K G H' F:=h.congr λb a=>by
 rcases a with a | ⟨φ,e⟩
 .obtain⟨o,e⟩:=h.bok b a;rw[e];exact s b o e
 .rw[e];exact s b _ e
inductive DV where
 | dat (d:My) | feed | own (ds:List My) | fn (x:Str) | adr (a:SQ) | dic (w:Bool) (c:Nat) (ps:List (My×My))
def DV.ow:DV->Bool
 | .own _=>true
 | .dic _ _ _=>true
 | _=>false
def J8:Nat->NKey
 | 0=>aG
 | 1=>kZ
 | _+2=>X6
def R0:(c:Nat)->My->Option (J8 c).K
 | 0=>BK
 | 1=>qp
 | _+2=>BB
def KVs (K:Qf)(H:Hp)(c:Nat):List (My×My)->List ((J8 c).K×SQ×V)->Prop
 | [],xs=>xs=[]
 | p::ps,xs=>∃k b v r,xs=(k,b,v)::r/\R0 c p.1=some k/\c8 K H p.1 (.ref b)/\c8 K H p.2 v/\KVs K H c ps r
theorem KVs.same {K:Qf}{H H':Hp}{c:Nat}(s:j5 H H'):∀{ps:List (My×My)} {xs:List ((J8 c).K×SQ×V)},KVs K H c ps xs->KVs K H' c ps xs
 | [],_,h=>h
 | _::_,_,#v[k,b,v,r,e,h1,h2,h3,h4]=>#v[k,b,v,r,e,h1,h2.same s,h3.same s,h4.same s]
def IVs (K:Qf)(H:Hp):List (My×My)->List (Int×V)->Prop
 | [],xs=>xs=[]
 | p::ps,xs=>∃i v r,xs=(i,v)::r/\p.1 = .int i/\c8 K H p.2 v/\IVs K H ps r
theorem IVs.same {K:Qf}{H H':Hp}(s:j5 H H'):∀{ps:List (My×My)} {xs:List (Int×V)},IVs K H ps xs->IVs K H' ps xs
 | [],_,h=>h
 | _::_,_,#v[i,v,r,e,h1,h3,h4]=>#v[i,v,r,e,h1,h3.same s,h4.same s]
def iQ (K:Qf)(H:Hp)(c:Nat)(ps:List (My×My))(a:SQ)(φ:Tb->Prop):Prop :=
 (c≠9/\∃b,φ=NDi (J8 c) a b/\KVs K H c ps b)\/(c=9/\∃dz vs ep,φ=FrI a dz vs ep/\IVs K H ps dz)
def iQ.same {K:Qf}{H:Hp}{c:Nat}{ps:List (My×My)}{a:SQ}(h:iQ K H c ps a φ)(s:j5 H H'):iQ K H' c ps a φ:=by
 rcases h with ⟨b,d,e,h⟩ | ⟨b,dz,vs,ep,e,h⟩
 .exact .inl #v[b,d,e,h.same s]
 .exact .inr #v[b,dz,vs,ep,e,h.same s]
def iQ.not9 {K:Qf}{H:Hp}{c:Nat}{ps:List (My×My)}{a:SQ}(h:iQ K H c ps a φ)(hc:c≠9):∃xs,φ=NDi (J8 c) a xs/\KVs K H c ps xs:=by
 rcases h with ⟨_,h⟩ | ⟨e,_⟩
 .exact h
 .exact absurd e hc
def iQ.is9 {K:Qf}{H:Hp}{ps:List (My×My)}{a:SQ}(h:iQ K H 9 ps a φ):∃dz vs ep,φ=FrI a dz vs ep/\IVs K H ps dz:=by
 rcases h with ⟨e,_⟩ | ⟨_,h⟩
 .exact absurd rfl e
 .exact h
abbrev DE :=List<|Option DV
def DVr (K:Qf)(G:GF)(B:List SQ)(H:Hp):DV->V->Prop
 | .dat d,v=>c8 K (hid H B) d v
 | .feed,v=>∃d c,G=some (d,c)/\v = .ref d
 | .fn x,v=>∃a,v = .ref a/\PySem.W.nsIn K To x=some (some<|.ref a)
 | .adr a,v=>v = .ref a
 | .dic _ c ps,v=>∃a φ,v = .ref a/\a∈B/\a ∉ m8 K G/\H a=some (.ext φ)/\iX a φ/\iQ K (hid H B) c ps a φ
 | .own ds,v=>∃a b,v = .ref a/\a∈B/\a ∉ m8 K G/\H a=some (.lst b)/\c6 K (hid H B) ds b
structure SitE (K:Qf) (G:GF) (B:List SQ) (E:DE) (F:FS) (σ:St) (H:Hp):Prop where
 fd:FAt K G H F
 fB:∀b∈m8 K G,b∈B
 bk:BOk H B
 ln:E.length = σ.length
 loc:∀(i:Nat) (x:DV),E[i]? = some (some x)->∃v,σ[i]? = some (some v)/\DVr K G B H x v
section
variable {K:Qf}{G:GF}{B:List SQ}{E:DE}{F F':FS}{σ:St}{H:Hp}
def B4 (bk:BOk H B)(k:Kp (m8 K G) H H')(f:FAt K G H' F'):BOk H' B:=λb a=>by
 by_cases h:b∈m8 K G
 .exact f.bok b h
 .obtain⟨o,e⟩:=bk b a;exact#v[o,k b o e h]
def DVr.step {x:DV}{v:V}(h:DVr K G B H x v)(k:Kp (m8 K G) H H')(fB:∀b∈m8 K G,b∈B):DVr K G B H' x v:=by
 cases x with
 | dat d=>exact c8.same (h:c8 _ _ _ _)<|k.hid fB
 | feed=>exact h
 | fn _=>exact h
 | adr _=>exact h
 | own o =>obtain⟨a,g,e,l,f,j,i⟩:=h;exact#v[a,g,e,l,f,k a _ j f,i.same<|k.hid fB]
 | dic w c n =>obtain⟨a,g,e,l,f,j,m,i⟩:=h;exact#v[a,g,e,l,f,k a _ j f,m,i.same<|k.hid fB]
def SitE.step (I:SitE K G B E F σ H)(k:Kp (m8 K G) H H')(f:FAt K G H' F'):SitE K G B E F' σ H' :=
 #v[f,I.fB,B4 I.bk k f,I.ln,λi x e=>by obtain⟨v,b,a⟩:=I.loc i x e;exact#v[v,b,a.step k I.fB]]
end
end
end
variable {te:TE}{pos:Pos}{rest:List Ta}
section
section
variable [Feeds]
def TEd (K:Qf)(te:TE)(m:DE->M My):Prop:=∀(G:GF) (B:List SQ) (E:DE) (F:FS) (a:St) (H:Hp) (Q:VK) (d:My) (b:FS),SitE K G B E F a H->m E F=some (d,b) ->
 (∀v H',Kp (m8 K G) H H'->FAt K G H' b->c8 K (hid H' B) d v->Q v H')->te a H Q
def TEs (K:Qf)(te:TE)(m:DE->M My):Prop:=∀(G:GF) (B:List SQ) (E:DE) (F:FS) (a:St) (H:Hp) (Q:VK) (d:My) (b:FS),SitE K G B E F a H->m E F=some (d,b) ->
 (∀v H',Kp (m8 K G) H H'->FAt K G H' b->L7 K (m8 K G) B H' d v->Q v H')->te a H Q
def TEd.sh {K:Qf}{m:DE->M My}(h:TEd K te m):TEs K te m:=λG B E F a H Q d c I e q=>h G B E F a H Q d c I e λv H' k f b=>q v H' k f<|Cf b I.fB
def TTd (K:Qf)(tt:TT)(m:DE->M Bool):Prop:=∀(G:GF) (B:List SQ) (E:DE) (F:FS) (a:St) (H:Hp) (Q:Bool->Hp->Prop) (b:Bool) (c:FS),SitE K G B E F a H->m E F=some (b,c) ->
 (∀H',Kp (m8 K G) H H'->FAt K G H' c->Q b H')->tt a H Q
def TAd (K:Qf)(ta:TA)(m:DE->M (List My)):Prop:=∀(G:GF) (B:List SQ) (E:DE) (F:FS) (a:St) (H:Hp) (Q:List V->Hp->Prop) (b:List My) (c:FS),SitE K G B E F a H->m E F=some (b,c) ->
 (∀vs H',Kp (m8 K G) H H'->FAt K G H' c->c6 K (hid H' B) b vs->Q vs H')->ta a H Q
def iP (K:Qf)(fp B:List SQ)(H:Hp):List My->List V->Prop
 | [],vs=>vs=[]
 | d::ds,vs=>∃v r,vs=v::r/\L7 K fp B H d v/\iP K fp B H ds r
def TAs (K:Qf)(ta:TA)(m:DE->M (List My)):Prop:=∀(G:GF) (B:List SQ) (E:DE) (F:FS) (a:St) (H:Hp) (Q:List V->Hp->Prop) (b:List My) (c:FS),SitE K G B E F a H->m E F=some (b,c) ->
 (∀vs H',Kp (m8 K G) H H'->FAt K G H' c->iP K (m8 K G) B H' b vs->Q vs H')->ta a H Q
structure Ev (K:Qf) (X:Cx) (e:Ta) (te:TE) (m:DE->M My):Prop where
 pe:PE X e te
 ok:TEd K te m
structure Eb (K:Qf) (X:Cx) (e:Ta) (te:TE) (m:DE->M My):Prop where
 pe:PE X e te
 ok:TEs K te m
structure Et (K:Qf) (X:Cx) (e:Ta) (tt:TT) (m:DE->M Bool):Prop where
 pt:PT X e tt
 ok:TTd K tt m
structure Ew (K:Qf) (X:Cx) (e:Ta) (tt:TT) (m:DE->M Bool):Prop where
 pw:PW X e tt
 ok:TTd K tt m
structure Ea (K:Qf) (X:Cx) (es:List Ta) (ta:TA) (m:DE->M (List My)):Prop where
 pa:PA X es ta
 ok:TAd K ta m
structure Es (K:Qf) (X:Cx) (es:List Ta) (ta:TA) (m:DE->M (List My)):Prop where
 pa:PA X es ta
 ok:TAs K ta m
variable {K:Qf}{X:Cx}{a b c e:Ta}{es:List Ta}{ta tb:TE}{ma mb m:DE->M My}
def Ev.bw (h:Ev K X e te m):Eb K X e te m:=#v[h.pe,h.ok.sh]
noncomputable def sC (d:My):DE->M My:=λ_ F=>some (d,F)
def sV (i:Nat):DE->M My:=λE F=>match E[i]? with
 | some (some<|.dat d)=>some (d,F)
 | _=>none
noncomputable def sW (i:Nat):DE->M My:=λE F=>match E[i]? with
 | some (some<|.dat d)=>some (d,F)
 | some (some<|.own ds)=>some (.list ds,F)
 | _=>none
def zO {d:My}{v:V}(h:∀H,c8 K H d v):TEd K (tC v) (sC d):=λG B E F a H Q b c I e q=>by cases e;exact q v H Kp.refl I.fd<|h _
def f9 {i j}:Ev K X (.Constant (.int i) j pos) (tC<|.int i) (sC<|.int i):=#v[u0,zO λ_=>c8.int]
def bC {x j}:Ev K X (.Constant (.bool x) j pos) (tC<|.bl x) (sC<|.bool x):=#v[GR,zO λ_=>c8.bl]
def wj {j}:Ev K X (.Constant .none j pos) (tC .non) (sC .none):=#v[Ct,zO λ_=>c8.non]
def eL {x j}:Ev K X (.Constant (.str x) j pos) (tC<|.str x) (sC<|.str x):=#v[vT,zO λ_=>c8.st]
def Fw (i:Nat):TEd K (Q2 i) (sV i):=λG B E F f H Q d g I e q=>by
 unfold sV at e;split at e
 .rename_i x a;cases e;obtain⟨v,c,b⟩:=I.loc i _ a;exact#v[v,c,q v H Kp.refl I.fd b]
 .cases e
def GW (i:Nat):TEs K (Q2 i) (sW i):=λG B E F k H Q d m I e q=>by
 unfold sW at e;split at e
 .rename_i x a;cases e;obtain⟨v,c,b⟩:=I.loc i _ a;exact#v[v,c,q v H Kp.refl I.fd<|Cf b I.fB]
 .rename_i x a;cases e;obtain⟨v,c,b⟩:=I.loc i _ a;refine#v[v,c,q v H Kp.refl I.fd ?_];obtain⟨p,f,rfl,l,h,g,j⟩:=b;exact#v[p,f,rfl,by rw[l7 h];exact g,j]
 .cases e
def j8 (i:Nat){x:Str}(hN:X.N[i]? = some x:=by rfl)(hv:Vis X.env.scope x:=by first | exact Or.inl rfl | exact Or.inr (Or.inl rfl) | exact Or.inr<|Or.inr rfl)(hd:nDb x:=by decide)
  (hcd:nCd x:=by decide):Ev K X (.Name x pos) (Q2 i) (sV i):=#v[D5 hN hv hd hcd,Fw i]
def k8 (i:Nat){x:Str}(hN:X.N[i]? = some x:=by rfl)(hv:Vis X.env.scope x:=by first | exact Or.inl rfl | exact Or.inr (Or.inl rfl) | exact Or.inr<|Or.inr rfl)(hd:nDb x:=by decide)
  (hcd:nCd x:=by decide):Eb K X (.Name x pos) (Q2 i) (sW i):=#v[D5 hN hv hd hcd,GW i]
def rD1 (K:Qf)(f:My->Option My):V->Hp->VK->Prop:=λx H Q=>∃fp B d r,BOk H B/\L7 K fp B H d x/\f d=some r/\∀v H',j5 H H'->c8 K (hid H' B) r v->Q v H'
def rD2 (K:Qf)(f:My->My->Option My):R2:=λx y H Q=>∃fp B d e r,BOk H B/\L7 K fp B H d x/\L7 K fp B H e y/\f d e=some r/\∀v H',j5 H H'->c8 K (hid H' B) r v->Q v H'
def rDN (K:Qf)(f:List My->Option My):List V->Hp->VK->Prop:=λb H Q=>∃fp B a r,BOk H B/\iP K fp B H a b/\f a=some r/\∀v H',j5 H H'->c8 K (hid H' B) r v->Q v H'
def s1 (f:My->Option My)(a:DE->M My):DE->M My:=λE F=>(a E F).bind λp=>(f p.1).bind λz=>some (z,p.2)
def s2 (f:My->My->Option My)(a b:DE->M My):DE->M My:=λE F=>(a E F).bind λp=>(b E p.2).bind λq=>(f p.1 q.1).bind λz=>some (z,q.2)
def sN (f:List My->Option My)(a:DE->M (List My)):DE->M My:=λE F=>(a E F).bind λp=>(f p.1).bind λz=>some (z,p.2)
def Bm {f:My->Option My}(ha:TEs K ta ma):TEd K (tUn (rD1 K f) ta) (s1 f ma):=λG B E F c H Q d n I e q=>by obtain⟨⟨x,l⟩,j,e⟩:=bS9 e;obtain⟨z,i,e⟩:=bS9 e;cases e;refine ha G B E F c H _ x l I j λv m a b h=>#v[m8 K G,B,x,_,B4 I.bk a b,h,i,λw k s g=>q w k (a.trans<|Kp.same s) (b.same s) g]
def rS {f:My->My->Option My}(ha:TEs K ta ma)(hb:TEs K tb mb):TEd K (tOp (rD2 K f) ta tb) (s2 f ma mb):=λG B E F c H Q d C I e q=>by
 obtain⟨⟨x,h⟩,o,e⟩:=bS9 e;obtain⟨⟨y,t⟩,n,e⟩:=bS9 e;obtain⟨z,m,e⟩:=bS9 e;cases e;refine ha G B E F c H _ x h I o λv r b l k=>?_
 refine hb G B E h c r _ y t (I.step b l) n λw A a g j=>#v[m8 K G,B,x,y,_,B4 I.bk (b.trans a) g,k.step a I.fB,j,m,λu p s i=>q u p ((b.trans a).trans<|Kp.same s) (g.same s) i]
def uS {f:List My->Option My}{t:TA}{ms:DE->M (List My)}(ha:TAs K t ms):TEd K (tCB (rDN K f) t) (sN f ms):=λG B E F c H Q d n I e q=>by obtain⟨⟨x,l⟩,j,e⟩:=bS9 e;obtain⟨z,i,e⟩:=bS9 e;cases e;exact ha G B E F c H _ x l I j λvs m a b h=>#v[m8 K G,B,x,_,B4 I.bk a b,h,i,λw k s g=>q w k (a.trans<|Kp.same s) (b.same s) g]
def i9 {op:Operator}{f:My->My->Option My}(ho:OpR X (binaryOp op) (rD2 K f))(ha:Eb K X a ta ma)(hb:Eb K X b tb mb):Ev K X (.BinOp a op b pos) (tOp (rD2 K f) ta tb) (s2 f ma mb):=#v[C3 ho ha.pe hb.pe,rS ha.ok hb.ok]
def nh {op:UnaryOp}{f:My->Option My}(ho:UnR X (unaryOp op) (rD1 K f))(ha:Eb K X a ta ma):Ev K X (.UnaryOp op a pos) (tUn (rD1 K f) ta) (s1 f ma):=#v[wq ho ha.pe,Bm ha.ok]
def aD {op:CmpOp}{f:My->My->Option My}(ho:OpR X (compareOp op) (rD2 K f))(ha:Eb K X a ta ma)(hb:Eb K X b tb mb)(hm:behindInMarks op b=false:=by first | exact eI _ | rfl):Ev K X (.Compare a [op] [b] pos) (tOp (rD2 K f) ta tb) (s2 f ma mb):=#v[AZ ho ha.pe hb.pe hm,rS ha.ok hb.ok]
def L8 {f:My->My->Option My}(hr:IxR X (rD2 K f))(ha:Eb K X a ta ma)(hb:Eb K X b tb mb)(hs:qX b:=by intro _ _;rfl):Ev K X (.Subscript a b pos) (tOp (rD2 K f) ta tb) (s2 f ma mb):=#v[bH hr ha.pe hb.pe hs,rS ha.ok hb.ok]
def u6 {f:List My->Option My}{id:String}{x:Str}{p:Pos}{t:TA}{ms:DE->M (List My)}(hc:A1 X (.builtin id) (rDN K f))(hm:X.mg x=none)(hv:Ts x=some (.builtin id))(ha:Es K X (e::es) t ms)(hg:Gl X x:=by rfl)(hn:x ≠ "__name__":=by decide)(hdb:nDb x:=by decide)
  (he:Td (e::es) X.env=(false,eval e X.env)::Td es X.env:=by rfl) (hpl:(Ti pos<|Td es X.env).any (·.1)=false:=by rfl):Ev K X (.Call (.Name x p) (e::es) [] pos) (tCB (rDN K f) t) (sN f ms):=#v[M6 hc hg hm hv ha.pa hn hdb he hpl,uS ha.ok]
def S9 {f:List My->Option My}{T:String}{x:Str}{p:Pos}{t:TA}{ms:DE->M (List My)}(hc:A1 X (.type T) (rDN K f))(hm:X.mg x=none)(hv:Ts x=some (.type T))(ha:Es K X (e::es) t ms)(hg:Gl X x:=by rfl)(hn:x ≠ "__name__":=by decide)(hdb:nDb x:=by decide)
  (he:Td (e::es) X.env=(false,eval e X.env)::Td es X.env:=by rfl) (hpl:(Ti pos<|Td es X.env).any (·.1)=false:=by rfl):Ev K X (.Call (.Name x p) (e::es) [] pos) (tCB (rDN K f) t) (sN f ms):=#v[sL hc hg hm hv ha.pa hn hdb he hpl,uS ha.ok]
def l0 :DE->M (List My):=λ_ F=>some ([],F)
def d7 (a:DE->M My)(r:DE->M (List My)):DE->M (List My):=λE F=>(a E F).bind λp=>(r E p.2).bind λq=>some (p.1::q.1,q.2)
def l9 :Ea K X [] T4 l0:=#v[B1,λG B E F a H Q b c I e q=>by cases e;exact q [] H Kp.refl I.fd c6.nil]
def d8 {t:TA}{ms:DE->M (List My)}(ha:Ev K X e te m)(hr:Ea K X es t ms)(hs:Td (e::es) X.env=(false,eval e X.env)::Td es X.env:=by rfl):Ea K X (e::es) (x6 te t) (d7 m ms) :=
 #v[n6 ha.pe hr.pa hs,λG B E F a H Q r s I e q=>by
  obtain⟨⟨x,d⟩,l,e⟩:=bS9 e;obtain⟨⟨f,p⟩,k,e⟩:=bS9 e;cases e;refine ha.ok G B E F a H _ x d I l λv o c j h=>?_
  refine hr.ok G B E d a o _ f p (I.step c j) k λvs n b i g=>q _ n (c.trans b) i<|.cons (h.same<|b.hid I.fB) g]
def v7 :Es K X [] T4 l0:=#v[B1,λG B E F a H Q b c I e q=>by cases e;exact q [] H Kp.refl I.fd rfl]
def n9 {t:TA}{ms:DE->M (List My)}(ha:Eb K X e te m)(hr:Es K X es t ms)(hs:Td (e::es) X.env=(false,eval e X.env)::Td es X.env:=by rfl):Es K X (e::es) (x6 te t) (d7 m ms) :=
 #v[n6 ha.pe hr.pa hs,λG B E F a H Q r s I e q=>by
  obtain⟨⟨x,d⟩,l,e⟩:=bS9 e;obtain⟨⟨f,p⟩,k,e⟩:=bS9 e;cases e;refine ha.ok G B E F a H _ x d I l λv o c j h=>?_
  refine hr.ok G B E d a o _ f p (I.step c j) k λvs n b i g=>q _ n (c.trans b) i #v[v,vs,rfl,h.step b I.fB,g]]
def Q3 (a:DE->M (List My)):DE->M My:=λE F=>(a E F).bind λp=>if p.1.length<=Tc then some (.tuple p.1,p.2) else none
def jf (a:DE->M (List My)):DE->M My:=λE F=>(a E F).bind λp=>if p.1.length<=Tc then some (.list p.1,p.2) else none
def B8 {k}{t:TA}{ms:DE->M (List My)}(h:Ea K X es t ms):Ev K X (.Tuple es k pos) (oE t) (Q3 ms):=#v[ik h.pa,λG B E F g H Q d m I e q=>by
 obtain⟨⟨x,j⟩,i,e⟩:=bS9 e;split at e
 .rename_i hl;cases e;refine h.ok G B E F g H _ x j I i λvs l b f c=>#v[by rw[c.length];exact hl,λp a=>q _ _ (b.trans<|Kp.upd a) (f.same<|j5.upd a)<|K5 (B4 I.bk b f) a c]
 .cases e]
def lz {t:TA}{ms:DE->M (List My)}(h:Ea K X es t ms):Ev K X (.List es pos) (Ag t) (jf ms):=#v[kq h.pa,λG B E F g H Q d l I e q=>by
 obtain⟨⟨x,j⟩,i,e⟩:=bS9 e;split at e
 .rename_i hl;cases e;refine h.ok G B E F g H _ x j I i λvs k b f c=>#v[by rw[c.length];exact hl,λp a=>q _ _ (b.trans<|Kp.upd a) (f.same<|j5.upd a)<|S8 (B4 I.bk b f) a c]
 .cases e]
def aI:My->Option Bool
 | .bool b=>some b
 | _=>none
def ay {d:My}{b:Bool}(h:aI d=some b):d = .bool b:=by cases d <;> simp[aI]at h;rw[h]
def ip (a b:DE->M My):DE->M My:=λE F=>(a E F).bind λp=>(aI p.1).bind λc=>if c=true then b E p.2 else some (.bool false,p.2)
def xJ (a:DE->M My):DE->M My:=λE F=>(a E F).bind λp=>(aI p.1).bind λc=>some (.bool (!c),p.2)
def bV {op}(h:Ev K X a te m):Ev K X (.BoolOp op [a] pos) te m:=#v[CI h.pe,h.ok]
def aO (ha:Ev K X a ta ma)(hb:Ev K X (.BoolOp .And (b::rest) pos) tb mb):Ev K X (.BoolOp .And (a::b::rest) pos) (BR ta tb) (ip ma mb):=#v[Ep ha.pe hb.pe,λG B E F g H Q d s I e q=>by
 obtain⟨⟨x,k⟩,p,e⟩:=bS9 e;obtain⟨c,o,e⟩:=bS9 e;refine ha.ok G B E F g H _ x k I p λv j f i h=>?_
 have:=ay o;simp only at this;subst this;simp only[c8]at h;refine#v[c,h,?_];cases c with
 | true=>exact hb.ok G B E k g j _ d s (I.step f i) e λw r l n m=>q w r (f.trans l) n m
 | false=>cases e;exact q _ j f i c8.bl]
def vA (ha:Ev K X a ta ma):Ev K X (.UnaryOp .Not a pos) (BH ta) (xJ ma):=#v[Dd ha.pe,λG B E F f H Q d m I e q=>by
 obtain⟨⟨x,l⟩,j,e⟩:=bS9 e;obtain⟨c,i,e⟩:=bS9 e;cases e;refine ha.ok G B E F f H _ x l I j λv k g h b=>?_
 have:=ay i;simp only at this;subst this;simp only[c8]at b;exact#v[_,b,q _ k g h c8.bl]]
def sIf (c:DE->M Bool)(a b:DE->M My):DE->M My:=λE F=>(c E F).bind λp=>if p.1=true then a E p.2 else b E p.2
def wG {tt:TT}{mt:DE->M Bool}(hc:Et K X c tt mt)(ha:Ev K X a ta ma)(hb:Ev K X b tb mb):Ev K X (.IfExp c a b pos) (tIf tt ta tb) (sIf mt ma mb):=#v[mH hc.pt ha.pe hb.pe,λG B E F g H Q d o I e q=>by
 obtain⟨⟨x,l⟩,p,e⟩:=bS9 e;refine hc.ok G B E F g H _ x l I p λn f m=>?_
 cases x with
 | true=>exact ha.ok G B E l g n _ d o (I.step f m) e λw k h j i=>q w k (f.trans h) j i
 | false=>exact hb.ok G B E l g n _ d o (I.step f m) e λw k h j i=>q w k (f.trans h) j i]
variable {tA tB:TT}{na nb:DE->M Bool}
def uB (a:DE->M My):DE->M Bool:=λE F=>(a E F).bind λp=>(aI p.1).bind λc=>some (c,p.2)
def lX (a b:DE->M Bool):DE->M Bool:=λE F=>(a E F).bind λp=>if p.1=true then b E p.2 else some (false,p.2)
def uOr (a b:DE->M Bool):DE->M Bool:=λE F=>(a E F).bind λp=>if p.1=true then some (true,p.2) else b E p.2
def df (a:DE->M Bool):DE->M Bool:=λE F=>(a E F).bind λp=>some (!p.1,p.2)
def C8 {op:CmpOp}{f:My->My->Option My}(ho:OpR X (compareOp op) (rD2 K f))(ha:Eb K X a ta ma)(hb:Eb K X b tb mb)(hm:behindInMarks op b=false:=by first | exact eI _ | rfl):Et K X (.Compare a [op] [b] pos) (BW<|tOp (rD2 K f) ta tb) (uB<|s2 f ma mb) :=
 #v[dG ho ha.pe hb.pe hm,λG B E F h H Q d o I e q=>by
  obtain⟨⟨x,n⟩,l,e⟩:=bS9 e;obtain⟨c,k,e⟩:=bS9 e;cases e;refine rS ha.ok hb.ok G B E F h H _ x n I l λv m i j g=>?_
  have:=ay k;simp only at this;subst this;simp only[c8]at g;exact#v[_,g,q m i j]]
def lg (ha:Et K X a tA na):Ew K X (.BoolOp .And [a] pos) tA na:=#v[kF ha.pt,ha.ok]
def kf (ha:Et K X a tA na):Ew K X (.BoolOp .Or [a] pos) tA na:=#v[CL ha.pt,ha.ok]
def kW (ha:Et K X a tA na)(hb:Ew K X (.BoolOp .And (b::rest) pos) tB nb):Ew K X (.BoolOp .And (a::b::rest) pos) (Ao tA tB) (lX na nb):=#v[lD ha.pt hb.pw,λG B E F f H Q d n I e q=>by
 obtain⟨⟨x,i⟩,l,e⟩:=bS9 e;refine ha.ok G B E F f H _ x i I l λh c g=>?_
 cases x with
 | true=>exact hb.ok G B E i f h _ d n (I.step c g) e λm j k=>q m (c.trans j) k
 | false=>cases e;exact q h c g]
def fx (ha:Et K X a tA na)(hb:Ew K X (.BoolOp .Or (b::rest) pos) tB nb):Ew K X (.BoolOp .Or (a::b::rest) pos) (tOr tA tB) (uOr na nb):=#v[Gn ha.pt hb.pw,λG B E F f H Q d n I e q=>by
 obtain⟨⟨x,i⟩,l,e⟩:=bS9 e;refine ha.ok G B E F f H _ x i I l λh c g=>?_
 cases x with
 | false=>exact hb.ok G B E i f h _ d n (I.step c g) e λm j k=>q m (c.trans j) k
 | true=>cases e;exact q h c g]
def Ew.t (h:Ew K X a tA na):Et K X a tA na:=#v[h.pw.pt,h.ok]
def U6 (ha:Et K X a tA na):Et K X (.UnaryOp .Not a pos) (CK tA) (df na):=#v[wI ha.pt,λG B E F b H Q d j I e q=>by obtain⟨⟨x,i⟩,g,e⟩:=bS9 e;cases e;exact ha.ok G B E F b H _ x i I g λh c f=>q h c f]
def Ad:My->Option Bool
 | .none=>some false
 | .bool b=>some b
 | .int i=>some<|i != 0
 | .str x=>if x.length<=Tc then some ((x.length:Int) != 0) else none
 | .tuple ds=>some (!ds.isEmpty)
 | .list ds=>some (!ds.isEmpty)
 | .dict _=>none
def uT (a:DE->M My):DE->M Bool:=λE F=>(a E F).bind λp=>(Ad p.1).bind λc=>some (c,p.2)
def cK {H:Hp}{ds:List My}{xs:List V}(h:c6 K H ds xs):xs.isEmpty=ds.isEmpty:=by
 cases ds with
 | nil=>simp only[c6]at h;subst h;rfl
 | cons d r=>simp only[c6]at h;obtain⟨x,r,rfl,_⟩:=h;rfl
def Dl {B:List SQ}{H:Hp}{d:My}{v:V}{c:Bool}(h:L7 K fp B H d v)(e:Ad d=some c):xG K v H c:=by
 cases d with
 | none=>cases h;cases e;rfl
 | bool b=>cases h;cases e;rfl
 | int i=>cases h;cases e;rfl
 | str x =>
  cases h;simp only[Ad]at e;split at e
  .rename_i hl;cases e;exact#v[hl,rfl]
  .cases e
 | tuple j =>obtain⟨p,a,rfl,f,g⟩:=h;cases e;exact .inr (.inl #v[a,f.same f8,by rw[cK g]])
 | list j =>obtain⟨p,a,rfl,f,g⟩:=h;cases e;exact .inl #v[a,SqL.of<|f8 _ _ f,by rw[cK g]]
 | dict dz=>exact(show False from h).elim
def G6 (ha:Eb K X a ta ma)(hK:X.K=K:=by rfl)(he:∀whole,isTrue a X.env whole=(do let v <-whole;standAt a.pos;holding [v] (truthy v)):=by intro _;rfl) :
  Et K X a (λσ H Q=>ta σ H λx H'=>∃k,xG K x H' k/\Q k H') (uT ma):=#v[tH hK ha.pe he,λG B E F σ H Q d m I e q=>by obtain⟨⟨x,l⟩,i,e⟩:=bS9 e;obtain⟨c,h,e⟩:=bS9 e;cases e;exact ha.ok G B E F σ H _ x l I i λv j b g f=>#v[_,Dl f h,q j b g]]
end
end
variable {C:Int->Int->Prop}
section
section
variable {K:Qf}{X:Cx}
def cE {B:List SQ}{H:Hp}{ds:List My}{d:My}{vs:List V}(h:iP K fp B H ds vs)(e:ds=[d]):∃v,vs=[v]/\L7 K fp B H d v:=by subst e;obtain⟨v,r,rfl,b,a⟩:=h;cases a;exact#v[v,rfl,b]
def GO {B:List SQ}{H:Hp}{ds:List My}{d e:My}{vs:List V}(h:iP K fp B H ds vs)(eq:ds=[d,e]):∃v w,vs=[v,w]/\L7 K fp B H d v/\L7 K fp B H e w:=by subst eq;obtain⟨v,r,rfl,c,w,f,rfl,b,a⟩:=h;cases a;exact#v[v,w,rfl,c,b]
def i2 (C:Int->Int->Prop)[∀i j,Decidable<|C i j](g:Int->Int->My):My->My->Option My
 | .int i,.int j=>if C i j then some (g i j) else none
 | _,_=>none
def rP [∀i j,Decidable<|C i j]{g:Int->Int->My}{d e r:My}(h:i2 C g d e=some r):∃i j,d = .int i/\e = .int j/\C i j/\r=g i j:=by
 cases d <;> cases e <;> simp only[i2]at h <;> try cases h
 split at h
 .rename_i a;cases h;exact#v[_,_,rfl,rfl,a,rfl]
 .cases h
def Bh {f:SN->SN->Sem SN}[∀i j,Decidable<|C i j]{g:Int->Int->V}{gd:Int->Int->My}(ho:OpR X f (rI C g))(hg:∀H i j,c8 K H (gd i j)<|g i j):OpR X f (rD2 K<|i2 C gd):=by intro a s b H x y v u Q I k c h;obtain⟨fp,B,d,e,r,bk,o,n,l,q⟩:=h;obtain⟨i,j,rfl,rfl,m,rfl⟩:=rP l;cases o;cases n;exact ho a s b H _ _ v u Q I k c #v[i,j,rfl,rfl,m,q _ H (j5.refl H)<|hg _ i j]
def gH {f:SN->SN->Sem SN}{g:Int->Int->V}{gd:Int->Int->My}(ho:OpR X f (rI0 g))(hg:∀H i j,c8 K H (gd i j)<|g i j):OpR X f (rD2 K<|i2 (λ_ _=>True) gd):=by intro a s b H x y v u Q I k c h;obtain⟨fp,B,d,e,r,bk,n,m,l,q⟩:=h;obtain⟨i,j,rfl,rfl,o,rfl⟩:=rP l;cases n;cases m;exact ho a s b H _ _ v u Q I k c #v[i,j,rfl,rfl,q _ H (j5.refl H)<|hg _ i j]
abbrev nE :=i2 (λ_ _=>True) λi j=>.int<|i-j
def dW :OpR X (binaryOp .Sub) (rD2 K nE):=gH Cw λ_ _ _=>c8.int
instance:∀i j,Decidable (zq i j):=λi j=>inferInstanceAs<|Decidable<|_/\_/\_
instance:∀i j,Decidable (yj i j):=λi j=>inferInstanceAs<|Decidable<|(_/\_)\/(_/\_)
abbrev zT :=i2 (λ_ j=>0<j) λi j=>.int<|i % j
def ya :OpR X (binaryOp .Mod) (rD2 K zT):=Bh Y7 λ_ _ _=>c8.int
def xy (i j:Int):Prop:=j≠0/\j.natAbs<2 ^ 9000
instance {i j:Int}:Decidable (xy i j):=inferInstanceAs<|Decidable<|_/\_
@[irreducible] def jc:Nat:=2 ^ 400000
def qC :jc=2 ^ 400000:=by unfold jc;rfl
def sr {n:Nat}(h:n<=400000):2 ^ n<=jc:=by rw[qC];exact Nd (by decide) h
def Big (i j:Int):Prop:=yj i j\/(i.natAbs<jc/\j.natAbs<jc)
instance {i j:Int}:Decidable (Big i j):=inferInstanceAs<|Decidable<|_\/_
def sG {n:Nat}{i:Int}(h:i.natAbs<2 ^ n):Builtin.Int.intBits i<=n:=by
 unfold Builtin.Int.intBits;split
 .exact Nv _
 .rename_i a;have a:i.natAbs≠0:=λz=>a (by simpa using z)
  exact(SM a).2 h
def Big.ok {i j:Int}(h:Big i j):IntMulOk i j:=by
 rcases h with h | ⟨f,d⟩
 .exact h.ok
 .unfold IntMulOk;have e:Builtin.Int.intTooBig ((Builtin.Int.intBits i:Int)+Builtin.Int.intBits j)=false:=by
   unfold Builtin.Int.intTooBig;rw[qC]at f d;have a:=sG f;have b:=sG d;have c:(bitsLine:Nat)=134217728:=by decide
   refine MX ?_;rw[c];omega
  rw[e,Bool.and_false];exact MV
def AA :OpR X (binaryOp .Mult) (rI Big λi j=>.int<|i*j):=opI λ_ _ _ _ _ _ _ a q=>mul_int q a.ok
def xW :OpR X (binaryOp .FloorDiv) (rI xy λi j=>.int<|i.fdiv j):=opI λi j _ _ _ _ _ a q=>by
 have b:j.natAbs≠0:=λz=>a.1<|Int.natAbs_eq_zero.1 z
 exact floordiv_int a.1 q<|.inl<|PyProof.noPylong_of_log2<|(SM b).2 a.2
abbrev gv :=i2 xy λi j=>.int<|i.fdiv j
def gf :OpR X (binaryOp .FloorDiv) (rD2 K gv):=Bh xW λ_ _ _=>c8.int
abbrev ltD :=i2 (λ_ _=>True) λi j=>.bool<|decide (i<j)
abbrev leD :=i2 (λ_ _=>True) λi j=>.bool<|decide (i<=j)
abbrev gtD :=i2 (λ_ _=>True) λi j=>.bool<|decide (j<i)
abbrev geD :=i2 (λ_ _=>True) λi j=>.bool<|decide (j<=i)
def fk :OpR X (compareOp .Lt) (rD2 K ltD):=gH Bp λ_ _ _=>c8.bl
def Bl :OpR X (compareOp .LtE) (rD2 K leD):=gH FF λ_ _ _=>c8.bl
def nA :OpR X (compareOp .Gt) (rD2 K gtD):=gH xt λ_ _ _=>c8.bl
def Br :OpR X (compareOp .GtE) (rD2 K geD):=gH BJ λ_ _ _=>c8.bl
def D2:My->My->Option My
 | .int i,.int j=>some<|.int<|i+j
 | .str x,.str y=>if x.length+y.length<=Tc then some (.str<|x++y) else none
 | .tuple xs,.tuple ys=>if xs.length+ys.length<=Tc then some (.tuple<|xs++ys) else none
 | .list xs,.list ys=>if xs.length+ys.length<=Tc then some (.list<|xs++ys) else none
 | _,_=>none
def c6.nil_of {H:Hp}{ds:List My}{xs:List V}(h:c6 K H ds xs)(e:xs=[]):ds=[]:=by subst e;exact PQ.1 (by rw[<-h.length];rfl)
def v5 (hK:X.K=K):OpR X (binaryOp .Add) (rD2 K D2):=by
 intro c s k H x y v u Q I o n h;obtain⟨fp,B,d,e,r,bk,C,A,f,q⟩:=h;cases d <;> cases e <;> simp only[D2]at f <;> try cases f
 .cases C;cases A;exact ck c s k H _ _ v u Q I o n #v[_,_,rfl,rfl,q _ H (j5.refl H) c8.int]
 .cases C;cases A;split at f
  .rename_i hl;cases f;exact oH c s k H _ _ v u Q I o n #v[_,_,rfl,rfl,hl,q _ H (j5.refl H) c8.st]
  .cases f
 .obtain⟨a,m,rfl,w,i⟩:=C;obtain⟨b,l,rfl,t,g⟩:=A;split at f
  .rename_i hl;cases f;refine xK c s k H _ _ v u Q I o n #v[a,b,m,l,rfl,rfl,f8 _ _ w,f8 _ _ t,by rw[i.length,g.length];exact hl,λp j=>q _ _ (j5.upd j)<|S8 bk j<|c6.append g i]
  .cases f
 .obtain⟨a,m,rfl,w,i⟩:=C;obtain⟨b,l,rfl,t,g⟩:=A;split at f
  .rename_i hl;cases f;refine zV hK c s k H _ _ v u Q I o n #v[a,b,m,l,rfl,rfl,w.same f8,t.same f8,by rw[i.length,g.length];exact hl,λz=>q _ H (j5.refl H) ?_,λz=>q _ H (j5.refl H) ?_,λp j=>q _ _ (j5.upd j)<|K5 bk j<|c6.append g i]
   .cases c6.nil_of i z;simp only[c8,Nq];exact#v[b,l,rfl,t,g]
   .cases c6.nil_of g z;simp only[c8,NW];exact#v[a,m,rfl,w,i]
  .cases f
def Ej:My->My->Option My
 | .int i,.int j=>if Big i j then some (.int<|i*j) else none
 | .list xs,.int k=>if -(2 ^ 63)<=k/\k<2 ^ 63/\xs.length*k.toNat<=Tc then some (.list (List.replicate k.toNat xs).flatten) else none
 | _,_=>none
theorem c6.rep {H:Hp}{ds:List My}{xs:List V}(h:c6 K H ds xs):∀n,c6 K H (List.replicate n ds).flatten (List.replicate n xs).flatten
 | 0=>c6.nil
 | n+1=>by rw[OB,OB,OT,OT];exact c6.append (c6.rep h n) h
def EZ :OpR X (binaryOp .Mult) (rD2 K Ej):=by
 intro b s g H x y v u Q I j i h;obtain⟨fp,B,d,e,r,bk,n,m,c,q⟩:=h;cases d <;> cases e <;> simp only[Ej]at c <;> try cases c
 .cases n;cases m;split at c
  .rename_i f;cases c;exact AA b s g H _ _ v u Q I j i #v[_,_,rfl,rfl,f,q _ H (j5.refl H) c8.int]
  .cases c
 .obtain⟨a,o,rfl,t,l⟩:=n;cases m;split at c
  .rename_i f;cases c;exact Cr b s g H _ _ v u Q I j i #v[a,_,o,rfl,rfl,f8 _ _ t,f.1,f.2.1,by rw[l.length];exact f.2.2,λp k=>q _ _ (j5.upd k)<|S8 bk k<|c6.rep l _]
  .cases c
open PySem.SeqAt in
def eqD (neg:Bool):My->My->Option My
 | .str x,.str y=>some (.bool<|if neg then !decide (x=y) else decide (x=y))
 | d,e=>if shaped d=true/\shaped e=true then some (.bool<|if neg then !PyData.eqv d e else My.eqv d e) else none
def rq (hK:X.K=K)(hu:X.A.units+64<Tv):OpR X (compareOp .Eq) (rD2 K<|eqD false):=by
 subst hK;intro f s m H x y v u Q I i g h;obtain⟨fp,B,d,e,r,bk,l,k,c,q⟩:=h;unfold eqD at c;split at c
 .cases c;cases l;cases k;have z:=q _ H (j5.refl H) c8.bl;rename_i a b;have e:decide (V.str a=V.str b)=decide (a=b):=by simp
  exact Fm f s m H _ _ v u Q I i g #v[rfl,by rw[e];exact z]
 .split at c
  .rename_i j;cases c;obtain⟨as,o⟩:=M9 I _ x v l.dat i;obtain⟨bs,n⟩:=M9 I _ y u k.dat g;exact eq_dataH o n j.1 j.2 hu #v[.bl _,H,I,rfl,q _ H (j5.refl H) c8.bl]
  .cases c
def mq (hK:X.K=K)(hu:X.A.units+64<Tv):OpR X (compareOp .NotEq) (rD2 K<|eqD true):=by
 subst hK;intro f s m H x y v u Q I i g h;obtain⟨fp,B,d,e,r,bk,l,k,c,q⟩:=h;unfold eqD at c;split at c
 .cases c;cases l;cases k;have z:=q _ H (j5.refl H) c8.bl;rename_i a b;have e:decide (V.str a=V.str b)=decide (a=b):=by simp
  exact FP f s m H _ _ v u Q I i g #v[rfl,by rw[e];exact z]
 .split at c
  .rename_i j;cases c;obtain⟨as,o⟩:=M9 I _ x v l.dat i;obtain⟨bs,n⟩:=M9 I _ y u k.dat g;exact ne_dataH o n j.1 j.2 hu #v[.bl _,H,I,rfl,q _ H (j5.refl H) c8.bl]
  .cases c
open PySem.SeqAt in
def inD (neg:Bool):My->My->Option My
 | d,.list xs=>if shaped (.list xs)=true/\shaped d=true then some (.bool<|if neg then !(xs.any λy=>My.eqv y d) else xs.any λy=>My.eqv y d) else none
 | d,.tuple xs=>if shaped (.tuple xs)=true/\shaped d=true then some (.bool<|if neg then !(xs.any λy=>My.eqv y d) else xs.any λy=>My.eqv y d) else none
 | _,_=>none
def Bu (hK:X.K=K)(hu:X.A.units+65<Tv):OpR X (compareOp .In) (rD2 K<|inD false):=by
 subst hK;intro g s m H x y v u Q I j i h;obtain⟨fp,B,d,e,r,bk,l,k,a,q⟩:=h;obtain⟨as,f⟩:=M9 I _ x v l.dat j;obtain⟨bs,c⟩:=M9 I _ y u k.dat i;cases e <;> simp only[inD]at a <;> try cases a
 .split at a
  .rename_i b;cases a;exact PySem.SeqAt.in_list_reads c f (by have:=Pb b.1;simpa only[My.canLay0] using this) (Pb b.2) (room_in_shaped b.2 hu) #v[.bl _,H,I,rfl,q _ H (j5.refl H) c8.bl]
  .cases a
 .split at a
  .rename_i b;cases a;exact PySem.SeqAt.in_tuple_reads c f (by have:=Pb b.1;simpa only[My.canLay0] using this) (Pb b.2) (room_in_shaped b.2 hu) #v[.bl _,H,I,rfl,q _ H (j5.refl H) c8.bl]
  .cases a
end
end
variable {p2:Pos}
section
section
variable {K:Qf}{X:Cx}
def c6.at {H:Hp}{ds:List My}{xs:List V}{i:Int}{d:My}(h:c6 K H ds xs)(e:atI ds i=some d):∃v,atI xs i=some v/\c8 K H d v:=by
 unfold atI at e ⊢;rw[h.length];cases q:ixN ds.length i with
 | none=>rw[q]at e;cases e
 | some j =>
  rw[q]at e;have e:ds[j]? = some d:=e;obtain⟨c,_⟩:=MK.1 e;have a:xs[j]? = some (xs[j]'(by rw[h.length];exact c)):=by simp
  obtain⟨g,b,f⟩:=h.get a;rw[e]at b;cases b;exact#v[_,a,f]
def ixD:My->My->Option My
 | .list ds,.int i=>atI ds i
 | .tuple ds,.int i=>atI ds i
 | .str x,.int i=>if x.length<=Tc then(atI x.cps.toList i).map λc=>.str #v[#[c]] else none
 | _,_=>none
def L4 (hK:X.K=K):IxR X (rD2 K ixD):=by
 intro b f g s k H x y v u Q I n m h o;obtain⟨fp,B,d,e,r,bk,A,z,i,q⟩:=h;cases d <;> cases e <;> simp only[ixD]at i <;> try cases i
 .cases A;cases z;split at i
  .rename_i hl;obtain⟨c,j,rfl⟩:=MP.1 i;exact EU b f g s k H _ _ v u Q I n m #v[_,_,c,rfl,rfl,hl,j,q _ H (j5.refl H) c8.st] o
  .cases i
 .obtain⟨a,l,rfl,t,p⟩:=A;cases z;obtain⟨w,j,C⟩:=c6.at p i;exact xC hK b f g s k H _ _ v u Q I n m #v[a,l,_,w,rfl,rfl,SqL.of<|f8 _ _ t,j,q w H (j5.refl H) C] o
 .obtain⟨a,l,rfl,t,p⟩:=A;cases z;obtain⟨w,j,C⟩:=c6.at p i;exact zU hK b f g s k H _ _ v u Q I n m #v[a,l,_,w,rfl,rfl,t.same f8,j,q w H (j5.refl H) C] o
def T6 {α:Type}(xs:List α)(lo hi:Option Int):List α:=(xs.drop<|HT.sIx xs.length 0 lo).take<|HT.sIx xs.length xs.length hi-HT.sIx xs.length 0 lo
def wb (lo hi:Option Int):My->Option My
 | .list ds=>some<|.list<|T6 ds lo hi
 | .tuple ds=>some<|.tuple<|T6 ds lo hi
 | .str x=>if x.length<=Tc then some (.str<|Txt.slice x lo hi) else none
 | _=>none
theorem c6.drop {H:Hp}:∀{ds:List My} {xs:List V} (n:Nat),c6 K H ds xs->c6 K H (ds.drop n) (xs.drop n)
 | ds,xs,0,h=>h
 | [],xs,n+1,h=>by simp only[c6]at h;subst h;simp[c6]
 | d::ds,xs,n+1,h=>by simp only[c6]at h;obtain⟨y,r,rfl,b,a⟩:=h;simp only[List.drop_succ_cons];exact c6.drop n a
def c6.cut {H:Hp}{ds:List My}{xs:List V}(h:c6 K H ds xs)(lo hi:Option Int):c6 K H (T6 ds lo hi) (eF xs lo hi):=by unfold T6 eF;rw[h.length];exact c6.take _<|c6.drop _ h
def FR (K:Qf):V->Option Int->Option Int->Hp->VK->Prop:=λx a b H Q=>∃fp B d r,BOk H B/\L7 K fp B H d x/\wb a b d=some r/\∀v H',j5 H H'->c8 K (hid H' B) r v->Q v H'
def kg {v:SN}{o:Option Int}(h:IsPart v o):∃p:Option (Int×Tok),v=partValue p/\p.map (·.1)=o:=by
 cases h with
 | none=>exact#v[none,rfl,rfl]
 | int i t=>exact#v[some (i,t),rfl,rfl]
def EV (hK:X.K=K):SlR X (FR K):=by
 intro b s G H x v L J c g w Q I y D C A h;obtain⟨fp,B,d,r,bk,E,i,q⟩:=h;cases d <;> simp only[wb]at i <;> try cases i
 .rename_i k;cases E;split at i
  .rename_i hl;cases i;obtain⟨t,rfl⟩:=y;obtain⟨l,rfl,rfl⟩:=kg C;obtain⟨m,rfl,rfl⟩:=kg A;refine#v["str",_,QL.lookup,RG _ _ _,getItem_meets (RG _ _ _) (by decide) QL F.entry_str_getitem (F.args_str_getitem_2 _ _) (meets_str_getitem_slice _ t w l m none rfl) #v[D,?_]];have z:=q _ H (j5.refl H) c8.st;unfold sliceMade;unfold Txt.slice at z;have e:slicePicked k l m none=Builtin.Str.strSliceIndices (l.map (·.1)) (m.map (·.1)) 1 k.length:=rfl;rw[e];simp only[Option.map_none,Su];split
   .rename_i o;rw[Mx o]at z;exact#v[.str k,H,I,#v[t,rfl],z]
   .rename_i o;rw[MC o]at z;refine#v[?_,#v[.str _,H,I.tok _,#v[_,rfl],z]];have:=Txt.slice_le k (l.map (·.1)) (m.map (·.1));unfold Txt.slice at this;rw[MC o]at this;exact MG this hl
  .cases i
 .obtain⟨a,j,rfl,u,n⟩:=E;subst hK;exact qU b s G H _ v L J c g w Q I y D C A #v[a,j,rfl,SqL.of<|f8 _ _ u,λp f=>q _ _ (j5.upd f)<|S8 bk f<|c6.cut n c g]
 .obtain⟨a,j,rfl,u,n⟩:=E;refine vx hK b s G H _ v L J c g w Q I y D C A #v[a,j,rfl,u.same f8,λz=>q _ H (j5.refl H) ?_,λ_ p f=>q _ _ (j5.upd f)<|K5 bk f<|c6.cut n c g];have:=c6.cut n c g;rw[z.1]at this;simp only[c8];exact#v[a,j,rfl,u,this]
end
section
variable [Feeds]{K:Qf}{X:Cx}{e:Ta}{m:DE->M My}
def TOd (K:Qf)(to:TO)(m:DE->M (Option Int)):Prop:=∀(G:GF) (B:List SQ) (E:DE) (F:FS) (a:St) (H:Hp) (Q:Option Int->Hp->Prop) (d:Option Int) (b:FS),SitE K G B E F a H->m E F=some (d,b) ->
 (∀H',Kp (m8 K G) H H'->FAt K G H' b->Q d H')->to a H Q
structure Eo (K:Qf) (X:Cx) (e:Option Ta) (to:TO) (m:DE->M (Option Int)):Prop where
 po:PO X e to
 ok:TOd K to m
def oNo :DE->M (Option Int):=λ_ F=>some (none,F)
def K1:My->Option Int
 | .int i=>some i
 | _=>none
def cq {d:My}{i:Int}(h:K1 d=some i):d = .int i:=by cases d <;> simp[K1]at h;rw[h]
def oI (a:DE->M My):DE->M (Option Int):=λE F=>(a E F).bind λp=>(K1 p.1).bind λi=>some (some i,p.2)
def fu :Eo K X none sx oNo:=#v[qJ,λG B E F a H Q d b I e q=>by cases e;exact q H Kp.refl I.fd]
def lU (h:Ev K X e te m):Eo K X (some e) (BV te) (oI m):=#v[lN h.pe,λG B E F b H Q d n I e q=>by
 obtain⟨⟨x,l⟩,j,e⟩:=bS9 e;obtain⟨i,g,e⟩:=bS9 e;cases e;refine h.ok G B E F b H _ x l I j λv k c f a=>?_
 have:=cq g;simp only at this;subst this;simp only[c8]at a;exact#v[i,a,q k c f]]
noncomputable def ir (a:DE->M My)(l u:DE->M (Option Int)):DE->M My:=λE F=>(a E F).bind λp=>(l E p.2).bind λx=>(u E x.2).bind λy=>(wb x.1 y.1 p.1).bind λz=>some (z,y.2)
def aw {lo hi:Option Ta}{tl th:TO}{ml mh:DE->M (Option Int)}(he:Eb K X e te m)(hl:Eo K X lo tl ml)(hh:Eo K X hi th mh)(hK:X.K=K:=by rfl):Ev K X (.Subscript e (.Slice lo hi none p2) pos) (tSl (FR K) te tl th) (ir m ml mh) :=
 #v[mG (EV hK) he.pe hl.po hh.po,λG B E F c H Q d N I e q=>by
  obtain⟨⟨x,j⟩,y,e⟩:=bS9 e;obtain⟨⟨l,i⟩,w,e⟩:=bS9 e;obtain⟨⟨h,J⟩,t,e⟩:=bS9 e;obtain⟨z,r,e⟩:=bS9 e;cases e;refine he.ok G B E F c H _ x j I y λv D b p n=>?_
  refine hl.ok G B E j c D _ l i (I.step b p) w λC a o=>?_
  refine hh.ok G B E i c C _ h J (I.step (b.trans a) o) t λL f g=>?_
  exact#v[m8 K G,B,x,_,B4 I.bk ((b.trans a).trans f) g,n.step (a.trans f) I.fB,r,λu A s k=>q u A (((b.trans a).trans f).trans<|Kp.same s) (g.same s) k]]
end
section
variable {K:Qf}{X:Cx}
def fJ:List My->Option My
 | [.list ds]=>some<|.int ds.length
 | [.tuple ds]=>some<|.int ds.length
 | [.str x]=>if x.length<=Tc then some (.int x.length) else none
 | _=>none
def aa (hK:X.K=K):A1 X (.builtin "len") (rDN K fJ):=by
 intro b s e H d us Q I r h;obtain⟨fp,B,l,z,bk,j,c,q⟩:=h;unfold fJ at c;split at c <;> try cases c
 .obtain⟨v,rfl,a,d,rfl,i,g⟩:=cE j rfl;have:=q _ H (j5.refl H) c8.int;rw[<-g.length]at this;exact bE hK b s e H _ us Q I r #v[a,d,rfl,.inl<|SqL.of<|f8 _ _ i,this]
 .obtain⟨v,rfl,a,d,rfl,i,g⟩:=cE j rfl;have:=q _ H (j5.refl H) c8.int;rw[<-g.length]at this;exact bE hK b s e H _ us Q I r #v[a,d,rfl,.inr<|i.same f8,this]
 .rename_i k;obtain⟨v,rfl,f⟩:=cE j rfl;have f:v = .str k:=f;subst f;split at c
  .rename_i hl;cases c;exact kC b s e H _ us Q I r #v[_,rfl,hl,q _ H (j5.refl H) c8.int]
  .cases c
def aA:List My->Option My
 | [.list ds]=>some<|.tuple ds
 | [.tuple ds]=>some<|.tuple ds
 | _=>none
def dQ (hK:X.K=K):A1 X (.type "tuple") (rDN K aA):=by
 intro b s g H c us Q I r h;obtain⟨fp,B,m,z,bk,k,e,q⟩:=h;unfold aA at e;split at e <;> try cases e
 .obtain⟨v,rfl,a,c,rfl,f,j⟩:=cE k rfl;exact aN hK b s g H _ us Q I r #v[a,c,rfl,.inl #v[SqL.of<|f8 _ _ f,λl hl=>q _ _ (j5.upd hl)<|K5 bk hl j]]
 .obtain⟨v,rfl,i⟩:=cE k rfl;have d:=i.tup;obtain⟨a,c,rfl,f,j⟩:=i;exact aN hK b s g H _ us Q I r #v[a,c,rfl,.inr #v[f.same f8,q _ H (j5.refl H) d]]
def eX:List My->Option My
 | [.list ds]=>some<|.list ds
 | [.tuple ds]=>some<|.list ds
 | _=>none
def rF (hK:X.K=K):A1 X (.type "list") (rDN K eX):=by
 subst hK;intro b s g H c us Q I r h;obtain⟨fp,B,j,z,bk,i,d,q⟩:=h;unfold eX at d;split at d <;> try cases d
 .obtain⟨v,rfl,a,c,rfl,f,e⟩:=cE i rfl;exact dP b s g H _ us Q I r #v[a,c,rfl,.inl<|SqL.of<|f8 _ _ f,λl hl=>q _ _ (j5.upd hl)<|S8 bk hl e]
 .obtain⟨v,rfl,a,c,rfl,f,e⟩:=cE i rfl;exact dP b s g H _ us Q I r #v[a,c,rfl,.inr<|f.same f8,λl hl=>q _ _ (j5.upd hl)<|S8 bk hl e]
def ag:List My->Option (List Int)
 | []=>some []
 | .int i::r=>(ag r).map (i :: ·)
 | _=>none
theorem P1:∀{ds:List My} {ns:List Int},ag ds=some ns->ds=ns.map .int
 | [],ns,h=>by cases h;rfl
 | d::r,ns,h=>by
  cases d <;> simp only[ag]at h <;> try cases h
  obtain⟨m,e,rfl⟩:=MP.1 h;rw[P1 e];rfl
theorem gA {H:Hp}:∀{ns:List Int} {xs:List V},c6 K H (ns.map .int) xs->xs=ns.map V.int
 | [],xs,h=>by simpa only[NG,c6] using h
 | n::ns,xs,h=>by simp only[MB,c6]at h;obtain⟨x,r,rfl,a,b⟩:=h;simp only[c8]at a;rw[a,gA b];rfl
def aQ:List My->Option (List Bool)
 | []=>some []
 | .bool i::r=>(aQ r).map (i :: ·)
 | _=>none
theorem cR:∀{ds:List My} {ns:List Bool},aQ ds=some ns->ds=ns.map .bool
 | [],ns,h=>by cases h;rfl
 | d::r,ns,h=>by
  cases d <;> simp only[aQ]at h <;> try cases h
  obtain⟨m,e,rfl⟩:=MP.1 h;rw[cR e];rfl
theorem rQ {H:Hp}:∀{ns:List Bool} {xs:List V},c6 K H (ns.map .bool) xs->xs=ns.map V.bl
 | [],xs,h=>by simpa only[NG,c6] using h
 | n::ns,xs,h=>by simp only[MB,c6]at h;obtain⟨x,r,rfl,a,b⟩:=h;simp only[c8]at a;rw[a,rQ b];rfl
def yg:List My->Option My
 | [.list ds]=>(aQ ds).map λa=>.bool<|a.all id
 | _=>none
def Dg (hK:X.K=K)(hc:X.calm=true):A1 X (.builtin "all") (rDN K yg):=by
 intro b s d H f us Q I r h;obtain⟨fp,B,l,z,bk,k,c,q⟩:=h;unfold yg at c;split at c <;> try cases c
 obtain⟨g,e,rfl⟩:=MP.1 c;cases cR e;obtain⟨v,rfl,a,f,rfl,j,i⟩:=cE k rfl;cases rQ i;exact xS hK hc b s d H _ us Q I r #v[a,g,rfl,SqL.of<|f8 _ _ j,q _ H (j5.refl H) c8.bl]
def Z4 (d:My):Bool:=d.showable && !d.hasDict&&decide (d.depth<=50)&&decide (d.shown.length<=16000000)
end
end
section
section
variable {K:Qf}{X:Cx}
def pq {d:My}(h:Z4 d=true):Shw d 50 16000000:=by unfold Z4 at h;simp only[Ny,OU,Bool.not_eq_true']at h;exact#v[h.1.1.1,h.1.1.2,h.1.2,h.2]
def gY:List My->Option My
 | [d]=>if Z4 d=true then some (.str d.shown) else none
 | _=>none
def fY (hK:X.K=K)(hg:X.A.guards=some [])(hu:X.A.units+64<Tv):A1 X (.builtin "repr") (rDN K gY):=by
 intro e s k H l us Q I r h;obtain⟨fp,B,m,z,bk,p,g,q⟩:=h;unfold gY at g;split at g <;> try cases g
 rename_i d;split at g
 .rename_i n;cases g;obtain⟨v,rfl,c⟩:=cE p rfl;have sh:=pq n;have f:=q _ H (j5.refl H) c8.st;cases d with
  | tuple m =>have j:=c.dat;obtain⟨a,l,rfl,o,_⟩:=c;exact iR hK hg hu e s k H _ us Q I r #v[a,_,rfl,j,sh,f]
  | list m =>have j:=c.dat;obtain⟨a,l,rfl,o,_⟩:=c;exact iR hK hg hu e s k H _ us Q I r #v[a,_,rfl,j,sh,f]
  | none =>cases(show v = .non from c);obtain⟨u,rfl,rfl⟩:=N5 r;exact PySem.P.repr_of_none #v[.str _,H,I.tok _,#v[_,rfl],by simpa only[My.shown] using f]
  | bool b =>cases(show v = .bl b from c);obtain⟨u,rfl,rfl⟩:=N5 r;exact PySem.P.repr_of_bool #v[.str _,H,I.tok _,#v[_,rfl],by simpa only[My.shown] using f]
  | int i =>
   cases(show v = .int i from c);obtain⟨u,rfl,t,rfl⟩:=N5 r;have hl:i.natAbs.log2<1920:=by have:=sh.sh;simpa only[My.showable,OU] using this
   exact PySem.P.repr_of_int hl #v[.str _,H,I.tok _,#v[_,rfl],by simpa only[My.shown] using f]
  | str x =>
   cases(show v = .str x from c);obtain⟨u,rfl,t,rfl⟩:=N5 r;have hl:(reprText x).length<=Tc:=by have:=sh.ln;simp only[My.shown]at this;exact MG this (by rw[Nr];decide)
   exact PySem.P.repr_of_str #v[.str _,H,I.tok _,#v[_,rfl],by simpa only[My.shown] using f] hl
  | dict b=>exact(show False from c).elim
 .cases g
def oZ:List My->Option My
 | [.int i]=>some<|.int i
 | [.bool b]=>some (.int<|if b then 1 else 0)
 | _=>none
def ED :A1 X (.type "int") (rDN K oZ):=by
 intro a s e H g us Q I r h;obtain⟨fp,B,j,z,bk,f,d,q⟩:=h;unfold oZ at d;split at d <;> try cases d
 .rename_i i;obtain⟨v,rfl,c⟩:=cE f rfl;cases(show v = .int i from c);exact jn a s e H _ us Q I r<|.inl #v[i,rfl,q _ H (j5.refl H) c8.int]
 .rename_i b;obtain⟨v,rfl,c⟩:=cE f rfl;cases(show v = .bl b from c);exact jn a s e H _ us Q I r<|.inr #v[b,rfl,q _ H (j5.refl H) c8.int]
def uE:List My->Option My
 | [.int i]=>some (.int<|if i<0 then -i else i)
 | _=>none
def pJ :A1 X (.builtin "abs") (rDN K uE):=by
 intro a s c H f us Q I r h;obtain⟨fp,B,g,z,bk,e,b,q⟩:=h;unfold uE at b;split at b <;> try cases b
 rename_i i;obtain⟨v,rfl,d⟩:=cE e rfl;cases(show v = .int i from d);exact yD a s c H _ us Q I r #v[i,rfl,q _ H (j5.refl H) c8.int]
def pd:My->Option My
 | .int i=>some<|.int (-i)
 | _=>none
def il :UnR X (unaryOp .USub) (rD1 K pd):=by
 intro a s c H x v Q I e h;obtain⟨fp,B,d,r,bk,f,b,q⟩:=h;cases d <;> simp only[pd]at b <;> try cases b
 rename_i i;cases(show x = .int i from f);exact oG a s c H _ v Q I e #v[i,rfl,q _ H (j5.refl H) c8.int]
end
section
variable [Feeds]{K:Qf}{X:Cx}{e:Ta}{m:DE->M My}{p:Pos}
def P5 (T:String):My->Option My:=λd=>some<|.bool<|isT (tyD d) T
def FH (K:Qf)(T:String)(te:TE):TE:=tCB (BP K)<|x6 te<|x6 (tC<|.ty T) T4
def K4 (T:String){x:Str}(he:Eb K X e te m)(hT:T∈["bool","int","str","list","tuple"])(hm:X.mg "isinstance" = none)(hmx:X.mg x=none)(hv:Ts x=some (.type T))(hg:Gl X "isinstance":=by rfl)(hgx:Gl X x:=by rfl)(hK:X.K=K:=by rfl)(hn:x ≠ "__name__":=by decide)(hd:nDb x:=by decide)
  (hs:Td [e,.Name x p2] X.env=(false,eval e X.env)::Td [.Name x p2] X.env:=by rfl) (hs2:Td [.Name x p2] X.env=(false,eval (.Name x p2) X.env)::Td [] X.env:=by rfl) (hpl:(Ti pos<|Td [.Name x p2] X.env).any (·.1)=false:=by rfl) :
  Ev K X (.Call (.Name "isinstance" p) [e,.Name x p2] [] pos) (FH K T te) (s1 (P5 T) m) :=
 #v[M6 (ux hK) hg hm PyProof.Rows.boot_isinstance (n6 he.pe (n6 (rW (v:=.ty T) hgx hmx hv rfl hn hd) B1 hs2) hs) (by decide) (by decide) hs hpl,λG B E F a H Q d k I e q=>by obtain⟨⟨y,j⟩,h,e⟩:=bS9 e;obtain⟨z,g,e⟩:=bS9 e;cases e;cases g;exact he.ok G B E F a H _ y j I h λv i b f c=>#v[v,T,y,rfl,c.dat,hT,q _ i b f c8.bl]]
end
end
section
section
variable [Feeds]{K:Qf}{X:Cx}{e:Ta}{m:DE->M My}{p p3:Pos}
def xm (x:Str):Str:=#v[((Builtin.Str.strSliceIndices none none (-1) x.length).filterMap (x.cps[·]?)).toArray]
def wg (x:Str):(xm x).length<=x.length:=by
 have h:=sliceIndicesBy_le none none (-1) (by decide) x.length;have a:=List.length_filterMap_le (λ(i:Nat)=>x.cps[i]?)<|Builtin.Str.strSliceIndices none none (-1) x.length;have e:(xm x).length=((Builtin.Str.strSliceIndices none none (-1) x.length).filterMap (x.cps[·]?)).length:=by simp[xm,Str.length]
 rw[e];exact MG a h
def mW:My->Option My
 | .list ds=>some<|.list ds.reverse
 | .tuple ds=>some<|.tuple ds.reverse
 | .str x=>if x.length<=Tc then some (.str<|xm x) else none
 | _=>none
def zI {j}(hK:X.K=K)(he:PE X e te):PE X (.Subscript e (.Slice none none (some<|.UnaryOp .USub (.Constant (.int 1) j p) p3) p2) pos) (tUn (rD1 K mW) te):=by
 subst hK;intro c s w H Q I h;refine Subscript_ (thn (he c s w H _ I h) λv s1 #v[x,N,U,C,P]=>?_);refine wpAny_Slice ?_;rw[evalPart_none];refine Mt<|Mt ?_;refine thn (lN (wq oG u0) c s1 w N (λo m=>o=some (-1)/\m=N) U #v[1,rfl,_,rfl,rfl,rfl]) λu s2 #v[o,m,T,D,R,S]=>?_
 subst R S;obtain⟨fp,B,d,r,bk,J,f,q⟩:=P;have k:Inv X c w m { s2 with heap:=s2.heap.push { cls:=.type "slice",data:=.fields #[.none,.none,u] } }:=T.kept (t':=s2.toks) λb M q=>Mu _ q
 show Tn (model X.prog X.w) X.A (subscriptTail e (.Slice none none (some<|.UnaryOp .USub (.Constant (.int 1) j p) p3) p2) v<|.ref s2.heap.objs.size) (EP X c w Q) X.xe { s2 with heap:=s2.heap.push { cls:=.type "slice",data:=.fields #[.none,.none,u] } };cases d <;> simp only[mW]at f <;> try cases f
 .rename_i n;cases(show x = .str n from J);split at f
  .rename_i hl;cases f;obtain⟨t,rfl⟩:=C;obtain⟨l,rfl,L⟩:=kg D;obtain⟨⟨V,O⟩,rfl⟩:∃z,l=some z:=by
    cases l with
    | none=>cases L
    | some z=>exact#v[z,rfl]
   simp at L;subst L;have z:=q _ m (j5.refl m) c8.st;refine tail_any (ops:=[.str n t,.ref s2.heap.objs.size]) (RG _ _ _) QL.lookup (getItem_meets (RG _ _ _) (by decide) QL F.entry_str_getitem (F.args_str_getitem_2 _ _) (meets_str_getitem_slice n t s2.heap.objs.size none none (some (-1,O)) rfl) #v[#v[_,MM _ rfl,rfl,rfl],?_]) (by with_unfolding_all rfl);unfold sliceMade;rw[MC<|by simp];exact#v[MG (wg n) hl,#v[.str<|xm n,m,k.tok _,#v[_,rfl],z]]
  .cases f
 .obtain⟨a,y,rfl,G,E⟩:=J;cases C;obtain⟨i,r,ht,A⟩:=k.list<|SqL.of (K:=X.K)<|f8 _ _ G;have g:=r.length;refine tail_any (ops:=[.ref a,.ref s2.heap.objs.size]) ht.isList.typeIs slot_list_getitem.lookup (wpAny_getItem_list_slice ht.isList (RY ..) .none .none D (by decide) ?_ (by rw[MO] <;> omega)) (by with_unfolding_all rfl);rw[PySem.W.krv_pick];refine#v[.ref _,_,k.laid (t':=s2.toks) (o:=.lst y.reverse) (λb M q=>Mu _ q) (Mz _) ?_,rfl,?_]
  .exact#v[by rw[PL];exact A,i.reverse,0,r.reverse,MM _ rfl]
  .have f:=k.hok.fresh<|Mz _;exact q _ _ (j5.upd f)<|S8 bk f<|c6.reverse E
 .obtain⟨a,y,rfl,G,E⟩:=J;cases C;obtain⟨i,r,ht,A⟩:=k.tuple<|G.same f8;have g:i.toArray.size=y.length:=by rw[MO];exact r.length.symm
  refine tail_any (ops:=[.ref a,.ref s2.heap.objs.size]) ht.typeIs Nu.lookup (HT.getItem_tuple_rev ht (RY ..) D ?_ (by rw[g];exact A)) (by with_unfolding_all rfl);refine#v[.ref _,_,k.laid (t':=s2.toks) (o:=.tup y.reverse) (λb M q=>Mu _ q) (Mz _) ?_,rfl,?_]
  .exact#v[by rw[PL];exact A,_,r.reverse,Rz _ _]
  .have f:=k.hok.fresh<|Mz _;exact q _ _ (j5.upd f)<|K5 bk f<|c6.reverse E
def oM {j}(h:Eb K X e te m)(hK:X.K=K:=by rfl):Ev K X (.Subscript e (.Slice none none (some<|.UnaryOp .USub (.Constant (.int 1) j p) p3) p2) pos) (tUn (rD1 K mW) te) (s1 mW m):=#v[zI hK h.pe,Bm h.ok]
end
end
end L3
namespace L3
open PySem PySem.Spec L2
def dR:fillsNumberSlot (.type "tuple") "mul" = pure false :=
 fillsNumberSlot_seq (id:="tuple.__mul__") (r:=some<|.builtin "tuple.__rmul__") Qt.lookup (by decide +kernel) F.slot_tuple_rmul.lookup (by decide +kernel)
def lG:seqRepeat? (.type "tuple")=pure (some<|.builtin "tuple.__mul__"):=by unfold seqRepeat?;rw[seqSlot_of (T:="tuple") (name:="__mul__") (id:="tuple.__mul__") Qt.lookup (by decide +kernel),seqSlot_of (T:="tuple") (name:="__rmul__") (id:="tuple.__rmul__") F.slot_tuple_rmul.lookup<|by decide +kernel];rfl
def iz (a:Int)(t:Tok)(l:SQ)(items:Array SN)(n:Nat)(dd:Option SQ)(sl:Array (Option SN)) :
  Meets (Builtin.«int.__rmul__» #v[[.int a t,.ref l],[]]) (λ_ R s=>s.heap.get? l=some { cls:=.type "tuple",dict:=dd,data:=.seq items n,slots:=sl }/\R (.ok<|.ret SN.notImplemented) s) :=
 .of_wp λb w A R s h=>by obtain⟨f,g,d,c,e⟩:=s;obtain⟨hl,h⟩:=h;wp_walk;exact#v[_,rfl,h]
def ph (l:SQ)(items:Array SN)(n:Nat)(dd:Option SQ)(sl:Array (Option SN))(k:Int)(u:Tok)(hc0:(decide (k < -(2 ^ 63))||decide (k >= 2 ^ 63))=false)(hc1:(items.isEmpty||k == 1)=true) :
  Meets (Builtin.«tuple.__mul__» #v[[.ref l,.int k u],[]]) (λ_ R s=>s.heap.get? l=some { cls:=.type "tuple",dict:=dd,data:=.seq items n,slots:=sl }/\R (.ok<|.ret<|.ref l) s) :=
 .of_wp λa w A R s h=>by obtain⟨e,g,d,b,c⟩:=s;obtain⟨hl,h⟩:=h;have o:=AutoSeq1.idx_int;have m:=PF;have j:=Ri;have i:=QW;have f:=QX;wp_walk;refine RL (by rw[hc0];rfl) ?_;wp_walk;exact#v[_,rfl,h]
def oJ (l:SQ)(items:Array SN)(n:Nat)(dd:Option SQ)(sl:Array (Option SN))(k:Int)(u:Tok)(hc0:(decide (k < -(2 ^ 63))||decide (k >= 2 ^ 63))=false)(hc1:(items.isEmpty||k == 1)=false)(hc2:(decide (k<=0)||items.isEmpty)=true) :
  Meets (Builtin.«tuple.__mul__» #v[[.ref l,.int k u],[]]) (λ_ R s=>s.heap.get? l=some { cls:=.type "tuple",dict:=dd,data:=.seq items n,slots:=sl }/\R (.ok<|.ret<|.ref s.heap.objs.size) { s with heap:=s.heap.push { cls:=.type "tuple",data:=.seq #[] } }) :=
 .of_wp λa w A R s h=>by obtain⟨e,g,d,b,c⟩:=s;obtain⟨hl,h⟩:=h;have o:=AutoSeq1.idx_int;have m:=PF;have j:=Ri;have i:=QW;have f:=QX;wp_walk;refine RL (by rw[hc0];rfl) ?_;wp_walk;exact#v[_,rfl,h]
def oq (l:SQ)(items:Array SN)(n:Nat)(dd:Option SQ)(sl:Array (Option SN))(k:Int)(u:Tok)(hc0:(decide (k < -(2 ^ 63))||decide (k >= 2 ^ 63))=false)(hc1:(items.isEmpty||k == 1)=false)(hc2:(decide (k<=0)||items.isEmpty)=false)(hc3:decide ((items.size:Int)*k > (2 ^ 63-1) / 8)=false)(hc4:Builtin.Tuple.tupleTooMany ((items.size:Int)*k)=false)
  (hsz:(List.foldl (λx1 x2=>x1++x2) #[] (List.replicate k.toNat items)).size<=Tc) :
  Meets (Builtin.«tuple.__mul__» #v[[.ref l,.int k u],[]]) (λ_ R s=>s.heap.get? l=some { cls:=.type "tuple",dict:=dd,data:=.seq items n,slots:=sl }/\R (.ok<|.ret<|.ref s.heap.objs.size) { s with heap:=s.heap.push { cls:=.type "tuple",data:=.seq (List.foldl (λx1 x2=>x1++x2) #[] (List.replicate k.toNat items)) } }) :=
 .of_wp λa w A R s h=>by obtain⟨e,g,d,b,c⟩:=s;obtain⟨hl,h⟩:=h;have o:=AutoSeq1.idx_int;have m:=PF;have j:=Ri;have i:=QW;have f:=QX;wp_walk;refine RL (by rw[hc0];rfl) ?_;wp_walk;refine RL hc3 ?_;wp_walk;exact#v[_,rfl,h]
section
open PyProof.Rows
variable {K:Qf}{X:Cx}
def u9:My->My->Option My
 | .tuple xs,.int k=>if -(2 ^ 63)<=k/\k<2 ^ 63/\xs.length*k.toNat<=Tc then some (.tuple (List.replicate k.toNat xs).flatten) else none
 | d,e=>Ej d e
def AN (hK:X.K=K):OpR X (binaryOp .Mult) (λx y H Q=>∃l k xs,x = .ref l/\y = .int k/\SqT K H l xs /\ -(2 ^ 63)<=k/\k<2 ^ 63/\xs.length*k.toNat<=Tc /\
  ((List.replicate k.toNat xs).flatten=xs->Q (.ref l) H)/\∀p,H p=none->Q (.ref p) (upd H p<|.tup (List.replicate k.toNat xs).flatten)):=by
 subst hK;intro D s σ H x y v u Q I P O h;obtain⟨l,k,xs,rfl,rfl,W,h1,h2,B,R,C⟩:=h;cases P;obtain⟨t,rfl⟩:=O;obtain⟨c,r,p,hl⟩:=I.tuple W;have f:=r.length;obtain⟨⟨cls,dd,J,A⟩,m,G,n,E⟩:=id p;simp only at G E;subst G E;have i:(decide (k < -(2 ^ 63))||decide (k >= 2 ^ 63))=false:=by rw[MX (by omega),MX<|by omega];rfl
 have w:s.TypeIs (.ref l) "tuple":=#v[_,m,rfl];refine wpAny_binaryOp_repeat_ref (T:="tuple") (U:="int") (by decide) w (λN=>typeIs_int N k t) dR F.fills_int_mul RI lG F.slot_int_index.lookup
  (PZ RI (typeIs_int s k t) F.entry_int_rmul (F.args_int_rmul_2 _ _) (iz k t l c.toArray n dd A) #v[m,rfl,w,?_])
 by_cases d:(c.toArray.isEmpty||k == 1)=true
 .refine PZ Qt w F.entry_tuple_mul (Sb _ _) (ph l c.toArray n dd A k t i d) #v[m,#v[.ref l,H,I,rfl,R ?_]];simp only[Bool.or_eq_true,beq_iff_eq]at d;rcases d with d | d
  .have:xs=[]:=by
    cases r with
    | nil=>rfl
    | cons a b=>simp at d
   subst this;simp
  .subst d;simp
 .have d:(c.toArray.isEmpty||k == 1)=false:=by simpa using d
  by_cases g:(decide (k<=0)||c.toArray.isEmpty)=true
  .refine PZ Qt w F.entry_tuple_mul (Sb _ _) (oJ l c.toArray n dd A k t i d g) #v[m,?_];have Z:(List.replicate k.toNat xs).flatten=[]:=by
    rw[Bool.or_eq_false_iff]at d;rw[d.1,Bool.or_false]at g;have:k.toNat=0:=by have:=MS g;omega
    rw[this];rfl
   have z:=C _ I.fresh;rw[Z]at z;exact#v[.ref _,_,I.laid (t':=s.toks) (o:=.tup []) (λb S q=>Mu _ q) (Mz _) #v[Nv _,[],.nil,Rz _ _],rfl,z]
  .have g:(decide (k<=0)||c.toArray.isEmpty)=false:=by simpa using g
   have Y:0<k:=by rw[Bool.or_eq_false_iff]at g;have:=Om g.1;omega
   have hm:(c.toArray.size:Int)*k<=Tc:=by obtain⟨j,rfl⟩:∃j:Nat,k=j:=#v[k.toNat,by omega];rw[MO,<-f];simp only[NI]at B;exact_mod_cast B
   have e:List.foldl (λM L=>M++L) #[] (List.replicate k.toNat c.toArray)=(List.replicate k.toNat c).flatten.toArray:=by have:=dU c k.toNat [];rw[Nq]at this;exact this
   have V:(Tc:Int)<=(2 ^ 63-1) / 8:=by rw[Nr];decide
   refine PZ Qt w F.entry_tuple_mul (Sb _ _) (oq l c.toArray n dd A k t i d g (MX<|by omega) (MX<|by omega) ?_) #v[m,?_]
   .rw[e,MO,jS,<-f,Sv];exact B
   .rw[e];exact#v[.ref _,_,I.laid (t':=s.toks) (o:=.tup (List.replicate k.toNat xs).flatten) (λb S q=>Mu _ q) (Mz _) #v[by rw[jS,Sv];exact B,_,r.rep k.toNat,Rz _ _],rfl,C _ I.fresh]
def m6 (hK:X.K=K):OpR X (binaryOp .Mult) (rD2 K u9):=by
 intro b s i H x y v u Q I m l h;obtain⟨z,B,d,e,r,bk,w,t,c,q⟩:=h;unfold u9 at c;split at c
 .rename_i A k;obtain⟨a,j,rfl,o,f⟩:=w;cases(show y = .int k from t);split at c
  .rename_i g;cases c;refine AN hK b s i H _ _ v u Q I m l #v[a,k,j,rfl,rfl,o.same f8,g.1,g.2.1,by rw[f.length];exact g.2.2,λe=>q _ H (j5.refl H) ?_,λp n=>q _ _ (j5.upd n)<|K5 bk n<|c6.rep f _];have:=c6.rep f k.toNat;rw[e]at this;simp only[c8];exact#v[a,j,rfl,o,this]
  .cases c
 .exact EZ b s i H x y v u Q I m l #v[z,B,d,e,r,bk,w,t,c,q]
end
end L3
namespace L3
open PySem PySem.Spec PyProof.Rows L2
variable {wi:TI}{iter tg:Ta}{te:TE}{pos:Pos}{es:List Ta}{br:List My->DE->Option DE}{o:HO}
section
section
variable [Feeds]
def bU (K:Qf)(P:Hp->List SQ->Prop)(J:It)(items:List My):Prop:=∀H B,P H B ->
 (∀i d,items[i]? = some d->J.go i H/\∀x a,J.yld i H x a->j5 H a/\(BOk H B->c8 K (hid a B) d x))/\J.stop items.length H
def TId (K:Qf)(wi:TI)(mi:DE->M (List My)):Prop:=∀(G:GF) (B:List SQ) (E:DE) (F:FS) (b:St) (H:Hp) (R:It->Hp->Prop) (c:List My) (d:FS),SitE K G B E F b H->mi E F=some (c,d) ->
 (∀J a,Kp (m8 K G) H a->FAt K G a d->bU K (λe f=>j5 (hid a B)<|hid e f) J c->R J a)->wi b H R
def TIs (K:Qf)(wi:TI)(mi:DE->M (List My)):Prop:=∀(G:GF) (B:List SQ) (E:DE) (F:FS) (b:St) (H:Hp) (R:It->Hp->Prop) (c:List My) (e:FS),SitE K G B E F b H->mi E F=some (c,e) ->
 (∀J a,Kp (m8 K G) H a->FAt K G a e->bU K (λd f=>Kp (m8 K G) a d/\j5 (hid a B) (hid d f)) J c->R J a)->wi b H R
def TId.sh {K:Qf}{mi:DE->M (List My)}(h:TId K wi mi):TIs K wi mi:=λG B E F a H R b g I e q=>h G B E F a H R b g I e λJ d k f ok=>q J d k f λc i kp=>ok c i kp.2
structure Ei (K:Qf) (X:Cx) (tg iter:Ta) (wi:TI) (mi:DE->M (List My)):Prop where
 pi:PI X tg iter wi
 ok:TId K wi mi
structure Eib (K:Qf) (X:Cx) (tg iter:Ta) (wi:TI) (mi:DE->M (List My)):Prop where
 pi:PI X tg iter wi
 ok:TIs K wi mi
variable {K:Qf}{X:Cx}{e:Ta}{m:DE->M My}{p:Pos}
def Ei.bw {mi:DE->M (List My)}(h:Ei K X tg iter wi mi):Eib K X tg iter wi mi:=#v[h.pi,h.ok.sh]
def DH (K:Qf)(tl:TE):TI:=λd H R=>tl d H λx b=>∃a,x = .ref a/\(((∃c,SqL K b a c)/\R (Itl K a) b)\/((∃c,SqT K b a c)/\R (Itt K a) b))
def wW {l:Ta}{tl:TE}(hK:X.K=K)(hl:PE X l tl):PI X tg l (DH K tl):=by
 subst hK;intro d s k H R I h;refine thn (hl d s k H _ I h) λv s1 #v[x,j,c,r,t]=>?_
 obtain⟨a,e,q⟩:=t;subst e;cases r;rcases q with ⟨⟨m,g⟩,q⟩ | ⟨⟨m,g⟩,q⟩
 .obtain⟨f,n,p,u⟩:=c.list g;refine wpAny_pyIter_list p.isList ?_;refine#v[s1.heap.objs.size,[s1.heap.objs.size],_,_,j,rfl,c.kept (t':=s1.toks) λb o e=>Mu _ e,sU a _,#v[_,MM _ rfl,rfl,rfl],λb i=>?_,q];have e:b=s1.heap.objs.size:=by simpa using i
  subst e;exact c.fpOk (Mz _)<|c.hok.fresh<|Mz _
 .obtain⟨f,n,p,u⟩:=c.tuple g;refine OM (show s1.heap.IsTuple a f.toArray from p) ?_;refine#v[s1.heap.objs.size,[s1.heap.objs.size],_,_,j,rfl,c.kept (t':=s1.toks) λb o e=>Mu _ e,pD a _,#v[_,MM _ rfl,rfl,rfl],λb i=>?_,q];have e:b=s1.heap.objs.size:=by simpa using i
  subst e;exact c.fpOk (Mz _)<|c.hok.fresh<|Mz _
def gr:My->Option (List My)
 | .list ds=>some ds
 | .tuple ds=>some ds
 | _=>none
def N9 (a:DE->M My):DE->M (List My):=λE F=>(a E F).bind λp=>(gr p.1).bind λb=>some (b,p.2)
def c6.item {H:Hp}{ds:List My}{xs:List V}{i:Nat}{d:My}(h:c6 K H ds xs)(e:ds[i]? = some d):∃v,xs[i]? = some v/\c8 K H d v:=by
 obtain⟨c,_⟩:=MK.1 e;have a:xs[i]? = some (xs[i]'(by rw[h.length];exact c)):=by simp
 obtain⟨g,b,f⟩:=h.get a;rw[e]at b;cases b;exact#v[_,a,f]
def qL {P:Hp->List SQ->Prop}{a:SQ}{ds:List My}{xs:List V}(h:∀H B,P H B->H a=some (.lst xs)/\c6 K (hid H B) ds xs):bU K P (Itl K a) ds:=λH B g=>by obtain⟨b,c⟩:=h H B g;refine#v[λi d e=>?_,#v[xs,SqL.of b,by rw[c.length];exact Mz _]];obtain⟨v,f,j⟩:=c6.item c e;refine#v[#v[xs,v,SqL.of b,f],λx k y=>?_];obtain⟨rfl,y⟩:=y;have:=y xs<|SqL.of b;rw[f]at this;cases this;exact#v[j5.refl _,λ_=>j]
def vg {P:Hp->List SQ->Prop}{a:SQ}{ds:List My}{xs:List V}(h:∀H B,P H B->SqT K H a xs/\c6 K (hid H B) ds xs):bU K P (Itt K a) ds:=λH B g=>by obtain⟨b,c⟩:=h H B g;refine#v[λi d e=>?_,#v[xs,b,by rw[c.length];exact Mz _]];obtain⟨v,f,j⟩:=c6.item c e;refine#v[#v[xs,v,b,f],λx k y=>?_];obtain⟨rfl,y⟩:=y;have:=y xs b;rw[f]at this;cases this;exact#v[j5.refl _,λ_=>j]
def W0 (h:Ev K X e te m)(hK:X.K=K:=by rfl):Ei K X tg e (DH K te) (N9 m):=#v[wW hK h.pe,λG B E F l H R u w I e q=>by
 obtain⟨⟨y,r⟩,o,e⟩:=bS9 e;obtain⟨z,g,e⟩:=bS9 e;cases e;refine h.ok G B E F l H _ y r I o λv k i j c=>?_
 cases y with
 | list n =>cases g;simp only[c8]at c;obtain⟨a,d,rfl,b,f⟩:=c;refine#v[a,rfl,.inl #v[#v[d,SqL.of<|f8 _ _ b],q _ k i j<|qL λp t s=>#v[f8 _ _<|s _ _ b,f.same s]]]
 | tuple n =>cases g;simp only[c8]at c;obtain⟨a,d,rfl,b,f⟩:=c;refine#v[a,rfl,.inr #v[#v[d,b.same f8],q _ k i j<|vg λp t s=>#v[(b.same s).same f8,f.same s]]]
 | _=>cases g]
def O4 (h:Eb K X e te m)(hK:X.K=K:=by rfl):Eib K X tg e (DH K te) (N9 m):=#v[wW hK h.pe,λG B E F n H R u w I e q=>by
 obtain⟨⟨y,s⟩,p,e⟩:=bS9 e;obtain⟨z,f,e⟩:=bS9 e;cases e;refine h.ok G B E F n H _ y s I p λv l g j i=>?_
 cases y with
 | list o =>cases f;obtain⟨a,c,rfl,b,d⟩:=i;refine#v[a,rfl,.inl #v[#v[c,SqL.of<|f8 _ _ b],q _ l g j<|qL λr t k=>#v[f8 _ _<|k.1.hid (B:=m8 K G) (λ_ z=>z) _ _ b,d.same k.2]]]
 | tuple o =>cases f;obtain⟨a,c,rfl,b,d⟩:=i;refine#v[a,rfl,.inr #v[#v[c,b.same f8],q _ l g j<|vg λr t k=>#v[(b.same k.2).same f8,d.same k.2]]]
 | _=>cases f]
def nO (lo:Int)(n:Nat):List My:=(List.range n).map λ(i:Nat)=>.int<|lo+i
def DA {P:Hp->List SQ->Prop}{lo:Int}{n:Nat}:bU K P (Itr lo n) (nO lo n):=λH B _=>by refine#v[λi d e=>?_,by show n<=_;simp[nO]];unfold nO at e;rw[MQ]at e;obtain⟨j,c,rfl⟩:=MP.1 e;obtain⟨a,b⟩:=MK.1 c;simp at a b;subst b;refine#v[a,λx f y=>?_];obtain⟨rfl,rfl⟩:=y;exact#v[j5.refl _,λ_=>c8.int]
def eE:List My->Option (List My)
 | [.int j]=>if -(2 ^ 62)<=j/\j<2 ^ 62 then some (nO 0 j.toNat) else none
 | _=>none
def bJ (a:DE->M (List My)):DE->M (List My):=λE F=>(a E F).bind λp=>(eE p.1).bind λb=>some (b,p.2)
def Z8 {a:Ta}{ta:TA}{ms:DE->M (List My)}(h:Ea K X [a] ta ms)(hm:X.mg "range" = none)(hg:Gl X "range":=by rfl)(hs:Td [a] X.env=[(false,eval a X.env)]:=by rfl):Ei K X tg (.Call (.Name "range" p) [a] [] pos) (Bj ta) (bJ ms):=#v[tT hg hm h.pa hs,λG B E F k H R u v I e q=>by
 obtain⟨⟨d,s⟩,n,e⟩:=bS9 e;obtain⟨z,b,e⟩:=bS9 e;cases e;refine h.ok G B E F k H _ d s I n λt o l m i=>?_
 unfold eE at b;split at b
 .rename_i j c;split at b
  .rename_i f;cases b;have c:d=[.int j]:=c;subst c;simp only[c6]at i;obtain⟨x,r,rfl,g,rfl⟩:=i;simp only[c8]at g;subst g;exact#v[j,rfl,f.1,f.2,q _ o l m DA]
  .cases b
 .cases b]
def TGd (K:Qf)(g:TG)(bd:My->DE->Option DE):Prop:=∀(G:GF) (B:List SQ) (E:DE) (F:FS) (c:St) (H:Hp) (x:V) (d:My) (b:DE) (Q:St->Hp->Prop),SitE K G B E F c H->c8 K (hid H B) d x->bd d E=some b ->
 (∀a,SitE K G B b F a H->(∀i:Nat,(∀y,b[i]? ≠ some (some<|.dat y))->b[i]? = E[i]? /\ a[i]? = c[i]?)->Q a H)->g x c H Q
def Hw (K:Qf)(g:TGs)(bd:List My->DE->Option DE):Prop:=∀(G:GF) (B:List SQ) (E:DE) (F:FS) (c:St) (H:Hp) (d:List V) (e:List My) (b:DE) (Q:St->Hp->Prop),SitE K G B E F c H->c6 K (hid H B) e d->bd e E=some b ->
 (∀a,SitE K G B b F a H->(∀i:Nat,(∀y,b[i]? ≠ some (some<|.dat y))->b[i]? = E[i]? /\ a[i]? = c[i]?)->Q a H)->g d c H Q
structure Eg (K:Qf) (X:Cx) (tg:Ta) (g:TG) (bd:My->DE->Option DE):Prop where
 pg:PG X tg g
 ok:TGd K g bd
structure Egs (K:Qf) (X:Cx) (tgs:List Ta) (g:TGs) (bd:List My->DE->Option DE):Prop where
 pg:PGs X tgs g
 ok:Hw K g bd
def bN (i:Nat):My->DE->Option DE:=λd E=>if i<E.length then some (E.set i<|some<|.dat d) else none
def SitE.set {G:GF}{B:List SQ}{E:DE}{F:FS}{σ:St}{H:Hp}{i:Nat}{d:My}{v:V}(I:SitE K G B E F σ H)(h:c8 K (hid H B) d v)(hi:i<E.length):SitE K G B (E.set i<|some<|.dat d) F (σ.set i<|some v) H:=by
 refine#v[I.fd,I.fB,I.bk,by rw[NO,NO];exact I.ln,λj x e=>?_];have b:i < σ.length:=by rw[<-I.ln];exact hi
 by_cases a:i=j
 .subst a;rw[ML hi]at e;cases e;exact#v[v,by rw[ML b],h]
 .rw[MF a]at e;rw[MF a];exact I.loc j x e
def P2 {i:Nat}{x:Str}(hN:X.N.Nodup)(hi:X.N[i]? = some x:=by rfl)(hx:Loc X.env.scope x:=by walk_at "v")(hf:X.fn x=true\/X.env.scope.names.lookup x=some .local:=by walk_at "v"):Eg K X (.Name x pos) (O8 i) (bN i):=#v[Ay hN hi hx hf,λG B E F c H x d f Q I h e q=>by
 unfold bN at e;split at e
 .rename_i hl;cases e;refine q _ (I.set h hl) λj b=>?_
  by_cases a:i=j
  .subst a;exact absurd (ML hl) (b d)
  .rw[MF a,MF a];exact#v[rfl,rfl]
 .cases e]
def Q0 {i:Nat}{x:Str}{N:List Str}{scope:SX}{cl C ex π s H}(hN:N.Nodup:=by decide +kernel)(hi:N[i]? = some x:=by rfl)(hx:Loc (cxC X N scope cl C ex π s H).env.scope x:=by walk_at "v")(hf:(cxC X N scope cl C ex π s H).fn x=true\/(cxC X N scope cl C ex π s H).env.scope.names.lookup x=some .local:=by walk_at "v"):Eg K (cxC X N scope cl C ex π s H) (.Name x pos) (O8 i) (bN i):=P2 hN hi hx hf
def P9 :List My->DE->Option DE:=λa E=>if a.isEmpty then some E else none
def u5 (a:My->DE->Option DE)(r:List My->DE->Option DE):List My->DE->Option DE
 | d::ds,E=>(a d E).bind λb=>r ds b
 | [],_=>none
def B7 :Egs K X [] FY P9:=#v[yM,λG B E F a H c b f Q I h e q=>by
 cases b with
 | nil=>cases e;simp only[c6]at h;exact#v[h,q a I λ_ _=>#v[rfl,rfl]]
 | cons d r=>cases e]
def j9 {t:TG}{u:TGs}{ba:My->DE->Option DE}(h1:Eg K X e t ba)(h2:Egs K X es u br)
  (hs:(Tu (e::es) X.env).map (·.2)=assign e X.env::(Tu es X.env).map (·.2):=by rfl):Egs K X (e::es) (Bg t u) (u5 ba br):=#v[wR h1.pg h2.pg hs,λG B E F k H J s D Q I h e q=>by
 cases s with
 | nil=>cases e
 | cons d r =>
  obtain⟨j,p,e⟩:=bS9 e;simp only[c6]at h;obtain⟨x,c,rfl,n,o⟩:=h;refine#v[x,c,rfl,h1.ok G B E F k H x d j _ I n p λb C m=>?_];refine h2.ok G B j F b H c r D _ C o e λa A l=>q a A λi f=>?_
  obtain⟨g,w⟩:=l i f;obtain⟨v,b2⟩:=m i (λy z=>f y<|g.trans z);exact#v[g.trans v,w.trans b2]]
def P4 (n:Nat)(r:List My->DE->Option DE):My->DE->Option DE
 | .tuple ds,E=>if ds.length=n then r ds E else none
 | _,_=>none
def G8 {k:Nat}{t:TGs}{n:Nat}(hc:X.calm=true)(h:Egs K X es t br)(hK:X.K=K:=by rfl)
  (hn:(Tu es X.env).length=n:=by rfl) (hst:(Tu es X.env).findIdx? (·.1)=none:=by rfl):Eg K X (.Tuple es k pos) (EW K n t) (P4 n br):=#v[Ai hK hc h.pg hn hst,λG B E F g H x d j Q I f e q=>by
 cases d <;> simp only[P4]at e <;> try cases e
 split at e
 .rename_i hl;simp only[c8]at f;obtain⟨a,b,rfl,i,c⟩:=f;exact#v[a,b,rfl,i.same f8,by rw[c.length];exact hl,h.ok G B E F g H b _ j Q I c e q]
 .cases e]
def iu (k:Nat)(cap:List Nat)(E:DE):DE:=List.replicate k none++cap.map λj=>(E[j]?).join
def SitE.cap {G:GF}{B:List SQ}{E:DE}{F:FS}{σ:St}{H:Hp}(I:SitE K G B E F σ H)(k:Nat)(cap:List Nat):SitE K G B (iu k cap E) F (bY k cap σ) H:=by
 refine#v[I.fd,I.fB,I.bk,by simp[iu,bY],λi x e=>?_];unfold iu at e;by_cases b:i<k
 .rw[OO (by simpa using b),NZ,Mx b]at e;cases e
 .rw[Oo (by simpa using b),Pm,MQ]at e;obtain⟨j,c,a⟩:=MP.1 e;have d:E[j]? = some (some x):=by
   cases q:E[j]? with
   | none=>rw[q]at a;cases a
   | some o=>rw[q]at a;exact NU some a
  obtain⟨v,g,f⟩:=I.loc j x d;refine#v[v,?_,f];unfold bY;rw[Oo (by simpa using b),Pm,MQ,c,QD,g];rfl
def SitE.more {G:GF}{B:List SQ}{E:DE}{F:FS}{σ:St}{H:Hp}{D:SQ}(I:SitE K G B E F σ H)(hD:H D=none):SitE K G (D::B) E F σ (upd H D o):=by
 have l:D ∉ B:=I.bk.nin hD;have q:hid (upd H D o) (D::B)=hid H B:=by
  funext b;by_cases f:b=D
  .subst f;rw[G2 MD,l7 l,hD]
  .by_cases g:b∈B
   .rw[G2 g,G2<|Mw _ g]
   .rw[l7 g,l7 (by simp[f,g]),i8 f]
 refine#v[I.fd.same<|j5.upd hD,λb f=>Mw _<|I.fB b f,λb f=>?_,I.ln,λi x e=>?_]
 .rcases MJ.1 f with rfl | f
  .exact#v[o,j3]
  .obtain⟨u,e⟩:=I.bk b f;exact#v[u,by rw[i8<|u7 e hD];exact e]
 .obtain⟨v,r,h⟩:=I.loc i x e;refine#v[v,r,?_];cases x with
  | dat d=>show c8 K (hid (upd H D o) (D::B)) d v;rw[q];exact h
  | feed=>exact h
  | fn _=>exact h
  | adr _=>exact h
  | own t =>obtain⟨a,k,p,g,m,j,n⟩:=h;exact#v[a,k,p,Mw _ g,m,by rw[i8<|u7 j hD];exact j,by rw[q];exact n]
  | dic w c s =>obtain⟨a,k,p,g,m,j,l,n⟩:=h;exact#v[a,k,p,Mw _ g,m,by rw[i8<|u7 j hD];exact j,l,by rw[q];exact n]
def SitE.wr {G:GF}{B:List SQ}{E:DE}{F:FS}{σ:St}{H:Hp}{D:SQ}(I:SitE K G (D::B) E F σ H)(hf:D ∉ m8 K G)(hown:∀(i:Nat) (ds:List My),E[i]? = some (some<|DV.own ds)->σ[i]? ≠ some (some<|V.ref D)){acc:List V}(hD:H D=some (.lst acc)):SitE K G (D::B) E F σ (upd H D o):=by
 have r:hid (upd H D o) (D::B)=hid H (D::B):=aW MD;refine#v[I.fd.congr λb k=>i8 (λe=>k.elim (λk=>hf<|e▸k) λ#v[u,q]=>by rw[e,hD]at q;cases q),I.fB,λb k=>?_,I.ln,λi x e=>?_]
 .by_cases h:b=D
  .subst h;exact#v[o,j3]
  .rw[i8 h];exact I.bk b k
 .obtain⟨v,s,j⟩:=I.loc i x e;refine#v[v,s,?_];cases x with
  | dat d=>show c8 K (hid (upd H D o) (D::B)) d v;rw[r];exact j
  | feed=>exact j
  | fn _=>exact j
  | adr _=>exact j
  | own ds =>
   obtain⟨a,m,rfl,p,g,l,n⟩:=j;have f:a≠D:=λz=>hown i ds e (by rw[<-z];exact s)
   exact#v[a,m,rfl,p,g,by rw[i8 f];exact l,by rw[r];exact n]
  | dic w c y =>
   obtain⟨a,m,rfl,p,g,l,t,n⟩:=j;have f:a≠D:=λz=>by rw[z,hD]at l;cases l
   exact#v[a,m,rfl,p,g,by rw[i8 f];exact l,t,by rw[r];exact n]
structure Ets (K:Qf) (X:Cx) (ifs:List Ta) (tt:TT) (m:DE->M Bool):Prop where
 pts:PTs X ifs tt
 ok:TTd K tt m
def K9 :DE->M Bool:=λ_ F=>some (true,F)
def D9 :Ets K X [] Fq K9:=#v[zg,λG B E F a H Q b c I e q=>by cases e;exact q H Kp.refl I.fd]
def zw {c:Ta}{tt:TT}{mt:DE->M Bool}(h:Et K X c tt mt):Ets K X [c] tt mt:=#v[Ae h.pt,h.ok]
noncomputable def S7 (bd:My->DE->Option DE)(mt:DE->M Bool)(me:DE->M My):List My->DE->M (List My)
 | [],_,F=>some ([],F)
 | d::r,E,F=>(bd d E).bind λE1=>(mt E1 F).bind λp=>if p.1=true then(me E1 p.2).bind λy=>(S7 bd mt me r E1 y.2).bind λz=>some (y.1::z.1,z.2) else S7 bd mt me r E1 p.2
def sLC (mi:DE->M (List My))(k:Nat)(cap:List Nat)(bd:My->DE->Option DE)(mt:DE->M Bool)(me:DE->M My):DE->M My:=λE F =>
 (mi E F).bind λp=>if p.1.length<=Tc then(S7 bd mt me p.1 (iu k cap E) p.2).bind λz=>some (.list z.1,z.2) else none
def Fg (K:Qf)(G:GF)(B:List SQ)(D:SQ)(H1:Hp)(bd:My->DE->Option DE)(mt:DE->M Bool)(me:DE->M My)(items whole:List My)(Fz:FS)(i:Nat)(σ:St)(acc:List V)(H:Hp):Prop :=
 ∃E F done a,SitE K G (D::B) E F σ H/\H D=some (.lst acc)/\Kp (m8 K G) H1 H/\(∀(j:Nat) (b:List My),E[j]? = some (some<|DV.own b)->σ[j]? ≠ some (some<|V.ref D))/\c6 K (hid H (D::B)) done acc/\S7 bd mt me (items.drop i) E F=some (a,Fz)/\whole=done++a/\done.length<=i
def TFd (K:Qf)(te:TE)(m:DE->M (List My)):Prop:=∀(G:GF) (B:List SQ) (E:DE) (F:FS) (c:St) (H:Hp) (Q:VK) (e:List My) (f:FS),SitE K G B E F c H->m E F=some (e,f) ->
 (∀a d b,H a=none->b a=some (.lst d)->Kp (m8 K G) H b->FAt K G b f->c6 K (hid b (a::B)) e d->Q (.ref a) b)->te c H Q
def Kp.none {fp:List SQ}{H H':Hp}{b:SQ}(k:Kp fp H H')(h:H' b=none)(n:b ∉ fp):H b=none:=by
 cases q:H b with
 | none=>rfl
 | some o=>rw[k b o q n]at h;cases h
def fLC (mi:DE->M (List My))(k:Nat)(cap:List Nat)(bd:My->DE->Option DE)(mt:DE->M Bool)(me:DE->M My):DE->M (List My):=λE F =>
 (mi E F).bind λp=>if p.1.length<=Tc then(S7 bd mt me p.1 (iu k cap E) p.2).bind λz=>some (z.1,z.2) else none
def FZ {mi:DE->M (List My)}{k:Nat}{cap:List Nat}{g:TG}{bd:My->DE->Option DE}{tt:TT}{mt:DE->M Bool}{me:DE->M My}(hi:TIs K wi mi)(hg:TGd K g bd)(ht:TTd K tt mt)(he:TEd K te me) :
  TFd K (tLC wi k cap g tt te) (fLC mi k cap bd mt me):=λG B E F σ H Q d F' I e q=>by
 obtain⟨⟨items,F1⟩,e1,e⟩:=bS9 e;split at e
 .rename_i Z;obtain⟨⟨r,F2⟩,e2,e⟩:=bS9 e;cases e;refine hi G B E F σ H _ items F1 I e1 λJ X k1 f1 ok D T=>?_
  have I1:SitE K G B E F1 σ X:=I.step k1 f1;have am:D ∉ B:=I1.bk.nin T;have A:D ∉ m8 K G:=λz=>am<|I.fB D z
  have Z:items.length<=Tc:=Z;have s:∀{m:Hp},Kp (m8 K G) X m->Kp (m8 K G) X m/\j5 (hid X B) (hid m (D::B)):=λ{m} k=>#v[k,λb o u=>by
   by_cases hb:b∈B
   .rw[G2 hb]at u;cases u
   .rw[l7 hb]at u;rw[l7 (by
     intro z;rcases MJ.1 z with rfl | z
     .rw[T]at u;cases u
     .exact hb z)]
    exact k b o u λz=>hb<|I.fB b z]
  refine Dh items.length (Fg K G B D X bd mt me items r F2) ?_ ?_ ?_ ?_ ?_
  .refine#v[iu k cap E,F1,[],r,(I1.cap k cap).more T,j3,Kp.upd T,λj ds ej z=>?_,c6.nil,e2,rfl,Mz _];obtain⟨v,v1,a,xs,rfl,_,_,ha,_⟩:=(I1.cap k cap).loc j _ ej;rw[v1]at z;cases z;rw[T]at ha;cases ha
  .rintro i p c m w ⟨E',Y,done,h,W,t,L,ow,l,f,U,P⟩;exact((ok m (D::B)<|s L).1 i items[i]<|by simp[w]).1
  .rintro p c m ⟨E',Y,done,h,W,t,L,ow,l,f,U,P⟩;exact(ok m (D::B)<|s L).2
  .rintro i p c m w ⟨E',Y,done,h,W,t,L,ow,l,f,U,P⟩ x H2 y R hR;obtain⟨s2,hx⟩:=((ok m (D::B)<|s L).1 i items[i]<|by simp[w]).2 x H2 y;have af:=hx W.bk;rw[Ng w,S7]at f;obtain⟨N,e4,f⟩:=bS9 f;obtain⟨⟨b,F5⟩,e5,f⟩:=bS9 f;have I3:SitE K G (D::B) E' Y p H2:=W.step (Kp.same s2)<|W.fd.same s2;refine hg G (D::B) E' Y p H2 x items[i] N _ I3 af e4 λn I4 fr=>?_
   have O:∀(j:Nat) (ds:List My),N[j]? = some (some<|DV.own ds)->n[j]? ≠ some (some<|V.ref D):=λj ds ej=>by
    obtain⟨a1,a2⟩:=fr j λy z=>by rw[ej]at z;cases z
    rw[a2];exact ow j ds<|a1▸ej
   refine ht G (D::B) N Y n H2 _ b F5 I4 e5 λH5 k5 f5=>?_
   have C:Kp (m8 K G) X H5:=(L.trans<|Kp.same s2).trans k5;have I5:SitE K G (D::B) N F5 n H5:=I4.step k5 f5;have S:H5 D=some (.lst c):=k5 D _ (s2 D _ t) A;have ac:c6 K (hid H5 (D::B)) done c:=(l.same<|(Kp.same s2).hid (fp:=[])<|by simp).same<|k5.hid I4.fB;cases b with
   | false =>exact#v[S,hR _ _ _ #v[N,F5,done,h,I5,S,C,O,ac,f,U,by omega]]
   | true =>
    obtain⟨⟨yd,F6⟩,e6,f⟩:=bS9 f;obtain⟨⟨zs,F7⟩,e7,f⟩:=bS9 f;cases f;refine he G (D::B) N F5 n H5 _ yd F6 I5 e6 λv H6 k6 f6 h6=>?_
    have ad:H6 D=some (.lst c):=k6 D _ S A;have I6:SitE K G (D::B) N F6 n H6:=I5.step k6 f6;have al:=ac.same<|k6.hid I5.fB;have ab:c.length<Tc:=by rw[l.length];omega
    refine#v[ad,ab,hR _ _ _ #v[N,F6,done++[yd],zs,I6.wr A O ad,j3,λb o u nb=>?_,O,?_,e7,by rw[U];simp,by simp;omega]]
    .have:=k6 b o (C b o u nb) nb;rw[i8];exact this;intro z;subst z;rw[T]at u;cases u
    .rw[aW MD];exact al.snoc h6
  .rintro p c m ⟨E',Y,done,h,W,t,L,ow,l,f,U,P⟩;rw[Qu,S7]at f;cases f;rw[NW]at U;subst U;exact q D c m (k1.none T A) t (k1.trans L) W.fd l
 .cases e
def GM {mi:DE->M (List My)}{k:Nat}{cap:List Nat}{g:TG}{bd:My->DE->Option DE}{tt:TT}{mt:DE->M Bool}{me:DE->M My}(hi:TIs K wi mi)(hg:TGd K g bd)(ht:TTd K tt mt)(he:TEd K te me) :
  TEd K (tLC wi k cap g tt te) (sLC mi k cap bd mt me):=λG B E F i H Q d h I e q=>by
 obtain⟨c,rfl,r⟩:∃c,d = .list c/\fLC mi k cap bd mt me E F=some (c,h):=by
  obtain⟨⟨items,x⟩,t,e⟩:=bS9 e;split at e
  .rename_i f;obtain⟨⟨a,w⟩,s,e⟩:=bS9 e;cases e;refine#v[a,rfl,?_];unfold fLC;rw[t,MU,Mx f,s];rfl
  .cases e
 exact FZ hi hg ht he G B E F i H Q c h I r λz v u l m j p n=>q _ u j p (c8.lst (by rw[l7<|I.bk.nin l];exact m)<|n.same<|N0 λb o=>Mw _ o)
def aq {elt:Ta}{ifs:List Ta}{scope:SX}(osc:SX)(N:List Str){k:Nat}{cap:List Nat}{g:TG}{tt:TT}{mi:DE->M (List My)}{bd:My->DE->Option DE}{mt:DE->M Bool}{me:DE->M My}
  (hi:Eib K X tg iter wi mi)
  (hg:∀{cl C ex π s H},Eg K (cxC X N scope cl C ex π s H) tg g bd)
  (ht:∀{cl C ex π s H},Ets K (cxC X N scope cl C ex π s H) ifs tt mt)
  (he:∀{cl C ex π s H},Ev K (cxC X N scope cl C ex π s H) elt te me)
  (hc:X.calm=true:=by rfl) (hosc:X.env.scope=osc:=by rfl) (hcap:Caps X.N osc N k cap scope:=by exact {})
  (hs:∀x,Tt iter X.env x=pure x:=by intro _;rfl) :
  Ev K X (.ListComp elt [#v[tg,iter,ifs,0]] scope pos) (tLC wi k cap g tt te) (sLC mi k cap bd mt me) :=
 #v[Gs hc hosc hcap hi.pi (λ_ _ _ _ _ _=>hg.pg) (λ_ _ _ _ _ _=>ht.pts) (λ_ _ _ _ _ _=>he.pe) hs,
  GM hi.ok (@hg [] 0 [] [] X.s₀ X.H₀).ok (@ht [] 0 [] [] X.s₀ X.H₀).ok (@he [] 0 [] [] X.s₀ X.H₀).ok]
end
end
variable {H0:Hp}{rest sts:List SZ}{tl:TA}
section
section
variable [Feeds]
inductive Out where
 | nx (E:DE) | rt (d:My) | bk (E:DE) | ct (E:DE)
def bG (B0:List SQ)(H0:Hp)(E:DE)(σ:St):Prop:=∀(i c:Nat) (e:List (My×My)) (a:SQ),E[i]? = some (some<|DV.dic true c e)->σ[i]? = some (some<|V.ref a)->(H0 a=none/\a ∉ B0)/\∀(j:Nat) (d:Bool) (f:Nat) (b:List (My×My)),E[j]? = some (some<|DV.dic d f b)->σ[j]? = some (some<|V.ref a)->i=j
def bG.of {B0:List SQ}{E E':DE}{σ O':St}(h:bG B0 H0 E σ)(fr:∀(i:Nat) (w:Bool) (c:Nat) (ps:List (My×My)),E'[i]? = some (some<|DV.dic w c ps)->E'[i]? = E[i]? /\ O'[i]? = σ[i]?):bG B0 H0 E' O':=λi c ps a e k=>by obtain⟨q,p⟩:=fr i _ _ _ e;obtain⟨m,l⟩:=h i c ps a (q▸e)<|p▸k;refine#v[m,λj f n b d g=>?_];obtain⟨o,b2⟩:=fr j _ _ _ d;exact l j f n b (o▸d)<|b2▸g
def bG.set {B0:List SQ}{E:DE}{σ:St}(h:bG B0 H0 E σ){i:Nat}{x:DV}{y:Option V}(hx:∀w c ps,x≠DV.dic w c ps):bG B0 H0 (E.set i<|some x) (σ.set i y):=h.of λj w c ps a=>by
 by_cases b:i=j
 .subst b;by_cases hl:i<E.length
  .rw[ML hl]at a;cases a;exact absurd rfl<|hx w c ps
  .rw[OL (by rw[NO];omega)]at a;cases a
 .exact#v[MF b,MF b]
def bG.set1 {B0:List SQ}{E:DE}{σ:St}(h:bG B0 H0 E σ){i:Nat}{x:DV}(hx:∀w c ps,x≠DV.dic w c ps):bG B0 H0 (E.set i<|some x) σ:=h.of λj w c ps a=>by
 by_cases b:i=j
 .subst b;by_cases hl:i<E.length
  .rw[ML hl]at a;cases a;exact absurd rfl<|hx w c ps
  .rw[OL (by rw[NO];omega)]at a;cases a
 .exact#v[MF b,rfl]
structure Sit (K:Qf) (G:GF) (B0:List SQ) (H0:Hp) (E:DE) (F:FS) (σ:St) (H:Hp):Prop where
 ex:∃B,(∀b∈B0,b∈B)/\(∀b∈B,b∈B0\/H0 b=none)/\SitE K G B E F σ H
 fB:∀b∈m8 K G,b∈B0
 kp:Kp (m8 K G) H0 H
 own:∀(i:Nat) (ds:List My) (a:SQ),E[i]? = some (some<|DV.own ds)->σ[i]? = some (some<|V.ref a)->H0 a=none/\a ∉ B0
 inj:∀(i j:Nat) (ds es:List My) (a:SQ),E[i]? = some (some<|DV.own ds)->E[j]? = some (some<|DV.own es)->σ[i]? = some (some<|V.ref a)->σ[j]? = some (some<|V.ref a)->i=j
 dic:bG B0 H0 E σ
def rB (K:Qf)(G:GF)(B0:List SQ)(H0:Hp)(F:FS)(D:Ends):Out->Prop
 | .nx E=>∀a H,Sit K G B0 H0 E F a H->D.nx a H
 | .bk E=>∀a H,Sit K G B0 H0 E F a H->D.bk a H
 | .ct E=>∀a H,Sit K G B0 H0 E F a H->D.ct a H
 | .rt d=>∀v H,Kp (m8 K G) H0 H->FAt K G H F->c8 K (hid H B0) d v->D.rt v H
def TSd (K:Qf)(ts:TS)(m:DE->M Out):Prop:=∀(G:GF) (B0:List SQ) (H0:Hp) (E:DE) (F:FS) (a:St) (H:Hp) (D:Ends) (r:Out) (b:FS),Sit K G B0 H0 E F a H->m E F=some (r,b)->rB K G B0 H0 b D r->ts D a H
structure Ss (K:Qf) (X:Cx) (st:SZ) (ts:TS) (m:DE->M Out):Prop where
 ps:PS X st ts
 ok:TSd K ts m
structure Sss (K:Qf) (X:Cx) (sts:List SZ) (ts:TS) (m:DE->M Out):Prop where
 ps:PSs X sts ts
 ok:TSd K ts m
variable {K:Qf}{X:Cx}{a b c e:Ta}{st:SZ}{m:DE->M My}{t u:TS}{mt mu:DE->M Out}{pos' p:Pos}
def Sit.step {G:GF}{B0:List SQ}{E:DE}{F F':FS}{σ:St}{H H':Hp}(S:Sit K G B0 H0 E F σ H)(k:Kp (m8 K G) H H')(f:FAt K G H' F'):Sit K G B0 H0 E F' σ H':=by obtain⟨B,s,a,I⟩:=S.ex;exact#v[#v[B,s,a,I.step k f],S.fB,S.kp.trans k,S.own,S.inj,S.dic]
def mNx :DE->M Out:=λE F=>some (.nx E,F)
def mSq (a b:DE->M Out):DE->M Out:=λE F=>(a E F).bind λp=>match p.1 with
 | .nx E1=>b E1 p.2
 | o=>some (o,p.2)
def D8 :Sss K X [] yA mNx:=#v[fU,λG B0 H0 E F a H D r b S e q=>by cases e;exact q a H S]
def d9 (h1:Ss K X st t mt)(h2:Sss K X rest u mu):Sss K X (st::rest) (yi t u) (mSq mt mu):=#v[B6 h1.ps h2.ps,λG B0 H0 E F f H D r j S e q=>by
 obtain⟨⟨o,c⟩,g,e⟩:=bS9 e;refine h1.ok G B0 H0 E F f H _ o c S g ?_;cases o with
 | nx b=>exact λa i h=>h2.ok G B0 H0 b c a i D r j h e q
 | rt d=>cases e;exact q
 | bk b=>cases e;exact q
 | ct b=>cases e;exact q]
def i6 (h1:Ss K X st t mt):Sss K X [st] t mt:=#v[S5 h1.ps,h1.ok]
def mRt (a:DE->M My):DE->M Out:=λE F=>(a E F).bind λp=>some (.rt p.1,p.2)
def n5 (h:Ev K X e te m):Ss K X (.Return (some e) pos) (Dt te) (mRt m):=#v[eJ h.pe,λG B0 H0 E F a H D r l S e q=>by obtain⟨⟨d,j⟩,g,e⟩:=bS9 e;cases e;obtain⟨B,s,k,I⟩:=S.ex;exact h.ok G B E F a H _ d j I g λv i b f c=>q v i (S.kp.trans b) f<|c.same<|N0 s]
def zY (i:Nat){x:Str}(hN:X.N[i]? = some x:=by rfl)(hv:Vis X.env.scope x:=by first | exact Or.inl rfl | exact Or.inr (Or.inl rfl) | exact Or.inr<|Or.inr rfl)(hd:nDb x:=by decide)
  (hcd:nCd x:=by decide):Ss K X (.Return (some<|.Name x p) pos) (Dt<|Q2 i) (mRt<|sW i):=#v[eJ<|D5 hN hv hd hcd,λG B0 H0 E F j H D r u S e q=>by
 obtain⟨⟨d,t⟩,a,e⟩:=bS9 e;cases e;obtain⟨B,s,l,I⟩:=S.ex;unfold sW at a;split at a
 .rename_i x b;cases a;obtain⟨v,c,h⟩:=I.loc i _ b;exact#v[v,c,q v H S.kp I.fd<|c8.same h<|N0 s]
 .rename_i x b;cases a;obtain⟨v,c,p,k,rfl,o,n,g,hd⟩:=I.loc i _ b;obtain⟨m,f⟩:=S.own i x p b c;exact#v[_,c,q _ H S.kp I.fd<|c8.lst (by rw[l7 f];exact g)<|hd.same<|N0 s]
 .cases a]
def x9 (i:Nat)(a:DE->M My):DE->M Out:=λE F=>(a E F).bind λp=>(bN i p.1 E).bind λb=>some (.nx b,p.2)
def Sit.bind {G:GF}{B0 B:List SQ}{E E':DE}{F F':FS}{σ O':St}{H:Hp}(S:Sit K G B0 H0 E F σ H)(s:∀b∈B0,b∈B)(sn:∀b∈B,b∈B0\/H0 b=none)(I:SitE K G B E' F' O' H)(fr:∀i:Nat,(∀y,E'[i]? ≠ some (some<|.dat y))->E'[i]? = E[i]? /\ O'[i]? = σ[i]?):Sit K G B0 H0 E' F' O' H:=by
 refine#v[#v[B,s,sn,I],S.fB,S.kp,λi f a d e=>?_,λi j f es a d k e l=>?_,S.dic.of λi w c n d=>fr i λy z=>by rw[d]at z;cases z]
 .obtain⟨h,g⟩:=fr i λy z=>by rw[d]at z;cases z
  exact S.own i f a (h▸d)<|g▸e
 .obtain⟨h,g⟩:=fr i λy z=>by rw[d]at z;cases z
  obtain⟨m,b2⟩:=fr j λy z=>by rw[k]at z;cases z
  exact S.inj i j f es a (h▸d) (m▸k) (g▸e)<|b2▸l
def yr {g:TG}{bd:My->DE->Option DE}(he:TEd K te m)(hg:TGd K g bd):TSd K (bA te g) (λE F=>(m E F).bind λp=>(bd p.1 E).bind λE1=>some (.nx E1,p.2)):=λG B0 H0 E F b H D r w S e q=>by
 obtain⟨⟨d,i⟩,o,e⟩:=bS9 e;obtain⟨E1,n,e⟩:=bS9 e;cases e;obtain⟨B,s,j,I⟩:=S.ex;refine he G B E F b H _ d i I o λv h c f k=>?_
 have t:=S.step c f;exact hg G B E i b h v d E1 _ (I.step c f) k n λa u l=>q a h<|t.bind s j u l
def cn (i:Nat):TGd K (O8 i) (bN i):=λG B E F c H x d f Q I h e q=>by
 unfold bN at e;split at e
 .rename_i hl;cases e;refine q _ (I.set h hl) λj b=>?_
  by_cases a:i=j
  .subst a;exact absurd (ML hl)<|b d
  .rw[MF a,MF a];exact#v[rfl,rfl]
 .cases e
def p0 (i:Nat){x:Str}(hN:X.N.Nodup)(he:Ev K X e te m)(hi:X.N[i]? = some x:=by rfl)(hx:Loc X.env.scope x:=by walk_at "v")(hs:Tp e (some<|.Name x pos') pos.line X.env=pure false:=by rfl)(hf:X.fn x=true\/X.env.scope.names.lookup x=some .local:=by walk_at "v") :
  Ss K X (.Assign [.Name x pos'] e pos) (bA te<|O8 i) (x9 i m):=#v[O1 hN hi hx he.pe hs hf,yr he.ok<|cn i]
def uL (bd:My->DE->Option DE)(a:DE->M My):DE->M Out:=λE F=>(a E F).bind λp=>(bd p.1 E).bind λb=>some (.nx b,p.2)
def pV {g:TG}{bd:My->DE->Option DE}(he:Ev K X e te m)(hg:Eg K X tg g bd)(hs:swapsWithSole [tg] e pos.line X.env=pure false:=by rfl)(hw:swappedStores [tg] e X.env=pure none:=by rfl)
  (h1:(Tu [tg] X.env).map (·.2)=[assign tg X.env]:=by rfl):Ss K X (.Assign [tg] e pos) (bA te g) (uL bd m):=#v[jQ he.pe hg.pg hs hw h1,yr he.ok hg.ok]
def mJ (i:Nat){y:Str}{py:Pos}{elt:Ta}{ifs:List Ta}{scope:SX}(osc:SX)(N:List Str){k:Nat}{cap:List Nat}{g:TG}{tt:TT}{mi:DE->M (List My)}{bd:My->DE->Option DE}{mt:DE->M Bool}{me:DE->M My}
  (hN:X.N.Nodup) (hi:Eib K X tg iter wi mi)
  (hg:∀{cl C ex π s H},Eg K (cxC X N scope cl C ex π s H) tg g bd)
  (ht:∀{cl C ex π s H},Ets K (cxC X N scope cl C ex π s H) ifs tt mt)
  (he:∀{cl C ex π s H},Ev K (cxC X N scope cl C ex π s H) elt te me)
  (hc:X.calm=true:=by rfl) (hosc:X.env.scope=osc:=by rfl) (hcap:Caps X.N osc N k cap scope:=by exact {})
  (hix:X.N[i]? = some y:=by rfl) (hLy:Loc X.env.scope y:=by walk_at "v")
  (hs:∀x,Tt iter X.env x=pure x:=by intro _;rfl) (hfy:X.fn y=true\/X.env.scope.names.lookup y=some .local:=by walk_at "v")
  (hsw:Tp (.ListComp elt [#v[tg,iter,ifs,0]] scope p) (some<|.Name y py) pos.line X.env=pure true:=by rfl) :
  Ss K X (.Assign [.Name y py] (.ListComp elt [#v[tg,iter,ifs,0]] scope p) pos) (bA (tLC wi k cap g tt te)<|O8 i) (x9 i<|sLC mi k cap bd mt me) :=
 #v[vi hN hix hLy hc hosc hcap hi.pi (λ_ _ _ _ _ _=>hg.pg) (λ_ _ _ _ _ _=>ht.pts) (λ_ _ _ _ _ _=>he.pe) hs hfy hsw,
  yr (GM hi.ok (@hg [] 0 [] [] X.s₀ X.H₀).ok (@ht [] 0 [] [] X.s₀ X.H₀).ok (@he [] 0 [] [] X.s₀ X.H₀).ok) (cn i)]
def mIf (c:DE->M Bool)(a b:DE->M Out):DE->M Out:=λE F=>(c E F).bind λp=>if p.1=true then a E p.2 else b E p.2
def T9 {x y:List SZ}{tt:TT}{mc:DE->M Bool}(hc:Et K X c tt mc)(ha:Sss K X x t mt)(hb:Sss K X y u mu):Ss K X (.If c x y pos) (AL tt t u) (mIf mc mt mu):=#v[nr hc.pt ha.ps hb.ps,λG B0 H0 E F a H D r i S e q=>by
 obtain⟨⟨d,b⟩,j,e⟩:=bS9 e;obtain⟨B,s,k,I⟩:=S.ex;refine hc.ok G B E F a H _ d b I j λh f g=>?_
 cases d with
 | true=>exact ha.ok G B0 H0 E b a h D r i (S.step f g) e q
 | false=>exact hb.ok G B0 H0 E b a h D r i (S.step f g) e q]
noncomputable def pj (i j:Nat)(a:DE->M (List My)):DE->M Out:=λE F=>(a E F).bind λp=>match p.1 with
 | [x,y]=>(bN i x E).bind λE1=>(bN j y E1).bind λE2=>some (.nx E2,p.2)
 | _=>none
def lB (i j:Nat){x y:Str}{ms:DE->M (List My)}{px py pt:Pos}{kt k2 pt2}(hc:X.calm=true)(hN:X.N.Nodup)(ha:Ea K X [a,b] tl ms)(hi:X.N[i]? = some x:=by rfl)(hj:X.N[j]? = some y:=by rfl)(hij:i≠j:=by decide)
  (hx:X.env.scope.names.lookup x=some .local:=by rfl) (hy:X.env.scope.names.lookup y=some .local:=by rfl)
  (hw:swappedStores [.Tuple [.Name x px,.Name y py] kt pt] (.Tuple [a,b] k2 pt2) X.env=pure (some [x,y]):=by rfl)
  (hs:swapsWithSole [.Tuple [.Name x px,.Name y py] kt pt] (.Tuple [a,b] k2 pt2) pos.line X.env=pure false:=by rfl) :
  Ss K X (.Assign [.Tuple [.Name x px,.Name y py] kt pt] (.Tuple [a,b] k2 pt2) pos) (GP i j tl) (pj i j ms):=#v[DB hc hN hi hj hij hx hy ha.pa hw hs,λG B0 H0 E F h H D r W S e q=>by
 obtain⟨⟨J,Q⟩,C,e⟩:=bS9 e;obtain⟨B,s,k,I⟩:=S.ex;refine ha.ok G B E F h H _ J Q I C λT g l n m=>?_
 dsimp only at e;split at e
 .obtain⟨p,A,e⟩:=bS9 e;obtain⟨R,z,e⟩:=bS9 e;cases e;simp only[c6]at m;obtain⟨v,V,rfl,t,w,U,rfl,hw,rfl⟩:=m;have N:=S.step l n;refine#v[v,w,rfl,?_];refine cn i G B E _ h g v _ p (λc P=>D.nx (c.set j<|some w) P) (I.step l n) t A λc o u=>?_
  have L:=N.bind s k o u;exact cn j G B p _ c g w _ R D.nx o hw z λd O f=>q d g (L.bind s k O f)
 .cases e]
end
end
section
section
variable [Feeds]{K:Qf}{X:Cx}{a b c e:Ta}{ta tb:TE}{ma mb m:DE->M My}{t u:TS}{pos' p:Pos}
def X4 (H:Hp)(B B0:List SQ):Hp:=hid H (B.filter λb=>decide (b ∉ B0))
def eQ {H:Hp}{B B0:List SQ}{b:SQ}(h1:b∈B)(h2:b ∉ B0):X4 H B B0 b=none:=G2 (OP.2 #v[h1,by simpa using h2])
def bq {H:Hp}{B B0:List SQ}{b:SQ}(h:b ∉ B\/b∈B0):X4 H B B0 b=H b:=l7 λz=>by
 obtain⟨c,a⟩:=OP.1 z;rcases h with h | h
 .exact h c
 .simp at a;exact a h
section
variable {G:GF}{B0 B:List SQ}{E E2:DE}{F F2:FS}{σ σ2:St}{H H2:Hp}
def Sit.base (S:Sit K G B0 H0 E F σ H)(s:∀b∈B0,b∈B)(sn:∀b∈B,b∈B0\/H0 b=none)(I:SitE K G B E F σ H):Sit K G B0 (X4 H B B0) E F σ H:=by
 refine#v[#v[B,s,λb n=>?_,I],S.fB,Kp.same f8,λi k a e f=>?_,S.inj,λi c m a e f=>?_]
 .by_cases h:b∈B0
  .exact .inl h
  .exact .inr<|eQ n h
 .obtain⟨v,d,p,l,rfl,g,_⟩:=I.loc i _ e;rw[d]at f;cases f;exact#v[eQ g (S.own i k _ e d).2,(S.own i k _ e d).2]
 .obtain⟨v,d,p,l,rfl,g,_⟩:=I.loc i _ e;rw[d]at f;cases f;obtain⟨⟨_,j⟩,o⟩:=S.dic i c m _ e d;exact#v[#v[eQ g j,j],o]
def ki (S:Sit K G B0 H0 E F σ H)(sn:∀b∈B,b∈B0\/H0 b=none)(k:Kp (m8 K G) (X4 H B B0) H2):Kp (m8 K G) H0 H2:=λb o e n=>by
 refine k b o ?_ n;rw[bq]
 .exact S.kp b o e n
 .by_cases a:b∈B
  .rcases sn b a with h | h
   .exact .inr h
   .rw[h]at e;cases e
  .exact .inl a
def Sit.unbase (S:Sit K G B0 H0 E F σ H)(sn:∀b∈B,b∈B0\/H0 b=none)(S2:Sit K G B0 (X4 H B B0) E2 F2 σ2 H2):Sit K G B0 H0 E2 F2 σ2 H2:=by
 have k:∀b,X4 H B B0 b=none->b∈B0\/H0 b=none:=λb e=>by
  by_cases f:b∈B
  .exact sn b f
  .rw[bq<|.inl f]at e;by_cases n:b∈m8 K G
   .exact .inl<|S.fB b n
   .cases q:H0 b with
    | none=>exact .inr rfl
    | some o=>rw[S.kp b o q n]at e;cases e
 obtain⟨u,s2,g,t⟩:=S2.ex;refine#v[#v[u,s2,λb f=>?_,t],S.fB,ki S sn S2.kp,λi s a m j=>?_,S2.inj,λi c p a m j=>?_]
 .rcases g b f with h | h
  .exact .inl h
  .exact k b h
 .obtain⟨l,d⟩:=S2.own i s a m j;exact#v[(k a l).resolve_left d,d]
 .obtain⟨⟨l,d⟩,r⟩:=S2.dic i c p a m j;exact#v[#v[(k a l).resolve_left d,d],r]
end
noncomputable def Q5 (bd:My->DE->Option DE)(body:DE->M Out):List My->DE->M Out
 | [],E,F=>some (.nx E,F)
 | d::r,E,F=>(bd d E).bind λE1=>(body E1 F).bind λp=>match p.1 with
  | .nx E2=>Q5 bd body r E2 p.2
  | .ct E2=>Q5 bd body r E2 p.2
  | .bk E2=>some (.nx E2,p.2)
  | .rt d=>some (.rt d,p.2)
def W9 (mi:DE->M (List My))(bd:My->DE->Option DE)(body:DE->M Out):DE->M Out:=λE F=>(mi E F).bind λp=>Q5 bd body p.1 E p.2
def Gu {g:TG}{tb:TS}{mi:DE->M (List My)}{bd:My->DE->Option DE}{mb:DE->M Out}(hi:TId K wi mi)(hg:TGd K g bd)(hb:TSd K tb mb):TSd K (xF wi g tb) (W9 mi bd mb):=λG B0 H0 E F X H D r F' S e q=>by
 obtain⟨⟨items,F1⟩,e1,e⟩:=bS9 e;obtain⟨B,s,Y,I⟩:=S.ex;refine hi G B E F X H _ items F1 I e1 λJ u k1 f1 ok=>?_
 have S1:=S.step k1 f1;have I1:=I.step k1 f1;have ab:=S1.base s Y I1;have qn:∀{n:DE} {k:FS},r = .nx n->F'=k->∀a c,Sit K G B0 (X4 u B B0) n k a c->D.nx a c:=λ{n k} er ef a c t=>by subst er ef;exact q a c<|S1.unbase Y t
 have L:∀{n:DE} {k:FS} {a:St} {c:Hp} {p:List SQ},Sit K G B0 (X4 u B B0) n k a c->(∀b∈p,b∈B0\/X4 u B B0 b=none)->j5 (hid u B) (hid c p):=λ{n k a c p} t l b o R=>by
  by_cases N:b∈B
  .rw[G2 N]at R;cases R
  .rw[l7 N]at R;have ec:X4 u B B0 b=some o:=by rw[bq<|.inl N];exact R
   rw[l7 λz=>(l b z).elim (λh=>N<|s b h) λh=>by rw[h]at ec;cases ec];exact t.kp b o ec λz=>N<|s b<|S.fB b z
 refine#v[λi m X H=>m=items.length-i/\i<=items.length/\∃E F,Sit K G B0 (X4 u B B0) E F X H/\Q5 bd mb (items.drop i) E F=some (r,F'),#v[items.length,by simp,Nv _,E,F1,ab,e],?_];rintro i mm a c ⟨rfl,ac,n,k,t,j⟩;obtain⟨p,s2,l,T⟩:=t.ex;have A:=L t l;by_cases f:i<items.length
 .refine .inr #v[((ok c p A).1 i items[i]<|by simp[f]).1,λC H'=>i+1<=items.length/\∃E F,Sit K G B0 (X4 u B B0) E F C H'/\Q5 bd mb (items.drop<|i+1) E F=some (r,F'),λC H' #v[h1,h2]=>#v[items.length-(i+1),by omega,rfl,h1,h2],λx U y=>?_];obtain⟨Q,Z⟩:=((ok c p A).1 i items[i]<|by simp[f]).2 x U y;have Z:=Z T.bk;rw[Ng f,Q5]at j;obtain⟨E4,e4,j⟩:=bS9 j;obtain⟨⟨o,F5⟩,e5,j⟩:=bS9 j;have S3:=t.step (Kp.same Q)<|T.fd.same Q;have I3:SitE K G p n k a U:=T.step (Kp.same Q)<|T.fd.same Q;refine hg G p n k a U x items[i] E4 _ I3 Z e4 λW I4 fr=>?_
  refine hb G B0 (X4 u B B0) E4 k W U _ o F5 (S3.bind s2 l I4 fr) e5 ?_;cases o with
  | nx V=>exact λw P O=>#v[f,V,F5,O,j]
  | ct V=>exact λw P O=>#v[f,V,F5,O,j]
  | bk V=>cases j;exact λw P O=>qn rfl rfl w P O
  | rt d=>cases j;exact λv P k6 f6 h6=>q v P (ki S1 Y k6) f6 h6
 .have ei:i=items.length:=by omega
  subst ei;rw[Qu,Q5]at j;cases j;exact .inl #v[(ok c p A).2,qn rfl rfl a c t]
def O2 {body:List SZ}{g:TG}{tb:TS}{mi:DE->M (List My)}{bd:My->DE->Option DE}{mb:DE->M Out}(hc:X.calm=true)(hi:Ei K X tg iter wi mi)(hg:Eg K X tg g bd)(hb:Sss K X body tb mb)(hp:PassesOwn (model X.prog X.w) X.A X.env X.xe:=by exact PassesOwn.never)
  (hs:∀x,Tt iter X.env x=pure x:=by intro _;rfl):Ss K X (.For tg iter body [] pos) (xF wi g tb) (W9 mi bd mb):=#v[wU hp hc hi.pi hg.pg hb.ps hs,Gu hi.ok hg.ok hb.ok]
structure Ef (K:Qf) (X:Cx) (e:Ta) (te:TE) (m:DE->M (List My)):Prop where
 pe:PE X e te
 ok:TFd K te m
def iL {H:Hp}{B:List SQ}{p:SQ}(hp:H p=none):j5 (hid H B) (hid (upd H p o) (p::B)):=λb u e=>by
 by_cases c:b∈B
 .rw[G2 c]at e;cases e
 .rw[l7 c]at e;have a:=u7 e hp;rw[l7 (by simp[a,c]),i8 a];exact e
def oh (a:DE->M (List My)):DE->M (List My):=λE F=>(a E F).bind λp=>if p.1.length<=Tc then some (p.1,p.2) else none
def kB {t:TA}{ms:DE->M (List My)}(h:Ea K X es t ms):Ef K X (.List es pos) (Ag t) (oh ms):=#v[kq h.pa,λG B E F i H Q d n I e q=>by
 obtain⟨⟨x,l⟩,k,e⟩:=bS9 e;split at e
 .rename_i hl;cases e;refine h.ok G B E F i H _ x l I k λj m b g f=>#v[by rw[f.length];exact hl,λp a=>?_]
  have c:p ∉ m8 K G:=λz=>(B4 I.bk b g).nin a (I.fB p z)
  exact q p j _ (b.none a c) j3 (b.trans<|Kp.upd a) (g.same<|j5.upd a) (f.same<|iL a)
 .cases e]
noncomputable def uX (a b:DE->M My):DE->M (List My):=λE F=>(a E F).bind λp=>(b E p.2).bind λq=>match p.1,q.1 with
 | .list xs,.list ys=>if xs.length+ys.length<=Tc then some (xs++ys,q.2) else none
 | _,_=>none
def xl (ha:Eb K X a ta ma)(hb:Eb K X b tb mb):Ef K X (.BinOp a .Add b pos) (tOp GS ta tb) (uX ma mb):=#v[C3 xK ha.pe hb.pe,λG B E F r H Q d S I e q=>by
 obtain⟨⟨x,t⟩,D,e⟩:=bS9 e;obtain⟨⟨y,N⟩,C,e⟩:=bS9 e;refine ha.ok G B E F r H _ x t I D λv M i A o=>?_
 refine hb.ok G B E t r M _ y N (I.step i A) C λw R h s u=>?_
 have o:=o.step h I.fB;dsimp only at e;split at e
 .rename_i P O;split at e
  .rename_i hl;cases e;obtain⟨L,k,rfl,n,g⟩:=o;obtain⟨J,j,rfl,m,f⟩:=u;refine#v[L,J,k,j,rfl,rfl,f8 _ _ n,f8 _ _ m,by rw[g.length,f.length];exact hl,λp c=>?_];have l:p ∉ m8 K G:=λz=>(B4 I.bk (i.trans h) s).nin c (I.fB p z)
   exact q p _ _ ((i.trans h).none c l) j3 ((i.trans h).trans<|Kp.upd c) (s.same<|j5.upd c) (c6.append (f.same<|iL c)<|g.same<|iL c)
  .cases e
 .cases e]
def jb (i:Nat)(a:DE->M (List My)):DE->M Out:=λE F=>(a E F).bind λp=>if i<E.length then some (.nx<|E.set i<|some<|.own p.1,p.2) else none
def Fh {i:Nat}{mf:DE->M (List My)}(he:TFd K te mf):TSd K (bA te<|O8 i) (jb i mf):=λG B0 H0 E F W H D r F' S e q=>by
 obtain⟨⟨ds,F1⟩,e1,e⟩:=bS9 e;split at e
 .rename_i hl;cases e;obtain⟨B,s,sn,I⟩:=S.ex;refine he G B E F W H _ ds _ I e1 λa vs H1 hn ha P f1 h1=>?_
  have I1:=I.step P f1;have u:i < W.length:=by rw[<-I.ln];exact hl
  have C:a ∉ B:=I.bk.nin hn;have Q:a ∉ m8 K G:=λz=>C<|I.fB a z
  have h0:H0 a=none:=S.kp.none hn Q;have Y:j5 (hid H B) (hid H1 (a::B)):=λb o T=>by
   by_cases f:b∈B
   .rw[G2 f]at T;cases T
   .rw[l7 f]at T;have Z:=u7 T hn;rw[l7<|by simp[Z,f]];exact P b o T λz=>f<|I.fB b z
  refine q _ H1 #v[#v[a::B,λb f=>Mw _<|s b f,λb f=>?_,#v[f1,λb f=>Mw _<|I.fB b f,λb f=>?_,by rw[NO,NO];exact I.ln,λj x g=>?_]],S.fB,S.kp.trans P,λj es y g p=>?_,λj k es R y g U p N=>?_,S.dic.set nofun]
  .rcases MJ.1 f with rfl | f
   .exact .inr h0
   .exact sn b f
  .rcases MJ.1 f with rfl | f
   .exact#v[_,ha]
   .exact I1.bk b f
  .by_cases l:i=j
   .subst l;rw[ML hl]at g;cases g;exact#v[.ref a,by rw[ML u],a,vs,rfl,MD,Q,ha,h1]
   .rw[MF l]at g;obtain⟨v,X,L⟩:=I.loc j x g;refine#v[v,by rw[MF l];exact X,?_];cases x with
    | dat d=>exact c8.same (show c8 K (hid H B) d v from L) Y
    | feed=>exact L
    | fn _=>exact L
    | adr _=>exact L
    | own es =>obtain⟨y,t,rfl,n,m,J,A⟩:=L;exact#v[y,t,rfl,Mw _ n,m,P _ _ J m,A.same Y]
    | dic w c ps =>obtain⟨y,t,rfl,n,m,J,ab,A⟩:=L;exact#v[y,t,rfl,Mw _ n,m,P _ _ J m,ab,A.same Y]
  .by_cases l:i=j
   .subst l;rw[ML u]at p;cases p;exact#v[h0,λz=>C<|s a z]
   .rw[MF l]at g p;exact S.own j es y g p
  .have h:∀(j:Nat) (es:List My),i≠j->E[j]? = some (some<|DV.own es)->W[j]? ≠ some (some<|V.ref a):=λj es _ g z=>by obtain⟨v,X,y,t,rfl,n,_⟩:=I.loc j _ g;rw[X]at z;cases z;exact C n
   by_cases l:i=j
   .by_cases O:i=k
    .exact l.symm.trans O
    .subst l;rw[ML u]at p;cases p;rw[MF O]at U N;exact absurd N<|h k R O U
   .rw[MF l]at g p;by_cases O:i=k
    .subst O;rw[ML u]at N;cases N;exact absurd p<|h j es l g
    .rw[MF O]at U N;exact S.inj j k es R y g U p N
 .cases e
def eU (i:Nat){x:Str}{mf:DE->M (List My)}(hN:X.N.Nodup)(he:Ef K X e te mf)(hi:X.N[i]? = some x:=by rfl)(hx:Loc X.env.scope x:=by walk_at "v")(hs:Tp e (some<|.Name x pos') pos.line X.env=pure false:=by rfl)(hf:X.fn x=true\/X.env.scope.names.lookup x=some .local:=by walk_at "v") :
  Ss K X (.Assign [.Name x pos'] e pos) (bA te<|O8 i) (jb i mf):=#v[O1 hN hi hx he.pe hs hf,Fh he.ok]
end
end
section
section
variable [Feeds]{K:Qf}{X:Cx}{a b c e:Ta}{st:SZ}{ta:TE}{m:DE->M My}{t u:TS}{p:Pos}
section
variable {G:GF}{B0 B:List SQ}{E:DE}{F:FS}{σ:St}{H:Hp}
def Sit.write {i:Nat}{ds ds':List My}{x:SQ}{vs':List V}(S:Sit K G B0 H0 E F σ H)(s:∀b∈B0,b∈B)(sn:∀b∈B,b∈B0\/H0 b=none)(I:SitE K G B E F σ H)(ei:E[i]? = some (some<|DV.own ds))(si:σ[i]? = some (some<|V.ref x))
  (hd:c6 K (hid H B) ds' vs'):Sit K G B0 H0 (E.set i<|some<|.own ds') F σ (upd H x<|.lst vs'):=by
 have hl:i<E.length:=(MK.1 ei).1;obtain⟨v,P,x',xs,rfl,T,R,Q,_⟩:=I.loc i _ ei;rw[si]at P;cases P;have C:hid (upd H x<|.lst vs') B=hid H B:=aW T;obtain⟨X,n2⟩:=S.own i ds x ei si;refine#v[#v[B,s,sn,#v[I.fd.congr λb u=>i8 (λz=>u.elim (λu=>R<|z▸u) λ#v[φ,q]=>by rw[z,Q]at q;cases q),I.fB,λb u=>?_,by rw[NO];exact I.ln,λj y a=>?_]],S.fB,λb o N W=>?_,λj es f a A=>?_,λj k es J f a ek A U=>?_,S.dic.set1 nofun]
 .by_cases h:b=x
  .subst h;exact#v[_,j3]
  .rw[i8 h];exact I.bk b u
 .by_cases g:i=j
  .subst g;rw[ML hl]at a;cases a;exact#v[.ref x,si,x,vs',rfl,T,R,j3,by rw[C];exact hd]
  .rw[MF g]at a;obtain⟨w,O,t⟩:=I.loc j y a;refine#v[w,O,?_];cases y with
   | dat d=>show c8 K (hid (upd H x<|.lst vs') B) d w;rw[C];exact t
   | feed=>exact t
   | fn _=>exact t
   | adr _=>exact t
   | own es =>
    obtain⟨f,l,rfl,r,n,e,p⟩:=t;have m:f≠x:=λz=>g<|S.inj i j ds es x ei a si<|z▸O
    exact#v[f,l,rfl,r,n,by rw[i8 m];exact e,by rw[C];exact p]
   | dic w c ps =>
    obtain⟨f,l,rfl,r,n,e,D,p⟩:=t;have m:f≠x:=λz=>by rw[z,Q]at e;cases e
    exact#v[f,l,rfl,r,n,by rw[i8 m];exact e,D,by rw[C];exact p]
 .rw[i8]
  .exact S.kp b o N W
  .intro z;subst z;rw[X]at N;cases N
 .by_cases g:i=j
  .subst g;exact S.own i ds f ei A
  .rw[MF g]at a;exact S.own j es f a A
 .have back:∀(j:Nat) (es:List My),(E.set i<|some<|.own ds')[j]? = some (some<|DV.own es)->∃es,E[j]? = some (some<|DV.own es):=λj es a=>by
   by_cases g:i=j
   .subst g;exact#v[ds,ei]
   .rw[MF g]at a;exact#v[es,a]
  obtain⟨Z,M⟩:=back j es a;obtain⟨Y,L⟩:=back k J ek;exact S.inj j k Z Y f M L A U
end
def eW (E:DE)(i:Nat):Option (List My):=match E[i]? with
 | some (some<|.own ds)=>some ds
 | _=>none
def bP {E:DE}{i:Nat}{ds:List My}(h:eW E i=some ds):E[i]? = some (some<|DV.own ds):=by
 unfold eW at h;split at h
 .rename_i q;cases h;exact q
 .cases h
noncomputable def ke (i:Nat)(v:DE->M My):DE->M Out:=λE F=>(v E F).bind λp=>(eW E i).bind λds=>if ds.length<Tc then some (.nx<|E.set i<|some<|.own<|ds++[p.1],p.2) else none
def Fp {i:Nat}(hv:TEd K te m):TSd K (nv<|tBM K "list" kE (Q2 i)<|x6 te T4) (ke i m):=λG B0 H0 E F g H D r J S e q=>by
 obtain⟨⟨d,C⟩,x,e⟩:=bS9 e;obtain⟨z,v,e⟩:=bS9 e;split at e
 .rename_i hl;cases e;obtain⟨B,s,o,I⟩:=S.ex;have n:=bP v;obtain⟨w,j,a,h,rfl,y,p,k,b⟩:=I.loc i _ n;refine#v[_,j,.inl #v[rfl,h,SqL.of k],hv G B E F g H _ d _ I x λu A c l t=>?_];have f:=b.same<|c.hid I.fB;exact#v[a,h,u,rfl,rfl,c a _ k p,by rw[b.length];exact hl,q g _<|(S.step c l).write s o (I.step c l) n j<|f.snoc t]
 .cases e
def bW (K:Qf)(G:GF)(B:List SQ)(H:Hp):List DV->List V->Prop
 | [],vs=>vs=[]
 | x::xs,vs=>∃v r,vs=v::r/\x.ow=false/\DVr K G B H x v/\bW K G B H xs r
def spD (K:Qf)(n:Nat)(f:List DV->M My):Sp:=λe H Q _=>∃G B F a d g,e.length=n/\(∀b∈m8 K G,b∈B)/\BOk H B/\FAt K G H F/\bW K G B H a e/\f a F=some (d,g) /\
 ∀v c,Kp (m8 K G) H c->FAt K G c g->c8 K (hid c B) d v->Q v c
def B9 (N:List Str)(args:List DV):DE:=args.map some++List.replicate (N.length-args.length) none
noncomputable def I0 (N:List Str)(m:DE->M Out):List DV->M My:=λargs F=>(m (B9 N args) F).bind λp=>match p.1 with
 | .rt d=>some (d,p.2)
 | .nx _=>some (.none,p.2)
 | _=>none
theorem bW.length {G:GF}{B:List SQ}{H:Hp}:∀{args:List DV} {vs:List V},bW K G B H args vs->vs.length=args.length
 | [],vs,h=>by cases h;rfl
 | x::xs,vs,#v[v,r,e,_,_,h]=>by subst e;rw[ME,ME,h.length]
theorem bW.get {G:GF}{B:List SQ}{H:Hp}:∀{args:List DV} {vs:List V} {i:Nat} {x:DV},bW K G B H args vs->args[i]? = some x->∃v,vs[i]? = some v/\x.ow=false/\DVr K G B H x v
 | [],vs,i,x,h,e=>by simp at e
 | y::xs,vs,i,x,#v[v,r,e1,h1,h2,h3],e=>by
  subst e1;cases i with
  | zero=>simp at e;subst e;exact#v[v,rfl,h1,h2]
  | succ i=>simpa using h3.get (i:=i) (by simpa using e)
def eM {N:List Str}{args:List DV}{i:Nat}{x:DV}(h:(B9 N args)[i]? = some (some x)):args[i]? = some x:=by
 unfold B9 at h;by_cases a:i<args.length
 .rw[OO (by simpa using a),MQ]at h;obtain⟨y,c,b⟩:=MP.1 h;cases b;exact c
 .rw[Oo (by simpa using a),NZ]at h;split at h <;> simp at h
def ju {G:GF}{B:List SQ}{F:FS}{H:Hp}{N:List Str}{args:List DV}{vs:List V}(fB:∀b∈m8 K G,b∈B)(bk:BOk H B)(f:FAt K G H F)(h:bW K G B H args vs):Sit K G B H (B9 N args) F (L2.V9 N vs) H:=by
 have d:∀(i:Nat) (g:List My),(B9 N args)[i]? ≠ some (some<|DV.own g):=λi g e=>by obtain⟨v,_,n,_⟩:=h.get<|eM e;cases n
 refine#v[#v[B,λ_ z=>z,λb o=>.inl o,#v[f,fB,bk,by simp[B9,L2.V9,h.length],λi x e=>?_]],fB,Kp.refl,λi g a e _=>absurd e<|d i g,λi j g es a e _ _ _=>absurd e<|d i g,λi c p a e _=>by obtain⟨v,_,n,_⟩:=h.get<|eM e;cases n];obtain⟨v,k,_,l⟩:=h.get<|eM e;refine#v[v,?_,l];have m:i<vs.length:=(MK.1 k).1;unfold L2.V9;rw[OO (by simpa using m),MQ,k];rfl
variable {P:SS}{w:SU}{mg:Str->Option SN}{base:Tb}
def w8 {x qual:Str}{f:SQ}{fd:SY}{N ps:List Str}{k:Nat}{m:DE->M Out}(Fn:Fun K x qual st f fd)(S:FnScope N ps (defScope st))
  (hbody:∀(dr:SN) (A:SW) (outer:List Tf) (s:SR) (H:Hp) (E:XK),Room k (A.deeper<|envOfC qual (defScope st) s.heap.objs.size f dr) ->
   ∃ts,Sss K (K8 CX0 P w K mg base N qual (defScope st) f dr A outer s H E).nox (defBody st) ts m):FnOk P w K mg base CX0 (k+1) f fd ps (spD K ps.length<|I0 N m):=by
 refine Fn.ok S (λg H Q E h=>?_) (λdr A outer s H g Q E p h=>?_)
 .obtain⟨G,B,F,a,d,L,hl,_⟩:=h;exact hl
 .obtain⟨G,B,F,a,d,L,hl,z,bk,y,t,r,q⟩:=h;obtain⟨ts,b⟩:=hbody dr A outer s H E p;refine#v[ts,b.ps,?_];obtain⟨⟨o,J⟩,D,e⟩:=bS9 r;refine b.ok G B H (B9 N a) F (L2.V9 N g) H _ o J (ju z bk y t) D ?_;cases o with
  | rt O=>cases e;exact λv c n C u=>q v c n C u
  | nx j=>cases e;exact λl c i=>q _ c i.kp (by obtain⟨B,_,_,I⟩:=i.ex;exact I.fd) c8.non
  | bk j=>cases e
  | ct j=>cases e
def TVd (K:Qf)(ta:TA)(m:DE->M (List DV)):Prop:=∀(G:GF) (B:List SQ) (E:DE) (F:FS) (b:St) (H:Hp) (Q:List V->Hp->Prop) (d:List DV) (e:FS),SitE K G B E F b H->m E F=some (d,e) ->
 (∀c a,Kp (m8 K G) H a->FAt K G a e->bW K G B a d c->Q c a)->ta b H Q
structure Evs (K:Qf) (X:Cx) (es:List Ta) (ta:TA) (m:DE->M (List DV)):Prop where
 pa:PA X es ta
 ok:TVd K ta m
def m7 :DE->M (List DV):=λ_ F=>some ([],F)
def vD (a:DE->M My)(r:DE->M (List DV)):DE->M (List DV):=λE F=>(a E F).bind λp=>(r E p.2).bind λq=>some (.dat p.1::q.1,q.2)
def vF (i:Nat)(r:DE->M (List DV)):DE->M (List DV):=λE F=>match E[i]? with
 | some (some .feed)=>(r E F).bind λq=>some (.feed::q.1,q.2)
 | _=>none
def g9 :Evs K X [] T4 m7:=#v[B1,λG B E F a H Q b c I e q=>by cases e;exact q [] H Kp.refl I.fd rfl]
def j6 {ms:DE->M (List DV)}(ha:Ev K X e te m)(hr:Evs K X es tl ms)(hs:Td (e::es) X.env=(false,eval e X.env)::Td es X.env:=by rfl):Evs K X (e::es) (x6 te tl) (vD m ms) :=
 #v[n6 ha.pe hr.pa hs,λG B E F a H Q r t I e q=>by
  obtain⟨⟨x,d⟩,n,e⟩:=bS9 e;obtain⟨⟨f,s⟩,l,e⟩:=bS9 e;cases e;refine ha.ok G B E F a H _ x d I n λv p c k i=>?_
  refine hr.ok G B E d a p _ f _ (I.step c k) l λg o b j h=>q _ o (c.trans b) j #v[v,g,rfl,rfl,i.same<|b.hid I.fB,h]]
def Q4 (i:Nat){x:Str}{ms:DE->M (List DV)}(hr:Evs K X es tl ms)(hN:X.N[i]? = some x:=by rfl)(hv:Vis X.env.scope x:=by first | exact Or.inl rfl | exact Or.inr (Or.inl rfl) | exact Or.inr<|Or.inr rfl)(hd:nDb x:=by decide)
  (hcd:nCd x:=by decide) (hs:Td (.Name x p::es) X.env=(false,eval (.Name x p) X.env)::Td es X.env:=by rfl):Evs K X (.Name x p::es) (x6 (Q2 i) tl) (vF i ms) :=
 #v[n6 (D5 hN hv hd hcd) hr.pa hs,λG B E F b H Q n r I e q=>by
  unfold vF at e;split at e
  .rename_i h;obtain⟨⟨c,o⟩,l,e⟩:=bS9 e;cases e;obtain⟨v,g,f⟩:=I.loc i _ h;refine#v[v,g,hr.ok G B E F b H _ c _ I l λd m a k j=>q _ m a k #v[v,d,rfl,rfl,f.step a I.fB,j]]
  .cases e]
def i4 (f:List DV->M My)(ms:DE->M (List DV)):DE->M My:=λE F=>(ms E F).bind λp=>f p.1 p.2
def CU {n:Nat}{f:List DV->M My}{ta:TA}{ms:DE->M (List DV)}(h:TVd K ta ms)(hn:∀E F args F',ms E F=some (args,F')->args.length=n):TEd K (aE (spD K n f) [] E0 ta) (i4 f ms):=λG B E F j H Q d F' I e q=>by
 obtain⟨⟨args,i⟩,g,e⟩:=bS9 e;refine h G B E F j H _ args i I g λp r a c b=>?_
 rw[NW];exact#v[G,B,i,args,d,F',by rw[b.length];exact hn _ _ _ _ g,I.fB,B4 I.bk a c,c,b,e,λv o k m l=>q v o (a.trans k) m l]
def T5 :∀E F args F',m7 E F=some (args,F')->args.length=0:=λE F args F' e=>by cases e;rfl
def cX {n:Nat}{ms:DE->M (List DV)}(h:∀E F args F',ms E F=some (args,F')->args.length=n):∀E F args F',vD m ms E F=some (args,F')->args.length=n+1:=λE F args F' e=>by obtain⟨⟨x,f⟩,c,e⟩:=bS9 e;obtain⟨⟨b,d⟩,a,e⟩:=bS9 e;cases e;rw[ME,h _ _ _ _ a]
def nM {n i:Nat}{ms:DE->M (List DV)}(h:∀E F args F',ms E F=some (args,F')->args.length=n):∀E F args F',vF i ms E F=some (args,F')->args.length=n+1:=λE F args F' e=>by
 unfold vF at e;split at e
 .obtain⟨⟨b,c⟩,a,e⟩:=bS9 e;cases e;rw[ME,h _ _ _ _ a]
 .cases e
def R1 {x:Str}{k n:Nat}{ps:List Str}{f:List DV->M My}{ms:DE->M (List DV)}(C:i5 X.prog X.w X.K X.mg X.base x k ps (spD K n f))(hr:Room k X.A)(ha:Evs K X (e::es) tl ms)(hn:∀E F args F',ms E F=some (args,F')->args.length=n)(hg:Gl X x:=by rfl)
  (hdb:nDb x:=by decide) (he:Td (e::es) X.env=(false,eval e X.env)::Td es X.env:=by rfl) (hpl:(Ti pos<|Td es X.env).any (·.1)=false:=by rfl) :
  Ev K X (.Call (.Name x p) (e::es) [] pos) (aE (spD K n f) [] E0 tl) (i4 f ms):=#v[eD C hr hg ha.pa hdb he hpl,CU ha.ok hn]
end
end
section
structure FdS where
 ns:List Int
 a:Int
 l:Int
 t:Int
class Fam where
 At:SQ->SQ->Hp->FdS->Prop
 some1:∀{d c H F},At d c H F->∃o,H d=some o/\NoT o
 some2:∀{d c H F},At d c H F->∃o,H c=some o/\NoT o
 congr:∀{d c H H' F},At d c H F->H' d=H d->H' c=H c->At d c H' F
 lam:List Str
 drawF:Int->FdS->Option (Int×FdS)
 draw_some:∀{m:Int} {F:FdS},0<m->m<1073741824->F.t<199999->∃r F',drawF m F=some (r,F')/\0<=r/\r<m/\F'.t=F.t+1
instance fdI [Fam]:Feeds where
 S:=FdS
 At:=Fam.At
 some1:=Fam.some1
 some2:=Fam.some2
 congr:=Fam.congr
 lam:=Fam.lam
def FdS.cell (F:FdS):Int:=if F.ns=[] then 11 else(F.ns[(F.a % (F.ns.length:Int)).toNat]?).getD 0
def A2 [Fam]:List DV->M My
 | [.feed,.dat<|.int m]=>λF=>(Fam.drawF m F).bind λp=>some (.int p.1,p.2)
 | _=>λ_=>none
def nX {x m:Int}(h:0<m):0<=x % m/\x % m<m:=#v[RM _ (by omega),QM _ h]
def AQ {F:FdS}(h0:¬F.ns=[]):atI (F.ns.map V.int) (F.a % ((F.ns.map V.int).length:Int))=some (.int F.cell):=by
 have e:0<F.ns.length:=RR.2 h0;rw[Mv];obtain⟨d,c⟩:=nX (x:=F.a) (m:=(F.ns.length:Int)) (by omega);obtain⟨j,b⟩:∃j:Nat,F.a % (F.ns.length:Int)=j:=#v[(F.a % (F.ns.length:Int)).toNat,by omega];have a:j<F.ns.length:=by omega
 unfold FdS.cell;rw[MC h0,b];refine V4 ?_;rw[MQ];simp[a]
def FdS.cellL (F:FdS):Int:=if F.ns=[] then 0 else(F.ns[(F.a % (F.ns.length:Int)).toNat]?).getD 0
def FdS.fst (F:FdS):Int:=(F.cellL % 1000003+47*F.a*F.a+31*F.a+907)*40009 % 999961
def FdS.mixL (F:FdS):Int:=((F.fst*F.fst+38317*F.a+101) % 2097143)*48271 % 2147483629 / 7
def fm (m:Int)(F:FdS):Option (Int×FdS):=if 0<m/\m<1073741824/\F.t<199999 then
  some (if 0<F.l then(F.l % m,#v[F.ns,F.a,F.l / m,F.t+1])
   else if 10 ^ 18<=F.cellL/\F.a<F.ns.length then(F.cellL % m,#v[F.ns,F.a+1,F.cellL / m,F.t+1])
   else(F.mixL % m,#v[F.ns,F.a+1,F.l,F.t+1]))
 else none
def oF {m:Int}{F:FdS}(h0:0<m)(h1:m<1073741824)(h2:F.t<199999):∃r F',fm m F=some (r,F')/\0<=r/\r<m/\F'.t=F.t+1:=by
 have b:∀x:Int,0<=x % m/\x % m<m:=λx=>#v[RM _ (by omega),QM _ h0]
 unfold fm;rw[Mx #v[h0,h1,h2]];by_cases hl:0<F.l
 .rw[Mx hl];exact#v[_,_,rfl,(b _).1,(b _).2,rfl]
 .rw[MC hl];by_cases a:10 ^ 18<=F.cellL/\F.a<F.ns.length
  .rw[Mx a];exact#v[_,_,rfl,(b _).1,(b _).2,rfl]
  .rw[MC a];exact#v[_,_,rfl,(b _).1,(b _).2,rfl]
def wO {F:FdS}(h0:¬F.ns=[]):atI (F.ns.map V.int) (F.a % ((F.ns.map V.int).length:Int))=some (.int F.cellL):=by
 have e:F.cellL=F.cell:=by unfold FdS.cellL FdS.cell;rw[MC h0,MC h0]
 rw[e];exact AQ h0
@[reducible] def Hm (l:List Str):Fam where
 At:=λd c H F=>H d=some (.lst [.ref c,.int F.a,.int F.l])/\H c=some (.lst<|F.ns.map V.int)/\F.ns.length<=63/\0<=F.a/\F.a<=F.t/\d≠c
 some1:=λh=>#v[_,h.1,#v[λ_ z=>(by cases z),λ_ z=>(by cases z)]]
 some2:=λh=>#v[_,h.2.1,#v[λ_ z=>(by cases z),λ_ z=>(by cases z)]]
 lam:=l
 congr:=λh e1 e2=>#v[e1.trans h.1,e2.trans h.2.1,h.2.2]
 drawF:=fm
 draw_some:=oF
def lS (ns:List Int):FdS:=#v[ns,0,0,0]
end
section
def cC:Const->Option My
 | .int i=>some<|.int i
 | .bool b=>some<|.bool b
 | .none=>some .none
 | .str x=>some<|.str x
 | _=>none
def cI:Ta->Option Int
 | .Constant c _ _=>match c with
  | .int i=>some i
  | _=>none
 | _=>none
def cU:UnaryOp->Bool
 | .USub=>true
 | _=>false
def cP:Operator->Bool
 | .Pow=>true
 | _=>false
mutual
def cu:Ta->Option My
 | .Constant c _ _=>cC c
 | .UnaryOp o e _=>if cU o=true then(cI e).map λi=>.int (-i) else none
 | .BinOp a o b _=>if cP o=true then(cI a).bind λi=>(cI b).bind λj=>if zq i j then some (.int<|i ^ j.toNat) else none else none
 | .Tuple es _ _=>(aV es).bind λd=>if d.length<=10000 then some (.tuple d) else none
 | .List es _=>(aV es).bind λd=>if d.length<=10000 then some (.list d) else none
 | _=>none
def aV:List Ta->Option (List My)
 | []=>some []
 | e::es=>(cu e).bind λd=>(aV es).bind λa=>some (d::a)
end
mutual
def P8:My->TE
 | .int i=>tC<|.int i
 | .bool b=>tC<|.bl b
 | .none=>tC .non
 | .str x=>tC<|.str x
 | .tuple ds=>oE<|aT ds
 | .list ds=>Ag<|aT ds
 | .dict _=>λ_ _ _=>False
def aT:List My->TA
 | []=>T4
 | d::ds=>x6 (P8 d)<|aT ds
end
def lM {e:Ta}{i:Int}(h:cI e=some i):∃k p,e = .Constant (.int i) k p:=by
 unfold cI at h;split at h
 .split at h
  .cases h;exact#v[_,_,rfl]
  .cases h
 .cases h
def og {e:Ta}{env:Tf}{d:My}(h:cu e=some d):Td (e::es) env=(false,eval e env)::Td es env:=by
 unfold cu at h;split at h
 .rfl
 .rfl
 .rfl
 .rfl
 .rfl
 .cases h
section
variable [Feeds]{K:Qf}{X:Cx}
def uQ :∀n:Nat,(∀(e:Ta) (d:My),sizeOf e<n->cu e=some d->Ev K X e (P8 d) (sC d))/\(∀(es:List Ta) (ds:List My),sizeOf es<n->aV es=some ds->Ea K X es (aT ds) (λ_ F=>some (ds,F))):=by
 intro n;induction n with
 | zero=>exact#v[λ_ _ h=>absurd h<|Pq _,λ_ _ h=>absurd h<|Pq _]
 | succ n x =>
  refine#v[λe d r h=>?_,λes ds r h=>?_]
  .unfold cu at h;split at h
   .unfold cC at h;split at h
    .cases h;simp only[P8];exact f9
    .cases h;simp only[P8];exact bC
    .cases h;simp only[P8];exact wj
    .cases h;simp only[P8];exact eL
    .cases h
   .rename_i o l z;split at h
    .rename_i A;obtain⟨i,w,y⟩:=MP.1 h;clear h;obtain⟨k,p,rfl⟩:=lM w;have:o = .USub:=by cases o <;> first | rfl | (exact absurd A<|by decide)
     subst this y;simp only[P8];have f:PE X (.UnaryOp .USub (.Constant (.int i) k p) z) (tUn (rU λi=>.int (-i))<|tC<|.int i):=wq oG u0;exact#v[λc s g H Q I h=>f c s g H Q I #v[i,rfl,h],λG B E F g H Q d D I e q=>by cases e;exact q _ H Kp.refl I.fd c8.int]
    .cases h
   .rename_i a o b z;split at h
    .rename_i A;obtain⟨i,w,y⟩:=bS9 h;clear h;obtain⟨j,O,h⟩:=bS9 y;clear y;obtain⟨k,p,rfl⟩:=lM w;obtain⟨M,L,rfl⟩:=lM O;have:o = .Pow:=by cases o <;> first | rfl | (exact absurd A<|by decide)
     subst this;split at h
     .rename_i N;cases h;simp only[P8];have f:PE X (.BinOp (.Constant (.int i) k p) .Pow (.Constant (.int j) M L) z) (tOp (rI zq λi j=>.int<|i ^ j.toNat) (tC<|.int i)<|tC<|.int j):=C3 vP u0 u0;exact#v[λc s g H Q I h=>f c s g H Q I #v[i,j,rfl,rfl,N,h],λG B E F g H Q d D I e q=>by cases e;exact q _ H Kp.refl I.fd c8.int]
     .cases h
    .cases h
   .rename_i es k p;obtain⟨ds,l,h⟩:=bS9 h;split at h
    .rename_i hl;cases h;simp only[P8];have t:=x.2 es ds (by simp at r;omega) l;exact#v[ik t.pa,λG B E F g H Q d D I e q=>by
      cases e;refine t.ok G B E F g H _ ds _ I rfl λJ P m v u=>#v[?_,λp f=>q _ _ (m.trans<|Kp.upd f) (v.same<|j5.upd f)<|K5 (B4 I.bk m v) f u]
      rw[u.length];exact MG hl (by rw[Nr];decide)]
    .cases h
   .rename_i es p;obtain⟨ds,l,h⟩:=bS9 h;split at h
    .rename_i hl;cases h;simp only[P8];have t:=x.2 es ds (by simp at r;omega) l;exact#v[kq t.pa,λG B E F g H Q d D I e q=>by
      cases e;refine t.ok G B E F g H _ ds _ I rfl λJ P m v u=>#v[?_,λp f=>q _ _ (m.trans<|Kp.upd f) (v.same<|j5.upd f)<|S8 (B4 I.bk m v) f u]
      rw[u.length];exact MG hl (by rw[Nr];decide)]
    .cases h
   .cases h
  .cases es with
   | nil=>simp only[aV]at h;cases h;simp only[aT];exact l9
   | cons e es =>
    simp only[aV]at h
    obtain⟨d,l,h⟩:=bS9 h
    obtain⟨C,w,h⟩:=bS9 h
    cases h
    simp only[aT]
    exact d8 (x.1 e d (by simp at r;omega) l) (x.2 es C (by simp at r;omega) w)<|og l
def vQ (e:Ta)(d:My)(h:cu e=some d):Ev K X e (P8 d) (sC d):=(uQ<|sizeOf e+1).1 e d (On _) h
def U9 (d:My){e:Ta}(h:cu e=some d):Ev K X e (P8 d) (sC d):=vQ e d h
end
end
end L3
namespace L3
open PySem
def Z3:Ts "len" = some (.builtin "len"):=by decide +kernel
def vI:Ts "sum" = some (.builtin "sum"):=by decide +kernel
def Dk:Ts "all" = some (.builtin "all"):=by decide +kernel
def qo:Ts "abs" = some (.builtin "abs"):=by decide +kernel
def gj:Ts "repr" = some (.builtin "repr"):=by decide +kernel
def W1:Ts "isinstance" = some (.builtin "isinstance"):=by decide +kernel
def uh:Ts "sorted" = some (.builtin "sorted"):=by decide +kernel
def pI:Ts "max" = some (.builtin "max"):=by decide +kernel
def E7:Ts "tuple" = some (.type "tuple"):=by decide +kernel
def rH:Ts "list" = some (.type "list"):=by decide +kernel
def oK:Ts "int" = some (.type "int"):=by decide +kernel
def sJ:Ts "bool" = some (.type "bool"):=by decide +kernel
end L3
namespace L3
open PySem PySem.Spec PyProof.Rows L2
variable {es:List Ta}{te:TE}{pos:Pos}
section
section
variable [Feeds]{K:Qf}{X:Cx}{e:Ta}{m:DE->M My}
def gu (i:Nat){x:Str}{px ap cp:Pos}(hK:X.K=K)(hv:Ev K X e te m)(hN:X.N[i]? = some x:=by rfl)(hvis:Vis X.env.scope x:=by first | exact Or.inl rfl | exact Or.inr (Or.inl rfl) | exact Or.inr<|Or.inr rfl)(hd:nDb x:=by decide)(hcd:nCd x:=by decide)
  (hbase:Tq (.Name x px) "append" X.env (eval (.Name x px) X.env)=eval (.Name x px) X.env:=by rfl)
  (hfew:((Ti cp<|Td [e] X.env).all (λx=>!x.1)&&(Tz cp<|TB [] X.env).all (λx=>x.1.isSome)
   && decide ([e].length+([]:List Tj).length+(if ([]:List Tj).isEmpty then 0 else 1)<30))=true:=by rfl)
  (hline:(ap.endLine == cp.line)=true:=by rfl) (hst:Td [e] X.env=(false,eval e X.env)::Td [] X.env:=by rfl) (hplain:(Ti cp<|Td [] X.env).any (·.1)=false:=by rfl)
  (hs:Tp (.Call (.Attribute (.Name x px) "append" ap) [e] [] cp) none pos.line X.env=pure false:=by rfl) :
  Ss K X (.Expr (.Call (.Attribute (.Name x px) "append" ap) [e] [] cp) pos) (nv<|tBM K "list" kE (Q2 i)<|x6 te T4) (ke i m):=by subst hK;exact#v[rN (Bx PySem.F.plainAttrs_list PySem.F.slot_list_append PySem.F.type_list_append aU (D5 hN hvis hd hcd) (n6 hv.pe B1 hst) hbase hfew hline hst hplain) hs,Fp hv.ok]
end
end
section
section
variable [Feeds]{K:Qf}{X:Cx}{a b e:Ta}{p:Pos}{mg:Str->Option SN}
def GD (K:Qf)(mg:Str->Option SN)(x:Str)(d:My):Prop:=∃a,mg x=some (.ref a)/\∀H,c8 K H d<|.ref a
def zi {x:Str}{d:My}(h:GD K X.mg x d)(hg:Gl X x:=by rfl)(hd:nDb x:=by decide):Ev K X (.Name x p) (tC<|.ref h.choose) (sC d) :=
 #v[kX hg h.choose_spec.1 rfl hd,λG B E F a H Q d b I e q=>by cases e;exact q _ H Kp.refl I.fd<|h.choose_spec.2 _]
end
end
variable {prog:SS}{π:List (SQ×Te)}
section
section
variable {w:SU}{A:SW}{E:SN->SR->Prop}{s:SR}
def V3 {it l:SQ}{i:Nat}{items}{x:SN}{Q:SN->SR->Prop}(hit:s.heap.IsTupleIter it l i)
  (hl:s.heap.IsTuple l items) (hx:items[i]? = some x)
  (hQ:∀h',h'.IsTupleIter it l (i+1)->Tb.SameBut it s.heap h'->Q x { s with heap:=h' }) :
  Tn (model prog w) A (Builtin.SmallTypes.nextOf<|.ref it) Q E s:=by
 obtain⟨o,b,e,a⟩:=id hit;obtain⟨f,c,_,g,d⟩:=hl;unfold Builtin.SmallTypes.nextOf;refine Ms (NR (name:=Str.ofString "__next__") hit.typeIs OI
  (Nx OI hit.typeIs Rj ?_<|Rb _))
 show Tn _ _ (field (.ref it) 0 >>= _) _ _ s;refine Ms<|NF b a (x:=.ref l) rfl ?_;show Tn _ _ (if (SN.ref l == SN.none)=true then _ else _) _ _ s;rw[MC<|show ¬((SN.ref l == SN.none)=true) from MV];show Tn _ _ (field (.ref it) 1 >>= _) _ _ s;refine Ms<|NF b a (x:=.int i 0) rfl ?_;show Tn _ _ (seqItems? (.ref l) >>= _) _ _ s;refine Ms<|Ob c d ?_;simp only[NI,hx];refine Ms (Pz b a (by simp)<|Mt #v[x,rfl,Mt<|hQ _ ?_<|PN ..]);exact#v[_,Oj _ b<|RA<|Ph a _,(Te.cls_mapFields ..).trans e,by rw[Ph a];simp[rawInt]]
def X3 {it l:SQ}{i:Nat}{items}{Q:SN->SR->Prop}(hh:A.handled=none)
  (hit:s.heap.IsTupleIter it l i) (hl:s.heap.IsTuple l items) (hx:items[i]? = none)
  (hE:∀h' e,Tb.ExtBut it s.heap h'->(∃o,h'.get? e=some o/\o.cls = .type "StopIteration")->E (.ref e) { s with heap:=h' }) :
  Tn (model prog w) A (Builtin.SmallTypes.nextOf<|.ref it) Q E s:=by
 obtain⟨o,c,j,f⟩:=id hit;obtain⟨g,b,_,h,d⟩:=hl;unfold Builtin.SmallTypes.nextOf;refine Ms (NR (name:=Str.ofString "__next__") hit.typeIs OI
  (Nx OI hit.typeIs Rj ?_<|Rb _))
 show Tn _ _ (field (.ref it) 0 >>= _) _ _ s;refine Ms<|NF c f (x:=.ref l) rfl ?_;show Tn _ _ (if (SN.ref l == SN.none)=true then _ else _) _ _ s;rw[MC<|show ¬((SN.ref l == SN.none)=true) from MV];show Tn _ _ (field (.ref it) 1 >>= _) _ _ s;refine Ms<|NF c f (x:=.int i 0) rfl ?_;show Tn _ _ (seqItems? (.ref l) >>= _) _ _ s;refine Ms<|Ob b d ?_;simp only[NI,hx];refine Ms (OG<|Ms<|Pz c f (by simp) ?_);show Tn _ _ (newExc (.type "StopIteration") [] >>= _) _ _ _;refine Ms ?_;simp only[newExc,newTuple];refine Ms (Nj ?_<|by size_fits);refine Ms (m:=firstArgMember _ _) (wpAny_of_eq (a:=SN.none) (by first | rfl | (simp only[firstArgMember];rfl)) ?_);refine Nj ?_ (by size_fits);simp only[raiseNew];refine Ms<|wpAny_handled ?_;first | rw[show A.in1.handled=none from hh] | rw[hh]
 refine Ms<|Mt<|wpAny_throw ?_;exact hE _ _ (((PN ..).extBut.push _).push _) #v[_,MM _ rfl,rfl]
end
def K0 (b:Bool)(h:Tb)(it l:SQ)(i:Nat):Prop:=if b then h.IsListIter it l i else h.IsTupleIter it l i
def Z5 (b:Bool)(h:Tb)(l:SQ)(items:Array SN):Prop:=if b then h.IsList l items else h.IsTuple l items
def K0.at {b:Bool}{h h':Tb}{it l:SQ}{i:Nat}(x:K0 b h it l i)(k:∀o,h.get? it=some o->h'.get? it=some o):K0 b h' it l i:=by
 cases b
 .exact Tb.IsTupleIter.at (show h.IsTupleIter it l i from x) k
 .exact Tb.IsListIter.at (show h.IsListIter it l i from x) k
def Z5.at {b:Bool}{h h':Tb}{l:SQ}{items:Array SN}(x:Z5 b h l items)(k:∀o,h.get? l=some o->h'.get? l=some o):Z5 b h' l items:=by
 cases b
 .obtain⟨o,a,r⟩:=(show h.IsTuple l items from x);exact#v[o,k o a,r]
 .exact Tb.IsList.at (show h.IsList l items from x) k
def K0.obj {b:Bool}{h:Tb}{it l:SQ}{i:Nat}(x:K0 b h it l i):∃o,h.get? it=some o/\∀v,o.data ≠ .cell v:=by
 cases b
 .obtain⟨o,e,c,d⟩:=(show h.IsTupleIter it l i from x);exact#v[o,e,λv z=>by rw[d]at z;cases z]
 .obtain⟨o,e,c,d⟩:=(show h.IsListIter it l i from x);exact#v[o,e,λv z=>by rw[d]at z;cases z]
def nH {w:SU}{A:SW}(b:Bool)(hh:A.handled=none)(it l:SQ)(hne:l≠it)(items:Array SN) :
  Draws prog w A it [it,l] items.size (λi v=>items[i]? = some v) (λi h=>K0 b h it l i/\Z5 b h l items) where
 live:=λ_ _ st=>let #v[o,m,_]:=st.1.obj;#v[o,m]
 frame:=λ_ _ _ st g=>#v[st.1.at λo e=>g it (by simp) o e,st.2.at λo e=>g l (by simp) o e]
 item:=λi s Q E d st j=>by
  cases b
  .refine V3 (show s.heap.IsTupleIter it l i from st.1) (show s.heap.IsTuple l items from st.2) (x:=items[i]) (by simp[d]) λf c a=>?_
   exact j _ f s.toks (by simp[d]) #v[c,st.2.at λo e=>a.extBut l o hne e] a
  .refine wpAny_nextOf_list_item (show s.heap.IsListIter it l i from st.1) (show s.heap.IsList l items from st.2) (x:=items[i]) (by simp[d]) λf c a=>?_
   exact j _ f s.toks (by simp[d]) #v[c,st.2.at λo e=>a.extBut l o hne e] a
 done:=λs Q E st k=>by
  cases b
  .exact X3 hh (show s.heap.IsTupleIter it l items.size from st.1) (show s.heap.IsTuple l items from st.2) (by simp) k
  .exact wpAny_nextOf_list_end hh (show s.heap.IsListIter it l items.size from st.1) (show s.heap.IsList l items from st.2) (by simp) k
open AutoSeq1 (wpAny_loadPart') in
def aK (l:SQ)(items:Array SN)(n:Nat)(dct:Option SQ)(sl:Array (Option SN)) :
  Meets (Builtin.«enumerate.__new__» #v[[.type "enumerate",.ref l],[]]) (λ_ R s=>s.heap.get? l=some { cls:=.type "tuple",dict:=dct,data:=.seq items n,slots:=sl } /\
   R (.ok<|.ret<|.ref (s.heap.push { cls:=.type "tuple_iterator",data:=.fields #[.ref l,.int 0 0] }).objs.size)
    { s with heap:=(s.heap.push { cls:=.type "tuple_iterator",data:=.fields #[.ref l,.int 0 0] }).push { cls:=.type "enumerate",data:=.fields #[.none,.bool false,.ref s.heap.objs.size,rawInt 0,.none,.none] } }) :=
 .of_wp λprog w A R s h=>by
  obtain⟨i,g,d,e,f⟩:=s;obtain⟨hl,h⟩:=h;have b:=sub_enumerate;have a:Tb.IsTuple (SR.heap #v[i,g,d,e,f]) l items:=#v[_,hl,rfl,n,rfl];wp_walk using wpAny_loadPart' hl;refine wpAny_stack_any λst=>Mt ?_
  split
  .rename_i c _ _ _ _ _;cases(c == SN.type "enumerate")
   .wp_walk using wpAny_loadPart' hl,OM a;exact#v[_,rfl,h]
   .wp_walk using wpAny_loadPart' hl,OM a;exact#v[_,rfl,h]
  .wp_walk using wpAny_loadPart' hl,OM a;exact#v[_,rfl,h]
section
variable {w:SU}{A:SW}{E:SN->SR->Prop}{s:SR}
def aC {l:SQ}{items:Array SN}{Q:SN->SR->Prop}(hL:s.heap.IsTuple l items)
  (h:∀h',IsEnum h' (s.heap.objs.size+1) s.heap.objs.size 0 .none->h'.IsTupleIter s.heap.objs.size l 0->h'.objs.size=s.heap.objs.size+2 ->
   (∀b o,s.heap.get? b=some o->h'.get? b=some o)->Q (.ref<|s.heap.objs.size+1) { s with heap:=h' }) :
  Tn (model prog w) A (call (.type "enumerate") [.ref l]) Q E s:=by
 obtain⟨⟨c,f,j,i⟩,hl,e,n,d⟩:=hL;replace e:c = .type "tuple":=e;replace d:j = .seq items n:=d;subst e d;refine callType_new PySem.F.called_enumerate (by decide) (PySem.F.typeCall_enumerate_1 _) (PySem.F.newCall_enumerate_1 _) (λobj=>PySem.F.args_object_init_2 obj _) PySem.F.entry_enumerate_new
  (aK l items n f i) #v[hl,?_]
 have a:(s.heap.push { cls:=.type "tuple_iterator",data:=.fields #[.ref l,.int 0 0] }).objs.size=s.heap.objs.size+1:=NB ..;show _/\_;rw[a];have g:IsEnum ((s.heap.push { cls:=.type "tuple_iterator",data:=.fields #[.ref l,.int 0 0] }).push
   { cls:=.type "enumerate",data:=.fields #[.none,.bool false,.ref s.heap.objs.size,rawInt 0,.none,.none] }) (s.heap.objs.size+1) s.heap.objs.size 0 .none:=by
  have:=MM (s.heap.push { cls:=.type "tuple_iterator",data:=.fields #[.ref l,.int 0 0] })
   (o:={ cls:=.type "enumerate",data:=.fields #[.none,.bool false,.ref s.heap.objs.size,rawInt 0,.none,.none] }) rfl
  rw[a]at this;exact this
 refine#v[#v[_,g,rfl],h _ g #v[_,Mu _<|MM _ rfl,rfl,rfl] (by rw[NB,a]) λb o x=>Mu _<|Mu _ x]
def ur {b:Bool}{l:SQ}{items:Array SN}{Q:SN->SR->Prop}(hL:Z5 b s.heap l items)
  (h:∀h',IsEnum h' (s.heap.objs.size+1) s.heap.objs.size 0 .none->K0 b h' s.heap.objs.size l 0->h'.objs.size=s.heap.objs.size+2 ->
   (∀b o,s.heap.get? b=some o->h'.get? b=some o)->Q (.ref<|s.heap.objs.size+1) { s with heap:=h' }) :
  Tn (model prog w) A (call (.type "enumerate") [.ref l]) Q E s:=by
 cases b
 .exact aC (show s.heap.IsTuple l items from hL) h
 .exact call_enumerate_list (show s.heap.IsList l items from hL) h
end
def SqA (b:Bool)(K:Qf)(H:Hp)(a:SQ)(xs:List V):Prop:=if b then SqL K H a xs else SqT K H a xs
def Ite (b:Bool)(K:Qf)(a:SQ):It :=
 #v[λi H=>∃c x,SqA b K H a c/\c[i]? = some x,λi H v d=>∃t x,v = .ref t/\H t=none/\d=upd H t (.tup [.int i,x])/\∀c,SqA b K H a c->c[i]? = some x,λi H=>∃c,SqA b K H a c/\c.length=i]
def SqA.get {b:Bool}{X:Cx}{σ:St}{H:Hp}{s:SR}{a:SQ}{xs:List V}(I:Inv X π σ H s)(h:SqA b X.K H a xs):∃its:List SN,m9 xs its/\Z5 b s.heap a its.toArray:=by
 cases b
 .obtain⟨its,c,p,_⟩:=I.tuple (show SqT X.K H a xs from h);exact#v[its,c,p]
 .obtain⟨its,c,p,_⟩:=I.list (show SqL X.K H a xs from h);exact#v[its,c,p.isList]
def SqA.inj {b:Bool}{X:Cx}{σ:St}{H:Hp}{s:SR}{a:SQ}{xs ys:List V}(I:Inv X π σ H s)(h:SqA b X.K H a xs)(h':SqA b X.K H a ys):ys=xs:=by
 cases b
 .exact I.tuple_inj (show SqT X.K H a ys from h') (show SqT X.K H a xs from h)
 .exact I.list_inj (show SqL X.K H a ys from h') (show SqL X.K H a xs from h)
end
section
def iK {h:Tb}{c:SQ}{o o':Te}(hl:c<h.objs.size)(e:(h.push o).get? c=some o'):h.get? c=some o':=by obtain⟨b,a⟩:=Sd.1 e;refine Sd.2 #v[?_,a];have:=MR hl;cases h;simpa [Tb.push,Array.getElem?_push,this] using b
def N6 {X:Cx}{σ:St}{H:Hp}{s:SR}{h':Tb}{t':Nat}{fp:List SQ}(I:Inv X π σ H s)(hf:∀b∈fp,bx X π H b)(k:∀b o,b ∉ fp->s.heap.get? b=some o->h'.get? b=some o):Inv X π σ H { s with heap:=h',toks:=t' }:=by
 have d:∀b u,H b=some u->b ∉ fp:=λb u e z=>by rw[(hf b z).1]at e;cases e
 refine I.step (g':=s.gens) (d':=s.drawn) (ch:=fp) (λb h=>?_) (λb o _ _ a e _=>k b o a e) (λb o _ _ a e _=>#v[o.slots,k b o a e]) (λ_ _ _ _ n=>n)
  (λb o a e=>#v[o,k b o a e]) (λ_ _ e=>e) (λ_ _ _ e=>e) (λb w e=>#v[#[],by rw[e];simp]) (λm g=>?_) (λb u e=>?_) I.bare
 .obtain⟨_,p,x,l,j,i⟩:=hf b h;exact#v[l,p,j,i]
 .obtain⟨o,es,t,f,r⟩:=g;exact#v[o,es,t,k _ o (λz=>(hf _ z).2.1 rfl) f,r]
 .refine(I.hok b u e).stay (λc v a q=>k c v ?_ q) (λ_ q=>q) λ_ _ q=>q
  rcases a with z | z
  .rw[z];exact d b u e
  .exact d c _ z
def um {P:SS}{w:SU}{K:Qf}{k:Nat}(b:Bool)(a e it:SQ):Turn P w K (.Tuple es k pos) (Ite b K a) [e,it] e (λi h=>(e≠it/\a≠e/\a≠it)/\(∃old,IsEnum h e it i old)/\K0 b h it a i) where
 mem:=by simp
 obj:=λi h st c hb=>by
  obtain⟨_,⟨old,q⟩,d⟩:=st;rcases MJ.1 hb with rfl | hb
  .exact#v[_,q,λv z=>by cases(show Data.fields _=Data.cell v from z)]
  .rw[Nc.1 hb];exact d.obj
 keep:=λi h h' st kk=>by obtain⟨n,⟨old,q⟩,d⟩:=st;exact#v[n,#v[old,kk e (by simp) _ q],d.at λo z=>kk it (by simp) o z]
 item:=by
  intro X hP U hK L i π s Q H E I hf st hg;subst hP U hK;obtain⟨⟨B,S,M⟩,⟨old,q⟩,d⟩:=st;obtain⟨xs,x,O,N⟩:=hg;obtain⟨g,R,p⟩:=SqA.get I O;obtain⟨u,hu,ru⟩:=R.get N;have W:i<g.toArray.size:=by have:=(MK.1 hu).1;simpa using this
  have F:e<s.heap.objs.size:=MA q;have Z:it<s.heap.objs.size:=by obtain⟨o,z,_⟩:=d.obj;exact MA z
  refine wpAny_pyNext_enum_itemD (nH b (A:=X.A.in1) (I.ok.hd L) it a M g.toArray) q #v[d,p] W B (by simp[B,Ow S]) λy h' l t ho C ht hz hk=>?_
  have T:y=u:=by have t:g.toArray[i]? = some y:=t;rw[Pr,hu]at t;exact(MH t).symm
  subst T;refine#v[_,rfl,wpAny_letOwnedTupleGo_enum ho λh2 ac m=>?_];have m:Tb.SameBut e h' h2:=m;have ab:H s.heap.objs.size=none:=I.hok.fresh<|Mz _;have I1:Inv X π Q (upd H s.heap.objs.size<|.tup [.int i,x]) { s with heap:=s.heap.push { cls:=.type "tuple",data:=.seq #[.int i l,y] },toks:=l }:=by refine I.laid (t':=l) (λb u e=>Mu _ e) (Mz _) ?_;exact#v[MG (show 2<=10000 by decide) (by rw[Nr];decide),[.int i l,y],.cons #v[l,rfl]<|.cons ru .nil,#v[_,MM _ rfl,rfl,_,rfl]]
  have D:∀c∈[e,it],bx X π (upd H s.heap.objs.size<|.tup [.int i,x]) c:=λc j=>by
   obtain⟨f0,f⟩:=hf c j;have V:c≠s.heap.objs.size:=by
    rcases MJ.1 j with rfl | j
    .exact MR F
    .rw[Nc.1 j];exact MR Z
   exact#v[by rw[i8 V];exact f0,f]
  have ad:h2.get? s.heap.objs.size=some { cls:=.type "tuple",data:=.seq #[.int i l,y] }:=m.extBut _ _ (NT F) ht;have I2:Inv X π Q (upd H s.heap.objs.size<|.tup [.int i,x]) { s with heap:=h2,toks:=l+1 }:=by
   refine N6 (s:={ s with heap:=s.heap.push { cls:=.type "tuple",data:=.seq #[.int i l,y] },toks:=l }) I1 D λc o G r=>?_
   have c1:c≠e:=λz=>G (by simp[z])
   have c2:c≠it:=λz=>G (by simp[z])
   by_cases J:c=s.heap.objs.size
   .subst J;have:(s.heap.push { cls:=.type "tuple",data:=.seq #[.int i l,y] }).get? s.heap.objs.size=some o:=r;rw[MM _ rfl]at this;rw[ad];exact this
   .have Y:c<s.heap.objs.size:=by have h1:c<(s.heap.push { cls:=.type "tuple",data:=.seq #[.int i l,y] }).objs.size:=MA r;rw[NB]at h1;exact Se (Sq h1) J
    have af:s.heap.get? c=some o:=by have r:(s.heap.push { cls:=.type "tuple",data:=.seq #[.int i l,y] }).get? c=some o:=r;exact iK Y r
    exact m.extBut c o c1<|hk c o c1 c2 af
  refine#v[.ref s.heap.objs.size,upd H s.heap.objs.size<|.tup [.int i,x],I2,rfl,#v[_,x,rfl,ab,rfl,λys t=>by rw[SqA.inj I O t];exact N],#v[#v[B,S,M],#v[y,by simpa using ac],C.1.at λo z=>m.extBut it o (Ow B) z],λc j=>(D c j).1]
 done:=by
  intro X hP U hK L i π s Q H E I hf st hg;subst hP U hK;obtain⟨⟨B,S,M⟩,⟨old,q⟩,d⟩:=st;obtain⟨xs,O,N⟩:=hg;obtain⟨g,R,p⟩:=SqA.get I O;have hl:g.toArray.size=i:=by rw[MO,<-R.length];exact N
  refine wpAny_pyNext_enum_endD (nH b (A:=X.A.in1) (I.ok.hd L) it a M g.toArray) q (by rw[hl];exact#v[d,p]) λh' eb=>#v[rfl,N6 (t':=s.toks) I hf λc o L r=>eb c o (λz=>L<|by simp[z]) r]
 self:=λ_ _ _ _ _ st h=>by obtain⟨_,⟨old,q⟩,_⟩:=st;exact wpAny_pyIter_enum q h
section
variable [Feeds]{K:Qf}{X:Cx}{e:Ta}{m:DE->M My}{p tp:Pos}{tk:Nat}
def bM:Nat->List My->List My
 | _,[]=>[]
 | k,d::r=>.tuple [.int k,d]::bM (k+1) r
theorem eO:∀{ds:List My} {k:Nat},(bM k ds).length=ds.length
 | [],k=>rfl
 | d::r,k=>by rw[bM,ME,ME,eO]
theorem eR:∀{ds:List My} {k i:Nat} {z:My},(bM k ds)[i]? = some z->∃d,ds[i]? = some d/\z = .tuple [.int<|(k+i:Nat),d]
 | [],k,i,z,h=>by simp[bM]at h
 | d::r,k,0,z,h=>by simp[bM]at h;exact#v[d,by simp,by simp[h]]
 | d::r,k,i+1,z,h=>by rw[bM,OX]at h;obtain⟨c,b,a⟩:=eR h;refine#v[c,by simpa using b,?_];rw[a,show k+1+i=k+(i+1) by omega]
def rG (a:DE->M My):DE->M (List My):=λE F=>(a E F).bind λp=>(gr p.1).bind λb=>some (bM 0 b,p.2)
def BD (K:Qf)(tl:TA):TI:=λd H R=>tl d H λf c=>∃a,f=[.ref a]/\∃b e,SqA b K c a e/\R (Ite b K a) c
def Am {l:Ta}{tl:TA}(hK:X.K=K)(hg:Gl X "enumerate")(hm:X.mg "enumerate" = none)(ha:PA X [l] tl)(hs:Td [l] X.env=[(false,eval l X.env)]:=by rfl):PI X (.Tuple es tk tp) (.Call (.Name "enumerate" p) [l] [] pos) (BD K tl):=by
 subst hK;intro π s m H R I h;refine Call_ (cF I hg hm boot_enumerate<|Pe (thn (ha pos π s m H _ I h) λus s1 #v[D,t,i,v,w]=>?_) hs rfl);obtain⟨a,e,b,C,x,q⟩:=w;subst e;cases v with
 | cons r u =>
  cases u;cases r;obtain⟨d,E,p⟩:=SqA.get i x;refine ur p λA n j F y=>?_
  have B:Inv X π m t { s1 with heap:=A }:=i.kept (t':=s1.toks) y;have g:a<s1.heap.objs.size:=by
   cases b
   .obtain⟨o,z,_⟩:=(show s1.heap.IsTuple a d.toArray from p);exact MA z
   .obtain⟨o,z,_⟩:=(show s1.heap.IsList a d.toArray from p);exact MA z
  refine wpAny_pyIter_enum n #v[s1.heap.objs.size+1,[s1.heap.objs.size+1,s1.heap.objs.size],_,_,t,rfl,B,um b a _ _,#v[#v[Nat.succ_ne_self _,MR<|Px g,MR g],#v[_,n],j],λc k=>?_,q];have f:s1.heap.objs.size<=c:=by
   rcases MJ.1 k with rfl | k
   .exact Rk _
   .rw[Nc.1 k];exact Mz _
  exact i.fpOk f<|i.hok.fresh f
def rK {P:Hp->List SQ->Prop}{b:Bool}{a:SQ}{ds:List My}{xs:List V}(h:∀H B,P H B->SqA b K H a xs/\c6 K (hid H B) ds xs):bU K P (Ite b K a) (bM 0 ds):=λH B k=>by obtain⟨f,g⟩:=h H B k;refine#v[λi d e=>?_,#v[xs,f,by rw[eO,g.length]]];obtain⟨n,c,rfl⟩:=eR e;obtain⟨v,j,l⟩:=c6.item g c;refine#v[#v[xs,v,f,j],λx o y=>?_];obtain⟨t,m,rfl,ht,rfl,y⟩:=y;have:=y xs f;rw[j]at this;cases this;refine#v[j5.upd ht,λbk=>?_];rw[Nh];exact K5 bk ht #v[_,_,rfl,c8.int,_,_,rfl,l,rfl]
def yR (h:Ev K X e te m)(hm:X.mg "enumerate" = none)(hK:X.K=K:=by rfl)(hg:Gl X "enumerate":=by rfl)(hs:Td [e] X.env=[(false,eval e X.env)]:=by rfl):Ei K X (.Tuple es tk tp) (.Call (.Name "enumerate" p) [e] [] pos) (BD K<|x6 te T4) (rG m):=#v[Am hK hg hm (n6 h.pe B1 hs) hs,λG B E F l H R w x I e q=>by
 obtain⟨⟨y,t⟩,o,e⟩:=bS9 e;obtain⟨z,g,e⟩:=bS9 e;cases e;refine h.ok G B E F l H _ y t I o λv k i j c=>?_
 cases y with
 | list n =>cases g;simp only[c8]at c;obtain⟨a,d,rfl,b,f⟩:=c;exact#v[a,rfl,true,d,SqL.of<|f8 _ _ b,q _ k i j<|rK λr u s=>#v[SqL.of<|f8 _ _<|s _ _ b,f.same s]]
 | tuple n =>cases g;simp only[c8]at c;obtain⟨a,d,rfl,b,f⟩:=c;exact#v[a,rfl,false,d,b.same f8,q _ k i j<|rK λr u s=>#v[(b.same s).same f8,f.same s]]
 | _=>cases g]
end
end
section
section
variable [Feeds]{K:Qf}{X:Cx}{a b c e:Ta}{tb:TE}{mb mc m:DE->M My}{p:Pos}{t u:TS}
noncomputable def cT (c:DE->M Bool)(b:DE->M Out):Nat->DE->M Out
 | 0,_,_=>none
 | n+1,E,F=>(c E F).bind λp=>if p.1=true then(b E p.2).bind λq=>match q.1 with
  | .nx E2=>cT c b n E2 q.2
  | .ct E2=>cT c b n E2 q.2
  | .bk E2=>some (.nx E2,q.2)
  | .rt d=>some (.rt d,q.2)
  else some (.nx E,p.2)
theorem bo {c:DE->M Bool}{b:DE->M Out}:∀{n m:Nat} {E:DE} {F:FS} {r:Out×FS},n<=m->cT c b n E F=some r->cT c b m E F=some r
 | 0,m,E,F,r,_,h=>by cases h
 | n+1,0,E,F,r,hl,h=>absurd hl (by omega)
 | n+1,m+1,E,F,r,hl,h=>by
  rw[cT]at h ⊢;obtain⟨⟨x,i⟩,f,h⟩:=bS9 h;rw[f,MU];dsimp only at h ⊢;cases x with
  | false=>exact h
  | true =>
   rw[Mx rfl]at h ⊢;obtain⟨⟨o,g⟩,e,h⟩:=bS9 h;rw[e,MU];cases o with
   | nx a=>exact bo (n:=n) (m:=m) (by omega) h
   | ct a=>exact bo (n:=n) (m:=m) (by omega) h
   | bk a=>exact h
   | rt d=>exact h
open Classical in
def mWh (c:DE->M Bool)(b:DE->M Out):DE->M Out:=λE F=>if h:∃n r,cT c b n E F=some r then some (Classical.choose<|Pt h) else none
def CH {c:DE->M Bool}{b:DE->M Out}{n:Nat}{E:DE}{F:FS}{r:Out×FS}(h:cT c b n E F=some r):mWh c b E F=some r:=by unfold mWh;have a:∃n r,cT c b n E F=some r:=#v[n,r,h];rw[dif_pos a];have e:=Pt<|Pt a;have f:=bo (Nat.le_max_left n<|Classical.choose a) h;have d:=bo (Nat.le_max_right n<|Classical.choose a) e;rw[f]at d;exact d.symm
def Ek {c:DE->M Bool}{b:DE->M Out}{E:DE}{F:FS}{r:Out×FS}(h:mWh c b E F=some r):∃n,cT c b n E F=some r:=by
 unfold mWh at h;split at h
 .rename_i a;cases h;exact#v[_,Pt<|Pt a]
 .cases h
def zC {tt:TT}{tb:TS}{mc:DE->M Bool}{mb:DE->M Out}(hc:TTd K tt mc)(hb:TSd K tb mb):TSd K (oN tt tb) (mWh mc mb):=λG B0 k E F p H D r A S e q=>by
 obtain⟨n,e⟩:=Ek e;refine#v[λm p H=>∃E F,Sit K G B0 k E F p H/\cT mc mb m E F=some (r,A),#v[n,E,F,S,e],?_];rintro m c T ⟨C,U,u,a⟩;cases m with
 | zero=>cases a
 | succ m =>
  rw[cT]at a;obtain⟨⟨x,z⟩,R,a⟩:=bS9 a;obtain⟨B,s,V,I⟩:=u.ex;refine hc G B C U c T _ x z I R λw L P=>?_
  have t:=u.step L P;cases x with
  | false =>rw[MC MV];cases a;exact q c w t
  | true =>
   rw[Mx rfl];rw[Mx rfl]at a;obtain⟨⟨o,l⟩,Q,a⟩:=bS9 a;refine#v[λf y=>∃E F,Sit K G B0 k E F f y/\cT mc mb m E F=some (r,A),λf y h=>#v[m,On _,h],?_];refine hb G B0 k C z c w _ o l t Q ?_;cases o with
   | nx j=>exact λb i g=>#v[j,l,g,a]
   | ct j=>exact λb i g=>#v[j,l,g,a]
   | bk j=>cases a;exact λb i g=>q b i g
   | rt d=>cases a;exact λv i J O N=>q v i J O N
def mw {body:List SZ}{tt:TT}{tb:TS}{mc:DE->M Bool}{mb:DE->M Out}(hc:Et K X c tt mc)(hb:Sss K X body tb mb)(hp:PassesOwn (model X.prog X.w) X.A X.env X.xe:=by exact PassesOwn.never):Ss K X (.While c body [] pos) (oN tt tb) (mWh mc mb) :=
 #v[yH hp hc.pt hb.ps,zC hc.ok hb.ok]
noncomputable def vN (i:Nat)(v:DE->M My):DE->M Out:=λE F=>(v E F).bind λp=>(eW E i).bind λds=>match p.1 with
 | .list zs=>if ds.length+zs.length<=Tc then some (.nx<|E.set i<|some<|.own<|ds++zs,p.2) else none
 | _=>none
def Ga {i:Nat}(hv:TEs K te m):TSd K (nv<|tBM K "list" kP (Q2 i)<|x6 te T4) (vN i m):=λG B0 N E F j H D r P S e q=>by
 obtain⟨⟨d,O⟩,C,e⟩:=bS9 e;obtain⟨L,A,e⟩:=bS9 e;dsimp only at e;split at e
 .split at e
  .rename_i hl;cases e;obtain⟨B,s,v,I⟩:=S.ex;have p:=bP A;obtain⟨w,l,a,k,rfl,J,x,n,c⟩:=I.loc i _ p;refine#v[_,l,.inl #v[rfl,k,SqL.of n],hv G B E F j H _ (.list _) _ I C λu M g o z=>?_];obtain⟨b,t,rfl,y,f⟩:=z;have h:=c.same<|g.hid I.fB;exact#v[a,b,k,t,rfl,rfl,g a _ n x,f8 _ _ y,by rw[c.length,f.length];exact hl,q j _<|(S.step g o).write s v (I.step g o) p l<|c6.append f h]
  .cases e
 .cases e
def Eh (i:Nat){x:Str}{px ap cp:Pos}(hK:X.K=K)(hv:Eb K X e te m)(hN:X.N[i]? = some x:=by rfl)(hvis:Vis X.env.scope x:=by first | exact Or.inl rfl | exact Or.inr (Or.inl rfl) | exact Or.inr<|Or.inr rfl)(hd:nDb x:=by decide)(hcd:nCd x:=by decide)
  (hbase:Tq (.Name x px) "extend" X.env (eval (.Name x px) X.env)=eval (.Name x px) X.env:=by rfl)
  (hfew:((Ti cp<|Td [e] X.env).all (λx=>!x.1)&&(Tz cp<|TB [] X.env).all (λx=>x.1.isSome)
   && decide ([e].length+([]:List Tj).length+(if ([]:List Tj).isEmpty then 0 else 1)<30))=true:=by rfl)
  (hline:(ap.endLine == cp.line)=true:=by rfl) (hst:Td [e] X.env=(false,eval e X.env)::Td [] X.env:=by rfl) (hplain:(Ti cp<|Td [] X.env).any (·.1)=false:=by rfl)
  (hs:Tp (.Call (.Attribute (.Name x px) "extend" ap) [e] [] cp) none pos.line X.env=pure false:=by rfl) :
  Ss K X (.Expr (.Call (.Attribute (.Name x px) "extend" ap) [e] [] cp) pos) (nv<|tBM K "list" kP (Q2 i)<|x6 te T4) (vN i m):=by subst hK;exact#v[rN (Bx PySem.F.plainAttrs_list PySem.F.slot_list_extend PySem.F.type_list_extend ug (D5 hN hvis hd hcd) (n6 hv.pe B1 hst) hbase hfew hline hst hplain) hs,Ga hv.ok]
end
end
section
section
variable {w:SU}{A:SW}{E:SN->SR->Prop}{s:SR}
def lj {l:SQ}{xs:Array (Int×Tok)}{Q:SN->SR->Prop}(hh:A.handled=none)(hl:s.heap.IsTuple l (intItems xs))
  (h:∀h' tk t',(∀b o,s.heap.get? b=some o->h'.get? b=some o)->Q (.int (preSum (numAt xs) xs.size) t') { s with heap:=h',toks:=tk }) :
  Tn (model prog w) A (call (.builtin "sum") [.ref l]) Q E s:=by
 have a:l<s.heap.objs.size:=by obtain⟨_,e,_⟩:=hl;exact MA e
 refine call_sum_walkG<|OM hl ?_;refine#v[s.heap.objs.size,[s.heap.objs.size,l],[s.heap.objs.size],_,_,_,numAt xs,rfl,Walks.tuple (A:=A.in1) hh _ l (MR a)<|intItems xs,#v[#v[_,MM _ rfl,rfl,rfl],hl.push _],λb c=>?_,(λ_ _=>Rl),λh' tk t' f=>?_]
 .show b<(s.heap.push _).objs.size;rw[NB];rcases MJ.1 c with rfl | c
  .exact On _
  .rw[Nc.1 c];exact Px a
 .have:=h h' tk t' λb o e=>f b o (λd=>by rw[Nc.1 d]at e;exact absurd (MA e)<|OV _)<|Mu _ e
  simpa [intItems] using this
end
section
variable {X:Cx}{K:Qf}{p:Pos}
def tG (hc:X.calm=true):A1 X (.builtin "sum") (λxs H Q=>∃(a:SQ) (ns:List Int),xs=[.ref a]/\SqT X.K H a (ns.map V.int)/\Q (.int ns.sum) H):=by
 intro π s n H xs us Q I r h;obtain⟨a,ns,rfl,k,q⟩:=h;obtain⟨u,rfl,i⟩:=N5 r;cases i;obtain⟨j,g,p,t⟩:=I.tuple k;have d:=Z1 g;obtain⟨c,b⟩:=d.allInts.items;have hl:s.heap.IsTuple a (intItems c):=b▸p;refine lj (I.ok.hd hc) hl λv o f m=>#v[.int ns.sum,H,I.kept m,#v[f,?_],q]
 have l:=d.numsOf;have e:numsOf (intItems c).toList=ns:=by rw[<-b];exact l
 rw[nums_intItems]at e;rw[preSum_eq,OD (by simp),e]
def gw:List My->Option My
 | [.list ds]=>(ag ds).map λa=>.int a.sum
 | [.tuple ds]=>(ag ds).map λa=>.int a.sum
 | _=>none
def rO (hK:X.K=K)(hc:X.calm=true):A1 X (.builtin "sum") (rDN K gw):=by
 subst hK;intro π s g H i us Q I r h;obtain⟨k,B,l,z,bk,j,b,q⟩:=h;unfold gw at b;split at b <;> try cases b
 .obtain⟨c,e,rfl⟩:=MP.1 b;cases P1 e;obtain⟨v,rfl,a,i,rfl,f,d⟩:=cE j rfl;cases gA d;exact yt hc π s g H _ us Q I r #v[a,c,rfl,SqL.of<|f8 _ _ f,q _ H (j5.refl H) c8.int]
 .obtain⟨c,e,rfl⟩:=MP.1 b;cases P1 e;obtain⟨v,rfl,a,i,rfl,f,d⟩:=cE j rfl;cases gA d;exact tG hc π s g H _ us Q I r #v[a,c,rfl,f.same f8,q _ H (j5.refl H) c8.int]
variable [Feeds]
end
end
section
section
variable {X:Cx}{K:Qf}
def Z2:List Int->Int
 | []=>0
 | [x]=>x
 | x::y::r=>max x<|Z2 (y::r)
theorem gh:∀{ns:List Int} {n:Int},n∈ns->n<=Z2 ns
 | [],n,h=>by cases h
 | [x],n,h=>by simp at h;subst h;exact Qy _
 | x::y::r,n,h=>by
  rw[Z2];rcases MJ.1 h with rfl | h
  .omega
  .have:=gh (ns:=y::r) h;omega
theorem dA:∀{ns:List Int},ns≠[]->Z2 ns∈ns
 | [],h=>absurd rfl h
 | [x],_=>by simp[Z2]
 | x::y::r,_=>by
  have:=dA (ns:=y::r) (by simp);rw[Z2];rcases Int.le_total x (Z2 (y::r)) with z | z
  .rw[Int.max_eq_right z];exact Mw _ this
  .rw[Int.max_eq_left z];exact MD
def FJ (K:Qf):List V->Hp->VK->Prop:=λc H Q=>∃(a:SQ) (b:List Int),c=[.ref a]/\SqL K H a (b.map V.int)/\b≠[]/\Q (.int<|Z2 b) H
def ui (hK:X.K=K)(hc:X.calm=true):A1 X (.builtin "max") (FJ K):=by
 subst hK;intro π s O H P us Q I r h;obtain⟨a,c,rfl,E,m,q⟩:=h;obtain⟨u,rfl,y⟩:=N5 r;cases y;obtain⟨b,x,p,T⟩:=I.list E;have n:b.length=c.length:=by rw[<-x.length,Mv]
 have B:0<c.length:=RR.2 m;have w:=Z1 x;obtain⟨d,g⟩:=w.allInts.items;have hl:s.heap.IsList a (intItems d):=g▸p.isList;have D:d.size=c.length:=by
  have:(intItems d).size=b.length:=by rw[<-g];simp
  rw[<-n,<-this];simp[intItems]
 have l:∀(i:Nat) (v:SN),b.toArray[i]? = some v->∃t,v = .int (c.getD i 0) t:=λi v k=>by
  have k:b[i]? = some v:=by simpa using k
  obtain⟨w,_⟩:=MK.1 k;have G:(c.map V.int)[i]? = some (V.int<|c.getD i 0):=by rw[MQ,MN<|by omega];simp[List.getD,MN<|show i<c.length by omega]
  obtain⟨u,A,y⟩:=x.get G;rw[k]at A;cases A;exact y
 have f:∀i,i<c.length->numAt d i=c.getD i 0:=λi w=>by
  have o:i<b.length:=by omega
  obtain⟨t,e⟩:=l i b[i] (by simp[o]);have N:(intItems d)[i]? = some b[i]:=by rw[<-g];simp[o]
  have:=Rl N;obtain⟨S,C⟩:=this;rw[e]at C;injection C with M _
  exact M.symm
 refine max_intList (I.ok.hd hc) hl (by omega) λv W R k F=>?_
 obtain⟨U,J⟩:=argBest_gt (numAt d)<|d.size-1;obtain⟨t,e⟩:=Rl k;subst e;generalize argBest (λi j=>decide (numAt d i > numAt d j)) (d.size-1)=j at *;have z:j<c.length:=by omega
 have L:numAt d j=Z2 c:=by rw[f j z];refine Int.le_antisymm (gh<|getD_mem z) ?_;obtain⟨i,w,e⟩:=mem_getD<|dA m;have:=J i (by omega);rw[f i w,f j z]at this;rw[<-e];exact this
 rw[L];exact#v[.int<|Z2 c,H,I.kept F,#v[t,rfl],q]
def pf:List My->Option My
 | [.list ds]=>(ag ds).bind λa=>if a=[] then none else some (.int<|Z2 a)
 | _=>none
def wY (hK:X.K=K)(hc:X.calm=true):A1 X (.builtin "max") (rDN K pf):=by
 intro π s d H f us Q I r h;obtain⟨l,B,m,z,bk,k,b,q⟩:=h;unfold pf at b;split at b <;> try cases b
 obtain⟨g,e,b⟩:=bS9 b;split at b
 .cases b
 .rename_i c;cases b;cases P1 e;obtain⟨v,rfl,a,f,rfl,j,i⟩:=cE k rfl;cases gA i;exact ui hK hc π s d H _ us Q I r #v[a,g,rfl,SqL.of<|f8 _ _ j,c,q _ H (j5.refl H) c8.int]
variable {mg:Str->Option SN}
def intsV:List SN->Option (List Int)
 | []=>some []
 | .int x _::r=>(intsV r).map (x :: ·)
 | _=>none
theorem gm:∀{us:List SN} {ss:List Int},intsV us=some ss->m9 (ss.map V.int) us/\∀H,c6 K H (ss.map .int) (ss.map V.int)
 | [],ss,h=>by cases h;exact#v[.nil,λH=>c6.nil]
 | u::r,ss,h=>by
  cases u with
  | int x t =>obtain⟨a,d,rfl⟩:=MP.1 (show(intsV r).map (x :: ·)=some ss from h);obtain⟨c,b⟩:=gm d;exact#v[.cons #v[t,rfl] c,λH=>#v[_,_,rfl,c8.int,b H]]
  | _=>cases h
def gd_mkI {h:Tb}{x:Str}{t:SQ}{its:Array SN}{n:Nat}{dd:Option SQ}{sl:Array (Option SN)}{ss:List Int}(X:K.In h)(G:h.Ns To mg)(hn:PySem.W.nsIn K To x=some (some<|.ref t))(hl:K.lookup t=some #v[.type "tuple",dd,.seq its n,sl])(hs:intsV its.toList=some ss)(hz:ss.length<=1000):GD K mg x (.tuple<|ss.map .int):=by
 obtain⟨a,b⟩:=gm (K:=K) hs;refine#v[t,Oa X G hn,λH=>#v[t,ss.map V.int,rfl,.inr #v[_,its,n,hl,rfl,rfl,?_,a],b H]];have:=a.length;rw[Mv]at this;have e:its.size=ss.length:=by rw[this];simp
 rw[e];exact MG hz (by rw[Nr];decide)
end
section
variable [Feeds]{X:Cx}{K:Qf}
def sX (i:Nat)(m:DE->M Out):DE->M Out:=λE F=>(eW E i).bind λa=>m (E.set i<|some<|.dat<|.list a) F
def FT {i:Nat}{ts:TS}{m:DE->M Out}(h:TSd K ts m):TSd K ts (sX i m):=λG B0 H0 E F Y H D r F' S e q=>by
 obtain⟨C,e4,e⟩:=bS9 e;obtain⟨B,s,Z,I⟩:=S.ex;have L:=bP e4;have R:i<E.length:=(MK.1 L).1;obtain⟨w,P,a,xs,rfl,hB,hf,W,T⟩:=I.loc i _ L;have ha:=S.own i C a L P;have sub:∀b∈B.filter (λb=>decide (b≠a)),b∈B:=λb f=>(OP.1 f).1
 have p:∀b∈B,b≠a->b∈B.filter (λb=>decide (b≠a)):=λb f Q=>OP.2 #v[f,MW Q]
 have ng:a ∉ B.filter (λb=>decide (b≠a)):=λf=>absurd rfl<|MS (OP.1 f).2
 have J:j5 (hid H B) (hid H<|B.filter<|λb=>decide (b≠a)):=N0 sub;have get:∀j,j≠i->(E.set i<|some<|.dat<|.list C)[j]? = E[j]?:=λj n=>by rw[MF<|Ow n]
 have l:(E.set i<|some<|.dat<|.list C)[i]? = some (some<|.dat<|.list C):=by rw[ML R]
 refine h G B0 H0 (E.set i<|some<|.dat<|.list C) F Y H D r F' #v[#v[_,λb f=>p b (s b f) λz=>ha.2<|z▸f,λb f=>Z b<|sub b f,#v[I.fd,λb f=>p b (I.fB b f) λz=>hf<|z▸f,λb f=>I.bk b<|sub b f,by rw[NO];exact I.ln,λj x g=>?_]],S.fB,S.kp,λj es b g=>?_,λj k es fs b g N=>?_,S.dic.set1 nofun] e q
 .by_cases n:j=i
  .subst n;rw[l]at g;cases g;refine#v[_,P,c8.lst (by rw[l7 ng];exact W)<|T.same J]
  .rw[get j n]at g;obtain⟨v,V,A⟩:=I.loc j x g;refine#v[v,V,?_];cases x with
   | dat d=>exact c8.same (A:c8 _ _ _ _) J
   | feed=>exact A
   | fn _=>exact A
   | adr _=>exact A
   | own es =>obtain⟨b,O,U,y,u,o,t⟩:=A;subst U;exact#v[b,O,rfl,p b y λz=>n<|S.inj j i es C a g L (z▸V) P,u,o,t.same J]
   | dic w c ps =>obtain⟨b,O,U,y,u,o,Q,t⟩:=A;subst U;exact#v[b,O,rfl,p b y λz=>(by rw[z,W]at o;cases o),u,o,Q,t.same J]
 .by_cases n:j=i
  .subst n;rw[l]at g;cases g
  .rw[get j n]at g;exact S.own j es b g
 .by_cases n:j=i
  .subst n;rw[l]at g;cases g
  .by_cases X:k=i
   .subst X;rw[l]at N;cases N
   .rw[get j n]at g;rw[get k X]at N;exact S.inj j k es fs b g N
def wx (i:Nat){st:SZ}{ts:TS}{m:DE->M Out}(h:Ss K X st ts m):Ss K X st ts (sX i m):=#v[h.ps,FT h.ok]
end
end
section
def len_1 {us:List SN}(h:us.length=1):∃a,us=[a]:=List.length_eq_one_iff.1 h
def Cd {us:List SN}{n:Nat}(h:us.length=n+1):∃a r,us=a::r/\r.length=n:=by
 cases us with
 | nil=>cases h
 | cons a r=>exact#v[a,r,rfl,Nat.succ.inj h]
def Bk {us:List SN}(h:us.length=2):∃a b,us=[a,b]:=by obtain⟨a,r,rfl,c⟩:=Cd h;obtain⟨b,rfl⟩:=len_1 c;exact#v[a,b,rfl]
def GG {us:List SN}(h:us.length=3):∃a b c,us=[a,b,c]:=by obtain⟨a,r,rfl,d⟩:=Cd h;obtain⟨b,c,rfl⟩:=Bk d;exact#v[a,b,c,rfl]
mutual
def noL:My->Bool
 | .tuple ds=>zQ ds
 | .list _=>false
 | .dict _=>false
 | _=>true
def zQ:List My->Bool
 | []=>true
 | d::ds=>noL d&&zQ ds
end
def wo (B A:List SQ):List SQ:=B.filter λb=>decide (b ∉ A)
def Z9 {B A:List SQ}{b:SQ}:b∈wo B A↔b∈B/\b ∉ A:=by unfold wo;rw[OP];simp
section
variable {K:Qf}{H:Hp}{B A:List SQ}
def rR (hA:∀a∈A,∃xs,H a=some (.lst xs)){a:SQ}{u:HO}(h:hid H (wo B A) a=some u)(hu:∀xs,u ≠ .lst xs):hid H B a=some u:=by
 by_cases b:a∈wo B A
 .rw[G2 b]at h;cases h
 .rw[l7 b]at h;rw[l7 λc=>?_]
  .exact h
  .have:a∈A:=by
    rcases Classical.em (a∈A) with z | z
    .exact z
    .exact absurd (Z9.2 #v[c,z]) b
   obtain⟨xs,e⟩:=hA a this;rw[e]at h;cases h;exact hu xs rfl
mutual
theorem c8.back (hA:∀a∈A,∃xs,H a=some (.lst xs)):∀(d:My) (v:V),noL d=true->c8 K (hid H<|wo B A) d v->c8 K (hid H B) d v
 | .none,v,_,h=>by simpa only[c8] using h
 | .bool b,v,_,h=>by simpa only[c8] using h
 | .int i,v,_,h=>by simpa only[c8] using h
 | .str x,v,_,h=>by simpa only[c8] using h
 | .tuple ds,v,hn,h=>by
  simp only[c8]at h ⊢;obtain⟨a,xs,e,c,f⟩:=h;refine#v[a,xs,e,?_,c6.back hA ds xs (by simpa only[noL] using hn) f];rcases c with (c | ⟨o,c⟩) | c
  .exact .inl (.inl<|rR hA c λ_ z=>nomatch z)
  .exact .inl (.inr #v[o,rR hA c λ_ z=>nomatch z])
  .exact .inr c
 | .list ds,v,hn,h=>by simp[noL]at hn
 | .dict dz,v,hn,h=>by simp[noL]at hn
theorem c6.back (hA:∀a∈A,∃xs,H a=some (.lst xs)):∀(ds:List My) (xs:List V),zQ ds=true->c6 K (hid H<|wo B A) ds xs->c6 K (hid H B) ds xs
 | [],xs,_,h=>by simpa only[c6] using h
 | d::ds,xs,hn,h=>by simp only[zQ,Ny]at hn;simp only[c6]at h ⊢;obtain⟨v,r,e,c,b⟩:=h;exact#v[v,r,e,c8.back hA d v hn.1 c,c6.back hA ds r hn.2 b]
end
end
section
variable [Feeds]
def TVo (K:Qf)(ta:TA)(m:DE->M (List DV)):Prop:=∀(G:GF) (B:List SQ) (E:DE) (F:FS) (c:St) (H:Hp) (Q:List V->Hp->Prop) (e:List DV) (f:FS),SitE K G B E F c H->m E F=some (e,f) ->
 (∀d b A,Kp (m8 K G) H b->FAt K G b f->(∀a∈A,a ∉ m8 K G/\∃g,b a=some (.lst g))->bW K G (wo B A) b e d->Q d b)->ta c H Q
structure Evo (K:Qf) (X:Cx) (es:List Ta) (ta:TA) (m:DE->M (List DV)):Prop where
 pa:PA X es ta
 ok:TVo K ta m
variable {K:Qf}{X:Cx}{e:Ta}{m:DE->M My}{tl:TA}{ms:DE->M (List DV)}{p:Pos}
noncomputable def vO (i:Nat)(r:DE->M (List DV)):DE->M (List DV):=λE F=>match E[i]? with
 | some (some<|.own ds)=>(r E F).bind λq=>some (.dat (.list ds)::q.1,q.2)
 | _=>none
theorem bW.less {G:GF}{B B':List SQ}{H:Hp}(less:∀b∈B',b∈B):∀{zs:List DV} {us:List V},bW K G B H zs us->bW K G B' H zs us
 | [],us,h=>h
 | z::zs,us,#v[v,r,e,n1,n2,n3]=>#v[v,r,e,n1,by
   cases z with
   | dat d=>exact c8.same (n2:c8 _ _ _ _) (N0 less)
   | feed=>exact n2
   | fn _=>exact n2
   | adr _=>exact n2
   | own a=>exact(nomatch n1)
   | dic _ _ _=>exact(nomatch n1),bW.less less n3]
def An :Evo K X [] T4 m7:=#v[B1,λG B E F a H Q b c I e q=>by cases e;exact q [] H [] Kp.refl I.fd (by simp) rfl]
def BN (ha:Ev K X e te m)(hr:Evo K X es tl ms)(hs:Td (e::es) X.env=(false,eval e X.env)::Td es X.env:=by rfl):Evo K X (e::es) (x6 te tl) (vD m ms) :=
 #v[n6 ha.pe hr.pa hs,λG B E F a H Q u y I e q=>by
  obtain⟨⟨x,f⟩,r,e⟩:=bS9 e;obtain⟨⟨g,w⟩,p,e⟩:=bS9 e;cases e;refine ha.ok G B E F a H _ x f I r λv t d o l=>?_
  refine hr.ok G B E f a t _ g _ (I.step d o) p λh s A c n j k=>q _ s A (d.trans c) n j #v[v,h,rfl,rfl,?_,k]
  exact c8.same (l.same<|c.hid I.fB)<|N0 λb i=>(Z9.1 i).1]
def GN (i:Nat){x:Str}(hr:Evo K X es tl ms)(hN:X.N[i]? = some x:=by rfl)(hv:Vis X.env.scope x:=by first | exact Or.inl rfl | exact Or.inr (Or.inl rfl) | exact Or.inr<|Or.inr rfl)(hd:nDb x:=by decide)
  (hcd:nCd x:=by decide) (hs:Td (.Name x p::es) X.env=(false,eval (.Name x p) X.env)::Td es X.env:=by rfl):Evo K X (.Name x p::es) (x6 (Q2 i) tl) (vO i ms) :=
 #v[n6 (D5 hN hv hd hcd) hr.pa hs,λG B E F k H Q C L I e q=>by
  unfold vO at e;split at e
  .rename_i m s;obtain⟨⟨l,J⟩,y,e⟩:=bS9 e;cases e;obtain⟨v,r,a,n,rfl,D,g,h,f⟩:=I.loc i _ s;refine#v[.ref a,r,hr.ok G B E F k H _ l _ I y λo j A d w t u=>q _ j (a::A) d w (λb c=>?_) #v[.ref a,o,rfl,rfl,?_,?_]]
   .rcases MJ.1 c with rfl | c
    .exact#v[g,n,d _ _ h g]
    .exact t b c
   .show c8 K (hid j<|wo B (a::A)) (.list m)<|.ref a;refine c8.lst ?_ ((f.same<|d.hid I.fB).same<|N0 λb c=>(Z9.1 c).1);rw[l7 λz=>(Z9.1 z).2 MD];exact d _ _ h g
   .exact bW.less (λb c=>Z9.2 #v[(Z9.1 c).1,λz=>(Z9.1 c).2<|Mw _ z]) u
  .cases e]
def iV (f:List DV->M My)(ms:DE->M (List DV)):DE->M My:=λE F=>(ms E F).bind λp=>(f p.1 p.2).bind λq=>if noL q.1=true then some q else none
def zW {n:Nat}{f:List DV->M My}{ta:TA}(h:TVo K ta ms)(hn:∀E F args F',ms E F=some (args,F')->args.length=n):TEd K (aE (spD K n f) [] E0 ta) (iV f ms):=λG B E F t H Q d F' I e q=>by
 obtain⟨⟨args,s⟩,p,e⟩:=bS9 e;obtain⟨⟨i,r⟩,D,e⟩:=bS9 e;split at e
 .rename_i g;obtain⟨rfl,rfl⟩:i=d/\r=F':=by cases e;exact#v[rfl,rfl]
  refine h G B E F t H _ args s I p λN O A k o l m=>?_
  rw[NW];have bk:=B4 I.bk k o;refine#v[G,wo B A,s,args,i,r,by rw[m.length];exact hn _ _ _ _ p,λb c=>Z9.2 #v[I.fB b c,λz=>(l b z).1 c],λb c=>bk b (Z9.1 c).1,o,m,D,λv L j C y=>q v L (k.trans j) C<|c8.back (A:=A) (λa x=>?_) i v g y];obtain⟨J,u,w⟩:=l a x;exact#v[u,j _ _ w J]
 .cases e
def GZ {n i:Nat}{ms:DE->M (List DV)}(h:∀E F args F',ms E F=some (args,F')->args.length=n):∀E F args F',vO i ms E F=some (args,F')->args.length=n+1:=λE F args F' e=>by
 unfold vO at e;split at e
 .obtain⟨⟨b,c⟩,a,e⟩:=bS9 e;cases e;rw[ME,h _ _ _ _ a]
 .cases e
def yB {x:Str}{k n:Nat}{ps:List Str}{f:List DV->M My}(C:i5 X.prog X.w X.K X.mg X.base x k ps (spD K n f))(hr:Room k X.A)(ha:Evo K X (e::es) tl ms)(hn:∀E F args F',ms E F=some (args,F')->args.length=n)(hg:Gl X x:=by rfl)
  (hdb:nDb x:=by decide) (he:Td (e::es) X.env=(false,eval e X.env)::Td es X.env:=by rfl) (hpl:(Ti pos<|Td es X.env).any (·.1)=false:=by rfl) :
  Ev K X (.Call (.Name x p) (e::es) [] pos) (aE (spD K n f) [] E0 tl) (iV f ms):=#v[eD C hr hg ha.pa hdb he hpl,zW ha.ok hn]
end
end
section
inductive Al (K:Qf) (H:Hp):List (Int×My)->List (Int×V)->Prop
 | nil:Al K H [] []
 | cons {k:Int} {d:My} {v:V} {l m}:c8 K H d v->Al K H l m->Al K H ((k,d)::l) ((k,v)::m)
theorem Al.ins {K:Qf}{H:Hp}{k:Int}{d:My}{v:V}(h:c8 K H d v):∀{l m},Al K H l m->Al K H (cb (k,d) l) (cb (k,v) m)
 | _,_,.nil=>.cons h .nil
 | _,_,.cons (k:=k') h' r=>by
  simp only[cb];split
  .exact .cons h<|.cons h' r
  .exact .cons h'<|Al.ins h r
theorem Al.sort {K:Qf}{H:Hp}:∀{l m},Al K H l m->Al K H (N3 l) (N3 m)
 | _,_,.nil=>.nil
 | _,_,.cons h r=>Al.ins h r.sort
theorem Al.dats {K:Qf}{H:Hp}:∀{l m},Al K H l m->c6 K H (l.map Prod.snd) (m.map Prod.snd)
 | _,_,.nil=>c6.nil
 | _,_,.cons h r=>c6.cons h r.dats
theorem vp {K:Qf}{H:Hp}:∀{ns:List Int} {ds:List My} {xs:List V},c6 K H ds xs->Al K H (ns.zip ds) (ns.zip xs)
 | [],_,_,_=>.nil
 | n::ns,[],xs,h=>by
  have e:xs=[]:=PQ.1 (by rw[h.length];rfl);subst e;exact .nil
 | n::ns,d::ds,xs,h=>by
  cases xs with
  | nil=>have:=h.length;simp at this
  | cons x xs =>simp only[c6]at h;obtain⟨y,c,e,b,a⟩:=h;cases e;exact .cons b<|vp a
end
end L3
namespace L3
open PySem PySem.Spec PyProof.Rows L2
section
abbrev Fs :=List<|Str×SQ×SQ
def EG (ts:Fs)(h:Tb):Prop:=∀t∈ts,PySem.W.CodeHd h t.2.1 t.2.2/\h.get? t.2.2=some (PySem.W.tabObj #[])
def sS {P:SS}{w:SU}{K:Qf}{mg mb:Str->Option SN}{CX:CXT}{k:Nat}{fa a:SQ}{fd:SY}{x:Str}{sp:Sp}{s₁:SR}{vs:List SN}{ns:List Int}{ts:Fs}
  (KX:K.In s₁.heap) (hns:s₁.heap.Ns To mg) (hb:s₁.heap.Ns builtinsNs mb) (hbb:∀x:Str,x ≠ "__name__"->mb x=Ts x) (hlim:s₁.heap.NoLimit) (hg:s₁.gens = #[])
  (ha:s₁.heap.get? a=some { cls:=.type "list",data:=.seq vs.toArray }) (hi:IntsAre vs ns) (hl:ns.length<=Tc) (hr:Room k callerA)
  (hT:EG ts s₁.heap) (hnt:PySem.W.noTabs K=true) (BM:BMd s₁.heap mg)
  (F:∀base:Tb,K.In base->base.Ns To mg->BMd base mg->(∀t∈ts,PySem.W.CodeHd base t.2.1 t.2.2)->FnOk P w K mg base CX k fa fd [x] sp) (hbind:∀(s:SR) (u:SN),BindsTo s fd #v[[u],[]] [(x,u)])
  (hsp:∀H:Hp,SqL K H a (ns.map V.int)->T3 ts H->sp [.ref a] H (λv _=>v = .bl true) λ_ _ _=>False)
  (hCX:∀H e s',CX [] H s₁ (λ_ _ _=>False) e s'->False) :
  codeAny (model P w) callerA (.call (.ref fa) #v[[.ref a],[]]) (λr s'=>r = .ok (.ret<|.bool true)/\OldK s₁.heap s'.heap/\s'.os=s₁.os/\AllBare s'.gens) s₁:=by
 have rv:=jJ hi;have J:=hi.length;have aP:∀t∈ts,t.2.2≠a:=λt ht e=>by have:=(hT t ht).2;rw[e,ha]at this;cases this
 have B:∀H:Hp,(∀b,H b=none\/(b=a/\H b=some (.frz { cls:=.type "list",data:=.seq vs.toArray }<|.lst<|ns.map V.int))\/(b∈ts.map (·.2.2)/\H b=some (.tbl #[])))->(∀t∈ts,H t.2.2=some (.tbl #[]))->SqL K H a (ns.map V.int)->(H a≠none->K.lookup a=none) ->
   codeAny (model P w) callerA (.call (.ref fa) #v[[.ref a],[]]) (λr s'=>r = .ok (.ret<|.bool true)/\OldK s₁.heap s'.heap/\s'.os=s₁.os/\AllBare s'.gens) s₁:=by
  intro H M Z hS hK;have i:∀{b:SQ},b∈ts.map (·.2.2)->s₁.heap.get? b=some (PySem.W.tabObj #[]):=λ{b} hb=>by obtain⟨t,ht,rfl⟩:=Nb.1 hb;exact(hT t ht).2
  have L:HOk P w H s₁.heap:=λb u e=>by
   rcases M b with z | ⟨rfl,z⟩ | ⟨hb,z⟩
   .rw[z]at e;cases e
   .rw[z]at e;cases e;exact#v[ha,by rw[Mv];exact hl,vs,_,rv,ha]
   .rw[z]at e;cases e;exact i hb
  have c:∀{b:SQ} {o:Te},s₁.heap.get? b=some o->H b=none->(iW s₁.heap H).get? b=some o:=λe n=>xI e n
  have g:∀{b:SQ} {o:Te},s₁.heap.get? b=some o->o≠{ cls:=.type "list",data:=.seq vs.toArray }->o≠PySem.W.tabObj #[]->H b=none:=λ{b o} e h1 O=>by
   rcases M b with z | ⟨rfl,z⟩ | ⟨hb,z⟩
   .exact z
   .rw[ha]at e;exact absurd (MH e).symm h1
   .rw[i hb]at e;exact absurd (MH e).symm O
  have l:∀{b:SQ} {m:Str->Option SN},s₁.heap.Ns b m->(iW s₁.heap H).Ns b m:=λ{b m} #v[o,es,ep,e,d,r]=>#v[o,es,ep,c e (g e (λz=>by rw[z]at d;cases d) λz=>by rw[z]at d;cases d),d,r]
  have N:K.In (iW s₁.heap H):=λb o e=>c (KX b o e) (by
   rcases M b with z | ⟨rfl,z⟩ | ⟨hb,z⟩
   .exact z
   .rw[hK (by rw[z];simp)]at e;cases e
   .have A:=KX b o e;rw[i hb]at A;cases A;have O:=Pc.1 hnt _<|PySem.W.mem_of_lookupK e;exact absurd (show false=true from O) MV)
  have hM:Mod K mg (iW s₁.heap H):=#v[N,l hns,#v[mb,l hb,hbb],let #v[mc,h1,O]:=hlim;#v[mc,l h1,O]];have ac:BMd (iW s₁.heap H) mg:=by obtain⟨bm,ob,b1,b2,b3,p,b5,b6⟩:=BM;exact#v[bm,ob,b1,b2,c b3 (g b3 (λz=>by rw[z]at p;have p:SN.type "list" = SN.type "module":=p;exact absurd p<|by decide) λz=>by rw[z]at p;have p:SN.none=SN.type "module":=p;exact absurd p<|by decide),p,b5,b6]
  have ab:∀t∈ts,PySem.W.CodeHd (iW s₁.heap H) t.2.1 t.2.2:=λt ht=>by obtain⟨o,U,Q,tf,D,tg,W,E,tt,R,j,r2⟩:=(hT t ht).1;exact#v[o,U,Q,tf,D,tg,W,E,tt,c R (g R (λz=>by rw[z]at j;have j:SN.type "list" = SN.type "code":=j;exact absurd j<|by decide) λz=>by rw[z]at j;have j:SN.none=SN.type "code":=j;exact absurd j<|by decide),j,r2]
  have e0:Env0 P w K mg (iW s₁.heap H) callerA [] s₁ H:=#v[rfl,hM,λb o e=>Af e,Nat.le_of_eq<|sO _ _,trivial,λb hb=>absurd (show b∈([]:List SQ) from hb) (by simp),L,.of_eq hg];have Y:T3 ts H:=λt ht=>#v[#[],Z t ht,trivial,λad cv e=>by cases e]
  refine RD ((F _ N (l hns) ac ab).run callerA [] s₁ H #v[[.ref a],[]] [.ref a] [.ref a] _ _ hr e0 (hbind s₁<|.ref a) (.cons rfl .nil)<|hsp H hS Y) λr s' h=>?_
  cases r with
  | error e=>exact(hCX H e s' h).elim
  | ok fl =>
   cases fl with
   | next=>exact False.elim h
   | brk=>exact False.elim h
   | cont=>exact False.elim h
   | ret u =>
    obtain⟨v,H',os,S,un,y,r',q⟩:=h;have q':v = .bl true:=q;subst q';obtain rfl:u=SN.bool true:=r';have kept:∀b o,s₁.heap.get? b=some o->H b=none->s'.heap.get? b=some o:=λb o e q=>un.keep b o e q (by intro z;exact absurd (show b∈([]:List SQ) from z)<|by simp) (by simp)
    have I:∀b o,s₁.heap.get? b=some o->b=a->H b=some (.frz { cls:=.type "list",data:=.seq vs.toArray }<|.lst<|ns.map V.int)->s'.heap.get? b=some o:=λb o e hb z=>by have T:=un.frzs b _ _ z;obtain⟨R,_⟩:=L b _ z;obtain⟨A,_⟩:=y b _ T;rw[e]at R;cases R;exact A
    have G:∀b,H b=some (.tbl #[])->∃more,s'.heap.get? b=some (PySem.W.tabObj more):=λb z=>by obtain⟨more,T⟩:=un.tbls b _ z;exact#v[_,y b _ T]
    refine#v[rfl,#v[λb o e=>?_,λb o e=>?_],os,S]
    .rcases M b with z | ⟨hb,z⟩ | ⟨hb,z⟩
     .exact .inl<|kept b o e z
     .exact .inl<|I b o e hb z
     .obtain⟨more,A⟩:=G b z;have e3:=i hb;rw[e]at e3;cases e3;obtain⟨t,ht,rfl⟩:=Nb.1 hb;refine .inr (.inl #v[((hT t ht).1.tab (hT t ht).2).isCodeTable,rfl,#[],more,rfl,by rw[Array.empty_append];exact A])
    .rcases M b with z | ⟨hb,z⟩ | ⟨hb,z⟩
     .exact#v[o,kept b o e z]
     .exact#v[o,I b o e hb z]
     .obtain⟨more,A⟩:=G b z;exact#v[_,A]
 cases hk:K.lookup a with
 | some o =>
  have e:=KX a o hk;rw[ha]at e;cases e;have X:a ∉ ts.map (·.2.2):=λz=>by obtain⟨t,ht,e⟩:=Nb.1 z;exact aP t ht e
  refine B (λb=>if b∈ts.map (·.2.2) then some (.tbl #[]) else none) (λb=>?_) (λt ht=>Mx<|QA ht) (.inr #v[_,vs.toArray,_,hk,rfl,rfl,rfl,by rw[MO,J];exact hl,by simpa using rv]) λz=>absurd (MC X) z
  by_cases hb:b∈ts.map (·.2.2)
  .exact .inr<|.inr #v[hb,Mx hb]
  .exact .inl<|MC hb
 | none =>
  refine B (λb=>if b=a then some (.frz { cls:=.type "list",data:=.seq vs.toArray }<|.lst<|ns.map V.int) else if b∈ts.map (·.2.2) then some (.tbl #[]) else none) (λb=>?_) (λt ht=>?_) (.inl<|.inr #v[{ cls:=.type "list",data:=.seq vs.toArray },Mx rfl]) λ_=>hk
  .by_cases hb:b=a
   .exact .inr<|.inl #v[hb,Mx hb]
   .by_cases C:b∈ts.map (·.2.2)
    .exact .inr (.inr #v[C,by rw[MC hb,Mx C]])
    .exact .inl (by rw[MC hb,MC C])
  .rw[MC<|aP t ht];exact Mx (QA (f:=λt:Str×SQ×SQ=>t.2.2) ht)
def walk_ofT {l:PySem.W.OpenLaw}{n k:Nat}{q:SS}{loose:List Str}{XP:(Str->Option SN)->Tb->Prop}{YP:SU->Tb->Prop}{d:DefRec}{K:Params->Qf}{CX:SU->CXT}{sp:SU->Sp}{x:Str}(lam:List Str)
  (hn:l.most=some n) (hn2:n<=Tc) (hdf:d.params.defaults=[]) (hr:Room k callerA)
  (hrec:(lam.all λx=>((recsOf q).find? λe=>e.name == x).isSome)=true) (hnt:∀w:SU,PySem.W.noTabs (K w.params)=true)
  (hY:∀(w:SU) (h:Tb),YP w h->(K w.params).In h)
  (F:∀(w:SU) (mg:Str->Option SN) (fa:SQ) (h:Tb),(K w.params).In h->h.Ns To mg->mg d.name=some (.ref fa) ->
   ∃fd:SY,(∀(s:SR) (u:SN),BindsTo s fd #v[[u],[]] [(x,u)]) /\
    ∀base:Tb,(K w.params).In base->base.Ns To mg->BMd base mg->(∀t∈tabsK lam (K w.params),PySem.W.CodeHd base t.2.1 t.2.2)->FnOk l.prog w (K w.params) mg base (CX w) k fa fd [x] (sp w))
  (hsp:∀(w:SU) (H:Hp) (a:SQ) (ns:List Int),ns.length<=n->SqL (K w.params) H a (ns.map V.int)->T3 (tabsK lam<|K w.params) H->sp w [.ref a] H (λv _=>v = .bl true) λ_ _ _=>False)
  (hCX:∀(w:SU) (H:Hp) (s:SR) (e:SN) (s':SR),CX w [] H s (λ_ _ _=>False) e s'->False) :
  PySem.W.WalkO q loose XP YP l.row.toRowW d [] (λf vs=>PySem.call f vs):=by
 refine Att.attach_call hn hdf λw y i mg N fa o M S L a vs ns G Y O Q A m j g b hg=>?_
 have r:=hY w _ Y;obtain⟨fd,B,E⟩:=F w mg fa _ r G.T.g m;refine sS (ts:=tabsK lam<|K w.params) r G.T.g G.T.b G.T.builtins G.T.nolimit hg j g (MG b hn2) hr (λt ht=>?_) (hnt w) G.T.bmain E B (λH D C=>hsp w H a ns b D C) λH e s'=>hCX w H i e s'
 obtain⟨x,z,e⟩:=RW.1 ht;obtain⟨⟨c,P⟩,J,I⟩:=MP.1 e;cases I;obtain⟨R,p⟩:=NX.1<|Pc.1 hrec x z;exact PySem.W.tab_of G.T r p J
end
variable {pos:Pos}
section
section
variable [Feeds]{K:Qf}{X:Cx}{e a b c:Ta}
def wF (K:Qf)(B:List SQ)(H H':Hp):DV->V->Prop
 | .dat d,v=>c8 K (hid H' B) d v
 | .own ds,v=>∃a e,v = .ref a/\H a=none/\H' a=some (.lst e)/\c6 K (hid H' (a::B)) ds e
 | .feed,_=>False
 | .fn _,_=>False
 | .adr _,_=>False
 | .dic w c ps,v=>w=true/\∃a b,v = .ref a/\H a=none/\H' a=some (.ext b)/\iX a b/\iQ K (hid H' (a::B)) c ps a b
def ji (B:List SQ):DV->V->List SQ
 | .own _,.ref a=>a::B
 | .dic _ _ _,.ref a=>a::B
 | _,_=>B
section
variable {G:GF}{B B0:List SQ}{E:DE}{F F1:FS}{σ:St}{H H1 H0:Hp}{dv:DV}{v:V}{i:Nat}
def DG (I:SitE K G B E F σ H)(k1:Kp (m8 K G) H H1)(r:wF K B H H1 dv v):j5 (hid H B) (hid H1<|ji B dv v):=by
 cases dv with
 | dat d=>exact k1.hid I.fB
 | feed=>exact r.elim
 | fn _=>exact r.elim
 | adr _=>exact r.elim
 | own m =>
  obtain⟨a,i,rfl,h,j,k⟩:=r;intro b o e;by_cases f:b∈B
  .rw[G2 f]at e;cases e
  .rw[l7 f]at e;have g:=u7 e h;show hid H1 (a::B) b=some o;rw[l7<|by simp[g,f]];exact k1 b o e λz=>f<|I.fB b z
 | dic w c l =>
  obtain⟨_,a,i,rfl,h,j,_,k⟩:=r;intro b o e;by_cases f:b∈B
  .rw[G2 f]at e;cases e
  .rw[l7 f]at e;have g:=u7 e h;show hid H1 (a::B) b=some o;rw[l7<|by simp[g,f]];exact k1 b o e λz=>f<|I.fB b z
def dB :∀b∈B,b∈ji B dv v:=λb a=>by cases dv <;> cases v <;> first | exact a | exact Mw _ a
def SitE.moreC (I:SitE K G B E F σ H)(k1:Kp (m8 K G) H H1)(f1:FAt K G H1 F1)(r:wF K B H H1 dv v):SitE K G (ji B dv v) E F1 σ H1:=by
 have n:=DG I k1 r;refine#v[f1,λb f=>dB b<|I.fB b f,λb f=>?_,I.ln,λj x C=>?_]
 .have h:b∈B->∃o,H1 b=some o:=λf=>(I.step k1 f1).bk b f
  cases dv with
  | dat d=>cases v <;> exact h f
  | feed=>exact r.elim
  | fn _=>exact r.elim
  | adr _=>exact r.elim
  | own J =>
   obtain⟨a,t,rfl,z,q,A⟩:=r;rcases MJ.1 f with rfl | f
   .exact#v[_,q]
   .exact h f
  | dic w c y =>
   obtain⟨_,a,t,rfl,z,q,A⟩:=r;rcases MJ.1 f with rfl | f
   .exact#v[_,q]
   .exact h f
 .obtain⟨w,u,m⟩:=I.loc j x C;refine#v[w,u,?_];cases x with
  | dat d=>exact c8.same (show c8 K (hid H B) d w from m) n
  | feed=>exact m
  | fn _=>exact m
  | adr _=>exact m
  | own D =>obtain⟨s,g,rfl,l,e,k,i⟩:=m;exact#v[s,g,rfl,dB _ l,e,k1 _ _ k e,i.same n]
  | dic w c y =>obtain⟨s,g,rfl,l,e,k,p,i⟩:=m;exact#v[s,g,rfl,dB _ l,e,k1 _ _ k e,p,i.same n]
def Sit.putC (S:Sit K G B0 H0 E F σ H)(s:∀b∈B0,b∈B)(sn:∀b∈B,b∈B0\/H0 b=none)(I:SitE K G B E F σ H)(k1:Kp (m8 K G) H H1)(f1:FAt K G H1 F1)(r:wF K B H H1 dv v)(hl:i<E.length) :
  Sit K G B0 H0 (E.set i<|some dv) F1 (σ.set i<|some v) H1/\(∀b∈B0,b∈ji B dv v)/\(∀b∈ji B dv v,b∈B0\/H0 b=none)/\SitE K G (ji B dv v) (E.set i<|some dv) F1 (σ.set i<|some v) H1:=by
 have D:i < σ.length:=by rw[<-I.ln];exact hl
 have s':∀b∈B0,b∈ji B dv v:=λb T=>dB b<|s b T
 have y:∀P,dv = .own P->∃a n,v = .ref a/\H1 a=some (.lst n)/\c6 K (hid H1 (a::B)) P n/\a ∉ B/\a ∉ m8 K G/\H0 a=none:=λP e=>by
  subst e;obtain⟨a,n,rfl,hn,J,C⟩:=r;have f:a ∉ B:=I.bk.nin hn;have g:a ∉ m8 K G:=λz=>f<|I.fB a z
  exact#v[a,n,rfl,J,C,f,g,S.kp.none hn g]
 have u:∀w c q,dv = .dic w c q->∃a φ,v = .ref a/\H1 a=some (.ext φ)/\iX a φ/\iQ K (hid H1 (a::B)) c q a φ/\a ∉ B/\a ∉ m8 K G/\H0 a=none:=λw c q e=>by
  subst e;obtain⟨_,a,n,rfl,hn,J,Y,C⟩:=r;have f:a ∉ B:=I.bk.nin hn;have g:a ∉ m8 K G:=λz=>f<|I.fB a z
  exact#v[a,n,rfl,J,Y,C,f,g,S.kp.none hn g]
 have Z:∀b∈ji B dv v,b∈B0\/H0 b=none:=λb T=>by
  cases dv with
  | dat d=>cases v <;> exact sn b T
  | feed=>exact r.elim
  | fn _=>exact r.elim
  | adr _=>exact r.elim
  | own P =>
   obtain⟨a,n,rfl,J,C,f,g,N⟩:=y P rfl;rcases MJ.1 T with rfl | T
   .exact .inr N
   .exact sn b T
  | dic w c q =>
   obtain⟨a,n,rfl,J,Y,C,f,g,N⟩:=u w c q rfl;rcases MJ.1 T with rfl | T
   .exact .inr N
   .exact sn b T
 have IC:=I.moreC k1 f1 r;have I':SitE K G (ji B dv v) (E.set i<|some dv) F1 (σ.set i<|some v) H1:=by
  refine#v[IC.fd,IC.fB,IC.bk,by rw[NO,NO];exact I.ln,λj x h=>?_];by_cases A:i=j
  .subst A;rw[ML hl]at h;cases h;refine#v[v,by rw[ML D],?_];cases dv with
   | dat d=>cases v <;> exact r
   | feed=>exact r.elim
   | fn _=>exact r.elim
   | adr _=>exact r.elim
   | own P =>obtain⟨a,n,rfl,J,C,f,g,N⟩:=y P rfl;exact#v[a,n,rfl,MD,g,J,C]
   | dic w c q =>obtain⟨a,n,rfl,J,Y,C,f,g,N⟩:=u w c q rfl;exact#v[a,n,rfl,MD,g,J,Y,C]
  .rw[MF A]at h;obtain⟨w,v1,v2⟩:=IC.loc j x h;exact#v[w,by rw[MF A];exact v1,v2]
 have L:∀(P:List My) (j:Nat) (O:List My) (a:SQ),dv = .own P->v = .ref a->E[j]? = some (some<|DV.own O)->σ[j]? ≠ some (some<|V.ref a):=λP j O a e Q h z=>by obtain⟨a1,n,ab,J,C,f,g,N⟩:=y P e;rw[Q]at ab;cases ab;obtain⟨w,v1,p,al,rfl,ad,_⟩:=I.loc j _ h;rw[v1]at z;cases z;exact f ad
 refine#v[#v[#v[ji B dv v,s',Z,I'],S.fB,S.kp.trans k1,λj O p h m=>?_,λj k O U p h o m l=>?_,λj c q p h m=>?_],s',Z,I'];rotate_left 2
 .have t:∀(k:Nat) (w:Bool) (c:Nat) (q:List (My×My)),E[k]? = some (some<|DV.dic w c q)->σ[k]? = some (some<|V.ref p)->p∈B:=λk w c q o l=>by obtain⟨v9,w1,a9,af,rfl,ac,_⟩:=I.loc k _ o;rw[w1]at l;cases l;exact ac
  by_cases A:i=j
  .subst A;rw[ML hl]at h;rw[ML D]at m;have X:dv = .dic true c q:=MH<|MH h;have W:v = .ref p:=MH<|MH m;obtain⟨a,n,Q,J,Y,C,f,g,N⟩:=u _ _ _ X;rw[W]at Q;cases Q;refine#v[#v[N,λz=>f<|s _ z],λk w' c' R o l=>?_];by_cases M:i=k
   .exact M
   .rw[MF M]at o l;exact absurd (t k w' c' R o l) f
  .rw[MF A]at h m;obtain⟨C,h2⟩:=S.dic j c q p h m;refine#v[C,λk w' c' R o l=>?_];by_cases M:i=k
   .subst M;rw[ML hl]at o;rw[ML D]at l;have X:dv = .dic w' c' R:=MH<|MH o;have W:v = .ref p:=MH<|MH l;obtain⟨a,n,Q,J,Y,h3,f,g,N⟩:=u _ _ _ X;rw[W]at Q;cases Q;exact absurd (t j true c q h m) f
   .rw[MF M]at o l;exact h2 k w' c' R o l
 .by_cases A:i=j
  .subst A;rw[ML hl]at h;rw[ML D]at m;have X:dv = .own O:=MH<|MH h;have W:v = .ref p:=MH<|MH m;obtain⟨a,n,Q,J,C,f,g,N⟩:=y O X;rw[W]at Q;cases Q;exact#v[N,λz=>f<|s _ z]
  .rw[MF A]at h m;exact S.own j O p h m
 .by_cases A:i=j
  .by_cases M:i=k
   .rw[<-A,<-M]
   .subst A;rw[ML hl]at h;rw[ML D]at m;rw[MF M]at o l;have X:dv = .own O:=MH<|MH h;have W:v = .ref p:=MH<|MH m;exact absurd l<|L O k U p X W o
  .by_cases M:i=k
   .subst M;rw[ML hl]at o;rw[ML D]at l;rw[MF A]at h m;have X:dv = .own U:=MH<|MH o;have W:v = .ref p:=MH<|MH l;exact absurd m<|L U j O p X W h
   .rw[MF A]at h m;rw[MF M]at o l;exact S.inj j k O U p h o m l
end
end
end
section
section
variable {K:Qf}{X:Cx}[Feeds]
def rp:List My->Option My
 | [.int i,.int j]=>some (.int<|if j > i then j else i)
 | _=>none
def zM (hK:X.K=K)(hc:X.calm=true):A1 X (.builtin "max") (rDN K rp):=by
 intro a s c H g us Q I r h;obtain⟨k,B,l,z,bk,f,b,q⟩:=h;unfold rp at b;split at b <;> try cases b
 rename_i i j;obtain⟨v,w,rfl,e,d⟩:=GO f rfl;cases(show v = .int i from e);cases(show w = .int j from d);exact tS hc a s c H _ us Q I r #v[i,j,rfl,q _ H (j5.refl H) c8.int]
end
end
variable {es:List Ta}
section
section
variable {prog:SS}{w:SU}{A:SW}{E:SN->SR->Prop}{s:SR}
def kL {b:Bool}{it l:SQ}{i:Nat}{items:Array SN}{x:SN}{Q:SN->SR->Prop}(hi:K0 b s.heap it l i)(hl:Z5 b s.heap l items)(hx:items[i]? = some x)
  (q:∀h',K0 b h' it l (i+1)->Tb.SameBut it s.heap h'->Q x { s with heap:=h' }):Tn (model prog w) A (Builtin.SmallTypes.nextOf<|.ref it) Q E s:=by
 cases b
 .exact V3 (show s.heap.IsTupleIter it l i from hi) (show s.heap.IsTuple l items from hl) hx λh' a b=>q h' a b
 .exact wpAny_nextOf_list_item (show s.heap.IsListIter it l i from hi) (show s.heap.IsList l items from hl) hx λh' a b=>q h' a b
def yF {b:Bool}{it l:SQ}{i:Nat}{items:Array SN}{Q:SN->SR->Prop}(hh:A.handled=none)(hi:K0 b s.heap it l i)(hl:Z5 b s.heap l items)(hx:items[i]? = none)
  (q:∀h' e,Tb.ExtBut it s.heap h'->(∃o,h'.get? e=some o/\o.cls = .type "StopIteration")->E (.ref e) { s with heap:=h' }):Tn (model prog w) A (Builtin.SmallTypes.nextOf<|.ref it) Q E s:=by
 cases b
 .exact X3 hh (show s.heap.IsTupleIter it l i from hi) (show s.heap.IsTuple l items from hl) hx q
 .exact wpAny_nextOf_list_end hh (show s.heap.IsListIter it l i from hi) (show s.heap.IsList l items from hl) hx q
def K0.but {b:Bool}{h h':Tb}{it l c:SQ}{i:Nat}(x:K0 b h it l i)(k:Tb.ExtBut c h h')(n:it≠c):K0 b h' it l i:=x.at λo e=>k it o n e
def Z5.but {b:Bool}{h h':Tb}{l c:SQ}{items:Array SN}(x:Z5 b h l items)(k:Tb.ExtBut c h h')(n:l≠c):Z5 b h' l items:=x.at λo e=>k l o n e
variable {b1 b2:Bool}{z TI TO i1 i2 l1 l2:SQ}{k:Nat}{xs ys:Array SN}{x y a b:SN}
def zS {Q:SN->SR->Prop}(D:ZipApart z TI TO i1 i2 l1 l2)(hz:IsZip s.heap z TI TO .none)(hTI:IsPair s.heap TI (.ref i1) (.ref i2))(hTO:IsPair s.heap TO a b)
  (h1:K0 b1 s.heap i1 l1 k) (h2:K0 b2 s.heap i2 l2 k) (hl1:Z5 b1 s.heap l1 xs) (hl2:Z5 b2 s.heap l2 ys) (hx:xs[k]? = some x) (hy:ys[k]? = some y)
  (q:∀h',IsZip h' z TI TO (rawInt s.heap.objs.size)->IsPair h' TO x y->K0 b1 h' i1 l1 (k+1)->K0 b2 h' i2 l2 (k+1)->IsPair h' s.heap.objs.size x y->h'.objs.size=s.heap.objs.size+1 ->
   (∀c o,c≠z->c≠TO->c≠i1->c≠i2->s.heap.get? c=some o->h'.get? c=some o)->Q (.ref s.heap.objs.size) { s with heap:=h' }) :
  Tn (model prog w) A (Builtin.«zip.__next__» #v[[.ref z],[]]) (λfin s'=>∃v,fin = .done (.ret v)/\Q v s') E s:=by
 show Tn _ _ (field (.ref z) 2 >>= _) _ _ _;refine Ms<|NF hz rfl (x:=.bool false) rfl ?_;show Tn _ _ (field (.ref z) 3 >>= _) _ _ _;refine Ms<|NF hz rfl (x:=.ref TI) rfl ?_;refine Ms<|Ob hTI rfl ?_;show Tn _ _ (Builtin.SmallTypes.ownedTupleIsFree (.ref z) >>= _) _ _ _;refine Ms ?_;unfold Builtin.SmallTypes.ownedTupleIsFree;refine Ms<|NF hz rfl (x:=.none) rfl<|Mt ?_;simp only[Of];refine Ms<|OG ?_;refine Ms<|NF hz rfl (x:=.ref TO) rfl ?_;refine Ms (Pi hz (by simp) λU B s1=>?_);replace B:IsZip U z TI TO .ellipsis:=B;refine Ms ?_;simp only[List.zipIdx_cons,List.zipIdx_nil,SL,List.forIn_nil];refine Ms<|Ms<|Sl ?_;show Tn _ _ (Builtin.SmallTypes.nextOf (.ref i1) >>= _) _ _ _;refine Ms (kL (h1.but s1.extBut D.i1z) (hl1.but s1.extBut D.l1z) hx λT Y s2=>Mt ?_);have L:IsPair T TO a b:=s2.extBut _ _ D.TOi1<|s1.extBut _ _ D.TOz hTO;refine Ms<|Ob L rfl ?_;refine Ms (RN L λS G g=>?_);replace G:IsPair S TO x b:=G;refine Ms<|Qz<|Mt ?_;refine Ms<|Ms<|Sl ?_;show Tn _ _ (Builtin.SmallTypes.nextOf (.ref i2) >>= _) _ _ _;refine Ms (kL (((h2.but s1.extBut D.i2z).but s2.extBut D.i12.symm).but g.extBut D.TOi2.symm) (((hl2.but s1.extBut D.l2z).but s2.extBut D.l2i1).but g.extBut D.l2TO) hy λR X j=>Mt ?_);have p4:IsPair R TO x b:=j.extBut _ _ D.TOi2 G;refine Ms<|Ob p4 rfl ?_;refine Ms (RN p4 λd r i=>?_);replace r:IsPair d TO x y:=r;refine Ms<|Qz<|Mt<|Mt ?_;refine Ms<|Ob r rfl ?_;refine Ms<|wpAny_newTuple ?_;have l:d.objs.size=s.heap.objs.size:=by rw[i.1,j.1,g.1,s2.1,s1.1]
 have J:IsZip d z TI TO .ellipsis:=i.extBut _ _ D.TOz.symm<|j.extBut _ _ D.i2z.symm<|g.extBut _ _ D.TOz.symm<|s2.extBut _ _ D.i1z.symm B;have O:∀c o,c≠z->c≠TO->c≠i1->c≠i2->s.heap.get? c=some o->d.get? c=some o:=λc o f t I H e=>i.extBut _ _ t<|j.extBut _ _ H<|g.extBut _ _ t<|s2.extBut _ _ I<|s1.extBut _ _ f e
 have W:K0 b1 d i1 l1 (k+1):=((Y.but g.extBut D.TOi1.symm).but j.extBut D.i12).but i.extBut D.TOi1.symm;have V:K0 b2 d i2 l2 (k+1):=X.but i.extBut D.TOi2.symm;have h:z<d.objs.size:=MA J;show Tn _ _ (Builtin.SmallTypes.ownedTupleHandOut (.ref z) (.ref d.objs.size) >>= _) _ _ _;refine Ms ?_;unfold Builtin.SmallTypes.ownedTupleHandOut;have N:IsZip (d.push { cls:=.type "tuple",data:=.seq #[x,y] }) z TI TO .ellipsis:=Mu _ J;refine Ms (Pi N (by simp) λP u F=>?_);replace u:IsZip P z TI TO (rawInt d.objs.size):=u;refine Pi u (by simp) λm n C=>?_
 replace n:IsZip m z TI TO (rawInt d.objs.size):=n;have p:∀c o,c≠z->d.get? c=some o->m.get? c=some o:=λc o f e=>C.extBut _ _ f<|F.extBut _ _ f<|Mu _ e
 have K:IsPair m d.objs.size x y:=C.extBut _ _ (NT h)<|F.extBut _ _ (NT h)<|MM _ rfl;have M:m.objs.size=d.objs.size+1:=by rw[C.1,F.1,NB]
 rw[l]at n K M;refine Mt #v[_,rfl,?_];show Q (.ref d.objs.size) _;rw[l];exact q m n (p _ _ D.TOz r) (W.at λo e=>p _ o D.i1z e) (V.at λo e=>p _ o D.i2z e) K M λc o f t I H e=>p c o f<|O c o f t I H e
def EY {Q:Fin->SR->Prop}(hh:A.handled=none)(D:ZipApart z TI TO i1 i2 l1 l2)(hz:IsZip s.heap z TI TO .none)(hTI:IsPair s.heap TI (.ref i1) (.ref i2))(hTO:IsPair s.heap TO a b)
  (h1:K0 b1 s.heap i1 l1 k) (h2:K0 b2 s.heap i2 l2 k) (hl1:Z5 b1 s.heap l1 xs) (hl2:Z5 b2 s.heap l2 ys) (he:xs[k]? = none\/ys[k]? = none)
  (q:∀h' e,(∀c o,c≠z->c≠TO->c≠i1->c≠i2->s.heap.get? c=some o->h'.get? c=some o)->(∃o,h'.get? e=some o/\o.cls = .type "StopIteration")->E (.ref e) { s with heap:=h' }) :
  Tn (model prog w) A (Builtin.«zip.__next__» #v[[.ref z],[]]) Q E s:=by
 show Tn _ _ (field (.ref z) 2 >>= _) _ _ _;refine Ms<|NF hz rfl (x:=.bool false) rfl ?_;show Tn _ _ (field (.ref z) 3 >>= _) _ _ _;refine Ms<|NF hz rfl (x:=.ref TI) rfl ?_;refine Ms<|Ob hTI rfl ?_;show Tn _ _ (Builtin.SmallTypes.ownedTupleIsFree (.ref z) >>= _) _ _ _;refine Ms ?_;unfold Builtin.SmallTypes.ownedTupleIsFree;refine Ms<|NF hz rfl (x:=.none) rfl<|Mt ?_;simp only[Of];refine Ms<|OG ?_;refine Ms<|NF hz rfl (x:=.ref TO) rfl ?_;refine Ms (Pi hz (by simp) λH j s1=>?_);replace j:IsZip H z TI TO .ellipsis:=j;refine Ms ?_;simp only[List.zipIdx_cons,List.zipIdx_nil,SL,List.forIn_nil];refine Ms<|Ms<|Sl ?_;show Tn _ _ (Builtin.SmallTypes.nextOf (.ref i1) >>= _) _ _ _;cases hx:xs[k]? with
 | none =>
  refine Ms (yF hh (h1.but s1.extBut D.i1z) (hl1.but s1.extBut D.l1z) hx λm e s2 #v[l,f,g]=>?_);have t:IsZip m z TI TO .ellipsis:=s2 _ _ D.i1z.symm j;have n:e≠z:=λx=>by subst x;rw[t]at f;cases f;simp at g
  exact Pi t (by simp) λB _ d=>q B e (λc o i _ p _ x=>d.extBut _ _ i<|s2 _ _ p<|s1.extBut _ _ i x) #v[l,d.extBut _ _ n f,g]
 | some x =>
  have C:ys[k]? = none:=by rcases he with h | h;rw[hx]at h;cases h;exact h
  refine Ms (kL (h1.but s1.extBut D.i1z) (hl1.but s1.extBut D.l1z) hx λm L s2=>Mt ?_);have y:IsPair m TO a b:=s2.extBut _ _ D.TOi1<|s1.extBut _ _ D.TOz hTO;refine Ms<|Ob y rfl ?_;refine Ms (RN y λB K d=>?_);refine Ms<|Qz<|Mt ?_;refine Ms<|Ms<|Sl ?_;show Tn _ _ (Builtin.SmallTypes.nextOf (.ref i2) >>= _) _ _ _;refine Ms (yF hh (((h2.but s1.extBut D.i2z).but s2.extBut D.i12.symm).but d.extBut D.TOi2.symm) (((hl2.but s1.extBut D.l2z).but s2.extBut D.l2i1).but d.extBut D.l2TO) C λG e v #v[l,f,g]=>?_);have r:IsZip G z TI TO .ellipsis:=v _ _ D.i2z.symm<|d.extBut _ _ D.TOz.symm<|s2.extBut _ _ D.i1z.symm j;have n:e≠z:=λx=>by subst x;rw[r]at f;cases f;simp at g
  exact Pi r (by simp) λF _ u=>q F e (λc o i J p I x=>u.extBut _ _ i<|v _ _ I<|d.extBut _ _ J<|s2.extBut _ _ p<|s1.extBut _ _ i x) #v[l,u.extBut _ _ n f,g]
def AJ {Q:Option SN->SR->Prop}(D:ZipApart z TI TO i1 i2 l1 l2)(hz:IsZip s.heap z TI TO .none)(hTI:IsPair s.heap TI (.ref i1) (.ref i2))(hTO:IsPair s.heap TO a b)
  (h1:K0 b1 s.heap i1 l1 k) (h2:K0 b2 s.heap i2 l2 k) (hl1:Z5 b1 s.heap l1 xs) (hl2:Z5 b2 s.heap l2 ys) (hx:xs[k]? = some x) (hy:ys[k]? = some y)
  (q:∀h',IsZip h' z TI TO (rawInt s.heap.objs.size)->IsPair h' TO x y->K0 b1 h' i1 l1 (k+1)->K0 b2 h' i2 l2 (k+1)->IsPair h' s.heap.objs.size x y->h'.objs.size=s.heap.objs.size+1 ->
   (∀c o,c≠z->c≠TO->c≠i1->c≠i2->s.heap.get? c=some o->h'.get? c=some o)->Q (some<|.ref s.heap.objs.size) { s with heap:=h' }):Tn (model prog w) A (pyNext<|.ref z) Q E s:=by
 have d:s.TypeIs (.ref z) "zip":=#v[_,hz,rfl];unfold pyNext;exact Ms (PX (NR (name:=Str.ofString "__next__") d Qm (Nx Qm d PySem.F.entry_zip_next
  (zS D hz hTI hTO h1 h2 hl1 hl2 hx hy λh' l j i h g f e=>Mt<|q h' l j i h g f e) (PySem.F.args_zip_next_1 _))))
def Dx {Q:Option SN->SR->Prop}(hh:A.handled=none)(D:ZipApart z TI TO i1 i2 l1 l2)(hz:IsZip s.heap z TI TO .none)(hTI:IsPair s.heap TI (.ref i1) (.ref i2))(hTO:IsPair s.heap TO a b)
  (h1:K0 b1 s.heap i1 l1 k) (h2:K0 b2 s.heap i2 l2 k) (hl1:Z5 b1 s.heap l1 xs) (hl2:Z5 b2 s.heap l2 ys) (he:xs[k]? = none\/ys[k]? = none)
  (q:∀h',(∀c o,c≠z->c≠TO->c≠i1->c≠i2->s.heap.get? c=some o->h'.get? c=some o)->Q none { s with heap:=h' }):Tn (model prog w) A (pyNext<|.ref z) Q E s:=by have d:s.TypeIs (.ref z) "zip":=#v[_,hz,rfl];unfold pyNext;refine Ms (PX<|NR (name:=Str.ofString "__next__") d Qm<|Nx Qm d PySem.F.entry_zip_next (EY hh D hz hTI hTO h1 h2 hl1 hl2 he λh' e g #v[o,f,h]=>?_)<|PySem.F.args_zip_next_1 _);exact Ms<|Rv (T:="StopIteration") (b:=true) #v[o,f,h] isSubtype_stop<|Mt<|q _ g
end
end
section
abbrev itO (b:Bool)(l:SQ):Te:={ cls:=.type (if b then "list_iterator" else "tuple_iterator"),data:=.fields #[.ref l,.int 0 0] }
abbrev zg1 (h:Tb)(b1:Bool)(l1:SQ):Tb:=h.push<|itO b1 l1
abbrev zg2 (h:Tb)(b1 b2:Bool)(l1 l2:SQ):Tb:=(zg1 h b1 l1).push<|itO b2 l2
abbrev zg3 (h:Tb)(b1 b2:Bool)(l1 l2:SQ):Tb:=(zg2 h b1 b2 l1 l2).push { cls:=.type "tuple",data:=.seq #[.ref h.objs.size,.ref (zg1 h b1 l1).objs.size] }
abbrev zg4 (h:Tb)(b1 b2:Bool)(l1 l2:SQ):Tb:=(zg3 h b1 b2 l1 l2).push { cls:=.type "tuple",data:=.seq #[.none,.none] }
abbrev zg5 (h:Tb)(b1 b2:Bool)(l1 l2:SQ):Tb:=(zg4 h b1 b2 l1 l2).push { cls:=.type "zip",data:=.fields #[.none,.bool false,.bool false,.ref (zg2 h b1 b2 l1 l2).objs.size,.ref (zg3 h b1 b2 l1 l2).objs.size] }
def Ey {N a1 a2:Nat}(l1:a1<N)(l2:a2<N):ZipApart (N+4) (N+2) (N+3) N (N+1) a1 a2:=by constructor <;> show @Ne Nat _ _ <;> omega
def Itz (b1 b2:Bool)(K:Qf)(a1 a2:SQ):It :=
 #v[λi H=>∃b a x y,SqA b1 K H a1 b/\SqA b2 K H a2 a/\b[i]? = some x/\a[i]? = some y,λi H v c=>∃t x y,v = .ref t/\H t=none/\c=upd H t (.tup [x,y])/\(∀b,SqA b1 K H a1 b->b[i]? = some x)/\∀a,SqA b2 K H a2 a->a[i]? = some y,
  λi H=>∃b a,SqA b1 K H a1 b/\SqA b2 K H a2 a/\(b[i]? = none\/a[i]? = none)]
def xU {P:SS}{w:SU}{K:Qf}{k:Nat}(b1 b2:Bool)(a1 a2 z TI TO i1 i2:SQ):Turn P w K (.Tuple es k pos) (Itz b1 b2 K a1 a2) [z,TI,TO,i1,i2] z
  (λi h=>ZipApart z TI TO i1 i2 a1 a2/\IsZip h z TI TO .none/\IsPair h TI (.ref i1) (.ref i2)/\(∃a b,IsPair h TO a b)/\K0 b1 h i1 a1 i/\K0 b2 h i2 a2 i) where
 mem:=by simp
 obj:=λi h st c V=>by
  obtain⟨_,n,d,⟨a,b,j⟩,m,C⟩:=st;simp only[MJ,NH,OS]at V;rcases V with rfl | rfl | rfl | rfl | rfl
  .exact#v[_,n,λv z=>by cases(show Data.fields _=Data.cell v from z)]
  .exact#v[_,d,λv z=>by cases(show Data.seq _ _=Data.cell v from z)]
  .exact#v[_,j,λv z=>by cases(show Data.seq _ _=Data.cell v from z)]
  .exact m.obj
  .exact C.obj
 keep:=λi h h' st Q=>by obtain⟨D,n,d,⟨a,b,j⟩,m,C⟩:=st;exact#v[D,Q z (by simp) _ n,Q TI (by simp) _ d,#v[a,b,Q TO (by simp) _ j],m.at λo e=>Q i1 (by simp) o e,C.at λo e=>Q i2 (by simp) o e]
 item:=by
  intro X hP hw hK L i l s Y H E I hf st hg;subst hP hw hK;obtain⟨D,n,d,⟨a,b,j⟩,m,C⟩:=st;obtain⟨xs,ys,x,y,q,p,hx,W⟩:=hg;obtain⟨B,J,p1⟩:=SqA.get I q;obtain⟨A,G,p2⟩:=SqA.get I p;obtain⟨O,ad,ab⟩:=J.get hx;obtain⟨N,ac,Z⟩:=G.get W;have S:∀c∈[z,TI,TO,i1,i2],c<s.heap.objs.size:=λc V=>by
   simp only[MJ,NH,OS]at V;rcases V with rfl | rfl | rfl | rfl | rfl
   .exact MA n
   .exact MA d
   .exact MA j
   .obtain⟨o,e,_⟩:=m.obj;exact MA e
   .obtain⟨o,e,_⟩:=C.obj;exact MA e
  refine AJ D n d j m C p1 p2 (by rw[Pr];exact ad) (by rw[Pr];exact ac) λg g1 g2 g3 g4 g5 g6 gk=>?_
  refine#v[_,rfl,wpAny_letOwnedTupleGo_zip g1 λM z2 s2=>?_];have s2:Tb.SameBut z g M:=s2;have zl:z<s.heap.objs.size:=S z (by simp);have al:H s.heap.objs.size=none:=I.hok.fresh<|Mz _;have I1:Inv X l Y (upd H s.heap.objs.size<|.tup [x,y]) { s with heap:=s.heap.push { cls:=.type "tuple",data:=.seq #[O,N] } }:=by refine I.laid (t':=s.toks) (λb u e=>Mu _ e) (Mz _) ?_;exact#v[MG (show 2<=10000 by decide) (by rw[Nr];decide),[O,N],.cons ab<|.cons Z .nil,#v[_,MM _ rfl,rfl,_,rfl]]
  have R:∀c∈[z,TI,TO,i1,i2],bx X l (upd H s.heap.objs.size<|.tup [x,y]) c:=λc t=>by obtain⟨f0,f⟩:=hf c t;exact#v[by rw[i8<|MR<|S c t];exact f0,f]
  have an:M.get? s.heap.objs.size=some { cls:=.type "tuple",data:=.seq #[O,N] }:=s2.extBut _ _ (NT zl) g5;have I2:Inv X l Y (upd H s.heap.objs.size<|.tup [x,y]) { s with heap:=M }:=by
   refine N6 (s:={ s with heap:=s.heap.push { cls:=.type "tuple",data:=.seq #[O,N] } }) (t':=s.toks) I1 R λc o r F=>?_
   have c1:c≠z:=λz=>r (by simp[z])
   have c2:c≠TO:=λz=>r (by simp[z])
   have c3:c≠i1:=λz=>r (by simp[z])
   have c4:c≠i2:=λz=>r (by simp[z])
   have F:(s.heap.push { cls:=.type "tuple",data:=.seq #[O,N] }).get? c=some o:=F;by_cases U:c=s.heap.objs.size
   .subst U;rw[MM _ rfl]at F;rw[an];exact F
   .have af:c<s.heap.objs.size:=by have m:c<(s.heap.push { cls:=.type "tuple",data:=.seq #[O,N] }).objs.size:=MA F;rw[NB]at m;exact Se (Sq m) U
    exact s2.extBut c o c1<|gk c o c1 c2 c3 c4<|iK af F
  refine#v[.ref s.heap.objs.size,upd H s.heap.objs.size<|.tup [x,y],I2,rfl,#v[_,x,y,rfl,al,rfl,λzs W=>by rw[SqA.inj I q W];exact hx,λzs n=>by rw[SqA.inj I p n];exact W],#v[D,z2,s2.extBut _ _ D.TIz<|gk _ _ D.TIz D.TITO D.TIi1 D.TIi2 d,#v[_,_,s2.extBut _ _ D.TOz g2],g3.but s2.extBut D.i1z,g4.but s2.extBut D.i2z],λc t=>(R c t).1]
 done:=by
  intro X hP hw hK L i l s Y H E I hf st hg;subst hP hw hK;obtain⟨D,n,d,⟨a,b,j⟩,m,C⟩:=st;obtain⟨xs,ys,q,p,T⟩:=hg;obtain⟨B,J,p1⟩:=SqA.get I q;obtain⟨A,G,p2⟩:=SqA.get I p;have am:B.toArray[i]? = none\/A.toArray[i]? = none:=by
   rcases T with T | T
   .left;rw[Pr,Og,<-J.length];exact Og.1 T
   .right;rw[Pr,Og,<-G.length];exact Og.1 T
  refine Dx (I.ok.hd L) D n d j m C p1 p2 am λh' eb=>#v[rfl,N6 (t':=s.toks) I hf λc o L F=>eb c o (λz=>L<|by simp[z]) (λz=>L<|by simp[z]) (λz=>L<|by simp[z]) (λz=>L<|by simp[z]) F]
 self:=λ_ _ _ _ _ st h=>wpAny_pyIter_zip st.2.1 h
section
variable [Feeds]{K:Qf}{e1 e2:Ta}{p:Pos}
def lJ (a b:List My):List My:=List.zipWith (λx y=>.tuple [x,y]) a b
def vX {a b:List My}{i:Nat}{z:My}(h:(lJ a b)[i]? = some z):∃x y,a[i]? = some x/\b[i]? = some y/\z = .tuple [x,y]:=by
 unfold lJ at h;rw[List.getElem?_zipWith]at h;cases e1:a[i]? with
 | none=>rw[e1]at h;cases h
 | some x =>
  cases e2:b[i]? with
  | none=>rw[e1,e2]at h;cases h
  | some y=>rw[e1,e2]at h;exact#v[x,y,rfl,rfl,(MH h).symm]
def CV {P:Hp->List SQ->Prop}{b1 b2:Bool}{a1 a2:SQ}{ds es:List My}{xs ys:List V}(h:∀H B,P H B->(SqA b1 K H a1 xs/\c6 K (hid H B) ds xs)/\SqA b2 K H a2 ys/\c6 K (hid H B) es ys):bU K P (Itz b1 b2 K a1 a2) (lJ ds es):=λH B q=>by
 obtain⟨⟨b,j⟩,a,g⟩:=h H B q;refine#v[λi d e=>?_,#v[xs,ys,b,a,?_]]
 .obtain⟨x,y,p,o,rfl⟩:=vX e;obtain⟨v,e1,e2⟩:=c6.item j p;obtain⟨u,k,s⟩:=c6.item g o;refine#v[#v[xs,ys,v,u,b,a,e1,k],λA C l=>?_];obtain⟨t,z,w,rfl,ht,rfl,n,m⟩:=l;have f:=n xs b;have c:=m ys a;rw[e1]at f;cases f;rw[k]at c;cases c;exact#v[j5.upd ht,λbk=>K5 bk ht #v[_,_,rfl,e2,_,_,rfl,s,rfl]]
 .have r:(lJ ds es).length=min ds.length es.length:=by unfold lJ;rw[List.length_zipWith]
  rw[r,Og,Og,j.length,g.length];omega
end
end
end L3
namespace L2
open PySem PySem.Spec PyProof.Rows
variable {elt iter:Ta}{scope:SX}{pos:Pos}{ifs ifs1:List Ta}
section
def xA (target iter:Ta)(ifs:List Ta)(it:SN)(env:Tf)(act:Sem Unit)(more:Sem Fin):Sem Fin:=do
 standAt iter.pos
 match <-pyNext it with
 | none=>pure<|.done .next
 | some v =>
  letOwnedTupleGo target it v
  assign target env v
  let mut ok:=true
  for c in ifs do
   if ok then ok <-isTrue c env (eval c env)
  if ok then act
  more
def qY (e:Ta)(iter1:Ta)(acc:SN)(env:Tf)(k:Sem Fin):Sem Fin:=do
 let x <-eval iter1 env
 standAt iter1.pos
 let x <-Tt iter1 env x
 let _ <-runOwn (.compStart e 1 (<-holding [x] (pyIter x)) acc env) env
 k
def wz (elt tg iter tg1 iter1:Ta)(ifs ifs1:List Ta)(scope:SX)(pos:Pos)(it acc:SN)(env:Tf) :
  compTurn (.ListComp elt [#v[tg,iter,ifs,0],#v[tg1,iter1,ifs1,0]] scope pos) 0 it acc env=rM tg iter ifs it env (qY (.ListComp elt [#v[tg,iter,ifs,0],#v[tg1,iter1,ifs1,0]] scope pos) iter1 acc env) (again<|.compLoop (.ListComp elt [#v[tg,iter,ifs,0],#v[tg1,iter1,ifs1,0]] scope pos) 0 it acc env):=by rfl
def zp (elt tg iter tg1 iter1:Ta)(ifs ifs1:List Ta)(scope:SX)(pos:Pos)(it acc:SN)(env:Tf) :
  compTurn (.ListComp elt [#v[tg,iter,ifs,0],#v[tg1,iter1,ifs1,0]] scope pos) 1 it acc env=xA tg1 iter1 ifs1 it env (lP elt acc env) (again<|.compLoop (.ListComp elt [#v[tg,iter,ifs,0],#v[tg1,iter1,ifs1,0]] scope pos) 1 it acc env):=by rfl
section
variable {prog:SS}{w:SU}{A:SW}{R:Result->SR->Prop}{s:SR}
def GK {gens:List Comprehension}{d:Nat}{it acc:SN}{env:Tf}{target:Ta}{act:Sem Unit}(I:Nat->SR->Prop)
  (ht:compTurn (.ListComp elt gens scope pos) d it acc env=xA target iter ifs it env act (again<|.compLoop (.ListComp elt gens scope pos) d it acc env))
  (turn:∀n s,I n s->Tn (model prog w) A (pyNext it) (λr s₁=>match r with
   | none=>R (.ok .next) s₁
   | some v=>Tn (model prog w) A (letOwnedTupleGo target it v) (λ_ s₀=>Tn (model prog w) A (assign target env v) (λ_ s₂ =>
     Tn (model prog w) A (forIn ifs true λc r=>if r=true then do let ok <-isTrue c env (eval c env);pure (ForInStep.yield ok) else pure (ForInStep.yield r)) (λok s₃ =>
      if ok=true then Tn (model prog w) A act (λ_ s₅=>∃m,m<n/\I m s₅) (λ_ _=>False) s₃
      else ∃m,m<n/\I m s₃) (λ_ _=>False) s₂) (λ_ _=>False) s₀) (λ_ _=>False) s₁) (λ_ _=>False) s)
  (n:Nat) (h:I n s):codeAny (model prog w) A (.compLoop (.ListComp elt gens scope pos) d it acc env) R s:=by
 refine codeAny_loop rfl I (λn s j=>?_) n h;show Tn _ A ((compTurn (.ListComp elt gens scope pos) d it acc env).onRaise (λx=>do noteFrame x env;theTreesLotGoes x)) _ _ s;refine wpAny_noted ?_;rw[ht];unfold xA;refine Ms (OF<|Ms<|MY (turn n s j) (λr s₁ e=>?_) λ_ _ a=>a.elim);cases r with
 | none=>exact Mt e
 | some v =>
  refine Ms (MY e (λ_ s₀ i=>?_) λ_ _ a=>a.elim);refine Ms (MY i (λ_ s₂ g=>Ms<|MY g (λok s₃ b=>?_) λ_ _ a=>a.elim) λ_ _ a=>a.elim);cases ok with
  | false=>exact Mt #v[rfl,b]
  | true=>exact Ms (MY b (λ_ s₅ f=>Mt #v[rfl,f]) λ_ _ a=>a.elim)
def ym {g0:Comprehension}{target:Ta}{rest:List Comprehension}{it acc:SN}{env:Tf}
  (h0:codeAny (model prog w) A (.compLoop (.ListComp elt (g0::#v[target,iter,ifs,0]::rest) scope pos) 1 it acc env) R s)
  (h:Tn (model prog w) A (pyIter it) (λit' s'=>codeAny (model prog w) A (.compLoop (.ListComp elt (g0::#v[target,iter,ifs,0]::rest) scope pos) 1 it' acc env) R s') (notedBy (model prog w) A env λx s'=>R (.error x) s') s) :
  codeAny (model prog w) A (.compStart (.ListComp elt (g0::#v[target,iter,ifs,0]::rest) scope pos) 1 it acc env) R s:=by
 refine codeAny_of_tree ?_;show Tn _ _ ((compStart (.ListComp elt (g0::#v[target,iter,ifs,0]::rest) scope pos) 1 it acc env).onRaise (λx=>do noteFrame x env;standAt theWindowsPlace)) _ _ s;refine wpAny_notedAt ?_;unfold compStart;show Tn _ _ (ask >>= _) _ _ s;refine Ms<|wpAny_askSetting<|wpAny_ite ?_;split
 .first | exact Ms (Mt<|Mt<|And.intro rfl h0) | exact Mt<|And.intro rfl h0
 .first | exact Ms (OG<|Ms<|OF<|Ms<|MY h (λit' s' a=>Mt<|And.intro rfl a) λ_ _ x=>x) | (refine Ms<|OG ?_;show Tn _ _ (standAt iter.pos >>= _) _ _ s;exact Ms<|OF<|Ms<|MY h (λit' s' a=>Mt<|And.intro rfl a) λ_ _ x=>x)
end
def tIn (wi:TI)(g:TG)(tt:TT)(te:TE)(D:SQ):TM:=λh H Q=>wi h H λJ l =>
 ∃W:Nat->Nat->St->List V->Hp->Prop,(∃m a,l D=some (.lst a)/\W 0 m h a l)/\∀i m c a e,W i m c a e ->
  (J.stop i e/\Q c e) \/
  (J.go i e/\∀x k,J.yld i e x k->g x c k λb n=>tt b n λok f=>if ok=true then te b f λy j=>j D=some (.lst a)/\a.length<Tc/\∃d,d<m/\W (i+1) d b (a++[y]) (upd j D<|.lst<|a++[y])
   else f D=some (.lst a)/\∃d,d<m/\W (i+1) d b a f)
def FW {Y:Cx}{tg tg1 iter1:Ta}{wi:TI}{g:TG}{tt:TT}{te:TE}{D:SQ}(hx:Y.xe = λ_ _=>False)(hc:Y.calm=true)(hi:PI Y tg1 iter1 wi)(hg:PG Y tg1 g)(ht:PTs Y ifs1 tt)(he:PE Y elt te)
  (hs:∀x,Tt iter1 Y.env x=pure x):PM Y (qY (.ListComp elt [#v[tg,iter,ifs,0],#v[tg1,iter1,ifs1,0]] scope pos) iter1 (.ref D) Y.env) (tIn wi g tt te D):=by
 intro j s σ H Q I h k R E hk;unfold qY;have m:∀{a b},Y.xe a b->False:=λ{a b} z=>by rw[hx]at z;exact z
 refine Ms (MY (hi j s σ H _ I h) (λv s1 h1=>Ms<|OF ?_) λ_ _ z=>(m z).elim);rw[hs];refine Ms (Mt<|Ms<|NL<|MY h1 (λa5 s2 h2=>?_) λ_ _ z=>(m z).elim);obtain⟨it,Z,tn,J,H2,e,I2,T,S,f2,W,⟨m0,ab,ap,w0⟩,N⟩:=h2;subst e;have B:∀{p:Hp},(∀b∈Z,p b=none)->∀b∈Z,bx Y j p b:=λhn b G=>#v[hn b G,(f2 b G).2]
 refine Ms<|wpAny_runOwn ?_;have K:codeAny (model Y.prog Y.w) (Y.A.mark none) (.compLoop (.ListComp elt [#v[tg,iter,ifs,0],#v[tg1,iter1,ifs1,0]] scope pos) 1 (.ref it) (.ref D) Y.env) (λr F=>match r with | .ok f=>Tn (model Y.prog Y.w) Y.A k R E F | .error e=>cameBackBy (model Y.prog Y.w) Y.A Y.env E e F) s2:=by
  refine GK (A:=Y.A) (λn F=>∃i w c p,Inv Y j w p F/\tn i F.heap/\(∀b∈Z,p b=none)/\p D=some (.lst c)/\W i n w c p) (zp ..) ?_ m0 #v[0,σ,ab,H2,I2,S,λb G=>(f2 b G).1,ap,w0];rintro n s5 ⟨i,t,c,H5,I5,P,V,a6,w5⟩;rcases N i n t c H5 w5 with ⟨O,q⟩ | ⟨go,step⟩
  .refine MY (T.done Y rfl rfl rfl hc i j s5 t H5 _ I5 (B V) P O) (λr s6 #v[hr,I6]=>?_) λ_ _ z=>z
   subst hr;exact hk s6 t H5 I6 q
  .refine MY (T.item Y rfl rfl rfl hc i j s5 t H5 _ I5 (B V) P go) (λr s6 #v[u,hr,h6]=>?_) λ_ _ z=>z
   subst hr;refine MY h6 (λ_ s7 #v[x,H7,I7,r7,y7,L,a0]=>?_) λ_ _ z=>z
   have a2:=I7.pinned (B a0)<|T.obj _ _ L;have C:∀{F:SR} {w:St} {p:Hp},Inv Y (j++eG Z s7.heap) w p F->tn (i+1) F.heap/\∀b∈Z,p b=none:=λ{F w p} I'=>by refine#v[T.keep _ _ _ L λb G o e=>(I'.pin (b,o)<|MZ _<|MZ _<|N8 G e).1,λb G=>?_];obtain⟨o,e,d⟩:=T.obj _ _ L b G;exact(I'.pin (b,o)<|MZ _<|MZ _<|N8 G e).2.1
   refine MY (hg _ s7 t H7 x u _ a2 r7<|step x H7 y7) (λ_ s8 #v[l,H8,I8,q8]=>?_) λ_ _ z=>m z
   refine MY (ht _ s8 l H8 _ I8 q8) (λok s9 #v[H9,I9,q9]=>?_) λ_ _ z=>m z
   cases ok with
   | false =>have q9:H9 D=some (.lst c)/\∃M,M<n/\W (i+1) M l c H9:=q9;obtain⟨an,M,hm,w9⟩:=q9;obtain⟨k1,k2⟩:=C I9;exact#v[M,hm,i+1,l,c,H9,I9.unpinned,k1,k2,an,w9]
   | true =>show Tn _ _ (lP elt (.ref D) Y.env) _ _ _;unfold lP;refine Ms (MY (he _ s9 l H9 _ I9 q9) (λyv al #v[y,ad,a3,am,U,hz,M,hm,af]=>?_) λ_ _ z=>m z);refine Ms (MY (aU (X:=Y) _ al l ad (.ref D) [y] (.ref D) [yv] (λ_ p=>p=upd ad D (.lst<|c++[y])) a3 rfl (.cons am .nil) #v[D,c,y,rfl,rfl,U,hz,rfl]) (λ_ a4 #v[_,a7,ac,_,a1]=>Mt ?_) λ_ _ z=>m z);subst a1;obtain⟨k1,k2⟩:=C ac;exact#v[M,hm,i+1,l,c++[y],_,ac.unpinned,k1,k2,j3,af]
 exact ym K<|T.self _ 0 _ _ _ S K
end
section
def sQ {X:Cx}{tg tg1 iter1:Ta}{osc:SX}{N:List Str}{k:Nat}{cap:List Nat}{g:TG}{tt:TT}{tm:TM}{cl:List (Str×SQ)}
  {π:List (SQ×Te)} {σ:St} {H3:Hp} {s3:SR} {D it:SQ} {fp:List SQ} {tn:Nat->Tb->Prop} {J:It} {Q:VK} {W:Nat->Nat->St->Hp->Prop} {m0:Nat}
  (hc:X.calm=true) (hosc:X.env.scope=osc) (hcap:Caps X.N osc N k cap scope)
  (hcl:∀{x:Str} {c:SQ},cl.lookup x=some c->X.env.cells.lookup x=some c) (hhas:∀x,(x,Tx.free)∈scope.names->∃c,cl.lookup x=some c)
  (hg:∀cl C ex π s H,PG (cxC X N scope cl C ex π s H) tg g)
  (ht:∀cl C ex π s H,PTs (cxC X N scope cl C ex π s H) ifs tt)
  (he:∀cl C ex π s H,PM (cxC X N scope cl C ex π s H) (qY (.ListComp elt [#v[tg,iter,ifs,0],#v[tg1,iter1,ifs1,0]] scope pos) iter1 (.ref D) (cxC X N scope cl C ex π s H).env) tm)
  (I3:Inv X π σ H3 s3) (T:Turn X.prog X.w X.K tg J fp it tn) (st:tn 0 s3.heap) (f3:∀b∈fp,bx X π H3 b) (w0:W 0 m0 (bY k cap σ) H3)
  (turn:∀i m O' H',W i m O' H'->(J.stop i H'/\Q (.ref D) H') \/
   (J.go i H'/\∀x H2,J.yld i H' x H2->g x O' H2 λσ2 H3=>tt σ2 H3 λok H4=>if ok=true then tm σ2 H4 λσ3 H5=>∃m',m'<m/\W (i+1) m' σ3 H5 else ∃m',m'<m/\W (i+1) m' σ2 H4)) :
  Tn (model X.prog X.w) X.A (newFunctionEnv scope X.env.globals cl [] X.env.qual none .none<|some X.env) (λcenv s₄ =>
   codeAny (model X.prog X.w) X.A (.compStart (.ListComp elt [#v[tg,iter,ifs,0],#v[tg1,iter1,ifs1,0]] scope pos) 0 (.ref it) (.ref D) { cenv with scope:=relabel scope X.env }) (compPost (model X.prog X.w) X.A X.xe none (EP X π σ Q) (.ref D) cenv.locals) s₄) X.xe s3:=by
 refine ll (P:=λC=>compPost (model X.prog X.w) X.A X.xe none (EP X π σ Q) (.ref D) C) (Qs:=Q<|.ref D) (W:=W) (λenv=>wz ..) hc hosc hcap hcl hhas hg ht I3 T st f3 w0 (λl j H5 f B q=>?_) λi m O' H' w=>?_
 .obtain⟨m,n,_⟩:=id f.loc;refine#v[m,n,λF d=>?_];obtain⟨A,z,G,y,v,u⟩:=I3.fpOk (H':=H5) (b:=s3.heap.objs.size) (Mz _) f.free;exact#v[.ref D,H5,B.turned (t':=l.toks) (λb o r e=>(d.2 b r).trans e) A z y v u,rfl,q]
 .rcases turn i m O' H' w with h | ⟨t,step⟩
  .exact .inl h
  .exact .inr #v[t,_,step,λσ2 H4 h=>h,λa s σ2 H4 I h k R E p=>he _ _ _ _ _ _ _ s σ2 H4 _ I h k R E p]
def DR (wi:TI)(k:Nat)(cap:List Nat)(g:TG)(tt:TT)(wi1:TI)(g1:TG)(tt1:TT)(te:TE):TE:=λf H Q=>wi f H λJ l=>∀D,l D=none ->
 ∃W:Nat->Nat->St->Hp->Prop,(∃m,W 0 m (bY k cap f)<|upd l D<|.lst [])/\∀i m b d,W i m b d ->
  (J.stop i d/\Q (.ref D) d) \/
  (J.go i d/\∀x j,J.yld i d x j->g x b j λa o=>tt a o λok h=>if ok=true then tIn wi1 g1 tt1 te D a h λe n=>∃c,c<m/\W (i+1) c e n else ∃c,c<m/\W (i+1) c a h)
def Ee {X:Cx}{tg tg1 iter1:Ta}{osc:SX}{N:List Str}{k:Nat}{cap:List Nat}{wi:TI}{g:TG}{tt:TT}{wi1:TI}{g1:TG}{tt1:TT}{te:TE}
  (hc:X.calm=true) (hosc:X.env.scope=osc) (hcap:Caps X.N osc N k cap scope) (hi:PI X tg iter wi)
  (hg:∀cl C ex π s H,PG (cxC X N scope cl C ex π s H) tg g)
  (ht:∀cl C ex π s H,PTs (cxC X N scope cl C ex π s H) ifs tt)
  (hi1:∀cl C ex π s H,PI (cxC X N scope cl C ex π s H) tg1 iter1 wi1)
  (hg1:∀cl C ex π s H,PG (cxC X N scope cl C ex π s H) tg1 g1)
  (ht1:∀cl C ex π s H,PTs (cxC X N scope cl C ex π s H) ifs1 tt1)
  (he:∀cl C ex π s H,PE (cxC X N scope cl C ex π s H) elt te)
  (hs1:∀cl C ex π s H x,Tt iter1 (cxC X N scope cl C ex π s H).env x=pure x:=by intros;rfl)
  (hs:∀x,Tt iter X.env x=pure x:=by intro _;rfl) :
  PE X (.ListComp elt [#v[tg,iter,ifs,0],#v[tg1,iter1,ifs1,0]] scope pos) (DR wi k cap g tt wi1 g1 tt1 te):=by
 intro π s w H Q I h;have i:∀y∈scope.names,y.2 = .free->∃c,X.env.cells.lookup y.1=some c:=λy m n=>I.ok.has y.1 (by show X.env.scope.names.lookup y.1=_\/X.env.scope.names.lookup y.1=_;rw[hosc];exact hcap.free y m n)
 let f:Str->SQ:=λx=>(X.env.cells.lookup x).getD 0
 have z:∀y∈scope.names,y.2 = .free->X.env.cells.lookup y.1=some (f y.1):=λy m n=>by obtain⟨c,e⟩:=i y m n;show _=some ((X.env.cells.lookup y.1).getD 0);rw[e];rfl
 have a:closureFor scope X.env=pure (J7 f scope.names []):=O0 λy m n=>by unfold cellOf;rw[z y m n]
 have p:∀{x:Str} {c:SQ},(J7 f scope.names []).lookup x=some c->X.env.cells.lookup x=some c:=λ{x c} e=>by
  rcases Q9 _ _ e with ⟨r,u⟩ | r
  .rw[u];exact z (x,.free) r rfl
  .simp at r
 have d:∀x,(x,Tx.free)∈scope.names->∃c,(J7 f scope.names []).lookup x=some c:=λx G=>#v[_,aX _ _<|.inl G]
 generalize J7 f scope.names []=cl at a p d;rw[eval_ListComp];refine QH (use:=none) (cl:=cl) rfl hs a hcap.kind hcap.loc ?_;refine thn (hi π s w H _ I h) λv s1 r=>thn r λF s2 u=>?_
 obtain⟨R,K,O,J,M,e,B,T,l,A,E⟩:=u;subst e;obtain⟨W,⟨P,D⟩,j⟩:=E s2.heap.objs.size<|B.hok.fresh<|Mz _;refine Nj ?_;have L:Inv X π w (upd M s2.heap.objs.size<|.lst []) { s2 with heap:=s2.heap.push { cls:=.type "list",data:=.seq ([]:List SN).toArray } }:=B.lnew (ys:=[]) (its:=[]) (t':=s2.toks) .nil<|Nv _;have t:∀b∈K,b≠s2.heap.objs.size:=λb q=>by obtain⟨o,e,_⟩:=T.obj _ _ l b q;exact MR<|MA e
 exact sQ hc hosc hcap p d hg ht (λcl C ex π s H=>FW (Y:=cxC X N scope cl C ex π s H) rfl hc (hi1 cl C ex π s H) (hg1 cl C ex π s H) (ht1 cl C ex π s H) (he cl C ex π s H)<|hs1 cl C ex π s H) L T (T.keep _ _ (s2.heap.push { cls:=.type "list",data:=.seq ([]:List SN).toArray }) l λb _ o e=>Mu _ e) (λb q=>#v[by rw[i8<|t b q];exact(A b q).1,(A b q).2]) D j
end
end L2
namespace L3
open PySem PySem.Spec PyProof.Rows L2
variable {bd1:My->DE->Option DE}
section
section
variable [Feeds]
variable {K:Qf}{X:Cx}{tg iter tg1 iter1 elt:Ta}{te:TE}{pos:Pos}
noncomputable def jX (bd:My->DE->Option DE)(mt:DE->M Bool)(me:DE->M My):List My->DE->M (List My×DE)
 | [],E,F=>some (([],E),F)
 | d::r,E,F=>(bd d E).bind λE1=>(mt E1 F).bind λp=>if p.1=true then(me E1 p.2).bind λy=>(jX bd mt me r E1 y.2).bind λz=>some ((y.1::z.1.1,z.1.2),z.2) else jX bd mt me r E1 p.2
def dH (bd:My->DE->Option DE)(mt:DE->M Bool)(mi1:DE->M (List My))(bd1:My->DE->Option DE)(mt1:DE->M Bool)(me:DE->M My):List My->DE->M (List My)
 | [],_,F=>some ([],F)
 | d::r,E,F=>(bd d E).bind λb=>(mt b F).bind λp=>if p.1=true then(mi1 b p.2).bind λa=>(jX bd1 mt1 me a.1 b a.2).bind λz=>(dH bd mt mi1 bd1 mt1 me r z.1.2 z.2).bind λw=>some (z.1.1++w.1,w.2) else dH bd mt mi1 bd1 mt1 me r b p.2
def yL (mi:DE->M (List My))(k:Nat)(cap:List Nat)(bd:My->DE->Option DE)(mt:DE->M Bool)(mi1:DE->M (List My))(bd1:My->DE->Option DE)(mt1:DE->M Bool)(me:DE->M My):DE->M My:=λE F =>
 (mi E F).bind λp=>(dH bd mt mi1 bd1 mt1 me p.1 (iu k cap E) p.2).bind λz=>if z.1.length<=Tc then some (.list z.1,z.2) else none
def Gb {wi wi1:TI}{mi mi1:DE->M (List My)}{k:Nat}{cap:List Nat}{g g1:TG}{bd:My->DE->Option DE}{tt tt1:TT}{mt mt1:DE->M Bool}{me:DE->M My}(hi:TIs K wi mi)(hg:TGd K g bd)(ht:TTd K tt mt)
  (hi1:TId K wi1 mi1) (hg1:TGd K g1 bd1) (ht1:TTd K tt1 mt1) (he:TEd K te me):TEd K (DR wi k cap g tt wi1 g1 tt1 te) (yL mi k cap bd mt mi1 bd1 mt1 me):=λG B E F σ H Q d F' I e q=>by
 obtain⟨⟨items,F1⟩,e1,e⟩:=bS9 e;obtain⟨⟨l,F2⟩,e2,e⟩:=bS9 e;split at e
 .rename_i a9;cases e;have a9:l.length<=Tc:=a9;refine hi G B E F σ H _ items F1 I e1 λJ H1 k1 f1 ok D hD=>?_
  have I1:SitE K G B E F1 σ H1:=I.step k1 f1;have br:D ∉ B:=I1.bk.nin hD;have ac:D ∉ m8 K G:=λz=>br<|I.fB D z
  have X:∀{u:Hp},Kp (m8 K G) H1 u->Kp (m8 K G) H1 u/\j5 (hid H1 B) (hid u (D::B)):=λ{u} k=>#v[k,λb o T=>by
   by_cases hb:b∈B
   .rw[G2 hb]at T;cases T
   .rw[l7 hb]at T;rw[l7 (by
     intro z;rcases MJ.1 z with rfl | z
     .rw[hD]at T;cases T
     .exact hb z)]
    exact k b o T λz=>hb<|I.fB b z]
  obtain⟨W,hW⟩:∃W:Nat->Nat->St->Hp->Prop,W = λi m C u=>m=items.length-i/\i<=items.length/\∃E F done s p,SitE K G (D::B) E F C u/\u D=some (.lst p)/\Kp (m8 K G) H1 u/\(∀(j:Nat) (O:List My),E[j]? = some (some<|DV.own O)->C[j]? ≠ some (some<|V.ref D))/\c6 K (hid u (D::B)) done p/\dH bd mt mi1 bd1 mt1 me (items.drop i) E F=some (s,F2)/\l=done++s:=#v[_,rfl]
  have w0:W 0 items.length (bY k cap σ) (upd H1 D<|.lst []):=by rw[hW];refine#v[by simp,Nv _,iu k cap E,F1,[],l,[],(I1.cap k cap).more hD,j3,Kp.upd hD,λj O ej z=>?_,c6.nil,e2,rfl];obtain⟨v,v1,a,xs,rfl,_,_,ha,_⟩:=(I1.cap k cap).loc j _ ej;rw[v1]at z;cases z;rw[hD]at ha;cases ha
  refine#v[W,#v[_,w0],λi m C u w=>?_];have wn:∀{i m C u},(m=items.length-i/\i<=items.length/\∃E F done s p,SitE K G (D::B) E F C u/\u D=some (.lst p)/\Kp (m8 K G) H1 u/\(∀(j:Nat) (O:List My),E[j]? = some (some<|DV.own O)->C[j]? ≠ some (some<|V.ref D))/\c6 K (hid u (D::B)) done p/\dH bd mt mi1 bd1 mt1 me (items.drop i) E F=some (s,F2)/\l=done++s)->W i m C u:=λh=>by rw[hW];exact h
  rw[hW]at w;clear hW w0;obtain⟨rfl,b5,E',F3,done,s,p,I2,bp,k2,ow,bh,P,ew⟩:=w;by_cases Z:i<items.length
  .refine .inr #v[((ok u (D::B)<|X k2).1 i items[i]<|by simp[Z]).1,λx H2 y=>?_];obtain⟨s2,hx⟩:=((ok u (D::B)<|X k2).1 i items[i]<|by simp[Z]).2 x H2 y;have bz:=hx I2.bk;rw[Ng Z,dH]at P;obtain⟨E4,e4,P⟩:=bS9 P;obtain⟨⟨b,F5⟩,e5,P⟩:=bS9 P;have I3:SitE K G (D::B) E' F3 C H2:=I2.step (Kp.same s2)<|I2.fd.same s2;refine hg G (D::B) E' F3 C H2 x items[i] E4 _ I3 bz e4 λR I4 fr=>?_
   have a7:∀(j:Nat) (O:List My),E4[j]? = some (some<|DV.own O)->R[j]? ≠ some (some<|V.ref D):=λj O ej=>by
    obtain⟨a1,a2⟩:=fr j λy z=>by rw[ej]at z;cases z
    rw[a2];exact ow j O<|a1▸ej
   refine ht G (D::B) E4 F3 R H2 _ b F5 I4 e5 λH5 k5 f5=>?_
   have af:Kp (m8 K G) H1 H5:=(k2.trans<|Kp.same s2).trans k5;have I5:SitE K G (D::B) E4 F5 R H5:=I4.step k5 f5;have bn:H5 D=some (.lst p):=k5 D _ (s2 D _ bp) ac;have bg:c6 K (hid H5 (D::B)) done p:=(bh.same<|(Kp.same s2).hid (fp:=[])<|by simp).same<|k5.hid I4.fB;cases b with
   | false=>exact#v[items.length-(i+1),by omega,wn #v[rfl,Z,E4,F5,done,s,p,I5,bn,af,a7,bg,P,ew]]
   | true =>
    obtain⟨⟨f,F6⟩,e6,P⟩:=bS9 P;obtain⟨⟨⟨zs,Ez⟩,F7⟩,e7,P⟩:=bS9 P;obtain⟨⟨ws,F8⟩,e8,P⟩:=bS9 P;cases P;refine hi1 G (D::B) E4 F5 R H5 _ f F6 I5 e6 λJ1 H6 k6 f6 an=>?_
    have I6:SitE K G (D::B) E4 F6 R H6:=I5.step k6 f6;have bm:H6 D=some (.lst p):=k6 D _ bn ac;obtain⟨V5,hV⟩:∃V5:Nat->Nat->St->List V->Hp->Prop,V5 = λj n A c N=>n=f.length-j/\j<=f.length/\∃E F t r,SitE K G (D::B) E F A N/\N D=some (.lst c)/\Kp (m8 K G) H1 N/\j5 (hid H6 (D::B)) (hid N (D::B))/\(∀(j:Nat) (O:List My),E[j]? = some (some<|DV.own O)->A[j]? ≠ some (some<|V.ref D))/\c6 K (hid N (D::B)) t c/\jX bd1 mt1 me (f.drop j) E F=some ((r,Ez),F7)/\l=t++r++ws:=#v[_,rfl]
    have v0:V5 0 f.length R p H6:=by rw[hV];exact#v[by simp,Nv _,E4,F6,done,zs,I6,bm,af.trans k6,λ_ _ z=>z,a7,bg.same<|k6.hid I5.fB,e7,by rw[ew,QY]]
    refine#v[V5,#v[f.length,p,bm,v0],λj n A c N w=>?_];have vn:∀{j n A c N},(n=f.length-j/\j<=f.length/\∃E F t r,SitE K G (D::B) E F A N/\N D=some (.lst c)/\Kp (m8 K G) H1 N/\j5 (hid H6 (D::B)) (hid N (D::B))/\(∀(j:Nat) (O:List My),E[j]? = some (some<|DV.own O)->A[j]? ≠ some (some<|V.ref D))/\c6 K (hid N (D::B)) t c/\jX bd1 mt1 me (f.drop j) E F=some ((r,Ez),F7)/\l=t++r++ws)->V5 j n A c N:=λh=>by rw[hV];exact h
    rw[hV]at w;clear hV v0;obtain⟨rfl,hj,E5,F9,L,al,I7,bj,k7,s7,a6,ap,S,ad⟩:=w;by_cases ab:j<f.length
    .refine .inr #v[((an N (D::B) s7).1 j f[j]<|by simp[ab]).1,λx1 H8 y1=>?_];obtain⟨s8,bv⟩:=((an N (D::B) s7).1 j f[j]<|by simp[ab]).2 x1 H8 y1;have a8:=bv I7.bk;rw[Ng ab,jX]at S;obtain⟨Ea,ea,S⟩:=bS9 S;obtain⟨⟨bb,Fb⟩,T,S⟩:=bS9 S;have I8:SitE K G (D::B) E5 F9 A H8:=I7.step (Kp.same s8)<|I7.fd.same s8;refine hg1 G (D::B) E5 F9 A H8 x1 f[j] Ea _ I8 a8 ea λU Ia b4=>?_
     have am:∀(j:Nat) (O:List My),Ea[j]? = some (some<|DV.own O)->U[j]? ≠ some (some<|V.ref D):=λj O ej=>by
      obtain⟨a1,a2⟩:=b4 j λy z=>by rw[ej]at z;cases z
      rw[a2];exact a6 j O<|a1▸ej
     refine ht1 G (D::B) Ea F9 U H8 _ bb Fb Ia T λHb kb fb=>?_
     have Y:Kp (m8 K G) H1 Hb:=(k7.trans<|Kp.same s8).trans kb;have Ib:SitE K G (D::B) Ea Fb U Hb:=Ia.step kb fb;have a0:Hb D=some (.lst c):=kb D _ (s8 D _ bj) ac;have a4:j5 (hid N (D::B)) (hid H8 (D::B)):=(Kp.same s8).hid (fp:=[]) (by simp);have a3:j5 (hid H8 (D::B)) (hid Hb (D::B)):=kb.hid Ia.fB;have be:c6 K (hid Hb (D::B)) L c:=(ap.same a4).same a3;have a5:j5 (hid H6 (D::B)) (hid Hb (D::B)):=λb o z=>a3 b o<|a4 b o<|s7 b o z
     cases bb with
     | false=>exact#v[a0,f.length-(j+1),by omega,vn #v[rfl,ab,Ea,Fb,L,al,Ib,a0,Y,a5,am,be,S,ad]]
     | true =>
      obtain⟨⟨yd,Fc⟩,ec,S⟩:=bS9 S;obtain⟨⟨⟨bt,b6⟩,Fd⟩,ed,S⟩:=bS9 S;cases S;refine he G (D::B) Ea Fb U Hb _ yd Fc Ib ec λv Hc kc fc hc=>?_
      have bi:Hc D=some (.lst c):=kc D _ a0 ac;have Ic:SitE K G (D::B) Ea Fc U Hc:=Ib.step kc fc;have b3:=be.same<|kc.hid Ib.fB;have ba:c.length<Tc:=by have h1:=ap.length;have h2:=NU List.length ad;simp only[Ni,ME]at h2;omega
      refine#v[bi,ba,f.length-(j+1),by omega,vn #v[rfl,ab,Ea,Fc,L++[yd],bt,Ic.wr ac am bi,j3,λb o T nb=>?_,?_,am,?_,ed,by rw[ad];simp]]
      .have:=kc b o (Y b o T nb) nb;rw[i8];exact this;intro z;subst z;rw[hD]at T;cases T
      .rw[aW MD];exact λb o z=>kc.hid Ib.fB b o<|a5 b o z
      .rw[aW MD];exact b3.snoc hc
    .have b0:j=f.length:=by omega
     subst b0;rw[Qu,jX]at S;cases S;rw[NW]at ad;exact .inl #v[(an N (D::B) s7).2,items.length-(i+1),by omega,wn #v[rfl,Z,_,_,L,ws,c,I7,bj,k7,a6,ap,e8,ad]]
  .have b1:i=items.length:=by omega
   subst b1;rw[Qu,dH]at P;cases P;rw[NW]at ew;subst ew;exact .inl #v[(ok u (D::B)<|X k2).2,q _ u (k1.trans k2) I2.fd<|c8.lst (by rw[l7 br];exact bp)<|bh.same<|N0 λb hb=>Mw _ hb]
 .cases e
def EB {ifs ifs1:List Ta}{scope:SX}(osc:SX)(N:List Str){k:Nat}{cap:List Nat}{wi wi1:TI}{g g1:TG}{tt tt1:TT}{mi mi1:DE->M (List My)}{bd:My->DE->Option DE}{mt mt1:DE->M Bool}{me:DE->M My}
  (hi:Eib K X tg iter wi mi)
  (hg:∀{cl C ex π s H},Eg K (cxC X N scope cl C ex π s H) tg g bd)
  (ht:∀{cl C ex π s H},Ets K (cxC X N scope cl C ex π s H) ifs tt mt)
  (hi1:∀{cl C ex π s H},Ei K (cxC X N scope cl C ex π s H) tg1 iter1 wi1 mi1)
  (hg1:∀{cl C ex π s H},Eg K (cxC X N scope cl C ex π s H) tg1 g1 bd1)
  (ht1:∀{cl C ex π s H},Ets K (cxC X N scope cl C ex π s H) ifs1 tt1 mt1)
  (he:∀{cl C ex π s H},Ev K (cxC X N scope cl C ex π s H) elt te me)
  (hc:X.calm=true:=by rfl) (hosc:X.env.scope=osc:=by rfl) (hcap:Caps X.N osc N k cap scope:=by exact {})
  (hs1:∀cl C ex π s H x,Tt iter1 (cxC X N scope cl C ex π s H).env x=pure x:=by intros;rfl)
  (hs:∀x,Tt iter X.env x=pure x:=by intro _;rfl) :
  Ev K X (.ListComp elt [#v[tg,iter,ifs,0],#v[tg1,iter1,ifs1,0]] scope pos) (DR wi k cap g tt wi1 g1 tt1 te) (yL mi k cap bd mt mi1 bd1 mt1 me) :=
 #v[Ee hc hosc hcap hi.pi (λ_ _ _ _ _ _=>hg.pg) (λ_ _ _ _ _ _=>ht.pts) (λ_ _ _ _ _ _=>hi1.pi) (λ_ _ _ _ _ _=>hg1.pg) (λ_ _ _ _ _ _=>ht1.pts) (λ_ _ _ _ _ _=>he.pe) hs1 hs,
  Gb hi.ok (@hg [] 0 [] [] X.s₀ X.H₀).ok (@ht [] 0 [] [] X.s₀ X.H₀).ok (@hi1 [] 0 [] [] X.s₀ X.H₀).ok (@hg1 [] 0 [] [] X.s₀ X.H₀).ok (@ht1 [] 0 [] [] X.s₀ X.H₀).ok (@he [] 0 [] [] X.s₀ X.H₀).ok]
end
end
end L3
namespace L3
open PySem PySem.Spec PyProof.Rows L2 PySem.SeqAt
def Dq (A:SW)(s:SR)(y x:SN)(r:Bool):Prop:=∀(P:SS) (w:SU) (E:SN->SR->Prop) (Q:SN->SR->Prop),Q (.bool r) s->Tn (model P w) A (richCompare .Lt y x) Q E s
def nD (l b:SQ)(xs ys:Array SN)(n k:Nat)(dd de:Option SQ)(sl sm:Array (Option SN))(T:Nat->Prop)(r:Bool) :
  Meets (Builtin.«tuple.__lt__» #v[[.ref l,.ref b],[]])
   (λA R s=>s.heap.get? l=some #v[.type "tuple",dd,.seq xs n,sl]/\s.heap.get? b=some #v[.type "tuple",de,.seq ys k,sm]/\T 0 /\
    (∀j (h1:j<xs.size) (h2:j<ys.size),T j->∃e,EqAt A.in1 s xs[j] ys[j] e/\(e=true->T (j+1))/\(e=false->Dq A.in1 s xs[j] ys[j] r)) /\
    (∀j,T j->min xs.size ys.size<=j->r=decide (xs.size<ys.size))/\R (.ok<|.ret<|.bool r) s) :=
 .of_wp λP w A R s h=>by
  obtain⟨u,g,B,o,t⟩:=s;obtain⟨hl,I,J,st,L,h⟩:=h;have V:=PF;have C:(xs.toList.zip ys.toList).length=min xs.size ys.size:=by simp
  wp_walk using AutoSeq1.wpAny_loadPart' hl,AutoSeq1.wpAny_loadPart' I,Ru _ (λa z p=>z.1=none/\p=#v[u,g,B,o,t]/\∃i,a=(xs.toList.zip ys.toList).drop i/\T i) _;case turn =>
   rintro ⟨y,x⟩ a z p ⟨c,rfl,i,f,v⟩
   have lt:i<(xs.toList.zip ys.toList).length:=by
    rcases Pj i (xs.toList.zip ys.toList).length with q | q
    .exact q
    .rw[Os q]at f;cases f
   have W:i<min xs.size ys.size:=C▸lt
   have F:i<xs.size:=by omega
   have D:i<ys.size:=by omega
   rw[Ng lt]at f
   injection f with m d
   obtain rfl:y=xs[i]:=by simpa using NU Prod.fst m
   obtain rfl:x=ys[i]:=by simpa using NU Prod.snd m
   obtain⟨e,H,O,N⟩:=st i F D v
   refine Ms<|H P w _ _ ?_
   cases e with
   | true =>
    wp_walk
    exact#v[rfl,rfl,i+1,d,O rfl]
   | false =>
    have G:∀{E:SN->SR->Prop} {Q:SN->SR->Prop},Q (.bool r) #v[u,g,B,o,t]->Tn (model P w) A.in1 (richCompare .Lt xs[i] ys[i]) Q E #v[u,g,B,o,t]:=λ{E Q} z=>N rfl P w E Q z
    wp_walk using G
    exact#v[_,rfl,h]
  case fin =>
   rintro ⟨U,S⟩ p ⟨c,rfl,i,f,v⟩
   simp only at c
   subst c
   have K:min xs.size ys.size<=i:=by
    rcases Pj i (xs.toList.zip ys.toList).length with q | q
    .rw[Ng q]at f;cases f
    .exact C▸q
   have M:=L i v K
   wp_walk
   exact#v[_,rfl,by rw[M]at h;simpa [Builtin.Tuple.tupleCompareSizes] using h]
  case h =>
   exact#v[rfl,rfl,0,rfl,J]
theorem N4 {h:Tb}:∀{vs:List SN} {xs:List My} {as:List SQ},ReadsAll h vs xs as->vs.length=xs.length
 | _,_,_,.nil=>rfl
 | _,_,_,.cons _ r=>by rw[ME,ME,N4 r]
theorem P0 {h:Tb}:∀{vs:List SN} {xs:List My} {as:List SQ},ReadsAll h vs xs as->∀(j:Nat) (h1:j<vs.length) (h2:j<xs.length),∃bs,Reads h vs[j] xs[j] bs
 | _,_,_,.nil,j,h1,_=>absurd h1<|Pq _
 | _,_,_,.cons r rs,0,_,_=>#v[_,r]
 | _,_,_,.cons r rs,j+1,h1,h2=>P0 rs j (Nat.lt_of_succ_lt_succ h1)<|Nat.lt_of_succ_lt_succ h2
theorem gN:∀{xs:List My},My.canLayAll0 xs=true->∀x∈xs,x.canLay0=true/\x.depth<=My.depthAll xs
 | [],_,x,c=>by cases c
 | y::ys,h,x,c=>by
  have d:y.canLay0=true/\My.canLayAll0 ys=true:=by simpa [My.canLayAll0] using h
  rcases MJ.1 c with rfl | c
  .exact#v[d.1,Nat.le_max_left _ _]
  .obtain⟨a,b⟩:=gN d.2 x c;exact#v[a,MG b<|Nat.le_max_right _ _]
end L3
namespace L3
open PySem PySem.Spec PyProof.Rows L2
variable {ys:Array SN}
variable {pos:Pos}
section
def uf (l1 l2:SQ)(xs ys:Array SN) :
  Meets (Builtin.«zip.__new__» #v[[.type "zip",.ref l1,.ref l2],[]]) (λ_ R s=>s.heap.IsTuple l1 xs/\s.heap.IsTuple l2 ys /\
   R (.ok<|.ret<|.ref (zg4 s.heap false false l1 l2).objs.size) { s with heap:=zg5 s.heap false false l1 l2 }) :=
 .of_wp λe w A R s h=>by
  obtain⟨j,g,d,c,f⟩:=s;obtain⟨l,k,h⟩:=h;have i:=sub_zip;have b:Tb.IsTuple (SR.heap #v[j,g,d,c,f]) l1 xs:=l;have a:Tb.IsTuple (SR.heap #v[j.push { cls:=.type "tuple_iterator",data:=.fields #[.ref l1,.int 0 0] },g,d,c,f]) l2 ys:=by obtain⟨o,m,r⟩:=k;exact#v[o,Mu _ m,r]
  wp_walk using OM b,OM a;exact#v[_,rfl,h]
section
variable {prog:SS}{w:SU}{A:SW}{E:SN->SR->Prop}{s:SR}
def yc {l1 l2:SQ}{xs:Array SN}{Q:SN->SR->Prop}(m1:s.heap.IsTuple l1 xs)(m2:s.heap.IsTuple l2 ys)
  (h:∀h',IsZip h' (s.heap.objs.size+4) (s.heap.objs.size+2) (s.heap.objs.size+3) .none->IsPair h' (s.heap.objs.size+2) (.ref s.heap.objs.size) (.ref<|s.heap.objs.size+1) ->
   IsPair h' (s.heap.objs.size+3) .none .none->K0 false h' s.heap.objs.size l1 0->K0 false h' (s.heap.objs.size+1) l2 0->(∀c o,s.heap.get? c=some o->h'.get? c=some o)->Q (.ref<|s.heap.objs.size+4) { s with heap:=h' }) :
  Tn (model prog w) A (call (.type "zip") [.ref l1,.ref l2]) Q E s:=by
 refine callType_new PySem.F.called_zip (by decide) (PySem.F.typeCall_zip_2 _ _) (PySem.F.newCall_zip_2 _ _) (λobj=>PySem.F.args_object_init_3 obj _ _) PySem.F.entry_zip_new (uf l1 l2 xs ys) #v[m1,m2,?_];have d:(zg1 s.heap false l1).objs.size=s.heap.objs.size+1:=NB ..;have b:(zg2 s.heap false false l1 l2).objs.size=s.heap.objs.size+2:=by rw[NB,d]
 have a:(zg3 s.heap false false l1 l2).objs.size=s.heap.objs.size+3:=by rw[NB,b]
 have f:(zg4 s.heap false false l1 l2).objs.size=s.heap.objs.size+4:=by rw[NB,a]
 have e:(zg5 s.heap false false l1 l2).get? (zg4 s.heap false false l1 l2).objs.size=some _:=MM _ rfl;have g:(zg5 s.heap false false l1 l2).get? (zg3 s.heap false false l1 l2).objs.size=some _:=Mu _<|MM _ rfl;have i:(zg5 s.heap false false l1 l2).get? (zg2 s.heap false false l1 l2).objs.size=some _:=Mu _<|Mu _<|MM _ rfl;have j:(zg5 s.heap false false l1 l2).get? (zg1 s.heap false l1).objs.size=some _:=Mu _<|Mu _<|Mu _<|MM _ rfl;have k:(zg5 s.heap false false l1 l2).get? s.heap.objs.size=some _:=Mu _<|Mu _<|Mu _<|Mu _<|MM _ rfl;show _/\_;rw[b,a,f]at e;rw[d,b]at i;rw[a]at g;rw[d]at j;rw[f];exact#v[#v[_,e,rfl],h _ e i g (show Tb.IsTupleIter _ _ _ _ from#v[_,k,rfl,rfl]) (show Tb.IsTupleIter _ _ _ _ from#v[_,j,rfl,rfl]) λc o x =>
  Mu _ (Mu _<|Mu _<|Mu _<|Mu _ x)]
end
section
variable [Feeds]{K:Qf}{X:Cx}{e1 e2:Ta}{te1 te2:TE}{m1 m2:DE->M My}{p tp:Pos}{es:List Ta}{tk:Nat}
noncomputable def qv (a b:DE->M My):DE->M (List My):=λE F=>(a E F).bind λp=>(b E p.2).bind λr=>match p.1,r.1 with
 | .tuple xs,.tuple ys=>some (lJ xs ys,r.2)
 | _,_=>none
def BC (K:Qf)(tl:TA):TI:=λd H R=>tl d H λf c=>∃b a,f=[.ref b,.ref a]/\∃ys e,SqA false K c b ys/\SqA false K c a e/\R (Itz false false K b a) c
def zP {l1 l2:Ta}{tl:TA}(hK:X.K=K)(hg:Gl X "zip")(hm:X.mg "zip" = none)(ha:PA X [l1,l2] tl)(hs:Td [l1,l2] X.env=(false,eval l1 X.env)::Td [l2] X.env:=by rfl)(hp:(Ti pos<|Td [l2] X.env).any (·.1)=false:=by rfl):PI X (.Tuple es tk tp) (.Call (.Name "zip" p) [l1,l2] [] pos) (BC K tl):=by
 subst hK;intro a s x H R I h;refine Call_ (cF I hg hm boot_zip<|Pe (thn (ha pos a s x H _ I h) λus s1 #v[S,C,j,G,L]=>?_) hs hp);obtain⟨i,g,e,ys,Q,n,m,q⟩:=L;subst e;cases G with
 | cons r l =>
  cases l with
  | cons J l =>
   cases l;cases r;cases J;obtain⟨d,F,A⟩:=SqA.get j n;obtain⟨b,E,y⟩:=SqA.get j m;have l1:i<s1.heap.objs.size:=by obtain⟨o,z,_⟩:=(show s1.heap.IsTuple i d.toArray from A);exact MA z
   have l2:g<s1.heap.objs.size:=by obtain⟨o,z,_⟩:=(show s1.heap.IsTuple g b.toArray from y);exact MA z
   refine yc (show s1.heap.IsTuple i d.toArray from A) (show s1.heap.IsTuple g b.toArray from y) λO B w v u t M=>?_
   have P:Inv X a x C { s1 with heap:=O }:=j.kept (t':=s1.toks) M;have D:ZipApart (s1.heap.objs.size+4) (s1.heap.objs.size+2) (s1.heap.objs.size+3) s1.heap.objs.size (s1.heap.objs.size+1) i g:=by generalize s1.heap.objs.size=N at l1 l2;exact Ey l1 l2
   refine wpAny_pyIter_zip B #v[s1.heap.objs.size+4,[s1.heap.objs.size+4,s1.heap.objs.size+2,s1.heap.objs.size+3,s1.heap.objs.size,s1.heap.objs.size+1],_,_,C,rfl,P,xU false false i g _ _ _ _ _,#v[D,B,w,#v[_,_,v],u,t],λc k=>?_,q];have f:s1.heap.objs.size<=c:=by simp only[MJ,NH,OS]at k;generalize s1.heap.objs.size=N at k;have k:@Eq Nat c (N+4) \/ @Eq Nat c (N+2) \/ @Eq Nat c (N+3) \/ @Eq Nat c N \/ @Eq Nat c (N+1):=k;show @LE.le Nat _ N c;omega
   exact j.fpOk f<|j.hok.fresh f
def zx (h1:Ev K X e1 te1 m1)(h2:Ev K X e2 te2 m2)(hm:X.mg "zip" = none)(hK:X.K=K:=by rfl)(hg:Gl X "zip":=by rfl)(hs:Td [e1,e2] X.env=(false,eval e1 X.env)::Td [e2] X.env:=by rfl)(hs2:Td [e2] X.env=[(false,eval e2 X.env)]:=by rfl)(hp:(Ti pos<|Td [e2] X.env).any (·.1)=false:=by rfl) :
  Ei K X (.Tuple es tk tp) (.Call (.Name "zip" p) [e1,e2] [] pos) (BC K<|x6 te1<|x6 te2 T4) (qv m1 m2):=#v[zP hK hg hm (n6 h1.pe (n6 h2.pe B1 hs2) hs) hs hp,λG B E F g H R D L I e q=>by
 obtain⟨⟨y,l⟩,e1,e⟩:=bS9 e;obtain⟨⟨z,A⟩,e2,e⟩:=bS9 e;refine h1.ok G B E F g H _ y l I e1 λv x j r c=>?_
 refine h2.ok G B E l g x _ z A (I.step j r) e2 λu w i o h=>?_
 have c:=c.same<|i.hid I.fB;dsimp only at e;cases y with
 | tuple ys =>
  cases z with
  | tuple C =>cases e;simp only[c8]at c h;obtain⟨a,m,rfl,k,n⟩:=c;obtain⟨t,d,rfl,b,f⟩:=h;exact#v[a,t,rfl,m,d,k.same f8,b.same f8,q _ w (j.trans i) o<|CV λJ M s=>#v[#v[(k.same s).same f8,n.same s],(b.same s).same f8,f.same s]]
  | _=>cases e
 | _=>cases e]
end
end
end L3
namespace L3
open PySem PySem.Spec PyProof.Rows L2 PySem.SeqAt
mutual
def ltW:My->My->Option Bool
 | .int i,.int j=>some<|decide (i<j)
 | .bool a,.bool b=>some (!a&&b)
 | .tuple xs,.tuple ys=>ltM xs ys
 | _,_=>none
def ltM:List My->List My->Option Bool
 | [],[]=>some false
 | [],_::_=>some true
 | _::_,[]=>some false
 | x::xs,y::ys=>if My.eqv x y=true then ltM xs ys else ltW x y
end
def Fj {P:SS}{w:SU}{A:SW}{E:SN->SR->Prop}{s:SR}{a b:Bool}{Q:SN->SR->Prop}(q:Q (.bool (!a&&b)) s):Tn (model P w) A (richCompare .Lt (.bool a)<|.bool b) Q E s:=by
 refine lt_bool (p:=a) (q:=b) ?_;have e:decide (b2i a<b2i b)=(!a&&b):=by cases a <;> cases b <;> rfl
 rw[e];exact q
def aS:∀(m:Nat) (da db:My) (A:SW) (s:SR) (a b:SN) (as bs:List SQ) (r:Bool),sizeOf da<m->Reads s.heap a da as->Reads s.heap b db bs->da.canLay0=true->db.canLay0=true ->
  A.units+min da.depth db.depth<Tv->ltW da db=some r->Dq A s a b r
 | 0,_,_,_,_,_,_,_,_,_,hm,_,_,_,_,_,_=>absurd hm<|Pq _
 | m+1,da,db,A,s,a,b,as,bs,r,hm,ra,rb,ha,hb,hu,hr=>by
  cases ra with
  | int i t =>
   cases rb with
   | int j u =>rw[ltW]at hr;cases hr;exact λP w E Q q=>lt_int q
   | _=>simp[ltW]at hr
  | bool a1 =>
   cases rb with
   | bool b1 =>rw[ltW]at hr;cases hr;exact λP w E Q q=>Fj q
   | _=>simp[ltW]at hr
  | tuple U T S I =>
   rename_i la oa B na c;cases rb with
   | tuple R O N D =>
    rename_i lb ob y nb d;rw[ltW]at hr;obtain⟨oc,od,dt,G⟩:=oa;obtain⟨ab,H,ad,k⟩:=ob;dsimp only at T S O N;subst T S O N;have lx:=N4 I;have ly:=N4 D;rw[ND]at lx ly;have v:My.canLayAll0 c=true:=ha;have p:My.canLayAll0 d=true:=hb;have o:A.units+min (My.depthAll c+1) (My.depthAll d+1)<Tv:=hu;intro P w E Q q;refine richCompare_meets_room (op:=.Lt) #v[_,U,rfl] #v[_,R,rfl] F.slot_tuple_lt F.entry_tuple_lt (F.args_tuple_lt_2 _ _)
     (nD la lb B y na nb od H G k (λj=>j<=min B.size y.size/\ltM (c.drop j) (d.drop j)=some r) r)
     #v[U,R,#v[Nv _,hr],λj Y X K=>?_,λj K hj=>?_,show SN.bool r≠SN.notImplemented/\Q (.bool r) s from#v[(λz=>nomatch z),q]] (room_here hu)
    .have n:j<c.length:=by omega
     have g:j<d.length:=by omega
     have e:=K.2;rw[Ng n,Ng g,ltM]at e;have W:=eqAt_readsAll c d A.in1 s B.toList y.toList _ _ I D v p (room_in o) j (by simpa using Y) (by simpa using X);have ep:pairEq c d j=My.eqv c[j] d[j]:=by simp[pairEq,n,g]
     rw[ep]at W;refine#v[_,by simpa using W,λz=>#v[by omega,?_],λz=>?_]
     .rw[Mx z]at e;exact e
     .rw[MC (by rw[z];decide)]at e;obtain⟨M,r1⟩:=P0 I j (by simpa using Y) n;obtain⟨L,Z⟩:=P0 D j (by simpa using X) g;obtain⟨c1,d1⟩:=gN v c[j]<|Oy n;obtain⟨c2,d2⟩:=gN p d[j]<|Oy g;have ac:sizeOf c[j]<sizeOf c:=Pu<|Oy n;have V:sizeOf (My.tuple c)=1+sizeOf c:=by simp
      have J:A.in1.units+min c[j].depth d[j].depth<Tv:=by have:=room_in o;have C:A.in1.units=A.units+1:=rfl;omega
      have:=aS m c[j] d[j] A.in1 s _ _ M L r (by omega) (by simpa using r1) (by simpa using Z) c1 c2 J e;simpa using this
    .obtain⟨t1,f⟩:=K;rcases Pj B.size y.size with z | z
     .have C:c.drop j=[]:=Os (by omega);have g:j<d.length:=by omega
      rw[C,Ng g,ltM]at f;cases f;exact(MW z).symm
     .have C:d.drop j=[]:=Os (by omega);rw[C]at f;have er:r=false:=by
       cases h:c.drop j with
       | nil=>rw[h,ltM]at f;cases f;rfl
       | cons x l=>rw[h,ltM]at f;cases f;rfl
      rw[er];exact(MX<|by omega).symm
   | _=>simp[ltW]at hr
  | _=>simp[ltW]at hr
end L3
namespace L3
open PySem PySem.Spec PyProof.Rows L2 PySem.SeqAt PySem.W
variable {ys:List My}
section
section
variable {prog:SS}{w:SU}{A:SW}{s:SR}
def vq {p q:SN}{r:Bool}{Q:Bool->SR->Prop}{E:SN->SR->Prop}(l:Dq A s p q r)(h:Q r s):Tn (model prog w) A (oneLt' false p q) Q E s :=
 kat_one p q (l prog w E _ h)
def mR {Q:Bool->SR->Prop}{r:Bool}:∀(xs ys:List My) (us vs:List SN) (as bs:List SQ) (i:Nat) (fin:Bool),ReadsAll s.heap us xs as->ReadsAll s.heap vs ys bs->My.canLayAll0 xs=true->My.canLayAll0 ys=true ->
  A.units+min (My.depthAll xs) (My.depthAll ys)<Tv->ltM xs ys=some r->fin=decide (us.length<vs.length)->Q r s->KatLex prog w A false fin Q (us.zip vs) i s
 | [],[],us,vs,_,_,i,fin,b,a,_,_,_,hr,hf,q=>by
  cases b;cases a;rw[ltM]at hr;cases hr;subst hf;exact kat_nil (by simpa using q)
 | [],y::ys,us,vs,_,_,i,fin,b,a,_,_,_,hr,hf,q=>by
  cases b;cases a;rw[ltM]at hr;cases hr;subst hf;exact kat_nil (by simpa using q)
 | x::xs,[],us,vs,_,_,i,fin,b,a,_,_,_,hr,hf,q=>by
  cases b;cases a;rw[ltM]at hr;cases hr;subst hf;exact kat_nil (by simpa using q)
 | x::xs,y::ys,us,vs,_,_,i,fin,b,a,ha,hb,hu,hr,hf,q=>by
  cases b with
  | cons j b =>
   cases a with
   | cons h a =>
    have d:x.canLay0=true/\My.canLayAll0 xs=true:=by simpa [My.canLayAll0] using ha
    have c:y.canLay0=true/\My.canLayAll0 ys=true:=by simpa [My.canLayAll0] using hb
    have l:My.depthAll (x::xs)=max x.depth (My.depthAll xs):=rfl;have k:My.depthAll (y::ys)=max y.depth (My.depthAll ys):=rfl;rw[l,k]at hu;have f:A.units+min x.depth y.depth<Tv:=by omega
    have g:A.units+min (My.depthAll xs) (My.depthAll ys)<Tv:=by omega
    rw[ltM]at hr;rw[Qc];refine kat_cons<|(eqAt_reads x y A s _ _ _ _ j h d.1 c.1 f) _ _ _ _ ?_;refine kat_go (λe=>kat_yes ?_) (λe=>kat_no ?_)
    .rw[Mx e]at hr;exact mR xs ys _ _ _ _ (i+1) fin b a d.2 c.2 g hr (by simpa using hf) q
    .rw[MC (by rw[e];decide)]at hr;exact vq (aS _ x y A s _ _ _ _ r (On _) j h d.1 c.1 f hr) q
def pz {xs:List My}{u v:SN}{as bs:List SQ}{r:Bool}{Q:Bool->SR->Prop}{E:SN->SR->Prop}(ra:Reads s.heap u (.tuple xs) as)(rb:Reads s.heap v (.tuple ys) bs)(ha:My.canLayAll0 xs=true)(hb:My.canLayAll0 ys=true)
  (hu:A.units+min (My.depthAll xs) (My.depthAll ys)<Tv) (hr:ltM xs ys=some r) (q:Q r s):Tn (model prog w) A (keyLt' (tuples' false) u v) Q E s:=by
 cases ra with
 | tuple f h e d =>
  cases rb with
  | tuple c g b a =>refine kat_lt f e c b<|mR xs ys _ _ _ _ 0 _ d a ha hb hu hr ?_ q;simp
def lr {xs:List My}{u v:SN}{as bs:List SQ}{r:Bool}{Q:SN->SR->Prop}{E:SN->SR->Prop}(ra:Reads s.heap u (.tuple xs) as)(rb:Reads s.heap v (.tuple ys) bs)(ha':My.canLayAll0 xs=true)(hb':My.canLayAll0 ys=true)
  (hu1:A.units+min (My.depthAll xs+1) (My.depthAll ys+1)<Tv) (hr:ltM xs ys=some r) (q:Q (.bool r) s):Tn (model prog w) A (call (.builtin "tuple.__lt__") [u,v]) Q E s:=by
 cases ra with
 | tuple I H G o =>
  rename_i Z T f V;cases rb with
  | tuple O D C k =>
   rename_i Y S e U;obtain⟨oc,P,dt,m⟩:=T;obtain⟨R,n,ab,d⟩:=S;dsimp only at H G D C;subst H G D C;have X:=N4 o;have W:=N4 k;rw[ND]at X W;refine PZ F.slot_tuple_lt #v[_,I,rfl] F.entry_tuple_lt (F.args_tuple_lt_2 _ _)
    (nD Z Y f e V U P n m d (λj=>j<=min f.size e.size/\ltM (xs.drop j) (ys.drop j)=some r) r)
    #v[I,O,#v[Nv _,hr],λj L K t=>?_,λj t hj=>?_,q]
   .have g:j<xs.length:=by omega
    have c:j<ys.length:=by omega
    have a:=t.2;rw[Ng g,Ng c,ltM]at a;have J:=eqAt_readsAll xs ys A.in1 s f.toList e.toList _ _ o k ha' hb' (room_in hu1) j (by simpa using L) (by simpa using K);have ep:pairEq xs ys j=My.eqv xs[j] ys[j]:=by simp[pairEq,g,c]
    rw[ep]at J;refine#v[_,by simpa using J,λz=>#v[by omega,?_],λz=>?_]
    .rw[Mx z]at a;exact a
    .rw[MC (by rw[z];decide)]at a;obtain⟨B,N⟩:=P0 o j (by simpa using L) g;obtain⟨y,M⟩:=P0 k j (by simpa using K) c;obtain⟨c1,d1⟩:=gN ha' xs[j]<|Oy g;obtain⟨c2,d2⟩:=gN hb' ys[j]<|Oy c;have p:A.in1.units+min xs[j].depth ys[j].depth<Tv:=by have:=room_in hu1;have i:A.in1.units=A.units+1:=rfl;omega
     have:=aS _ xs[j] ys[j] A.in1 s _ _ B y r (On _) (by simpa using N) (by simpa using M) c1 c2 p a;simpa using this
   .obtain⟨t1,b⟩:=t;rcases Pj f.size e.size with z | z
    .have i:xs.drop j=[]:=Os (by omega);have c:j<ys.length:=by omega
     rw[i,Ng c,ltM]at b;cases b;exact(MW z).symm
    .have i:ys.drop j=[]:=Os (by omega);rw[i]at b;have er:r=false:=by
      cases h:xs.drop j with
      | nil=>rw[h,ltM]at b;cases b;rfl
      | cons x l=>rw[h,ltM]at b;cases b;rfl
     rw[er];exact(MX<|by omega).symm
def xg {xs:List My}{u:SN}{as:List SQ}(ra:Reads s.heap u (.tuple xs) as):s.TypeIs u "tuple":=by
 cases ra with
 | tuple b a d c=>exact#v[_,b,a]
def tJ {xs:List My}{u v:SN}{as bs:List SQ}{r:Bool}{Q:Bool->SR->Prop}{E:SN->SR->Prop}(ra:Reads s.heap u (.tuple xs) as)(rb:Reads s.heap v (.tuple ys) bs)(ha:My.canLayAll0 xs=true)(hb:My.canLayAll0 ys=true)
  (hu:A.units+min (My.depthAll xs+1) (My.depthAll ys+1)<Tv) (hr:ltM xs ys=some r) (q:Q r s):Tn (model prog w) A (keyLt' oneType' u v) Q E s:=by rw[keyLt'_oneType,oneLt'_eq];simp only[Of];refine Ms (wpAny_cRoomFor_or (.inr<|by omega) ?_);refine Ms<|wpAny_callSpecialIfBound?_slot (xg ra) F.slot_tuple_lt<|lr ra rb ha hb hu hr ?_;exact Ot q
def uo {xs:List My}{u v:SN}{as bs:List SQ}{r:Bool}{Q:Bool->SR->Prop}{E:SN->SR->Prop}(ra:Reads s.heap u (.tuple xs) as)(rb:Reads s.heap v (.tuple ys) bs)(ha:My.canLayAll0 xs=true)(hb:My.canLayAll0 ys=true)
  (hu:A.units+min (My.depthAll xs+1) (My.depthAll ys+1)<Tv) (hr:ltM xs ys=some r) (q:Q r s):Tn (model prog w) A (keyLt' general' u v) Q E s :=
 vq (aS _ (.tuple xs) (.tuple ys) A s _ _ _ _ r (On _) ra rb ha hb hu (by rw[ltW];exact hr)) q
end
end
section
def ar (h:Tb):List SN->List (Option SN)->Prop
 | [],[]=>True
 | v::vs,f::fs=>(∃a o b n,v = .ref a/\h.get? a=some o/\o.cls = .type "tuple" /\ o.data = .seq b n/\b[0]? = f)/\ar h vs fs
 | _,_=>False
theorem ar.len {h:Tb}:∀{vs:List SN} {fs:List (Option SN)},ar h vs fs->vs.length=fs.length
 | [],[],_=>rfl
 | [],_::_,t=>t.elim
 | _::_,[],t=>t.elim
 | _::_,_::_,t=>by rw[ME,ME,ar.len t.2]
section
variable {M:Model}{A:SW}{E:SN->SR->Prop}{s:SR}
theorem mn:∀(vs:List SN) (fs:List (Option SN)) {Q:List (Option SN)->SR->Prop},ar s.heap vs fs->Q fs s->Tn M A (vs.mapM firstOfTuple') Q E s
 | [],[],_,_,h=>by rw[List.mapM_nil];exact Mt h
 | [],_::_,_,t,_=>t.elim
 | _::_,[],_,t,_=>t.elim
 | v::vs,f::fs,Q,t,h=>by obtain⟨⟨a,o,i,n,rfl,b,g,e,d⟩,t⟩:=t;rw[List.mapM_cons];refine Ms ?_;rw[kas_first_eq];refine Ms (Looks.here (show Looks M s.heap (typeOf<|.ref a) o.cls from(Rx b).andThen .now) ?_);rw[g,MC (by first | decide | simp)];refine Ms<|listItems_at b e<|Mt ?_;rw[d];exact Ms (mn vs fs (Q:=λbs c=>Tn M A (pure (f::bs)) Q E c) t<|Mt h)
theorem jM:∀{vs:List SN} {fs:List (Option SN)},ar s.heap vs fs->∀v∈vs,Looks M s.heap (typeOf v) (.type "tuple")
 | [],[],_,v,hv=>by cases hv
 | [],_::_,t,_,_=>t.elim
 | _::_,[],t,_,_=>t.elim
 | v::vs,f::fs,t,u,b=>by
  rcases MJ.1 b with rfl | b
  .obtain⟨⟨a,o,e,n,rfl,c,d,h,g⟩,_⟩:=t;rw[<-d];exact(Rx c).andThen .now
  .exact jM t.2 u b
def qx (fs:List (Option SN)):SortKind:=if fs.all (·.isSome) then tuples' false else if (fs.head?.bind id).isSome then general' else oneType'
def Cy {vs:List SN}{fs:List (Option SN)}{Q:SortKind->SR->Prop}(t:ar s.heap vs fs)(hne:0<fs.length)(hT:∀f,some f∈fs->Looks M s.heap (typeOf f) (.type "tuple"))(h:Q (qx fs) s):Tn M A (keyKind' vs.toArray) Q E s:=by
 unfold qx at h;rw[kat_kind_eq,Sr,Sy];refine Ms<|Ms<|mn vs _ t<|Mt ?_;by_cases b:fs.all (·.isSome)=true
 .rw[Mx b]at h;rw[Mx<|by simpa using b];refine Ms<|OG ?_;obtain⟨d,rfl⟩:∃d:List SN,fs=d.map some:=by
   refine#v[fs.filterMap id,?_];clear h t hT hne;induction fs with
   | nil=>rfl
   | cons f fs m =>rw[PU,Ny]at b;obtain⟨g,rfl⟩:=NX.1 b.1;simp only[List.filterMap_cons_some (f:=id) (a:=some g) rfl,MB];rw[<-m b.2]
  have j:((d.map some).toArray.filterMap id)=d.toArray:=by simp
  rw[j,oneTypeOnly'_eq,Sr,Sy];refine Ms (Ms<|Ms<|kas_mapM (r:=.type "tuple") _ (λv e o i=>(hT v<|QA e).here i)<|Mt ?_);have c:((List.map (λ_=>SN.type "tuple") d).toArray.all λx=>x == SN.type "tuple")=true:=by simp only[List.all_toArray,Sx,Pc];intro _ _;rfl
  rw[Mv]at hne;have k:(List.map (λ_=>SN.type "tuple") d).toArray[0]? = some (.type "tuple"):=by
   match d,hne with
   | g::d,_=>simp
  rw[k];simp only[c,Of];exact Mt<|Mt h
 .rw[MC b]at h;rw[MC<|by simpa using b];have n:fs.toArray[0]? = fs.head?:=by cases fs <;> simp
  rw[n];by_cases l:(fs.head?.bind id).isSome=true
  .rw[Mx l]at h ⊢;exact Mt h
  .rw[MC l]at h ⊢;have hl:=t.len;rw[oneTypeOnly'_eq,Sr,Sy];refine Ms (Ms<|Ms<|kas_mapM (r:=.type "tuple") _ (λv e o i=>(jM t v e).here i)<|Mt ?_);have c:((List.map (λ_=>SN.type "tuple") vs).toArray.all λx=>x == SN.type "tuple")=true:=by simp only[List.all_toArray,Sx,Pc];intro _ _;rfl
   have k:(List.map (λ_=>SN.type "tuple") vs).toArray[0]? = some (.type "tuple"):=by
    match vs,(show 0<vs.length by omega) with
    | g::d,_=>simp
   rw[k];simp only[c,Of];exact Mt<|Mt h
end
end
section
def iE (d:List My):Prop:=My.canLayAll0 d=true/\My.depthAll d<=20/\∀x,d.head? = some x->∃e,x = .tuple e
def StK (κ:Nat->Int)(xs ys:List V):Prop:=ys.length=xs.length/\∃p,SoS κ p xs.length/\∀i,i<xs.length->ys[i]? = xs[p i]?
def gX {h:Tb}:∀{vs:List SN} {ds:List (List My)},vs.length=ds.length->(∀(i:Nat) (v:SN) (d:List My),vs[i]? = some v->ds[i]? = some d->∃as,Reads h v (.tuple d) as)->(∀d∈ds,iE d) ->
  ∃fs,ar h vs fs/\∀(M:Model) f,some f∈fs->Looks M h (typeOf f) (.type "tuple")
 | [],[],_,_,_=>#v[[],True.intro,λ_ f b=>by cases b]
 | [],_::_,hl,_,_=>by simp at hl
 | _::_,[],hl,_,_=>by simp at hl
 | v::vs,d::ds,hl,hr,hg=>by
  obtain⟨fs,t,w⟩:=gX (vs:=vs) (ds:=ds) (by simpa using hl) (λi v d y x=>hr (i+1) v d (by simpa using y)<|by simpa using x) λd u=>hg d<|Mw _ u
  obtain⟨as,r⟩:=hr 0 v d rfl rfl;cases r with
  | tuple s q p j =>
   rename_i a o c n;refine#v[c[0]? :: fs,#v[#v[a,o,c,n,rfl,s,q,p,rfl],t],λM f b=>?_];rcases MJ.1 b with e | b
   .have g:=(hg d MD).2.2;rw[<-Ql]at e;generalize c.toList=us at j e;cases j with
    | nil=>simp at e
    | cons k A =>
     simp at e;subst e;obtain⟨z,rfl⟩:=g _ rfl;cases k with
     | tuple m l C B =>rw[<-l];exact(Rx m).andThen .now
   .exact w M f b
end
end L3
namespace L3
open PySem PySem.Spec PyProof.Rows L2
section
def V6 (c:Nat)(ps:List (My×My))(d:My):Option My:=(ps.find? λp=>decide (R0 c p.1=R0 c d)).map (·.2)
def aR (c:Nat)(ps:List (My×My))(d e:My):List (My×My):=if (V6 c ps d).isSome then ps.map (λp=>if R0 c p.1=R0 c d then(p.1,e) else p) else ps++[(d,e)]
section
variable {K:Qf}{H:Hp}{c:Nat}
theorem pK {d:My}{v:V}:∀{c:Nat} {k:(J8 c).K},R0 c d=some k->c8 K H d v->∃b,v = .ref b/\(J8 c).At K H k b
 | 0,_,e,h=>qH e h
 | 1,_,e,h=>vL e h
 | _+2,_,e,h=>nI e h
theorem BE:∀c:Nat,(J8 c).dp<=8
 | 0=>by decide
 | 1=>by decide
 | _+2=>by show X6.dp<=8;decide
theorem xQ:∀{ps:List (My×My)} {xs:List ((J8 c).K×SQ×V)},KVs K H c ps xs->xs.length=ps.length
 | [],_,h=>by cases h;rfl
 | _::_,_,#v[k,b,v,r,e,h1,h2,h3,h4]=>by rw[e,ME,ME,xQ h4]
theorem kU:∀{ps:List (My×My)} {xs:List ((J8 c).K×SQ×V)},KVs K H c ps xs->∀x∈xs,(J8 c).At K H x.1 x.2.1
 | [],_,h,x,a=>by cases h;cases a
 | _::_,_,#v[k,b,v,r,e,h1,h2,h3,h4],x,a=>by
  rw[e]at a;rcases MJ.1 a with rfl | a
  .obtain⟨g,f,d⟩:=pK h1 h2;cases f;exact d
  .exact kU h4 x a
theorem pB {d:My}{k:(J8 c).K}(hk:R0 c d=some k):∀{ps:List (My×My)} {xs:List ((J8 c).K×SQ×V)},KVs K H c ps xs->(∃e v,V6 c ps d=some e/\kr xs k=some v/\c8 K H e v)\/(V6 c ps d=none/\kr xs k=none)
 | [],_,h=>by cases h;exact .inr #v[rfl,rfl]
 | p::ps,_,#v[k',b,v,r,e,h1,h2,h3,h4]=>by
  subst e;unfold V6 kr;by_cases a:k'=k
  .subst a;refine .inl #v[p.2,v,?_,?_,h3]
   .rw[Nl (by rw[h1,hk];exact MW rfl)];rfl
   .rw[Nl (p:=λx:(J8 c).K×SQ×V=>decide (x.1=k'))<|MW rfl];rfl
  .rw[Nm (by rw[h1,hk];exact λz=>a<|MH<|MS z),Nm (p:=λx:(J8 c).K×SQ×V=>decide (x.1=k))<|λz=>a<|MS z];exact pB hk h4
def oX {d e:My}{k:(J8 c).K}{v:V}(hk:R0 c d=some k)(he:c8 K H e v):∀{ps:List (My×My)} {xs:List ((J8 c).K×SQ×V)},KVs K H c ps xs ->
  KVs K H c (ps.map λp=>if R0 c p.1=R0 c d then(p.1,e) else p) (xs.map λx=>if x.1=k then(x.1,x.2.1,v) else x)
 | [],_,h=>by cases h;rfl
 | p::ps,_,#v[k',b,v',r,ex,h1,h2,h3,h4]=>by
  subst ex;rw[MB,MB];by_cases a:k'=k
  .rw[Mx (by rw[h1,hk,a]),Mx a];exact#v[k',b,v,_,rfl,h1,h2,he,oX hk he h4]
  .rw[MC (by rw[h1,hk];exact λz=>a<|MH z),MC a];exact#v[k',b,v',_,rfl,h1,h2,h3,oX hk he h4]
theorem qO {d e:My}{k:(J8 c).K}{b:SQ}{v:V}(hk:R0 c d=some k)(hd:c8 K H d (.ref b))(he:c8 K H e v):∀{ps:List (My×My)} {xs:List ((J8 c).K×SQ×V)},KVs K H c ps xs->KVs K H c (ps++[(d,e)]) (xs++[(k,b,v)])
 | [],_,h=>by cases h;exact#v[k,b,v,[],rfl,hk,hd,he,rfl]
 | p::ps,_,#v[k',b',v',r,ex,h1,h2,h3,h4]=>by subst ex;exact#v[k',b',v',_,rfl,h1,h2,h3,qO hk hd he h4]
def EJ {d e:My}{k:(J8 c).K}{b:SQ}{v:V}{ps:List (My×My)}{xs:List ((J8 c).K×SQ×V)}(h:KVs K H c ps xs)(hk:R0 c d=some k)(hd:c8 K H d (.ref b))(he:c8 K H e v):KVs K H c (aR c ps d e) (kJ xs k b v):=by
 unfold aR kJ;rcases pB hk h with ⟨i,g,f,a,_⟩ | ⟨f,a⟩
 .rw[f,a,Mx (show(some i).isSome=true from rfl),Mx<|show(some g).isSome=true from rfl];exact oX hk he h
 .rw[f,a,MC (show ¬(none:Option My).isSome=true from nofun),MC<|show ¬(none:Option V).isSome=true from nofun];exact qO hk hd he h
theorem yo:∀{ps:List (My×My)} {xs:List ((J8 c).K×SQ×V)},KVs K H c ps xs->c6 K H (ps.map (·.1)) (xs.map λx=>.ref x.2.1)
 | [],_,h=>by cases h;exact c6.nil
 | _::_,_,#v[k,b,v,r,e,h1,h2,h3,h4]=>by subst e;exact c6.cons h2<|yo h4
end
section
variable [Feeds]{K:Qf}{X:Cx}{e o i f value:Ta}{te ty:TE}{pos p px pos':Pos}
def FAt.dict {G:GF}{H:Hp}{F:FS}{x:Nat}{a:SQ}{φ:Tb->Prop}{o:HO}(h:FAt K G H F)(hf:a ∉ m8 K G)(ha:H a=some (.ext φ))(hs:iX a φ):FAt K G (upd H a o) F:=by
 refine#v[?_,λt ht=>?_]
 .have b:=h.1;cases G with
  | none=>trivial
  | some q =>obtain⟨d,E⟩:=q;exact Feeds.congr b (i8 λz=>hf (by rw[<-z];simp[m8])) (i8 λz=>hf (by rw[<-z];simp[m8]))
 .obtain⟨l,b,n,m⟩:=h.2 t ht;refine#v[l,?_,n,λpos u q=>?_]
  .rw[i8 λz=>by rw[z,ha]at b;cases b];exact b
  .obtain⟨v,k,c⟩:=m pos u q;refine#v[v,k,?_];rw[i8 λz=>?_]
   .exact c
   .rw[z,ha]at c;have e:φ = λh=>h.CodeRec (.ref a) (Ff t.1):=by have:=MH c;unfold cdO at this;injection this
    obtain⟨B,f,y,C,D,p,s⟩:=hs;rw[e]at f;obtain⟨I,A,j,w,r,g,i,_⟩:=f;cases r;rw[p]at g;cases g;rw[s]at i;cases i
def Sit.writeD {G:GF}{B0 B:List SQ}{H0:Hp}{E:DE}{F:FS}{σ:St}{H:Hp}{i c:Nat}{ps ps':List (My×My)}{x:SQ}{φ':Tb->Prop}(S:Sit K G B0 H0 E F σ H)(s:∀b∈B0,b∈B)(sn:∀b∈B,b∈B0\/H0 b=none)(I:SitE K G B E F σ H)
  (ei:E[i]? = some (some<|DV.dic true c ps)) (si:σ[i]? = some (some<|V.ref x)) (hs:iX x φ') (hd:iQ K (hid H B) c ps' x φ') :
  Sit K G B0 H0 (E.set i<|some<|.dic true c ps') F σ (upd H x<|.ext φ'):=by
 have hl:i<E.length:=(MK.1 ei).1;obtain⟨v,W,x',xs,rfl,hB,hf,Y,hn,_⟩:=I.loc i _ ei;rw[si]at W;cases W;have D:hid (upd H x<|.ext φ') B=hid H B:=aW hB;obtain⟨⟨n1,n2⟩,n3⟩:=S.dic i c ps x ei si;refine#v[#v[B,s,sn,#v[I.fd.dict (x:=0) hf Y hn,I.fB,λb hb=>?_,by rw[NO];exact I.ln,λj y a=>?_]],S.fB,λb o Q nb=>?_,λj C g a A=>?_,λj k C N g a u A J=>?_,λj c' ab g a A=>?_]
 .by_cases h:b=x
  .subst h;exact#v[_,j3]
  .rw[i8 h];exact I.bk b hb
 .by_cases e:i=j
  .subst e;rw[ML hl]at a;cases a;exact#v[.ref x,si,x,φ',rfl,hB,hf,j3,hs,by rw[D];exact hd]
  .rw[MF e]at a;obtain⟨w,U,t⟩:=I.loc j y a;refine#v[w,U,?_];cases y with
   | dat d=>show c8 K (hid (upd H x _) B) d w;rw[D];exact t
   | feed=>exact t
   | fn _=>exact t
   | adr _=>exact t
   | own C =>
    obtain⟨g,l,rfl,r,n,f,p⟩:=t;have m:g≠x:=λz=>by rw[z,Y]at f;cases f
    exact#v[g,l,rfl,r,n,by rw[i8 m];exact f,by rw[D];exact p]
   | dic w9 c9 L =>
    obtain⟨g,l,rfl,r,n,f,M,p⟩:=t;have m:g≠x:=λz=>e<|n3 j w9 c9 L a<|z▸U
    exact#v[g,l,rfl,r,n,by rw[i8 m];exact f,M,by rw[D];exact p]
 .rw[i8]
  .exact S.kp b o Q nb
  .intro z;subst z;rw[n1]at Q;cases Q
 .by_cases e:i=j
  .subst e;rw[ML hl]at a;cases a
  .rw[MF e]at a;exact S.own j C g a A
 .by_cases e:i=j
  .subst e;rw[ML hl]at a;cases a
  .by_cases Z:i=k
   .subst Z;rw[ML hl]at u;cases u
   .rw[MF e]at a;rw[MF Z]at u;exact S.inj j k C N g a u A J
 .have back:∀(j:Nat) (w:Bool) (R:Nat) (q:List (My×My)),(E.set i<|some<|.dic true c ps')[j]? = some (some<|DV.dic w R q)->∃q,E[j]? = some (some<|DV.dic w R q):=λj w R q a=>by
   by_cases e:i=j
   .subst e;rw[ML hl]at a;cases a;exact#v[ps,ei]
   .rw[MF e]at a;exact#v[q,a]
  obtain⟨q1,P⟩:=back j _ _ _ a;obtain⟨h1,h2⟩:=S.dic j c' q1 g P A;refine#v[h1,λk w' T X u J=>?_];obtain⟨q2,O⟩:=back k _ _ _ u;exact h2 k w' T q2 O J
def fA (i c:Nat):DE->M Out:=λE F=>if i<E.length then some (.nx<|E.set i<|some<|.dic true c [],F) else none
def zX (i c:Nat){x:Str}(hN:X.N.Nodup)(h9:c≠9:=by decide)(hi:X.N[i]? = some x:=by rfl)(hx:Loc X.env.scope x:=by walk_at "v")(hs:Tp (.Dict [] [] p) (some<|.Name x pos') pos.line X.env=pure false:=by rfl)(hf:X.fn x=true\/X.env.scope.names.lookup x=some .local:=by walk_at "v") :
  Ss K X (.Assign [.Name x pos'] (.Dict [] [] p) pos) (bA (Cj<|J8 c)<|O8 i) (fA i c) :=
 #v[O1 hN hi hx Ax hs hf,λG B0 j E F h H D r k S e q=>by
  unfold fA at e;split at e
  .rename_i hl;cases e;obtain⟨B,s,f,I⟩:=S.ex;intro a b d;have g:Kp (m8 K G) H (upd H a<|.ext<|NDi (J8 c) a []):=Kp.upd b;have r:wF K B H (upd H a<|.ext<|NDi (J8 c) a []) (.dic true c []) (.ref a):=#v[rfl,a,_,rfl,b,j3,let #v[_,z]:=d;z.n,.inl #v[h9,[],rfl,rfl]];exact q _ _ (S.putC s f I g (I.fd.same<|j5.upd b) r hl).1
  .cases e]
def U2 (E:DE)(i:Nat):Option (Bool×Nat×List (My×My)):=match E[i]? with
 | some (some<|.dic w c ps)=>some (w,c,ps)
 | _=>none
def K6 {E:DE}{i:Nat}{w:Bool}{c:Nat}{ps:List (My×My)}(h:U2 E i=some (w,c,ps)):E[i]? = some (some<|DV.dic w c ps):=by
 unfold U2 at h;split at h
 .rename_i e;cases h;exact e
 .cases h
noncomputable def qB (i c:Nat)(v k:DE->M My):DE->M Out:=λE F=>(v E F).bind λp=>(k E p.2).bind λq=>(U2 E i).bind λd=>if d.1=true/\d.2.1=c/\(R0 c q.1).isSome=true/\d.2.2.length<Tc then some (.nx<|E.set i<|some<|.dic true c<|aR c d.2.2 q.1 p.1,q.2) else none
def zv (i c:Nat){x:Str}{m mb:DE->M My}(hu:X.A.units+9<Tv)(hv:Ev K X value te m)(hk:Ev K X e ty mb)(hK:X.K=K)(h9:c≠9:=by decide)(hN:X.N[i]? = some x:=by rfl)(hvis:Vis X.env.scope x:=by first | exact Or.inl rfl | exact Or.inr (Or.inl rfl) | exact Or.inr<|Or.inr rfl)(hd:nDb x:=by decide)(hcd:nCd x:=by decide)
  (hs:Tp value (some<|.Subscript (.Name x px) e pos') pos.line X.env=pure false:=by rfl) :
  Ss K X (.Assign [.Subscript (.Name x px) e pos'] value pos) (Bo (J8 c) K (Q2 i) ty te) (qB i c m mb):=by
 subst hK;refine#v[yO hu (BE c) (D5 hN hvis hd hcd) hk.pe hv.pe hs,λG B0 H0 E F l H D r F' S e q=>?_];obtain⟨⟨d,Z⟩,e1,e⟩:=bS9 e;obtain⟨⟨n,F2⟩,V,e⟩:=bS9 e;obtain⟨⟨w,W,ps⟩,e4,e⟩:=bS9 e;dsimp only at e V;split at e;case isFalse=>cases e
 rename_i hc;obtain⟨rfl,rfl,p,j⟩:=hc;cases e;obtain⟨B,s,sn,I⟩:=S.ex;have T:=K6 e4;refine hv.ok G B E F l H _ d Z I e1 λv H1 P f1 h1=>?_
 have L:=I.step P f1;obtain⟨u,N,a,φ,rfl,hB,hf,o,hn,C⟩:=L.loc i _ T;obtain⟨g,rfl,A⟩:=C.not9 h9;refine#v[_,N,hk.ok G B E Z l H1 _ n _ L V λy Y h R Q=>?_];have I2:=L.step h R;have S2:=S.step (P.trans h) R;have f:=A.same<|h.hid I.fB;obtain⟨k,U⟩:=NX.1 p;obtain⟨b,rfl,hb⟩:=pK U Q;have O:∀J g,SqT X.K (hid Y B) J g->SqT X.K Y J g:=λJ g z=>z.same f8
 refine#v[a,_,rfl,#v[g,k,b,h a _ o hf,λx o=>(J8 W).keeps (kU f x o) O,rfl,(J8 W).keeps hb O,by rw[xQ f];exact j,rfl],λt=>?_];exact q l _ (S2.writeD s sn I2 T N (let #v[_,z]:=t _ j3;z.n)<|.inl #v[h9,_,rfl,EJ f U Q<|h1.same<|h.hid I.fB])
noncomputable def mT (i c:Nat)(k:DE->M My):DE->M My:=λE F=>(k E F).bind λq=>(U2 E i).bind λd=>if d.2.1=c/\(R0 c q.1).isSome=true then(V6 c d.2.2 q.1).bind λz=>some (z,q.2) else none
def zL (i c:Nat){x:Str}{mb:DE->M My}(hu:X.A.units+9<Tv)(hk:Ev K X e ty mb)(hK:X.K=K)(hsl:EA e)(h9:c≠9:=by decide)(hN:X.N[i]? = some x:=by rfl)(hvis:Vis X.env.scope x:=by first | exact Or.inl rfl | exact Or.inr (Or.inl rfl) | exact Or.inr<|Or.inr rfl)(hd:nDb x:=by decide)(hcd:nCd x:=by decide) :
  Ev K X (.Subscript (.Name x px) e pos) (Ca (J8 c) K (Q2 i) ty) (mT i c mb):=by
 subst hK;refine#v[zy hu (BE c) (D5 hN hvis hd hcd) hk.pe hsl,λG B E F J H Q r F' I e q=>?_];obtain⟨⟨n,F2⟩,Y,e⟩:=bS9 e;obtain⟨⟨w,C,ps⟩,W,e⟩:=bS9 e;dsimp only at e;split at e;case isFalse=>cases e
 rename_i O;obtain⟨rfl,l⟩:=O;obtain⟨z,g,e⟩:=bS9 e;cases e;have V:=K6 W;obtain⟨u,L,a,Z,rfl,hB,N,j,hn,o⟩:=I.loc i _ V;obtain⟨d,rfl,m⟩:=o.not9 h9;refine#v[_,L,hk.ok G B E F J H _ n _ I Y λy D h U R=>?_];have f:=m.same<|h.hid I.fB;obtain⟨k,A⟩:=NX.1 l;obtain⟨b,rfl,P⟩:=pK A R;have t:∀s d,SqT X.K (hid D B) s d->SqT X.K D s d:=λs d z=>z.same f8
 rcases pB A f with ⟨z',v,p,T,S⟩ | ⟨p,_⟩
 .rw[p]at g;cases g;exact#v[a,v,rfl,#v[d,k,b,h a _ j N,λx j=>(J8 C).keeps (kU f x j) t,rfl,(J8 C).keeps P t,T.symm],q _ _ h U S]
 .rw[p]at g;cases g
def mI (i c:Nat):DE->M My:=λE F=>(U2 E i).bind λd=>if d.2.1=c then some (.list (d.2.2.map (·.1)),F) else none
end
end
variable {ts:List (List My)}{κ:Nat->Int}
section
def uR (d:List My):List (List My)->List (List My)
 | []=>[d]
 | e::r=>if ltM e d=some true then e::uR d r else d::e::r
def fh:List (List My)->List (List My)
 | []=>[]
 | d::r=>uR d<|fh r
def kx (ts:List (List My))(κ:Nat->Int):Prop:=ts.length<64/\(∀d∈ts,iE d)/\∀(i j:Nat) (b a:List My),i≠j->ts[i]? = some b->ts[j]? = some a->ltM b a=some (decide (κ i < κ j))
def hZ:List My->List (List My)
 | []=>[]
 | .tuple d::r=>d::hZ r
 | _::r=>hZ r
theorem bQ:∀ts:List (List My),hZ (ts.map .tuple)=ts
 | []=>rfl
 | d::r=>by rw[MB,hZ,bQ r]
open Classical in
def gZ:List My->Option My
 | [.list ds]=>if ∃ts κ,ds=ts.map .tuple/\kx ts κ then some (.list<|(fh<|hZ ds).map .tuple) else none
 | _=>none
def AV (h:kx ts κ):gZ [.list<|ts.map .tuple]=some (.list<|(fh ts).map .tuple):=by unfold gZ;dsimp only;rw[Mx #v[ts,κ,rfl,h],bQ]
theorem sy {p:Int×List My}:∀{l:List (Int×List My)},(∀q∈l,ltM q.2 p.2=some (decide (q.1<p.1)))->(cb p l).map Prod.snd=uR p.2 (l.map Prod.snd)
 | [],_=>rfl
 | q::r,h=>by
  have b:=h q MD;rw[cb,MB,uR];by_cases a:p.1<=q.1
  .rw[Mx a,MC (by rw[b];intro z;have:=MS<|MH z;omega)];rfl
  .rw[MC a,Mx (by rw[b,MW<|by omega]),MB,sy λq c=>h q<|Mw _ c]
theorem sF:∀{l:List (Int×List My)},l.Pairwise (λp q=>ltM q.2 p.2=some (decide (q.1<p.1)))->(N3 l).map Prod.snd=fh (l.map Prod.snd)
 | [],_=>rfl
 | p::r,h=>by rw[Ox]at h;rw[N3,MB,fh,<-sF h.2];exact sy λq a=>h.1 q<|(V7 r).mem_iff.mp a
def uj (h:kx ts κ):(N3<|((List.range ts.length).map κ).zip<|ts.map My.tuple).map Prod.snd=(fh ts).map .tuple:=by
 have e:((List.range ts.length).map κ).zip (ts.map My.tuple)=(((List.range ts.length).map κ).zip ts).map λq=>(q.1,My.tuple q.2):=by rw[List.zip_map_right];rfl
 rw[e,cm My.tuple,Nn];have d:(((List.range ts.length).map κ).zip ts).map Prod.snd=ts:=by refine List.map_snd_zip ?_;simp
 rw[show(Prod.snd ∘ λq:Int×List My=>(q.1,My.tuple q.2))=My.tuple ∘ Prod.snd from rfl,<-Nn,sF,d];rw[Py];intro i j f b c;have a:j<ts.length:=by simpa using b
 simp only[List.getElem_zip,Pa,QJ];exact h.2.2 j i _ _ (by omega) (MN a) (MN<|by omega)
theorem lW {K:Qf}{H:Hp}:∀{ts:List (List My)} {zs:List V},c6 K H (ts.map .tuple) zs->∀(i:Nat) (z:V) (d:List My),zs[i]? = some z->ts[i]? = some d->c8 K H (.tuple d) z
 | [],zs,h,i,z,d,_,e=>by simp at e
 | t::ts,zs,h,i,z,d,e1,e2=>by
  rw[MB]at h;simp only[c6]at h;obtain⟨x,r,rfl,b,a⟩:=h;cases i with
  | zero=>cases e1;cases e2;exact b
  | succ i=>exact lW a i z d (by simpa using e1) (by simpa using e2)
end
end L3
namespace L3
open PySem PySem.W PySem.Spec PyProof.Rows L2
variable {prog:SS}{R:Result->SR->Prop}{C Wt:SQ}
section
abbrev vMro :List SN:=[.type "ValueError",.type "Exception",.type "BaseException",.type "object"]
structure ECls (K:Frag) (Wt C f:SQ):Prop where
 obj:∃nm q N bs hdct sn sub ab col dd k0 k1 k2 k3 k5,K.lookup C=some (excClassObj nm q C N bs (.ref Wt::vMro) hdct sn sub ab col dd k0 k1 k2 k3 k5 "ValueError.__new__")
 top:∃c0 dd cd sl,K.lookup Wt=some { cls:=c0,dict:=dd,data:=.cls cd,slots:=sl }/\nsOkIn K cd.ns=true/\nsIn K cd.ns "__init__" = some none
 init:findIn K (.ref C) "__init__" = some (some<|.ref f)
 fn:typeIn K (.ref f)=some (.type "function")
 call:specialIn K (.ref C) "__call__" = some (some<|.builtin "type.__call__")
 typ:instIn K (.ref C) (.type "type")=some true
 kp:keepIn K (.ref C)=true
 dict:(clsIn K C).any (·.hasDict)=true
 sa:findIn K (.ref C) "__setattr__" = some (some<|.builtin "object.__setattr__")
abbrev aM (C t:SQ)(dx:Option SQ):Te:={ cls:=.ref C,dict:=dx,data:=.fields #[.ref t,.none,.none,.none,.bool false,.none] }
section
variable {w:SU}{A:SW}{E:SN->SR->Prop}{K:Frag}{f:SQ}{h:Tb}{g:Array GenState}{d:Drawn}{t:Nat}{os:OsState}
def ECls.tail (c:ECls K Wt C f)(X:K.In h):OwnTail h vMro (.ref Wt::vMro):=by obtain⟨g,dd,e,d,l,a,b⟩:=c.top;exact .own (X _ _ l) (.of_isNs<|isNs_of_in X a) (nsMap_none_of_in X a b) .base
def xp {rest:List SN}(c:ECls K Wt C f)(X:K.In h)(hz:rest.length<=Tc)
  (hq:codeAny (model prog w) (A.under<|.builtin "type.__call__" #v[.ref C::rest,[]]) (.call (.ref f) #v[.ref (h.objs.size+1)::rest,[]]) (InitBack (h.objs.size+1) R)
   #v[(h.push { cls:=.type "tuple",data:=.seq rest.toArray }).push<|aM C h.objs.size none,g,d,t,os]) :
  codeAny (model prog w) A (.call (.ref C) #v[rest,[]]) R #v[h,g,d,t,os]:=by
 obtain⟨P,q,N,bs,x,L,sub,ab,G,dd,Y,W,V,U,S,lk⟩:=c.obj;have j:=X _ _ lk;have T:=c.tail X;have call:=looks_specialIn (M:=model prog w) X c.call;have l:=looks_instIn (M:=model prog w) X c.typ;have hi:=QN (M:=model prog w) X c.init;have p:=PySem.F.excBase_ValueError;refine codeAny_of_tree ?_;show Tn _ _ (callAny (.ref C) _) _ _ _;refine nd_load j ?_;show Tn _ _ (callAny.viaDunder (.ref C) _) _ _ _;unfold callAny.viaDunder;refine Ms<|call.at ?_;dsimp only;rw[tc_bind];refine Ms<|Mt<|Ms<|Mt ?_;refine Mt (a:=Fin.again<|.call (.builtin "type.__call__") #v[.ref C::rest,[]]) #v[rfl,?_];refine codeAny_call_builtin_at (Code.quiet_builtin _<|by decide +kernel) entry_typeCall<|check_slot tc_kind tc_split l (tc_args _ _ _) ?_;unfold Builtin.«type.__call__»;have Z:Looks (model prog w) h (mroOf<|.ref C) (.ref C :: .ref Wt::vMro):=((Rx (part:=none) j).andThen .now).andThen .now;have u:Looks (model prog w) h (Bind.madeBy<|.ref C) (some "ValueError.__new__"):=λA Q E s k q=>by obtain⟨m,gg,F,J,O⟩:=s;exact wpAny_madeBy_exc (k _ _ j) q
 repeat (first | simp only[List.isEmpty_cons,Na,NJ] | with_reducible refine PY ?_ | lk)
 refine codeAny_call_builtin_code (Code.quiet_builtin _ p.quiet)<|wpAny_check_new_subT p T j ?_;refine codeAny_exc_new_subT p T j ?_ hz;generalize m:(h.push { cls:=.type "tuple",data:=.seq rest.toArray }).push (aM C h.objs.size none)=h1 at hq ⊢;have y:∀b o,h.get? b=some o->h1.get? b=some o:=λb o z=>by rw[<-m];exact Mu _<|Mu _ z
 have i:h1.get? (h.objs.size+1)=some (aM C h.objs.size none):=by rw[<-m];heap_get
 have n:K.In h1:=X.keeps y;have I:Looks (model prog w) h1 (typeOf<|.ref<|h.objs.size+1) (.ref C):=(Rx i).andThen .now;have B:mroIn K C (.ref C)=some true:=by unfold mroIn clsIn;rw[lk];simp
 have own:=looks_mroIn (M:=model prog w) n B;have D:=QN (M:=model prog w) n c.init;have H:=bind_fn (M:=model prog w) n (.ref<|h.objs.size+1) c.fn;show Tn _ _ _ _ _ _;unfold isInstance callSpecial? specialOf;repeat (first | with_reducible refine PY ?_ | lk)
 refine RD hq λr s2 z=>?_
 rcases r with e | (v | _ | _ | _) <;> first | exact z | exact z.elim | skip
 obtain⟨rfl,z⟩:=z;exact Mt<|Mt z
end
end
variable {mA:Str->Option SN}{name:Str}
section
open Builtin Builtin.ObjectAttr
section
variable {w:SU}{A:SW}{E:SN->SR->Prop}{K:Frag}{f e:SQ}{h:Tb}{g:Array GenState}{d:Drawn}{t:Nat}{os:OsState}{v:SN}
def ECls.cls (c:ECls K Wt C f):∃cd,clsIn K C=some cd/\cd.mro = .ref C :: .ref Wt::vMro/\cd.hasDict=true:=by obtain⟨h,q,N,bs,b,g,sub,n,e,dd,m,l,k,j,i,lk⟩:=c.obj;obtain⟨cd,a,d⟩:=any_some c.dict;refine#v[cd,a,?_,d];unfold clsIn at a;rw[lk]at a;cases a;rfl
def CQ (h h':Tb)(e:SQ):Prop :=
 (∀b o,b≠e->(∀a c,h.get? e=some a->a.dict=some c->b≠c)->h.get? b=some o->h'.get? b=some o) /\
 ∀a,h.get? e=some a->∃d c,h'.get? e=some d/\d.cls=a.cls/\d.data=a.data/\d.slots=a.slots/\d.dict=some c/\(a.dict=some c\/(a.dict=none/\c=h.objs.size))
def Ak {tk:Tok}{ns:List Str}(c:ECls K Wt C f)(X:K.In h)(na:findIn K (.ref C) name=some none)(I:h.Inst e C mA)(hw:Within mA ns)(hl:ns.length<=1000)
  (hq:∀h' tk',h'.Inst e C (λy=>if y=name then some v else mA y)->CQ h h' e->R (.ok<|.ret .none) #v[h',g,d,tk',os]) :
  codeAny (model prog w) A (.call (.builtin "object.__setattr__") #v[[.ref e,.str name tk,v],[]]) R #v[h,g,d,t,os]:=by
 have u:=PySem.F.store_object;have SV:=PySem.F.store_ValueError;obtain⟨cd,N,j,n⟩:=c.cls;obtain⟨⟨cl,ab,dat,F⟩,a,s,m,V⟩:=I;dsimp only at s m V;subst s;have E:Looks (model prog w) h (typeOf<|.ref e) (.ref C):=(Rx a).andThen .now;have Z:mroIn K C (.type "object")=some true:=by unfold mroIn;rw[N,MU,j];rfl
 have sub:Looks (model prog w) h (isInstance (.ref e)<|.type "object") true:=E.andThen<|looks_mroIn X Z;have hm:Looks (model prog w) h (mroOf<|.ref C) cd.mro:=(looks_clsIn X N).andThen .now;have G:=QN (M:=model prog w) X na;refine RO u.slot.plain u.entry<|@check_slot (model prog w) _ _ #v[h,g,d,t,os] "object.__setattr__" "object" "__setattr__" (.ref e) [.str name tk,v] [] _ u.kind u.split sub (u.args (.ref e) (.str name tk) v) ?_;rw[osa_eq,refuse_eq];refine Ms<|Ms<|E.here<|Ms<|hm.here ?_;rw[j,refuseLoop_ref,refuseLoop_ref,SV.passes];refine Mt<|Ms<|E.here<|Ms<|G.here<|Ms<|Mt ?_;show Tn _ _ (storeInOwnDict (.ref e) (.ref C) (.str name tk) name v false) _ _ _;have T:=looks_clsIn (M:=model prog w) X N;unfold storeInOwnDict ownDictForStores instanceDict;refine Ms<|Mt<|Ms<|Ms<|wpAny_loadPart a<|Ms<|T.here ?_;rw[n];simp only[OH,Na,NJ];rcases V with ⟨rfl,J⟩ | ⟨B,rfl,l,H⟩
 .dsimp only;rw[MC<|by simp[typeHasDict]];have L:e<h.objs.size:=MA a;have i:e≠h.objs.size:=MR L;refine Ms<|wpAny_alloc'<|Ms<|wpAny_update' (Mu _ a)<|Mt ?_;generalize hh1:(h.push { cls:=.type "dict",data:=.dict #[] }).update e (λo=>{ cls:=o.cls,dict:=some h.objs.size,data:=o.data,slots:=o.slots })=h1;have gd:h1.get? h.objs.size=some { cls:=.type "dict",data:=.dict #[] }:=by rw[<-hh1];exact(NY _ _ _ _ i.symm).trans<|Tb.get?_push_at rfl rfl
  have W:h1.get? e=some { cls:=.ref C,dict:=some h.objs.size,data:=dat,slots:=F }:=by rw[<-hh1];refine Oj _ (Mu _ a) ?_;have fr:=(Sd.1 a).2;cases dat <;> first | rfl | exact fr
  have D:∀b o,b≠e->h.get? b=some o->h1.get? b=some o:=λb o x z=>by rw[<-hh1];exact(NY _ _ _ _ x).trans<|Mu _ z
  have e0:h1.Ns h.objs.size (λ_=>none):=#v[_,#[],_,gd,rfl,λz hz=>absurd hz (by simp),λ_=>rfl];show Tn _ _ (storeInDict h.objs.size (.str name tk) name v) _ _ _;unfold storeInDict newKeyGuard;refine Ms (Mt<|Ms<|wpAny_nsSet1 (Tb.Ns1.of_empty e0) λP r s2=>?_);obtain⟨Y,Q,S,k,p,q⟩:=r.count<|Within.cons name v Within.nil;refine Ms (wpAny_lookBehind k (by rw[p];exact pastItsLine_dict<|MG q<|by simp[Nr]) ?_);refine Mt (hq P _ #v[_,(s2.2 e i).trans W,rfl,m,.inr #v[h.objs.size,rfl,i.symm,?_]] #v[λb o x _ z=>(s2.2 b<|MR<|MA z).trans<|D b o x z,λU z=>?_])
  .have ef:(λy=>if y=name then some v else mA y) = λy=>if y=name then some v else(none:Option SN):=by funext y;rw[J y]
   rw[ef];exact r
  .rw[a]at z;cases z;exact#v[_,_,(s2.2 e i).trans W,rfl,rfl,rfl,rfl,.inr #v[rfl,rfl]]
 .refine Mt ?_;show Tn _ _ (storeInDict B (.str name tk) name v) _ _ _;unfold storeInDict newKeyGuard;refine Ms (Mt<|Ms<|wpAny_nsSet1 H λP r s2=>?_);obtain⟨Y,Q,S,k,p,q⟩:=r.count<|Within.cons name v hw;refine Ms (wpAny_lookBehind k (by rw[p];exact pastItsLine_dict<|MG q (by rw[ME,Nr];omega)) ?_);refine Mt (hq P _ #v[_,(s2.2 e l.symm).trans a,rfl,m,.inr #v[B,rfl,l,r]] #v[λb o x O z=>(s2.2 b<|O _ B a rfl).trans z,λU z=>#v[U,B,(s2.2 e l.symm).trans z,rfl,rfl,rfl,by rw[a]at z;cases z;rfl,.inl (by rw[a]at z;cases z;rfl)]])
end
end
section
open Builtin Builtin.ObjectAttr
section
variable {w:SU}{A:SW}{E:SN->SR->Prop}{K:Frag}{f e:SQ}{h:Tb}{g:Array GenState}{d:Drawn}{t:Nat}{os:OsState}{v:SN}
def mB {ns:List Str}{Q:Unit->SR->Prop}(c:ECls K Wt C f)(X:K.In h)(na:findIn K (.ref C) name=some none)(I:h.Inst e C mA)(hw:Within mA ns)(hl:ns.length<=1000)
  (hq:∀h' tk',h'.Inst e C (λy=>if y=name then some v else mA y)->CQ h h' e->Q () #v[h',g,d,tk',os]) :
  Tn (model prog w) A (setAttr (.ref e) name v) Q E #v[h,g,d,t,os]:=by
 have p:=PySem.F.store_object;obtain⟨⟨r,o,dat,k⟩,m,a,b,n⟩:=id I;dsimp only at a b n;subst a;have j:Looks (model prog w) h (typeOf<|.ref e) (.ref C):=(Rx m).andThen .now;have l:=QN (M:=model prog w) X c.sa;have i:=p.slot.bind<|.ref e;unfold setAttr callSpecial? specialOf;refine Ms<|wpAny_mkText ?_;refine Ms<|Ms<|Ms<|j.here<|l.here<|NL ?_;rw[i];refine Ms<|Mt<|Ms<|PY ?_;refine Ak c X na I hw hl λh' tk' q L=>?_
 exact Mt<|Mt<|hq h' tk' q L
end
end
variable {env:Tf}
section
inductive InitBody:List Str->List SZ->Prop
 | nil:InitBody [] []
 | pass {pos:Pos}:InitBody [] [.Pass pos]
 | cons {p:Str} {ps:List Str} {b:List SZ} {x y z pos:Pos}:InitBody ps b->InitBody (p::ps) (.Assign [.Attribute (.Name "self" x) p y] (.Name p z) pos::b)
def gP (m:Str->Option SN):List Str->(Str->Option SN)->Str->Option SN
 | [],M=>M
 | p::ps,M=>gP m ps λy=>if y=p then m p else M y
structure ISt (hb:Tb) (L e C t:SQ) (m mA:Str->Option SN) (ns:List Str) (h:Tb):Prop where
 keep:∀b o,hb.get? b=some o->b≠e->h.get? b=some o
 fr:h.Ns L m
 obj:∃dct,h.get? e=some (aM C t dct)/\((dct=none/\∀n,mA n=none)\/∃dx,dct=some dx/\dx≠e/\dx≠L/\hb.objs.size<=dx/\h.Ns1 dx mA)
 wi:Within mA ns
 sz:hb.objs.size<=h.objs.size
section
variable {w:SU}{A:SW}{E:SN->SR->Prop}{K:Frag}{f e L t0:SQ}{hb:Tb}{g:Array GenState}{d:Drawn}{os:OsState}{m:Str->Option SN}
def ISt.inst {ns:List Str}{h:Tb}(I:ISt hb L e C t0 m mA ns h):h.Inst e C mA:=by
 obtain⟨f,b,z⟩:=I.obj;refine#v[_,b,rfl,λc q=>(nomatch q),?_];rcases z with z | ⟨d,rfl,a,_,_,n⟩
 .exact .inl z
 .exact .inr #v[d,rfl,a,n]
def ISt.put {ns:List Str}{h h':Tb}{v:SN}(I:ISt hb L e C t0 m mA ns h)(he:e<hb.objs.size)(hL:hb.objs.size<=L)(J:h'.Inst e C (λy=>if y=name then some v else mA y))(lf:CQ h h' e) :
  ISt hb L e C t0 m (λy=>if y=name then some v else mA y) (name::ns) h':=by
 obtain⟨O,u,z⟩:=I.obj;obtain⟨K,k,A,F,E,s1,p,N⟩:=lf.2 _ u;have t:L<h.objs.size:=I.fr.lt;have s:e<h.objs.size:=MA u;have j:k≠e/\k≠L/\hb.objs.size<=k:=by
  rcases N with q | ⟨q,rfl⟩
  .rcases z with ⟨z,_⟩ | ⟨d,z,G,x,w,_⟩
   .rw[z]at q;cases q
   .rw[z]at q;cases q;exact#v[G,x,w]
  .exact#v[NT s,NT t,I.sz]
 have i:∀f d,h.get? e=some f->f.dict=some d->d≠L/\hb.objs.size<=d:=λf d g a=>by
  rw[u]at g;cases g;rcases z with ⟨z,_⟩ | ⟨Q,z,G,x,w,_⟩
  .rw[z]at a;cases a
  .rw[z]at a;cases a;exact#v[x,w]
 have M:h'.Ns1 k (λy=>if y=name then some v else mA y):=by
  obtain⟨o,g,_,_,a⟩:=J;rw[A]at g;cases g;rcases a with ⟨a,_⟩ | ⟨d,a,_,H⟩
  .rw[p]at a;cases a
  .rw[p]at a;cases a;exact H
 refine#v[λb o g a=>lf.1 b o a (λf d n l=>MR<|MI (MA g) (i f d n l).2)<|I.keep b o g a,?_,#v[some k,?_,.inr #v[k,rfl,j.1,j.2.1,j.2.2,M]],Within.cons name v I.wi,?_]
 .obtain⟨o,B,D,q,r⟩:=I.fr;exact#v[o,B,D,lf.1 L o (NT<|MI he hL) (λf d n l=>(i f d n l).1.symm) q,r]
 .obtain⟨c,dd,R,P⟩:=K;dsimp only at F E s1 p;subst F E s1 p;exact A
 .have:L<h'.objs.size:=by obtain⟨o,B,D,q,r⟩:=I.fr;exact MA (lf.1 L o (NT<|MI he hL) (λf d n l=>(i f d n l).1.symm) q)
  exact NS<|MT hL this
def mK (c:ECls K Wt C f)(X:K.In hb)(he:e<hb.objs.size)(hKe:K.lookup e=none)(hL:hb.objs.size<=L)(hk:env.scope.kind = .function)(hl:env.locals=L)(hself:m "self" = some (.ref e)/\env.kindOf "self" = some .local){Q:Flow->SR->Prop} :
  ∀(ps:List Str) (body:List SZ) (mA:Str->Option SN) (ns:List Str) (h:Tb) (tk:Nat),InitBody ps body->ISt hb L e C t0 m mA ns h->ns.length+ps.length<=1000 ->
  (∀p∈ps,findIn K (.ref C) p=some none/\nDb p/\env.kindOf p=some .local/\∃v,m p=some v) ->
  (∀h' tk' ns',ISt hb L e C t0 m (gP m ps mA) ns' h'->Q .next #v[h',g,d,tk',os])->Tn (model prog w) A (execs body env) Q E #v[h,g,d,tk,os]
 | [],_,mA,ns,h,tk,.nil,I,_,_,q=>Pk<|q h tk ns I
 | [],_,mA,ns,h,tk,.pass,I,_,_,q=>Rr<|wpAny_Pass<|Pk<|q h tk ns I
 | p::ps,_,mA,ns,h,tk,.cons B,I,hz,hp,q=>by
  obtain⟨n,l,kp,v,j⟩:=hp p MD;rw[ME]at hz;have XK:K.In h:=λb o z=>I.keep b o (X b o z) λy=>by rw[y,hKe]at z;cases z
  have k:h.Ns env.locals m:=by rw[hl];exact I.fr
  refine Rr<|plainObj_wpAny_Assign_Attribute<|wpAny_Name (RC hk kp k j<|wpAny_Name<|RC hk hself.2 k hself.1 ?_) l;refine mB c XK n I.inst I.wi (by omega) λh' tk' J r=>?_
  refine mK c X he hKe hL hk hl hself ps _ _ (p::ns) h' tk' B (I.put he hL J r) (by rw[ME];omega) (λx s=>hp x<|Mw _ s) λt a i u=>q t a i ?_
  rw[gP];rw[j];exact u
end
end
section
structure EIni (K:Frag) (C f:SQ) (ps:List Str):Prop where
 fn:∃(qual:Str) (params:Arguments) (body:List SZ) (scope:SX) (oc:SN) (od:Option SQ) (kV doc pm:SN) (an:Option SQ) (dr ct:SN) (osl:Array (Option SN)),
  K.lookup f=some #v[oc,od,.func<|fnOf "__init__" qual params body scope .none kV doc pm an dr ct,osl]/\codeIn K dr qual=true/\FnScope (("self":Str)::ps) (("self":Str)::ps) scope/\(∀p∈("self":Str)::ps,scope.names.lookup p=some .local)/\InitBody ps body /\
  ∀us:List SN,us.length=ps.length+1->bindArgs (fnOf "__init__" qual params body scope .none kV doc pm an dr ct) #v[us,[]]=pure ((("self":Str)::ps).zip us)
 na:∀p∈ps,findIn K (.ref C) p=some none/\nDb p
 few:ps.length<=100
structure EMade (h h':Tb) (e C:SQ) (mF:Str->Option SN):Prop where
 keeps:∀b o,h.get? b=some o->h'.get? b=some o
 new:h.objs.size<=e
 obj:∃t dct,h'.get? e=some (aM C t dct)/\((dct=none/\∀n,mF n=none)\/∃dx,dct=some dx/\dx≠e/\h.objs.size<=dx/\h'.Ns1 dx mF)
def ax:List Str->List SN->Str->Option SN
 | p::ps,v::vs,y=>if y=p then some v else ax ps vs y
 | _,_,_=>none
theorem nJ (m:Str->Option SN):∀(ps:List Str) (M:Str->Option SN) (y:Str),gP m ps M y=if y∈ps then m y else M y
 | [],M,y=>by simp[gP]
 | p::ps,M,y=>by
  rw[gP,nJ m ps];by_cases h:y∈ps
  .simp[h]
  .by_cases a:y=p
   .subst a;simp[h]
   .simp[h,a]
theorem nP:∀{ps:List Str} {vs:List SN} {i:Nat} {p:Str} {v:SN},ps.Nodup->ps[i]? = some p->vs[i]? = some v->ax ps vs p=some v
 | [],_,_,_,_,_,h,_=>by simp at h
 | _::_,[],_,_,_,_,_,h=>by simp at h
 | q::ps,w::vs,0,p,v,nd,a,c=>by
  cases a;cases c;simp[ax]
 | q::ps,w::vs,i+1,p,v,nd,a,c=>by
  have b:=OQ.1 nd;have a:ps[i]? = some p:=a;have c:vs[i]? = some v:=c;have d:p≠q:=λz=>b.1 (by rw[<-z];exact Np a)
  rw[ax,MC d];exact nP b.2 a c
theorem lT:∀{ps:List Str} {vs:List SN} {y:Str},y ∉ ps->ax ps vs y=none
 | [],_,_,_=>by simp[ax]
 | _::_,[],_,_=>by simp[ax]
 | q::ps,w::vs,y,h=>by rw[ax,MC<|λz=>h<|by simp[z]];exact lT λz=>h<|Mw _ z
section
variable {w:SU}{A:SW}{E:SN->SR->Prop}{K:Frag}{f:SQ}{ps:List Str}{h:Tb}{g:Array GenState}{d:Drawn}{tk:Nat}{os:OsState}
def yG {us:List SN}{Q:SN->SR->Prop}(c:ECls K Wt C f)(i:EIni K C f ps)(X:K.In h)(lim:h.NoLimit)(hr:Room 2 A)(hl:us.length=ps.length)
  (hq:∀h' tk' e,EMade h h' e C (ax ps us)->Q (.ref e) #v[h',g,d,tk',os]):Tn (model prog w) A (call (.ref C) us) Q E #v[h,g,d,tk,os]:=by
 have V:=i.few;refine PY (xp c X (by rw[Nr];omega) ?_);obtain⟨k,G,D,a,oc,od,kV,ad,pm,an,l,ct,ab,lk,T,S,r,IB,bd⟩:=i.fn;generalize hh:(h.push { cls:=.type "tuple",data:=.seq us.toArray }).push (aM C h.objs.size none)=hb;have J:∀b o,h.get? b=some o->hb.get? b=some o:=λb o z=>by rw[<-hh];exact Mu _<|Mu _ z
 have u:hb.get? (h.objs.size+1)=some (aM C h.objs.size none):=by rw[<-hh];heap_get
 have s:hb.objs.size=h.objs.size+2:=by rw[<-hh,NB,NB]
 have Y:K.In hb:=X.keeps J;have U:K.lookup (h.objs.size+1)=none:=by
  cases q:K.lookup (h.objs.size+1) with
  | none=>rfl
  | some o=>exact absurd (MA<|X _ _ q)<|Qq.2<|Rk _
 have P:(SN.ref (h.objs.size+1)::us).length=ps.length+1:=by simp[hl]
 have O:Room 1 (A.under<|.builtin "type.__call__" #v[.ref C::us,[]]):=hr.make C us [];refine codeAny_call_function O.depth (Y _ _ lk) rfl S.co S.gen rfl (codeRec_of Y T)<|BindsTo.of_eq (bd _ P) _ _ _ _ ?_;refine wpAny_newFunctionEnv_cells S.kind (λy n=>.inl<|r y.1 (RE n).1) λenv he s1 x=>?_
 subst he;refine#v[lim.keeps λb o z=>x.toInCall.keep b o<|J b o z,codeAny_func ?_];obtain⟨B,M,rfl,R⟩:=x.done;have Z:=x.toInCall.ns;have nd:=OQ.1 S.nd;have N:∀p∈("self":Str)::ps,(envOfC k a hb.objs.size f l).kindOf p=some .local:=λp m=>r p m
 have bg:∀{i:Nat} {p:Str} {v:SN},(("self":Str)::ps)[i]? = some p->(SN.ref (h.objs.size+1)::us)[i]? = some v->bindL (envOfC k a hb.objs.size f l).kindOf ((("self":Str)::ps).zip (SN.ref (h.objs.size+1)::us)) (λ_=>none) p=some v :=
  λB h2=>dZ S.nd B h2<|N _<|Np B
 have F:∀p∈ps,∃v,ax ps us p=some v/\bindL (envOfC k a hb.objs.size f l).kindOf ((("self":Str)::ps).zip (SN.ref (h.objs.size+1)::us)) (λ_=>none) p=some v:=λp m=>by
  obtain⟨j,hj,e⟩:=List.mem_iff_getElem.1 m;have e1:ps[j]? = some p:=by rw[MN hj,e]
  have e2:us[j]? = some (us[j]'(by omega)):=MN _;exact#v[_,nP nd.2 e1 e2,bg (i:=j+1) e1 e2]
 have t:∀b o,hb.get? b=some o->B.get? b=some o:=R;refine mK (hb:=hb) (L:=hb.objs.size) (t0:=h.objs.size) (C:=C) (e:=h.objs.size+1) (f:=f) c Y (by rw[s];exact On _) U (Mz _) S.kind rfl #v[bg (i:=0) rfl rfl,N _ MD] ps D (λ_=>none) [] B M IB
  #v[λb o z _=>t b o z,Z,#v[none,t _ _ u,.inl #v[rfl,λ_=>rfl]],Within.nil,NS Z.lt] (by rw[NP,Nh];exact MG V<|by decide) (λp m=>#v[(i.na p m).1,(i.na p m).2,N p<|Mw _ m,let #v[v,_,z]:=F p m;#v[v,z]]) λh' tk' ac I'=>?_
 refine#v[rfl,hq h' tk' _ #v[λb o z=>I'.keep b o (J b o z)<|MR<|Px<|MA z,Rk _,?_]];have em:gP (bindL (envOfC k a hb.objs.size f l).kindOf ((("self":Str)::ps).zip (SN.ref (h.objs.size+1)::us))<|λ_=>none) ps (λ_=>none)=ax ps us:=by
  funext y;rw[nJ];by_cases n:y∈ps
  .obtain⟨v,I,H⟩:=F y n;rw[Mx n,I,H]
  .rw[MC n,lT n]
 obtain⟨W,ge,z⟩:=I'.obj;rw[em]at z;refine#v[_,W,ge,?_];rcases z with z | ⟨dx,I,H,_,z4,z5⟩
 .exact .inl z
 .exact .inr #v[dx,I,H,MG (by rw[s];exact Nat.le_add_right _ 2) z4,z5]
end
end
variable {pos:Pos}{es:List Ta}
section
section
variable {M:Model}{A:SW}{E:SN->SR->Prop}{K:Frag}{f:SQ}{s:SR}
def uc {x:Sem SN}{Q:Flow->SR->Prop}(c:ECls K Wt C f)(hh:A.handled=none)
  (h:Tn M A x (λv s1=>∃e t dct,v = .ref e/\K.In s1.heap/\s1.heap.get? e=some (aM C t dct)/\E (.ref e) s1) E s) :
  Tn M A (raiseStmt env (some x) none) Q E s:=by
 unfold raiseStmt;refine Ms (MY h (λv s1 j=>?_) λ_ _ z=>z);obtain⟨e,t,dct,rfl,X,k,q⟩:=j;obtain⟨r,o,N,bs,b,n,sub,G,l,dd,D,B,y,w,u,lk⟩:=c.obj;have i:=X _ _ lk;have a:(SN.ref C :: .ref Wt::vMro).contains (.type "BaseException")=true:=rfl;obtain⟨F,g,d,m,p⟩:=s1;repeat (first | with_reducible refine wpAny_loadPart_at k ?_ | with_reducible refine wpAny_loadPart_at i ?_ | (with_reducible refine wpAny_isSubtype_exc i ?_;rw[a]) | wp_step)
 exact wpAny_raiseNew_none hh q
end
section
variable {X:Cx}{K:Frag}{f:SQ}{ps:List Str}{x:Str}{p cp:Pos}{a:Ta}{t:TA}
def yJ (W:List V->Hp->Prop)(ps:List Str)(t:TA):TS:=λ_ b H=>t b H λa c=>a.length=ps.length/\W a c
def Gj (X:Cx)(C:SQ)(ps:List Str)(W:List V->Hp->Prop):Prop:=∀(a:List (SQ×Te)) (d:St) (H:Hp) (s:SR) (e:SQ) (c:Tb) (f:Nat) (us:List SN) (b:List V),
 Inv X a d H s->m9 b us->EMade s.heap c e C (ax ps us)->W b H->X.xe (.ref e) { s with heap:=c,toks:=f }
def uU {W:List V->Hp->Prop}(c:ECls X.K Wt C f)(i:EIni X.K C f ps)(hr:Room 2 X.A)(hg:Gl X x)(hm:X.mg x=some (.ref C))(hA:Gj X C ps W)(ha:PA X (a::es) t)
  (hdb:nDb x:=by decide) (he:Td (a::es) X.env=(false,eval a X.env)::Td es X.env:=by rfl) (hpl:(Ti cp<|Td es X.env).any (·.1)=false:=by rfl) :
  PS X (.Raise (some<|.Call (.Name x p) (a::es) [] cp) none pos) (yJ W ps t):=by
 intro b s m H D I h;rw[arm_exec_Raise];refine Ms<|OF<|uc (K:=X.K) c hr.hd ?_;refine Ms (MY ?_ (λv s2 q=>Ms<|OF<|Mt q) λ_ _ z=>z);refine Pf<|cJ I hg hm ?_ hdb;refine PySem.W.callWith_K (h₀:=X.base) I.ok.mod.kin c.kp (thn (ha cp b s m H _ I h) λus s1 #v[n,y,j,r,q]=>#v[j.kIn,?_]) he hpl;obtain⟨E,g,d,A,B⟩:=s1;refine yG c i j.kIn j.nolimit hr (by show us.length=_;rw[<-r.length];exact q.1) λu k e M=>?_
 obtain⟨o,l,w,z⟩:=M.obj;exact#v[e,o,l,rfl,j.kIn.keeps M.keeps,w,hA b m y _ e u k us n j r M q.2]
end
end
variable {outer:List Tf}{dct:Option SQ}
section
def Err (h:Tb)(e C:SQ)(dct:Option SQ)(tb:SN):Prop:=∃a,h.get? e=some { cls:=.ref C,dict:=dct,data:=.fields a }/\a[1]? = some tb
def Tbk (h:Tb)(T:SQ)(fl:SN):Prop:=∃o a,h.get? T=some o/\o.data = .fields a/\a[3]? = some fl
structure Turned (fr S:List SQ) (h h':Tb):Prop where
 keep:∀b o,b ∉ fr->b ∉ S->h.get? b=some o->h'.get? b=some o
 slot:∀b o,b ∉ S->h.get? b=some o->∃sl,h'.get? b=some { o with slots:=sl }
 size:h.objs.size<=h'.objs.size
def Turned.trans {fr S S':List SQ}{h h1 h2:Tb}(a:Turned fr S h h1)(b:Turned fr S' h1 h2):Turned fr (S++S') h h2 where
 keep:=λc o f e z=>b.keep c o f (λq=>e<|MZ _ q) (a.keep c o f (λq=>e<|Oz _ q) z)
 slot:=λc o n z=>by obtain⟨j,i⟩:=a.slot c o (λq=>n<|Oz _ q) z;obtain⟨d,g⟩:=b.slot c _ (λq=>n<|MZ _ q) i;exact#v[d,g]
 size:=MG a.size b.size
def iB {fr:List SQ}{h:Tb}{a:SQ}{g:Te->Te}:Turned fr [a] h (h.update a g) where
 keep:=λb o _ n z=>(NY _ _ _ _<|by simpa using n).trans z
 slot:=λb o n z=>#v[o.slots,(NY _ _ _ _<|by simpa using n).trans z]
 size:=Nat.le_of_eq (Rt _ _ _).symm
section
variable {M:Model}{A:SW}{E:SN->SR->Prop}{s:SR}{base:Tb}{L e T:SQ}{tb:SN}
def jv {hadNext:Bool}{head:SN}{Q:Unit->SR->Prop}(hfr:A.frames=some (env::outer))(hl:s.heap.FunFrames base (env::outer))(hf:env.frame=some L)(he:Err s.heap e C dct tb)
  (q:∀h' T,s.heap.objs.size<=T->Err h' e C dct (.ref T)->Tbk h' T (rawInt L)->Turned (frs (env::outer)) [e] s.heap h'->Q () { s with heap:=h' }) :
  Tn M A (do let a <-frameOf env;let pl <-entryPlaceOf L hadNext;let b <-EntryCells.newEntry head a .none (rawInt L) .none pl;setField (.ref e) 1 b) Q E s:=by
 obtain⟨d,t,G⟩:=he;have g:1<d.size:=(Qw.1 G).1;have k:e ∉ frs (env::outer):=λz=>by obtain⟨_,o,r,B⟩:=hl.mem z;rw[t]at r;cases r;exact B d rfl
 refine Ms (wpAny_frameOf_fun hfr hl hf λc #v[v,p,u]=>Ms<|wpAny_entryPlaceOf λpl h=>?_);unfold EntryCells.newEntry newFields;refine Ms<|Nj ?_<|h.sizeOk5 _ _ _ _ _;have j:c.get? e=some { cls:=.ref C,dict:=dct,data:=.fields d }:=(p e k).trans t;generalize hts:([head,SN.ref L,SN.none,rawInt L,SN.none]++(if pl.isEmpty then List.replicate 6 SN.none else pl)).toArray=ts;have w:ts[3]? = some (rawInt L):=by rw[<-hts];first | (simp;done) | (rcases h with rfl | ⟨_,_,_,_,_,_,_,rfl⟩ <;> simp)
 generalize hO:({ cls:=SN.type "traceback",dict:=none,data:=Data.fields ts }:Te)=O;have i:(c.push O).get? e=some { cls:=.ref C,dict:=dct,data:=.fields d }:=Mu O j;refine Pz i rfl g ?_;have m:c.objs.size≠e:=NT<|MA j;have f:c.objs.size=s.heap.objs.size:=v;refine q _ c.objs.size (Nat.le_of_eq f.symm) #v[d.setIfInBounds 1<|.ref c.objs.size,?_,by simp[g]] #v[O,ts,?_,by rw[<-hO],w] #v[λb o F D z=>?_,λb o n z=>?_,?_]
 .exact Oj (Te.mapFields (·.setIfInBounds 1 (SN.ref c.objs.size))) i rfl
 .refine(NY _ _ _ _ m).trans<|MM c ?_;rw[<-hO];rfl
 .have l:b≠e:=by simpa using D
  exact(NY _ _ _ _ l).trans<|Mu O<|(p b F).trans z
 .have l:b≠e:=by simpa using n
  obtain⟨x,y⟩:=u b o z;exact#v[x,(NY _ _ _ _ l).trans<|Mu O y]
 .rw[Rt,NB,f];exact Rk _
def pU {Q:Unit->SR->Prop}(hfr:A.frames=some (env::outer))(hl:s.heap.FunFrames base (env::outer))(hf:env.frame=some L)(he:Err s.heap e C dct .none)
  (q:∀h' T,s.heap.objs.size<=T->Err h' e C dct (.ref T)->Tbk h' T (rawInt L)->Turned (frs (env::outer)) [e] s.heap h'->Q () { s with heap:=h' }):Tn M A (noteFrame (.ref e) env) Q E s:=by obtain⟨c,a,b⟩:=id he;unfold noteFrame;simp only[hf];refine Ms<|NF a rfl b ?_;rw[MC<|show ¬((SN.none != SN.none)=true) by decide];exact jv hfr hl hf he q
def jN {Q:Unit->SR->Prop}(hfr:A.frames=some (env::outer))(hl:s.heap.FunFrames base (env::outer))(hf:env.frame=some L)(he:Err s.heap e C dct (.ref T))(ht:Tbk s.heap T .none)(hTe:T≠e)
  (q:∀h' T',s.heap.objs.size<=T'->Err h' e C dct (.ref T')->Tbk h' T' (rawInt L)->Turned (frs (env::outer)) [T,e] s.heap h'->Q () { s with heap:=h' }):Tn M A (noteFrame (.ref e) env) Q E s:=by
 obtain⟨m,g,h⟩:=id he;obtain⟨r,n,a,c,f⟩:=ht;unfold noteFrame;simp only[hf];refine Ms<|NF g rfl h ?_;rw[Mx<|show(SN.ref T != SN.none)=true by simp];refine Ms<|NF a c f ?_;rw[MC<|show ¬((SN.none == rawInt L)=true) by simp[rawInt]];refine Ms<|Pz a c (Qw.1 f).1 ?_;have d:Turned (frs (env::outer)) [T] s.heap (s.heap.update T (Te.mapFields (·.setIfInBounds 3 SN.none))):=iB;refine jv (s:={ s with heap:=s.heap.update T (Te.mapFields (·.setIfInBounds 3 SN.none)) }) hfr (hl.of_keeps λb o z p=>?_) hf #v[m,(NY _ _ _ _ hTe.symm).trans g,h] λh' T' l k j i=>q h' T' (MG d.size l) k j<|d.trans i
 refine#v[o,(NY _ _ _ _ λy=>?_).trans z,rfl];rw[y,a]at z;cases z;exact p n c
def ai {fl:SN}{Q:Unit->SR->Prop}(he:Err s.heap e C dct (.ref T))(ht:Tbk s.heap T fl)(hTe:T≠e)
  (q:∀h',Err h' e C dct (.ref T)->Tbk h' T .none->Turned [] [T] s.heap h'->Q () { s with heap:=h' }):Tn M A (setFlight (.ref e) none) Q E s:=by obtain⟨g,d,f⟩:=he;obtain⟨j,h,c,a,i⟩:=ht;have b:=(Qw.1 i).1;unfold setFlight;refine Ms<|NF d rfl f ?_;rw[Mx<|show(SN.ref T != SN.none)=true by simp];refine Pz c a b (q _ #v[g,(NY _ _ _ _ hTe.symm).trans d,f] #v[_,h.setIfInBounds 3 .none,Oj _ c<|RA<|Ph a _,Ph a _,by simp[b]] iB)
end
end
variable {qual:Str}{π:List (SQ×Te)}
section
section
variable {M:Model}{A:SW}{E:SN->SR->Prop}{s:SR}{base:Tb}{L e T:SQ}
def Turned.off {fr S:List SQ}{h h1 h2:Tb}(a:Turned fr S h h1)(b:Turned [] [T] h1 h2)(hT:h.objs.size<=T):Turned fr S h h2 where
 keep:=λc o g f z=>b.keep c o (by simp) (by simpa using MR (MI (MA z) hT))<|a.keep c o g f z
 slot:=λc o n z=>by obtain⟨e,d⟩:=a.slot c o n z;exact#v[e,b.keep c _ (by simp) (by simpa using MR (MI (MA z) hT)) d]
 size:=MG a.size b.size
def rh (h:Tb)(e C:SQ)(dct:Option SQ)(S:List SQ):Prop:=(Err h e C dct .none/\S=[e])\/∃T,Err h e C dct (.ref T)/\Tbk h T .none/\T≠e/\S=[T,e]
def rh.lt {h:Tb}{S:List SQ}(a:rh h e C dct S):e<h.objs.size:=by rcases a with ⟨⟨b,g,_⟩,_⟩ | ⟨T,⟨b,g,_⟩,_⟩ <;> exact MA g
def tX {S:List SQ}{Q:Unit->SR->Prop}(hfr:A.frames=some (env::outer))(hl:s.heap.FunFrames base (env::outer))(hf:env.frame=some L)(ha:rh s.heap e C dct S)
  (q:∀h' T,s.heap.objs.size<=T->T≠e->Err h' e C dct (.ref T)->Tbk h' T .none->Turned (frs (env::outer)) S s.heap h'->Q () { s with heap:=h' }):Tn M A (leaving env<|.ref e) Q E s:=by
 have c:=ha.lt;unfold leaving;rcases ha with ⟨k,rfl⟩ | ⟨T,k,ht,l,rfl⟩
 .refine Ms (pU hfr hl hf k λn T b g f d=>?_);have a:T≠e:=NT<|MI c b;exact ai (s:={ s with heap:=n }) g f a λm j i h=>q m T b a j i<|d.off h b
 .refine Ms (jN hfr hl hf k ht l λn o b g f d=>?_);have a:o≠e:=NT<|MI c b;exact ai (s:={ s with heap:=n }) g f a λm j i h=>q m o b a j i<|d.off h b
end
def gy {P:SS}{w:SU}{H:Hp}{h h':Tb}{fr S:List SQ}(ok:HOk P w H h)(t:Turned fr S h h')(n1:∀b∈fr,H b=none)(n2:∀b∈S,H b=none):HOk P w H h':=λb u z=>by
 refine(ok b u z).stay (λc v a q=>t.keep c v (λy=>?_) (λy=>?_) q) (λ_ q=>q) λ_ _ q=>q
 .rcases a with rfl | a
  .rw[n1 _ y]at z;cases z
  .rw[n1 _ y]at a;cases a
 .rcases a with rfl | a
  .rw[n2 _ y]at z;cases z
  .rw[n2 _ y]at a;cases a
def Gk (lo:Nat)(dct:Option SQ)(mF:Str->Option SN)(S:List SQ)(H:Hp)(h:Tb):Prop :=
 (dct=none/\∀n,mF n=none)\/∃a,dct=some a/\a ∉ S/\lo<=a/\H a=none/\h.Ns1 a mF
def Fly (lo:Nat)(e C:SQ)(mF:Str->Option SN)(H:Hp)(h:Tb):Prop :=
 ∃dct T,Err h e C dct (.ref T)/\Tbk h T .none/\T≠e/\lo<=e/\lo<=T/\H e=none/\H T=none/\Gk lo dct mF [T,e] H h
def CXe (P:SS)(w:SU):CXT:=λouter H s E f a=>∃(e:SQ) (b:Hp) (C:SQ) (d:List Str) (us:List SN) (c:List V),f = .ref e/\a.os=s.os/\AllBare a.gens/\Un (frs outer) [] H b s.heap a.heap/\HOk P w b a.heap /\
 m9 c us/\Fly s.heap.objs.size e C (ax d us) b a.heap/\E (.ref C) (some e) (upd b e<|.xd<|d.zip c)
structure Goes (X:Cx) (E:XK):Prop where
 stk:X.stack=X.env::X.outer
 fr:X.env.frame=some X.env.locals
 ex:X.ex=[]
 xe:∀e s',Tn (model X.prog X.w) X.A (leaving X.env e) (λ_ s''=>CXe X.prog X.w X.outer X.H₀ X.s₀ E e s'') (λe' s''=>CXe X.prog X.w X.outer X.H₀ X.s₀ E e' s'') s'->X.xe e s'
def fS {P:SS}{w:SU}{K:Frag}{mg:Str->Option SN}{base:Tb}{N:List Str}{scope:SX}{f:SQ}{cd:SN}{A:SW}{s:SR}{H:Hp}{E:XK} :
  Goes (K8 (CXe P w) P w K mg base N qual scope f cd A outer s H E) E:=#v[rfl,rfl,rfl,λ_ _ h=>h]
section
variable {X:Cx}{E:XK}{σ:St}{H:Hp}{s:SR}
def Dw (G:Goes X E)(I:Inv X π σ H s){e:SQ}{S:List SQ}{ps:List Str}{us:List SN}{vs:List V}(ha:rh s.heap e C dct S)(hS:∀b∈S,X.s₀.heap.objs.size<=b/\H b=none/\b ∉ frs X.stack)
  (hF:Gk X.s₀.heap.objs.size dct (ax ps us) S H s.heap) (hd:∀dx,dct=some dx->dx ∉ frs X.stack) (r:m9 vs us) (q:E (.ref C) (some e) (upd H e<|.xd<|ps.zip vs)):X.xe (.ref e) s:=by
 refine G.xe _ _ ?_;have h:=I.ok.frames;have hl:=I.stack;have a:=I.stkFree;rw[G.stk]at h hl a hd hS;have d:e∈S:=by rcases ha with ⟨_,rfl⟩ | ⟨T,_,_,_,rfl⟩ <;> simp
 have F:=ha;refine tX (base:=X.base) h hl G.fr ha λK T i w v u g=>?_
 have c:∀b o,X.s₀.heap.get? b=some o->b ∉ S:=λb o y z=>absurd (MA y)<|Qq.2 (hS b z).1
 have A:∀b o,X.s₀.heap.get? b=some o->b ∉ X.fs->b ∉ frs (X.env::X.outer):=λb o y n z=>by
  unfold frs at z;rw[OY,G.fr]at z;rcases MJ.1 z with rfl | z
  .exact absurd (MA y)<|Qq.2 I.ok.above
  .exact n z
 have bs:=I.base;rw[G.ex]at bs;refine#v[e,H,C,ps,us,vs,rfl,I.os,I.bare,#v[λb o y n f _=>g.keep b o (A b o y f) (c b o y)<|bs.keep b o y n f<|by simp,λb o y n f _=>?_,λb o y n _=>bs.free b o y n (by simp),λb o y _=>?_,bs.tups,bs.frzs,bs.tbls],gy I.hok g a λb f=>(hS b f).2.1,r,
  #v[dct,T,v,u,w,(hS e d).1,MG I.sz i,(hS e d).2.1,I.hok.fresh i,?_],q]
 .obtain⟨x,k⟩:=bs.slot b o y n f (by simp);obtain⟨l,j⟩:=g.slot b _ (c b o y) k;exact#v[l,j]
 .obtain⟨J,k⟩:=bs.there b o y (by simp);obtain⟨x,j⟩:=g.slot b _ (c b o y) k;exact#v[_,j]
 .rcases hF with hF | ⟨dx,rfl,t,D,B,p⟩
  .exact .inl hF
  .have m:dx<s.heap.objs.size:=p.ns.lt;refine .inr #v[dx,rfl,λz=>?_,D,B,p.at λo y=>g.keep dx o (hd dx rfl) t y];simp only[MJ,NH,OS]at z;rcases z with z | z
   .exact absurd m (by rw[z];exact Qq.2 i)
   .exact t (by rw[z];exact d)
def AK (G:Goes X E){ps:List Str}:Gj X C ps λvs H=>∀e,H e=none->E (.ref C) (some e) (upd H e<|.xd<|ps.zip vs):=λπ σ H s e n k us vs I r M w=>by
 obtain⟨t,dct,p,z⟩:=M.obj;have q:Inv X π σ H { s with heap:=n,toks:=k }:=I.kept M.keeps;have c:∀b,s.heap.objs.size<=b->b ∉ frs X.stack:=λb g m=>by obtain⟨_,o,l,_⟩:=I.stack.mem m;exact absurd (MA l)<|Qq.2 g
 refine Dw G q (C:=C) (dct:=dct) (S:=[e]) (ps:=ps) (us:=us) (vs:=vs) (.inl #v[#v[_,p,rfl],rfl]) (λb g=>?_) ?_ (λj a=>?_) r<|w e<|I.hok.fresh M.new
 .rw[Nc.1 g];exact#v[MG I.sz M.new,I.hok.fresh M.new,c e M.new]
 .rcases z with z | ⟨j,f,i,d,h⟩
  .exact .inl z
  .exact .inr #v[j,f,by simpa using i,MG I.sz d,I.hok.fresh d,h]
 .rcases z with z | ⟨u,f,i,d,h⟩
  .rw[z.1]at a;cases a
  .rw[f]at a;cases a;exact c _ d
end
end
section
open Builtin Builtin.ObjectAttr
structure ECat (K:Frag) (C:SQ):Prop where
 ga:findIn K (.ref C) "__getattribute__" = some (some<|.builtin "BaseException.__getattribute__")
 gn:findIn K (.ref C) "__getattr__" = some none
 mb:mroIn K C (.type "BaseException")=some true
 mo:mroIn K C (.type "object")=some true
 ca:findIn K (.ref C) "__class__" = some (some<|.builtin "object.__class__")
 cg:specialIn K (.builtin "object.__class__") "__get__" = some (some<|.builtin "getset_descriptor.__get__")
 ct:takesIn K (.builtin "object.__class__")=some true
section
variable {w:SU}{A:SW}{E:SN->SR->Prop}{K:Frag}{e:SQ}{oe:Te}{od:Option Te}{s:SR}{tk:Tok}
def pL {r:Found}(c:ECat K C)(X:K.In s.heap)(I:InstAt s.heap e oe C od)(hf:findObj K C od name=some r)(hr:r ≠ .missing)
  (h:∀A',Tn (model prog w) A' (match r with | .value v=>ret v | .bind g a=>bindTo g a (.ref e) (.ref C) | .missing=>ret .none) (λfin s'=>match fin with | .done z=>R (.ok z) s' | _=>False) (λx s'=>R (.error x) s') s) :
  codeAny (model prog w) A (.call (.builtin "BaseException.__getattribute__") #v[[.ref e,.str name tk],[]]) R s:=by
 obtain⟨o,g,d,t,p⟩:=s;have B:=Sf;have m:=I.type (M:=model prog w);have y:=looks_find (M:=model prog w) X I hf;have u:=looks_mroIn (M:=model prog w) X c.mb;refine RO B.ga.plain PySem.F.entry_bexc_ga ?_;have q:builtinKind "BaseException.__getattribute__" = some .slot:=by decide +kernel
 have j:splitId "BaseException.__getattribute__" = some ("BaseException","__getattribute__"):=by decide +kernel
 have l:=PySem.F.args_bexc_ga (.ref e)<|.str name tk;have inst:Looks (model prog w) o (isInstance (.ref e)<|.type "BaseException") true:=m.andThen u;simp only[checkBuiltinCall,q,j];refine Ms<|inst.at ?_;simp only[OH,Na,NJ];unfold argsOk at l;generalize Manifest.signature? "BaseException.__getattribute__" = sg at l ⊢;suffices i:Tn (model prog w) A.in1 (Builtin.«object.__getattribute__» { pos:=[SN.ref e,SN.str name tk] }) (λfin s'=>match fin with | .done f=>R (.ok f) s' | .again c'=>c'.quiet=true/\codeAny (model prog w) A c' R s') (λe s'=>R (.error e) s') #v[o,g,d,t,p] by
  cases sg with
  | none=>exact Mt i
  | some b =>have k:Bind.checkArgs "BaseException.__getattribute__" b { pos:=[SN.ref e,SN.str name tk] }=pure ():=l;show Tn _ _ (Bind.checkArgs "BaseException.__getattribute__" b { pos:=[SN.ref e,SN.str name tk] }) _ _ _;rw[k];exact Mt i
 unfold Builtin.«object.__getattribute__»;refine Ms<|Mt<|Ms<|Mt<|Ms<|m.at<|Ms<|y.at ?_;have n:=h A.in1;cases r with
 | value v =>
  refine MY n (λfin s' z=>?_) λ_ _ z=>z
  cases fin <;> first | exact z | exact z.elim
 | bind g a =>
  refine MY n (λfin s' z=>?_) λ_ _ z=>z
  cases fin <;> first | exact z | exact z.elim
 | missing=>exact absurd rfl hr
def wC {r:Found}{fill expr:Bool}{Q:SN->SR->Prop}(c:ECat K C)(X:K.In s.heap)(I:InstAt s.heap e oe C od)(hf:findObj K C od name=some r)(hr:r ≠ .missing)
  (h:∀A',Tn (model prog w) A' (match r with | .value v=>ret v | .bind g a=>bindTo g a (.ref e) (.ref C) | .missing=>ret .none) (λfin s'=>match fin with | .done (.ret z)=>handedIn z=true/\Q z s' | _=>False) (λ_ _=>False) s) :
  Tn (model prog w) A (getAttrBy (.ref e) (.str name tk) fill expr) Q E s:=by
 obtain⟨k,g,d,t,j⟩:=s;have o:=Sf;have i:=I.type (M:=model prog w);have n:=QN (M:=model prog w) X c.ga;have m:=QN (M:=model prog w) X c.gn;have l:=o.ga.bind<|.ref e;unfold getAttrBy;refine NL<|Ms<|i.at<|Ms<|n.at ?_;show Tn _ _ (getAttrByItsOwn _ _ _ _ _ _) _ _ _;unfold getAttrByItsOwn hookBefore callGetattribute;refine Ms<|m.at<|Ms<|PX<|NL ?_;rw[MC (show ¬((expr&&onTheHeap (SN.builtin "BaseException.__getattribute__"))=true) by cases expr <;> decide)];unfold boundAndCalled;rw[l];refine Ms<|Mt<|PY ?_;refine pL (s:=#v[k,g,d,t,j]) c X I hf hr λA'=>MY (h A') (λfin s' z=>?_) λ_ _ z=>z.elim
 cases fin with
 | again _=>exact z.elim
 | done f =>
  cases f with
  | ret b =>show Tn _ _ (handedOut b) _ _ _;rw[handedOut_of z.1];exact Mt z.2
  | _=>exact z.elim
def tE {v:SN}{expr:Bool}{Q:SN->SR->Prop}(c:ECat K C)(X:K.In s.heap)(I:InstAt s.heap e oe C od)(hf:findObj K C od name=some (.value v))(hv:handedIn v=true)(h:∀tk,Q v { s with toks:=tk }) :
  Tn (model prog w) A (getAttr (.ref e) name expr) Q E s:=by unfold getAttr;refine Ms<|wpAny_mkText ?_;exact wC (s:={ s with toks:=s.toks+1 }) c X I hf (by simp) λa=>Mt #v[hv,h _]
def uA {Q:Option SN->SR->Prop}(c:ECat K C)(X:K.In s.heap)(I:InstAt s.heap e oe C od)(h:Q (some<|.ref C) { s with toks:=s.toks+1 }) :
  Tn (model prog w) A (getAttr? (.ref e) "__class__") Q E s:=by
 have a:(clsIn K C).isSome=true:=by
  have z:=c.mo;unfold mroIn at z;cases q:clsIn K C with
  | none=>rw[q]at z;cases z
  | some f=>rfl
 have b:findObj K C od "__class__" = some (.bind (.builtin "getset_descriptor.__get__")<|.builtin "object.__class__"):=by obtain⟨f,d⟩:=NX.1 a;simp only[findObj,d,c.ca,c.cg,c.ct,MU]
 unfold getAttr? getAttrBy?;refine Ms<|wpAny_mkText<|Ms<|PX ?_;refine wC (s:={ s with toks:=s.toks+1 }) c X I b (by simp) λg=>?_
 unfold bindTo;refine Ms<|NL<|PY<|class_get (s:={ s with toks:=s.toks+1 }) (ox:=oe) (od:=od) X I c.mo ?_;exact Mt #v[rfl,Mt h]
def ky (c:ECat K C):KitX K (.ref e) (.ref C) (λh=>InstAt h e oe C od) where
 ty:=λ_ _ _ I=>I.type
 it:=λ_ _ X _=>by
  have z:=c.mo;unfold mroIn clsIn at z;split at z
  .rename_i l j f a d;intro s p r o k q;unfold isType loadHead;exact Ms<|wpAny_loadPart (k _ _<|X _ _ d)<|Mt q
  .cases z
 ne:=λh g dd i n m X b=>by
  have z:=c.mo;unfold mroIn clsIn at z;refine Bool.eq_false_iff.2 λq=>?_
  have e:C=g:=SN.ref.inj<|beq_iff_eq.1 q;subst e;split at z
  .rename_i l j f a d;cases(X _ _ d).symm.trans b
  .cases z
 ca:=λX I k=>uA c X I k
end
end
section
structure Has (X:Cx) (e C:SQ) (fs:List (Str×V)):Prop where
 ob:∃oe od,(e,oe)∈X.pn/\oe.cls = .ref C/\notCls oe=true /\
  ((oe.dict=none/\od=none/\∀n,fs.lookup n=none)\/∃dx o,oe.dict=some dx/\od=some o/\(dx,o)∈X.pn/\∀n v,fs.lookup n=some v->∃u,s0 v u/\lookIn n o=some (some u))
 cat:ECat X.K C
 hd:hasDictIn X.K C=true
def qW {X:Cx}{σ:St}{H:Hp}{s:SR}(I:Inv X π σ H s){p:SQ×Te}(h:p∈X.pn):s.heap.get? p.1=some p.2:=(I.pin p<|Oz _ h).1
def xk {v:V}{u:SN}(r:s0 v u):handedIn u=true:=by cases v <;> first | (cases(show u=_ from r);rfl) | (obtain⟨t,z⟩:=r;rw[z];rfl)
section
variable {X:Cx}{e:SQ}{fs:List (Str×V)}{σ:St}{H:Hp}{s:SR}
def Has.inst (h:Has X e C fs)(I:Inv X π σ H s):∃oe od,InstAt s.heap e oe C od/\∀n v,fs.lookup n=some v->findIn X.K (.ref C) n=some none->∃u,s0 v u/\findObj X.K C od n=some (.value u):=by
 obtain⟨oe,od,l,k,j,d⟩:=h.ob;refine#v[oe,od,#v[qW I l,k,j,?_],λn v z i=>?_]
 .rcases d with ⟨c,a,_⟩ | ⟨p,o,c,a,b,_⟩
  .rw[c,a];trivial
  .rw[c,a];exact qW I b
 .rcases d with ⟨_,_,b⟩ | ⟨p,o,c,a,b,f⟩
  .rw[b]at z;cases z
  .obtain⟨u,g,m⟩:=f n v z;rw[a];exact#v[u,g,findObj_own h.hd i rfl m]
def AS (K:Frag)(e C:SQ):List V->Hp->VK->Prop:=λd H Q=>∃y b,d=[.ref e,y] /\
 ((∃a,y = .ref a/\kitOne K (.ref C) (.ref a)=some b)\/(∃T,y = .ty T/\kitOne K (.ref C) (.type T)=some b)\/∃(a:SQ) (c:List SQ),y = .ref a/\H a=some (.tup<|c.map V.ref)/\kitAny K (.ref C) (c.map SN.ref)=some b)/\Q (.bl b) H
theorem jA:∀{ys:List SQ} {us:List SN},m9 (ys.map V.ref) us->us=ys.map SN.ref
 | [],_,.nil=>rfl
 | y::ys,_,.cons r t=>by rw[show _=SN.ref y from r,jA t];rfl
def gO (h:Has X e C fs):A1 X (.builtin "isinstance") (AS X.K e C):=by
 intro π s σ H F G Q I r A;obtain⟨y,b,rfl,x,q⟩:=A;obtain⟨u,f,rfl,m,c⟩:=vM r;cases(show u=SN.ref e from m);obtain⟨K,L,J,_⟩:=h.inst I;have fin:∀g,EP X π σ Q (.bool b) { s with toks:=g }:=λg=>#v[.bl b,H,I.tok g,rfl,q]
 rcases x with ⟨a,rfl,k⟩ | ⟨T,rfl,k⟩ | ⟨a,j,rfl,B,k⟩
 .cases(show f=SN.ref a from c);exact kia_one (ky h.cat) I.kIn J k (λz=>nomatch z) fin
 .cases(show f=SN.type T from c);exact kia_one (ky h.cat) I.kIn J k (λz=>nomatch z) fin
 .cases(show f=SN.ref a from c);obtain⟨_,w,l,o,D,i,d⟩:=(show x5 X.prog X.w H s.heap a (.tup<|j.map V.ref) from I.hok a _ B);have E:=jA l;subst E;obtain⟨M,t,v,p⟩:=o;obtain⟨n,d⟩:=d;dsimp only at i d;subst i d;exact kia_tup (ky h.cat) I.kIn J D k (λz=>nomatch z) fin
def Hv (K:Frag)(C:SQ)(fs:List (Str×V))(e:SQ)(i:Nat)(f:Str):TE:=λσ H Q=>σ[i]? = some (some<|.ref e)/\findIn K (.ref C) f=some none/\∃v,fs.lookup f=some v/\Q v H
def CN {i:Nat}{x f:Str}{px:Pos}(h:Has X e C fs)(hN:X.N[i]? = some x)(hv:Vis X.env.scope x)(hb:Tq (.Name x px) f X.env (eval (.Name x px) X.env)=eval (.Name x px) X.env:=by rfl)
  (hd:nDb x:=by decide) (hcd:nCd x:=by decide):PE X (.Attribute (.Name x px) f pos) (Hv X.K C fs e i f):=by intro π s σ H Q I j;obtain⟨m,g,v,l,q⟩:=j;refine yZ hb (thn (D5 (pos:=px) hN hv hd hcd π s σ H (λy t=>y = .ref e/\t=H) I #v[_,m,rfl,rfl]) λu s1 #v[y,r,a,d,o,p]=>?_);subst o p;cases(show u=SN.ref e from d);obtain⟨z,A,J,k⟩:=h.inst a;obtain⟨w,b,n⟩:=k f v l g;exact tE h.cat a.kIn J n (xk b) λc=>#v[v,r,a.tok c,b,q]
end
end
variable {pins':List (SQ×Te)}{wt:Str}{suite:List SZ}{tsu:SQ->SQ->List (Str×V)->TS}
section
section
variable {X:Cx}{σ:St}{H:Hp}{s:SR}
def jz {S:List SQ}{h':Tb}(I:Inv X π σ H s)(t:Turned (frs X.stack) S s.heap h')
  (hS:∀b∈S,H b=none/\(b∈X.ex\/X.s₀.heap.objs.size<=b)/\b≠X.env.locals/\(∀x c,X.env.cells.lookup x=some c->c≠b)/\∀p∈X.pn++π,p.1≠b):Inv X π σ H { s with heap:=h' } :=
 I.call' (ch:=S) rfl #v[λb o z n a d=>t.keep b o a d z,λb o z n a d=>t.slot b o d z,λ_ _ _ n _=>n,λb o z d=>(let #v[e,q]:=t.slot b o d z;#v[_,q]),λ_ _ z=>z,λ_ _ _ z=>z,λb f z=>#v[#[],by simp[z]]]
  (gy I.hok t I.stkFree λb a=>(hS b a).1) I.bare λb a=>(hS b a).2
abbrev ft (X:Cx)(pn:List (SQ×Te))(xe:SN->SR->Prop):Cx:={ X with pn:=pn,xe:=xe }
abbrev G4 (X:Cx)(e:SQ)(pn:List (SQ×Te))(xe:SN->SR->Prop):Cx:={ X with A:=X.A.mark<|some<|.ref e,calm:=false,pn:=pn,xe:=xe }
def De {pn:List (SQ×Te)}{xe:SN->SR->Prop}(k:X.Ok):(ft X pn xe).Ok:=#v[k.mod,k.kind,k.glob,k.blt,k.above,k.inj,k.has,k.cab,k.hd,k.frames,k.stk,k.exf,k.bs,k.bsz,k.noex,k.exfs,k.funs,k.frf]
def yC {e:SQ}{pn:List (SQ×Te)}{xe:SN->SR->Prop}(k:X.Ok):(G4 X e pn xe).Ok:=#v[k.mod,k.kind,k.glob,k.blt,k.above,k.inj,k.has,k.cab,(λz=>nomatch z),k.frames,k.stk,k.exf,k.bs,k.bsz,k.noex,k.exfs,k.funs,k.frf]
def zm {pn:List (SQ×Te)}{xe:SN->SR->Prop}(I:Inv X π σ H s)(hp:∀p∈pn++pins',s.heap.get? p.1=some p.2/\H p.1=none/\p.1≠X.env.locals/\p.1 ∉ X.fs/\∀v,p.2.data ≠ .cell v):Inv (ft X pn xe) pins' σ H s :=
 #v[De I.ok,I.os,I.bare,I.base,I.loc,I.cell,I.free,I.freeC,hp,I.hok,I.len]
def W3 {pn:List (SQ×Te)}{xe:SN->SR->Prop}(k:X.Ok)(I:Inv (ft X pn xe) pins' σ H s)(hp:∀p∈X.pn++π,p∈pn):Inv X π σ H s :=
 #v[k,I.os,I.bare,I.base,I.loc,I.cell,I.free,I.freeC,λp z=>I.pin p<|Oz _<|hp p z,I.hok,I.len]
def jO {e:SQ}{pn:List (SQ×Te)}{xe:SN->SR->Prop}(I:Inv X π σ H s)(hp:∀p∈pn++pins',s.heap.get? p.1=some p.2/\H p.1=none/\p.1≠X.env.locals/\p.1 ∉ X.fs/\∀v,p.2.data ≠ .cell v):Inv (G4 X e pn xe) pins' σ H s :=
 #v[yC I.ok,I.os,I.bare,I.base,I.loc,I.cell,I.free,I.freeC,hp,I.hok,I.len]
def lZ {e:SQ}{pn:List (SQ×Te)}{xe:SN->SR->Prop}(k:X.Ok)(I:Inv (G4 X e pn xe) pins' σ H s)(hp:∀p∈X.pn++π,p∈pn):Inv X π σ H s :=
 #v[k,I.os,I.bare,I.base,I.loc,I.cell,I.free,I.freeC,λp z=>I.pin p<|Oz _<|hp p z,I.hok,I.len]
def uv {M:Model}{A:SW}{E:SN->SR->Prop}{x:Str}{i:Nat}{Q:Unit->SR->Prop}(I:Inv X π σ H s)(hN:X.N.Nodup)(hi:X.N[i]? = some x)(hx:X.env.scope.names.lookup x=some .local)
  (h:∀s',Inv X π (σ.set i none) H s'->Q () s'):Tn M A (do bindName X.env x .none;unbindBehindTheSuite X.env x pos) Q E s:=by
 obtain⟨m,B,hl⟩:=id I.loc;have d:(X.env.scope.kind == .class||(X.env.scope.kind == .module&&X.env.locals != X.env.globals))=false:=by rw[I.ok.kind];rfl
 refine wpAny_nameGoes_keeps hx B d λU v g same=>h _ ?_
 have a:∀b o,X.s₀.heap.get? b=some o->b≠X.env.locals:=λb o z=>MR<|MI (MA z) I.ok.above
 obtain⟨T,_,_,R,_⟩:=id B;refine#v[I.ok,I.os,I.bare,#v[λb o z n t hx=>(same.2 b<|a b o z).trans<|I.base.keep b o z n t hx,λb o z n t hx=>?_,I.base.free,λb o z hx=>?_,I.base.tups,I.base.frzs,I.base.tbls],
  #v[_,g,λj y D C f S=>?_],λy c z=>?_,I.free,I.freeC,λp P=>?_,λb K z=>?_,by simpa using I.len]
 .obtain⟨G,q⟩:=I.base.slot b o z n t hx;exact#v[G,(same.2 b<|a b o z).trans q]
 .obtain⟨L,q⟩:=I.base.there b o z hx;exact#v[L,(same.2 b<|a b o z).trans q]
 .by_cases r:j=i
  .subst r;have l:j < σ.length:=by rw[I.len];exact(MK.1 hi).1
   rw[ML l]at f;cases f
  .rw[MF<|Ow r]at f;obtain⟨F,J,q⟩:=hl j y D C f S;refine#v[F,J,?_];rcases q with ⟨k,q⟩ | ⟨k,c,q,z⟩
   .have O:y≠x:=λz=>r<|gK hN C<|z▸hi
    exact .inl #v[k,by simp[O,q]]
   .exact .inr #v[k,c,q,z.sameBut same<|I.cne y c q]
 .obtain⟨u,q⟩:=I.cell y c z;exact#v[u,q.sameBut same<|I.cne y c z]
 .obtain⟨q,n,w,N,dd⟩:=I.pin p P;exact#v[(same.2 p.1 w).trans q,n,w,N,dd]
 .refine(I.hok b K z).stay (λc u e q=>(same.2 c ?_).trans q) (λ_ q=>q) λ_ _ q=>q
  rintro rfl;rcases e with rfl | e
  .rw[I.free]at z;cases z
  .rw[I.free]at e;cases e
theorem oS:∀{ps:List Str} {vs:List V} {us:List SN} {n:Str} {v:V},m9 vs us->(ps.zip vs).lookup n=some v->∃u,s0 v u/\ax ps us n=some u
 | [],_,_,_,_,_,h=>by simp at h
 | _::_,[],_,_,_,_,h=>by simp at h
 | p::ps,w::vs,_,n,v,.cons r t,h=>by
  rw[Qc,Nz]at h;by_cases a:n=p
  .subst a;rw[show(n == n)=true from SA n]at h;cases h;exact#v[_,r,by simp[ax]]
  .rw[show(n == p)=false from Ou.2 a]at h;obtain⟨u,b,c⟩:=oS (ps:=ps) t h;exact#v[u,b,by rw[ax,MC a];exact c]
variable {x:Str}{i:Nat}{b₀:SZ}{pw hpos:Pos}{ok:SQ->Prop}
def DP {E:XK}{D:Ends}{ev:SN}{s':SR}(hstk:X.stack=X.env::X.outer)(hfr:X.env.frame=some X.env.locals)(hN:X.N.Nodup)(hi:X.N[i]? = some x)(hx:X.env.scope.names.lookup x=some .local)
  (hg:Gl X wt) (hW:X.mg wt=some (.ref Wt)) (hwd:nDb wt) (hok:∀C,ok C->ECat X.K C/\hasDictIn X.K C=true/\exmOne X.K (.ref C) (.ref Wt)=some true)
  (hsuite:∀e C fs pn xe,ok C->Has (G4 X e pn xe) e C fs->PSs (G4 X e pn xe) (b₀::suite) (tsu e C fs))
  (hE:∀C e fs H',E (.ref C) (some e) (upd H' e<|.xd fs)->H' e=none->ok C/\tsu e C fs { nx:=λO' H'=>D.nx (O'.set i none) H',rt:=λ_ _=>False } (σ.set i<|some<|.ref e) H')
  (I:Inv X π σ H s) (z:CXe X.prog X.w X.stack H s E ev s') :
  Tn (model X.prog X.w) X.A (noteFrame ev X.env) (λ_ s2=>Tn (model X.prog X.w) X.A (setFlight ev none) (λ_ s3=>Tn (model X.prog X.w) X.A (handleBy ev X.env [.ExceptHandler (some<|.Name wt pw) (some x) (b₀::suite) hpos]) (SP X π D) X.xe s3) X.xe s2) X.xe s':=by
 obtain⟨e,H',C,ps,us,vs,rfl,os,U,un,N,r,⟨dct,T,y1,y2,y3,Y,y5,y6,y7,y8⟩,q⟩:=z;have V:Inv X π σ H' s':=I.call' (ch:=[]) os un N U λb k=>absurd k (by simp)
 obtain⟨K,ts⟩:=hE C e _ H' q y6;obtain⟨S,P,hm⟩:=hok C K;have hl:=V.stack;have O:=V.ok.frames;rw[hstk]at hl O;have d:∀b,s.heap.objs.size<=b->(b∈X.ex\/X.s₀.heap.objs.size<=b)/\b≠X.env.locals/\(∀x c,X.env.cells.lookup x=some c->c≠b)/\∀p∈X.pn++π,p.1≠b:=λb k =>
  #v[.inr<|MG I.sz k,NT<|MI I.lt k,λy c hc=>by obtain⟨v,o,ho,_⟩:=I.cell y c hc;exact MR<|MI (MA ho) k,λp j=>MR<|MI (MA (I.pin p j).1) k]
 have big:s.heap.objs.size<=s'.heap.objs.size:=MG Y (NS (by obtain⟨_,g,_⟩:=y1;exact MA g));refine jN (base:=X.base) O hl hfr y1 y2 y3 λh1 T1 W z2 z3 z4=>?_
 rw[<-hstk]at z4;have Q:T1≠e:=NT (MI (by obtain⟨_,g,_⟩:=y1;exact MA g) W);have I1:Inv X π σ H' { s' with heap:=h1 }:=jz V z4 λb k=>by
  simp only[MJ,NH,OS]at k;rcases k with rfl | rfl
  .exact#v[y7,d _ y5]
  .exact#v[y6,d _ Y]
 have ac:H' T1=none:=V.hok.fresh W;have t:∀{Z k:Tb},Inv X π σ H' { s' with heap:=Z }->Turned [] [T1] Z k->Inv X π σ H' { s' with heap:=k }:=λ{Z k} Ia tu=>jz (s:={ s' with heap:=Z }) Ia #v[λb o _ L zz=>tu.keep b o (by simp) L zz,tu.slot,tu.size] λb k=>by rw[Nc.1 k];exact#v[ac,d _<|MG big W]
 refine ai (s:={ s' with heap:=h1 }) z2 z3 Q λh2 w1 w2 w3=>?_
 have I2:=t I1 w3;refine wpAny_handleBy_cons (codeAny_handlers_test ?_) (by intro q;cases q);have J2:Inv (G4 X e [] λ_ _=>False) [] σ H' { s' with heap:=h2 }:=jO I2 (by simp);refine cJ J2 hg hW ?_ hwd;have LT:Looks (model X.prog X.w) h2 (typeOf<|.ref e) (.ref C):=by obtain⟨_,g,_⟩:=w1;exact(Rx g).andThen .now
 refine(exm_one (M:=model X.prog X.w) (h:=h2) I2.kIn LT hm).at ?_;refine codeAny_handlers_suite_as (ai (s:={ s' with heap:=h2 }) w1 w2 Q λB v1 v2 v3=>?_);have I3:=t I2 v3;obtain⟨fv,ge,g1⟩:=v1;have pinned:∀p∈X.pn++π,B.get? p.1=some p.2/\H' p.1=none/\p.1≠X.env.locals/\p.1 ∉ X.fs/\∀v,p.2.data ≠ .cell v:=I3.pin;have w:B.get? e=some { cls:=.ref C,dict:=dct,data:=.fields fv }/\H' e=none/\e≠X.env.locals/\e ∉ X.fs/\∀v,(Data.fields fv) ≠ .cell v:=#v[ge,y6,(d e Y).2.1,I.nofs Y,λ_ z=>nomatch z];have go:∀pn,(∀p∈X.pn++π,p∈pn)->(∀p∈pn++[],B.get? p.1=some p.2/\H' p.1=none/\p.1≠X.env.locals/\p.1 ∉ X.fs/\∀v,p.2.data ≠ .cell v)->Has (G4 X e pn λ_ _=>False) e C (ps.zip vs) ->
   Tn (model X.prog X.w) (X.A.mark<|some<|.ref e) (storeName X.env x<|.ref e) (λ_ J=>Tn (model X.prog X.w) (X.A.mark<|some<|.ref e) (execs (b₀::suite) X.env) (λf G=>Tn (model X.prog X.w) X.A (do bindName X.env x .none;unbindBehindTheSuite X.env x hpos) (λ_ F=>SP X π D f F) X.xe G) (λ_ _=>False) J) (λ_ _=>False) { s' with heap:=B }:=λpn al af an=>by
  have I4:Inv (G4 X e pn λ_ _=>False) [] σ H' { s' with heap:=B }:=jO I3 af;refine W4 (X:=G4 X e pn λ_ _=>False) (v:=.ref e) I4 hN hi (.inl hx) rfl (λs4 I5=>?_)<|.inr hx;refine MY (hsuite e C _ pn (λ_ _=>False) K an [] s4 _ H' _ I5 ts) (λf s5 m=>?_) λ_ _ z=>z
  cases f with
  | next =>obtain⟨O',H2,I6,q2⟩:=m;exact uv (X:=X) (lZ V.ok I6 al) hN hi hx λs6 I7=>#v[_,H2,I7,q2]
  | ret v=>obtain⟨_,_,_,_,_,m⟩:=m;exact m.elim
  | brk=>obtain⟨_,_,_,m⟩:=m;exact m.elim
  | cont=>obtain⟨_,_,_,m⟩:=m;exact m.elim
 suffices hs:∃pn,(∀p∈X.pn++π,p∈pn)/\(∀p∈pn++[],B.get? p.1=some p.2/\H' p.1=none/\p.1≠X.env.locals/\p.1 ∉ X.fs/\∀v,p.2.data ≠ .cell v)/\Has (G4 X e pn λ_ _=>False) e C (ps.zip vs) by obtain⟨pn,a,b,c⟩:=hs;exact MY (go pn a b c) (λ_ _ z=>MY z (λ_ _ z=>z) λ_ _ z=>z.elim) λ_ _ z=>z.elim
 rcases y8 with ⟨rfl,y8⟩ | ⟨l,rfl,n1,L,n3,n4⟩
 .refine#v[(e,{ cls:=.ref C,dict:=none,data:=.fields fv })::(X.pn++π),(λp j=>Mw _ j),(λp j=>?_),#v[#v[_,none,MD,rfl,rfl,.inl #v[rfl,rfl,λn=>?_]],S,P]]
  .rw[NW]at j;rcases MJ.1 j with rfl | j
   .exact w
   .exact pinned p j
  .cases q3:(ps.zip vs).lookup n with
   | none=>rfl
   | some v =>
    obtain⟨u,_,z⟩:=oS r q3
    rw[y8]at z;cases z
 .obtain⟨A,R,ad⟩:=jB n4;have am:l<s'.heap.objs.size:=n4.ns.lt;have nT:l≠T1:=MR<|MI am W;have ab:l ∉ frs X.stack:=λhm=>by obtain⟨_,o,ho,_⟩:=I.stack.mem hm;exact absurd (MA ho)<|Qq.2 L
  have g3:B.get? l=some A:=v3.keep l A (by simp) (by simpa using nT) (w3.keep l A (by simp) (by simpa using nT)<|z4.keep l A ab n1 R);have ap:∀v,A.data ≠ .cell v:=λv z=>by obtain⟨o',es,ep,g',d',_⟩:=n4;rw[R]at g';cases g';rw[d']at z;cases z
  refine#v[(e,{ cls:=.ref C,dict:=some l,data:=.fields fv })::(l,A)::(X.pn++π),(λp j=>Mw _<|Mw _ j),(λp j=>?_),#v[#v[_,some A,MD,rfl,rfl,.inr #v[l,A,rfl,rfl,Mw _ MD,λn v z=>?_]],S,P]]
  .rw[NW]at j;rcases MJ.1 j with rfl | j
   .exact w
   .rcases MJ.1 j with rfl | j
    .exact#v[g3,n3,(d l L).2.1,I.nofs L,ap]
    .exact pinned p j
  .obtain⟨u,ru,zu⟩:=oS r z;exact#v[u,ru,by rw[ad,zu]]
end
end
section
def fG (nm:Str)(fs:List My):My:=.dict [(.str nm,.tuple fs)]
def ak:My->Option (Str×List My)
 | .dict [(.str nm,.tuple fs)]=>some (nm,fs)
 | _=>none
def pM {d:My}{nm:Str}{fs:List My}(h:ak d=some (nm,fs)):d=fG nm fs:=by
 unfold ak at h;split at h
 .cases h;rfl
 .cases h
def zd {nm:Str}{fs:List My}:ak (fG nm fs)=some (nm,fs):=rfl
def psT (nm:Str):List Str:=if nm = "NoPaper" then["word","number"] else if nm = "NoRest" then["word"] else if nm = "TooMany" then["word"] else if nm = "NoHouse" then["word"] else if nm = "NoComer" then["number"] else[]
def WE (mg:Str->Option SN)(E:XK):Str->List V->Hp->Prop:=λa b H=>∀C,mg a=some (.ref C)->∀e,H e=none->E (.ref C) (some e) (upd H e<|.xd<|(psT a).zip b)
section
variable [Feeds]
def vk (K:Frag)(W:Str->List V->Hp->Prop)(G:GF)(B0:List SQ)(H0:Hp)(F:FS)(D:Ends):Out->Prop
 | .rt d=>rB K G B0 H0 F D (.rt d)/\∀b fs,ak d=some (b,fs)->∀a H,Kp (m8 K G) H0 H->FAt K G H F->c6 K (hid H B0) fs a->W b a H
 | o=>rB K G B0 H0 F D o
def xV (K:Frag)(W:Str->List V->Hp->Prop)(ts:TS)(m:DE->M Out):Prop:=∀(G:GF) (B0:List SQ) (b:Hp) (E:DE) (F:FS) (a:St) (H:Hp) (D:Ends) (r:Out) (c:FS),Sit K G B0 b E F a H->m E F=some (r,c)->vk K W G B0 b c D r->ts D a H
structure SsX (K:Frag) (W:Str->List V->Hp->Prop) (X:Cx) (st:SZ) (ts:TS) (m:DE->M Out):Prop where
 ps:PS X st ts
 ok:xV K W ts m
structure SssX (K:Frag) (W:Str->List V->Hp->Prop) (X:Cx) (sts:List SZ) (ts:TS) (m:DE->M Out):Prop where
 ps:PSs X sts ts
 ok:xV K W ts m
variable {K:Frag}{W:Str->List V->Hp->Prop}{X:Cx}{st:SZ}{sts rest:List SZ}{t u:TS}{mt mu:DE->M Out}{p:Pos}{c a:Ta}
def wX {G:GF}{B0:List SQ}{H0:Hp}{F:FS}{D:Ends}{o:Out}(h:vk K W G B0 H0 F D o):rB K G B0 H0 F D o:=by cases o <;> first | exact h | exact h.1
def xY (h:TSd K t mt):xV K W t mt:=λG B0 b E F a H D r c S e q=>h G B0 b E F a H D r c S e<|wX q
def PS.nox {st:SZ}{t:TS}(h:PS X.nox st t):PS X st t:=λπ s d H D I e=>by
 refine MY (h π s d H D (I.wish _) e) (λf g z=>?_) λ_ _ z=>z.elim
 cases f with
 | next=>obtain⟨a,c,b,q⟩:=z;exact#v[a,c,Inv.unwish b,q]
 | brk=>obtain⟨a,c,b,q⟩:=z;exact#v[a,c,Inv.unwish b,q]
 | cont=>obtain⟨a,c,b,q⟩:=z;exact#v[a,c,Inv.unwish b,q]
 | ret v=>obtain⟨x,c,a,b,r,q⟩:=z;exact#v[x,c,a,Inv.unwish b,r,q]
def Bn (h:Ss K X.nox st t mt):SsX K W X st t mt:=#v[PS.nox h.ps,xY h.ok]
def ij (h:Sss K X.nox sts t mt):SssX K W X sts t mt:=#v[h.ps.nox,xY h.ok]
def Y1 (h1:SsX K W X st t mt)(h2:SssX K W X rest u mu):SssX K W X (st::rest) (yi t u) (mSq mt mu):=#v[B6 h1.ps h2.ps,λG B0 c E F g H D r k S e q=>by
 obtain⟨⟨o,f⟩,h,e⟩:=bS9 e;refine h1.ok G B0 c E F g H _ o f S h ?_;cases o with
 | nx b=>exact λa j i=>h2.ok G B0 c b f a j D r k i e q
 | rt d=>cases e;exact q
 | bk b=>cases e;exact q
 | ct b=>cases e;exact q]
def dE (h1:SsX K W X st t mt):SssX K W X [st] t mt:=#v[S5 h1.ps,h1.ok]
def qP {x y:List SZ}{tt:TT}{mc:DE->M Bool}(hc:Et K X.nox c tt mc)(ha:SssX K W X x t mt)(hb:SssX K W X y u mu):SsX K W X (.If c x y pos) (AL tt t u) (mIf mc mt mu):=#v[nr hc.pt.nox ha.ps hb.ps,λG B0 i E F a H D r j S e q=>by
 obtain⟨⟨b,d⟩,k,e⟩:=bS9 e;obtain⟨B,s,l,I⟩:=S.ex;refine hc.ok G B E F a H _ b d I k λh f g=>?_
 cases b with
 | true=>exact ha.ok G B0 i E d a h D r j (S.step f g) e q
 | false=>exact hb.ok G B0 i E d a h D r j (S.step f g) e q]
def bX (nm:Str)(ms:DE->M (List My)):DE->M Out:=λE F=>(ms E F).bind λp=>if p.1.length=(psT nm).length then some (.rt<|fG nm p.1,p.2) else none
def PA.nox {t:TA}(h:PA X.nox es t):PA X es t:=λd π s a H Q I c=>by
 refine MY (h d π s a H Q (I.wish _) c) (λg i z=>?_) λ_ _ z=>z.elim
 obtain⟨b,f,e,r,q⟩:=z;exact#v[b,f,Inv.unwish e,r,q]
def cL (nm:Str){E:XK}{f:SQ}{cp:Pos}{ta:TA}{ms:DE->M (List My)}(G:Goes X E)(cl:ECls X.K Wt C f)(ini:EIni X.K C f (psT nm))(hr:Room 2 X.A)(hm:X.mg nm=some (.ref C))(ha:Ea K X.nox (a::es) ta ms)(hg:Gl X nm:=by rfl)
  (hdb:nDb nm:=by decide) (he:Td (a::es) X.env=(false,eval a X.env)::Td es X.env:=by rfl) (hpl:(Ti cp<|Td es X.env).any (·.1)=false:=by rfl) :
  SsX K (WE X.mg E) X (.Raise (some<|.Call (.Name nm p) (a::es) [] cp) none pos) (yJ (λvs H=>∀e,H e=none->E (.ref C) (some e) (upd H e<|.xd<|(psT nm).zip vs)) (psT nm) ta) (bX nm ms) :=
 #v[uU cl ini hr hg hm (AK G) (PA.nox ha.pa) hdb he hpl,λG B0 m E F d H D r n S e q=>by
  obtain⟨⟨c,k⟩,i,e⟩:=bS9 e;obtain⟨B,s,l,I⟩:=S.ex;split at e
  .rename_i hl;cases e;refine ha.ok G B E F d H _ c k I i λvs j g h b=>#v[?_,?_]
   .rw[b.length];exact hl
   .exact q.2 nm c zd vs j (S.kp.trans g) h (b.same<|N0 s) C hm
  .cases e]
end
end
section
section
variable [Feeds]
def spX (K:Frag)(mg:Str->Option SN)(n:Nat)(f:List DV->M My):Sp:=λe H Q E=>∃G B F c d g,e.length=n/\(∀b∈m8 K G,b∈B)/\BOk H B/\FAt K G H F/\bW K G B H c e/\f c F=some (d,g) /\
 (∀v a,Kp (m8 K G) H a->FAt K G a g->c8 K (hid a B) d v->Q v a) /\
 ∀h fs,ak d=some (h,fs)->∀e a,Kp (m8 K G) H a->FAt K G a g->c6 K (hid a B) fs e->WE mg E h e a
def CalleeX (P:SS)(w:SU)(K:Frag)(mg:Str->Option SN)(base:Tb)(x:Str)(k:Nat)(ps:List Str)(sp:Sp):Prop :=
 ∃f a,FnOk P w K mg base (CXe P w) k f a ps sp/\mg x=some (.ref f)/\keepIn K (.ref f)=true/\bD K a ps []
variable {K:Frag}{X:Cx}{st:SZ}{P:SS}{w:SU}{mg:Str->Option SN}{base:Tb}
def Ar {x:Str}{f:SQ}{fd:SY}{N ps:List Str}{k:Nat}{m:DE->M Out}(Fn:Fun K x qual st f fd)(S:FnScope N ps (defScope st))
  (hbody:∀(dr:SN) (A:SW) (outer:List Tf) (s:SR) (H:Hp) (E:XK),Room k (A.deeper<|envOfC qual (defScope st) s.heap.objs.size f dr) ->
   ∃ts,SssX K (WE mg E) (K8 (CXe P w) P w K mg base N qual (defScope st) f dr A outer s H E) (defBody st) ts m):FnOk P w K mg base (CXe P w) (k+1) f fd ps (spX K mg ps.length<|I0 N m):=by
 obtain⟨Z,Y,kV,U,X,an,dr,ct,y,rfl,lk,j⟩:=Fn.ex;refine Cg lk j S (λg H Q E h=>?_) λA outer s H g Q E C h=>?_
 .obtain⟨G,B,F,a,d,W,hl,_⟩:=h;exact hl
 .obtain⟨G,B,F,a,d,W,hl,O,bk,L,J,D,q,u⟩:=h;obtain⟨ts,b⟩:=hbody dr A outer s H E C;refine#v[ts,b.ps,?_];obtain⟨⟨o,V⟩,T,e⟩:=bS9 D;refine b.ok G B H (B9 N a) F (L2.V9 N g) H _ o V (ju O bk L J) T ?_;cases o with
  | rt d'=>cases e;exact#v[λv c i n l=>q v c i n l,λz fs R g c i n l=>u z fs R g c i n l]
  | nx r=>cases e;exact λt c p=>q _ c p.kp (by obtain⟨B,_,_,I⟩:=p.ex;exact I.fd) c8.non
  | bk r=>cases e
  | ct r=>cases e
variable {x:Str}{k n:Nat}{ps:List Str}{p:Pos}{e:Ta}{tl:TA}{f:List DV->M My}
def tAt (σ0:St)(t:TE):TE:=λa H Q=>a = σ0/\t a H Q
def xr {sp:Sp}{E:XK}{σ0:St}(C:CalleeX X.prog X.w X.K X.mg X.base x k ps sp)(hr:Room k X.A)(hg:Gl X x)(hx:∀π H s ev s',Inv X π σ0 H s->CXe X.prog X.w X.stack H s E ev s'->X.xe ev s')(ha:PA X (e::es) tl)
  (hdb:nDb x) (he:Td (e::es) X.env=(false,eval e X.env)::Td es X.env) (hpl:(Ti pos<|Td es X.env).any (·.1)=false) :
  PE X (.Call (.Name x p) (e::es) [] pos) (tAt σ0<|aE sp [] E tl):=by
 obtain⟨f,t,G,m,kp,b⟩:=C;intro π s j H Q I #v[c,h];subst c;refine Pf<|cJ I hg m ?_ hdb;refine callWith_K (h₀:=X.base) I.ok.mod.kin kp (thn (ha pos π s j H _ I h) λus s1 #v[l,i,a,r,q]=>#v[a.kIn,?_]) he hpl;have g:m9 (l++[]) (us++[]):=r.append .nil;have hl:(us++[]).length=ps.length:=by rw[<-g.length];exact G.len _ _ _ _ q
 refine PY (RD (G.run X.A X.stack s1 i #v[us,[]] _ _ Q E hr a.env0 (b s1 us a.kIn hl) g q) λn s' d=>?_);cases n with
 | error ev=>exact hx π i s1 ev s' a d
 | ok o =>
  cases o with
  | ret u=>exact a.after d
  | _=>exact d.elim
def tN {K:Frag}{H:Hp}{d:My}{v:V}{z:Str×List My}(h:c8 K H d v)(e:ak d=some z):False:=by obtain⟨a,fs⟩:=z;rw[pM e]at h;simp only[fG,c8]at h
end
end
section
section
variable {X:Cx}{x:Str}{i:Nat}{body:List SZ}{b₀:SZ}{pw hpos:Pos}{ok:SQ->Prop}{tb:XK->St->TS}
def Bc (i:Nat)(ok:SQ->Prop)(tsu:SQ->SQ->List (Str×V)->TS)(D:Ends)(σ:St):XK:=λf c d=>∃C e fs a,f = .ref C/\c=some e/\d=upd a e (.xd fs)/\a e=none/\ok C /\
 tsu e C fs { nx:=λb a=>D.nx (b.set i none) a,rt:=λ_ _=>False } (σ.set i<|some<|.ref e) a
def yW {D:Ends}{σ:St}{e:SQ}{fs:List (Str×V)}{H':Hp}(h:Bc i ok tsu D σ (.ref C) (some e) (upd H' e<|.xd fs))(he:H' e=none):ok C/\tsu e C fs { nx:=λO' H'=>D.nx (O'.set i none) H',rt:=λ_ _=>False } (σ.set i<|some<|.ref e) H':=by
 obtain⟨q,p,c,o,n,m,d,l,k,j⟩:=h;cases n;cases m;have g:fs=c:=by have z:=congrFun d e;rw[j3,j3]at z;cases z;rfl
 have f:H'=o:=funext λb=>by
  by_cases a:b=e
  .rw[a,he,l]
  .have z:=congrFun d b;rwa [i8 a,i8 a]at z
 subst g f;exact#v[k,j]
def DJ (hstk:X.stack=X.env::X.outer)(hfr:X.env.frame=some X.env.locals)(hN:X.N.Nodup)(hi:X.N[i]? = some x)(hx:X.env.scope.names.lookup x=some .local)
  (hg:Gl X wt) (hW:X.mg wt=some (.ref Wt)) (hwd:nDb wt) (hok:∀C,ok C->ECat X.K C/\hasDictIn X.K C=true/\exmOne X.K (.ref C) (.ref Wt)=some true)
  (hsuite:∀e C fs pn xe,ok C->Has (G4 X e pn xe) e C fs->PSs (G4 X e pn xe) (b₀::suite) (tsu e C fs))
  (hbody:∀(E:XK) (σ0:St) pn xe,(∀pins' H s ev s',Inv (ft X pn xe) pins' σ0 H s->CXe X.prog X.w X.stack H s E ev s'->xe ev s')->PSs (ft X pn xe) body (tb E σ0)) :
  PS X (.Try body [.ExceptHandler (some<|.Name wt pw) (some x) (b₀::suite) hpos] [] [] pos) (λD σ H=>tb (Bc i ok tsu D σ) σ D σ H):=by
 intro π s σ H D I h;refine wpAny_Try_except ?_;refine MY (hbody (Bc i ok tsu D σ) σ (X.pn++π) _ (λpins' d s1 ev s' J z=>DP hstk hfr hN hi hx hg hW hwd hok hsuite (λC e fs c=>yW) (W3 I.ok J λp b=>b) z) [] s σ H D (zm I<|by simpa using I.pin) h) (λf s1 z=>?_) (λ_ _ z=>z);cases f with
 | next=>obtain⟨a,c,J,q⟩:=z;exact Pk #v[a,c,W3 I.ok J λp b=>b,q]
 | brk=>obtain⟨a,c,J,q⟩:=z;exact#v[a,c,W3 I.ok J λp b=>b,q]
 | cont=>obtain⟨a,c,J,q⟩:=z;exact#v[a,c,W3 I.ok J λp b=>b,q]
 | ret v=>obtain⟨y,c,a,J,r,q⟩:=z;exact#v[y,c,a,W3 I.ok J λp b=>b,r,q]
end
end
variable {fi:Nat}
section
section
variable [Feeds]{K:Frag}{G:GF}{B B0:List SQ}{H0:Hp}{E:DE}{F:FS}{σ:St}{H:Hp}{i:Nat}
def SitE.hole (I:SitE K G B E F σ H)(h:E[i]? = some none)(v:Option V):SitE K G B E F (σ.set i v) H :=
 #v[I.fd,I.fB,I.bk,by rw[NO];exact I.ln,λj x e=>by
  have a:i≠j:=λz=>by rw[<-z,h]at e;cases e
  rw[MF a];exact I.loc j x e]
def Sit.hole (S:Sit K G B0 H0 E F σ H)(h:E[i]? = some none)(v:Option V):Sit K G B0 H0 E F (σ.set i v) H:=by
 obtain⟨B,s,o,I⟩:=S.ex;refine#v[#v[B,s,o,I.hole h v],S.fB,S.kp,λj g a e z=>?_,λj k g es a f d m l=>?_,S.dic.of λj w c q n=>#v[rfl,by rw[MF λy=>by rw[<-y,h]at n;cases n]]]
 .have b:i≠j:=λy=>by rw[<-y,h]at e;cases e
  rw[MF b]at z;exact S.own j g a e z
 .have b:i≠j:=λy=>by rw[<-y,h]at f;cases f
  have p:i≠k:=λy=>by rw[<-y,h]at d;cases d
  rw[MF b]at m;rw[MF p]at l;exact S.inj j k g es a f d m l
def SuD (K:Frag)(mg:Str->Option SN)(ok:SQ->Prop)(i:Nat)(tsu:SQ->SQ->List (Str×V)->TS)(hd:Str->List My->DE->Option DE):Prop :=
 ∀(G:GF) (B B0:List SQ) (H0:Hp) (E:DE) (F:FS) (σ:St) (H:Hp) (D:Ends) (d:Str) (C:SQ) (fs:List My) (f:List V) (h:DE) (e:SQ),Sit K G B0 H0 E F σ H->(∀b∈B0,b∈B)->(∀b∈B,b∈B0\/H0 b=none)->SitE K G B E F σ H ->
  mg d=some (.ref C)->c6 K (hid H B) fs f->hd d fs E=some h->H e=none->(∀a g,Sit K G B0 H0 h F a g->D.nx a g) ->
  ok C/\tsu e C ((psT d).zip f) { nx:=λc j=>D.nx (c.set i none) j,rt:=λ_ _=>False } (σ.set i<|some<|.ref e) H
noncomputable def yU (fi:Nat)(told:Str)(g:List DV->M My)(ms:DE->M (List DV))(hd:Str->List My->DE->Option DE):DE->M Out:=λE F=>(ms E F).bind λp=>(g p.1 p.2).bind λq=>match ak q.1 with
 | some z=>(hd z.1 z.2 E).bind λE1=>some (.nx E1,q.2)
 | none=>(bN fi (.tuple [.str told,q.1]) E).bind λE1=>some (.nx E1,q.2)
variable {X:Cx}{x y gn told:Str}{b₀:SZ}{pw hpos p1 p2 p3 p4 p5 p6:Pos}{ok:SQ->Prop}{k n j1:Nat}{k0}{ps:List Str}{a:Ta}{tl:TA}{g:List DV->M My}{ms:DE->M (List DV)}{hd:Str->List My->DE->Option DE}
def Cp (fi i:Nat)(C:CalleeX X.prog X.w X.K X.mg X.base gn k ps (spX K X.mg n g))(hr:Room k X.A)(ha:∀pn xe,Evs K (ft X pn xe) (a::es) tl ms)(hn:∀E F args F',ms E F=some (args,F')->args.length=n)
  (hsd:SuD K X.mg ok i tsu hd) (hsuite:∀e C fs pn xe,ok C->Has (G4 X e pn xe) e C fs->PSs (G4 X e pn xe) (b₀::suite) (tsu e C fs))
  (hok:∀C,ok C->ECat X.K C/\hasDictIn X.K C=true/\exmOne X.K (.ref C) (.ref Wt)=some true) (hW:X.mg wt=some (.ref Wt)) (hN:X.N.Nodup)
  (hstk:X.stack=X.env::X.outer:=by rfl) (hfr:X.env.frame=some X.env.locals:=by rfl) (hi:X.N[i]? = some x:=by rfl) (hx:X.env.scope.names.lookup x=some .local:=by rfl) (hfi:X.N[fi]? = some y:=by rfl) (hy:X.env.scope.names.lookup y=some .local:=by rfl)
  (hg:Gl X wt:=by rfl) (hwd:nDb wt:=by decide) (hgg:Gl X gn:=by rfl) (hgd:nDb gn:=by decide)
  (he:Td (a::es) X.env=(false,eval a X.env)::Td es X.env:=by rfl) (hpl:(Ti p3<|Td es X.env).any (·.1)=false:=by rfl)
  (hs:Tp (.Tuple [.Constant (.str told) j1 p1,.Call (.Name gn p2) (a::es) [] p3] k0 p4) (some<|.Name y p6) p5.line X.env=pure false:=by rfl) :
  Ss K X (.Try [.Assign [.Name y p6] (.Tuple [.Constant (.str told) j1 p1,.Call (.Name gn p2) (a::es) [] p3] k0 p4) p5] [.ExceptHandler (some<|.Name wt pw) (some x) (b₀::suite) hpos] [] [] pos)
   (λD σ H=>bA (oE<|x6 (tC<|.str told)<|x6 (tAt σ<|aE (spX K X.mg n g) [] (Bc i ok tsu D σ) tl) T4) (O8 fi) D σ H) (yU fi told g ms hd):=by
 refine#v[DJ (tb:=λE0 h=>bA (oE<|x6 (tC<|.str told)<|x6 (tAt h<|aE (spX K X.mg n g) [] E0 tl) T4)<|O8 fi) hstk hfr hN hi hx hg hW hwd hok hsuite λE0 h pn xe J=>?_,λG B0 H0 E F σ H D r F' S e q=>?_]
 .exact S5<|O1 (X:=ft X pn xe) hN hfi (.inl hy) (ik<|n6 vT<|n6 (xr (X:=ft X pn xe) C hr hgg J (ha pn xe).pa hgd he hpl) B1) hs<|.inr hy
 .obtain⟨⟨args,Z⟩,T,e⟩:=bS9 e;obtain⟨⟨d,F2⟩,e2,e⟩:=bS9 e;obtain⟨B,s,P,I⟩:=S.ex;dsimp only at e;refine#v[rfl,(ha [] λ_ _=>False).ok G B E F σ H _ args Z I T λvs H1 A o Q=>?_];have V:=S.step A o;have Y:=I.step A o;rw[NW];refine#v[G,B,Z,args,d,F2,by rw[Q.length];exact hn _ _ _ _ T,I.fB,B4 I.bk A o,o,Q,e2,λv c j f m=>?_,λnm fs t u c j f m=>?_]
  .have S2:=V.step j f;have W:=Y.step j f;cases t:ak d with
   | some z=>exact(tN m t).elim
   | none =>rw[t]at e;obtain⟨O,N,e⟩:=bS9 e;cases e;refine#v[by rw[Nr];simp,λp L=>?_];have kp:Kp (m8 K G) c (upd c p<|.tup [.str told,v]):=Kp.upd L;have R:FAt K G (upd c p<|.tup [.str told,v]) _:=f.same<|j5.upd L;have M:c8 K (hid (upd c p<|.tup [.str told,v]) B) (.tuple [.str told,d]) (.ref p):=K5 W.bk L<|c6.cons c8.st<|c6.cons m c6.nil;exact cn fi G B E _ σ _ _ _ O (λb H'=>D.nx b H') (W.step kp R) M N λb I' fr=>q b _<|(S2.step kp R).bind s P I' fr
  .rw[t]at e;obtain⟨O,N,e⟩:=bS9 e;cases e;intro C' hm U l;obtain⟨w,ht⟩:=hsd G B B0 H0 E _ σ c D nm C' fs u O U (V.step j f) s P (Y.step j f) hm m N l q;exact#v[C',U,_,c,rfl,rfl,rfl,l,w,ht]
end
end
variable {its:List (Sum Str Str)}
section
section
variable {X:Cx}{p px:Pos}{cl:List SQ}{t t':TA}{e:SQ}{fs:List (Str×V)}{i:Nat}{x f:Str}
def jw (cl:List SQ):TA:=λ_ H Q=>Q (cl.map V.ref) H
def EX :PA X [] (jw []):=B1
def Y9 {nm:Str}(hm:X.mg nm=some (.ref C))(h:PA X es (jw cl))(hg:Gl X nm:=by rfl)(hd:nDb nm:=by decide)(hs:Td (.Name nm p::es) X.env=(false,eval (.Name nm p) X.env)::Td es X.env:=by rfl):PA X (.Name nm p::es) (jw (C::cl)) :=
 n6 (te:=tC<|.ref C) (t:=jw cl) (kX hg hm rfl hd) h hs
def PA.imp (h:PA X es t)(w:∀σ H Q,t' σ H Q->t σ H Q):PA X es t':=λa π s σ H Q I z=>h a π s σ H Q I<|w σ H Q z
def itV (fs:List (Str×V)):List (Sum Str Str)->Option (List V)
 | []=>some []
 | .inl c::r=>(itV fs r).bind λa=>some (.str c::a)
 | .inr f::r=>(fs.lookup f).bind λv=>(itV fs r).bind λa=>some (v::a)
def vR (K:Frag)(C:SQ)(fs:List (Str×V))(e:SQ)(i:Nat)(its:List (Sum Str Str)):TA:=λb H Q=>b[i]? = some (some<|.ref e)/\(∀f,.inr f∈its->findIn K (.ref C) f=some none)/\∃a,itV fs its=some a/\Q a H
def DZ :PA X [] (vR X.K C fs e i []):=PA.imp B1 λa H Q #v[_,_,b,z,q]=>by cases z;exact q
def wA (hh:Has X e C fs)(h:PA X es (vR X.K C fs e i its))(hN:X.N[i]? = some x:=by rfl)(hv:Vis X.env.scope x:=by exact Or.inl rfl)(hb:Tq (.Name x px) f X.env (eval (.Name x px) X.env)=eval (.Name x px) X.env:=by rfl)
  (hd:nDb x:=by decide) (hcd:nCd x:=by decide) (hs:Td (.Attribute (.Name x px) f p::es) X.env=(false,eval (.Attribute (.Name x px) f p) X.env)::Td es X.env:=by rfl) :
  PA X (.Attribute (.Name x px) f p::es) (vR X.K C fs e i (.inr f::its)) :=
 PA.imp (n6 (CN hh hN hv hb hd hcd) h hs) λn H Q #v[b,a,o,l,q]=>by obtain⟨v,k,j⟩:=bS9 l;obtain⟨m,d,c⟩:=bS9 j;cases c;exact#v[b,a f MD,v,k,b,λg hg=>a g<|Mw _ hg,m,d,q]
end
def itD (fs:List (Str×My)):List (Sum Str Str)->Option (List My)
 | []=>some []
 | .inl c::r=>(itD fs r).bind λa=>some (.str c::a)
 | .inr f::r=>(fs.lookup f).bind λv=>(itD fs r).bind λa=>some (v::a)
section
variable {K:Frag}{H:Hp}
theorem qQ:∀{ps:List Str} {fs:List My} {vs:List V} {n:Str} {d:My},c6 K H fs vs->(ps.zip fs).lookup n=some d->∃v,(ps.zip vs).lookup n=some v/\c8 K H d v
 | [],_,_,_,_,_,h=>by simp at h
 | _::_,[],_,_,_,_,h=>by simp at h
 | p::ps,w::fs,vs,n,d,hd,h=>by
  simp only[c6]at hd;obtain⟨v,r,rfl,c,b⟩:=hd;rw[Qc,Nz]at h ⊢;by_cases a:n=p
  .subst a;rw[show(n == n)=true from SA n]at h ⊢;cases h;exact#v[v,rfl,c]
  .rw[show(n == p)=false from Ou.2 a]at h ⊢;exact qQ b h
theorem kA {ps:List Str}{fs:List My}{vs:List V}(hd:c6 K H fs vs):∀{its:List (Sum Str Str)} {ds:List My},itD (ps.zip fs) its=some ds->∃ws,itV (ps.zip vs) its=some ws/\c6 K H ds ws
 | [],ds,h=>by cases h;exact#v[[],rfl,c6.nil]
 | .inl c::its,ds,h=>by
  obtain⟨es,g,e⟩:=bS9 h;cases e;obtain⟨ws,b,a⟩:=kA hd g;exact#v[.str c::ws,by rw[itV,b];rfl,c6.cons c8.st a]
 | .inr f::its,ds,h=>by obtain⟨d,k,h⟩:=bS9 h;obtain⟨es,g,e⟩:=bS9 h;cases e;obtain⟨v,j,i⟩:=qQ hd k;obtain⟨ws,b,a⟩:=kA hd g;exact#v[v::ws,by rw[itV,j,MU,b];rfl,c6.cons i a]
end
structure EFit (K:Frag) (mg:Str->Option SN) (Wt:SQ) (nm:Str) (cl:List SQ) (C:SQ):Prop where
 mgc:mg nm=some (.ref C)
 cat:ECat K C
 hd:hasDictIn K C=true
 exm:exmOne K (.ref C) (.ref Wt)=some true
 ve:kitOne K (.ref C) (.type "ValueError")=some true
 st:kitAny K (.ref C) (cl.map SN.ref)=some false
 nof:∀p∈psT nm,findIn K (.ref C) p=some none
section
variable [Feeds]{K:Frag}{mg:Str->Option SN}{C0:SQ}{nm0:Str}{cl:List SQ}{i j:Nat}
def tsA (K:Frag)(C0:SQ)(cl:List SQ)(i j fi:Nat)(its:List (Sum Str Str)):SQ->SQ->List (Str×V)->TS:=λe C fs =>
 yi (bA (tCB (AS K e C)<|x6 (Q2 i)<|x6 (oE<|jw cl) T4)<|O8 j)
  (AL (Ao (tB<|tCB (AS K e C)<|x6 (Q2 i)<|x6 (tC<|.ref C0) T4)<|Ao (tB<|tCB (AS K e C)<|x6 (Q2 i)<|x6 (tC<|.ty "ValueError") T4)<|CK<|tB<|Q2 j) (bA (oE<|vR K C fs e i its)<|O8 fi) yA)
def pQ (E:DE)(i:Nat):Bool:=match E[i]? with
 | some none=>true
 | _=>false
def tL {E:DE}{i:Nat}(h:pQ E i=true):E[i]? = some none:=by
 unfold pQ at h;split at h
 .assumption
 .cases h
def hdA (nm0:Str)(i j fi:Nat)(its:List (Sum Str Str)):Str->List My->DE->Option DE:=λa fs E=>if a=nm0/\pQ E i=true then(itD ((psT nm0).zip fs) its).bind λb=>(bN j (.bool false) E).bind λc=>bN fi (.tuple b) c else none
theorem kG:∀{fs:List (Str×V)} {its:List (Sum Str Str)} {vs:List V},itV fs its=some vs->vs.length=its.length
 | _,[],_,h=>by cases h;rfl
 | fs,.inl c::r,_,h=>by
  obtain⟨d,b,a⟩:=bS9 h;cases a;rw[ME,ME,kG b]
 | fs,.inr f::r,_,h=>by obtain⟨v,_,h⟩:=bS9 h;obtain⟨d,b,a⟩:=bS9 h;cases a;rw[ME,ME,kG b]
def mN {i j:Nat}{d:My}{E E1:DE}(h:bN j d E=some E1)(hij:i≠j):E1[i]? = E[i]?:=by
 unfold bN at h;split at h
 .cases h;exact MF<|Ow hij
 .cases h
def GY (ef:EFit K mg Wt nm0 cl C0)(hij:i≠j)(hif:i≠fi)(hjl:its.length<=100)(hcl:cl.length<=100)(hb:(its.all λz=>match z with | .inr f=>(psT nm0).contains f | .inl _=>true)=true):SuD K mg (λC=>C=C0) i (tsA K C0 cl i j fi its) (hdA nm0 i j fi its):=by
 have k:∀f,.inr f∈its->f∈psT nm0:=λf x=>by have z:=Pc.1 hb (.inr f) x;exact List.contains_iff_mem.1 z
 intro G B B0 H0 E F T H D nm C fs vs E1 e S s N I Z hd d he q;unfold hdA at d;split at d
 .rename_i hc;obtain⟨rfl,c⟩:=hc;have c:=tL c;obtain⟨ds,h1,d⟩:=bS9 d;obtain⟨w,g,P⟩:=bS9 d;have eC:C=C0:=by have z:=Z.symm.trans ef.mgc;cases z;rfl
  subst eC;refine#v[rfl,?_];obtain⟨o,M,W⟩:=kA hd h1;have l:i < T.length:=by rw[<-I.ln];exact(MK.1 c).1
  refine#v[.ref e,ML l,?_,λp O=>?_]
  .rw[Nr];simp;omega
  have kp:Kp (m8 K G) H (upd H p<|.tup<|cl.map V.ref):=Kp.upd O;have L:FAt K G (upd H p<|.tup<|cl.map V.ref) F:=I.fd.same<|j5.upd O;refine#v[.ref p,false,rfl,.inr<|.inr #v[p,cl,rfl,j3,ef.st],?_];have S1:=(S.hole c<|some<|.ref e).step kp L;have I1:=(I.hole c<|some<|.ref e).step kp L;refine cn j G B E F _ _ (.bl false) (.bool false) w _ I1 c8.bl g λa u n=>?_
  have S2:=S1.bind s N u n;have m:w[i]? = some none:=(mN g hij).trans c;have A:a[i]? = some (some<|.ref e):=((n i λy z=>by rw[m]at z;cases z).2).trans<|ML l;have hj:a[j]? = some (some<|.bl false):=by
   have ej:w[j]? = some (some<|.dat<|.bool false):=by
    unfold bN at g;split at g
    .rename_i hl;cases g;exact ML hl
    .cases g
   obtain⟨v,X,r⟩:=u.loc j _ ej;have r:c8 K (hid (upd H p<|.tup<|cl.map V.ref) B) (.bool false) v:=r;simp only[c8]at r;rw[X,r]
  have Y:kitOne K (.ref C) (.ref C)=some true:=by unfold kitOne;rw[Mx<|SA _]
  refine#v[.ref e,A,.ref C,true,rfl,.inl #v[C,rfl,Y],true,rfl,?_];dsimp only;rw[Mx rfl];refine#v[.ref e,A,.ty "ValueError",true,rfl,.inr<|.inl #v[_,rfl,ef.ve],true,rfl,?_];dsimp only;rw[Mx rfl];refine#v[_,hj,false,rfl,?_];dsimp only;rw[Mx<|by rfl];refine#v[A,λf x=>ef.nof f<|k f x,o,M,?_,λt b=>?_]
  .rw[Nr,kG M];omega
  have h:Kp (m8 K G) (upd H p<|.tup<|cl.map V.ref) (upd (upd H p<|.tup<|cl.map V.ref) t<|.tup o):=Kp.upd b;have Q:FAt K G (upd (upd H p<|.tup<|cl.map V.ref) t<|.tup o) F:=L.same<|j5.upd b;have U:c8 K (hid (upd (upd H p<|.tup<|cl.map V.ref) t<|.tup o) B) (.tuple ds) (.ref t):=K5 u.bk b<|W.same<|kp.hid I.fB;refine cn fi G B w F a _ _ _ E1 _ (u.step h Q) U P λR I3 J=>?_
  exact q _ _<|((S2.step h Q).bind s N I3 J).hole ((mN P hif).trans m) none
 .cases d
end
end
section
def jl :Ts "ValueError" = some (.type "ValueError"):=by first | rfl | decide +kernel
section
variable {X:Cx}{e C0:SQ}{fs:List (Str×V)}{i j:Nat}{cl:List SQ}{x y z nm0:Str}{ces ies:List Ta}{p1 p2 p3 p4 p5 p6 q1 q2 q3 q4 q5 q6 q7 q8 q9 r1 r2 r3 r4:Pos}{k1 k2}{p2' p3':Pos}
def GV (h:Has X e C fs)(hmI:X.mg "isinstance" = none)(hmV:X.mg "ValueError" = none)(hm0:X.mg nm0=some (.ref C0))(hc:PA X ces (jw cl))(hits:PA X ies (vR X.K C fs e i its))(hNd:X.N.Nodup)
  (hi:X.N[i]? = some x:=by rfl) (hj:X.N[j]? = some y:=by rfl) (hfi:X.N[fi]? = some z:=by rfl) (hx:X.env.scope.names.lookup x=some .local:=by rfl) (hy:X.env.scope.names.lookup y=some .local:=by rfl) (hz:X.env.scope.names.lookup z=some .local:=by rfl)
  (dx:nDb x:=by decide) (cx:nCd x:=by decide) (dy:nDb y:=by decide) (cy:nCd y:=by decide) (d0:nDb nm0:=by decide)
  (gI:Gl X "isinstance":=by rfl) (gV:Gl X "ValueError":=by rfl) (g0:Gl X nm0:=by rfl)
  (s1:Tp (.Call (.Name "isinstance" p2) [.Name x p3,.Tuple ces k1 p4] [] p5) (some<|.Name y p1) p6.line X.env=pure false:=by rfl) (s2:Tp (.Tuple ies k2 r2) (some<|.Name z r1) r3.line X.env=pure false:=by rfl) :
  PSs X [.Assign [.Name y p1] (.Call (.Name "isinstance" p2) [.Name x p3,.Tuple ces k1 p4] [] p5) p6,
   .If (.BoolOp .And [.Call (.Name "isinstance" q1) [.Name x q2,.Name nm0 q3] [] q4,.Call (.Name "isinstance" q5) [.Name x q6,.Name "ValueError" q7] [] q8,.UnaryOp .Not (.Name y q9) r4] p2') [.Assign [.Name z r1] (.Tuple ies k2 r2) r3] [] p3'] (tsA X.K C0 cl i j fi its e C fs) :=
 B6 (O1 hNd hj (.inl hy) (M6 (gO h) gI hmI W1<|n6 (D5 hi (.inl hx) dx cx)<|n6 (ik hc) B1) s1<|.inr hy)
  (S5 (nr (PW.pt (lD (qg<|M6 (gO h) gI hmI W1<|n6 (D5 hi (.inl hx) dx cx)<|n6 (kX g0 hm0 rfl d0) B1) (lD (qg<|M6 (gO h) gI hmI W1<|n6 (D5 hi (.inl hx) dx cx)<|n6 (rW gV hmV jl rfl) B1)
   (kF<|wI<|qg<|D5 hj (.inl hy) dy cy)))) (S5<|O1 hNd hfi (.inl hz) (ik hits) s2<|.inr hz) fU))
end
end
section
def zr:SZ->SZ
 | .ClassDef _ _ _ b _ _ _ _ _ _ _=>b.getD 0<|.Pass #v[0,0,0,0]
 | s=>s
def GL (mg:Str->Option SN):List Str->List SQ->Prop
 | [],cl=>cl=[]
 | n::ns,cl=>∃a r,cl=a::r/\mg n=some (.ref a)/\GL mg ns r
def Hu (K:Frag)(mg:Str->Option SN)(wt nm:Str)(cls:List Str):Prop:=∃(Wt C f:SQ) (a:List SQ),mg wt=some (.ref Wt)/\GL mg cls a/\ECls K Wt C f/\EIni K C f (psT nm)/\EFit K mg Wt nm a C
structure IniTxt (st:SZ) (qual:Str) (ps:List Str):Prop where
 sc:FnScope (("self":Str)::ps) (("self":Str)::ps) (defScope st)
 loc:∀p∈("self":Str)::ps,(defScope st).names.lookup p=some .local
 ib:InitBody ps (defBody st)
 few:ps.length<=100
 nd:∀p∈ps,nDb p
 bd:∀(kV doc pm:SN) (an:Option SQ) (dr ct:SN) (us:List SN),us.length=ps.length+1->bindArgs (fnOf "__init__" qual (defArgs st) (defBody st) (defScope st) .none kV doc pm an dr ct) #v[us,[]]=pure ((("self":Str)::ps).zip us)
def eini_mk {K:Frag}{f:SQ}{ps:List Str}{st:SZ}{oc:SN}{od an:Option SQ}{osl:Array (Option SN)}{kV doc pm dr ct:SN}(I:IniTxt st qual ps)
  (l:K.lookup f=some #v[oc,od,.func<|fnOf "__init__" qual (defArgs st) (defBody st) (defScope st) .none kV doc pm an dr ct,osl]) (c:codeIn K dr qual=true) (na:∀p∈ps,findIn K (.ref C) p=some none):EIni K C f ps :=
 #v[#v[qual,defArgs st,defBody st,defScope st,oc,od,kV,doc,pm,an,dr,ct,osl,l,c,I.sc,I.loc,I.ib,λus hl=>I.bd kV doc pm an dr ct us hl],λp a=>#v[na p a,I.nd p a],I.few]
def ecls_mk {K:Frag}{f N:SQ}{nm q:Str}{bs:List SN}{hdct}{sn sub ab col dd k0 k1 k2 k3 k5}
  (obj:K.lookup C=some (excClassObj nm q C N bs (.ref Wt::vMro) hdct sn sub ab col dd k0 k1 k2 k3 k5 "ValueError.__new__")) (tp:excIn K Wt vMro "ValueError.__new__" = true)
  (init:findIn K (.ref C) "__init__" = some (some<|.ref f)) (fn:typeIn K (.ref f)=some (.type "function")) (call:specialIn K (.ref C) "__call__" = some (some<|.builtin "type.__call__")) (typ:instIn K (.ref C) (.type "type")=some true) (kp:keepIn K (.ref C)=true)
  (dict:hasDictIn K C=true) (sa:findIn K (.ref C) "__setattr__" = some (some<|.builtin "object.__setattr__")):ECls K Wt C f:=by
 refine#v[#v[_,_,_,_,_,_,_,_,_,_,_,_,_,_,_,obj],?_,init,fn,call,typ,kp,dict,sa];unfold excIn at tp;split at tp
 .rename_i b d c a;split at tp
  .simp only[Ny,beq_iff_eq]at tp;exact#v[_,_,_,_,a,tp.1.2,tp.2]
  .cases tp
 .cases tp
def efit_mk {K:Frag}{mg:Str->Option SN}{nm:Str}{cl:List SQ}(hm:mg nm=some (.ref C))(hd:hasDictIn K C=true)(ga:findIn K (.ref C) "__getattribute__" = some (some<|.builtin "BaseException.__getattribute__"))(gn:findIn K (.ref C) "__getattr__" = some none)(mb:mroIn K C (.type "BaseException")=some true)(mo:mroIn K C (.type "object")=some true)
  (ca:findIn K (.ref C) "__class__" = some (some<|.builtin "object.__class__")) (cg:specialIn K (.builtin "object.__class__") "__get__" = some (some<|.builtin "getset_descriptor.__get__")) (ct:takesIn K (.builtin "object.__class__")=some true)
  (sb:subIn K (.ref Wt) (.type "BaseException")=some true) (ko:kitOne K (.ref C) (.ref Wt)=some true) (ne:(SN.ref C == SN.ref Wt)=false) (ve:kitOne K (.ref C) (.type "ValueError")=some true) (st:kitAny K (.ref C) (cl.map SN.ref)=some false) (na:∀p∈psT nm,findIn K (.ref C) p=some none):EFit K mg Wt nm cl C:=by refine#v[hm,#v[ga,gn,mb,mo,ca,cg,ct],hd,?_,ve,st,na];unfold exmOne;rw[sb,Mx<|by rfl];unfold kitOne at ko;rwa [MC (by rw[ne];exact MV)]at ko
end
section
section
variable {X:Cx}{tg iter:Ta}{wi:TI}{g:TG}
def PG.nox (h:PG X.nox tg g):PG X tg g:=λπ s b H v u Q I r t=>by
 refine MY (h π s b H v u Q (I.wish _) r t) (λ_ e z=>?_) λ_ _ z=>z.elim
 obtain⟨a,d,c,q⟩:=z;exact#v[a,d,Inv.unwish c,q]
def PI.nox (h:PI X.nox tg iter wi):PI X tg iter wi:=λπ s a H R I w=>by
 refine MY (h π s a H R (I.wish _) w) (λv s1 z=>?_) λ_ _ z=>z.elim
 refine MY z (λd s2 z=>?_) λ_ _ z=>z.elim
 obtain⟨g,i,b,J,k,e,j,T,c,f,r⟩:=z;exact#v[g,i,b,J,k,e,Inv.unwish j,T,c,f,r]
end
section
variable [Feeds]
variable {K:Frag}{W:Str->List V->Hp->Prop}{X:Cx}{tg iter:Ta}
def DW {wi:TI}{g:TG}{tb:TS}{mi:DE->M (List My)}{bd:My->DE->Option DE}{mb:DE->M Out}(hi:TId K wi mi)(hg:TGd K g bd)(hb:xV K W tb mb):xV K W (xF wi g tb) (W9 mi bd mb):=λG B0 H0 E F σ H D r F' S e q=>by
 obtain⟨⟨items,F1⟩,e1,e⟩:=bS9 e;obtain⟨B,s,Q,I⟩:=S.ex;refine hi G B E F σ H _ items F1 I e1 λJ u k1 f1 ok=>?_
 have U:=S.step k1 f1;have I1:=I.step k1 f1;have ab:=U.base s Q I1;have qn:∀{n:DE} {k:FS},r = .nx n->F'=k->∀a c,Sit K G B0 (X4 u B B0) n k a c->D.nx a c:=λ{n k} er ef a c t=>by subst er ef;exact q a c<|U.unbase Q t
 have N:∀{n:DE} {k:FS} {a:St} {c:Hp} {p:List SQ},Sit K G B0 (X4 u B B0) n k a c->(∀b∈p,b∈B0\/X4 u B B0 b=none)->j5 (hid u B) (hid c p):=λ{n k a c p} t l b o T=>by
  by_cases O:b∈B
  .rw[G2 O]at T;cases T
  .rw[l7 O]at T;have ec:X4 u B B0 b=some o:=by rw[bq<|.inl O];exact T
   rw[l7 λz=>(l b z).elim (λh=>O<|s b h) λh=>by rw[h]at ec;cases ec];exact t.kp b o ec λz=>O<|s b<|S.fB b z
 refine#v[λi m σ H=>m=items.length-i/\i<=items.length/\∃E F,Sit K G B0 (X4 u B B0) E F σ H/\Q5 bd mb (items.drop i) E F=some (r,F'),#v[items.length,by simp,Nv _,E,F1,ab,e],?_];rintro i mm a c ⟨rfl,ac,n,k,t,j⟩;obtain⟨p,s2,l,V⟩:=t.ex;have A:=N t l;by_cases f:i<items.length
 .refine .inr #v[((ok c p A).1 i items[i]<|by simp[f]).1,λL H'=>i+1<=items.length/\∃E F,Sit K G B0 (X4 u B B0) E F L H'/\Q5 bd mb (items.drop<|i+1) E F=some (r,F'),λL H' #v[h1,h2]=>#v[items.length-(i+1),by omega,rfl,h1,h2],λx X y=>?_];obtain⟨R,hx⟩:=((ok c p A).1 i items[i]<|by simp[f]).2 x X y;have hx:=hx V.bk;rw[Ng f,Q5]at j;obtain⟨E4,e4,j⟩:=bS9 j;obtain⟨⟨o,F5⟩,e5,j⟩:=bS9 j;have S3:=t.step (Kp.same R)<|V.fd.same R;have I3:SitE K G p n k a X:=V.step (Kp.same R)<|V.fd.same R;refine hg G p n k a X x items[i] E4 _ I3 hx e4 λZ I4 fr=>?_
  refine hb G B0 (X4 u B B0) E4 k Z X _ o F5 (S3.bind s2 l I4 fr) e5 ?_;cases o with
  | nx Y=>exact λw C P=>#v[f,Y,F5,P,j]
  | ct Y=>exact λw C P=>#v[f,Y,F5,P,j]
  | bk Y=>cases j;exact λw C P=>qn rfl rfl w C P
  | rt d=>cases j;exact#v[λv C k6 f6 h6=>q.1 v C (ki U Q k6) f6 h6,λnm fs er vs C k6 f6 h6=>q.2 nm fs er vs C (ki U Q k6) f6 h6]
 .have ei:i=items.length:=by omega
  subst ei;rw[Qu,Q5]at j;cases j;exact .inl #v[(ok c p A).2,qn rfl rfl a c t]
def DK {body:List SZ}{wi:TI}{g:TG}{tb:TS}{mi:DE->M (List My)}{bd:My->DE->Option DE}{mb:DE->M Out}(hc:X.calm=true)(hp:PassesOwn (model X.prog X.w) X.A X.env X.xe)(hi:Ei K X.nox tg iter wi mi)(hg:Eg K X.nox tg g bd)(hb:SssX K W X body tb mb)
  (hs:∀x,Tt iter X.env x=pure x:=by intro _;rfl):SsX K W X (.For tg iter body [] pos) (xF wi g tb) (W9 mi bd mb):=#v[wU hp hc (PI.nox hi.pi) (PG.nox hg.pg) hb.ps hs,DW hi.ok hg.ok hb.ok]
def sM {P:SS}{w:SU}{K:Frag}{mg:Str->Option SN}{base:Tb}{N:List Str}{scope:SX}{f:SQ}{cd:SN}{A:SW}{s:SR}{H:Hp}{E:XK} :
  PassesOwn (model P w) (K8 (CXe P w) P w K mg base N qual scope f cd A outer s H E).A (K8 (CXe P w) P w K mg base N qual scope f cd A outer s H E).env (K8 (CXe P w) P w K mg base N qual scope f cd A outer s H E).xe:=PassesOwn.leaving
end
end
end L3
namespace L3
open PySem PySem.Spec PyProof.Rows L2
variable {γ:Type}{args:List DV}{o:Option (Option DV)}
section
variable [Fam]
def wp {α σ:Type}(m:Option (α × σ))(Q:α->σ->Prop):Prop:=∃a b,m=some (a,b)/\Q a b
section
variable {α β σ τ:Type}{Q:α->σ->Prop}
def d6 {a:α}{F:σ}:wp (some (a,F)) Q↔Q a F:=#v[λ#v[_,_,e,q]=>by cases e;exact q,λq=>#v[_,_,rfl,q]]
def A8 :wp (none:Option (α × σ)) Q↔False:=#v[λ#v[_,_,e,_]=>(by cases e),False.elim]
def d5 {x:Option (β × τ)}{f:β × τ->Option (α × σ)}:wp (x.bind f) Q↔wp x λa F'=>wp (f (a,F')) Q:=by
 constructor
 .rintro ⟨a,F',e,q⟩;obtain⟨⟨b,g⟩,d,c⟩:=bS9 e;exact#v[b,g,d,a,F',c,q]
 .rintro ⟨b,g,d,a,F',c,q⟩;exact#v[a,F',by rw[d];exact c,q]
def B5 {o:Option γ}{f:γ->Option (α × σ)}:wp (o.bind f) Q↔∃z,o=some z/\wp (f z) Q:=by
 constructor
 .rintro ⟨a,d,e,q⟩;obtain⟨z,c,b⟩:=bS9 e;exact#v[z,c,a,d,b,q]
 .rintro ⟨z,c,a,d,b,q⟩;exact#v[a,d,by rw[c];exact b,q]
def iH {c:Prop}[Decidable c]{a b:Option (α × σ)}:wp (if c then a else b) Q↔if c then wp a Q else wp b Q:=by split <;> rfl
def l6 {m:Option (α × σ)}{Q':α->σ->Prop}(h:wp m Q)(hq:∀a F,Q a F->Q' a F):wp m Q':=by obtain⟨a,F,e,q⟩:=h;exact#v[a,F,e,hq a F q]
def E8 {m:Option (α × σ)}{Q':α->σ->Prop}(h:∀a F,Q a F↔Q' a F):wp m Q↔wp m Q':=#v[λz=>l6 z λa F q=>(h a F).1 q,λz=>l6 z λa F q=>(h a F).2 q]
def AF {z:γ}{P:γ->Prop}:(∃y,some z=some y/\P y)↔P z:=#v[λ#v[_,e,p]=>by cases e;exact p,λp=>#v[_,rfl,p]]
def z9 {m:Int}{F:FdS}{Q:My->FdS->Prop}(h0:0<m)(h1:m<1073741824)(h2:F.t<199999)(q:∀r F',0<=r->r<m->F'.t=F.t+1->Q (.int r) F'):wp (A2 [.feed,.dat<|.int m] F) Q:=by obtain⟨r,F',e,b,a,ht⟩:=Fam.draw_some h0 h1 h2;exact#v[.int r,F',by show(Fam.drawF m F).bind _=_;rw[e];rfl,q r F' b a ht]
end
def gD (o:Option (Option DV))(P:My->Prop):Prop:=match o with
 | some (some<|.dat d)=>P d
 | _=>False
def gW (o:Option (Option DV))(P:My->Prop):Prop:=match o with
 | some (some<|.dat d)=>P d
 | some (some<|.own ds)=>P<|.list ds
 | _=>False
def gF (o:Option (Option DV))(P:Prop):Prop:=match o with
 | some (some .feed)=>P
 | _=>False
def oB (o:Option γ)(P:γ->Prop):Prop:=∃z,o=some z/\P z
def cIf (c:Bool)(A B:Prop):Prop:=if c=true then A else B
def qD {A B:Prop}:cIf true A B↔A:=by simp[cIf]
def fq {A B:Prop}:cIf false A B↔B:=by simp[cIf]
def P3 {c:Bool}{A B:Prop}(h1:c=true->A)(h2:c=false->B):cIf c A B:=by
 cases c
 .exact fq.2<|h2 rfl
 .exact qD.2<|h1 rfl
section
variable [Feeds]{E:DE}{F:FS}
def f7 {d:My}{Q:My->FS->Prop}:wp (sC d E F) Q↔Q d F:=d6
def pO {i:Nat}{Q:My->FS->Prop}:wp (sV i E F) Q↔gD E[i]? λd=>Q d F:=by
 unfold sV gD;generalize E[i]? = o;rcases o with _ | _ | x
 .exact A8
 .exact A8
 .cases x <;> first | exact d6 | exact A8
def M5 {i:Nat}{Q:My->FS->Prop}:wp (sW i E F) Q↔gW E[i]? λd=>Q d F:=by
 unfold sW gW;generalize E[i]? = o;rcases o with _ | _ | x
 .exact A8
 .exact A8
 .cases x <;> first | exact d6 | exact A8
def av {f:My->Option My}{a:DE->M My}{Q:My->FS->Prop}:wp (s1 f a E F) Q↔wp (a E F) λx F1=>oB (f x) λz=>Q z F1:=by unfold s1;rw[d5];simp only[B5,d6,oB]
def j4 {f:My->My->Option My}{a b:DE->M My}{Q:My->FS->Prop}:wp (s2 f a b E F) Q↔wp (a E F) λx F1=>wp (b E F1) λy F2=>oB (f x y) λz=>Q z F2:=by unfold s2;rw[d5];refine E8 λx F1=>?_;rw[d5];refine E8 λy F2=>?_;simp only[B5,d6,oB]
def M4 {f:List My->Option My}{a:DE->M (List My)}{Q:My->FS->Prop}:wp (sN f a E F) Q↔wp (a E F) λx F1=>oB (f x) λz=>Q z F1:=by unfold sN;rw[d5];simp only[B5,d6,oB]
def h7 {Q:List My->FS->Prop}:wp (l0 E F) Q↔Q [] F:=d6
def d4 {a:DE->M My}{r:DE->M (List My)}{Q:List My->FS->Prop}:wp (d7 a r E F) Q↔wp (a E F) λx F1=>wp (r E F1) λxs F2=>Q (x::xs) F2:=by unfold d7;rw[d5];simp only[d5,d6]
def C2 {a:DE->M (List My)}{Q:My->FS->Prop}:wp (Q3 a E F) Q↔wp (a E F) λxs F1=>xs.length<=Tc/\Q (.tuple xs) F1:=by
 unfold Q3;rw[d5];constructor
 .exact λh=>l6 h λxs F1 h=>by
   split at h
   .rename_i hl;exact#v[hl,d6.1 h]
   .exact(A8.1 h).elim
 .exact λh=>l6 h λxs F1 h=>by rw[Mx h.1];exact d6.2 h.2
def iI {a:DE->M (List My)}{Q:My->FS->Prop}:wp (jf a E F) Q↔wp (a E F) λxs F1=>xs.length<=Tc/\Q (.list xs) F1:=by
 unfold jf;rw[d5];constructor
 .exact λh=>l6 h λxs F1 h=>by
   split at h
   .rename_i hl;exact#v[hl,d6.1 h]
   .exact(A8.1 h).elim
 .exact λh=>l6 h λxs F1 h=>by rw[Mx h.1];exact d6.2 h.2
def j7 {Q:List DV->FS->Prop}:wp (m7 E F) Q↔Q [] F:=d6
def R4 {a:DE->M My}{r:DE->M (List DV)}{Q:List DV->FS->Prop}:wp (vD a r E F) Q↔wp (a E F) λx F1=>wp (r E F1) λxs F2=>Q (.dat x::xs) F2:=by unfold vD;rw[d5];simp only[d5,d6]
def gz {i:Nat}{r:DE->M (List DV)}{Q:List DV->FS->Prop}:wp (vF i r E F) Q↔gF E[i]? (wp (r E F) λxs F2=>Q (.feed::xs) F2):=by
 unfold vF gF;generalize E[i]? = o;rcases o with _ | _ | x
 .exact A8
 .exact A8
 .cases x with
  | feed=>exact d5.trans (E8 λ_ _=>d6)
  | _=>exact A8
def l3 {f:List DV->M My}{ms:DE->M (List DV)}{Q:My->FS->Prop}:wp (i4 f ms E F) Q↔wp (ms E F) λxs F1=>wp (f xs F1) Q:=by unfold i4;rw[d5]
def dk {a:DE->M My}{l u:DE->M (Option Int)}{Q:My->FS->Prop}:wp (ir a l u E F) Q↔wp (a E F) λx F1=>wp (l E F1) λlo F2=>wp (u E F2) λhi F3=>oB (wb lo hi x) λz=>Q z F3:=by unfold ir;rw[d5];refine E8 λx F1=>?_;rw[d5];refine E8 λy F2=>?_;rw[d5];refine E8 λy F2=>?_;simp only[B5,d6,oB]
def dw {Q:Option Int->FS->Prop}:wp (oNo E F) Q↔Q none F:=d6
def ku {a:DE->M My}{Q:Option Int->FS->Prop}:wp (oI a E F) Q↔wp (a E F) λx F1=>oB (K1 x) λi=>Q (some i) F1:=by unfold oI;rw[d5];simp only[B5,d6,oB]
def oz {a b:DE->M My}{Q:My->FS->Prop}:wp (ip a b E F) Q↔wp (a E F) λx F1=>oB (aI x) λc=>cIf c (wp (b E F1) Q) (Q (.bool false) F1):=by unfold ip;rw[d5];simp only[B5,iH,d6,oB,cIf]
def CY {a:DE->M My}{Q:My->FS->Prop}:wp (xJ a E F) Q↔wp (a E F) λx F1=>oB (aI x) λc=>Q (.bool (!c)) F1:=by unfold xJ;rw[d5];simp only[B5,d6,oB]
def qT {c:DE->M Bool}{a b:DE->M My}{Q:My->FS->Prop}:wp (sIf c a b E F) Q↔wp (c E F) λx F1=>cIf x (wp (a E F1) Q) (wp (b E F1) Q):=by unfold sIf;rw[d5];simp only[iH,cIf]
def T8 {a:DE->M My}{Q:Bool->FS->Prop}:wp (uB a E F) Q↔wp (a E F) λx F1=>oB (aI x) λc=>Q c F1:=by unfold uB;rw[d5];simp only[B5,d6,oB]
def W5 {a:DE->M My}{Q:Bool->FS->Prop}:wp (uT a E F) Q↔wp (a E F) λx F1=>oB (Ad x) λc=>Q c F1:=by unfold uT;rw[d5];simp only[B5,d6,oB]
def bZ {a b:DE->M Bool}{Q:Bool->FS->Prop}:wp (lX a b E F) Q↔wp (a E F) λx F1=>cIf x (wp (b E F1) Q) (Q false F1):=by unfold lX;rw[d5];simp only[iH,d6,cIf]
def aj {a b:DE->M Bool}{Q:Bool->FS->Prop}:wp (uOr a b E F) Q↔wp (a E F) λx F1=>cIf x (Q true F1) (wp (b E F1) Q):=by unfold uOr;rw[d5];simp only[iH,d6,cIf]
def Q1 {a:DE->M Bool}{Q:Bool->FS->Prop}:wp (df a E F) Q↔wp (a E F) λx F1=>Q (!x) F1:=by unfold df;rw[d5];simp only[d6]
def ae {Q:Bool->FS->Prop}:wp (K9 E F) Q↔Q true F:=d6
def J6 {Q:Out->FS->Prop}:wp (mNx E F) Q↔Q (.nx E) F:=d6
def sqK (b:DE->M Out)(Q:Out->FS->Prop)(o:Out)(F1:FS):Prop:=match o with
  | .nx E1=>wp (b E1 F1) Q
  | o=>Q o F1
def i3 {b:DE->M Out}{Q:Out->FS->Prop}{E1:DE}(h:wp (b E1 F) Q):sqK b Q (.nx E1) F:=h
def U1 {b:DE->M Out}{Q:Out->FS->Prop}{d:My}(h:Q (.rt d) F):sqK b Q (.rt d) F:=h
def x8 {a b:DE->M Out}{Q:Out->FS->Prop}:wp (mSq a b E F) Q↔wp (a E F) (sqK b Q):=by
 unfold mSq;rw[d5];refine E8 λo c=>?_
 cases o with
 | nx e=>exact Iff.rfl
 | rt d=>exact d6
 | bk d=>exact d6
 | ct d=>exact d6
def A4 {a:DE->M My}{Q:Out->FS->Prop}:wp (mRt a E F) Q↔wp (a E F) λx F1=>Q (.rt x) F1:=by unfold mRt;rw[d5];simp only[d6]
def cf {i:Nat}{a:DE->M My}{Q:Out->FS->Prop}:wp (x9 i a E F) Q↔wp (a E F) λx F1=>i<E.length/\Q (.nx<|E.set i<|some<|.dat x) F1:=by
 unfold x9;rw[d5];refine E8 λx F1=>?_
 unfold bN;by_cases h:i<E.length
 .rw[Mx h];simp only[B5,d6,AF,h,true_and]
 .rw[MC h];simp only[B5,h,false_and];exact#v[λ#v[_,e,_]=>(by cases e),False.elim]
def kn {bd:My->DE->Option DE}{a:DE->M My}{Q:Out->FS->Prop}:wp (uL bd a E F) Q↔wp (a E F) λx F1=>oB (bd x E) λE1=>Q (.nx E1) F1:=by unfold uL;rw[d5];simp only[B5,d6,oB]
def iG {c:DE->M Bool}{a b:DE->M Out}{Q:Out->FS->Prop}:wp (mIf c a b E F) Q↔wp (c E F) λx F1=>cIf x (wp (a E F1) Q) (wp (b E F1) Q):=by unfold mIf;rw[d5];simp only[iH,cIf]
def cB {i:Nat}{a:DE->M (List My)}{Q:Out->FS->Prop}:wp (jb i a E F) Q↔wp (a E F) λx F1=>i<E.length/\Q (.nx<|E.set i<|some<|.own x) F1:=by
 unfold jb;rw[d5];refine E8 λx F1=>?_
 by_cases h:i<E.length
 .rw[Mx h];simp only[d6,h,true_and]
 .rw[MC h];simp only[h,false_and];exact A8
def L0 {mi:DE->M (List My)}{bd:My->DE->Option DE}{body:DE->M Out}{Q:Out->FS->Prop}:wp (W9 mi bd body E F) Q↔wp (mi E F) λds F1=>wp (Q5 bd body ds E F1) Q:=by unfold W9;rw[d5]
def V1 {a:DE->M (List My)}{Q:List My->FS->Prop}:wp (bJ a E F) Q↔wp (a E F) λx F1=>oB (eE x) λds=>Q ds F1:=by unfold bJ;rw[d5];simp only[B5,d6,oB]
def C5 {a:DE->M My}{Q:List My->FS->Prop}:wp (N9 a E F) Q↔wp (a E F) λx F1=>oB (gr x) λds=>Q ds F1:=by unfold N9;rw[d5];simp only[B5,d6,oB]
def iN {a:DE->M (List My)}{Q:List My->FS->Prop}:wp (oh a E F) Q↔wp (a E F) λx F1=>x.length<=Tc/\Q x F1:=by
 unfold oh;rw[d5];constructor
 .exact λh=>l6 h λb F1 h=>by
   split at h
   .rename_i hl;exact#v[hl,d6.1 h]
   .exact(A8.1 h).elim
 .exact λh=>l6 h λb F1 h=>by rw[Mx h.1];exact d6.2 h.2
def ot {a b:DE->M My}{Q:List My->FS->Prop}:wp (uX a b E F) Q↔wp (a E F) λx F1=>wp (b E F1) λy F2=>∃xs ys,x = .list xs/\y = .list ys/\xs.length+ys.length<=Tc/\Q (xs++ys) F2:=by
 unfold uX;rw[d5];refine E8 λx F1=>?_;rw[d5];refine E8 λy F2=>?_
 constructor
 .intro h;dsimp only at h;split at h
  .rename_i xs ys;split at h
   .rename_i hl;exact#v[xs,ys,rfl,rfl,hl,d6.1 h]
   .exact(A8.1 h).elim
  .exact(A8.1 h).elim
 .intro h;obtain⟨xs,ys,rfl,rfl,hl,q⟩:=h;dsimp only;rw[Mx hl];exact d6.2 q
def V8 {mi:DE->M (List My)}{k:Nat}{cap:List Nat}{bd:My->DE->Option DE}{mt:DE->M Bool}{me:DE->M My}{Q:My->FS->Prop}:wp (sLC mi k cap bd mt me E F) Q↔wp (mi E F) λds F1=>ds.length<=Tc/\wp (S7 bd mt me ds (iu k cap E) F1) λzs F2=>Q (.list zs) F2:=by
 unfold sLC;rw[d5];constructor
 .refine λh=>l6 h λds F1 h=>?_
  dsimp only at h;split at h
  .rename_i hl;rw[d5]at h;exact#v[hl,l6 h λzs F2 h=>d6.1 h]
  .exact(A8.1 h).elim
 .refine λh=>l6 h λds F1 h=>?_
  dsimp only;rw[Mx h.1,d5];exact l6 h.2 λzs F2 h=>d6.2 h
def gJ (Q:My->FS->Prop)(o:Out)(F1:FS):Prop:=match o with
  | .rt d=>Q d F1
  | .nx _=>Q .none F1
  | _=>False
def m5 {Q:My->FS->Prop}{d:My}(h:Q d F):gJ Q (.rt d) F:=h
def G5 {N:List Str}{m:DE->M Out}{Q:My->FS->Prop}:wp (I0 N m args F) Q↔wp (m (B9 N args) F) (gJ Q):=by
 unfold I0;rw[d5];refine E8 λo a=>?_
 cases o with
 | nx b=>exact d6
 | rt d=>exact d6
 | bk d=>exact A8
 | ct d=>exact A8
def oO {d:My}{P:My->Prop}(h:o=some (some<|.dat d))(q:P d):gD o P:=by rw[h];exact q
def R8 {d:My}{P:My->Prop}(h:o=some (some<|.dat d))(q:P d):gW o P:=by rw[h];exact q
def gB {ds:List My}{P:My->Prop}(h:o=some (some<|.own ds))(q:P (.list ds)):gW o P:=by rw[h];exact q
def iJ {P:Prop}(h:o=some (some .feed))(q:P):gF o P:=by rw[h];exact q
def c7 {o:Option γ}{z:γ}{P:γ->Prop}(h:o=some z)(q:P z):oB o P:=#v[z,h,q]
def w6 {c:Bool}{A B:Prop}(h:c=true)(q:A):cIf c A B:=by rw[h];exact qD.2 q
def j0 {c:Bool}{A B:Prop}(h:c=false)(q:B):cIf c A B:=by rw[h];exact fq.2 q
def u8 {n:Nat}(h:Nat.ble n 10000=true):n<=Tc:=MG (RB h) (by rw[Nr];decide)
def i7 {i n:Nat}(h:Nat.ble (i+1) n=true):i<n:=RB h
end
def Tr (f:List DV->M My)(args:List DV)(c:Int)(P:My->Prop):Prop:=∀F:FdS,F.t+c<=199999->∃d a,f args F=some (d,a)/\a.t<=F.t+c/\P d
def Tr.wp {f:List DV->M My}{c:Int}{P:My->Prop}{F:FdS}{Q:My->FdS->Prop}(h:Tr f args c P)(hF:F.t+c<=199999)(q:∀d F',F'.t<=F.t+c->P d->Q d F'):wp (f args F) Q:=by obtain⟨d,F',e,ht,p⟩:=h F hF;exact#v[d,F',e,q d F' ht p]
def Tr.of {f:List DV->M My}{c:Int}{P:My->Prop}(h:∀F:FdS,F.t+c<=199999->L3.wp (f args F) λd F'=>F'.t<=F.t+c/\P d):Tr f args c P:=λF a=>by obtain⟨d,F',e,q⟩:=h F a;exact#v[d,F',e,q]
mutual
def cnt:My->Nat
 | .tuple ds=>1+A9 ds
 | .list ds=>1+A9 ds
 | _=>1
def A9:List My->Nat
 | []=>0
 | d::ds=>cnt d+A9 ds
end
def asc (x:Str):Prop:=∀c∈x.cps.toList,c<128
mutual
def scs (n:Nat):My->Prop
 | .none=>True
 | .bool _=>True
 | .int i=>i.natAbs<10 ^ 300+n
 | .str x=>x.length<=600+n/\asc x
 | .tuple ds=>cN n ds
 | .list ds=>cN n ds
 | .dict _=>False
def cN (n:Nat):List My->Prop
 | []=>True
 | d::ds=>scs n d/\cN n ds
end
theorem O9 {n:Nat}:∀{ds:List My},cN n ds↔∀d∈ds,scs n d
 | []=>by simp[cN]
 | d::ds=>by simp[cN,O9 (ds:=ds)]
theorem O7:∀{xs ys:List My},A9 (xs++ys)=A9 xs+A9 ys
 | [],ys=>by simp[A9]
 | x::xs,ys=>by simp[A9,O7 (xs:=xs)];omega
theorem gG:∀{xs ys:List My},xs.Sublist ys->A9 xs<=A9 ys
 | _,_,.slnil=>Mz _
 | _,_,.cons a h=>by have:=gG h;simp[A9];omega
 | _,_,.cons₂ a h=>by have:=gG h;simp[A9];omega
theorem qG:∀{ds:List My} {d:My},d∈ds->cnt d<=A9 ds
 | [],d,h=>by cases h
 | e::ds,d,h=>by
  rcases MJ.1 h with rfl | h
  .simp[A9]
  .have:=qG h;simp[A9];omega
def V2 {α:Type}(xs:List α)(lo hi:Option Int):(T6 xs lo hi).Sublist xs:=((List.take_sublist _ _).trans<|List.drop_sublist _ _)
theorem gM:∀{xs:List My},xs.length<=A9 xs
 | []=>Mz _
 | x::xs=>by
  have:=gM (xs:=xs);have:1<=cnt x:=by cases x <;> simp[cnt]
  simp[A9];omega
structure Gd (n N k:Nat) (d:My):Prop where
 sc:scs n d
 dp:d.depth<=k
 ct:cnt d<=N
def Gd.mono {n N k n' N' k':Nat}{d:My}(h:Gd n N k d)(h1:n=n'\/n<=n')(h2:N<=N')(h3:k<=k'):Gd n' N' k' d:=by
 refine#v[?_,MG h.dp h3,MG h.ct h2];have o:n<=n':=by rcases h1 with h | h <;> omega
 have e:∀m:Nat,∀d:My,sizeOf d<m->scs n d->scs n' d:=by
  intro m;induction m with
  | zero=>intro d h;exact absurd h<|Pq _
  | succ m f =>
   intro d g a;cases d with
   | none=>trivial
   | bool b=>trivial
   | int i=>simp only[scs]at a ⊢;omega
   | str x=>simp only[scs]at a ⊢;exact#v[by omega,a.2]
   | tuple l =>simp only[scs]at a ⊢;rw[O9]at a ⊢;exact λd c=>f d (by have:=Pu c;simp at g;omega)<|a d c
   | list l =>simp only[scs]at a ⊢;rw[O9]at a ⊢;exact λd c=>f d (by have:=Pu c;simp at g;omega)<|a d c
   | dict j=>simp only[scs]at a
 exact e _ d (On _) h.sc
theorem V0 {k:Nat}:∀{ds:List My},My.depthAll ds<=k↔∀d∈ds,d.depth<=k
 | []=>by simp[My.depthAll]
 | d::ds=>by have:=V0 (k:=k) (ds:=ds);simp only[My.depthAll,MJ,forall_eq_or_imp];rw[<-this];omega
def Gd.items {n N k:Nat}{ds:List My}(h:Gd n N k (.tuple ds)):(∀d∈ds,Gd n N (k-1) d)/\1+A9 ds<=N/\1<=k:=by
 obtain⟨b,f,e⟩:=h;simp only[scs]at b;rw[O9]at b;simp only[My.depth]at f;simp only[cnt]at e;have c:My.depthAll ds<=k-1:=by omega
 rw[V0]at c;refine#v[λd a=>#v[b d a,c d a,?_],e,by omega];have:=qG a;omega
def Gd.tup {n N k M:Nat}{ds:List My}(h:∀d∈ds,Gd n M k d)(hc:1+A9 ds<=N):Gd n N (k+1) (.tuple ds):=by
 refine#v[?_,?_,?_]
 .simp only[scs];rw[O9];exact λd a=>(h d a).sc
 .simp only[My.depth];have:My.depthAll ds<=k:=V0.2 λd a=>(h d a).dp
  omega
 .simp only[cnt];exact hc
def Gd.lst {n N k M:Nat}{ds:List My}(h:∀d∈ds,Gd n M k d)(hc:1+A9 ds<=N):Gd n N (k+1) (.list ds):=by obtain⟨a,b,c⟩:=Gd.tup h hc;exact#v[a,b,c]
def w9c [Feeds]{E:DE}{F:FS}{i:Nat}{d:My}{r:DE->M (List My)}{Q:List My->FS->Prop}(h:E[i]? = some (some<|.dat d))(q:wp (r E F) λxs F2=>Q (d::xs) F2):wp (d7 (sV i) r E F) Q:=d4.2<|pO.2<|oO h q
def w9d [Feeds]{E:DE}{F:FS}{i:Nat}{d:My}{f:List DV->M My}{Q:My->FS->Prop}(h:E[i]? = some (some .feed))(q:wp (f [.feed,.dat d] F) Q):wp (i4 f (vF i<|vD (sC d) m7) E F) Q:=l3.2<|gz.2<|iJ h<|R4.2<|f7.2<|j7.2 q
def w9g [Feeds]{E:DE}{F:FS}{i:Nat}{d:My}{Q:My->FS->Prop}(h:E[i]? = some (some<|.dat d))(q:Q d F):wp (sV i E F) Q:=pO.2<|oO h q
def w9i [Feeds]{E:DE}{F:FS}{c:DE->M Bool}{a b r:DE->M Out}{Q:Out->FS->Prop}(q:wp (c E F) λx F1=>cIf x (wp (a E F1)<|sqK r Q)<|wp (b E F1)<|sqK r Q):wp (mSq (mIf c a b) r E F) Q:=x8.2<|iG.2 q
def w9l [Feeds]{E:DE}{F:FS}{f:List DV->M My}{a:DE->M My}{r:DE->M (List DV)}{Q:My->FS->Prop}(q:wp (a E F) λx F1=>wp (r E F1) λxs F2=>wp (f (.dat x::xs) F2) Q):wp (i4 f (vD a r) E F) Q:=l3.2<|R4.2 q
def w9q [Feeds]{E:DE}{F:FS}{i:Nat}{a:DE->M My}{b:DE->M Out}{Q:Out->FS->Prop}(q:wp (a E F) λx F1=>i<E.length/\sqK b Q (.nx<|E.set i<|some<|.dat x) F1):wp (mSq (x9 i a) b E F) Q:=x8.2<|cf.2 q
def w9s [Feeds]{E:DE}{F:FS}{i:Nat}{d:My}{f:My->My->Option My}{b:DE->M My}{Q:My->FS->Prop}(h:E[i]? = some (some<|.dat d))(q:wp (b E F) λy F2=>oB (f d y) λz=>Q z F2):wp (s2 f (sW i) b E F) Q:=j4.2<|M5.2<|R8 h q
def w9v [Feeds]{E:DE}{F:FS}{i:Nat}{d:My}{r:DE->M (List DV)}{Q:List DV->FS->Prop}(h:E[i]? = some (some<|.dat d))(q:wp (r E F) λxs F2=>Q (.dat d::xs) F2):wp (vD (sV i) r E F) Q:=R4.2<|pO.2<|oO h q
def w9w [Feeds]{E:DE}{F:FS}{i:Nat}{d:My}{Q:My->FS->Prop}(h:E[i]? = some (some<|.dat d))(q:Q d F):wp (sW i E F) Q:=M5.2<|R8 h q
end
section
variable [Fam]
structure Nod (d:My):Prop where
 sh:d.showable=true
 nd:d.hasDict=false
 cl:d.canLay0=true
 ln:d.shown.length+2<=7100*cnt d
def zb :(10:Nat) ^ 300<=2 ^ 1000:=by have h:((10:Nat) ^ 3) ^ 100<=(2 ^ 10) ^ 100:=Nat.pow_le_pow_left (by decide) 100;rwa [<-Nat.pow_mul,<-Nat.pow_mul]at h
def xi {n:Nat}(hn:n<=100):10 ^ 300+n<=2 ^ 1001:=by
 have d:=zb;have a:(2:Nat) ^ 1001=2 ^ 1000+2 ^ 1000:=by rw[Nat.pow_succ,Nat.mul_two]
 have c:(2:Nat) ^ 7<=2 ^ 1000:=Nd (by decide) (by decide);have b:(2:Nat) ^ 7=128:=by decide
 rw[a];generalize (10:Nat) ^ 300=A at *;generalize (2:Nat) ^ 1000=B at *;omega
def FX {ds:List My}:(∀d∈ds,Nod d)->My.showableAll ds=true/\My.hasDictAll ds=false/\My.canLayAll0 ds=true/\((My.shownAll ds).map (·.length)).sum+2*ds.length<=7100*A9 ds:=by
 induction ds with
 | nil=>intro _;exact#v[by simp[My.showableAll],by simp[My.hasDictAll],by simp[My.canLayAll0],by simp[My.shownAll,A9]]
 | cons d ds g =>
  intro h;obtain⟨a,b,c,e⟩:=g λx i=>h x<|Mw _ i
  have f:=h d MD;refine#v[by simp[My.showableAll,f.sh,a],by simp[My.hasDictAll,f.nd,b],by simp[My.canLayAll0,f.cl,c],?_];simp only[My.shownAll,MB,List.sum_cons,ME,A9];have:=f.ln;omega
def Dy {n:Nat}(hn:n<=100):∀m:Nat,∀d:My,sizeOf d<m->scs n d->Nod d:=by
 intro m;induction m with
 | zero=>intro d h;exact absurd h<|Pq _
 | succ m l =>
  intro d o f;cases d with
  | none=>exact#v[rfl,rfl,rfl,by decide]
  | bool b=>exact#v[rfl,rfl,rfl,by cases b <;> decide]
  | int i =>simp only[scs]at f;have q:i.natAbs<2 ^ 1001:=MI f<|xi hn;have:=Shw.int q (by decide) (by decide);exact#v[this.sh,this.nd,rfl,by have:=this.ln;simp only[cnt];omega]
  | str x =>
   simp only[scs]at f;refine#v[rfl,rfl,?_,?_]
   .simp only[My.canLay0,My.strOk];rw[Array.all_eq_true'];intro c k;have:=f.2 c (by simpa using k);exact MW (by omega)
   .have t:=PySem.StrLaws.reprText_len x λc k=>MI (f.2 c k) (by decide)
    simp only[My.shown,cnt];omega
  | tuple j =>
   simp only[scs]at f;rw[O9]at f;obtain⟨a,b,c,e⟩:=FX λd g=>l d (by have:=Pu g;simp at o;omega)<|f d g
   refine#v[by simpa only[My.showable] using a,by simpa only[My.hasDict] using b,by simpa only[My.canLay0] using c,?_];have s:=tupleText_len_le<|My.shownAll j;have r:=My.shownAll_length j;simp only[My.shown,cnt];omega
  | list j =>
   simp only[scs]at f;rw[O9]at f;obtain⟨a,b,c,e⟩:=FX λd g=>l d (by have:=Pu g;simp at o;omega)<|f d g
   refine#v[by simpa only[My.showable] using a,by simpa only[My.hasDict] using b,by simpa only[My.canLay0] using c,?_];have s:=listText_len_le<|My.shownAll j;have r:=My.shownAll_length j;simp only[My.shown,cnt];omega
  | dict p=>simp only[scs]at f
section
variable {n N k:Nat}{d:My}
def Gd.nod (h:Gd n N k d)(hn:n<=100):Nod d:=Dy hn _ d (On _) h.sc
def Gd.repr (h:Gd n N k d)(hn:n<=100)(hN:N<=2000)(hk:k<=50):Z4 d=true:=by have a:=h.nod hn;unfold Z4;rw[a.sh,a.nd];have e:=a.ln;have c:=h.ct;have b:=h.dp;simp;constructor <;> omega
def Gd.shaped (h:Gd n N k d)(hn:n<=100)(hk:k<=50):PySem.SeqAt.shaped d=true:=by unfold PySem.SeqAt.shaped;rw[(h.nod hn).cl];have a:=h.dp;simp;omega
def zK {b:Bool}:Gd n 1 0 (.bool b):=#v[trivial,by simp[My.depth],by simp[cnt]]
def jR {i:Int}(h:i.natAbs<10 ^ 300+n):Gd n 1 0 (.int i):=#v[h,by simp[My.depth],by simp[cnt]]
end
def jm {i:Int}{n:Nat}(h:i.natAbs<=100000000000000000000000000000000000000000):i.natAbs<10 ^ 300+n:=by
 have b:(10:Nat) ^ 42<=10 ^ 300:=Nd (by decide) (by decide);have a:100000000000000000000000000000000000000000<(10:Nat) ^ 42:=by decide
 generalize (10:Nat) ^ 300=A at *;omega
end
section
variable [Fam]
mutual
def okc:My->Bool
 | .none=>true
 | .bool _=>true
 | .int i=>decide (i.natAbs<=100000000000000000000000000000000000000000)
 | .str x=>decide (x.length<=600)&&x.cps.toList.all (λc=>decide (c<128))
 | .tuple ds=>xh ds
 | .list ds=>xh ds
 | .dict _=>false
def xh:List My->Bool
 | []=>true
 | d::ds=>okc d&&xh ds
end
mutual
theorem rD {n:Nat}:∀(d:My),okc d=true->scs n d
 | .none,_=>by simp[scs]
 | .bool _,_=>by simp[scs]
 | .int i,h=>by simp only[okc]at h;simp only[scs];exact jm<|MS h
 | .str x,h=>by
  simp only[okc,Ny,Pc]at h;simp only[scs];exact#v[by have:=MS h.1;omega,λc a=>MS<|h.2 c a]
 | .tuple ds,h=>by simp only[okc]at h;simp only[scs];exact gE ds h
 | .list ds,h=>by simp only[okc]at h;simp only[scs];exact gE ds h
 | .dict _,h=>by simp[okc]at h
theorem gE {n:Nat}:∀(ds:List My),xh ds=true->cN n ds
 | [],_=>by simp[cN]
 | d::ds,h=>by simp only[xh,Ny]at h;simp only[cN];exact#v[rD d h.1,gE ds h.2]
end
def gdb (N k:Nat)(d:My):Bool:=okc d&&decide (d.depth<=k)&&decide (cnt d<=N)
def DT {n N k:Nat}{d:My}(h:gdb N k d=true):Gd n N k d:=by unfold gdb at h;simp only[Ny]at h;exact#v[rD d h.1.1,MS h.1.2,MS h.2]
def kT {n N k:Nat}{ds:List My}(h:ds.all (gdb N k)=true):∀d∈ds,Gd n N k d:=λd a=>DT<|Pc.1 h d a
section
variable {ds:List My}{i j:Int}{d:My}{T:String}
def jC :ixD (.list ds) (.int i)=atI ds i:=rfl
def A5 :D2 (.int i) (.int j)=some (.int<|i+j):=rfl
def eV :nE (.int i) (.int j)=some (.int<|i-j):=rfl
def qZ :gtD (.int i) (.int j)=some (.bool<|decide (j<i)):=rfl
def GT :geD (.int i) (.int j)=some (.bool<|decide (j<=i)):=rfl
def fg :ltD (.int i) (.int j)=some (.bool<|decide (i<j)):=rfl
def BZ :leD (.int i) (.int j)=some (.bool<|decide (i<=j)):=rfl
def U7 :fJ [.tuple ds]=some (.int ds.length):=rfl
def rf :eX [.tuple ds]=some (.list ds):=rfl
def kQ :aA [.list ds]=some (.tuple ds):=rfl
def U4 :P5 T d=some (.bool<|isT (tyD d) T):=rfl
def lQ :K1 (.int i)=some i:=rfl
def az {lo hi:Option Int}:wb lo hi (.tuple ds)=some (.tuple<|T6 ds lo hi):=rfl
def oy :mW (.tuple ds)=some (.tuple ds.reverse):=rfl
def P7 :gr (.tuple ds)=some ds:=rfl
def Z7 :gr (.list ds)=some ds:=rfl
end
end
end L3
set_option hygiene false
local macro_rules | `(tactic| walk_at "st")=>`(tactic| first | (with_reducible first | refine L3.i3 ?_ | refine L3.U1 ?_ | refine L3.m5 ?_ | refine L3.x8.2 ?_ | refine L3.iG.2 ?_ | refine L3.cf.2 ?_ | refine L3.A4.2 ?_ | refine L3.J6.2 ?_ | refine L3.bZ.2 ?_ | refine L3.aj.2 ?_ | refine L3.Q1.2 ?_ | refine L3.T8.2 ?_ | refine L3.W5.2 ?_ | refine L3.ae.2 ?_ | refine L3.j4.2 ?_ | refine L3.av.2 ?_ | refine L3.M4.2 ?_ | refine L3.f7.2 ?_ | refine L3.pO.2 ?_ | refine L3.M5.2 ?_ | refine L3.h7.2 ?_ | refine L3.d4.2 ?_ | refine L3.C2.2 ?_ | refine L3.iI.2 ?_ | refine L3.j7.2 ?_ | refine L3.R4.2 ?_ | refine L3.gz.2 ?_ | refine L3.l3.2 ?_ | refine L3.dk.2 ?_ | refine L3.dw.2 ?_ | refine L3.ku.2 ?_ | refine L3.oz.2 ?_ | refine r_sOr.2 ?_ | refine L3.CY.2 ?_ | refine L3.qT.2 ?_ | refine L3.kn.2 ?_ | refine L3.cB.2 ?_ | refine L3.L0.2 ?_ | refine L3.V1.2 ?_ | refine L3.C5.2 ?_ | refine L3.iN.2 ?_ | refine L3.ot.2 ?_ | refine L3.V8.2 ?_) | ((with_reducible refine L3.G5.2 ?_);try dsimp only[L3.B9,MB,NG,ME,NP,List.replicate,Nf,Nq,Nat.reduceAdd,Nat.reduceSub]) | ((with_reducible apply L3.oO);exact rfl) | ((with_reducible apply L3.R8);exact rfl) | ((with_reducible apply L3.gB);exact rfl) | ((with_reducible apply L3.iJ);exact rfl) | ((with_reducible apply L3.c7);first | exact L3.U4 | exact rfl) | ((with_reducible refine And.intro (L3.u8 ?_) ?_);exact rfl) | ((with_reducible refine And.intro (L3.i7 ?_) ?_);exact rfl;try dsimp only[List.set_cons_zero,List.set_cons_succ]))
local macro_rules | `(tactic| walk_at "rd")=>`(tactic| (repeat walk_at "st"))
local macro_rules | `(tactic| walk_at "ty")=>`(tactic| first | refine L3.j0 L3.X5 ?_ | refine L3.j0 L3.fK ?_ | refine L3.j0 L3.iC ?_ | refine L3.j0 L3.iF ?_ | refine L3.j0 L3.fE ?_ | refine L3.j0 L3.dN ?_ | refine L3.w6 L3.fw ?_ | refine L3.w6 L3.oY ?_ | refine L3.j0 L3.oj ?_ | refine L3.j0 L3.mZ ?_ | refine L3.j0 L3.fz ?_ | refine L3.j0 L3.gx ?_ | refine L3.w6 L3.uC ?_ | refine L3.j0 L3.tY ?_ | refine L3.j0 L3.qa ?_ | refine L3.j0 L3.eZ ?_ | refine L3.j0 L3.pT ?_ | refine L3.j0 L3.uy ?_ | refine L3.w6 L3.tq ?_ | refine L3.j0 L3.pG ?_ | refine L3.j0 L3.dg ?_ | refine L3.j0 L3.ny ?_ | refine L3.j0 L3.pN ?_ | refine L3.j0 L3.pS ?_ | refine L3.w6 L3.my ?_ | refine L3.w6 L3.bK ?_ | refine L3.j0 L3.lq ?_ | refine L3.j0 L3.mS ?_ | refine L3.j0 L3.nK ?_ | refine L3.j0 L3.ka ?_)
local macro_rules | `(tactic| walk_at "go")=>`(tactic| (repeat first | walk_at "st" | walk_at "ty"))
namespace L3
open PySem PySem.Spec PyProof.Rows L2
variable [Fam]
def qz {α:Type}{xs:List α}{r:Int}(h0:0<=r)(h1:r<xs.length):∃d,atI xs r=some d/\d∈xs:=by
 obtain⟨j,rfl⟩:∃j:Nat,r=j:=#v[r.toNat,by omega];have a:j<xs.length:=by omega
 exact#v[xs[j],V4 (by simp[a]),Oy a]
def X5:isT "NoneType" "tuple" = false:=by decide +kernel
def fK:isT "NoneType" "bool" = false:=by decide +kernel
def iC:isT "NoneType" "int" = false:=by decide +kernel
def iF:isT "NoneType" "str" = false:=by decide +kernel
def fE:isT "NoneType" "list" = false:=by decide +kernel
def dN:isT "bool" "tuple" = false:=by decide +kernel
def fw:isT "bool" "bool" = true:=by decide +kernel
def oY:isT "bool" "int" = true:=by decide +kernel
def oj:isT "bool" "str" = false:=by decide +kernel
def mZ:isT "bool" "list" = false:=by decide +kernel
def fz:isT "int" "tuple" = false:=by decide +kernel
def gx:isT "int" "bool" = false:=by decide +kernel
def uC:isT "int" "int" = true:=by decide +kernel
def tY:isT "int" "str" = false:=by decide +kernel
def qa:isT "int" "list" = false:=by decide +kernel
def eZ:isT "str" "tuple" = false:=by decide +kernel
def pT:isT "str" "bool" = false:=by decide +kernel
def uy:isT "str" "int" = false:=by decide +kernel
def tq:isT "str" "str" = true:=by decide +kernel
def pG:isT "str" "list" = false:=by decide +kernel
def dg:isT "list" "tuple" = false:=by decide +kernel
def ny:isT "list" "bool" = false:=by decide +kernel
def pN:isT "list" "int" = false:=by decide +kernel
def pS:isT "list" "str" = false:=by decide +kernel
def my:isT "list" "list" = true:=by decide +kernel
def bK:isT "tuple" "tuple" = true:=by decide +kernel
def lq:isT "tuple" "bool" = false:=by decide +kernel
def mS:isT "tuple" "int" = false:=by decide +kernel
def nK:isT "tuple" "str" = false:=by decide +kernel
def ka:isT "tuple" "list" = false:=by decide +kernel
variable [Fam]
def qu (xs:List My)(lo hi:Option Int):A9 (T6 xs lo hi)<=A9 xs:=gG<|V2 xs lo hi
def bc {α:Type}(xs:List α)(lo hi:Option Int):(T6 xs lo hi).length<=xs.length:=(V2 xs lo hi).length_le
def sz {n:Nat}(h:n<=100000):n<=Tc:=MG h (by rw[Nr];decide)
def Dm {n:Nat}{i:Int}(h:0<=i):HT.sIx n 0 (some i)=min i.toNat n:=by obtain⟨j,rfl⟩:∃j:Nat,i=j:=#v[i.toNat,by omega];exact HT.sIx_nat _ _ j
def EC {n:Nat}{i:Int}(h:0<=i):HT.sIx n n (some i)=min i.toNat n:=by obtain⟨j,rfl⟩:∃j:Nat,i=j:=#v[i.toNat,by omega];exact HT.sIx_nat _ _ j
def kN {α:Type}{xs:List α}{i:Int}(h:0<=i):T6 xs none (some i)=xs.take i.toNat:=by
 unfold T6;rw[EC h,HT.sIx_none,List.drop_zero,Nat.sub_zero];by_cases hl:i.toNat<=xs.length
 .rw[Nat.min_eq_left hl]
 .rw[Nat.min_eq_right (by omega),OD<|Mz _,OD<|by omega]
def hU {α:Type}{xs:List α}{i:Int}(h:0<=i):T6 xs (some i) none=xs.drop i.toNat:=by
 unfold T6;rw[Dm h];have e:HT.sIx xs.length xs.length none=xs.length:=HT.sIx_none ..;rw[e];by_cases hl:i.toNat<=xs.length
 .rw[Nat.min_eq_left hl,OD (by rw[Qp];omega)]
 .rw[Nat.min_eq_right (by omega),Os<|Mz _,Os (by omega),List.take_nil]
def iY (xs:List My)(i:Nat):A9 (xs.take i)+A9 (xs.drop i)=A9 xs:=by rw[<-O7,List.take_append_drop]
def jo {xs ys:List My}(h:xs.length+ys.length<=100000):D2 (.tuple xs) (.tuple ys)=some (.tuple<|xs++ys):=Mx<|sz h
variable [Fam]
def EL {ds:List My}{a:Int}{d:My}(a0:0<=a)(e:atI ds a=some d):A9 (ds.take a.toNat)+cnt d+A9 (ds.drop (a+1).toNat)=A9 ds:=by
 obtain⟨j,rfl⟩:∃j:Nat,a=j:=#v[a.toNat,by omega];obtain⟨b,g,f,c,l,h⟩:=fO e;rw[seqIndex_of (by omega) h]at g;have:b=j:=by have:=MH g;omega
 subst this;have k:((b:Int)+1).toNat=b+1:=by omega
 rw[NI,k];have:=iY ds b;rw[Ng c]at this;have i:ds[b]=d:=by rw[MN c]at f;exact MH f
 rw[i]at this;simp only[A9]at this;omega
variable [Fam]
def G3 {bd:My->DE->Option DE}{body:DE->M Out}{Q:Out->FdS->Prop}(I:Nat->DE->FdS->Prop):∀(items:List My) (n:Nat) (E:DE) (F:FdS),I n E F ->
  (∀i d,items[i]? = some d->∀E F,I (n+i) E F->∃E1,bd d E=some E1/\wp (body E1 F) λo F'=>∃E2,o = .nx E2/\I (n+i+1) E2 F')->(∀E F,I (n+items.length) E F->Q (.nx E) F)->wp (Q5 bd body items E F) Q
 | [],n,E,F,h,_,hq=>d6.2<|hq E F h
 | d::r,n,E,F,h,st,hq=>by
  obtain⟨E1,g,c⟩:=st 0 d rfl E F h;rw[Q5,g,MU,d5];refine l6 c λo j #v[E2,f,b]=>?_
  subst f;refine G3 I r (n+1) E2 j b (λi d e E F a=>?_) (λE F a=>hq E F (by rw[ME];rw[show n+(r.length+1)=n+1+r.length by omega];exact a));have:=st (i+1) d (by simpa using e) E F (by rw[show n+(i+1)=n+1+i by omega];exact a);rw[show n+(i+1)+1=n+1+i+1 by omega]at this;exact this
def gC {i j:Int}(h1:i.natAbs<jc)(h2:j.natAbs<jc):u9 (.int i) (.int j)=some (.int<|i*j):=Mx<|.inr #v[h1,h2]
def vH {i j:Int}(h1:j≠0)(h2:j.natAbs<2 ^ 9000):gv (.int i) (.int j)=some (.int<|i.fdiv j):=Mx #v[h1,h2]
def qN {i j:Int}(h1:0<j)(h2:j.natAbs<2 ^ 9000):gv (.int i) (.int j)=some (.int<|i / j):=by rw[vH (by omega) h2,Sj i<|by omega]
def Ce {i j:Int}(h1:0<j):zT (.int i) (.int j)=some (.int<|i % j):=Mx h1
variable [Fam]
section
variable {F:FdS}{Q:My->FdS->Prop}{n:Nat}
theorem iT {me:DE->M My}{f:My->My}{rest:DE}{Q:List My->FdS->Prop}:∀(ds:List My) (o:Option DV),(∀d∈ds,∀(F:FdS) (Q:My->FdS->Prop),Q (f d) F->wp (me (some (.dat d)::rest) F) Q)->Q (ds.map f) F->wp (S7 (bN 0) K9 me ds (o::rest) F) Q
 | [],o,_,q=>d6.2 q
 | d::ds,o,h,q=>by rw[S7];have e:bN 0 d (o::rest)=some (some (.dat d)::rest):=rfl;rw[e,MU,d5];refine ae.2 ?_;rw[Mx rfl,d5];refine h d MD F _ ?_;rw[d5];exact iT ds _ (λd a=>h d<|Mw _ a)<|d6.2 q
def Bv {d:My}(h:Z4 d=true):gY [d]=some (.str d.shown):=Mx h
def wd (m:Int):My->Bool
 | .int i=>decide (m<=i)
 | _=>false
def isI:My->Bool
 | .int _=>true
 | _=>false
def L6:List DV->M My:=I0 ["thing"]<|mRt<|ip (s1 (P5 "int")<|sW 0)<|xJ<|s1 (P5 "bool")<|sW 0
def J4:List DV->M My:=I0 ["least","thing"]<|mRt<|ip (i4 L6<|vD (sV 1) m7)<|s2 geD (sW 1)<|sW 0
def O3:List DV->M My:=I0 ["many","thing"]<|mRt<|ip (s1 (P5 "tuple")<|sW 1)<|s2 (eqD false) (sN fJ<|d7 (sW 1) l0)<|sW 0
def ni {d:My}(h:scs n d)(q:Q (.bool<|isI d) F):wp (L6 [.dat d] F) Q:=by
 unfold L6;cases d with
 | int i=>walk_at "go";simp only[tyD,gx,Bool.not_false];exact q
 | bool i=>walk_at "go";simp only[tyD,fw,OH];exact q
 | none=>walk_at "go";exact q
 | str i=>walk_at "go";exact q
 | tuple i=>walk_at "go";exact q
 | list i=>walk_at "go";exact q
 | dict i=>exact absurd h (by simp[scs])
def Du {d:My}{m:Int}(h:scs n d)(q:Q (.bool<|wd m d) F):wp (J4 [.dat<|.int m,.dat d] F) Q:=by
 unfold J4;walk_at "go";refine ni h ?_;cases d with
 | int i=>refine c7 rfl<|qD.2 ?_;walk_at "go";exact q
 | bool i=>refine c7 rfl<|fq.2 ?_;walk_at "go";exact q
 | none=>refine c7 rfl<|fq.2 ?_;walk_at "go";exact q
 | str i=>refine c7 rfl<|fq.2 ?_;walk_at "go";exact q
 | tuple i=>refine c7 rfl<|fq.2 ?_;walk_at "go";exact q
 | list i=>refine c7 rfl<|fq.2 ?_;walk_at "go";exact q
 | dict i=>exact absurd h (by simp[scs])
def cV (m:Nat):My->Bool
 | .tuple ds=>decide (ds.length=m)
 | _=>false
def qt {d:My}{m:Nat}(h:scs n d)(q:Q (.bool<|cV m d) F):wp (O3 [.dat<|.int m,.dat d] F) Q:=by
 unfold O3;cases d with
 | tuple a =>
  walk_at "go";have e:(My.int (a.length:Int)).eqv (.int m)=cV m (.tuple a):=by
   simp only[My.eqv,cV];by_cases h:a.length=m
   .rw[h];simp
   .have:¬((a.length:Int)=(m:Int)):=by omega
    simp[h,this]
  rw[e];exact q
 | int i=>walk_at "go";exact q
 | bool i=>walk_at "go";exact q
 | none=>walk_at "go";exact q
 | str i=>walk_at "go";exact q
 | list i=>walk_at "go";exact q
 | dict i=>exact absurd h (by simp[scs])
end
section
variable {F:FdS}{Q:Out->FdS->Prop}{E:DE}{i:Nat}{ds:List My}
def nk {v:DE->M My}(he:eW E i=some ds)(hl:ds.length<=100000)(q:wp (v E F) λx F1=>Q (.nx<|E.set i<|some<|.own<|ds++[x]) F1):wp (ke i v E F) Q:=by
 unfold ke;rw[d5];refine l6 q λx F1 h=>?_
 rw[he,MU,Mx<|MT hl (by rw[Nr];decide)];exact d6.2 h
def GJ {v:DE->M My}(he:eW E i=some ds)(q:wp (v E F) λx F1=>∃zs,x = .list zs/\ds.length+zs.length<=100000/\Q (.nx<|E.set i<|some<|.own<|ds++zs) F1):wp (vN i v E F) Q:=by
 unfold vN;rw[d5];refine l6 q λx F1 h=>?_
 obtain⟨zs,rfl,hl,q⟩:=h;rw[he,MU];dsimp only;rw[Mx<|sz hl];exact d6.2 q
def Eu {a:DE->M My}{Q:List My->FdS->Prop}(q:wp (a E F) λx F1=>oB (gr x) λds=>Q (bM 0 ds) F1):wp (rG a E F) Q:=by
 unfold rG;rw[d5];refine l6 q λx F1 h=>?_
 obtain⟨ds,e,q⟩:=h;dsimp only;rw[e,MU];exact d6.2 q
end
variable [Fam]
def vh {bd:My->DE->Option DE}{me:DE->M My}{Sh:DE->Prop}{P:My->My->Prop}{c:Int}(hc:0<=c):∀(ds:List My) (E:DE) (F:FdS) (Q:List My->FdS->Prop),Sh E ->
  (∀d∈ds,∀E,Sh E->∃E1,bd d E=some E1/\Sh E1/\∀F:FdS,F.t+c<=199999->wp (me E1 F) λy F'=>F'.t<=F.t+c/\P d y)->F.t+c*ds.length<=199999 ->
  (∀zs F',zs.length=ds.length->(∀z∈zs,∃d∈ds,P d z)->F'.t<=F.t+c*ds.length->Q zs F')->wp (S7 bd K9 me ds E F) Q
 | [],E,F,Q,_,_,_,q=>d6.2 (q [] F rfl (λz a=>by cases a)<|by simp)
 | d::ds,E,F,Q,hE,st,hF,q=>by
  have l:c*((d::ds).length:Int)=c*(ds.length:Int)+c:=by rw[ME];push_cast;rw[Int.mul_add,Int.mul_one]
  have s:0<=c*(ds.length:Int):=Int.mul_nonneg hc (by omega);rw[l]at hF q;obtain⟨E1,k,j,i⟩:=st d MD E hE;rw[S7,k,MU,d5];refine ae.2 ?_;rw[Mx rfl,d5];refine l6 (i F<|by omega) λy o #v[r,f]=>?_
  rw[d5];refine vh hc ds E1 o _ j (λd h=>st d<|Mw _ h) (by omega) λzs n hl a p=>d6.2 (q _ n (by simp[hl]) (λz b=>?_)<|by omega)
  rcases MJ.1 b with rfl | b
  .exact#v[d,MD,f]
  .obtain⟨m,e,g⟩:=a z b;exact#v[m,Mw _ e,g]
def Bf {me:DE->M My}{P:My->My->Prop}{c:Int}{rest:DE}{F:FdS}{Q:List My->FdS->Prop}(ds:List My)(o:Option DV)(hc:0<=c)
  (st:∀d∈ds,∀F:FdS,F.t+c<=199999->wp (me (some (.dat d)::rest) F) λy F'=>F'.t<=F.t+c/\P d y) (hF:F.t+c*ds.length<=199999)
  (q:∀zs F',zs.length=ds.length->(∀z∈zs,∃d∈ds,P d z)->F'.t<=F.t+c*ds.length->Q zs F'):wp (S7 (bN 0) K9 me ds (o::rest) F) Q :=
 vh (Sh:=λE=>∃o,E=o::rest) hc ds _ F Q #v[o,rfl] (λd a E #v[o,e]=>by subst e;exact#v[_,rfl,#v[_,rfl],st d a]) hF q
variable [Fam]
def xP {c:DE->M Bool}{b:DE->M Out}{Q:Out->FdS->Prop}(I:DE->FdS->Prop)(μ:DE->Nat)
  (st:∀E F,I E F->wp (c E F) λt F1=>cIf t (wp (b E F1) λo F2=>∃E2,o = .nx E2/\I E2 F2 /\ μ E2 < μ E)<|Q (.nx E) F1):∀(n:Nat) (E:DE) (F:FdS),I E F->μ E<n->wp (cT c b n E F) Q
 | 0,E,F,_,h=>absurd h<|Pq _
 | n+1,E,F,hI,h=>by
  rw[cT,d5];refine l6 (st E F hI) λt F1 a=>?_
  cases t with
  | false=>rw[fq]at a;rw[MC<|by simp];exact d6.2 a
  | true =>
   rw[qD]at a;rw[Mx rfl,d5];refine l6 a λo F2 #v[E2,e,d,f]=>?_
   subst e;exact xP I μ st n E2 F2 d (by omega)
def GA {c:DE->M Bool}{b:DE->M Out}{Q:Out->FdS->Prop}(I:DE->FdS->Prop)(μ:DE->Nat){E:DE}{F:FdS}(h0:I E F)
  (st:∀E F,I E F->wp (c E F) λt F1=>cIf t (wp (b E F1) λo F2=>∃E2,o = .nx E2/\I E2 F2 /\ μ E2 < μ E)<|Q (.nx E) F1):wp (mWh c b E F) Q:=by obtain⟨o,a,e,q⟩:=xP I μ st (μ E+1) E F h0<|On _;exact#v[o,a,CH e,q]
def qw {i j:Nat}{a:DE->M (List My)}{E:DE}{F:FdS}{Q:Out->FdS->Prop}(q:wp (a E F) λxs F1=>∃x y,xs=[x,y]/\i<E.length/\j<E.length/\Q (.nx<|(E.set i<|some<|.dat x).set j<|some<|.dat y) F1):wp (pj i j a E F) Q:=by
 unfold pj;rw[d5];refine l6 q λxs F1 h=>?_
 obtain⟨x,y,rfl,c,b,q⟩:=h;simp only[bN,c,Of,MU,NO,b];exact d6.2 q
def FU {i:Int}:uE [.int i]=some (.int (i.natAbs:Int)):=by show some (My.int<|if i<0 then -i else i)=_;congr 2;split <;> omega
def C7:List DV->M My:=I0 ["one","other"] (mSq (pj 0 1<|d7 (sN uE<|d7 (sW 0) l0)<|d7 (sN uE<|d7 (sW 1) l0) l0)
  (mSq (mWh (uB<|s2 gtD (sW 1)<|sC<|.int 0)<|pj 0 1<|d7 (sV 1)<|d7 (s2 zT (sW 0)<|sW 1) l0)
  (mRt<|sV 0)))
def BO {a b:Int}{F:FdS}{Q:My->FdS->Prop}(q:Q (.int (Int.gcd a b:Nat)) F):wp (C7 [.dat<|.int a,.dat<|.int b] F) Q:=by
 unfold C7;walk_at "go";refine qw ?_;walk_at "go";have c:∀z:Int,(if z<0 then -z else z)=(z.natAbs:Int):=λz=>by split <;> omega
 rw[c a,c b];refine#v[_,_,rfl,i7 rfl,i7 rfl,i3 ?_];walk_at "go";refine GA (λE f=>f=F/\∃x y:Nat,E=[some<|.dat<|.int x,some<|.dat<|.int y]/\Nat.gcd x y=Int.gcd a b) (λE=>match E with
  | [_,some<|.dat<|.int y]=>y.natAbs
  | _=>0) #v[rfl,a.natAbs,b.natAbs,rfl,rfl] ?_
 rintro E i ⟨rfl,x,y,rfl,hg⟩;walk_at "go";refine P3 (λe=>?_) (λe=>?_)
 .have d:(0:Int)<y:=MS e;refine qw ?_;walk_at "go";refine c7 (Ce d) ?_;walk_at "go";refine#v[_,_,rfl,i7 rfl,i7 rfl,_,rfl,#v[rfl,y,x % y,rfl,?_],?_]
  .rw[<-hg,SC x y,Nat.gcd_rec y x,SC]
  .show((x:Int) % (y:Int)).natAbs<(y:Int).natAbs;have h:=RM (x:Int) (b:=(y:Int)) (by omega);have g:=QM (x:Int) d;omega
 .have d:y=0:=by have:=Om e;omega
  subst d;refine i3 ?_;walk_at "go";rw[Nat.gcd_zero_right]at hg;rw[hg];exact q
def Fy {i j:Int}:eqD false (.int i) (.int j)=some (.bool<|decide (i=j)):=by show(if SeqAt.shaped (.int i)=true/\SeqAt.shaped (.int j)=true then _ else none)=_;rw[Mx (show SeqAt.shaped (.int i)=true/\SeqAt.shaped (.int j)=true from#v[by simp[SeqAt.shaped,My.canLay0,My.depth],by simp[SeqAt.shaped,My.canLay0,My.depth]]),MC<|show ¬(false=true) by decide];refine NU (λb=>some<|My.bool b) ?_;simp only[My.eqv];exact Bool.beq_eq_decide_eq ..
def Ac {i j:Int}:eqD true (.int i) (.int j)=some (.bool (!decide (i=j))):=by show(if SeqAt.shaped (.int i)=true/\SeqAt.shaped (.int j)=true then _ else none)=_;rw[Mx (show SeqAt.shaped (.int i)=true/\SeqAt.shaped (.int j)=true from#v[by simp[SeqAt.shaped,My.canLay0,My.depth],by simp[SeqAt.shaped,My.canLay0,My.depth]]),Mx rfl];refine NU (λb=>some<|My.bool b) ?_;simp only[My.eqv];rw[Bool.beq_eq_decide_eq]
variable [Fam]
variable [Fam]
def D6:List DV->M My:=I0 ["top","bottom","divisor"] (mSq (x9 2<|i4 C7<|vD (sV 0)<|vD (sV 1) m7)
  (mSq (mIf (uB<|s2 ltD (sW 1)<|sC<|.int 0) (x9 2<|s1 pd<|sW 2) mNx)
  (mRt<|Q3<|d7 (s2 gv (sW 0)<|sW 2)<|d7 (s2 gv (sW 1)<|sW 2) l0)))
structure Low (i j t b:Int):Prop where
 pos:0<b
 low:Int.gcd t b=1
 as:t*j=i*b
 lt:t.natAbs<=i.natAbs
 lb:b.natAbs<=j.natAbs
def aY {i j:Int}(hj:0<j):Low i j (i / (Int.gcd i j:Int)) (j / (Int.gcd i j:Int)):=by
 have hg:0<Int.gcd i j:=Qn i (by omega);have c:(Int.gcd i j:Int) ∣ i:=SD ..;have b:(Int.gcd i j:Int) ∣ j:=Qj ..;refine#v[Int.ediv_pos_of_pos_of_dvd hj (by omega) b,Int.gcd_ediv_gcd_ediv_gcd hg,?_,Int.natAbs_ediv_le_natAbs ..,Int.natAbs_ediv_le_natAbs ..];have a:(Int.gcd i j:Int)≠0:=by omega
 clear hg;generalize (Int.gcd i j:Int)=g at *;obtain⟨x,rfl⟩:=c;obtain⟨y,rfl⟩:=b;have hg:=a;rw[QO x hg,QO y hg,SE g y,<-Int.mul_assoc,SE g x,Int.mul_assoc x g y,SE g y,<-Int.mul_assoc]
def Ap {i j:Int}(hj:j<0):Low i j (i / (-(Int.gcd i j:Int))) (j / (-(Int.gcd i j:Int))):=by
 have h:=aY (i:=-i) (j:=-j) (by omega);rw[Int.neg_gcd,Int.gcd_neg]at h;obtain⟨e,d,c,b,a⟩:=h;have g:i / (-(Int.gcd i j:Int)) = -i / (Int.gcd i j:Int):=by rw[Int.ediv_neg,Int.neg_ediv_of_dvd<|SD ..]
 have f:j / (-(Int.gcd i j:Int)) = -j / (Int.gcd i j:Int):=by rw[Int.ediv_neg,Int.neg_ediv_of_dvd<|Qj ..]
 rw[g,f];refine#v[e,d,?_,by rw[RT]at b;exact b,by rw[RT]at a;exact a];rw[Int.mul_neg,Int.neg_mul]at c;omega
def pk {i j:Int}{F:FdS}{Q:My->FdS->Prop}(hj:j≠0)(hb:j.natAbs<2 ^ 9000)(q:∀t b,Low i j t b->Q (.tuple [.int t,.int b]) F):wp (D6 [.dat<|.int i,.dat<|.int j] F) Q:=by
 unfold D6;walk_at "go";refine BO ?_;have hg:0<Int.gcd i j:=Qn i hj;have a:Int.gcd i j<=j.natAbs:=Sn (by omega)<|Int.ofNat_dvd_left.1<|Qj ..;refine#v[i7 rfl,i3 ?_];walk_at "go";refine P3 (λe=>?_) (λe=>?_)
 .have hj:j<0:=MS e;walk_at "go";have c:(-((Int.gcd i j:Nat):Int)).natAbs<2 ^ 9000:=by rw[RT];exact MT a hb
  have d:-((Int.gcd i j:Nat):Int)≠0:=by omega
  have g:-((Int.gcd i j:Nat):Int) ∣ i:=Int.neg_dvd.2<|SD ..;have f:-((Int.gcd i j:Nat):Int) ∣ j:=Int.neg_dvd.2<|Qj ..;refine c7 (vH d c) ?_;walk_at "go";refine c7 (vH d c) ?_;walk_at "go";rw[Int.fdiv_eq_ediv_of_dvd g,Int.fdiv_eq_ediv_of_dvd f];exact q _ _<|Ap hj
 .have hj:0<j:=by have:=Om e;omega
  walk_at "go";have c:((Int.gcd i j:Nat):Int).natAbs<2 ^ 9000:=MT a hb;refine c7 (qN (by omega) c) ?_;walk_at "go";refine c7 (qN (by omega) c) ?_;walk_at "go";exact q _ _<|aY hj
variable [Fam]
variable [Fam]
def Dr {i:Int}(h0:-(2 ^ 62)<=i)(h1:i<2 ^ 62):eE [.int i]=some (nO 0 i.toNat):=Mx #v[h0,h1]
def En {n:Nat}(h:n<=100000):eE [.int (n:Nat)]=some (nO 0 n):=by have e:=Dr (i:=(n:Int)) (by omega) (by omega);rwa [NI]at e
def pr (p:Int×Int):My:=.tuple [.int p.1,.int p.2]
theorem jV {me:DE->M My}{f:Int×Int->My}{rest:DE}{Q:List My->FdS->Prop}:∀(ps:List (Int×Int)) (o o':Option DV) (F:FdS),(∀p∈ps,∀(F:FdS) (Q:My->FdS->Prop),Q (f p) F->wp (me (some (.dat<|.int p.1)::some (.dat<|.int p.2)::rest) F) Q)->Q (ps.map f) F->wp (S7 (P4 2<|u5 (bN 0)<|u5 (bN 1) P9) K9 me (ps.map pr) (o::o'::rest) F) Q
 | [],o,o',F,_,q=>d6.2 q
 | p::ps,o,o',F,h,q=>by rw[MB,S7];have e:P4 2 (u5 (bN 0)<|u5 (bN 1) P9) (pr p) (o::o'::rest)=some (some (.dat<|.int p.1)::some (.dat<|.int p.2)::rest):=rfl;rw[e,MU,d5];refine ae.2 ?_;rw[Mx rfl,d5];refine h p MD F _ ?_;rw[d5];exact jV ps _ _ F (λp a=>h p<|Mw _ a)<|d6.2 q
theorem fZ:∀ns:List Int,ag (ns.map .int)=some ns
 | []=>rfl
 | n::ns=>by rw[MB,ag,fZ ns];rfl
def Er {ns:List Int}:gw [.list<|ns.map .int]=some (.int ns.sum):=by simp only[gw,fZ,QD]
variable [Fam]
def qd (q:Rat):My:=.tuple [.int q.num,.int ((q.den:Nat):Int)]
def iU {i j t b:Int}(h:Low i j t b)(hj:0<j):My.tuple [.int t,.int b]=qd (mkRat i j.toNat):=by
 obtain⟨k,d,c,_,_⟩:=h;have a:b.toNat≠0:=by omega
 have g:t.natAbs.Coprime b.toNat:=by
  have:b.toNat=b.natAbs:=by omega
  rw[this];exact d
 have f:(#v[t,b.toNat,a,g]:Rat)=mkRat t b.toNat:=by rw[Rat.mk_eq_mkRat]
 have e:mkRat t b.toNat=mkRat i j.toNat:=by rw[SF a<|by omega];rw[show((j.toNat:Nat):Int)=j by omega,show((b.toNat:Nat):Int)=b by omega];exact c
 rw[<-e,<-f];unfold qd;simp only;rw[show((b.toNat:Nat):Int)=b by omega]
def wa {i j:Int}{F:FdS}{Q:My->FdS->Prop}(hj:0<j)(hb:j.natAbs<2 ^ 9000)(q:Q (qd<|mkRat i j.toNat) F):wp (D6 [.dat<|.int i,.dat<|.int j] F) Q :=
 pk (by omega) hb λt b h=>by rw[iU h hj];exact q
def pA {i:Int}{n:Nat}{F:FdS}{Q:My->FdS->Prop}(hj:0<n)(hb:n<2 ^ 9000)(q:Q (qd<|mkRat i n) F):wp (D6 [.dat<|.int i,.dat<|.int (n:Nat)] F) Q :=
 wa (by omega) (by omega) (by rw[NI];exact q)
structure Sz (p:Rat):Prop where
 num:p.num.natAbs<2 ^ 4000
 den:p.den<2 ^ 4000
def p4 {n:Nat}(h:n<2 ^ 4000):n<jc:=MI h (sr<|by decide)
def Sz.dd {p q:Rat}(hp:Sz p)(hq:Sz q):p.den*q.den<2 ^ 9000:=by have:=SI hp.den hq.den;rw[<-Ol]at this;exact Sw this (Nk (by decide)<|by decide)
def Sz.mul1 {p q:Rat}(hp:Sz p)(hq:Sz q):u9 (.int p.num) (.int ((q.den:Nat):Int))=some (.int<|p.num*((q.den:Nat):Int)):=gC (p4 hp.num) (p4 (by have:=hq.den;omega))
def Sz.mul2 {p q:Rat}(hp:Sz p)(hq:Sz q):u9 (.int ((p.den:Nat):Int)) (.int ((q.den:Nat):Int))=some (.int (((p.den*q.den:Nat)):Int)):=by rw[QF];exact gC (p4 (by have:=hp.den;omega)) (p4 (by have:=hq.den;omega))
def Sz.mul3 {p q:Rat}(hp:Sz p)(hq:Sz q):u9 (.int p.num) (.int q.num)=some (.int<|p.num*q.num):=gC (p4 hp.num)<|p4 hq.num
def den_pos (p:Rat):0<p.den:=Sg p.den_nz
def ic:List DV->M My:=I0 ["one","other"]<|mRt<|i4 D6<|vD (s2 D2 (s2 u9 (s2 ixD (sW 0)<|sC<|.int 0)<|s2 ixD (sW 1)<|sC<|.int 1)<|s2 u9 (s2 ixD (sW 1)<|sC<|.int 0)<|s2 ixD (sW 0)<|sC<|.int 1)<|vD (s2 u9 (s2 ixD (sW 0)<|sC<|.int 1)<|s2 ixD (sW 1)<|sC<|.int 1) m7
def fV:List DV->M My:=I0 ["one","other"]<|mRt<|i4 D6<|vD (s2 nE (s2 u9 (s2 ixD (sW 0)<|sC<|.int 0)<|s2 ixD (sW 1)<|sC<|.int 1)<|s2 u9 (s2 ixD (sW 1)<|sC<|.int 0)<|s2 ixD (sW 0)<|sC<|.int 1)<|vD (s2 u9 (s2 ixD (sW 0)<|sC<|.int 1)<|s2 ixD (sW 1)<|sC<|.int 1) m7
def fP:List DV->M My:=I0 ["one","other"]<|mRt<|i4 D6<|vD (s2 u9 (s2 ixD (sW 0)<|sC<|.int 0)<|s2 ixD (sW 1)<|sC<|.int 0)<|vD (s2 u9 (s2 ixD (sW 0)<|sC<|.int 1)<|s2 ixD (sW 1)<|sC<|.int 1) m7
section
variable {F:FdS}{Q:My->FdS->Prop}{p q:Rat}
def ix0:ixD (qd p) (.int 0)=some (.int p.num):=rfl
def ix1:ixD (qd p) (.int 1)=some (.int ((p.den:Nat):Int)):=rfl
def yh (hp:Sz p)(hq:Sz q)(k:Q (qd<|p+q) F):wp (ic [.dat<|qd p,.dat<|qd q] F) Q:=by unfold ic;refine G5.2<|A4.2<|l3.2<|R4.2<|j4.2<|j4.2<|j4.2<|M5.2<|R8 rfl<|f7.2<|c7 ix0<|j4.2<|M5.2<|R8 rfl<|f7.2<|c7 ix1<|c7 (hp.mul1 hq) ?_;refine j4.2<|j4.2<|M5.2<|R8 rfl<|f7.2<|c7 ix0<|j4.2<|M5.2<|R8 rfl<|f7.2<|c7 ix1<|c7 (hq.mul1 hp) ?_;refine c7 A5<|R4.2<|j4.2<|j4.2<|M5.2<|R8 rfl<|f7.2<|c7 ix1<|j4.2<|M5.2<|R8 rfl<|f7.2<|c7 ix1<|c7 (hp.mul2 hq)<|j7.2 ?_;refine pA (OE (den_pos p)<|den_pos q) (hp.dd hq)<|m5 ?_;rw[Rat.add_def,Pd]at k;exact k
def yP (hp:Sz p)(hq:Sz q)(k:Q (qd<|p-q) F):wp (fV [.dat<|qd p,.dat<|qd q] F) Q:=by unfold fV;refine G5.2<|A4.2<|l3.2<|R4.2<|j4.2<|j4.2<|j4.2<|M5.2<|R8 rfl<|f7.2<|c7 ix0<|j4.2<|M5.2<|R8 rfl<|f7.2<|c7 ix1<|c7 (hp.mul1 hq) ?_;refine j4.2<|j4.2<|M5.2<|R8 rfl<|f7.2<|c7 ix0<|j4.2<|M5.2<|R8 rfl<|f7.2<|c7 ix1<|c7 (hq.mul1 hp) ?_;refine c7 eV<|R4.2<|j4.2<|j4.2<|M5.2<|R8 rfl<|f7.2<|c7 ix1<|j4.2<|M5.2<|R8 rfl<|f7.2<|c7 ix1<|c7 (hp.mul2 hq)<|j7.2 ?_;refine pA (OE (den_pos p)<|den_pos q) (hp.dd hq)<|m5 ?_;rw[Rat.sub_def,Pd]at k;exact k
def xf (hp:Sz p)(hq:Sz q)(k:Q (qd<|p*q) F):wp (fP [.dat<|qd p,.dat<|qd q] F) Q:=by unfold fP;refine G5.2<|A4.2<|l3.2<|R4.2<|j4.2<|j4.2<|M5.2<|R8 rfl<|f7.2<|c7 ix0<|j4.2<|M5.2<|R8 rfl<|f7.2<|c7 ix0<|c7 (hp.mul3 hq) ?_;refine R4.2<|j4.2<|j4.2<|M5.2<|R8 rfl<|f7.2<|c7 ix1<|j4.2<|M5.2<|R8 rfl<|f7.2<|c7 ix1<|c7 (hp.mul2 hq)<|j7.2 ?_;refine pA (OE (den_pos p)<|den_pos q) (hp.dd hq)<|m5 ?_;rw[Rat.mul_def,Pd]at k;exact k
end
def jr (a:Int){D:Nat}(hD:D≠0):(mkRat a D).den ∣ D/\∀M:Nat,a.natAbs<=M*D->(mkRat a D).num.natAbs<=M*(mkRat a D).den:=by
 rw[<-Pd hD,Rat.normalize_eq];have e:a.natAbs.gcd D ∣ D:=Nat.gcd_dvd_right ..;have j:a.natAbs.gcd D ∣ a.natAbs:=Nat.gcd_dvd_left ..;have c:0<a.natAbs.gcd D:=Nat.gcd_pos_of_pos_right _<|Sg hD;refine#v[Nat.div_dvd_of_dvd e,λM h=>?_];show(a / ((a.natAbs.gcd D:Nat):Int)).natAbs<=M*(D / a.natAbs.gcd D);generalize a.natAbs.gcd D=g at *;obtain⟨x,d⟩:=e;obtain⟨y,b⟩:=j;have l:D / g=x:=by rw[d];exact Nat.mul_div_cancel_left x c
 have k:(a / (g:Int)).natAbs=y:=by have f:(g:Int) ∣ a:=Int.ofNat_dvd_left.2 #v[y,b];rw[Int.natAbs_ediv_of_dvd f,b,NC];exact Nat.mul_div_cancel_left y c
 rw[l,k];rw[b,d]at h;have i:g*y<=g*(M*x):=by
  have:M*(g*x)=g*(M*x):=by rw[<-Nat.mul_assoc,Sv M g,Nat.mul_assoc]
  omega
 exact Nat.le_of_mul_le_mul_left i c
structure Qb (D M:Nat) (p:Rat):Prop where
 den:p.den ∣ D
 num:p.num.natAbs<=M*p.den
def Qb.as {D M:Nat}{p:Rat}(h:Qb D M p)(hD:D≠0):∃a:Int,p=mkRat a D/\a.natAbs<=M*D:=by
 obtain⟨x,b⟩:=h.den;refine#v[p.num*(x:Int),?_,?_]
 .conv=>lhs;rw[<-RU p]
  rw[SF p.den_nz hD,b];push_cast;grind
 .rw[PB,NC,b];have:=OA x h.num;rwa [Nat.mul_assoc]at this
def Qb.of {D M:Nat}{a:Int}(hD:D≠0)(h:a.natAbs<=M*D):Qb D M (mkRat a D):=#v[(jr a hD).1,(jr a hD).2 M h]
def Qb.add {D M M':Nat}{p q:Rat}(hp:Qb D M p)(hq:Qb D M' q)(hD:D≠0):Qb D (M+M') (p+q):=by
 obtain⟨a,rfl,d⟩:=hp.as hD;obtain⟨b,rfl,c⟩:=hq.as hD;have e:mkRat a D+mkRat b D=mkRat (a+b) D:=by rw[Rat.mkRat_add_mkRat _ _ hD hD,SF (Qd hD hD) hD];push_cast;grind
 rw[e];refine Qb.of hD ?_;rw[Nat.add_mul];omega
def Qb.mul {D D' M M':Nat}{p q:Rat}(hp:Qb D M p)(hq:Qb D' M' q)(hD:D≠0)(hD':D'≠0):Qb (D*D') (M*M') (p*q):=by
 obtain⟨a,rfl,d⟩:=hp.as hD;obtain⟨b,rfl,c⟩:=hq.as hD';rw[Rat.mkRat_mul_mkRat];refine Qb.of (Qd hD hD') ?_;rw[PB];have:=NQ d c;have e:M*D*(M'*D')=M*M'*(D*D'):=by grind
 omega
def Qb.sz {D M:Nat}{p:Rat}(h:Qb D M p)(hD:D≠0)(h1:D<2 ^ 3000)(h2:M<2 ^ 1000):Sz p:=by
 have a:=Sn (Sg hD) h.den;refine#v[?_,MT a<|Sw h1<|Nk (by decide)<|by decide];refine MT h.num ?_;have e:(2:Nat) ^ 4000=2 ^ 1000*2 ^ 3000:=by rw[<-Ol]
 rw[e];exact SI h2<|MT a h1
end L3
namespace Bz
open PySem L2 L3
variable [Fam]
def c_added:List DV->M My:=I0 ["parts","told","part"] (mSq (x9 1<|sC<|.tuple [.int 0,.int 1])
  (mSq (W9 (N9<|sV 0) (bN 2)<|x9 1<|i4 ic<|vD (sV 1)<|vD (sV 2) m7)
  (mRt<|sV 1)))
def Qb.mono {D D' M M':Nat}{p:Rat}(h:Qb D M p)(hd:D ∣ D')(hm:M<=M'):Qb D' M' p:=#v[Nat.dvd_trans h.den hd,MG h.num<|OA _ hm]
section
def sumQ (ps:List Rat):Rat:=ps.foldl (· + ·) 0
def jI {ps:List Rat}{p:Rat}:sumQ (ps++[p])=sumQ ps+p:=by simp[sumQ,List.foldl_append]
def dY {ps:List Rat}{i:Nat}{p:Rat}(h:ps[i]? = some p):sumQ (ps.take<|i+1)=sumQ (ps.take i)+p:=by rw[Rc,h,QP,jI]
def gb {D M:Nat}(hD:D≠0){ps:List Rat}(h:∀p∈ps,Qb D M p):∀i,i<=ps.length->Qb D (i*M) (sumQ<|ps.take i):=by
 intro i;induction i with
 | zero=>intro _;exact#v[Nat.one_dvd _,by simp[sumQ]]
 | succ i a =>intro b;have e:=MN (show i<ps.length by omega);rw[dY e,Nat.add_mul,Rn];exact(a<|by omega).add (h _<|Oy _) hD
end
def Qb.neg {D M:Nat}{p:Rat}(h:Qb D M p):Qb D M (-p):=#v[by rw[Rat.neg_den];exact h.den,by rw[Rat.neg_num,Rat.neg_den,RT];exact h.num]
def Qb.sub {D M M':Nat}{p q:Rat}(hp:Qb D M p)(hq:Qb D M' q)(hD:D≠0):Qb D (M+M') (p-q):=by rw[Rat.sub_eq_add_neg];exact hp.add (Qb.neg hq) hD
variable [Fam]
def eqS {x:Str}:eqD true (.str x) (.str x)=some (.bool false):=by show some (My.bool<|if true=true then !decide (x=x) else decide (x=x))=_;simp
variable [Fam]
variable [Fam]
def c_lfrac:List DV->M My:=I0 ["_law_top","_law_bottom","_law_one","_law_other"] (mSq (pj 2 3<|d7 (sN uE<|d7 (sW 0) l0)<|d7 (sV 1) l0)
  (mSq (mWh (uB<|s2 gtD (sW 3)<|sC<|.int 0)<|pj 2 3<|d7 (sV 3)<|d7 (s2 zT (sW 2)<|sW 3) l0)
  (mRt<|Q3<|d7 (s2 gv (sW 0)<|sW 2)<|d7 (s2 gv (sW 1)<|sW 2) l0)))
def c_over:List DV->M My:=I0 ["one","other"]<|mRt<|i4 D6<|vD (s2 u9 (s2 ixD (sW 0)<|sC<|.int 0)<|s2 ixD (sW 1)<|sC<|.int 1)<|vD (s2 u9 (s2 ixD (sW 0)<|sC<|.int 1)<|s2 ixD (sW 1)<|sC<|.int 0) m7
section
variable {F:FdS}{Q:My->FdS->Prop}{p q:Rat}
def DM (hp:Sz p)(hq:Sz q)(h0:0<q)(k:Q (qd<|p / q) F):wp (c_over [.dat<|qd p,.dat<|qd q] F) Q:=by
 have m:0<q.num:=by have:=(Rat.lt_iff 0 q).1 h0;simpa using this
 have v:=den_pos p;unfold c_over;refine G5.2<|A4.2<|l3.2<|R4.2<|j4.2<|j4.2<|M5.2<|R8 rfl<|f7.2<|c7 ix0<|j4.2<|M5.2<|R8 rfl<|f7.2<|c7 ix1<|c7 (Sz.mul1 hp hq) ?_;refine R4.2 (j4.2<|j4.2<|M5.2<|R8 rfl<|f7.2<|c7 ix1<|j4.2<|M5.2<|R8 rfl<|f7.2<|c7 ix0<|c7 (gC (p4 (by have:=hp.den;omega))<|p4 hq.num)<|j7.2 ?_);have n:0<((p.den:Nat):Int)*q.num:=Int.mul_pos (by omega) m;refine wa n ?_ ?_
 .rw[PB,NC];have a:=SI hp.den hq.num;rw[<-Ol]at a;exact MI a (Nd (by decide)<|by decide)
 .have e:mkRat (p.num*((q.den:Nat):Int)) (((p.den:Nat):Int)*q.num).toNat=p / q:=by
   have t:(((p.den:Nat):Int)*q.num).toNat=p.den*q.num.toNat:=by
    have:(((p.den:Nat):Int)*q.num)=((p.den*q.num.toNat:Nat):Int):=by push_cast;rw[Int.toNat_of_nonneg<|by omega]
    rw[this,NI]
   have h:q≠0:=λz=>by rw[z]at h0;exact absurd h0 (by decide)
   rw[t,PH];have r:p*(p.den:Rat)=(p.num:Rat):=by
    have d:=RU p;rw[PH]at d;have b:(p.den:Rat)≠0:=by exact_mod_cast p.den_nz
    have c:=Qe (a:=(p.num:Rat)) b;rw[d]at c;exact c
   have o:q*(q.den:Rat)=(q.num:Rat):=by
    have d:=RU q;rw[PH]at d;have b:(q.den:Rat)≠0:=by exact_mod_cast q.den_nz
    have c:=Qe (a:=(q.num:Rat)) b;rw[d]at c;exact c
   have s:((q.num.toNat:Nat):Rat)=(q.num:Rat):=by have:((q.num.toNat:Nat):Int)=q.num:=Int.toNat_of_nonneg (by omega);exact_mod_cast NU (λz:Int=>(z:Rat)) this
   push_cast;rw[s];have i:(p.den:Rat)≠0:=by exact_mod_cast p.den_nz
   have l:(q.den:Rat)≠0:=by exact_mod_cast q.den_nz
   have f:(q.num:Rat)≠0:=by exact_mod_cast (show q.num≠0 by omega)
   have j:(p.den:Rat)*(q.num:Rat)≠0:=λz=>(Rat.mul_eq_zero.1 z).elim i f
   have w:=Qe (a:=(p.num:Rat)*(q.den:Rat)) j;have u:=Qe (a:=p) h;have g:((p.num:Rat)*(q.den:Rat) / ((p.den:Rat)*(q.num:Rat))-p / q)*((p.den:Rat)*(q.num:Rat))=0:=by
    generalize hy:p / q=y at *;generalize (p.num:Rat)*(q.den:Rat) / ((p.den:Rat)*(q.num:Rat))=z at *;have:y*((p.den:Rat)*(q.num:Rat))=(p.num:Rat)*(q.den:Rat):=by rw[<-r,<-o,<-u];grind
    grind
   rcases Rat.mul_eq_zero.1 g with z | z
   .grind
   .exact absurd z j
  rw[e];exact m5 k
end
end Bz
namespace L3
open PySem PySem.Spec PyProof.Rows L2
def Gr (l:List Nat):List My:=l.map λi:Nat=>My.int (i:Int)
def Az (n:Nat):nO 0 n=Gr (List.range n):=by unfold nO Gr;exact Ov λi _=>by congr 1;omega
variable [Fam]
variable [Fam]
def Fx {i:Int}{n:Nat}(h0:-100000<=i)(h1:i<=100000):Gd n 1 0 (.int i):=jR (jm<|by omega)
end L3
namespace L3
open L2
section
abbrev Bt:=List<|Int×Int
end
end L3
namespace L3
open PySem PySem.Spec PyProof.Rows L2
section
variable [Fam]
abbrev cmD (c:Int×Int):My:=.tuple [.int c.1,.int c.2]
abbrev b2 :My->DE->Option DE:=P4 2<|u5 (bN 0)<|u5 (bN 1) P9
section
variable {F:FdS}
theorem CO {me:DE->M My}{α:Type}{x y:α->My}{f:α->My}{rest:DE}{Q:List My->FdS->Prop}:∀(ds:List α) (o o':Option DV),(∀d∈ds,∀(F:FdS) (Q:My->FdS->Prop),Q (f d) F->wp (me (some (.dat<|x d)::some (.dat<|y d)::rest) F) Q)->Q (ds.map f) F->wp (S7 b2 K9 me (ds.map λd=>.tuple [x d,y d]) (o::o'::rest) F) Q
 | [],o,o',_,q=>d6.2 q
 | d::ds,o,o',h,q=>by rw[MB,S7];have e:b2 (.tuple [x d,y d]) (o::o'::rest)=some (some (.dat<|x d)::some (.dat<|y d)::rest):=rfl;rw[e,MU,d5];refine ae.2 ?_;rw[Mx rfl,d5];refine h d MD F _ ?_;rw[d5];exact CO ds _ _ (λd a=>h d<|Mw _ a)<|d6.2 q
end
variable [Fam]
variable [Fam]
def lE {n i:Nat}{d:My}{f:Nat->My}(h:((List.range n).map f)[i]? = some d):i<n/\d=f i:=by rw[MQ]at h;obtain⟨b,e,rfl⟩:=MP.1 h;obtain⟨a,rfl⟩:=MK.1 e;simp only[Oi]at a;exact#v[a,by simp]
variable [Fam]
variable [Fam]
variable [Fam]
def Ho {me:DE->M My}{α:Type}{F:FdS}{x:α->My}{f:α->My}{rest:DE}{Q:List My->FdS->Prop}:∀(ds:List α) (o:Option DV),(∀d∈ds,∀(F:FdS) (Q:My->FdS->Prop),Q (f d) F->wp (me (some (.dat<|x d)::rest) F) Q)->Q (ds.map f) F->wp (S7 (bN 0) K9 me (ds.map x) (o::rest) F) Q:=λds o h q=>by
 have a:∀(l:List α) (o:Option DV) (Q:List My->FdS->Prop),(∀d∈l,d∈ds)->Q (l.map f) F->wp (S7 (bN 0) K9 me (l.map x) (o::rest) F) Q:=by
  intro l;induction l with
  | nil=>intro o Q _ q;exact d6.2 q
  | cons d l c =>intro o Q b q;rw[MB,S7];have e:bN 0 (x d) (o::rest)=some (some (.dat<|x d)::rest):=rfl;rw[e,MU,d5];refine ae.2 ?_;rw[Mx rfl,d5];refine h d (b d MD) F _ ?_;rw[d5];exact c _ _ (λz g=>b z<|Mw _ g)<|d6.2 q
 exact a ds o Q (λd i=>i) q
end
section
structure Sto {α:Type} (lt:α->α->Bool):Prop where
 irr:∀a,lt a a=false
 tr:∀a b c,lt a b=true->lt b c=true->lt a c=true
 tot:∀a b,a≠b->lt a b=true\/lt b a=true
def Sto.as {α:Type}{lt:α->α->Bool}(h:Sto lt){a b:α}(h1:lt a b=true):lt b a=false:=by
 cases e:lt b a
 .rfl
 .have:=h.tr a b a h1 e;rw[h.irr a]at this;cases this
section
variable {α:Type}[DecidableEq α]{lt:α->α->Bool}
def Y3 (lt:α->α->Bool):List α->List α->Bool
 | [],[]=>false
 | [],_::_=>true
 | _::_,[]=>false
 | a::l,b::m=>if a=b then Y3 lt l m else lt a b
theorem nF (h:Sto lt):∀l:List α,Y3 lt l l=false
 | []=>rfl
 | a::l=>by rw[Y3,Mx rfl];exact nF h l
theorem rL (h:Sto lt):∀l m n:List α,Y3 lt l m=true->Y3 lt m n=true->Y3 lt l n=true
 | [],[],n,h1,h2=>by cases h1
 | [],b::m,[],h1,h2=>by cases h2
 | [],b::m,c::n,h1,h2=>rfl
 | a::l,[],n,h1,h2=>by cases h1
 | a::l,b::m,[],h1,h2=>by cases h2
 | a::l,b::m,c::n,h1,h2=>by
  rw[Y3]at h1 h2 ⊢;by_cases f:a=b
  .subst f;rw[Mx rfl]at h1;by_cases d:a=c
   .rw[Mx d]at h2 ⊢;exact rL h l m n h1 h2
   .rw[MC d]at h2 ⊢;exact h2
  .rw[MC f]at h1;by_cases d:b=c
   .subst d;rw[MC f];exact h1
   .rw[MC d]at h2;have e:=h.tr a b c h1 h2;rw[MC λz=>by subst z;rw[h.irr]at e;cases e];exact e
theorem mC (h:Sto lt):∀l m:List α,l≠m->Y3 lt l m=true\/Y3 lt m l=true
 | [],[],n=>absurd rfl n
 | [],b::m,_=>.inl rfl
 | a::l,[],_=>.inr rfl
 | a::l,b::m,n=>by
  rw[Y3,Y3];by_cases e:a=b
  .rw[Mx e,Mx e.symm];exact mC h l m λz=>n (by rw[e,z])
  .rw[MC e,MC λz=>e z.symm];exact h.tot a b e
def xE (h:Sto lt):Sto (Y3 lt):=#v[nF h,rL h,mC h]
theorem wm {p q:α->Bool}(h:∀x,p x=true->q x=true):∀l:List α,(l.filter p).length<=(l.filter q).length
 | []=>Mz _
 | a::l=>by
  have c:=wm h l;rw[Ry,Ry];by_cases b:p a=true
  .rw[Mx b,Mx<|h a b,ME,ME];omega
  .rw[MC b];split
   .rw[ME];omega
   .exact c
theorem xN {p q:α->Bool}(h:∀x,p x=true->q x=true){x:α}(h1:p x=false)(h2:q x=true):∀{l:List α},x∈l->(l.filter p).length<(l.filter q).length
 | [],b=>by cases b
 | a::l,b=>by
  rw[Ry,Ry];rcases MJ.1 b with rfl | b
  .have:=wm h l;rw[MC (by rw[h1];decide),Mx h2,ME];omega
  .have d:=xN h h1 h2 b;by_cases c:p a=true
   .rw[Mx c,Mx<|h a c,ME,ME];omega
   .rw[MC c];split
    .rw[ME];omega
    .exact d
def rj (lt:α->α->Bool)(l:List α)(i:Nat):Int:=match l[i]? with
 | some a=>((l.filter λb=>lt b a).length:Nat)
 | none=>0
def AU (h:Sto lt){l:List α}(nd:l.Nodup){i j:Nat}{a b:α}(hij:i≠j)(ea:l[i]? = some a)(eb:l[j]? = some b):lt a b=decide (rj lt l i<rj lt l j):=by
 have g:a≠b:=λz=>by subst z;obtain⟨s,q⟩:=MK.1 ea;obtain⟨r,p⟩:=MK.1 eb;exact hij<|(List.getElem_inj nd).1<|q.trans p.symm
 have m:a∈l:=Np ea;have k:b∈l:=Np eb;unfold rj;rw[ea,eb];have e:∀{a b:α},a∈l->lt a b=true->(l.filter λc=>lt c a).length<(l.filter λc=>lt c b).length:=λ{a b} o d=>xN (λc n=>h.tr c a b n d) (h.irr a) d o
 dsimp only;rcases h.tot a b g with d | f
 .have:=e m d;rw[d,MW<|by omega]
 .have:=e k f;rw[h.as f,MX<|by omega]
def uJ (lt:α->α->Bool)(d:α):List α->List α
 | []=>[d]
 | e::r=>if lt e d=true then e::uJ lt d r else d::e::r
def qV (lt:α->α->Bool):List α->List α
 | []=>[]
 | d::r=>uJ lt d<|qV lt r
theorem jG (lt:α->α->Bool)(d:α):∀l:List α,(uJ lt d l).Perm (d::l)
 | []=>.refl _
 | e::r=>by
  rw[uJ];split
  .exact((jG lt d r).cons e).trans<|.swap d e r
  .exact .refl _
theorem gT (lt:α->α->Bool):∀l:List α,(qV lt l).Perm l
 | []=>.refl _
 | d::r=>(jG lt d _).trans<|(gT lt r).cons d
variable {x:α->My}
structure Itm (x:α->My) (lt:α->α->Bool):Prop where
 eq:∀a b,My.eqv (x a) (x b)=decide (a=b)
 lt:∀a b,a≠b->ltW (x a) (x b)=some (lt a b)
theorem kl (h:Itm x lt):∀l m:List α,ltM (l.map x) (m.map x)=some (Y3 lt l m)
 | [],[]=>rfl
 | [],b::m=>rfl
 | a::l,[]=>rfl
 | a::l,b::m=>by
  rw[MB,MB,ltM,h.eq,Y3];by_cases e:a=b
  .rw[Mx<|MW e,Mx e];exact kl h l m
  .rw[MC (by rw[MX e];decide),MC e];exact h.lt a b e
abbrev rwD (x:α->My)(l:List α):My:=.tuple<|l.map x
theorem nS (h:Itm x lt)(d:List α):∀l:List (List α),uR (d.map x) (l.map (·.map x))=(uJ (Y3 lt) d l).map (·.map x)
 | []=>rfl
 | e::r=>by
  rw[MB,uR,uJ,kl h];by_cases z:Y3 lt e d=true
  .rw[Mx (by rw[z]),Mx z,MB,nS h d r]
  .rw[MC (by simpa using z),MC z];rfl
theorem jD (h:Itm x lt):∀l:List (List α),fh (l.map (·.map x))=(qV (Y3 lt) l).map (·.map x)
 | []=>rfl
 | d::r=>by rw[MB,fh,jD h r,nS h];rfl
def uG (h:Itm x lt)(ho:Sto lt){as:List (List α)}(nd:as.Nodup)(h64:as.length<64)(hg:∀l∈as,iE<|l.map x):gZ [.list<|as.map<|rwD x]=some (.list<|(qV (Y3 lt) as).map<|rwD x):=by
 have e:as.map (rwD x)=(as.map (·.map x)).map My.tuple:=by rw[Nn];rfl
 rw[e,AV (κ:=rj (Y3 lt) as) #v[by rw[Mv];exact h64,λd k=>by obtain⟨l,hl,rfl⟩:=Nb.1 k;exact hg l hl,λi j p o c g f=>?_],jD h,Nn]
 .rfl
 .rw[MQ]at g f;obtain⟨a,n,rfl⟩:=MP.1 g;obtain⟨b,m,rfl⟩:=MP.1 f;rw[kl h,AU (xE ho) nd c n m]
def iZ {β:Type}(l:List (List α × β))(a:List α)(v:β):List (List α × β):=if a∈l.map (·.1) then l.map (λp=>if p.1=a then(p.1,v) else p) else l++[(a,v)]
def dq {β:Type}(l:List (List α × β))(a:List α):Option β:=(l.find? λp=>decide (p.1=a)).map (·.2)
structure Kys (x:α->My):Prop where
 is:∀l:List α,(R0 0<|rwD x l).isSome=true
 inj:∀l m:List α,R0 0 (rwD x l)=R0 0 (rwD x m)↔l=m
abbrev kvD {β:Type}(x:α->My)(y:β->My)(p:List α × β):My×My:=(rwD x p.1,y p.2)
theorem kY {β:Type}{y:β->My}(h:Kys x)(a:List α):∀l:List (List α × β),V6 0 (l.map<|kvD x y) (rwD x a)=(dq l a).map y
 | []=>rfl
 | p::l=>by
  have b:=kY (y:=y) h a l;unfold V6 dq at b ⊢;rw[MB];by_cases z:p.1=a
  .rw[Nl (p:=λp:My×My=>decide (R0 0 p.1=R0 0 (rwD x a)))<|MW<|(h.inj _ _).2 z,Nl (p:=λp:List α × β=>decide (p.1=a))<|MW z];rfl
  .rw[Nm (p:=λp:My×My=>decide (R0 0 p.1=R0 0 (rwD x a)))<|λq=>z<|(h.inj _ _).1<|MS q,Nm (p:=λp:List α × β=>decide (p.1=a))<|λq=>z<|MS q];exact b
theorem dC {β:Type}{a:List α}:∀{l:List (List α × β)},(dq l a).isSome=true↔a∈l.map (·.1)
 | []=>by simp[dq]
 | p::l=>by
  have b:=dC (a:=a) (l:=l);unfold dq at b ⊢;by_cases z:p.1=a
  .rw[Nl (p:=λp:List α × β=>decide (p.1=a))<|MW z];simp[z]
  .rw[Nm (p:=λp:List α × β=>decide (p.1=a))<|λq=>z<|MS q,b,MB,MJ];exact#v[.inr,λq=>q.resolve_left λe=>z e.symm]
def AX {β:Type}{y:β->My}(h:Kys x)(a:List α)(v:β)(l:List (List α × β)):aR 0 (l.map<|kvD x y) (rwD x a) (y v)=(iZ l a v).map (kvD x y):=by
 unfold aR iZ;rw[kY h];by_cases z:a∈l.map (·.1)
 .have:=dC.2 z;rw[Mx (by rw[Pw];exact this),Mx z,Nn,Nn];refine Ov λp _=>?_
  by_cases q:p.1=a
  .simp only[Function.comp];rw[Mx<|(h.inj _ _).2 q,Mx q]
  .simp only[Function.comp];rw[MC λw=>q<|(h.inj _ _).1 w,MC q]
 .have:¬(dq l a).isSome=true:=λw=>z<|dC.1 w
  rw[MC (by rw[Pw];exact this),MC z,Oc];rfl
def sR {β:Type}{a:List α}{v:β}{l:List (List α × β)}(nd:(l.map (·.1)).Nodup):((iZ l a v).map (·.1)).Nodup/\(iZ l a v).length<=l.length+1:=by
 unfold iZ;split
 .rename_i z;refine#v[?_,by rw[Mv];omega];have e:(l.map λp=>if p.1=a then(p.1,v) else p).map (·.1)=l.map (·.1):=by
   rw[Nn];refine Ov λp _=>?_
   simp only[Function.comp];split <;> rfl
  rw[e];exact nd
 .rename_i z;refine#v[?_,by rw[Ni];exact Mz _];rw[Oc,List.nodup_append];exact#v[nd,by simp,λb f c d e=>z (by simp at d;rw[<-d,<-e];exact f)]
def vV {β:Type}{P:List α × β->Prop}{a:List α}{v:β}{l:List (List α × β)}(h:∀p∈l,P p)(hv:P (a,v)):∀p∈iZ l a v,P p:=λp b=>by
 unfold iZ at b;split at b
 .obtain⟨q,c,rfl⟩:=Nb.1 b;split
  .rename_i e;rw[e];exact hv
  .exact h q c
 .rcases NM.1 b with b | b
  .exact h p b
  .rw[Nc.1 b];exact hv
theorem js {β:Type}{a:List α}{v:β}:∀{l:List (List α × β)},dq l a=some v->(a,v)∈l
 | [],h=>by cases h
 | p::l,h=>by
  unfold dq at h;by_cases z:p.1=a
  .rw[Nl (p:=λp:List α × β=>decide (p.1=a))<|MW z]at h;cases h;rw[<-z];exact MD
  .rw[Nm (p:=λp:List α × β=>decide (p.1=a))<|λq=>z<|MS q]at h;exact Mw _<|js h
theorem rn {β:Type}{a:List α}{v:β}:∀{l:List (List α × β)},(l.map (·.1)).Nodup->(a,v)∈l->dq l a=some v
 | [],_,h=>by cases h
 | p::l,nd,h=>by
  rw[MB,OQ]at nd;unfold dq;rcases MJ.1 h with rfl | h
  .rw[Nl (p:=λp:List α × β=>decide (p.1=a))<|MW rfl];rfl
  .rw[Nm (p:=λp:List α × β=>decide (p.1=a))<|λq=>nd.1 (by rw[MS q];exact Nb.2 #v[_,h,rfl])];exact rn nd.2 h
def tZ {β:Type}{l:List (List α × β)}(nd:(l.map (·.1)).Nodup){as:List (List α)}(hp:as.Perm (l.map (·.1))):∃rs:List (List α × β),rs.Perm l/\rs.map (·.1)=as/\∀p∈rs,dq l p.1=some p.2:=by
 have c:∀a∈as,∃v,dq l a=some v:=λa t=>NX.1<|dC.2<|hp.mem_iff.1 t
 have i:∀as:List (List α),(∀a∈as,∃v,dq l a=some v)->∃rs:List (List α × β),rs.map (·.1)=as/\∀p∈rs,dq l p.1=some p.2:=by
  intro as;induction as with
  | nil=>intro _;exact#v[[],rfl,λp hp=>by cases hp]
  | cons a as r =>
   intro h;obtain⟨rs,f,d⟩:=r λb s=>h b<|Mw _ s
   obtain⟨v,w⟩:=h a MD;refine#v[(a,v)::rs,by rw[MB,f],λp hp=>?_];rcases MJ.1 hp with rfl | hp
   .exact w
   .exact d p hp
 obtain⟨rs,f,d⟩:=i as c;refine#v[rs,?_,f,d];have g:(rs.map (·.1)).Nodup:=by rw[f];exact hp.nodup_iff.2 nd
 have n:rs.Nodup:=(List.pairwise_map.1 g).imp λh e=>h<|NU _ e
 have o:l.Nodup:=(List.pairwise_map.1 nd).imp λh e=>h<|NU _ e
 refine(List.perm_ext_iff_of_nodup n o).2 λp=>#v[λh=>js<|d p h,λh=>?_]
 have:p.1∈rs.map (·.1):=by rw[f];exact hp.mem_iff.2<|Nb.2 #v[p,h,rfl]
 obtain⟨q,j,m⟩:=Nb.1 this;have k:=d q j;have u:=rn nd (show(p.1,p.2)∈l from h);rw[m,u]at k;have:q=p:=Prod.ext m (MH k).symm;rw[<-this];exact j
end
def uN (a b:Int×Int):Bool:=if a.1=b.1 then decide (a.2<b.2) else decide (a.1<b.1)
def HA :Sto uN:=by
 refine#v[λa=>?_,λa b c f d=>?_,λa b h=>?_]
 .unfold uN;rw[Mx rfl];exact MX (by omega)
 .unfold uN at *;split at f <;> split at d <;> split <;> simp only[OU] at * <;> omega
 .unfold uN;by_cases e:a.1=b.1
  .rw[Mx e,Mx e.symm];have:a.2≠b.2:=λz=>h<|Prod.ext e z
   simp only[OU];omega
  .rw[MC e,MC λz=>e z.symm];simp only[OU];omega
def Gq {a b:Int}:(My.int a).eqv (.int b)=decide (a=b):=by simp[My.eqv];rfl
def Hx :Itm cmD uN:=by
 refine#v[λa b=>?_,λa b h=>?_]
 .show(My.tuple _).eqv _=_;simp only[My.eqv,My.eqvAll,Bool.and_true];rw[QC];simp[Prod.ext_iff]
 .show ltM [.int a.1,.int a.2] [.int b.1,.int b.2]=_;unfold uN;rw[ltM,Gq,ltM,Gq];by_cases e:a.1=b.1
  .have c:a.2≠b.2:=λz=>h<|Prod.ext e z
   rw[Mx<|MW e,Mx e,MC (by rw[MX c];decide)];rfl
  .rw[MC (by rw[MX e];decide),MC e];rfl
end
section
theorem dD:∀l:List (Int×Int),bF (l.map cmD)=some (l.map λc=>.inr [.inl c.1,.inl c.2])
 | []=>rfl
 | c::l=>by rw[MB,bF,dD l];rfl
def EF :Kys cmD:=by
 have c:∀l:List (Int×Int),R0 0 (rwD cmD l)=bF (l.map cmD):=λl=>rfl
 refine#v[λl=>?_,λl m=>?_]
 .rw[c,dD];rfl
 .rw[c,c,dD,dD];refine#v[λh=>?_,λh=>by rw[h]];refine(List.map_inj_right λa b e=>?_).1<|MH h;injection e with e
  injection e with f d
  injection d with d _
  injection f with f
  injection d with d
  exact Prod.ext f d
variable [Fam]
def Dc (l:List (Int×Int)):iE (l.map cmD):=by
 refine#v[?_,?_,λx a=>?_]
 .induction l with
  | nil=>rfl
  | cons c l b=>rw[MB];simp only[My.canLayAll0,My.canLay0,b,Bool.and_self]
 .refine MG ((V0 (k:=2)).2 λd e=>?_) (by decide);obtain⟨c,_,rfl⟩:=Nb.1 e;simp[My.depth,My.depthAll]
 .cases l with
  | nil=>cases a
  | cons c l=>exact#v[_,(MH a).symm]
section
variable {E:DE}{F:FdS}{i c:Nat}
def wc {Q:Out->FdS->Prop}(h:i<E.length)(q:Q (.nx<|E.set i<|some<|.dic true c []) F):wp (fA i c E F) Q:=by unfold fA;rw[Mx h];exact d6.2 q
def DY {Q:Out->FdS->Prop}{v k:DE->M My}{ps:List (My×My)}(he:U2 E i=some (true,c,ps))(q:wp (v E F) λx F1=>wp (k E F1) λy F2=>(R0 c y).isSome=true/\ps.length<=1000/\Q (.nx<|E.set i<|some<|.dic true c<|aR c ps y x) F2):wp (qB i c v k E F) Q:=by
 unfold qB;rw[d5];refine l6 q λx F1 h=>?_
 rw[d5];refine l6 h λy F2 h=>?_
 rw[he,MU];dsimp only;rw[Mx #v[rfl,rfl,h.1,MT h.2.1 (by rw[Nr];decide)]];exact d6.2 h.2.2
variable {Q:My->FdS->Prop}
def ES {w:Bool}{k:DE->M My}{ps:List (My×My)}(he:U2 E i=some (w,c,ps))(q:wp (k E F) λy F1=>(R0 c y).isSome=true/\oB (V6 c ps y) λz=>Q z F1):wp (mT i c k E F) Q:=by
 unfold mT;rw[d5];refine l6 q λy F1 h=>?_
 rw[he,MU];dsimp only;rw[Mx #v[rfl,h.1]];obtain⟨z,e,q⟩:=h.2;rw[e,MU];exact d6.2 q
def DQ {w:Bool}{ps:List (My×My)}(he:U2 E i=some (w,c,ps))(q:Q (.list (ps.map (·.1))) F):wp (mI i c E F) Q:=by unfold mI;rw[he,MU,Mx rfl];exact d6.2 q
end
theorem vv {α:Type}{x:α->My}{P:α->Prop}:∀{ds:List My},(∀d∈ds,∃a,d=x a/\P a)->∃l:List α,ds=l.map x/\∀a∈l,P a
 | [],_=>#v[[],rfl,λ_ z=>by cases z]
 | d::ds,h=>by
  obtain⟨l,e,hl⟩:=vv λd f=>h d<|Mw _ f
  obtain⟨a,i,g⟩:=h d MD;refine#v[a::l,by rw[MB,<-e,<-i],λb c=>?_];rcases MJ.1 c with rfl | c
  .exact g
  .exact hl b c
abbrev Kw (α:Type):=List α×Int
abbrev kwD {α:Type}(x:α->My)(p:Kw α):My:=.tuple [rwD x p.1,.int p.2]
abbrev kiD {α:Type}(x:α->My)(p:Kw α):My×My:=kvD x My.int p
section
variable {F:FdS}
def ER {α:Type}[DecidableEq α]{x:α->My}{lt:α->α->Bool}(hi:Itm x lt)(ho:Sto lt)(hk:Kys x)(hg:∀l:List α,iE<|l.map x){l:List (Kw α)}(nd:(l.map (·.1)).Nodup)(h64:l.length<64){E:DE}{i:Nat}{w:Bool}(he:U2 E i=some (w,0,l.map<|kiD x)){Q:My->FdS->Prop}
  (q:∀rs:List (Kw α),rs.Perm l->Q (.list<|rs.map<|kwD x) F):wp (sLC (N9<|sN gZ<|d7 (mI i 0) l0) 1 [i] (bN 0) K9 (Q3<|d7 (sV 0)<|d7 (mT 1 0<|sV 0) l0) E F) Q:=by
 refine V8.2<|C5.2<|M4.2<|d4.2<|DQ he<|h7.2 ?_;have e:(l.map<|kiD x).map (·.1)=(l.map (·.1)).map (rwD x):=by rw[Nn,Nn];rfl
 rw[e];refine c7 (uG hi ho nd (by rw[Mv];exact h64) λl _=>hg l)<|c7 Z7 ?_;obtain⟨rs,a,c,b⟩:=tZ nd (gT (Y3 lt) (l.map (·.1)));rw[<-c,Nn];have hl:rs.length<64:=by rw[a.length_eq];exact h64
 refine#v[sz (by rw[Mv];omega),?_];have d:iu 1 [i] E=[none,some<|.dic w 0<|l.map<|kiD x]:=by unfold iu;rw[MB,NG,K6 he];rfl
 rw[d];refine Ho (x:=λp:Kw α=>rwD x p.1) (f:=kwD x) rs _ (λp a F Q q=>?_)<|q rs a;refine C2.2 (d4.2<|pO.2<|oO rfl<|d4.2<|ES rfl<|pO.2<|oO rfl #v[hk.is p.1,c7 (by rw[kY hk,b p a];rfl)<|h7.2 #v[u8 rfl,q]])
def bS {n:Nat}(h:n<=100000):eE [.int (n:Int)]=some ((List.range n).map λi=>.int (i:Int)):=by have:=En (n:=n) h;rw[Az]at this;exact this
end
end
section
def FI (K:Qf)(x:Str)(st:SZ):Prop:=∃(f:SQ) (g:SN) (e:Option SQ) (kV c d:SN) (h:Option SQ) (a ct:SN) (b:Array (Option SN)),
 PySem.W.nsIn K To x=some (some<|.ref f)/\K.lookup f=some #v[g,e,.func<|PySem.W.fnOf x x (defArgs st) (defBody st) (defScope st) .none kV c d h a ct,b]/\PySem.W.codeIn K a x=true/\PySem.W.keepIn K (.ref f)=true
variable {P:SS}{w:SU}{K:Qf}{mg:Str->Option SN}{base h:Tb}{x q:Str}{st:SZ}{f:SQ}{fd:SY}{ps:List Str}{k:Nat}{sp:Sp}
def FI.of {oc:SN}{od:Option SQ}{kV doc pm:SN}{an:Option SQ}{dr ct:SN}{osl:Array (Option SN)}(a:PySem.W.nsIn K To x=some (some<|.ref f))(b:K.lookup f=some #v[oc,od,.func<|PySem.W.fnOf x x (defArgs st) (defBody st) (defScope st) .none kV doc pm an dr ct,osl])
  (c:PySem.W.codeIn K dr x=true) (d:PySem.W.keepIn K (.ref f)=true):FI K x st:=#v[f,oc,od,kV,doc,pm,an,dr,ct,osl,a,b,c,d]
def FI.mk (X:K.In h)(G:h.Ns To mg)(ps:List Str)(F:FI K x st)
  (hb:∀(kV doc pm:SN) (an:Option SQ) (dr ct:SN) (us:List SN),us.length=ps.length->bindArgs (PySem.W.fnOf x x (defArgs st) (defBody st) (defScope st) .none kV doc pm an dr ct) #v[us,[]]=pure (ps.zip us):=by intro _ _ _ _ _ _ us hl;first | (cases len_0 hl;rfl) | (obtain⟨z0,rfl⟩:=len_1 hl;rfl) | (obtain⟨z0,z1,rfl⟩:=Bk hl;rfl) | (obtain⟨z0,z1,z2,rfl⟩:=GG hl;rfl) | (obtain⟨z0,z1,z2,z3,rfl⟩:=len_4 hl;rfl)) :
  ∃f fd,Fun K x x st f fd/\mg x=some (.ref f)/\bD K fd ps []/\(∃oc od osl,K.lookup f=some #v[oc,od,.func fd,osl])/\PySem.W.nsIn K To x=some (some<|.ref f):=by obtain⟨f,oc,od,kV,doc,pm,an,dr,ct,osl,a,b,c,d⟩:=F;have e:=fun_mk b c d;exact#v[f,_,e,Oa X G a,e.binds hb,#v[oc,od,osl,b],a]
def cal (P:SS)(w:SU)(base:Tb)(F:FnOk P w K mg base CX0 k f fd ps sp)(m:mg x=some (.ref f))(Fn:Fun K x q st f fd)(b:bD K fd ps []):i5 P w K mg base x k ps sp:=#v[f,fd,F,m,Fn.kp,b]
end
variable {es:List Ta}{pos:Pos}
section
variable [Feeds]{X:Cx}{K:Qf}{e:Ta}{p q:Pos}
def l4 {x:Str}{k m n:Nat}{ps:List Str}{f:List DV->M My}{tl:TA}{ms:DE->M (List DV)}(C:i5 X.prog X.w X.K X.mg X.base x k ps (spD K n f))(hr:Room m X.A)(ha:Evs K X (e::es) tl ms)(hk:k<=m:=by decide)(hn:∀E F args F',ms E F=some (args,F')->args.length=n:=by repeat (first | exact T5 | apply cX | apply nM))(hg:Gl X x:=by rfl)
  (hdb:nDb x:=by decide) (he:Td (e::es) X.env=(false,eval e X.env)::Td es X.env:=by rfl) (hpl:(Ti pos<|Td es X.env).any (·.1)=false:=by rfl) :
  Ev K X (.Call (.Name x p) (e::es) [] pos) (aE (spD K n f) [] E0 tl) (i4 f ms):=R1 C (hr.mono hk) ha hn hg hdb he hpl
def k9 (i:Nat){x:Str}{c:Int}{j}(hK:X.K=K:=by rfl)(hN:X.N[i]? = some x:=by rfl)(hv:Vis X.env.scope x:=by first | exact Or.inl rfl | exact Or.inr (Or.inl rfl) | exact Or.inr<|Or.inr rfl)(hd:nDb x:=by decide)
  (hcd:nCd x:=by decide):Ev K X (.Subscript (.Name x p) (.Constant (.int c) j q) pos) (tOp (rD2 K ixD) (Q2 i)<|tC<|.int c) (s2 ixD (sW i)<|sC<|.int c):=L8 (L4 hK) (k8 i hN hv hd hcd) (Ev.bw f9) (by intro _ _;rfl)
abbrev nth (l:List SZ)(n:Nat):SZ:=l.getD n<|.Pass #v[0,0,0,0]
end
variable {dz:List (Int×V)}{vs:List (Key×SN)}{prog:SS}
section
def ItD (a:SQ)(dz:List (Int×V))(vs:List (Key×SN))(ep:Nat):It :=
 #v[λi H=>H a=some (.ext<|FrI a dz vs ep)/\i<dz.length,λi H v c=>∃t b,v = .ref t/\H t=none/\c=upd H t (.tup [.int b.1,b.2])/\dz[i]? = some b,λi H=>H a=some (.ext<|FrI a dz vs ep)/\dz.length=i]
def KV.len :∀{dz:List (Int×V)} {vs:List (Key×SN)},KV (dz.map dF) vs->dz.length=vs.length:=λh=>by have:=PR h;rw[Mv]at this;exact this
def GC {P:SS}{w:SU}{k:Key}{u:SN}(h:(v4 P w).is k u=true):s0 (kV k) u:=by
 rcases A3 (k:=k) (v:=u) h with ⟨i,t,rfl,rfl⟩ | ⟨x,t,rfl,rfl⟩
 .exact#v[t,rfl]
 .exact#v[t,rfl]
def ie :entryFor table "dict_itemiterator.__iter__" = some Builtin.«dict_keyiterator.__iter__»:=by kernel_rfl
def gU {w:SU}{A:SW}{E:SN->SR->Prop}{s:SR}{it d:SQ}{i n ep:Nat}{ok ov:SN}{Q:SN->SR->Prop}(hit:IsItemIter s.heap it d i n ep ok ov)(h:Q (.ref it) s):Tn (model prog w) A (pyIter<|.ref it) Q E s:=by have ht:s.TypeIs (.ref it) "dict_itemiterator":=#v[_,hit,rfl];refine wpAny_pyIter_slot ht QT<|Nx QT ht ie ?_<|PySem.F.args_dict_itemiterator_iter_1 _;show Tn _ _ (ret<|.ref it) _ _ s;exact Mt #v[_,rfl,"dict_itemiterator",_,ht,PySem.F.slot_dict_itemiterator_next.lookup,h]
def nW {P:SS}{w:SU}{K:Qf}{k:Nat}(a it:SQ)(dz:List (Int×V))(vs:List (Key×SN))(ep:Nat):Turn P w K (.Tuple es k pos) (ItD a dz vs ep) [it] it (λi h=>a≠it/\∃ok ov,IsItemIter h it a i vs.length ep ok ov) where
 mem:=by simp
 obj:=λi h st c hb=>by obtain⟨_,ok,ov,t⟩:=st;rw[Nc.1 hb];exact#v[_,t,λv z=>by cases(show Data.fields _=Data.cell v from z)]
 keep:=λi h h' st kk=>by obtain⟨n,ok,ov,t⟩:=st;exact#v[n,ok,ov,kk it (by simp) _ t]
 item:=by
  intro X hP hw hK R i j s U H E I hf st hg;subst hP hw hK;obtain⟨B,ok,ov,t⟩:=st;obtain⟨D,J⟩:=hg;obtain⟨z,y,r,F⟩:=eP I D;have dd:=F X.prog X.w;have hl:=KV.len r;have O:it<s.heap.objs.size:=MA t;obtain⟨g,L⟩:∃g,dz[i]? = some g:=#v[_,MN J];obtain⟨q,hq,Y,W⟩:∃q,vs[i]? = some q/\(Sum.inl g.1:Key)=q.1/\s0 g.2 q.2:=by
   have d:∀{l:List (Key×V)} {m:List (Key×SN)} {i:Nat} {p:Key×V},KV l m->l[i]? = some p->∃q,m[i]? = some q/\p.1=q.1/\s0 p.2 q.2:=λ{l m}=>by
    intro i p hr;induction hr generalizing i with
    | nil=>intro e;cases e
    | cons T S ih =>
     intro e;cases i with
     | zero=>cases e;exact#v[_,rfl,T]
     | succ i=>exact ih (by simpa using e)
   exact d (p:=dF g) r (by rw[MQ,L];rfl)
  refine wpAny_pyNext_items_item (k:=q.1) (v:=q.2) t dd hq λd h' M ho ht hz hk=>?_
  refine#v[_,rfl,wpAny_letOwnedTupleGo_items ho λS ad x=>?_];have x:Tb.SameBut it h' S:=x;have ac:H s.heap.objs.size=none:=I.hok.fresh<|Mz _;have Z:s0 (kV (Sum.inl g.1:Key)) d:=by rw[Y];exact GC M
  have rk:s0 (.int g.1) d:=Z;have I1:Inv X j U (upd H s.heap.objs.size<|.tup [.int g.1,g.2]) { s with heap:=s.heap.push { cls:=.type "tuple",data:=.seq #[d,q.2] },toks:=s.toks }:=by refine I.laid (t':=s.toks) (λb u e=>Mu _ e) (Mz _) ?_;exact#v[MG (show 2<=10000 by decide) (by rw[Nr];decide),[d,q.2],.cons rk<|.cons W .nil,#v[_,MM _ rfl,rfl,_,rfl]]
  have N:∀c∈[it],bx X j (upd H s.heap.objs.size<|.tup [.int g.1,g.2]) c:=λc C=>by
   obtain⟨f0,f⟩:=hf c C;have B:c≠s.heap.objs.size:=by rw[Nc.1 C];exact MR O
   exact#v[by rw[i8 B];exact f0,f]
  have al:S.get? s.heap.objs.size=some { cls:=.type "tuple",data:=.seq #[d,q.2] }:=x.extBut _ _ (NT O) ht;have I2:Inv X j U (upd H s.heap.objs.size<|.tup [.int g.1,g.2]) { s with heap:=S,toks:=s.toks }:=by
   refine N6 (s:={ s with heap:=s.heap.push { cls:=.type "tuple",data:=.seq #[d,q.2] },toks:=s.toks }) I1 N λc o af G=>?_
   have c1:c≠it:=λz=>af (by simp[z])
   by_cases Q:c=s.heap.objs.size
   .subst Q;have:(s.heap.push { cls:=.type "tuple",data:=.seq #[d,q.2] }).get? s.heap.objs.size=some o:=G;rw[MM _ rfl]at this;rw[al];exact this
   .have ab:c<s.heap.objs.size:=by have T:c<(s.heap.push { cls:=.type "tuple",data:=.seq #[d,q.2] }).objs.size:=MA G;rw[NB]at T;exact Se (Sq T) Q
    have am:s.heap.get? c=some o:=by have G:(s.heap.push { cls:=.type "tuple",data:=.seq #[d,q.2] }).get? c=some o:=G;exact iK ab G
    exact x.extBut c o c1<|hk c o c1 am
  exact#v[.ref s.heap.objs.size,upd H s.heap.objs.size<|.tup [.int g.1,g.2],I2,rfl,#v[_,g,rfl,ac,rfl,L],#v[B,_,_,ad],λc C=>(N c C).1]
 done:=by intro X hP hw hK R i j s U H E I hf st hg;subst hP hw hK;obtain⟨B,ok,ov,t⟩:=st;obtain⟨D,J⟩:=hg;obtain⟨z,y,r,F⟩:=eP I D;have dd:=F X.prog X.w;have hl:=KV.len r;refine wpAny_pyNext_items_end (A:=X.A) (I.ok.hd R) t dd (by rw[Og];omega) λh' eb=>#v[rfl,N6 (t':=s.toks) I hf λc o R G=>eb c o (λz=>R<|by simp[z]) G]
 self:=λ_ _ _ _ _ st h=>by obtain⟨_,ok,ov,t⟩:=st;exact gU t h
end
variable {π:List (SQ×Te)}
section
open AutoSeq1 (wpAny_loadPart') in
def qm {w:SU}{A:SW}{E:SN->SR->Prop}{s:SR}{d:SQ}{o:Te}{Q:SN->SR->Prop}(eo:s.heap.get? d=some o)(ex:o.ExactDict)(hd:(d == sysModules)=false)
  (h:Q (.ref s.heap.objs.size) { s with heap:=s.heap.push { cls:=.type "dict_items",data:=.fields #[.ref d] } }):Tn (model prog w) A (call (.builtin "dict.items") [.ref d]) Q E s:=by have ht:s.TypeIs (.ref d) "dict":=#v[o,eo,ex.1];refine Nx PySem.F.slot_dict_items ht PySem.F.entry_dict_items ?_<|PySem.F.args_dict_items_1 _;unfold Builtin.«dict.items» Builtin.Dict.noArgs;have a:o.cls = .type "dict":=ex.1;wp_walk using wpAny_loadPart' eo,RF ht;exact#v[_,rfl,h]
section
variable {X:Cx}{tk:Nat}{tp apos cpos:Pos}{o:Ta}{to:TE}
def vw (to:TE):TI:=λd H R=>to d H λx c=>∃a dz vs b,x = .ref a/\c a=some (.ext<|FrI a dz vs b)/\R (ItD a dz vs b) c
def mM {X:Cx}{σ:L2.St}{H:Hp}{s:SR}{a:SQ}{ep:Nat}(I:Inv X π σ H s)(e:H a=some (.ext<|FrI a dz vs ep)) :
  s.TypeIs (.ref a) "dict" /\ (∀b,SN.ref a = .ref b->∃ob,s.heap.get? b=some ob/\ob.dict=none)/\(a == sysModules)=false:=by obtain⟨z,y,r,f⟩:=eP I e;obtain⟨o,es,d,c,_⟩:=f X.prog X.w;refine#v[#v[o,d,c.1],λb q=>?_,y];cases q;exact#v[o,d,c.2.1]
def wH (ho:PE X o to)(hbase:Tq o "items" X.env (eval o X.env)=eval o X.env:=by rfl)(hline:(apos.endLine == cpos.line)=true:=by rfl) :
  PI X (.Tuple es tk tp) (.Call (.Attribute o "items" apos) [] [] cpos) (vw to):=by
 intro π s m H R I h;refine wpAny_Call_method0_late hbase hline (thn (ho π s m H _ I h) λv s1 #v[x,M,l,E,a,dz,vs,ep,K,B,q]=>?_);subst K;obtain rfl:v=SN.ref a:=E;obtain⟨D,C,G⟩:=mM l B;refine#v["dict","dict.items",PySem.F.plainAttrs_dict,PySem.F.slot_dict_items,PySem.F.type_dict_items,D,C,Rg rfl<|PySem.evalArgs_none ?_];obtain⟨z,y,r,p⟩:=eP l B;obtain⟨F,w,A,k,c⟩:=p X.prog X.w;have t:a<s1.heap.objs.size:=MA A;refine qm A k G ?_;obtain⟨f,g⟩:∃f,f=s1.heap.push { cls:=.type "dict_items",data:=.fields #[.ref a] }:=#v[_,rfl];rw[<-g];have i:f.objs.size=s1.heap.objs.size+1:=by rw[g,NB]
 have j:∀b u,s1.heap.get? b=some u->f.get? b=some u:=λb u e=>by rw[g];exact Mu _ e
 have n:f.get? s1.heap.objs.size=some { cls:=.type "dict_items",data:=.fields #[.ref a] }:=by rw[g];exact MM _ rfl
 refine wpAny_pyIter_items (s:={ s1 with heap:=f }) (v:=s1.heap.objs.size) (d:=a) (ep:=ep) (knd:=v4 X.prog X.w) #v[_,n,rfl,rfl] #v[F,w,j _ _ A,k,c] ?_;show PIE X π m _ R (.ref f.objs.size) _;have L:Inv X π m M { s1 with heap:=f.push { cls:=.type "dict_itemiterator",data:=.fields #[.none,.bool false,.ref a,.int 0 0,.int vs.length 0,.int ep 0,.none,.none] } } :=
  l.kept (t':=s1.toks) λb u e=>Mu _<|j b u e
 refine#v[f.objs.size,[f.objs.size],_,_,_,rfl,L,nW a f.objs.size dz vs ep,#v[by rw[i];exact MR<|Px t,.none,.none,MM _ rfl],λb J=>?_,q];rw[Nc.1 J];exact l.fpOk (by show s1.heap.objs.size<=_;rw[i];exact Rk _) (l.hok.fresh (by rw[i];exact Rk _))
def wJ {i:Int}:cw (dz.map dF) (.inl i:Key)=cw dz i:=by
 unfold cw;induction dz with
 | nil=>rfl
 | cons p dz a =>
  rw[MB];by_cases e:p.1=i
  .rw[Nl (by simp[dF,e]),Nl<|by simp[e]];rfl
  .rw[Nm (by simp[dF,e]),Nm<|by simp[e]];exact a
def wD {i:Int}{v:V}:au (dz.map dF) (.inl i:Key) v=(au dz i v).map dF:=by
 have b:((dz.map dF).any λa=>decide (a.1=(.inl i:Key)))=dz.any λa=>decide (a.1=i):=by rw[List.any_map];congr 1;funext p;simp[dF,Function.comp]
 unfold au;rw[b];split
 .rw[Nn,Nn];refine Ov λp _=>?_
  show(if (Sum.inl p.1:Key) = .inl i then _ else _)=dF (if p.1=i then _ else _);by_cases e:p.1=i
  .rw[Mx (by rw[e]),Mx e];rfl
  .rw[MC<|λz=>e<|Sum.inl.inj z,MC e]
 .rw[Oc];rfl
def BQ :TE:=λ_ H Q=>∀p vs a,H p=none->iX p (FrI p [] vs a)->Q (.ref p) (upd H p<|.ext<|FrI p [] vs a)
def yV :PE X (.Dict [] [] pos) BQ:=λπ s d H Q I h =>
 thn (vt π s d H (λv c=>∃p,v = .ref p/\H p=none/\c=upd H p (.dK [])) I λp a=>#v[p,rfl,a,rfl]) λu s1 #v[v,c,j,r,p,e,a,g]=>by subst e g;obtain⟨vs,f,b,i⟩:=FG (dz:=[]) j j3;rw[lp]at b;exact#v[.ref p,_,b,r,h p vs f a i]
def BX (td ty tv:TE):TS:=λD d H=>tv d H λv h=>td d h λx g=>ty d g λy e=>∃a dz vs f i,x = .ref a/\e a=some (.ext<|FrI a dz vs f)/\y = .int i/\dz.length<Tc/\∀b c,iX a (FrI a (au dz i v) b c)->D.nx d (upd e a<|.ext<|FrI a (au dz i v) b c)
def zR {i value:Ta}{ty tv:TE}{pos':Pos}(hu:X.A.units+1<Tv)(ho:PE X o to)(hi:PE X i ty)(hv:PE X value tv)(hs:Tp value (some<|.Subscript o i pos') pos.line X.env=pure false) :
  PS X (.Assign [.Subscript o i pos'] value pos) (BX to ty tv):=by
 intro π s b H D I h;refine wpAny_Assign_Subscript (thn (hv π s b H _ I h) λr s1 #v[v,G,E,k,p]=>thn (ho π s1 b G _ E p) λu s2 #v[x,F,C,j,m]=>thn (hi π s2 b F _ C m) λL K #v[y,N,B,g,a,dz,vs,M,n,t,w,q,hl,l]=>?_) hs;subst t q;obtain rfl:u=SN.ref a:=j;have A:=Gw B w;refine tQ (y:=kV<|.inl n) hu A (AY.k j3 (by rw[Mv];exact hl)) g k λJ f=>?_
 rw[lp,wD]at f;obtain⟨c,d,e,z⟩:=FG f j3;rw[lp]at e;exact#v[b,_,e,l c d z]
def vS (td ty tx:TE):TE:=λb H Q=>td b H λx e=>∃a dz vs c,x = .ref a/\e a=some (.ext<|FrI a dz vs c)/\ty b e λy f=>tx b f λz d=>∃i,y = .int i/\d a=some (.ext<|FrI a dz vs c)/\Q ((cw dz i).getD z) d
def uW {e f:Ta}{ty tx:TE}(ho:PE X o to)(he:PE X e ty)(hf:PE X f tx)(m:M2 X o "get" apos e f cpos):PE X (.Call (.Attribute o "get" apos) [e,f] [] cpos) (vS to ty tx):=by
 intro π s b H Q I h;refine wpAny_Call_method m.base m.few m.line PySem.F.plainAttrs_dict PySem.F.slot_dict_get PySem.F.type_dict_get (thn (ho π s b H _ I h) λu s1 #v[x,S,l,w,a,dz,vs,L,K,N,D]=>?_);subst K;obtain rfl:u=SN.ref a:=w;obtain⟨q,p,F⟩:=mM l N;refine#v[q,p,?_];rw[m.trees];refine Rg rfl (Calls.evalArgs_plain (RX (thn (he π s1 b S _ l D) λV s2 #v[y,R,O,v,C] =>
  RX (thn (hf π s2 b R _ O C) λG r #v[z,P,j,t,n,J,i,B]=>Calls.spliced_nil ?_))))
 subst J;obtain⟨T,U,A,d⟩:=eP j i;obtain⟨E,g,M,c⟩:=d X.prog X.w;have dd:r.heap.DictOf (v4 X.prog X.w) a vs:=#v[E,g,L,M,c];refine call_meetsIn PySem.F.slot_dict_get dd.typeIs PySem.F.entry_dict_get (PySem.F.args_dict_get_3 _ _ _) (meets_dict_get_default (v4 X.prog X.w) a (vK (k:=.inl n) v) F G) #v[_,dd.mapOf,#v[_,P,j.tok _,?_,B]];rw[<-wJ];exact(A.val<|.inl n).getD t
end
end
section
def igD (ps:List (My×My))(n:Int):Option My:=(ps.find? λp=>decide (K1 p.1=some n)).map (·.2)
def ipD (ps:List (My×My))(n:Int)(e:My):List (My×My):=if (igD ps n).isSome then ps.map (λp=>if K1 p.1=some n then(p.1,e) else p) else ps++[(.int n,e)]
section
variable {K:Qf}{H:Hp}{n:Int}
theorem pF:∀{ps:List (My×My)} {xs:List (Int×V)},IVs K H ps xs->xs.length=ps.length
 | [],_,h=>by cases h;rfl
 | _::_,_,#v[i,v,r,e,h1,h3,h4]=>by rw[e,ME,ME,pF h4]
theorem xD:∀{ps:List (My×My)} {xs:List (Int×V)},IVs K H ps xs->(∃e v,igD ps n=some e/\cw xs n=some v/\c8 K H e v)\/(igD ps n=none/\cw xs n=none)
 | [],_,h=>by cases h;exact .inr #v[rfl,rfl]
 | p::ps,_,#v[i,v,r,e,h1,h3,h4]=>by
  subst e;unfold igD cw;by_cases a:i=n
  .subst a;refine .inl #v[p.2,v,?_,?_,h3]
   .rw[Nl (by rw[h1];exact MW rfl)];rfl
   .rw[Nl<|by simp];rfl
  .rw[Nm (by rw[h1];simp[K1,a]),Nm<|by simp[a]];exact xD h4
theorem xc:∀{ps:List (My×My)} {xs:List (Int×V)},IVs K H ps xs->(xs.any λkv=>decide (kv.1=n))=(igD ps n).isSome
 | [],_,h=>by cases h;rfl
 | p::ps,_,#v[i,v,r,e,h1,h3,h4]=>by
  subst e;have b:=xc h4;unfold igD at b ⊢;rw[Ro];by_cases a:i=n
  .rw[Nl (by rw[h1];simp[K1,a]),MW a];rfl
  .rw[Nm (by rw[h1];simp[K1,a]),MX a,Bool.false_or];exact b
theorem qk {e:My}{v:V}(he:c8 K H e v):∀{ps:List (My×My)} {xs:List (Int×V)},IVs K H ps xs->IVs K H (ps.map λp=>if K1 p.1=some n then(p.1,e) else p) (xs.map λkv=>if kv.1=n then(kv.1,v) else kv)
 | [],_,h=>by cases h;rfl
 | p::ps,_,#v[i,v',r,ex,h1,h3,h4]=>by
  subst ex;rw[MB,MB];by_cases a:i=n
  .rw[Mx (by rw[h1];simp[K1,a]),Mx a];exact#v[i,v,_,rfl,h1,he,qk he h4]
  .rw[MC (by rw[h1];simp[K1,a]),MC a];exact#v[i,v',_,rfl,h1,h3,qk he h4]
theorem qE {e:My}{v:V}(he:c8 K H e v):∀{ps:List (My×My)} {xs:List (Int×V)},IVs K H ps xs->IVs K H (ps++[(.int n,e)]) (xs++[(n,v)])
 | [],_,h=>by cases h;exact#v[n,v,[],rfl,rfl,he,rfl]
 | p::ps,_,#v[i,v',r,ex,h1,h3,h4]=>by subst ex;exact#v[i,v',_,rfl,h1,h3,qE he h4]
def Cq {e:My}{v:V}{ps:List (My×My)}{xs:List (Int×V)}(h:IVs K H ps xs)(he:c8 K H e v):IVs K H (ipD ps n e) (au xs n v):=by
 unfold ipD au;rw[xc h];split
 .exact qk he h
 .exact qE he h
theorem Cm:∀{ps:List (My×My)} {xs:List (Int×V)} {j:Nat} {p:My×My},IVs K H ps xs->ps[j]? = some p->∃i v,xs[j]? = some (i,v)/\p.1 = .int i/\c8 K H p.2 v
 | [],_,_,_,h,e=>by cases e
 | _::_,_,0,_,#v[i,v,r,ex,h1,h3,h4],e=>by subst ex;cases e;exact#v[i,v,rfl,h1,h3]
 | _::_,_,j+1,_,#v[i,v,r,ex,h1,h3,h4],e=>by subst ex;obtain⟨b,a,f,d,c⟩:=Cm (j:=j) h4 (by simpa using e);exact#v[b,a,by simpa using f,d,c]
end
section
variable [Feeds]{K:Qf}{X:Cx}{e o i f value:Ta}{te ty tx:TE}{p px pos' apos cpos tp:Pos}{tk:Nat}
def Ab (i:Nat){x:Str}(hN:X.N.Nodup)(hi:X.N[i]? = some x:=by rfl)(hx:Loc X.env.scope x:=by walk_at "v")(hs:Tp (.Dict [] [] p) (some<|.Name x pos') pos.line X.env=pure false:=by rfl)(hf:X.fn x=true\/X.env.scope.names.lookup x=some .local:=by walk_at "v") :
  Ss K X (.Assign [.Name x pos'] (.Dict [] [] p) pos) (bA BQ<|O8 i) (fA i 9) :=
 #v[O1 hN hi hx yV hs hf,λG B0 j E F h H D r k S e q=>by
  unfold fA at e;split at e
  .rename_i hl;cases e;obtain⟨B,s,d,I⟩:=S.ex;intro a vs c b g;have f:Kp (m8 K G) H (upd H a<|.ext<|FrI a [] vs c):=Kp.upd b;have r:wF K B H (upd H a<|.ext<|FrI a [] vs c) (.dic true 9 []) (.ref a):=#v[rfl,a,_,rfl,b,j3,g,.inr #v[rfl,[],vs,c,rfl,rfl]];exact q _ _ (S.putC s d I f (I.fd.same<|j5.upd b) r hl).1
  .cases e]
noncomputable def qy (i:Nat)(v k:DE->M My):DE->M Out:=λE F=>(v E F).bind λp=>(k E p.2).bind λq=>(U2 E i).bind λd=>(K1 q.1).bind λn=>if d.1=true/\d.2.1=9/\d.2.2.length<Tc then some (.nx<|E.set i<|some<|.dic true 9<|ipD d.2.2 n p.1,q.2) else none
def Aw (i:Nat){x:Str}{m mb:DE->M My}(hu:X.A.units+9<Tv)(hv:Ev K X value te m)(hk:Ev K X e ty mb)(hK:X.K=K)(hN:X.N[i]? = some x:=by rfl)(hvis:Vis X.env.scope x:=by first | exact Or.inl rfl | exact Or.inr (Or.inl rfl) | exact Or.inr<|Or.inr rfl)(hd:nDb x:=by decide)(hcd:nCd x:=by decide)
  (hs:Tp value (some<|.Subscript (.Name x px) e pos') pos.line X.env=pure false:=by rfl) :
  Ss K X (.Assign [.Subscript (.Name x px) e pos'] value pos) (BX (Q2 i) ty te) (qy i m mb):=by
 subst hK;refine#v[zR (by omega) (D5 hN hvis hd hcd) hk.pe hv.pe hs,λG B0 H0 E F h H D r F' S e q=>?_];obtain⟨⟨d,O⟩,Z,e⟩:=bS9 e;obtain⟨⟨kd,F2⟩,N,e⟩:=bS9 e;obtain⟨⟨w,c',ps⟩,Y,e⟩:=bS9 e;obtain⟨n,L,g⟩:=bS9 e;clear e;dsimp only at g N L;split at g;case isFalse=>cases g
 rename_i T;obtain⟨rfl,rfl,c⟩:=T;cases g;obtain rfl:=cq L;obtain⟨B,s,P,I⟩:=S.ex;have J:=K6 Y;refine hv.ok G B E F h H _ d O I Z λv H1 z V U=>?_
 have p:=I.step z V;obtain⟨u,t,a,φ,rfl,hB,R,Q,hn,l⟩:=p.loc i _ J;obtain⟨dz,vs,W,rfl,k⟩:=l.is9;refine#v[_,t,hk.ok G B E O h H1 _ _ _ p N λy H2 b C A=>?_];have I2:=p.step b C;have S2:=S.step (z.trans b) C;have f:=k.same<|b.hid I.fB;simp only[c8]at A;subst A;refine#v[a,dz,vs,W,n,rfl,b a _ Q R,rfl,by rw[pF f];exact c,λj o dn=>?_];exact q h _<|S2.writeD s P I2 J t dn<|.inr #v[rfl,_,j,o,rfl,Cq f<|U.same<|b.hid I.fB]
noncomputable def kh (i:Nat)(k z:DE->M My):DE->M My:=λE F=>(k E F).bind λq=>(z E q.2).bind λr=>(U2 E i).bind λd=>(K1 q.1).bind λn=>if d.2.1=9 then some ((igD d.2.2 n).getD r.1,r.2) else none
def uY (i:Nat){x:Str}{mb mz:DE->M My}(hk:Ev K X e ty mb)(hz:Ev K X f tx mz)(hK:X.K=K)(m2:M2 X (.Name x px) "get" apos e f cpos)(hN:X.N[i]? = some x:=by rfl)(hvis:Vis X.env.scope x:=by first | exact Or.inl rfl | exact Or.inr (Or.inl rfl) | exact Or.inr<|Or.inr rfl)(hd:nDb x:=by decide)(hcd:nCd x:=by decide) :
  Ev K X (.Call (.Attribute (.Name x px) "get" apos) [e,f] [] cpos) (vS (Q2 i) ty tx) (kh i mb mz):=by
 subst hK;refine#v[uW (D5 hN hvis hd hcd) hk.pe hz.pe m2,λG B E F m H Q r F' I e q=>?_];obtain⟨⟨kd,V⟩,T,e⟩:=bS9 e;obtain⟨⟨z,F3⟩,A,e⟩:=bS9 e;obtain⟨⟨w,c',ps⟩,S,e⟩:=bS9 e;obtain⟨n,t,c⟩:=bS9 e;clear e;dsimp only at c A t;split at c;case isFalse=>cases c
 rename_i D;subst D;cases c;obtain rfl:=cq t;have R:=K6 S;obtain⟨u,C,a,W,rfl,hB,p,o,hn,h⟩:=I.loc i _ R;obtain⟨dz,vs,P,rfl,g⟩:=h.is9;refine#v[_,C,a,dz,vs,P,rfl,o,hk.ok G B E F m H _ _ _ I T λy U b O s=>hz.ok G B E V m U _ z _ (I.step b O) A λZ H3 d N J=>?_];have j:=(g.same<|b.hid I.fB).same<|d.hid I.fB;simp only[c8]at s;subst s;refine#v[n,rfl,d a _ (b a _ o p) p,q _ _ (b.trans d) N ?_];rcases xD (n:=n) j with ⟨Y,v,l,k,L⟩ | ⟨l,k⟩
 .rw[l,k];exact L
 .rw[l,k];exact J
def jT (i:Nat):DE->M (List My):=λE F=>(U2 E i).bind λd=>if d.2.1=9 then some (d.2.2.map λp=>.tuple [p.1,p.2],F) else none
def sP (i:Nat){x:Str}(hN:X.N[i]? = some x:=by rfl)(hvis:Vis X.env.scope x:=by first | exact Or.inl rfl | exact Or.inr (Or.inl rfl) | exact Or.inr<|Or.inr rfl)(hd:nDb x:=by decide)(hcd:nCd x:=by decide)
  (hbase:Tq (.Name x px) "items" X.env (eval (.Name x px) X.env)=eval (.Name x px) X.env:=by rfl) (hline:(apos.endLine == cpos.line)=true:=by rfl) :
  Eib K X (.Tuple es tk tp) (.Call (.Attribute (.Name x px) "items" apos) [] [] cpos) (vw<|Q2 i) (jT i) :=
 #v[wH (D5 hN hvis hd hcd) hbase hline,λG B E F O H R V Z I e q=>by
  obtain⟨⟨w,W,P⟩,D,e⟩:=bS9 e;dsimp only at e;split at e;case isFalse=>cases e
  rename_i A;subst A;cases e;have C:=K6 D;obtain⟨u,s,a,N,rfl,U,z,m,T,h⟩:=I.loc i _ C;obtain⟨dz,vs,o,rfl,g⟩:=h.is9;refine#v[_,s,a,dz,vs,o,rfl,m,q _ H (Kp.refl) I.fd λM B2 k=>?_];have b:M a=some (.ext<|FrI a dz vs o):=k.1 a _ m z;have f:=g.same k.2;have hl:=pF f;refine#v[λj d p=>?_,#v[b,by rw[Mv];exact hl]];rw[MQ]at p;obtain⟨Q,l,rfl⟩:=MP.1 p;obtain⟨n,v,r,L,J⟩:=Cm f l;refine#v[#v[b,(MK.1 r).1],λx Y y=>?_];obtain⟨t,S,rfl,ht,rfl,c⟩:=y;rw[r]at c;cases c;refine#v[j5.upd ht,λbk=>?_];exact K5 bk ht #v[_,_,rfl,by rw[L];exact c8.int,_,_,rfl,J,rfl]]
end
end
section
section
variable {w:SU}{A:SW}{R:Result->SR->Prop}{I:SQ}{fp wr:List SQ}{n:Nat}{P:Nat->SN->Prop}{St:Nat->Tb->Prop}{dv:SN}
def BF (bt:Nat->Nat->Bool)(P:Nat->SN->Prop)(dv:SN)(n:Nat)(v:SN):Prop:=(n=0/\v=dv)\/(0<n/\P (argBest bt<|n-1) v)
def Da (bt:Nat->Nat->Bool)(P:Nat->SN->Prop)(i:Nat)(old:Array SN):Prop:=(i=0/\old = #[])\/∃j a,i=j+1/\P (argBest bt j) a/\old = #[a,a]
def ua (W:Walks prog w A.in1 I fp wr n P St)(bt:Nat->Nat->Bool)(hcmp:CmpOf prog w A.in1 .Gt P bt)(S:SQ)(hSf:S ∉ fp) :
  ∀(k i:Nat) (s:SR) (old:Array SN) (c:Nat),n-i=k->i<=n->St i s.heap->Da bt P i old ->
  s.heap.get? S=some { cls:=.type "list",dict:=none,data:=.seq old c,slots:=#[] } ->
  (∀v h' tk,BF bt P dv n v->(∀b o,b ∉ wr->b≠S->s.heap.get? b=some o->h'.get? b=some o)->R (.ok<|.ret v) { s with heap:=h',toks:=tk }) ->
  codeAny (model prog w) A (.builtin "max.loop" #v[[.ref I,.none,.ref S],[("default",dv)]]) R s:=by
 have D:S ∉ wr:=λh=>hSf<|W.sub _ h
 have p:(toString "max" ++ toString ".loop":String) = "max.loop":=by decide
 intro k;induction k with
 | zero =>
  intro i s old c M N r L z E;have y:i=n:=by omega
  refine RP F.entry_max_loop ?_;rw[Qv PJ _];rcases L with ⟨rfl,rfl⟩ | ⟨j,B,rfl,G,rfl⟩
  .show Tn _ A.in1 (seqItems? (.ref S) >>= _) _ _ s;refine Ms<|Ob z rfl ?_;show Tn _ A.in1 (tryCatch (pyNext<|.ref I) _ >>= _) _ _ s;refine Ms (QU<|W.done s _ _ (y▸r) λh' tk d=>?_);show Tn _ A.in1 (rule _ >>= _) _ _ _;refine Ms<|OG<|Mt ?_;exact E dv h' tk (.inl #v[y.symm,rfl]) λb o a _ e=>d b o a e
  .show Tn _ A.in1 (seqItems? (.ref S) >>= _) _ _ s;refine Ms<|Ob z rfl ?_;show Tn _ A.in1 (tryCatch (pyNext<|.ref I) _ >>= _) _ _ s;refine Ms (QU<|W.done s _ _ (y▸r) λh' tk d=>?_);have m:=d S _ D z;show Tn _ A.in1 (updateSeq S (λ_=>#[]) >>= _) _ _ _;refine Ms ?_;refine wpAny_updateSeq m rfl<|Ms<|Qz<|Mt ?_;exact E B _ tk (.inr #v[by omega,by rw[<-y];exact G]) λb o a f e=>(Oq _ _<|Ow f).trans<|d b o a e
 | succ k K =>
  intro i s old c M N r L z E;have t:i<n:=by omega
  refine RP F.entry_max_loop ?_;rw[Qv PJ _];rcases L with ⟨rfl,rfl⟩ | ⟨j,B,rfl,J,rfl⟩
  .show Tn _ A.in1 (seqItems? (.ref S) >>= _) _ _ s;refine Ms<|Ob z rfl ?_;show Tn _ A.in1 (tryCatch (pyNext<|.ref I) _ >>= _) _ _ s;refine Ms (QU<|W.item 0 s _ _ t r λv h' tk G q d=>?_);have m:=d S _ D z;show Tn _ A.in1 (updateSeq S (λ_=>#[v,v]) >>= _) _ _ _;refine Ms ?_;refine wpAny_updateSeq m rfl ?_;rw[p];refine Mt #v[Rq PJ _,K 1 _ #[v,v] _ (by omega) t (W.frame _ _ _ q λb C o e=>?_) (.inr #v[0,v,rfl,G,rfl]) (Oj _ m rfl) λH x g u l=>?_]
   .exact(Oq _ _ (λh:S=b=>hSf (by rw[h];exact C))).trans e
   .exact E H x g u λb o a f e=>l b o a f<|(Oq _ _<|Ow f).trans<|d b o a e
  .show Tn _ A.in1 (seqItems? (.ref S) >>= _) _ _ s;refine Ms<|Ob z rfl ?_;show Tn _ A.in1 (tryCatch (pyNext<|.ref I) _ >>= _) _ _ s;refine Ms (QU<|W.item (j+1) s _ _ t r λv h' tk G q d=>?_);have m:=d S _ D z;show Tn _ A.in1 (tryCatch (holding [v,v]<|richCompare .Gt v B >>= _) _ >>= _) _ _ _;refine Ms<|QU<|NL<|Ms<|hcmp (j+1) (argBest bt j) v B _ _ _ G J ?_;refine Ms<|NL<|Ot ?_;refine Ms<|Qz<|Mt ?_;cases hb:bt (j+1) (argBest bt j) with
   | true =>
    simp only[Of];refine Ms ?_;refine wpAny_updateSeq m rfl<|Ms<|Qz ?_;rw[p];refine Mt #v[Rq PJ _,K (j+2) _ #[v,v] _ (by omega) t (W.frame _ _ _ q λb C o e=>?_) (.inr #v[j+1,v,rfl,by simp only[argBest,hb,Of];exact G,rfl]) (Oj _ m rfl)
     λH x g u l=>?_]
    .exact(Oq _ _ (λh:S=b=>hSf (by rw[h];exact C))).trans e
    .exact E H x g u λb o a f e=>l b o a f<|(Oq _ _<|Ow f).trans<|d b o a e
   | false =>simp only[Na,NJ];refine Ms<|Qz ?_;rw[p];refine Mt #v[Rq PJ _,K (j+2) _ #[B,B] c (by omega) t q (.inr #v[j+1,B,rfl,by simp only[argBest,hb,Na,NJ];exact J,rfl]) m λH x g u l=>?_];exact E H x g u λb o a f e=>l b o a f<|d b o a e
end
section
variable {w:SU}{A:SW}{E:SN->SR->Prop}{s:SR}{dv:SN}
def uM (a d:SN):argsOk "max" #v[[a],[("default",d)]]:=by unfold argsOk;kernel_rfl
def jZ {id:String}{b:Builtin}{args:List SN}{kw:List (Str×SN)}{Q:SN->SR->Prop}(hk:builtinKind id=none)(hp:plainId id=true)
  (hb:entryFor table id=some b) (ha:argsOk id #v[args,kw])
  (hc:Tn (model prog w) A.in1 (b #v[args,kw]) (λfin s'=>match fin with
   | .done f=>(match (Except.ok f:Result) with | .ok (.ret v)=>Q v s' | .ok _=>False | .error e=>E e s')
   | .again c'=>c'.quiet=true/\codeAny (model prog w) A c' (λr s'=>match r with | .ok (.ret v)=>Q v s' | .ok _=>False | .error e=>E e s') s') E s) :
  Tn (model prog w) A (call (.builtin id) args kw) Q E s:=by
 refine PY<|RO hp hb ?_;simp only[checkBuiltinCall,hk];cases hsig:Manifest.signature? id with
 | none=>exact Mt hc
 | some a =>
  have c:Bind.checkArgs id a #v[args,kw]=pure ():=by simpa only[argsOk,hsig] using ha
  simp only[c];exact Mt hc
def tI :Builtin.Builtins.bindParams "max" ["key","default"] 0 #v[[],[("default",dv)]]=pure [none,some dv]:=rfl
def lH {l:SQ}{xs:Array (Int×Tok)}{Q:SN->SR->Prop}(hh:A.handled=none)(hl:s.heap.IsList l (intItems xs))
  (h:∀v h' tk,BF (λi j=>decide (numAt xs i > numAt xs j)) (λi v=>(intItems xs)[i]? = some v) dv xs.size v->(∀b o,s.heap.get? b=some o->h'.get? b=some o)->Q v { s with heap:=h',toks:=tk }) :
  Tn (model prog w) A (call (.builtin "max") [.ref l] [("default",dv)]) Q E s:=by
 have a:(toString "max" ++ toString ".loop":String) = "max.loop":=by decide
 refine jZ F.kind_max F.plain_max F.entry_max (uM _ _) ?_;show Tn _ A.in1 (Builtin.Builtins.bindParams "max" ["key","default"] 0 #v[[],[("default",dv)]] >>= _) _ _ s;refine Ms<|wpAny_of_eq tI ?_;refine Ms<|Mt ?_;refine Ms (iter_intList hl λg e st d c=>?_);subst e;refine Ms<|Nj ?_;rw[a];have W:=Walks.list (prog:=prog) (w:=w) (A:=A.in1) hh _ l c<|intItems xs;refine Mt #v[Rq PJ _,ua W _ (CmpOf.ints_gt (numAt xs)<|λ_ _=>Rl) _ (λk=>OV _<|d _ k) _ 0 _ #[] _ rfl (Nv _) (W.frame _ _ _ st λb _ o e=>Mu _ e) (.inl #v[rfl,rfl]) (MM _ rfl) λv h' tk n m=>?_];exact h v h' tk (by simpa [intItems] using n) (old_kept λb o f e=>m b o f (MR<|MA e)<|Mu _ e)
end
section
variable {X:Cx}{K:Qf}{p kp:Pos}{e e2:Ta}{te te2:TE}
def uu (hK:X.K=K)(hc:X.calm=true){s:SR}{σ:St}{H:Hp}{a:SQ}{ns:List Int}{y:V}{u:SN}{Q:VK}(I:Inv X π σ H s)(hq:SqL K H a (ns.map V.int))(ry:s0 y u)
  (q:Q (if ns=[] then y else .int (Z2 ns)) H):Tn (model X.prog X.w) X.A (call (.builtin "max") [.ref a] [("default",u)]) (EP X π σ Q) X.xe s:=by
 subst hK;obtain⟨b,o,p,M⟩:=I.list hq;have l:b.length=ns.length:=by rw[<-o.length,Mv]
 have n:=Z1 o;obtain⟨c,g⟩:=n.allInts.items;have hl:s.heap.IsList a (intItems c):=g▸p.isList;have C:c.size=ns.length:=by
  have:(intItems c).size=b.length:=by rw[<-g];simp
  rw[<-l,<-this];simp[intItems]
 have h:∀(i:Nat) (v:SN),b.toArray[i]? = some v->∃t,v = .int (ns.getD i 0) t:=λi v f=>by
  have f:b[i]? = some v:=by simpa using f
  obtain⟨n,_⟩:=MK.1 f;have D:(ns.map V.int)[i]? = some (V.int<|ns.getD i 0):=by rw[MQ,MN<|by omega];simp[List.getD,MN<|show i<ns.length by omega]
  obtain⟨u,w,B⟩:=o.get D;rw[f]at w;cases w;exact B
 have d:∀i,i<ns.length->numAt c i=ns.getD i 0:=λi n=>by
  have m:i<b.length:=by omega
  obtain⟨t,e⟩:=h i b[i] (by simp[m]);have e2:(intItems c)[i]? = some b[i]:=by rw[<-g];simp[m]
  obtain⟨L,A⟩:=Rl e2;rw[e]at A;injection A with G _
  exact G.symm
 refine lH (I.ok.hd hc) hl λv P J f z=>?_
 rcases f with ⟨O,rfl⟩ | ⟨x,f⟩
 .have:ns=[]:=PQ.1 (by omega);rw[Mx this]at q;exact#v[y,H,I.kept z,ry,q]
 .have k:ns≠[]:=RR.1 (by omega);rw[MC k]at q;obtain⟨N,E⟩:=argBest_gt (numAt c)<|c.size-1;obtain⟨t,e⟩:=Rl f;subst e;generalize argBest (λi j=>decide (numAt c i > numAt c j)) (c.size-1)=j at *;have r:j<ns.length:=by omega
  have F:numAt c j=Z2 ns:=by rw[d j r];refine Int.le_antisymm (gh<|getD_mem r) ?_;obtain⟨i,n,e⟩:=mem_getD<|dA k;have:=E i (by omega);rw[d i n,d j r]at this;rw[<-e];exact this
  rw[F];exact#v[.int<|Z2 ns,H,I.kept z,#v[t,rfl],q]
def iO:List My->Option My
 | [.list ds,z]=>(ag ds).bind λa=>if a=[] then(match z with
  | .int i=>some (.int i)
  | _=>none) else some (.int<|Z2 a)
 | _=>none
def xT (X:Cx)(r:List V->Hp->VK->Prop):Prop:=∀{π:List (SQ×Te)} {s:SR} {a:St} {H:Hp} {b:List V} {y:V} {us:List SN} {z:SN} {Q:VK},Inv X π a H s->m9 b us->s0 y z->r (b++[y]) H Q->Tn (model X.prog X.w) X.A (call (.builtin "max") us [("default",z)]) (EP X π a Q) X.xe s
def zc {r:List V->Hp->VK->Prop}(hr:xT X r)(hm:X.mg "max" = none)(ha:PA X [e] (x6 te T4))(hb:PE X e2 te2)(hg:Gl X "max":=by rfl)(he:Td [e] X.env=[(false,eval e X.env)]:=by rfl):PE X (.Call (.Name "max" p) [e] [#v[some "default",e2,kp]] pos) (tCB r<|x6 te<|x6 te2 T4):=by intro π s a H Q I h;refine Pf (cF I hg hm rfl ?_ (by decide)<|by decide);refine callWith_kw (thn (ha pos π s a H (λvs b=>te2 a b λy c=>r (vs++[y]) c Q) I h) λus s1 #v[vs,b,k,f,i]=>?_) (by rw[he];rfl) (by rw[he];rfl);refine kws_cons (thn (hb π s1 a b _ k i) λz s2 #v[y,c,j,d,g]=>kws_nil ?_);exact hr j f d g
variable [Feeds]{m m2:DE->M My}
def As (hK:X.K=K)(hc:X.calm=true):xT X (rDN K iO):=λ{π s v H f y us z Q} I r j h=>by
 obtain⟨D,B,p,d,bk,o,b,q⟩:=h;unfold iO at b;split at b <;> try cases b
 rename_i p w;obtain⟨l,e,hg⟩:=bS9 b;clear b;cases P1 e;obtain⟨C,i,c,⟨a,A,rfl,n,m⟩,t⟩:=GO o rfl;cases gA m;obtain⟨rfl,rfl⟩:f=[.ref a]/\y=i:=by
  match f,c with
  | [x],c=>cases c;exact#v[rfl,rfl]
  | x::x2::r,c=>simp at c
 obtain⟨u,rfl,k⟩:=N5 r;cases k;refine uu hK hc I (SqL.of<|f8 _ _ n) j ?_;by_cases g:l=[]
 .rw[Mx g]at hg ⊢;cases w <;> simp at hg;subst hg;cases t;exact q _ H (j5.refl H) c8.int
 .rw[MC g]at hg ⊢;cases hg;exact q _ H (j5.refl H) c8.int
def yS (hK:X.K=K)(hc:X.calm=true)(hm:X.mg "max" = none)(ha:Eb K X e te m)(hb:Eb K X e2 te2 m2)(hg:Gl X "max":=by rfl)(he:Td [e] X.env=[(false,eval e X.env)]:=by rfl)(he2:Td [e2] X.env=[(false,eval e2 X.env)]:=by rfl)(he3:Td [e,e2] X.env=(false,eval e X.env)::Td [e2] X.env:=by rfl) :
  Ev K X (.Call (.Name "max" p) [e] [#v[some "default",e2,kp]] pos) (tCB (rDN K iO)<|x6 te<|x6 te2 T4) (sN iO<|d7 m<|d7 m2 l0) :=
 #v[zc (As hK hc) hm (n6 ha.pe B1 he) hb.pe hg he,uS (n9 ha (n9 hb v7 he2) he3).ok]
end
end
end L3
namespace L3
open PySem PySem.Spec PyProof.Rows L2 PySem.W
section
variable {prog:SS}{w:SU}{A:SW}{E:SN->SR->Prop}{s:SR}{T:String}{r d:SQ}{n:Nat}{P:Nat->SN->Prop}{OK:Tb->Prop}
def yp {R:Result->SR->Prop}(K:KdlSrc prog w T r d n P OK)(hh:A.handled=none)(hok:OK s.heap)(hn:n<=Tc)
  (hR:∀h' tk acc c',(∀b o,s.heap.get? b=some o->h'.get? b=some o)->h'.get? s.heap.objs.size=some { cls:=.type "list",dict:=none,data:=.seq acc c',slots:=#[] }->ItemsOf P acc n->R (.ok<|.ret<|.ref s.heap.objs.size) { s with heap:=h',toks:=tk }) :
  codeAny (model prog w) A (.builtin "proto.collect" #v[[.ref r],[]]) R s:=by have a:=K.there _ hok;refine RP PySem.F.entry_proto_collect ?_;rw[Qv PySem.F.plain_proto_collect _];show Tn _ A.in1 (newList [] >>= λl=>again<|.builtin "list.__iadd__" #v[[l,.ref r],[]]) _ _ s;refine Ms<|Nj ?_;refine Mt #v[Rq PySem.F.plain_list_iadd _,RP PySem.F.entry_list_iadd ?_];rw[Qv PySem.F.plain_list_iadd _];show Tn _ A.in1 (Builtin.List.listExtendWith (.ref s.heap.objs.size) (.ref r)<|.ref s.heap.objs.size) _ _ _;have i:(s.heap.push { cls:=.type "list",data:=.seq ([]:List SN).toArray }).get? s.heap.objs.size=some { cls:=.type "list",data:=.seq #[] }:=MM _ rfl;exact kdl_extend (R:=R) (s:={ s with heap:=s.heap.push { cls:=.type "list",data:=.seq ([]:List SN).toArray } }) K hh (K.keep _ _ hok λb _ o e=>Mu _ e) _ (NT a.1) (NT a.2) _ _ i (λh' tk f c' h g c=>hR h' tk f c' (λb o e=>h b o (MR<|MA e)<|Mu _ e) g c) hn
def mP {Q:List SN->SR->Prop}(K:KdlSrc prog w T r d n P OK)(hh:A.handled=none)(hok:OK s.heap)(hn:n<=Tc)
  (hQ:∀h' tk acc,(∀b o,s.heap.get? b=some o->h'.get? b=some o)->ItemsOf P acc n->Q acc.toList { s with heap:=h',toks:=tk }):Tn (model prog w) A (collect<|.ref r) Q E s:=by unfold collect;refine Ms (wpAny_runValue<|yp K hh hok hn λh' tk c g f e a=>?_);show Tn _ A (load s.heap.objs.size >>= _) _ _ _;refine Ms<|wpAny_load e ?_;exact Mt<|hQ h' tk c f a
def nQ {x:SN}{Q:SN->SR->Prop}(h:Tn (model prog w) A.in1 (collect x) (λvs s1=>vs.length<64/\∃(kd:SortKind) (κ:Nat->Int),
   (2<=vs.length->∀(h':Tb) (Q:SortKind->SR->Prop),(∀b o,s1.heap.get? b=some o->h'.get? b=some o)->Q kd { s1 with heap:=h' }->Tn (model prog w) A.in1.in1 (keyKind' vs.toArray) Q E { s1 with heap:=h' }) /\
   (∀h':Tb,(∀b o,s1.heap.get? b=some o->h'.get? b=some o)->gL prog w A.in1.in1 { s1 with heap:=h' } kd (pairsOf vs) κ) /\
   ∀(out:Array SN) (p:Nat->Nat),out.size=vs.length->(∀i,i<vs.length->out.toList[i]? = vs[p i]?)->SoS κ p vs.length->Q (.ref s1.heap.objs.size) { s1 with heap:=sortedHeap (s1.heap.push<|seqObj "list" vs.toArray 0) s1.heap.objs.size vs out }) E s) :
  Tn (model prog w) A (call (.builtin "sorted") [x]) Q E s:=by
 refine Calls.call_function_entry kind_sorted plain_sorted entry_sorted (args_sorted1 _) ?_;unfold Builtin.«sorted»;refine Ms (m:=checkCount "sorted" 1 1 _)<|Mt ?_;refine Ms (MY h (λvs s1 #v[k,kd,κ,c,g,f]=>?_) λ_ _ e=>e);refine Ms (wpAny_newList ?_ (by rw[Nr];omega));have d:(s1.heap.push<|seqObj "list" vs.toArray 0).get? s1.heap.objs.size=some (seqObj "list" vs.toArray 0):=MM _ rfl;have a:∀b o,s1.heap.get? b=some o->(s1.heap.push<|seqObj "list" vs.toArray 0).get? b=some o/\b≠s1.heap.objs.size:=λb o q=>#v[Mu _ q,MR<|MA q]
 show Tn _ _ _ _ _ { s1 with heap:=s1.heap.push (seqObj "list" vs.toArray 0) };refine Ms (NL (Nx slot_list_sort #v[_,d,rfl] entry_list_sort (lC (s:={ s1 with heap:=s1.heap.push (seqObj "list" vs.toArray 0) }) d k
  (λl h' Q j f=>c l h' Q (λb o e=>j b o (a b o e).2 (a b o e).1) f) (λh' j=>g h' λb o e=>j b o (a b o e).2 (a b o e).1) λout p t r n=>#v[_,rfl,?_])<|args_list_sort _))
 exact Mt #v[_,rfl,f out p t r n]
end
section
variable {X:Cx}{K:Qf}
def tU (hu:X.A.units+64<Tv){π:List (SQ×Te)}{s:SR}{σ:St}{H:Hp}{zs:List V}{ds:List (List My)}{κ:Nat->Int}{its:List SN}(I:Inv X π σ H s)(rv:m9 zs its)(hlz:zs.length=ds.length)
  (hD:∀(i:Nat) (z:V) (d:List My),zs[i]? = some z->ds[i]? = some d->c8 X.K H (.tuple d) z) (hG:∀d∈ds,iE d) (hK:∀(i j:Nat) (di dj:List My),i≠j->ds[i]? = some di->ds[j]? = some dj->ltM di dj=some (decide (κ i < κ j))) (h64:ds.length<64) :
  ∃kd:SortKind,(2<=its.length->∀(h':Tb) (Q:SortKind->SR->Prop),(∀b o,s.heap.get? b=some o->h'.get? b=some o)->Q kd { s with heap:=h' }->Tn (model X.prog X.w) X.A.in1.in1 (keyKind' its.toArray) Q X.xe { s with heap:=h' }) /\
   ∀h':Tb,(∀b o,s.heap.get? b=some o->h'.get? b=some o)->gL X.prog X.w X.A.in1.in1 { s with heap:=h' } kd (pairsOf its) κ:=by
 have ab:its.length=zs.length:=rv.length.symm;have item:∀(i:Nat) (v:SN) (d:List My),its[i]? = some v->ds[i]? = some d->∃as,Reads s.heap v (.tuple d) as:=λi v d l q=>by
  have N:i<zs.length:=by have:=(MK.1 l).1;omega
  obtain⟨u,G,S⟩:=rv.get<|MN N;rw[l]at G;cases G;exact M9 I _ _ _ (hD i _ d (MN N) q) S
 obtain⟨fs,K,hT⟩:=gX (h:=s.heap) (by omega) item hG;have U:∀{h':Tb},(∀b o,s.heap.get? b=some o->h'.get? b=some o)->∀{g:List SN} {fs:List (Option SN)},ar s.heap g fs->ar h' g fs:=by
  intro h' k g;induction g with
  | nil=>intro fs t;cases fs with | nil=>exact t | cons _ _=>exact t.elim
  | cons v g L =>
   intro fs t;cases fs with
   | nil=>exact t.elim
   | cons f fs =>obtain⟨⟨a,o,T,n,l,q,G⟩,t⟩:=t;exact#v[#v[a,o,T,n,l,k _ _ q,G],L t]
 refine#v[qx fs,λh2 h' Q' k F=>?_,λh' k=>?_]
 .have m:∀(i:Nat) (v:SN) (d:List My),its[i]? = some v->ds[i]? = some d->∃as,Reads h' v (.tuple d) as:=λi v d l q=>let #v[as,r]:=item i v d l q;#v[as,QQ k r]
  refine Cy (s:={ s with heap:=h' }) (U k K) (by have:=K.len;omega) (λf W=>?_) F;obtain⟨c,J,O⟩:=gX (h:=h') (by omega) m hG;have:∀{g:List SN} {fs c:List (Option SN)},ar h' g fs->ar h' g c->fs=c:=by
   intro g;induction g with
   | nil =>
    intro fs c t w;cases fs with
    | cons _ _=>exact t.elim
    | nil =>
     cases c with
     | nil=>rfl
     | cons _ _=>exact w.elim
   | cons v g L =>
    intro fs c t w;cases fs with
    | nil=>exact t.elim
    | cons f fs =>
     cases c with
     | nil=>exact w.elim
     | cons f' c =>obtain⟨⟨a,o,T,n,l,q,G,S,e5⟩,t⟩:=t;obtain⟨⟨a',o',Z,n',p,A,g3,Y,g5⟩,w⟩:=w;rw[l]at p;cases p;rw[q]at A;cases A;rw[S]at Y;cases Y;rw[<-e5,<-g5,L t w]
  rw[this (U k K) J]at W;exact O _ f W
 .intro i j x y M R P E Q' F;rw[<-Ql,pairsOf_toList,QE]at R P;have N:i<its.length:=(MK.1 R.1).1;have hj:j<its.length:=(MK.1 P.1).1;have di:ds[i]? = some (ds[i]'(by omega)):=MN (by omega);have dj:ds[j]? = some (ds[j]'(by omega)):=MN (by omega);obtain⟨as,C⟩:=item i _ _ R.1 di;obtain⟨bs,B⟩:=item j _ _ P.1 dj;have C:=QQ k C;have B:=QQ k B;have p:=hG _ (Oy<|show i<ds.length by omega);have A:=hG _ (Oy<|show j<ds.length by omega);have lt:=hK i j _ _ M di dj;have D:X.A.in1.in1.units+min (My.depthAll ds[i]+1) (My.depthAll ds[j]+1)<Tv:=by have e:X.A.in1.in1.units=X.A.units+1+1:=rfl;have:=p.2.1;omega
  unfold qx;split
  .exact pz (s:={ s with heap:=h' }) C B p.1 A.1 (by omega) lt F
  .split
   .exact uo (s:={ s with heap:=h' }) C B p.1 A.1 D lt F
   .exact tJ (s:={ s with heap:=h' }) C B p.1 A.1 D lt F
def sI (K:Frag)(k:NKey):List V->Hp->VK->Prop:=λb H Q=>∃(p:SQ) (c:List (k.K×SQ×V)) (a:List (List My)) (e:Nat->Int),b=[.ref p]/\H p=some (.ext<|NDi k p c)/\c.length=a.length/\(∀(i:Nat) (z:V) (d:List My),(c.map λx=>V.ref x.2.1)[i]? = some z->a[i]? = some d->c8 K H (.tuple d) z)/\(∀d∈a,iE d) /\
 (∀(i j:Nat) (g f:List My),i≠j->a[i]? = some g->a[j]? = some f->ltM g f=some (decide (e i < e j)))/\a.length<64/\∀(p:SQ) (b:List V),H p=none->StK e (c.map λx=>V.ref x.2.1) b->Q (.ref p) (upd H p<|.lst b)
def lY {k:NKey}(hh:X.A.handled=none)(hK:X.K=K)(hu:X.A.units+64<Tv):A1 X (.builtin "sorted") (sI K k):=by
 subst hK;intro g s R H ys us Q I r h;obtain⟨p,C,ds,Z,rfl,e,G,hD,hG,L,M,q⟩:=h;obtain⟨u,rfl,rx⟩:=N5 r;cases rx;obtain⟨z,hd,vs,w,o,es,ep,h1,h2,h3,N,h5⟩:=sD I e;have hl:es.size=C.length:=by have a:=NU List.length N;rw[Mv,ND]at a;rw[a,<-PR w]
 refine nQ (mP (A:=X.A.in1) (zJ (es:=es) (ep:=ep) hd) hh #v[o,h1,h2,h3] (by omega) λf S c hk l=>?_);have D:m9 (C.map λx=>V.ref x.2.1) c.toList:=by
  have e1:c.toList=vs.map λq=>SN.ref q.2.1:=by
   have J:es.size=vs.length:=by have a:=NU List.length N;rw[Mv,ND]at a;exact a
   refine List.ext_getElem (by rw[ND,Mv,l.1,J]) λj E W=>?_
   rw[ND]at E;obtain⟨g3,ev⟩:=l.2 j c[j]<|Array.getElem?_eq_getElem E;rw[Array.getElem_toList,ev,Pa];have e2:es.toList[j]'(by rw[ND];exact g3)=es[j]:=Array.getElem_toList ..;rw[<-e2];simp only[N,Pa]
  rw[e1];exact oC w
 have P:Inv X g R H { s with heap:=f,toks:=S }:=I.kept hk;have U:c.toList.length=C.length:=by rw[<-D.length,Mv]
 obtain⟨kd,m1,m2⟩:=tU hu P D (by rw[Mv];exact G) hD hG L M;refine#v[by omega,kd,Z,m1,m2,λout m a1 a2 Y=>?_];generalize hits:c.toList=its at *;generalize hzs:(C.map λx=>V.ref x.2.1)=zs at *;have y:zs.length=its.length:=D.length;obtain⟨O,he⟩:=sortedHeap_at (h:=f.push<|seqObj "list" its.toArray 0) (a:=f.objs.size) (vs:=its) (n:=0) (out:=out)<|MM _ rfl;have d:((List.range its.length).map λi=>zs.getD (m i) .non).length=its.length:=by rw[Mv,Oi]
 have v:∀i,i<its.length->((List.range its.length).map λi=>zs.getD (m i) .non)[i]? = zs[m i]?:=λi t=>by rw[MQ,OC t];have ab:=Y.2.2 i t;show some (zs.getD (m i) .non)=_;rw[Nw,MN<|by omega];rfl
 have I2:Inv X g R (upd H f.objs.size<|.lst<|(List.range its.length).map λi=>zs.getD (m i) .non) { s with heap:=sortedHeap (f.push<|seqObj "list" its.toArray 0) f.objs.size its out,toks:=S } :=
  P.laid (a:=f.objs.size) (λb o T=>by
   have B:b<f.objs.size:=MA T;show(sortedHeap _ _ _ _).get? b=_;rw[sortedHeap_old (MR B) (by rw[size_push'];exact Px B)];exact Mu _ T) (Mz _) #v[by rw[d,Nr];omega,out.toList,O,eY (by rw[d,atl out,a1]) (λi x u F hu=>by
   have t:i<its.length:=by have:=(MK.1 F).1;rwa [d]at this
   rw[v i t]at F;rw[a2 i t]at hu;obtain⟨u',E,W⟩:=D.get F;rw[E]at hu;rw[<-MH hu];exact W),by rw[he]]
 exact#v[.ref f.objs.size,_,I2,rfl,q _ _ (P.hok.fresh<|Mz _) #v[by rw[d,y],m,by rw[y];exact Y,λi t=>v i<|by omega]]
end
end L3
namespace L3
open PySem PySem.Spec PyProof.Rows L2
section
variable [Feeds]{K:Qf}{X:Cx}{pos p px:Pos}
def yl (i c:Nat){x:Str}(hh:X.A.handled=none)(hK:X.K=K)(hu:X.A.units+64<Tv)(hm:X.mg "sorted" = none)(hv:Ts "sorted" = some (.builtin "sorted"))(h9:c≠9:=by decide)(hN:X.N[i]? = some x:=by rfl)(hvis:Vis X.env.scope x:=by first | exact Or.inl rfl | exact Or.inr (Or.inl rfl) | exact Or.inr<|Or.inr rfl)(hd:nDb x:=by decide)(hcd:nCd x:=by decide)
  (hg:Gl X "sorted":=by rfl) (hs:Td [.Name x px] X.env=(false,eval (.Name x px) X.env)::Td [] X.env:=by rfl) (hpl:(Ti pos<|Td [] X.env).any (·.1)=false:=by rfl) :
  Ev K X (.Call (.Name "sorted" p) [.Name x px] [] pos) (tCB (sI K<|J8 c)<|x6 (Q2 i) T4) (sN gZ<|d7 (mI i c) l0) :=
 #v[M6 (lY hh hK hu) hg hm hv (n6 (D5 hN hvis hd hcd) B1 hs) (by decide) (by decide) hs hpl,λG B E F σ H Q r F' I e q=>by
  obtain⟨⟨zs,F1⟩,m,e⟩:=bS9 e;obtain⟨⟨y,F2⟩,v,m⟩:=bS9 m;cases m;obtain⟨z,l,e⟩:=bS9 e;cases e;obtain⟨⟨w,c',P⟩,U,t⟩:=bS9 v;by_cases N:c'=c;case neg=>rw[MC N]at t;cases t
  rw[Mx N]at t;have O:=K6 U;clear v U;subst N;cases t;obtain⟨u,Y,a,φ,rfl,hB,ab,hx,hn,L⟩:=I.loc i _ O;obtain⟨k,rfl,J⟩:=L.not9 h9;have b:=yo J;unfold gZ at l;dsimp only at l;split at l;case isFalse=>cases l
  rename_i M;cases l;obtain⟨h,g,s,n⟩:=M;have s:P.map (·.1)=h.map My.tuple:=s;rw[s]at b;have f:(k.map λx=>V.ref x.2.1).length=h.length:=by rw[b.length,Mv]
  refine#v[_,Y,a,k,h,g,rfl,hx,by rw[<-f,Mv],λi z d m v=>(lW b i z d m v).same f8,n.2.1,n.2.2,n.1,λp W C o=>?_];generalize (k.map λx=>V.ref x.2.1)=k at *;have O:By ((List.range h.length).map λi=>V.int<|g i) k W:=by
   obtain⟨hy,Z,hs,A⟩:=o;have T:∀i,i<k.length->ja ((List.range h.length).map λi=>V.int<|g i) i = g i:=λi hi=>by unfold ja;rw[Nw,MQ,OC<|by omega];rfl
   refine#v[hy,Z,#v[λi j D R=>?_,hs.2.1,hs.2.2],A];have:=hs.1 i j D R;unfold Lx at this ⊢;rw[T _<|hs.2.2 i<|by omega,T _<|hs.2.2 j R];exact this
  have S:=ye O (by rw[Mv,Oi,f]);rw[Nn,show(tO ∘ λi=>V.int<|g i) = g from rfl]at S;subst S;have:=(vp (ns:=(List.range h.length).map g) b).sort.dats;rw[uj n]at this;rw[show(List.map (λx=>x.1) P)=h.map My.tuple from s,bQ]at q;exact q _ _ (Kp.upd C) (I.fd.same<|j5.upd C)<|S8 I.bk C this]
end
end L3
namespace L3
open PySem PySem.W PySem.Spec PyProof.Rows L2
section
section
variable {X:Cx}{e CA CB:SQ}{fs:List (Str×V)}{i j:Nat}{cl:List SQ}{x y z nmA nmB odd beat:Str}{ces ies:List Ta}{k1 k2 k3 k4 c1 c2 c3 c4:Nat}
 {p1 p2 p3 p4 p5 p6 p7 p8 p9 pa pb pc q1 q2 q3 q4 q5 r1 r2 r3 r4 r5 r6 r7 r8 r9 ra rb rc s1 s2 s3 s4 s5 t1 t2 t3 t4 t5 t6 t7 t8 t9 tx ty tz u1 u2 u3 u4 pos:Pos}
end
end
end L3
namespace Bz
open PySem L2 L3
variable [Fam]
def Bd (k:Nat)(z:Int):Prop:=z.natAbs<=2 ^ k
def Bd.mul {j k:Nat}{a b:Int}(h1:Bd j a)(h2:Bd k b):Bd (j+k) (a*b):=by unfold Bd at *;rw[PB,Ol];exact NQ h1 h2
def Bd.add {k:Nat}{a b:Int}(h1:Bd k a)(h2:Bd k b):Bd (k+1) (a+b):=by unfold Bd at *;rw[Nat.pow_succ];have:=Int.natAbs_add_le a b;omega
def Bd.mono {j k:Nat}{a:Int}(h1:Bd j a)(h:j<=k):Bd k a:=MG h1 (Nd (by decide) h)
def Bd.big {k:Nat}{a:Int}(h:Bd k a)(hk:k<400000):a.natAbs<jc:=by refine MT h (MI (m:=2 ^ (k+1)) ?_<|sr<|by omega);exact Nk (by decide) (by omega)
end Bz
namespace L3
open PySem PySem.Spec PyProof.Rows L2
variable [Fam]
section
variable {E:DE}{F:FdS}{i:Nat}
def Dn {Q:Out->FdS->Prop}{v k:DE->M My}{ps:List (My×My)}(he:U2 E i=some (true,9,ps))(q:wp (v E F) λx F1=>wp (k E F1) λy F2=>∃n,y = .int n/\ps.length<=1000/\Q (.nx<|E.set i<|some<|.dic true 9<|ipD ps n x) F2):wp (qy i v k E F) Q:=by
 unfold qy;rw[d5];refine l6 q λx F1 h=>?_
 rw[d5];refine l6 h λy F2 h=>?_
 obtain⟨n,rfl,hl,h⟩:=h;rw[he,MU];dsimp only;rw[show K1 (.int n)=some n from rfl,MU,Mx #v[rfl,rfl,MT hl (by rw[Nr];decide)]];exact d6.2 h
def zk {Q:My->FdS->Prop}{w:Bool}{k z:DE->M My}{ps:List (My×My)}(he:U2 E i=some (w,9,ps))(q:wp (k E F) λy F1=>wp (z E F1) λr F2=>∃n,y = .int n/\Q ((igD ps n).getD r) F2):wp (kh i k z E F) Q:=by
 unfold kh;rw[d5];refine l6 q λy F1 h=>?_
 rw[d5];refine l6 h λr F2 b=>?_
 obtain⟨n,rfl,a⟩:=b;rw[he,MU];dsimp only;rw[show K1 (.int n)=some n from rfl,MU,Mx rfl];exact d6.2 a
def zE {Q:List My->FdS->Prop}{w:Bool}{ps:List (My×My)}(he:U2 E i=some (w,9,ps))(q:Q (ps.map λp=>.tuple [p.1,p.2]) F):wp (jT i E F) Q:=by unfold jT;rw[he,MU,Mx rfl];exact d6.2 q
end
abbrev zD (p:Int×Int):My×My:=(.int p.1,.int p.2)
def W6 (ds:List (Int×Int))(n:Int):Option Int:=(ds.find? λp=>decide (p.1=n)).map (·.2)
def cz (ds:List (Int×Int))(n v:Int):List (Int×Int):=if (W6 ds n).isSome then ds.map (λp=>if p.1=n then(p.1,v) else p) else ds++[(n,v)]
theorem xq (n:Int):∀ds:List (Int×Int),igD (ds.map zD) n=(W6 ds n).map .int
 | []=>rfl
 | p::ds=>by
  have a:=xq n ds;unfold igD W6 at a ⊢;rw[MB];by_cases e:p.1=n
  .rw[Nl (by simp[zD,K1,e]),Nl<|by simp[e]];rfl
  .rw[Nm (by simp[zD,K1,e]),Nm<|by simp[e]];exact a
def Gi (ds:List (Int×Int))(n v:Int):ipD (ds.map zD) n (.int v)=(cz ds n v).map zD:=by
 unfold ipD cz;rw[xq,Pw];split
 .rw[Nn,Nn];refine Ov λp _=>?_
  show(if K1 (.int p.1)=some n then _ else _)=zD (if p.1=n then _ else _);by_cases e:p.1=n
  .rw[Mx (by rw[e];rfl),Mx e]
  .rw[MC (show ¬K1 (.int p.1)=some n from λz=>e<|MH z),MC e]
 .rw[Oc];rfl
def wy (ds:List (Int×Int))(n v:Int):(cz ds n v).length<=ds.length+1:=by
 unfold cz;split
 .rw[Mv];omega
 .simp
def sT {ds:List (Int×Int)}{n v:Int}(nd:(ds.map (·.1)).Nodup):((cz ds n v).map (·.1)).Nodup:=by
 unfold cz;split
 .rw[Nn];have:((·.1) ∘ λp:Int×Int=>if p.1=n then(p.1,v) else p) = λp:Int×Int=>p.1:=by funext p;show(if p.1=n then(p.1,v) else p).1=p.1;split <;> rfl
  rw[this];exact nd
 .rename_i f;rw[Oc,List.nodup_append];refine#v[nd,by simp,λa g b c e=>f ?_];simp only[MB,NG,Nc]at c;subst c;obtain⟨p,d,h⟩:=Nb.1 g;unfold W6;rw[Pw,List.find?_isSome];exact#v[p,d,MW<|h.trans e]
def xH {P:Int×Int->Prop}{ds:List (Int×Int)}{n v:Int}(h:∀p∈ds,P p)(hv:P (n,v)):∀p∈cz ds n v,P p:=λp a=>by
 unfold cz at a;split at a
 .obtain⟨q,b,rfl⟩:=Nb.1 a;split
  .rename_i e;rw[e];exact hv
  .exact h q b
 .rcases NM.1 a with a | a
  .exact h p a
  .rw[Nc.1 a];exact hv
def vY {ds:List (Int×Int)}{n v:Int}(h:W6 ds n=some v):(n,v)∈ds:=by unfold W6 at h;obtain⟨p,a,rfl⟩:=MP.1 h;have c:=List.mem_of_find?_eq_some a;have b:=List.find?_some a;rw[<-MS b];exact c
def yX (r:List Rat):∀a:Rat,r.foldl (· + ·) a=a+r.foldl (· + ·) 0:=by
 induction r with
 | nil=>intro a;simp[Rat.add_zero]
 | cons x r b =>intro a;rw[RH,RH,b<|a+x,b<|0+x];grind
def tw (x:Rat)(r:List Rat):Bz.sumQ (x::r)=x+Bz.sumQ r:=by unfold Bz.sumQ;rw[RH,yX];grind
def sZ (f:Int->Rat)(ds:List (Int×Int)):Rat:=Bz.sumQ (ds.map λp=>(p.2:Rat)*f p.1)
def dM (f:Int->Rat)(p:Int×Int)(ds:List (Int×Int)):sZ f (p::ds)=(p.2:Rat)*f p.1+sZ f ds:=by unfold sZ;rw[MB,tw]
theorem xa (f:Int->Rat){n a:Int}:∀{ds:List (Int×Int)},(ds.map (·.1)).Nodup->sZ f (cz ds n<|(W6 ds n).getD 0+a)=sZ f ds+(a:Rat)*f n
 | [],_=>by
  show sZ f [(n,0+a)]=_;rw[dM];push_cast;simp[sZ,Bz.sumQ];grind
 | p::ds,nd=>by
  rw[MB,OQ]at nd;have b:=xa f (n:=n) (a:=a) (ds:=ds) nd.2;by_cases e:p.1=n
  .have g:W6 (p::ds) n=some p.2:=by unfold W6;rw[Nl<|by simp[e]];rfl
   have m:cz (p::ds) n (p.2+a)=(p.1,p.2+a)::ds:=by
    unfold cz;rw[g,Mx (show(some p.2).isSome=true from rfl),MB,Mx e];congr 1;have:∀q∈ds,(if q.1=n then(q.1,p.2+a) else q)=q:=λq c=>by rw[MC λz=>nd.1<|Nb.2 #v[q,c,z.trans e.symm]]
    rw[Ov this,List.map_id']
   rw[g,Option.getD_some,m,dM,dM,<-e];push_cast;grind
  .have g:W6 (p::ds) n=W6 ds n:=by unfold W6;rw[Nm<|by simp[e]]
   have m:∀v,cz (p::ds) n v=p::cz ds n v:=λv=>by
    unfold cz;rw[g];split
    .rw[MB,MC e]
    .rfl
   rw[g,m,dM,dM,b];grind
end L3
namespace K66
open PySem L2 L3
section
def top (i:Nat):SZ:=PySem.Challenge.pw_hatchwaits_k66_back_papers_judged.main.body.getD i<|.Pass #v[0,0,0,0]
instance famI:Fam:=Hm []
abbrev IF:SZ:=top 11
abbrev Ig:SZ:=top 12
abbrev Ir:SZ:=top 13
abbrev Ih:SZ:=top 15
abbrev Iu:SZ:=top 16
abbrev IT:SZ:=top 17
abbrev KP:SZ:=top 18
abbrev JY:SZ:=top 19
abbrev JZ:SZ:=top 20
abbrev KQ:SZ:=top 21
abbrev KR:SZ:=top 22
abbrev Iw:SZ:=top 25
abbrev Ka:SZ:=top 26
abbrev HX:SZ:=top 28
abbrev HS:SZ:=top 29
abbrev Iy:SZ:=top 30
abbrev Kb:SZ:=top 31
abbrev HW:SZ:=top 32
abbrev IG:SZ:=top 33
abbrev IH:SZ:=top 35
abbrev II:SZ:=top 36
abbrev IJ:SZ:=top 37
abbrev HU:SZ:=top 38
abbrev Io:SZ:=top 39
abbrev Ip:SZ:=top 40
abbrev Ii:SZ:=top 41
abbrev HR:SZ:=top 42
abbrev HY:SZ:=top 43
abbrev IK:SZ:=top 44
abbrev Iq:SZ:=top 45
abbrev IL:SZ:=top 46
abbrev HI:SZ:=top 47
abbrev ini_NoPaper:SZ:=zr<|top 3
def it_NoPaper:IniTxt ini_NoPaper "NoPaper.__init__" ["word","number"]:=#v[#v[rfl,rfl,rfl,by decide +kernel,rfl,by decide +kernel,by decide +kernel],by decide +kernel,(.cons<|.cons .nil),by decide,by decide,λ_ _ _ _ _ _ us hl=>match us,hl with | [_,_,_],_=>rfl]
structure Txt (K:Qf) (mg:Str->Option SN):Prop where
 ValueError:mg "ValueError" = none
 abs:mg "abs" = none
 all:mg "all" = none
 bool:mg "bool" = none
 enumerate:mg "enumerate" = none
 int:mg "int" = none
 isinstance:mg "isinstance" = none
 len:mg "len" = none
 list:mg "list" = none
 max:mg "max" = none
 range:mg "range" = none
 repr:mg "repr" = none
 sorted:mg "sorted" = none
 sum:mg "sum" = none
 tuple:mg "tuple" = none
 zip:mg "zip" = none
 g_NOUGHT:GD K mg "NOUGHT" (.tuple [.int 0,.int 1])
 err_NoPaper:Hu K mg "WaitError" "NoPaper" ["NoBeat","NoComer","NoHouse","NoRest","NoRow","NoText","TooMany"]
section
variable {P:SS}{w:SU}{K:Qf}{mg:Str->Option SN}{base:Tb}
def kH:FnScope ["thing"] ["thing"] (defScope IF):={}
abbrev P6:=L6
def Kc {f:SQ}{fd:SY}(Fn:Fun K "is_number" "is_number" IF f fd)(T:Txt K mg) :FnOk P w K mg base CX0 1 f fd ["thing"] (spD K 1 P6):=by
 refine w8 Fn kH λb A a s H E c=>?_
 exact#v[_,(i6<|n5<|aO (K4 "int" (k8 0) (by decide) T.isinstance T.int oK)<|bV<|vA<|K4 "bool" (k8 0) (by decide) T.isinstance T.bool sJ)]
def cZ:FnScope ["least","thing"] ["least","thing"] (defScope Ig):={}
abbrev G9:=J4
def IW {f:SQ}{fd:SY}(Fn:Fun K "is_number_from" "is_number_from" Ig f fd)(T:Txt K mg)(HZ:i5 P w K mg base "is_number" 1 ["thing"] (spD K 1 P6)):FnOk P w K mg base CX0 2 f fd ["least","thing"] (spD K 2 G9):=by
 refine w8 Fn cZ λc A a s H E b=>?_
 exact#v[_,(i6<|n5<|aO (l4 HZ b<|j6 (j8 1) g9)<|bV<|aD Br (k8 1)<|k8 0)]
def iD:FnScope ["many","thing"] ["many","thing"] (defScope Ir):={}
abbrev E9:=O3
def Jy {f:SQ}{fd:SY}(Fn:Fun K "is_tuple_of" "is_tuple_of" Ir f fd)(T:Txt K mg) :FnOk P w K mg base CX0 1 f fd ["many","thing"] (spD K 2 E9):=by
 refine w8 Fn iD λc A a s H E b=>?_
 exact#v[_,(i6<|n5<|aO (K4 "tuple" (k8 1) (by decide) T.isinstance T.tuple E7)<|bV<|aD (rq rfl b.units) (Ev.bw<|u6 (aa rfl) T.len Z3<|n9 (k8 1) v7)<|k8 0)]
def M7:FnScope ["one","other"] ["one","other"] (defScope Ih):={}
abbrev C6:=C7
def IX {f:SQ}{fd:SY}(Fn:Fun K "common_divisor" "common_divisor" Ih f fd)(T:Txt K mg) :FnOk P w K mg base CX0 1 f fd ["one","other"] (spD K 2 C6):=by
 refine w8 Fn M7 λb A a s H E c=>?_
 exact#v[_,(d9 (lB 0 1 rfl M7.nd<|d8 (u6 (pJ) T.abs qo<|n9 (k8 0) v7)<|d8 (u6 (pJ) T.abs qo<|n9 (k8 1) v7) l9)
   (d9 (mw (C8 nA (k8 1)<|Ev.bw f9)<|i6<|lB 0 1 rfl M7.nd<|d8 (j8 1)<|d8 (i9 ya (k8 0)<|k8 1) l9)
   (i6<|n5<|j8 0)))]
def U0:FnScope ["thing","top","bottom"] ["thing"] (defScope Iu):={}
def G1:List DV->M My:=I0 ["thing","top","bottom"] (mSq (mIf (df<|uT<|i4 E9<|vD (sC<|.int 2)<|vD (sV 0) m7) (mRt<|sC<|.bool false) mNx)
  (mSq (uL (P4 2<|u5 (bN 1)<|u5 (bN 2) P9)<|sV 0)
  (mRt<|ip (i4 P6<|vD (sV 1) m7)<|ip (i4 G9<|vD (sC<|.int 1)<|vD (sV 2) m7)<|s2 (eqD false) (i4 C6<|vD (sV 1)<|vD (sV 2) m7)<|sC<|.int 1)))
def Jz {f:SQ}{fd:SY}(Fn:Fun K "is_fraction" "is_fraction" Iu f fd)(T:Txt K mg)(HQ:i5 P w K mg base "is_tuple_of" 1 ["many","thing"] (spD K 2 E9))(HZ:i5 P w K mg base "is_number" 1 ["thing"] (spD K 1 P6))(Ij:i5 P w K mg base "is_number_from" 2 ["least","thing"] (spD K 2 G9))(HN:i5 P w K mg base "common_divisor" 1 ["one","other"] (spD K 2 C6)):FnOk P w K mg base CX0 3 f fd ["thing"] (spD K 1 G1):=by
 refine w8 Fn U0 λc A b s H E a=>?_
 exact#v[_,(d9 (T9 (U6<|G6<|Ev.bw<|l4 HQ a<|j6 f9<|j6 (j8 0) g9) (i6<|n5 bC) D8)
   (d9 (pV (j8 0)<|G8 (n:=2) rfl<|j9 (P2 (i:=1) U0.nd)<|j9 (P2 (i:=2) U0.nd) B7)
   (i6<|n5<|aO (l4 HZ a<|j6 (j8 1) g9)<|aO (l4 Ij a<|j6 f9<|j6 (j8 2) g9)<|bV<|aD (rq rfl a.units) (Ev.bw<|l4 HN a<|j6 (j8 1)<|j6 (j8 2) g9)<|Ev.bw f9)))]
def aJ:FnScope ["top","bottom","divisor"] ["top","bottom"] (defScope IT):={}
abbrev U3:=D6
def Kv {f:SQ}{fd:SY}(Fn:Fun K "fraction" "fraction" IT f fd)(T:Txt K mg)(HN:i5 P w K mg base "common_divisor" 1 ["one","other"] (spD K 2 C6)):FnOk P w K mg base CX0 2 f fd ["top","bottom"] (spD K 2 U3):=by
 refine w8 Fn aJ λc A a s H E b=>?_
 exact#v[_,(d9 (p0 2 aJ.nd<|l4 HN b<|j6 (j8 0)<|j6 (j8 1) g9)
   (d9 (T9 (C8 fk (k8 1)<|Ev.bw f9) (i6<|p0 2 aJ.nd<|nh il<|k8 2) D8)
   (i6<|n5<|B8<|d8 (i9 gf (k8 0)<|k8 2)<|d8 (i9 gf (k8 1)<|k8 2) l9)))]
def AO:FnScope ["one","other"] ["one","other"] (defScope KP):={}
abbrev iS:=ic
def LM {f:SQ}{fd:SY}(Fn:Fun K "plus" "plus" KP f fd)(T:Txt K mg)(HL:i5 P w K mg base "fraction" 2 ["top","bottom"] (spD K 2 U3)):FnOk P w K mg base CX0 3 f fd ["one","other"] (spD K 2 iS):=by
 refine w8 Fn AO λc A a s H E b=>?_
 exact#v[_,(i6<|n5<|l4 HL b<|j6 (i9 (v5 rfl) (Ev.bw<|i9 (m6 rfl) (Ev.bw<|k9 0)<|Ev.bw<|k9 1)<|Ev.bw<|i9 (m6 rfl) (Ev.bw<|k9 1)<|Ev.bw<|k9 0)<|j6 (i9 (m6 rfl) (Ev.bw<|k9 0)<|Ev.bw<|k9 1) g9)]
def uV:FnScope ["one","other"] ["one","other"] (defScope JY):={}
abbrev fR:=fV
def LD {f:SQ}{fd:SY}(Fn:Fun K "minus" "minus" JY f fd)(T:Txt K mg)(HL:i5 P w K mg base "fraction" 2 ["top","bottom"] (spD K 2 U3)):FnOk P w K mg base CX0 3 f fd ["one","other"] (spD K 2 fR):=by
 refine w8 Fn uV λc A a s H E b=>?_
 exact#v[_,(i6<|n5<|l4 HL b<|j6 (i9 dW (Ev.bw<|i9 (m6 rfl) (Ev.bw<|k9 0)<|Ev.bw<|k9 1)<|Ev.bw<|i9 (m6 rfl) (Ev.bw<|k9 1)<|Ev.bw<|k9 0)<|j6 (i9 (m6 rfl) (Ev.bw<|k9 0)<|Ev.bw<|k9 1) g9)]
def xB:FnScope ["one","other"] ["one","other"] (defScope JZ):={}
abbrev bu:=fP
def LF {f:SQ}{fd:SY}(Fn:Fun K "times" "times" JZ f fd)(T:Txt K mg)(HL:i5 P w K mg base "fraction" 2 ["top","bottom"] (spD K 2 U3)):FnOk P w K mg base CX0 3 f fd ["one","other"] (spD K 2 bu):=by
 refine w8 Fn xB λc A a s H E b=>?_
 exact#v[_,(i6<|n5<|l4 HL b<|j6 (i9 (m6 rfl) (Ev.bw<|k9 0)<|Ev.bw<|k9 1)<|j6 (i9 (m6 rfl) (Ev.bw<|k9 0)<|Ev.bw<|k9 1) g9)]
def Aa:FnScope ["one","other"] ["one","other"] (defScope KQ):={}
abbrev kR:=Bz.c_over
def LN {f:SQ}{fd:SY}(Fn:Fun K "over" "over" KQ f fd)(T:Txt K mg)(HL:i5 P w K mg base "fraction" 2 ["top","bottom"] (spD K 2 U3)):FnOk P w K mg base CX0 3 f fd ["one","other"] (spD K 2 kR):=by
 refine w8 Fn Aa λc A a s H E b=>?_
 exact#v[_,(i6<|n5<|l4 HL b<|j6 (i9 (m6 rfl) (Ev.bw<|k9 0)<|Ev.bw<|k9 1)<|j6 (i9 (m6 rfl) (Ev.bw<|k9 0)<|Ev.bw<|k9 1) g9)]
def zj:FnScope ["one","other"] ["one","other"] (defScope KR):={}
def Y8:List DV->M My:=I0 ["one","other"]<|mRt<|s2 ltD (s2 u9 (s2 ixD (sW 0)<|sC<|.int 0)<|s2 ixD (sW 1)<|sC<|.int 1)<|s2 u9 (s2 ixD (sW 1)<|sC<|.int 0)<|s2 ixD (sW 0)<|sC<|.int 1
def LO {f:SQ}{fd:SY}(Fn:Fun K "less" "less" KR f fd)(T:Txt K mg) :FnOk P w K mg base CX0 1 f fd ["one","other"] (spD K 2 Y8):=by
 refine w8 Fn zj λb A a s H E c=>?_
 exact#v[_,(i6<|n5<|aD fk (Ev.bw<|i9 (m6 rfl) (Ev.bw<|k9 0)<|Ev.bw<|k9 1)<|Ev.bw<|i9 (m6 rfl) (Ev.bw<|k9 1)<|Ev.bw<|k9 0)]
def nu:FnScope ["beats"] ["beats"] (defScope Iw):={}
def T7:List DV->M My:=I0 ["beats"]<|mRt<|sN gw<|d7 (sLC (N9<|sW 0) 2 [] (P4 2<|u5 (bN 0)<|u5 (bN 1) P9) K9<|sV 1) l0
def Kx {f:SQ}{fd:SY}(Fn:Fun K "all_lots" "all_lots" Iw f fd)(T:Txt K mg) :FnOk P w K mg base CX0 1 f fd ["beats"] (spD K 1 T7):=by
 refine w8 Fn nu λb A a s H E c=>?_
 exact#v[_,(i6<|n5<|u6 (rO rfl rfl) T.sum vI<|n9 (Ev.bw<|aq (defScope Iw) ["beat","lot"] (O4<|k8 0) (G8 (n:=2) rfl<|j9 (Q0 (i:=0))<|j9 (Q0 (i:=1)) B7) D9<|j8 1) v7)]
def dm:FnScope ["parts","told","part"] ["parts"] (defScope Ka):={}
abbrev dJ:=Bz.c_added
def LG {f:SQ}{fd:SY}(Fn:Fun K "added" "added" Ka f fd)(T:Txt K mg)(Jf:i5 P w K mg base "plus" 3 ["one","other"] (spD K 2 iS)):FnOk P w K mg base CX0 4 f fd ["parts"] (spD K 1 dJ):=by
 refine w8 Fn dm λc A a s H E b=>?_
 exact#v[_,(d9 (p0 1 dm.nd<|zi T.g_NOUGHT)
   (d9 (O2 rfl (W0<|j8 0) (P2 (i:=2) dm.nd)<|i6<|p0 1 dm.nd<|l4 Jf b<|j6 (j8 1)<|j6 (j8 2) g9)
   (i6<|n5<|j8 1)))]
def eS:FnScope ["beats"] ["beats"] (defScope HX):={}
def E3:List DV->M My:=I0 ["beats"]<|mRt<|sN iO<|d7 (yL (N9<|sW 0) 4 [] (P4 2<|u5 (bN 0)<|u5 (bN 1) P9) K9 (N9<|sV 0) (P4 2<|u5 (bN 2)<|u5 (bN 3) P9) K9<|sV 3)<|d7 (sC<|.int 0) l0
def Jg {f:SQ}{fd:SY}(Fn:Fun K "greatest_work" "greatest_work" HX f fd)(T:Txt K mg) :FnOk P w K mg base CX0 1 f fd ["beats"] (spD K 1 E3):=by
 refine w8 Fn eS λb A a s H E c=>?_
 exact#v[_,(i6<|n5<|yS rfl rfl T.max (Ev.bw<|EB (defScope HX) ["beat","lot","rank","work"] (O4<|k8 0) (G8 (n:=2) rfl<|j9 (Q0 (i:=0))<|j9 (Q0 (i:=1)) B7) D9 (W0<|j8 0) (G8 (n:=2) rfl<|j9 (Q0 (i:=2))<|j9 (Q0 (i:=3)) B7) D9<|j8 3)<|Ev.bw f9)]
def dh:FnScope ["beats","thing"] ["beats","thing"] (defScope HS):={}
def C4:List DV->M My:=I0 ["beats","thing"] (mSq (mIf (uOr (df<|uT<|i4 E9<|vD (sC<|.int 2)<|vD (sV 1) m7)<|uOr (df<|uT<|i4 G1<|vD (s2 ixD (sW 1)<|sC<|.int 0) m7)<|df<|uT<|s1 (P5 "tuple")<|s2 ixD (sW 1)<|sC<|.int 1) (mRt<|sC<|.bool false) mNx)
  (mRt<|ip (s2 geD (sN fJ<|d7 (s2 ixD (sW 1)<|sC<|.int 1) l0)<|sN rp<|d7 (sC<|.int 1)<|d7 (i4 E3<|vD (sV 0) m7) l0)<|sN yg<|d7 (sLC (N9<|s2 ixD (sW 1)<|sC<|.int 1) 1 [] (bN 0) K9<|i4 G1<|vD (sV 0) m7) l0))
def IZ {f:SQ}{fd:SY}(Fn:Fun K "is_shaped_back" "is_shaped_back" HS f fd)(T:Txt K mg)(HQ:i5 P w K mg base "is_tuple_of" 1 ["many","thing"] (spD K 2 E9))(Il:i5 P w K mg base "is_fraction" 3 ["thing"] (spD K 1 G1))(Im:i5 P w K mg base "greatest_work" 1 ["beats"] (spD K 1 E3)):FnOk P w K mg base CX0 4 f fd ["beats","thing"] (spD K 2 C4):=by
 refine w8 Fn dh λc A b s H E a=>?_
 exact#v[_,(d9 (T9 (Ew.t<|fx (U6<|G6<|Ev.bw<|l4 HQ a<|j6 f9<|j6 (j8 1) g9)<|fx (U6<|G6<|Ev.bw<|l4 Il a<|j6 (k9 1) g9)<|kf<|U6<|G6<|Ev.bw<|K4 "tuple" (Ev.bw<|k9 1) (by decide) T.isinstance T.tuple E7) (i6<|n5 bC) D8)
   (i6<|n5<|aO (aD Br (Ev.bw<|u6 (aa rfl) T.len Z3<|n9 (Ev.bw<|k9 1) v7)<|Ev.bw<|u6 (zM rfl rfl) T.max pI<|n9 (Ev.bw f9)<|n9 (Ev.bw<|l4 Im a<|j6 (j8 0) g9) v7)<|bV<|u6 (Dg rfl rfl) T.all Dk<|n9 (Ev.bw<|aq (defScope HS) ["part"] (O4<|Ev.bw<|k9 1) (Q0 (i:=0)) D9<|l4 Il a<|j6 (j8 0) g9) v7))]
def lR:FnScope ["heights"] ["heights"] (defScope Iy):={}
def T2:List DV->M My:=I0 ["heights"]<|mRt<|sLC (qv (s2 D2 (Q3<|d7 (sC<|.tuple [.int 0,.int 1]) l0)<|sW 0)<|sV 0) 2 [] (P4 2<|u5 (bN 0)<|u5 (bN 1) P9) K9<|i4 fR<|vD (sV 1)<|vD (sV 0) m7
def Ky {f:SQ}{fd:SY}(Fn:Fun K "steps_of" "steps_of" Iy f fd)(T:Txt K mg)(Kd:i5 P w K mg base "minus" 3 ["one","other"] (spD K 2 fR)):FnOk P w K mg base CX0 4 f fd ["heights"] (spD K 1 T2):=by
 refine w8 Fn lR λc A a s H E b=>?_
 exact#v[_,(i6<|n5<|aq (defScope Iy) ["ahead","height_here"] (Ei.bw<|zx (i9 (v5 rfl) (Ev.bw<|B8<|d8 (zi T.g_NOUGHT) l9)<|k8 0) (j8 0) T.zip) (G8 (n:=2) rfl<|j9 (Q0 (i:=0))<|j9 (Q0 (i:=1)) B7) D9<|l4 Kd b<|j6 (j8 1)<|j6 (j8 0) g9)]
def cM:FnScope ["parts","told","part"] ["parts"] (defScope Kb):={}
def dI:List DV->M My:=I0 ["parts","told","part"] (mSq (x9 1<|s2 ixD (sW 0)<|sC<|.int 0)
  (mSq (W9 (N9<|sV 0) (bN 2)<|mIf (uT<|i4 Y8<|vD (sV 2)<|vD (sV 1) m7) (x9 1<|sV 2) mNx)
  (mRt<|sV 1)))
def LH {f:SQ}{fd:SY}(Fn:Fun K "least" "least" Kb f fd)(T:Txt K mg)(IM:i5 P w K mg base "less" 1 ["one","other"] (spD K 2 Y8)):FnOk P w K mg base CX0 2 f fd ["parts"] (spD K 1 dI):=by
 refine w8 Fn cM λc A a s H E b=>?_
 exact#v[_,(d9 (p0 1 cM.nd<|k9 0)
   (d9 (O2 rfl (W0<|j8 0) (P2 (i:=2) cM.nd)<|i6<|T9 (G6<|Ev.bw<|l4 IM b<|j6 (j8 2)<|j6 (j8 1) g9) (i6<|p0 1 cM.nd<|j8 2) D8)
   (i6<|n5<|j8 1)))]
def A6:FnScope ["beats","heights","lots","beat","lot","rank","work","weighed"] ["beats","heights"] (defScope HW):={}
def G0:List DV->M My:=I0 ["beats","heights","lots","beat","lot","rank","work","weighed"] (mSq (fA 2 9)
  (mSq (W9 (N9<|sV 0) (P4 2<|u5 (bN 3)<|u5 (bN 4) P9)<|W9 (N9<|sV 3) (P4 2<|u5 (bN 5)<|u5 (bN 6) P9)<|qy 2 (s2 D2 (kh 2 (sV 6)<|sC<|.int 0)<|sW 4)<|sV 6)
  (mSq (x9 7<|sLC (jT 2) 2 [1] (P4 2<|u5 (bN 0)<|u5 (bN 1) P9) K9<|i4 bu<|vD (Q3<|d7 (sV 1)<|d7 (sC<|.int 1) l0)<|vD (s2 ixD (sW 2)<|s2 nE (sW 0)<|sC<|.int 1) m7)
  (mRt<|i4 kR<|vD (i4 dJ<|vD (sV 7) m7)<|vD (Q3<|d7 (i4 T7<|vD (sV 0) m7)<|d7 (sC<|.int 1) l0) m7))))
def JA {f:SQ}{fd:SY}(Fn:Fun K "mean_height" "mean_height" HW f fd)(T:Txt K mg)(IR:i5 P w K mg base "times" 3 ["one","other"] (spD K 2 bu))(KS:i5 P w K mg base "over" 3 ["one","other"] (spD K 2 kR))(IU:i5 P w K mg base "all_lots" 1 ["beats"] (spD K 1 T7))(Ke:i5 P w K mg base "added" 4 ["parts"] (spD K 1 dJ)):FnOk P w K mg base CX0 5 f fd ["beats","heights"] (spD K 2 G0):=by
 refine w8 Fn A6 λd A b s H E a=>?_
 have c:(A.deeper<|PyProof.Rows.envOfC "mean_height" (defScope HW) s.heap.objs.size f d).units+65<Tv:=by have:=a.un;omega
 exact#v[_,(d9 (Ab 2 A6.nd)
   (d9 (O2 rfl (W0<|j8 0) (G8 (n:=2) rfl<|j9 (P2 (i:=3) A6.nd)<|j9 (P2 (i:=4) A6.nd) B7)<|i6<|O2 rfl (W0<|j8 3) (G8 (n:=2) rfl<|j9 (P2 (i:=5) A6.nd)<|j9 (P2 (i:=6) A6.nd) B7)<|i6<|Aw 2 (MT (QB (by decide) _) c) (i9 (v5 rfl) (Ev.bw<|uY 2 (j8 6) f9 rfl #v[rfl,rfl,rfl,rfl])<|k8 4) (j8 6) rfl)
   (d9 (mJ 7 (hN:=A6.nd) (defScope HW) ["work","lot","heights"] (sP 2) (G8 (n:=2) rfl<|j9 (Q0 (i:=0))<|j9 (Q0 (i:=1)) B7) D9<|l4 IR a<|j6 (B8<|d8 (j8 1)<|d8 f9 l9)<|j6 (L8 (L4 rfl) (k8 2)<|Ev.bw<|i9 dW (k8 0)<|Ev.bw f9) g9)
   (i6<|n5<|l4 KS a<|j6 (l4 Ke a<|j6 (j8 7) g9)<|j6 (B8<|d8 (l4 IU a<|j6 (j8 0) g9)<|d8 f9 l9) g9))))]
def J3:FnScope ["beats","hands","thing","drop","heights","steps","k","rise"] ["beats","hands","thing"] (defScope IG):={}
def HP:List DV->M My:=I0 ["beats","hands","thing","drop","heights","steps","k","rise"] (mSq (mIf (df<|uT<|i4 C4<|vD (sV 0)<|vD (sV 2) m7) (bX "NoPaper"<|d7 (sC<|.str "shape")<|d7 (s1 pd<|sC<|.int 1) l0) mNx)
  (mSq (uL (P4 2<|u5 (bN 3)<|u5 (bN 4) P9)<|sV 2)
  (mSq (mIf (df<|uT<|i4 Y8<|vD (sC<|.tuple [.int 0,.int 1])<|vD (sV 3) m7) (bX "NoPaper"<|d7 (sC<|.str "drop")<|d7 (s1 pd<|sC<|.int 1) l0) mNx)
  (mSq (x9 5<|i4 T2<|vD (sV 4) m7)
  (mSq (W9 (rG<|sV 5) (P4 2<|u5 (bN 6)<|u5 (bN 7) P9)<|mIf (df<|uT<|i4 Y8<|vD (sC<|.tuple [.int 0,.int 1])<|vD (sV 7) m7) (bX "NoPaper"<|d7 (sC<|.str "step")<|d7 (sV 6) l0) mNx)
  (mSq (mIf (uT<|i4 Y8<|vD (i4 bu<|vD (Q3<|d7 (sV 1)<|d7 (sC<|.int 1) l0)<|vD (i4 dI<|vD (sV 5) m7) m7)<|vD (i4 iS<|vD (i4 G0<|vD (sV 0)<|vD (sV 4) m7)<|vD (sV 3) m7) m7) (bX "NoPaper"<|d7 (sC<|.str "fall")<|d7 (s1 pd<|sC<|.int 1) l0) mNx)
  (mRt<|sC<|.bool true)))))))
def Kf {f:SQ}{fd:SY}(Fn:Fun K "lets_back" "lets_back" IG f fd)(T:Txt K mg)(Ik:i5 P w K mg base "is_shaped_back" 4 ["beats","thing"] (spD K 2 C4))(IM:i5 P w K mg base "less" 1 ["one","other"] (spD K 2 Y8))(IV:i5 P w K mg base "steps_of" 4 ["heights"] (spD K 1 T2))(Jf:i5 P w K mg base "plus" 3 ["one","other"] (spD K 2 iS))(Iv:i5 P w K mg base "mean_height" 5 ["beats","heights"] (spD K 2 G0))(IR:i5 P w K mg base "times" 3 ["one","other"] (spD K 2 bu))(Kg:i5 P w K mg base "least" 2 ["parts"] (spD K 1 dI)):FnOk P w K mg base (CXe P w) 6 f fd ["beats","hands","thing"] (spX K mg 3 HP):=by
 refine Ar Fn J3 λo A m s H E d=>?_
 obtain⟨k,l,h,j,e,g,c,a,b⟩:=T.err_NoPaper;exact#v[_,(Y1 (qP (U6<|G6<|Ev.bw<|l4 Ik d<|j6 (j8 0)<|j6 (j8 2) g9) (dE<|cL "NoPaper" fS c a (d.mono<|by decide) b.mgc<|d8 eL<|d8 (nh il<|Ev.bw f9) l9)<|ij D8)
   (Y1 (Bn<|pV (j8 2)<|G8 (n:=2) rfl<|j9 (P2 (i:=3) J3.nd)<|j9 (P2 (i:=4) J3.nd) B7)
   (Y1 (qP (U6<|G6<|Ev.bw<|l4 IM d<|j6 (zi T.g_NOUGHT)<|j6 (j8 3) g9) (dE<|cL "NoPaper" fS c a (d.mono<|by decide) b.mgc<|d8 eL<|d8 (nh il<|Ev.bw f9) l9)<|ij D8)
   (Y1 (Bn<|p0 5 J3.nd<|l4 IV d<|j6 (j8 4) g9)
   (Y1 (DK rfl sM (yR (j8 5) T.enumerate) (G8 (n:=2) rfl<|j9 (P2 (i:=6) J3.nd)<|j9 (P2 (i:=7) J3.nd) B7)<|dE<|qP (U6<|G6<|Ev.bw<|l4 IM d<|j6 (zi T.g_NOUGHT)<|j6 (j8 7) g9) (dE<|cL "NoPaper" fS c a (d.mono<|by decide) b.mgc<|d8 eL<|d8 (j8 6) l9)<|ij D8)
   (Y1 (qP (G6<|Ev.bw<|l4 IM d<|j6 (l4 IR d<|j6 (B8<|d8 (j8 1)<|d8 f9 l9)<|j6 (l4 Kg d<|j6 (j8 5) g9) g9)<|j6 (l4 Jf d<|j6 (l4 Iv d<|j6 (j8 0)<|j6 (j8 4) g9)<|j6 (j8 3) g9) g9) (dE<|cL "NoPaper" fS c a (d.mono<|by decide) b.mgc<|d8 eL<|d8 (nh il<|Ev.bw f9) l9)<|ij D8)
   (ij<|i6<|n5 bC)))))))]
def lL (K:Qf):Sp:=λf H Q _=>∃(a:SQ) (b:List Int),f=[.ref a]/\SqL K H a (b.map V.int)/\b.length<=63 /\
 ∀(d c:SQ) (e:Hp),Feeds.At d c e (lS b)->j5 H e->Q (.ref d) e
def Gf {ns:List Int}(h:ns.length<=63):eF (ns.map V.int) none (some 63)=ns.map V.int:=by unfold eF;have e:HT.sIx (ns.map V.int).length (ns.map V.int).length (some 63)=min 63 (ns.map V.int).length:=HT.sIx_nat _ _ 63;rw[e,HT.sIx_none,List.drop_zero,Nat.sub_zero,OD (by rw[Mv];omega)]
def kz:FnScope ["_law_script"] ["_law_script"] (defScope IH):={}
def Kh {f:SQ}{fd:SY}(F:Fun K "_law_feed" "_law_feed" IH f fd):FnOk P w K mg base CX0 1 f fd ["_law_script"] (lL K):=by
 refine F.ok kz (λl H Q E h=>?_) (λr A d s H l Q E t h=>?_)
 .obtain⟨a,i,rfl,_⟩:=h;rfl
 .obtain⟨a,i,rfl,n,hl,k⟩:=h;refine#v[_,S5<|eJ<|kq<|n6 (mG qU (pv 0) qJ<|lN u0)<|n6 u0<|n6 u0 B1,?_];refine#v[_,rfl,63,rfl,a,_,rfl,n,λq m=>#v[NS<|tV (by show 3<=1000;decide),λp g=>?_]];rw[Gf hl]at g ⊢;have c:q≠p:=u7 j3 g;refine k p q _ #v[j3,by rw[i8 c];exact j3,hl,(by show(0:Int)<=0;decide),(by show(0:Int)<=0;decide),Ow c] λb o e=>?_
  have j:upd H q (.lst<|i.map V.int) b=some o:=by rw[i8<|u7 e m];exact e
  rw[i8<|u7 j g];exact j
def J0:FnScope ["_law_feed_here","_law_many","_law_found","_law_at","_law_cell","_law_first"] ["_law_feed_here","_law_many"] (defScope II):={}
def Ki {f:SQ}{fd:SY}(Fn:Fun K "_law_draw" "_law_draw" II f fd)(T:Txt K mg):FnOk P w K mg base CX0 1 f fd ["_law_feed_here","_law_many"] (spD K 2 A2):=by
 refine Fn.ok J0 (λvs H Q E h=>?_) (λa1 A an s H vs Q E hr h=>?_)
 .obtain⟨G,B,F,U,d,F',hl,_⟩:=h;exact hl
 .obtain⟨G,B,F,U,dd,F',hl,fB,bk,fa,ha,R,q⟩:=h;obtain⟨m,rfl⟩:∃m,U=[.feed,.dat<|.int m]:=by
   unfold A2 at R;split at R
   .exact#v[_,rfl]
   .cases R
  obtain⟨v,r,rfl,_,⟨d,c,rfl,rfl⟩,v2,r2,rfl,_,Y,rfl⟩:=ha;have Y:v2 = .int m:=by simpa only[DVr,c8] using Y
  subst Y;obtain⟨⟨r0,F1⟩,e1,e2⟩:=bS9 R;cases e2;replace e1:fm m F=some (r0,F1):=e1;have ac:0<m/\m<1073741824/\F.t<199999:=by
   unfold fm at e1;split at e1
   .assumption
   .cases e1
  obtain⟨M,O,af⟩:=ac;obtain⟨j,a,l,t⟩:=F;obtain⟨⟨S,hc,L,al,ap,N⟩,am⟩:=fa;simp only at S hc L al ap af;have k:∀(r:Int) (H':Hp) (F2:FdS),fm m #v[j,a,l,t]=some (r,F2)->Feeds.At d c H' F2->(∀b o,H b=some o->b≠d->H' b=some o)->Q (.int r) H':=λr H' F2 er a0 kp=>by rw[er]at e1;cases e1;exact q _ H' (λb o e nb=>kp b o e λz=>nb<|by simp[m8,z]) #v[a0,am.but S #v[λ_ z=>(by cases z),λ_ z=>(by cases z)] kp] c8.int
  have ab:fm m #v[j,a,l,t]=some (if 0<l then(l % m,#v[j,a,l / m,t+1]) else if 10 ^ 18<=(FdS.cellL #v[j,a,l,t])/\a<j.length then((FdS.cellL #v[j,a,l,t]) % m,#v[j,a+1,(FdS.cellL #v[j,a,l,t]) / m,t+1]) else((FdS.mixL #v[j,a,l,t]) % m,#v[j,a+1,l,t+1])):=by unfold fm;rw[Mx #v[M,O,af]]
  have W:c≠d:=Ow N;refine#v[_,B6 (nr (dG xt (bH O5 (pv 0) u0<|λ_ _=>rfl) u0<|eI _)
    (B6 (O1 (i:=2) J0.nd rfl (Or.inl rfl)<|C3 Y7 (bH O5 (pv 0) u0<|λ_ _=>rfl)<|pv 1)
     (B6 (jQ (C3 jY (bH O5 (pv 0) u0<|λ_ _=>rfl)<|pv 1)<|pY (pv 0) u0 gQ<|λ_=>rfl)<|S5<|eJ<|pv 2)) fU)
   (B6 (O1 (i:=3) J0.nd rfl (Or.inl rfl)<|bH O5 (pv 0) u0<|λ_ _=>rfl)
   (B6 (jQ (C3 ck (pv 3) u0)<|pY (pv 0) u0 gQ<|λ_=>rfl)
   (B6 (O1 (i:=4) J0.nd rfl (Or.inl rfl) (mH (dG xt (M6 R9 (by rfl) T.len PySem.boot_len<|n6 (bH O5 (pv 0) u0<|λ_ _=>rfl) B1) u0<|eI _)
    (bH O5 (bH O5 (pv 0) u0<|λ_ _=>rfl) (C3 Y7 (pv 3)<|M6 R9 (by rfl) T.len PySem.boot_len<|n6 (bH O5 (pv 0) u0<|λ_ _=>rfl) B1)<|λ_ _=>rfl) u0))
   (B6 (nr (PW.pt<|lD (dG BJ (pv 4) (C3 vP u0 u0)<|eI _)<|kF<|dG Bp (pv 3) (M6 R9 (by rfl) T.len PySem.boot_len<|n6 (bH O5 (pv 0) u0<|λ_ _=>rfl) B1)<|eI _)
    (B6 (jQ (C3 jY (pv 4)<|pv 1)<|pY (pv 0) u0 gQ<|λ_=>rfl)<|S5<|eJ<|C3 Y7 (pv 4)<|pv 1) fU)
   (B6 (O1 (i:=5) J0.nd rfl (Or.inl rfl)<|C3 Y7 (C3 bO (C3 ck (C3 ck (C3 ck (C3 Y7 (pv 4) u0)<|C3 bO (C3 bO u0<|pv 3)<|pv 3)<|C3 bO u0<|pv 3) u0) u0) u0)
   (B6 (O1 (i:=5) J0.nd rfl (Or.inl rfl)<|C3 Y7 (C3 ck (C3 ck (C3 bO (pv 5)<|pv 5)<|C3 bO u0<|pv 3) u0) u0)
   (S5<|eJ<|C3 Y7 (C3 jY (C3 Y7 (C3 bO (pv 5) u0) u0) u0)<|pv 1))))))),?_]
  refine#v[_,rfl,d,_,_,_,rfl,rfl,SqL.of S,rfl,_,_,rfl,rfl,_,rfl,?_];refine ub (λg=>?_) (λg=>?_)
  .have g:0<l:=MS g;refine#v[_,rfl,d,_,_,_,rfl,rfl,SqL.of S,rfl,_,rfl,_,_,rfl,rfl,M,?_];refine#v[_,rfl,d,_,_,_,rfl,rfl,SqL.of S,rfl,_,rfl,_,_,rfl,rfl,#v[M,O],_,rfl,d,_,_,2,rfl,rfl,S,rfl,_,rfl,?_];exact k _ _ #v[j,a,l / m,t+1] (by rw[ab,Mx g]) #v[j3,by rw[i8 W];exact hc,L,al,by simp only;omega,N] (λb o e D=>by rw[i8 D];exact e)
  .have g:¬0<l:=λz=>g<|MW z
   refine#v[_,rfl,d,_,_,_,rfl,rfl,SqL.of S,rfl,?_];refine#v[_,rfl,_,_,rfl,rfl,_,rfl,d,_,_,1,rfl,rfl,S,rfl,?_];have C:(upd H d<|.lst [.ref c,.int<|a+1,.int l]) d=some (.lst [.ref c,.int<|a+1,.int l]):=j3;have J:(upd H d<|.lst [.ref c,.int<|a+1,.int l]) c=some (.lst<|j.map V.int):=by rw[i8 W];exact hc
   have X:∀b o,H b=some o->b≠d->(upd H d<|.lst [.ref c,.int<|a+1,.int l]) b=some o:=λb o e D=>by rw[i8 D];exact e
   show yi _ _ _ _<|upd H d<|.lst [.ref c,.int<|a+1,.int l];generalize upd H d (.lst [.ref c,.int<|a+1,.int l])=H1 at C J X;have big:10 ^ 18<=(FdS.cellL #v[j,a,l,t])/\a<j.length->Q (.int<|FdS.cellL #v[j,a,l,t] % m) (upd H1 d<|.lst [.ref c,.int<|a+1,.int<|FdS.cellL #v[j,a,l,t] / m]):=λD =>
    k _ _ #v[j,a+1,FdS.cellL #v[j,a,l,t] / m,t+1] (by rw[ab,MC g,Mx D]) #v[j3,by rw[i8 W];exact J,L,by simp only;omega,by simp only;omega,N] (λb o e D=>by rw[i8 D];exact X b o e D)
   have n:¬(10 ^ 18<=(FdS.cellL #v[j,a,l,t])/\a<j.length)->Q (.int<|FdS.mixL #v[j,a,l,t] % m) H1:=λD =>
    k _ _ #v[j,a+1,l,t+1] (by rw[ab,MC g,MC D]) #v[C,J,L,by simp only;omega,by simp only;omega,N] X
   unfold FdS.mixL FdS.fst at n;simp only at n;refine#v[_,rfl,d,_,_,_,rfl,rfl,SqL.of C,rfl,c,_,rfl,.inl<|SqL.of J,_,_,rfl,rfl,_,rfl,?_];refine ub (λI=>?_) (λhe=>?_)
   .have I:=MS I;rw[Mv]at I;have h0:¬j=[]:=by intro e;rw[e]at I;simp at I
    refine#v[_,rfl,d,_,_,_,rfl,rfl,SqL.of C,rfl,_,rfl,_,rfl,d,_,_,_,rfl,rfl,SqL.of C,rfl,c,_,rfl,.inl<|SqL.of J,_,_,rfl,rfl,(by rw[Mv];exact I),c,_,_,_,rfl,rfl,SqL.of J,wO (F:=#v[j,a,l,t]) h0,?_];generalize FdS.cellL #v[j,a,l,t]=z at big n;obtain⟨q1,q2⟩:=nX (x:=(z % 1000003+47*a*a+31*a+907)*40009) (m:=999961) (by decide);have tl:¬(10 ^ 18<=(z:Int)/\a<j.length)->Q (.int<|((z % 1000003+47*a*a+31*a+907)*40009 % 999961*((z % 1000003+47*a*a+31*a+907)*40009 % 999961)+38317*a+101) % 2097143*48271 % 2147483629 / 7 % m) H1:=n;refine#v[_,rfl,_,_,rfl,rfl,#v[by decide,by decide,by decide],_,_,rfl,rfl,_,rfl,?_];refine ub (λu=>#v[_,rfl,_,rfl,d,_,_,_,rfl,rfl,SqL.of C,rfl,c,_,rfl,.inl<|SqL.of J,_,_,rfl,rfl,_,rfl,ub (λp=>?_)<|λp=>?_]) (λu=>FE ?_)
    .have u:=MS u;have p:=MS p;rw[Mv]at p;exact#v[_,rfl,_,rfl,_,_,rfl,rfl,#v[M,O],_,rfl,d,_,_,2,rfl,rfl,C,rfl,_,rfl,_,rfl,_,_,rfl,rfl,M,big #v[u,p]]
    .have Z:=tl λD=>p (MW (by rw[Mv];exact D.2))
     walk_at "ka"
    .have Z:=tl λD=>u<|MW D.1
     walk_at "ka"
   .have I:¬(0:Int)<(j.map V.int).length:=λz=>he<|MW z
    have h0:j=[]:=by
     cases j with
     | nil=>rfl
     | cons x y=>exact absurd (by simp only[Mv,ME];omega) I
    have ad:FdS.cellL #v[j,a,l,t]=0:=by unfold FdS.cellL;rw[Mx h0]
    rw[ad]at big n;obtain⟨q1,q2⟩:=nX (x:=((0:Int) % 1000003+47*a*a+31*a+907)*40009) (m:=999961) (by decide);have tl:¬(10 ^ 18<=((0:Int):Int)/\a<j.length)->Q (.int<|(((0:Int) % 1000003+47*a*a+31*a+907)*40009 % 999961*(((0:Int) % 1000003+47*a*a+31*a+907)*40009 % 999961)+38317*a+101) % 2097143*48271 % 2147483629 / 7 % m) H1:=n;refine#v[_,rfl,_,_,rfl,rfl,#v[by decide,by decide,by decide],_,_,rfl,rfl,_,rfl,?_];refine ub (λu=>#v[_,rfl,_,rfl,d,_,_,_,rfl,rfl,SqL.of C,rfl,c,_,rfl,.inl<|SqL.of J,_,_,rfl,rfl,_,rfl,ub (λp=>?_)<|λp=>?_]) (λu=>FE ?_)
    .have u:=MS u;have p:=MS p;rw[Mv]at p;exact#v[_,rfl,_,rfl,_,_,rfl,rfl,#v[M,O],_,rfl,d,_,_,2,rfl,rfl,C,rfl,_,rfl,_,rfl,_,_,rfl,rfl,M,big #v[u,p]]
    .have Z:=tl λD=>p (MW (by rw[Mv];exact D.2))
     walk_at "ka"
    .have Z:=tl λD=>u<|MW D.1
     walk_at "ka"
def Z0:FnScope ["_law_top","_law_bottom","_law_one","_law_other"] ["_law_top","_law_bottom"] (defScope IJ):={}
abbrev w4:=Bz.c_lfrac
def Kj {f:SQ}{fd:SY}(Fn:Fun K "_law_frac" "_law_frac" IJ f fd)(T:Txt K mg) :FnOk P w K mg base CX0 1 f fd ["_law_top","_law_bottom"] (spD K 2 w4):=by
 refine w8 Fn Z0 λb A a s H E c=>?_
 exact#v[_,(d9 (lB 2 3 rfl Z0.nd<|d8 (u6 (pJ) T.abs qo<|n9 (k8 0) v7)<|d8 (j8 1) l9)
   (d9 (mw (C8 nA (k8 3)<|Ev.bw f9)<|i6<|lB 2 3 rfl Z0.nd<|d8 (j8 3)<|d8 (i9 ya (k8 2)<|k8 3) l9)
   (i6<|n5<|B8<|d8 (i9 gf (k8 0)<|k8 2)<|d8 (i9 gf (k8 1)<|k8 2) l9)))]
def J9:FnScope ["_law_feed_here","_law_found","_law_k","_law_comers","_law_beat"] ["_law_feed_here"] (defScope HU):={}
def J5:List DV->M My:=I0 ["_law_feed_here","_law_found","_law_k","_law_comers","_law_beat"] (mSq (fA 1 0)
  (mSq (W9 (bJ<|d7 (s2 D2 (sC<|.int 1)<|i4 A2<|vF 0<|vD (sC<|.int 4) m7) l0) (bN 2) (mSq (x9 3<|s2 ixD (sC<|.list [.int 0,.int 0,.int 1,.int 1,.int 2])<|i4 A2<|vF 0<|vD (sC<|.int 5) m7)
  (mSq (x9 4<|sN aA<|d7 (sLC (bJ<|d7 (sV 3) l0) 1 [0] (bN 0) K9<|Q3<|d7 (i4 A2<|vF 1<|vD (sC<|.int 2) m7)<|d7 (s2 D2 (sC<|.int 1)<|i4 A2<|vF 1<|vD (sC<|.int 3) m7) l0) l0)
  (qB 1 0 (s2 D2 (sC<|.int 1)<|i4 A2<|vF 0<|vD (sC<|.int 12) m7)<|sV 4))))
  (mRt<|sN aA<|d7 (sLC (N9<|sN gZ<|d7 (mI 1 0) l0) 1 [1] (bN 0) K9<|Q3<|d7 (sV 0)<|d7 (mT 1 0<|sV 0) l0) l0)))
def JN {f:SQ}{fd:SY}(Fn:Fun K "_law_beats" "_law_beats" HU f fd)(T:Txt K mg)(HC:i5 P w K mg base "_law_draw" 1 ["_law_feed_here","_law_many"] (spD K 2 A2)):FnOk P w K mg base CX0 2 f fd ["_law_feed_here"] (spD K 1 J5):=by
 refine w8 Fn J9 λd A c s H E b=>?_
 have a:(A.deeper<|PyProof.Rows.envOfC "_law_beats" (defScope HU) s.heap.objs.size f d).units+65<Tv:=by have:=b.un;omega
 exact#v[_,(d9 (zX 1 0 J9.nd)
   (d9 (O2 rfl (Z8 (d8 (i9 (v5 rfl) (Ev.bw f9)<|Ev.bw<|l4 HC b<|Q4 0<|j6 f9 g9) l9) T.range) (P2 (i:=2) J9.nd) (d9 (p0 3 J9.nd<|L8 (L4 rfl) (Ev.bw<|U9 (.list [.int 0,.int 0,.int 1,.int 1,.int 2]) rfl)<|Ev.bw<|l4 HC b<|Q4 0<|j6 f9 g9)
   (d9 (p0 4 J9.nd<|S9 (dQ rfl) T.tuple E7<|n9 (Ev.bw<|aq (defScope HU) ["_law_j","_law_feed_here"] (Ei.bw<|Z8 (d8 (j8 3) l9) T.range) (Q0 (i:=0)) D9<|B8<|d8 (l4 HC b<|Q4 1<|j6 f9 g9)<|d8 (i9 (v5 rfl) (Ev.bw f9)<|Ev.bw<|l4 HC b<|Q4 1<|j6 f9 g9) l9) v7)
   (i6<|zv 1 0 (MT (QB (by decide) _) a) (i9 (v5 rfl) (Ev.bw f9)<|Ev.bw<|l4 HC b<|Q4 0<|j6 f9 g9) (j8 4) rfl))))
   (i6<|n5<|S9 (dQ rfl) T.tuple E7<|n9 (Ev.bw<|aq (defScope HU) ["_law_beat","_law_found"] (O4<|Ev.bw<|yl 1 0 b.hd rfl (MT (QB (by decide) _) a) T.sorted uh) (Q0 (i:=0)) D9<|B8<|d8 (j8 0)<|d8 (zL 1 0 (MT (QB (by decide) _) a) (j8 0) rfl<|λ_ _=>rfl) l9) v7)))]
def O6:FnScope ["_law_beats_here","_law_found","_law_beat","_law_lot"] ["_law_beats_here"] (defScope Io):={}
def x4:List DV->M My:=I0 ["_law_beats_here","_law_found","_law_beat","_law_lot"] (mSq (jb 1<|oh l0)
  (mSq (W9 (N9<|sV 0) (P4 2<|u5 (bN 2)<|u5 (bN 3) P9)<|vN 1<|sLC (N9<|sW 2) 2 [3] (P4 2<|u5 (bN 0)<|u5 (bN 1) P9) K9<|Q3<|d7 (sV 1)<|d7 (sV 2) l0)
  (mRt<|sW 1)))
def JO {f:SQ}{fd:SY}(Fn:Fun K "_law_works" "_law_works" Io f fd)(T:Txt K mg) :FnOk P w K mg base CX0 1 f fd ["_law_beats_here"] (spD K 1 x4):=by
 refine w8 Fn O6 λb A a s H E c=>?_
 exact#v[_,(d9 (eU 1 O6.nd<|kB l9)
   (d9 (O2 rfl (W0<|j8 0) (G8 (n:=2) rfl<|j9 (P2 (i:=2) O6.nd)<|j9 (P2 (i:=3) O6.nd) B7)<|i6<|Eh 1 rfl<|Ev.bw<|aq (defScope Io) ["_law_rank","_law_work","_law_lot"] (O4<|k8 2) (G8 (n:=2) rfl<|j9 (Q0 (i:=0))<|j9 (Q0 (i:=1)) B7) D9<|B8<|d8 (j8 1)<|d8 (j8 2) l9)
   (i6<|zY 1)))]
def l5:FnScope ["_law_beats_here","_law_hands","_law_heights","_law_steps","_law_ahead","_law_one","_law_least","_law_top","_law_bottom","_law_work","_law_lot"] ["_law_beats_here","_law_hands","_law_heights"] (defScope Ip):={}
def y9:List DV->M My:=I0 ["_law_beats_here","_law_hands","_law_heights","_law_steps","_law_ahead","_law_one","_law_least","_law_top","_law_bottom","_law_work","_law_lot"] (mSq (jb 3<|oh l0)
  (mSq (x9 4<|sC<|.tuple [.int 0,.int 1])
  (mSq (W9 (N9<|sV 2) (bN 5) (mSq (ke 3<|i4 w4<|vD (s2 nE (s2 u9 (s2 ixD (sW 5)<|sC<|.int 0)<|s2 ixD (sW 4)<|sC<|.int 1)<|s2 u9 (s2 ixD (sW 4)<|sC<|.int 0)<|s2 ixD (sW 5)<|sC<|.int 1)<|vD (s2 u9 (s2 ixD (sW 5)<|sC<|.int 1)<|s2 ixD (sW 4)<|sC<|.int 1) m7)
  (x9 4<|sV 5)))
  (mSq (x9 6<|s2 ixD (sW 3)<|sC<|.int 0)
  (mSq (sX 3<|W9 (N9<|sV 3) (bN 5)<|mIf (uB<|s2 ltD (s2 u9 (s2 ixD (sW 5)<|sC<|.int 0)<|s2 ixD (sW 6)<|sC<|.int 1)<|s2 u9 (s2 ixD (sW 6)<|sC<|.int 0)<|s2 ixD (sW 5)<|sC<|.int 1) (x9 6<|sV 5) mNx)
  (mSq (x9 7<|sC<|.int 0)
  (mSq (x9 8<|sC<|.int 1)
  (mSq (W9 (N9<|i4 x4<|vD (sV 0) m7) (P4 2<|u5 (bN 9)<|u5 (bN 10) P9) (mSq (x9 5<|s2 ixD (sW 2)<|s2 nE (sW 9)<|sC<|.int 1)
  (mSq (x9 7<|s2 D2 (s2 u9 (sW 7)<|s2 ixD (sW 5)<|sC<|.int 1)<|s2 u9 (s2 u9 (sW 10)<|s2 ixD (sW 5)<|sC<|.int 0)<|sW 8)
  (x9 8<|s2 u9 (sW 8)<|s2 ixD (sW 5)<|sC<|.int 1))))
  (mSq (x9 8<|s2 u9 (sW 8)<|sN gw<|d7 (sLC (N9<|sW 0) 2 [] (P4 2<|u5 (bN 0)<|u5 (bN 1) P9) K9<|sV 1) l0)
  (mRt<|i4 w4<|vD (s2 nE (s2 u9 (s2 u9 (sW 1)<|s2 ixD (sW 6)<|sC<|.int 0)<|sW 8)<|s2 u9 (sW 7)<|s2 ixD (sW 6)<|sC<|.int 1)<|vD (s2 u9 (s2 ixD (sW 6)<|sC<|.int 1)<|sW 8) m7))))))))))
def JP {f:SQ}{fd:SY}(Fn:Fun K "_law_spare" "_law_spare" Ip f fd)(T:Txt K mg)(HK:i5 P w K mg base "_law_frac" 1 ["_law_top","_law_bottom"] (spD K 2 w4))(HM:i5 P w K mg base "_law_works" 1 ["_law_beats_here"] (spD K 1 x4)):FnOk P w K mg base CX0 2 f fd ["_law_beats_here","_law_hands","_law_heights"] (spD K 3 y9):=by
 refine w8 Fn l5 λc A a s H E b=>?_
 exact#v[_,(d9 (eU 3 l5.nd<|kB l9)
   (d9 (p0 4 l5.nd<|U9 (.tuple [.int 0,.int 1]) rfl)
   (d9 (O2 rfl (W0<|j8 2) (P2 (i:=5) l5.nd) (d9 (gu 3 rfl<|l4 HK b<|j6 (i9 dW (Ev.bw<|i9 (m6 rfl) (Ev.bw<|k9 5)<|Ev.bw<|k9 4)<|Ev.bw<|i9 (m6 rfl) (Ev.bw<|k9 4)<|Ev.bw<|k9 5)<|j6 (i9 (m6 rfl) (Ev.bw<|k9 5)<|Ev.bw<|k9 4) g9)
   (i6<|p0 4 l5.nd<|j8 5)))
   (d9 (p0 6 l5.nd<|k9 3)
   (d9 (wx 3<|O2 rfl (W0<|j8 3) (P2 (i:=5) l5.nd)<|i6<|T9 (C8 fk (Ev.bw<|i9 (m6 rfl) (Ev.bw<|k9 5)<|Ev.bw<|k9 6)<|Ev.bw<|i9 (m6 rfl) (Ev.bw<|k9 6)<|Ev.bw<|k9 5) (i6<|p0 6 l5.nd<|j8 5) D8)
   (d9 (p0 7 l5.nd f9)
   (d9 (p0 8 l5.nd f9)
   (d9 (O2 rfl (W0<|l4 HM b<|j6 (j8 0) g9) (G8 (n:=2) rfl<|j9 (P2 (i:=9) l5.nd)<|j9 (P2 (i:=10) l5.nd) B7) (d9 (p0 5 l5.nd<|L8 (L4 rfl) (k8 2)<|Ev.bw<|i9 dW (k8 9)<|Ev.bw f9)
   (d9 (p0 7 l5.nd<|i9 (v5 rfl) (Ev.bw<|i9 (m6 rfl) (k8 7)<|Ev.bw<|k9 5)<|Ev.bw<|i9 (m6 rfl) (Ev.bw<|i9 (m6 rfl) (k8 10)<|Ev.bw<|k9 5)<|k8 8)
   (i6<|p0 8 l5.nd<|i9 (m6 rfl) (k8 8)<|Ev.bw<|k9 5))))
   (d9 (p0 8 l5.nd<|i9 (m6 rfl) (k8 8)<|Ev.bw<|u6 (rO rfl rfl) T.sum vI<|n9 (Ev.bw<|aq (defScope Ip) ["_law_beat","_law_lot"] (O4<|k8 0) (G8 (n:=2) rfl<|j9 (Q0 (i:=0))<|j9 (Q0 (i:=1)) B7) D9<|j8 1) v7)
   (i6<|n5<|l4 HK b<|j6 (i9 dW (Ev.bw<|i9 (m6 rfl) (Ev.bw<|i9 (m6 rfl) (k8 1)<|Ev.bw<|k9 6)<|k8 8)<|Ev.bw<|i9 (m6 rfl) (k8 7)<|Ev.bw<|k9 6)<|j6 (i9 (m6 rfl) (Ev.bw<|k9 6)<|k8 8) g9))))))))))]
def cY:FnScope ["_law_thing"] ["_law_thing"] (defScope Ii):={}
def x3:List DV->M My:=I0 ["_law_thing"]<|mRt<|ip (s1 (P5 "int")<|sW 0)<|xJ<|s1 (P5 "bool")<|sW 0
def Ja {f:SQ}{fd:SY}(Fn:Fun K "_law_is_number" "_law_is_number" Ii f fd)(T:Txt K mg) :FnOk P w K mg base CX0 1 f fd ["_law_thing"] (spD K 1 x3):=by
 refine w8 Fn cY λb A a s H E c=>?_
 exact#v[_,(i6<|n5<|aO (K4 "int" (k8 0) (by decide) T.isinstance T.int oK)<|bV<|vA<|K4 "bool" (k8 0) (by decide) T.isinstance T.bool sJ)]
def fH:FnScope ["_law_thing"] ["_law_thing"] (defScope HR):={}
def C9:List DV->M My:=I0 ["_law_thing"] (mSq (mIf (uOr (df<|uT<|s1 (P5 "tuple")<|sW 0)<|uOr (uB<|s2 (eqD true) (sN fJ<|d7 (sW 0) l0)<|sC<|.int 2)<|uB<|s2 (inD false) (sC<|.bool false)<|sLC (N9<|sW 0) 1 [] (bN 0) K9<|i4 x3<|vD (sV 0) m7) (mRt<|sC<|.bool false) mNx)
  (mRt<|ip (s2 gtD (s2 ixD (sW 0)<|sC<|.int 1)<|sC<|.int 0)<|s2 (eqD false) (i4 w4<|vD (s2 ixD (sW 0)<|sC<|.int 0)<|vD (s2 ixD (sW 0)<|sC<|.int 1) m7)<|sW 0))
def Jl {f:SQ}{fd:SY}(Fn:Fun K "_law_is_frac" "_law_is_frac" HR f fd)(T:Txt K mg)(HJ:i5 P w K mg base "_law_is_number" 1 ["_law_thing"] (spD K 1 x3))(HK:i5 P w K mg base "_law_frac" 1 ["_law_top","_law_bottom"] (spD K 2 w4)):FnOk P w K mg base CX0 2 f fd ["_law_thing"] (spD K 1 C9):=by
 refine w8 Fn fH λd A b s H E a=>?_
 have c:(A.deeper<|PyProof.Rows.envOfC "_law_is_frac" (defScope HR) s.heap.objs.size f d).units+65<Tv:=by have:=a.un;omega
 exact#v[_,(d9 (T9 (Ew.t<|fx (U6<|G6<|Ev.bw<|K4 "tuple" (k8 0) (by decide) T.isinstance T.tuple E7)<|fx (C8 (mq rfl a.units) (Ev.bw<|u6 (aa rfl) T.len Z3<|n9 (k8 0) v7)<|Ev.bw f9)<|kf<|C8 (Bu rfl c) (Ev.bw bC)<|Ev.bw<|aq (defScope HR) ["_law_one"] (O4<|k8 0) (Q0 (i:=0)) D9<|l4 HJ a<|j6 (j8 0) g9) (i6<|n5 bC) D8)
   (i6<|n5<|aO (aD nA (Ev.bw<|k9 0)<|Ev.bw f9)<|bV<|aD (rq rfl a.units) (Ev.bw<|l4 HK a<|j6 (k9 0)<|j6 (k9 0) g9)<|k8 0))]
def G7:FnScope ["_law_beats_here","_law_hands","_law_thing","_law_drop","_law_heights","_law_fewest","_law_ends","_law_low","_law_spare_here"] ["_law_beats_here","_law_hands","_law_thing"] (defScope HY):={}
def D1:List DV->M My:=I0 ["_law_beats_here","_law_hands","_law_thing","_law_drop","_law_heights","_law_fewest","_law_ends","_law_low","_law_spare_here"] (mSq (mIf (uOr (df<|uT<|s1 (P5 "tuple")<|sW 2)<|uOr (uB<|s2 (eqD true) (sN fJ<|d7 (sW 2) l0)<|sC<|.int 2)<|uOr (df<|uT<|i4 C9<|vD (s2 ixD (sW 2)<|sC<|.int 0) m7)<|df<|uT<|s1 (P5 "tuple")<|s2 ixD (sW 2)<|sC<|.int 1) (mRt<|sC<|.tuple [.str "shape",.int (-1)]) mNx)
  (mSq (uL (P4 2<|u5 (bN 3)<|u5 (bN 4) P9)<|sV 2)
  (mSq (x9 5<|sN pf<|d7 (s2 D2 (sC<|.list [.int 1])<|sLC (N9<|i4 x4<|vD (sV 0) m7) 2 [] (P4 2<|u5 (bN 0)<|u5 (bN 1) P9) K9<|sV 0) l0)
  (mSq (mIf (uOr (uB<|s2 ltD (sN fJ<|d7 (sW 4) l0)<|sW 5)<|uB<|s2 (inD false) (sC<|.bool false)<|sLC (N9<|sW 4) 1 [] (bN 0) K9<|i4 C9<|vD (sV 0) m7) (mRt<|sC<|.tuple [.str "shape",.int (-1)]) mNx)
  (mSq (mIf (uB<|s2 ltD (s2 ixD (sW 3)<|sC<|.int 0)<|sC<|.int 1) (mRt<|sC<|.tuple [.str "drop",.int (-1)]) mNx)
  (mSq (x9 6<|s2 D2 (sC<|.list [.tuple [.int 0,.int 1]])<|sN eX<|d7 (sW 4) l0)
  (mSq (x9 7<|sLC (bJ<|d7 (sN fJ<|d7 (sW 4) l0) l0) 1 [6] (bN 0) (uB<|s2 leD (s2 u9 (s2 ixD (s2 ixD (sW 1)<|s2 D2 (sW 0)<|sC<|.int 1)<|sC<|.int 0)<|s2 ixD (s2 ixD (sW 1)<|sW 0)<|sC<|.int 1)<|s2 u9 (s2 ixD (s2 ixD (sW 1)<|sW 0)<|sC<|.int 0)<|s2 ixD (s2 ixD (sW 1)<|s2 D2 (sW 0)<|sC<|.int 1)<|sC<|.int 1)<|sV 0)
  (mSq (mIf (uB<|s2 (eqD true) (sW 7)<|sC<|.list []) (mRt<|Q3<|d7 (sC<|.str "step")<|d7 (s2 ixD (sW 7)<|sC<|.int 0) l0) mNx)
  (mSq (x9 8<|i4 y9<|vD (sV 0)<|vD (sV 1)<|vD (sV 4) m7)
  (mRt<|sIf (uB<|s2 leD (s2 u9 (s2 ixD (sW 3)<|sC<|.int 0)<|s2 ixD (sW 8)<|sC<|.int 1)<|s2 u9 (s2 ixD (sW 8)<|sC<|.int 0)<|s2 ixD (sW 3)<|sC<|.int 1) (sC<|.tuple [.str "told",.bool true])<|sC<|.tuple [.str "fall",.int (-1)]))))))))))
def Kz {f:SQ}{fd:SY}(Fn:Fun K "_law_due" "_law_due" HY f fd)(T:Txt K mg)(Ie:i5 P w K mg base "_law_is_frac" 2 ["_law_thing"] (spD K 1 C9))(HM:i5 P w K mg base "_law_works" 1 ["_law_beats_here"] (spD K 1 x4))(HV:i5 P w K mg base "_law_spare" 2 ["_law_beats_here","_law_hands","_law_heights"] (spD K 3 y9)):FnOk P w K mg base CX0 3 f fd ["_law_beats_here","_law_hands","_law_thing"] (spD K 3 D1):=by
 refine w8 Fn G7 λd A b s H E a=>?_
 have c:(A.deeper<|PyProof.Rows.envOfC "_law_due" (defScope HY) s.heap.objs.size f d).units+65<Tv:=by have:=a.un;omega
 exact#v[_,(d9 (T9 (Ew.t<|fx (U6<|G6<|Ev.bw<|K4 "tuple" (k8 2) (by decide) T.isinstance T.tuple E7)<|fx (C8 (mq rfl a.units) (Ev.bw<|u6 (aa rfl) T.len Z3<|n9 (k8 2) v7)<|Ev.bw f9)<|fx (U6<|G6<|Ev.bw<|l4 Ie a<|j6 (k9 2) g9)<|kf<|U6<|G6<|Ev.bw<|K4 "tuple" (Ev.bw<|k9 2) (by decide) T.isinstance T.tuple E7) (i6<|n5<|U9 (.tuple [.str "shape",.int (-1)]) rfl) D8)
   (d9 (pV (j8 2)<|G8 (n:=2) rfl<|j9 (P2 (i:=3) G7.nd)<|j9 (P2 (i:=4) G7.nd) B7)
   (d9 (p0 5 G7.nd<|u6 (wY rfl rfl) T.max pI<|n9 (Ev.bw<|i9 (v5 rfl) (Ev.bw<|U9 (.list [.int 1]) rfl)<|Ev.bw<|aq (defScope HY) ["_law_work","_law_lot"] (O4<|Ev.bw<|l4 HM a<|j6 (j8 0) g9) (G8 (n:=2) rfl<|j9 (Q0 (i:=0))<|j9 (Q0 (i:=1)) B7) D9<|j8 0) v7)
   (d9 (T9 (Ew.t<|fx (C8 fk (Ev.bw<|u6 (aa rfl) T.len Z3<|n9 (k8 4) v7)<|k8 5)<|kf<|C8 (Bu rfl c) (Ev.bw bC)<|Ev.bw<|aq (defScope HY) ["_law_one"] (O4<|k8 4) (Q0 (i:=0)) D9<|l4 Ie a<|j6 (j8 0) g9) (i6<|n5<|U9 (.tuple [.str "shape",.int (-1)]) rfl) D8)
   (d9 (T9 (C8 fk (Ev.bw<|k9 3)<|Ev.bw f9) (i6<|n5<|U9 (.tuple [.str "drop",.int (-1)]) rfl) D8)
   (d9 (p0 6 G7.nd<|i9 (v5 rfl) (Ev.bw<|U9 (.list [.tuple [.int 0,.int 1]]) rfl)<|Ev.bw<|S9 (rF rfl) T.list rH<|n9 (k8 4) v7)
   (d9 (mJ 7 (hN:=G7.nd) (defScope HY) ["_law_k","_law_ends"] (Ei.bw<|Z8 (d8 (u6 (aa rfl) T.len Z3<|n9 (k8 4) v7) l9) T.range) (Q0 (i:=0)) (zw<|C8 Bl (Ev.bw<|i9 (m6 rfl) (Ev.bw<|L8 (L4 rfl) (Ev.bw<|L8 (L4 rfl) (k8 1)<|Ev.bw<|i9 (v5 rfl) (k8 0)<|Ev.bw f9)<|Ev.bw f9)<|Ev.bw<|L8 (L4 rfl) (Ev.bw<|L8 (L4 rfl) (k8 1)<|k8 0)<|Ev.bw f9)<|Ev.bw<|i9 (m6 rfl) (Ev.bw<|L8 (L4 rfl) (Ev.bw<|L8 (L4 rfl) (k8 1)<|k8 0)<|Ev.bw f9)<|Ev.bw<|L8 (L4 rfl) (Ev.bw<|L8 (L4 rfl) (k8 1)<|Ev.bw<|i9 (v5 rfl) (k8 0)<|Ev.bw f9)<|Ev.bw f9)<|j8 0)
   (d9 (T9 (C8 (mq rfl a.units) (k8 7)<|Ev.bw<|U9 (.list []) rfl) (i6<|n5<|B8<|d8 eL<|d8 (k9 7) l9) D8)
   (d9 (p0 8 G7.nd<|l4 HV a<|j6 (j8 0)<|j6 (j8 1)<|j6 (j8 4) g9)
   (i6<|n5<|wG (C8 Bl (Ev.bw<|i9 (m6 rfl) (Ev.bw<|k9 3)<|Ev.bw<|k9 8)<|Ev.bw<|i9 (m6 rfl) (Ev.bw<|k9 8)<|Ev.bw<|k9 3) (U9 (.tuple [.str "told",.bool true]) rfl)<|U9 (.tuple [.str "fall",.int (-1)]) rfl))))))))))]
def S4:FnScope ["_law_beats_here","_law_hands","_law_thing","_law_found","e","_law_strange"] ["_law_beats_here","_law_hands","_law_thing"] (defScope IK):={}
def M0:List DV->M My:=I0 ["_law_beats_here","_law_hands","_law_thing","_law_found","e","_law_strange"] (mSq (x9 3<|sC<|.tuple [.str "other"])
  (mSq (yU 3 "told" HP (vD (sV 0)<|vD (sV 1)<|vD (sV 2) m7)<|hdA "NoPaper" 4 5 3 [.inr "word",.inr "number"])
  (mRt<|sV 3)))
def Kk {f:SQ}{fd:SY}(Fn:Fun K "_law_told" "_law_told" IK f fd)(T:Txt K mg)(IP:CalleeX P w K mg base "lets_back" 6 ["beats","hands","thing"] (spX K mg 3 HP)):FnOk P w K mg base CX0 7 f fd ["_law_beats_here","_law_hands","_law_thing"] (spD K 3 M0):=by
 refine w8 Fn S4 λC A u s H E B=>?_
 obtain⟨r,t,p,q,l,m,o,n,a⟩:=T.err_NoPaper;obtain⟨_,_,rfl,k,_,_,rfl,i,_,_,rfl,h,_,_,rfl,g,_,_,rfl,d,_,_,rfl,c,_,_,rfl,b,rfl⟩:=m;exact#v[_,(d9 (p0 3 S4.nd<|U9 (.tuple [.str "other"]) rfl)
   (d9 (Cp 3 4 IP (B.mono<|by decide) (λz y=>(j6 (j8 0)<|j6 (j8 1)<|j6 (j8 2) g9)) (cX<|cX<|cX T5) (GY (its:=[.inr "word",.inr "number"]) (j:=5) a (by decide) (by decide) (by decide) (RB rfl)<|by decide) (λe D fs z y x v=>by subst x;exact GV v T.isinstance T.ValueError a.mgc (Y9 k<|Y9 i<|Y9 h<|Y9 g<|Y9 d<|Y9 c<|Y9 b EX) (wA v<|wA v DZ) S4.nd) (λD x=>by subst x;exact#v[a.cat,a.hd,a.exm]) l S4.nd)
   (i6<|n5<|j8 3)))]
def v8:FnScope ["_law_feed_here","_law_beats_here","_law_hands","_law_bottom","_law_sides","_law_heights","_law_top","_law_k","_law_spare_here","_law_little","_law_drop"] ["_law_feed_here","_law_beats_here","_law_hands"] (defScope Iq):={}
def D7:List DV->M My:=I0 ["_law_feed_here","_law_beats_here","_law_hands","_law_bottom","_law_sides","_law_heights","_law_top","_law_k","_law_spare_here","_law_little","_law_drop"] (mSq (x9 3<|s2 D2 (sC<|.int 1)<|i4 A2<|vF 0<|vD (sC<|.int 4) m7)
  (mSq (x9 4<|s2 ixD (sC<|.list [.int 1,.int 2,.int 6])<|i4 A2<|vF 0<|vD (sC<|.int 3) m7)
  (mSq (jb 5<|oh l0)
  (mSq (x9 6<|sC<|.int 0)
  (mSq (W9 (bJ<|d7 (s2 D2 (sN pf<|d7 (s2 D2 (sC<|.list [.int 1])<|sLC (N9<|i4 x4<|vD (sV 1) m7) 2 [] (P4 2<|u5 (bN 0)<|u5 (bN 1) P9) K9<|sV 0) l0)<|i4 A2<|vF 0<|vD (sC<|.int 6) m7) l0) (bN 7) (mSq (x9 6<|s2 D2 (s2 D2 (sW 6)<|sC<|.int 1)<|i4 A2<|vF 0<|vD (sV 4) m7)
  (ke 5<|i4 w4<|vD (sV 6)<|vD (sV 3) m7)))
  (mSq (x9 8<|iV y9<|vD (sV 1)<|vD (sV 2)<|vO 5 m7)
  (mSq (x9 9<|s2 ixD (sC<|.list [.int 0,.int 0,.int 1,.int (-1)])<|i4 A2<|vF 0<|vD (sC<|.int 4) m7)
  (mSq (x9 10<|i4 w4<|vD (s2 D2 (s2 u9 (sC<|.int 60)<|s2 ixD (sW 8)<|sC<|.int 0)<|s2 u9 (sW 9)<|s2 ixD (sW 8)<|sC<|.int 1)<|vD (s2 u9 (sC<|.int 60)<|s2 ixD (sW 8)<|sC<|.int 1) m7)
  (mRt<|Q3<|d7 (sIf (uB<|s2 gtD (s2 ixD (sW 10)<|sC<|.int 0)<|sC<|.int 0) (sV 10)<|Q3<|d7 (sC<|.int 1)<|d7 (s2 D2 (sC<|.int 1)<|i4 A2<|vF 0<|vD (sC<|.int 99) m7) l0)<|d7 (sN aA<|d7 (sW 5) l0) l0)))))))))
def JQ {f:SQ}{fd:SY}(Fn:Fun K "_law_paper" "_law_paper" Iq f fd)(T:Txt K mg)(HC:i5 P w K mg base "_law_draw" 1 ["_law_feed_here","_law_many"] (spD K 2 A2))(HM:i5 P w K mg base "_law_works" 1 ["_law_beats_here"] (spD K 1 x4))(HK:i5 P w K mg base "_law_frac" 1 ["_law_top","_law_bottom"] (spD K 2 w4))(HV:i5 P w K mg base "_law_spare" 2 ["_law_beats_here","_law_hands","_law_heights"] (spD K 3 y9)):FnOk P w K mg base CX0 3 f fd ["_law_feed_here","_law_beats_here","_law_hands"] (spD K 3 D7):=by
 refine w8 Fn v8 λc A b s H E a=>?_
 exact#v[_,(d9 (p0 3 v8.nd<|i9 (v5 rfl) (Ev.bw f9)<|Ev.bw<|l4 HC a<|Q4 0<|j6 f9 g9)
   (d9 (p0 4 v8.nd<|L8 (L4 rfl) (Ev.bw<|U9 (.list [.int 1,.int 2,.int 6]) rfl)<|Ev.bw<|l4 HC a<|Q4 0<|j6 f9 g9)
   (d9 (eU 5 v8.nd<|kB l9)
   (d9 (p0 6 v8.nd f9)
   (d9 (O2 rfl (Z8 (d8 (i9 (v5 rfl) (Ev.bw<|u6 (wY rfl rfl) T.max pI<|n9 (Ev.bw<|i9 (v5 rfl) (Ev.bw<|U9 (.list [.int 1]) rfl)<|Ev.bw<|aq (defScope Iq) ["_law_work","_law_lot"] (O4<|Ev.bw<|l4 HM a<|j6 (j8 1) g9) (G8 (n:=2) rfl<|j9 (Q0 (i:=0))<|j9 (Q0 (i:=1)) B7) D9<|j8 0) v7)<|Ev.bw<|l4 HC a<|Q4 0<|j6 f9 g9) l9) T.range) (P2 (i:=7) v8.nd) (d9 (p0 6 v8.nd<|i9 (v5 rfl) (Ev.bw<|i9 (v5 rfl) (k8 6)<|Ev.bw f9)<|Ev.bw<|l4 HC a<|Q4 0<|j6 (j8 4) g9)
   (i6<|gu 5 rfl<|l4 HK a<|j6 (j8 6)<|j6 (j8 3) g9)))
   (d9 (p0 8 v8.nd<|yB HV (a.mono<|by decide) (BN (j8 1)<|BN (j8 2)<|GN 5 An)<|cX<|cX<|GZ T5)
   (d9 (p0 9 v8.nd<|L8 (L4 rfl) (Ev.bw<|U9 (.list [.int 0,.int 0,.int 1,.int (-1)]) rfl)<|Ev.bw<|l4 HC a<|Q4 0<|j6 f9 g9)
   (d9 (p0 10 v8.nd<|l4 HK a<|j6 (i9 (v5 rfl) (Ev.bw<|i9 (m6 rfl) (Ev.bw f9)<|Ev.bw<|k9 8)<|Ev.bw<|i9 (m6 rfl) (k8 9)<|Ev.bw<|k9 8)<|j6 (i9 (m6 rfl) (Ev.bw f9)<|Ev.bw<|k9 8) g9)
   (i6<|n5<|B8<|d8 (wG (C8 nA (Ev.bw<|k9 10)<|Ev.bw f9) (j8 10)<|B8<|d8 f9<|d8 (i9 (v5 rfl) (Ev.bw f9)<|Ev.bw<|l4 HC a<|Q4 0<|j6 f9 g9) l9)<|d8 (S9 (dQ rfl) T.tuple E7<|n9 (k8 5) v7) l9)))))))))]
def N2:FnScope ["_law_feed_here","_law_thing","_law_way","_law_at","_law_odd"] ["_law_feed_here","_law_thing"] (defScope IL):={}
def L9:Nat->List DV->M My
 | 0=>λ_ _=>none
 | n+1=>I0 ["_law_feed_here","_law_thing","_law_way","_law_at","_law_odd"] (mSq (x9 2<|i4 A2<|vF 0<|vD (sC<|.int 9) m7)
  (mSq (mIf (lX (uT<|s1 (P5 "tuple")<|sW 1)<|lX (uB<|s2 gtD (sN fJ<|d7 (sW 1) l0)<|sC<|.int 0)<|uB<|s2 ltD (sW 2)<|sC<|.int 6) (mSq (x9 3<|i4 A2<|vF 0<|vD (sN fJ<|d7 (sW 1) l0) m7)
  (mRt<|s2 D2 (s2 D2 (ir (sW 1) oNo<|oI<|sV 3)<|Q3<|d7 (i4 (L9 n)<|vF 0<|vD (s2 ixD (sW 1)<|sW 3) m7) l0)<|ir (sW 1) (oI<|s2 D2 (sW 3)<|sC<|.int 1) oNo)) mNx)
  (mSq (mIf (lX (uT<|s1 (P5 "tuple")<|sW 1)<|uB<|s2 (eqD false) (sW 2)<|sC<|.int 6) (mSq (x9 3<|i4 A2<|vF 0<|vD (s2 D2 (sN fJ<|d7 (sW 1) l0)<|sC<|.int 1) m7)
  (mRt<|s2 ixD (jf<|d7 (s2 D2 (ir (sW 1) oNo<|oI<|sV 3)<|ir (sW 1) (oI<|s2 D2 (sW 3)<|sC<|.int 1) oNo)<|d7 (s2 D2 (ir (sW 1) oNo<|oI<|sV 3)<|ir (sW 1) (oI<|s2 nE (sW 3)<|sC<|.int 1) oNo) l0)<|i4 A2<|vF 0<|vD (sC<|.int 2) m7)) mNx)
  (mSq (mIf (lX (uT<|i4 x3<|vD (sV 1) m7)<|uB<|s2 ltD (sW 2)<|sC<|.int 6) (mRt<|s2 D2 (sW 1)<|s2 ixD (sC<|.list [.int 1,.int (-1),.int 10000000000000000000000000000000000000000])<|i4 A2<|vF 0<|vD (sC<|.int 3) m7) mNx)
  (mSq (x9 4<|sC<|.list [.none,.bool true,.bool false,.str "",.str "1",.int 0,.int (-1),.int 1,.tuple [],.list [],.tuple [.int 0,.int 1],.tuple [.int 1,.int 2],.tuple [.int 2,.int 4],.tuple [.int 1,.int 0],.tuple [.int 1,.int (-2)],.list [.int 0,.int 1],.tuple [.int (-1),.int 3]])
  (mRt<|s2 ixD (jf<|d7 (sIf (uT<|s1 (P5 "tuple")<|sW 1) (sN eX<|d7 (sW 1) l0)<|sV 1)<|d7 (s2 ixD (sW 4)<|i4 A2<|vF 0<|vD (sC<|.int 17) m7) l0)<|sN oZ<|d7 (s2 ltD (sW 2)<|sC<|.int 8) l0))))))
theorem Jb {f:SQ}{fd:SY}(Fn:Fun K "_law_bent" "_law_bent" IL f fd)(T:Txt K mg)(HC:i5 P w K mg base "_law_draw" 1 ["_law_feed_here","_law_many"] (spD K 2 A2))(HJ:i5 P w K mg base "_law_is_number" 1 ["_law_thing"] (spD K 1 x3))(hm:mg "_law_bent" = some (.ref f))(hb:bD K fd ["_law_feed_here","_law_thing"] []):∀n,FnOk P w K mg base CX0 (2+n) f fd ["_law_feed_here","_law_thing"] (spD K 2<|L9 n)
 | 0=>#v[λg H Q E h=>h.elim λG h=>h.elim λB h=>h.elim λF h=>h.elim λa h=>h.elim λd h=>h.elim λF h=>h.1,λA c s H e us g Q E _ _ _ _ h=>by
   obtain⟨G,B,F,a,d,k,_,_,_,_,_,z,_⟩:=h;cases z]
 | n+1=>by
  have j:i5 P w K mg base "_law_bent" (2+n) ["_law_feed_here","_law_thing"] (spD K 2<|L9 n):=#v[f,fd,Jb Fn T HC HJ hm hb n,hm,Fn.kp,hb];show FnOk P w K mg base CX0 ((2+n)+1) f fd ["_law_feed_here","_law_thing"]<|spD K 2<|I0 ["_law_feed_here","_law_thing","_law_way","_law_at","_law_odd"] _;refine w8 Fn N2 λi A c s H E b=>?_
  exact#v[_,(d9 (p0 2 N2.nd<|R1 HC (b.mono<|by omega) (Q4 0<|j6 f9 g9)<|nM<|cX T5)
   (d9 (T9 (Ew.t<|kW (G6<|Ev.bw<|K4 "tuple" (k8 1) (by decide) T.isinstance T.tuple E7)<|kW (C8 nA (Ev.bw<|u6 (aa rfl) T.len Z3<|n9 (k8 1) v7)<|Ev.bw f9)<|lg<|C8 fk (k8 2)<|Ev.bw f9) (d9 (p0 3 N2.nd<|R1 HC (b.mono<|by omega) (Q4 0<|j6 (u6 (aa rfl) T.len Z3<|n9 (k8 1) v7) g9)<|nM<|cX T5)
   (i6<|n5<|i9 (v5 rfl) (Ev.bw<|i9 (v5 rfl) (Ev.bw<|aw (k8 1) fu<|lU<|j8 3)<|Ev.bw<|B8<|d8 (R1 j (b.mono<|by omega) (Q4 0<|j6 (L8 (L4 rfl) (k8 1)<|k8 3) g9)<|nM<|cX T5) l9)<|Ev.bw<|aw (k8 1) (lU<|i9 (v5 rfl) (k8 3)<|Ev.bw f9) fu)) D8)
   (d9 (T9 (Ew.t<|kW (G6<|Ev.bw<|K4 "tuple" (k8 1) (by decide) T.isinstance T.tuple E7)<|lg<|C8 (rq rfl b.units) (k8 2)<|Ev.bw f9) (d9 (p0 3 N2.nd<|R1 HC (b.mono<|by omega) (Q4 0<|j6 (i9 (v5 rfl) (Ev.bw<|u6 (aa rfl) T.len Z3<|n9 (k8 1) v7)<|Ev.bw f9) g9)<|nM<|cX T5)
   (i6<|n5<|L8 (L4 rfl) (Ev.bw<|lz<|d8 (i9 (v5 rfl) (Ev.bw<|aw (k8 1) fu<|lU<|j8 3)<|Ev.bw<|aw (k8 1) (lU<|i9 (v5 rfl) (k8 3)<|Ev.bw f9) fu)<|d8 (i9 (v5 rfl) (Ev.bw<|aw (k8 1) fu<|lU<|j8 3)<|Ev.bw<|aw (k8 1) (lU<|i9 dW (k8 3)<|Ev.bw f9) fu) l9)<|Ev.bw<|R1 HC (b.mono<|by omega) (Q4 0<|j6 f9 g9)<|nM<|cX T5)) D8)
   (d9 (T9 (Ew.t<|kW (G6<|Ev.bw<|R1 HJ (b.mono<|by omega) (j6 (j8 1) g9)<|cX T5)<|lg<|C8 fk (k8 2)<|Ev.bw f9) (i6<|n5<|i9 (v5 rfl) (k8 1)<|Ev.bw<|L8 (L4 rfl) (Ev.bw<|U9 (.list [.int 1,.int (-1),.int 10000000000000000000000000000000000000000]) rfl)<|Ev.bw<|R1 HC (b.mono<|by omega) (Q4 0<|j6 f9 g9)<|nM<|cX T5) D8)
   (d9 (p0 4 N2.nd<|U9 (.list [.none,.bool true,.bool false,.str "",.str "1",.int 0,.int (-1),.int 1,.tuple [],.list [],.tuple [.int 0,.int 1],.tuple [.int 1,.int 2],.tuple [.int 2,.int 4],.tuple [.int 1,.int 0],.tuple [.int 1,.int (-2)],.list [.int 0,.int 1],.tuple [.int (-1),.int 3]]) rfl)
   (i6<|n5<|L8 (L4 rfl) (Ev.bw<|lz<|d8 (wG (G6<|Ev.bw<|K4 "tuple" (k8 1) (by decide) T.isinstance T.tuple E7) (S9 (rF rfl) T.list rH<|n9 (k8 1) v7)<|j8 1)<|d8 (L8 (L4 rfl) (k8 4)<|Ev.bw<|R1 HC (b.mono<|by omega) (Q4 0<|j6 f9 g9)<|nM<|cX T5) l9)<|Ev.bw<|S9 (ED) T.int oK<|n9 (Ev.bw<|aD fk (k8 2)<|Ev.bw f9) v7))))))]
abbrev R3:List DV->M My:=L9 5
end
end
section
section
variable {P:SS}{w:SU}{K:Qf}{mg:Str->Option SN}{base:Tb}
def M8:FnScope ["_law_script","_law_feed_here","_law_k","_law_beats_here","_law_hands","_law_paper_here","_law_things","_law_tall","_law_j","_law_thing","_law_kept","_law_found"] ["_law_script"] (defScope HI):={}
def A0:SZ->List SZ
 | .For _ _ b _ _=>b
 | _=>[]
def X8:DE->M Out:=(x9 3<|i4 J5<|vF 1 m7)
def Y5:DE->M Out:=(x9 4<|s2 D2 (sC<|.int 1)<|i4 A2<|vF 1<|vD (sC<|.int 3) m7)
def Y2:DE->M Out:=(x9 5<|i4 D7<|vF 1<|vD (sV 3)<|vD (sV 4) m7)
def X2:DE->M Out:=(jb 6<|oh<|d7 (sV 5)<|d7 (i4 D7<|vF 1<|vD (sV 3)<|vD (sV 4) m7)<|d7 (Q3<|d7 (s2 ixD (sW 5)<|sC<|.int 0)<|d7 (s1 mW<|s2 ixD (sW 5)<|sC<|.int 1) l0)<|d7 (s1 mW<|sW 5)<|d7 (sC<|.tuple [.tuple [.int 1,.int 1],.tuple []])<|d7 (sC .none) l0)
def Y6:DE->M Out:=(ke 6<|Q3<|d7 (s2 ixD (sW 5)<|sC<|.int 0)<|d7 (s2 D2 (ir (s2 ixD (sW 5)<|sC<|.int 1) oNo<|oI<|sC<|.int 1)<|s2 ixD (sW 5)<|sC<|.int 1) l0)
def W2:DE->M Out:=(x9 7<|sN aA<|d7 (sLC (bJ<|d7 (s2 D2 (sC<|.int 9)<|i4 A2<|vF 1<|vD (sC<|.int 32) m7) l0) 1 [] (bN 0) K9<|Q3<|d7 (s2 D2 (sW 0)<|sC<|.int 1)<|d7 (sC<|.int 1) l0) l0)
def Y4:DE->M Out:=(jb 6<|uX (sW 6)<|jf<|d7 (Q3<|d7 (sC<|.tuple [.int 1,.int 60])<|d7 (sV 7) l0)<|d7 (Q3<|d7 (Q3<|d7 (sC<|.int 1)<|d7 (s2 u9 (sC<|.int 1000000000000000000000000000000000000000000000000000000000000)<|sC<|.int 1000000000000000000000000000000000000000000000000000000000000) l0)<|d7 (sV 7) l0) l0)
def Y0:DE->M Out:=(jb 6<|uX (sW 6)<|jf<|d7 (Q3<|d7 (sC<|.tuple [.int 0,.int 1])<|d7 (s1 mW<|s2 ixD (sW 5)<|sC<|.int 1) l0)<|d7 (Q3<|d7 (sC<|.tuple [.int (-1),.int 3])<|d7 (s2 D2 (ir (s2 ixD (sW 5)<|sC<|.int 1) oNo<|oI<|sC<|.int 1)<|s2 ixD (sW 5)<|sC<|.int 1) l0) l0)
def W7:DE->M Out:=(W9 (bJ<|d7 (sC<|.int 6) l0) (bN 8)<|ke 6<|i4 R3<|vF 1<|vD (sV 5) m7)
def W8:DE->M Out:=(ke 6<|i4 R3<|vF 1<|vD (s2 ixD (sW 6)<|s1 pd<|sC<|.int 1) m7)
def Q6:DE->M Out:=(x9 10<|sN gY<|d7 (sW 9) l0)
def R7:DE->M Out:=(x9 11<|i4 M0<|vD (sV 3)<|vD (sV 4)<|vD (sV 9) m7)
def Q7:DE->M Out:=(mIf (uB<|s2 (eqD true) (sN gY<|d7 (sW 11) l0)<|sN gY<|d7 (i4 D1<|vD (sV 3)<|vD (sV 4)<|vD (sV 9) m7) l0) (mRt<|sC<|.bool false) mNx)
def R5:DE->M Out:=(mIf (uB<|s2 (eqD true) (sN gY<|d7 (sW 9) l0)<|sW 10) (mRt<|sC<|.bool false) mNx)
def U8:DE->M Out:=(sX 6<|W9 (N9<|sV 6) (bN 9)<|mSq Q6<|mSq R7<|mSq Q7 R5)
def lh:DE->M Out:=(W9 (bJ<|d7 (sC<|.int 3) l0) (bN 2)<|mSq X8<|mSq Y5<|mSq Y2<|mSq X2<|mSq Y6<|mSq W2<|mSq Y4<|mSq Y0<|mSq W7<|mSq W8 U8)
def fN:DE->M Out:=(mRt<|sC<|.bool true)
section
variable {f:SQ}{dr:SN}{A:SW}{outer:List Tf}{s:SR}{H:Hp}{E:XK}(T:Txt K mg)(hr:Room 7 (A.deeper<|PyProof.Rows.envOfC "law" (defScope HI) s.heap.objs.size f dr))(hu5:(A.deeper<|PyProof.Rows.envOfC "law" (defScope HI) s.heap.objs.size f dr).units+65<Tv)(HF:i5 P w K mg base "_law_beats" 2 ["_law_feed_here"] (spD K 1 J5))(HC:i5 P w K mg base "_law_draw" 1 ["_law_feed_here","_law_many"] (spD K 2 A2))(HD:i5 P w K mg base "_law_paper" 3 ["_law_feed_here","_law_beats_here","_law_hands"] (spD K 3 D7))(HE:i5 P w K mg base "_law_bent" 7 ["_law_feed_here","_law_thing"] (spD K 2 R3))(HG:i5 P w K mg base "_law_told" 7 ["_law_beats_here","_law_hands","_law_thing"] (spD K 3 M0))(HH:i5 P w K mg base "_law_due" 3 ["_law_beats_here","_law_hands","_law_thing"] (spD K 3 D1))
include T hr hu5 HF HC HD HE HG HH
abbrev XL:=λP w K mg base f dr A outer s H E=>K8 CX0 P w K mg base ["_law_script","_law_feed_here","_law_k","_law_beats_here","_law_hands","_law_paper_here","_law_things","_law_tall","_law_j","_law_thing","_law_kept","_law_found"] "law" (defScope HI) f dr A outer s H E
theorem ou:∃ts,Ss K (XL P w K mg base f dr A outer s H E).nox (nth (A0<|nth (defBody HI) 1) 0) ts X8:=by unfold X8;exact#v[_,(p0 3 M8.nd<|l4 HF hr<|Q4 1 g9)]
theorem oP:∃ts,Ss K (XL P w K mg base f dr A outer s H E).nox (nth (A0<|nth (defBody HI) 1) 1) ts Y5:=by unfold Y5;exact#v[_,(p0 4 M8.nd<|i9 (v5 rfl) (Ev.bw f9)<|Ev.bw<|l4 HC hr<|Q4 1<|j6 f9 g9)]
theorem pW:∃ts,Ss K (XL P w K mg base f dr A outer s H E).nox (nth (A0<|nth (defBody HI) 1) 2) ts Y2:=by unfold Y2;exact#v[_,(p0 5 M8.nd<|l4 HD hr<|Q4 1<|j6 (j8 3)<|j6 (j8 4) g9)]
theorem ql:∃ts,Ss K (XL P w K mg base f dr A outer s H E).nox (nth (A0<|nth (defBody HI) 1) 3) ts X2:=by unfold X2;exact#v[_,(eU 6 M8.nd<|kB<|d8 (j8 5)<|d8 (l4 HD hr<|Q4 1<|j6 (j8 3)<|j6 (j8 4) g9)<|d8 (B8<|d8 (k9 5)<|d8 (oM<|Ev.bw<|k9 5) l9)<|d8 (oM<|k8 5)<|d8 (U9 (.tuple [.tuple [.int 1,.int 1],.tuple []]) rfl)<|d8 wj l9)]
theorem pE:∃ts,Ss K (XL P w K mg base f dr A outer s H E).nox (nth (A0<|nth (defBody HI) 1) 4) ts Y6:=by unfold Y6;exact#v[_,(gu 6 rfl<|B8<|d8 (k9 5)<|d8 (i9 (v5 rfl) (Ev.bw<|aw (Ev.bw<|k9 5) fu<|lU f9)<|Ev.bw<|k9 5) l9)]
theorem pR:∃ts,Ss K (XL P w K mg base f dr A outer s H E).nox (nth (A0<|nth (defBody HI) 1) 5) ts W2:=by unfold W2;exact#v[_,(p0 7 M8.nd<|S9 (dQ rfl) T.tuple E7<|n9 (Ev.bw<|aq (defScope HI) ["_law_k"] (Ei.bw<|Z8 (d8 (i9 (v5 rfl) (Ev.bw f9)<|Ev.bw<|l4 HC hr<|Q4 1<|j6 f9 g9) l9) T.range) (Q0 (i:=0)) D9<|B8<|d8 (i9 (v5 rfl) (k8 0)<|Ev.bw f9)<|d8 f9 l9) v7)]
theorem qf:∃ts,Ss K (XL P w K mg base f dr A outer s H E).nox (nth (A0<|nth (defBody HI) 1) 6) ts Y4:=by unfold Y4;exact#v[_,(eU 6 M8.nd<|xl (k8 6)<|Ev.bw<|lz<|d8 (B8<|d8 (U9 (.tuple [.int 1,.int 60]) rfl)<|d8 (j8 7) l9)<|d8 (B8<|d8 (B8<|d8 f9<|d8 (i9 (m6 rfl) (Ev.bw<|U9 (.int 1000000000000000000000000000000000000000000000000000000000000) rfl)<|Ev.bw<|U9 (.int 1000000000000000000000000000000000000000000000000000000000000) rfl) l9)<|d8 (j8 7) l9) l9)]
theorem qc:∃ts,Ss K (XL P w K mg base f dr A outer s H E).nox (nth (A0<|nth (defBody HI) 1) 7) ts Y0:=by unfold Y0;exact#v[_,(eU 6 M8.nd<|xl (k8 6)<|Ev.bw<|lz<|d8 (B8<|d8 (U9 (.tuple [.int 0,.int 1]) rfl)<|d8 (oM<|Ev.bw<|k9 5) l9)<|d8 (B8<|d8 (U9 (.tuple [.int (-1),.int 3]) rfl)<|d8 (i9 (v5 rfl) (Ev.bw<|aw (Ev.bw<|k9 5) fu<|lU f9)<|Ev.bw<|k9 5) l9) l9)]
theorem oA:∃ts,Ss K (XL P w K mg base f dr A outer s H E).nox (nth (A0<|nth (defBody HI) 1) 8) ts W7:=by unfold W7;exact#v[_,(O2 rfl (Z8 (d8 f9 l9) T.range) (P2 (i:=8) M8.nd)<|i6<|gu 6 rfl<|l4 HE hr<|Q4 1<|j6 (j8 5) g9)]
theorem nV:∃ts,Ss K (XL P w K mg base f dr A outer s H E).nox (nth (A0<|nth (defBody HI) 1) 9) ts W8:=by unfold W8;exact#v[_,(gu 6 rfl<|l4 HE hr<|Q4 1<|j6 (L8 (L4 rfl) (k8 6)<|Ev.bw<|nh il<|Ev.bw f9) g9)]
theorem jk:∃ts,Ss K (XL P w K mg base f dr A outer s H E).nox (nth (A0<|nth (A0<|nth (defBody HI) 1) 10) 0) ts Q6:=by unfold Q6;exact#v[_,(p0 10 M8.nd<|u6 (fY rfl hr.gd hr.units) T.repr gj<|n9 (k8 9) v7)]
theorem jg:∃ts,Ss K (XL P w K mg base f dr A outer s H E).nox (nth (A0<|nth (A0<|nth (defBody HI) 1) 10) 1) ts R7:=by unfold R7;exact#v[_,(p0 11 M8.nd<|l4 HG hr<|j6 (j8 3)<|j6 (j8 4)<|j6 (j8 9) g9)]
theorem jh:∃ts,Ss K (XL P w K mg base f dr A outer s H E).nox (nth (A0<|nth (A0<|nth (defBody HI) 1) 10) 2) ts Q7:=by unfold Q7;exact#v[_,(T9 (C8 (mq rfl hr.units) (Ev.bw<|u6 (fY rfl hr.gd hr.units) T.repr gj<|n9 (k8 11) v7)<|Ev.bw<|u6 (fY rfl hr.gd hr.units) T.repr gj<|n9 (Ev.bw<|l4 HH hr<|j6 (j8 3)<|j6 (j8 4)<|j6 (j8 9) g9) v7) (i6<|n5 bC) D8)]
theorem jj:∃ts,Ss K (XL P w K mg base f dr A outer s H E).nox (nth (A0<|nth (A0<|nth (defBody HI) 1) 10) 3) ts R5:=by unfold R5;exact#v[_,(T9 (C8 (mq rfl hr.units) (Ev.bw<|u6 (fY rfl hr.gd hr.units) T.repr gj<|n9 (k8 9) v7)<|k8 10) (i6<|n5 bC) D8)]
theorem nj:∃ts,Ss K (XL P w K mg base f dr A outer s H E).nox (nth (A0<|nth (defBody HI) 1) 10) ts U8:=by obtain⟨e,a⟩:=jj (f:=f) (dr:=dr) (A:=A) (outer:=outer) (s:=s) (H:=H) (E:=E) T hr hu5 HF HC HD HE HG HH;obtain⟨g,b⟩:=jh (f:=f) (dr:=dr) (A:=A) (outer:=outer) (s:=s) (H:=H) (E:=E) T hr hu5 HF HC HD HE HG HH;obtain⟨h,c⟩:=jg (f:=f) (dr:=dr) (A:=A) (outer:=outer) (s:=s) (H:=H) (E:=E) T hr hu5 HF HC HD HE HG HH;obtain⟨j,d⟩:=jk (f:=f) (dr:=dr) (A:=A) (outer:=outer) (s:=s) (H:=H) (E:=E) T hr hu5 HF HC HD HE HG HH;exact#v[_,wx 6<|O2 rfl (W0<|j8 6) (P2 (i:=9) M8.nd)<|d9 d<|d9 c<|d9 b<|i6 a]
theorem vz:∃ts,Ss K (XL P w K mg base f dr A outer s H E).nox (nth (defBody HI) 1) ts lh:=by obtain⟨n,a⟩:=nj (f:=f) (dr:=dr) (A:=A) (outer:=outer) (s:=s) (H:=H) (E:=E) T hr hu5 HF HC HD HE HG HH;obtain⟨o,b⟩:=nV (f:=f) (dr:=dr) (A:=A) (outer:=outer) (s:=s) (H:=H) (E:=E) T hr hu5 HF HC HD HE HG HH;obtain⟨p,c⟩:=oA (f:=f) (dr:=dr) (A:=A) (outer:=outer) (s:=s) (H:=H) (E:=E) T hr hu5 HF HC HD HE HG HH;obtain⟨q,d⟩:=qc (f:=f) (dr:=dr) (A:=A) (outer:=outer) (s:=s) (H:=H) (E:=E) T hr hu5 HF HC HD HE HG HH;obtain⟨r,e⟩:=qf (f:=f) (dr:=dr) (A:=A) (outer:=outer) (s:=s) (H:=H) (E:=E) T hr hu5 HF HC HD HE HG HH;obtain⟨t,g⟩:=pR (f:=f) (dr:=dr) (A:=A) (outer:=outer) (s:=s) (H:=H) (E:=E) T hr hu5 HF HC HD HE HG HH;obtain⟨u,h⟩:=pE (f:=f) (dr:=dr) (A:=A) (outer:=outer) (s:=s) (H:=H) (E:=E) T hr hu5 HF HC HD HE HG HH;obtain⟨v,j⟩:=ql (f:=f) (dr:=dr) (A:=A) (outer:=outer) (s:=s) (H:=H) (E:=E) T hr hu5 HF HC HD HE HG HH;obtain⟨x,k⟩:=pW (f:=f) (dr:=dr) (A:=A) (outer:=outer) (s:=s) (H:=H) (E:=E) T hr hu5 HF HC HD HE HG HH;obtain⟨y,l⟩:=oP (f:=f) (dr:=dr) (A:=A) (outer:=outer) (s:=s) (H:=H) (E:=E) T hr hu5 HF HC HD HE HG HH;obtain⟨z,m⟩:=ou (f:=f) (dr:=dr) (A:=A) (outer:=outer) (s:=s) (H:=H) (E:=E) T hr hu5 HF HC HD HE HG HH;exact#v[_,O2 rfl (Z8 (d8 f9 l9) T.range) (P2 (i:=2) M8.nd)<|d9 m<|d9 l<|d9 k<|d9 j<|d9 h<|d9 g<|d9 e<|d9 d<|d9 c<|d9 b<|i6 a]
theorem yE:∃ts,Ss K (XL P w K mg base f dr A outer s H E).nox (nth (defBody HI) 2) ts fN:=by unfold fN;exact#v[_,(n5 bC)]
end
def mU:DE->M Out:=(mSq lh fN)
def Di {α:Type}(l:List α)(d:α)(h:0<l.length):l=l.getD 0 d::l.drop 1:=by
 cases l with
 | nil=>simp at h
 | cons a r=>rfl
def spLaw (K:Qf):Sp:=λc H Q _=>∃(a:SQ) (b:List Int),c=[.ref a]/\SqL K H a (b.map V.int)/\b.length<=63/\T3 (tabsK Feeds.lam K) H/\∀d,Q (.bl true) d
def yb {f:SQ}{dr:SN}{A:SW}{outer:List Tf}{s:SR}{H:Hp}{E:XK}(hr:Room 7 (A.deeper<|PyProof.Rows.envOfC "law" (defScope HI) s.heap.objs.size f dr))(CF:i5 P w K mg base "_law_feed" 1 ["_law_script"] (lL K)) :
  PS (XL P w K mg base f dr A outer s H E).nox ((defBody HI).getD 0<|.Pass #v[0,0,0,0]) (bA (aE (lL K) [] E0<|x6 (Q2 0) T4)<|O8 1) :=
 O1 (i:=1) M8.nd rfl (by walk_at "v") (eD CF (hr.mono<|by decide) rfl<|n6 (pv 0) B1)
def LU {f:SQ}{fd:SY}(Fn:Fun K "law" "law" HI f fd)(T:Txt K mg)(CF:i5 P w K mg base "_law_feed" 1 ["_law_script"] (lL K))(HF:i5 P w K mg base "_law_beats" 2 ["_law_feed_here"] (spD K 1 J5))(HC:i5 P w K mg base "_law_draw" 1 ["_law_feed_here","_law_many"] (spD K 2 A2))(HD:i5 P w K mg base "_law_paper" 3 ["_law_feed_here","_law_beats_here","_law_hands"] (spD K 3 D7))(HE:i5 P w K mg base "_law_bent" 7 ["_law_feed_here","_law_thing"] (spD K 2 R3))(HG:i5 P w K mg base "_law_told" 7 ["_law_beats_here","_law_hands","_law_thing"] (spD K 3 M0))(HH:i5 P w K mg base "_law_due" 3 ["_law_beats_here","_law_hands","_law_thing"] (spD K 3 D1))
  (fin:∀ns:List Int,ns.length<=63->∃F',mU ([none,some .feed]++List.replicate (["_law_script","_law_feed_here","_law_k","_law_beats_here","_law_hands","_law_paper_here","_law_things","_law_tall","_law_j","_law_thing","_law_kept","_law_found"].length-2) none) (lS ns)=some (.rt<|.bool true,F')):FnOk P w K mg base CX0 8 f fd ["_law_script"] (spLaw K):=by
 refine Fn.ok M8 (λM H Q E h=>?_) (λdr A outer s H M Q E C h=>?_)
 .obtain⟨a,ns,rfl,_⟩:=h;rfl
 .obtain⟨a,ns,rfl,S,hl,p,k⟩:=h;have u:(A.deeper<|PyProof.Rows.envOfC "law" (defScope HI) s.heap.objs.size f dr).units+65<Tv:=by have:=C.un;omega
  obtain⟨r,m⟩:=vz (f:=f) (dr:=dr) (A:=A) (outer:=outer) (s:=s) (H:=H) (E:=E) T C u HF HC HD HE HG HH;obtain⟨q,l⟩:=yE (f:=f) (dr:=dr) (A:=A) (outer:=outer) (s:=s) (H:=H) (E:=E) T C u HF HC HD HE HG HH;obtain⟨F,I,O⟩:∃F,Sss K (XL P w K mg base f dr A outer s H E).nox ((defBody HI).drop 1) F mU:=#v[_,(d9 m<|i6 l)];have L:=yb (P:=P) (w:=w) (K:=K) (mg:=mg) (base:=base) (f:=f) (dr:=dr) (A:=A) (outer:=outer) (s:=s) (H:=H) (E:=E) C CF;have n:=Di (defBody HI) (.Pass #v[0,0,0,0]) (by decide +kernel);generalize List.drop 1 (defBody HI)=R at I n;generalize (defBody HI).getD 0 (SZ.Pass { line:=0,col:=0,endLine:=0,endCol:=0 })=S0 at L n;have J:=B6 L I;rw[<-n]at J;refine#v[_,J,?_];refine#v[_,rfl,a,ns,rfl,S,hl,λd c D U s1=>?_];obtain⟨F',e⟩:=fin ns hl;have B:FAt K (some (d,c)) D (lS ns):=#v[U,p.congr λb y=>by
   obtain⟨o,e⟩:∃o,H b=some o:=by
    rcases y with y | ⟨X,e⟩
    .obtain⟨t,ht,rfl⟩:=Nb.1 y;obtain⟨N,e,_⟩:=p t ht;exact#v[_,e]
    .exact#v[_,e]
   rw[e];exact s1 b o e]
  refine O (some (d,c)) (m8 K<|some (d,c)) D _ (lS ns) _ D _ _ F' #v[#v[m8 K<|some (d,c),λ_ z=>z,λb y=>.inl y,#v[B,λ_ z=>z,B.bok,by simp[L2.V9],λi x g=>?_]],λ_ z=>z,Kp.refl,λi V b g=>?_,λi j V Y b g=>?_,λi c N b g=>?_] e (λv W _ _ G=>?_)
  .match i,g with
   | 0,g=>cases g
   | 1,g=>cases g;exact#v[.ref d,rfl,d,c,rfl,rfl]
   | i+2,g=>simp only[Nf,Nq,OX,NZ]at g;split at g <;> cases g
  .match i,g with
   | 0,g=>cases g
   | 1,g=>cases g
   | i+2,g=>simp only[Nf,Nq,OX,NZ]at g;split at g <;> cases g
  .match i,g with
   | 0,g=>cases g
   | 1,g=>cases g
   | i+2,g=>simp only[Nf,Nq,OX,NZ]at g;split at g <;> cases g
  .match i,g with
   | 0,g=>cases g
   | 1,g=>cases g
   | i+2,g=>simp only[Nf,Nq,OX,NZ]at g;split at g <;> cases g
  .simp only[c8]at G;subst G;exact k W
end
end
end K66
namespace K66
open PySem L2 L3 Bz
def wK:w4=c_lfrac:=rfl
def wZ:dJ=c_added:=rfl
def zF:kR=c_over:=rfl
def xv:fR=fV:=rfl
def lV:bu=fP:=rfl
abbrev Bw:=Kw<|Int×Int
abbrev bsD (l:List Bw):My:=.tuple<|l.map<|kwD cmD
def aL {i:Int}{n:Nat}{F:FdS}{Q:My->FdS->Prop}(hn:0<n)(hb:n<2 ^ 9000)(q:Q (qd<|mkRat i n) F):wp (w4 [.dat<|.int i,.dat<|.int (n:Nat)] F) Q:=by
 rw[wK];unfold c_lfrac;refine G5.2<|x8.2<|qw<|d4.2<|M4.2<|d4.2<|w9w rfl<|h7.2<|c7 FU<|w9c rfl<|h7.2 #v[_,_,rfl,i7 rfl,i7 rfl,i3 ?_];refine x8.2 (GA (λE l=>l=F/\∃x y:Nat,E=[some<|.dat<|.int i,some<|.dat<|.int (n:Nat),some<|.dat<|.int (x:Nat),some<|.dat<|.int (y:Nat)]/\Nat.gcd x y=Nat.gcd i.natAbs n) (λE=>match E with
  | [_,_,_,some<|.dat<|.int y]=>y.natAbs
  | _=>0) #v[rfl,i.natAbs,n,rfl,rfl] ?_)
 rintro E p ⟨rfl,x,y,rfl,hg⟩;refine T8.2<|w9s rfl<|f7.2<|c7 qZ<|c7 rfl ?_;refine P3 (λe=>?_) (λe=>?_)
 .have a:(0:Int)<y:=MS e;refine qw<|w9c rfl<|d4.2<|w9s rfl<|w9w rfl<|c7 (Ce a)<|h7.2 #v[_,_,rfl,i7 rfl,i7 rfl,_,rfl,#v[rfl,y,x % y,?_,?_],?_]
  .simp
  .rw[<-hg,SC x y,Nat.gcd_rec y x,SC]
  .show((x:Int) % (y:Int)).natAbs<(y:Int).natAbs;have o:=RM (x:Int) (b:=(y:Int)) (by omega);have m:=QM (x:Int) a;omega
 .have a:y=0:=by have:=Om e;omega
  subst a;rw[Nat.gcd_zero_right]at hg;subst hg;have f:0<Nat.gcd i.natAbs n:=Nat.gcd_pos_of_pos_right _ hn;have g:Nat.gcd i.natAbs n<=n:=Sn hn<|Nat.gcd_dvd_right ..;have d:=qN (i:=i) (j:=((Nat.gcd i.natAbs n:Nat):Int)) (by omega) (by rw[NC];omega);have k:=qN (i:=(n:Int)) (j:=((Nat.gcd i.natAbs n:Nat):Int)) (by omega) (by rw[NC];omega);refine i3<|A4.2<|C2.2<|d4.2<|w9s rfl<|w9w rfl<|c7 d<|d4.2<|w9s rfl<|w9w rfl<|c7 k<|h7.2 #v[u8 rfl,m5 ?_];have c:=aY (i:=i) (j:=(n:Int)) (by omega);have h:(Int.gcd i (n:Int):Int)=((Nat.gcd i.natAbs n:Nat):Int):=rfl;rw[h]at c;rw[iU c (by omega),NI];exact q
section
variable {bd bd1:My->DE->Option DE}{mi1:DE->M (List My)}{me:DE->M My}
def wQ {β:Type}{y:β->My}{g:β->My}{Sh:DE->Prop}:∀(its:List β) (E:DE) (F:FdS) (Q:List My×DE->FdS->Prop),Sh E ->
  (∀b∈its,∀E,Sh E->∃E1,bd1 (y b) E=some E1/\Sh E1/\∀(F:FdS) (Q:My->FdS->Prop),Q (g b) F->wp (me E1 F) Q)->(∀E1,Sh E1->Q (its.map g,E1) F)->wp (jX bd1 K9 me (its.map y) E F) Q
 | [],E,F,Q,hE,_,q=>d6.2<|q E hE
 | b::its,E,F,Q,hE,h,q=>by obtain⟨E1,e,f,a⟩:=h b MD E hE;rw[MB,jX,e,MU,d5];refine ae.2 ?_;rw[Mx rfl,d5];refine a F _ ?_;rw[d5];exact wQ its E1 F _ f (λb c=>h b<|Mw _ c) λi d=>d6.2<|q i d
def sv {α β:Type}{x:α->My}{it:α->List β}{y:β->My}{g:α->β->My}{Sh:DE->Prop}(Si:α->DE->Prop):∀(rows:List α) (E:DE) (F:FdS) (Q:List My->FdS->Prop),Sh E ->
  (∀a∈rows,∀E,Sh E->∃E1,bd (x a) E=some E1/\Si a E1/\∀(F:FdS) (Q:List My->FdS->Prop),Q ((it a).map y) F->wp (mi1 E1 F) Q) ->
  (∀a∈rows,∀b∈it a,∀E,Si a E->∃E1,bd1 (y b) E=some E1/\Si a E1/\∀(F:FdS) (Q:My->FdS->Prop),Q (g a b) F->wp (me E1 F) Q) ->
  (∀a E,Si a E->Sh E)->Q ((rows.map λa=>(it a).map<|g a).flatten) F->wp (dH bd K9 mi1 bd1 K9 me (rows.map x) E F) Q
 | [],E,F,Q,_,_,_,_,q=>d6.2 q
 | a::rows,E,F,Q,hE,h1,h2,h3,q=>by
  obtain⟨E1,e,i,h⟩:=h1 a MD E hE;rw[MB,dH,e,MU,d5];refine ae.2 ?_;rw[Mx rfl,d5];refine h F _ ?_;rw[d5];refine wQ (Sh:=Si a) (it a) E1 F _ i (h2 a MD) λf d=>?_
  rw[d5];refine sv Si rows f F _ (h3 a f d) (λa c=>h1 a<|Mw _ c) (λa c=>h2 a<|Mw _ c) h3<|d6.2 ?_;rw[MB,OT]at q;exact q
end
structure Be (l:List Bw):Prop where
 n1:1<=l.length
 n2:l.length<=4
 ok:∀p∈l,p.1.length<=2/\(∀c∈p.1,1<=c.2/\c.2<=6)/\1<=p.2/\p.2<=12
def wkL (l:List Bw):List (Int×Int):=(l.map λp=>p.1.map λc=>(c.2,p.2)).flatten
def A7 (l:List Bw):Int:=(l.map λp=>p.2).sum
def xX (p:Bw)(l:List Bw):wkL (p::l)=(p.1.map λc=>(c.2,p.2))++wkL l:=rfl
def sE {l:List Bw}{z:Int×Int}:z∈wkL l↔∃p∈l,∃c∈p.1,z=(c.2,p.2):=by
 unfold wkL;simp only[List.mem_flatten,Nb];constructor
 .rintro ⟨_,⟨p,a,rfl⟩,d⟩;obtain⟨c,b,rfl⟩:=Nb.1 d;exact#v[p,a,c,b,rfl]
 .rintro ⟨p,a,c,b,rfl⟩;exact#v[_,#v[p,a,rfl],Nb.2 #v[c,b,rfl]]
theorem fX:∀{l:List Bw},(∀p∈l,p.1.length<=2)->(wkL l).length<=2*l.length
 | [],_=>Mz _
 | p::l,h=>by
  have b:=fX (l:=l) λq a=>h q<|Mw _ a
  have:=h p MD;rw[xX,Ni,Mv,ME];omega
section
variable {F:FdS}{Q:My->FdS->Prop}{l:List Bw}
def Be.len (h:Be l):(wkL l).length<=8:=by
 have:=fX λp a=>(h.ok p a).1
 have:=h.n2;omega
def Be.wk (h:Be l):∀z∈wkL l,(1<=z.1/\z.1<=6)/\1<=z.2/\z.2<=12:=λz a=>by obtain⟨p,b,c,d,rfl⟩:=sE.1 a;obtain⟨_,f,e⟩:=h.ok p b;exact#v[f c d,e]
theorem qS {f:Bw->Int}{a b:Int}:∀{l:List Bw},(∀p∈l,a<=f p/\f p<=b)->a*l.length<=(l.map f).sum/\(l.map f).sum<=b*l.length
 | [],_=>by simp
 | p::l,h=>by
  obtain⟨e,d⟩:=qS (l:=l) λq c=>h q<|Mw _ c
  have:=h p MD;rw[MB,List.sum_cons,ME];push_cast;rw[Int.mul_add,Int.mul_add];omega
def Be.tot (h:Be l):1<=A7 l/\A7 l<=48:=by
 have:=qS (f:=λp:Bw=>p.2) (a:=1) (b:=12) λp c=>(h.ok p c).2.2
 have e:=h.n1;have d:=h.n2;unfold A7;omega
def su (h:Be l)(q:Q (.list<|(wkL l).map pr) F):wp (x4 [.dat<|bsD l] F) Q:=by
 have s:=h.n2;unfold x4;walk_at "kb";refine x8.2<|cB.2<|iN.2<|h7.2 #v[u8 rfl,i7 rfl,i3 ?_];refine x8.2<|L0.2<|C5.2<|w9g rfl<|c7 P7 ?_;refine G3 (λi E r=>r=F/\∃b a,E=[some<|.dat<|bsD l,some<|.own<|(wkL<|l.take i).map pr,b,a]) _ 0 _ F #v[rfl,none,none,rfl] ?_ ?_
 .rintro i d k E o ⟨rfl,b,a,rfl⟩;rw[Nh] at *;rw[MQ]at k;obtain⟨p,j,rfl⟩:=MP.1 k;have g:=Np j;obtain⟨u,_,_⟩:=h.ok p g;refine#v[_,rfl,GJ rfl<|V8.2<|C5.2<|w9w rfl<|c7 P7 #v[sz (by rw[Mv];omega),?_]];refine CO (x:=λc:Int×Int=>.int c.1) (y:=λc:Int×Int=>.int c.2) (f:=λc:Int×Int=>pr (c.2,p.2)) p.1 _ _ (λc t F Q q=>?_) ?_
  .exact C2.2<|w9c rfl<|w9c rfl<|h7.2 #v[u8 rfl,q]
  .have:=fX (l:=l.take i) λq m=>(h.ok q<|List.mem_of_mem_take m).1
   rw[OZ]at this;have e:wkL (l.take<|i+1)=wkL (l.take i)++(p.1.map λc=>(c.2,p.2)):=by unfold wkL;rw[Rc,j,QP,Oc,List.flatten_append];simp
   have n:(wkL<|l.take<|i+1).map pr=(wkL<|l.take i).map pr++p.1.map λc:Int×Int=>pr (c.2,p.2):=by rw[e,Oc,Nn];rfl
   exact#v[_,rfl,by rw[Mv,Mv];omega,_,rfl,rfl,_,_,by rw[n];rfl]
 .rintro E o ⟨rfl,b,a,rfl⟩;rw[Nh,Mv,OJ];exact i3<|A4.2<|M5.2<|gB rfl<|m5 q
end
def gwL (l:List Bw):Int:=if (wkL l).map (·.1)=[] then 0 else Z2 ((wkL l).map (·.1))
def vW {l:List Bw}{z:Int×Int}(h:z∈wkL l):z.1<=gwL l:=by have a:z.1∈(wkL l).map (·.1):=Nb.2 #v[z,h,rfl];unfold gwL;rw[MC<|List.ne_nil_of_mem a];exact gh a
def GB {l:List Bw}(h:Be l):0<=gwL l/\gwL l<=6:=by
 unfold gwL;split
 .omega
 .rename_i a;obtain⟨z,b,e⟩:=Nb.1<|dA a;have:=(h.wk z b).1;rw[<-e];omega
def EM {ns:List Int}:iO [.list<|ns.map .int,.int 0]=some (.int<|if ns=[] then 0 else Z2 ns):=by unfold iO;dsimp only;rw[fZ,MU];split <;> rfl
def Gh {ns:List Int}(h:ns≠[]):pf [.list<|ns.map .int]=some (.int<|Z2 ns):=by unfold pf;dsimp only;rw[fZ,MU,MC h]
section
variable {F:FdS}{Q:My->FdS->Prop}{l:List Bw}
def yY (h:Be l)(q:Q (.int<|gwL l) F):wp (E3 [.dat<|bsD l] F) Q:=by
 have hl:=h.len;unfold E3;walk_at "kb";refine A4.2<|M4.2<|d4.2 ?_;unfold yL;rw[d5];refine C5.2<|w9w rfl<|c7 P7 ?_;dsimp only;rw[d5];refine sv (x:=λp:Bw=>kwD cmD p) (it:=λp:Bw=>p.1) (y:=cmD) (g:=λ_ c=>.int c.2) (Sh:=λE=>∃i f b d,E=[i,f,b,d]) (λp E=>∃b d,E=[some<|.dat<|rwD cmD p.1,some<|.dat<|.int p.2,b,d]) l _ F _ #v[_,_,_,_,rfl] ?_ ?_ ?_ ?_
 .rintro a _ E ⟨i,f,b,d,rfl⟩;exact#v[_,rfl,#v[_,_,rfl],λF Q q=>C5.2<|w9g rfl<|c7 P7 q]
 .rintro a _ c _ E ⟨f,b,rfl⟩;exact#v[_,rfl,#v[_,_,rfl],λF Q q=>w9g rfl q]
 .rintro a E ⟨f,b,rfl⟩;exact#v[_,_,_,_,rfl]
 .dsimp only;have e:(l.map λp:Bw=>p.1.map λc:Int×Int=>My.int c.2).flatten=((wkL l).map (·.1)).map .int:=by
   unfold wkL;rw[List.map_flatten,List.map_flatten,Nn,Nn];congr 1;refine Ov λp _=>?_
   simp
  rw[e,Mx<|sz (by rw[Mv,Mv];omega)];exact d6.2<|d4.2<|f7.2<|h7.2<|c7 EM<|m5 q
end
section
variable {F:FdS}{Q:My->FdS->Prop}{l:List Bw}
def uZ {o:My}{E:DE}(hE:E[0]? = some (some<|.dat<|bsD l))(hl:l.length<=100)(q:Q (.int<|A7 l) F):wp (sN gw (d7 (sLC (N9<|sW 0) 2 [] (P4 2<|u5 (bN 0)<|u5 (bN 1) P9) K9<|sV 1) l0) E F) Q:=by
 refine M4.2 (d4.2<|V8.2<|C5.2<|M5.2<|R8 hE<|c7 P7 #v[sz (by rw[Mv];omega),?_]);refine CO (x:=λp:Bw=>rwD cmD p.1) (y:=λp:Bw=>.int p.2) (f:=λp:Bw=>.int p.2) l _ _ (λp a F Q q=>w9g rfl q) ?_;have e:(l.map λp:Bw=>My.int p.2)=(l.map λp=>p.2).map .int:=by rw[Nn];rfl
 rw[e];exact h7.2<|c7 Er q
def Ge (hl:l.length<=100)(q:Q (.int<|A7 l) F):wp (T7 [.dat<|bsD l] F) Q:=by unfold T7;refine G5.2 ?_;dsimp only[B9,MB,NG,ME,NP,List.replicate,Nf,Nq,Nat.reduceAdd,Nat.reduceSub];exact A4.2<|uZ (o:=.none) rfl hl<|m5 q
end
def vd (p:Rat):(p.num:Rat)=p*(p.den:Rat):=by
 have d:=RU p;rw[PH]at d;have b:(p.den:Rat)≠0:=by exact_mod_cast p.den_nz
 have c:=Qe (a:=(p.num:Rat)) b;rw[d]at c;exact c.symm
def FQ {t:Int}{n:Nat}{p:Rat}(hn:0<n)(h:(t:Rat)=p*(n:Rat)):mkRat t n=p:=by
 have a:(n:Rat)≠0:=by exact_mod_cast (by omega:n≠0)
 rw[PH,h,RV,Rat.mul_assoc,Rat.mul_inv_cancel _ a,Rat.mul_one]
def wB {a:Int}{d:Nat}(hd:0<d):(mkRat a d).den<=d/\(mkRat a d).num.natAbs<=a.natAbs:=by
 have c:=aY (i:=a) (j:=(d:Int)) (by omega);have e:=iU c (by omega);rw[NI]at e;unfold qd at e;injection e with e
 injection e with f b
 injection b with b _
 injection f with f
 injection b with b
 have h:=c.lt;have g:=c.lb;rw[f]at h;rw[b]at g;omega
def Av {p:Rat}(h:p<=0):p.num<=0:=by have:=(Rat.le_iff p 0).1 h;simpa using this
def zA {p:Rat}(h:0<p):0<p.num:=by have:=(Rat.lt_iff 0 p).1 h;simpa using this
def ht (hs:List Rat)(k:Nat):Rat:=hs.getD k 0
def ah (hs:List Rat)(k:Nat):Rat:=(0::hs).getD k 0
def sp (hs:List Rat)(k:Nat):Rat:=ht hs k-ah hs k
def km (hs:List Rat)(k:Nat):ah hs (k+1)=ht hs k:=rfl
def FM {hs:List Rat}{k:Nat}{h:Rat}(e:hs[k]? = some h):h=ht hs k:=by unfold ht;rw[Nw,e];rfl
def eN {hs:List Rat}{k:Nat}(h:k<hs.length):hs[k]? = some (ht hs k):=by rw[MN h];unfold ht;rw[Nw,MN h];rfl
def SH (hs:List Rat)(ws:List (Int×Int)):Rat:=sumQ (ws.map λz=>(z.2:Rat)*ht hs (z.1-1).toNat)
def Au {hs:List Rat}{ws:List (Int×Int)}{i:Nat}{z:Int×Int}(h:ws[i]? = some z):SH hs (ws.take<|i+1)=SH hs (ws.take i)+(z.2:Rat)*ht hs (z.1-1).toNat:=by unfold SH;rw[List.map_take,List.map_take,dY (by rw[MQ,h];rfl)]
section
variable {F:FdS}{Q:My->FdS->Prop}{l:List Bw}{hs:List Rat}
def qj (v:Int):qd ((v:Int):Rat) = .tuple [.int v,.int 1]:=by unfold qd;rw[RQ,Qg];rfl
def xw {D M:Nat}{ps:List Rat}(hD:D≠0)(h1:D<2 ^ 3000)(h:∀p∈ps,Qb D M p)(hM:ps.length*M+M<2 ^ 1000)(q:Q (qd<|sumQ ps) F):wp (dJ [.dat<|.list<|ps.map qd] F) Q:=by
 rw[wZ];unfold c_added;refine G5.2<|w9q<|f7.2 #v[i7 rfl,i3 ?_];refine x8.2<|L0.2<|C5.2<|w9g rfl<|c7 Z7 ?_;refine G3 (λi E g=>g=F/\∃(o:Option DV),E=[some<|.dat<|.list<|ps.map qd,some<|.dat<|qd<|sumQ<|ps.take i,o]) _ 0 _ F #v[rfl,none,rfl] ?_ ?_
 .rintro i d b E f ⟨rfl,o,rfl⟩;rw[Nh] at *;rw[MQ]at b;obtain⟨p,a,rfl⟩:=MP.1 b;have j:=(MK.1 a).1;have e:=gb hD h i (by omega);have b2:=h p<|Np a;have c:i*M<=ps.length*M:=OA _ (by omega);refine#v[_,rfl,cf.2<|l3.2<|w9v rfl<|w9v rfl<|j7.2 ?_];refine yh (e.sz hD h1<|by omega) (b2.sz hD h1<|by omega) #v[i7 rfl,_,rfl,rfl,some<|.dat<|qd p,?_];rw[dY a];rfl
 .rintro E f ⟨rfl,o,rfl⟩;rw[Nh,Mv,OJ];exact A4.2<|w9g rfl<|m5 q
def yT {ws:List (Int×Int)}{z:Int×Int}:SH hs (ws++[z])=SH hs ws+(z.2:Rat)*ht hs (z.1-1).toNat:=by unfold SH;rw[Oc,MB,NG,jI]
def qA {i:Nat}{p:Bw}(h:l[i]? = some p):wkL (l.take<|i+1)=wkL (l.take i)++(p.1.map λc=>(c.2,p.2)):=by unfold wkL;rw[Rc,h,QP,Oc,List.flatten_append];simp
structure Dz (l:List Bw) (hs:List Rat) (n:Nat) (S:Rat) (ds:List (Int×Int)):Prop where
 nd:(ds.map (·.1)).Nodup
 len:ds.length<=n
 ok:∀p∈ds,(∃z∈wkL l,z.1=p.1)/\0<=p.2/\p.2<=12*n
 sum:sZ (λw=>ht hs (w-1).toNat) ds=S
def Dz.put {n:Nat}{S:Rat}{ds:List (Int×Int)}{z:Int×Int}(h:Dz l hs n S ds)(hz:z∈wkL l)(h2:1<=z.2/\z.2<=12):Dz l hs (n+1) (S+(z.2:Rat)*ht hs (z.1-1).toNat) (cz ds z.1<|(W6 ds z.1).getD 0+z.2):=by
 have hg:0<=(W6 ds z.1).getD 0/\(W6 ds z.1).getD 0<=12*n:=by
  cases e:W6 ds z.1 with
  | none=>exact#v[Qy _,by show(0:Int)<=12*n;omega]
  | some v=>exact(h.ok _<|vY e).2
 refine#v[sT h.nd,MG (wy _ _ _) (by have:=h.len;omega),?_,?_]
 .refine xH (λp d=>?_) #v[#v[z,hz,rfl],?_,?_]
  .obtain⟨a,b,c⟩:=h.ok p d;exact#v[a,b,by push_cast;omega]
  .show 0<=(W6 ds z.1).getD 0+z.2;omega
  .show(W6 ds z.1).getD 0+z.2<=_;push_cast;omega
 .rw[xa _ h.nd,h.sum]
def Hn {D M:Nat}(H:Be l)(hw:∀z∈wkL l,z.1<=hs.length)(hn:hs.length<=1000)(hD:D≠0)(h1:D<2 ^ 2900)(hM:M<2 ^ 900)(hb:∀z∈wkL l,Qb D M<|ht hs (z.1-1).toNat)
  (q:Q (qd<|SH hs (wkL l) / ((A7 l:Int):Rat)) F):wp (G0 [.dat<|bsD l,.dat<|.tuple<|hs.map qd] F) Q:=by
 have ad:=H.len;have S:=H.tot;have ac:=H.n2;have O:D<2 ^ 3000:=MI h1 (Nd (by decide)<|by decide);have D4:D<2 ^ 4000:=MI h1 (Nd (by decide)<|by decide);have M1:1000*M<2 ^ 1000:=by
  have:2 ^ 1000=2 ^ 100*2 ^ 900:=by rw[<-Ol]
  rw[this];exact MI (Nat.mul_lt_mul_of_pos_left hM<|by decide) (OA _<|by decide +kernel)
 unfold G0;rw[lV,zF];walk_at "kb";refine x8.2<|wc (i7 rfl)<|i3 ?_;refine x8.2<|L0.2<|C5.2<|w9g rfl<|c7 P7 ?_;refine G3 (λj E N=>N=F/\∃(a:List (Int×Int)) (G C s r:Option DV),Dz l hs (wkL<|l.take j).length (SH hs<|wkL<|l.take j) a/\E=[some<|.dat<|bsD l,some<|.dat<|.tuple<|hs.map qd,some<|.dic true 9<|a.map zD,G,C,s,r,none]) _ 0 _ F #v[rfl,[],none,none,none,none,#v[RS,Mz _,λp b=>(nomatch b),rfl],rfl] ?_ ?_
 .rintro j d A E B ⟨rfl,a,G,C,s,r,h,rfl⟩;rw[Nh] at *;rw[MQ]at A;obtain⟨p,b,rfl⟩:=MP.1 A;have y:=Np b;obtain⟨p2,pc,v⟩:=H.ok p y;have T:(wkL<|l.take j).length+p.1.length<=8:=by
   have e:=qA b;have U:(wkL<|l.take<|j+1).length<=8:=by
    have:=fX (l:=l.take<|j+1) λq hq=>(H.ok q<|List.mem_of_mem_take hq).1
    rw[OZ]at this;omega
   rw[e,Ni,Mv]at U;exact U
  refine#v[_,rfl,L0.2<|C5.2<|w9g rfl<|c7 P7 ?_];refine G3 (λk E N=>N=B/\∃(a:List (Int×Int)) (s r:Option DV),Dz l hs ((wkL<|l.take j).length+k) (SH hs<|wkL (l.take j)++((p.1.take k).map λc=>(c.2,p.2))) a/\E=[some<|.dat<|bsD l,some<|.dat<|.tuple<|hs.map qd,some<|.dic true 9<|a.map zD,some<|.dat<|rwD cmD p.1,some<|.dat<|.int p.2,s,r,none]) _ 0 _ B #v[rfl,a,_,_,by simpa using h,rfl] ?_ ?_
  .rintro k d A E F2 ⟨rfl,a,s,r,h,rfl⟩;rw[Nh] at *;rw[MQ]at A;obtain⟨c,L,rfl⟩:=MP.1 A;have hk:=(MK.1 L).1;have K:=Np L;have J:((c.2,p.2):Int×Int)∈wkL l:=sE.2 #v[p,y,c,K,rfl];have W:=h.put J v;have I:=h.len;have es:SH hs (wkL (l.take j)++((p.1.take<|k+1).map λc=>(c.2,p.2)))=SH hs (wkL (l.take j)++((p.1.take k).map λc=>(c.2,p.2)))+(p.2:Rat)*ht hs (c.2-1).toNat:=by rw[Rc,L,QP,Oc,<-QY];exact yT
   refine#v[[some<|.dat<|bsD l,some<|.dat<|.tuple<|hs.map qd,some<|.dic true 9<|a.map zD,some<|.dat<|rwD cmD p.1,some<|.dat<|.int p.2,some<|.dat<|.int c.1,some<|.dat<|.int c.2,none],rfl,?_];refine Dn (ps:=a.map zD) rfl<|j4.2<|zk (ps:=a.map zD) rfl<|w9g rfl<|f7.2 #v[c.2,rfl,?_];have eg:(igD (a.map zD) c.2).getD (.int 0) = .int ((W6 a c.2).getD 0):=by rw[xq];cases W6 a c.2 <;> rfl
   rw[eg];refine w9w rfl (c7 A5<|w9g rfl #v[c.2,rfl,by rw[Mv];omega,?_]);rw[Gi];exact#v[_,rfl,rfl,_,_,_,by rw[es];exact W,rfl]
  .rintro E F2 ⟨rfl,a,s,r,h,rfl⟩;rw[Nh,Mv,OJ]at h;exact#v[_,rfl,rfl,a,_,_,_,_,by rw[qA b,Ni,Mv];exact h,rfl]
 rintro E B ⟨rfl,a,G,C,s,r,h,rfl⟩;rw[Nh,Mv,OJ]at h;have I:=h.len;refine i3<|w9q<|V8.2<|zE (ps:=a.map zD) rfl ?_;have ei:((a.map zD).map λp=>My.tuple [p.1,p.2])=a.map pr:=by rw[Nn];rfl
 rw[ei];have g:∀n:Nat,n<=100000->n<2 ^ 900:=λn hn=>MT hn (MI (show 100000<2 ^ 20 by decide)<|Nd (by decide)<|by decide)
 have t:∀p∈a,Qb 1 96 ((p.2:Int):Rat):=λp b=>by have:=(h.ok p b).2;refine#v[by rw[Qg];exact Qo _,?_];rw[RQ,Qg];omega
 have u:∀p∈a,Qb D M (ht hs (p.1-1).toNat):=λp b=>by obtain⟨⟨z,m,w⟩,_⟩:=h.ok p b;rw[<-w];exact hb z m
 refine#v[sz (by rw[Mv];omega),jV (f:=λp=>qd<|(p.2:Rat)*ht hs (p.1-1).toNat) a none none B (λp b F Q q=>?_) ?_]
 .obtain⟨⟨z,m,w⟩,_⟩:=h.ok p b;have Z:=H.wk z m;have ab:=hw z m;obtain⟨j,V⟩:∃j:Nat,p.1-1=(j:Int):=#v[(p.1-1).toNat,by omega];have R:=u p b;rw[V,NI]at q R;refine w9l<|C2.2<|w9c rfl<|d4.2<|f7.2<|h7.2 #v[u8 rfl,?_];refine R4.2<|w9s rfl<|w9s rfl<|f7.2<|c7 eV ?_;rw[V];refine c7 (show ixD (.tuple<|hs.map qd) (.int (j:Int))=some (qd<|ht hs j) from V4 (by rw[MQ,eN<|by omega];rfl))<|j7.2 ?_;rw[<-qj];exact xf ((t p b).sz (by decide) (MI (show 1<2 ^ 1 by decide)<|Nd (by decide)<|by decide)<|MI (g 96<|by decide)<|Nd (by decide)<|by decide) (R.sz hD O<|MI hM<|Nd (by decide)<|by decide) q
 have el:(a.map λp=>qd<|(p.2:Rat)*ht hs (p.1-1).toNat)=(a.map λp=>(p.2:Rat)*ht hs (p.1-1).toNat).map qd:=by rw[Nn];rfl
 rw[el];refine#v[i7 rfl,i3 ?_];have i:∀x∈a.map λp=>(p.2:Rat)*ht hs (p.1-1).toNat,Qb (1*D) (96*M) x:=λx hx=>by obtain⟨p,b,rfl⟩:=Nb.1 hx;exact(t p b).mul (u p b) (by decide) hD
 rw[Rn]at i;have Y:(a.map λp=>(p.2:Rat)*ht hs (p.1-1).toNat).length<=8:=by rw[Mv];omega
 have X:(a.map λp=>(p.2:Rat)*ht hs (p.1-1).toNat).length*(96*M)+96*M<2 ^ 1000:=by have:=OA (96*M) Y;omega
 refine A4.2<|w9l<|l3.2<|w9v rfl<|j7.2 ?_;refine xw hD O i X<|R4.2<|C2.2<|d4.2<|l3.2<|w9v rfl<|j7.2 ?_;refine Ge (by omega)<|d4.2<|f7.2<|h7.2 #v[u8 rfl,j7.2 ?_];have o:sumQ (a.map λp=>(p.2:Rat)*ht hs (p.1-1).toNat)=SH hs (wkL l):=h.sum;have P:=gb hD i _<|Mz _;rw[OJ,o]at P;rw[o,<-qj];have hT:(0:Rat)<((A7 l:Int):Rat):=by exact_mod_cast (by omega:(0:Int)<A7 l)
 refine DM (P.sz hD O<|by omega) #v[?_,?_] hT<|m5 q
 .rw[RQ];exact MI (g _<|by omega) (Nd (by decide)<|by decide)
 .rw[Qg];exact MI (g _<|by omega) (Nd (by decide)<|by decide)
end
def p90 {n k:Nat}(h:n<=2 ^ k)(hk:k<9000):n<2 ^ 9000:=MT h (Nk (by decide) hk)
structure Hg (h:Rat):Prop where
 den:h.den<=2 ^ 200
 num:h.num.natAbs<=2 ^ 200
def Hg.bd {h:Rat}(H:Hg h):Bd 200 h.num/\Bd 200 ((h.den:Nat):Int):=#v[H.num,by unfold Bd;rw[NC];exact H.den]
def Bs {i:Nat}{m:DE->M Out}{E:DE}{F:FdS}{ds:List My}{Q:Out->FdS->Prop}(he:eW E i=some ds)(q:wp (m (E.set i<|some<|.dat<|.list ds) F) Q):wp (sX i m E F) Q:=by unfold sX;rw[he,MU];exact q
abbrev hsD (hs:List Rat):My:=.tuple<|hs.map qd
section
variable {F:FdS}{Q:My->FdS->Prop}{l:List Bw}{hs:List Rat}
def yn (a b:Rat):mkRat (a.num*((b.den:Nat):Int)-b.num*((a.den:Nat):Int)) (a.den*b.den)=a-b:=by rw[Rat.sub_def,Pd]
def Hg.zero:Hg 0:=#v[Nat.one_le_two_pow,Nv _]
def vE {a b:Rat}(ha:Hg a)(hb:Hg b):(a-b).den<=2 ^ 400/\(a-b).num.natAbs<=2 ^ 401:=by
 have h:=wB (a:=a.num*((b.den:Nat):Int)-b.num*((a.den:Nat):Int)) (d:=a.den*b.den)<|OE a.den_pos b.den_pos;rw[yn]at h;have e:2 ^ 200*2 ^ 200=2 ^ 400:=by rw[<-Ol]
 have i:2 ^ 401=2*2 ^ 400:=by rw[show 401=1+400 from rfl,Ol]
 have g:a.den*b.den<=2 ^ 200*2 ^ 200:=NQ ha.den hb.den;have f:(a.num*((b.den:Nat):Int)).natAbs<=2 ^ 200*2 ^ 200:=by rw[PB];exact NQ ha.num hb.den
 have c:(b.num*((a.den:Nat):Int)).natAbs<=2 ^ 200*2 ^ 200:=by rw[PB];exact NQ hb.num ha.den
 rw[e]at g f c;rw[i];generalize 2 ^ 400=z at *;omega
def cW (hh:∀h∈hs,Hg h){k:Nat}(hk:k<=hs.length):Hg (ah hs k):=by
 cases k with
 | zero=>exact Hg.zero
 | succ k =>rw[km];exact hh _ (Np<|eN<|by omega)
def fD (hh:∀h∈hs,Hg h){k:Nat}(hk:k<hs.length):Hg (ht hs k):=hh _<|Np<|eN hk
def qF {h:Nat}{hv:My}(hse:gr hv=some (hs.map qd))(hxe:∀i:Int,ixD hv (.int i)=atI (hs.map qd) i)(H:Be l)(h3:h<=3)(hn1:1<=hs.length)(hn:hs.length<=1000)(hh:∀z∈hs,Hg z)(hw:∀z∈wkL l,z.1<=hs.length)
  (q:∀m:Rat,(∃k,k<hs.length/\m=sp hs k)->(∀k,k<hs.length->m<=sp hs k)->Q (qd<|(h:Rat)*m-SH hs (wkL l) / ((A7 l:Int):Rat)) F) :
  wp (y9 [.dat<|bsD l,.dat<|.int (h:Nat),.dat hv] F) Q:=by
 have hl:=H.len;have al:=H.tot;have c:∀{a b:Int} {j k:Nat},Bd j a->Bd k b->j<100000->k<100000->u9 (.int a) (.int b)=some (.int<|a*b):=λB A h3 h4=>gC (B.big<|by omega) (A.big<|by omega)
 unfold y9;walk_at "kb";refine x8.2<|cB.2<|iN.2<|h7.2 #v[u8 rfl,i7 rfl,i3 ?_];refine w9q<|f7.2 #v[i7 rfl,i3 ?_];refine x8.2<|L0.2<|C5.2<|w9g rfl<|c7 hse ?_;refine G3 (λi E P=>P=F/\∃g:Option DV,E=[some<|.dat<|bsD l,some<|.dat<|.int (h:Nat),some<|.dat hv,some<|.own<|(List.range i).map λk=>qd<|sp hs k,some<|.dat<|qd<|ah hs i,g,none,none,none,none,none]) _ 0 _ F #v[rfl,none,rfl] ?_ ?_
 .rintro i d u E F1 ⟨rfl,g,rfl⟩;rw[Nh] at *;rw[MQ]at u;obtain⟨p,hp,rfl⟩:=MP.1 u;have y:=(MK.1 hp).1;have ep:=FM hp;have B:=fD hh y;have A:=cW (k:=i) hh (by omega);have D:=B.bd;have b2:=A.bd;rw[ep];refine#v[_,rfl,x8.2<|nk rfl (by rw[Mv,Oi];omega) ?_];refine w9l (j4.2<|j4.2<|w9s rfl<|f7.2<|c7 ix0<|w9s rfl<|f7.2<|c7 ix1<|c7 (c D.1 b2.2 (by decide)<|by decide) ?_);refine j4.2 (w9s rfl<|f7.2<|c7 ix0<|w9s rfl<|f7.2<|c7 ix1<|c7 (c b2.1 D.2 (by decide)<|by decide)<|c7 eV ?_);refine R4.2 (j4.2<|w9s rfl<|f7.2<|c7 ix1<|w9s rfl<|f7.2<|c7 ix1<|c7 (c D.2 b2.2 (by decide)<|by decide)<|j7.2 ?_);rw[<-QF];have M:(ht hs i).den*(ah hs i).den<=2 ^ 400:=MG (NQ B.den A.den) (by rw[<-Ol];exact Mz _);refine aL (OE (ht hs i).den_pos (ah hs i).den_pos) (p90 (k:=400) M<|by decide)<|i3<|cf.2<|w9g rfl #v[i7 rfl,?_];rw[yn];exact#v[_,rfl,rfl,_,by rw[List.range_succ,Oc];rfl]
 rintro E F1 ⟨rfl,g,rfl⟩;rw[Nh,Mv];obtain⟨n,en⟩:∃n,hs.length=n:=#v[_,rfl];have ix:∀k,k<n->atI ((List.range n).map λk=>qd<|sp hs k) (k:Int)=some (qd<|sp hs k):=λk s=>V4 (by rw[MQ,OC s];rfl)
 rw[en];have G:∀k,k<n->(sp hs k).den<=2 ^ 400/\(sp hs k).num.natAbs<=2 ^ 401:=λk s=>vE (fD hh<|by omega) (cW hh<|by omega)
 have v:∀k,k<n->Bd 401 (sp hs k).num/\Bd 400 (((sp hs k).den:Nat):Int):=λk s=>by have:=G k s;unfold Bd;rw[NC];exact#v[this.2,this.1]
 refine i3 (w9q<|j4.2<|M5.2<|gB rfl<|f7.2<|c7 (ix 0<|by omega) #v[i7 rfl,i3 ?_]);refine x8.2<|Bs rfl<|L0.2<|C5.2<|w9g rfl<|c7 Z7 ?_;refine G3 (λi E P=>P=F1/\∃(m:Rat) (g:Option DV),(∃k,k<n/\m=sp hs k)/\(∀k,k<i->m<=sp hs k)/\E=[some<|.dat<|bsD l,some<|.dat<|.int (h:Nat),some<|.dat hv,some<|.dat<|.list<|(List.range n).map λk=>qd<|sp hs k,some<|.dat<|qd<|ah hs n,g,some<|.dat<|qd m,none,none,none,none]) _ 0 _ F1 #v[rfl,sp hs 0,g,#v[0,by omega,rfl],λk s=>absurd s (by omega),rfl] ?_ ?_
 .rintro i d u E F2 ⟨rfl,m,g,⟨k,s,rfl⟩,J,rfl⟩;rw[Nh] at *;have y:i<n:=by have:=(MK.1 u).1;simpa using this
  rw[MQ,OC y]at u;cases u;have D:=v i y;have b2:=v k s;refine#v[_,rfl,iG.2<|T8.2<|j4.2<|j4.2<|w9s rfl<|f7.2<|c7 ix0<|w9s rfl<|f7.2<|c7 ix1<|c7 (c D.1 b2.2 (by decide)<|by decide) ?_];refine j4.2 (w9s rfl<|f7.2<|c7 ix0<|w9s rfl<|f7.2<|c7 ix1<|c7 (c b2.1 D.2 (by decide)<|by decide)<|c7 fg<|c7 rfl ?_);have N:=Rat.lt_iff (sp hs i)<|sp hs k;refine P3 (λe=>?_) (λe=>?_)
  .have lt:=N.2<|MS e;refine cf.2 (w9g rfl #v[i7 rfl,_,rfl,rfl,sp hs i,_,#v[i,y,rfl],λj R=>?_,rfl]);rcases Pj j i with z | z
   .exact Rat.le_trans (Rat.le_of_lt lt)<|J j z
   .rw[show j=i by omega];exact Rat.le_refl
  .have lt:¬sp hs i<sp hs k:=λz=>(Om e)<|N.1 z
   refine J6.2 #v[_,rfl,rfl,sp hs k,_,#v[k,s,rfl],λj R=>?_,rfl];rcases Pj j i with z | z
   .exact J j z
   .rw[show j=i by omega];exact Od.1 lt
 rintro E F2 ⟨rfl,m,X,⟨Y,K,em⟩,J,rfl⟩;rw[Nh,Mv,Oi]at J;have r:=v Y K;have mb:=G Y K;rw[<-em]at r mb;refine i3<|w9q<|f7.2 #v[i7 rfl,i3<|w9q<|f7.2 #v[i7 rfl,i3 ?_]];refine x8.2<|L0.2<|C5.2<|l3.2<|w9v rfl<|j7.2<|su H<|c7 Z7 ?_;refine G3 (λi E P=>P=F2/\∃(t:Int) (b:Nat) (g W x:Option DV),0<b/\(t:Rat)=SH hs ((wkL l).take i)*(b:Rat)/\Bd (408*i+408) t/\b<=2 ^ (200*i)/\E=[some<|.dat<|bsD l,some<|.dat<|.int (h:Nat),some<|.dat hv,some<|.dat<|.list<|(List.range n).map λk=>qd<|sp hs k,some<|.dat<|qd<|ah hs n,g,some<|.dat<|qd m,some<|.dat<|.int t,some<|.dat<|.int (b:Nat),W,x]) _ 0 _ F2 #v[rfl,0,1,X,none,none,by decide,?_,?_,by decide,rfl] ?_ ?_
 .show((0:Int):Rat)=0*_;simp
 .unfold Bd;simp
 .rintro i d u E F3 ⟨rfl,t,b,g,W,x,S,U,V,O,rfl⟩;rw[Nh] at *;rw[MQ]at u;obtain⟨z,Z,rfl⟩:=MP.1 u;have y:=(MK.1 Z).1;have I:=Np Z;have af:=H.wk z I;have ad:=hw z I;obtain⟨j,ej⟩:∃j:Nat,z.1-1=(j:Int):=#v[(z.1-1).toNat,by omega];have R:j<hs.length:=by omega
  have L:=fD hh R;have C:=L.bd;have f:Bd (200*i) ((b:Nat):Int):=by unfold Bd;rw[NC];exact O
  have bz:Bd 4 z.2:=by unfold Bd;show _<=16;omega
  have ab:ixD hv (.int<|z.1-1)=some (qd<|ht hs j):=by rw[ej,hxe];exact V4 (by rw[MQ,eN R];rfl)
  refine#v[[some<|.dat<|bsD l,some<|.dat<|.int (h:Nat),some<|.dat hv,some<|.dat<|.list<|(List.range n).map λk=>qd<|sp hs k,some<|.dat<|qd<|ah hs n,g,some<|.dat<|qd m,some<|.dat<|.int t,some<|.dat<|.int (b:Nat),some<|.dat<|.int z.1,some<|.dat<|.int z.2],rfl,w9q<|w9s rfl<|w9s rfl<|f7.2<|c7 eV<|c7 ab #v[i7 rfl,i3 ?_]];refine w9q (j4.2<|w9s rfl<|w9s rfl<|f7.2<|c7 ix1<|c7 (c V C.2 (by omega)<|by decide) ?_);refine j4.2 (w9s rfl<|w9s rfl<|f7.2<|c7 ix0<|c7 (c bz C.1 (by decide)<|by decide)<|w9w rfl<|c7 (c (bz.mul C.1) f (by decide)<|by omega)<|c7 A5 #v[i7 rfl,i3 ?_]);refine cf.2 (w9s rfl<|w9s rfl<|f7.2<|c7 ix1<|c7 (c f C.2 (by omega)<|by decide) #v[i7 rfl,?_]);rw[<-QF];refine#v[_,rfl,rfl,t*(((ht hs j).den:Nat):Int)+z.2*(ht hs j).num*(b:Int),b*(ht hs j).den,_,_,_,OE S (ht hs j).den_pos,?_,?_,?_,rfl]
  .rw[Au Z,show(z.1-1).toNat=j by omega];push_cast;rw[U,vd];grind
  .exact(((V.mul C.2).mono (k:=408*(i+1)+407)<|by omega).add<|((bz.mul C.1).mul f).mono<|by omega).mono (by omega)
  .have:=NQ O L.den;rw[show 200*(i+1)=200*i+200 by omega,Ol];exact this
 rintro E F3 ⟨rfl,t,b,g,W,x,S,U,V,O,rfl⟩;rw[Nh,Mv] at *;rw[OJ]at U;generalize hlen:(wkL l).length=w at *;have f:Bd (200*w) ((b:Nat):Int):=by unfold Bd;rw[NC];exact O
 have bT:Bd 6 (A7 l):=by unfold Bd;show _<=64;omega
 have bh:Bd 2 ((h:Nat):Int):=by unfold Bd;show _<=4;omega
 refine i3 (w9q<|w9s rfl<|uZ (o:=.none) rfl (by have:=H.n2;omega)<|c7 (c f bT (by omega)<|by decide) #v[i7 rfl,i3 ?_]);have bB:=f.mul bT;refine A4.2 (w9l<|j4.2<|j4.2<|w9s rfl<|w9s rfl<|f7.2<|c7 ix0<|c7 (c bh r.1 (by decide)<|by decide)<|w9w rfl<|c7 (c (bh.mul r.1) bB (by decide)<|by omega) ?_);refine w9s rfl (w9s rfl<|f7.2<|c7 ix1<|c7 (c V r.2 (by omega)<|by decide)<|c7 eV ?_);refine R4.2 (j4.2<|w9s rfl<|f7.2<|c7 ix1<|w9w rfl<|c7 (c r.2 bB (by decide)<|by omega)<|j7.2 ?_);obtain⟨T,eT⟩:∃T:Nat,A7 l=(T:Int):=#v[(A7 l).toNat,by omega];have hT:0<T:=by omega
 rw[eT,<-QF,<-QF];have bn:m.den*(b*T)<=2 ^ 2006:=by have B:b<=2 ^ 1600:=MG O (Nd (by decide)<|by omega);have A:b*T<=2 ^ 1600*2 ^ 6:=NQ B (by show T<=64;omega);exact MG (NQ mb.1 A) (by rw[<-Ol,<-Ol];exact Mz _)
 refine aL (OE m.den_pos<|OE S hT) (p90 bn<|by decide)<|m5 ?_;have ac:(T:Rat)≠0:=by exact_mod_cast (by omega:T≠0)
 have am:(T:Rat)*(T:Rat)⁻¹=1:=Rat.mul_inv_cancel _ ac;have fe:=q m #v[Y,by omega,em] (λk s=>J k<|by omega);rw[eT]at fe;rw[FQ (p:=(h:Rat)*m-SH hs (wkL l) / (((T:Int)):Rat)) (OE m.den_pos<|OE S hT) ?_]
 .exact fe
 .push_cast;rw[vd,U,RV];grind
def yQ {h:Nat}(H:Be l)(h3:h<=3)(hn1:1<=hs.length)(hn:hs.length<=1000)(hh:∀z∈hs,Hg z)(hw:∀z∈wkL l,z.1<=hs.length)
  (q:∀m:Rat,(∃k,k<hs.length/\m=sp hs k)->(∀k,k<hs.length->m<=sp hs k)->Q (qd<|(h:Rat)*m-SH hs (wkL l) / ((A7 l:Int):Rat)) F) :
  wp (y9 [.dat<|bsD l,.dat<|.int (h:Nat),.dat<|hsD hs] F) Q:=qF P7 (λi=>rfl) H h3 hn1 hn hh hw q
def wM {h:Nat}(H:Be l)(h3:h<=3)(hn1:1<=hs.length)(hn:hs.length<=1000)(hh:∀z∈hs,Hg z)(hw:∀z∈wkL l,z.1<=hs.length)
  (q:∀m:Rat,(∃k,k<hs.length/\m=sp hs k)->(∀k,k<hs.length->m<=sp hs k)->Q (qd<|(h:Rat)*m-SH hs (wkL l) / ((A7 l:Int):Rat)) F) :
  wp (y9 [.dat<|bsD l,.dat<|.int (h:Nat),.dat<|.list<|hs.map qd] F) Q:=qF Z7 (λi=>jC) H h3 hn1 hn hh hw q
end
def CJ:P6=L6:=rfl
def rE:x3=L6:=rfl
def AG:G9=J4:=rfl
def mv:E9=O3:=rfl
def DI:C6=C7:=rfl
def rV {bd:My->DE->Option DE}{body:DE->M Out}{Q:Out->FdS->Prop}(I:Nat->DE->FdS->Prop):∀(items:List My) (n:Nat) (E:DE) (F:FdS),I n E F ->
  (∀i d,items[i]? = some d->∀E F,I (n+i) E F->∃E1,bd d E=some E1/\wp (body E1 F) λo F'=>(∃E2,o = .nx E2/\I (n+i+1) E2 F')\/∃v,o = .rt v/\Q (.rt v) F')->(∀E F,I (n+items.length) E F->Q (.nx E) F)->wp (Q5 bd body items E F) Q
 | [],n,E,F,h,_,hq=>d6.2<|hq E F h
 | d::r,n,E,F,h,st,hq=>by
  obtain⟨E1,g,f⟩:=st 0 d rfl E F h;rw[Q5,g,MU,d5];refine l6 f λo j a=>?_
  rcases a with ⟨E2,c,a⟩ | ⟨v,c,a⟩
  .subst c;refine rV I r (n+1) E2 j a (λi d e E F b=>?_) (λE F b=>hq E F (by rw[ME];rw[show n+(r.length+1)=n+1+r.length by omega];exact b));have:=st (i+1) d (by simpa using e) E F (by rw[show n+(i+1)=n+1+i by omega];exact b);rw[show n+(i+1)+1=n+1+i+1 by omega]at this;exact this
  .subst c;exact d6.2 a
def DO {fi:Nat}{told:Str}{g:List DV->M My}{ms:DE->M (List DV)}{hd:Str->List My->DE->Option DE}{E:DE}{F:FdS}{Q:Out->FdS->Prop}
  (q:wp (ms E F) λxs F1=>wp (g xs F1) λd F2=>(∃z E1,ak d=some z/\hd z.1 z.2 E=some E1/\Q (.nx E1) F2)\/(ak d=none/\∃E1,bN fi (.tuple [.str told,d]) E=some E1/\Q (.nx E1) F2)):wp (yU fi told g ms hd E F) Q:=by
 unfold yU;rw[d5];refine l6 q λxs F1 h=>?_
 rw[d5];refine l6 h λd F2 h=>?_
 dsimp only;rcases h with ⟨z,E1,b,a,h⟩ | ⟨b,E1,a,h⟩
 .rw[b];dsimp only;rw[a];exact d6.2 h
 .rw[b];dsimp only;rw[a];exact d6.2 h
def cH {nm:Str}{ms:DE->M (List My)}{E:DE}{F:FdS}{Q:Out->FdS->Prop}(q:wp (ms E F) λds F1=>ds.length=(psT nm).length/\Q (.rt<|fG nm ds) F1):wp (bX nm ms E F) Q:=by
 unfold bX;rw[d5];refine l6 q λds F1 h=>?_
 rw[Mx h.1];exact d6.2 h.2
section
variable {F:FdS}{Q:My->FdS->Prop}{n:Nat}
def K3:My->Bool
 | .tuple [.int a,.int b]=>decide (1<=b)&&decide (Int.gcd a b=1)
 | _=>false
def cG {d:My}:cV 2 d=true->∃a b,d = .tuple [a,b]:=λh=>by
 cases d with
 | tuple c =>
  simp only[cV,OU]at h;match c,h with
  | [a,b],_=>exact#v[a,b,rfl]
 | _=>simp[cV]at h
def no2 {d:My}(h:cV 2 d=false):K3 d=false:=by
 cases d with
 | tuple c =>
  match c,h with
  | [a,b],h=>simp[cV]at h
  | [],h=>rfl
  | [_],h=>simp[K3]
  | _::_::_::_,h=>simp[K3]
 | _=>rfl
def iA {a b:My}(h:isI a=false\/wd 1 b=false):K3 (.tuple [a,b])=false:=by
 cases a with
 | int i =>
  cases b with
  | int j =>
   rcases h with h | h
   .simp[isI]at h
   .simp only[wd]at h;simp only[K3,h,QR]
  | _=>rfl
 | _=>rfl
def Fv {z:Nat}:eqD false (.int (z:Nat)) (.int 1)=some (.bool<|decide (z=1)):=by
 rw[Fy];have:((z:Int)=1)↔z=1:=by omega
 simp only[this]
def wu {d:My}(h:scs n d)(q:Q (.bool<|K3 d) F):wp (G1 [.dat d] F) Q:=by
 unfold G1;rw[mv,CJ,AG,DI];walk_at "go";refine qt (m:=2) h ?_;cases e3:cV 2 d with
 | false =>rw[no2 e3]at q;refine c7 rfl<|w6 rfl ?_;walk_at "go";exact q
 | true =>
  obtain⟨a,b,rfl⟩:=cG e3;have f:scs n a/\scs n b:=by simpa [scs,cN] using h
  refine c7 rfl<|j0 rfl ?_;walk_at "go";refine ni f.1 ?_;refine c7 rfl (P3 (λe=>?_)<|λe=>?_)
  .walk_at "go";refine Du f.2 ?_;refine c7 rfl (P3 (λc=>?_)<|λc=>?_)
   .walk_at "go";cases a with
    | int i =>
     cases b with
     | int j =>refine BO ?_;refine f7.2<|c7 Fv<|m5 ?_;have c:decide (1<=j)=true:=c;simp only[K3,c,Qx]at q;exact q
     | _=>simp[wd]at c
    | _=>simp[isI]at e
   .rw[iA<|.inr c]at q;walk_at "go";exact q
  .rw[iA<|.inl e]at q;walk_at "go";exact q
def vZ {d:My}(h:K3 d=true):∃a b:Int,d = .tuple [.int a,.int b]/\1<=b/\Int.gcd a b=1:=by
 unfold K3 at h;split at h
 .simp only[Ny,OU]at h;exact#v[_,_,rfl,h.1,h.2]
 .cases h
def zo {a b:Int}(hb:1<=b):(a / ((Int.gcd a b:Nat):Int)=a/\b / ((Int.gcd a b:Nat):Int)=b)↔Int.gcd a b=1:=by
 constructor
 .rintro ⟨_,h⟩;have hg:0<Int.gcd a b:=Qn a (by omega);have e:((Int.gcd a b:Nat):Int) ∣ b:=Qj ..;obtain⟨c,d⟩:=e;generalize Int.gcd a b=g at *;rw[d,QO _<|by omega]at h;have i:c≠0:=by rintro rfl;simp at d;omega
  have:(g:Int)=1:=by
   have f:c*1=c*(g:Int):=by rw[Int.mul_one,SE];exact h
   exact(Int.eq_of_mul_eq_mul_left i f).symm
  omega
 .intro h;rw[h];simp
def inN {ds:List My}{f:My->Bool}:inD false (.bool false) (.list<|ds.map λd=>.bool<|f d)=some (.bool (!ds.all f)):=by
 have a:SeqAt.shaped (.list<|ds.map λd=>My.bool<|f d)=true:=by refine Gd.shaped (n:=0) (N:=1+A9 (ds.map λd=>My.bool<|f d)) (k:=1) (Gd.lst (M:=1) (λd e=>?_)<|Mz _) (by decide) (by decide);obtain⟨x,_,rfl⟩:=Nb.1 e;exact zK
 show(if SeqAt.shaped (.list<|ds.map λd=>My.bool<|f d)=true/\SeqAt.shaped (.bool false)=true then _ else none)=_;rw[Mx (show SeqAt.shaped (.list<|ds.map λd=>My.bool<|f d)=true/\SeqAt.shaped (.bool false)=true from#v[a,by decide]),MC<|show ¬(false=true) by decide];refine NU (λb=>some<|My.bool b) ?_;clear a;induction ds with
 | nil=>rfl
 | cons d r c =>rw[MB,Ro,PU,Bool.not_and,c];cases f d <;> simp[My.eqv]
def U5 {d:My}(h:scs n d):isT (tyD d) "tuple" = (match d with | .tuple _=>true | _=>false):=by
 cases d with
 | int i=>exact fz
 | bool i=>exact dN
 | none=>exact X5
 | str i=>exact eZ
 | tuple i=>exact bK
 | list i=>exact dg
 | dict i=>exact absurd h (by simp[scs])
def EI {a b c d:Int}:eqD false (.tuple [.int a,.int b]) (.tuple [.int c,.int d])=some (.bool<|decide (a=c/\b=d)):=by
 have g:∀x y:Int,SeqAt.shaped (.tuple [.int x,.int y])=true:=λ_ _=>rfl
 unfold eqD;simp only[g,and_self,Of];congr 2;by_cases e:a=c
 .by_cases f:b=d
  .simp[My.eqv,My.eqvAll,e,f]
  .simp[My.eqv,My.eqvAll,e,f]
 .simp[My.eqv,My.eqvAll,e]
def rJ {d:My}(h:K3 d=true):∃p:Rat,d=qd p:=by obtain⟨a,b,rfl,e,hg⟩:=vZ h;refine#v[mkRat a b.toNat,?_];have c:=aY (i:=a) (j:=b) (by omega);rw[hg]at c;simp only[Int.natCast_one,Int.ediv_one]at c;exact iU c (by omega)
def we {a:Int}{n:Nat}(hn:0<n)(hb:n<2 ^ 9000)(q:Q (.tuple [.int<|a / ((Int.gcd a n:Nat):Int),.int<|(n:Int) / ((Int.gcd a n:Nat):Int)]) F):wp (w4 [.dat<|.int a,.dat<|.int (n:Nat)] F) Q:=by refine aL hn hb ?_;have b:=aY (i:=a) (j:=(n:Int)) (by omega);have e:=iU b (by omega);rw[NI]at e;rw[<-e];exact q
def fQ {d:My}(h:scs n d)(hn:n<=100)(q:Q (.bool<|K3 d) F):wp (C9 [.dat d] F) Q:=by
 unfold C9;rw[rE];refine G5.2<|w9i<|aj.2<|Q1.2<|W5.2<|av.2<|w9w rfl<|c7 U4<|c7 rfl ?_;rw[U5 h];have i:K3 d=false->∀{m:DE->M Out} {E:DE},wp (mRt (sC<|.bool false) E F) (sqK m<|gJ Q):=λe m E=>by rw[e]at q;exact A4.2<|f7.2<|U1<|m5 q
 cases et:cV 2 d with
 | false =>
  cases d with
  | tuple t =>
   have hn:¬((t.length:Int)=2):=by simp only[cV,decide_eq_false_iff_not]at et;omega
   refine j0 rfl (aj.2<|T8.2<|j4.2<|M4.2<|d4.2<|w9w rfl<|h7.2<|c7 U7<|f7.2<|c7 Ac<|c7 rfl<|w6 (by simp[hn])<|w6 rfl<|i<|no2 et)
  | _=>exact w6 rfl<|i<|no2 et
 | true =>
  obtain⟨x,y,rfl⟩:=cG et;have j:scs n x/\scs n y:=by simpa [scs,cN] using h
  refine j0 rfl (aj.2<|T8.2<|j4.2<|M4.2<|d4.2<|w9w rfl<|h7.2<|c7 U7<|f7.2<|c7 Ac<|c7 rfl<|j0 (by simp) ?_);refine T8.2 (j4.2<|f7.2<|V8.2<|C5.2<|w9w rfl<|c7 P7 #v[sz (by simp),?_]);refine iT (f:=λd=>.bool<|isI d) [x,y] none (λd o F Q l=>?_) ?_
  .simp only[MJ,NH,OS]at o;refine l3.2<|w9v rfl<|j7.2 ?_;rcases o with rfl | rfl
   .exact ni j.1 l
   .exact ni j.2 l
  refine c7 inN (c7 rfl<|P3 (λc=>?_)<|λc=>?_)
  .refine i ?_;simp only[PU,List.all_nil,Bool.and_true,Bool.not_eq_true',Bool.and_eq_false_iff]at c;refine iA ?_;rcases c with c | c
   .exact .inl c
   .refine .inr ?_;cases y <;> simp_all [isI,wd]
  .simp only[PU,List.all_nil,Bool.and_true,Bool.not_eq_false',Ny]at c;obtain⟨a,rfl⟩:∃a,x = .int a:=by have:=c.1;cases x <;> simp[isI]at this;exact#v[_,rfl]
   obtain⟨b,rfl⟩:∃b,y = .int b:=by have:=c.2;cases y <;> simp[isI]at this;exact#v[_,rfl]
   have r:K3 (.tuple [.int a,.int b])=(decide (1<=b)&&decide (Int.gcd a b=1)):=rfl;refine J6.2 (i3<|A4.2<|oz.2<|j4.2<|w9s rfl<|f7.2<|c7 rfl<|f7.2<|c7 qZ<|c7 rfl<|P3 (λk=>?_)<|λk=>?_)
   .have g:1<=b:=by have:=MS k;omega
    have u:b.natAbs<2 ^ 9000:=by have p:=j.2;simp only[scs]at p;refine MI p (MG (xi hn)<|Nd (by decide)<|by decide)
    obtain⟨m,rfl⟩:∃m:Nat,b=(m:Int):=#v[b.toNat,by omega];refine j4.2<|w9l<|w9s rfl<|f7.2<|c7 rfl<|R4.2<|w9s rfl<|f7.2<|c7 rfl<|j7.2 ?_;refine we (by omega) (by simpa using u)<|w9w rfl<|c7 EI<|m5 ?_;have s:decide (a / ((Int.gcd a m:Nat):Int)=a/\(m:Int) / ((Int.gcd a m:Nat):Int)=m)=decide (Int.gcd a m=1):=by simp only[zo g]
    rw[s];rw[r,show decide (1<=(m:Int))=true from MW g,Qx]at q;exact q
   .have g:¬1<=b:=by have:=Om k;omega
    rw[r,show decide (1<=b)=false from MX g,QR]at q;exact m5 q
end
def uq {ds:List My}{f:My->Bool}:yg [.list<|ds.map λd=>.bool<|f d]=some (.bool<|ds.all f):=by
 have e:aQ (ds.map λd=>.bool<|f d)=some (ds.map f):=by
  induction ds with
  | nil=>rfl
  | cons d r a=>simp only[MB,aQ,a,QD]
 simp only[yg,e,QD];refine NU (λb=>some<|My.bool b) ?_;simp[Sx,Function.comp_def]
def kK {n:Nat}{ds:List My}(h:scs n (.tuple ds)):∀d∈ds,scs n d:=O9.1 (by simpa [scs] using h)
def vU:My->Bool
 | .tuple _=>true
 | _=>false
def dc {n:Nat}{d:My}(h:scs n d):isT (tyD d) "tuple" = vU d:=by rw[U5 h];cases d <;> rfl
def Hs {x:Int}:rp [.int 1,.int x]=some (.int<|max 1 x):=by
 show some (My.int<|if x > 1 then x else 1)=_;congr 2;by_cases h:x > 1
 .rw[Mx h];omega
 .rw[MC h];omega
def shB (l:List Bw):My->Bool
 | .tuple [a,.tuple hs]=>K3 a&&(decide (max 1 (gwL l)<=(hs.length:Int))&&hs.all K3)
 | _=>false
def AC {l:List Bw}{d:My}(h:cV 2 d=false):shB l d=false:=by
 unfold shB;split
 .simp[cV]at h
 .rfl
def Ds {l:List Bw}{a b:My}(h:vU b=false):shB l (.tuple [a,b])=false:=by cases b <;> first | rfl | cases h
section
variable {F:FdS}{Q:My->FdS->Prop}{n:Nat}{l:List Bw}
def mD {d:My}(H:Be l)(h:scs n d)(hl:∀a hs,d = .tuple [a,.tuple hs]->hs.length<=1000)(q:Q (.bool<|shB l d) F):wp (C4 [.dat<|bsD l,.dat d] F) Q:=by
 unfold C4;rw[mv];walk_at "go";refine qt (m:=2) h ?_;cases e3:cV 2 d with
 | false =>rw[AC e3]at q;refine c7 rfl<|w6 rfl ?_;walk_at "go";exact q
 | true =>
  obtain⟨a,b,rfl⟩:=cG e3;have hs:scs n a/\scs n b:=by simpa [scs,cN] using h
  refine c7 rfl<|j0 rfl ?_;walk_at "go";refine wu hs.1 ?_;cases ea:K3 a with
  | false =>
   have j:shB l (.tuple [a,b])=false:=by cases b <;> first | rfl | simp only[shB,ea,QR]
   rw[j]at q;refine c7 rfl<|w6 rfl ?_;walk_at "go";exact q
  | true =>
   refine c7 rfl<|j0 rfl ?_;walk_at "go";rw[dc hs.2];cases et:vU b with
   | false =>rw[Ds et]at q;refine w6 rfl ?_;walk_at "go";exact q
   | true =>
    obtain⟨c,rfl⟩:∃c,b = .tuple c:=by cases b <;> first | exact#v[_,rfl] | cases et
    have k:=hl a c rfl;refine j0 rfl<|J6.2<|i3<|A4.2<|oz.2 ?_;refine j4.2<|M4.2<|d4.2<|w9s rfl<|f7.2<|c7 rfl<|h7.2<|c7 U7<|M4.2<|d4.2<|f7.2<|d4.2<|l3.2<|w9v rfl<|j7.2 ?_;refine yY H (h7.2<|c7 Hs<|c7 GT<|c7 rfl<|P3 (λe=>?_)<|λe=>?_)
    .refine M4.2 (d4.2<|V8.2<|C5.2<|w9s rfl<|f7.2<|c7 rfl<|c7 P7 #v[sz (by omega),?_]);refine iT (f:=λd=>.bool<|K3 d) c none (λd i F Q g=>?_) ?_
     .exact l3.2<|w9v rfl<|j7.2<|wu (kK hs.2 d i) g
     .refine h7.2<|c7 uq<|m5 ?_;simp only[shB,ea,e,Qx]at q;exact q
    .refine m5 ?_;simp only[shB,ea,e,Qx,QR]at q;exact q
end
def Hj {xs ys:List My}(h:xs.length+ys.length<=100000):D2 (.tuple xs) (.tuple ys)=some (.tuple<|xs++ys):=Mx<|sz h
def DS {a b:DE->M My}{E:DE}{F:FdS}{Q:List My->FdS->Prop}(h:wp (a E F) λx F1=>wp (b E F1) λy F2=>∃xs ys,x = .tuple xs/\y = .tuple ys/\Q (lJ xs ys) F2):wp (qv a b E F) Q:=by
 unfold qv;rw[d5];refine l6 h λx F1 h=>?_
 rw[d5];refine l6 h λy F2 h=>?_
 obtain⟨xs,ys,rfl,rfl,q⟩:=h;exact d6.2 q
theorem nN {α:Type}{x y:α->My}{me:DE->M My}{f:α->My}{rest:DE}{Q:List My->FdS->Prop}:∀(ps:List α) (o o':Option DV) (F:FdS),(∀p∈ps,∀(F:FdS) (Q:My->FdS->Prop),Q (f p) F->wp (me (some (.dat<|x p)::some (.dat<|y p)::rest) F) Q)->Q (ps.map f) F->wp (S7 (P4 2<|u5 (bN 0)<|u5 (bN 1) P9) K9 me (ps.map λa=>.tuple [x a,y a]) (o::o'::rest) F) Q
 | [],o,o',F,_,q=>d6.2 q
 | p::ps,o,o',F,h,q=>by rw[MB,S7];have e:P4 2 (u5 (bN 0)<|u5 (bN 1) P9) (.tuple [x p,y p]) (o::o'::rest)=some (some (.dat<|x p)::some (.dat<|y p)::rest):=rfl;rw[e,MU,d5];refine ae.2 ?_;rw[Mx rfl,d5];refine h p MD F _ ?_;rw[d5];exact nN ps _ _ F (λp b=>h p<|Mw _ b)<|d6.2 q
def DL (hs:List Rat):lJ (qd 0::hs.map qd) (hs.map qd)=(List.range hs.length).map λk=>.tuple [qd<|ah hs k,qd<|ht hs k]:=by
 unfold lJ;refine List.ext_getElem (by simp) λi f c=>?_
 have b:i<hs.length:=by simpa using c
 have e:ht hs i=hs[i]:=by have:=eN b;rw[MN b]at this;exact(MH this).symm
 have d:(qd 0::hs.map qd)[i]'(by simp;omega)=qd (ah hs i):=by
  cases i with
  | zero=>rfl
  | succ j =>
   have a:j<hs.length:=by omega
   have:=eN a;rw[MN a]at this;simp only[List.getElem_cons_succ,Pa,km];exact NU qd<|MH this
 simp only[List.getElem_zipWith,Pa,QJ,e,d]
def Hg.sz {h:Rat}(H:Hg h):Sz h:=#v[MT H.num<|Nk (by decide)<|by decide,MT H.den<|Nk (by decide)<|by decide]
def rY {hs:List Rat}(hh:∀h∈hs,Hg h){k:Nat}(hk:k<hs.length):Sz (sp hs k):=by have:=vE (fD hh hk)<|cW hh<|NS hk;exact#v[MT this.2<|Nk (by decide)<|by decide,MT this.1<|Nk (by decide)<|by decide]
def spL (hs:List Rat):List My:=(List.range hs.length).map λk=>qd<|sp hs k
section
variable {F:FdS}{Q:My->FdS->Prop}{hs:List Rat}
def za (hh:∀h∈hs,Hg h)(hn:hs.length<=1000)(q:Q (.list<|spL hs) F):wp (T2 [.dat<|hsD hs] F) Q:=by unfold T2;rw[xv];refine G5.2<|A4.2<|V8.2<|DS ?_;refine j4.2 (C2.2<|d4.2<|f7.2<|h7.2 #v[u8 rfl,w9w rfl<|c7 (Hj (by simp;omega))<|w9g rfl #v[_,_,rfl,rfl,?_]]);rw[show([.tuple [.int 0,.int 1]]++hs.map qd:List My)=qd 0::hs.map qd from rfl,DL];refine#v[sz (by simp;omega),nN (f:=λk=>qd<|sp hs k) _ none none F (λk c F Q b=>?_)<|m5 q];have a:k<hs.length:=Qk.1 c;exact l3.2<|w9v rfl<|w9v rfl<|j7.2<|yP (fD hh a).sz (cW hh<|NS a).sz b
def gc {p q:Rat}(hp:Sz p)(hq:Sz q)(k:Q (.bool<|decide (p<q)) F):wp (Y8 [.dat<|qd p,.dat<|qd q] F) Q:=by unfold Y8;refine G5.2<|A4.2<|j4.2<|j4.2<|w9s rfl<|f7.2<|c7 ix0<|w9s rfl<|f7.2<|c7 ix1<|c7 (Sz.mul1 hp hq) ?_;refine j4.2<|w9s rfl<|f7.2<|c7 ix0<|w9s rfl<|f7.2<|c7 ix1<|c7 (Sz.mul1 hq hp)<|c7 fg<|m5 ?_;rw[show decide (p.num*((q.den:Nat):Int)<q.num*((p.den:Nat):Int))=decide (p<q) from SJ.2 (Rat.lt_iff p q).symm];exact k
end
section
variable {F:FdS}{Q:My->FdS->Prop}{hs:List Rat}
def vC {k:Nat}(hk:k<hs.length):(spL hs)[k]? = some (qd<|sp hs k):=by unfold spL;rw[MQ,OC hk];rfl
def xZ {k:Nat}{d:My}(h:(spL hs)[k]? = some d):k<hs.length/\d=qd (sp hs k):=by
 have a:k<hs.length:=by have:=(MK.1 h).1;simpa [spL] using this
 rw[vC a]at h;exact#v[a,(MH h).symm]
def Ba (hh:∀h∈hs,Hg h)(hn1:1<=hs.length)(hn:hs.length<=1000)(q:∀m:Rat,(∃k,k<hs.length/\m=sp hs k)->(∀k,k<hs.length->m<=sp hs k)->Q (qd m) F):wp (dI [.dat<|.list<|spL hs] F) Q:=by
 have hl:(spL hs).length=hs.length:=by simp[spL]
 have o:ixD (.list<|spL hs) (.int 0)=some (qd<|sp hs 0):=by rw[jC];exact V4 (j:=0) (vC<|by omega)
 unfold dI;walk_at "kb";refine w9q<|w9s rfl<|f7.2<|c7 o #v[i7 rfl,i3 ?_];refine x8.2<|L0.2<|C5.2<|w9g rfl<|c7 Z7 ?_;refine G3 (λi E r=>r=F/\∃m:Rat,∃c:Option DV,E=[some<|.dat<|.list<|spL hs,some<|.dat<|qd m,c]/\(∃k,k<hs.length/\m=sp hs k)/\∀k,k<i->m<=sp hs k) _ 0 _ F #v[rfl,_,none,rfl,#v[0,by omega,rfl],λk a=>absurd a<|by omega] ?_ ?_
 .rintro i d n E p ⟨rfl,m,c,rfl,f,a⟩;rw[Nh] at *;obtain⟨l,rfl⟩:=xZ n;obtain⟨j,g,rfl⟩:=f;refine#v[_,rfl,?_];refine iG.2<|W5.2<|l3.2<|w9v rfl<|w9v rfl<|j7.2 ?_;refine gc (rY hh l) (rY hh g) (c7 rfl<|P3 (λe=>?_)<|λe=>?_)
  .have e:sp hs i<sp hs j:=MS e;refine cf.2 (w9g rfl #v[i7 rfl,_,rfl,rfl,sp hs i,_,rfl,#v[i,l,rfl],λk h=>?_]);rcases Pj k i with b | b
   .exact Rat.le_trans (Rat.le_of_lt e)<|a k b
   .rw[show k=i by omega];exact Rat.le_refl
  .have e:¬sp hs i<sp hs j:=Om e;refine J6.2 #v[_,rfl,rfl,sp hs j,_,rfl,#v[j,g,rfl],λk h=>?_];rcases Pj k i with b | b
   .exact a k b
   .rw[show k=i by omega];exact Od.1 e
 .rintro E p ⟨rfl,m,c,rfl,f,a⟩;rw[Nh,hl]at a;exact i3<|A4.2<|w9g rfl<|m5<|q m f a
end
def zf:iS=ic:=rfl
def se:Sz 0:=Hg.zero.sz
section
variable {F:FdS}{Q:My->FdS->Prop}{hs:List Rat}{l:List Bw}{p:Rat}{h n:Nat}
def AH {d:My}(H:Be l)(hd:scs n d)(hl:∀a hs,d = .tuple [a,.tuple hs]->hs.length<=1000)(e:shB l d=false)(q:Q (fG "NoPaper" [.str "shape",.int (-1)]) F) :
  wp (HP [.dat<|bsD l,.dat<|.int (h:Nat),.dat d] F) Q:=by unfold HP;refine G5.2<|w9i<|Q1.2<|W5.2<|l3.2<|w9v rfl<|w9v rfl<|j7.2 ?_;refine mD H hd hl ?_;rw[e];exact c7 rfl<|w6 rfl<|cH<|d4.2<|f7.2<|d4.2<|av.2<|f7.2<|c7 rfl<|h7.2 #v[rfl,U1<|m5 q]
def CM (H:Be l)(hd:scs n (.tuple [qd p,hsD hs]))(hsh:shB l (.tuple [qd p,hsD hs])=true)(hn1:1<=hs.length)(hn:hs.length<=1000)(hp:Sz p)(hh:∀z∈hs,Hg z)
  (hmh:∀(F:FdS) (Q:My->FdS->Prop),Q (qd<|SH hs (wkL l) / ((A7 l:Int):Rat)) F->wp (G0 [.dat<|bsD l,.dat<|hsD hs] F) Q)
  (hS:Sz (SH hs (wkL l) / ((A7 l:Int):Rat))) (hS2:Sz (SH hs (wkL l) / ((A7 l:Int):Rat)+p)) (hk0:Sz ((h:Nat):Rat)) (hkm:∀k,k<hs.length->Sz (((h:Nat):Rat)*sp hs k))
  (q1:p<=0->Q (fG "NoPaper" [.str "drop",.int (-1)]) F)
  (q2:0<p->∀k,k<hs.length->sp hs k<=0->(∀j,j<k->0<sp hs j)->Q (fG "NoPaper" [.str "step",.int (k:Nat)]) F)
  (q3:0<p->(∀k,k<hs.length->0<sp hs k)->∀m:Rat,(∃k,k<hs.length/\m=sp hs k)->(∀k,k<hs.length->m<=sp hs k)->((h:Nat):Rat)*m<SH hs (wkL l) / ((A7 l:Int):Rat)+p->Q (fG "NoPaper" [.str "fall",.int (-1)]) F)
  (q4:0<p->(∀k,k<hs.length->0<sp hs k)->∀m:Rat,(∃k,k<hs.length/\m=sp hs k)->(∀k,k<hs.length->m<=sp hs k)->¬((h:Nat):Rat)*m<SH hs (wkL l) / ((A7 l:Int):Rat)+p->Q (.bool true) F) :
  wp (HP [.dat<|bsD l,.dat<|.int (h:Nat),.dat<|.tuple [qd p,hsD hs]] F) Q:=by
 unfold HP;rw[lV,zf];walk_at "kb";refine w9i<|Q1.2<|W5.2<|l3.2<|w9v rfl<|w9v rfl<|j7.2 ?_;refine mD H hd (λa B e=>by cases e;simpa using hn) ?_;rw[hsh];refine c7 rfl<|j0 rfl<|J6.2<|i3 ?_;refine x8.2<|kn.2<|w9g rfl<|c7 rfl<|i3 ?_;refine w9i<|Q1.2<|W5.2<|w9l<|f7.2<|w9v rfl<|j7.2 ?_;refine gc (p:=0) (q:=p) se hp ?_;by_cases f:0<p
 .rw[MW f];refine c7 rfl<|j0 rfl<|J6.2<|i3 ?_;refine w9q<|l3.2<|w9v rfl<|j7.2<|za hh hn #v[i7 rfl,i3 ?_];refine x8.2<|L0.2<|Eu<|w9g rfl<|c7 Z7 ?_;refine rV (λi E A=>A=F/\(∃s r:Option DV,E=[some<|.dat<|bsD l,some<|.dat<|.int (h:Nat),some<|.dat<|.tuple [qd p,hsD hs],some<|.dat<|qd p,some<|.dat<|hsD hs,some<|.dat<|.list<|spL hs,s,r])/\∀j,j<i->0<sp hs j) _ 0 _ F #v[rfl,#v[none,none,rfl],λj c=>absurd c<|by omega] ?_ ?_
  .rintro i d hd E y ⟨rfl,⟨s,r,rfl⟩,c⟩;rw[Nh] at *;obtain⟨C,u,rfl⟩:=eR hd;obtain⟨v,rfl⟩:=xZ u;rw[Nh];refine#v[_,rfl,?_];refine iG.2<|Q1.2<|W5.2<|w9l<|f7.2<|w9v rfl<|j7.2 ?_;refine gc (p:=0) (q:=sp hs i) se (rY hh v) ?_;by_cases b:0<sp hs i
   .rw[MW b];refine c7 rfl (j0 rfl<|J6.2<|.inl #v[_,rfl,rfl,#v[_,_,rfl],λj h=>?_]);rcases Pj j i with w | w
    .exact c j w
    .rw[show j=i by omega];exact b
   .rw[MX b];exact c7 rfl<|w6 rfl<|cH<|d4.2<|f7.2<|w9c rfl<|h7.2 #v[rfl,.inr #v[_,rfl,U1<|m5<|q2 f i v (Od.1 b) c]]
  .rintro E y ⟨rfl,⟨s,r,rfl⟩,c⟩;have c:∀k,k<hs.length->0<sp hs k:=λk o=>c k (by rw[Nh,eO];simpa [spL] using o)
   refine i3<|w9i<|W5.2<|w9l<|w9l<|C2.2<|w9c rfl<|d4.2<|f7.2<|h7.2 #v[u8 rfl,R4.2<|l3.2<|w9v rfl<|j7.2 ?_];refine Ba hh hn1 hn λm t g=>j7.2 ?_
   have x:Sz m/\Sz (((h:Nat):Rat)*m):=by obtain⟨k,o,rfl⟩:=t;exact#v[rY hh o,hkm k o]
   rw[<-qj (h:Nat),PP];refine xf hk0 x.1 ?_;refine R4.2<|w9l<|l3.2<|w9v rfl<|w9v rfl<|j7.2 ?_;refine hmh _ _<|w9v rfl<|j7.2<|yh hS hp<|j7.2 ?_;refine gc x.2 hS2 (c7 rfl<|P3 (λe=>?_)<|λe=>?_)
   .exact cH<|d4.2<|f7.2<|d4.2<|av.2<|f7.2<|c7 rfl<|h7.2 #v[rfl,U1<|m5<|q3 f c m t g<|MS e]
   .exact J6.2<|i3<|A4.2<|f7.2<|m5<|q4 f c m t g<|Om e
 .rw[MX f];exact c7 rfl<|w6 rfl<|cH<|d4.2<|f7.2<|d4.2<|av.2<|f7.2<|c7 rfl<|h7.2 #v[rfl,U1<|m5<|q1<|Od.1 f]
end
def Ex (l:List Bw):Z2 (1::(wkL l).map (·.1))=max 1 (gwL l):=by
 unfold gwL;cases e:(wkL l).map (·.1) with
 | nil=>rw[Mx rfl];rfl
 | cons x r=>rw[MC<|by simp];rfl
def FD {xs ys:List My}(h:xs.length+ys.length<=100000):D2 (.list xs) (.list ys)=some (.list<|xs++ys):=Mx<|sz h
section
variable {F:FdS}{Q:My->FdS->Prop}{l:List Bw}
def yu {j:Nat}{E:DE}(H:Be l)(hE:E[j]? = some (some<|.dat<|bsD l))(q:Q (.int<|max 1<|gwL l) F) :
  wp (sN pf (d7 (s2 D2 (sC<|.list [.int 1])<|sLC (N9<|i4 x4<|vD (sV j) m7) 2 [] (P4 2<|u5 (bN 0)<|u5 (bN 1) P9) K9<|sV 0) l0) E F) Q:=by
 have hl:=H.len;refine M4.2<|d4.2<|j4.2<|f7.2<|V8.2<|C5.2<|w9l<|pO.2<|oO hE<|j7.2 ?_;refine su H (c7 Z7 #v[sz (by rw[Mv];omega),?_]);refine jV (f:=λz=>.int z.1) (wkL l) none none F (λp b F Q a=>w9g rfl a) ?_;refine c7 (FD (by rw[Mv];show 1+_<=_;omega))<|h7.2<|c7 ?_ q;have e:([.int 1]++(wkL l).map (λz=>My.int z.1):List My)=(1::(wkL l).map (·.1)).map .int:=by rw[MB,Nn];rfl
 rw[e,Gh (by simp),Ex]
end
section
variable {F:FdS}{Q:My->FdS->Prop}{l:List Bw}{n h:Nat}
def Dv {d:My}(H:Be l)(hd:scs n d)(hn:n<=100)(hl:∀a hs,d = .tuple [a,.tuple hs]->hs.length<=1000)(e:shB l d=false)(q:Q (.tuple [.str "shape",.int (-1)]) F) :
  wp (D1 [.dat<|bsD l,.dat<|.int (h:Nat),.dat d] F) Q:=by
 have g:∀{m:DE->M Out} {E:DE},wp (mRt (sC<|.tuple [.str "shape",.int (-1)]) E F) (sqK m<|gJ Q):=λ{m E}=>A4.2<|f7.2<|U1<|m5 q
 unfold D1;refine G5.2 ?_;dsimp only[B9,MB,NG,ME,NP,List.replicate,Nf,Nq,Nat.reduceAdd,Nat.reduceSub];refine w9i<|aj.2<|Q1.2<|W5.2<|av.2<|w9w rfl<|c7 U4<|c7 rfl ?_;rw[dc hd];cases et:vU d with
 | false=>exact w6 rfl g
 | true =>
  obtain⟨k,rfl⟩:∃c,d = .tuple c:=by cases d <;> first | exact#v[_,rfl] | cases et
  refine j0 rfl<|aj.2<|T8.2<|j4.2<|M4.2<|d4.2<|w9w rfl<|h7.2<|c7 U7<|f7.2<|c7 Ac<|c7 rfl ?_;by_cases i:(k.length:Int)=2
  .refine j0 (by simp[i]) ?_;obtain⟨a,b,rfl⟩:∃a b,k=[a,b]:=by
    match k,i with
    | [a,b],_=>exact#v[a,b,rfl]
    | [],h=>simp at h
    | [_],h=>simp at h
    | _::_::_::_,h=>simp at h;omega
   have hs:scs n a/\scs n b:=by simpa [scs,cN] using hd
   refine aj.2<|Q1.2<|W5.2<|w9l<|w9s rfl<|f7.2<|c7 rfl<|j7.2 ?_;refine fQ hs.1 hn ?_;cases ea:K3 a with
   | false=>exact c7 rfl<|w6 rfl g
   | true =>
    refine c7 rfl (j0 rfl<|Q1.2<|W5.2<|av.2<|w9s rfl<|f7.2<|c7 rfl<|c7 U4<|c7 rfl ?_) ;rw[dc hs.2];cases eb:vU b with
    | false=>exact w6 rfl g
    | true =>
     obtain⟨c,rfl⟩:∃c,b = .tuple c:=by cases b <;> first | exact#v[_,rfl] | cases eb
     have p:=hl a c rfl;simp only[shB,ea,Qx]at e;refine j0 rfl<|J6.2<|i3 ?_;refine x8.2<|kn.2<|w9g rfl<|c7 rfl<|i3 ?_;refine w9q<|yu H rfl #v[i7 rfl,i3 ?_];refine w9i (aj.2<|T8.2<|j4.2<|M4.2<|d4.2<|w9w rfl<|h7.2<|c7 U7<|w9w rfl<|c7 fg<|c7 rfl<|P3 (λj=>g)<|λj=>?_);refine T8.2 (j4.2<|f7.2<|V8.2<|C5.2<|w9w rfl<|c7 P7 #v[sz (by omega),?_]);refine iT (f:=λd=>.bool<|K3 d) c none (λd hd F Q o=>?_) ?_
     .exact l3.2<|w9v rfl<|j7.2<|fQ (kK hs.2 d hd) hn o
     .have j:=Om j;rw[MW (by omega),Qx]at e;exact c7 inN (c7 rfl<|w6 (by rw[e];rfl) g)
  .exact w6 (by simp[i]) g
end
def nsD (l:List Nat):List My:=l.map λi:Nat=>My.int (i:Int)
theorem EK {mt:DE->M Bool}{g:Nat->Bool}{rest:DE}:∀(l:List Nat) (o:Option DV) (F:FdS) (Q:List My->FdS->Prop),(∀i∈l,∀(F:FdS) (Q:Bool->FdS->Prop),Q (g i) F->wp (mt (some (.dat<|.int (i:Int))::rest) F) Q)->Q (nsD<|l.filter g) F->wp (S7 (bN 0) mt (sV 0) (nsD l) (o::rest) F) Q
 | [],o,F,Q,_,q=>d6.2 q
 | i::l,o,F,Q,h,q=>by
  have b:nsD (i::l) = .int (i:Int)::nsD l:=rfl;rw[b,S7];have e:bN 0 (.int (i:Int)) (o::rest)=some (some (.dat<|.int (i:Int))::rest):=rfl;rw[e,MU,d5];refine h i MD F _ ?_;cases c:g i with
  | false =>rw[List.filter_cons_of_neg (by rw[c];simp)]at q;rw[MC<|by simp];exact EK l _ _ _ (λd a=>h d<|Mw _ a) q
  | true =>rw[List.filter_cons_of_pos c]at q;rw[Mx rfl,d5];refine w9g rfl ?_;rw[d5];exact EK l _ _ _ (λd a=>h d<|Mw _ a)<|d6.2 q
def CZ {a b:Rat}:decide (a.num*((b.den:Nat):Int)<=b.num*((a.den:Nat):Int))=decide (a-b<=0):=by refine SJ.2 ?_;rw[<-Rat.le_iff];constructor <;> intro h <;> grind
def sA {hs:List Rat}{k:Nat}(hk:k<=hs.length):ixD (.list (qd 0::hs.map qd)) (.int (k:Nat))=some (qd<|ah hs k):=by rw[jC];refine V4 ?_;rw[show(qd 0::hs.map qd)=(0::hs).map qd from rfl,MQ,MN (by simp;omega)];unfold ah;rw[Nw,MN (by simp;omega)];rfl
def dnP (hs:List Rat):List (Int×Int)->Nat
 | []=>1
 | z::ws=>(ht hs (z.1-1).toNat).den*dnP hs ws
theorem dO (hs:List Rat):∀ws,0<dnP hs ws
 | []=>Nat.one_pos
 | z::ws=>OE (Rat.den_pos _)<|dO hs ws
theorem rl {hs:List Rat}:∀{ws:List (Int×Int)},∀z∈ws,(ht hs (z.1-1).toNat).den ∣ dnP hs ws
 | [],z,h=>(nomatch h)
 | y::ws,z,h=>by
  rcases MJ.1 h with rfl | h
  .exact Re _ _
  .exact Nat.dvd_trans (rl z h)<|SK _ _
def Cc {hs:List Rat}(hh:∀z∈hs,Hg z)(k:Nat):Hg (ht hs k):=by
 unfold ht;rw[Nw];cases e:hs[k]? with
 | none=>exact Hg.zero
 | some z=>exact hh z<|Np e
theorem pZ {hs:List Rat}(hh:∀z∈hs,Hg z):∀ws,dnP hs ws<=2 ^ (200*ws.length)
 | []=>Mz _
 | z::ws=>by have:=NQ (Cc hh (z.1-1).toNat).den<|pZ hh ws;rw[<-Ol]at this;rw[ME,show 200*(ws.length+1)=200+200*ws.length by omega];exact this
def rZ {p:Rat}{M:Nat}(h:p.num.natAbs<=M):Qb p.den M p:=#v[Qo _,MG h<|Nat.le_mul_of_pos_right _ p.den_pos]
def iy {i:Int}{M:Nat}(h:i.natAbs<=M):Qb 1 M (i:Rat):=#v[by rw[Qg];exact Qo _,by rw[RQ,Qg];omega]
def vc {T:Int}(h:0<T):Qb T.toNat 1 ((T:Rat)⁻¹):=by
 have e:((T:Rat)⁻¹)=mkRat 1 T.toNat:=by
  rw[PH,RV];have:((T.toNat:Nat):Rat)=(T:Rat):=by rw[<-PP,show((T.toNat:Nat):Int)=T by omega]
  rw[this];simp
 rw[e];exact Qb.of (by omega) (by omega)
section
variable {hs:List Rat}{l:List Bw}{h k:Nat}{p:Rat}
def BG (hh:∀z∈hs,Hg z):∀z∈wkL l,Qb (dnP hs<|wkL l) (2 ^ 200) (ht hs (z.1-1).toNat):=λz a=>#v[rl z a,MG (Cc hh _).num<|Nat.le_mul_of_pos_right _<|Rat.den_pos _]
def Fo (H:Be l)(hh:∀z∈hs,Hg z):Qb (dnP hs<|wkL l) (8*(12*2 ^ 200)) (SH hs<|wkL l):=by
 have c:dnP hs (wkL l)≠0:=by have:=dO hs<|wkL l;omega
 have hl:=H.len;have:=gb (D:=dnP hs<|wkL l) (M:=12*2 ^ 200) (ps:=(wkL l).map λz=>(z.2:Rat)*ht hs (z.1-1).toNat) c (λq e=>by obtain⟨z,b,rfl⟩:=Nb.1 e;have d:=H.wk z b;have a:=(iy (i:=z.2) (M:=12)<|by omega).mul (BG hh z b) (by decide) c;rwa [Rn]at a) _<|Mz _
 rw[OJ]at this;refine Qb.mono this (Qo _)<|OA _ ?_;rw[Mv];exact hl
def kj (H:Be l)(hh:∀z∈hs,Hg z):Qb (dnP hs (wkL l)*(A7 l).toNat) (96*2 ^ 200) (SH hs (wkL l) / ((A7 l:Int):Rat)):=by
 have a:dnP hs (wkL l)≠0:=by have:=dO hs<|wkL l;omega
 have b:=H.tot;rw[RV];have:=(Fo H hh).mul (vc (T:=A7 l)<|by omega) a (by omega);exact Qb.mono this (Qo _) (by omega)
def dT (H:Be l)(hh:∀z∈hs,Hg z):dnP hs (wkL l)*(A7 l).toNat≠0/\dnP hs (wkL l)*(A7 l).toNat<=2 ^ 1606:=by have d:=dO hs<|wkL l;have c:=H.tot;refine#v[Qd (by omega) (by omega),?_];have b:dnP hs (wkL l)<=2 ^ 1600:=MG (pZ hh _) (Nd (by decide) (by have:=H.len;omega));have a:=NQ b (show(A7 l).toNat<=2 ^ 6 by show _<=64;omega);rwa [<-Ol]at a
def kO:96*2 ^ 200<2 ^ 1000/\96*2 ^ 200+2 ^ 600<2 ^ 1000/\3*2 ^ 401+96*2 ^ 200<2 ^ 1000:=by decide +kernel
def AW (H:Be l)(hh:∀z∈hs,Hg z):Sz (SH hs (wkL l) / ((A7 l:Int):Rat)) :=
 (kj H hh).sz (dT H hh).1 (MT (dT H hh).2<|Nk (by decide)<|by decide) kO.1
structure Hd (p:Rat):Prop where
 den:p.den<=2 ^ 600
 num:p.num.natAbs<=2 ^ 600
def Hd.sz (hp:Hd p):Sz p:=#v[MT hp.num<|Nk (by decide)<|by decide,MT hp.den<|Nk (by decide)<|by decide]
def Dj (H:Be l)(hh:∀z∈hs,Hg z)(hp:Hd p):Sz (SH hs (wkL l) / ((A7 l:Int):Rat)+p):=by have a:=dT H hh;have b:dnP hs (wkL l)*(A7 l).toNat*p.den≠0:=Qd a.1 p.den_nz;have c:=Qb.mono (kj H hh) (Re _ p.den)<|Mz _;have b2:=Qb.mono (rZ hp.num) (SK p.den<|dnP hs (wkL l)*(A7 l).toNat)<|Mz _;refine(c.add b2 b).sz b ?_ kO.2.1;have:=NQ a.2 hp.den;rw[<-Ol]at this;exact MT this (Nk (by decide)<|by decide)
def Bq (h3:h<=3)(hh:∀z∈hs,Hg z)(hk:k<hs.length):Qb (sp hs k).den (3*2 ^ 401) (((h:Nat):Rat)*sp hs k):=by have b:=vE (fD hh hk)<|cW hh<|NS hk;have:=(iy (i:=(h:Int)) (M:=3)<|by omega).mul (rZ b.2) (by decide)<|Rat.den_nz _;rw[Rn,PP]at this;exact this
def FV (h3:h<=3)(hh:∀z∈hs,Hg z)(hk:k<hs.length):Sz (((h:Nat):Rat)*sp hs k):=by have b:=vE (fD hh hk)<|cW hh<|NS hk;refine(Bq h3 hh hk).sz (Rat.den_nz _) ?_ (by have:=kO;omega);exact MT b.1 (Nk (by decide)<|by decide)
def wN (H:Be l)(h3:h<=3)(hh:∀z∈hs,Hg z)(hk:k<hs.length):Sz (((h:Nat):Rat)*sp hs k-SH hs (wkL l) / ((A7 l:Int):Rat)):=by have b:=vE (fD hh hk)<|cW hh<|NS hk;have a:=dT H hh;have c:(sp hs k).den*(dnP hs (wkL l)*(A7 l).toNat)≠0:=Qd (Rat.den_nz _) a.1;have d:=Qb.mono (Bq h3 hh hk) (Re _<|dnP hs (wkL l)*(A7 l).toNat)<|Mz _;have b2:=Qb.mono (kj H hh) (SK (dnP hs (wkL l)*(A7 l).toNat) (sp hs k).den)<|Mz _;refine(Qb.sub d b2 c).sz c ?_ kO.2.2;have:=NQ b.1 a.2;rw[<-Ol]at this;exact MT this (Nk (by decide)<|by decide)
end
def Lst (hs:List Rat)(m:Rat):Prop:=(∃k,k<hs.length/\m=sp hs k)/\∀k,k<hs.length->m<=sp hs k
def Lst.one {hs:List Rat}{m m':Rat}(h:Lst hs m)(h':Lst hs m'):m=m':=by obtain⟨⟨k,c,rfl⟩,e⟩:=h;obtain⟨⟨b,a,rfl⟩,d⟩:=h';exact Rat.le_antisymm (e b a)<|d k c
inductive Ans (l:List Bw) (h:Nat) (p:Rat) (hs:List Rat):My->Prop
 | drop:p<=0->Ans l h p hs (.tuple [.str "drop",.int (-1)])
 | step (k:Nat):0<p->k<hs.length->sp hs k<=0->(∀j,j<k->0<sp hs j)->Ans l h p hs (.tuple [.str "step",.int (k:Nat)])
 | fall (m:Rat):0<p->(∀k,k<hs.length->0<sp hs k)->Lst hs m->((h:Nat):Rat)*m<SH hs (wkL l) / ((A7 l:Int):Rat)+p->Ans l h p hs (.tuple [.str "fall",.int (-1)])
 | told (m:Rat):0<p->(∀k,k<hs.length->0<sp hs k)->Lst hs m->¬((h:Nat):Rat)*m<SH hs (wkL l) / ((A7 l:Int):Rat)+p->Ans l h p hs (.tuple [.str "told",.bool true])
def Ans.one {l:List Bw}{h:Nat}{p:Rat}{hs:List Rat}{d d':My}(a:Ans l h p hs d)(b:Ans l h p hs d'):d=d':=by
 cases a with
 | drop f =>
  cases b with
  | drop=>rfl
  | step k c=>exact absurd c<|Od.2 f
  | fall m c=>exact absurd c<|Od.2 f
  | told m c=>exact absurd c<|Od.2 f
 | step k f q n i =>
  cases b with
  | drop c=>exact absurd f<|Od.2 c
  | step j c e g o =>
   have:k=j:=by
    rcases Nat.lt_trichotomy k j with z | z | z
    .exact absurd (o k z)<|Od.2 n
    .exact z
    .exact absurd (i j z)<|Od.2 g
   rw[this]
  | fall m c e=>exact absurd (e k q)<|Od.2 n
  | told m c e=>exact absurd (e k q)<|Od.2 n
 | fall m f q n i =>
  cases b with
  | drop c=>exact absurd f<|Od.2 c
  | step j c e g o=>exact absurd (q j e)<|Od.2 g
  | fall=>rfl
  | told r c e g o=>rw[n.one g]at i;exact absurd i o
 | told m f q n i =>
  cases b with
  | drop c=>exact absurd f<|Od.2 c
  | step j c e g o=>exact absurd (q j e)<|Od.2 g
  | fall r c e g o=>rw[n.one g]at i;exact absurd o i
  | told=>rfl
def cA:List My:=[.tuple [.str "drop",.int (-1)],.tuple [.str "fall",.int (-1)],.tuple [.str "told",.bool true],.tuple [.str "shape",.int (-1)],.str "step"]
def BL:∀d∈cA,Gd 0 10 3 d:=kT (by decide +kernel)
def jU {d:My}(h:d∈cA):Z4 d=true:=(BL d h).repr (by decide) (by decide) (by decide)
def Ans.rep {l:List Bw}{h:Nat}{p:Rat}{hs:List Rat}{d:My}(a:Ans l h p hs d)(hn:hs.length<=1000):Z4 d=true:=by
 cases a with
 | drop=>exact jU (by simp[cA])
 | step k e c =>
  refine Gd.repr (n:=0) (N:=30) (k:=4) (Gd.tup (M:=10) (k:=3) (λy b=>?_)<|by simp[A9,cnt]) (by decide) (by decide) (by decide);simp only[MJ,NH,OS]at b;rcases b with rfl | rfl
  .exact BL _ (by simp[cA])
  .exact(Fx (n:=0) (by omega)<|by omega).mono (.inl rfl) (by decide) (by decide)
 | fall=>exact jU (by simp[cA])
 | told=>exact jU (by simp[cA])
section
variable {F:FdS}{Q:My->FdS->Prop}{l:List Bw}{hs:List Rat}{p:Rat}{n h:Nat}
def GX (H:Be l)(h3:h<=3)(hw:∀z∈wkL l,z.1<=hs.length)(hd:scs n (.tuple [qd p,hsD hs]))(hnn:n<=100)(hsh:shB l (.tuple [qd p,hsD hs])=true)(hn1:1<=hs.length)(hn:hs.length<=1000)(hp:Hd p)(hh:∀z∈hs,Hg z)
  (q:∀d,Ans l h p hs d->Q d F) :
  wp (D1 [.dat<|bsD l,.dat<|.int (h:Nat),.dat<|.tuple [qd p,hsD hs]] F) Q:=by
 have o:scs n (qd p)/\scs n (hsD hs):=by simpa [scs,cN] using hd
 simp only[shB,Ny]at hsh;obtain⟨T,L,U⟩:=hsh;have L:=MS L;unfold D1;walk_at "kb";refine w9i<|aj.2<|Q1.2<|W5.2<|av.2<|w9w rfl<|c7 U4<|c7 rfl ?_;rw[dc hd];refine j0 rfl<|aj.2<|T8.2<|j4.2<|M4.2<|d4.2<|w9w rfl<|h7.2<|c7 U7<|f7.2<|c7 Ac<|c7 rfl<|j0 rfl ?_;refine aj.2<|Q1.2<|W5.2<|w9l<|w9s rfl<|f7.2<|c7 rfl<|j7.2 ?_;refine fQ o.1 hnn ?_;rw[T];refine c7 rfl<|j0 rfl<|Q1.2<|W5.2<|av.2<|w9s rfl<|f7.2<|c7 rfl<|c7 U4<|c7 rfl ?_;rw[dc o.2];refine j0 rfl<|J6.2<|i3 ?_;refine x8.2<|kn.2<|w9g rfl<|c7 rfl<|i3 ?_;refine w9q<|yu H rfl #v[i7 rfl,i3 ?_];refine w9i (aj.2<|T8.2<|j4.2<|M4.2<|d4.2<|w9w rfl<|h7.2<|c7 U7<|w9w rfl<|c7 fg<|c7 rfl<|j0 (MX<|by omega) ?_);refine T8.2 (j4.2<|f7.2<|V8.2<|C5.2<|w9w rfl<|c7 P7 #v[sz (by rw[Mv];omega),?_]);refine iT (f:=λd=>.bool<|K3 d) (hs.map qd) none (λd hd F Q x=>?_) ?_
 .exact l3.2<|w9v rfl<|j7.2<|fQ (kK o.2 d hd) hnn x
 refine c7 inN (c7 rfl<|j0 (by rw[U];rfl)<|J6.2<|i3 ?_);refine w9i<|T8.2<|j4.2<|w9s rfl<|f7.2<|c7 ix0<|f7.2<|c7 fg<|c7 rfl ?_;by_cases s:0<p;case neg =>
  have O:=Av<|Od.1 s
  refine w6 (MW<|by omega)<|A4.2<|f7.2<|U1<|m5<|q _<|.drop<|Od.1 s
 have O:=zA s;refine j0 (MX<|by omega)<|J6.2<|i3 ?_;refine w9q (j4.2<|f7.2<|M4.2<|d4.2<|w9w rfl<|h7.2<|c7 rf<|c7 (FD (by rw[Mv];show 1+_<=_;omega)) #v[i7 rfl,i3 ?_]);rw[show([.tuple [.int 0,.int 1]]++hs.map qd:List My)=qd 0::hs.map qd from rfl];refine w9q (V8.2<|V1.2<|d4.2<|M4.2<|d4.2<|w9w rfl<|h7.2<|c7 U7<|h7.2<|c7 (bS (by rw[Mv];omega)) #v[sz (by simp;omega),?_]);rw[Mv];refine EK (g:=λk=>decide (sp hs k<=0)) (List.range hs.length) none F _ (λk b F Q x=>?_) ?_
 .have b:=Qk.1 b;have E:=(cW (k:=k) hh<|by omega).sz;have D:=(cW (k:=k+1) hh<|by omega).sz;have G:=sA (hs:=hs) (k:=k) (by omega);have u:=sA (hs:=hs) (k:=k+1) (by omega);have u:ixD (.list (qd 0::hs.map qd)) (.int<|(k:Int)+1)=some (qd<|ah hs<|k+1):=by rw[<-u];rfl
  refine T8.2<|j4.2<|j4.2<|j4.2<|w9s rfl<|w9s rfl<|f7.2<|c7 A5<|c7 u<|f7.2<|c7 ix0 ?_;refine j4.2<|w9s rfl<|w9w rfl<|c7 G<|f7.2<|c7 ix1<|c7 (D.mul1 E) ?_;refine j4.2<|j4.2<|w9s rfl<|w9w rfl<|c7 G<|f7.2<|c7 ix0 ?_;refine j4.2<|w9s rfl<|w9s rfl<|f7.2<|c7 A5<|c7 u<|f7.2<|c7 ix1<|c7 (E.mul1 D)<|c7 BZ<|c7 rfl ?_;rw[CZ];exact x
 refine#v[i7 rfl,i3 ?_];have a:∀k,k∈(List.range hs.length).filter (λk=>decide (sp hs k<=0))↔k<hs.length/\sp hs k<=0:=λk=>by simp
 have c:((List.range hs.length).filter<|λk=>decide (sp hs k<=0)).Pairwise (· < ·):=List.Pairwise.filter _ List.pairwise_lt_range;generalize (List.range hs.length).filter (λk=>decide (sp hs k<=0))=low at a c;have v:SeqAt.shaped (.list<|nsD low)=true:=by refine Gd.shaped (n:=0) (N:=1+A9 (nsD low)) (k:=1) (Gd.lst (M:=1) (λd hd=>?_)<|Mz _) (by decide) (by decide);obtain⟨i,R,rfl⟩:=Nb.1 hd;have:=((a i).1 R).1;exact Fx (by omega) (by omega)
 have w:SeqAt.shaped (.list [])=true:=by simp[SeqAt.shaped,My.canLay0,My.canLayAll0,My.depth,My.depthAll]
 have C:eqD true (.list<|nsD low) (.list [])=some (.bool (!(My.list<|nsD low).eqv (.list []))):=by show(if SeqAt.shaped (.list<|nsD low)=true/\SeqAt.shaped (.list [])=true then _ else none)=_;rw[Mx #v[v,w],Mx rfl]
 refine w9i<|T8.2<|w9s rfl<|f7.2<|c7 C<|c7 rfl ?_;cases low with
 | cons k r =>
  obtain⟨b,A⟩:=(a k).1 MD;refine w6 (by simp[nsD,My.eqv,My.eqvAll]) (A4.2<|C2.2<|d4.2<|f7.2<|d4.2<|w9s rfl<|f7.2<|c7 (show ixD (.list<|nsD (k::r)) (.int 0)=some (.int (k:Nat)) by rw[jC];exact V4 (j:=0) rfl)<|h7.2 #v[u8 rfl,U1<|m5<|q _<|.step k s b A λj V=>?_]);refine Rat.not_le.1 λB=>?_
  have:=(a j).2 #v[by omega,B];rcases MJ.1 this with z | z
  .omega
  .have:=(Ox.1 c).1 j z;omega
 | nil =>
  have t:∀k,k<hs.length->0<sp hs k:=λk b=>Rat.not_le.1 λz=>(by have:=(a k).2 #v[b,z];exact(nomatch this))
  refine j0 (by simp[nsD,My.eqv,My.eqvAll])<|J6.2<|i3 ?_;refine w9q<|l3.2<|w9v rfl<|w9v rfl<|w9v rfl<|j7.2 ?_;refine yQ H h3 hn1 hn hh hw λm P y=>#v[i7 rfl,i3 ?_]
  obtain⟨k,b,K⟩:=P;have e:=wN H h3 hh b;rw[<-K]at e;refine A4.2<|qT.2<|T8.2<|j4.2<|j4.2<|w9s rfl<|f7.2<|c7 ix0<|w9s rfl<|f7.2<|c7 ix1<|c7 (hp.sz.mul1 e) ?_;refine j4.2<|w9s rfl<|f7.2<|c7 ix0<|w9s rfl<|f7.2<|c7 ix1<|c7 (e.mul1 hp.sz)<|c7 BZ<|c7 rfl ?_;rw[show decide (p.num*(((((h:Nat):Rat)*m-SH hs (wkL l) / ((A7 l:Int):Rat)).den:Nat):Int)<=(((h:Nat):Rat)*m-SH hs (wkL l) / ((A7 l:Int):Rat)).num*((p.den:Nat):Int))=decide (p<=((h:Nat):Rat)*m-SH hs (wkL l) / ((A7 l:Int):Rat)) from SJ.2 (Rat.le_iff _ _).symm];have I:Lst hs m:=#v[#v[k,b,K],y];generalize hS:SH hs (wkL l) / ((A7 l:Int):Rat)=S at *;by_cases J:((h:Nat):Rat)*m<S+p
  .refine j0 (MX<|Rat.not_le.2 ?_) (f7.2<|m5<|q _<|.fall m s t I (by rw[hS];exact J));grind
  .refine w6 (MW ?_) (f7.2<|m5<|q _<|.told m s t I (by rw[hS];exact J));grind
end
def vB {p q:Rat}(h:qd p=qd q):p=q:=by
 unfold qd at h;injection h with h
 injection h with b a
 injection a with a _
 injection b with b
 injection a with a
 exact Rat.ext b (by exact_mod_cast a)
theorem vm:∀{xs ys:List Rat},xs.map qd=ys.map qd->xs=ys
 | [],[],_=>rfl
 | [],_::_,h=>(nomatch h)
 | _::_,[],h=>(nomatch h)
 | x::xs,y::ys,h=>by
  injection h with b a
  rw[vB b,vm a]
theorem nq:∀{ds:List My},ds.all K3=true->∃hs:List Rat,ds=hs.map qd
 | [],_=>#v[[],rfl]
 | d::ds,h=>by rw[PU,Ny]at h;obtain⟨p,rfl⟩:=rJ h.1;obtain⟨hs,rfl⟩:=nq h.2;exact#v[p::hs,rfl]
structure Th (d:My):Prop where
 g:Gd 0 400 5 d
 len:∀a hs,d = .tuple [a,.tuple hs]->hs.length<=1000
 ok:∀p hs,d = .tuple [qd p,hsD hs]->Hd p/\∀z∈hs,Hg z
def Rp (l:List Bw)(h:Nat)(d x:My):Prop:=(shB l d=false/\x = .tuple [.str "shape",.int (-1)])\/∃p a,d = .tuple [qd p,hsD a]/\shB l d=true/\Ans l h p a x
def Rp.one {l:List Bw}{h:Nat}{d x y:My}(a:Rp l h d x)(b:Rp l h d y):x=y:=by
 rcases a with ⟨o,rfl⟩ | ⟨p,j,rfl,n,m⟩
 .rcases b with ⟨g,rfl⟩ | ⟨p,j,rfl,b2,f⟩
  .rfl
  .rw[o]at b2;cases b2
 .rcases b with ⟨g,rfl⟩ | ⟨q,i,e,b2,f⟩
  .rw[n]at g;cases g
  .injection e with e
   injection e with k c
   injection c with c _
   injection c with c
   rw[<-vB k,<-vm c]at f;exact m.one f
section
variable {F:FdS}{Q:My->FdS->Prop}{l:List Bw}{d:My}{h:Nat}
def Rp.rep {x:My}(a:Rp l h d x)(t:Th d):Z4 x=true:=by
 rcases a with ⟨g,rfl⟩ | ⟨p,c,e,f,b⟩
 .exact jU (by simp[cA])
 .exact b.rep (by have:=t.len _ _ e;simpa using this)
def shaped (H:Be l)(t:Th d)(e:shB l d=true):∃p hs,d = .tuple [qd p,hsD hs]/\Hd p/\(∀z∈hs,Hg z)/\1<=hs.length/\hs.length<=1000/\∀z∈wkL l,z.1<=hs.length:=by
 unfold shB at e;split at e
 .rename_i a k;simp only[Ny]at e;obtain⟨j,b,i⟩:=e;obtain⟨p,rfl⟩:=rJ j;obtain⟨hs,rfl⟩:=nq i;obtain⟨g,f⟩:=t.ok p hs rfl;have c:=t.len _ _ rfl;have b:=MS b;rw[Mv]at b c;refine#v[p,hs,rfl,g,f,by omega,c,λz h=>?_];have:=vW h;omega
 .cases e
def zN (H:Be l)(h3:h<=3)(t:Th d)(q:∀x,Rp l h d x->Q x F):wp (D1 [.dat<|bsD l,.dat<|.int (h:Nat),.dat d] F) Q:=by
 cases e:shB l d with
 | false=>exact Dv H t.g.sc (by decide) t.len e<|q _<|.inl #v[e,rfl]
 | true =>obtain⟨p,g,rfl,i,j,c,b,f⟩:=shaped H t e;exact GX H h3 f t.g.sc (by decide) e c b i j λx a=>q x<|.inr #v[p,g,rfl,e,a]
def yw (H:Be l)(h3:h<=3)(t:Th d)(q:∀x,Rp l h d x->Q x F):wp (M0 [.dat<|bsD l,.dat<|.int (h:Nat),.dat d] F) Q:=by
 have o:∀{w:Str} {k:Int} {E:DE},E.length=6->Rp l h d (.tuple [.str w,.int k])->∀{r:FdS},r=F->(∃z n,ak (fG "NoPaper" [.str w,.int k])=some z/\hdA "NoPaper" 4 5 3 [.inr "word",.inr "number"] z.1 z.2 [some<|.dat<|bsD l,some<|.dat<|.int (h:Nat),some<|.dat d,some<|.dat<|.tuple [.str "other"],none,none]=some n/\sqK (mRt<|sV 3) (gJ Q) (.nx n) r)\/(ak (fG "NoPaper" [.str w,.int k])=none/\∃n,bN 3 (.tuple [.str "told",fG "NoPaper" [.str w,.int k]]) [some<|.dat<|bsD l,some<|.dat<|.int (h:Nat),some<|.dat d,some<|.dat<|.tuple [.str "other"],none,none]=some n/\sqK (mRt<|sV 3) (gJ Q) (.nx n) r):=λ{w k E} _ a {r} e=>by subst e;exact .inl #v[("NoPaper",[.str w,.int k]),_,rfl,Mx #v[rfl,rfl],i3<|A4.2<|w9g rfl<|m5<|q _ a]
 unfold M0;refine G5.2<|w9q<|f7.2 #v[i7 rfl,i3 ?_];refine x8.2<|DO<|w9v rfl<|w9v rfl<|w9v rfl<|j7.2 ?_;cases e:shB l d with
 | false=>exact AH H t.g.sc t.len e<|o (E:=List.replicate 6 none) rfl (.inl #v[e,rfl]) rfl
 | true =>
  obtain⟨p,f,rfl,y,g,A,v,B⟩:=shaped H t e;have D:dnP f (wkL l)≠0:=by have:=dO f<|wkL l;omega
  have s:dnP f (wkL l)<2 ^ 2900:=MT (pZ g _) (Nk (by decide) (by have:=H.len;omega));refine CM H t.g.sc e A v y.sz g (λF Q q=>Hn H B v D s (Nk (by decide)<|by decide) (BG g) q) (AW H g) (Dj H g y) ?_ (λk C=>FV h3 g C) (λa=>?_) (λa k b c j=>?_) (λa b m c u j=>?_) (λa b m c u j=>?_)
  .have:=iy (i:=(h:Int)) (M:=3) (by omega);rw[PP]at this;exact this.sz (by decide) (MI (show 1<2 ^ 1 by decide)<|Nd (by decide)<|by decide) (MI (show 3<2 ^ 2 by decide)<|Nd (by decide)<|by decide)
  .exact o (E:=List.replicate 6 none) rfl (.inr #v[p,f,rfl,e,.drop a]) rfl
  .exact o (E:=List.replicate 6 none) rfl (.inr #v[p,f,rfl,e,.step k a b c j]) rfl
  .exact o (E:=List.replicate 6 none) rfl (.inr #v[p,f,rfl,e,.fall m a b #v[c,u] j]) rfl
  .exact .inr #v[rfl,_,rfl,i3<|A4.2<|w9g rfl<|m5<|q _<|.inr #v[p,f,rfl,e,.told m a b #v[c,u] j]]
end
mutual
def iM (B:Nat):My->Prop
 | .int i=>i.natAbs<=B
 | .tuple ds=>iML B ds
 | .list ds=>iML B ds
 | .none=>True
 | .bool _=>True
 | .str _=>True
 | .dict _=>False
def iML (B:Nat):List My->Prop
 | []=>True
 | d::ds=>iM B d/\iML B ds
end
theorem R6 {B:Nat}:∀{ds:List My},iML B ds↔∀d∈ds,iM B d
 | []=>by simp[iML]
 | d::ds=>by rw[iML,R6 (ds:=ds)];simp
mutual
theorem kD {B C:Nat}(h:B<=C):∀{d:My},iM B d->iM C d
 | .int i,z=>MG z h
 | .tuple ds,z=>du h (ds:=ds) z
 | .list ds,z=>du h (ds:=ds) z
 | .none,_=>trivial
 | .bool _,_=>trivial
 | .str _,_=>trivial
 | .dict _,z=>z.elim
theorem du {B C:Nat}(h:B<=C):∀{ds:List My},iML B ds->iML C ds
 | [],_=>trivial
 | d::ds,z=>#v[kD h z.1,du h z.2]
end
abbrev Z6:Nat:=10 ^ 40
def ig:List My:=[.none,.bool true,.bool false,.str "",.str "1",.int 0,.int (-1),.int 1,.tuple [],.list [],.tuple [.int 0,.int 1],.tuple [.int 1,.int 2],.tuple [.int 2,.int 4],.tuple [.int 1,.int 0],.tuple [.int 1,.int (-2)],.list [.int 0,.int 1],.tuple [.int (-1),.int 3]]
def AB:∀d∈ig,Gd 0 20 1 d:=kT (by decide +kernel)
def gR (d:My):Nat:=match d with
 | .tuple ds=>ds.length
 | _=>0
def sH:∀d∈ig,iM 10 d/\gR d<=2:=by intro d a;simp only[ig,MJ,NH,OS]at a;rcases a with rfl | rfl | rfl | rfl | rfl | rfl | rfl | rfl | rfl | rfl | rfl | rfl | rfl | rfl | rfl | rfl | rfl <;> simp[iM,iML,gR]
structure Tg (N k B L:Nat) (d:My):Prop where
 g:Gd 0 N k d
 i:iM B d
 l:gR d<=L
def Tg.mono {N k B L N' k' B' L':Nat}{d:My}(h:Tg N k B L d)(h1:N<=N')(h2:k<=k')(h3:B<=B')(h4:L<=L'):Tg N' k' B' L' d:=#v[h.g.mono (.inl rfl) h1 h2,kD h3 h.i,MG h.l h4]
section
variable {F:FdS}{Q:My->FdS->Prop}
def CW {r:Int}(h0:0<=r)(h1:r<17):∃d,ixD (.list ig) (.int r)=some d/\d∈ig:=by rw[jC];exact qz h0 (by simpa [ig] using h1)
def CD {N k B L:Nat}{d:My}{c5:Int}{o3 o4:Option DV}(h:Tg N k B L d)(hL:2<=L)(hk:1<=k)(hN:20<=N)(hB:10<=B)(hF:F.t+1<=199999)(q:∀d' F',F'.t<=F.t+1->Tg N k B L d'->Q d' F') :
  wp ((mSq (x9 4<|sC<|.list ig)<|mRt<|s2 ixD (jf<|d7 (sIf (uT<|s1 (P5 "tuple")<|sW 1) (sN eX<|d7 (sW 1) l0)<|sV 1)<|d7 (s2 ixD (sW 4)<|i4 A2<|vF 0<|vD (sC<|.int 17) m7) l0)<|sN oZ<|d7 (s2 ltD (sW 2)<|sC<|.int 8) l0) [some .feed,some<|.dat d,some<|.dat<|.int c5,o3,o4] F) (gJ Q):=by
 refine w9q<|f7.2 #v[i7 rfl,i3 ?_];refine A4.2<|j4.2<|iI.2<|d4.2<|qT.2<|W5.2<|av.2<|w9w rfl<|c7 U4<|c7 rfl ?_;have b:∀a:My,Tg N k B L a->wp (d7 (s2 ixD (sW 4)<|i4 A2<|vF 0<|vD (sC<|.int 17) m7) l0 [some .feed,some<|.dat d,some<|.dat<|.int c5,o3,some<|.dat<|.list ig] F) λg w=>(a::g).length<=Tc/\wp (sN oZ (d7 (s2 ltD (sW 2)<|sC<|.int 8) l0) [some .feed,some<|.dat d,some<|.dat<|.int c5,o3,some<|.dat<|.list ig] w) λy v=>oB (ixD (.list (a::g)) y) λz=>gJ Q (.rt z) v:=λa s=>by
  refine d4.2<|w9s rfl<|w9d rfl ?_;refine z9 (by decide) (by decide) (by omega) λr l n m A=>?_
  obtain⟨o,t,c⟩:=CW n m;have b:Tg N k B L o:=#v[(AB o c).mono (.inl rfl) hN hk,kD hB (sH o c).1,MG (sH o c).2 hL];refine c7 t (h7.2 #v[sz (by simp),M4.2<|d4.2<|w9s rfl<|f7.2<|c7 fg<|h7.2 ?_]);by_cases j:c5<8
  .rw[MW j];exact c7 rfl (c7 (show ixD (.list [a,o]) (.int 1)=some o from rfl)<|m5<|q o l (by omega) b)
  .rw[MX j];exact c7 rfl (c7 (show ixD (.list [a,o]) (.int 0)=some a from rfl)<|m5<|q a l (by omega) s)
 rw[U5 h.g.sc];cases d with
 | tuple u =>refine w6 rfl<|M4.2<|d4.2<|w9w rfl<|h7.2<|c7 rf ?_;have f:=h.g.items;obtain⟨i,e⟩:∃i,k=i+1:=#v[k-1,by omega];refine b (.list u) #v[?_,h.i,Nv _];rw[e]at f ⊢;exact Gd.lst (M:=N) (λx p=>by simpa using f.1 x p) f.2.1
 | _=>exact j0 rfl<|w9g rfl<|b _ h
def Cs {N k B L:Nat}{d:My}{c5:Int}{o3 o4:Option DV}(h:Tg N k B L d)(hL:2<=L)(hk:1<=k)(hN:20<=N)(hB:10<=B)(hB2:B<=10 ^ 150)(hF:F.t+2<=199999)(q:∀d' F',F'.t<=F.t+2->Tg N k (B+Z6) L d'->Q d' F') :
  wp ((mSq (mIf (lX (uT<|i4 x3<|vD (sV 1) m7)<|uB<|s2 ltD (sW 2)<|sC<|.int 6) (mRt<|s2 D2 (sW 1)<|s2 ixD (sC<|.list [.int 1,.int (-1),.int 10000000000000000000000000000000000000000])<|i4 A2<|vF 0<|vD (sC<|.int 3) m7) mNx)
  (mSq (x9 4<|sC<|.list ig)<|mRt<|s2 ixD (jf<|d7 (sIf (uT<|s1 (P5 "tuple")<|sW 1) (sN eX<|d7 (sW 1) l0)<|sV 1)<|d7 (s2 ixD (sW 4)<|i4 A2<|vF 0<|vD (sC<|.int 17) m7) l0)<|sN oZ<|d7 (s2 ltD (sW 2)<|sC<|.int 8) l0)) [some .feed,some<|.dat d,some<|.dat<|.int c5,o3,o4] F) (gJ Q):=by
 have a:wp ((mSq (x9 4<|sC<|.list ig)<|mRt<|s2 ixD (jf<|d7 (sIf (uT<|s1 (P5 "tuple")<|sW 1) (sN eX<|d7 (sW 1) l0)<|sV 1)<|d7 (s2 ixD (sW 4)<|i4 A2<|vF 0<|vD (sC<|.int 17) m7) l0)<|sN oZ<|d7 (s2 ltD (sW 2)<|sC<|.int 8) l0) [some .feed,some<|.dat d,some<|.dat<|.int c5,o3,o4] F) (gJ Q) :=
  CD h hL hk hN hB (by omega) λd' F' t g=>q d' F' (by omega) (g.mono (Mz _) (Mz _) (by omega)<|Mz _)
 rw[rE];refine w9i<|bZ.2<|W5.2<|l3.2<|w9v rfl<|j7.2<|ni (n:=0) h.g.sc<|c7 rfl ?_;cases d with
 | int i =>
  refine w6 rfl (T8.2<|w9s rfl<|f7.2<|c7 fg<|c7 rfl<|P3 (λe=>?_)<|λe=>J6.2<|i3 a);have p:i.natAbs<=B:=h.i;refine A4.2<|w9s rfl<|j4.2<|f7.2 ?_;refine w9d rfl ?_;refine z9 (by decide) (by decide) (by omega) λr c o m l=>?_
  have b:∀z:Int,z.natAbs<=B+Z6->Tg N k (B+Z6) L (.int z):=λz f=>#v[(jR (n:=0) (by
   have hk:10 ^ 150+Z6<10 ^ 300:=by decide +kernel
   generalize (10:Nat) ^ 300=A at *;generalize (10:Nat) ^ 150=C at *;omega)).mono (.inl rfl) (by omega) (by omega),f,Nv _]
  have j:1<=Z6:=by decide +kernel
  have:r=0\/r=1\/r=2:=by omega
  rcases this with rfl | rfl | rfl
  .exact c7 (show ixD (.list [.int 1,.int (-1),.int 10000000000000000000000000000000000000000]) (.int 0)=some (.int 1) from rfl) (c7 A5<|U1<|m5<|q _ c (by omega)<|b _ (by generalize Z6=z at *;omega))
  .exact c7 (show ixD (.list [.int 1,.int (-1),.int 10000000000000000000000000000000000000000]) (.int 1)=some (.int (-1)) from rfl) (c7 A5<|U1<|m5<|q _ c (by omega)<|b _ (by generalize Z6=z at *;omega))
  .exact c7 (show ixD (.list [.int 1,.int (-1),.int 10000000000000000000000000000000000000000]) (.int 2)=some (.int (Z6:Nat)) from rfl) (c7 A5<|U1<|m5<|q _ c (by omega)<|b _ (by generalize Z6=z at *;omega))
 | _=>exact j0 rfl<|J6.2<|i3 a
end
def El {T:DE->M Out}{R:Out->FdS->Prop}{c:DE->M Bool}{b:DE->M Out}{E:DE}{F:FdS}(rest:wp (T E F) R)(k:wp (mNx E F) (sqK T R)->wp (mIf c b mNx E F) (sqK T R)):wp (mIf c b mNx E F) (sqK T R):=k<|J6.2<|i3 rest
def kI {B:Nat}{ds:List My}(h:iML B ds)(lo hi:Option Int):iML B (T6 ds lo hi):=R6.2 λd a=>R6.1 h d<|(V2 ds lo hi).subset a
def oR {B:Nat}{xs ys:List My}(h1:iML B xs)(h2:iML B ys):iML B (xs++ys):=R6.2 λd a=>(NM.1 a).elim (R6.1 h1 d)<|R6.1 h2 d
theorem lA:∀(n:Nat) {d:My} {N k B L:Nat},Tg N k B L d->k<n->N<=2000->2<=L->10<=B->B<=10 ^ 150->Tr (L9 n) [.feed,.dat d] (4*n+2) (Tg (2*N+20) (k+1) (B+Z6)<|L+1)
 | 0,d,N,k,B,L,_,h,_,_,_,_=>absurd h (by omega)
 | n+1,d,N,k,B,L,h,hk,hN,hL,hB,hB2=>Tr.of λF hF=>by
  rw[L9];refine G5.2<|w9q<|w9d rfl ?_;refine z9 (by decide) (by decide) (by omega) λc5 E Z Y t1=>#v[i7 rfl,i3 ?_]
  have I:Tg (2*N+20) (k+1) B (L+1) d:=h.mono (by omega) (by omega) (Mz _) (by omega);have o:=λ(o3:Option DV) (G:FdS) (ht:G.t<=F.t+2)=>Cs (F:=G) (Q:=λd H=>H.t<=F.t+(4*(n+1)+2)/\Tg (2*N+20) (k+1) (B+Z6) (L+1) d) (c5:=c5) (o3:=o3) (o4:=none) I (by omega) (by omega) (by omega) hB hB2 (by omega) λd' H t g=>#v[by omega,g]
  cases d with
  | tuple b =>
   obtain⟨e,hc,R⟩:=h.g.items;have hl:b.length<=L:=h.l;have u:iML B b:=h.i;have q:b.length<=2000:=by have:=gM (xs:=b);omega
   have j:iML (B+Z6) b:=du (by omega) u;have hA:∀x∈b,Gd 0 N (k-1) x:=e;have m:∀x∈b,Gd 0 (2*N+20) k x:=λx f=>(e x f).mono (.inl rfl) (by omega) (by omega)
   refine x8.2 (El ?_ λi=>iG.2<|bZ.2<|W5.2<|av.2<|w9w rfl<|c7 U4<|c7 rfl ?_)
   .refine w9i<|bZ.2<|W5.2<|av.2<|w9w rfl<|c7 U4<|c7 rfl ?_;rw[U5 h.g.sc];refine w6 rfl (T8.2<|w9s rfl<|f7.2<|c7 Fy<|c7 rfl<|P3 (λU=>?_)<|λU=>J6.2<|i3<|o none E<|by omega);refine w9q<|l3.2<|gz.2<|iJ rfl<|R4.2<|j4.2<|M4.2<|d4.2<|w9w rfl<|h7.2<|c7 U7<|f7.2<|c7 A5<|j7.2 ?_;refine z9 (by omega) (by omega) (by omega) λa X s D O=>#v[i7 rfl,i3 ?_]
    have p:∀c e,(T6 b c e).length<=2000:=λc e=>MG (bc b c e) q
    refine A4.2 (j4.2<|iI.2<|d4.2<|j4.2<|dk.2<|w9w rfl<|dw.2<|ku.2<|w9g rfl<|c7 lQ<|c7 az<|dk.2<|w9w rfl<|ku.2<|w9s rfl<|f7.2<|c7 A5<|c7 lQ<|dw.2<|c7 az<|c7 (jo (by have:=p none<|some a;have:=p (some<|a+1) none;omega)) ?_);refine d4.2 (j4.2<|dk.2<|w9w rfl<|dw.2<|ku.2<|w9g rfl<|c7 lQ<|c7 az<|dk.2<|w9w rfl<|ku.2<|w9s rfl<|f7.2<|c7 eV<|c7 lQ<|dw.2<|c7 az<|c7 (jo (by have:=p none<|some a;have:=p (some<|a-1) none;omega))<|h7.2 #v[sz (by simp),?_]);refine w9d rfl ?_;refine z9 (by decide) (by decide) (by omega) λr W r0 r1 K=>?_
    have mk:∀c:Int,(c=a+1\/c=a-1)->Tg (2*N+20) (k+1) (B+Z6) (L+1) (.tuple<|T6 b none (some a)++T6 b (some c) none):=λc P=>by
     refine#v[Gd.tup (M:=2*N+20) (λx f=>?_) ?_,oR (kI j _ _)<|kI j _ _,?_]
     .rcases NM.1 f with f | f
      .exact m x<|(V2 b _ _).subset f
      .exact m x<|(V2 b _ _).subset f
     .rw[O7];have:=qu b none<|some a;have:=qu b (some c) none;omega
     .show(T6 b none (some a)++T6 b (some c) none).length<=L+1;rw[Ni];by_cases v:c<0
      .have T:a=0:=by omega
       subst T;rw[kN<|Qy 0];have:=bc b (some c) none;simp;omega
      .rw[kN s,hU (by omega),OZ,Qp];omega
    have:r=0\/r=1:=by omega
    rcases this with rfl | rfl
    .exact c7 (show ixD (.list [_,_]) (.int 0)=some _ from rfl) (U1<|m5 #v[by omega,mk _<|.inl rfl])
    .exact c7 (show ixD (.list [_,_]) (.int 1)=some _ from rfl) (U1<|m5 #v[by omega,mk _<|.inr rfl])
   .rw[U5 h.g.sc];refine w6 rfl (bZ.2<|T8.2<|j4.2<|M4.2<|d4.2<|w9w rfl<|h7.2<|c7 U7<|f7.2<|c7 qZ<|c7 rfl<|P3 (λC=>?_)<|λC=>j0 rfl i);refine T8.2 (w9s rfl<|f7.2<|c7 fg<|c7 rfl<|P3 (λV=>?_)<|λV=>i);have hp:0<b.length:=by have:=MS C;omega
    refine w9q<|l3.2<|gz.2<|iJ rfl<|R4.2<|M4.2<|d4.2<|w9w rfl<|h7.2<|c7 U7<|j7.2 ?_;refine z9 (by omega) (by omega) (by omega) λa X s D O=>#v[i7 rfl,i3 ?_]
    have p:∀c e,(T6 b c e).length<=2000:=λc e=>MG (bc b c e) q
    obtain⟨x,A,f⟩:=qz (xs:=b) s D;refine A4.2<|j4.2<|j4.2<|dk.2<|w9w rfl<|dw.2<|ku.2<|w9g rfl<|c7 lQ<|c7 az<|C2.2<|d4.2<|l3.2<|gz.2<|iJ rfl<|R4.2<|w9s rfl<|w9w rfl<|c7 A<|j7.2 ?_;have S:=EL s A;have w:gR x<=max 2 (gR x):=by omega
    have J:Tg (cnt x) (k-1) B (max 2<|gR x) x:=#v[#v[(e x f).sc,(e x f).dp,Mz _],R6.1 u x f,w];refine(lA n J (by omega) (by have:=(e x f).ct;omega) (by omega) hB hB2).wp (by omega) λz W K v=>?_
    refine h7.2 #v[sz (by simp),c7 (jo (by have:=p none<|some a;simp only[Po];omega)) ?_];refine dk.2 (w9w rfl<|ku.2<|w9s rfl<|f7.2<|c7 A5<|c7 lQ<|dw.2<|c7 az<|c7 (jo (by have:=p none<|some a;have:=p (some<|a+1) none;simp only[Ni,Po];omega))<|U1<|m5 #v[by omega,?_]);refine#v[Gd.tup (M:=2*N+20) (λy l=>?_) ?_,oR (oR (kI j _ _) #v[v.i,trivial])<|kI j _ _,?_]
    .rcases NM.1 l with l | l
     .rcases NM.1 l with l | l
      .exact m y<|(V2 b _ _).subset l
      .rw[Nc.1 l];exact v.g.mono (.inl rfl) (by have:=(e x f).ct;omega) (by omega)
     .exact m y<|(V2 b _ _).subset l
    .have:=v.g.ct;rw[O7,O7,kN s,hU<|by omega];simp only[A9];omega
    .show(T6 b none (some a)++[z]++T6 b (some<|a+1) none).length<=L+1;rw[kN s,hU<|by omega];simp only[Ni,OZ,Qp,Po];omega
  | _ =>refine w9i<|bZ.2<|W5.2<|av.2<|w9w rfl<|c7 U4<|c7 rfl ?_;rw[U5 h.g.sc];refine j0 rfl<|j0 rfl<|J6.2<|i3 ?_;refine w9i<|bZ.2<|W5.2<|av.2<|w9w rfl<|c7 U4<|c7 rfl ?_;rw[U5 h.g.sc];exact j0 rfl (j0 rfl<|J6.2<|i3<|o none E<|by omega)
def BtS (b:Bt):Prop:=b.length<=2/\∀c∈b,1<=c.2/\c.2<=6
def yz:Tr J5 [.feed] 40 (λd=>∃l,d=bsD l/\Be l):=Tr.of λF S=>by
 unfold J5;walk_at "kb";refine x8.2<|wc (i7 rfl)<|i3<|x8.2<|L0.2<|V1.2<|d4.2<|j4.2<|f7.2<|w9d rfl ?_;refine z9 (by decide) (by decide) (by omega) λA B L K t2=>c7 A5<|h7.2 ?_
 obtain⟨n,T⟩:∃n:Nat,1+A=(n:Int):=#v[(1+A).toNat,by omega];rw[T];refine c7 (bS<|by omega) ?_;refine G3 (λj E F'=>F'.t<=B.t+8*j/\∃(l:List Bw) (J I t:Option DV),(l.map (·.1)).Nodup/\l.length<=j/\(0<j->1<=l.length)/\(∀p∈l,BtS p.1/\1<=p.2/\p.2<=12)/\E=[some .feed,some<|.dic true 0<|l.map<|kiD cmD,J,I,t]) _ 0 _ B #v[by omega,[],none,none,none,RS,Mz _,λz=>absurd z<|OV 0,λp o=>(nomatch o),rfl] ?_ ?_
 .rintro j d e E Z ⟨ht,l,t,H,G,u,hl,o,m,rfl⟩;rw[Nh] at *;obtain⟨hj,rfl⟩:=lE (f:=λi:Nat=>My.int (i:Int)) e;refine#v[_,rfl,w9q<|j4.2<|f7.2<|w9d rfl ?_];refine z9 (by decide) (by decide) (by omega) λr Y r0 r1 x=>?_
  obtain⟨k,hk,U⟩:∃k:Nat,k<=2/\ixD (.list [.int 0,.int 0,.int 1,.int 1,.int 2]) (.int r)=some (.int (k:Int)):=by
   have:r=0\/r=1\/r=2\/r=3\/r=4:=by omega
   rcases this with rfl | rfl | rfl | rfl | rfl
   .exact#v[0,by decide,rfl]
   .exact#v[0,by decide,rfl]
   .exact#v[1,by decide,rfl]
   .exact#v[1,by decide,rfl]
   .exact#v[2,by decide,rfl]
  refine c7 U #v[i7 rfl,i3<|w9q<|M4.2<|d4.2<|V8.2<|V1.2<|w9c rfl<|h7.2<|c7 (bS<|by omega) #v[sz (by simp;omega),?_]];refine Bf (P:=λ_ y=>∃c:Int×Int,y=cmD c/\1<=c.2/\c.2<=6) (c:=2) _ _ (by decide) (λd hd F S=>?_) (by simp;omega) λzs Y s Q x=>?_
  .refine C2.2<|d4.2<|w9d rfl ?_;refine z9 (by decide) (by decide) (by omega) λa X W V C=>d4.2<|j4.2<|f7.2<|w9d rfl ?_
   refine z9 (by decide) (by decide) (by omega) λb Fb b0 b1 tb=>c7 A5 (h7.2 #v[u8 rfl,by omega,(a,1+b),rfl,by show 1<=1+b;omega,by show 1+b<=6;omega])
  .rw[Mv,Oi]at s x;obtain⟨b,rfl,R⟩:=vv λz h=>(let #v[_,_,h]:=Q z h;h)
   rw[Mv]at s;refine h7.2<|c7 kQ #v[i7 rfl,i3<|DY (ps:=l.map<|kiD cmD) rfl<|j4.2<|f7.2<|w9d rfl ?_];refine z9 (by decide) (by decide) (by omega) λa X W V C=>c7 A5 (w9g rfl #v[EF.is b,by rw[Mv];omega,?_])
   have q:=AX (y:=My.int) EF b (1+a) l;obtain⟨O,k2⟩:=sR (a:=b) (v:=1+a) u;have w:BtS b:=#v[by omega,R];have N:=vV (P:=λp:Bw=>BtS p.1/\1<=p.2/\p.2<=12) (a:=b) (v:=1+a) m #v[w,by show 1<=1+a;omega,by show 1+a<=12;omega];have M:1<=(iZ l b<|1+a).length:=by
    unfold iZ;split
    .rename_i z;have:=List.length_pos_of_mem z;rw[Mv]at this ⊢;omega
    .rw[Ni];simp
   exact#v[_,rfl,by omega,iZ l b<|1+a,_,_,_,O,by omega,λ_=>M,N,by rw[<-q];rfl]
 .rintro E Z ⟨ht,l,t,H,G,u,hl,o,m,rfl⟩;rw[Nh,Mv,Oi] at *;refine i3 (A4.2<|M4.2<|d4.2<|L3.ER Hx HA EF Dc u (by omega) rfl λD g=>h7.2<|c7 kQ<|m5 #v[by omega,D,rfl,?_]);exact#v[by rw[g.length_eq];exact o (by omega),by rw[g.length_eq];omega,λp o=>by have:=m p<|g.mem_iff.1 o;exact#v[this.1.1,this.1.2,this.2]]
def AI {f:List DV->M My}{ms:DE->M (List DV)}{E:DE}{F:FdS}{Q:My->FdS->Prop}(q:wp (ms E F) λxs F1=>wp (f xs F1) λd F2=>noL d=true/\Q d F2):wp (iV f ms E F) Q:=by
 unfold iV;rw[d5];refine l6 q λxs F1 h=>?_
 rw[d5];refine l6 h λd F2 h=>?_
 dsimp only;rw[Mx h.1];exact d6.2 h.2
def Hf {i:Nat}{ds:List My}{r:DE->M (List DV)}{E:DE}{F:FdS}{Q:List DV->FdS->Prop}(h:E[i]? = some (some<|.own ds))(q:wp (r E F) λxs F2=>Q (.dat (.list ds)::xs) F2):wp (vO i r E F) Q:=by unfold vO;rw[h,d5];exact l6 q λxs F2 h=>d6.2 h
abbrev B0:Nat:=10 ^ 9
def Pp (d:My):Prop:=∃a b:Int,d = .tuple [.int a,.int b]/\a.natAbs<=B0/\b.natAbs<=B0
def Pap (d:My):Prop:=∃a b,d = .tuple [a,.tuple b]/\Pp a/\(∀z∈b,Pp z)/\b.length<=11
def BI {p:Rat}(h1:p.num.natAbs<=B0)(h2:p.den<=B0):Pp (qd p):=#v[p.num,p.den,rfl,h1,by rw[NC];exact h2]
structure Hb (b:Nat) (z:Rat):Prop where
 q:Qb b 66 z
 den:z.den<=4
 num:z.num.natAbs<=66
def Hb.hg {b:Nat}{z:Rat}(h:Hb b z):Hg z:=#v[MG h.den (by decide +kernel),MG h.num<|by decide +kernel]
section
variable {F:FdS}{Q:My->FdS->Prop}{l:List Bw}{h:Nat}{hs:List Rat}{b:Nat}
def vj (hb:0<b)(hh:∀z∈hs,Hb b z)(k:Nat):Hb b (ht hs k):=by
 unfold ht;rw[Nw];cases e:hs[k]? with
 | none=>exact#v[#v[Nat.one_dvd _,Nv _],by decide,Nv _]
 | some z=>exact hh z<|Np e
def Gg (hb:0<b)(hh:∀z∈hs,Hb b z)(k:Nat):Hb b (ah hs k):=by
 cases k with
 | zero=>exact#v[#v[Nat.one_dvd _,Nv _],(by decide:(0:Rat).den<=4),Nv _]
 | succ k=>rw[km];exact vj hb hh k
def yk (H:Be l)(h3:h<=3)(hb:0<b)(hb4:b<=4)(hh:∀z∈hs,Hb b z)(k:Nat):Qb (b*(A7 l).toNat) 10000 (((h:Nat):Rat)*sp hs k-SH hs (wkL l) / ((A7 l:Int):Rat)):=by
 have m:=H.tot;have hl:=H.len;have s1:=gb (D:=b) (M:=12*66) (ps:=(wkL l).map λz=>(z.2:Rat)*ht hs (z.1-1).toNat) (by omega) (λq j=>by obtain⟨z,g,rfl⟩:=Nb.1 j;have f:=H.wk z g;have a:=(iy (i:=z.2) (M:=12)<|by omega).mul (vj hb hh (z.1-1).toNat).q (by decide) (by omega);rwa [Rn]at a) _<|Mz _
 rw[OJ,Mv]at s1;have s2:Qb (b*(A7 l).toNat) (8*(12*66)) (SH hs (wkL l) / ((A7 l:Int):Rat)):=by rw[RV];have:=s1.mul (vc (T:=A7 l)<|by omega) (by omega) (by omega);refine Qb.mono this (Qo _) ?_;rw[Nat.mul_one];exact OA _ hl
 have e:Qb b 132 (sp hs k):=Qb.sub (vj hb hh k).q (Gg hb hh k).q (by omega);have c:=(iy (i:=(h:Int)) (M:=3)<|by omega).mul e (by decide) (by omega);rw[Rn,PP]at c;have d:=Qb.mono c (Re b (A7 l).toNat)<|Mz _;exact Qb.mono (Qb.sub d s2<|Qd (by omega)<|by omega) (Qo _) (by decide)
def mX (H:Be l)(h3:h<=3):Tr D7 [.feed,.dat<|bsD l,.dat<|.int (h:Nat)] 40 Pap:=Tr.of λF hF=>by
 have hT:=H.tot;have hg:=GB H;unfold D7;walk_at "kb";refine w9q<|j4.2<|f7.2<|w9d rfl ?_;refine z9 (by decide) (by decide) (by omega) λR F1 an am t1=>c7 A5 #v[i7 rfl,i3 ?_]
 obtain⟨b,eb⟩:∃b:Nat,1+R=(b:Int):=#v[(1+R).toNat,by omega];rw[eb];have C:0<b:=by omega
 have j:b<=4:=by omega
 refine w9q<|j4.2<|f7.2<|w9d rfl ?_;refine z9 (by decide) (by decide) (by omega) λr U r0 r1 t2=>?_
 obtain⟨s,ac,ab,es⟩:∃s:Int,1<=s/\s<=6/\ixD (.list [.int 1,.int 2,.int 6]) (.int r)=some (.int s):=by
  have:r=0\/r=1\/r=2:=by omega
  rcases this with rfl | rfl | rfl
  .exact#v[1,by decide,by decide,rfl]
  .exact#v[2,by decide,by decide,rfl]
  .exact#v[6,by decide,by decide,rfl]
 refine c7 es #v[i7 rfl,i3 ?_];refine x8.2<|cB.2<|iN.2<|h7.2 #v[u8 rfl,i7 rfl,i3 ?_];refine w9q<|f7.2 #v[i7 rfl,i3 ?_];refine x8.2<|L0.2<|V1.2<|d4.2<|j4.2<|yu H rfl<|w9d rfl ?_;refine z9 (by decide) (by decide) (by omega) λm T m0 m1 t3=>c7 A5<|h7.2 ?_
 obtain⟨n,en⟩:∃n:Nat,max 1 (gwL l)+m=(n:Int):=#v[(max 1 (gwL l)+m).toNat,by omega];rw[en];have ad:1<=n:=by omega
 have Q:n<=11:=by omega
 have J:∀z∈wkL l,z.1<=n:=λz c=>by have:=vW c;omega
 refine c7 (bS<|by omega) ?_;refine G3 (λi E o=>o.t<=T.t+i/\∃(hs:List Rat) (t:Int) (G:Option DV),hs.length=i/\(∀z∈hs,Hb b z)/\0<=t/\t<=6*i/\E=[some .feed,some<|.dat<|bsD l,some<|.dat<|.int (h:Nat),some<|.dat<|.int (b:Nat),some<|.dat<|.int s,some<|.own<|hs.map qd,some<|.dat<|.int t,G,none,none,none]) _ 0 _ T #v[by omega,[],0,none,rfl,λz c=>(nomatch c),by decide,by decide,rfl] ?_ ?_
 .rintro i d e E F4 ⟨ht,hs,t,G,hl,B,I,A,rfl⟩;rw[Nh] at *;obtain⟨hi,rfl⟩:=lE (f:=λi:Nat=>My.int (i:Int)) e;refine#v[_,rfl,w9q<|j4.2<|w9s rfl<|f7.2<|c7 A5<|l3.2<|gz.2<|iJ rfl<|w9v rfl<|j7.2 ?_];refine z9 (by omega) (by omega) (by omega) λa F5 a0 a1 V=>c7 A5 #v[i7 rfl,i3<|nk rfl (by rw[Mv];omega)<|l3.2<|w9v rfl<|w9v rfl<|j7.2 ?_]
  refine aL C (p90 (k:=2) j<|by decide) ?_;have X:=wB (a:=t+1+a) (d:=b) C;refine#v[_,rfl,by omega,hs++[mkRat (t+1+a) b],t+1+a,_,by simp;omega,λz c=>?_,by omega,by push_cast;omega,by rw[Oc];rfl];rcases NM.1 c with c | c
  .exact B z c
  .rw[Nc.1 c];have af:=Nat.mul_le_mul_left 66 C;exact#v[Qb.of (by omega) (by omega),by omega,by omega]
 rintro E F4 ⟨ht,hs,t,G,hl,B,I,A,rfl⟩;rw[Nh,Mv,Oi]at hl ht A;refine i3<|w9q<|AI<|w9v rfl<|w9v rfl<|Hf rfl<|j7.2 ?_;refine wM H h3 (by omega) (by omega) (λz c=>(B z c).hg) (by rw[hl];exact J) λm hm _=>#v[rfl,i7 rfl,i3 ?_]
 obtain⟨k,hk,em⟩:=hm;have D:=yk (h:=h) H h3 C j B k;rw[<-em]at D;generalize ((h:Nat):Rat)*m-SH hs (wkL l) / ((A7 l:Int):Rat)=S at D;have O:S.den<=192:=MG (Sn (OE C<|by omega) D.den) (NQ j<|show(A7 l).toNat<=48 by omega);have sn:S.num.natAbs<=1920000:=MG D.num<|Nat.mul_le_mul_left 10000 O;have W:=S.den_pos;refine w9q<|j4.2<|f7.2<|w9d rfl ?_;refine z9 (by decide) (by decide) (by omega) λy F5 y0 y1 V=>?_
 obtain⟨u,Z,Y,eu⟩:∃u:Int,-1<=u/\u<=1/\ixD (.list [.int 0,.int 0,.int 1,.int (-1)]) (.int y)=some (.int u):=by
  have:y=0\/y=1\/y=2\/y=3:=by omega
  rcases this with rfl | rfl | rfl | rfl
  .exact#v[0,by decide,by decide,rfl]
  .exact#v[0,by decide,by decide,rfl]
  .exact#v[1,by decide,by decide,rfl]
  .exact#v[-1,by decide,by decide,rfl]
 refine c7 eu #v[i7 rfl,i3 ?_];have big:(10000000:Nat)<jc:=p4 (MT (show 10000000<=2 ^ 30 by decide)<|Nk (by decide)<|by decide);have K:∀{x z:Int},x.natAbs<=10000000->z.natAbs<=10000000->u9 (.int x) (.int z)=some (.int<|x*z):=λh1 h2=>gC (by omega) (by omega)
 refine w9q (w9l<|j4.2<|j4.2<|f7.2<|w9s rfl<|f7.2<|c7 ix0<|c7 (K (by decide)<|by omega) ?_);refine w9s rfl (w9s rfl<|f7.2<|c7 ix1<|c7 (K (by omega)<|by omega)<|c7 A5 ?_);refine R4.2 (j4.2<|f7.2<|w9s rfl<|f7.2<|c7 ix1<|c7 (K (by decide)<|by omega)<|j7.2 ?_);rw[show(60:Int)*((S.den:Nat):Int)=((60*S.den:Nat):Int) by push_cast;rfl];have ud:(u*((S.den:Nat):Int)).natAbs<=192:=by rw[PB,NC];have:=NQ (show u.natAbs<=1 by omega) O;omega
 refine aL (by omega) (p90 (k:=14) (show 60*S.den<=2 ^ 14 by show _<=16384;omega)<|by decide) #v[i7 rfl,i3 ?_];have X:=wB (a:=60*S.num+u*((S.den:Nat):Int)) (d:=60*S.den) (by omega);have q:B0=1000000000:=rfl;have P:Pp (qd<|mkRat (60*S.num+u*((S.den:Nat):Int))<|60*S.den):=BI (by rw[q];omega) (by rw[q];omega);generalize mkRat (60*S.num+u*((S.den:Nat):Int)) (60*S.den)=w at P;have L:∀z∈hs.map qd,Pp z:=λz c=>by obtain⟨p,hp,rfl⟩:=Nb.1 c;have:=B p hp;have h1:=this.den;have h2:=this.num;exact BI (by rw[q];omega) (by rw[q];omega)
 have M:(hs.map qd).length<=11:=by rw[Mv];omega
 generalize hs.map qd=zs at L M;have g:∀(a:My) (o:FdS),Pp a->o.t<=F.t+39->wp (d7 (sN aA<|d7 (sW 5) l0) l0 [some .feed,some<|.dat<|bsD l,some<|.dat<|.int (h:Nat),some<|.dat<|.int (b:Nat),some<|.dat<|.int s,some<|.own zs,some<|.dat<|.int t,G,some<|.dat<|qd S,some<|.dat<|.int u,some<|.dat<|qd w] o) λN U=>(a::N).length<=Tc/\gJ (λ(d:My) (o:FdS)=>o.t<=F.t+40/\Pap d) (.rt<|.tuple (a::N)) U:=λa o ha al=>by refine d4.2 (M4.2<|d4.2<|M5.2<|gB rfl<|h7.2<|c7 kQ<|h7.2 #v[u8 rfl,m5 #v[by omega,a,zs,rfl,ha,L,M]])
 refine A4.2<|C2.2<|d4.2<|qT.2<|T8.2<|j4.2<|w9s rfl<|f7.2<|c7 ix0<|f7.2<|c7 qZ<|c7 rfl ?_;refine P3 (λe=>?_) (λe=>?_)
 .exact w9g rfl (g _ _ P<|by omega)
 .refine C2.2<|d4.2<|f7.2<|d4.2<|j4.2<|f7.2<|w9d rfl ?_;refine z9 (by decide) (by decide) (by omega) λv F6 v0 v1 t6=>c7 A5<|h7.2 #v[u8 rfl,?_]
  exact g _ _ #v[1,1+v,rfl,by rw[q];omega,by rw[q];omega] (by omega)
end
abbrev EE (a2 a3 a4 a5 a6 a7 a8 a9 a10 a11:Option DV):DE:=[none,some .feed,a2,a3,a4,a5,a6,a7,a8,a9,a10,a11]
def Pg (d:My):Prop:=∃a b:Int,d = .tuple [.int a,.int b]/\a.natAbs<=2 ^ 600/\b.natAbs<=2 ^ 600
def b0g:B0<=2 ^ 200/\B0<=2 ^ 600/\B0+Z6<=2 ^ 200/\B0+Z6+Z6<=2 ^ 200/\B0+Z6<=10 ^ 150/\B0<=10 ^ 150/\10<=B0/\10<=B0+Z6/\2 ^ 600<10 ^ 300+0/\2 ^ 200<=2 ^ 600:=by decide +kernel
def Pp.pg {d:My}(h:Pp d):Pg d:=by obtain⟨a,b,e,f,c⟩:=h;exact#v[a,b,e,MG f b0g.2.1,MG c b0g.2.1]
def Pg.gd {d:My}(h:Pg d):Gd 0 3 1 d/\cnt d<=3:=by
 obtain⟨a,b,rfl,g,f⟩:=h;have c:=b0g.2.2.2.2.2.2.2.2.1;refine#v[Gd.tup (M:=1) (k:=0) (λd e=>?_) (by simp[A9,cnt]),by simp[A9,cnt]];simp only[MJ,NH,OS]at e;rcases e with rfl | rfl
 .exact jR<|MT g c
 .exact jR<|MT f c
def Pp.im {d:My}(h:Pp d):iM B0 d:=by obtain⟨a,b,rfl,e,c⟩:=h;exact#v[e,c,trivial]
def lI {rs:List My}(h:∀x∈rs,Pp x):A9 rs<=3*rs.length:=by
 induction rs with
 | nil=>simp[A9]
 | cons x rs c =>
  have a:=(h x MD).pg.gd.2;have b:=c λy d=>h y<|Mw _ d
  simp only[A9,ME];omega
def xj {p:Rat}{a b:Int}(h:qd p = .tuple [.int a,.int b]):p.num=a/\((p.den:Nat):Int)=b:=by
 unfold qd at h;injection h with h
 injection h with d c
 injection c with c _
 injection d with d
 injection c with c
 exact#v[d,c]
def xx {zs:List My}(hz:∀z∈zs,Pp z):Gd 0 (1+3*zs.length) 2 (.tuple zs):=by have c:=lI hz;exact Gd.tup (M:=3) (λx a=>(hz x a).pg.gd.1) (by omega)
def Q8 {a:My}{zs:List My}(ha:Pg a)(hz:∀z∈zs,Pp z)(hl:zs.length<=100):Th (.tuple [a,.tuple zs]):=by
 have c:=lI hz;have g:=ha.gd;refine#v[?_,λs l e=>?_,λp l e=>?_]
 .refine Gd.tup (M:=400) (k:=4) (λx h=>?_) (by simp only[A9,cnt];omega);simp only[MJ,NH,OS]at h;rcases h with rfl | rfl
  .exact g.1.mono (.inl rfl) (by decide) (by decide)
  .exact(xx hz).mono (.inl rfl) (by omega) (by decide)
 .injection e with e
  injection e with _ e
  injection e with e _
  injection e with e
  subst e;omega
 .injection e with e
  injection e with r e
  injection e with e _
  injection e with e
  obtain⟨x,y,q,m,i⟩:=ha;obtain⟨f,d⟩:=xj<|r.symm.trans q;refine#v[#v[?_,by rw[f];exact m],λz b=>?_]
  .rw[<-d,NC]at i;exact i
  .obtain⟨x,y,o,n,j⟩:=hz (qd z) (by rw[e];exact Nb.2 #v[z,b,rfl]);obtain⟨f,d⟩:=xj o;refine#v[?_,by rw[f];exact MG n b0g.1];rw[<-d,NC]at j;exact MG j b0g.1
def BY {B:Nat}{p:Rat}(h:iM B (qd p)):p.num.natAbs<=B/\p.den<=B:=by have b:p.num.natAbs<=B:=h.1;have a:(((p.den:Nat):Int)).natAbs<=B:=h.2.1;rw[NC]at a;exact#v[b,a]
def Ck {N k B L:Nat}{d:My}(h:Tg N k B L d)(h1:N<=400)(h2:k<=5)(h3:B<=2 ^ 200):Th d:=by
 refine#v[h.g.mono (.inl rfl) h1 h2,λa b e=>?_,λp b e=>?_]
 .have c:=h.g.ct;rw[e]at c;simp only[cnt,A9]at c;have:=gM (xs:=b);omega
 .have i:=h.i;rw[e]at i;have m:iM B (qd p):=i.1;have i2:iML B (b.map qd):=i.2.1;obtain⟨l,j⟩:=BY m;refine#v[#v[MG j<|MG h3 b0g.2.2.2.2.2.2.2.2.2,MG l<|MG h3 b0g.2.2.2.2.2.2.2.2.2],λz n=>?_];obtain⟨g,f⟩:=BY<|R6.1 i2 (qd z)<|Nb.2 #v[z,n,rfl];exact#v[MG f h3,MG g h3]
def EN {d:My}(h:Pap d):Tg 40 3 B0 2 d:=by
 obtain⟨a,i,rfl,f,b,hl⟩:=h;have c:=lI b;have g:=f.pg.gd;refine#v[Gd.tup (M:=40) (k:=2) (λx e=>?_) (by simp only[A9,cnt];omega),#v[f.im,R6.2 λz h=>(b z h).im,trivial],by simp[gR]];simp only[MJ,NH,OS]at e;rcases e with rfl | rfl
 .exact g.1.mono (.inl rfl) (by decide) (by decide)
 .exact(xx b).mono (.inl rfl) (by omega) (by decide)
def CC {a:My}{zs:List My}(ha:Pp a)(hz:∀z∈zs,Pp z)(hl:zs.length<=100):Th (.tuple [.tuple zs,a]):=by
 have c:=lI hz;have g:=ha.pg.gd;obtain⟨x,y,rfl,b,f⟩:=ha;refine#v[?_,λh d e=>?_,λp d e=>?_]
 .refine Gd.tup (M:=400) (k:=4) (λx b=>?_) (by simp only[A9,cnt] at *;omega);simp only[MJ,NH,OS]at b;rcases b with rfl | rfl
  .exact(xx hz).mono (.inl rfl) (by omega) (by decide)
  .exact g.1.mono (.inl rfl) (by decide) (by decide)
 .injection e with e
  injection e with _ e
  injection e with e _
  injection e with e
  subst e;simp
 .injection e with e
  injection e with _ e
  injection e with e _
  injection e with e
  match d,e with
  | z::d,e =>
   injection e with e _
   unfold qd at e
   cases e
def Aj:Th .none:=#v[(kT (n:=0) (N:=400) (k:=5) (ds:=[.none]) (by decide +kernel) .none<|by simp),λa b e=>(nomatch e),λp b e=>(nomatch e)]
def FK:u9 (.int 1000000000000000000000000000000000000000000000000000000000000) (.int 1000000000000000000000000000000000000000000000000000000000000)=some (.int<|10 ^ 120):=by
 have a:Bd 400 1000000000000000000000000000000000000000000000000000000000000:=by unfold Bd;decide +kernel
 rw[gC (a.big<|by decide)<|a.big<|by decide];congr 2
section
variable {F:FdS}{Q:Out->FdS->Prop}
def zH {l:List Bw}{h:Nat}{ds:List My}{o2 o5 o7 o8 o9 o10 o11:Option DV}(H:Be l)(h3:h<=3)(hd:∀d∈ds,Th d)
  (q:∀a9 a10 a11,Q (.nx<|EE o2 (some<|.dat<|bsD l) (some<|.dat<|.int (h:Nat)) o5 (some<|.dat<|.list ds) o7 o8 a9 a10 a11) F) :
  wp (U8 (EE o2 (some<|.dat<|bsD l) (some<|.dat<|.int (h:Nat)) o5 (some<|.own ds) o7 o8 o9 o10 o11) F) Q:=by
 unfold U8 Q6 R7 Q7 R5;refine Bs rfl<|L0.2<|C5.2<|w9g rfl<|c7 Z7 ?_;refine G3 (λj E g=>g=F/\∃a9 a10 a11,E=EE o2 (some<|.dat<|bsD l) (some<|.dat<|.int (h:Nat)) o5 (some<|.dat<|.list ds) o7 o8 a9 a10 a11) _ 0 _ F #v[rfl,_,_,_,rfl] ?_ ?_
 .rintro j d e E f ⟨rfl,a9,a10,a11,rfl⟩;have t:=hd d<|Np e;have r:=Bv (t.g.repr (by decide) (by decide)<|by decide);refine#v[_,rfl,w9q<|M4.2<|d4.2<|w9w rfl<|h7.2<|c7 r #v[i7 rfl,i3 ?_]];refine w9q<|l3.2<|w9v rfl<|w9v rfl<|w9v rfl<|j7.2 ?_;refine yw H h3 t λx b=>#v[i7 rfl,i3 ?_]
  have a:=Bv<|b.rep t;refine w9i<|T8.2<|j4.2<|M4.2<|d4.2<|w9w rfl<|h7.2<|c7 a ?_;refine M4.2<|d4.2<|l3.2<|w9v rfl<|w9v rfl<|w9v rfl<|j7.2 ?_;refine zN H h3 t λy c=>?_
  rw[c.one b];refine h7.2<|c7 a<|c7 eqS<|c7 rfl<|j0 rfl<|J6.2<|i3 ?_;refine iG.2<|T8.2<|j4.2<|M4.2<|d4.2<|w9w rfl<|h7.2<|c7 r<|w9w rfl<|c7 eqS<|c7 rfl<|j0 rfl<|J6.2 #v[_,rfl,rfl,_,_,_,rfl]
 .rintro E f ⟨rfl,a9,a10,a11,rfl⟩;exact q _ _ _
def AM {ds:List My}(h:0<ds.length):ixD (.list ds) (.int (-1))=ds[ds.length-1]?:=by rw[jC];unfold atI ixN;rw[MC (by omega),Mx (by omega),MU];congr 1;omega
def DF {a2 a3 a4 a5 a6 a7 a8 a9 a10 a11:Option DV}(hF:F.t+300<=199999)
  (q:∀b3 b4 b5 b6 b7 b8 b9 b10 b11 F',F'.t<=F.t+300->Q (.nx<|EE a2 b3 b4 b5 b6 b7 b8 b9 b10 b11) F') :
  wp ((mSq X8<|mSq Y5<|mSq Y2<|mSq X2<|mSq Y6<|mSq W2<|mSq Y4<|mSq Y0<|mSq W7<|mSq W8 U8) (EE a2 a3 a4 a5 a6 a7 a8 a9 a10 a11) F) Q:=by
 unfold X8 Y5 Y2 X2;refine w9q<|l3.2<|gz.2<|iJ rfl<|j7.2 ?_;refine yz.wp (by omega) λd F1 t1 j=>#v[i7 rfl,i3 ?_]
 obtain⟨l,rfl,H⟩:=j;refine w9q<|j4.2<|f7.2<|w9d rfl ?_;refine z9 (by decide) (by decide) (by omega) λX F2 al af t2=>c7 A5 #v[i7 rfl,i3 ?_]
 obtain⟨h,eh⟩:∃h:Nat,1+X=(h:Int):=#v[(1+X).toNat,by omega];rw[eh];have T:h<=3:=by omega
 refine w9q<|l3.2<|gz.2<|iJ rfl<|w9v rfl<|w9v rfl<|j7.2 ?_;refine(mX H T).wp (by omega) λd F3 t3 j=>#v[i7 rfl,i3 ?_]
 have Z:=EN j;obtain⟨a,g,rfl,J,s,hl⟩:=j;refine x8.2<|cB.2<|iN.2<|w9c rfl<|d4.2<|l3.2<|gz.2<|iJ rfl<|w9v rfl<|w9v rfl<|j7.2 ?_;refine(mX H T).wp (by omega) λd2 F4 t4 R=>?_
 obtain⟨am,Y,rfl,S,M,ad⟩:=R;have V:ixD (.tuple [a,.tuple g]) (.int 0)=some a:=rfl;have w:ixD (.tuple [a,.tuple g]) (.int 1)=some (.tuple g):=rfl;have A:∀z∈g.reverse,Pp z:=λz h=>s z<|List.mem_reverse.1 h
 have B:∀z∈T6 g none (some 1)++g,Pp z:=λz h=>(NM.1 h).elim (λh=>s z<|(V2 g _ _).subset h)<|s z
 have G:(T6 g none (some 1)++g).length<=100:=by rw[Ni];have:=bc g none<|some 1;omega
 refine d4.2<|C2.2<|d4.2<|w9s rfl<|f7.2<|c7 V<|d4.2<|av.2<|w9s rfl<|f7.2<|c7 w<|c7 oy<|h7.2 #v[u8 rfl,?_];refine d4.2<|av.2<|w9w rfl<|c7 oy<|d4.2<|f7.2<|d4.2<|f7.2<|h7.2 #v[u8 rfl,i7 rfl,i3 ?_];unfold Y6 W2 Y4 Y0;refine x8.2 (nk rfl (by simp)<|C2.2<|d4.2<|w9s rfl<|f7.2<|c7 V<|d4.2<|j4.2<|dk.2<|w9s rfl<|f7.2<|c7 w<|dw.2<|ku.2<|f7.2<|c7 lQ<|c7 az<|w9s rfl<|f7.2<|c7 w<|c7 (jo (by have:=bc g none<|some 1;omega))<|h7.2 #v[u8 rfl,i3 ?_]);refine w9q<|M4.2<|d4.2<|V8.2<|V1.2<|d4.2<|j4.2<|f7.2<|w9d rfl ?_;refine z9 (by decide) (by decide) (by omega) λW F5 ac ab t5=>c7 A5<|h7.2 ?_
 obtain⟨m,em⟩:∃m:Nat,9+W=(m:Int):=#v[(9+W).toNat,by omega];rw[em];refine c7 (bS<|by omega) #v[sz (by simp;omega),?_];refine Bf (P:=λ_ y=>Pp y) (c:=0) _ _ (by decide) (λd j F hF=>?_) (by simp;omega) λK F6 N ht t6=>?_
 .obtain⟨i,O,rfl⟩:=Nb.1 j;have O:=Qk.1 O;refine C2.2 (d4.2<|w9s rfl<|f7.2<|c7 A5<|d4.2<|f7.2<|h7.2 #v[u8 rfl,by omega,(i:Int)+1,1,rfl,?_,by decide +kernel]);have:B0=1000000000:=rfl;rw[this];omega
 rw[Mv,Oi]at N t6;have C:∀z∈K,Pp z:=λz s=>(ht z s).elim λ_ h=>h.2
 have D:K.length<=100:=by omega
 refine h7.2<|c7 kQ #v[i7 rfl,i3 ?_];refine x8.2<|cB.2<|ot.2<|M5.2<|gB rfl<|iI.2<|d4.2<|C2.2<|d4.2<|f7.2<|w9c rfl<|h7.2 #v[u8 rfl,?_];refine d4.2 (C2.2<|d4.2<|C2.2<|d4.2<|f7.2<|d4.2<|j4.2<|f7.2<|f7.2<|c7 FK<|h7.2 #v[u8 rfl,w9c rfl<|h7.2 #v[u8 rfl,h7.2 #v[u8 rfl,_,_,rfl,rfl,sz (by simp),i7 rfl,i3 ?_]]]);refine x8.2<|cB.2<|ot.2<|M5.2<|gB rfl<|iI.2<|d4.2<|C2.2<|d4.2<|f7.2<|d4.2<|av.2<|w9s rfl<|f7.2<|c7 w<|c7 oy<|h7.2 #v[u8 rfl,?_];refine d4.2 (C2.2<|d4.2<|f7.2<|d4.2<|j4.2<|dk.2<|w9s rfl<|f7.2<|c7 w<|dw.2<|ku.2<|f7.2<|c7 lQ<|c7 az<|w9s rfl<|f7.2<|c7 w<|c7 (jo (by have:=bc g none<|some 1;omega))<|h7.2 #v[u8 rfl,h7.2 #v[u8 rfl,_,_,rfl,rfl,sz (by simp),i7 rfl,i3 ?_]]);have one:Pg (.tuple [.int 1,.int 1]):=#v[1,1,rfl,by decide +kernel,by decide +kernel];have r:Pg (.tuple [.int 1,.int 60]):=#v[1,60,rfl,by decide +kernel,by decide +kernel];have u:Pg (.tuple [.int 1,.int<|10 ^ 120]):=#v[1,10 ^ 120,rfl,by decide +kernel,by decide +kernel];have o:Pg (.tuple [.int 0,.int 1]):=#v[0,1,rfl,by decide +kernel,by decide +kernel];have v:Pg (.tuple [.int (-1),.int 3]):=#v[-1,3,rfl,by decide +kernel,by decide +kernel];obtain⟨q1,q2,q3,q4,q5,q6,q7,q8,_,_⟩:=b0g;unfold W7;refine x8.2 (L0.2<|V1.2<|d4.2<|f7.2<|h7.2<|c7 (bS (n:=6)<|by decide) ?_);refine G3 (λi E F'=>F'.t<=F.t+122+22*i/\∃(ds:List My) (L:Option DV),E=EE a2 (some<|.dat<|bsD l) (some<|.dat<|.int (h:Nat)) (some<|.dat<|.tuple [a,.tuple g]) (some<|.own ds) (some<|.dat<|.tuple K) L a9 a10 a11/\ds.length=11+i/\(∀x∈ds,Th x)/\(0<i->∀x,ds[ds.length-1]? = some x->Tg 100 4 (B0+Z6) 3 x)) _ 0 _ F6 #v[by omega,_,a8,rfl,rfl,λx b=>?_,λz=>absurd z<|by omega] ?_ ?_
 .simp only[Nf,Nq,MJ,NH,OS,Qi,List.reverse_nil]at b;rcases b with rfl | rfl | rfl | rfl | rfl | rfl | rfl | rfl | rfl | rfl | rfl
  .exact Q8 J.pg s (by omega)
  .exact Q8 S.pg M (by omega)
  .exact Q8 J.pg A (by rw[PL];omega)
  .exact CC J s (by omega)
  .exact Q8 one (λz h=>(nomatch h)) (by decide)
  .exact Aj
  .exact Q8 J.pg B G
  .exact Q8 r C D
  .exact Q8 u C D
  .exact Q8 o A (by rw[PL];omega)
  .exact Q8 v B G
 .rintro i d e E F7 ⟨ht,ds,L,rfl,I,t,_⟩;rw[Nh] at *;obtain⟨O,rfl⟩:=lE (f:=λi:Nat=>My.int (i:Int)) e;refine#v[_,rfl,nk (ds:=ds) rfl (by omega)<|l3.2<|gz.2<|iJ rfl<|w9v rfl<|j7.2 ?_];refine(lA 5 Z (by decide) (by decide) (by decide) q7 q6).wp (by omega) λz F8 t8 p=>?_
  refine#v[_,rfl,by omega,ds++[z],_,rfl,by simp;omega,λx b=>?_,λ_ x b=>?_]
  .rcases NM.1 b with b | b
   .exact t x b
   .rw[Nc.1 b];exact Ck p (by decide) (by decide) q3
  .rw[Ni,Po,Nat.add_sub_cancel,Oo<|Mz _,Nat.sub_self]at b;cases b;exact p
 .rintro E F7 ⟨ht,ds,L,rfl,I,t,k⟩;rw[Nh,Mv,Oi]at ht I k;unfold W8;have U:=MN (l:=ds) (i:=ds.length-1) (by omega);have b:=k (by decide) _ U;generalize ds[ds.length-1]'(by omega)=x at U b;refine i3 (x8.2<|nk (ds:=ds) rfl (by omega)<|l3.2<|gz.2<|iJ rfl<|R4.2<|j4.2<|M5.2<|gB rfl<|av.2<|f7.2<|c7 rfl<|c7 ((AM<|by omega).trans U)<|j7.2 ?_);refine(lA 5 b (by decide) (by decide) (by decide) q8 q5).wp (by omega) λz F8 t8 p=>i3 ?_
  refine zH H T (λd j=>?_) λb9 b10 b11=>q _ _ _ _ _ _ _ _ _ _ (by omega)
  rcases NM.1 j with j | j
  .exact t d j
  .rw[Nc.1 j];exact Ck p (by decide) (by decide) q4
end
def fin (ns:List Int):∃F',mU ([none,some .feed]++List.replicate 10 none) (lS ns)=some (.rt<|.bool true,F'):=by
 suffices h:wp (mU (EE none none none none none none none none none none)<|lS ns) (λo _=>o = .rt (.bool true)) by obtain⟨o,F',e,rfl⟩:=h;exact#v[F',e]
 have q:(lS ns).t=0:=rfl;unfold mU lh fN;refine x8.2 (L0.2<|V1.2<|d4.2<|f7.2<|h7.2<|c7 (bS (n:=3)<|by decide) ?_);refine G3 (λi E F'=>F'.t<=300*i/\∃p m l k j g f c b a,E=EE p m l k j g f c b a) _ 0 _ (lS ns) #v[by omega,_,_,_,_,_,_,_,_,_,_,rfl] ?_ ?_
 .rintro i d s E w ⟨ht,p,m,l,k,j,g,f,c,b,a,rfl⟩;have x:i<3:=by have:=(MK.1 s).1;simpa using this
  refine#v[_,rfl,DF (by omega) λF D C B A z y v u F' r=>#v[_,rfl,by omega,_,_,_,_,_,_,_,_,_,_,rfl]]
 .rintro E w ⟨ht,p,m,l,k,j,g,f,c,b,a,rfl⟩;exact i3<|A4.2<|f7.2 rfl
end K66
namespace K66
open PySem L2 L3
def all_mk {l:PySem.W.OpenLaw}{w:SU}{K:PySem.W.Frag}{h:Tb}{mg:Str->Option SN}{fa flaw:SQ}(X:K.In h)(G:h.Ns To mg)(hfa:mg "law" = some (.ref fa))
    {odlaw anlaw:Option SQ} {sllaw:Array (Option SN)} {oclaw kVlaw dclaw pmlaw cdlaw ctlaw:SN}
    (alaw:PySem.W.nsIn K To "law" = some (some<|.ref flaw)) (llaw:K.lookup flaw=some #v[oclaw,odlaw,.func<|PySem.W.fnOf "law" "law" (defArgs HI) (defBody HI) (defScope HI) .none kVlaw dclaw pmlaw anlaw cdlaw ctlaw,sllaw]) (claw:PySem.W.codeIn K cdlaw "law" = true) (klaw:PySem.W.keepIn K (.ref flaw)=true)
    (La:L3.FI K "is_number" IF)
    (Jn:L3.FI K "is_number_from" Ig)
    (Kl:L3.FI K "is_tuple_of" Ir)
    (Jo:L3.FI K "common_divisor" Ih)
    (Km:L3.FI K "is_fraction" Iu)
    (Lq:L3.FI K "fraction" IT)
    (Mi:L3.FI K "plus" KP)
    (LV:L3.FI K "minus" JY)
    (LX:L3.FI K "times" JZ)
    (Mj:L3.FI K "over" KQ)
    (Ml:L3.FI K "less" KR)
    (Lr:L3.FI K "all_lots" Iw)
    (LY:L3.FI K "added" Ka)
    (JC:L3.FI K "greatest_work" HX)
    (Jp:L3.FI K "is_shaped_back" HS)
    (Ls:L3.FI K "steps_of" Iy)
    (LZ:L3.FI K "least" Kb)
    (Kn:L3.FI K "mean_height" HW)
    (Lb:L3.FI K "lets_back" IG)
    (Lc:L3.FI K "_law_feed" IH)
    (Ld:L3.FI K "_law_draw" II)
    (Le:L3.FI K "_law_frac" IJ)
    (KG:L3.FI K "_law_beats" HU)
    (KH:L3.FI K "_law_works" Io)
    (KI:L3.FI K "_law_spare" Ip)
    (Jq:L3.FI K "_law_is_number" Ii)
    (JS:L3.FI K "_law_is_frac" HR)
    (Lu:L3.FI K "_law_due" HY)
    (Lf:L3.FI K "_law_told" IK)
    (KJ:L3.FI K "_law_paper" Iq)
    (Lg:L3.FI K "_law_bent" IL)
    (zValueError:PySem.W.nsIn K To "ValueError" = some none)
    (zabs:PySem.W.nsIn K To "abs" = some none)
    (zall:PySem.W.nsIn K To "all" = some none)
    (zbool:PySem.W.nsIn K To "bool" = some none)
    (zenumerate:PySem.W.nsIn K To "enumerate" = some none)
    (zint:PySem.W.nsIn K To "int" = some none)
    (zisinstance:PySem.W.nsIn K To "isinstance" = some none)
    (zlen:PySem.W.nsIn K To "len" = some none)
    (zlist:PySem.W.nsIn K To "list" = some none)
    (zmax:PySem.W.nsIn K To "max" = some none)
    (zrange:PySem.W.nsIn K To "range" = some none)
    (zrepr:PySem.W.nsIn K To "repr" = some none)
    (zsorted:PySem.W.nsIn K To "sorted" = some none)
    (zsum:PySem.W.nsIn K To "sum" = some none)
    (ztuple:PySem.W.nsIn K To "tuple" = some none)
    (zzip:PySem.W.nsIn K To "zip" = some none)
    {t_NOUGHT:SQ} {it_NOUGHT:Array SN} {n_NOUGHT:Nat} {dd_NOUGHT:Option SQ} {sl_NOUGHT:Array (Option SN)} (ga_NOUGHT:PySem.W.nsIn K To "NOUGHT" = some (some<|.ref t_NOUGHT)) (gl_NOUGHT:K.lookup t_NOUGHT=some #v[.type "tuple",dd_NOUGHT,.seq it_NOUGHT n_NOUGHT,sl_NOUGHT]) (gq_NOUGHT:L3.intsV it_NOUGHT.toList=some ([0,1]:List Int))
    {x_WaitError:SQ} (aE_WaitError:PySem.W.nsIn K To "WaitError" = some (some<|.ref x_WaitError))
    {x_NoPaper:SQ} (aE_NoPaper:PySem.W.nsIn K To "NoPaper" = some (some<|.ref x_NoPaper))
    {x_NoBeat:SQ} (aE_NoBeat:PySem.W.nsIn K To "NoBeat" = some (some<|.ref x_NoBeat))
    {x_NoComer:SQ} (aE_NoComer:PySem.W.nsIn K To "NoComer" = some (some<|.ref x_NoComer))
    {x_NoHouse:SQ} (aE_NoHouse:PySem.W.nsIn K To "NoHouse" = some (some<|.ref x_NoHouse))
    {x_NoRest:SQ} (aE_NoRest:PySem.W.nsIn K To "NoRest" = some (some<|.ref x_NoRest))
    {x_NoRow:SQ} (aE_NoRow:PySem.W.nsIn K To "NoRow" = some (some<|.ref x_NoRow))
    {x_NoText:SQ} (aE_NoText:PySem.W.nsIn K To "NoText" = some (some<|.ref x_NoText))
    {x_TooMany:SQ} (aE_TooMany:PySem.W.nsIn K To "TooMany" = some (some<|.ref x_TooMany))
    {fi_NoPaper N_NoPaper:SQ} {nm_NoPaper q_NoPaper:Str} {bs_NoPaper:List SN} {hd_NoPaper sn_NoPaper sub_NoPaper ab_NoPaper col_NoPaper dd_NoPaper k0_NoPaper k1_NoPaper k2_NoPaper k3_NoPaper k5_NoPaper} {oci_NoPaper kVi_NoPaper dci_NoPaper pmi_NoPaper cdi_NoPaper cti_NoPaper:SN} {odi_NoPaper ani_NoPaper:Option SQ} {sli_NoPaper:Array (Option SN)}
    (obj_NoPaper:K.lookup x_NoPaper=some (PySem.excClassObj nm_NoPaper q_NoPaper x_NoPaper N_NoPaper bs_NoPaper (.ref x_WaitError::L3.vMro) hd_NoPaper sn_NoPaper sub_NoPaper ab_NoPaper col_NoPaper dd_NoPaper k0_NoPaper k1_NoPaper k2_NoPaper k3_NoPaper k5_NoPaper "ValueError.__new__")) (tp_NoPaper:PySem.W.excIn K x_WaitError L3.vMro "ValueError.__new__" = true)
    (in_NoPaper:PySem.W.findIn K (.ref x_NoPaper) "__init__" = some (some<|.ref fi_NoPaper)) (fn_NoPaper:PySem.W.typeIn K (.ref fi_NoPaper)=some (.type "function")) (ca_NoPaper:PySem.W.specialIn K (.ref x_NoPaper) "__call__" = some (some<|.builtin "type.__call__")) (ty_NoPaper:PySem.W.instIn K (.ref x_NoPaper) (.type "type")=some true) (kp_NoPaper:PySem.W.keepIn K (.ref x_NoPaper)=true) (di_NoPaper:PySem.W.hasDictIn K x_NoPaper=true) (sa_NoPaper:PySem.W.findIn K (.ref x_NoPaper) "__setattr__" = some (some<|.builtin "object.__setattr__"))
    (li_NoPaper:K.lookup fi_NoPaper=some #v[oci_NoPaper,odi_NoPaper,.func<|PySem.W.fnOf "__init__" "NoPaper.__init__" (defArgs ini_NoPaper) (defBody ini_NoPaper) (defScope ini_NoPaper) .none kVi_NoPaper dci_NoPaper pmi_NoPaper ani_NoPaper cdi_NoPaper cti_NoPaper,sli_NoPaper]) (ci_NoPaper:PySem.W.codeIn K cdi_NoPaper "NoPaper.__init__" = true)
    (ga_NoPaper_:PySem.W.findIn K (.ref x_NoPaper) "__getattribute__" = some (some<|.builtin "BaseException.__getattribute__")) (gn_NoPaper:PySem.W.findIn K (.ref x_NoPaper) "__getattr__" = some none) (mb_NoPaper:PySem.W.mroIn K x_NoPaper (.type "BaseException")=some true) (mo_NoPaper:PySem.W.mroIn K x_NoPaper (.type "object")=some true) (cc_NoPaper:PySem.W.findIn K (.ref x_NoPaper) "__class__" = some (some<|.builtin "object.__class__")) (cg_NoPaper:PySem.W.specialIn K (.builtin "object.__class__") "__get__" = some (some<|.builtin "getset_descriptor.__get__")) (ct_NoPaper:PySem.W.takesIn K (.builtin "object.__class__")=some true)
    (sb_NoPaper:PySem.W.subIn K (.ref x_WaitError) (.type "BaseException")=some true) (ko_NoPaper:PySem.W.kitOne K (.ref x_NoPaper) (.ref x_WaitError)=some true) (ne_NoPaper:(SN.ref x_NoPaper == SN.ref x_WaitError)=false) (ve_NoPaper:PySem.W.kitOne K (.ref x_NoPaper) (.type "ValueError")=some true) (st_NoPaper:PySem.W.kitAny K (.ref x_NoPaper) [.ref x_NoBeat,.ref x_NoComer,.ref x_NoHouse,.ref x_NoRest,.ref x_NoRow,.ref x_NoText,.ref x_TooMany]=some false)
    (na_NoPaper_word:PySem.W.findIn K (.ref x_NoPaper) "word" = some none)
    (na_NoPaper_number:PySem.W.findIn K (.ref x_NoPaper) "number" = some none)
    (hnd0:decide (((L3.tabsK ([]:List Str) K).map (·.2.2)).Nodup)=true)
   :∃fd:SY,(∀(s:SR) (v:SN),BindsTo s fd #v[[v],[]] [("_law_script",v)])/\∀base:Tb,K.In base->base.Ns To mg->BMd base mg->(∀t∈L3.tabsK ([]:List Str) K,PySem.W.CodeHd base t.2.1 t.2.2)->FnOk l.prog w K mg base CX0 8 fa fd ["_law_script"] (spLaw K):=by
  have ab:(L3.tabP K).Nodup:=MS hnd0;have e:=hfa.symm.trans<|Oa X G alaw;cases e;have a:∀p∈L3.psT "NoPaper",PySem.W.findIn K (.ref x_NoPaper) p=some none:=by
    intro p c;have c:p∈(["word","number"]:List Str):=c;simp only[MJ,NH,OS]at c;rcases c with rfl | rfl
    · exact na_NoPaper_word
    · exact na_NoPaper_number
  have T:Txt K mg:=#v[Nt X G zValueError,Nt X G zabs,Nt X G zall,Nt X G zbool,Nt X G zenumerate,Nt X G zint,Nt X G zisinstance,Nt X G zlen,Nt X G zlist,Nt X G zmax,Nt X G zrange,Nt X G zrepr,Nt X G zsorted,Nt X G zsum,Nt X G ztuple,Nt X G zzip,L3.gd_mkI X G ga_NOUGHT gl_NOUGHT gq_NOUGHT (by decide),#v[x_WaitError,x_NoPaper,fi_NoPaper,[x_NoBeat,x_NoComer,x_NoHouse,x_NoRest,x_NoRow,x_NoText,x_TooMany],Oa X G aE_WaitError,#v[_,_,rfl,Oa X G aE_NoBeat,_,_,rfl,Oa X G aE_NoComer,_,_,rfl,Oa X G aE_NoHouse,_,_,rfl,Oa X G aE_NoRest,_,_,rfl,Oa X G aE_NoRow,_,_,rfl,Oa X G aE_NoText,_,_,rfl,Oa X G aE_TooMany,rfl],L3.ecls_mk obj_NoPaper tp_NoPaper in_NoPaper fn_NoPaper ca_NoPaper ty_NoPaper kp_NoPaper di_NoPaper sa_NoPaper,L3.eini_mk it_NoPaper li_NoPaper ci_NoPaper a,L3.efit_mk (Oa X G aE_NoPaper) di_NoPaper ga_NoPaper_ gn_NoPaper mb_NoPaper mo_NoPaper cc_NoPaper cg_NoPaper ct_NoPaper sb_NoPaper ko_NoPaper ne_NoPaper ve_NoPaper st_NoPaper a]];obtain⟨_,_,U,Lh,Li,_⟩:=La.mk X G ["thing"];obtain⟨_,_,W,Jr,Js,_⟩:=Jn.mk X G ["least","thing"];obtain⟨_,_,F,Ko,Kq,_⟩:=Kl.mk X G ["many","thing"];obtain⟨_,_,IA,Jt,Ju,_⟩:=Jo.mk X G ["one","other"];obtain⟨_,_,E,Kr,Ks,_⟩:=Km.mk X G ["thing"];obtain⟨_,_,L,Lv,Lw,_⟩:=Lq.mk X G ["top","bottom"];obtain⟨_,_,o,Mm,Mn,_⟩:=Mi.mk X G ["one","other"];obtain⟨_,_,x,Ma,Mb,_⟩:=LV.mk X G ["one","other"];obtain⟨_,_,u,Mc,Md,_⟩:=LX.mk X G ["one","other"];obtain⟨_,_,n,Mo,Mp,_⟩:=Mj.mk X G ["one","other"];obtain⟨_,_,m,Mq,Mr,_⟩:=Ml.mk X G ["one","other"];obtain⟨_,_,J,Ly,Lz,_⟩:=Lr.mk X G ["beats"];obtain⟨_,_,r,Me,Mf,_⟩:=LY.mk X G ["parts"];obtain⟨_,_,IQ,JE,JF,_⟩:=JC.mk X G ["beats"];obtain⟨_,_,ID,Jv,Jw,_⟩:=Jp.mk X G ["beats","thing"];obtain⟨_,_,I,LA,LB,_⟩:=Ls.mk X G ["heights"];obtain⟨_,_,q,Mg,Mh,_⟩:=LZ.mk X G ["parts"];obtain⟨_,_,D,Kt,Ku,_⟩:=Kn.mk X G ["beats","heights"];obtain⟨_,_,S,Lj,Lk,_⟩:=Lb.mk X G ["beats","hands","thing"];obtain⟨_,_,R,KU,Ll,_⟩:=Lc.mk X G ["_law_script"];obtain⟨_,_,Q,KW,Lm,_⟩:=Ld.mk X G ["_law_feed_here","_law_many"];obtain⟨_,_,P,KY,Ln,_⟩:=Le.mk X G ["_law_top","_law_bottom"];obtain⟨_,_,B,KA,KL,_⟩:=KG.mk X G ["_law_feed_here"];obtain⟨_,_,A,KB,KM,_⟩:=KH.mk X G ["_law_beats_here"];obtain⟨_,_,z,KC,KN,_⟩:=KI.mk X G ["_law_beats_here","_law_hands","_law_heights"];obtain⟨_,_,IE,Jm,Jx,_⟩:=Jq.mk X G ["_law_thing"];obtain⟨_,_,Y,JR,JT,_⟩:=JS.mk X G ["_law_thing"];obtain⟨_,_,H,Lp,LC,_⟩:=Lu.mk X G ["_law_beats_here","_law_hands","_law_thing"];obtain⟨_,_,O,KZ,Lo,_⟩:=Lf.mk X G ["_law_beats_here","_law_hands","_law_thing"];obtain⟨_,_,y,KD,KO,_⟩:=KJ.mk X G ["_law_feed_here","_law_beats_here","_law_hands"];obtain⟨_,_,N,V,M,_⟩:=Lg.mk X G ["_law_feed_here","_law_thing"];have b:=fun_mk (st:=HI) llaw claw klaw;have k:=b.binds (ps:=["_law_script"]) λ_ _ _ _ _ _ us hl=>by obtain⟨z0,rfl⟩:=L3.len_1 hl;rfl
  have j:=Oa X G alaw;refine#v[PySem.W.fnOf "law" "law" (defArgs HI) (defBody HI) (defScope HI) .none kVlaw dclaw pmlaw anlaw cdlaw ctlaw,λs v=>.of_eq rfl,λbase _ _ BM hC=>?_];have HZ:=L3.cal l.prog w base (Kc U T ) Lh U Li;have Ij:=L3.cal l.prog w base (IW W T HZ) Jr W Js;have HQ:=L3.cal l.prog w base (Jy F T ) Ko F Kq;have HN:=L3.cal l.prog w base (IX IA T ) Jt IA Ju;have Il:=L3.cal l.prog w base (Jz E T HQ HZ Ij HN) Kr E Ks;have d:=L3.cal l.prog w base (Kv L T HN) Lv L Lw;have C:=L3.cal l.prog w base (LM o T d) Mm o Mn;have Kd:=L3.cal l.prog w base (LD x T d) Ma x Mb;have Z:=L3.cal l.prog w base (LF u T d) Mc u Md;have KS:=L3.cal l.prog w base (LN n T d) Mo n Mp;have IM:=L3.cal l.prog w base (LO m T ) Mq m Mr;have IU:=L3.cal l.prog w base (Kx J T ) Ly J Lz;have Ke:=L3.cal l.prog w base (LG r T C) Me r Mf;have Im:=L3.cal l.prog w base (Jg IQ T ) JE IQ JF;have Ik:=L3.cal l.prog w base (IZ ID T HQ Il Im) Jv ID Jw;have IV:=L3.cal l.prog w base (Ky I T Kd) LA I LB;have Kg:=L3.cal l.prog w base (LH q T IM) Mg q Mh;have Iv:=L3.cal l.prog w base (JA D T Z KS IU Ke) Kt D Ku;have IP:CalleeX l.prog w K mg base "lets_back" 6 ["beats","hands","thing"] (spX K mg 3 HP):=#v[_,_,Kf S T Ik IM IV C Iv Z Kg,Lj,S.kp,Lk];have KF:=L3.cal l.prog w base (Kh R) KU R Ll;have f:=L3.cal l.prog w base (Ki Q T ) KW Q Lm;have i:=L3.cal l.prog w base (Kj P T ) KY P Ln;have HF:=L3.cal l.prog w base (JN B T f) KA B KL;have g:=L3.cal l.prog w base (JO A T ) KB A KM;have HV:=L3.cal l.prog w base (JP z T i g) KC z KN;have HJ:=L3.cal l.prog w base (Ja IE T ) Jm IE Jx;have Ie:=L3.cal l.prog w base (Jl Y T HJ i) JR Y JT;have HH:=L3.cal l.prog w base (Kz H T Ie g HV) Lp H LC;have HG:=L3.cal l.prog w base (Kk O T IP) KZ O Lo;have HD:=L3.cal l.prog w base (JQ y T f g i HV) KD y KO;have HE:=L3.cal l.prog w base (Jb N T f HJ V M 5) V N M;exact LU b T KF HF f HD HE HG HH (λns _=>fin ns)
def walk {l:PySem.W.OpenLaw}{q:SS}{loose:List Str}{XP:(Str->Option SN)->Tb->Prop}{YP:SU->Tb->Prop}{d:DefRec}{K:Params->PySem.W.Frag}(hn:l.most=some 63)(hdf:d.params.defaults=[])
  (hrec:(([]:List Str).all λx=>((PyProof.Rows.recsOf q).find? λe=>e.name == x).isSome)=true) (hnt:∀w:SU,PySem.W.noTabs (K w.params)=true)
  (hY:∀(w:SU) (h:Tb),YP w h->(K w.params).In h)
  (F:∀(w:SU) (mg:Str->Option SN) (fa:SQ) (h:Tb),(K w.params).In h->h.Ns To mg->mg d.name=some (.ref fa) ->
   ∃fd:SY,(∀(s:SR) (u:SN),BindsTo s fd #v[[u],[]] [("_law_script",u)])/\∀base:Tb,(K w.params).In base->base.Ns To mg->BMd base mg->(∀t∈L3.tabsK ([]:List Str) (K w.params),PySem.W.CodeHd base t.2.1 t.2.2)->FnOk l.prog w (K w.params) mg base CX0 8 fa fd ["_law_script"] (spLaw<|K w.params)) :
  PySem.W.WalkO q loose XP YP l.row.toRowW d [] (λf vs=>PySem.call f vs) :=
 L3.walk_ofT ([]:List Str) (n:=63) (k:=8) (x:="_law_script") (CX:=λ_=>CX0) (sp:=λw=>spLaw<|K w.params) hn (by decide) hdf #v[rfl,by decide,by decide,rfl] hrec hnt hY F (λ_ _ a b hl g c=>#v[a,b,rfl,g,hl,c,λ_=>rfl]) λ_ _ _ _ _ z=>z
end K66
open PySem PySem.W PyProof.Rows
set_option maxRecDepth 100000 in
set_option maxHeartbeats 0 in
theorem PySem.Challenge.cw_hatchwaits_k66_back_papers_judged_holds : PySem.Challenge.rw_hatchwaits_k66_back_papers_judged.Holds := by
 w_on;o_law;k_head;(case hw=>w_witness2);k_fill;refine K66.walk (l:=PySem.Challenge.rw_hatchwaits_k66_back_papers_judged) rfl rfl (by first | rfl | kernel_rfl) (by intro w;first | kernel_rfl | with_unfolding_all rfl) (λw h Y=>PySem.W.kIn_of Y) ?F;case F =>
  intro w mg fa h KX G hmg
  apply K66.all_mk KX G hmg
  (case hnd0=>first | kernel_rfl | with_unfolding_all rfl)
  all_goals first | exact .of (by k_is) (by k_is) (by k_is) (by k_is) | k_is | kit_is | k_exc | rfl | decide | kernel_rfl | with_unfolding_all rfl