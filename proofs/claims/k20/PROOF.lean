import PyProof.Rows.All
import Wide.All
import OpenK.AllK
import Wide.FinOn
import Lean
import PyProof.EqAt
import PyProof.EqKinds
import PyProof.TupleCall
import PyProof.Rows.EqDataRows
import PyProof.Rows.InDataRows
import PyProof.StrLawsRepr
import PyProof.AutoListH
import PySem.Challenge.RW_hatchwaits_k20_courses_told
def PySem.W.Fast.tw12242994832989614319:=0
def PySem.W.Fast.tw8988211291846552455:=0
def PySem.W.Fast.tw464078268642067618:=0
def PySem.W.Fast.tw927705738186862675:=0
def PySem.W.Fast.tw16875657279619191289:=0
def PySem.W.Fast.tw10023017104126112790:=0
def PySem.W.Fast.tw5013666053585965866:=0
def PySem.W.Fast.tw8246120529199601465:=0
def PySem.W.Fast.tw14877928693604568410:=0
def PySem.W.Fast.tw13271885718178611492:=0
def PySem.W.Fast.tw5303088788793293297:=0
def PySem.W.Fast.tw8634022535093035644:=0
def PySem.W.Fast.tw4699701641354087133:=0
def PySem.W.Fast.tw12630620987738595285:=0
def PySem.W.Fast.tw6111303830306273983:=0
def PySem.W.Fast.tw12377623456255780884:=0
def PySem.W.Fast.tw12139943530337636214:=0
def PySem.W.Fast.tw6991810017400247468:=0
def PySem.W.Fast.tw379901448063624770:=0
def PySem.W.Fast.tw7196100019330691184:=0
def PySem.W.Fast.tw15075766988476752685:=0
def PySem.W.Fast.tw17994531179967514252:=0
def PySem.W.Fast.tw13932563778064309255:=0
def PySem.W.Fast.tw3286916298008756559:=0
def PySem.W.Fast.tw10162839925518725575:=0
def PySem.W.Fast.tw7110956955178633492:=0
def PySem.W.Fast.tw480801319979195058:=0
def PySem.W.Fast.tw17708300194292879150:=0
def PySem.W.Fast.tw5400799990407912532:=0
def PySem.W.Fast.tw11738421042429318735:=0
def PySem.W.Fast.tw2486559791348162000:=0
def PySem.W.Fast.tw16626999500752556345:=0
def PySem.W.Fast.tw14134217545925930926:=0
def PySem.W.Fast.tw11147189444866919070:=0
def PySem.W.Fast.tw7601195746381613947:=0
def PySem.W.Fast.tw2922043866738001073:=0
def PySem.W.Fast.tw8934719486471263126:=0
def PySem.W.Fast.tw6460163665167584118:=0
def PySem.W.Fast.tw7870424123394776863:=0
def PySem.W.Fast.tw9969988794281942664:=0
def PySem.W.Fast.tw5402155319247596850:=0
def PySem.W.Fast.tw14728959194972747769:=0
def PySem.W.Fast.tw14860530401605013731:=0
def PySem.W.Fast.tw15123017538828798182:=0
def PySem.W.Fast.tw5658687712021296706:=0
def PySem.W.Fast.tw13012632306517783105:=0
def PySem.W.Fast.tw2126694734062293704:=0
def PySem.W.Fast.tw15891107323669842715:=0
def PySem.W.Fast.tw1516794842911091674:=0
def PySem.W.Fast.tw15160914770752951222:=0
def PySem.W.Fast.tw7617869386110628642:=0
def PySem.W.Fast.tw7435840006111156420:=0
def PySem.W.Fast.tw18153286888775961770:=0
def PySem.W.Fast.tw11299476028235229197:=0
def PySem.W.Fast.tw11829369059434593860:=0
def PySem.W.Fast.tw5958187894627511360:=0
def PySem.W.Fast.tw13447038217347188364:=0
def PySem.W.Fast.tw2786569870292612295:=0
def PySem.W.Fast.tw3211469069735595403:=0
def PySem.W.Fast.tw14169197045786208473:=0
def PySem.W.Fast.tw5312433770546651709:=0
def PySem.W.Fast.tw14268110112557494442:=0
def PySem.W.Fast.tw12909568674254424955:=0
def PySem.W.Fast.tw4653803969292798089:=0
def PySem.W.Fast.tw15176875239237677999:=0
def PySem.W.Fast.tw11068255306399149329:=0
def PySem.W.Fast.tw1319918253978229564:=0
def PySem.W.Fast.tw1420903397254257675:=0
def PySem.W.Fast.tw12341081964692676272:=0
def PySem.W.Fast.tw18392952145234909529:=0
def PySem.W.Fast.tw10938435474774702155:=0
def PySem.W.Fast.tw12820213790543272947:=0
def PySem.W.Fast.tw5503696769165018836:=0
def PySem.W.Fast.tw7706993029505037144:=0
def PySem.W.Fast.tw13712615217457001503:=0
def PySem.W.Fast.tw6163985508309765777:=0
def PySem.W.Fast.tw17841138119496130645:=0
def PySem.W.Fast.tw15037234934069111260:=0
def PySem.W.Fast.tw2925024596549747223:=0
def PySem.W.Fast.tw705819258568109311:=0
def PySem.W.Fast.tw8289958906584115851:=0
def PySem.W.Fast.tw4225554164449864284:=0
def PySem.W.Fast.tw2571589137497261833:=0
def PySem.W.Fast.tw8029536373245412537:=0
def PySem.W.Fast.tw13795159440333453697:=0
def PySem.W.Fast.tw13743975491412753776:=0
def PySem.W.Fast.tw5995161678803117249:=0
def PySem.W.Fast.tw17002291462956789046:=0
def PySem.W.Fast.tw8633229260092458394:=0
def PySem.W.Fast.tw14135098106323354144:=0
def PySem.W.Fast.tw17105665859735144003:=0
def PySem.W.Fast.tw5936057668982142220:=0
def PySem.W.Fast.tw16859251450056314996:=0
def PySem.W.Fast.tw12698688253937616810:=0
def PySem.W.Fast.tw15427892824976416415:=0
def PySem.W.Fast.tw6111430132952791025:=0
def PySem.W.Fast.tw7190042666549730129:=0
def PySem.W.Fast.tw11791821212063396814:=0
def PySem.W.Fast.tw1729838108185705149:=0
def PySem.W.Fast.tw4595170385414696059:=0
def PySem.W.Fast.tw3072142206494976668:=0
def PySem.W.Fast.tw7127078129943020205:=0
def PySem.W.Fast.tw2459276187666209653:=0
def PySem.W.Fast.tw4484221023365640012:=0
def PySem.W.Fast.tw14444732257942295949:=0
def PySem.W.Fast.tw12600156031409431602:=0
def PySem.W.Fast.tw10237140131183236764:=0
def PySem.W.Fast.tw3637991967409358677:=0
def PySem.W.Fast.tw5009298979147686836:=0
def PySem.W.Fast.tw2614610017435337929:=0
def PySem.W.Fast.tw5319359774362221260:=0
def PySem.W.Fast.tw9727659487594094464:=0
def PySem.W.Fast.tw16733003788801394205:=0
def PySem.W.Fast.tw7797434723968115001:=0
def PySem.W.Fast.tw12977232505058253658:=0
def PySem.W.Fast.tw3108421076840496666:=0
def PySem.W.Fast.tw12322549819670665692:=0
def PySem.W.Fast.tw2545900663185987429:=0
def PySem.W.Fast.tw6995602489775653045:=0
def PySem.W.Fast.tw10396555553883696:=0
def PySem.W.Fast.tw18186922928413759583:=0
def PySem.W.Fast.tw3064675876646311662:=0
def PySem.W.Fast.tw9627904614380988186:=0
def PySem.W.Fast.tw15173669300564621073:=0
def PySem.W.Fast.tw16384667805504960225:=0
def PySem.W.Fast.tw10460120746615362181:=0
def PySem.W.Fast.tw18187606319137889294:=0
def PySem.W.Fast.tw450878911293687967:=0
def PySem.W.Fast.tw13936223657901129409:=0
def PySem.W.Fast.tw10405036296568273124:=0
def PySem.W.Fast.tw6527618534203774335:=0
def PySem.W.Fast.tw2595582294798950890:=0
def PySem.W.Fast.tw979446262504015140:=0
def PySem.W.Fast.tw1887080442088169191:=0
def PySem.W.Fast.tw18206162530353199389:=0
def PySem.W.Fast.tw11202821175689017609:=0
def PySem.W.Fast.tw6041535402367694282:=0
def PySem.W.Fast.tw7616678301941797024:=0
def PySem.W.Fast.tw8960566914407069129:=0
def PySem.W.Fast.tw7615854472673974316:=0
def PySem.W.Fast.tw13210310140400475028:=0
def PySem.W.Fast.tw6784497163499814793:=0
abbrev Fg:=PySem.W.Frag
noncomputable section
def Hy:=@PySem.wpAny_bind
def Hz:=@List.length_map
def HA:=@List.mem_cons_of_mem
def HB:=@List.mem_cons
def HC:=@List.mem_append
def HD:=@List.getElem?_eq_getElem
def HG:=@List.getElem?_eq_some_iff
def HH:=@if_pos
def HI:=@PySem.Heap.get?_push_of_some
def HJ:=@List.getD_eq_getElem?_getD
def HK:=@Nat.le_refl
def HL:=@List.getElem?_set_ne
def HM:=@if_neg
def HN:=@Option.some.inj
def HP:=@List.getElem?_map
def HQ:=@List.size_toArray
def HR:=@List.getElem?_set_self
def HS:=@PySem.wpAny_pure
def HU:=@PySem.Heap.lt_size
def HV:=@List.mem_cons_self
def HW:=@List.mem_append_right
def HX:=@List.map_cons
def HY:=@Option.bind_some
def HZ:=@List.length_cons
def Ia:=@Bool.false_ne_true
def Ib:=@List.getElem?_append_left
def Ic:=@Nat.ne_of_lt
def Ie:=@Nat.lt_of_lt_of_le
def Ig:=@List.getElem?_append_right
def Ih:=@List.length_range
def Ii:=@PySem.Heap.get?_push_size
def Ij:=@List.map_append
def Ik:=@List.map_map
def Il:=@List.mem_map
def Im:=@Nat.le_trans
def Io:=@PySem.sizeLine_eq
def Ip:=@Option.map_eq_some_iff
def Iq:=@List.pairwise_cons
def Ir:=@List.mem_range
def Iu:=@List.mem_filter
def Iv:=@List.map_congr_left
def Iw:=@of_decide_eq_true
def Iy:=@List.mem_of_getElem?
def Iz:=@Ne.symm
def IA:=@List.length_append
def IB:=@Nat.zero_add
def ID:=@Bool.false_eq_true
def IE:=@List.append_nil
def IF:=@PyProof.Rows.slot_tuple_getitem
def IG:=@Nat.zero_le
def IH:=@List.length_take
def II:=@PyProof.Rows.wpS_bind
def IJ:=@List.getElem?_replicate
def IK:=@congrArg
def IL:=@decide_eq_false
def IM:=@List.not_mem_nil
def IP:=@List.nodup_iff_pairwise_ne
def IQ:=@List.filter_append
def IR:=@Array.getElem?_toList
def IS:=@List.nodup_cons
def IT:=@PySem.SeqAt.canLay_of_shaped
def IU:=@PySem.wpAny_newObj_type
def IV:=@List.take_of_length_le
def IW:=@of_decide_eq_false
def IX:=@PySem.mem_of_lookup
def IZ:=@List.replicate_succ
def Ja:=@PySem.wpAny_holding
def Jb:=@List.map_nil
def Jc:=@List.pairwise_iff_getElem
def Jd:=@List.mem_singleton
def Je:=@decide_eq_true
def Jf:=@PySem.W.kia_one
def Jg:=@List.length_set
def Jh:=@List.nil_append
def Ji:=@if_false
def Jj:=@List.length_replicate
def Jk:=@List.getElem?_eq_none
def Jl:=@Nat.lt_irrefl
def Jm:=@Nat.le_of_lt
def Jn:=@PySem.W.mg_none_of
def Jo:=@PyProof.Rows.wpS_pure
def Jp:=@PySem.wpAny_mono
def Jq:=@Int.toNat_natCast
def Jr:=@List.nodup_append
def Js:=@if_true
def Jt:=@List.length_eq_zero_iff
def Ju:=@PySem.F.plainAttrs_list
def Jv:=@List.cons_append
def Jw:=@List.pairwise_map
def Jx:=@Array.length_toList
def Jy:=@List.mem_map_of_mem
def Jz:=@List.filter_sublist
def JA:=@List.drop_eq_getElem_cons
def JB:=@PySem.F.slot_list_append
def JC:=@PySem.F.type_list_append
def JD:=@decide_eq_decide
def JE:=@decide_eq_true_eq
def JF:=@PyProof.Rows.callWith_type1
def JG:=@List.length_nil
def JH:=@PySem.Heap.SameBut.update
def JI:=@List.lookup_cons
def JJ:=@PySem.F.slot_tuple_iterator_next
def JK:=@List.mapM_cons
def JL:=@List.length_filter_le
def JM:=@List.getElem?_zip_eq_some
def JN:=@or_false
def JO:=@List.flatten_cons
def JP:=@Nat.lt_succ_of_lt
def JQ:=@PySem.wpAny_callSpecial?_slot
def JR:=@PySem.wpAny_call_entry
def JS:=@Bool.and_eq_true
def JT:=@PySem.wpAny_field
def JU:=@Nat.lt_of_le_of_lt
def JV:=@List.getElem_range
def JW:=@Bool.eq_iff_iff
def JX:=@List.filter_nil
def JY:=@List.mem_iff_getElem?
def JZ:=@PySem.Heap.get?_push_ne
def Ka:=@List.mem_of_mem_take
def Kb:=@Nat.le_succ
def Kc:=@Nat.lt_succ_self
def Kd:=@List.filterMap_cons
def Ke:=@List.take_succ_cons
def Kf:=@List.getElem?_range
def Kg:=@List.getElem?_cons_succ
def Kh:=@List.filter_cons_of_pos
def Ki:=@PyProof.Rows.listUpdate_at
def Kj:=@PySem.call_meets
def Kk:=@List.find?_cons
def Kl:=@Option.map_some
def Km:=@PySem.wpAny_pyIter_tuple
def Kn:=@PySem.PyData.shownAll_length
def Ko:=@List.range_succ_eq_map
def Kq:=@PySem.wpAny_truthy_bool
def Kr:=@List.take_add_one
def Ks:=@List.sizeOf_lt_of_mem
def Kt:=@Classical.choose_spec
def Ku:=@PySem.Heap.size_update
def Kv:=@PySem.F.slot_tuple_mul
def Kw:=@List.drop_length
def Kx:=@List.take_length
def Ky:=@List.getElem_mem
def Kz:=@beq_eq_false_iff_ne
def KA:=@Nat.succ_eq_add_one
def KB:=@PySem.wpAny_passesOwn
def KC:=@PyProof.Rows.get?_update_seq
def KD:=@List.range_succ
def KE:=@List.mem_filterMap
def KF:=@Option.isSome_iff_exists
def KG:=@PySem.F.args_tuple_add_2
def KH:=@Option.isSome_some
def KI:=@Int.lt_or_eq_of_le
def KJ:=@PyProof.Rows.wpS_forRange
def KL:=@PySem.F.slot_str_getitem
def KM:=@PySem.AutoSeq1.sub_tuple_tuple
def KN:=@List.getElem?_take
def KO:=@List.idxOf_lt_length_iff
def KP:=@List.map_replicate
def KQ:=@PySem.wpAny_rule
def KR:=@Bool.and_false
def KS:=@PySem.boot_len
def KU:=@PySem.F.entry_tuple_add
def KW:=@PySem.AutoSeq1.sub_tuple_list
def KY:=@PySem.AutoSeq1.sub_list_tuple
def KZ:=@List.filter_cons_of_neg
def La:=@List.reverse_cons
def Lc:=@List.append_assoc
def Ld:=@List.ext_getElem?
def Le:=@PySem.F.args_tuple_iterator_next_1
def Lf:=@List.filter_congr
def Lg:=@List.foldl_append
def Lh:=@PySem.F.slot_tuple_add
def Li:=@decide_true
def Lj:=@PySem.AutoSeq1.sub_list_list
def Lk:=@PySem.F.entry_tuple_iterator_next
def Ll:=@PySem.F.slot_list_iadd
def Lm:=@PySem.wpAny_standAt
def Ln:=@PySem.W.mg_of
def Lo:=@List.all_eq_true
def Lp:=@PyProof.Rows.IsTup.new
def Lq:=@List.mem_append_left
def Lr:=@PySem.wpAny_typeOf
def Ls:=@PySem.typeIs_str
def Lu:=@PySem.F.slot_int_rmul
def Lv:=@PySem.wpAny_newFunctionEnv
def Lw:=@decide_false
def Ly:=@PyProof.Rows.pairsOf_size
def Lz:=@PySem.wpAny_ite_false
def LA:=@Nat.not_lt_zero
def LC:=@List.length_reverse
def LD:=@List.length_pos_iff
def LF:=@List.getD_cons_succ
def LG:=@Bool.false_and
def LH:=@PySem.Heap.size_push
def LI:=@Array.size_map
def LJ:=@PySem.wpAny_Call_Name_kw
def LK:=@PySem.Heap.IsSliceOf.new
def LL:=@List.getElem?_drop
def LN:=@PySem.F.args_tuple_mul_2
def LO:=@List.getElem_idxOf
def LQ:=@PySem.Paired.length
def LR:=@List.any_cons
def LS:=@Bool.not_true
def LU:=@PySem.wpAny_newList
def LV:=@PySem.StrLaws.reprText_len
def LX:=@PySem.W.kitx_list
def LY:=@bne_self_eq_false
def LZ:=@List.getElem?_set
def Ma:=@Nat.ne_of_gt
def Mb:=@List.length_drop
def Mc:=@Option.getD_none
def Md:=@Nat.sub_zero
def Me:=@List.getElem_map
def Mf:=@Nat.min_eq_right
def Mg:=@List.ext_getElem
def Mh:=@List.filter_cons
def Mi:=@List.of_mem_zip
def Mj:=@Nat.min_eq_left
def Ml:=@List.sum_append
def Mm:=@Int.le_refl
theorem bS9 {α:Type _}{β:Type _}{x:Option α}{f:α->Option β}{b:β}(h:x.bind f=some b):∃a,x=some a/\f a=some b:=Option.bind_eq_some_iff.mp h
set_option Elab.async false
set_option linter.all false
set_option maxRecDepth 100000
namespace L2
open PySem PySem.Spec PyProof.Rows
section
abbrev Key:=Sum Int Str
def iW:Key->Value->Bool
 | .inl k,v=>Value.isInt k v
 | .inr x,v=>Value.isStrOf x v
def Do (w:World):Key->Int
 | .inl k=>hashInt k
 | .inr x=>hashStr w x
theorem z8:∀{k:Key} {v:Value},iW k v=true->(∃i t,k=Sum.inl i/\v=Value.int i t)\/(∃x t,k=Sum.inr x/\v=Value.str x t)
 | .inl i,v,h=>by
  obtain⟨t,e⟩:=Value.isInt_shape (k:=i) (v:=v) h
  exact .inl ⟨i,t,rfl,e⟩
 | .inr x,v,h=>by
  obtain⟨t,e⟩:=Value.isStrOf_shape (x:=x) (v:=v) h
  exact .inr ⟨x,t,rfl,e⟩
theorem qG (i:Int)(t:Tok):iW (.inl i) (.int i t)=true:=by simp[iW,Value.isInt]
theorem rY (x:Str)(t:Tok):iW (.inr x) (.str x t)=true:=by simp[iW,Value.isStrOf]
theorem Ax (a b:Int):decide ((Sum.inl a:Key)=Sum.inl b)=(a == b):=by
 by_cases e:a=b
 .subst e;simp
 .have h:¬(Sum.inl a:Key)=Sum.inl b:=λq=>e (Sum.inl.inj q)
  rw[IL h]
  exact(Kz.mpr e).symm
theorem zk (a b:Str):decide ((Sum.inr a:Key)=Sum.inr b)=decide (a=b):=by
 by_cases e:a=b
 .subst e;simp
 .have h:¬(Sum.inr a:Key)=Sum.inr b:=λq=>e (Sum.inr.inj q)
  rw[IL h,IL e]
theorem zW (a:Int)(b:Str):decide ((Sum.inl a:Key)=Sum.inr b)=false:=IL (λq=>nomatch q)
theorem zN (a:Str)(b:Int):decide ((Sum.inr a:Key)=Sum.inl b)=false:=IL (λq=>nomatch q)
def A8 (prog:Program)(w:World):PySem.KeyKind prog w Key where
 is:=iW
 hash:=Do w
 inj:=λv a b ha hb=>by
  rcases z8 ha with ⟨i,t,rfl,rfl⟩ | ⟨x,t,rfl,rfl⟩
  .rcases z8 hb with ⟨j,u,rfl,e⟩ | ⟨y,u,rfl,e⟩
   .injection e with e1 _;rw[e1]
   .exact nomatch e
  .rcases z8 hb with ⟨j,u,rfl,e⟩ | ⟨y,u,rfl,e⟩
   .exact nomatch e
   .injection e with e1 _;rw[e1]
 byValue:=λk v h=>by
  rcases z8 h with ⟨i,t,rfl,rfl⟩ | ⟨x,t,rfl,rfl⟩ <;> rfl
 pyHash:=λhv h=>by
  rcases z8 hv with ⟨i,t,rfl,rfl⟩ | ⟨x,t,rfl,rfl⟩
  .exact wpAny_pyHash_int h
  .exact wpAny_pyHash_str h
 eqBool:=λhu hv h=>by
  rcases z8 hu with ⟨i,t,rfl,rfl⟩ | ⟨x,t,rfl,rfl⟩
  .rcases z8 hv with ⟨j,u,rfl,rfl⟩ | ⟨y,u,rfl,rfl⟩
   .rw[Ax]at h;exact wpAny_eqBool_int h
   .rw[zW]at h;exact SeqAt.EqAt.int_str i t y u _ _ _ _ h
  .rcases z8 hv with ⟨j,u,rfl,rfl⟩ | ⟨y,u,rfl,rfl⟩
   .rw[zN]at h;exact SeqAt.EqAt.str_int x t j u _ _ _ _ h
   .rw[zk]at h;exact wpAny_eqBool_str h
 «strs»:=λk x t v h=>by
  rcases z8 h with ⟨i,u,rfl,e⟩ | ⟨y,u,rfl,e⟩
  .exact nomatch e
  .injection e with e1 _
   subst e1
   cases v <;> rfl
theorem kF (prog:Program)(w:World)(i:Int)(t:Tok):(A8 prog w).is (.inl i) (.int i t)=true:=qG i t
theorem mK (prog:Program)(w:World)(x:Str)(t:Tok):(A8 prog w).is (.inr x) (.str x t)=true:=rY x t
end
section
inductive V where
 | non | bl (b:Bool) | int (i:Int) | str (x:Str) | byt (b:Array UInt8) | flt (b:UInt64) | ref (a:Addr) | ty (n:String)
 deriving DecidableEq
def l6:V->Value->Prop
 | .non,u=>u=Value.none
 | .bl b,u=>u=Value.bool b
 | .int i,u=>∃t,u=Value.int i t
 | .str x,u=>∃t,u=Value.str x t
 | .byt b,u=>∃t,u=Value.bytes b t
 | .flt b,u=>∃t,u=Value.float b t
 | .ref a,u=>u=Value.ref a
 | .ty n,u=>u=Value.type n
abbrev i5:List V->List Value->Prop:=Paired l6
theorem i5.length {xs:List V}{us:List Value}(r:i5 xs us):xs.length=us.length:=LQ r
theorem i5.get:∀{xs:List V} {us:List Value} {i:Nat} {x:V},i5 xs us->xs[i]? = some x->∃u,us[i]? = some u/\l6 x u
 | _,_,_,_,.nil,e=>by simp at e
 | _,_,0,_,.cons r _,e=>by simp at e;subst e;exact⟨_,rfl,r⟩
 | _,_,i+1,x,.cons _ t,e=>by
  obtain⟨u,h1,h2⟩:=i5.get (i:=i) (x:=x) t (by simpa using e)
  exact⟨u,by simpa using h1,h2⟩
theorem i5.set {x:V}{u:Value}(r:l6 x u):∀{xs:List V} {us:List Value} (i:Nat),i5 xs us->i5 (xs.set i x) (us.set i u)
 | _,_,_,.nil=>.nil
 | _,_,0,.cons _ t=>.cons r t
 | _,_,i+1,.cons q t=>.cons q (i5.set r i t)
theorem i5.append:∀{xs ys:List V} {us ws:List Value},i5 xs us->i5 ys ws->i5 (xs++ys) (us++ws)
 | _,_,_,_,.nil,s=>s
 | _,_,_,_,.cons r t,s=>.cons r (i5.append t s)
theorem i5.take:∀{xs:List V} {us:List Value} (n:Nat),i5 xs us->i5 (xs.take n) (us.take n)
 | _,_,0,_=>.nil
 | _,_,_+1,.nil=>.nil
 | _,_,n+1,.cons r t=>.cons r (i5.take n t)
theorem i5.drop:∀{xs:List V} {us:List Value} (n:Nat),i5 xs us->i5 (xs.drop n) (us.drop n)
 | _,_,0,r=>r
 | _,_,_+1,.nil=>.nil
 | _,_,n+1,.cons _ t=>i5.drop n t
theorem i5.none_of:∀{xs:List V} {us:List Value} {i:Nat},i5 xs us->xs[i]? = none->us[i]? = none:=λ{xs us i} r e=>by
 have h1:=r.length
 have h2:xs.length<=i:=List.getElem?_eq_none_iff.mp e
 exact List.getElem?_eq_none_iff.mpr (by omega)
def fK:Option V->Option Value->Prop
 | some v,some u=>l6 v u
 | none,none=>True
 | _,_=>False
def KV {κ:Type}:List (κ×V)->List (κ×Value)->Prop:=Paired λ(p:κ×V) (q:κ×Value)=>p.1=q.1/\l6 p.2 q.2
def kV:Key->V
 | .inl i=>.int i
 | .inr x=>.str x
inductive HO where
 /-- a list -/
 | lst (xs:List V)
 /-- a tuple (never changes) -/
 | tup (xs:List V)
 /-- a dict whose keys are ints and texts;one whose keys are tuples of ints and texts (the empty one is both) -/
 | dK (kvs:List (Key×V)) | dT (kvs:List (List Key×V))
 /-- a set of ints: its members,its size -/
 | set (S:Int->Bool) (n:Nat)
 /-- an instance of the class at C,its dict at dx,its attributes -/
 | ins (C dx:Addr) (fs:List (Str×V))
 /-- the dict of the instance at x -/
 | own (x:Addr)
 /-- the dict of an exception -/
 | xd (fs:List (Str×V))
 /-- a bound method,f of x -/
 | met (f x:Addr)
 /-- a range object lo,lo+1,.. below hi -/
 | rng (lo hi:Int)
 /-- a thing that is known to the object (the script;a dict while a loop walks it): read,never written while it is so -/
 | frz (o:Obj) (u:HO)
 /-- a code object's table -/
 | tbl (ps:Array Value)
 /-- any other thing,by what is true of its one object (a def of one's own: SetO a S n:=HO.ext λh=>..) -/
 | ext (φ:Heap->Prop)
abbrev Hp:=Addr->Option HO
def upd (H:Hp)(a:Addr)(o:HO):Hp:=λb=>if b=a then some o else H b
theorem b8 {H:Hp}{a:Addr}{o:HO}:upd H a o a=some o:=by unfold upd;rw[HH rfl]
theorem a8 {H:Hp}{a b:Addr}{o:HO}(h:b≠a):upd H a o b=H b:=by unfold upd;rw[HM h]
theorem BL {H:Hp}{a b:Addr}{o u:HO}(h:H a=some o)(h':H b=some u)(d:o≠u):a≠b:=by
 intro e;subst e;rw[h]at h';exact d (HN h')
theorem d6 {H:Hp}{a b:Addr}{o:HO}(h:H a=some o)(h':H b=none):a≠b:=by
 intro e;subst e;rw[h]at h';cases h'
section
variable (P:Program)(w:World)
def A7 (H:Hp)(h:Heap)(a:Addr):HO->Prop
 | .lst xs=>xs.length<=sizeLine/\∃(its:List Value) (n:Nat),i5 xs its/\h.get? a=some { cls:=.type "list",data:=.seq its.toArray n }
 | .tup xs=>xs.length<=sizeLine/\∃its:List Value,i5 xs its/\IsTup h a its.toArray
 | .dK kvs=>kvs.length<=sizeLine/\(a == sysModules)=false/\∃vs,KV kvs vs/\h.DictOf (A8 P w) a vs
 | .dT kvs=>kvs.length<=sizeLine/\(a == sysModules)=false/\∃xs:List (List Key×Addr×Value),
   Paired (λ(p:List Key×V) (q:List Key×Addr×Value)=>p.1=q.1/\H q.2.1=some (.tup (p.1.map kV))/\l6 p.2 q.2.2) kvs xs /\
   ∃o es ep,h.get? a=some o/\o.ExactDict/\o.data = .dict es ep/\es.toList=xs.map (entryOfKey (tupleKind (A8 P w)))/\(xs.map (·.1)).Nodup
 | .set S n=>h.SetOf (intKind P w) a S n
 | .ins C dx fs=>H dx=some (.own a)/\fs.length<=1000/\dx≠a/\h.get? a=some (PySem.W.instObj C dx) /\
   ∃mA,h.Ns1 dx mA/\(∀f,fK (fs.lookup f) (mA f))/\PySem.Within mA (fs.map (·.1))
 | .own _=>∃o,h.get? a=some o
 | .xd fs=>∃mA,h.Ns1 a mA/\∀f,fK (fs.lookup f) (mA f)
 | .rng lo hi=>∃t u v,h.get? a=some { cls:=.type "range",data:=.fields #[.int lo t,.int hi u,.int 1 v] }
 | .frz o u=>h.get? a=some o/\A7 H h a u
 | .tbl ps=>h.get? a=some { cls:=.none,data:=.fields ps }
 | .met f x=>h.get? a=some (PySem.W.methodObj (.ref f) (.ref x))
 | .ext φ=>φ h/\(∃o,h.get? a=some o)/\∀h1 h2:Heap,φ h1->(∀o,h1.get? a=some o->h2.get? a=some o)->φ h2
def HOk (H:Hp)(h:Heap):Prop:=∀a o,H a=some o->A7 P w H h a o
end
section
variable {P:Program}{w:World}{H H':Hp}{h h':Heap}{a:Addr}{o:HO}
theorem A7.lt (x:A7 P w H h a o):a<h.objs.size:=by
 cases o with
 | lst xs=>obtain⟨_,_,_,_,e⟩:=x;exact HU e
 | tup xs=>obtain⟨_,_,_,p⟩:=x;exact p.lt
 | dK kvs=>obtain⟨_,_,_,_,o,_,_,e,_⟩:=x;exact HU e
 | dT kvs=>obtain⟨_,_,_,_,o,_,_,e,_⟩:=x;exact HU e
 | set S n=>obtain⟨o,_,_,_,e,_⟩:=x;exact HU e
 | ins C dx fs=>obtain⟨_,_,_,e,_⟩:=x;exact HU e
 | own y=>obtain⟨_,e⟩:=x;exact HU e
 | xd fs=>obtain⟨_,⟨_,_,_,e,_⟩,_⟩:=x;exact HU e
 | rng lo hi=>obtain⟨_,_,_,e⟩:=x;exact HU e
 | frz ob u=>obtain⟨e,_⟩:=x;exact HU e
 | tbl ps=>exact HU (show h.get? a=some _ from x)
 | met f y=>exact HU (show h.get? a=some _ from x)
 | ext φ=>obtain⟨_,⟨_,e⟩,_⟩:=x;exact HU e
theorem Paired.mapP {α β:Type}{F G:α->β->Prop}:∀{l₁:List α} {l₂:List β},Paired F l₁ l₂->(∀a b,F a b->G a b)->Paired G l₁ l₂
 | _,_,.nil,_=>.nil
 | _,_,.cons r t,f=>.cons (f _ _ r) (Paired.mapP t f)
theorem A7.stay (x:A7 P w H h a o)(k:∀b u,(b=a\/H b=some (.own a))->h.get? b=some u->h'.get? b=some u)
  (ho:∀b,H b=some (.own a)->H' b=some (.own a)) (ht:∀b xs,H b=some (.tup xs)->H' b=some (.tup xs)):A7 P w H' h' a o:=by
 induction o with
 | lst xs=>obtain⟨z,its,n,r,e⟩:=x;exact⟨z,its,n,r,k _ _ (.inl rfl) e⟩
 | tup xs=>obtain⟨z,its,r,ob,e,c⟩:=x;exact⟨z,its,r,ob,k _ _ (.inl rfl) e,c⟩
 | dK kvs=>obtain⟨z,y,vs,r,ob,es,ep,e,c⟩:=x;exact⟨z,y,vs,r,ob,es,ep,k _ _ (.inl rfl) e,c⟩
 | dT kvs =>
  obtain⟨z,y,xs,r,ob,es,ep,e,c⟩:=x
  exact⟨z,y,xs,Paired.mapP r λp q z=>⟨z.1,ht _ _ z.2.1,z.2.2⟩,ob,es,ep,k _ _ (.inl rfl) e,c⟩
 | set S n=>obtain⟨ob,es,ep,t,e,c⟩:=x;exact⟨ob,es,ep,t,k _ _ (.inl rfl) e,c⟩
 | ins C dx fs =>
  obtain⟨d,z,ne,e,mA,⟨od,es,ep,e2,c⟩,r⟩:=x
  exact⟨ho _ d,z,ne,k _ _ (.inl rfl) e,mA,⟨od,es,ep,k _ _ (.inr d) e2,c⟩,r⟩
 | own y=>obtain⟨ob,e⟩:=x;exact⟨ob,k _ _ (.inl rfl) e⟩
 | xd fs=>obtain⟨mA,⟨od,es,ep,e,c⟩,r⟩:=x;exact⟨mA,⟨od,es,ep,k _ _ (.inl rfl) e,c⟩,r⟩
 | rng lo hi=>obtain⟨t,u,v,e⟩:=x;exact⟨t,u,v,k _ _ (.inl rfl) e⟩
 | frz ob u ih=>obtain⟨e,q⟩:=x;exact⟨k _ _ (.inl rfl) e,ih q⟩
 | tbl ps =>
  have e:h.get? a=some { cls:=.none,data:=.fields ps }:=x
  show h'.get? a=some { cls:=.none,data:=.fields ps }
  exact k a _ (.inl rfl) e
 | met f y =>
  have e:h.get? a=some (PySem.W.methodObj (.ref f) (.ref y)):=x
  show h'.get? a=some (PySem.W.methodObj (.ref f) (.ref y))
  exact k a _ (.inl rfl) e
 | ext φ=>obtain⟨p,⟨o,e⟩,st⟩:=x;exact⟨st _ _ p λo q=>k _ _ (.inl rfl) q,⟨o,k _ _ (.inl rfl) e⟩,st⟩
theorem HOk.lt (x:HOk P w H h)(e:H a=some o):a<h.objs.size:=(x a o e).lt
theorem HOk.fresh (x:HOk P w H h)(e:h.objs.size<=a):H a=none:=by
 cases q:H a with
 | none=>rfl
 | some u=>exact absurd (Ie (x.lt q) e) (Jl _)
theorem HOk.kept (x:HOk P w H h)(k:∀b u,h.get? b=some u->h'.get? b=some u):HOk P w H h':=λa o e =>
 (x a o e).stay (λb u _ q=>k b u q) (λ_ q=>q) λ_ _ q=>q
theorem HOk.laid (x:HOk P w H h)(k:∀b u,h.get? b=some u->h'.get? b=some u)(hp:h.objs.size<=a)(new:A7 P w (upd H a o) h' a o):HOk P w (upd H a o) h':=λb u e=>by
 have hn:=x.fresh hp
 by_cases hb:b=a
 .subst hb;rw[b8]at e;cases e;exact new
 .rw[a8 hb]at e
  exact(x b u e).stay (λc v _ q=>k c v q) (λc q=>by rw[a8 (d6 q hn)];exact q) λc xs q=>by rw[a8 (d6 q hn)];exact q
end
def Rd (H:Hp)(a:Addr)(u:HO):Prop:=H a=some u\/∃o,H a=some (.frz o u)
theorem Rd.ok {P:Program}{w:World}{H:Hp}{h:Heap}{a:Addr}{u:HO}(r:Rd H a u)(x:HOk P w H h):A7 P w H h a u:=by
 rcases r with r | ⟨o,r⟩
 .exact x a u r
 .obtain⟨_,q⟩:=x a _ r
  exact q
def Mut:Option HO->Prop
 | some (.lst _)=>True
 | some (.dK _)=>True
 | some (.dT _)=>True
 | some (.set _ _)=>True
 | some (.ins _ _ _)=>True
 | some (.ext _)=>True
 | _=>False
section
variable {P:Program}{w:World}{H:Hp}{h h':Heap}{x e:Addr}{o':HO}
theorem HOk.write (ok:HOk P w H h)(mu:Mut (H x))(he:e=x\/H e=some (.own x))(k:∀b u,b≠e->h.get? b=some u->h'.get? b=some u)(heo:∃u,h'.get? e=some u)
  (new:A7 P w (upd H x o') h' x o'):HOk P w (upd H x o') h':=λb u q=>by
 have nown:∀c y,H c=some (.own y)->c≠x:=λc y r z=>by subst z;rw[r]at mu;exact mu
 have ntup:∀c xs,H c=some (.tup xs)->c≠x:=λc xs r z=>by subst z;rw[r]at mu;exact mu
 by_cases hb:b=x
 .subst hb;rw[b8]at q;cases q;exact new
 .rw[a8 hb]at q
  by_cases hbe:b=e
  .have q':H b=some (.own x):=by
    rcases he with z | z
    .exact absurd (hbe.trans z) hb
    .rw[hbe];exact z
   rw[q]at q';cases q'
   obtain⟨v,hv⟩:=heo
   exact⟨v,by rw[hbe];exact hv⟩
  .refine(ok b u q).stay (λc v hc r=>k c v ?_ r) (λc r=>by rw[a8 (nown c b r)];exact r) λc xs r=>by rw[a8 (ntup c xs r)];exact r
   rcases hc with rfl | hc
   .exact hbe
   .rintro rfl
    rcases he with z | z
    .exact nown c b hc z
    .rw[hc]at z;cases z;exact hb rfl
end
structure Un (fs ex:List Addr) (H H':Hp) (h h':Heap):Prop where
 keep:∀b o,h.get? b=some o->H b=none->b ∉ fs->b ∉ ex->h'.get? b=some o
 slot:∀b o,h.get? b=some o->H b=none->b∈fs->b ∉ ex->∃sl,h'.get? b=some { o with slots:=sl }
 free:∀b o,h.get? b=some o->H b=none->b ∉ ex->H' b=none
 there:∀b o,h.get? b=some o->b ∉ ex->∃o',h'.get? b=some o'
 tups:∀b xs,H b=some (.tup xs)->H' b=some (.tup xs)
 frzs:∀b o u,H b=some (.frz o u)->H' b=some (.frz o u)
 tbls:∀b ps,H b=some (.tbl ps)->∃more,H' b=some (.tbl (ps++more))
section
variable {fs fs' ex ex':List Addr}{H H1 H2:Hp}{h h1 h2 h':Heap}{a x e:Addr}{o:HO}
theorem Un.any (u:Un fs ex H H1 h h1){b:Addr}{ob:Obj}(q:h.get? b=some ob)(n:H b=none)(hx:b ∉ ex):∃sl,h1.get? b=some { ob with slots:=sl }:=by
 by_cases hb:b∈fs
 .exact u.slot b ob q n hb hx
 .exact⟨ob.slots,u.keep b ob q n hb hx⟩
theorem Un.kept (k:∀b u,h.get? b=some u->h'.get? b=some u):Un fs ex H H h h' :=
 ⟨λb ob q _ _ _=>k b ob q,λb ob q _ _ _=>⟨ob.slots,k b ob q⟩,λ_ _ _ n _=>n,λb ob q _=>⟨ob,k b ob q⟩,λ_ _ q=>q,λ_ _ _ q=>q,λ_ ps q=>⟨#[],by rw[q];simp⟩⟩
theorem Un.refl:Un fs ex H H h h:=Un.kept λ_ _ q=>q
theorem Un.laid (k:∀b u,h.get? b=some u->h'.get? b=some u)(hp:h.objs.size<=a)(hn:H a=none):Un fs ex H (upd H a o) h h' where
 keep:=λb u q _ _ _=>k b u q
 slot:=λb u q _ _ _=>⟨u.slots,k b u q⟩
 free:=λb u q n _=>by rw[a8 (Ic (Ie (HU q) hp))];exact n
 there:=λb u q _=>⟨u,k b u q⟩
 tups:=λb xs q=>by rw[a8 (d6 q hn)];exact q
 frzs:=λb u xs q=>by rw[a8 (d6 q hn)];exact q
 tbls:=λb ps q=>⟨#[],by rw[a8 (d6 q hn),q];simp⟩
theorem Un.write (mu:Mut (H x))(he:e=x\/H e=some (.own x))(k:∀b u,b≠e->h.get? b=some u->h'.get? b=some u)(heo:∃u,h'.get? e=some u):Un fs ex H (upd H x o) h h':=by
 have hx:∀b,H b=none->b≠x:=λb n z=>by subst z;rw[n]at mu;exact mu
 have hb:∀b,H b=none->b≠e:=λb n z=>by
  subst z
  rcases he with r | r
  .exact hx b n r
  .rw[n]at r;cases r
 have hm:∀b u,H b=some u->¬Mut (some u)->b≠x:=λb u q nm z=>by subst z;rw[q]at mu;exact nm mu
 refine⟨λb u q n _ _=>k b u (hb b n) q,λb u q n _ _=>⟨u.slots,k b u (hb b n) q⟩,λb u q n _=>by rw[a8 (hx b n)];exact n,λb u q _=>?_,
  λb xs q=>by rw[a8 (hm b _ q λz=>z)];exact q,λb u xs q=>by rw[a8 (hm b _ q λz=>z)];exact q,λb ps q=>⟨#[],by rw[a8 (hm b _ q λz=>z),q];simp⟩⟩
 by_cases hbe:b=e
 .subst hbe;exact heo
 .exact⟨u,k b u hbe q⟩
end
def trk (h:Heap)(H:Hp):List Addr:=(List.range h.objs.size).filter λa=>(H a).isSome
def gk (h:Heap)(H:Hp):Heap:=PySem.W.hideAll h (trk h H)
theorem sd (h:Heap)(H:Hp):(gk h H).objs.size=h.objs.size:=PySem.W.hideAll_size _ _
theorem uf {h:Heap}{H:Hp}{b:Addr}{o:Obj}(e:h.get? b=some o)(n:H b=none):(gk h H).get? b=some o :=
 PySem.W.hideAll_get _ e λhm=>by
  have q:(H b).isSome=true:=(Iu.mp hm).2
  rw[n]at q;simp at q
theorem wL {h:Heap}{H:Hp}{b:Addr}{o:Obj}(e:(gk h H).get? b=some o):h.get? b=some o/\H b=none:=by
 have e':h.get? b=some o:=PySem.W.of_hideAll (trk h H) e
 refine⟨e',?_⟩
 cases q:H b with
 | none=>rfl
 | some x =>
  have hm:b∈trk h H:=Iu.mpr ⟨Ir.mpr (HU e'),by simp[q]⟩
  have z:(gk h H).get? b=none:=PySem.W.hideAll_none (trk h H) hm
  rw[z]at e;cases e
end
section
structure Mod (K:Fg) (mg:Str->Option Value) (base:Heap):Prop where
 kin:K.In base
 glob:base.Ns mainGlobals mg
 blt:∃mb,base.Ns builtinsNs mb/\∀x:Str,x ≠ "__name__"->mb x=bootBuiltins x
 nolimit:base.NoLimit
/-- the context: a def's body (or a comprehension's block) running. base: fixed through the whole law;s₀,H₀: the entry;outer: the frames whose slots others may change (a def's callers);stack: all frames that run;
   ex: iterators that were made Q8 of the entry and are walked here (a comprehension's);fn: the names whose cells were made at the entry (a def: all;a comprehension's block: its own);calm: not within an except suite;pn: pins that every state bears;xe: what is wanted of an exception that leaves the code -/
structure Cx where
 prog:Program
 w:World
 K:Fg
 mg:Str->Option Value
 base:Heap
 A:Around
 N:List Str
 s₀:Shared
 H₀:Hp
 env:Env
 outer:List Env
 stack:List Env
 ex:List Addr
 fn:Str->Bool
 calm:Bool
 pn:List (Addr×Obj)
 xe:Value->Shared->Prop
def frs (l:List Env):List Addr:=l.filterMap (·.frame)
abbrev Cx.fs (X:Cx):List Addr:=frs X.outer
def Vis (sc:Scope)(x:Str):Prop:=sc.names.lookup x=some .local\/sc.names.lookup x=some .cell\/sc.names.lookup x=some .free
def Loc (sc:Scope)(x:Str):Prop:=sc.names.lookup x=some .local\/sc.names.lookup x=some .cell
def CY (env:Env)(h:Heap)(m:Str->Option Value)(x:Str)(u:Value):Prop :=
 (env.kindOf x=some .local/\m x=some u)\/((env.kindOf x=some .cell\/env.kindOf x=some .free)/\∃c,env.cells.lookup x=some c/\h.IsCell c (some u))
structure Cx.Ok (X:Cx):Prop where
 mod:Mod X.K X.mg X.base
 kind:X.env.scope.kind = .function
 glob:X.env.globals=mainGlobals
 blt:X.env.builtins=builtinsNs
 above:X.s₀.heap.objs.size<=X.env.locals
 inj:∀x y c,X.env.cells.lookup x=some c->X.env.cells.lookup y=some c->x=y
 has:∀x,(X.env.kindOf x=some .cell\/X.env.kindOf x=some .free)->∃c,X.env.cells.lookup x=some c
 cab:∀x c,X.fn x=true->X.env.cells.lookup x=some c->X.s₀.heap.objs.size<=c
 hd:X.calm=true->X.A.handled=none
 frames:X.A.frames=some X.stack
 stk:X.stack=X.outer\/(X.stack=X.env::X.outer/\X.env.frame=some X.env.locals)
 exf:∀b∈X.ex,b≠X.env.locals/\∀x c,X.env.cells.lookup x=some c->c≠b
 bs:∀b o,X.base.get? b=some o->X.s₀.heap.get? b=some o/\X.H₀ b=none
 bsz:X.base.objs.size<=X.s₀.heap.objs.size
 noex:∀b o,X.base.get? b=some o->b ∉ X.ex
 exfs:∀b∈X.ex,b ∉ X.fs
 funs:X.s₀.heap.FunFrames X.base X.outer
 frf:∀b∈X.fs,X.H₀ b=none
structure Inv (X:Cx) (pins:List (Addr×Obj)) (σ:List (Option V)) (H:Hp) (s:Shared):Prop where
 ok:X.Ok
 os:s.os=X.s₀.os
 bare:AllBare s.gens
 base:Un X.fs X.ex X.H₀ H X.s₀.heap s.heap
 loc:∃m,s.heap.Ns X.env.locals m/\∀(i:Nat) (x:Str) (v:V),X.N[i]? = some x->σ[i]? = some (some v)->Vis X.env.scope x->∃u,l6 v u/\CY X.env s.heap m x u
 cell:∀x c,X.env.cells.lookup x=some c->∃v,s.heap.IsCell c v
 free:H X.env.locals=none
 freeC:∀x c,X.env.cells.lookup x=some c->H c=none
 pin:∀p∈X.pn++pins,s.heap.get? p.1=some p.2/\H p.1=none/\p.1≠X.env.locals/\p.1 ∉ X.fs/\∀v,p.2.data ≠ .cell v
 hok:HOk X.prog X.w H s.heap
 len:σ.length=X.N.length
section
variable {X:Cx}{pins:List (Addr×Obj)}{σ:List (Option V)}{H H':Hp}{s:Shared}{h':Heap}
theorem Cx.Ok.nofr (ok:X.Ok){b:Addr}{o:Obj}(e:X.base.get? b=some o):b ∉ X.fs:=λhb=>by
 have:=(ok.funs.mem hb).1
 rw[e]at this;cases this
theorem Inv.bs (I:Inv X pins σ H s):∀b o,X.base.get? b=some o->s.heap.get? b=some o/\H b=none:=λb o e =>
 ⟨I.base.keep b o (I.ok.bs b o e).1 (I.ok.bs b o e).2 (I.ok.nofr e) (I.ok.noex b o e),I.base.free b o (I.ok.bs b o e).1 (I.ok.bs b o e).2 (I.ok.noex b o e)⟩
theorem Inv.bk (I:Inv X pins σ H s):∀b o,X.base.get? b=some o->s.heap.get? b=some o:=λb o e=>(I.bs b o e).1
theorem Inv.mod (I:Inv X pins σ H s):Mod X.K X.mg X.base:=I.ok.mod
theorem Inv.kIn (I:Inv X pins σ H s):X.K.In s.heap:=I.ok.mod.kin.keeps I.bk
theorem Inv.nolimit (I:Inv X pins σ H s):s.heap.NoLimit:=I.ok.mod.nolimit.keeps I.bk
theorem Inv.lt (I:Inv X pins σ H s):X.env.locals<s.heap.objs.size:=let ⟨_,hn,_⟩:=I.loc;hn.lt
theorem Inv.sz (I:Inv X pins σ H s):X.s₀.heap.objs.size<=s.heap.objs.size:=Im I.ok.above (Jm I.lt)
theorem Inv.nofs (I:Inv X pins σ H s){a:Addr}(h:s.heap.objs.size<=a):a ∉ X.fs:=λhb=>by
 obtain⟨_,o,ho,_⟩:=I.ok.funs.mem hb
 exact absurd (Ie (HU ho) (Im I.sz h)) (Jl _)
theorem Inv.cne (I:Inv X pins σ H s):∀x c,X.env.cells.lookup x=some c->c≠X.env.locals:=λx c e z=>by
 obtain⟨v,o,ho,hd⟩:=I.cell x c e
 obtain⟨m,⟨o',es,ep,ho',hd',_⟩,_⟩:=I.loc
 rw[z,ho']at ho;cases ho;rw[hd']at hd;cases hd
theorem Inv.funs (I:Inv X pins σ H s):s.heap.FunFrames X.base X.outer:=by
 have all:∀(l:List Env),(∀b∈frs l,b∈X.fs)->X.s₀.heap.FunFrames X.base l->s.heap.FunFrames X.base l:=by
  intro l
  induction l with
  | nil=>intro _ _;trivial
  | cons env r ih =>
   intro hs hl
   obtain⟨hk,⟨L,o,hf,hn,ho,hd⟩,hr⟩:=hl
   have hL:L∈X.fs:=hs L (by unfold frs;rw[Kd,hf];exact HV)
   obtain⟨sl,e⟩:=I.base.slot L o ho (I.ok.frf L hL) hL λz=>I.ok.exfs L z hL
   exact⟨hk,⟨L,_,hf,hn,e,hd⟩,ih (λb hb=>hs b (by unfold frs;rw[Kd,hf];exact HA _ hb)) hr⟩
 exact all X.outer (λ_ hb=>hb) I.ok.funs
theorem Inv.stack (I:Inv X pins σ H s):s.heap.FunFrames X.base X.stack:=by
 rcases I.ok.stk with e | ⟨e,hf⟩
 .rw[e];exact I.funs
 .rw[e]
  obtain⟨m,hn,_⟩:=I.loc
  refine .cons (by rw[I.ok.kind];decide) hf hn ?_ I.funs
  exact Heap.get?_none_of_le (Im I.ok.bsz I.ok.above)
theorem Inv.stkSub (I:Inv X pins σ H s):∀b∈frs X.stack,b∈X.env.locals::X.fs:=λb hb=>by
 rcases I.ok.stk with e | ⟨e,hf⟩
 .rw[e]at hb;exact HA _ hb
 .rw[e]at hb
  unfold frs at hb
  rw[Kd,hf]at hb
  exact hb
theorem Inv.stkFree (I:Inv X pins σ H s):∀b∈frs X.stack,H b=none:=λb hb=>by
 rcases HB.mp (I.stkSub b hb) with e | hb
 .rw[e];exact I.free
 .obtain⟨_,o,ho,_⟩:=I.ok.funs.mem hb
  exact I.base.free b o ho (I.ok.frf b hb) λz=>I.ok.exfs b z hb
theorem Inv.step {g':Array GenState}{t':Nat}{d':Drawn}{ch:List Addr}(I:Inv X pins σ H s)
  (hch:∀b∈ch,(b∈X.ex\/X.s₀.heap.objs.size<=b)/\b≠X.env.locals/\(∀x c,X.env.cells.lookup x=some c->c≠b)/\∀p∈X.pn++pins,p.1≠b)
  (keep:∀b o,b≠X.env.locals->b ∉ X.fs->b ∉ ch->s.heap.get? b=some o->H b=none->h'.get? b=some o)
  (slot:∀b o,b≠X.env.locals->b∈X.fs->b ∉ ch->s.heap.get? b=some o->H b=none->∃sl,h'.get? b=some { o with slots:=sl }) (free:∀b o,b ∉ ch->s.heap.get? b=some o->H b=none->H' b=none)
  (there:∀b o,b ∉ ch->s.heap.get? b=some o->∃o',h'.get? b=some o')
  (tups:∀b xs,H b=some (.tup xs)->H' b=some (.tup xs)) (frzs:∀b o u,H b=some (.frz o u)->H' b=some (.frz o u)) (tbls:∀b ps,H b=some (.tbl ps)->∃more,H' b=some (.tbl (ps++more)))
  (ns:∀m,s.heap.Ns X.env.locals m->h'.Ns X.env.locals m) (hok:HOk X.prog X.w H' h') (hg:AllBare g') :
  Inv X pins σ H' { s with heap:=h',gens:=g',drawn:=d',toks:=t' }:=by
 have neL:∀b o,X.s₀.heap.get? b=some o->b≠X.env.locals:=λb o e=>Ic (Ie (HU e) I.ok.above)
 have neC:∀b o,X.s₀.heap.get? b=some o->b ∉ X.ex->b ∉ ch:=λb o e hx hb=>by
  rcases(hch b hb).1 with z | z
  .exact hx z
  .exact absurd (Ie (HU e) z) (Jl _)
 have cellK:∀x c,X.env.cells.lookup x=some c->∀v,s.heap.IsCell c v->h'.IsCell c v:=λx c e v ⟨o,ho,hd⟩=>by
  have nch:c ∉ ch:=λz=>(hch c z).2.2.1 x c e rfl
  by_cases hc:c∈X.fs
  .obtain⟨sl,q⟩:=slot c o (I.cne x c e) hc nch ho (I.freeC x c e)
   exact⟨_,q,hd⟩
  .exact⟨o,keep c o (I.cne x c e) hc nch ho (I.freeC x c e),hd⟩
 refine⟨I.ok,I.os,hg,⟨λb o e n hb hx=>?_,λb o e n hb hx=>?_,λb o e n hx=>?_,λb o e hx=>?_,λb xs e=>tups b xs (I.base.tups b xs e),λb o xs e=>frzs b o xs (I.base.frzs b o xs e),λb ps e=>?_⟩,?_,λx c e=>?_,?_,λx c e=>?_,λp hp=>?_,hok,I.len⟩
 .exact keep b o (neL b o e) hb (neC b o e hx) (I.base.keep b o e n hb hx) (I.base.free b o e n hx)
 .obtain⟨sl,e1⟩:=I.base.slot b o e n hb hx
  obtain⟨sl',e2⟩:=slot b _ (neL b o e) hb (neC b o e hx) e1 (I.base.free b o e n hx)
  exact⟨sl',e2⟩
 .obtain⟨o',e1⟩:=I.base.there b o e hx
  exact free b o' (neC b o e hx) e1 (I.base.free b o e n hx)
 .obtain⟨o',e1⟩:=I.base.there b o e hx
  exact there b o' (neC b o e hx) e1
 .obtain⟨m1,e1⟩:=I.base.tbls b ps e
  obtain⟨m2,e2⟩:=tbls b _ e1
  exact⟨m1++m2,by rw[e2,Array.append_assoc]⟩
 .obtain⟨m,hn,hl⟩:=I.loc
  refine⟨m,ns m hn,λi x v e1 e2 e3=>?_⟩
  obtain⟨u,r,l⟩:=hl i x v e1 e2 e3
  refine⟨u,r,?_⟩
  rcases l with l | ⟨k,c,e,z⟩
  .exact .inl l
  .exact .inr ⟨k,c,e,cellK x c e _ z⟩
 .obtain⟨v,z⟩:=I.cell x c e
  exact⟨v,cellK x c e v z⟩
 .obtain⟨m,⟨o,_,_,ho,_⟩,_⟩:=I.loc
  exact free _ o (λz=>(hch _ z).2.1 rfl) ho I.free
 .obtain⟨v,o,ho,hd⟩:=I.cell x c e
  exact free c o (λz=>(hch c z).2.2.1 x c e rfl) ho (I.freeC x c e)
 .obtain⟨e,n,ne,nf,d⟩:=I.pin p hp
  have nch:p.1 ∉ ch:=λz=>(hch p.1 z).2.2.2 p hp rfl
  exact⟨keep p.1 p.2 ne nf nch e n,free p.1 p.2 nch e n,ne,nf,d⟩
theorem Inv.un {t':Nat}(I:Inv X pins σ H s)(u:Un X.fs [] H H' s.heap h')(hok:HOk X.prog X.w H' h'):Inv X pins σ H' { s with heap:=h',toks:=t' }:=by
 obtain⟨m,⟨o,es,ep,ho,r⟩,_⟩:=id I.loc
 obtain⟨sl,hL⟩:=u.any ho I.free (by simp)
 exact I.step (g':=s.gens) (d':=s.drawn) (ch:=[]) (λ_ z=>nomatch z) (λb o _ hb _ e n=>u.keep b o e n hb (by simp)) (λb o _ hb _ e n=>u.slot b o e n hb (by simp)) (λb o _ e n=>u.free b o e n (by simp)) (λb o _ e=>u.there b o e (by simp)) u.tups u.frzs u.tbls (λm' hm=>by
  obtain⟨o',es',ep',ho',r'⟩:=hm
  rw[ho]at ho';cases ho'
  exact⟨_,es',ep',hL,r'⟩) hok I.bare
theorem Inv.call {g':Array GenState}{t':Nat}{d':Drawn}{ch:List Addr}(I:Inv X pins σ H s)(u:Un (frs X.stack) ch H H' s.heap h')(hok:HOk X.prog X.w H' h')(hg:AllBare g')
  (hch:∀b∈ch,(b∈X.ex\/X.s₀.heap.objs.size<=b)/\b≠X.env.locals/\(∀x c,X.env.cells.lookup x=some c->c≠b)/\∀p∈X.pn++pins,p.1≠b) :
  Inv X pins σ H' { s with heap:=h',gens:=g',drawn:=d',toks:=t' }:=by
 obtain⟨m,⟨o,es,ep,ho,r⟩,_⟩:=id I.loc
 obtain⟨sl,hL⟩:=u.any ho I.free λz=>(hch _ z).2.1 rfl
 exact I.step (ch:=ch) hch (λb o hL hb hc e n=>u.keep b o e n (λz=>(HB.mp (I.stkSub b z)).elim hL hb) hc) (λb o _ _ hc e n=>u.any e n hc) (λb o hc e n=>u.free b o e n hc) (λb o hc e=>u.there b o e hc) u.tups u.frzs u.tbls (λm' hm=>by
  obtain⟨o',es',ep',ho',r'⟩:=hm
  rw[ho]at ho';cases ho'
  exact⟨_,es',ep',hL,r'⟩) hok hg
theorem Inv.turned {t':Nat}{it:Addr}(I:Inv X pins σ H s)(k:∀b o,b≠it->s.heap.get? b=some o->h'.get? b=some o)(hn:H it=none)(hL:it≠X.env.locals)
  (h1:it∈X.ex\/X.s₀.heap.objs.size<=it) (h2:∀x c,X.env.cells.lookup x=some c->c≠it) (h3:∀p∈X.pn++pins,p.1≠it):Inv X pins σ H { s with heap:=h',toks:=t' }:=by
 have nit:∀b u,H b=some u->b≠it:=λb u e z=>by rw[z,hn]at e;cases e
 refine I.step (g':=s.gens) (d':=s.drawn) (ch:=[it]) (λb hb=>?_) (λb o _ _ hc e _=>k b o (λz=>hc (by simp[z])) e) (λb o _ _ hc e _=>⟨o.slots,k b o (λz=>hc (by simp[z])) e⟩) (λ_ _ _ _ n=>n)
  (λb o hc e=>⟨o,k b o (λz=>hc (by simp[z])) e⟩) (λ_ _ e=>e) (λ_ _ _ e=>e) (λb ps e=>⟨#[],by rw[e];simp⟩) (λm hm=>?_) (λb u e=>?_) I.bare
 .have e:b=it:=by simpa using hb
  subst e
  exact⟨h1,hL,h2,h3⟩
 .obtain⟨o,es,ep,ho,r⟩:=hm
  exact⟨o,es,ep,k _ o (Iz hL) ho,r⟩
 .refine(I.hok b u e).stay (λc v hc q=>k c v ?_ q) (λ_ q=>q) λ_ _ q=>q
  rcases hc with z | z
  .rw[z];exact nit b u e
  .exact nit c _ z
theorem Inv.tok (I:Inv X pins σ H s)(t:Nat):Inv X pins σ H { s with toks:=t }:=I.un (h':=s.heap) (t':=t) Un.refl I.hok
theorem Inv.kept {t':Nat}(I:Inv X pins σ H s)(k:∀b u,s.heap.get? b=some u->h'.get? b=some u):Inv X pins σ H { s with heap:=h',toks:=t' }:=I.un (Un.kept k) (I.hok.kept k)
theorem Inv.laid {a:Addr}{o:HO}{t':Nat}(I:Inv X pins σ H s)(k:∀b u,s.heap.get? b=some u->h'.get? b=some u)(hp:s.heap.objs.size<=a)(new:A7 X.prog X.w (upd H a o) h' a o) :
  Inv X pins σ (upd H a o) { s with heap:=h',toks:=t' }:=I.un (Un.laid k hp (I.hok.fresh hp)) (I.hok.laid k hp new)
theorem Inv.write {x e:Addr}{o:HO}{t':Nat}(I:Inv X pins σ H s)(mu:Mut (H x))(he:e=x\/H e=some (.own x))(k:∀b u,b≠e->s.heap.get? b=some u->h'.get? b=some u)(heo:∃u,h'.get? e=some u)
  (new:A7 X.prog X.w (upd H x o) h' x o):Inv X pins σ (upd H x o) { s with heap:=h',toks:=t' }:=I.un (Un.write mu he k heo) (I.hok.write mu he k heo new)
theorem Inv.pins_of {pins':List (Addr×Obj)}(I:Inv X pins σ H s)(h:∀p∈pins',s.heap.get? p.1=some p.2/\H p.1=none/\p.1≠X.env.locals/\p.1 ∉ X.fs/\∀v,p.2.data ≠ .cell v):Inv X pins' σ H s :=
 ⟨I.ok,I.os,I.bare,I.base,I.loc,I.cell,I.free,I.freeC,λp hp=>(HC.mp hp).elim (λz=>I.pin p (Lq _ z)) (h p),I.hok,I.len⟩
theorem kO {N:List Str}(hN:N.Nodup){i j:Nat}{x:Str}(a:N[i]? = some x)(b:N[j]? = some x):i=j:=by
 obtain⟨h1,e1⟩:=HG.mp a
 obtain⟨h2,e2⟩:=HG.mp b
 exact(List.getElem_inj hN).mp (e1.trans e2.symm)
theorem sA {M:Model}{A:Around}{E:Value->Shared->Prop}{i:Nat}{x:Str}{v:V}{u:Value}{Q:Unit->Shared->Prop}(I:Inv X pins σ H s)(hN:X.N.Nodup)(hi:X.N[i]? = some x)(hx:Loc X.env.scope x)(r:l6 v u)
  (h:∀s',Inv X pins (σ.set i (some v)) H s'->(∃a,Heap.SameBut a s.heap s'.heap/\(a=X.env.locals\/X.env.cells.lookup x=some a))->Q () s') (hf:X.fn x=true\/X.env.scope.names.lookup x=some .local:=by first | exact .inl rfl | exact .inr rfl | assumption):wpAny M A (storeName X.env x u) Q E s:=by
 obtain⟨m,hn,hl⟩:=id I.loc
 have hcls:(X.env.scope.kind == .class||(X.env.scope.kind == .module&&X.env.locals != X.env.globals))=false:=by rw[I.ok.kind];rfl
 have hiσ:i < σ.length:=by rw[I.len];exact(HG.mp hi).1
 have cne:=I.cne
 have tracked:∀{a:Addr} {h':Heap},(∃o,s.heap.get? a=some o/\H a=none)->Heap.SameBut a s.heap h'->HOk X.prog X.w H h':=λ{a h'} ha hs b ob e=>by
  obtain⟨_,_,hfree⟩:=ha
  refine(I.hok b ob e).stay (λc w' hc q=>(hs.2 c ?_).trans q) (λ_ q=>q) λ_ _ q=>q
  rintro rfl
  rcases hc with rfl | hc
  .rw[hfree]at e;cases e
  .rw[hfree]at hc;cases hc
 rcases hx with hk | hk
 .refine wpAny_storeName_local hk hn (λh' hn' hs=>?_) hcls
  obtain⟨oL,_,_,hoL,_⟩:=id hn
  refine h _ ⟨I.ok,I.os,I.bare,⟨λb o e n hb hx=>?_,λb o e n hb hx=>?_,I.base.free,λb o e hx=>?_,I.base.tups,I.base.frzs,I.base.tbls⟩,⟨_,hn',λj y v' e1 e2 e3=>?_⟩,λy c e=>?_,I.free,I.freeC,λp hp=>?_,tracked ⟨oL,hoL,I.free⟩ hs,by simpa using I.len⟩ ⟨_,hs,.inl rfl⟩
  .exact(hs.2 b (Ic (Ie (HU e) I.ok.above))).trans (I.base.keep b o e n hb hx)
  .obtain⟨sl,e1⟩:=I.base.slot b o e n hb hx
   exact⟨sl,(hs.2 b (Ic (Ie (HU e) I.ok.above))).trans e1⟩
  .obtain⟨o',e1⟩:=I.base.there b o e hx
   exact⟨o',(hs.2 b (Ic (Ie (HU e) I.ok.above))).trans e1⟩
  .by_cases hj:j=i
   .subst hj
    rw[hi]at e1;cases e1
    rw[HR hiσ]at e2
    cases e2
    exact⟨u,r,.inl ⟨hk,by simp⟩⟩
   .rw[HL (Iz hj)]at e2
    obtain⟨u',r',q⟩:=hl j y v' e1 e2 e3
    refine⟨u',r',?_⟩
    rcases q with ⟨k,e⟩ | ⟨k,c,e,z⟩
    .refine .inl ⟨k,?_⟩
     have:y≠x:=λe=>hj (kO hN e1 (e▸hi))
     simp[this,e]
    .exact .inr ⟨k,c,e,z.sameBut hs (cne y c e)⟩
  .obtain⟨w',z⟩:=I.cell y c e
   exact⟨w',z.sameBut hs (cne y c e)⟩
  .obtain⟨e,n,ne,nf,d⟩:=I.pin p hp
   exact⟨(hs.2 p.1 ne).trans e,n,ne,nf,d⟩
 .have hfn:X.fn x=true:=by
   rcases hf with z | z
   .exact z
   .rw[z]at hk;cases hk
  obtain⟨c,hc⟩:=I.ok.has x (.inl hk)
  obtain⟨w',z⟩:=I.cell x c hc
  refine wpAny_storeName_cell I.ok.kind hk hc z (λh' hc' hs=>?_)
  obtain⟨oc,hoc,hocd⟩:=id z
  refine h { s with heap:=h' } ⟨I.ok,I.os,I.bare,⟨λb o e n hb hx=>?_,λb o e n hb hx=>?_,I.base.free,λb o e hx=>?_,I.base.tups,I.base.frzs,I.base.tbls⟩,⟨m,hn.sameBut hs (Iz (cne x c hc)),λj y v' e1 e2 e3=>?_⟩,λy c' e=>?_,I.free,I.freeC,λp hp=>?_,tracked ⟨oc,hoc,I.freeC x c hc⟩ hs,by simpa using I.len⟩ ⟨c,hs,.inr hc⟩
  .exact(hs.2 b (Ic (Ie (HU e) (I.ok.cab x c hfn hc)))).trans (I.base.keep b o e n hb hx)
  .obtain⟨sl,e1⟩:=I.base.slot b o e n hb hx
   exact⟨sl,(hs.2 b (Ic (Ie (HU e) (I.ok.cab x c hfn hc)))).trans e1⟩
  .obtain⟨o',e1⟩:=I.base.there b o e hx
   exact⟨o',(hs.2 b (Ic (Ie (HU e) (I.ok.cab x c hfn hc)))).trans e1⟩
  .by_cases hj:j=i
   .subst hj
    rw[hi]at e1;cases e1
    rw[HR hiσ]at e2
    cases e2
    exact⟨u,r,.inr ⟨.inl hk,c,hc,hc'⟩⟩
   .rw[HL (Iz hj)]at e2
    obtain⟨u',r',q⟩:=hl j y v' e1 e2 e3
    refine⟨u',r',?_⟩
    rcases q with q | ⟨k,c',e,z'⟩
    .exact .inl q
    .refine .inr ⟨k,c',e,z'.sameBut hs ?_⟩
     rintro rfl
     exact hj (kO hN e1 (I.ok.inj _ _ _ e hc▸hi))
  .by_cases hcc:c'=c
   .subst hcc;exact⟨_,hc'⟩
   .obtain⟨w2,z2⟩:=I.cell y c' e
    exact⟨w2,z2.sameBut hs hcc⟩
  .obtain⟨e,n,ne,nf,d⟩:=I.pin p hp
   refine⟨(hs.2 p.1 ?_).trans e,n,ne,nf,d⟩
   intro q
   rw[q,hoc]at e
   have q':oc=p.2:=HN e
   exact d w' (by rw[<-q'];exact hocd)
theorem T8 {M:Model}{A:Around}{E:Value->Shared->Prop}{i:Nat}{x:Str}{v:V}{u:Value}{Q:Unit->Shared->Prop}(I:Inv X pins σ H s)(hN:X.N.Nodup)(hi:X.N[i]? = some x)(hx:Loc X.env.scope x)(r:l6 v u)
  (h:∀s',Inv X pins (σ.set i (some v)) H s'->Q () s') (hf:X.fn x=true\/X.env.scope.names.lookup x=some .local:=by first | exact .inl rfl | exact .inr rfl | assumption):wpAny M A (storeName X.env x u) Q E s :=
 sA I hN hi hx r (λs' I' _=>h s' I') hf
theorem Inv.call' {s':Shared}{ch:List Addr}(I:Inv X pins σ H s)(ho:s'.os=s.os)(u:Un (frs X.stack) ch H H' s.heap s'.heap)(hok:HOk X.prog X.w H' s'.heap)(hg:AllBare s'.gens)
  (hch:∀b∈ch,(b∈X.ex\/X.s₀.heap.objs.size<=b)/\b≠X.env.locals/\(∀x c,X.env.cells.lookup x=some c->c≠b)/\∀p∈X.pn++pins,p.1≠b):Inv X pins σ H' s':=by
 obtain⟨h',g',d',t',o'⟩:=s'
 have e:o'=s.os:=ho
 subst e
 exact I.call (g':=g') (t':=t') (d':=d') u hok hg hch
end
abbrev XK:=Value->Option Addr->Hp->Prop
abbrev St:=List (Option V)
abbrev VK:=V->Hp->Prop
abbrev TE:=St->Hp->VK->Prop
abbrev TT:=St->Hp->(Bool->Hp->Prop)->Prop
abbrev TA:=St->Hp->(List V->Hp->Prop)->Prop
structure Ends where
 nx:St->Hp->Prop
 rt:VK
 bk:St->Hp->Prop:=λ_ _=>False
 ct:St->Hp->Prop:=λ_ _=>False
abbrev TS:=Ends->St->Hp->Prop
def EP (X:Cx)(pins:List (Addr×Obj))(σ:St)(Q:VK)(u:Value)(s':Shared):Prop:=∃v H',Inv X pins σ H' s'/\l6 v u/\Q v H'
def TP (X:Cx)(pins:List (Addr×Obj))(σ:St)(Q:Bool->Hp->Prop)(b:Bool)(s':Shared):Prop:=∃H',Inv X pins σ H' s'/\Q b H'
def AP (X:Cx)(pins:List (Addr×Obj))(σ:St)(Q:List V->Hp->Prop)(us:List Value)(s':Shared):Prop:=∃vs H',Inv X pins σ H' s'/\i5 vs us/\Q vs H'
def SP (X:Cx)(pins:List (Addr×Obj))(D:Ends)(f:Flow)(s':Shared):Prop :=
 match f with
 | .next=>∃σ' H',Inv X pins σ' H' s'/\D.nx σ' H'
 | .brk=>∃σ' H',Inv X pins σ' H' s'/\D.bk σ' H'
 | .cont=>∃σ' H',Inv X pins σ' H' s'/\D.ct σ' H'
 | .ret u=>∃v σ' H',Inv X pins σ' H' s'/\l6 v u/\D.rt v H'
def PE (X:Cx)(e:Expr)(t:TE):Prop :=
 ∀(pins:List (Addr×Obj)) (s:Shared) (σ:St) (H:Hp) (Q:VK),Inv X pins σ H s->t σ H Q->wpAny (model X.prog X.w) X.A (eval e X.env) (EP X pins σ Q) X.xe s
def PT (X:Cx)(e:Expr)(t:TT):Prop :=
 ∀(pins:List (Addr×Obj)) (s:Shared) (σ:St) (H:Hp) (Q:Bool->Hp->Prop),Inv X pins σ H s->t σ H Q->wpAny (model X.prog X.w) X.A (isTrue e X.env (eval e X.env)) (TP X pins σ Q) X.xe s
def PW (X:Cx)(e:Expr)(t:TT):Prop :=
 ∀(whole:Sem Value) (pins:List (Addr×Obj)) (s:Shared) (σ:St) (H:Hp) (Q:Bool->Hp->Prop),Inv X pins σ H s->t σ H Q->wpAny (model X.prog X.w) X.A (isTrue e X.env whole) (TP X pins σ Q) X.xe s
theorem PW.pt {X:Cx}{e:Expr}{t:TT}(h:PW X e t):PT X e t:=h _
def PA (X:Cx)(es:List Expr)(t:TA):Prop :=
 ∀(pos:Pos) (pins:List (Addr×Obj)) (s:Shared) (σ:St) (H:Hp) (Q:List V->Hp->Prop),Inv X pins σ H s->t σ H Q->wpAny (model X.prog X.w) X.A (spliced (backTo pos (starEach es X.env))) (AP X pins σ Q) X.xe s
def PS (X:Cx)(st:Stmt)(t:TS):Prop :=
 ∀(pins:List (Addr×Obj)) (s:Shared) (σ:St) (H:Hp) (D:Ends),Inv X pins σ H s->t D σ H->wpAny (model X.prog X.w) X.A (exec st X.env) (SP X pins D) X.xe s
def PSs (X:Cx)(st:List Stmt)(t:TS):Prop :=
 ∀(pins:List (Addr×Obj)) (s:Shared) (σ:St) (H:Hp) (D:Ends),Inv X pins σ H s->t D σ H->wpAny (model X.prog X.w) X.A (execs st X.env) (SP X pins D) X.xe s
theorem thn {α:Type}{t:Sem α}{Q Q':α->Shared->Prop}{M:Model}{A:Around}{E:Value->Shared->Prop}{s:Shared}(h:wpAny M A t Q E s)(hQ:∀a s,Q a s->Q' a s):wpAny M A t Q' E s:=Jp h hQ λ_ _ x=>x
end
section
section
variable {X:Cx}
def l4 (i:Nat):TE:=λσ H Q=>∃v,σ[i]? = some (some v)/\Q v H
def tC (v:V):TE:=λ_ H Q=>Q v H
theorem C7 {i:Nat}{x:Str}{pos:Pos}(hN:X.N[i]? = some x)(hv:Vis X.env.scope x)(hd:(x == ("__debug__":Str))=false:=by decide)(hcd:(x == ("__classdict__":Str))=false:=by decide):PE X (.Name x pos) (l4 i):=by
 intro pins s σ H Q I h
 obtain⟨v,e,h⟩:=h
 obtain⟨m,hn,hl⟩:=I.loc
 obtain⟨u,r,l⟩:=hl i x v hN e hv
 have fin:EP X pins σ Q u s:=⟨v,H,I,r,h⟩
 rcases l with ⟨hk,hm⟩ | ⟨hk,c,hc,hcell⟩
 .exact wpAny_Name (wpAny_loadName_local I.ok.kind hk hn hm fin) hd
 .rcases hk with hk | hk
  .exact wpAny_Name (wpAny_loadName_cell I.ok.kind hk hc hcell fin) hd
  .exact wpAny_Name (wpAny_loadName_free I.ok.kind hk hc hcell fin hcd) hd
theorem f7 {i j pos}:PE X (.Constant (.int i) j pos) (tC (.int i)):=λ_ _ _ H _ I h=>wpAny_Constant_int ⟨.int i,H,I.tok _,⟨_,rfl⟩,h⟩
theorem Cc {b j pos}:PE X (.Constant (.bool b) j pos) (tC (.bl b)):=λ_ _ _ H _ I h=>Constant_bool ⟨.bl b,H,I,rfl,h⟩
theorem Am {j pos}:PE X (.Constant .none j pos) (tC .non):=λ_ _ _ H _ I h=>Constant_none ⟨.non,H,I,rfl,h⟩
theorem v5 {x j pos}:PE X (.Constant (.str x) j pos) (tC (.str x)):=λ_ _ _ H _ I h=>Calls.Constant_str ⟨.str x,H,I.tok _,⟨_,rfl⟩,h⟩
def Gl (X:Cx)(x:Str):Prop:=X.env.kindOf x=some .globalImplicit
theorem pP {E:Value->Shared->Prop}{pins:List (Addr×Obj)}{s:Shared}{σ:St}{H:Hp}{x:Str}{u:Value}{pos:Pos}{Q:Value->Shared->Prop}(I:Inv X pins σ H s)(hg:Gl X x)(hm:X.mg x=some u)(h:Q u s)
  (hd:(x == ("__debug__":Str))=false:=by decide):wpAny (model X.prog X.w) X.A (eval (.Name x pos) X.env) Q E s :=
 Calls.Name_function_global I.ok.kind hg (Calls.loadGlobal_global (by rw[I.ok.glob];exact I.mod.glob.keeps I.bk) hm h) hd
theorem Y1 {E:Value->Shared->Prop}{pins:List (Addr×Obj)}{s:Shared}{σ:St}{H:Hp}{x:Str}{u:Value}{pos:Pos}{Q:Value->Shared->Prop}(I:Inv X pins σ H s)(hg:Gl X x)(hm:X.mg x=none)(hv:bootBuiltins x=some u)(h:Q u s)
  (hn:x ≠ "__name__":=by decide) (hd:(x == ("__debug__":Str))=false:=by decide):wpAny (model X.prog X.w) X.A (eval (.Name x pos) X.env) Q E s:=by
 obtain⟨mb,h1,h2⟩:=I.mod.blt
 exact Calls.Name_function_global I.ok.kind hg (Calls.loadGlobal_builtin (by rw[I.ok.glob];exact I.mod.glob.keeps I.bk) hm (by rw[I.ok.blt];exact h1.keeps I.bk) ((h2 x hn).trans hv) h) hd
theorem xJ {x:Str}{v:V}{u:Value}{pos:Pos}(hg:Gl X x)(hm:X.mg x=some u)(r:l6 v u)(hd:(x == ("__debug__":Str))=false:=by decide):PE X (.Name x pos) (tC v) :=
 λ_ _ _ H _ I h=>pP I hg hm ⟨v,H,I,r,h⟩ hd
theorem wJ {x:Str}{v:V}{u:Value}{pos:Pos}(hg:Gl X x)(hm:X.mg x=none)(hv:bootBuiltins x=some u)(r:l6 v u)(hn:x ≠ "__name__":=by decide)(hd:(x == ("__debug__":Str))=false:=by decide):PE X (.Name x pos) (tC v) :=
 λ_ _ _ H _ I h=>Y1 I hg hm hv ⟨v,H,I,r,h⟩ hn hd
variable {a b:Expr}{ta tb:TE}{pos:Pos}
variable {tA tB':TT}{rest:List Expr}
def zJ (t u:TT):TT:=λσ H Q=>t σ H λc H1=>if c=true then u σ H1 Q else Q false H1
def tOr (t u:TT):TT:=λσ H Q=>t σ H λc H1=>if c=true then Q true H1 else u σ H1 Q
def CK (t:TT):TT:=λσ H Q=>t σ H λc H1=>Q (!c) H1
theorem pI (ha:PT X a tA):PW X (.BoolOp .And [a] pos) tA:=by
 intro wh pins s σ H Q I h
 refine isTrue_and (thn (ha pins s σ H Q I h) λc s1 e=>?_)
 cases c with
 | true=>exact isTrue_and_nil e
 | false=>exact e
theorem zc (ha:PT X a tA):PW X (.BoolOp .Or [a] pos) tA:=by
 intro wh pins s σ H Q I h
 refine isTrue_or (thn (ha pins s σ H Q I h) λc s1 e=>?_)
 cases c with
 | false=>exact isTrue_or_nil e
 | true=>exact e
theorem vC (ha:PT X a tA)(hb:PW X (.BoolOp .And (b::rest) pos) tB'):PW X (.BoolOp .And (a::b::rest) pos) (zJ tA tB'):=by
 intro wh pins s σ H Q I h
 refine isTrue_and (thn (ha pins s σ H _ I h) λc s1 ⟨H1,I1,q1⟩=>?_)
 cases c with
 | true=>exact hb wh pins s1 σ H1 Q I1 q1
 | false=>exact⟨H1,I1,q1⟩
theorem Cf (ha:PT X a tA)(hb:PW X (.BoolOp .Or (b::rest) pos) tB'):PW X (.BoolOp .Or (a::b::rest) pos) (tOr tA tB'):=by
 intro wh pins s σ H Q I h
 refine isTrue_or (thn (ha pins s σ H _ I h) λc s1 ⟨H1,I1,q1⟩=>?_)
 cases c with
 | true=>exact⟨H1,I1,q1⟩
 | false=>exact hb wh pins s1 σ H1 Q I1 q1
theorem zr (ha:PT X a tA):PT X (.UnaryOp .Not a pos) (CK tA):=by
 intro pins s σ H Q I h
 exact isTrue_not (ha pins s σ H (λc H1=>Q (!c) H1) I h)
def ux (ta tb:TE):TE:=λσ H Q=>ta σ H λx H1=>∃c,x = .bl c/\if c=true then tb σ H1 Q else Q (.bl false) H1
def yJ (ta:TE):TE:=λσ H Q=>ta σ H λx H1=>∃c,x = .bl c/\Q (.bl (!c)) H1
theorem uP {op}{t:TE}(h:PE X a t):PE X (.BoolOp op [a] pos) t:=λpins s σ H Q I hw=>BoolOp_one (h pins s σ H Q I hw)
theorem tq (ha:PE X a ta)(hb:PE X (.BoolOp .And (b::rest) pos) tb):PE X (.BoolOp .And (a::b::rest) pos) (ux ta tb):=by
 intro pins s σ H Q I h
 refine BoolOp_and (thn (ha pins s σ H _ I h) λv s1 ⟨x,H1,I1,r1,q1⟩=>?_)
 obtain⟨c,rfl,q1⟩:=q1
 cases r1
 refine Kq ?_
 cases c with
 | true=>exact hb pins s1 σ H1 Q I1 q1
 | false=>exact⟨.bl false,H1,I1,rfl,q1⟩
theorem zT (ha:PE X a ta):PE X (.UnaryOp .Not a pos) (yJ ta):=by
 intro pins s σ H Q I h
 refine UnaryOp_ (thn (ha pins s σ H _ I h) λv s1 ⟨x,H1,I1,r1,q1⟩=>?_)
 obtain⟨c,rfl,q1⟩:=q1
 cases r1
 exact not_of (Kq ⟨.bl (!c),H1,I1,rfl,q1⟩)
def tIf (t:TT)(ta tb:TE):TE:=λσ H Q=>t σ H λc H1=>if c=true then ta σ H1 Q else tb σ H1 Q
theorem ll {c:Expr}(hc:PT X c tA)(ha:PE X a ta)(hb:PE X b tb):PE X (.IfExp c a b pos) (tIf tA ta tb):=by
 intro pins s σ H Q I h
 refine wpAny_IfExp (thn (hc pins s σ H _ I h) λd s1 ⟨H1,I1,q1⟩=>?_)
 cases d with
 | true=>exact ha pins s1 σ H1 Q I1 q1
 | false=>exact hb pins s1 σ H1 Q I1 q1
end
end
section
def SqL (K:Fg)(H:Hp)(a:Addr)(xs:List V):Prop :=
 Rd H a (.lst xs) \/
  ∃(o:Obj) (its:Array Value) (n:Nat),K.lookup a=some o/\o.cls = .type "list" /\ o.dict=none/\o.data = .seq its n/\its.size<=sizeLine/\i5 xs its.toList
def SqT (K:Fg)(H:Hp)(a:Addr)(xs:List V):Prop :=
 Rd H a (.tup xs) \/
  ∃(o:Obj) (its:Array Value) (n:Nat),K.lookup a=some o/\o.cls = .type "tuple" /\ o.data = .seq its n/\its.size<=sizeLine/\i5 xs its.toList
def Dv:Value->Option V
 | .none=>some .non
 | .bool b=>some (.bl b)
 | .int i _=>some (.int i)
 | .str x _=>some (.str x)
 | .bytes b _=>some (.byt b)
 | .float b _=>some (.flt b)
 | .ref a=>some (.ref a)
 | .type n=>some (.ty n)
 | _=>none
theorem l6.abs {x:V}{u:Value}(r:l6 x u):Dv u=some x:=by
 cases x with
 | non=>cases r;rfl
 | bl _=>cases r;rfl
 | int _=>obtain⟨t,rfl⟩:=r;rfl
 | str _=>obtain⟨t,rfl⟩:=r;rfl
 | byt _=>obtain⟨t,rfl⟩:=r;rfl
 | flt _=>obtain⟨t,rfl⟩:=r;rfl
 | ref _=>cases r;rfl
 | ty _=>cases r;rfl
theorem l6.inj {x y:V}{u:Value}(r:l6 x u)(q:l6 y u):x=y:=HN (r.abs.symm.trans q.abs)
theorem i5.inj:∀{xs ys:List V} {us:List Value},i5 xs us->i5 ys us->xs=ys
 | _,_,_,.nil,.nil=>rfl
 | _,_,_,.cons r t,.cons r' t'=>by rw[r.inj r',i5.inj t t']
section
variable {X:Cx}{pins:List (Addr×Obj)}{σ:St}{H:Hp}{s:Shared}{a:Addr}{xs ys:List V}
theorem SqL.of {K:Fg}(h:H a=some (.lst xs)):SqL K H a xs:=.inl (.inl h)
theorem SqT.of {K:Fg}(h:H a=some (.tup xs)):SqT K H a xs:=.inl (.inl h)
theorem Inv.list (I:Inv X pins σ H s)(h:SqL X.K H a xs):∃its:List Value,i5 xs its/\PlainL s.heap a its.toArray/\xs.length<=sizeLine:=by
 rcases h with h | ⟨o,its,n,hk,hc,hd,hs,hz,r⟩
 .obtain⟨z,its,n,r,e⟩:=h.ok I.hok
  exact⟨its,r,⟨_,n,e,rfl,rfl,rfl⟩,z⟩
 .refine⟨its.toList,r,⟨o,n,I.kIn a o hk,hc,hd,by simpa using hs⟩,?_⟩
  have e:=r.length
  simp only[Jx]at e
  omega
theorem Inv.tuple (I:Inv X pins σ H s)(h:SqT X.K H a xs):∃its:List Value,i5 xs its/\IsTup s.heap a its.toArray/\xs.length<=sizeLine:=by
 rcases h with h | ⟨o,its,n,hk,hc,hs,hz,r⟩
 .obtain⟨z,its,r,p⟩:=h.ok I.hok
  exact⟨its,r,p,z⟩
 .refine⟨its.toList,r,⟨o,I.kIn a o hk,hc,n,by simpa using hs⟩,?_⟩
  have e:=r.length
  simp only[Jx]at e
  omega
theorem Inv.list_inj (I:Inv X pins σ H s)(h:SqL X.K H a xs)(h':SqL X.K H a ys):xs=ys:=by
 obtain⟨its,r,⟨o,n,e,_,_,d⟩,_⟩:=I.list h
 obtain⟨its',r',⟨o',n',e',_,_,d'⟩,_⟩:=I.list h'
 rw[e]at e';cases e'
 rw[d]at d'
 injection d' with d1 _
 have:its=its':=by simpa using IK Array.toList d1
 subst this
 exact r.inj r'
theorem Inv.tuple_inj (I:Inv X pins σ H s)(h:SqT X.K H a xs)(h':SqT X.K H a ys):xs=ys:=by
 obtain⟨its,r,⟨o,e,_,n,d⟩,_⟩:=I.tuple h
 obtain⟨its',r',⟨o',e',_,n',d'⟩,_⟩:=I.tuple h'
 rw[e]at e';cases e'
 rw[d]at d'
 injection d' with d1 _
 have:its=its':=by simpa using IK Array.toList d1
 subst this
 exact r.inj r'
end
abbrev Cx.wish (X:Cx)(E:Value->Shared->Prop):Cx:={ X with xe:=E }
abbrev Cx.nox (X:Cx):Cx:=X.wish λ_ _=>False
theorem Cx.Ok.wish {X:Cx}(ok:X.Ok)(E:Value->Shared->Prop):(X.wish E).Ok :=
 ⟨ok.mod,ok.kind,ok.glob,ok.blt,ok.above,ok.inj,ok.has,ok.cab,ok.hd,ok.frames,ok.stk,ok.exf,ok.bs,ok.bsz,ok.noex,ok.exfs,ok.funs,ok.frf⟩
theorem Cx.Ok.unwish {X:Cx}{E:Value->Shared->Prop}(ok:(X.wish E).Ok):X.Ok :=
 ⟨ok.mod,ok.kind,ok.glob,ok.blt,ok.above,ok.inj,ok.has,ok.cab,ok.hd,ok.frames,ok.stk,ok.exf,ok.bs,ok.bsz,ok.noex,ok.exfs,ok.funs,ok.frf⟩
section
variable {X:Cx}{pins:List (Addr×Obj)}{σ:St}{H:Hp}{s:Shared}{E:Value->Shared->Prop}
theorem Inv.wish (I:Inv X pins σ H s)(E:Value->Shared->Prop):Inv (X.wish E) pins σ H s:=⟨I.ok.wish E,I.os,I.bare,I.base,I.loc,I.cell,I.free,I.freeC,I.pin,I.hok,I.len⟩
theorem Inv.unwish (I:Inv (X.wish E) pins σ H s):Inv X pins σ H s:=⟨I.ok.unwish,I.os,I.bare,I.base,I.loc,I.cell,I.free,I.freeC,I.pin,I.hok,I.len⟩
theorem SP.unwish {D:Ends}{f:Flow}{s':Shared}(h:SP (X.wish E) pins D f s'):SP X pins D f s':=by
 cases f with
 | next=>obtain⟨σ',H',I,q⟩:=h;exact⟨σ',H',I.unwish,q⟩
 | brk=>obtain⟨σ',H',I,q⟩:=h;exact⟨σ',H',I.unwish,q⟩
 | cont=>obtain⟨σ',H',I,q⟩:=h;exact⟨σ',H',I.unwish,q⟩
 | ret u=>obtain⟨v,σ',H',I,r,q⟩:=h;exact⟨v,σ',H',I.unwish,r,q⟩
theorem PSs.nox {st:List Stmt}{t:TS}(h:PSs X.nox st t):PSs X st t:=λpins s σ H D I hw =>
 Jp (h pins s σ H D (I.wish _) hw) (λ_ _ q=>q.unwish) λ_ _ z=>False.elim z
end
section
variable {X:Cx}{st:Stmt}{rest:List Stmt}{t u:TS}{e:Expr}{te:TE}{pos:Pos}
def uC:TS:=λD σ H=>D.nx σ H
def N5 (t u:TS):TS:=λD σ H=>t { D with nx:=u D } σ H
theorem fE:PSs X [] uC:=λ_ _ σ H _ I h=>wpAny_execs_nil ⟨σ,H,I,h⟩
theorem i9 (h1:PS X st t)(h2:PSs X rest u):PSs X (st::rest) (N5 t u):=by
 intro pins s σ H D I h
 refine wpAny_execs_cons (thn (h1 pins s σ H { D with nx:=u D } I h) λf s1 q=>?_)
 cases f with
 | next =>
  obtain⟨σ',H',I',q⟩:=q
  exact h2 pins s1 σ' H' D I' q
 | ret v=>exact q
 | brk=>exact q
 | cont=>exact q
theorem z7 (h1:PS X st t):PSs X [st] t:=by
 intro pins s σ H D I h
 refine wpAny_execs_cons (thn (h1 pins s σ H D I h) λf s1 q=>?_)
 cases f with
 | next=>exact wpAny_execs_nil q
 | ret v=>exact q
 | brk=>exact q
 | cont=>exact q
def yt:TS:=λD σ H=>D.ct σ H
theorem lG:PS X (.Continue pos) yt:=λ_ _ σ H _ I h=>wpAny_Continue ⟨σ,H,I,h⟩
theorem Inv.quiet {pins:List (Addr×Obj)}{σ:St}{H:Hp}{s:Shared}(I:Inv X pins σ H s):interactive X.env=false:=by simp[interactive,I.ok.kind]
def aa (te:TE):TS:=λD σ H=>te σ H λ_ H1=>D.nx σ H1
theorem S4 (he:PE X e te)(hs:swapsWith e none pos.line X.env=pure false:=by rfl):PS X (.Expr e pos) (aa te):=by
 intro pins s σ H D I h
 exact wpAny_Expr_any (thn (he pins s σ H _ I h) λv s1 ⟨x,H1,I1,r1,q1⟩=>⟨σ,H1,I1,q1⟩) I.quiet hs
def qE (te:TE):TS:=λD σ H=>te σ H D.rt
theorem W7 (he:PE X e te):PS X (.Return (some e) pos) (qE te):=by
 intro pins s σ H D I h
 exact wpAny_Return_some (thn (he pins s σ H _ I h) λv s1 ⟨x,H1,I1,r1,q1⟩=>⟨x,σ,H1,I1,r1,q1⟩)
def lO (c:TT)(t u:TS):TS:=λD σ H=>c σ H λb H1=>if b=true then t D σ H1 else u D σ H1
theorem gM {c:Expr}{a b:List Stmt}{tc:TT}(hc:PT X c tc)(ha:PSs X a t)(hb:PSs X b u):PS X (.If c a b pos) (lO tc t u):=by
 intro pins s σ H D I h
 refine wpAny_If (thn (hc pins s σ H _ I h) λd s1 ⟨H1,I1,q1⟩=>?_)
 cases d with
 | true=>exact ha pins s1 σ H1 D I1 q1
 | false=>exact hb pins s1 σ H1 D I1 q1
end
abbrev TG:=V->St->Hp->(St->Hp->Prop)->Prop
abbrev TGs:=List V->St->Hp->(St->Hp->Prop)->Prop
def PG (X:Cx)(target:Expr)(t:TG):Prop :=
 ∀(pins:List (Addr×Obj)) (s:Shared) (σ:St) (H:Hp) (v:V) (u:Value) (Q:St->Hp->Prop),Inv X pins σ H s->l6 v u->t v σ H Q ->
  wpAny (model X.prog X.w) X.A (assign target X.env u) (λ_ s'=>∃σ' H',Inv X pins σ' H' s'/\Q σ' H') X.xe s
def PGs (X:Cx)(ts:List Expr)(t:TGs):Prop :=
 ∀(pins:List (Addr×Obj)) (s:Shared) (σ:St) (H:Hp) (vs:List V) (us:List Value) (Q:St->Hp->Prop),Inv X pins σ H s->i5 vs us->t vs σ H Q ->
  wpAny (model X.prog X.w) X.A (assignInOrder ((assignEach ts X.env).map (·.2)) us) (λ_ s'=>∃σ' H',Inv X pins σ' H' s'/\Q σ' H') X.xe s
abbrev zu:=V->V->V->Hp->(Hp->Prop)->Prop
def Bs (X:Cx)(t:zu):Prop :=
 ∀(pins:List (Addr×Obj)) (s:Shared) (σ:St) (H:Hp) (o i v:V) (ov iv u:Value) (Q:Hp->Prop),Inv X pins σ H s->l6 o ov->l6 i iv->l6 v u->t o i v H Q ->
  wpAny (model X.prog X.w) X.A (setItem ov iv u) (λ_ s'=>∃H',Inv X pins σ H' s'/\Q H') X.xe s
abbrev TIp:=V->V->Hp->VK->Prop
def PIp (X:Cx)(op:Operator)(t:TIp):Prop :=
 ∀(pins:List (Addr×Obj)) (s:Shared) (σ:St) (H:Hp) (x y:V) (v u:Value) (Q:VK),Inv X pins σ H s->l6 x v->l6 y u->t x y H Q ->
  wpAny (model X.prog X.w) X.A (inplaceOp op v u) (EP X pins σ Q) X.xe s
section
variable {X:Cx}{pos:Pos}
def D3 (i:Nat):TG:=λv σ H Q=>Q (σ.set i (some v)) H
theorem ff {i:Nat}{x:Str}(hN:X.N.Nodup)(hi:X.N[i]? = some x)(hx:Loc X.env.scope x)(hf:X.fn x=true\/X.env.scope.names.lookup x=some .local:=by first | exact .inl rfl | exact .inr rfl | assumption):PG X (.Name x pos) (D3 i):=by
 intro pins s σ H v u Q I r h
 exact wpAny_assign_Name (T8 I hN hi hx r (λs' I'=>⟨_,H,I',h⟩) hf)
def Ay:TGs:=λvs σ H Q=>vs=[]/\Q σ H
def qt (t:TG)(u:TGs):TGs:=λvs σ H Q=>∃v r,vs=v::r/\t v σ H λσ' H'=>u r σ' H' Q
theorem pJ:PGs X [] Ay:=by
 intro pins s σ H vs us Q I r h
 obtain⟨e,h⟩:=h
 subst e
 cases r
 exact assignInOrder_nil ⟨σ,H,I,h⟩
theorem fR {e:Expr}{es:List Expr}{t:TG}{u:TGs}(h1:PG X e t)(h2:PGs X es u)
  (hs:(assignEach (e::es) X.env).map (·.2)=assign e X.env::(assignEach es X.env).map (·.2):=by rfl):PGs X (e::es) (qt t u):=by
 intro pins s σ H vs us Q I r h
 obtain⟨v,vr,e1,h⟩:=h
 subst e1
 cases r with
 | cons r rr =>
  rw[hs]
  refine assignInOrder_cons (thn (h1 pins s σ H _ _ _ I r h) λ_ s1 ⟨σ1,H1,I1,q1⟩=>?_)
  exact h2 pins s1 σ1 H1 _ _ Q I1 rr q1
def xI (K:Fg)(n:Nat)(t:TGs):TG:=λv σ H Q=>∃a xs,v = .ref a/\SqT K H a xs/\xs.length=n/\t xs σ H Q
theorem Ae {es:List Expr}{k:Nat}{t:TGs}{n:Nat}(hc:X.calm=true)(h:PGs X es t)
  (hn:(assignEach es X.env).length=n:=by rfl) (hst:(assignEach es X.env).findIdx? (·.1)=none:=by rfl):PG X (.Tuple es k pos) (xI X.K n t):=by
 intro pins s σ H v u Q I r hw
 obtain⟨a,xs,e1,hq,hl,hw⟩:=hw
 subst e1
 cases r
 obtain⟨its,rv,ht,hz⟩:=I.tuple hq
 refine assign_Tuple_tuple (I.ok.hd hc) ht (by simp[hn,<-hl,rv.length]) hst λh' hx=>?_
 have I1:Inv X pins σ H { s with heap:=h' }:=I.kept (t':=s.toks) λb o e=>hx b o (Ic (HU e)) e
 exact h pins _ σ H xs _ Q I1 (by simpa using rv) hw
def jn (to ti:TE)(t:zu):TG:=λv σ H Q=>to σ H λo H1=>ti σ H1 λi H2=>t o i v H2 λH3=>Q σ H3
theorem U9 {o i:Expr}{to ti:TE}{t:zu}(ho:PE X o to)(hi:PE X i ti)(hs:Bs X t)
  (ha:∀v,assign (.Subscript o i pos) X.env v=(do
   let ov <-holding [v] (eval o X.env)
   let iv <-holding [v,ov] (eval i X.env)
   standAt pos
   holding [v,ov,iv] (setItem ov iv v)
   release [v,ov,iv] []):=by intro _;rfl):PG X (.Subscript o i pos) (jn to ti t):=by
 intro pins s σ H v u Q I r h
 rw[ha]
 refine Hy (Ja (thn (ho pins s σ H _ I h) λov s1 ⟨x,H1,I1,r1,q1⟩=>?_))
 refine Hy (Ja (thn (hi pins s1 σ H1 _ I1 q1) λiv s2 ⟨y,H2,I2,r2,q2⟩=>?_))
 refine Hy (Lm (Hy (Ja (thn (hs pins s2 σ H2 x y v ov iv u _ I2 r1 r2 r q2) λ_ s3 ⟨H3,I3,q3⟩=>?_))))
 exact wpAny_release ⟨σ,H3,I3,q3⟩
def G9 (te:TE)(g:TG):TS:=λD σ H=>te σ H λx H1=>g x σ H1 D.nx
theorem M9 {tg e:Expr}{te:TE}{g:TG}(he:PE X e te)(hg:PG X tg g)(hs:swapsWithSole [tg] e pos.line X.env=pure false:=by rfl)(hw:swappedStores [tg] e X.env=pure none:=by rfl)
  (h1:(assignEach [tg] X.env).map (·.2)=[assign tg X.env]:=by rfl):PS X (.Assign [tg] e pos) (G9 te g):=by
 intro pins s σ H D I h
 refine wpAny_Assign_stores (thn (he pins s σ H _ I h) λv s1 ⟨x,H1,I1,r1,q1⟩=>?_) hs hw
 rw[h1]
 exact thn (hg pins s1 σ H1 x v _ I1 r1 q1) λ_ s2 q=>q
theorem G7 {i:Nat}{x:Str}{e:Expr}{te:TE}{pos':Pos}(hN:X.N.Nodup)(hi:X.N[i]? = some x)(hx:Loc X.env.scope x)(he:PE X e te)(hs:swapsWith e (some (.Name x pos')) pos.line X.env=pure false:=by rfl)(hf:X.fn x=true\/X.env.scope.names.lookup x=some .local:=by first | exact .inl rfl | exact .inr rfl | assumption) :
  PS X (.Assign [.Name x pos'] e pos) (G9 te (D3 i)):=by
 intro pins s σ H D I h
 refine wpAny_Assign_Name (thn (he pins s σ H _ I h) λv s1 ⟨y,H1,I1,r1,q1⟩=>?_) hs
 exact T8 I1 hN hi hx r1 (λs2 I2=>⟨_,H1,I2,q1⟩) hf
def Ck (i j:Nat)(ta:TA):TS:=λD σ H=>ta σ H λvs H1=>∃v w,vs=[v,w]/\D.nx ((σ.set i (some v)).set j (some w)) H1
theorem zf {i j:Nat}{x y:Str}{a b:Expr}{ta:TA}{px py pt:Pos}{kt k2 pt2}(hc:X.calm=true)(hN:X.N.Nodup)(hi:X.N[i]? = some x)(hj:X.N[j]? = some y)(hij:i≠j)
  (hx:X.env.scope.names.lookup x=some .local) (hy:X.env.scope.names.lookup y=some .local) (ha:PA X [a,b] ta)
  (hw:swappedStores [.Tuple [.Name x px,.Name y py] kt pt] (.Tuple [a,b] k2 pt2) X.env=pure (some [x,y]))
  (hs:swapsWithSole [.Tuple [.Name x px,.Name y py] kt pt] (.Tuple [a,b] k2 pt2) pos.line X.env=pure false:=by rfl) :
  PS X (.Assign [.Tuple [.Name x px,.Name y py] kt pt] (.Tuple [a,b] k2 pt2) pos) (Ck i j ta):=by
 intro pins s σ H D I h
 rw[exec_Assign_arm]
 refine Hy (Lm ?_)
 rw[hs]
 refine Hy (HS ?_)
 rw[HM (by decide)]
 refine Hy (Tuple_ (thn (ha _ pins s σ H _ I h) λus s1 ⟨vs,H1,I1,r1,q1⟩=>?_))
 obtain⟨v,w,e1,q1⟩:=q1
 subst e1
 obtain⟨u1,u2,rfl,rv,rw'⟩:∃u1 u2,us=[u1,u2]/\l6 v u1/\l6 w u2:=by
  cases r1 with
  | cons p q =>
   cases q with
   | cons p' q' =>
    cases q'
    exact⟨_,_,rfl,p,p'⟩
 refine IU ?_ (by show 2<=sizeLine;decide)
 have I2:Inv X pins σ H1 { s1 with heap:=s1.heap.push { cls:=.type "tuple",data:=.seq [u1,u2].toArray } }:=I1.kept (t':=s1.toks) λb o e=>HI _ e
 rw[hw]
 refine Hy (HS ?_)
 show wpAny (model X.prog X.w) X.A (do rule "assign.swapped-stores";let items <-unpackItems (.ref s1.heap.objs.size) 2 none;assignInOrder [λv=>bindName X.env y v,λv=>bindName X.env x v] items.reverse;pure Flow.next) _ _ _
 refine Hy (KQ (Hy (unpackItems_tuple (items:=#[u1,u2]) (I.ok.hd hc) (Lp s1.heap _) λh' hx'=>?_)))
 have I3:=I2.kept (h':=h') (t':=s1.toks) λb o e=>hx' b o (Ic (HU e)) e
 show wpAny _ _ (assignInOrder [λv=>bindName X.env y v,λv=>bindName X.env x v] [u2,u1] >>= λ_=>pure Flow.next) _ _ _
 refine Hy (assignInOrder_cons (wpAny_bindName (T8 I3 hN hj (.inl hy) rw' (λs2 I4=>?_) (.inr hy))))
 refine assignInOrder_cons (wpAny_bindName (T8 I4 hN hi (.inl hx) rv (λs3 I5=>assignInOrder_nil (HS ?_)) (.inr hx)))
 rw[List.set_comm _ _ (Iz hij)]at I5
 exact⟨_,H1,I5,q1⟩
def tQ (i:Nat)(te:TE)(ti:TIp):TS:=λD σ H=>∃x,σ[i]? = some (some x)/\te σ H λy H1=>ti x y H1 λz H2=>D.nx (σ.set i (some z)) H2
theorem tM {i:Nat}{x:Str}{e:Expr}{te:TE}{op:Operator}{ti:TIp}{pos':Pos}(hN:X.N.Nodup)(hi:X.N[i]? = some x)(hx:Loc X.env.scope x)(he:PE X e te)(ho:PIp X op ti)(hf:X.fn x=true\/X.env.scope.names.lookup x=some .local:=by first | exact .inl rfl | exact .inr rfl | assumption) :
  PS X (.AugAssign (.Name x pos') op e pos) (tQ i te ti):=by
 intro pins s σ H D I h
 obtain⟨v,e1,h⟩:=h
 obtain⟨m,hn,hl⟩:=I.loc
 have vis:Vis X.env.scope x:=by rcases hx with k | k;exact .inl k;exact .inr (.inl k)
 obtain⟨u,r,l⟩:=hl i x v hi e1 vis
 refine wpAny_AugAssign_Name ?_
 have go:wpAny (model X.prog X.w) X.A (eval e X.env) (λw s₂=>wpAny (model X.prog X.w) X.A (inplaceOp op u w) (λr s₃=>wpAny (model X.prog X.w) X.A (storeName X.env x r) (λ_=>SP X pins D .next) X.xe s₃) X.xe s₂) X.xe s:=by
  refine thn (he pins s σ H _ I h) λw s1 ⟨y,H1,I1,r1,q1⟩=>?_
  refine thn (ho pins s1 σ H1 v y u w _ I1 r r1 q1) λz s2 ⟨zv,H2,I2,r2,q2⟩=>?_
  exact T8 I2 hN hi hx r2 (λs3 I3=>⟨_,H2,I3,q2⟩) hf
 rcases l with ⟨hk,hm⟩ | ⟨hk,c,hc,hcell⟩
 .exact wpAny_loadName_local I.ok.kind hk hn hm go
 .rcases hk with hk | hk
  .exact wpAny_loadName_cell I.ok.kind hk hc hcell go
  .rcases hx with k | k
   .have:X.env.scope.names.lookup x=some .free:=hk
    rw[k]at this;cases this
   .have:X.env.scope.names.lookup x=some .free:=hk
    rw[k]at this;cases this
def ipI (f:Int->Int->Int):TIp:=λx y H Q=>∃i j,x = .int i/\y = .int j/\Q (.int (f i j)) H
theorem zD:PIp X .Add (ipI λi j=>i+j):=by
 intro pins s σ H x y v u Q I r1 r2 h
 obtain⟨i,j,e1,e2,q⟩:=h
 subst e1;subst e2
 obtain⟨t,rfl⟩:=r1
 obtain⟨t',rfl⟩:=r2
 exact iadd_int ⟨.int _,H,I.tok _,⟨_,rfl⟩,q⟩
end
section
variable {X:Cx}{pos:Pos}
end
structure It where
 go:Nat->Hp->Prop
 yld:Nat->Hp->V->Hp->Prop
 stop:Nat->Hp->Prop
def eY (X:Cx)(pins:List (Addr×Obj))(H:Hp)(b:Addr):Prop :=
 H b=none/\b≠X.env.locals/\b ∉ X.fs/\(b∈X.ex\/X.s₀.heap.objs.size<=b)/\(∀x c,X.env.cells.lookup x=some c->c≠b)/\∀p∈X.pn++pins,p.1≠b
theorem Inv.fpOk {X:Cx}{pins:List (Addr×Obj)}{σ:St}{H H':Hp}{s:Shared}{b:Addr}(I:Inv X pins σ H s)(hb:s.heap.objs.size<=b)(hn:H' b=none):eY X pins H' b:=by
 refine⟨hn,Ma (Ie I.lt hb),I.nofs hb,.inr (Im I.sz hb),λx c e z=>?_,λp hp z=>?_⟩
 .obtain⟨v,q⟩:=I.cell x c e
  exact absurd (Ie q.lt (by rw[z];exact hb)) (Jl _)
 .exact absurd (Ie (HU (I.pin p hp).1) (by rw[z];exact hb)) (Jl _)
structure Turn (P:Program) (w:World) (K:Fg) (tg:Expr) (J:It) (fp:List Addr) (it:Addr) (tn:Nat->Heap->Prop):Prop where
 mem:it∈fp
 obj:∀i h,tn i h->∀b∈fp,∃o,h.get? b=some o/\∀v,o.data ≠ .cell v
 keep:∀i h h',tn i h->(∀b∈fp,∀o,h.get? b=some o->h'.get? b=some o)->tn i h'
 item:∀(X:Cx),X.prog=P->X.w=w->X.K=K->X.calm=true->∀(i:Nat) (pins:List (Addr×Obj)) (s:Shared) (σ:St) (H:Hp) (E:Value->Shared->Prop),Inv X pins σ H s->(∀b∈fp,eY X pins H b)->tn i s.heap->J.go i H ->
  wpAny (model P w) X.A (pyNext (.ref it)) (λr s1=>∃u,r=some u /\
   wpAny (model P w) X.A (letOwnedTupleGo tg (.ref it) u) (λ_ s2=>∃x H',Inv X pins σ H' s2/\l6 x u/\J.yld i H x H'/\tn (i+1) s2.heap/\∀b∈fp,H' b=none) E s1) E s
 done:∀(X:Cx),X.prog=P->X.w=w->X.K=K->X.calm=true->∀(i:Nat) (pins:List (Addr×Obj)) (s:Shared) (σ:St) (H:Hp) (E:Value->Shared->Prop),Inv X pins σ H s->(∀b∈fp,eY X pins H b)->tn i s.heap->J.stop i H ->
  wpAny (model P w) X.A (pyNext (.ref it)) (λr s1=>r=none/\Inv X pins σ H s1) E s
 self:∀(A:Around) (i:Nat) (s:Shared) (Q:Value->Shared->Prop) (E:Value->Shared->Prop),tn i s.heap->Q (.ref it) s->wpAny (model P w) A (pyIter (.ref it)) Q E s
abbrev TI:=St->Hp->(It->Hp->Prop)->Prop
def PIE (X:Cx)(pins:List (Addr×Obj))(σ:St)(tg:Expr)(R:It->Hp->Prop)(itv:Value)(s2:Shared):Prop :=
 ∃(it:Addr) (fp:List Addr) (tn:Nat->Heap->Prop) (J:It) (H':Hp),itv = .ref it/\Inv X pins σ H' s2/\Turn X.prog X.w X.K tg J fp it tn/\tn 0 s2.heap/\(∀b∈fp,eY X pins H' b)/\R J H'
def PI (X:Cx)(tg iter:Expr)(wi:TI):Prop :=
 ∀(pins:List (Addr×Obj)) (s:Shared) (σ:St) (H:Hp) (R:It->Hp->Prop),Inv X pins σ H s->wi σ H R ->
  wpAny (model X.prog X.w) X.A (eval iter X.env) (λv s1=>wpAny (model X.prog X.w) X.A (pyIter v) (PIE X pins σ tg R) X.xe s1) X.xe s
theorem vk {M:Model}{A:Around}{E:Value->Shared->Prop}{s:Shared}{tg:Expr}{it:Addr}{u:Value}{o:Obj}{n:String}{vs:Array Value}{Q:Unit->Shared->Prop}(ho:s.heap.get? it=some o)(hc:o.cls = .type n)(hd:o.data = .fields vs)
    (hn:["enumerate","zip","dict_itemiterator","dict_reverseitemiterator","odict_iterator","itertools.zip_longest","itertools.pairwise"].contains n=false) (hQ:Q () s):wpAny M A (letOwnedTupleGo tg (.ref it) u) Q E s:=by
  unfold letOwnedTupleGo
  cases tg <;> first
    | exact HS hQ
    | (cases u <;> first
        | exact HS hQ
        | (refine Hy (wpAny_load ho ?_)
           rw[hc,hd]
           show wpAny M A (if (["enumerate","zip","dict_itemiterator","dict_reverseitemiterator","odict_iterator","itertools.zip_longest","itertools.pairwise"].contains n&&vs[0]? == some (rawInt _))=true then _ else _) Q E s
           rw[HM (by intro h;rw[hn,LG]at h;cases h)]
           exact HS hQ))
def Itl (K:Fg)(a:Addr):It :=
 ⟨λi H=>∃xs x,SqL K H a xs/\xs[i]? = some x,λi H x H'=>H'=H/\∀xs,SqL K H a xs->xs[i]? = some x,λi H=>∃xs,SqL K H a xs/\xs.length<=i⟩
def Itt (K:Fg)(a:Addr):It :=
 ⟨λi H=>∃xs x,SqT K H a xs/\xs[i]? = some x,λi H x H'=>H'=H/\∀xs,SqT K H a xs->xs[i]? = some x,λi H=>∃xs,SqT K H a xs/\xs.length<=i⟩
def Itr (lo:Int)(n:Nat):It:=⟨λi _=>i<n,λi H x H'=>H'=H/\x = .int (lo+i),λi _=>n<=i⟩
theorem rF {P:Program}{w:World}{K:Fg}{tg:Expr}(a it:Addr):Turn P w K tg (Itl K a) [it] it (λi h=>h.IsListIter it a i) where
 mem:=by simp
 obj:=λi h st b hb=>by
  have e:b=it:=by simpa using hb
  subst e
  obtain⟨o,e,c,d⟩:=st
  exact⟨o,e,λv z=>by rw[d]at z;cases z⟩
 keep:=λi h h' st k=>st.at λo e=>k it (by simp) o e
 item:=by
  intro X hP hw hK hc i pins s σ H E I hf st hg
  subst hP hw hK
  obtain⟨xs,x,hq,hx⟩:=hg
  obtain⟨its,rv,p,hz⟩:=I.list hq
  obtain⟨u,hu,ru⟩:=rv.get hx
  obtain⟨f0,f1,f2,f3,f4,f5⟩:=hf it (by simp)
  refine wpAny_pyNext_list_item st p.isList (x:=u) (by simpa using hu) λh' st' sb=>?_
  have I1:Inv X pins σ H { s with heap:=h' }:=I.turned (t':=s.toks) (λb o hb e=>(sb.2 b hb).trans e) f0 f1 f3 f4 f5
  obtain⟨o,e,c,d⟩:=id st'
  exact⟨u,rfl,vk (s:={ s with heap:=h' }) e c d (by decide) ⟨x,H,I1,ru,⟨rfl,λys hy=>by rw[I.list_inj hy hq];exact hx⟩,st',λb hb=>(hf b hb).1⟩⟩
 done:=by
  intro X hP hw hK hc i pins s σ H E I hf st hg
  subst hP hw hK
  obtain⟨xs,hq,hx⟩:=hg
  obtain⟨its,rv,p,hz⟩:=I.list hq
  obtain⟨f0,f1,f2,f3,f4,f5⟩:=hf it (by simp)
  have hl:=rv.length
  exact wpAny_pyNext_list_end (I.ok.hd hc) st p.isList (by simp;omega) λh' eb=>⟨rfl,I.turned (t':=s.toks) (λb o hb e=>eb b o hb e) f0 f1 f3 f4 f5⟩
 self:=λ_ _ _ _ _ st h=>wpAny_pyIter_listiter st h
theorem ny {P:Program}{w:World}{K:Fg}{tg:Expr}(a it:Addr):Turn P w K tg (Itt K a) [it] it (λi h=>h.IsTupleIter it a i) where
 mem:=by simp
 obj:=λi h st b hb=>by
  have e:b=it:=by simpa using hb
  subst e
  obtain⟨o,e,c,d⟩:=st
  exact⟨o,e,λv z=>by rw[d]at z;cases z⟩
 keep:=λi h h' st k=>st.at λo e=>k it (by simp) o e
 item:=by
  intro X hP hw hK hc i pins s σ H E I hf st hg
  subst hP hw hK
  obtain⟨xs,x,hq,hx⟩:=hg
  obtain⟨its,rv,p,hz⟩:=I.tuple hq
  obtain⟨u,hu,ru⟩:=rv.get hx
  obtain⟨f0,f1,f2,f3,f4,f5⟩:=hf it (by simp)
  refine wpAny_pyNext_tuple_item st (show s.heap.IsTuple a its.toArray from p) (x:=u) (by simpa using hu) λh' st' sb=>?_
  have I1:Inv X pins σ H { s with heap:=h' }:=I.turned (t':=s.toks) (λb o hb e=>(sb.2 b hb).trans e) f0 f1 f3 f4 f5
  obtain⟨o,e,c,d⟩:=id st'
  exact⟨u,rfl,vk (s:={ s with heap:=h' }) e c d (by decide) ⟨x,H,I1,ru,⟨rfl,λys hy=>by rw[I.tuple_inj hy hq];exact hx⟩,st',λb hb=>(hf b hb).1⟩⟩
 done:=by
  intro X hP hw hK hc i pins s σ H E I hf st hg
  subst hP hw hK
  obtain⟨xs,hq,hx⟩:=hg
  obtain⟨its,rv,p,hz⟩:=I.tuple hq
  obtain⟨f0,f1,f2,f3,f4,f5⟩:=hf it (by simp)
  have hl:=rv.length
  exact wpAny_pyNext_tuple_end (I.ok.hd hc) st (show s.heap.IsTuple a its.toArray from p) (by simp;omega) λh' eb=>⟨rfl,I.turned (t':=s.toks) (λb o hb e=>eb b o hb e) f0 f1 f3 f4 f5⟩
 self:=λ_ _ _ _ _ st h=>wpAny_pyIter_tupleiter st h
theorem nC {P:Program}{w:World}{K:Fg}{tg:Expr}(it:Addr)(lo:Int)(n:Nat):Turn P w K tg (Itr lo n) [it] it (λi h=>IsRangeIter h it (lo+(i:Nat)*1) ((n:Int)-(i:Nat)) 1) where
 mem:=by simp
 obj:=λi h st b hb=>by
  have e:b=it:=by simpa using hb
  subst e
  exact⟨_,st,λv z=>by
   have z':Data.fields _=Data.cell v:=z
   cases z'⟩
 keep:=λi h h' st k=>k it (by simp) _ st
 item:=by
  intro X hP hw hK hc i pins s σ H E I hf st hg
  subst hP hw hK
  obtain⟨f0,f1,f2,f3,f4,f5⟩:=hf it (by simp)
  have W:=Walks.range (prog:=X.prog) (w:=X.w) (I.ok.hd hc) it lo 1 n
  refine W.item i s _ _ hg st λv h' tk hv st' kk=>?_
  obtain⟨t,rfl⟩:=hv
  have I1:Inv X pins σ H { s with heap:=h',toks:=tk }:=I.turned (λb o hb e=>kk b o (by simpa using hb) e) f0 f1 f3 f4 f5
  refine⟨_,rfl,vk (s:={ s with heap:=h',toks:=tk }) (n:="range_iterator") st' rfl rfl (by decide) ⟨.int (lo+i),H,I1,⟨t,?_⟩,⟨rfl,rfl⟩,st',λb hb=>(hf b hb).1⟩⟩
  rw[Int.mul_one]
 done:=by
  intro X hP hw hK hc i pins s σ H E I hf st hg
  subst hP hw hK
  obtain⟨f0,f1,f2,f3,f4,f5⟩:=hf it (by simp)
  exact wpAny_pyNext_range_end (I.ok.hd hc) st (by have:n<=i:=hg;omega) λh' eb=>⟨rfl,I.turned (t':=s.toks) (λb o hb e=>eb b o hb e) f0 f1 f3 f4 f5⟩
 self:=λ_ _ _ _ _ st h=>wpAny_pyIter_rangeiter st h
end
section
section
variable {X:Cx}{tg:Expr}
theorem uE {pins:List (Addr×Obj)}{σ:St}{H:Hp}{s:Shared}{R:It->Hp->Prop}{E:Value->Shared->Prop}{lo hi:Int}{t u v:Tok}{tk:Nat}(I:Inv X pins σ H s)(h1:-(2 ^ 62)<=lo)(h2:lo<2 ^ 62)(h3:-(2 ^ 62)<=hi)(h4:hi<2 ^ 62)
  (q:R (Itr lo (hi-lo).toNat) H):wpAny (model X.prog X.w) X.A (pyIter (.ref s.heap.objs.size)) (PIE X pins σ tg R) E { s with heap:=s.heap.push { cls:=.type "range",data:=.fields #[.int lo t,.int hi u,.int 1 v] },toks:=tk }:=by
 refine wpAny_pyIter_range (IsRange.new ..) (small_one h1 h2 h3 h4) ?_
 have I1:Inv X pins σ H { s with heap:=s.heap.push { cls:=.type "range",data:=.fields #[.int lo t,.int hi u,.int 1 v] },toks:=tk }:=I.kept λb o e=>HI _ e
 refine⟨(s.heap.push { cls:=.type "range",data:=.fields #[.int lo t,.int hi u,.int 1 v] }).objs.size,[(s.heap.push { cls:=.type "range",data:=.fields #[.int lo t,.int hi u,.int 1 v] }).objs.size],_,_,H,rfl,
  I1.kept (t':=tk) λb o e=>HI _ e,nC _ lo (hi-lo).toNat,?_,λb hb=>?_,q⟩
 .have e1:lo+((0:Nat):Int)*1=lo:=by simp
  have e2:(((hi-lo).toNat:Nat):Int)-((0:Nat):Int)=Builtin.Range.rangeSize lo hi 1:=by rw[rangeSize_one];split <;> omega
  show IsRangeIter _ _ (lo+((0:Nat):Int)*1) ((((hi-lo).toNat:Nat):Int)-((0:Nat):Int)) 1
  rw[e1,e2]
  exact Ii _ rfl
 .have e:b=(s.heap.push { cls:=.type "range",data:=.fields #[.int lo t,.int hi u,.int 1 v] }).objs.size:=by simpa using hb
  subst e
  exact I1.fpOk (HK _) (I1.hok.fresh (HK _))
def vv (ta:TA):TI:=λσ H R=>ta σ H λvs H1=>∃j:Int,vs=[.int j] /\ -(2 ^ 62)<=j/\j<2 ^ 62/\R (Itr 0 j.toNat) H1
theorem iU {a:Expr}{ta:TA}{p pos:Pos}(hg:Gl X "range")(hm:X.mg "range" = none)(ha:PA X [a] ta)(hs:starEach [a] X.env=[(false,eval a X.env)]:=by rfl):PI X tg (.Call (.Name "range" p) [a] [] pos) (vv ta):=by
 intro pins s σ H R I h
 refine Call_ (Y1 I hg hm boot_range (JF (thn (ha pos pins s σ H _ I h) λus s1 ⟨vs,H1,I1,r1,q1⟩=>?_) hs rfl))
 obtain⟨j,e,q1,q2,q⟩:=q1
 subst e
 cases r1 with
 | cons r rr =>
  cases rr
  obtain⟨t,rfl⟩:=r
  exact call_range_1 (uE I1 (by omega) (by omega) q1 q2 (by simpa using q))
def qW (wi:TI)(g:TG)(tb:TS):TS:=λD σ H=>wi σ H λJ H1=>∃W:Nat->Nat->St->Hp->Prop,(∃m,W 0 m σ H1)/\∀i m σ H,W i m σ H ->
 (J.stop i H/\D.nx σ H)\/(J.go i H/\∃N:St->Hp->Prop,(∀σ' H',N σ' H'->∃m',m'<m/\W (i+1) m' σ' H')/\∀x H',J.yld i H x H'->g x σ H' λσ2 H2=>tb { D with nx:=N,ct:=N,bk:=D.nx } σ2 H2)
def dq (fp:List Addr)(h:Heap):List (Addr×Obj):=fp.filterMap λb=>(h.get? b).map λo=>(b,o)
theorem L9 {fp:List Addr}{h:Heap}{b:Addr}{o:Obj}(hb:b∈fp)(e:h.get? b=some o):(b,o)∈dq fp h:=KE.mpr ⟨b,hb,by rw[e];rfl⟩
theorem qY {fp:List Addr}{h:Heap}{p:Addr×Obj}(hp:p∈dq fp h):p.1∈fp/\h.get? p.1=some p.2:=by
 obtain⟨b,hb,e⟩:=KE.mp hp
 cases q:h.get? b with
 | none=>rw[q]at e;cases e
 | some o =>
  rw[q]at e
  have e':(b,o)=p:=HN e
  subst e'
  exact⟨hb,q⟩
theorem Inv.pinned {pins:List (Addr×Obj)}{σ:St}{H:Hp}{s:Shared}{fp:List Addr}(I:Inv X pins σ H s)(hf:∀b∈fp,eY X pins H b)(ho:∀b∈fp,∃o,s.heap.get? b=some o/\∀v,o.data ≠ .cell v):Inv X (pins++dq fp s.heap) σ H s :=
 I.pins_of λp hp=>(HC.mp hp).elim (λz=>I.pin p (HW _ z)) λz=>by
  obtain⟨hb,e⟩:=qY z
  obtain⟨f0,f1,f2,_⟩:=hf p.1 hb
  obtain⟨o,e',d⟩:=ho p.1 hb
  rw[e]at e';cases e'
  exact⟨e,f0,f1,f2,d⟩
theorem Inv.unpinned {pins pl:List (Addr×Obj)}{σ:St}{H:Hp}{s:Shared}(I:Inv X (pins++pl) σ H s):Inv X pins σ H s:=I.pins_of λp hp=>I.pin p (HW _ (Lq _ hp))
theorem ox {iter:Expr}{body:List Stmt}{wi:TI}{g:TG}{tb:TS}{pos:Pos}(hp:PassesOwn (model X.prog X.w) X.A X.env X.xe)(hc:X.calm=true)(hi:PI X tg iter wi)(hg:PG X tg g)(hb:PSs X body tb)
  (hs:∀x,foldedSetIterable iter X.env x=pure x:=by intro _;rfl):PS X (.For tg iter body [] pos) (qW wi g tb):=by
 intro pins s σ H D I h
 refine wpAny_For (thn (hi pins s σ H _ I h) λv s1 h1=>thn h1 λitv s2 h2=>?_) hs
 obtain⟨it,fp,tn,J,H2,e,I2,T,st2,f2,W,⟨m0,w0⟩,turn⟩:=h2
 subst e
 -- what stays true of the iterator's objects through the loop
 have stat:∀{H':Hp},(∀b∈fp,H' b=none)->∀b∈fp,eY X pins H' b:=λhn b hb=>⟨hn b hb,(f2 b hb).2⟩
 refine codeAny_forLoop_any (λn s'=>∃i σ' H',Inv X pins σ' H' s'/\tn i s'.heap/\(∀b∈fp,H' b=none)/\W i n σ' H') ?_ m0 ⟨0,σ,H2,I2,st2,λb hb=>(f2 b hb).1,w0⟩
 rintro n s3 ⟨i,σ3,H3,I3,st3,fr3,w3⟩
 rcases turn i n σ3 H3 w3 with ⟨stop,qn⟩ | ⟨go,N,hN,step⟩
 .refine KB hp (thn (T.done X rfl rfl rfl hc i pins s3 σ3 H3 X.xe I3 (stat fr3) st3 stop) λr s4 ⟨hr,I4⟩=>?_)
  subst hr
  exact wpAny_execs_nil ⟨σ3,H3,I4,qn⟩
 .refine KB hp (thn (T.item X rfl rfl rfl hc i pins s3 σ3 H3 X.xe I3 (stat fr3) st3 go) λr s4 ⟨u,hr,h4⟩=>?_)
  subst hr
  refine KB hp (thn h4 λ_ s5 ⟨x,H5,I5,r5,y5,st5,fr5⟩=>?_)
  have I5':=I5.pinned (stat fr5) (T.obj _ _ st5)
  refine KB hp (thn (hg _ s5 σ3 H5 x u _ I5' r5 (step x H5 y5)) λ_ s6 ⟨σ6,H6,I6,q6⟩=>?_)
  refine KB hp (thn (hb _ s6 σ6 H6 _ I6 q6) λf s7 q7=>?_)
  have again:∀{σ7:St} {H7:Hp},Inv X (pins++dq fp s5.heap) σ7 H7 s7->N σ7 H7->∃m,m<n/\∃i σ' H',Inv X pins σ' H' s7/\tn i s7.heap/\(∀b∈fp,H' b=none)/\W i m σ' H':=λ{σ7 H7} I7 n7=>by
   obtain⟨m',hm,w7⟩:=hN σ7 H7 n7
   refine⟨m',hm,i+1,σ7,H7,I7.unpinned,T.keep _ _ _ st5 λb hb o e=>(I7.pin (b,o) (HW _ (HW _ (L9 hb e)))).1,λb hb=>?_,w7⟩
   obtain⟨o,e,d⟩:=T.obj _ _ st5 b hb
   exact(I7.pin (b,o) (HW _ (HW _ (L9 hb e)))).2.1
  cases f with
  | next=>obtain⟨σ7,H7,I7,n7⟩:=q7;exact again I7 n7
  | cont=>obtain⟨σ7,H7,I7,n7⟩:=q7;exact again I7 n7
  | brk=>obtain⟨σ7,H7,I7,q7⟩:=q7;exact⟨σ7,H7,I7.unpinned,q7⟩
  | ret v=>obtain⟨x7,σ7,H7,I7,r7,q7⟩:=q7;exact⟨x7,σ7,H7,I7.unpinned,r7,q7⟩
end
end
section
abbrev R2:=V->V->Hp->VK->Prop
def OpR (X:Cx)(f:Value->Value->Sem Value)(r:R2):Prop :=
 ∀(pins:List (Addr×Obj)) (s:Shared) (σ:St) (H:Hp) (x y:V) (v u:Value) (Q:VK),Inv X pins σ H s->l6 x v->l6 y u->r x y H Q ->
  wpAny (model X.prog X.w) X.A (f v u) (EP X pins σ Q) X.xe s
def UnR (X:Cx)(f:Value->Sem Value)(r:V->Hp->VK->Prop):Prop :=
 ∀(pins:List (Addr×Obj)) (s:Shared) (σ:St) (H:Hp) (x:V) (v:Value) (Q:VK),Inv X pins σ H s->l6 x v->r x H Q ->
  wpAny (model X.prog X.w) X.A (f v) (EP X pins σ Q) X.xe s
def C5 (X:Cx)(f:Value)(r:List V->Hp->VK->Prop):Prop :=
 ∀(pins:List (Addr×Obj)) (s:Shared) (σ:St) (H:Hp) (xs:List V) (us:List Value) (Q:VK),Inv X pins σ H s->i5 xs us->r xs H Q ->
  wpAny (model X.prog X.w) X.A (call f us) (EP X pins σ Q) X.xe s
def Dh (X:Cx)(r:V->Hp->(Bool->Hp->Prop)->Prop):Prop :=
 ∀(pins:List (Addr×Obj)) (s:Shared) (σ:St) (H:Hp) (x:V) (v:Value) (Q:Bool->Hp->Prop),Inv X pins σ H s->l6 x v->r x H Q ->
  wpAny (model X.prog X.w) X.A (truthy v) (TP X pins σ Q) X.xe s
def tOp (r:R2)(ta tb:TE):TE:=λσ H Q=>ta σ H λx H1=>tb σ H1 λy H2=>r x y H2 Q
def tUn (r:V->Hp->VK->Prop)(ta:TE):TE:=λσ H Q=>ta σ H λx H1=>r x H1 Q
def rI (C:Int->Int->Prop)(g:Int->Int->V):R2:=λx y H Q=>∃i j,x = .int i/\y = .int j/\C i j/\Q (g i j) H
def rI0 (g:Int->Int->V):R2:=λx y H Q=>∃i j,x = .int i/\y = .int j/\Q (g i j) H
def rU (g:Int->V):V->Hp->VK->Prop:=λx H Q=>∃i,x = .int i/\Q (g i) H
section
variable {X:Cx}{a b c:Expr}{ta tb tc:TE}{pos:Pos}
theorem AC (ha:PE X a ta)(hb:PE X b tb){pins:List (Addr×Obj)}{s:Shared}{σ:St}{H:Hp}{R:V->V->Hp->Prop}(I:Inv X pins σ H s)
  (h:ta σ H λx H1=>tb σ H1 λy H2=>R x y H2) {Q:Value->Shared->Prop} {f:Value->Value->Sem Value}
  (hf:∀v u s2 x y H2,Inv X pins σ H2 s2->l6 x v->l6 y u->R x y H2->wpAny (model X.prog X.w) X.A (f v u) Q X.xe s2) :
  wpAny (model X.prog X.w) X.A (eval a X.env) (λv s₁=>wpAny (model X.prog X.w) X.A (eval b X.env) (λu s₂=>wpAny (model X.prog X.w) X.A (f v u) Q X.xe s₂) X.xe s₁) X.xe s:=by
 refine thn (ha pins s σ H _ I h) λv s1 ⟨x,H1,I1,r1,q1⟩=>?_
 refine thn (hb pins s1 σ H1 _ I1 q1) λu s2 ⟨y,H2,I2,r2,q2⟩=>?_
 exact hf v u s2 x y H2 I2 r1 r2 q2
theorem x3 {op:Operator}{r:R2}(ho:OpR X (binaryOp op) r)(ha:PE X a ta)(hb:PE X b tb):PE X (.BinOp a op b pos) (tOp r ta tb):=by
 intro pins s σ H Q I h
 exact wpAny_BinOp (AC ha hb I h λv u s2 x y H2 I2 rx ry q=>ho pins s2 σ H2 x y v u Q I2 rx ry q)
theorem yF {op:UnaryOp}{r:V->Hp->VK->Prop}(ho:UnR X (unaryOp op) r)(ha:PE X a ta):PE X (.UnaryOp op a pos) (tUn r ta):=by
 intro pins s σ H Q I h
 exact UnaryOp_ (thn (ha pins s σ H _ I h) λv s1 ⟨x,H1,I1,r1,q1⟩=>ho pins s1 σ H1 x v Q I1 r1 q1)
theorem opI {f:Value->Value->Sem Value}{C:Int->Int->Prop}{g:Int->Int->Int}
  (rule:∀(i j:Int) (t u:Tok) (s:Shared) (Q:Value->Shared->Prop) (E:Value->Shared->Prop),C i j->Q (.int (g i j) s.toks) { s with toks:=s.toks+1 }->wpAny (model X.prog X.w) X.A (f (.int i t) (.int j u)) Q E s) :
  OpR X f (rI C λi j=>.int (g i j)):=by
 intro pins s σ H x y v u Q I rx ry h
 obtain⟨i,j,rfl,rfl,hc,q⟩:=h
 obtain⟨t,rfl⟩:=rx
 obtain⟨t',rfl⟩:=ry
 exact rule i j t t' s _ _ hc ⟨.int (g i j),H,I.tok _,⟨_,rfl⟩,q⟩
theorem BO {f:Value->Value->Sem Value}{g:Int->Int->Int}
  (rule:∀(i j:Int) (t u:Tok) (s:Shared) (Q:Value->Shared->Prop) (E:Value->Shared->Prop),Q (.int (g i j) s.toks) { s with toks:=s.toks+1 }->wpAny (model X.prog X.w) X.A (f (.int i t) (.int j u)) Q E s) :
  OpR X f (rI0 λi j=>.int (g i j)):=by
 intro pins s σ H x y v u Q I rx ry h
 obtain⟨i,j,rfl,rfl,q⟩:=h
 obtain⟨t,rfl⟩:=rx
 obtain⟨t',rfl⟩:=ry
 exact rule i j t t' s _ _ ⟨.int (g i j),H,I.tok _,⟨_,rfl⟩,q⟩
theorem AU {f:Value->Value->Sem Value}{g:Int->Int->Bool}
  (rule:∀(i j:Int) (t u:Tok) (s:Shared) (Q:Value->Shared->Prop) (E:Value->Shared->Prop),Q (.bool (g i j)) s->wpAny (model X.prog X.w) X.A (f (.int i t) (.int j u)) Q E s) :
  OpR X f (rI0 λi j=>.bl (g i j)):=by
 intro pins s σ H x y v u Q I rx ry h
 obtain⟨i,j,rfl,rfl,q⟩:=h
 obtain⟨t,rfl⟩:=rx
 obtain⟨t',rfl⟩:=ry
 exact rule i j t t' s _ _ ⟨.bl (g i j),H,I,rfl,q⟩
def Dn (i j:Int):Prop:=0<j/\j<1073741824
def xA (i j:Int):Prop:=0<=j/\j<=1000000/\i.natAbs<2 ^ 64
def vt (i j:Int):Prop:=(-(2 ^ 64)<i/\i<2 ^ 64)\/(-(2 ^ 64)<j/\j<2 ^ 64)
theorem vt.ok {i j:Int}(h:vt i j):IntMulOk i j:=by
 rcases h with ⟨h1,h2⟩ | ⟨h1,h2⟩
 .exact .of_left (intBits_le_64 h1 h2)
 .exact .of_right (intBits_le_64 h1 h2)
theorem V3:OpR X (binaryOp .Add) (rI0 λi j=>.int (i+j)):=BO λ_ _ _ _ _ _ _ q=>add_int q
theorem uk:OpR X (binaryOp .Sub) (rI0 λi j=>.int (i-j)):=BO λ_ _ _ _ _ _ _ q=>sub_int q
theorem bD:OpR X (binaryOp .Mult) (rI vt λi j=>.int (i*j)):=opI λ_ _ _ _ _ _ _ hc q=>mul_int q hc.ok
theorem jM:OpR X (binaryOp .FloorDiv) (rI Dn λi j=>.int (i / j)):=opI λi j _ _ _ _ _ hc q=>by
 have h1:(0:Int)<j:=hc.1
 have h2:j<1073741824:=hc.2
 exact floordiv_int (by omega) (by rw[Int.fdiv_eq_ediv_of_nonneg i (by omega)];exact q) (.inl (PyProof.noPylong_small (by omega)))
theorem X6:OpR X (binaryOp .Mod) (rI (λ_ j=>0<j) λi j=>.int (i % j)):=opI λi j _ _ _ _ _ hc q=>by
 have h1:(0:Int)<j:=hc
 exact mod_int' (by omega) (by rw[Int.fmod_eq_emod_of_nonneg i (by omega)];exact q)
theorem vN:OpR X (binaryOp .Pow) (rI xA λi j=>.int (i ^ j.toNat)):=opI λ_ _ _ _ _ _ _ hc q=>pow_int_small hc.1 hc.2.1 hc.2.2 q
theorem unI {f:Value->Sem Value}{g:Int->Int}
  (rule:∀(i:Int) (t:Tok) (s:Shared) (Q:Value->Shared->Prop) (E:Value->Shared->Prop),Q (.int (g i) s.toks) { s with toks:=s.toks+1 }->wpAny (model X.prog X.w) X.A (f (.int i t)) Q E s) :
  UnR X f (rU λi=>.int (g i)):=by
 intro pins s σ H x v Q I rx h
 obtain⟨i,rfl,q⟩:=h
 obtain⟨t,rfl⟩:=rx
 exact rule i t s _ _ ⟨.int (g i),H,I.tok _,⟨_,rfl⟩,q⟩
theorem tT:UnR X (unaryOp .USub) (rU λi=>.int (-i)):=unI λ_ _ _ _ _ q=>neg_int q
end
def BQ:V->V->Bool
 | .non,.non=>true | .non,.int _=>true | .int _,.non=>true | .non,.bl _=>true | .bl _,.non=>true | .non,.str _=>true | .str _,.non=>true
 | .int _,.int _=>true | .bl _,.bl _=>true | .str _,.str _=>true | .byt _,.byt _=>true
 | .int _,.str _=>true | .str _,.int _=>true | .bl _,.str _=>true | .str _,.bl _=>true
 | _,_=>false
def rEq:R2:=λx y H Q=>BQ x y=true/\Q (.bl (decide (x=y))) H
def rNe:R2:=λx y H Q=>BQ x y=true/\Q (.bl (!decide (x=y))) H
theorem qy {i j:Int}:decide (V.int i=V.int j)=(i == j):=by
 rw[JW]
 simp
theorem sH {i j:Bool}:decide (V.bl i=V.bl j)=(i == j):=by
 rw[JW]
 simp
theorem pj {i j:Str}:decide (V.str i=V.str j)=(i == j):=by
 rw[JW]
 simp
theorem pX {i j:Array UInt8}:decide (V.byt i=V.byt j)=(i.toList == j.toList):=by
 rw[JW]
 cases i
 cases j
 simp
section
variable {X:Cx}{a b c:Expr}{ta tb tc:TE}{pos:Pos}
theorem l7 {pins:List (Addr×Obj)}{σ:St}{H:Hp}{s:Shared}{Q:VK}{k k':Bool}(I:Inv X pins σ H s)(q:Q (.bl k) H)(e:k=k'):EP X pins σ Q (.bool k') s:=by
 subst e
 exact⟨.bl k,H,I,rfl,q⟩
theorem vd:OpR X (compareOp .Eq) rEq:=by
 intro pins s σ H x y v u Q I rx ry h
 obtain⟨hs,q⟩:=h
 cases x with
 | non =>
  cases rx
  cases y with
  | non=>cases ry;exact PySem.EqNone.eq_none_none (l7 I q (by simp))
  | bl j=>cases ry;exact PySem.EqNone.eq_none_bool (l7 I q (by simp))
  | int j=>obtain⟨t',rfl⟩:=ry;exact PySem.EqNone.eq_none_int (l7 I q (by simp))
  | str j=>obtain⟨t',rfl⟩:=ry;exact PySem.EqNone.eq_none_str (l7 I q (by simp))
  | _=>exact absurd (show false=true from hs) Ia
 | bl i =>
  cases rx
  cases y with
  | non=>cases ry;exact PySem.EqNone.eq_bool_none (l7 I q (by simp))
  | bl j=>cases ry;exact eq_bool (l7 I q sH)
  | str j=>obtain⟨t',rfl⟩:=ry;exact PySem.EqMixed.eq_bool_str (l7 I q (by simp))
  | _=>exact absurd (show false=true from hs) Ia
 | int i =>
  obtain⟨t,rfl⟩:=rx
  cases y with
  | non=>cases ry;exact PySem.EqNone.eq_int_none (l7 I q (by simp))
  | int j=>obtain⟨t',rfl⟩:=ry;exact eq_int (l7 I q qy)
  | str j=>obtain⟨t',rfl⟩:=ry;exact PySem.EqMixed.eq_int_str (l7 I q (by simp))
  | _=>exact absurd (show false=true from hs) Ia
 | str i =>
  obtain⟨t,rfl⟩:=rx
  cases y with
  | non=>cases ry;exact PySem.EqNone.eq_str_none (l7 I q (by simp))
  | bl j=>cases ry;exact PySem.EqMixed.eq_str_bool (l7 I q (by simp))
  | int j=>obtain⟨t',rfl⟩:=ry;exact PySem.EqMixed.eq_str_int (l7 I q (by simp))
  | str j=>obtain⟨t',rfl⟩:=ry;exact eq_str (l7 I q pj)
  | _=>exact absurd (show false=true from hs) Ia
 | byt i =>
  obtain⟨t,rfl⟩:=rx
  cases y with
  | byt j=>obtain⟨t',rfl⟩:=ry;exact PySem.W.eq_bytes (l7 I q pX)
  | _=>exact absurd (show false=true from hs) Ia
 | _=>cases y <;> exact absurd (show false=true from hs) Ia
theorem BF:OpR X (compareOp .NotEq) rNe:=by
 intro pins s σ H x y v u Q I rx ry h
 obtain⟨hs,q⟩:=h
 cases x with
 | non =>
  cases rx
  cases y with
  | non=>cases ry;exact PySem.EqNone.ne_none_none (l7 I q (by simp))
  | bl j=>cases ry;exact PySem.EqNone.ne_none_bool (l7 I q (by simp))
  | int j=>obtain⟨t',rfl⟩:=ry;exact PySem.EqNone.ne_none_int (l7 I q (by simp))
  | str j=>obtain⟨t',rfl⟩:=ry;exact PySem.EqNone.ne_none_str (l7 I q (by simp))
  | _=>exact absurd (show false=true from hs) Ia
 | bl i =>
  cases rx
  cases y with
  | non=>cases ry;exact PySem.EqNone.ne_bool_none (l7 I q (by simp))
  | bl j=>cases ry;exact ne_bool (l7 I q (IK not sH))
  | str j=>obtain⟨t',rfl⟩:=ry;exact PySem.EqMixed.ne_bool_str (l7 I q (by simp))
  | _=>exact absurd (show false=true from hs) Ia
 | int i =>
  obtain⟨t,rfl⟩:=rx
  cases y with
  | non=>cases ry;exact PySem.EqNone.ne_int_none (l7 I q (by simp))
  | int j=>obtain⟨t',rfl⟩:=ry;exact ne_int (l7 I q (IK not qy))
  | str j=>obtain⟨t',rfl⟩:=ry;exact PySem.EqMixed.ne_int_str (l7 I q (by simp))
  | _=>exact absurd (show false=true from hs) Ia
 | str i =>
  obtain⟨t,rfl⟩:=rx
  cases y with
  | non=>cases ry;exact PySem.EqNone.ne_str_none (l7 I q (by simp))
  | bl j=>cases ry;exact PySem.EqMixed.ne_str_bool (l7 I q (by simp))
  | int j=>obtain⟨t',rfl⟩:=ry;exact PySem.EqMixed.ne_str_int (l7 I q (by simp))
  | str j=>obtain⟨t',rfl⟩:=ry;exact ne_str (l7 I q (IK not pj))
  | _=>exact absurd (show false=true from hs) Ia
 | byt i =>
  obtain⟨t,rfl⟩:=rx
  cases y with
  | byt j=>obtain⟨t',rfl⟩:=ry;exact PySem.W.ne_bytes (l7 I q (IK not pX))
  | _=>exact absurd (show false=true from hs) Ia
 | _=>cases y <;> exact absurd (show false=true from hs) Ia
theorem yx:OpR X (compareOp .Lt) (rI0 λi j=>.bl (decide (i<j))):=AU λ_ _ _ _ _ _ _ q=>lt_int q
theorem yy:OpR X (compareOp .Gt) (rI0 λi j=>.bl (decide (j<i))):=AU λ_ _ _ _ _ _ _ q=>gt_int q
theorem yX:OpR X (compareOp .GtE) (rI0 λi j=>.bl (decide (j<=i))):=AU λ_ _ _ _ _ _ _ q=>ge_int q
theorem An:OpR X (compareOp .Is) (λx y H Q=>y = .non/\Q (.bl (decide (x = .non))) H):=by
 intro pins s σ H x y v u Q I rx ry h
 obtain⟨rfl,q⟩:=h
 cases ry
 refine is_none_gen (l7 I q ?_)
 cases x <;> first
  | (cases rx;rfl)
  | (obtain⟨t,rfl⟩:=rx;rfl)
theorem xN:OpR X (compareOp .IsNot) (λx y H Q=>y = .non/\Q (.bl (!decide (x = .non))) H):=by
 intro pins s σ H x y v u Q I rx ry h
 obtain⟨rfl,q⟩:=h
 cases ry
 refine isnot_none_gen (l7 I q ?_)
 cases x <;> first
  | (cases rx;rfl)
  | (obtain⟨t,rfl⟩:=rx;rfl)
theorem W2 (b:Expr){op:CmpOp}(h:op ≠ .In:=by decide)(h2:op ≠ .NotIn:=by decide):behindInMarks op b=false:=by
 have e1:(op == CmpOp.In)=false:=by cases op <;> first | rfl | exact absurd rfl h
 have e2:(op == CmpOp.NotIn)=false:=by cases op <;> first | rfl | exact absurd rfl h2
 cases b <;> simp[behindInMarks,e1,e2]
theorem kC {op:CmpOp}{r:R2}(ho:OpR X (compareOp op) r)(ha:PE X a ta)(hb:PE X b tb)(hm:behindInMarks op b=false):PE X (.Compare a [op] [b] pos) (tOp r ta tb):=by
 intro pins s σ H Q I h
 exact wpAny_Compare1 (AC ha hb I h λv u s2 x y H2 I2 rx ry q=>ho pins s2 σ H2 x y v u Q I2 rx ry q) hm
def fZ (t:TE):TT:=λσ H Q=>t σ H λx H'=>∃k,x = .bl k/\Q k H'
theorem O6 {op:CmpOp}{r:R2}(ho:OpR X (compareOp op) r)(ha:PE X a ta)(hb:PE X b tb)(hm:behindInMarks op b=false):PT X (.Compare a [op] [b] pos) (fZ (tOp r ta tb)):=by
 intro pins s σ H Q I h
 refine wpAny_isTrue_Compare1 (thn (ha pins s σ H _ I h) λv s1 ⟨x,H1,I1,r1,q1⟩=>thn (hb pins s1 σ H1 _ I1 q1) λu s2 ⟨y,H2,I2,r2,q2⟩ =>
  thn (ho pins s2 σ H2 x y v u _ I2 r1 r2 q2) λc s3 ⟨z,H3,I3,r3,k,e,q3⟩=>?_) hm
 subst e
 cases r3
 exact Kq ⟨H3,I3,q3⟩
def uy (K:Fg)(x:V)(H:Hp)(k:Bool):Prop :=
 match x with
 | .non=>k=false
 | .bl b=>k=b
 | .int i=>k=(i != 0)
 | .str y=>y.length<=sizeLine/\k=((y.length:Int) != 0)
 | .byt y=>y.size<=sizeLine/\k=((y.size:Int) != 0)
 | .ref p=>(∃xs,SqL K H p xs/\k = !xs.isEmpty)\/(∃xs,SqT K H p xs/\k = !xs.isEmpty)\/∃kvs,H p=some (.dK kvs)/\k = !kvs.isEmpty
 | _=>False
theorem oh {κ:Type}{kvs:List (κ×V)}{vs:List (κ×Value)}(r:KV kvs vs):(!vs.isEmpty) = !kvs.isEmpty:=by
 cases r <;> rfl
theorem fN {xs:List V}{its:List Value}(r:i5 xs its):(!its.toArray.isEmpty) = !xs.isEmpty:=by
 cases r <;> simp
theorem Z4:(sizeLine:Nat)<2 ^ 63:=by rw[Io];decide
theorem zt:Dh X (λx H Q=>∃k,uy X.K x H k/\Q k H):=by
 intro pins s σ H x v Q I rx h
 obtain⟨k,e,q⟩:=h
 have hl:=Z4
 have hs:sizeLine=16777216:=Io
 cases x with
 | non =>
  cases rx
  have e':k=false:=e
  subst e'
  exact truthy_none ⟨H,I,q⟩
 | bl b =>
  cases rx
  have e':k=b:=e
  subst e'
  exact Kq ⟨H,I,q⟩
 | int i =>
  obtain⟨t,rfl⟩:=rx
  have e':k=(i != 0):=e
  subst e'
  exact PySem.P.truthy_int ⟨H,I,q⟩
 | str y =>
  obtain⟨t,rfl⟩:=rx
  obtain⟨hy,e'⟩:y.length<=sizeLine/\k=((y.length:Int) != 0):=e
  subst e'
  exact PySem.P.truthy_str (by omega) ⟨H,I.tok _,q⟩
 | byt y =>
  obtain⟨t,rfl⟩:=rx
  obtain⟨hy,e'⟩:y.size<=sizeLine/\k=((y.size:Int) != 0):=e
  subst e'
  exact PySem.W.truthy_bytes (by omega) ⟨H,I.tok _,q⟩
 | ref p =>
  cases rx
  have e':(∃xs,SqL X.K H p xs/\k = !xs.isEmpty)\/(∃xs,SqT X.K H p xs/\k = !xs.isEmpty)\/∃kvs,H p=some (.dK kvs)/\k = !kvs.isEmpty:=e
  rcases e' with ⟨xs,hx,e'⟩ | ⟨xs,hx,e'⟩ | ⟨kvs,hx,e'⟩
  .subst e'
   obtain⟨its,r,pl,hz⟩:=I.list hx
   have hlen:=r.length
   exact wpAny_truthy_list pl.isList (by simp only[HQ];omega) ⟨H,I.tok _,by rw[fN r];exact q⟩
  .subst e'
   obtain⟨its,r,pl,hz⟩:=I.tuple hx
   have hlen:=r.length
   exact truthy_tuple pl (by simp only[HQ];omega) ⟨H,I.tok _,by rw[fN r];exact q⟩
  .subst e'
   obtain⟨hz,hS,vs,r,m⟩:kvs.length<=sizeLine/\(p == sysModules)=false/\∃vs,KV kvs vs/\s.heap.DictOf (A8 X.prog X.w) p vs:=I.hok p _ hx
   have hlen:kvs.length=vs.length:=LQ r
   exact wpAny_truthy_dict hS m (by omega) ⟨H,I.tok _,by rw[oh r];exact q⟩
 | _=>exact(show False from e).elim
theorem uK (ha:PE X a ta)(he:∀whole,isTrue a X.env whole=(do let v <-whole;standAt a.pos;holding [v] (truthy v))) :
  PT X a (λσ H Q=>ta σ H λx H'=>∃k,uy X.K x H' k/\Q k H'):=by
 intro pins s σ H Q I h
 exact isTrue_plain (thn (ha pins s σ H _ I h) λv s1 ⟨x,H1,I1,r1,q1⟩=>zt pins s1 σ H1 x v Q I1 r1 q1) (he _)
theorem nr:OpR X (binaryOp .Add) (λx y H Q=>∃i j,x = .str i/\y = .str j/\i.length+j.length<=sizeLine/\Q (.str (i++j)) H):=by
 intro pins s σ H x y v u Q I rx ry h
 obtain⟨i,j,rfl,rfl,hz,q⟩:=h
 obtain⟨t,rfl⟩:=rx
 obtain⟨t',rfl⟩:=ry
 exact add_str (λt' tk=>⟨.str (i++j),H,I.tok _,⟨_,rfl⟩,q⟩) hz
theorem N9 {x:V}{us:List Value}(r:i5 [x] us):∃u,us=[u]/\l6 x u:=by
 cases r with
 | cons r1 r2=>cases r2;exact⟨_,rfl,r1⟩
theorem yM {x y:V}{us:List Value}(r:i5 [x,y] us):∃u w',us=[u,w']/\l6 x u/\l6 y w':=by
 cases r with
 | cons r1 r2 =>
  cases r2 with
  | cons r3 r4=>cases r4;exact⟨_,_,rfl,r1,r3⟩
theorem rR (hc:X.calm=true):C5 X (.builtin "min") (λxs H Q=>∃i j,xs=[.int i,.int j]/\Q (.int (if j<i then j else i)) H):=by
 intro pins s σ H xs us Q I r h
 obtain⟨i,j,rfl,q⟩:=h
 obtain⟨u,w',rfl,⟨t,rfl⟩,⟨t',rfl⟩⟩:=yM r
 refine min_two_ints (I.ok.hd hc) λh' tk k=>⟨_,H,I.kept k,?_,q⟩
 by_cases hj:j<i
 .rw[HH hj,HH hj];exact⟨_,rfl⟩
 .rw[HM hj,HM hj];exact⟨_,rfl⟩
theorem iZ:C5 X (.type "int") (λxs H Q=>(∃i,xs=[.int i]/\Q (.int i) H)\/∃k,xs=[.bl k]/\Q (.int (if k then 1 else 0)) H):=by
 intro pins s σ H xs us Q I r h
 rcases h with ⟨i,rfl,q⟩ | ⟨k,rfl,q⟩
 .obtain⟨u,rfl,t,rfl⟩:=N9 r
  exact call_int_int ⟨.int i,H,I,⟨_,rfl⟩,q⟩
 .obtain⟨u,rfl,r1⟩:=N9 r
  cases r1
  exact call_int_bool ⟨.int (if k then 1 else 0),H,I.tok _,⟨_,rfl⟩,q⟩
end
end
section
structure ObjM (h:Heap) (x dx C:Addr) (mA:Str->Option Value):Prop where
 obj:h.get? x=some (PySem.W.instObj C dx)
 ns:h.Ns1 dx mA
 ne:dx≠x
theorem rH {h:Heap}{dx:Addr}{mA:Str->Option Value}(n:h.Ns1 dx mA):∃od,h.get? dx=some od/\∀name,PySem.W.lookIn name od=some (mA name):=by
 obtain⟨o,es,ep,ho,hd,hk,_,hm⟩:=n
 refine⟨o,ho,λname=>?_⟩
 have e:=hm name
 unfold nsFind findBy at e
 rw[<-Array.find?_toList]at e
 unfold PySem.W.lookIn
 rw[hd]
 dsimp only
 split
 .rename_i y q
  rw[q]at e
  exact IK some e
 .rename_i q
  rw[q]at e
  have a:es.toList.any (·.refKey)=false:=by
   rw[List.any_eq_false]
   intro y hy
   obtain⟨z,t,hkey⟩:=hk y (Array.mem_toList_iff.mp hy)
   simp[DictEntry.refKey,hkey]
  have a':¬es.toList.any (·.refKey)=true:=by rw[a];exact Ia
  rw[HM a']
  exact IK some e
theorem ObjM.look {h:Heap}{x dx C:Addr}{mA:Str->Option Value}(I:ObjM h x dx C mA):∃od,PySem.W.InstAt h x (PySem.W.instObj C dx) C (some od)/\∀name,PySem.W.lookIn name od=some (mA name) :=
 let ⟨od,ho,hl⟩:=rH I.ns
 ⟨od,⟨I.obj,rfl,rfl,ho⟩,hl⟩
section
variable {prog:Program}{w:World}{A:Around}{E:Value->Shared->Prop}{s:Shared}{K:Fg}{x dx C f:Addr}{mA:Str->Option Value}{name:Str}{v:Value}
end
theorem fK.some_of {v:V}{o:Option Value}(r:fK (some v) o):∃u,o=some u/\l6 v u:=by
 cases o with
 | none=>exact(show False from r).elim
 | some u=>exact⟨u,rfl,r⟩
section
variable {P:Program}{w:World}{H H':Hp}{h h':Heap}{a C dx:Addr}{fs fs':List (Str×V)}
theorem wd (hok:HOk P w H h)(e:H a=some (.ins C dx fs)):∃mA,ObjM h a dx C mA/\(∀f,fK (fs.lookup f) (mA f))/\PySem.Within mA (fs.map (·.1))/\fs.length<=1000/\H dx=some (.own a):=by
 obtain⟨d,z,ne,ob,mA,n,r,q⟩:=(show A7 P w H h a (.ins C dx fs) from hok a _ e)
 exact⟨mA,⟨ob,n,ne⟩,r,q,z,d⟩
end
structure Cls (K:Fg) (C:Addr):Prop where
 pg:PySem.W.plainGet K C Str.empty=true
 hd:PySem.W.hasDictIn K C=true
 po:PySem.W.plainOver K C=true
 sa:PySem.W.findIn K (.ref C) "__setattr__" = some (some (.builtin "object.__setattr__"))
theorem Cls.get {K:Fg}{C:Addr}(c:Cls K C)(f:Str):PySem.W.plainGet K C f=true:=c.pg
section
variable {X:Cx}{pins:List (Addr×Obj)}{σ:St}{H:Hp}{s:Shared}{a C dx:Addr}{fs:List (Str×V)}{f:Str}{v:V}{A:Around}{E:Value->Shared->Prop}
end
section
variable {X:Cx}{o e value:Expr}{f:Str}{pos pos' tpos:Pos}{ta tv:TE}
end
section
variable {X:Cx}{pins:List (Addr×Obj)}{σ:St}{H:Hp}{s:Shared}{A:Around}{E:Value->Shared->Prop}{Q:Value->Shared->Prop}{c:Value}{b:Bool}
inductive TyOf (K:Fg) (H:Hp):V->Value->Prop where
 | non:TyOf K H .non (.type "NoneType")
 | bl (x:Bool):TyOf K H (.bl x) (.type "bool")
 | int (i:Int):TyOf K H (.int i) (.type "int")
 | str (x:Str):TyOf K H (.str x) (.type "str")
 | flt (x:UInt64):TyOf K H (.flt x) (.type "float")
 | lst {a:Addr} {xs:List V} (e:H a=some (.lst xs)):TyOf K H (.ref a) (.type "list")
 | frz {a:Addr} {o:Obj} {xs:List V} (e:H a=some (.frz o (.lst xs))):TyOf K H (.ref a) (.type "list")
 | tup {a:Addr} {xs:List V} (e:H a=some (.tup xs)):TyOf K H (.ref a) (.type "tuple")
 | dK {a:Addr} {kvs:List (Key×V)} (e:H a=some (.dK kvs)):TyOf K H (.ref a) (.type "dict")
 | dT {a:Addr} {kvs:List (List Key×V)} (e:H a=some (.dT kvs)):TyOf K H (.ref a) (.type "dict")
 | ins {a C dx:Addr} {fs:List (Str×V)} (e:H a=some (.ins C dx fs)) (cl:Cls K C) (ha:PySem.W.findIn K (.ref C) "__class__" = some (some (.builtin "object.__class__")))
   (hn:PySem.W.specialIn K (.builtin "object.__class__") "__get__" = some (some (.builtin "getset_descriptor.__get__"))) (htk:PySem.W.takesIn K (.builtin "object.__class__")=some true)
   (hm:PySem.W.mroIn K C (.type "object")=some true):TyOf K H (.ref a) (.ref C)
theorem aD {x:V}{u t:Value}(I:Inv X pins σ H s)(rx:l6 x u)(ty:TyOf X.K H x t)(e:PySem.W.kitOne X.K t c=some b)(h:∀tk,Q (.bool b) { s with toks:=tk }) :
  wpAny (model X.prog X.w) A (call (.builtin "isinstance") [u,c]) Q E s:=by
 cases ty with
 | non=>cases(show u=Value.none from rx);exact Jf PySem.W.kitx_none I.kIn True.intro e (λz=>nomatch z) h
 | bl y=>cases(show u=Value.bool y from rx);exact Jf PySem.W.kitx_bool I.kIn True.intro e (λz=>nomatch z) h
 | int i=>obtain⟨t,q⟩:=(show ∃t,u=Value.int i t from rx);cases q;exact Jf PySem.W.kitx_int I.kIn True.intro e (λz=>nomatch z) h
 | str y=>obtain⟨t,q⟩:=(show ∃t,u=Value.str y t from rx);cases q;exact Jf PySem.W.kitx_str I.kIn True.intro e (λz=>nomatch z) h
 | flt y=>obtain⟨t,q⟩:=(show ∃t,u=Value.float y t from rx);cases q;exact Jf PySem.W.kitx_float I.kIn True.intro e (λz=>nomatch z) h
 | @lst a xs ea =>
  cases(show u=Value.ref a from rx)
  obtain⟨_,_,n,_,h1⟩:=(show A7 X.prog X.w H s.heap a (.lst xs) from I.hok a _ ea)
  exact Jf LX I.kIn ⟨_,h1,rfl⟩ e (λz=>nomatch z) h
 | @frz a ob xs ea =>
  cases(show u=Value.ref a from rx)
  obtain⟨_,_,_,n,_,h1⟩:=(show A7 X.prog X.w H s.heap a (.frz ob (.lst xs)) from I.hok a _ ea)
  exact Jf LX I.kIn ⟨_,h1,rfl⟩ e (λz=>nomatch z) h
 | @tup a xs ea =>
  cases(show u=Value.ref a from rx)
  obtain⟨_,_,_,p⟩:=(show A7 X.prog X.w H s.heap a (.tup xs) from I.hok a _ ea)
  obtain⟨o,h1,h2,_⟩:=p
  exact Jf PySem.W.kitx_tuple I.kIn ⟨o,h1,h2⟩ e (λz=>nomatch z) h
 | @dK a kvs ea =>
  cases(show u=Value.ref a from rx)
  obtain⟨_,_,vs,_,p⟩:=(show A7 X.prog X.w H s.heap a (.dK kvs) from I.hok a _ ea)
  obtain⟨o,es,ep,h1,h2,_⟩:=p
  exact Jf PySem.W.kitx_dict I.kIn ⟨o,h1,h2.1⟩ e (λz=>nomatch z) h
 | @dT a kvs ea =>
  cases(show u=Value.ref a from rx)
  obtain⟨_,_,xs,_,o,es,ep,h1,h2,_⟩:=(show A7 X.prog X.w H s.heap a (.dT kvs) from I.hok a _ ea)
  exact Jf PySem.W.kitx_dict I.kIn ⟨o,h1,h2.1⟩ e (λz=>nomatch z) h
 | @ins a C dx fs ea cl ha hn htk hm =>
  cases(show u=Value.ref a from rx)
  obtain⟨mA,O,_⟩:=wd I.hok ea
  obtain⟨od,J,_⟩:=O.look
  exact Jf (PySem.W.kitx_own (cl.get _) cl.hd ha hn htk hm) I.kIn J e (λz=>nomatch z) h
end
end
section
structure Room (k:Nat) (A:Around):Prop where
 hd:A.handled=none
 dp:A.depth+3*k+5<recursionLimit
 un:A.units+16*k+200<cLine
 gd:A.guards=some []
theorem Room.mono {j k:Nat}{A:Around}(r:Room k A)(h:j<=k):Room j A:=⟨r.hd,by have:=r.dp;omega,by have:=r.un;omega,r.gd⟩
theorem Room.deeper {k:Nat}{A:Around}(r:Room (k+1) A)(env:Env):Room k (A.deeper env) :=
 ⟨r.hd,by have:=r.dp;show A.depth+1+3*k+5<_;omega,by have:=r.un;show A.units+3+16*k+200<_;omega,r.gd⟩
theorem Room.depth {k:Nat}{A:Around}(r:Room k A):A.depth<recursionLimit:=by have:=r.dp;omega
theorem Room.units {k:Nat}{A:Around}(r:Room k A):A.units+64<cLine:=by have:=r.un;omega
def C4:TA:=λ_ H Q=>Q [] H
def l9 (ta:TE)(tr:TA):TA:=λσ H Q=>ta σ H λx H1=>tr σ H1 λxs H2=>Q (x::xs) H2
section
variable {X:Cx}{e:Expr}{es:List Expr}{te:TE}{t:TA}{pos:Pos}
theorem j9:PA X [] C4:=λ_ _ _ _ H Q I h=>Calls.spliced_nil ⟨[],H,I,.nil,h⟩
theorem f9 (ha:PE X e te)(hr:PA X es t)(hs:starEach (e::es) X.env=(false,eval e X.env)::starEach es X.env:=by rfl):PA X (e::es) (l9 te t):=by
 intro pos pins s σ H Q I h
 rw[hs]
 show wpAny _ _ (spliced ((false,eval e X.env)::backTo pos (starEach es X.env))) _ _ s
 refine Calls.spliced_cons (thn (ha pins s σ H _ I h) λu s1 ⟨x,H1,I1,r1,q1⟩=>?_)
 exact thn (hr pos pins s1 σ H1 _ I1 q1) λus s2 ⟨xs,H2,I2,r2,q2⟩=>⟨x::xs,H2,I2,.cons r1 r2,q2⟩
def qZ (t:TA):TE:=λσ H Q=>t σ H λxs H1=>xs.length<=sizeLine/\∀p,H1 p=none->Q (.ref p) (upd H1 p (.tup xs))
def dB (t:TA):TE:=λσ H Q=>t σ H λxs H1=>xs.length<=sizeLine/\∀p,H1 p=none->Q (.ref p) (upd H1 p (.lst xs))
theorem gc {x1}(h:PA X es t):PE X (.Tuple es x1 pos) (qZ t):=by
 intro pins s σ H Q I hq
 refine wpAny_Tuple_spliced (thn (h pos pins s σ H _ I hq) λus s1 ⟨xs,H1,I1,r,z,q⟩=>⟨by rw[<-r.length];exact z,?_⟩)
 have hf:H1 s1.heap.objs.size=none:=I1.hok.fresh (HK _)
 refine⟨.ref s1.heap.objs.size,upd H1 s1.heap.objs.size (.tup xs),I1.laid (t':=s1.toks) (λb u e=>HI _ e) (HK _) ?_,rfl,q _ hf⟩
 exact⟨z,us,r,⟨_,Ii _ rfl,rfl,_,rfl⟩⟩
theorem N4 (h:PA X es t):PE X (.List es pos) (dB t):=by
 intro pins s σ H Q I hq
 refine wpAny_List_spliced (thn (h pos pins s σ H _ I hq) λus s1 ⟨xs,H1,I1,r,z,q⟩=>⟨by rw[<-r.length];exact z,?_⟩)
 have hf:H1 s1.heap.objs.size=none:=I1.hok.fresh (HK _)
 refine⟨.ref s1.heap.objs.size,upd H1 s1.heap.objs.size (.lst xs),I1.laid (t':=s1.toks) (λb u e=>HI _ e) (HK _) ?_,rfl,q _ hf⟩
 exact⟨z,us,0,r,Ii _ rfl⟩
end
abbrev Sp:=List V->Hp->VK->XK->Prop
abbrev CXT:=List Env->Hp->Shared->XK->Value->Shared->Prop
structure Env0 (P:Program) (w:World) (K:Fg) (mg:Str->Option Value) (base:Heap) (A:Around) (outer:List Env) (s:Shared) (H:Hp):Prop where
 frames:A.frames=some outer
 mod:Mod K mg base
 bs:∀b o,base.get? b=some o->s.heap.get? b=some o/\H b=none
 bsz:base.objs.size<=s.heap.objs.size
 funs:s.heap.FunFrames base outer
 frf:∀b∈frs outer,H b=none
 hok:HOk P w H s.heap
 bare:AllBare s.gens
def CE (outer:List Env)(P:Program)(w:World)(H:Hp)(s:Shared)(Q:VK)(u:Value)(s':Shared):Prop :=
 ∃v H',s'.os=s.os/\AllBare s'.gens/\Un (frs outer) [] H H' s.heap s'.heap/\HOk P w H' s'.heap/\l6 v u/\Q v H'
def CR (CX:CXT)(outer:List Env)(P:Program)(w:World)(H:Hp)(s:Shared)(Q:VK)(E:XK)(r:Result)(s':Shared):Prop :=
 match r with
 | .ok (.ret u)=>CE outer P w H s Q u s'
 | .ok _=>False
 | .error e=>CX outer H s E e s'
structure FnOk (P:Program) (w:World) (K:Fg) (mg:Str->Option Value) (base:Heap) (CX:CXT) (k:Nat) (f:Addr) (fd:FuncData) (ps:List Str) (sp:Sp):Prop where
 len:∀vs H Q E,sp vs H Q E->vs.length=ps.length
 run:∀(A:Around) (outer:List Env) (s:Shared) (H:Hp) (args:Args) (us:List Value) (vs:List V) (Q:VK) (E:XK),Room k A->Env0 P w K mg base A outer s H->BindsTo s fd args (ps.zip us)->i5 vs us->sp vs H Q E ->
  codeAny (model P w) A (.call (.ref f) args) (CR CX outer P w H s Q E) s
theorem FnOk.imp {P:Program}{w:World}{K:Fg}{mg:Str->Option Value}{base:Heap}{CX:CXT}{k:Nat}{f:Addr}{fd:FuncData}{ps:List Str}{sp sp':Sp}(F:FnOk P w K mg base CX k f fd ps sp)
  (h:∀vs H Q E,sp' vs H Q E->sp vs H Q E):FnOk P w K mg base CX k f fd ps sp' :=
 ⟨λvs H Q E q=>F.len vs H Q E (h _ _ _ _ q),λA outer s H args us vs Q E hr he hb hv hs=>F.run A outer s H args us vs Q E hr he hb hv (h _ _ _ _ hs)⟩
section
variable {X:Cx}{pins:List (Addr×Obj)}{σ:St}{H:Hp}{s s':Shared}
theorem Inv.env0 (I:Inv X pins σ H s):Env0 X.prog X.w X.K X.mg X.base X.A X.stack s H :=
 ⟨I.ok.frames,I.ok.mod,I.bs,Im I.ok.bsz I.sz,I.stack,I.stkFree,I.hok,I.bare⟩
theorem Inv.after {Q:VK}{u:Value}(I:Inv X pins σ H s)(h:CE X.stack X.prog X.w H s Q u s'):EP X pins σ Q u s':=by
 obtain⟨v,H',os,bare,un,hok,r,q⟩:=h
 obtain⟨hh,g,d,t,os'⟩:=s'
 obtain rfl:os'=s.os:=os
 exact⟨v,H',I.call (h':=hh) (g':=g) (d':=d) (t':=t) (ch:=[]) un hok bare (λb z=>absurd z (by simp)),r,q⟩
end
def U3 (sp:Sp)(dvs:List V)(E:XK)(t:TA):TE:=λσ H Q=>t σ H λvs H1=>sp (vs++dvs) H1 Q E
def dZ (K:Fg)(fd:FuncData)(ps:List Str)(ds:List Value):Prop :=
 ∀(s:Shared) (us:List Value),K.In s.heap->(us++ds).length=ps.length->BindsTo s fd ⟨us,[]⟩ (ps.zip (us++ds))
theorem dZ.all {K:Fg}{fd:FuncData}{ps:List Str}(h:∀us:List Value,us.length=ps.length->bindArgs fd ⟨us,[]⟩=pure (ps.zip us)):dZ K fd ps []:=λs us _ hl=>by
 rw[IE]at hl ⊢
 exact .of_eq (h us hl)
def oG (CX:CXT)(X:Cx)(E:XK):Prop:=∀(pins:List (Addr×Obj)) (σ:St) (H:Hp) (s:Shared) (e:Value) (s':Shared),Inv X pins σ H s->CX X.stack H s E e s'->X.xe e s'
section
variable {X:Cx}{CX:CXT}{k:Nat}{f C:Addr}{fd:FuncData}{ps:List Str}{sp:Sp}{dvs:List V}{ds:List Value}{E:XK}{x m:Str}{p pos apos:Pos}{e o:Expr}{es:List Expr}{ta:TE}{t:TA}
theorem Bh {pins:List (Addr×Obj)}{σ:St}{H:Hp}{s:Shared}{Q:VK}{us:List Value}{vs:List V}(F:FnOk X.prog X.w X.K X.mg X.base CX k f fd ps sp)(hr:Room k X.A)(hb:dZ X.K fd ps ds)(hd:i5 dvs ds)(hx:oG CX X E)
  (I:Inv X pins σ H s) (r:i5 vs us) (h:sp (vs++dvs) H Q E):wpAny (model X.prog X.w) X.A (call (.ref f) us) (EP X pins σ Q) X.xe s:=by
 have r2:i5 (vs++dvs) (us++ds):=r.append hd
 have hl:(us++ds).length=ps.length:=by rw[<-r2.length];exact F.len _ _ _ _ h
 refine wpAny_call (codeAny_mono (F.run X.A X.stack s H ⟨us,[]⟩ (us++ds) (vs++dvs) Q E hr I.env0 (hb s us I.kIn hl) r2 h) λr s' hq=>?_)
 cases r with
 | error e=>exact hx pins σ H s e s' I hq
 | ok fl =>
  cases fl with
  | ret u=>exact I.after hq
  | next=>exact False.elim hq
  | brk=>exact False.elim hq
  | cont=>exact False.elim hq
theorem vW (F:FnOk X.prog X.w X.K X.mg X.base CX k f fd ps sp)(hr:Room k X.A)(hg:Gl X x)(hm:X.mg x=some (.ref f))(hk:PySem.W.keepIn X.K (.ref f)=true)(hb:dZ X.K fd ps ds)(hd:i5 dvs ds)(hx:oG CX X E)
  (ha:PA X (e::es) t) (hdb:(x == ("__debug__":Str))=false:=by decide) (he:starEach (e::es) X.env=(false,eval e X.env)::starEach es X.env:=by rfl) (hpl:(backTo pos (starEach es X.env)).any (·.1)=false:=by rfl) :
  PE X (.Call (.Name x p) (e::es) [] pos) (U3 sp dvs E t):=by
 intro pins s σ H Q I h
 refine LJ (pP I hg hm ?_ hdb)
 refine PySem.W.callWith_K (h₀:=X.base) I.ok.mod.kin hk (thn (ha pos pins s σ H _ I h) λus s1 ⟨vs,H1,I1,r,q⟩=>⟨I1.kIn,?_⟩) he hpl
 exact Bh F hr hb hd hx I1 r q
end
section
variable {X:Cx}{CX:CXT}{k:Nat}{f C:Addr}{fd:FuncData}{ps ks:List Str}{sp:Sp}{E:XK}{x m:Str}{p pos apos kpos:Pos}{e o:Expr}{es:List Expr}{kws:List Keyword}{te ta:TE}{t tk:TA}{nm:Option Str}
variable {g:List Value->List Value->List Value}{gV:List V->List V->List V}
end
structure FnScope (N P:List Str) (sc:Scope):Prop where
 kind:sc.kind = .function:=by rfl
 co:sc.isCoroutine=false:=by rfl
 gen:sc.isGenerator=false:=by rfl
 nd:N.Nodup:=by decide +kernel
 pre:N.take P.length=P:=by rfl
 par:∀x∈P,sc.names.lookup x=some .local\/sc.names.lookup x=some .cell:=by decide +kernel
 nofree:∀y∈sc.names,y.2 ≠ .free:=by decide +kernel
theorem iQ {kindOf:Str->Option NameKind}{x:Str}:∀{binds:List (Str×Value)} {m:Str->Option Value},(∀v,(x,v) ∉ binds)->bindL kindOf binds m x=m x
 | [],_,_=>rfl
 | (n,v)::r,m,h=>by
  unfold bindL
  rw[iQ λw hw=>h w (HA _ hw)]
  split
  .have:x≠n:=by rintro rfl;exact h v HV
   simp[this]
  .rfl
theorem iE {kindOf:Str->Option NameKind}{x:Str}:∀{binds:List (Str×Value)} {m:Str->Option Value},(∀v,(x,v) ∉ binds)->bindC kindOf binds m x=m x
 | [],_,_=>rfl
 | (n,v)::r,m,h=>by
  unfold bindC
  rw[iE λw hw=>h w (HA _ hw)]
  split
  .rfl
  .have:x≠n:=by rintro rfl;exact h v HV
   simp[this]
theorem jf {kindOf:Str->Option NameKind}{x:Str}{v:Value}:∀{P:List Str} {vs:List Value} {i:Nat} {m:Str->Option Value},P.Nodup->P[i]? = some x->vs[i]? = some v->kindOf x=some .local ->
  bindL kindOf (P.zip vs) m x=some v
 | [],_,_,_,_,h,_,_=>by simp at h
 | _::_,[],_,_,_,_,h,_=>by simp at h
 | p::P,w::vs,0,m,nd,h1,h2,hk=>by
  simp at h1 h2;subst h1;subst h2
  show bindL kindOf ((p,w)::P.zip vs) m p=_
  unfold bindL
  rw[iQ λv hv=>(IS.mp nd).1 (Mi hv).1,HH hk]
  simp
 | p::P,w::vs,i+1,m,nd,h1,h2,hk=>by
  show bindL kindOf ((p,w)::P.zip vs) m x=_
  unfold bindL
  exact jf (i:=i) (IS.mp nd).2 (by simpa using h1) (by simpa using h2) hk
theorem iM {kindOf:Str->Option NameKind}{x:Str}{v:Value}:∀{P:List Str} {vs:List Value} {i:Nat} {m:Str->Option Value},P.Nodup->P[i]? = some x->vs[i]? = some v->kindOf x≠some .local ->
  bindC kindOf (P.zip vs) m x=some v
 | [],_,_,_,_,h,_,_=>by simp at h
 | _::_,[],_,_,_,_,h,_=>by simp at h
 | p::P,w::vs,0,m,nd,h1,h2,hk=>by
  simp at h1 h2;subst h1;subst h2
  show bindC kindOf ((p,w)::P.zip vs) m p=_
  unfold bindC
  rw[iE λv hv=>(IS.mp nd).1 (Mi hv).1,HM hk]
  simp
 | p::P,w::vs,i+1,m,nd,h1,h2,hk=>by
  show bindC kindOf ((p,w)::P.zip vs) m x=_
  unfold bindC
  exact iM (i:=i) (IS.mp nd).2 (by simpa using h1) (by simpa using h2) hk
def A5 (N:List Str)(vs:List V):St:=vs.map some++List.replicate (N.length-vs.length) none
def M8 (CX:CXT)(P:Program)(w:World)(K:Fg)(mg:Str->Option Value)(base:Heap)(N:List Str)(qual:Str)(scope:Scope)(f:Addr)(cd:Value)(A:Around)(outer:List Env)(s:Shared)(H:Hp)(E:XK):Cx where
 prog:=P
 w:=w
 K:=K
 mg:=mg
 base:=base
 A:=A.deeper (envOfC qual scope s.heap.objs.size f cd)
 N:=N
 s₀:=s
 H₀:=H
 env:=envOfC qual scope s.heap.objs.size f cd
 outer:=outer
 stack:=envOfC qual scope s.heap.objs.size f cd::outer
 ex:=[]
 calm:=true
 fn:=λ_=>true
 pn:=[]
 xe:=λe s'=>wpAny (model P w) (A.deeper (envOfC qual scope s.heap.objs.size f cd)) (leaving (envOfC qual scope s.heap.objs.size f cd) e) (λ_ s''=>CX outer H s E e s'') (λe' s''=>CX outer H s E e' s'') s'
theorem kP {sc:Scope}{n:Nat}{x:Str}(h:sc.names.lookup x=some .cell):∃c,(cellsFrom n sc.names []).lookup x=some c:=by
 have q:=PySem.W.cellsFrom_some sc.names n [] (.inl h)
 exact KF.mp q
theorem qD {CX:CXT}{P:Program}{w:World}{K:Fg}{mg:Str->Option Value}{base:Heap}{N ps:List Str}{qual:Str}{scope:Scope}{f:Addr}{cd:Value}{A:Around}{outer:List Env}{s s1:Shared}{H:Hp}{E:XK}{us:List Value}{vs:List V}
  (S:FnScope N ps scope) (hd:A.handled=none) (e0:Env0 P w K mg base A outer s H) (hl:vs.length=ps.length) (r:i5 vs us)
  (x:InCallC s s.heap.objs.size (bindL (envOfC qual scope s.heap.objs.size f cd).kindOf (ps.zip us) λ_=>none) (cellsFrom (s.heap.objs.size+1) scope.names []) (bindC (envOfC qual scope s.heap.objs.size f cd).kindOf (ps.zip us) λ_=>none) s1) :
  Inv (M8 CX P w K mg base N qual scope f cd A outer s H E) [] (A5 N vs) H s1:=by
 have hpl:ps.length<=N.length:=by have:=IK List.length S.pre;rw[IH]at this;omega
 obtain⟨h1,tk,rfl,hk⟩:=x.done
 have noA:∀b:Addr,b ∉ (M8 CX P w K mg base N qual scope f cd A outer s H E).ex:=λb z=>absurd (show b∈([]:List Addr) from z) (by simp)
 refine⟨⟨e0.mod,S.kind,rfl,rfl,HK _,λy z c h1 h2=>?_,λy hy=>?_,λy c _ h=>?_,λ_=>hd,Around.frames_deeper e0.frames,.inr ⟨rfl,rfl⟩,λb z=>absurd z (noA b),e0.bs,e0.bsz,λb _ _=>noA b,λb z=>absurd z (noA b),e0.funs,e0.frf⟩,
  rfl,e0.bare,Un.kept hk,⟨_,x.toInCall.ns,λi y v h1 h2 h3=>?_⟩,λy c h=>⟨_,x.cell y c h⟩,e0.hok.fresh (HK _),λy c h=>?_,λp hp=>absurd (show p∈([]:List (Addr×Obj)) from hp) (by simp),e0.hok.kept hk,?_⟩
 .exact name_of_addr x.apart (IX h1) (IX h2)
 .have hy:scope.names.lookup y=some .cell\/scope.names.lookup y=some .free:=hy
  rcases hy with hy | hy
  .exact kP hy
  .exact absurd rfl (S.nofree _ (IX hy))
 .exact Jm (x.above y c (IX h))
 .have hi:i<vs.length:=by
   unfold A5 at h2
   by_cases hi:i<vs.length
   .exact hi
   .rw[Ig (by simpa using hi)]at h2
    rw[IJ]at h2
    split at h2 <;> cases h2
  have ha:vs[i]? = some v:=by
   unfold A5 at h2
   rw[Ib (by simpa using hi),HP]at h2
   cases e:vs[i]? with
   | none=>rw[e]at h2;cases h2
   | some a=>rw[e]at h2;cases h2;rfl
  obtain⟨u,hu,rv⟩:=r.get ha
  have hp:ps[i]? = some y:=by
   rw[<-S.pre,List.getElem?_take_of_lt (by omega)];exact h1
  have ndP:ps.Nodup:=by rw[<-S.pre];exact S.nd.sublist (List.take_sublist _ _)
  refine⟨u,rv,?_⟩
  rcases S.par y (Iy hp) with k | k
  .exact .inl ⟨k,jf ndP hp hu k⟩
  .obtain⟨c,e⟩:=kP (n:=s.heap.objs.size+1) k
   refine .inr ⟨.inl k,c,e,?_⟩
   have q:=x.cell y c e
   rw[iM ndP hp hu (by show scope.names.lookup y≠_;rw[k];decide)]at q
   exact q
 .exact e0.hok.fresh (Jm (x.above y c (IX h)))
 .unfold A5
  show _=N.length
  rw[IA,Hz,Jj]
  omega
theorem yp {CX:CXT}{P:Program}{w:World}{K:Fg}{mg:Str->Option Value}{base:Heap}{k:Nat}{f:Addr}{name qual:Str}{params:Arguments}{body:List Stmt}{scope:Scope}{dV kV doc pm cdv ct oc:Value}{an od:Option Addr}
  {osl:Array (Option Value)} {N ps:List Str} {sp:Sp} (lk:K.lookup f=some ⟨oc,od,.func (PySem.W.fnOf name qual params body scope dV kV doc pm an cdv ct),osl⟩) (hcd:PySem.W.codeIn K cdv qual=true) (S:FnScope N ps scope)
  (len:∀vs H Q E,sp vs H Q E->vs.length=ps.length)
  (hbody:∀(A:Around) (outer:List Env) (s:Shared) (H:Hp) (vs:List V) (Q:VK) (E:XK),Room k (A.deeper (envOfC qual scope s.heap.objs.size f cdv))->sp vs H Q E ->
   ∃t,PSs (M8 CX P w K mg base N qual scope f cdv A outer s H E) body t/\t { nx:=λ_ H'=>Q .non H',rt:=Q } (A5 N vs) H) :
  FnOk P w K mg base CX (k+1) f (PySem.W.fnOf name qual params body scope dV kV doc pm an cdv ct) ps sp:=by
 refine⟨len,λA outer s H args us vs Q E hr e0 hb r hsp=>?_⟩
 have hl:=len _ _ _ _ hsp
 have KX:K.In s.heap:=e0.mod.kin.keeps λb o e=>(e0.bs b o e).1
 have lim:s.heap.NoLimit:=e0.mod.nolimit.keeps λb o e=>(e0.bs b o e).1
 have hkind:∀y∈ps.zip us,scope.names.lookup y.1=some .local\/(scope.names.lookup y.1=some .cell/\((cellsFrom (s.heap.objs.size+1) scope.names []).lookup y.1).isSome=true):=λ⟨n,v⟩ hy=>by
  rcases S.par n (Mi hy).1 with q | q
  .exact .inl q
  .exact .inr ⟨q,PySem.W.cellsFrom_some _ _ _ (.inl q)⟩
 refine codeAny_call_function hr.depth (KX _ _ lk) rfl S.co S.gen rfl (PySem.W.codeRec_of KX hcd) (hb _ _ _ _ ?_)
 refine wpAny_newFunctionEnv_cells S.kind hkind λenv he s1 x=>?_
 subst he
 refine⟨lim.keeps x.toInCall.keep,codeAny_func ?_⟩
 obtain⟨t,ht,hq⟩:=hbody A outer s H vs Q E (hr.deeper _) hsp
 have I:Inv (M8 CX P w K mg base N qual scope f cdv A outer s H E) [] (A5 N vs) H s1:=qD S hr.hd e0 hl r x
 refine Jp (ht [] s1 (A5 N vs) H _ I hq) (λfl s' hs=>?_) λe s' hs=>hs
 have fin:∀{σ':St} {H':Hp} {v:V} {u:Value},Inv (M8 CX P w K mg base N qual scope f cdv A outer s H E) [] σ' H' s'->l6 v u->Q v H'->CE outer P w H s Q u s' :=
  λ{σ' H' v u} J rv q=>⟨v,H',J.os,J.bare,J.base,J.hok,rv,q⟩
 cases fl with
 | ret u =>
  obtain⟨v,σ',H',J,rv,q⟩:=hs
  exact fin J rv q
 | next =>
  obtain⟨σ',H',J,q⟩:=hs
  exact fin (v:=V.non) (u:=Value.none) J rfl q
 | brk =>
  obtain⟨_,_,_,q⟩:=hs
  exact False.elim q
 | cont =>
  obtain⟨_,_,_,q⟩:=hs
  exact False.elim q
end
section
section
variable {X:Cx}{x:Str}{p pos:Pos}{e:Expr}{es:List Expr}{t:TA}{id T:String}{r:List V->Hp->VK->Prop}
def tCB (r:List V->Hp->VK->Prop)(t:TA):TE:=λσ H Q=>t σ H λvs H1=>r vs H1 Q
theorem Q9 (hc:C5 X (.builtin id) r)(hg:Gl X x)(hm:X.mg x=none)(hv:bootBuiltins x=some (.builtin id))(ha:PA X (e::es) t)(hn:x ≠ "__name__":=by decide)(hdb:(x == ("__debug__":Str))=false:=by decide)
  (he:starEach (e::es) X.env=(false,eval e X.env)::starEach es X.env:=by rfl) (hpl:(backTo pos (starEach es X.env)).any (·.1)=false:=by rfl):PE X (.Call (.Name x p) (e::es) [] pos) (tCB r t):=by
 intro pins s σ H Q I h
 refine LJ (Y1 I hg hm hv ?_ hn hdb)
 exact PyProof.Rows.callWith_builtin1 (thn (ha pos pins s σ H _ I h) λus s1 ⟨vs,H1,I1,r1,q1⟩=>hc pins s1 σ H1 vs us Q I1 r1 q1) he hpl
theorem ak (hc:C5 X (.type T) r)(hg:Gl X x)(hm:X.mg x=none)(hv:bootBuiltins x=some (.type T))(ha:PA X (e::es) t)(hn:x ≠ "__name__":=by decide)(hdb:(x == ("__debug__":Str))=false:=by decide)
  (he:starEach (e::es) X.env=(false,eval e X.env)::starEach es X.env:=by rfl) (hpl:(backTo pos (starEach es X.env)).any (·.1)=false:=by rfl):PE X (.Call (.Name x p) (e::es) [] pos) (tCB r t):=by
 intro pins s σ H Q I h
 refine LJ (Y1 I hg hm hv ?_ hn hdb)
 exact JF (thn (ha pos pins s σ H _ I h) λus s1 ⟨vs,H1,I1,r1,q1⟩=>hc pins s1 σ H1 vs us Q I1 r1 q1) he hpl
end
end
end L2
namespace HT
open PySem PyProof.Rows
section
open PySem.SeqAt
open PySem.AutoSeq1 (wpAny_loadPart')
open PySem.MeetsSeq PySem.MeetsSeq2 PySem.MeetsSeq3
end
section
variable {prog:Program}{w:World}{A:Around}{E:Value->Shared->Prop}{s:Shared}
theorem cat_tup {t b:Addr}{vs ws:List Value}{Q:Value->Shared->Prop}(ht:IsTup s.heap t vs.toArray)(hb:IsTup s.heap b ws.toArray)(hv:vs≠[])
  (h1:ws=[]->Q (.ref t) s) (h2:ws≠[]->Q (.ref s.heap.objs.size) { s with heap:=s.heap.push { cls:=.type "tuple",data:=.seq (vs++ws).toArray } })
  (hsz:vs.length+ws.length<=sizeLine):wpAny (model prog w) A (binaryOp .Add (.ref t) (.ref b)) Q E s:=by
 obtain⟨⟨cls,dd,data,sl⟩,ho,hc,n,hd⟩:=id ht
 obtain⟨⟨cls2,dd2,data2,sl2⟩,ho2,hc2,n2,hd2⟩:=id hb
 simp only at hc hd hc2 hd2
 subst hc hd hc2 hd2
 have e:vs.toArray++ws.toArray=(vs++ws).toArray:=by simp
 by_cases hw:ws=[]
 .exact concat_meets ⟨_,ho,rfl⟩ ⟨_,ho2,rfl⟩ noFill_tuple_add seq_tuple_add Lh KU (KG _ _)
   (tuple_addW1 t b vs.toArray ws.toArray n n2 dd dd2 sl sl2 (by simpa using hv) (by simp[hw])) ⟨ho,ho2,h1 hw⟩
 .refine concat_meets ⟨_,ho,rfl⟩ ⟨_,ho2,rfl⟩ noFill_tuple_add seq_tuple_add Lh KU (KG _ _)
   (tuple_addW2 t b vs.toArray ws.toArray n n2 dd dd2 sl sl2 (by simpa using hv) (by simpa using hw) (by rw[HQ,HQ];exact hsz)) ⟨ho,ho2,?_⟩
  rw[e]
  exact h2 hw
def sIx (n d:Nat):Option Int->Nat
 | none=>d
 | some v=>if v<0 then(v+(n:Int)).toNat else min v.toNat n
theorem sIx_none (n d:Nat):sIx n d none=d:=rfl
theorem sIx_nat (n d k:Nat):sIx n d (some (k:Int))=min k n:=by
 show(if (k:Int)<0 then((k:Int)+(n:Int)).toNat else min (k:Int).toNat n)=min k n
 rw[HM (by omega),Jq]
theorem zV (n d:Nat)(hd:d<=n)(o:Option Int):sIx n d o<=n:=by
 cases o with
 | none=>exact hd
 | some v =>
  show(if v<0 then(v+(n:Int)).toNat else min v.toNat n)<=n
  by_cases hv:v<0
  .rw[HH hv];omega
  .rw[HM hv];exact Nat.min_le_right _ _
theorem oX (v:Int)(n d:Nat):(if v<0 then max (v+(n:Int)) 0 else min v (n:Int))=((sIx n d (some v):Nat):Int):=by
 show(if v<0 then max (v+(n:Int)) 0 else min v (n:Int))=(((if v<0 then(v+(n:Int)).toNat else min v.toNat n):Nat):Int)
 by_cases hv:v<0
 .simp only[HH hv];omega
 .simp only[HM hv];omega
theorem ou (lo hi:Option Int)(n:Nat):Builtin.Slice.sliceAdjust lo hi 1 (n:Int)=(((sIx n 0 lo:Nat):Int),((sIx n n hi:Nat):Int)):=by
 have h1:¬((1:Int)<0):=by omega
 unfold Builtin.Slice.sliceAdjust
 simp only[h1,Ji]
 refine Prod.ext ?_ ?_
 .cases lo with
  | none=>rfl
  | some v=>exact oX v n 0
 .cases hi with
  | none=>rfl
  | some v=>exact oX v n n
theorem nL (i j:Nat):Builtin.Slice.slicePlaces (i:Int) (j:Int) 1=j-i:=by
 unfold Builtin.Slice.slicePlaces
 have h1:(1:Int) > 0:=by omega
 simp only[h1,Js,Int.ediv_one]
 split <;> omega
theorem bJ {v:Value}{o:Option Int}{Q:Option Int->Shared->Prop}(p:IsPart v o)(h:Q o s):wpAny (model prog w) A (Builtin.Slice.slicePartIndex v) Q E s:=by
 cases p with
 | none=>exact slicePart_none h
 | int i t=>exact slicePart_int h
theorem T5 {sl:Addr}{vl vu:Value}{lo hi:Option Int}{n:Nat}{Q:Int×Int×Nat->Shared->Prop}(hs:s.heap.IsSliceOf sl vl vu .none)(pl:IsPart vl lo)(pu:IsPart vu hi)
  (h:Q (((sIx n 0 lo:Nat):Int),1,sIx n n hi-sIx n 0 lo) s):wpAny (model prog w) A (Builtin.Slice.sliceApplied (.ref sl) (pure (n:Int))) Q E s:=by
 obtain⟨os,hos,hcs,hds⟩:=id hs
 unfold Builtin.Slice.sliceApplied Builtin.Slice.sliceFields
 refine Hy (Hy (JT hos hds (x:=vl) rfl (Hy (JT hos hds (x:=vu) rfl (Hy (JT hos hds (x:=.none) rfl (HS ?_)))))))
 refine Hy (slicePart_none ?_)
 show wpAny _ _ (if ((1:Int) == 0)=true then _ else _) _ _ s
 rw[HM (by decide)]
 refine Hy (bJ pl (Hy (bJ pu (Hy (HS ?_)))))
 show wpAny _ _ (match Builtin.Slice.sliceAdjust lo hi 1 (n:Int) with | (lo,hi)=>pure (lo,(1:Int),Builtin.Slice.slicePlaces lo hi 1)) _ _ s
 rw[ou lo hi n]
 show wpAny _ _ (pure (((sIx n 0 lo:Nat):Int),(1:Int),Builtin.Slice.slicePlaces ((sIx n 0 lo:Nat):Int) ((sIx n n hi:Nat):Int) 1)) _ _ s
 rw[nL]
 exact HS h
theorem vA (xs:Array Value)(i k:Nat):((List.range k).filterMap λ(m:Nat)=>xs[((i:Int)+(m:Int)*1).toNat]?).toArray=((xs.toList.drop i).take k).toArray:=by
 have e:(λ(m:Nat)=>xs[((i:Int)+(m:Int)*1).toNat]?) = λm=>xs[i+m]?:=by
  funext m
  have:((i:Int)+(m:Int)*1).toNat=i+m:=by omega
  rw[this]
 rw[e]
 have:=pick_run xs i k
 rw[List.filterMap_map]at this
 have e2:((λx=>xs[x]?) ∘ λx=>i+x) = λm=>xs[i+m]?:=rfl
 rw[e2]at this
 rw[this]
theorem getItem_tuple_cut {t sl:Addr}{items:Array Value}{vl vu:Value}{lo hi:Option Int}{Q:Value->Shared->Prop}(ht:IsTup s.heap t items)(hs:s.heap.IsSliceOf sl vl vu .none)(pl:IsPart vl lo)(pu:IsPart vu hi)
  (hw:¬(sIx items.size 0 lo=0/\sIx items.size items.size hi=items.size))
  (h:Q (.ref s.heap.objs.size) { s with heap:=s.heap.push { cls:=.type "tuple",data:=.seq ((items.toList.drop (sIx items.size 0 lo)).take (sIx items.size items.size hi-sIx items.size 0 lo)).toArray } })
  (hsz:items.size<=sizeLine):wpAny (model prog w) A (getItem (.ref t) (.ref sl)) Q E s:=by
 have htake:sizeOk (.seq ((items.toList.drop (sIx items.size 0 lo)).take (sIx items.size items.size hi-sIx items.size 0 lo)).toArray):=by
  show((items.toList.drop (sIx items.size 0 lo)).take (sIx items.size items.size hi-sIx items.size 0 lo)).toArray.size<=sizeLine
  rw[HQ,IH,Mb,Jx]
  omega
 have hj:sIx items.size items.size hi<=items.size:=zV _ _ (HK _) hi
 obtain⟨os,hos,hcs,hds⟩:=id hs
 have hTs:s.TypeIs (.ref sl) "slice":=⟨os,hos,hcs⟩
 unfold getItem
 try with_reducible refine Ja ?_
 first | refine Hy (HS ?_) | skip
 refine Hy (wpAny_sequenceKey ht.typeIs (by decide) ?_)
 refine Hy (JQ (name:=Str.ofString "__getitem__") ht.typeIs IF
  (JR IF ht.typeIs entry_tuple_getitem ?_ (args_tuple_getitem _ _)))
 show wpAny _ _ (Builtin.Tuple.tupleItemsOf (.ref t) >>= _) _ _ s
 refine Hy (tupleItemsOf_ ht ?_)
 refine Hy (Lr hTs ?_)
 rw[HH (by decide)]
 refine Hy (T5 hs pl pu ?_)
 have hno:¬((((sIx items.size 0 lo:Nat):Int) == 0&&(1:Int) == 1&&(sIx items.size items.size hi-sIx items.size 0 lo) == items.size)=true):=by
  intro q
  rw[JS,JS]at q
  have q1:((sIx items.size 0 lo:Nat):Int)=0:=eq_of_beq q.1.1
  have q2:sIx items.size items.size hi-sIx items.size 0 lo=items.size:=eq_of_beq q.2
  exact hw ⟨by omega,by omega⟩
 show wpAny _ _ (if (((sIx items.size 0 lo:Nat):Int) == 0&&(1:Int) == 1&&(sIx items.size items.size hi-sIx items.size 0 lo) == items.size)=true then _ else _) _ _ s
 rw[HM hno,vA]
 first
  | exact Hy (m:=Builtin.Tuple.tupleExact _) (IU (HS ⟨_,rfl,HS h⟩) htake)
  | exact Hy (m:=Builtin.Tuple.tupleExact _) (IU (Hy (HS (HS ⟨_,rfl,HS h⟩))) htake)
  | exact Hy (Hy (m:=Builtin.Tuple.tupleExact _) (IU (HS (HS ⟨_,rfl,HS h⟩)) htake))
  | exact Hy (Hy (m:=Builtin.Tuple.tupleExact _) (IU (HS ⟨_,rfl,HS h⟩) htake))
end
end HT
namespace L2
open PySem PySem.Spec PyProof.Rows
section
abbrev TO:=St->Hp->(Option Int->Hp->Prop)->Prop
def PO (X:Cx)(e:Option Expr)(t:TO):Prop :=
 ∀(pins:List (Addr×Obj)) (s:Shared) (σ:St) (H:Hp) (Q:Option Int->Hp->Prop),Inv X pins σ H s->t σ H Q ->
  wpAny (model X.prog X.w) X.A (evalPart e X.env) (λu s'=>∃o H',Inv X pins σ H' s'/\IsPart u o/\Q o H') X.xe s
def pA:TO:=λ_ H Q=>Q none H
def yB (t:TE):TO:=λσ H Q=>t σ H λx H1=>∃i,x = .int i/\Q (some i) H1
theorem oe {ns:List Int}:∀{us:List Value},i5 (ns.map V.int) us->IntsAre us ns:=by
 induction ns with
 | nil=>intro us r;rw[Jb]at r;cases r;exact .nil
 | cons n ns ih =>
  intro us r
  rw[HX]at r
  cases r with
  | cons r1 r2 =>
   obtain⟨t,e⟩:=r1
   subst e
   exact .cons n t (ih r2)
section
variable {X:Cx}{e:Expr}{te:TE}{lo hi:Option Expr}{tl th:TO}{pos p2:Pos}
theorem pS:PO X none pA:=by
 intro pins s σ H Q I h
 rw[evalPart_none]
 exact HS ⟨none,H,I,.none,h⟩
theorem jC (h:PE X e te):PO X (some e) (yB te):=by
 intro pins s σ H Q I hw
 rw[evalPart_some]
 refine thn (h pins s σ H _ I hw) λu s1 ⟨x,H1,I1,r1,q1⟩=>?_
 obtain⟨i,rfl,q⟩:=q1
 obtain⟨t,rfl⟩:=r1
 exact⟨some i,H1,I1,.int i t,q⟩
def SlR (X:Cx)(r:V->Option Int->Option Int->Hp->VK->Prop):Prop :=
 ∀(pins:List (Addr×Obj)) (s:Shared) (σ:St) (H:Hp) (x:V) (v vl vu:Value) (lo hi:Option Int) (sl:Addr) (Q:VK),Inv X pins σ H s->l6 x v->s.heap.IsSliceOf sl vl vu .none->IsPart vl lo->IsPart vu hi->r x lo hi H Q ->
  ∃T id,typeLookup (.type T) "__getitem__" = pure (some (.builtin id))/\s.TypeIs v T/\wpAny (model X.prog X.w) X.A (getItem v (.ref sl)) (EP X pins σ Q) X.xe s
def tSl (r:V->Option Int->Option Int->Hp->VK->Prop)(te:TE)(tl th:TO):TE:=λσ H Q=>te σ H λx H1=>tl σ H1 λl H2=>th σ H2 λu H3=>r x l u H3 Q
theorem mw {r:V->Option Int->Option Int->Hp->VK->Prop}(hr:SlR X r)(he:PE X e te)(hl:PO X lo tl)(hu:PO X hi th):PE X (.Subscript e (.Slice lo hi none p2) pos) (tSl r te tl th):=by
 intro pins s σ H Q I h
 refine Subscript_ (thn (he pins s σ H _ I h) λv s1 ⟨x,H1,I1,r1,q1⟩=>?_)
 refine wpAny_Slice (thn (hl pins s1 σ H1 _ I1 q1) λvl s2 ⟨l,H2,I2,pl,q2⟩=>thn (hu pins s2 σ H2 _ I2 q2) λvu s3 ⟨u,H3,I3,pu,q3⟩=>?_)
 rw[evalPart_none]
 refine HS ?_
 have I4:Inv X pins σ H3 { s3 with heap:=s3.heap.push { cls:=.type "slice",data:=.fields #[vl,vu,.none] } }:=I3.kept (t':=s3.toks) λb ob q=>HI _ q
 obtain⟨T,id,hT,ht,hg⟩:=hr pins { s3 with heap:=s3.heap.push { cls:=.type "slice",data:=.fields #[vl,vu,.none] } } σ H3 x v vl vu l u s3.heap.objs.size Q I4 r1 (LK ..) pl pu q3
 show wpAny (model X.prog X.w) X.A (subscriptTail e (.Slice lo hi none p2) v (.ref s3.heap.objs.size)) (EP X pins σ Q) X.xe { s3 with heap:=s3.heap.push { cls:=.type "slice",data:=.fields #[vl,vu,.none] } }
 exact tail_any (ops:=[.ref s3.heap.objs.size,v]) ht hT hg (by with_unfolding_all rfl)
def cS (xs:List V)(lo hi:Option Int):List V:=(xs.drop (HT.sIx xs.length 0 lo)).take (HT.sIx xs.length xs.length hi-HT.sIx xs.length 0 lo)
theorem ee (xs:List V)(lo hi:Option Int):(cS xs lo hi).length<=xs.length:=by
 unfold cS
 rw[IH,Mb]
 omega
def Dr (K:Fg):V->Option Int->Option Int->Hp->VK->Prop:=λx lo hi H Q=>∃a xs,x = .ref a/\SqT K H a xs /\
 ¬(HT.sIx xs.length 0 lo=0/\HT.sIx xs.length xs.length hi=xs.length)/\∀p,H p=none->Q (.ref p) (upd H p (.tup (cS xs lo hi)))
theorem AR:SlR X (Dr X.K):=by
 intro pins s σ H x v vl vu lo hi sl Q I rx hs pl pu h
 obtain⟨a,xs,rfl,hx,hw,q⟩:=h
 cases rx
 obtain⟨its,r,ht,hz⟩:=I.tuple hx
 have hlen:its.toArray.size=xs.length:=by rw[HQ];exact r.length.symm
 refine⟨"tuple",_,IF.lookup,ht.typeIs,?_⟩
 refine HT.getItem_tuple_cut ht hs pl pu (by rw[hlen];exact hw) ?_ (by rw[hlen];exact hz)
 rw[hlen]
 refine⟨.ref s.heap.objs.size,_,I.laid (t':=s.toks) (o:=.tup (cS xs lo hi)) (λb ob q=>HI _ q) (HK _) ?_,rfl,q _ (I.hok.fresh (HK _))⟩
 exact⟨Im (ee xs lo hi) hz,_,(r.drop (HT.sIx xs.length 0 lo)).take (HT.sIx xs.length xs.length hi-HT.sIx xs.length 0 lo),Lp _ _⟩
def BZ (K:Fg):R2:=λx y H Q=>∃a b xs ys,x = .ref a/\y = .ref b/\SqT K H a xs/\SqT K H b ys/\xs≠[]/\xs.length+ys.length<=sizeLine /\
 (ys=[]->Q (.ref a) H)/\(ys≠[]->∀p,H p=none->Q (.ref p) (upd H p (.tup (xs++ys))))
theorem i5.nil_iff {xs:List V}{us:List Value}(r:i5 xs us):us=[]↔xs=[]:=by
 cases r with
 | nil=>simp
 | cons _ _=>simp
theorem xW:OpR X (binaryOp .Add) (BZ X.K):=by
 intro pins s σ H x y v u Q I rx ry h
 obtain⟨a,b,xs,ys,rfl,rfl,ha,hb,hx,hz,q1,q2⟩:=h
 cases rx
 cases ry
 obtain⟨its,r1,p1,_⟩:=I.tuple ha
 obtain⟨its2,r2,p2,_⟩:=I.tuple hb
 refine HT.cat_tup p1 p2 (λz=>hx (r1.nil_iff.mp z)) (λz=>⟨.ref a,H,I,rfl,q1 (r2.nil_iff.mp z)⟩) (λz=>?_) (by rw[<-r1.length,<-r2.length];exact hz)
 refine⟨.ref s.heap.objs.size,_,I.laid (t':=s.toks) (o:=.tup (xs++ys)) (λb ob q=>HI _ q) (HK _) ?_,rfl,q2 (λw=>z (r2.nil_iff.mpr w)) _ (I.hok.fresh (HK _))⟩
 exact⟨by rw[IA];exact hz,_,r1.append r2,Lp _ _⟩
end
end
section
def ixN (n:Nat)(i:Int):Option Nat:=if 0<=i then(if i<n then some i.toNat else none) else if -(n:Int)<=i then some (i+n).toNat else none
def atI {α:Type}(xs:List α)(i:Int):Option α:=(ixN xs.length i).bind λj=>xs[j]?
theorem qk {n:Nat}{i:Int}{j:Nat}(h:ixN n i=some j):seqIndex? i n=some j/\j<n /\ -(n:Int)<=i/\i<n:=by
 unfold ixN at h
 by_cases h0:0<=i
 .rw[HH h0]at h
  by_cases h1:i<n
  .rw[HH h1]at h
   have e:i.toNat=j:=HN h
   exact⟨by rw[seqIndex_of h0 h1,e],by omega,by omega,h1⟩
  .rw[HM h1]at h;cases h
 .rw[HM h0]at h
  by_cases h1:-(n:Int)<=i
  .rw[HH h1]at h
   have e:(i+n).toNat=j:=HN h
   exact⟨by rw[seqIndex_neg (by omega) h1,e],by omega,h1,by omega⟩
  .rw[HM h1]at h;cases h
theorem kn {α:Type}{xs:List α}{i:Int}{v:α}(h:atI xs i=some v):∃j,seqIndex? i xs.length=some j/\xs[j]? = some v/\j<xs.length /\ -(xs.length:Int)<=i/\i<xs.length:=by
 unfold atI at h
 cases e:ixN xs.length i with
 | none=>rw[e]at h;cases h
 | some j =>
  rw[e]at h
  obtain⟨h1,h2,h3,h4⟩:=qk e
  exact⟨j,h1,h,h2,h3,h4⟩
theorem W3 {α:Type}{xs:List α}{j:Nat}{v:α}(h:xs[j]? = some v):atI xs (j:Int)=some v:=by
 have hj:j<xs.length:=(HG.mp h).1
 have e:ixN xs.length (j:Int)=some j:=by
  unfold ixN
  rw[HH (by omega),HH (by omega)];simp
 unfold atI;rw[e];exact h
def ft (b:Expr):Prop:=∀o i,subscripted b false o i=operate [o,i] (getItem o i)
def IxR (X:Cx)(r:R2):Prop :=
 ∀(value slice:Expr) (pins:List (Addr×Obj)) (s:Shared) (σ:St) (H:Hp) (x y:V) (v u:Value) (Q:VK),Inv X pins σ H s->l6 x v->l6 y u->r x y H Q ->
  subscripted slice false v u=operate [v,u] (getItem v u)->wpAny (model X.prog X.w) X.A (subscriptTail value slice v u) (EP X pins σ Q) X.xe s
def MtR (X:Cx)(id:String)(r:V->List V->Hp->VK->Prop):Prop :=
 ∀(pins:List (Addr×Obj)) (s:Shared) (σ:St) (H:Hp) (x:V) (xs:List V) (v:Value) (us:List Value) (Q:VK),Inv X pins σ H s->l6 x v->i5 xs us->r x xs H Q ->
  wpAny (model X.prog X.w) X.A (call (.builtin id) (v::us)) (EP X pins σ Q) X.xe s
section
variable {X:Cx}{a b:Expr}{ta tb:TE}{pos:Pos}
theorem G5 {r:R2}(hr:IxR X r)(ha:PE X a ta)(hb:PE X b tb)(hs:ft b):PE X (.Subscript a b pos) (tOp r ta tb):=by
 intro pins s σ H Q I h
 exact Subscript_ (AC ha hb I h λv u s2 x y H2 I2 rx ry q=>hr a b pins s2 σ H2 x y v u Q I2 rx ry q (hs _ _))
def qI (K:Fg):R2:=λx y H Q=>∃p xs i v,x = .ref p/\y = .int i/\SqL K H p xs/\atI xs i=some v/\Q v H
def vz (K:Fg):R2:=λx y H Q=>∃p xs i v,x = .ref p/\y = .int i/\SqT K H p xs/\atI xs i=some v/\Q v H
def Dj:R2:=λx y H Q=>∃z i c,x = .str z/\y = .int i/\z.length<=sizeLine/\atI z.cps.toList i=some c/\Q (.str ⟨#[c]⟩) H
theorem x9:IxR X (qI X.K):=by
 intro value slice pins s σ H x y v u Q I rx ry h hs
 obtain⟨p,xs,i,z,rfl,rfl,hq,he,q⟩:=h
 cases rx
 obtain⟨t,rfl⟩:=ry
 obtain⟨its,r,pl,hz⟩:=I.list hq
 obtain⟨j,h1,h2,h3,h4,h5⟩:=kn he
 obtain⟨w,ew,rw'⟩:=r.get h2
 have hl:=r.length
 have hn:=Z4
 have fin:EP X pins σ Q w s:=⟨z,H,I,rw',q⟩
 by_cases h0:0<=i
 .have hj:i.toNat=j:=by
   rw[seqIndex_of h0 h5]at h1
   exact HN h1
  exact item_listR pl.isList h0 (by omega) (by rw[hj];simpa using ew) fin hs
 .have hj:(i+(its.toArray.size:Int)).toNat=j:=by
   rw[seqIndex_neg (by omega) h4]at h1
   rw[HQ,<-hl]
   exact HN h1
  exact subscriptTail_builtinR (x:=w) pl.isList.typeIs slot_list_getitem.lookup
   (wpAny_getItem_list_neg (Q:=λr s'=>r=w/\EP X pins σ Q r s') pl.isList (by omega) (by rw[HQ] <;> omega) (by omega) (by rw[hj];simpa using ew) ⟨rfl,fin⟩) hs
theorem oa:IxR X (vz X.K):=by
 intro value slice pins s σ H x y v u Q I rx ry h hs
 obtain⟨p,xs,i,z,rfl,rfl,hq,he,q⟩:=h
 cases rx
 obtain⟨t,rfl⟩:=ry
 obtain⟨its,r,pl,hz⟩:=I.tuple hq
 obtain⟨j,h1,h2,h3,h4,h5⟩:=kn he
 obtain⟨w,ew,rw'⟩:=r.get h2
 have hl:=r.length
 have hn:=Z4
 have fin:EP X pins σ Q w s:=⟨z,H,I,rw',q⟩
 exact subscriptTail_builtinR (x:=w) pl.typeIs slot_tuple_getitem.lookup
  (getItem_tuple (j:=j) (Q:=λr s'=>r=w/\EP X pins σ Q r s') pl (by omega) (by omega) (by rw[HQ,<-hl];exact h1) (by simpa using ew) ⟨rfl,fin⟩) hs
theorem As:IxR X Dj:=by
 intro value slice pins s σ H x y v u Q I rx ry h hs
 obtain⟨z,i,c,rfl,rfl,hz,he,q⟩:=h
 obtain⟨t,rfl⟩:=rx
 obtain⟨t',rfl⟩:=ry
 obtain⟨j,h1,h2,h3,h4,h5⟩:=kn he
 have hl:z.cps.toList.length=z.length:=by simp[Str.length]
 rw[hl]at h1 h4 h5
 have hn:=Z4
 exact tail_any (Ls s z t) slot_str_getitem.lookup (getItem_str (c:=c) (by
  have e1:decide (i < -(2 ^ 63:Int))=false:=IL (by omega)
  have e2:decide (i >= 2 ^ 63)=false:=IL (by omega)
  rw[e1,e2,Bool.or_false]) (by rw[h1];simpa using h2) ⟨.str ⟨#[c]⟩,H,I.tok _,⟨_,rfl⟩,q⟩) hs
theorem nK (its:List Value)(n j:Nat)(u:Value):Obj.mapSeq (·.setIfInBounds j u) { cls:=.type "list",data:=.seq its.toArray n }={ cls:=.type "list",data:=.seq (its.set j u).toArray n }:=by
 simp[Obj.mapSeq]
theorem Inv.lst {pins:List (Addr×Obj)}{σ:St}{H:Hp}{s:Shared}{p:Addr}{xs:List V}(I:Inv X pins σ H s)(h:H p=some (.lst xs)) :
  ∃(its:List Value) (n:Nat),i5 xs its/\s.heap.get? p=some { cls:=.type "list",data:=.seq its.toArray n }/\xs.length<=sizeLine:=by
 obtain⟨z,its,n,r,e⟩:=I.hok p _ h
 exact⟨its,n,r,e,z⟩
theorem Inv.lstUpd {pins:List (Addr×Obj)}{σ:St}{H:Hp}{s:Shared}{p:Addr}{xs ys:List V}{its its':List Value}{n n':Nat}{f:Obj->Obj}(I:Inv X pins σ H s)(h:H p=some (.lst xs))
  (ho:s.heap.get? p=some { cls:=.type "list",data:=.seq its.toArray n }) (hf:f { cls:=.type "list",data:=.seq its.toArray n }={ cls:=.type "list",data:=.seq its'.toArray n' }) (r:i5 ys its') (hz:ys.length<=sizeLine) (t:Nat) :
  Inv X pins σ (upd H p (.lst ys)) { s with heap:=s.heap.update p f,toks:=t }:=by
 have e:(s.heap.update p f).get? p=some { cls:=.type "list",data:=.seq its'.toArray n' }:=by
  rw[Heap.get?_update_self f ho (by rw[hf] <;> rfl),hf]
 refine I.write (x:=p) (e:=p) (by rw[h];trivial) (.inl rfl) (λb u hb q=>(Heap.get?_update_other _ _ (Iz hb)).trans q) ⟨_,e⟩ ?_
 exact⟨hz,its',n',r,e⟩
def bP:V->V->V->Hp->(Hp->Prop)->Prop:=λo i v H Q=>∃p xs k j,o = .ref p/\i = .int k/\H p=some (.lst xs)/\ixN xs.length k=some j/\Q (upd H p (.lst (xs.set j v)))
theorem K3:Bs X bP:=by
 intro pins s σ H o i v ov iv u Q I ro ri rv h
 obtain⟨p,xs,k,j,rfl,rfl,hp,hj,q⟩:=h
 cases ro
 obtain⟨t,rfl⟩:=ri
 obtain⟨its,n,r,ho,hz⟩:=I.lst hp
 obtain⟨h1,h2,h3,h4⟩:=qk hj
 have hl:=r.length
 have hn:=Z4
 have I':Inv X pins σ (upd H p (.lst (xs.set j v))) { s with heap:=s.heap.update p (Obj.mapSeq (·.setIfInBounds j u)) } :=
  I.lstUpd hp ho (nK its n j u) (r.set rv j) (by rw[Jg];exact hz) s.toks
 by_cases h0:0<=k
 .have hk:k.toNat=j:=by
   rw[seqIndex_of h0 h4]at h1
   exact HN h1
  exact PySem.W.ki_setAt ho h0 (by omega) (by rw[HQ,<-hl];exact h4) (by rw[hk];exact⟨_,I',q⟩)
 .have hk:(k+(its.toArray.size:Int)).toNat=j:=by
   rw[seqIndex_neg (by omega) h3]at h1
   rw[HQ,<-hl]
   exact HN h1
  exact PySem.W.ki_setBack ho (by omega) (by rw[HQ,<-hl];exact h3) (by omega) (by rw[hk];exact⟨_,I',q⟩)
theorem jP (lo hi:Option Int)(n:Nat):(sliceBounds lo hi none n).1=((HT.sIx n 0 lo:Nat):Int)/\(sliceBounds lo hi none n).2.1=((HT.sIx n n hi:Nat):Int)/\(sliceBounds lo hi none n).2.2=1:=by
 refine⟨?_,?_,rfl⟩
 .cases lo with
  | none=>simp[sliceBounds,HT.sIx]
  | some i =>
   simp only[sliceBounds,HT.sIx,Mc,show(1:Int) > 0 by decide,Js]
   by_cases h:i<0
   .simp only[h,Js] <;> omega
   .simp only[h,Ji] <;> omega
 .cases hi with
  | none=>simp[sliceBounds,HT.sIx]
  | some i =>
   simp only[sliceBounds,HT.sIx,Mc,show(1:Int) > 0 by decide,Js]
   by_cases h:i<0
   .simp only[h,Js] <;> omega
   .simp only[h,Ji] <;> omega
theorem iz (its:List Value)(lo hi:Option Int):slicePick its.toArray lo hi none=((its.drop (HT.sIx its.length 0 lo)).take (HT.sIx its.length its.length hi-HT.sIx its.length 0 lo)).toArray:=by
 obtain⟨h1,h2,h3⟩:=jP lo hi its.toArray.size
 unfold slicePick
 rw[h1,h2,h3]
 simp only[sliceRange_one,pick_run,HQ] <;> rfl
def Dc (K:Fg):V->Option Int->Option Int->Hp->VK->Prop:=λx lo hi H Q=>∃a xs,x = .ref a/\SqL K H a xs/\∀p,H p=none->Q (.ref p) (upd H p (.lst (cS xs lo hi)))
theorem pd:SlR X (Dc X.K):=by
 intro pins s σ H x v vl vu lo hi sl Q I rx hs pl pu h
 obtain⟨a,xs,rfl,hx,q⟩:=h
 cases rx
 obtain⟨its,r,ht,hz⟩:=I.list hx
 have hlen:=r.length
 refine⟨"list",_,slot_list_getitem.lookup,ht.isList.typeIs,?_⟩
 refine wpAny_getItem_list_slice ht.isList hs pl pu .none (by simp) ?_ (by rw[HQ] <;> omega)
 rw[iz,<-hlen]
 refine⟨.ref s.heap.objs.size,_,I.laid (t':=s.toks) (o:=.lst (cS xs lo hi)) (λb ob q=>HI _ q) (HK _) ?_,rfl,q _ (I.hok.fresh (HK _))⟩
 exact⟨Im (ee xs lo hi) hz,_,0,(r.drop (HT.sIx xs.length 0 lo)).take (HT.sIx xs.length xs.length hi-HT.sIx xs.length 0 lo),Ii _ rfl⟩
theorem E5:C5 X (.builtin "len") (λxs H Q=>∃p ys,xs=[.ref p]/\(SqL X.K H p ys\/SqT X.K H p ys)/\Q (.int ys.length) H):=by
 intro pins s σ H xs us Q I r h
 obtain⟨p,ys,rfl,hq,q⟩:=h
 obtain⟨u,rfl,rx⟩:=N9 r
 cases rx
 have hn:=Z4
 rcases hq with hq | hq
 .obtain⟨its,r',pl,hz⟩:=I.list hq
  have hlen:=r'.length
  exact Calls.call_len_list pl.isList (by simp only[HQ] <;> omega) ⟨.int ys.length,H,I.tok _,⟨s.toks+1,by rw[HQ,hlen]⟩,q⟩
 .obtain⟨its,r',pl,hz⟩:=I.tuple hq
  have hlen:=r'.length
  exact len_tuple pl (by simp only[HQ] <;> omega) ⟨.int ys.length,H,I.tok _,⟨s.toks+1,by rw[HQ,hlen]⟩,q⟩
theorem jD:C5 X (.builtin "len") (λxs H Q=>∃z,xs=[.str z]/\z.length<=sizeLine/\Q (.int z.length) H):=by
 intro pins s σ H xs us Q I r h
 obtain⟨z,rfl,hz,q⟩:=h
 obtain⟨u,rfl,t,rfl⟩:=N9 r
 have hn:=Z4
 exact len_str (by omega) ⟨.int z.length,H,I.tok _,⟨_,rfl⟩,q⟩
theorem jv:C5 X (.type "list") (λxs H Q=>∃p ys,xs=[.ref p]/\(SqL X.K H p ys\/SqT X.K H p ys)/\∀l,H l=none->Q (.ref l) (upd H l (.lst ys))):=by
 intro pins s σ H xs us Q I r h
 obtain⟨p,ys,rfl,hq,q⟩:=h
 obtain⟨u,rfl,rx⟩:=N9 r
 cases rx
 have fin:∀(its:List Value),i5 ys its->ys.length<=sizeLine->∀(h':Heap) (c':Nat),(∀b o',s.heap.get? b=some o'->h'.get? b=some o') ->
   h'.get? s.heap.objs.size=some { cls:=.type "list",dict:=none,data:=.seq its.toArray c',slots:=#[] }->EP X pins σ Q (.ref s.heap.objs.size) { s with heap:=h' }:=λits r' hz h' c' kp e =>
  ⟨.ref s.heap.objs.size,_,I.laid (t':=s.toks) kp (HK _) (show A7 X.prog X.w _ h' _ (.lst ys) from⟨hz,its,c',r',e⟩),rfl,q _ (I.hok.fresh (HK _))⟩
 rcases hq with hq | hq
 .obtain⟨its,r',pl,hz⟩:=I.list hq
  have hlen:=r'.length
  obtain⟨o,ho,hc,n,hd⟩:=pl.isList
  exact call_list_seq p (.inl rfl) ho hc hd (λh' c' kp e=>fin its r' hz h' c' kp e) (by simp only[HQ] <;> omega)
 .obtain⟨its,r',pl,hz⟩:=I.tuple hq
  have hlen:=r'.length
  obtain⟨o,ho,hc,n,hd⟩:=pl
  exact call_list_seq p (.inr rfl) ho hc hd (λh' c' kp e=>fin its r' hz h' c' kp e) (by simp only[HQ] <;> omega)
theorem iu:C5 X (.type "tuple") (λxs H Q=>∃p ys,xs=[.ref p]/\((SqL X.K H p ys/\∀l,H l=none->Q (.ref l) (upd H l (.tup ys)))\/(SqT X.K H p ys/\Q (.ref p) H))):=by
 intro pins s σ H xs us Q I r h
 obtain⟨p,ys,rfl,h⟩:=h
 obtain⟨u,rfl,rx⟩:=N9 r
 cases rx
 rcases h with ⟨hq,q⟩ | ⟨hq,q⟩
 .obtain⟨its,r',pl,hz⟩:=I.list hq
  have hlen:=r'.length
  refine call_tuple_list pl.isList (λh' kp=>?_) (by simp only[HQ] <;> omega)
  have I1:Inv X pins σ H { s with heap:=h' }:=I.kept (t':=s.toks) kp
  have I2:Inv X pins σ (upd H h'.objs.size (.tup ys)) { s with heap:=h'.push { cls:=.type "tuple",data:=.seq its.toArray } } :=
   I1.laid (t':=s.toks) (λb o e=>HI _ e) (HK _) (show A7 X.prog X.w _ _ _ (.tup ys) from⟨hz,its,r',Lp _ _⟩)
  exact⟨.ref h'.objs.size,_,I2,rfl,q _ (I1.hok.fresh (HK _))⟩
 .obtain⟨its,r',pl,hz⟩:=I.tuple hq
  exact call_tuple_same pl ⟨.ref p,H,I,rfl,q⟩
def tyV (K:Fg)(T:String)(x:V)(H:Hp):Prop:=match x with
 | .str _=>T = "str"
 | .int _=>T = "int"
 | .ref p=>(T = "list" /\ ∃xs,SqL K H p xs)\/(T = "tuple" /\ ∃o,K.lookup p=some o/\o.cls = .type "tuple" /\ o.dict=none) \/
   (T = "dict" /\ ((∃kvs,H p=some (.dK kvs))\/∃kvs,H p=some (.dT kvs)))\/(T = "set" /\ ∃S n,H p=some (.set S n))
 | _=>False
theorem zR {pins:List (Addr×Obj)}{σ:St}{H:Hp}{s:Shared}{T:String}{x:V}{v:Value}(I:Inv X pins σ H s)(r:l6 x v)(ty:tyV X.K T x H) :
  s.TypeIs v T/\∀a,v = .ref a->∃ob,s.heap.get? a=some ob/\ob.dict=none:=by
 cases x with
 | str z =>
  obtain⟨t,rfl⟩:=r
  cases(show T = "str" from ty)
  exact⟨Ls s z t,λ_ e=>nomatch e⟩
 | int i =>
  obtain⟨t,rfl⟩:=r
  cases(show T = "int" from ty)
  exact⟨typeIs_int s i t,λ_ e=>nomatch e⟩
 | ref p =>
  cases r
  rcases ty with ⟨rfl,xs,hq⟩ | ⟨rfl,o,hk,hc,hd⟩ | ⟨rfl,hk⟩ | ⟨rfl,S,n,hk⟩
  .obtain⟨its,_,pl,_⟩:=I.list hq
   refine⟨pl.isList.typeIs,λa e=>?_⟩
   cases e
   obtain⟨o,n,e,c,hd,_⟩:=pl
   exact⟨o,e,hd⟩
  .refine⟨⟨o,I.kIn p o hk,hc⟩,λa e=>?_⟩
   cases e
   exact⟨o,I.kIn _ o hk,hd⟩
  .have z:∃o,s.heap.get? p=some o/\o.ExactDict:=by
    rcases hk with ⟨kvs,hk⟩ | ⟨kvs,hk⟩
    .obtain⟨_,_,_,_,o,_,_,e,ex,_⟩:=I.hok p _ hk
     exact⟨o,e,ex⟩
    .obtain⟨_,_,_,_,o,_,_,e,ex,_⟩:=I.hok p _ hk
     exact⟨o,e,ex⟩
   obtain⟨o,e,ex⟩:=z
   refine⟨⟨o,e,ex.1⟩,λa e2=>?_⟩
   cases e2
   exact⟨o,e,ex.2.1⟩
  .obtain⟨o,_,_,_,e,ex,_⟩:=I.hok p _ hk
   refine⟨⟨o,e,ex.1⟩,λa e2=>?_⟩
   cases e2
   exact⟨o,e,ex.2.1⟩
 | _=>exact False.elim ty
def tBM (K:Fg)(T:String)(r:V->List V->Hp->VK->Prop)(to:TE)(t:TA):TE:=λσ H Q=>to σ H λx H1=>tyV K T x H1/\t σ H1 λxs H2=>r x xs H2 Q
variable {o e:Expr}{es:List Expr}{to:TE}{t:TA}{name:Str}{apos cpos:Pos}{T id:String}{r:V->List V->Hp->VK->Prop}
theorem ia (pa:PlainAttrs T)(slot:Slot T name id)(hty:typeOf (.builtin id)=pure (.type "method_descriptor"))(hm:MtR X id r)(ho:PE X o to)(ha:PA X (e::es) t)
  (hbase:attributeBase o name X.env (eval o X.env)=eval o X.env:=by rfl)
  (hfew:((backTo cpos (starEach (e::es) X.env)).all (λx=>!x.1)&&(backToKw cpos (keywordEach [] X.env)).all (λx=>x.1.isSome)
   && decide ((e::es).length+([]:List Keyword).length+(if ([]:List Keyword).isEmpty then 0 else 1)<30))=true:=by rfl)
  (hline:(apos.endLine == cpos.line)=true:=by rfl) (hs:starEach (e::es) X.env=(false,eval e X.env)::starEach es X.env:=by rfl) (hplain:(backTo cpos (starEach es X.env)).any (·.1)=false:=by rfl) :
  PE X (.Call (.Attribute o name apos) (e::es) [] cpos) (tBM X.K T r to t):=by
 intro pins s σ H Q I h
 refine wpAny_Call_method_late hbase hfew hline rfl (thn (ho pins s σ H _ I h) λv s1 ⟨x,H1,I1,r1,ty,q1⟩=>?_)
 obtain⟨h1,h2⟩:=zR I1 r1 ty
 refine⟨T,id,pa,slot,hty,h1,h2,?_⟩
 have hA:=ha cpos pins s1 σ H1 _ I1 q1
 rw[hs]at hA ⊢
 refine Calls.callWith_builtin (by show(false||(backTo cpos (starEach es X.env)).any (·.1))=false;rw[hplain] <;> rfl) (Calls.evalArgs_plain ?_)
 exact thn hA λus s2 ⟨vs,H2,I2,r2,q2⟩=>hm pins s2 σ H2 x vs v us Q I2 r1 r2 q2
/- xs.append(e),list.index on a module's tuple .. are MtR facts of 06m -/
end
end
section
def MtM (X:Cx)(id:String)(r:V->List V->Hp->VK->Prop):Prop :=
 ∀(pins:List (Addr×Obj)) (s:Shared) (σ:St) (H:Hp) (x:V) (xs:List V) (v:Value) (us:List Value) (Q:VK),Inv X pins σ H s->l6 x v->i5 xs us->r x xs H Q ->
  wpAny (model X.prog X.w) X.A (call (.builtin id) (v::us)) (EP X pins σ Q) X.xe s
theorem i5.one:∀{x:V} {us:List Value},i5 [x] us->∃u,us=[u]/\l6 x u
 | _,_,.cons r .nil=>⟨_,rfl,r⟩
theorem i5.reverse {xs:List V}{us:List Value}(h:i5 xs us):i5 xs.reverse us.reverse:=by
 induction h with
 | nil=>exact .nil
 | cons r t ih=>rw[La,La];exact i5.append ih (.cons r .nil)
theorem i5.rep {xs:List V}{us:List Value}(h:i5 xs us):∀k:Nat,i5 (List.replicate k xs).flatten (List.replicate k us).flatten
 | 0=>.nil
 | k+1=>by
  rw[IZ,IZ,JO,JO]
  exact i5.append h (i5.rep h k)
theorem dh (its:List Value):∀(k:Nat) (acc:List Value),
  List.foldl (λx1 x2=>x1++x2) acc.toArray (List.replicate k its.toArray)=(acc++(List.replicate k its).flatten).toArray
 | 0,acc=>by simp
 | k+1,acc=>by
  have e:acc.toArray++its.toArray=(acc++its).toArray:=by simp
  have e2:(acc++its)++(List.replicate k its).flatten=acc++(List.replicate (k+1) its).flatten:=by
   rw[IZ,JO,Lc]
  rw[<-e2,<-dh its k (acc++its),<-e,IZ,List.foldl_cons]
section
variable {X:Cx}{pins:List (Addr×Obj)}{σ:St}{H:Hp}{s:Shared}{l b:Addr}{xs ys zs:List V}
theorem Inv.lset {its its':List Value}{n:Nat}{f:Array Value->Array Value}{t':Nat}(I:Inv X pins σ H s)(hH:H l=some (.lst xs))
  (e:s.heap.get? l=some { cls:=.type "list",data:=.seq its.toArray n }) (hf:f its.toArray=its'.toArray) (hv:i5 ys its') (hz:ys.length<=sizeLine) :
  Inv X pins σ (upd H l (.lst ys)) { s with heap:=s.heap.update l (Obj.mapSeq f),toks:=t' }:=by
 have q:=PySem.IsL.update e f
 rw[hf]at q
 refine I.write (x:=l) (e:=l) (by rw[hH];exact trivial) (.inl rfl) (λb' u hb hu=>(Heap.get?_update_other s.heap (Obj.mapSeq f) (Iz hb)).trans hu) ⟨_,q⟩ ?_
 exact⟨hz,its',_,hv,q⟩
theorem Inv.lnew {its:List Value}{t':Nat}(I:Inv X pins σ H s)(hv:i5 ys its)(hz:ys.length<=sizeLine) :
  Inv X pins σ (upd H s.heap.objs.size (.lst ys)) { s with heap:=s.heap.push { cls:=.type "list",data:=.seq its.toArray },toks:=t' } :=
 I.laid (λ_ _ q=>HI _ q) (HK _) ⟨hz,its,0,hv,Ii _ rfl⟩
theorem Inv.fresh (I:Inv X pins σ H s):H s.heap.objs.size=none:=I.hok.fresh (HK _)
theorem Inv.lstM (I:Inv X pins σ H s)(hH:H l=some (.lst xs)):xs.length<=sizeLine/\∃(its:List Value) (n:Nat),i5 xs its/\xs.length=its.length/\s.heap.get? l=some { cls:=.type "list",data:=.seq its.toArray n }:=by
 obtain⟨z,its,n,r,e⟩:=I.hok l _ hH
 exact⟨z,its,n,r,r.length,e⟩
theorem md {n:Nat}(h:n<=sizeLine):Builtin.List.listTooLong n=false:=by
 unfold Builtin.List.listTooLong
 exact IL (by omega)
end
section
variable {X:Cx}
def R4:V->List V->Hp->VK->Prop:=λx vs H Q=>∃l xs y,x = .ref l/\vs=[y]/\H l=some (.lst xs)/\xs.length<sizeLine/\Q .non (upd H l (.lst (xs++[y])))
theorem J0:MtM X "list.append" R4:=by
 intro pins s σ H x vs v us Q I rx rv h
 obtain⟨l,xs,y,rfl,rfl,hH,hz,q⟩:=h
 cases rx
 obtain⟨u,rfl,ru⟩:=rv.one
 obtain⟨z,its,n,r,hl,e⟩:=I.lstM hH
 refine Kj F.slot_list_append ⟨_,e,rfl⟩ F.entry_list_append (F.args_list_append_2 _ _) (PySem.list_append l its.toArray n u (by rw[HQ];omega)) ⟨e,?_⟩
 refine⟨.non,_,I.lset (its':=its++[u]) hH e (by simp) (r.append (.cons ru .nil)) ?_,rfl,q⟩
 rw[IA,List.length_singleton]
 omega
def CT:R2:=λx y H Q=>∃l b xs zs,x = .ref l/\y = .ref b/\H l=some (.lst xs)/\H b=some (.lst zs)/\xs.length+zs.length<=sizeLine/\∀p,H p=none->Q (.ref p) (upd H p (.lst (xs++zs)))
theorem uz:OpR X (binaryOp .Add) CT:=by
 intro pins s σ H x y v u Q I rx ry h
 obtain⟨l,b,xs,zs,rfl,rfl,hH,hB,hz,q⟩:=h
 cases rx
 cases ry
 obtain⟨z,its,n,r,hl,e⟩:=I.lstM hH
 obtain⟨z2,its2,n2,r2,hl2,e2⟩:=I.lstM hB
 refine PySem.P.add_list e e2 ?_ (by rw[HQ,HQ];omega)
 have ea:its.toArray++its2.toArray=(its++its2).toArray:=by simp
 rw[ea]
 exact⟨.ref _,_,I.lnew (t':=s.toks) (r.append r2) (by rw[IA];omega),rfl,q _ I.fresh⟩
def Da:R2:=λx y H Q=>∃l k xs,x = .ref l/\y = .int k/\H l=some (.lst xs) /\ -(2 ^ 63)<=k/\k<2 ^ 63/\xs.length*k.toNat<=sizeLine /\
 ∀p,H p=none->Q (.ref p) (upd H p (.lst (List.replicate k.toNat xs).flatten))
theorem jK {α:Type}(xs:List α)(k:Nat):(List.replicate k xs).flatten.length=k*xs.length:=by
 induction k with
 | zero=>simp
 | succ k ih=>rw[IZ,JO,IA,ih,Nat.succ_mul,Nat.add_comm]
theorem zi:OpR X (binaryOp .Mult) Da:=by
 intro pins s σ H x y v u Q I rx ry h
 obtain⟨l,k,xs,rfl,rfl,hH,h1,h2,hz,q⟩:=h
 cases rx
 obtain⟨t,rfl⟩:=ry
 obtain⟨z,its,n,r,hl,e⟩:=I.lstM hH
 have hlen:its.toArray.size*k.toNat<=sizeLine:=by rw[HQ,<-hl];exact hz
 have hcap:¬its.toArray.size*k.toNat > (2 ^ 63-1) / 8:=by
  have:(sizeLine:Nat)<=(2 ^ 63-1) / 8:=by decide
  omega
 have hfit:¬(!Builtin.List.listFitsIndex k)=true:=by
  rw[fitsIndex_both h1 h2]
  exact Ia
 have hlong:¬Builtin.List.listTooLong (its.toArray.size*k.toNat)=true:=by
  rw[md hlen]
  exact Ia
 have hnew:List.foldl (λx1 x2=>x1++x2) #[] (List.replicate (if its.toArray.isEmpty=true then 0 else k.toNat) its.toArray)=(List.replicate k.toNat its).flatten.toArray:=by
  have f0:∀m:Nat,List.foldl (λx1 x2=>x1++x2) #[] (List.replicate m its.toArray)=(List.replicate m its).flatten.toArray:=λm=>by
   have:=dh its m []
   rw[Jh]at this
   exact this
  rw[f0]
  cases its with
  | nil=>simp
  | cons a r'=>rw[HM (by simp)]
 refine wpAny_binaryOp_repeat_ref (T:="list") (U:="int") (by decide) ⟨_,e,rfl⟩ (λs'=>typeIs_int s' k t) noFill_list_mul F.fills_int_mul Lu repeat_list F.slot_int_index.lookup
  (Kj Lu (typeIs_int s k t) F.entry_int_rmul (F.args_int_rmul_2 _ _) (int___rmul___int_list k t l its.toArray n)
   ⟨e,rfl,⟨_,e,rfl⟩,Kj F.slot_list_mul ⟨_,e,rfl⟩ F.entry_list_mul (F.args_list_mul_2 _ _) (AutoListH.list___mul___list_int_3 l its.toArray n k t hfit hcap hlong) ⟨e,?_⟩⟩)
 rw[hnew]
 exact⟨.ref _,_,I.lnew (t':=s.toks) (r.rep k.toNat) (by rw[jK,Nat.mul_comm];exact hz),rfl,q _ I.fresh⟩
end
section
variable {prog:Program}{w:World}{A:Around}{E:Value->Shared->Prop}{s:Shared}
end
section
variable {X:Cx}
end
end
section
section
variable {κ:Type}[DecidableEq κ]
def aK (kvs:List (κ×V))(k:κ):Option V:=(kvs.find? λkv=>decide (kv.1=k)).map (·.2)
def J6 (kvs:List (κ×V))(k:κ)(v:V):List (κ×V) :=
 if (kvs.any λkv=>decide (kv.1=k))=true then kvs.map (λkv=>if kv.1=k then(kv.1,v) else kv) else kvs++[(k,v)]
theorem Q0 {p:κ×V}{r:List (κ×V)}{k:κ}(e:p.1=k):aK (p::r) k=some p.2:=by simp[aK,Kk,e]
theorem w6 {p:κ×V}{r:List (κ×V)}{k:κ}(e:¬p.1=k):aK (p::r) k=aK r k:=by simp[aK,Kk,e]
theorem Y0 (k:κ):∀kvs:List (κ×V),(kvs.any λkv=>decide (kv.1=k))=(aK kvs k).isSome
 | []=>rfl
 | p::r=>by
  rw[LR]
  by_cases e:p.1=k
  .simp only[Q0 e,Je e,Bool.true_or,KH]
  .rw[w6 e,IL e,Bool.false_or];exact Y0 k r
theorem Z8 (kvs:List (κ×V))(k:κ)(v:V):(J6 kvs k v).length<=kvs.length+1:=by
 unfold J6
 split
 .rw[Hz];omega
 .rw[IA,HZ,JG];omega
theorem cz {kvs:List (κ×V)}{k:κ}(v:V)(h:aK kvs k=none):J6 kvs k v=kvs++[(k,v)]:=by
 unfold J6
 rw[Y0,h]
 exact HM (by decide)
theorem fK.isSome_eq {o:Option V}{u:Option Value}(r:fK o u):o.isSome=u.isSome:=by
 cases o with
 | none=>cases u with
  | none=>rfl
  | some _=>exact(show False from r).elim
 | some _=>cases u with
  | none=>exact(show False from r).elim
  | some _=>rfl
theorem KV.val {kvs:List (κ×V)}{vs:List (κ×Value)}(r:KV kvs vs)(k:κ):fK (aK kvs k) (valueAt vs k):=by
 unfold KV at r
 induction r with
 | nil=>exact True.intro
 | @cons p q ps qs h t ih =>
  obtain⟨h1,h2⟩:=h
  by_cases e:p.1=k
  .have e':q.1=k:=h1.symm.trans e
   have b:valueAt (q::qs) k=some q.2:=by simp[valueAt,Kk,e']
   rw[Q0 e,b];exact h2
  .have e':¬q.1=k:=λz=>e (h1.trans z)
   have b:valueAt (q::qs) k=valueAt qs k:=by simp[valueAt,Kk,e']
   rw[w6 e,b];exact ih
theorem KV.any {kvs:List (κ×V)}{vs:List (κ×Value)}(r:KV kvs vs)(k:κ):(kvs.any λkv=>decide (kv.1=k))=vs.any λkv=>decide (kv.1=k):=by
 unfold KV at r
 induction r with
 | nil=>rfl
 | cons h t ih=>rw[LR,LR,ih,h.1]
theorem KV.repl {kvs:List (κ×V)}{vs:List (κ×Value)}(r:KV kvs vs)(k:κ){y:V}{u:Value}(ry:l6 y u) :
  KV (kvs.map λkv=>if kv.1=k then(kv.1,y) else kv) (vs.map λkv=>if kv.1=k then(kv.1,u) else kv):=by
 unfold KV at r ⊢
 induction r with
 | nil=>exact .nil
 | @cons p q ps qs h t ih =>
  rw[HX,HX]
  refine .cons ?_ ih
  obtain⟨h1,h2⟩:=h
  by_cases e:p.1=k
  .rw[HH e,HH (h1.symm.trans e)];exact⟨h1,ry⟩
  .rw[HM e,HM (λz=>e (h1.trans z))];exact⟨h1,h2⟩
theorem KV.put {kvs:List (κ×V)}{vs:List (κ×Value)}(r:KV kvs vs)(k:κ){y:V}{u:Value}(ry:l6 y u):KV (J6 kvs k y) (stored vs k u):=by
 unfold J6 stored
 rw[r.any k]
 by_cases e:(vs.any λkv=>decide (kv.1=k))=true
 .rw[HH e,HH e];exact r.repl k ry
 .rw[HM e,HM e];exact Paired.snoc r ⟨rfl,ry⟩
theorem KV.length {kvs:List (κ×V)}{vs:List (κ×Value)}(r:KV kvs vs):kvs.length=vs.length:=LQ r
end
theorem ph {P:Program}{w:World}{k:Key}{u:Value}(r:l6 (kV k) u):(A8 P w).is k u=true:=by
 cases k with
 | inl i=>obtain⟨t,e⟩:=(show ∃t,u=Value.int i t from r);subst e;exact kF P w i t
 | inr x=>obtain⟨t,e⟩:=(show ∃t,u=Value.str x t from r);subst e;exact mK P w x t
theorem iT {P:Program}{w:World}:∀{ks:List Key} {us:List Value},i5 (ks.map kV) us->ItemsAre (A8 P w) ks us
 | [],_,r=>by rw[Jb]at r;cases r;exact .nil
 | k::ks,_,r=>by
  rw[HX]at r
  cases r with
  | cons h t=>exact .cons (ph h) (iT t)
abbrev KT (H:Hp):List (List Key×V)->List (List Key×Addr×Value)->Prop:=Paired λp q=>p.1=q.1/\H q.2.1=some (.tup (p.1.map kV))/\l6 p.2 q.2.2
theorem KT.val {H:Hp}{kvs:List (List Key×V)}{xs:List (List Key×Addr×Value)}(r:KT H kvs xs)(k:List Key):fK (aK kvs k) ((atKey xs k).map (·.2)):=by
 induction r with
 | nil=>exact True.intro
 | @cons p q ps qs h t ih =>
  obtain⟨h1,_,h2⟩:=h
  by_cases e:p.1=k
  .have e':q.1=k:=h1.symm.trans e
   have b:atKey (q::qs) k=some q.2:=by simp[atKey,Kk,e']
   rw[Q0 e,b];exact h2
  .have e':¬q.1=k:=λz=>e (h1.trans z)
   have b:atKey (q::qs) k=atKey qs k:=by simp[atKey,Kk,e']
   rw[w6 e,b];exact ih
theorem KT.repl {H:Hp}{kvs:List (List Key×V)}{xs:List (List Key×Addr×Value)}(r:KT H kvs xs)(k:List Key){y:V}{u:Value}(ry:l6 y u) :
  KT H (kvs.map λkv=>if kv.1=k then(kv.1,y) else kv) (xs.map (putAt k u)):=by
 induction r with
 | nil=>exact .nil
 | @cons p q ps qs h t ih =>
  rw[HX,HX]
  refine .cons ?_ ih
  obtain⟨h1,h2,h3⟩:=h
  unfold putAt
  by_cases e:p.1=k
  .rw[HH e,HH (h1.symm.trans e)];exact⟨h1,h2,ry⟩
  .rw[HM e,HM (λz=>e (h1.trans z))];exact⟨h1,h2,h3⟩
theorem KT.put {H:Hp}{kvs:List (List Key×V)}{xs:List (List Key×Addr×Value)}(r:KT H kvs xs)(k:List Key){b:Addr}{y:V}{u:Value}(hb:H b=some (.tup (k.map kV)))(ry:l6 y u) :
  KT H (J6 kvs k y) (storedH xs k b u):=by
 have e:(kvs.any λkv=>decide (kv.1=k))=(atKey xs k).isSome:=by
  rw[Y0,(r.val k).isSome_eq,Option.isSome_map]
 unfold J6 storedH
 rw[e]
 by_cases q:(atKey xs k).isSome=true
 .rw[HH q,HH q];exact r.repl k ry
 .rw[HM q,HM q];exact Paired.snoc r ⟨rfl,hb,ry⟩
theorem KT.keeps {H H':Hp}{kvs:List (List Key×V)}{xs:List (List Key×Addr×Value)}(r:KT H kvs xs)(ht:∀b ys,H b=some (.tup ys)->H' b=some (.tup ys)):KT H' kvs xs :=
 Paired.mapP r λ_ _ z=>⟨z.1,ht _ _ z.2.1,z.2.2⟩
section
variable {P:Program}{w:World}{H:Hp}{h:Heap}{a:Addr}
theorem yA {u:HO}(ok:HOk P w H h)(e:Rd H a u):A7 P w H h a u:=e.ok ok
theorem ug {kvs:List (Key×V)}(ok:HOk P w H h)(e:Rd H a (.dK kvs)):kvs.length<=sizeLine/\(a == sysModules)=false/\∃vs,KV kvs vs/\h.DictOf (A8 P w) a vs :=
 show A7 P w H h a (.dK kvs) from yA ok e
theorem yW {kvs:List (Key×V)}(ok:HOk P w H h)(e:H a=some (.dK kvs)):kvs.length<=sizeLine/\(a == sysModules)=false/\∃vs,KV kvs vs/\h.DictOf (A8 P w) a vs:=ug ok (.inl e)
theorem oD {ks:List Key}(ok:HOk P w H h)(e:H a=some (.tup (ks.map kV))):(tupleKind (A8 P w)).is h ks a:=by
 obtain⟨_,its,r,o,h1,h2,n,h3⟩:=(show A7 P w H h a (.tup (ks.map kV)) from ok a _ e)
 exact⟨o,its.toArray,n,h1,h2,h3,by simpa using iT r⟩
theorem vQ {kvs:List (List Key×V)}(ok:HOk P w H h)(e:Rd H a (.dT kvs)):kvs.length<=sizeLine/\(a == sysModules)=false /\
  ∃xs,KT H kvs xs/\h.DictOfH (tupleKind (A8 P w)) a xs:=by
 obtain⟨z,y,xs,r,o,es,ep,h1,h2,h3,h4,h5⟩:=(show A7 P w H h a (.dT kvs) from yA ok e)
 refine⟨z,y,xs,r,o,es,ep,h1,h2,h3,h4,λx hx=>?_,h5⟩
 have all:∀{l:List (List Key×V)} {m:List (List Key×Addr×Value)},KT H l m->∀x∈m,(tupleKind (A8 P w)).is h x.1 x.2.1:=by
  intro l m q
  induction q with
  | nil=>intro x hx;exact nomatch hx
  | @cons p q ps qs hq t ih =>
   intro x hx
   rcases HB.mp hx with e | hx
   .subst e
    exact oD ok (by rw[<-hq.1];exact hq.2.1)
   .exact ih x hx
 exact all r x hx
theorem By {kvs:List (List Key×V)}(ok:HOk P w H h)(e:H a=some (.dT kvs)):kvs.length<=sizeLine/\(a == sysModules)=false /\
  ∃xs,KT H kvs xs/\h.DictOfH (tupleKind (A8 P w)) a xs:=vQ ok (.inl e)
end
def cM (H:Hp)(a:Addr)(y:V)(r:Option V):Prop :=
 (∃kvs k,Rd H a (.dK kvs)/\y=kV k/\r=aK kvs k)\/∃kvs k b,Rd H a (.dT kvs)/\y = .ref b/\H b=some (.tup (k.map kV))/\r=aK kvs k
def mX (H:Hp)(a:Addr)(y v:V)(H':Hp):Prop :=
 (∃kvs k,H a=some (.dK kvs)/\y=kV k/\kvs.length<sizeLine/\H'=upd H a (.dK (J6 kvs k v))) \/
 ∃kvs k b,H a=some (.dT kvs)/\y = .ref b/\H b=some (.tup (k.map kV))/\kvs.length<sizeLine/\H'=upd H a (.dT (J6 kvs k v))
theorem cM.k {H:Hp}{a:Addr}{kvs:List (Key×V)}{k:Key}(e:H a=some (.dK kvs)):cM H a (kV k) (aK kvs k):=.inl ⟨kvs,k,.inl e,rfl,rfl⟩
theorem mX.k {H:Hp}{a:Addr}{kvs:List (Key×V)}{k:Key}{v:V}(e:H a=some (.dK kvs))(hl:kvs.length<sizeLine):mX H a (kV k) v (upd H a (.dK (J6 kvs k v))):=.inl ⟨kvs,k,e,rfl,hl,rfl⟩
section
variable {X:Cx}{pins:List (Addr×Obj)}{σ:St}{H:Hp}{s:Shared}{a:Addr}{y v:V}{u r:Value}{o:Option V}{A:Around}{E:Value->Shared->Prop}
theorem Inv.big (I:Inv X pins σ H s):sysModules<s.heap.objs.size:=by
 have h:mainGlobals<s.heap.objs.size:=(I.mod.glob.keeps I.bk).lt
 exact Nat.lt_trans (by decide) h
theorem rh {Q:Value->Shared->Prop}(hu:A.units+1<cLine)(I:Inv X pins σ H s)(g:cM H a y (some v))(ry:l6 y u)(h:∀w' s',Inv X pins σ H s'->l6 v w'->Q w' s') :
  wpAny (model X.prog X.w) A (getItem (.ref a) u) Q E s:=by
 rcases g with ⟨kvs,k,e,ey,l⟩ | ⟨kvs,k,b,e,ey,eb,l⟩
 .subst ey
  obtain⟨z,hd,vs,rel,dd⟩:=ug I.hok e
  obtain⟨w',hw,rw'⟩:=fK.some_of (v:=v) (o:=valueAt vs k) (by rw[l];exact rel.val k)
  exact wpAny_getItem_of (ph ry) dd.mapOf hw (h w' _ (I.tok _) rw')
 .subst ey
  cases(show u=Value.ref b from ry)
  obtain⟨z,hd,xs,rel,dd⟩:=vQ I.hok e
  obtain⟨w',hw,rw'⟩:=fK.some_of (v:=v) (o:=(atKey xs k).map (·.2)) (by rw[l];exact rel.val k)
  obtain⟨p,hp,hp2⟩:=Ip.mp hw
  refine wpAny_getItem_heap (tupleKind_room_in1 hu) (oD I.hok eb) dd hp ?_
  rw[hp2]
  exact h w' _ (I.tok _) rw'
theorem jL {h':Heap}{t':Nat}{ob:HO}(I:Inv X pins σ H s)(mu:Mut (H a))(hs:Heap.SameBut a s.heap h')(he:∃q,h'.get? a=some q)(new:A7 X.prog X.w (upd H a ob) h' a ob) :
  Inv X pins σ (upd H a ob) { s with heap:=h',toks:=t' } :=
 I.write (x:=a) (e:=a) mu (.inl rfl) (λb q hb z=>(hs.2 b hb).trans z) he new
theorem sR {P:Program}{w:World}{H':Hp}{h':Heap}{kvs:List (Key×V)}{vs:List (Key×Value)}(z:kvs.length<=sizeLine)(hd:(a == sysModules)=false)(rel:KV kvs vs)(dd:h'.DictOf (A8 P w) a vs) :
  A7 P w H' h' a (.dK kvs):=⟨z,hd,vs,rel,dd⟩
theorem sy {H':Hp}{Q:Unit->Shared->Prop}(hu:A.units+1<cLine)(I:Inv X pins σ H s)(g:mX H a y v H')(ry:l6 y u)(rv:l6 v r)(h:∀s',Inv X pins σ H' s'->Q () s') :
  wpAny (model X.prog X.w) A (setItem (.ref a) u r) Q E s:=by
 rcases g with ⟨kvs,k,e,ey,l,eH⟩ | ⟨kvs,k,b,e,ey,eb,l,eH⟩
 .subst ey eH
  obtain⟨z,hd,vs,rel,dd⟩:=yW I.hok e
  have hz:vs.length<=sizeLine:=by rw[<-rel.length];exact z
  have hl:(J6 kvs k v).length<=sizeLine:=by have:=Z8 kvs k v;omega
  refine wpAny_setItem_pairs (hsz:=hz) (ph ry) dd λh' dd' hs=>h _ ?_
  have he:∃q,h'.get? a=some q:=let ⟨q,_,_,hq,_⟩:=dd';⟨q,hq⟩
  exact jL I (by rw[e];exact True.intro) hs he (sR hl hd (rel.put k rv) dd')
 .subst ey eH
  cases(show u=Value.ref b from ry)
  obtain⟨z,hd,xs,rel,dd⟩:=By I.hok e
  have hz:xs.length<=sizeLine:=by rw[<-LQ rel];exact z
  have hl:(J6 kvs k v).length<=sizeLine:=by have:=Z8 kvs k v;omega
  refine wpAny_setItem_heap (hsz:=hz) (tupleKind_room_in1 hu) (oD I.hok eb) dd λh' dd' hs=>h _ ?_
  obtain⟨q,es,ep,hq,h2,h3,h4,_,h5⟩:=dd'
  refine jL I (by rw[e];exact True.intro) hs ⟨q,hq⟩ ⟨hl,hd,_,(rel.put k eb rv).keeps λc ys ec=>?_,q,es,ep,hq,h2,h3,h4,h5⟩
  rw[a8 (BL ec e (λz=>nomatch z))]
  exact ec
end
section
variable {X:Cx}{pins:List (Addr×Obj)}{σ:St}{H:Hp}{s:Shared}{a:Addr}{kvs:List (Key×V)}{k:Key}{u:Value}{A:Around}{E:Value->Shared->Prop}
end
def Bw (i:Expr):Prop:=∀ov iv,subscripted i false ov iv=operate [ov,iv] (getItem ov iv)
theorem xO {prog:Program}{w:World}{A:Around}{E:Value->Shared->Prop}{s:Shared}{env:Env}{value slice:Expr}{pos:Pos}{T id:String}{Q:Value->Shared->Prop}
  (hl:typeLookup (.type T) "__getitem__" = pure (some (.builtin id))) (hs:Bw slice)
  (h:wpAny (model prog w) A (eval value env) (λo s₁=>wpAny (model prog w) A (eval slice env) (λi s₂=>s₂.TypeIs o T/\wpAny (model prog w) A (getItem o i) Q E s₂) E s₁) E s) :
  wpAny (model prog w) A (eval (.Subscript value slice pos) env) Q E s:=by
 refine Subscript_ (Jp h (λo s₁ h₁=>Jp h₁ (λi s₂ h₂=>?_) λ_ _ x=>x) λ_ _ x=>x)
 obtain⟨hT,h₂⟩:=h₂
 unfold subscriptTail
 refine Hy ?_
 rw[getitemInPython_of_ne hT.not_modules]
 refine Hy (wpAny_specialOf hT hl ?_)
 have fin:wpAny (model prog w) A (subscripted slice false o i) (λr s₃=>wpAny (model prog w) A (letTemporaryGo value o r >>= λ_=>pure r) Q E s₃) E s₂:=by
  rw[hs o i]
  exact wpAny_operating (Jp h₂ (λr s₃ h₃=>Hy (wpAny_letTemporaryGo (HS h₃))) λ_ _ x=>x)
 first
  | exact HS (Hy fin)
  | exact Hy (HS (Hy fin))
  | exact Hy fin
theorem mF {X:Cx}{pins:List (Addr×Obj)}{σ:St}{H:Hp}{s:Shared}{a:Addr}{y:V}{o:Option V}(I:Inv X pins σ H s)(g:cM H a y o):s.TypeIs (.ref a) "dict":=by
 rcases g with ⟨kvs,k,e,_,_⟩ | ⟨kvs,k,b,e,_,_,_⟩
 .obtain⟨_,_,vs,_,dd⟩:=ug I.hok e
  exact dd.typeIs
 .obtain⟨_,_,xs,_,dd⟩:=vQ I.hok e
  exact dd.typeIs
def E9 (td ty:TE):TE:=λσ H Q=>td σ H λx H1=>ty σ H1 λy H2=>∃a v,x = .ref a/\cM H2 a y (some v)/\Q v H2
def sG (td ty tv:TE):TS:=λD σ H=>tv σ H λv H1=>td σ H1 λx H2=>ty σ H2 λy H3=>∃a H4,x = .ref a/\mX H3 a y v H4/\D.nx σ H4
section
variable {X:Cx}{o i e value:Expr}{pos pos' tpos:Pos}{td ty tv:TE}
theorem C0 (hu:X.A.units+1<cLine)(ho:PE X o td)(hi:PE X i ty)(hs:Bw i):PE X (.Subscript o i pos) (E9 td ty):=by
 intro pins s σ H Q I h
 refine xO PySem.F.slot_dict_getitem.lookup hs (thn (ho pins s σ H _ I h) λu s1 ⟨x,H1,I1,rx,q1⟩=>thn (hi pins s1 σ H1 _ I1 q1) λiv s2 ⟨y,H2,I2,ry,a,v,ex,g,q2⟩=>?_)
 subst ex
 obtain rfl:u=Value.ref a:=rx
 exact⟨mF I2 g,rh hu I2 g ry λw' s3 I3 rw'=>⟨v,H2,I3,rw',q2⟩⟩
theorem pD (hu:X.A.units+1<cLine)(ho:PE X o td)(hi:PE X i ty)(hv:PE X value tv)(hs:swapsWith value (some (.Subscript o i pos')) pos.line X.env=pure false) :
  PS X (.Assign [.Subscript o i pos'] value pos) (sG td ty tv):=by
 intro pins s σ H D I h
 refine wpAny_Assign_Subscript (thn (hv pins s σ H _ I h) λr s1 ⟨v,H1,I1,rv,q1⟩=>thn (ho pins s1 σ H1 _ I1 q1) λu s2 ⟨x,H2,I2,rx,q2⟩=>thn (hi pins s2 σ H2 _ I2 q2) λiv s3 ⟨y,H3,I3,ry,a,H4,ex,g,q3⟩=>?_) hs
 subst ex
 obtain rfl:u=Value.ref a:=rx
 exact sy hu I3 g ry rv λs4 I4=>⟨σ,H4,I4,q3⟩
end
theorem vT {P:Program}{w:World}{H:Hp}(h:Heap)(hb:sysModules<h.objs.size):A7 P w H (h.push { cls:=.type "dict",data:=.dict #[] }) h.objs.size (.dK []) :=
 ⟨IG _,Kz.mpr (Iz (Ic hb)),[],.nil,Heap.DictOf.new h⟩
section
variable {X:Cx}{pos:Pos}
end
def oJ:List (TE×TE)->St->Hp->(List (V×V)->Hp->Prop)->Prop
 | [],_,H,Q=>Q [] H
 | (tk,tv)::r,σ,H,Q=>tk σ H λx H1=>tv σ H1 λy H2=>oJ r σ H2 λps H3=>Q ((x,y)::ps) H3
abbrev VV:List (V×V)->List (Value×Value)->Prop:=Paired λp q=>l6 p.1 q.1/\l6 p.2 q.2
def PPs (X:Cx)(pos:Pos)(keys:List (Option Expr))(values:List Expr)(trs:List (TE×TE)):Prop :=
 ∀(pins:List (Addr×Obj)) (s:Shared) (σ:St) (H:Hp) (Q:List (V×V)->Hp->Prop),Inv X pins σ H s->oJ trs σ H Q ->
  wpAny (model X.prog X.w) X.A (evalPairs (pairTrees keys values X.env pos)) (λvs s'=>∃ps H',Inv X pins σ H' s'/\VV ps vs/\Q ps H') X.xe s
theorem wy {X:Cx}{pos:Pos}:PPs X pos [] [] []:=λpins s σ H Q I h=>pairTrees_nil_walk ⟨[],H,I,.nil,h⟩
theorem cJ {X:Cx}{pos:Pos}{k v:Expr}{ks:List (Option Expr)}{vs:List Expr}{tk tv:TE}{trs:List (TE×TE)}(hk:PE X k tk)(hv:PE X v tv)(hr:PPs X pos ks vs trs) :
  PPs X pos (some k::ks) (v::vs) ((tk,tv)::trs):=λpins s σ H Q I h =>
 pairTrees_cons_walk (thn (hk pins s σ H _ I h) λu s1 ⟨x,H1,I1,rx,q1⟩=>thn (hv pins s1 σ H1 _ I1 q1) λw2 s2 ⟨y,H2,I2,ry,q2⟩ =>
  thn (hr pins s2 σ H2 _ I2 q2) λws s3 ⟨ps,H3,I3,rel,q3⟩=>⟨(x,y)::ps,H3,I3,.cons ⟨rx,ry⟩ rel,q3⟩)
def dF (kvs more:List (Key×V)):List (Key×V):=more.foldl (λacc kv=>J6 acc kv.1 kv.2) kvs
theorem KV.merge:∀{more:List (Key×V)} {rs:List (Key×Value)} {kvs:List (Key×V)} {vs:List (Key×Value)},KV more rs->KV kvs vs->KV (dF kvs more) (merged vs rs):=by
 intro more rs kvs vs r
 unfold KV at r
 induction r generalizing kvs vs with
 | nil=>intro q;exact q
 | @cons p q ps qs h t ih =>
  intro r0
  have e:KV (J6 kvs p.1 p.2) (stored vs q.1 q.2):=by
   have:=r0.put p.1 h.2
   rw[<-h.1];exact this
  exact ih e
theorem aX:∀(more kvs:List (Key×V)),(dF kvs more).length<=kvs.length+more.length
 | [],kvs=>by show kvs.length<=kvs.length+0;omega
 | p::r,kvs=>by
  have h1:=aX r (J6 kvs p.1 p.2)
  have h2:=Z8 kvs p.1 p.2
  show(dF (J6 kvs p.1 p.2) r).length<=_
  rw[HZ];omega
theorem hX {P:Program}{w:World}:∀{kvs:List (Key×V)} {ws:List (Value×Value)},VV (kvs.map λkv=>(kV kv.1,kv.2)) ws->∃rs,Carries (A8 P w) ws rs/\KV kvs rs
 | [],_,r=>by rw[Jb]at r;cases r;exact⟨[],True.intro,.nil⟩
 | p::kvs,_,r=>by
  rw[HX]at r
  cases r with
  | @cons a b as bs h t =>
   obtain⟨rs,c,q⟩:=hX (P:=P) (w:=w) t
   obtain⟨b1,b2⟩:=b
   exact⟨(p.1,b2)::rs,⟨ph h.1,rfl,c⟩,.cons ⟨rfl,h.2⟩ q⟩
def yr (trs:List (TE×TE)):TE:=λσ H Q=>∀p,H p=none->oJ trs σ (upd H p (.dK [])) λps H2=>H2 p=some (.dK [])/\∃kvs:List (Key×V),ps=kvs.map (λkv=>(kV kv.1,kv.2))/\kvs.length<=15/\Q (.ref p) (upd H2 p (.dK (dF [] kvs)))
theorem vV {X:Cx}{pos:Pos}{keys:List (Option Expr)}{values:List Expr}{trs:List (TE×TE)}(h:PPs X pos keys values trs)(hall:keys.all (·.isSome)=true)(hl:keys.length=values.length)(h0:keys≠[])
  (h15:keys.length<=15):PE X (.Dict keys values pos) (yr trs):=by
 intro pins s σ H Q I q
 have hn:=I.hok.fresh (HK s.heap.objs.size)
 have I1:=I.laid (a:=s.heap.objs.size) (o:=.dK []) (h':=s.heap.push { cls:=.type "dict",data:=.dict #[] }) (t':=s.toks) (λ_ _ q=>HI _ q) (HK _) (vT s.heap I.big)
 refine wpAny_Dict_walk (knd:=A8 X.prog X.w) hall hl h0 h15 (thn (h pins _ σ _ _ I1 (q _ hn)) λws s2 ⟨ps,H2,I2,rel,e,kvs,ep,lk,q2⟩=>?_)
 subst ep
 obtain⟨rs,c,rk⟩:=hX (P:=X.prog) (w:=X.w) rel
 obtain⟨z,hd,vs0,r0,dd⟩:=yW I2.hok e
 cases r0
 refine⟨rs,c,dd,λh' dd' hs=>⟨.ref s.heap.objs.size,_,?_,rfl,q2⟩⟩
 have hz:(dF [] kvs).length<=sizeLine:=by
  have h1:=aX kvs []
  rw[JG]at h1
  rw[Io];omega
 have he:∃q,h'.get? s.heap.objs.size=some q:=let ⟨q,_,_,hq,_⟩:=dd';⟨q,hq⟩
 exact jL I2 (by rw[e];exact True.intro) hs he (sR hz hd (rk.merge .nil) dd')
section
variable {X:Cx}{pins:List (Addr×Obj)}{σ:St}{H:Hp}{s:Shared}{a:Addr}{y d:V}{u r:Value}{o:Option V}{A:Around}{E:Value->Shared->Prop}
end
section
variable {X:Cx}{o e f:Expr}{apos cpos:Pos}{td ty tx:TE}
end
section
variable {X:Cx}{pins:List (Addr×Obj)}{σ:St}{H:Hp}{s:Shared}{a:Addr}{kvs:List (Key×V)}{A:Around}{E:Value->Shared->Prop}
end
section
variable {X:Cx}{pins:List (Addr×Obj)}{σ:St}{H:Hp}{s:Shared}{a:Addr}{y:V}{u:Value}{A:Around}{E:Value->Shared->Prop}
end
end
end L2
namespace Att
open PySem PySem.W PySem.Calls PyProof.Rows
theorem eU {P:Params}{h:Heap}:∀(ns:List Int) (vs:List Value),WellAll P h vs (ns.map WData.int)->IntsAre vs ns:=by
 intro ns
 induction ns with
 | nil =>
  intro vs w
  rw[Jb]at w
  cases w
  exact .nil
 | cons n ns ih =>
  intro vs w
  rw[HX]at w
  cases w with
  | cons a b =>
   cases a
   exact .cons _ _ (ih _ b)
theorem qO {l:OpenLaw}{n:Nat}(hn:l.most=some n){P:Params}{h:Heap}{args:List WData}{vals:List Value}
  (hpre:l.row.toRowW.claim.pre args=true) (hwl:WellAll P h vals args) :
  ∃a vs ns,vals=[Value.ref a]/\args=[WData.list (ns.map WData.int)]/\h.get? a=some { cls:=.type "list",data:=.seq vs.toArray }/\IntsAre vs ns/\ns.length<=n:=by
 have hsh:WShape.hasAll [] args [.list .int]=true:=(pre_splitW hpre).1
 have hc:l.pre.holds [] { args:=args }=true:=(pre_splitW hpre).2
 obtain⟨d,r,rfl,h1,h2⟩:=hasAllW_cons hsh
 obtain rfl:=hasAllW_nil h2
 obtain⟨xs,rfl,h3⟩:=hasW_list h1
 obtain⟨ns,rfl⟩:=items_int h3
 have hlen:ns.length<=n:=by
  unfold OpenLaw.pre at hc
  have h4:(WTm.not (.lt (.lit (.int (n:Int))) (.len (.arg 0)))).holds [] { args:=[.list (ns.map .int)] }=true:=by
   have h4:=(holds_andW hc).1
   rw[hn]at h4
   exact h4
  have h5:=condW_of h4 (w_not (w_lt w_lit (w_len_list (w_arg rfl))))
  rw[Hz]at h5
  refine Nat.le_of_not_lt λq=>?_
  have q':(n:Int)<((ns.length:Nat):Int):=by omega
  first
   | (rw[Je q']at h5;exact absurd h5 (by decide))
   | (simp at h5;omega)
 cases hwl with
 | cons w1 w2 =>
  cases w2
  cases w1 with
  | list ho hall=>exact⟨_,_,ns,rfl,rfl,ho,eU ns _ hall,hlen⟩
theorem rT (l:OpenLaw)(args:List WData):l.row.toRowW.claim.post args (.bool true) args=true :=
 postW_of (r:=l.row.toRowW) (X:=(true == true))
  (show WShape.has [] (.bool true) .bool=true by first | rfl | decide | simp[WShape.has,WShape.arms,WShape.armsAll])
  (show(WTm.eq .res (.lit (.bool true))).value [] { args:=args,res:=some (.bool true),after:=args }=some (.bool (true == true)) from w_eq_bool (w_res rfl) w_lit) rfl
theorem attach_call {l:OpenLaw}{n:Nat}{q:Program}{loose:List Str}{XP:(Str->Option Value)->Heap->Prop}{YP:World->Heap->Prop}{d:DefRec}
  (hn:l.most=some n) (hdf:d.params.defaults=[])
  (call:∀(w:World) (s₀ s₁:Shared) (mg mb:Str->Option Value) (fa:Addr) (o:Obj) (pm cd doc:Value) (a:Addr) (vs:List Value) (ns:List Int),
   Ground q loose [] XP w s₀ mg mb s₁.heap->YP w s₁.heap ->
   s₁.heap.get? fa=some o->o.data = .func (docDef d.name d.params d.body d.scope pm cd doc)->s₁.heap.CodeRec cd d.name->mg d.name=some (.ref fa) ->
   s₁.heap.get? a=some { cls:=.type "list",data:=.seq vs.toArray }->IntsAre vs ns->ns.length<=n->s₁.gens = #[] ->
   codeAny (model l.prog w) callerA (.call (.ref fa) ⟨[.ref a],[]⟩) (λr s'=>r = .ok (.ret (.bool true))/\OldK s₁.heap s'.heap/\s'.os=s₁.os/\AllBare s'.gens) s₁) :
  WalkO q loose XP YP l.row.toRowW d [] (λf vs=>PySem.call f vs):=by
 intro w s₀ s₁ mg mb G Y fa o pm cd doc dV kV ho hd hcd hD hmg hg args vals as hpre hlay hrd hwl hlo
 obtain rfl:dV = .none:=Dflts.none hD hdf
 obtain rfl:kV = .none:=Dflts.noKw hD
 obtain⟨a,vs,ns,rfl,rfl,hobj,hints,hlen⟩:=qO hn hpre hwl
 refine enter_call (codeAny_mono (call w s₀ s₁ mg mb fa o pm cd doc a vs ns G Y ho (fd_plain hd) hcd hmg hobj hints hlen hg) λr s' hq=>?_)
 obtain⟨rfl,h2,h3,h4⟩:=hq
 exact⟨.inl ⟨.bool true,.bool true,[],rfl,λ_=>rfl,.bool true,rT l _,λ_=>⟨List.Pairwise.nil,λ_ hm=>(nomatch hm)⟩⟩,h2,h3,h4⟩
section
variable {prog:Program}{w:World}{A:Around}{E:Value->Shared->Prop}{s:Shared}{K:Frag}
end
end Att
namespace L2
open PySem PySem.Spec PyProof.Rows
section
theorem dy:∀{vs:List Value} {ns:List Int},IntsAre vs ns->i5 (ns.map V.int) vs
 | _,_,.nil=>.nil
 | _,_,.cons n t h=>.cons ⟨t,rfl⟩ (dy h)
end
section
end
end L2
/- THE LAST THEOREM (shape;LID,My.* are yours):
   My.Adr: a structure of the addresses that your layer names (classes,functions);My.Txt K t: a structure (Prop) of the equations over K;
   My.txt_mk:{K} {implicit addresses ..} (e1:nsIn K mainGlobals "law" = some (some (.ref f))) (e2:K.lookup f=some ⟨oc,od,.func (fnOf "law" "law" params body scope dV kV doc pm an cdv ct),sl⟩) (e3:codeIn K cdv "law" = true) ..:∃t,My.Txt K t
set_option maxRecDepth 100000 in
set_option maxHeartbeats 0 in
theorem PySem.Challenge.cw_LID_holds:PySem.Challenge.rw_LID.Holds:=by
 w_on;o_law;k_head;(case hw=>w_witness2)
 k_fill
 refine L2.walk_of (l:=PySem.Challenge.rw_LID) (n:=63) (k:=40) (x:="script") (CX:=λw=>..) (sp:=λ_=>My.sp_law) rfl (by decide) rfl ⟨rfl,by decide,by decide⟩ (λw h Y=>PySem.W.kIn_of Y) ?F ?S ?C
 case F =>
  intro w mg fa h KX G hmg
  have T:∃t,My.Txt (L2.KOf KX) t:=by
   dsimp only[L2.KOf]                          -- K must stand as «<heap const> w.params» for k_is
   refine' My.txt_mk ?e1 ?e2 ?e3 ..
   (case e1=>PySem.W.k_is)                    -- in the order: a name -> its address -> its object -> its parts
   (case e2=>PySem.W.k_is)
   ..
  obtain⟨t,T⟩:=T
  have e0:=hmg.symm.trans (Ln KX G T.law)
  cases e0                                       -- fa is the law's own address
  exact⟨_,λs u=>.of_eq rfl,λbase kb nb=>My.law_fn T kb nb⟩     -- if «.of_eq rfl» comes too early: refine' ⟨_,?b,λbase kb nb=>My.law_fn T kb nb⟩;exact λs u=>.of_eq rfl
 case S=>exact λw H a ns hl hO hS=>..
 case C=>exact ..
(the tactic k_is has no namespace: write k_is) -/
namespace L2
open PySem PySem.Spec PyProof.Rows
def defArgs (s:Stmt):Arguments:=match s with
 | .FunctionDef _ a _ _ _ _ _ _ _ _=>a
 | _=>{ posonlyargs:=[],args:=[],vararg:=none,kwonlyargs:=[],kw_defaults:=[],kwarg:=none,defaults:=[] }
def defBody (s:Stmt):List Stmt:=match s with
 | .FunctionDef _ _ b _ _ _ _ _ _ _=>b
 | _=>[]
def defScope (s:Stmt):Scope:=match s with
 | .FunctionDef _ _ _ _ _ _ sc _ _ _=>sc
 | _=>{ kind:=.function,names:=[],isGenerator:=false,isCoroutine:=false }
abbrev CX0:CXT:=λ_ _ _ _ _ _=>False
abbrev E0:XK:=λ_ _ _=>False
theorem BJ {X:Cx}:oG CX0 X E0:=λ_ _ _ _ _ _ _ h=>h.elim
structure Fun (K:Fg) (x qual:Str) (st:Stmt) (f:Addr) (fd:FuncData):Prop where
 ex:∃(oc:Value) (od:Option Addr) (kV doc pm:Value) (an:Option Addr) (cdv ct:Value) (osl:Array (Option Value)),
  fd=PySem.W.fnOf x qual (defArgs st) (defBody st) (defScope st) .none kV doc pm an cdv ct/\K.lookup f=some ⟨oc,od,.func fd,osl⟩/\PySem.W.codeIn K cdv qual=true
 kp:PySem.W.keepIn K (.ref f)=true
section
variable {P:Program}{w:World}{K:Fg}{mg:Str->Option Value}{base:Heap}
theorem Fun.ok {x qual:Str}{st:Stmt}{f:Addr}{fd:FuncData}{N ps:List Str}{k:Nat}{sp:Sp}(F:Fun K x qual st f fd)(S:FnScope N ps (defScope st))(len:∀vs H Q E,sp vs H Q E->vs.length=ps.length)
  (hbody:∀(cdv:Value) (A:Around) (outer:List Env) (s:Shared) (H:Hp) (vs:List V) (Q:VK) (E:XK),Room k (A.deeper (envOfC qual (defScope st) s.heap.objs.size f cdv))->sp vs H Q E ->
   ∃t,PSs (M8 CX0 P w K mg base N qual (defScope st) f cdv A outer s H E).nox (defBody st) t/\t { nx:=λ_ H'=>Q .non H',rt:=Q } (A5 N vs) H):FnOk P w K mg base CX0 (k+1) f fd ps sp:=by
 obtain⟨oc,od,kV,doc,pm,an,cdv,ct,osl,rfl,lk,hcd⟩:=F.ex
 refine yp lk hcd S len λA outer s H vs Q E hr hsp=>?_
 obtain⟨t,h,q⟩:=hbody cdv A outer s H vs Q E hr hsp
 exact⟨t,h.nox,q⟩
theorem Fun.binds {x qual:Str}{st:Stmt}{f:Addr}{fd:FuncData}{ps:List Str}(F:Fun K x qual st f fd)
  (h:∀(kV doc pm:Value) (an:Option Addr) (cdv ct:Value) (us:List Value),us.length=ps.length->bindArgs (PySem.W.fnOf x qual (defArgs st) (defBody st) (defScope st) .none kV doc pm an cdv ct) ⟨us,[]⟩=pure (ps.zip us)):dZ K fd ps []:=by
 obtain⟨oc,od,kV,doc,pm,an,cdv,ct,osl,rfl,lk,hcd⟩:=F.ex
 exact .all (h kV doc pm an cdv ct)
theorem fun_mk {x qual:Str}{st:Stmt}{f:Addr}{oc:Value}{od an:Option Addr}{osl:Array (Option Value)}{kV doc pm cdv ct:Value}(l:K.lookup f=some ⟨oc,od,.func (PySem.W.fnOf x qual (defArgs st) (defBody st) (defScope st) .none kV doc pm an cdv ct),osl⟩)
  (c:PySem.W.codeIn K cdv qual=true) (k:PySem.W.keepIn K (.ref f)=true):Fun K x qual st f (PySem.W.fnOf x qual (defArgs st) (defBody st) (defScope st) .none kV doc pm an cdv ct):=⟨⟨oc,od,kV,doc,pm,an,cdv,ct,osl,rfl,l,c⟩,k⟩
end
theorem CL {A:Around}{k:Nat}(hr:Room k A):A.units+1<cLine:=JU (Nat.add_le_add_left (by decide:1<=64) _) hr.units
theorem L7 {n:Nat}(h:n<=1000):n<sizeLine:=JU h (by decide)
section
variable {X:Cx}
theorem pv (i:Nat){x:Str}{pos:Pos}(hN:X.N[i]? = some x:=by rfl)(hv:Vis X.env.scope x:=by first | exact Or.inl rfl | exact Or.inr (Or.inl rfl) | exact Or.inr (Or.inr rfl))(hd:(x == ("__debug__":Str))=false:=by decide)
  (hcd:(x == ("__classdict__":Str))=false:=by decide):PE X (.Name x pos) (l4 i):=C7 hN hv hd hcd
end
theorem sX {A B:Prop}(h:B):if false=true then A else B:=by
 rw[HM Ia]
 exact h
theorem Br {A B:Prop}(h:A):if true=true then A else B:=by
 rw[HH rfl]
 exact h
theorem lP {c A B:Prop}[Decidable c](h1:c->A)(h2:¬c->B):if c then A else B:=by
 by_cases h:c
 .rw[HH h]
  exact h1 h
 .rw[HM h]
  exact h2 h
def d8 (H H':Hp):Prop:=∀b o,H b=some o->H' b=some o
theorem d8.refl (H:Hp):d8 H H:=λ_ _ h=>h
theorem d8.trans {H H1 H2:Hp}(a:d8 H H1)(b:d8 H1 H2):d8 H H2:=λc o h=>b c o (a c o h)
section
variable {X:Cx}
end
section
variable {κ:Type}[DecidableEq κ]
end
end L2
set_option maxHeartbeats 4000000
namespace L2
open PySem PySem.Spec PyProof.Rows
section
def F8 (f:Str->Addr):List (Str×NameKind)->List (Str×Addr)->List (Str×Addr)
 | [],acc=>acc
 | (n,kd)::r,acc=>F8 f r (if (kd == NameKind.free)=true then(n,f n)::acc else acc)
theorem K5 {scope:Scope}{env:Env}{f:Str->Addr}(h:∀y∈scope.names,y.2 = .free->cellOf env y.1=pure (f y.1)) :
  closureFor scope env=pure (F8 f scope.names []):=by
 have key:∀(l:List (Str×NameKind)) (acc:List (Str×Addr)),(∀y∈l,y.2 = .free->cellOf env y.1=pure (f y.1)) ->
   (forIn l acc (λ(x:Str×NameKind) (cs:List (Str×Addr))=>if (x.2 == NameKind.free)=true then(do let c <-cellOf env x.1;pure (ForInStep.yield ((x.1,c)::cs))) else pure (ForInStep.yield cs)):Sem (List (Str×Addr)))=pure (F8 f l acc):=by
  intro l
  induction l with
  | nil=>intro acc _;rfl
  | cons y r ih =>
   intro acc hy
   obtain⟨n,kd⟩:=y
   rw[List.forIn_cons]
   by_cases hk:(kd == NameKind.free)=true
   .have e:kd = .free:=by simpa using hk
    have hc:=hy (n,kd) HV e
    simp only[hk,Js]
    dsimp only at hc
    rw[hc]
    show(forIn r ((n,f n)::acc) _:Sem _)=_
    rw[ih _ λz hz=>hy z (HA _ hz)]
    simp only[F8,hk,Js]
   .simp only[hk,Ji]
    show(forIn r acc _:Sem _)=_
    rw[ih _ λz hz=>hy z (HA _ hz)]
    simp only[F8,hk,Ji]
    rfl
 have:=key scope.names [] h
 unfold closureFor
 show(forIn scope.names [] _ >>= λr=>pure r)=_
 rw[show(forIn scope.names ([]:List (Str×Addr)) _:Sem _)=_ from this]
 rfl
theorem O3 {f:Str->Addr}:∀(l:List (Str×NameKind)) (acc:List (Str×Addr)) {x:Str} {c:Addr},(F8 f l acc).lookup x=some c->((x,NameKind.free)∈l/\c=f x)\/acc.lookup x=some c
 | [],_,_,_,h=>.inr h
 | (n,kd)::r,acc,x,c,h=>by
  rw[F8]at h
  rcases O3 r _ h with ⟨h1,h2⟩ | h1
  .exact .inl ⟨HA _ h1,h2⟩
  .by_cases hk:(kd == NameKind.free)=true
   .rw[HH hk]at h1
    have e:kd = .free:=by simpa using hk
    subst e
    by_cases hx:x=n
    .subst hx
     simp at h1
     exact .inl ⟨HV,h1.symm⟩
    .have hb:(x == n)=false:=Kz.mpr hx
     rw[JI,hb]at h1
     exact .inr h1
   .rw[HM hk]at h1
    exact .inr h1
theorem ai {f:Str->Addr}:∀(l:List (Str×NameKind)) (acc:List (Str×Addr)) {x:Str},((x,NameKind.free)∈l\/acc.lookup x=some (f x))->(F8 f l acc).lookup x=some (f x)
 | [],_,_,h=>by
  rcases h with h | h
  .exact absurd h (by simp)
  .exact h
 | (n,kd)::r,acc,x,h=>by
  rw[F8]
  refine ai r _ ?_
  by_cases hk:(kd == NameKind.free)=true
  .rw[HH hk]
   have e:kd = .free:=by simpa using hk
   subst e
   by_cases hx:x=n
   .subst hx
    exact .inr (by simp)
   .have hb:(x == n)=false:=Kz.mpr hx
    rcases h with h | h
    .rcases HB.mp h with z | z
     .cases z;exact absurd rfl hx
     .exact .inl z
    .exact .inr (by rw[JI,hb];exact h)
  .rw[HM hk]
   rcases h with h | h
   .rcases HB.mp h with z | z
    .cases z;exact absurd rfl hk
    .exact .inl z
   .exact .inr h
theorem eR {scope:Scope}{env:Env}{x:Str}(hn:∀y∈scope.names,y.2 ≠ .cell)(h:(relabel scope env).names.lookup x=some .cell\/(relabel scope env).names.lookup x=some .free):(x,NameKind.free)∈scope.names:=by
 have go:∀kd,(relabel scope env).names.lookup x=some kd->kd = .cell\/kd = .free->(x,NameKind.free)∈scope.names:=by
  intro kd h hk
  have hm:=IX h
  unfold relabel at hm
  obtain⟨⟨n,k0⟩,hy,e⟩:=Il.mp hm
  by_cases hc:(k0 == NameKind.free&&env.scope.kind == .function&&env.kindOf n == some .cell)=true
  .simp only[hc,Js]at e
   cases e
   have:k0 = .free:=by
    simp only[JS]at hc
    simpa using hc.1.1
   subst this
   exact hy
  .simp only[hc,Ji]at e
   cases e
   rcases hk with r | r
   .subst r;exact absurd rfl (hn _ hy)
   .subst r;exact hy
 rcases h with h | h
 .exact go _ h (.inl rfl)
 .exact go _ h (.inr rfl)
theorem aV {φ:Str×NameKind->Str×NameKind}(hφ:∀n k,φ (n,k)=(n,k)\/(k = .free /\ φ (n,k)=(n,.cell))):∀{names:List (Str×NameKind)} {x:Str},names.lookup x=some .free->(names.map φ).lookup x=some .cell\/(names.map φ).lookup x=some .free
 | [],_,h=>by simp at h
 | (n,k)::r,x,h=>by
  have ih:=@aV φ hφ r x
  rw[HX]
  cases hx:x == n with
  | true =>
   simp only[JI,hx]at h
   cases h
   rcases hφ n .free with e | ⟨_,e⟩
   .rw[e,JI,hx];exact .inr rfl
   .rw[e,JI,hx];exact .inl rfl
  | false =>
   simp only[JI,hx]at h
   rcases hφ n k with e | ⟨_,e⟩
   .rw[e,JI,hx];exact ih h
   .rw[e,JI,hx];exact ih h
theorem cA {scope:Scope}{env:Env}{x:Str}(h:scope.names.lookup x=some .free):(relabel scope env).names.lookup x=some .cell\/(relabel scope env).names.lookup x=some .free:=by
 unfold relabel
 refine aV (λn k=>?_) h
 by_cases hc:(k == NameKind.free&&env.scope.kind == .function&&env.kindOf n == some .cell)=true
 .refine .inr ⟨?_,HH hc⟩
  simp only[JS]at hc
  simpa using hc.1.1
 .exact .inl (HM hc)
section
variable {prog:Program}{w:World}{A:Around}{R:Result->Shared->Prop}{s:Shared}
theorem cu {elt target iter:Expr}{ifs:List Expr}{scope:Scope}{pos:Pos}{it acc:Value}{env:Env}(I:Nat->Shared->Prop)
  (turn:∀n s,I n s->wpAny (model prog w) A (pyNext it) (λr s₁=>match r with
   | none=>R (.ok .next) s₁
   | some v=>wpAny (model prog w) A (letOwnedTupleGo target it v) (λ_ s₀=>wpAny (model prog w) A (assign target env v) (λ_ s₂ =>
     wpAny (model prog w) A (forIn ifs true λc r=>if r=true then do let ok <-isTrue c env (eval c env);pure (ForInStep.yield ok) else pure (ForInStep.yield r)) (λok s₃ =>
      if ok=true then wpAny (model prog w) A (eval elt env) (λx s₄ =>
       wpAny (model prog w) A (call (.builtin "list.append") [acc,x]) (λ_ s₅=>∃m,m<n/\I m s₅) (λ_ _=>False) s₄) (λ_ _=>False) s₃
      else ∃m,m<n/\I m s₃) (λ_ _=>False) s₂) (λ_ _=>False) s₀) (λ_ _=>False) s₁) (λ_ _=>False) s)
  (n:Nat) (h:I n s) :
  codeAny (model prog w) A (.compLoop (.ListComp elt [⟨target,iter,ifs,0⟩] scope pos) 0 it acc env) R s:=by
 refine codeAny_loop rfl I (λn s hI=>?_) n h
 show wpAny _ A ((compTurn (.ListComp elt [⟨target,iter,ifs,0⟩] scope pos) 0 it acc env).onRaise (λx=>do noteFrame x env;theTreesLotGoes x)) _ _ s
 refine wpAny_noted ?_
 rw[compTurn_list]
 refine Hy (Lm (Hy (Jp (turn n s hI) (λr s₁ h₁=>?_) λ_ _ h'=>h'.elim)))
 cases r with
 | none=>exact HS h₁
 | some v =>
  refine Hy (Jp h₁ (λ_ s₀ h₀=>?_) λ_ _ h'=>h'.elim)
  refine Hy (Jp h₀ (λ_ s₂ h₂=>Hy (Jp h₂ (λok s₃ h₃=>?_) λ_ _ h'=>h'.elim)) λ_ _ h'=>h'.elim)
  cases ok with
  | false=>exact HS ⟨rfl,h₃⟩
  | true =>
   exact Hy (Hy (Jp h₃ (λx s₄ h₄=>Hy (Jp h₄ (λ_ s₅ h₅=>HS (HS ⟨rfl,h₅⟩)) λ_ _ h'=>h'.elim)) λ_ _ h'=>h'.elim))
end
def aM (k:Nat)(cap:List Nat)(σ:St):St:=List.replicate k none++cap.map λj=>(σ[j]?).join
structure Caps (ON:List Str) (osc:Scope) (N:List Str) (k:Nat) (cap:List Nat) (scope:Scope):Prop where
 kind:scope.kind = .function
 nocell:∀y∈scope.names,y.2 ≠ .cell
 loc:∀y∈scope.names,y.2 = .local->scope.names.lookup y.1=some .local
 free:∀y∈scope.names,y.2 = .free->osc.names.lookup y.1=some .cell\/osc.names.lookup y.1=some .free
 len:N.length=k+cap.length
 capx:(cap.map λj=>ON[j]?)=(N.drop k).map some
 capf:∀x∈N.drop k,scope.names.lookup x=some .free
def cxC (X:Cx)(N:List Str)(scope:Scope)(cl:List (Str×Addr))(C:Addr)(ex:List Addr)(pins:List (Addr×Obj))(s₀:Shared)(H₀:Hp):Cx where
 prog:=X.prog
 w:=X.w
 K:=X.K
 mg:=X.mg
 base:=X.base
 A:=X.A
 N:=N
 s₀:=s₀
 H₀:=H₀
 env:=compEnvC scope cl C X.env
 outer:=X.stack
 stack:=X.stack
 ex:=ex
 fn:=λ_=>false
 calm:=X.calm
 pn:=X.pn++pins
 xe:=λ_ _=>False
def PTs (X:Cx)(ifs:List Expr)(t:TT):Prop :=
 ∀(pins:List (Addr×Obj)) (s:Shared) (σ:St) (H:Hp) (Q:Bool->Hp->Prop),Inv X pins σ H s->t σ H Q ->
  wpAny (model X.prog X.w) X.A (forIn ifs true λc r=>if r=true then do let ok <-isTrue c X.env (eval c X.env);pure (ForInStep.yield ok) else pure (ForInStep.yield r)) (TP X pins σ Q) X.xe s
def BW:TT:=λ_ H Q=>Q true H
theorem wO {X:Cx}:PTs X [] BW:=λ_ _ _ H _ I h=>wpAny_tests_nil ⟨H,I,h⟩
theorem wg {X:Cx}{c:Expr}{t:TT}(h:PT X c t):PTs X [c] t:=λpins s σ H Q I q=>wpAny_tests_one (h pins s σ H Q I q)
def tLC (wi:TI)(k:Nat)(cap:List Nat)(g:TG)(tt:TT)(te:TE):TE:=λσ H Q=>wi σ H λJ H1=>∀D,H1 D=none ->
 ∃W:Nat->Nat->St->List V->Hp->Prop,(∃m,W 0 m (aM k cap σ) [] (upd H1 D (.lst [])))/\∀i m σ' acc H',W i m σ' acc H' ->
  (J.stop i H'/\Q (.ref D) H') \/
  (J.go i H'/\∀x H2,J.yld i H' x H2->g x σ' H2 λσ2 H3=>tt σ2 H3 λok H4=>if ok=true then te σ2 H4 λy H5=>H5 D=some (.lst acc)/\acc.length<sizeLine/\∃m',m'<m/\W (i+1) m' σ2 (acc++[y]) (upd H5 D (.lst (acc++[y])))
   else H4 D=some (.lst acc)/\∃m',m'<m/\W (i+1) m' σ2 acc H4)
theorem tS {X:Cx}{elt tg iter:Expr}{ifs:List Expr}{scope osc:Scope}{pos:Pos}{N:List Str}{k:Nat}{cap:List Nat}{g:TG}{tt:TT}{te:TE}{cl:List (Str×Addr)}
  {pins:List (Addr×Obj)} {σ:St} {H3:Hp} {s3:Shared} {D it:Addr} {fp:List Addr} {tn:Nat->Heap->Prop} {J:It} {Q:VK} {W:Nat->Nat->St->List V->Hp->Prop} {m0:Nat}
  (hc:X.calm=true) (hosc:X.env.scope=osc) (hcap:Caps X.N osc N k cap scope)
  (hcl:∀{x:Str} {c:Addr},cl.lookup x=some c->X.env.cells.lookup x=some c) (hhas:∀x,(x,NameKind.free)∈scope.names->∃c,cl.lookup x=some c)
  (hg:∀cl C ex pins s H,PG (cxC X N scope cl C ex pins s H) tg g)
  (ht:∀cl C ex pins s H,PTs (cxC X N scope cl C ex pins s H) ifs tt)
  (he:∀cl C ex pins s H,PE (cxC X N scope cl C ex pins s H) elt te)
  (I3:Inv X pins σ H3 s3) (hD:H3 D=some (.lst [])) (T:Turn X.prog X.w X.K tg J fp it tn) (st:tn 0 s3.heap) (f3:∀b∈fp,eY X pins H3 b) (w0:W 0 m0 (aM k cap σ) [] H3)
  (turn:∀i m σ' acc H',W i m σ' acc H'->(J.stop i H'/\Q (.ref D) H') \/
   (J.go i H'/\∀x H2,J.yld i H' x H2->g x σ' H2 λσ2 H3=>tt σ2 H3 λok H4=>if ok=true then te σ2 H4 λy H5=>H5 D=some (.lst acc)/\acc.length<sizeLine/\∃m',m'<m/\W (i+1) m' σ2 (acc++[y]) (upd H5 D (.lst (acc++[y])))
    else H4 D=some (.lst acc)/\∃m',m'<m/\W (i+1) m' σ2 acc H4)) :
  wpAny (model X.prog X.w) X.A (newFunctionEnv scope X.env.globals cl [] X.env.qual none .none (some X.env)) (λcenv s₄ =>
   codeAny (model X.prog X.w) X.A (.compStart (.ListComp elt [⟨tg,iter,ifs,0⟩] scope pos) 0 (.ref it) (.ref D) { cenv with scope:=relabel scope X.env }) (compPost (model X.prog X.w) X.A X.xe none (EP X pins σ Q) (.ref D) cenv.locals) s₄) X.xe s3:=by
 refine Lv hcap.nocell (by intro y hy;simp at hy) (λh₁ hns₁ hsb₁=>?_) hcap.kind
 have old:∀b o,s3.heap.get? b=some o->h₁.get? b=some o:=λb o e=>hsb₁.extBut b o (Ic (HU e)) (HI _ e)
 have neC:∀b∈fp,b≠s3.heap.objs.size:=λb hb=>by
  obtain⟨o,e,_⟩:=T.obj _ _ st b hb
  exact Ic (HU e)
 have nofs:∀{b:Addr},b≠X.env.locals->b ∉ X.fs->b ∉ frs X.stack:=λ{b} h1 h2 z=>(HB.mp (I3.stkSub b z)).elim h1 h2
 have IY:Inv (cxC X N scope cl s3.heap.objs.size fp pins s3 H3) [] (aM k cap σ) H3 { s3 with heap:=h₁,toks:=s3.toks+([]:List (Str×Value)).length }:=by
  refine⟨⟨I3.ok.mod,hcap.kind,I3.ok.glob,I3.ok.blt,HK _,λx y c h1 h2=>I3.ok.inj x y c (hcl h1) (hcl h2),λx hx=>hhas x (eR hcap.nocell hx),λx c h=>absurd (show false=true from h) Ia,I3.ok.hd,I3.ok.frames,.inl rfl,
   λb hb=>⟨neC b hb,λx c e=>(f3 b hb).2.2.2.2.1 x c (hcl e)⟩,I3.bs,Im I3.ok.bsz I3.sz,λb o e hb=>?_,λb hb=>nofs (f3 b hb).2.1 (f3 b hb).2.2.1,I3.stack,I3.stkFree⟩,
   rfl,I3.bare,Un.kept old,⟨_,hns₁,λi x v e1 e2 e3=>?_⟩,λx c e=>?_,I3.hok.fresh (HK _),λx c e=>I3.freeC x c (hcl e),λp hp=>?_,I3.hok.kept old,?_⟩
  .rcases(f3 b hb).2.2.2.1 with z | z
   .exact I3.ok.noex b o e z
   .exact absurd (Ie (HU e) (Im I3.ok.bsz z)) (Jl _)
  .by_cases hi:i<k
   .unfold aM at e2
    rw[Ib (by simpa using hi),IJ,HH hi]at e2
    cases e2
   .obtain⟨d,rfl⟩:∃d,i=k+d:=⟨i-k,by omega⟩
    unfold aM at e2
    rw[Ig (by simp),Jj,Nat.add_sub_cancel_left,HP]at e2
    obtain⟨j,hj,hv⟩:=Ip.mp e2
    have hσ:σ[j]? = some (some v):=by
     cases q:σ[j]? with
     | none=>rw[q]at hv;cases hv
     | some o=>rw[q]at hv;exact IK some hv
    have e1':(N.drop k)[d]? = some x:=by rw[LL];exact e1
    have hx:X.N[j]? = some x:=by
     have z:=IK (λl=>l[d]?) hcap.capx
     simp only[HP,hj,e1',Kl]at z
     exact HN z
    have hfr:=hcap.capf x (Iy e1')
    have hfm:=IX hfr
    have hok:=hcap.free _ hfm rfl
    rw[<-hosc]at hok
    obtain⟨m,hn,hl⟩:=I3.loc
    obtain⟨u,r,l⟩:=hl j x v hx hσ (.inr hok)
    refine⟨u,r,?_⟩
    rcases l with ⟨hk,_⟩ | ⟨hk,c,hc1,hc2⟩
    .have hk:X.env.scope.names.lookup x=some .local:=hk
     rcases hok with z | z <;> (rw[hk]at z;cases z)
    .obtain⟨c',hc'⟩:=hhas x hfm
     have:c'=c:=HN ((hcl hc').symm.trans hc1)
     subst this
     exact .inr ⟨cA hfr,c',hc',hc2.keeps old⟩
  .obtain⟨v,z⟩:=I3.cell x c (hcl e)
   exact⟨v,z.keeps old⟩
  .have hp:p∈(X.pn++pins)++[]:=hp
   rw[IE]at hp
   obtain⟨a1,a2,a3,a4,a5⟩:=I3.pin p hp
   exact⟨old _ _ a1,a2,Ic (HU a1),nofs a3 a4,a5⟩
  .show(aM k cap σ).length=N.length
   unfold aM
   rw[IA,Jj,Hz,hcap.len]
 have stat:∀{H':Hp},(∀b∈fp,H' b=none)->∀b∈fp,eY (cxC X N scope cl s3.heap.objs.size fp pins s3 H3) [] H' b:=λ{H'} hn b hb=>by
  obtain⟨a0,a1,a2,a3,a4,a5⟩:=f3 b hb
  refine⟨hn b hb,neC b hb,nofs a1 a2,.inl hb,λx c e=>a4 x c (hcl e),λp hp=>a5 p ?_⟩
  have hp:p∈(X.pn++pins)++[]:=hp
  rwa [IE]at hp
 have loop:codeAny (model X.prog X.w) X.A (.compLoop (.ListComp elt [⟨tg,iter,ifs,0⟩] scope pos) 0 (.ref it) (.ref D) (compEnvC scope cl s3.heap.objs.size X.env))
   (compPost (model X.prog X.w) X.A X.xe none (EP X pins σ Q) (.ref D) s3.heap.objs.size) { s3 with heap:=h₁,toks:=s3.toks+([]:List (Str×Value)).length }:=by
  refine cu (λn s'=>∃i σ' acc H',Inv (cxC X N scope cl s3.heap.objs.size fp pins s3 H3) [] σ' H' s'/\tn i s'.heap/\(∀b∈fp,H' b=none)/\H' D=some (.lst acc)/\W i n σ' acc H') ?_ m0
   ⟨0,_,[],H3,IY,T.keep _ _ _ st λb _ o e=>old b o e,λb hb=>(f3 b hb).1,hD,w0⟩
  rintro n s5 ⟨i,σ5,acc,H5,I5,st5,fr5,hD5,w5⟩
  rcases turn i n σ5 acc H5 w5 with ⟨stop,q⟩ | ⟨go,step⟩
  .refine thn (T.done (cxC X N scope cl s3.heap.objs.size fp pins s3 H3) rfl rfl rfl hc i [] s5 σ5 H5 _ I5 (stat fr5) st5 stop) λr s6 ⟨hr,I6⟩=>?_
   subst hr
   obtain⟨m,hn,_⟩:=id I6.loc
   refine⟨m,hn,λh' hsb=>?_⟩
   have I7:Inv X pins σ H5 s6:=I3.call' I6.os I6.base I6.hok I6.bare λb hb=>by
    obtain⟨a0,a1,a2,a3,a4,a5⟩:=f3 b hb
    exact⟨a3,a1,a4,a5⟩
   obtain⟨g0,g1,g2,g3,g4,g5⟩:=I3.fpOk (H':=H5) (b:=s3.heap.objs.size) (HK _) I6.free
   exact⟨.ref D,H5,I7.turned (t':=s6.toks) (λb o hb e=>(hsb.2 b hb).trans e) g0 g1 g3 g4 g5,rfl,q⟩
  .refine thn (T.item (cxC X N scope cl s3.heap.objs.size fp pins s3 H3) rfl rfl rfl hc i [] s5 σ5 H5 _ I5 (stat fr5) st5 go) λr s6 ⟨u,hr,h6⟩=>?_
   subst hr
   refine thn h6 λ_ s7 ⟨x,H7,I7,r7,y7,st7,fr7⟩=>?_
   have I7':=I7.pinned (stat fr7) (T.obj _ _ st7)
   have keepI:∀{s':Shared} {σ':St} {H':Hp},Inv (cxC X N scope cl s3.heap.objs.size fp pins s3 H3) ([]++dq fp s7.heap) σ' H' s'->tn (i+1) s'.heap/\∀b∈fp,H' b=none:=λ{s' σ' H'} I'=>by
    refine⟨T.keep _ _ _ st7 λb hb o e=>(I'.pin (b,o) (HW _ (HW _ (L9 hb e)))).1,λb hb=>?_⟩
    obtain⟨o,e,d⟩:=T.obj _ _ st7 b hb
    exact(I'.pin (b,o) (HW _ (HW _ (L9 hb e)))).2.1
   refine thn (hg _ _ _ _ _ _ _ s7 σ5 H7 x u _ I7' r7 (step x H7 y7)) λ_ s8 ⟨σ8,H8,I8,q8⟩=>?_
   refine thn (ht _ _ _ _ _ _ _ s8 σ8 H8 _ I8 q8) λok s9 ⟨H9,I9,q9⟩=>?_
   cases ok with
   | false =>
    have q9:H9 D=some (.lst acc)/\∃m',m'<n/\W (i+1) m' σ8 acc H9:=q9
    obtain⟨hD9,m',hm,w9⟩:=q9
    obtain⟨k1,k2⟩:=keepI I9
    exact⟨m',hm,i+1,σ8,acc,H9,I9.unpinned,k1,k2,hD9,w9⟩
   | true =>
    refine thn (he _ _ _ _ _ _ _ s9 σ8 H9 _ I9 q9) λyv s10 ⟨y,H10,I10,r10,hD10,hz,m',hm,w10⟩=>?_
    refine thn (J0 (X:=cxC X N scope cl s3.heap.objs.size fp pins s3 H3) _ s10 σ8 H10 (.ref D) [y] (.ref D) [yv] (λ_ H'=>H'=upd H10 D (.lst (acc++[y]))) I10 rfl (.cons r10 .nil) ⟨D,acc,y,rfl,rfl,hD10,hz,rfl⟩)
     λ_ s11 ⟨_,H11,I11,_,e11⟩=>?_
    subst e11
    obtain⟨k1,k2⟩:=keepI I11
    exact⟨m',hm,i+1,σ8,acc++[y],_,I11.unpinned,k1,k2,b8,w10⟩
 exact codeAny_compStart_list loop (T.self X.A 0 _ _ _ (T.keep _ _ _ st λb _ o e=>old b o e) loop)
theorem ub {X:Cx}{elt tg iter:Expr}{ifs:List Expr}{scope osc:Scope}{pos:Pos}{N:List Str}{k:Nat}{cap:List Nat}{wi:TI}{g:TG}{tt:TT}{te:TE}
  (hc:X.calm=true) (hosc:X.env.scope=osc) (hcap:Caps X.N osc N k cap scope) (hi:PI X tg iter wi)
  (hg:∀cl C ex pins s H,PG (cxC X N scope cl C ex pins s H) tg g)
  (ht:∀cl C ex pins s H,PTs (cxC X N scope cl C ex pins s H) ifs tt)
  (he:∀cl C ex pins s H,PE (cxC X N scope cl C ex pins s H) elt te)
  (hs:∀x,foldedSetIterable iter X.env x=pure x:=by intro _;rfl) :
  PE X (.ListComp elt [⟨tg,iter,ifs,0⟩] scope pos) (tLC wi k cap g tt te):=by
 intro pins s σ H Q I h
 have hcell:∀y∈scope.names,y.2 = .free->∃c,X.env.cells.lookup y.1=some c:=λy hy hk=>I.ok.has y.1 (by
  show X.env.scope.names.lookup y.1=_\/X.env.scope.names.lookup y.1=_
  rw[hosc];exact hcap.free y hy hk)
 let f:Str->Addr:=λx=>(X.env.cells.lookup x).getD 0
 have hf:∀y∈scope.names,y.2 = .free->X.env.cells.lookup y.1=some (f y.1):=λy hy hk=>by
  obtain⟨c,e⟩:=hcell y hy hk
  show _=some ((X.env.cells.lookup y.1).getD 0)
  rw[e];rfl
 have hclos:closureFor scope X.env=pure (F8 f scope.names []):=K5 λy hy hk=>by
  unfold cellOf
  rw[hf y hy hk]
 have hcl:∀{x:Str} {c:Addr},(F8 f scope.names []).lookup x=some c->X.env.cells.lookup x=some c:=λ{x c} e=>by
  rcases O3 _ _ e with ⟨h1,h2⟩ | h1
  .rw[h2];exact hf (x,.free) h1 rfl
  .simp at h1
 have hhas:∀x,(x,NameKind.free)∈scope.names->∃c,(F8 f scope.names []).lookup x=some c:=λx hx=>⟨_,ai _ _ (.inl hx)⟩
 generalize F8 f scope.names []=cl at hclos hcl hhas
 rw[eval_ListComp]
 refine wpAny_comprehension_free (use:=none) (cl:=cl) rfl hs hclos hcap.kind hcap.loc ?_
 refine thn (hi pins s σ H _ I h) λv s1 h1=>thn h1 λitv s2 h2=>?_
 obtain⟨it,fp,tn,J,H2,e,I2,T,st2,f2,q2⟩:=h2
 subst e
 obtain⟨W,⟨m0,w0⟩,turn⟩:=q2 s2.heap.objs.size (I2.hok.fresh (HK _))
 refine IU ?_
 have I3:Inv X pins σ (upd H2 s2.heap.objs.size (.lst [])) { s2 with heap:=s2.heap.push { cls:=.type "list",data:=.seq ([]:List Value).toArray } }:=I2.lnew (ys:=[]) (its:=[]) (t':=s2.toks) .nil (IG _)
 have lt2:∀b∈fp,b≠s2.heap.objs.size:=λb hb=>by
  obtain⟨o,e,_⟩:=T.obj _ _ st2 b hb
  exact Ic (HU e)
 exact tS hc hosc hcap hcl hhas hg ht he I3 b8 T (T.keep _ _ (s2.heap.push { cls:=.type "list",data:=.seq ([]:List Value).toArray }) st2 λb _ o e=>HI _ e) (λb hb=>⟨by rw[a8 (lt2 b hb)];exact(f2 b hb).1,(f2 b hb).2⟩) w0 turn
end
section
mutual
def a7 (K:Fg)(H:Hp):PyData->V->Prop
 | .none,v=>v = .non
 | .bool b,v=>v = .bl b
 | .int i,v=>v = .int i
 | .str x,v=>v = .str x
 | .tuple ds,v=>∃a xs,v = .ref a/\SqT K H a xs/\a6 K H ds xs
 | .list ds,v=>∃a xs,v = .ref a/\H a=some (.lst xs)/\a6 K H ds xs
 | .dict _,_=>False
def a6 (K:Fg)(H:Hp):List PyData->List V->Prop
 | [],xs=>xs=[]
 | d::ds,xs=>∃x r,xs=x::r/\a7 K H d x/\a6 K H ds r
end
section
variable {X:Cx}{pins:List (Addr×Obj)}{σ:St}{H:Hp}{s:Shared}
mutual
theorem G0 (I:Inv X pins σ H s):∀(d:PyData) (v:V) (u:Value),a7 X.K H d v->l6 v u->∃as,Reads s.heap u d as
 | .none,v,u,h,r=>by
  simp only[a7]at h;subst h;cases(show u=Value.none from r);exact⟨_,.none⟩
 | .bool b,v,u,h,r=>by
  simp only[a7]at h;subst h;cases(show u=Value.bool b from r);exact⟨_,.bool b⟩
 | .int i,v,u,h,r=>by
  simp only[a7]at h;subst h;obtain⟨t,rfl⟩:=(show ∃t,u=Value.int i t from r);exact⟨_,.int i t⟩
 | .str x,v,u,h,r=>by
  simp only[a7]at h;subst h;obtain⟨t,rfl⟩:=(show ∃t,u=Value.str x t from r);exact⟨_,.str x t⟩
 | .tuple ds,v,u,h,r=>by
  simp only[a7]at h
  obtain⟨a,xs,rfl,hq,hd⟩:=h
  cases(show u=Value.ref a from r)
  obtain⟨its,rv,ht,_⟩:=I.tuple hq
  obtain⟨o,h1,h2,n,h3⟩:=ht
  obtain⟨as,ra⟩:=Y7 I ds xs its hd rv
  exact⟨_,.tuple h1 h2 h3 ra⟩
 | .list ds,v,u,h,r=>by
  simp only[a7]at h
  obtain⟨a,xs,rfl,hq,hd⟩:=h
  cases(show u=Value.ref a from r)
  obtain⟨its,rv,ht,_⟩:=I.list (SqL.of hq)
  obtain⟨o,h1,h2,n,h3⟩:=ht.isList
  obtain⟨as,ra⟩:=Y7 I ds xs its hd rv
  exact⟨_,.list h1 h2 h3 ra⟩
 | .dict kvs,v,u,h,r=>by
  simp only[a7]at h
theorem Y7 (I:Inv X pins σ H s):∀(ds:List PyData) (xs:List V) (us:List Value),a6 X.K H ds xs->i5 xs us->∃as,ReadsAll s.heap us ds as
 | [],xs,us,h,r=>by
  simp only[a6]at h;subst h;cases r;exact⟨_,.nil⟩
 | d::ds,xs,us,h,r=>by
  simp only[a6]at h
  obtain⟨x,rr,rfl,h1,h2⟩:=h
  cases r with
  | cons r1 r2 =>
   obtain⟨as,ra⟩:=G0 I d x _ h1 r1
   obtain⟨bs,rb⟩:=Y7 I ds rr _ h2 r2
   exact⟨_,.cons ra rb⟩
end
end
structure Shw (d:PyData) (dp n:Nat):Prop where
 sh:d.showable=true
 nd:d.hasDict=false
 de:d.depth<=dp
 ln:d.shown.length<=n
theorem Shw.int {i:Int}{k:Nat}(h:i.natAbs<2 ^ k)(hk:0<k)(hk2:k<=1900):Shw (.int i) 0 (k+20):=by
 have hlog:i.natAbs.log2<1920:=by
  by_cases h0:i.natAbs=0
  .rw[h0];decide
  .have:=(Nat.log2_lt h0).mpr h
   omega
 refine⟨by simp only[PyData.showable,hlog,Li],by simp only[PyData.hasDict],by simp only[PyData.depth];omega,?_⟩
 have hl2:i.natAbs.log2<k:=by
  by_cases h0:i.natAbs=0
  .rw[h0];exact hk
  .exact(Nat.log2_lt h0).mpr h
 have e:=int_text_length_le hk hl2
 simp only[PyData.shown]
 rw[PySem.ofString_length]
 omega
section
variable {X:Cx}
def yH (K:Fg):List V->Hp->VK->Prop:=λxs H Q=>∃a d,xs=[.ref a]/\a7 K H d (.ref a)/\Shw d 50 16000000/\Q (.str d.shown) H
theorem rC (hg:X.A.guards=some [])(hu:X.A.units+64<cLine):C5 X (.builtin "repr") (yH X.K):=by
 intro pins s σ H xs us Q I r h
 obtain⟨a,d,rfl,hd,hs,q⟩:=h
 obtain⟨u,rfl,ru⟩:=N9 r
 cases ru
 obtain⟨as,rd⟩:=G0 I d (.ref a) (.ref a) hd rfl
 refine repr_of_reads' rd hs.sh (PyData.noDict_hsm hs.nd) hg (by have:=hs.de;omega) (λ_ _ e=>e) (λh' u tk hk=>⟨.str d.shown,H,I.kept hk,⟨u,rfl⟩,q⟩) (Im hs.ln (by rw[Io];decide))
end
end
end L2
namespace HT
open PySem PyProof.Rows
section
variable {prog:Program}{w:World}{A:Around}{E:Value->Shared->Prop}{s:Shared}
theorem getItem_tuple_whole {t sl:Addr}{items:Array Value}{vl vu:Value}{lo hi:Option Int}{Q:Value->Shared->Prop}(ht:IsTup s.heap t items)(hs:s.heap.IsSliceOf sl vl vu .none)(pl:IsPart vl lo)(pu:IsPart vu hi)
  (h0:sIx items.size 0 lo=0) (h1:sIx items.size items.size hi=items.size) (h:Q (.ref t) s):wpAny (model prog w) A (getItem (.ref t) (.ref sl)) Q E s:=by
 obtain⟨os,hos,hcs,hds⟩:=id hs
 have hTs:s.TypeIs (.ref sl) "slice":=⟨os,hos,hcs⟩
 unfold getItem
 try with_reducible refine Ja ?_
 first | refine Hy (HS ?_) | skip
 refine Hy (wpAny_sequenceKey ht.typeIs (by decide) ?_)
 refine Hy (JQ (name:=Str.ofString "__getitem__") ht.typeIs IF
  (JR IF ht.typeIs entry_tuple_getitem ?_ (args_tuple_getitem _ _)))
 show wpAny _ _ (Builtin.Tuple.tupleItemsOf (.ref t) >>= _) _ _ s
 refine Hy (tupleItemsOf_ ht ?_)
 refine Hy (Lr hTs ?_)
 rw[HH (by decide)]
 refine Hy (T5 hs pl pu ?_)
 have hyes:(((sIx items.size 0 lo:Nat):Int) == 0&&(1:Int) == 1&&(sIx items.size items.size hi-sIx items.size 0 lo) == items.size)=true:=by
  rw[h0,h1];simp
 show wpAny _ _ (if (((sIx items.size 0 lo:Nat):Int) == 0&&(1:Int) == 1&&(sIx items.size items.size hi-sIx items.size 0 lo) == items.size)=true then _ else _) _ _ s
 rw[HH hyes]
 unfold Builtin.Tuple.tupleIsExact
 refine Hy ?_
 refine Hy (Lr ht.typeIs (HS ?_))
 rw[HH (by decide)]
 exact Hy (KQ (HS ⟨_,rfl,HS h⟩))
theorem nF (n:Nat):Builtin.Slice.sliceAdjust none none (-1) (n:Int)=((n:Int)-1,-1):=by
 unfold Builtin.Slice.sliceAdjust
 simp
theorem nN (n:Nat):Builtin.Slice.slicePlaces ((n:Int)-1) (-1) (-1)=n:=by
 unfold Builtin.Slice.slicePlaces
 rw[HM (by decide)]
 split
 .rw[show(-(-1):Int)=1 by decide,Int.ediv_one];omega
 .omega
theorem di {sl:Addr}{vst:Value}{n:Nat}{Q:Int×Int×Nat->Shared->Prop}(hs:s.heap.IsSliceOf sl .none .none vst)(pst:IsPart vst (some (-1)))
  (h:Q ((n:Int)-1,-1,n) s):wpAny (model prog w) A (Builtin.Slice.sliceApplied (.ref sl) (pure (n:Int))) Q E s:=by
 obtain⟨os,hos,hcs,hds⟩:=id hs
 unfold Builtin.Slice.sliceApplied Builtin.Slice.sliceFields
 refine Hy (Hy (JT hos hds (x:=.none) rfl (Hy (JT hos hds (x:=.none) rfl (Hy (JT hos hds (x:=vst) rfl (HS ?_)))))))
 refine Hy (bJ pst ?_)
 show wpAny _ _ (if ((-1:Int) == 0)=true then _ else _) _ _ s
 rw[HM (by decide)]
 refine Hy (slicePart_none (Hy (slicePart_none (Hy (HS ?_)))))
 show wpAny _ _ (match Builtin.Slice.sliceAdjust none none (-1) (n:Int) with | (lo,hi)=>pure (lo,(-1:Int),Builtin.Slice.slicePlaces lo hi (-1))) _ _ s
 rw[nF n]
 show wpAny _ _ (pure ((n:Int)-1,(-1:Int),Builtin.Slice.slicePlaces ((n:Int)-1) (-1) (-1))) _ _ s
 rw[nN]
 exact HS h
theorem U4 {α β:Type}{f g:α->Option β}:∀{l:List α},(∀x∈l,f x=g x)->l.filterMap f=l.filterMap g
 | [],_=>rfl
 | x::r,h=>by
  rw[Kd,Kd,h x HV,U4 λy hy=>h y (HA _ hy)]
theorem uj (xs:Array Value):((List.range xs.size).filterMap λ(m:Nat)=>xs[(((xs.size:Int)-1)+(m:Int)*(-1)).toNat]?).toArray=xs.toList.reverse.toArray:=by
 congr 1
 have e:((List.range xs.size).filterMap λ(m:Nat)=>xs[(((xs.size:Int)-1)+(m:Int)*(-1)).toNat]?)=(List.range xs.size).filterMap λm=>xs.toList.reverse[m]?:=by
  refine U4 λm hm=>?_
  have hm:=Ir.mp hm
  rw[List.getElem?_reverse (by simpa using hm)]
  have:(((xs.size:Int)-1)+(m:Int)*(-1)).toNat=xs.toList.length-1-m:=by
   rw[Jx];omega
  rw[this]
  simp
 rw[e]
 have:=PySem.W.krv_all xs.toList.reverse.toArray
 simpa using this
theorem getItem_tuple_rev {t sl:Addr}{items:Array Value}{vst:Value}{Q:Value->Shared->Prop}(ht:IsTup s.heap t items)(hs:s.heap.IsSliceOf sl .none .none vst)(pst:IsPart vst (some (-1)))
  (h:Q (.ref s.heap.objs.size) { s with heap:=s.heap.push { cls:=.type "tuple",data:=.seq items.toList.reverse.toArray } })
  (hsz:items.size<=sizeLine):wpAny (model prog w) A (getItem (.ref t) (.ref sl)) Q E s:=by
 have htake:sizeOk (.seq items.toList.reverse.toArray):=by
  show items.toList.reverse.toArray.size<=sizeLine
  rw[HQ,LC,Jx];exact hsz
 obtain⟨os,hos,hcs,hds⟩:=id hs
 have hTs:s.TypeIs (.ref sl) "slice":=⟨os,hos,hcs⟩
 unfold getItem
 try with_reducible refine Ja ?_
 first | refine Hy (HS ?_) | skip
 refine Hy (wpAny_sequenceKey ht.typeIs (by decide) ?_)
 refine Hy (JQ (name:=Str.ofString "__getitem__") ht.typeIs IF
  (JR IF ht.typeIs entry_tuple_getitem ?_ (args_tuple_getitem _ _)))
 show wpAny _ _ (Builtin.Tuple.tupleItemsOf (.ref t) >>= _) _ _ s
 refine Hy (tupleItemsOf_ ht ?_)
 refine Hy (Lr hTs ?_)
 rw[HH (by decide)]
 refine Hy (di hs pst ?_)
 have hno:¬(((items.size:Int)-1 == 0&&(-1:Int) == 1&&items.size == items.size)=true):=by simp
 show wpAny _ _ (if ((items.size:Int)-1 == 0&&(-1:Int) == 1&&items.size == items.size)=true then _ else _) _ _ s
 rw[HM hno,uj]
 first
  | exact Hy (m:=Builtin.Tuple.tupleExact _) (IU (HS ⟨_,rfl,HS h⟩) htake)
  | exact Hy (m:=Builtin.Tuple.tupleExact _) (IU (Hy (HS (HS ⟨_,rfl,HS h⟩))) htake)
  | exact Hy (Hy (m:=Builtin.Tuple.tupleExact _) (IU (HS (HS ⟨_,rfl,HS h⟩)) htake))
  | exact Hy (Hy (m:=Builtin.Tuple.tupleExact _) (IU (HS ⟨_,rfl,HS h⟩) htake))
end
end HT
namespace L2
open PySem PySem.Spec PyProof.Rows
section
section
variable {X:Cx}
def yL (K:Fg):V->Option Int->Option Int->Hp->VK->Prop:=λx lo hi H Q=>∃a xs,x = .ref a/\SqT K H a xs/\((cS xs lo hi=xs/\HT.sIx xs.length 0 lo=0/\HT.sIx xs.length xs.length hi=xs.length->Q (.ref a) H) /\
 (¬(HT.sIx xs.length 0 lo=0/\HT.sIx xs.length xs.length hi=xs.length)->∀p,H p=none->Q (.ref p) (upd H p (.tup (cS xs lo hi)))))
theorem wU:SlR X (yL X.K):=by
 intro pins s σ H x v vl vu lo hi sl Q I rx hs pl pu h
 obtain⟨a,xs,rfl,hx,hw,hn⟩:=h
 by_cases hc:HT.sIx xs.length 0 lo=0/\HT.sIx xs.length xs.length hi=xs.length
 .cases rx
  obtain⟨its,r,ht,hz⟩:=I.tuple hx
  have hlen:its.toArray.size=xs.length:=by rw[HQ];exact r.length.symm
  have hq:=hw ⟨by unfold cS;rw[hc.1,hc.2];simp,hc.1,hc.2⟩
  exact⟨"tuple",_,IF.lookup,ht.typeIs,HT.getItem_tuple_whole ht hs pl pu (by rw[hlen];exact hc.1) (by rw[hlen];exact hc.2) ⟨.ref a,H,I,rfl,hq⟩⟩
 .exact AR pins s σ H (.ref a) v vl vu lo hi sl Q I rx hs pl pu ⟨a,xs,rfl,hx,hc,hn hc⟩
def Bb (K:Fg):R2:=λx y H Q=>∃a b xs,x = .ref a/\y = .ref b/\SqL K H a xs/\SqL K H b []/\Q (.bl (!xs.isEmpty)) H
theorem uR (hu:X.A.units<cLine):OpR X (compareOp .NotEq) (Bb X.K):=by
 intro pins s σ H x y v u Q I rx ry h
 obtain⟨a,b,xs,rfl,rfl,ha,hb,q⟩:=h
 cases rx
 cases ry
 obtain⟨its,rv,p,hz⟩:=I.list ha
 obtain⟨its2,rv2,p2,hz2⟩:=I.list hb
 cases rv2
 cases rv with
 | nil=>exact(SeqAt.RcNeAt.lists (e:=λ_=>true) p.isList p2.isList rfl hu λj h1 _=>absurd h1 (by simp)) _ _ _ _ ⟨.bl false,H,I,rfl,q⟩
 | cons r1 r2=>exact(SeqAt.RcNeAt.lists_lengths p.isList p2.isList (by simp) hu) _ _ _ _ ⟨.bl true,H,I,rfl,q⟩
end
end
section
def j8 (P:Program)(w:World)(K:Fg)(mg:Str->Option Value)(base:Heap)(x:Str)(k:Nat)(ps:List Str)(sp:Sp):Prop :=
 ∃f fd,FnOk P w K mg base CX0 k f fd ps sp/\mg x=some (.ref f)/\PySem.W.keepIn K (.ref f)=true/\dZ K fd ps []
theorem P4 {X:Cx}{x:Str}{k:Nat}{ps:List Str}{sp:Sp}{p pos:Pos}{e:Expr}{es:List Expr}{t:TA}(C:j8 X.prog X.w X.K X.mg X.base x k ps sp)(hr:Room k X.A)(hg:Gl X x)(ha:PA X (e::es) t)
  (hdb:(x == ("__debug__":Str))=false:=by decide) (he:starEach (e::es) X.env=(false,eval e X.env)::starEach es X.env:=by rfl) (hpl:(backTo pos (starEach es X.env)).any (·.1)=false:=by rfl) :
  PE X (.Call (.Name x p) (e::es) [] pos) (U3 sp [] E0 t):=by
 obtain⟨f,fd,G,m,kp,b⟩:=C
 exact vW G hr hg m kp b .nil BJ ha hdb he hpl
def KpE (D:Addr->Prop)(H H':Hp):Prop:=∀b o,H b=some o->¬D b->H' b=some o
theorem SqT.kp {K:Fg}{H H':Hp}{a:Addr}{xs:List V}{D:Addr->Prop}(h:SqT K H a xs)(k:KpE D H H')(hD:∀b,D b->∃kvs,H b=some (.dK kvs)):SqT K H' a xs:=by
 rcases h with (h | ⟨o,h⟩) | h
 .refine .inl (.inl (k _ _ h λz=>?_))
  obtain⟨kvs,e⟩:=hD _ z;rw[h]at e;cases e
 .refine .inl (.inr ⟨o,k _ _ h λz=>?_⟩)
  obtain⟨kvs,e⟩:=hD _ z;rw[h]at e;cases e
 .exact .inr h
section
variable {K:Fg}{H H':Hp}{D:Addr->Prop}
mutual
theorem a7.kp (k:KpE D H H')(hD:∀b,D b->∃kvs,H b=some (.dK kvs)):∀(d:PyData) (v:V),a7 K H d v->a7 K H' d v
 | .none,v,h=>by simpa only[a7] using h
 | .bool b,v,h=>by simpa only[a7] using h
 | .int i,v,h=>by simpa only[a7] using h
 | .str x,v,h=>by simpa only[a7] using h
 | .tuple ds,v,h=>by
  simp only[a7]at h ⊢
  obtain⟨a,xs,e,hq,hd⟩:=h
  exact⟨a,xs,e,hq.kp k hD,a6.kp k hD ds xs hd⟩
 | .list ds,v,h=>by
  simp only[a7]at h ⊢
  obtain⟨a,xs,e,hq,hd⟩:=h
  refine⟨a,xs,e,k _ _ hq λz=>?_,a6.kp k hD ds xs hd⟩
  obtain⟨kvs,e⟩:=hD _ z;rw[hq]at e;cases e
 | .dict kvs,v,h=>by simp only[a7]at h
theorem a6.kp (k:KpE D H H')(hD:∀b,D b->∃kvs,H b=some (.dK kvs)):∀(ds:List PyData) (xs:List V),a6 K H ds xs->a6 K H' ds xs
 | [],xs,h=>by simpa only[a6] using h
 | d::ds,xs,h=>by
  simp only[a6]at h ⊢
  obtain⟨x,r,e,h1,h2⟩:=h
  exact⟨x,r,e,a7.kp k hD d x h1,a6.kp k hD ds r h2⟩
end
end
theorem d8.kpE {H H':Hp}(s:d8 H H'):KpE (λ_=>False) H H':=λb o h _=>s b o h
theorem a7.same {K:Fg}{H H':Hp}{d:PyData}{v:V}(h:a7 K H d v)(s:d8 H H'):a7 K H' d v:=a7.kp s.kpE (λ_ z=>z.elim) d v h
theorem a6.same {K:Fg}{H H':Hp}{ds:List PyData}{xs:List V}(h:a6 K H ds xs)(s:d8 H H'):a6 K H' ds xs:=a6.kp s.kpE (λ_ z=>z.elim) ds xs h
theorem SqT.same {K:Fg}{H H':Hp}{a:Addr}{xs:List V}(h:SqT K H a xs)(s:d8 H H'):SqT K H' a xs:=h.kp s.kpE (λ_ z=>z.elim)
theorem d8.upd {H:Hp}{p:Addr}{o:HO}(hp:H p=none):d8 H (upd H p o):=λb u e=>by rw[a8 (d6 e hp)];exact e
section
variable {K:Fg}{H:Hp}
theorem a6.length:∀{ds:List PyData} {xs:List V},a6 K H ds xs->xs.length=ds.length
 | [],xs,h=>by simp only[a6]at h;subst h;rfl
 | d::ds,xs,h=>by
  simp only[a6]at h
  obtain⟨x,r,rfl,h1,h2⟩:=h
  rw[HZ,HZ,h2.length]
theorem a6.get:∀{ds:List PyData} {xs:List V} {i:Nat} {x:V},a6 K H ds xs->xs[i]? = some x->∃d,ds[i]? = some d/\a7 K H d x
 | [],xs,i,x,h,e=>by simp only[a6]at h;subst h;simp at e
 | d::ds,xs,i,x,h,e=>by
  simp only[a6]at h
  obtain⟨y,r,rfl,h1,h2⟩:=h
  cases i with
  | zero=>simp at e;subst e;exact⟨d,rfl,h1⟩
  | succ i=>simpa using h2.get (i:=i) (by simpa using e)
theorem a6.snoc:∀{ds:List PyData} {xs:List V} {d:PyData} {x:V},a6 K H ds xs->a7 K H d x->a6 K H (ds++[d]) (xs++[x])
 | [],xs,d,x,h,h'=>by simp only[a6]at h;subst h;simp only[Jh,a6];exact⟨x,[],rfl,h',rfl⟩
 | e::ds,xs,d,x,h,h'=>by
  simp only[a6]at h
  obtain⟨y,r,rfl,h1,h2⟩:=h
  simp only[Jv,a6]
  exact⟨y,r++[x],rfl,h1,h2.snoc h'⟩
theorem a6.append {ds':List PyData}{xs':List V}(h':a6 K H ds' xs'):∀{ds:List PyData} {xs:List V},a6 K H ds xs->a6 K H (ds++ds') (xs++xs')
 | [],xs,h=>by simp only[a6]at h;subst h;simpa using h'
 | e::ds,xs,h=>by
  simp only[a6]at h
  obtain⟨y,r,rfl,h1,h2⟩:=h
  simp only[Jv,a6]
  exact⟨y,r++xs',rfl,h1,a6.append h' h2⟩
theorem a6.reverse:∀{ds:List PyData} {xs:List V},a6 K H ds xs->a6 K H ds.reverse xs.reverse
 | [],xs,h=>by simp only[a6]at h;subst h;simp[a6]
 | d::ds,xs,h=>by
  simp only[a6]at h
  obtain⟨y,r,rfl,h1,h2⟩:=h
  rw[La,La]
  exact(a6.reverse h2).snoc h1
theorem a6.take:∀{ds:List PyData} {xs:List V} (n:Nat),a6 K H ds xs->a6 K H (ds.take n) (xs.take n)
 | [],xs,n,h=>by simp only[a6]at h;subst h;simp[a6]
 | d::ds,xs,0,h=>by simp[a6]
 | d::ds,xs,n+1,h=>by
  simp only[a6]at h
  obtain⟨y,r,rfl,h1,h2⟩:=h
  simp only[Ke,a6]
  exact⟨y,r.take n,rfl,h1,a6.take n h2⟩
theorem a7.tup {ds:List PyData}{xs:List V}{a:Addr}(h:H a=some (.tup xs))(h2:a6 K H ds xs):a7 K H (.tuple ds) (.ref a):=by
 simp only[a7];exact⟨a,xs,rfl,SqT.of h,h2⟩
theorem a7.lst {ds:List PyData}{xs:List V}{a:Addr}(h:H a=some (.lst xs))(h2:a6 K H ds xs):a7 K H (.list ds) (.ref a):=by
 simp only[a7];exact⟨a,xs,rfl,h,h2⟩
theorem a6.nil:a6 K H [] []:=by simp only[a6]
theorem a6.cons {d:PyData}{x:V}{ds:List PyData}{xs:List V}(h:a7 K H d x)(h2:a6 K H ds xs):a6 K H (d::ds) (x::xs):=by
 simp only[a6];exact⟨x,xs,rfl,h,h2⟩
theorem a7.int {i:Int}:a7 K H (.int i) (.int i):=by simp only[a7]
theorem a7.bl {b:Bool}:a7 K H (.bool b) (.bl b):=by simp only[a7]
theorem a7.st {x:Str}:a7 K H (.str x) (.str x):=by simp only[a7]
theorem a7.non:a7 K H .none .non:=by simp only[a7]
theorem a7.ofTup {ds:List PyData}{v:V}(h:a7 K H (.tuple ds) v):∃a xs,v = .ref a/\SqT K H a xs/\a6 K H ds xs:=by simpa only[a7] using h
end
theorem uo {J:It}{D:Addr}(n:Nat){g:TG}{tt:TT}{te:TE}{Q:Hp->Prop}{σ0:St}{H0:Hp}(Pv:Nat->St->List V->Hp->Prop)(h0:Pv 0 σ0 [] H0)
  (hgo:∀i σ acc H,i<n->Pv i σ acc H->J.go i H) (hstop:∀σ acc H,Pv n σ acc H->J.stop n H)
  (hs:∀i σ acc H,i<n->Pv i σ acc H->∀x H2,J.yld i H x H2->∀R:St->List V->Hp->Prop,(∀σ acc H,Pv (i+1) σ acc H->R σ acc H) ->
   g x σ H2 λσ2 H3=>tt σ2 H3 λok H4=>if ok=true then te σ2 H4 λy H5=>H5 D=some (.lst acc)/\acc.length<sizeLine/\R σ2 (acc++[y]) (upd H5 D (.lst (acc++[y]))) else H4 D=some (.lst acc)/\R σ2 acc H4)
  (hd:∀σ acc H,Pv n σ acc H->Q H) :
  ∃W:Nat->Nat->St->List V->Hp->Prop,(∃m,W 0 m σ0 [] H0)/\∀i m σ' acc H',W i m σ' acc H' ->
  (J.stop i H'/\Q H') \/
  (J.go i H'/\∀x H2,J.yld i H' x H2->g x σ' H2 λσ2 H3=>tt σ2 H3 λok H4=>if ok=true then te σ2 H4 λy H5=>H5 D=some (.lst acc)/\acc.length<sizeLine/\∃m',m'<m/\W (i+1) m' σ2 (acc++[y]) (upd H5 D (.lst (acc++[y])))
   else H4 D=some (.lst acc)/\∃m',m'<m/\W (i+1) m' σ2 acc H4):=by
 refine⟨λi m σ acc H=>m=n-i/\i<=n/\Pv i σ acc H,⟨n,by simp,IG _,h0⟩,?_⟩
 rintro i m σ acc H ⟨rfl,hi,p⟩
 by_cases hlt:i<n
 .exact .inr ⟨hgo i σ acc H hlt p,λx H2 y=>hs i σ acc H hlt p x H2 y (λσ acc H=>∃m',m'<n-i/\m'=n-(i+1)/\i+1<=n/\Pv (i+1) σ acc H) λσ acc H q=>⟨n-(i+1),by omega,rfl,hlt,q⟩⟩
 .have e:i=n:=by omega
  subst e
  exact .inl ⟨hstop σ acc H p,hd σ acc H p⟩
end
section
section
variable {X:Cx}{K:Fg}
theorem pK {es:List Expr}{k:Nat}{t:TGs}{n:Nat}{pos:Pos}(hK:X.K=K)(hc:X.calm=true)(h:PGs X es t)
  (hn:(assignEach es X.env).length=n:=by rfl) (hst:(assignEach es X.env).findIdx? (·.1)=none:=by rfl):PG X (.Tuple es k pos) (xI K n t):=by
 subst hK;exact Ae hc h hn hst
theorem qa (hK:X.K=K):IxR X (vz K):=by subst hK;exact oa
theorem uh (hK:X.K=K):IxR X (qI K):=by subst hK;exact x9
theorem aN (hK:X.K=K):C5 X (.builtin "len") (λxs H Q=>∃p ys,xs=[.ref p]/\(SqL K H p ys\/SqT K H p ys)/\Q (.int ys.length) H):=by subst hK;exact E5
theorem X7 (hK:X.K=K):C5 X (.type "tuple") (λxs H Q=>∃p ys,xs=[.ref p]/\((SqL K H p ys/\∀l,H l=none->Q (.ref l) (upd H l (.tup ys)))\/(SqT K H p ys/\Q (.ref p) H))):=by subst hK;exact iu
theorem gg (hK:X.K=K)(hg:X.A.guards=some [])(hu:X.A.units+64<cLine):C5 X (.builtin "repr") (yH K):=by subst hK;exact rC hg hu
theorem tZ (hK:X.K=K):SlR X (yL K):=by subst hK;exact wU
theorem rG {a:Expr}{ta:TE}(hK:X.K=K)(ha:PE X a ta)(he:∀whole,isTrue a X.env whole=(do let v <-whole;standAt a.pos;holding [v] (truthy v))) :
  PT X a (λσ H Q=>ta σ H λx H'=>∃k,uy K x H' k/\Q k H'):=by subst hK;exact uK ha he
end
end
section
section
variable {X:Cx}{K:Fg}
def Cr (K:Fg):R2:=λx y H Q=>∃a b xs ys,x = .ref a/\y = .ref b/\SqT K H a xs/\SqT K H b ys/\xs.length+ys.length<=sizeLine /\
 (xs=[]->Q (.ref b) H)/\(ys=[]->Q (.ref a) H)/\∀p,H p=none->Q (.ref p) (upd H p (.tup (xs++ys)))
theorem xa (hK:X.K=K):OpR X (binaryOp .Add) (Cr K):=by
 subst hK
 intro pins s σ H x y v u Q I rx ry h
 obtain⟨a,b,xs,ys,rfl,rfl,ha,hb,hz,q0,q1,q2⟩:=h
 by_cases hx:xs=[]
 .cases rx
  cases ry
  obtain⟨its,r1,p1,_⟩:=I.tuple ha
  obtain⟨its2,r2,p2,_⟩:=I.tuple hb
  subst hx
  cases r1
  obtain⟨⟨cls,dd,data,sl⟩,ho,hc,n,hd⟩:=id p1
  obtain⟨⟨cls2,dd2,data2,sl2⟩,ho2,hc2,n2,hd2⟩:=id p2
  simp only at hc hd hc2 hd2
  subst hc hd hc2 hd2
  exact concat_meets ⟨_,ho,rfl⟩ ⟨_,ho2,rfl⟩ noFill_tuple_add seq_tuple_add Lh KU (KG _ _)
   (tuple_addW0 a b #[] its2.toArray n n2 dd dd2 sl sl2 rfl) ⟨ho,ho2,⟨.ref b,H,I,rfl,q0 rfl⟩⟩
 .exact xW pins s σ H (.ref a) (.ref b) v u Q I rx ry ⟨a,b,xs,ys,rfl,rfl,ha,hb,hx,hz,q1,λ_=>q2⟩
end
end
section
theorem rX {X:Cx}{y:Str}{py:Pos}{ix:Nat}{elt tg iter:Expr}{ifs:List Expr}{scope osc:Scope}{pos:Pos}{N:List Str}{k:Nat}{cap:List Nat}{g:TG}{tt:TT}{te:TE}{cl:List (Str×Addr)}
  {pins:List (Addr×Obj)} {σ:St} {H3:Hp} {s3:Shared} {D it:Addr} {fp:List Addr} {tn:Nat->Heap->Prop} {J:It} {Q:St->Hp->Prop} {W:Nat->Nat->St->List V->Hp->Prop} {m0:Nat}
  (hNd:X.N.Nodup) (hix:X.N[ix]? = some y) (hLy:Loc X.env.scope y) (hfy:X.fn y=true\/X.env.scope.names.lookup y=some .local)
  (hc:X.calm=true) (hosc:X.env.scope=osc) (hcap:Caps X.N osc N k cap scope)
  (hcl:∀{x:Str} {c:Addr},cl.lookup x=some c->X.env.cells.lookup x=some c) (hhas:∀x,(x,NameKind.free)∈scope.names->∃c,cl.lookup x=some c)
  (hg:∀cl C ex pins s H,PG (cxC X N scope cl C ex pins s H) tg g)
  (ht:∀cl C ex pins s H,PTs (cxC X N scope cl C ex pins s H) ifs tt)
  (he:∀cl C ex pins s H,PE (cxC X N scope cl C ex pins s H) elt te)
  (I3:Inv X pins σ H3 s3) (hD:H3 D=some (.lst [])) (T:Turn X.prog X.w X.K tg J fp it tn) (st:tn 0 s3.heap) (f3:∀b∈fp,eY X pins H3 b) (w0:W 0 m0 (aM k cap σ) [] H3)
  (turn:∀i m σ' acc H',W i m σ' acc H'->(J.stop i H'/\Q (σ.set ix (some (.ref D))) H') \/
   (J.go i H'/\∀x H2,J.yld i H' x H2->g x σ' H2 λσ2 H3=>tt σ2 H3 λok H4=>if ok=true then te σ2 H4 λy H5=>H5 D=some (.lst acc)/\acc.length<sizeLine/\∃m',m'<m/\W (i+1) m' σ2 (acc++[y]) (upd H5 D (.lst (acc++[y])))
    else H4 D=some (.lst acc)/\∃m',m'<m/\W (i+1) m' σ2 acc H4)) :
  wpAny (model X.prog X.w) X.A (newFunctionEnv scope X.env.globals cl [] X.env.qual none .none (some X.env)) (λcenv s₄ =>
   codeAny (model X.prog X.w) X.A (.compStart (.ListComp elt [⟨tg,iter,ifs,0⟩] scope pos) 0 (.ref it) (.ref D) { cenv with scope:=relabel scope X.env }) (compPost (model X.prog X.w) X.A X.xe (some (assign (.Name y py) X.env)) (λ_ s'=>∃σ' H',Inv X pins σ' H' s'/\Q σ' H') (.ref D) cenv.locals) s₄) X.xe s3:=by
 refine Lv hcap.nocell (by intro y hy;simp at hy) (λh₁ hns₁ hsb₁=>?_) hcap.kind
 have old:∀b o,s3.heap.get? b=some o->h₁.get? b=some o:=λb o e=>hsb₁.extBut b o (Ic (HU e)) (HI _ e)
 have neC:∀b∈fp,b≠s3.heap.objs.size:=λb hb=>by
  obtain⟨o,e,_⟩:=T.obj _ _ st b hb
  exact Ic (HU e)
 have nofs:∀{b:Addr},b≠X.env.locals->b ∉ X.fs->b ∉ frs X.stack:=λ{b} h1 h2 z=>(HB.mp (I3.stkSub b z)).elim h1 h2
 have IY:Inv (cxC X N scope cl s3.heap.objs.size fp pins s3 H3) [] (aM k cap σ) H3 { s3 with heap:=h₁,toks:=s3.toks+([]:List (Str×Value)).length }:=by
  refine⟨⟨I3.ok.mod,hcap.kind,I3.ok.glob,I3.ok.blt,HK _,λx y c h1 h2=>I3.ok.inj x y c (hcl h1) (hcl h2),λx hx=>hhas x (eR hcap.nocell hx),λx c h=>absurd (show false=true from h) Ia,I3.ok.hd,I3.ok.frames,.inl rfl,
   λb hb=>⟨neC b hb,λx c e=>(f3 b hb).2.2.2.2.1 x c (hcl e)⟩,I3.bs,Im I3.ok.bsz I3.sz,λb o e hb=>?_,λb hb=>nofs (f3 b hb).2.1 (f3 b hb).2.2.1,I3.stack,I3.stkFree⟩,
   rfl,I3.bare,Un.kept old,⟨_,hns₁,λi x v e1 e2 e3=>?_⟩,λx c e=>?_,I3.hok.fresh (HK _),λx c e=>I3.freeC x c (hcl e),λp hp=>?_,I3.hok.kept old,?_⟩
  .rcases(f3 b hb).2.2.2.1 with z | z
   .exact I3.ok.noex b o e z
   .exact absurd (Ie (HU e) (Im I3.ok.bsz z)) (Jl _)
  .by_cases hi:i<k
   .unfold aM at e2
    rw[Ib (by simpa using hi),IJ,HH hi]at e2
    cases e2
   .obtain⟨d,rfl⟩:∃d,i=k+d:=⟨i-k,by omega⟩
    unfold aM at e2
    rw[Ig (by simp),Jj,Nat.add_sub_cancel_left,HP]at e2
    obtain⟨j,hj,hv⟩:=Ip.mp e2
    have hσ:σ[j]? = some (some v):=by
     cases q:σ[j]? with
     | none=>rw[q]at hv;cases hv
     | some o=>rw[q]at hv;exact IK some hv
    have e1':(N.drop k)[d]? = some x:=by rw[LL];exact e1
    have hx:X.N[j]? = some x:=by
     have z:=IK (λl=>l[d]?) hcap.capx
     simp only[HP,hj,e1',Kl]at z
     exact HN z
    have hfr:=hcap.capf x (Iy e1')
    have hfm:=IX hfr
    have hok:=hcap.free _ hfm rfl
    rw[<-hosc]at hok
    obtain⟨m,hn,hl⟩:=I3.loc
    obtain⟨u,r,l⟩:=hl j x v hx hσ (.inr hok)
    refine⟨u,r,?_⟩
    rcases l with ⟨hk,_⟩ | ⟨hk,c,hc1,hc2⟩
    .have hk:X.env.scope.names.lookup x=some .local:=hk
     rcases hok with z | z <;> (rw[hk]at z;cases z)
    .obtain⟨c',hc'⟩:=hhas x hfm
     have:c'=c:=HN ((hcl hc').symm.trans hc1)
     subst this
     exact .inr ⟨cA hfr,c',hc',hc2.keeps old⟩
  .obtain⟨v,z⟩:=I3.cell x c (hcl e)
   exact⟨v,z.keeps old⟩
  .have hp:p∈(X.pn++pins)++[]:=hp
   rw[IE]at hp
   obtain⟨a1,a2,a3,a4,a5⟩:=I3.pin p hp
   exact⟨old _ _ a1,a2,Ic (HU a1),nofs a3 a4,a5⟩
  .show(aM k cap σ).length=N.length
   unfold aM
   rw[IA,Jj,Hz,hcap.len]
 have stat:∀{H':Hp},(∀b∈fp,H' b=none)->∀b∈fp,eY (cxC X N scope cl s3.heap.objs.size fp pins s3 H3) [] H' b:=λ{H'} hn b hb=>by
  obtain⟨a0,a1,a2,a3,a4,a5⟩:=f3 b hb
  refine⟨hn b hb,neC b hb,nofs a1 a2,.inl hb,λx c e=>a4 x c (hcl e),λp hp=>a5 p ?_⟩
  have hp:p∈(X.pn++pins)++[]:=hp
  rwa [IE]at hp
 have loop:codeAny (model X.prog X.w) X.A (.compLoop (.ListComp elt [⟨tg,iter,ifs,0⟩] scope pos) 0 (.ref it) (.ref D) (compEnvC scope cl s3.heap.objs.size X.env))
   (compPost (model X.prog X.w) X.A X.xe (some (assign (.Name y py) X.env)) (λ_ s'=>∃σ' H',Inv X pins σ' H' s'/\Q σ' H') (.ref D) s3.heap.objs.size) { s3 with heap:=h₁,toks:=s3.toks+([]:List (Str×Value)).length }:=by
  refine cu (λn s'=>∃i σ' acc H',Inv (cxC X N scope cl s3.heap.objs.size fp pins s3 H3) [] σ' H' s'/\tn i s'.heap/\(∀b∈fp,H' b=none)/\H' D=some (.lst acc)/\W i n σ' acc H') ?_ m0
   ⟨0,_,[],H3,IY,T.keep _ _ _ st λb _ o e=>old b o e,λb hb=>(f3 b hb).1,hD,w0⟩
  rintro n s5 ⟨i,σ5,acc,H5,I5,st5,fr5,hD5,w5⟩
  rcases turn i n σ5 acc H5 w5 with ⟨stop,q⟩ | ⟨go,step⟩
  .refine thn (T.done (cxC X N scope cl s3.heap.objs.size fp pins s3 H3) rfl rfl rfl hc i [] s5 σ5 H5 _ I5 (stat fr5) st5 stop) λr s6 ⟨hr,I6⟩=>?_
   subst hr
   obtain⟨m,hn,_⟩:=id I6.loc
   have I7:Inv X pins σ H5 s6:=I3.call' I6.os I6.base I6.hok I6.bare λb hb=>by
    obtain⟨a0,a1,a2,a3,a4,a5⟩:=f3 b hb
    exact⟨a3,a1,a4,a5⟩
   obtain⟨g0,g1,g2,g3,g4,g5⟩:=I3.fpOk (H':=H5) (b:=s3.heap.objs.size) (HK _) I6.free
   obtain⟨o,es,ep,ho,hdat,rest⟩:=id hn
   have I7p:Inv X (pins++[(s3.heap.objs.size,o)]) σ H5 s6:=I7.pins_of λp hp=>by
    rcases HC.mp hp with z | z
    .exact I7.pin p (HW _ z)
    .rw[Jd.mp z]
     exact⟨ho,g0,g1,g2,λv z=>by have z':o.data = .cell v:=z;rw[hdat]at z';cases z'⟩
   show wpAny (model X.prog X.w) X.A (assign (.Name y py) X.env (.ref D)) _ _ s6
   refine wpAny_assign_Name (T8 I7p hNd hix hLy (v:=.ref D) rfl (λs7 I8=>?_) hfy)
   have hC7:=(I8.pin (s3.heap.objs.size,o) (HW _ (HW _ (Jd.mpr rfl)))).1
   refine⟨m,⟨o,es,ep,hC7,hdat,rest⟩,λh' hsb=>?_⟩
   exact⟨_,H5,I8.unpinned.turned (t':=s7.toks) (λb o hb e=>(hsb.2 b hb).trans e) g0 g1 g3 g4 g5,q⟩
  .refine thn (T.item (cxC X N scope cl s3.heap.objs.size fp pins s3 H3) rfl rfl rfl hc i [] s5 σ5 H5 _ I5 (stat fr5) st5 go) λr s6 ⟨u,hr,h6⟩=>?_
   subst hr
   refine thn h6 λ_ s7 ⟨x,H7,I7,r7,y7,st7,fr7⟩=>?_
   have I7':=I7.pinned (stat fr7) (T.obj _ _ st7)
   have keepI:∀{s':Shared} {σ':St} {H':Hp},Inv (cxC X N scope cl s3.heap.objs.size fp pins s3 H3) ([]++dq fp s7.heap) σ' H' s'->tn (i+1) s'.heap/\∀b∈fp,H' b=none:=λ{s' σ' H'} I'=>by
    refine⟨T.keep _ _ _ st7 λb hb o e=>(I'.pin (b,o) (HW _ (HW _ (L9 hb e)))).1,λb hb=>?_⟩
    obtain⟨o,e,d⟩:=T.obj _ _ st7 b hb
    exact(I'.pin (b,o) (HW _ (HW _ (L9 hb e)))).2.1
   refine thn (hg _ _ _ _ _ _ _ s7 σ5 H7 x u _ I7' r7 (step x H7 y7)) λ_ s8 ⟨σ8,H8,I8,q8⟩=>?_
   refine thn (ht _ _ _ _ _ _ _ s8 σ8 H8 _ I8 q8) λok s9 ⟨H9,I9,q9⟩=>?_
   cases ok with
   | false =>
    have q9:H9 D=some (.lst acc)/\∃m',m'<n/\W (i+1) m' σ8 acc H9:=q9
    obtain⟨hD9,m',hm,w9⟩:=q9
    obtain⟨k1,k2⟩:=keepI I9
    exact⟨m',hm,i+1,σ8,acc,H9,I9.unpinned,k1,k2,hD9,w9⟩
   | true =>
    refine thn (he _ _ _ _ _ _ _ s9 σ8 H9 _ I9 q9) λyv s10 ⟨y,H10,I10,r10,hD10,hz,m',hm,w10⟩=>?_
    refine thn (J0 (X:=cxC X N scope cl s3.heap.objs.size fp pins s3 H3) _ s10 σ8 H10 (.ref D) [y] (.ref D) [yv] (λ_ H'=>H'=upd H10 D (.lst (acc++[y]))) I10 rfl (.cons r10 .nil) ⟨D,acc,y,rfl,rfl,hD10,hz,rfl⟩)
     λ_ s11 ⟨_,H11,I11,_,e11⟩=>?_
    subst e11
    obtain⟨k1,k2⟩:=keepI I11
    exact⟨m',hm,i+1,σ8,acc++[y],_,I11.unpinned,k1,k2,b8,w10⟩
 exact codeAny_compStart_list loop (T.self X.A 0 _ _ _ (T.keep _ _ _ st λb _ o e=>old b o e) loop)
theorem vH {X:Cx}{y:Str}{py spos:Pos}{ix:Nat}{elt tg iter:Expr}{ifs:List Expr}{scope osc:Scope}{pos:Pos}{N:List Str}{k:Nat}{cap:List Nat}{wi:TI}{g:TG}{tt:TT}{te:TE}
  (hNd:X.N.Nodup) (hix:X.N[ix]? = some y) (hLy:Loc X.env.scope y)
  (hc:X.calm=true) (hosc:X.env.scope=osc) (hcap:Caps X.N osc N k cap scope) (hi:PI X tg iter wi)
  (hg:∀cl C ex pins s H,PG (cxC X N scope cl C ex pins s H) tg g)
  (ht:∀cl C ex pins s H,PTs (cxC X N scope cl C ex pins s H) ifs tt)
  (he:∀cl C ex pins s H,PE (cxC X N scope cl C ex pins s H) elt te)
  (hs:∀x,foldedSetIterable iter X.env x=pure x:=by intro _;rfl) (hfy:X.fn y=true\/X.env.scope.names.lookup y=some .local:=by first | exact .inl rfl | exact .inr rfl | assumption)
  (hsw:swapsWith (.ListComp elt [⟨tg,iter,ifs,0⟩] scope pos) (some (.Name y py)) spos.line X.env=pure true:=by rfl) :
  PS X (.Assign [.Name y py] (.ListComp elt [⟨tg,iter,ifs,0⟩] scope pos) spos) (G9 (tLC wi k cap g tt te) (D3 ix)):=by
 intro pins s σ H D0 I h
 have hcell:∀y∈scope.names,y.2 = .free->∃c,X.env.cells.lookup y.1=some c:=λy hy hk=>I.ok.has y.1 (by
  show X.env.scope.names.lookup y.1=_\/X.env.scope.names.lookup y.1=_
  rw[hosc];exact hcap.free y hy hk)
 let f:Str->Addr:=λx=>(X.env.cells.lookup x).getD 0
 have hf:∀y∈scope.names,y.2 = .free->X.env.cells.lookup y.1=some (f y.1):=λy hy hk=>by
  obtain⟨c,e⟩:=hcell y hy hk
  show _=some ((X.env.cells.lookup y.1).getD 0)
  rw[e];rfl
 have hclos:closureFor scope X.env=pure (F8 f scope.names []):=K5 λy hy hk=>by
  unfold cellOf
  rw[hf y hy hk]
 have hcl:∀{x:Str} {c:Addr},(F8 f scope.names []).lookup x=some c->X.env.cells.lookup x=some c:=λ{x c} e=>by
  rcases O3 _ _ e with ⟨h1,h2⟩ | h1
  .rw[h2];exact hf (x,.free) h1 rfl
  .simp at h1
 have hhas:∀x,(x,NameKind.free)∈scope.names->∃c,(F8 f scope.names []).lookup x=some c:=λx hx=>⟨_,ai _ _ (.inl hx)⟩
 generalize F8 f scope.names []=cl at hclos hcl hhas
 rw[exec_Assign_Name_used _ _ _ _ hsw]
 refine Hy (Lm (Hy ?_))
 show wpAny _ X.A (do let _ <-comprehension (.ListComp elt [⟨tg,iter,ifs,0⟩] scope pos) scope X.env _ (newList []) false (eval iter X.env) (some (assign (.Name y py) X.env))) _ _ s
 refine Hy (Jp (wpAny_comprehension_free (use:=some (assign (.Name y py) X.env)) (cl:=cl) (Q:=λ_ s'=>∃σ' H',Inv X pins σ' H' s'/\D0.nx σ' H') rfl hs hclos hcap.kind hcap.loc ?_) (λ_ s' hq=>HS (HS hq)) λ_ _ e=>e)
 refine thn (hi pins s σ H _ I h) λv s1 h1=>thn h1 λitv s2 h2=>?_
 obtain⟨it,fp,tn,J,H2,e,I2,T,st2,f2,q2⟩:=h2
 subst e
 obtain⟨W,⟨m0,w0⟩,turn⟩:=q2 s2.heap.objs.size (I2.hok.fresh (HK _))
 refine IU ?_
 have I3:Inv X pins σ (upd H2 s2.heap.objs.size (.lst [])) { s2 with heap:=s2.heap.push { cls:=.type "list",data:=.seq ([]:List Value).toArray } }:=I2.lnew (ys:=[]) (its:=[]) (t':=s2.toks) .nil (IG _)
 have lt2:∀b∈fp,b≠s2.heap.objs.size:=λb hb=>by
  obtain⟨o,e,_⟩:=T.obj _ _ st2 b hb
  exact Ic (HU e)
 exact rX hNd hix hLy hfy hc hosc hcap hcl hhas hg ht he I3 b8 T (T.keep _ _ (s2.heap.push { cls:=.type "list",data:=.seq ([]:List Value).toArray }) st2 λb _ o e=>HI _ e) (λb hb=>⟨by rw[a8 (lt2 b hb)];exact(f2 b hb).1,(f2 b hb).2⟩) w0 turn
end
section
section
variable {X:Cx}{K:Fg}
def yg (K:Fg):List V->Hp->VK->Prop:=λxs H Q=>∃(a:Addr) (ns:List Int),xs=[.ref a]/\SqL K H a (ns.map V.int)/\ns.length<64 /\
 ∀(p:Addr) (ns':List Int),H p=none->ns'.Perm ns->ns'.Pairwise (· <= ·)->Q (.ref p) (upd H p (.lst (ns'.map V.int)))
theorem lL (hK:X.K=K):C5 X (.builtin "sorted") (yg K):=by
 subst hK
 intro pins s σ H xs us Q I r h
 obtain⟨a,ns,rfl,hq,h64,q⟩:=h
 obtain⟨u,rfl,ru⟩:=N9 r
 cases ru
 obtain⟨its,rv,p,hz⟩:=I.list hq
 have hi:=oe rv
 have hlen:its.length=ns.length:=by rw[<-rv.length,Hz]
 refine PyProof.Rows.sorted_ints p.isList hi (by omega) λout ns' a1 a2 a3=>?_
 obtain⟨e,he⟩:=sortedAll_at s.heap its out
 have I1:Inv X pins σ (upd H (s.heap.objs.size+1) (.lst (ns'.map V.int))) { s with heap:=sortedAll s.heap its out,toks:=s.toks } :=
  I.laid (a:=s.heap.objs.size+1) (λb o ho=>sortedAll_old ho) (Kb _) ⟨by rw[Hz,a2.length_eq,<-Hz (f:=V.int)];exact hz,out.toList,e,dy a1,by rw[he]⟩
 exact⟨.ref (s.heap.objs.size+1),_,I1,rfl,q _ ns' (I.hok.fresh (Kb _)) a2 a3⟩
def BY (ta:TA):TE:=λσ H Q=>ta σ H λvs H1=>∃j:Int,vs=[.int j]/\∀p,H1 p=none->Q (.ref p) (upd H1 p (.rng 0 j))
theorem vP {a:Expr}{ta:TA}{p pos:Pos}(hg:Gl X "range")(hm:X.mg "range" = none)(ha:PA X [a] ta)(hs:starEach [a] X.env=[(false,eval a X.env)]:=by rfl):PE X (.Call (.Name "range" p) [a] [] pos) (BY ta):=by
 intro pins s σ H Q I h
 refine Call_ (Y1 I hg hm boot_range (JF (thn (ha pos pins s σ H _ I h) λus s1 ⟨vs,H1,I1,r1,q1⟩=>?_) hs rfl))
 obtain⟨j,e,q⟩:=q1
 subst e
 cases r1 with
 | cons r rr =>
  cases rr
  obtain⟨t,rfl⟩:=r
  refine call_range_1 ?_
  exact⟨.ref s1.heap.objs.size,_,I1.laid (a:=s1.heap.objs.size) (o:=.rng 0 j) (λb o e=>HI _ e) (HK _) ⟨_,_,_,Ii _ rfl⟩,rfl,q _ (I1.hok.fresh (HK _))⟩
theorem R5:∀{xs:List V} {us:List Value},xs.length=us.length->(∀(i:Nat) x u,xs[i]? = some x->us[i]? = some u->l6 x u)->i5 xs us
 | [],[],_,_=>.nil
 | [],_::_,e,_=>by simp at e
 | _::_,[],e,_=>by simp at e
 | x::xs,u::us,e,h=>.cons (h 0 x u rfl rfl) (R5 (by simpa using e) λi y v h1 h2=>h (i+1) y v (by simpa using h1) (by simpa using h2))
end
end
section
def tyD:PyData->String
 | .none=>"NoneType"
 | .bool _=>"bool"
 | .int _=>"int"
 | .str _=>"str"
 | .list _=>"list"
 | .tuple _=>"tuple"
 | .dict _=>"dict"
def isT (a T:String):Bool:=a == T||(a == "bool" && T == "int")
theorem wK (K:Fg):∀a∈["NoneType","bool","int","str","list","tuple"],∀T∈["bool","int","str","list","tuple"],PySem.W.kitOne K (.type a) (.type T)=some (isT a T):=by
 intro a ha T hT
 simp only[HB,IM,JN]at ha hT
 rcases ha with rfl | rfl | rfl | rfl | rfl | rfl <;> rcases hT with rfl | rfl | rfl | rfl | rfl <;> rfl
section
variable {X:Cx}{K:Fg}
theorem ym {K:Fg}{H:Hp}{d:PyData}{x:V}(h:a7 K H d x):tyD d∈["NoneType","bool","int","str","list","tuple"]:=by
 cases d <;> simp[tyD]
 simp only[a7]at h
def yU (K:Fg):List V->Hp->VK->Prop:=λxs H Q=>∃(x:V) (T:String) (d:PyData),xs=[x,.ty T]/\a7 K H d x/\T∈["bool","int","str","list","tuple"]/\Q (.bl (isT (tyD d) T)) H
theorem rW (hK:X.K=K):C5 X (.builtin "isinstance") (yU K):=by
 subst hK
 intro pins s σ H xs us Q I r h
 obtain⟨x,T,d,rfl,hd,hT,q⟩:=h
 obtain⟨u,w',rfl,ru,rw'⟩:=yM r
 cases(show w'=Value.type T from rw')
 have e:=wK X.K (tyD d) (ym hd) T hT
 have fin:∀tk,EP X pins σ Q (.bool (isT (tyD d) T)) { s with toks:=tk }:=λtk=>⟨.bl (isT (tyD d) T),H,I.tok tk,rfl,q⟩
 cases d with
 | none =>
  simp only[a7]at hd;subst hd
  exact aD I ru .non e fin
 | bool b =>
  simp only[a7]at hd;subst hd
  exact aD I ru (.bl b) e fin
 | int i =>
  simp only[a7]at hd;subst hd
  exact aD I ru (.int i) e fin
 | str z =>
  simp only[a7]at hd;subst hd
  exact aD I ru (.str z) e fin
 | tuple ds =>
  obtain⟨a,xs,rfl,hq,hd'⟩:=hd.ofTup
  cases(show u=Value.ref a from ru)
  obtain⟨its,rv,⟨o,h1,h2,n,h3⟩,_⟩:=I.tuple hq
  exact Jf PySem.W.kitx_tuple I.kIn ⟨_,h1,h2⟩ e (λz=>nomatch z) fin
 | list ds =>
  simp only[a7]at hd
  obtain⟨a,xs,rfl,hq,hd'⟩:=hd
  cases(show u=Value.ref a from ru)
  obtain⟨its,rv,p,_⟩:=I.list (SqL.of hq)
  obtain⟨o,h1,h2,n,h3⟩:=p.isList
  exact Jf LX I.kIn ⟨_,h1,h2⟩ e (λz=>nomatch z) fin
 | dict kvs=>simp only[a7]at hd
end
end
section
section
variable {X:Cx}{K:Fg}
end
end
section
section
variable {X:Cx}{K:Fg}
def BD (K:Fg):List V->Hp->VK->Prop:=λxs H Q=>∃(a:Addr) (ns:List Int),xs=[.ref a]/\SqT K H a (ns.map V.int)/\ns≠[]/\∀m,m∈ns->(∀n∈ns,m<=n)->Q (.int m) H
theorem qT (hK:X.K=K)(hc:X.calm=true):C5 X (.builtin "min") (BD K):=by
 subst hK
 intro pins s σ H xs us Q I r h
 obtain⟨a,ns,rfl,hq,hne,q⟩:=h
 obtain⟨u,rfl,ru⟩:=N9 r
 cases ru
 obtain⟨its,rv,p,hz⟩:=I.tuple hq
 have hlen:its.length=ns.length:=by rw[<-rv.length,Hz]
 have hpos:0<ns.length:=LD.mpr hne
 have p':s.heap.IsTuple a its.toArray:=p
 have hlt:a<s.heap.objs.size:=by obtain⟨o,e,_⟩:=p;exact HU e
 have hval:∀(i:Nat) (v:Value),its.toArray[i]? = some v->∃t,v = .int (ns.getD i 0) t:=λi v hv=>by
  have hv:its[i]? = some v:=by simpa using hv
  obtain⟨hi,_⟩:=HG.mp hv
  have hb:(ns.map V.int)[i]? = some (V.int (ns.getD i 0)):=by
   rw[HP,HD (by omega)]
   simp[List.getD,HD (show i<ns.length by omega)]
  obtain⟨u,hu,ru⟩:=rv.get hb
  rw[hv]at hu
  cases hu
  exact ru
 refine call_min_walk (Km p' ?_)
 have hne':a≠s.heap.objs.size:=Ic hlt
 refine⟨_,_,_,_,_,_,_,rfl,Walks.tuple (A:=X.A.in1) (I.ok.hd hc) _ a hne' its.toArray,⟨⟨_,Ii _ rfl,rfl,rfl⟩,?_⟩,?_,?_,CmpOf.ints_lt (λi=>ns.getD i 0) hval,λv h' tk hP hk=>?_⟩
 .exact p'.at λo e=>HI _ e
 .intro b hb
  rw[LH]
  have:b=s.heap.objs.size\/b=a:=by simpa using hb
  rcases this with e | e
  .rw[e];exact Kc _
  .rw[e];exact JP hlt
 .rw[HQ,hlen];exact hpos
 .obtain⟨h1,h2⟩:=argBest_lt (λi=>ns.getD i 0) (its.toArray.size-1)
  obtain⟨t,rfl⟩:=hval _ v hP
  have hsz:its.toArray.size=ns.length:=by rw[HQ,hlen]
  refine⟨.int _,H,I.kept λb o e=>hk b o (by simp;exact Ic (HU e)) (HI _ e),⟨t,rfl⟩,q _ ?_ λn hn=>?_⟩
  .exact getD_mem (by omega)
  .obtain⟨j,hj,rfl⟩:=mem_getD hn
   exact h2 j (by omega)
end
end
end L2
namespace L2
open PySem PyProof.Rows
theorem jr {prog:Program}{w:World}{A:Around}{E:Value->Shared->Prop}{s:Shared}{a b:Bool}{Q:Value->Shared->Prop}(h:Q (.bool (decide ((if a then(1:Int) else 0)<if b then 1 else 0))) s) :
  wpAny (model prog w) A (call (.builtin "int.__lt__") [.bool a,.bool b]) Q E s:=by
 refine JR PySem.F.slot_bool_lt (T:="bool") rfl entry_int_lt ?_ (args_int_lt _ _)
 show wpAny _ _ (ret (.bool (decide ((if a then(1:Int) else 0)<if b then 1 else 0)))) _ _ s
 exact HS ⟨_,rfl,h⟩
theorem nc {prog:Program}{w:World}{A:Around}{E:Value->Shared->Prop}{s:Shared}{a b:Bool}{Q:Bool->Shared->Prop}(h:Q (decide ((if a then(1:Int) else 0)<if b then 1 else 0)) s):wpAny (model prog w) A (oneLt' true (.bool a) (.bool b)) Q E s:=by
 rw[oneLt'_eq]
 simp only[Js]
 refine Hy (wpAny_cRoomFor_byValue rfl ?_)
 refine Hy (wpAny_callSpecialIfBound?_slot (T:="bool") rfl PySem.F.slot_bool_lt (jr ?_))
 exact Kq h
def Lx (κ:Nat->Int)(i j:Nat):Prop:=κ i < κ j\/(κ i = κ j/\i<j)
structure SB (kd:SortKind) (a0:Array Keyed) (st:SortSt):Prop where
 size:(arrOf st).size=a0.size
 kind:kindOf st=kd
 failed:failedOf st=none
 pend:pendingOf st = #[]
theorem SB.setArr {kd:SortKind}{a0:Array Keyed}{st:SortSt}(h:SB kd a0 st){xs:Array Keyed}(hp:xs.size=(arrOf st).size):SB kd a0 (PyProof.Rows.setArr st xs):=⟨hp.trans h.size,h.kind,h.failed,h.pend⟩
structure SG (kd:SortKind) (a0:Array Keyed) (st:SortSt) (p:Nat->Nat):Prop where
 base:SB kd a0 st
 inj:∀i j,i<a0.size->j<a0.size->p i=p j->i=j
 at_:∀i,i<a0.size->(arrOf st)[i]? = a0[p i]?
 lt:∀i,i<a0.size->p i<a0.size
def hV (prog:Program)(w:World)(A:Around)(s:Shared)(kd:SortKind)(a0:Array Keyed)(κ:Nat->Int):Prop :=
 ∀(i j:Nat) (x y:Keyed),i≠j->a0[i]? = some x->a0[j]? = some y->∀(E:Value->Shared->Prop) (Q:Bool->Shared->Prop),Q (decide (κ i < κ j)) s->wpAny (model prog w) A (keyLt' kd x.1 y.1) Q E s
def SoK (κ:Nat->Int)(p:Nat->Nat)(n:Nat):Prop:=∀i j,i<=j->j<n->κ (p i) <= κ (p j)
def SoS (κ:Nat->Int)(p:Nat->Nat)(n:Nat):Prop:=(∀i j,i<j->j<n->Lx κ (p i) (p j))/\(∀i,n<=i->p i=i)/\∀i,i<n->p i<n
theorem SoS.sorted {κ:Nat->Int}{p:Nat->Nat}{n:Nat}(h:SoS κ p n):SoK κ p n:=by
 intro i j hij hj
 by_cases e:i=j
 .subst e;exact Mm _
 .rcases h.1 i j (by omega) hj with q | q
  .exact Int.le_of_lt q
  .exact Int.le_of_eq q.1
theorem SoS.more {κ:Nat->Int}{p:Nat->Nat}{n m:Nat}(h:SoS κ p n)(hnm:n<=m)(hs:SoK κ p m):SoS κ p m:=by
 refine⟨λi j hij hj=>?_,λi hi=>h.2.1 i (by omega),λi hi=>?_⟩
 .by_cases hjn:j<n
  .exact h.1 i j hij hjn
  .have q:=hs i j (by omega) hj
   have ej:=h.2.1 j (by omega)
   rcases KI q with q | q
   .exact .inl q
   .refine .inr ⟨q,?_⟩
    rw[ej]
    by_cases hin:i<n
    .have:=h.2.2 i hin;omega
    .rw[h.2.1 i (by omega)];exact hij
 .by_cases hin:i<n
  .have:=h.2.2 i hin;omega
  .rw[h.2.1 i (by omega)];exact hi
section
variable {prog:Program}{w:World}{A:Around}{E:Value->Shared->Prop}{s:Shared}{a0:Array Keyed}{κ:Nat->Int}{kd:SortKind}
theorem kG {st:SortSt}{p:Nat->Nat}{i j:Nat}{Q:Option Bool->SortSt->Prop}(g:SG kd a0 st p)(hL:hV prog w A s kd a0 κ)(hi:i<a0.size)(hj:j<a0.size)(hij:i≠j)
  (h:Q (some (decide (κ (p i) < κ (p j)))) st):wpS (model prog w) A E s (ltAt' i j) Q st:=by
 have e1:=g.at_ i hi
 have e2:=g.at_ j hj
 have l1:=g.lt i hi
 have l2:=g.lt j hj
 have f1:a0[p i]? = some a0[p i]:=getElem?_pos a0 (p i) l1
 have f2:a0[p j]? = some a0[p j]:=getElem?_pos a0 (p j) l2
 rw[ltAt'_eq]
 refine II (wpS_get ?_)
 show wpS _ _ _ _ (do let x <-elem' (arrOf st) i;let y <-elem' (arrOf st) j;lt' x y) Q st
 rw[elem'_eq,elem'_eq,e1,e2,f1,f2]
 refine II (Jo (II (Jo ?_)))
 rw[lt'_eq]
 refine II (wpS_get ?_)
 rw[g.base.kind]
 refine II (wpS_lift (wpAny_attempt (hL _ _ _ _ (λz=>hij (g.inj i j hi hj z)) f1 f2 _ _ ?_)))
 exact⟨rfl,Jo h⟩
theorem SG.bub {st:SortSt}{p:Nat->Nat}(g:SG kd a0 st p){k l:Nat}(hk:k<a0.size)(hl:l<=k) :
  SG kd a0 (setArr st (bubble (arrOf st) k (k-l))) (λi=>if i=l then p k else if l<i/\i<=k then p (i-1) else p i):=by
 refine⟨g.base.setArr (bubble_size _ _ _),λi j hi hj e=>?_,λi hi=>?_,λi hi=>?_⟩
 .have q:=g.inj
  try dsimp only at e
  repeat' split at e
  all_goals first
   | omega
   | (have:=q _ _ (by omega) (by omega) e;omega)
 .have e:=getElem?_bubble (xs:=arrOf st) (src:=k) (by rw[g.base.size];exact hk) (k-l) (by omega) i
  rw[show k-(k-l)=l by omega]at e
  show(bubble (arrOf st) k (k-l))[i]? = _
  rw[e]
  repeat' split
  .exact g.at_ _ hk
  .exact g.at_ _ (by omega)
  .exact g.at_ _ hi
 .try dsimp only
  repeat' split
  .exact g.lt _ hk
  .exact g.lt _ (by omega)
  .exact g.lt _ hi
theorem SG.mir {st:SortSt}{p:Nat->Nat}(g:SG kd a0 st p){u v:Nat}(hv:v<=a0.size) :
  SG kd a0 (setArr st (mirror (arrOf st) u v ((v-u) / 2))) (λi=>if u<=i/\i<v then p (u+v-1-i) else p i):=by
 refine⟨g.base.setArr (mirror_size _ _ _ _),λi j hi hj e=>?_,λi hi=>?_,λi hi=>?_⟩
 .have q:=g.inj
  try dsimp only at e
  repeat' split at e
  all_goals first
   | omega
   | (have:=q _ _ (by omega) (by omega) e;omega)
 .have e:=getElem?_mirror_all (xs:=arrOf st) (i:=u) (j:=v) (by rw[g.base.size];exact hv) i
  show(mirror (arrOf st) u v ((v-u) / 2))[i]? = _
  rw[e]
  repeat' split
  .exact g.at_ _ (by omega)
  .exact g.at_ _ hi
 .try dsimp only
  split
  .exact g.lt _ (by omega)
  .exact g.lt _ hi
theorem rB {st:SortSt}{p:Nat->Nat}{n ok:Nat}{Q:Bool->SortSt->Prop}(hL:hV prog w A s kd a0 κ)(hn:n<=a0.size)(hok:ok<=n)(hB:SG kd a0 st p)(hs:SoS κ p ok)
  (h:∀st' p',SG kd a0 st' p'->SoS κ p' n->Q true st'):wpS (model prog w) A E s (binarySort' 0 n ok) Q st:=by
 rw[binarySort'_eq]
 simp only[IB]
 refine II (wpS_mono (KJ (I:=λk c st'=>c=(none,())/\∃p',SG kd a0 st' p'/\SoS κ p' (min k n))
  (Q:=λc st'=>c=(none,())/\∃p',SG kd a0 st' p'/\SoS κ p' n) ?step ?fin ?init) ?post)
 case post =>
  rintro c st' ⟨rfl,p',hB',hs'⟩
  exact Jo (h st' p' hB' hs')
 case init =>
  refine⟨rfl,p,hB,?_⟩
  by_cases h1:ok=0
  .subst h1
   refine hs.more (by omega) λi j hij hj=>?_
   have:i=j:=by omega
   subst this;exact Mm _
  .rw[show min (max ok 1) n=ok by omega];exact hs
 case fin =>
  rintro c st' ⟨hc,p',hB',hs'⟩
  refine⟨hc,p',hB',?_⟩
  rwa [show min (max (max ok 1) n) n=n by omega]at hs'
 case step =>
  rintro k c st' hak hkn ⟨rfl,p',hG',hS'⟩
  rw[show min k n=k by omega]at hS'
  have hk:k<a0.size:=by omega
  have hs':=hS'.sorted
  have hB':=hG'.base
  refine II (wpS_mono (KJ (I:=λx c st''=>st''=st'/\∃l r,c=(none,l,r)/\l<=r/\r<=k/\r-l<=k-x /\
    (∀i,i<l->κ (p' i) <= κ (p' k))/\(∀i,r<=i->i<k->κ (p' k) < κ (p' i)))
   (Q:=λc st''=>st''=st'/\∃l r,c=(none,l,r)/\l<=k /\
    (∀i,i<l->κ (p' i) <= κ (p' k))/\(∀i,l<=i->i<k->κ (p' k) < κ (p' i))) ?istep ?ifin ?iinit) ?ipost)
  case iinit=>exact⟨rfl,0,k,rfl,by omega,by omega,by omega,λi hi=>by omega,λi h1 h2=>by omega⟩
  case ifin =>
   rintro c st'' ⟨rfl,l,r,rfl,hlr,hrk,hm,hlo,hhi⟩
   have:l=r:=by omega
   subst this
   exact⟨rfl,l,l,rfl,hrk,hlo,hhi⟩
  case istep =>
   rintro x c st'' _ hxk ⟨rfl,l,r,rfl,hlr,hrk,hm,hlo,hhi⟩
   dsimp only
   by_cases hge:l >= r
   .rw[HH hge]
    have:l=r:=by omega
    subst this
    exact Jo ⟨rfl,l,l,rfl,hrk,hlo,hhi⟩
   .rw[HM hge]
    refine II (kG hG' hL hk (by omega) (by omega) ?_)
    by_cases hless:κ (p' k) < κ (p' ((l+r) / 2))
    .simp only[hless,Li,Js]
     refine Jo ⟨rfl,l,(l+r) / 2,rfl,by omega,by omega,by omega,hlo,λi h1 h2=>?_⟩
     exact Int.lt_of_lt_of_le hless (hs' _ _ h1 h2)
    .simp only[hless,Lw,ID,Ji]
     refine Jo ⟨rfl,(l+r) / 2+1,r,rfl,by omega,by omega,by omega,λi h1=>?_,hhi⟩
     exact Int.le_trans (hs' i ((l+r) / 2) (by omega) (by omega)) (Int.not_lt.mp hless)
  case ipost =>
   rintro c st'' ⟨rfl,l,r,rfl,hlk,hlo,hhi⟩
   show wpS _ _ _ _ (do moveDown' k l;pure (ForInStep.yield (none,()))) _ _
   rw[moveDown'_eq]
   refine II (wpS_modify (Jo ⟨rfl,_,hG'.bub hk hlk,?_⟩))
   rw[show min (k+1) n=k+1 by omega]
   have ek:=hS'.2.1 k (HK _)
   have lo':∀i,i<l->Lx κ (p' i) (p' k):=λi hi=>by
    have q:=hlo i hi
    rcases KI q with q | q
    .exact .inl q
    .refine .inr ⟨q,?_⟩
     rw[ek];exact hS'.2.2 i (by omega)
   have hi':∀i,l<=i->i<k->Lx κ (p' k) (p' i):=λi h1 h2=>by
    have q:=hhi i h1 h2
    exact .inl q
   refine⟨λi j hij hj=>?_,λi hi=>?_,λi hi=>?_⟩
   .dsimp only
    repeat' split
    all_goals first
     | (exfalso;omega)
     | exact lo' _ (by omega)
     | exact hi' _ (by omega) (by omega)
     | exact hS'.1 _ _ (by omega) (by omega)
   .dsimp only
    rw[HM (by omega),HM (by omega)]
    exact hS'.2.1 i (by omega)
   .dsimp only
    repeat' split
    .rw[ek];omega
    .have:=hS'.2.2 (i-1) (by omega);omega
    .have:=hS'.2.2 i (by omega);omega
theorem uD {st:SortSt}{p:Nat->Nat}{a nrem:Nat}{Q:AscSt->SortSt->Prop}(hL:hV prog w A s kd a0 κ)(hn:nrem<=a0.size)(ha:1<=a)(han:a<=nrem)(hG:SG kd a0 st p)
  (hs:SoK κ p a)
  (h:∀n,a<=n->n<=nrem->SoK κ p n->(n=nrem \/ κ (p n) < κ (p (n-1)))->Q (none,n) st) :
  wpS (model prog w) A E s (ascLoop a nrem) Q st:=by
 unfold ascLoop
 refine KJ (I:=λx c st'=>st'=st/\c=(none,x)/\SoK κ p x) ?step ?fin ⟨rfl,rfl,hs⟩
 case fin =>
  rintro c st' ⟨rfl,rfl,hs'⟩
  rw[show max a nrem=nrem by omega]at hs' ⊢
  exact h nrem han (HK _) hs' (.inl rfl)
 case step =>
  rintro x c st' hax hxn ⟨rfl,rfl,hs'⟩
  dsimp only
  refine II (kG hG hL (by omega) (by omega) (by omega) ?_)
  by_cases hless:κ (p x) < κ (p (x-1))
  .simp only[hless,Li,Js]
   exact Jo (h x hax (by omega) hs' (.inr hless))
  .simp only[hless,Lw,ID,Ji]
   refine Jo ⟨rfl,rfl,λi j hij hj=>?_⟩
   by_cases hjx:j<x
   .exact hs' i j hij hjx
   .have hj':j=x:=by omega
    subst hj'
    by_cases hi':i=j
    .subst hi';exact Mm _
    .exact Int.le_trans (hs' i (j-1) (by omega) (by omega)) (Int.not_lt.mp hless)
def DoS (κ:Nat->Int)(p:Nat->Nat)(n:Nat):Prop:=(∀i j,i<j->j<n->Lx κ (p j) (p i))/\(∀i,n<=i->p i=i)/\∀i,i<n->p i<n
theorem mz {st:SortSt}{p:Nat->Nat}{n nrem:Nat}{Q:Option Nat->SortSt->Prop}(hL:hV prog w A s kd a0 κ)(hn:nrem<=a0.size)(h1:1<=n)(hnn:n<=nrem)(hB:SG kd a0 st p)
  (hs:DoS κ p n) (h:∀m st' p',SG kd a0 st' p'->1<=m->m<=nrem->SoS κ p' m->Q (some m) st') :
  wpS (model prog w) A E s (tail3 n nrem) Q st:=by
 unfold tail3
 refine II (wpS_reverse ?_)
 have hG:=hB.mir (u:=0) (v:=n) (by omega)
 have hS:SoS κ (λi=>if 0<=i/\i<n then p (0+n-1-i) else p i) n:=by
  refine⟨λi j hij hj=>?_,λi hi=>?_,λi hi=>?_⟩
  .dsimp only
   rw[HH (by omega),HH (by omega)]
   exact hs.1 _ _ (by omega) (by omega)
  .dsimp only
   rw[HM (by omega)]
   exact hs.2.1 i hi
  .dsimp only
   rw[HH (by omega)]
   exact hs.2.2 _ (by omega)
 exact II (uD hL hn h1 hnn hG hS.sorted λm hm1 hm2 hsm _=>Jo (h m _ _ hG (by omega) hm2 (hS.more hm1 hsm)))
def GoS (κ:Nat->Int)(p:Nat->Nat)(g n:Nat):Prop :=
 DoS κ p g/\g<n/\(∀i,g<=i->i<n->κ i = κ (n-1))/\∀i,i<g->κ (n-1) < κ (p i)
theorem GoS.close {st:SortSt}{p:Nat->Nat}{g n:Nat}(hG:SG kd a0 st p)(h:GoS κ p g n)(hn:n<=a0.size):DoS κ (λi=>if g<=i/\i<n then p (g+n-1-i) else p i) n:=by
 obtain⟨hd,hg,he,hl⟩:=h
 refine⟨λi j hij hj=>?_,λi hi=>?_,λi hi=>?_⟩
 .dsimp only
  by_cases h1:g<=i
  .rw[HH (by omega),HH (by omega),hd.2.1 _ (by omega),hd.2.1 _ (by omega)]
   refine .inr ⟨?_,by omega⟩
   rw[he _ (by omega) (by omega),he (g+n-1-i) (by omega) (by omega)]
  .by_cases h2:g<=j
   .rw[HH (by omega),HM (by omega),hd.2.1 _ (by omega)]
    refine .inl ?_
    rw[he _ (by omega) (by omega)]
    exact hl i (by omega)
   .rw[HM (by omega),HM (by omega)]
    exact hd.1 i j hij (by omega)
 .dsimp only
  rw[HM (by omega)]
  exact hd.2.1 i (by omega)
 .dsimp only
  split
  .rw[hd.2.1 _ (by omega)];omega
  .have:=hd.2.2 i (by omega);omega
theorem GoS.close1 {p:Nat->Nat}{g n:Nat}(h:GoS κ p g n)(e:n=g+1):DoS κ p n:=by
 obtain⟨hd,hg,he,hl⟩:=h
 subst e
 refine⟨λi j hij hj=>?_,λi hi=>hd.2.1 i (by omega),λi hi=>?_⟩
 .by_cases h2:j<g
  .exact hd.1 i j hij h2
  .have:j=g:=by omega
   subst this
   rw[hd.2.1 j (HK _)]
   exact .inl (hl i hij)
 .by_cases h2:i<g
  .have:=hd.2.2 i h2;omega
  .rw[hd.2.1 i (by omega)];exact hi
theorem wG {st:SortSt}{p:Nat->Nat}{n nrem:Nat}{Q:DescSt->SortSt->Prop}(hL:hV prog w A s kd a0 κ)(hn:nrem<=a0.size)(h1:1<=n)(hnn:n<=nrem)(hB:SG kd a0 st p)
  (hs:GoS κ p (n-1) n)
  (h:∀m neq st' p',SG kd a0 st' p'->n<=m->m<=nrem->neq+1<=m->GoS κ p' (m-(neq+1)) m->Q (none,m,neq) st') :
  wpS (model prog w) A E s (descLoop n nrem) Q st:=by
 unfold descLoop
 refine KJ (I:=λx c st'=>∃neq p',c=(none,x,neq)/\SG kd a0 st' p'/\neq+1<=x/\GoS κ p' (x-(neq+1)) x) ?step ?fin ⟨0,p,rfl,hB,by omega,hs⟩
 case fin =>
  rintro c st' ⟨neq,p',rfl,hG',hq,hS'⟩
  rw[show max n nrem=nrem by omega]at hq hS' ⊢
  exact h nrem neq st' p' hG' hnn (HK _) hq hS'
 case step =>
  rintro x c st' hax hxn ⟨neq,p',rfl,hG',hq,hS'⟩
  dsimp only
  refine II (kG hG' hL (by omega) (by omega) (by omega) ?_)
  have k1:p' x=x:=hS'.1.2.1 x (by omega)
  have k2:p' (x-1)=x-1:=hS'.1.2.1 (x-1) (by omega)
  rw[k1,k2]
  have put:∀{p2:Nat->Nat},κ x < κ (x-1)->DoS κ p2 x->(∀i,i<x->κ (x-1) <= κ (p2 i))->GoS κ p2 (x+1-(0+1)) (x+1):=by
   intro p2 hless d ge
   rw[show x+1-(0+1)=x by omega]
   refine⟨d,by omega,λi h1 h2=>?_,λi hi=>?_⟩
   .rw[show i=x by omega];rfl
   .exact Int.lt_of_lt_of_le hless (ge i hi)
  have ge0:∀i,i<x->κ (x-1) <= κ (p' i):=λi hi=>by
   by_cases hg:i<x-(neq+1)
   .exact Int.le_of_lt (hS'.2.2.2 i hg)
   .rw[hS'.1.2.1 i (by omega)]
    exact Int.le_of_eq (hS'.2.2.1 i (by omega) hi).symm
  by_cases hless:κ x < κ (x-1)
  .simp only[hless,Li,Js]
   by_cases hneq:neq > 0
   .rw[HH hneq]
    have hG2:=hG'.mir (u:=x-(neq+1)) (v:=x) (by omega)
    refine II (wpS_reverse (Jo ⟨0,_,rfl,hG2,by omega,put hless (hS'.close hG' (by omega)) λi hi=>?_⟩))
    try dsimp only
    split
    .exact ge0 _ (by omega)
    .exact ge0 _ hi
   .rw[HM hneq]
    exact Jo ⟨0,p',rfl,hG',by omega,put hless (hS'.close1 (by omega)) ge0⟩
  .simp only[hless,Lw,ID,Ji]
   refine II (kG hG' hL (by omega) (by omega) (by omega) ?_)
   rw[k1,k2]
   by_cases hlarger:κ (x-1) < κ x
   .simp only[hlarger,Li,Js]
    exact Jo (h x neq st' p' hG' hax (by omega) hq hS')
   .simp only[hlarger,Lw,ID,Ji]
    have heqx:κ x = κ (x-1):=by omega
    refine Jo ⟨neq+1,p',rfl,hG',by omega,?_⟩
    rw[show x+1-(neq+1+1)=x-(neq+1) by omega]
    refine⟨hS'.1,by omega,λi h1 h2=>?_,λi hi=>?_⟩
    .rw[show x+1-1=x by omega]
     by_cases hix:i=x
     .subst hix;rfl
     .rw[heqx];exact hS'.2.2.1 i h1 (by omega)
    .rw[show x+1-1=x by omega,heqx];exact hS'.2.2.2 i hi
theorem dW {st:SortSt}{p:Nat->Nat}{n nrem:Nat}{Q:Option Nat->SortSt->Prop}(hL:hV prog w A s kd a0 κ)(hn:nrem<=a0.size)(hnn:n+1<=nrem)(hB:SG kd a0 st p)
  (hs:GoS κ p n (n+1)) (h:∀m st' p',SG kd a0 st' p'->1<=m->m<=nrem->SoS κ p' m->Q (some m) st') :
  wpS (model prog w) A E s (descPart n nrem) Q st:=by
 unfold descPart
 refine II (wpS_lift (KQ ⟨rfl,?_⟩))
 refine II (wG hL hn (by omega) hnn hB hs λm neq st' p' hG' hm1 hm2 hq hS'=>?_)
 dsimp only
 by_cases hneq:neq > 0
 .rw[HH hneq]
  exact II (wpS_reverse (mz hL hn (by omega) hm2 (hG'.mir (by omega)) (hS'.close hG' (by omega)) h))
 .rw[HM hneq]
  exact mz hL hn (by omega) hm2 hG' (hS'.close1 (by omega)) h
theorem vm {st:SortSt}{nrem:Nat}{Q:Option Nat->SortSt->Prop}(hL:hV prog w A s kd a0 κ)(hn:nrem<=a0.size)(h1:1<=nrem)(hB:SG kd a0 st id)
  (h:∀m st' p',SG kd a0 st' p'->1<=m->m<=nrem->SoS κ p' m->Q (some m) st') :
  wpS (model prog w) A E s (countRun' 0 nrem) Q st:=by
 rw[countRun0_eq]
 have S0:SoS κ id 0:=⟨λi j _ hj=>by omega,λi _=>rfl,λi hi=>by omega⟩
 have one:SoK κ id 1:=λi j hij hj=>by
  have:i=j:=by omega
  subst this;exact Mm _
 refine II (uD hL hn (HK 1) h1 hB one λn hn1 hn2 hsn hor=>?_)
 dsimp only
 by_cases hnn:n=nrem
 .rw[HH (by simpa using hnn)]
  exact Jo (h n st id hB hn1 hn2 (S0.more (by omega) hsn))
 .rw[HM (by simpa using hnn)]
  have hlt:κ n < κ (n-1):=hor.resolve_left hnn
  by_cases hgt:n > 1
  .rw[HH hgt]
   refine II (kG hB hL (by omega) (by omega) (by omega) ?_)
   simp only[id]
   by_cases hrose:κ 0 < κ (n-1)
   .simp only[hrose,Li,Js]
    exact Jo (h n st id hB hn1 hn2 (S0.more (by omega) hsn))
   .simp only[hrose,Lw,ID,Ji]
    have hall:∀j,j<n->κ j = κ (n-1):=by
     intro j hk
     have a1:κ 0 <= κ j:=hsn 0 j (by omega) hk
     have a2:κ j <= κ (n-1):=hsn j (n-1) (by omega) (by omega)
     omega
    refine II (wpS_reverse (dW hL hn (by omega) (hB.mir (by omega)) ?_ h))
    refine⟨⟨λi j hij hj=>?_,λi hi=>?_,λi hi=>?_⟩,by omega,λi h1 h2=>?_,λi hi=>?_⟩
    .dsimp only
     rw[HH (by omega),HH (by omega)]
     refine .inr ⟨?_,by simp only[id];omega⟩
     simp only[id]
     rw[hall _ (by omega),hall (0+n-1-i) (by omega)]
    .dsimp only
     rw[HM (by omega)];rfl
    .dsimp only
     rw[HH (by omega)];simp only[id];omega
    .rw[show i=n by omega];rfl
    .dsimp only
     rw[HH (by omega)];simp only[id]at hlt ⊢
     rw[hall (0+n-1-i) (by omega),show n+1-1=n by omega]
     exact hlt
  .rw[HM hgt]
   have hn1':n=1:=by omega
   subst hn1'
   refine dW hL hn (by omega) hB ⟨⟨λi j hij hj=>by omega,λi hi=>rfl,λi hi=>hi⟩,by omega,λi h1 h2=>?_,λi hi=>?_⟩ h
   .rw[show i=1 by omega]
   .rw[show i=0 by omega];exact hlt
def ot (κ:Nat->Int)(a0:Array Keyed)(st:SortSt):Prop :=
 failedOf st=none/\pendingOf st = #[(0,a0.size,0)]/\(arrOf st).size=a0.size/\∃p,(∀i,i<a0.size->(arrOf st)[i]? = a0[p i]?)/\SoS κ p a0.size
theorem SG.done {st:SortSt}{p:Nat->Nat}(g:SG kd a0 st p)(h:SoS κ p a0.size):ot κ a0 (setPending st ((pendingOf st).push (0,a0.size,0))) :=
 ⟨g.base.failed,by show(pendingOf st).push _=_;rw[g.base.pend];rfl,g.base.size,p,g.at_,h⟩
theorem pW {st:SortSt}{Q:Unit->SortSt->Prop}(hL:hV prog w A s kd a0 κ)(hB:SG kd a0 st id)(h2:2<=a0.size)(h64:a0.size<64)
  (h:∀st',failedOf st'=none->(arrOf st').size=a0.size->(∃p,(∀i,i<a0.size->(arrOf st')[i]? = a0[p i]?)/\SoS κ p a0.size)->Q () st'):wpS (model prog w) A E s sortRuns' Q st:=by
 rw[sortRuns'_eq]
 refine II (wpS_get ?_)
 dsimp only
 have hmr:minRun' a0.size a0.size 0=a0.size:=by
  obtain⟨f,hf⟩:∃f,a0.size=f+1:=⟨a0.size-1,by omega⟩
  have:minRun' (f+1) a0.size 0=a0.size:=by rw[minRun'_succ,HH h64];rfl
  rwa [<-hf]at this
 simp only[hB.base.size,hmr]
 refine II (wpS_mono (KJ
  (I:=λx c st'=>(x=0/\c=(none,0)/\SG kd a0 st' id)\/(1<=x/\c=(none,a0.size)/\ot κ a0 st'))
  (Q:=λc st'=>c=(none,a0.size)/\ot κ a0 st') ?step ?fin (.inl ⟨rfl,rfl,hB⟩)) ?post)
 case fin =>
  rintro c st' (⟨hx,_,_⟩ | ⟨_,hc,hD⟩)
  .omega
  .exact⟨hc,hD⟩
 case step =>
  rintro x c st' _ hx (⟨rfl,rfl,hB'⟩ | ⟨hx1,rfl,hD⟩)
  .dsimp only
   rw[HM (by omega)]
   simp only[Md,Nat.min_self,IB]
   refine II (vm hL (HK _) (by omega) hB' λm st2 p2 hB2 hm1 hm2 hs2=>?_)
   dsimp only
   by_cases hlt:m<a0.size
   .rw[HH hlt]
    refine II (wpS_lift (KQ ⟨rfl,?_⟩))
    refine II (rB hL (HK _) hm2 hB2 hs2 λst3 p3 hB3 hs3=>?_)
    simp only[LS,ID,Ji]
    refine II (wpS_get ?_)
    have hb:(pendingOf st3).back? = none:=by rw[hB3.base.pend];rfl
    rw[hb]
    dsimp only
    exact II (wpS_modify (Jo (.inr ⟨by omega,rfl,hB3.done hs3⟩)))
   .rw[HM hlt]
    have hm:m=a0.size:=by omega
    subst hm
    refine II (wpS_get ?_)
    have hb:(pendingOf st2).back? = none:=by rw[hB2.base.pend];rfl
    rw[hb]
    dsimp only
    exact II (wpS_modify (Jo (.inr ⟨by omega,rfl,hB2.done hs2⟩)))
  .dsimp only
   rw[HH (HK _)]
   exact Jo ⟨rfl,hD⟩
 case post =>
  rintro c st' ⟨rfl,hD⟩
  dsimp only
  refine II (wpS_mono (KJ (I:=λ_ c st''=>st''=st'/\c=(none,())) (Q:=λc st''=>st''=st'/\c=(none,())) ?_ (λ_ _ hh=>hh) ⟨rfl,rfl⟩) ?_)
  .rintro x c st'' _ _ ⟨rfl,rfl⟩
   refine II (wpS_get ?_)
   rw[HH (by rw[hD.2.1];exact HK 1)]
   exact Jo ⟨rfl,rfl⟩
  .rintro c st'' ⟨rfl,rfl⟩
   exact Jo (h _ hD.1 hD.2.2.1 hD.2.2.2)
end
end L2
namespace L2
open PySem PySem.Spec PyProof.Rows PySem.W
section
def cdO (c:Addr)(q:Str):HO:=.ext λh=>h.CodeRec (.ref c) q
def jl (H:Hp)(P:Addr)(q:Str):Prop:=∃ps,H P=some (.tbl ps)/\TriplesOk ps.toList/\∀pos cv,codeAmong pos ps.toList=some cv->∃c,cv = .ref c/\H c=some (cdO c q)
theorem oM {q p:Pos}{c cv:Value}:∀(l:List Value),TriplesOk l->codeAmong q (l++[rawInt p.line,rawInt p.col,c])=some cv->codeAmong q l=some cv\/cv=c:=by
 intro l h e
 fun_induction TriplesOk l with
 | case1 =>
  simp only[Jh,codeAmong,rawInt]at e
  split at e
  .exact .inr (HN e).symm
  .cases e
 | case2 a b c' d e' rest ih =>
  simp only[Jv,codeAmong]at e ⊢
  split
  .rename_i h1
   rw[HH h1]at e
   exact .inl e
  .rename_i h1
   rw[HM h1]at e
   exact ih h e
 | case3=>exact h.elim
def BMd (base:Heap)(mg:Str->Option Value):Prop:=∃bm ob,mg "__builtins__" = some (.ref bm)/\bm≠builtinsNs/\base.get? bm=some ob/\ob.cls = .type "module" /\ ob.dict=some builtinsNs/\ob.data = .plain
def zU (P:Addr)(q:Str)(H H':Hp):Prop:=H'=H\/∃ps more c,H P=some (.tbl ps)/\H c=none/\c≠P/\H'=upd (upd H P (.tbl (ps++more))) c (cdO c q)
theorem uF {c:Addr}{q:Str}:∀h1 h2:Heap,h1.CodeRec (.ref c) q->(∀o,h1.get? c=some o->h2.get? c=some o)->h2.CodeRec (.ref c) q:=λh1 h2 ⟨c',o,vs,t,e,g,r⟩ k=>by
 cases e
 exact⟨c,o,vs,t,rfl,k o g,r⟩
section
variable {X:Cx}{pins:List (Addr×Obj)}{σ:St}{H:Hp}{s:Shared}
theorem Inv.pin1 {a:Addr}{o:Obj}(I:Inv X pins σ H s)(ho:s.heap.get? a=some o)(hH:H a=none)(hL:a≠X.env.locals)(hf:a ∉ X.fs)(hd:∀v,o.data ≠ .cell v):Inv X ((a,o)::pins) σ H s :=
 I.pins_of λp hp=>by
  rcases HB.mp hp with rfl | hp
  .exact⟨ho,hH,hL,hf,hd⟩
  .exact I.pin p (HW _ hp)
theorem Inv.pinFresh {a:Addr}{o:Obj}{s0:Shared}{pins0:List (Addr×Obj)}{σ0:St}{H0:Hp}(I:Inv X pins σ H s)(I0:Inv X pins0 σ0 H0 s0)(ho:s.heap.get? a=some o)(h:s0.heap.objs.size<=a)(hH:H a=none)(hd:∀v,o.data ≠ .cell v):Inv X ((a,o)::pins) σ H s :=
 I.pin1 ho hH (λe=>absurd (Ie I0.lt h) (by rw[e];exact Jl _)) (I0.nofs h) hd
theorem sI {params:Arguments}{body:Expr}{scope:Scope}{lpos:Pos}{c P:Addr}{q:Str}{cl:List (Str×Addr)}{Q:Value->Shared->Prop}(I:Inv X pins σ H s)(hdef:defaultsOf params X.env=([],[]))(hcl:closureFor scope X.env=pure cl)
  (hcode:X.env.code = .ref c) (C:CodeHd X.base c P) (BM:BMd X.base X.mg) (T:jl H P q) (hq:X.env.qual ++ "<lambda>" = q)
  (h:∀f c' ctv H' s',zU P q H H'->jl H' P q->H' c'=some (cdO c' q)->Inv X ((f,kla_obj "<lambda>" q params body scope cl ((X.mg "__name__").getD .none) c' ctv)::pins) σ H' s'->Q (.ref f) s') :
  wpAny (model X.prog X.w) X.A (eval (.Lambda params body scope lpos) X.env) Q X.xe s:=by
 subst hq
 obtain⟨ps,hP,ht,hall⟩:=T
 have hP':s.heap.get? P=some (tabObj ps):=I.hok P _ hP
 have hg:s.heap.Ns mainGlobals X.mg:=I.mod.glob.keeps I.bk
 obtain⟨bm,ob,b1,b2,b3,b4,b5,b6⟩:=BM
 have hgP:mainGlobals≠P:=λq=>by
  obtain⟨o,es,ep,e,hd,_⟩:=hg
  rw[q,hP']at e;cases e;cases hd
 have hbP:bm≠P:=λq=>by
  have e:=I.bk _ _ b3
  rw[q,hP']at e;cases e;cases b4
 have hbG:bm≠mainGlobals:=λq=>by
  obtain⟨o,es,ep,e,hd,_⟩:=I.mod.glob
  rw[q,e]at b3;cases b3;rw[hd]at b6;cases b6
 have hB:s.heap.BuiltinsAt X.mg P:=⟨bm,ob,b1,b2,hbG,hbP,I.bk _ _ b3,b4,b5,b6⟩
 refine kla_eval hdef ?_
 cases hf:codeAmong lpos ps.toList with
 | some cv =>
  obtain⟨c',rfl,hc'⟩:=hall _ _ hf
  refine kla_makeFunctionHit hcl I.ok.glob hg hcode (C.keeps I.bk) hP' ht hf hB λctv h' tk hk hsz=>?_
  have I1:Inv X pins σ H { s with heap:=h'.push (kla_obj "<lambda>" (X.env.qual ++ "<lambda>") params body scope cl ((X.mg "__name__").getD .none) c' ctv),toks:=tk }:=I.kept λb o e=>HI _ (hk b o e)
  exact h _ c' ctv H _ (.inl rfl) ⟨ps,hP,ht,hall⟩ hc' (I1.pinFresh I (Ii _ rfl) hsz (I.hok.fresh hsz) (λv e=>nomatch e))
 | none =>
  refine kla_makeFunction hcl I.ok.glob hg hcode (C.keeps I.bk) hP' ht hf hgP hB λc' ctv h' tk hx hge hlt hrec htb=>?_
  have hcP:c'≠P:=λe=>absurd (Ie (HU hP') hge) (by rw[e];exact Jl _)
  have hcn:H c'=none:=I.hok.fresh hge
  have hk:∀b o,b≠P->s.heap.get? b=some o->(h'.push (kla_obj "<lambda>" (X.env.qual ++ "<lambda>") params body scope cl ((X.mg "__name__").getD .none) c' ctv)).get? b=some o:=λb o hb e=>HI _ (hx b o hb e)
  have hrec':=hrec.push (kla_obj "<lambda>" (X.env.qual ++ "<lambda>") params body scope cl ((X.mg "__name__").getD .none) c' ctv)
  have htb':=HI (kla_obj "<lambda>" (X.env.qual ++ "<lambda>") params body scope cl ((X.mg "__name__").getD .none) c' ctv) htb
  have hsz:s.heap.objs.size<=h'.objs.size:=Im hge (Jm hlt)
  generalize hH':upd (upd H P (.tbl (ps ++ #[rawInt lpos.line,rawInt lpos.col,.ref c']))) c' (cdO c' (X.env.qual ++ "<lambda>"))=H'
  have a1:H' c'=some (cdO c' (X.env.qual ++ "<lambda>")):=by rw[<-hH'];exact b8
  have a2:H' P=some (.tbl (ps ++ #[rawInt lpos.line,rawInt lpos.col,.ref c'])):=by rw[<-hH',a8 hcP.symm];exact b8
  have a3:∀b,b≠c'->b≠P->H' b=H b:=λb h1 h2=>by rw[<-hH',a8 h1,a8 h2]
  have ne:∀b o,H b=some o->b≠c':=λb o e z=>by rw[z,hcn]at e;cases e
  generalize hh2:h'.push (kla_obj "<lambda>" (X.env.qual ++ "<lambda>") params body scope cl ((X.mg "__name__").getD .none) c' ctv)=h2 at hk hrec' htb'
  have un:Un X.fs [] H H' s.heap h2:=by
   refine⟨λb o e n _ _=>hk b o (λz=>by rw[z,hP]at n;cases n) e,λb o e n _ _=>⟨o.slots,hk b o (λz=>by rw[z,hP]at n;cases n) e⟩,λb o e n _=>?_,λb o e _=>?_,λb xs e=>?_,λb o u e=>?_,λb qs e=>?_⟩
   .rw[a3 b (λz=>absurd (Ie (HU e) hge) (by rw[z];exact Jl _)) λz=>by rw[z,hP]at n;cases n]
    exact n
   .by_cases hb:b=P
    .exact⟨_,by rw[hb];exact htb'⟩
    .exact⟨o,hk b o hb e⟩
   .rw[a3 b (ne b _ e) λz=>by rw[z,hP]at e;cases e];exact e
   .rw[a3 b (ne b _ e) λz=>by rw[z,hP]at e;cases e];exact e
   .by_cases hb:b=P
    .subst hb
     rw[hP]at e;cases e
     exact⟨_,a2⟩
    .exact⟨#[],by rw[a3 b (ne b _ e) hb,e];simp⟩
  have ok:HOk X.prog X.w H' h2:=by
   intro b u e
   by_cases hb:b=c'
   .subst hb
    rw[a1]at e;cases e
    obtain⟨c2,o,vs,t,e2,g,r⟩:=id hrec'
    cases e2
    exact⟨hrec',⟨o,g⟩,uF⟩
   .by_cases hbP':b=P
    .subst hbP'
     rw[a2]at e;cases e
     exact htb'
    .rw[a3 b hb hbP']at e
     refine(I.hok b u e).stay (λb2 u2 hc q=>hk b2 u2 ?_ q) (λb2 q=>?_) λb2 xs q=>?_
     .rcases hc with z | z
      .rw[z];exact hbP'
      .intro z2;rw[z2,hP]at z;cases z
     .rw[a3 b2 (ne b2 _ q) λz=>by rw[z,hP]at q;cases q];exact q
     .rw[a3 b2 (ne b2 _ q) λz=>by rw[z,hP]at q;cases q];exact q
  have I1:Inv X pins σ H' { s with heap:=h2,toks:=tk }:=I.un un ok
  have hfn:H' h'.objs.size=none:=by
   rw[a3 _ (Ma hlt) λz=>absurd (Ie (HU hP') hsz) (by rw[z];exact Jl _)]
   exact I.hok.fresh hsz
  refine h _ c' ctv H' _ (.inr ⟨ps,_,c',hP,hcn,hcP,hH'.symm⟩) ⟨_,a2,?_,λpos cv e=>?_⟩ a1 (I1.pinFresh I (by rw[<-hh2];exact Ii _ rfl) hsz hfn (λv e=>nomatch e))
  .rw[Array.toList_append];exact TriplesOk_snoc _ _ _ _ ht
  .rw[Array.toList_append]at e
   rcases oM _ ht e with e | e
   .obtain⟨c2,r1,r2⟩:=hall _ _ e
    refine⟨c2,r1,?_⟩
    by_cases hb:c2=c'
    .subst hb;exact a1
    .rw[a3 c2 hb λz=>by rw[z,hP]at r2;cases r2];exact r2
   .exact⟨c',e,a1⟩
end
end
section
def cxL (X:Cx)(N:List Str)(q:Str)(scope:Scope)(cl:List (Str×Addr))(f c:Addr)(Y:Around)(s₀:Shared)(H₀:Hp):Cx where
 prog:=X.prog
 w:=X.w
 K:=X.K
 mg:=X.mg
 base:=X.base
 A:=Y.deeper (envX q scope s₀.heap.objs.size f (.ref c) cl)
 N:=N
 s₀:=s₀
 H₀:=H₀
 env:=envX q scope s₀.heap.objs.size f (.ref c) cl
 outer:=X.stack
 stack:=envX q scope s₀.heap.objs.size f (.ref c) cl::X.stack
 ex:=[]
 fn:=λ_=>false
 calm:=true
 pn:=[]
 xe:=λ_ _=>False
structure LamOk (ON:List Str) (osc:Scope) (x:Str) (N:List Str) (cap:List Nat) (scope:Scope):Prop where
 kind:scope.kind = .function
 co:scope.isCoroutine=false
 gen:scope.isGenerator=false
 nocell:∀y∈scope.names,y.2 ≠ .cell
 par:scope.names.lookup x=some .local
 first:N.head? = some x
 free:∀y∈scope.names,y.2 = .free->osc.names.lookup y.1=some .cell\/osc.names.lookup y.1=some .free
 len:N.length=1+cap.length
 capx:(cap.map λj=>ON[j]?)=(N.drop 1).map some
 capf:∀y∈N.drop 1,scope.names.lookup y=some .free
def bF (v:V)(cap:List Nat)(σ:St):St:=some v::cap.map λj=>(σ[j]?).join
section
variable {X:Cx}{pins:List (Addr×Obj)}{σ:St}{H:Hp}{s:Shared}
theorem tO {Y:Around}{E:Value->Shared->Prop}{params:Arguments}{body:Expr}{scope osc:Scope}{f c:Addr}{q x:Str}{cl:List (Str×Addr)}{pm ctv:Value}{N:List Str}{cap:List Nat}{te:TE}{v:V}{u:Value}{R:VK}
  (I:Inv X pins σ H s) (hY:Y.frames=some X.stack) (hd:Y.handled=none) (hdp:Y.depth<recursionLimit)
  (hf:(f,kla_obj "<lambda>" q params body scope cl pm c ctv)∈X.pn++pins) (hc:H c=some (cdO c q)) (hosc:X.env.scope=osc) (L:LamOk X.N osc x N cap scope)
  (hcl:∀{x:Str} {c:Addr},cl.lookup x=some c->X.env.cells.lookup x=some c) (hhas:∀x,(x,NameKind.free)∈scope.names->∃c,cl.lookup x=some c)
  (hbind:bindArgs (kla_fn "<lambda>" q params body scope cl pm (.ref c) ctv) ⟨[u],[]⟩=pure [(x,u)])
  (he:∀s H,PE (cxL X N q scope cl f c Y s H) body te) (ru:l6 v u) (h:te (bF v cap σ) H R) :
  wpAny (model X.prog X.w) Y (call (.ref f) [u]) (EP X pins σ R) E s:=by
 obtain⟨p1,p2,p3,p4,p5⟩:=I.pin _ hf
 obtain⟨hrec,_,_⟩:=I.hok c _ hc
 refine wpAny_call (kla_callFunE hdp p1 rfl L.co L.gen rfl hrec ?_)
 rw[hbind]
 refine HS (Lv L.nocell (λy hy=>?_) (λh₁ hns hsb=>⟨I.nolimit.fresh _ hsb,?_⟩) L.kind)
 .have e:y=(x,u):=by simpa using hy
  rw[e];exact L.par
 show codeAny _ _ (.expr body (envX q scope s.heap.objs.size f (.ref c) cl)) _ _
 have old:∀b o,s.heap.get? b=some o->h₁.get? b=some o:=λb o e=>hsb.extBut b o (Ic (HU e)) (HI _ e)
 have noA:∀b:Addr,b ∉ (cxL X N q scope cl f c Y s H).ex:=λb z=>absurd (show b∈([]:List Addr) from z) (by simp)
 have IY:Inv (cxL X N q scope cl f c Y s H) [] (bF v cap σ) H { s with heap:=h₁,toks:=s.toks+[(x,u)].length }:=by
  refine⟨⟨I.ok.mod,L.kind,rfl,rfl,HK _,λx y c h1 h2=>I.ok.inj x y c (hcl h1) (hcl h2),λy hy=>?_,λx c h=>absurd (show false=true from h) Ia,λ_=>hd,Around.frames_deeper hY,.inr ⟨rfl,rfl⟩,
   λb z=>absurd z (noA b),I.bs,Im I.ok.bsz I.sz,λb _ _=>noA b,λb z=>absurd z (noA b),I.stack,I.stkFree⟩,
   rfl,I.bare,Un.kept old,⟨_,hns,λi y w e1 e2 e3=>?_⟩,λy c' e=>?_,I.hok.fresh (HK _),λy c' e=>I.freeC y c' (hcl e),λp hp=>absurd (show p∈([]:List (Addr×Obj)) from hp) (by simp),I.hok.kept old,?_⟩
  .have hy:scope.names.lookup y=some .cell\/scope.names.lookup y=some .free:=hy
   rcases hy with hy | hy
   .exact absurd rfl (L.nocell _ (IX hy))
   .exact hhas y (IX hy)
  .cases i with
   | zero =>
    have e2':some (some v)=some (some w):=e2
    cases e2'
    have ex:y=x:=by
     have z:=L.first
     have e1':N[0]? = some y:=e1
     rw[List.head?_eq_getElem?,e1']at z
     exact HN z
    subst ex
    exact⟨u,ru,.inl ⟨L.par,by simp⟩⟩
   | succ d =>
    have e2':(cap.map λj=>(σ[j]?).join)[d]? = some (some w):=e2
    rw[HP]at e2'
    obtain⟨j,hj,hv⟩:=Ip.mp e2'
    have hσ:σ[j]? = some (some w):=by
     cases r:σ[j]? with
     | none=>rw[r]at hv;cases hv
     | some o=>rw[r]at hv;exact IK some hv
    have e1':(N.drop 1)[d]? = some y:=by rw[LL,Nat.add_comm];exact e1
    have hx:X.N[j]? = some y:=by
     have z:=IK (λl=>l[d]?) L.capx
     simp only[HP,hj,e1',Kl]at z
     exact HN z
    have hfr:=L.capf y (Iy e1')
    have hfm:=IX hfr
    have hok:=L.free _ hfm rfl
    rw[<-hosc]at hok
    obtain⟨m,hn,hl⟩:=I.loc
    obtain⟨u',r,l⟩:=hl j y w hx hσ (.inr hok)
    refine⟨u',r,?_⟩
    rcases l with ⟨hk,_⟩ | ⟨hk,c1,hc1,hc2⟩
    .have hk:X.env.scope.names.lookup y=some .local:=hk
     rcases hok with z | z <;> (rw[hk]at z;cases z)
    .obtain⟨c',hc'⟩:=hhas y hfm
     have:c'=c1:=HN ((hcl hc').symm.trans hc1)
     subst this
     exact .inr ⟨.inr hfr,c',hc',hc2.keeps old⟩
  .obtain⟨w,z⟩:=I.cell y c' (hcl e)
   exact⟨w,z.keeps old⟩
  .show(bF v cap σ).length=N.length
   unfold bF
   rw[HZ,Hz,L.len,Nat.add_comm]
 refine kla_codeExpr (Jp (he s H [] _ _ _ _ IY h) (λuv s' hs=>?_) λe s' hs=>hs.elim)
 obtain⟨w,H',J,rw',qw⟩:=hs
 exact⟨w,H',I.call' (ch:=[]) J.os J.base J.hok J.bare (λb hb=>nomatch hb),rw',qw⟩
end
end
section
def ie:V->Int
 | .int i=>i
 | .bl b=>if b then 1 else 0
 | _=>0
def eO (ks:List V):Prop:=(∀k∈ks,∃i,k=V.int i)\/∀k∈ks,∃b,k=V.bl b
def S9 (ks:List V)(i:Nat):Int:=ie (ks.getD i .non)
def eF (ks xs ys:List V):Prop:=ys.length=xs.length/\∃p,SoS (S9 ks) p xs.length/\∀i,i<xs.length->ys[i]? = xs[p i]?
theorem T2:∀{vs:List Value},(∀v∈vs,∃b,v = .bool b)->vs.mapM firstOfTuple'=pure (vs.map λ_=>none)
 | [],_=>by simp
 | v::vs,h=>by
  obtain⟨b,rfl⟩:=h v HV
  rw[JK,show firstOfTuple' (.bool b)=pure none from rfl,T2 λw hw=>h w (HA _ hw)];simp
theorem R1:∀{vs:List Value},(∀v∈vs,∃b,v = .bool b)->vs.mapM typeOf=pure (vs.map λ_=>Value.type "bool")
 | [],_=>by simp
 | v::vs,h=>by
  obtain⟨b,rfl⟩:=h v HV
  rw[JK,R1 λw hw=>h w (HA _ hw)]
  show(pure (Value.type "bool") >>= λb=>pure _ >>= λbs=>pure (b::bs))=_
  simp
theorem ig {v₁ v₂:Value}{vs:List Value}(hI:∀v∈(v₁::v₂::vs),∃b,v = .bool b):keyKind' (v₁::v₂::vs).toArray=pure oneType':=by
 rw[keyKind'_eq,List.mapM_toArray,T2 hI]
 simp only[map_pure,pure_bind]
 rw[HM (by simp),HM (by simp)]
 rw[oneTypeOnly'_eq,List.mapM_toArray,R1 hI]
 simp only[map_pure,pure_bind]
 have hall:((List.map (λ_=>Value.type "bool") (v₁::v₂::vs)).toArray.all λx=>x == Value.type "bool")=true:=by
  simp only[List.all_toArray,List.all_map,Lo]
  intro _ _
  rfl
 have h0:(List.map (λ_=>Value.type "bool") (v₁::v₂::vs)).toArray[0]? = some (Value.type "bool"):=by simp
 rw[h0]
 simp only[hall,Js,pure_bind,KH]
theorem cy:∀{ks:List V} {us:List Value},i5 ks us->(∀k∈ks,∃i,k=V.int i)->IntsAre us (ks.map ie)
 | _,_,.nil,_=>.nil
 | k::ks,u::us,.cons r t,h=>by
  obtain⟨i,rfl⟩:=h k HV
  obtain⟨t',rfl⟩:=r
  exact .cons i t' (cy t λk hk=>h k (HA _ hk))
theorem gv:∀{ks:List V} {us:List Value},i5 ks us->(∀k∈ks,∃b,k=V.bl b)->∀u∈us,∃b,u = .bool b
 | _,_,.nil,_,u,hu=>by simp at hu
 | k::ks,u::us,.cons r t,h,w,hw=>by
  rcases HB.mp hw with rfl | hw
  .obtain⟨b,rfl⟩:=h k HV
   exact⟨b,r⟩
  .exact gv t (λk hk=>h k (HA _ hk)) w hw
theorem wb {ks:List V}{keys:Array Value}(r:i5 ks keys.toList)(h:eO ks)(h2:2<=keys.size):keyKind' keys=pure oneType':=by
 obtain⟨v₁,v₂,rest,e⟩:∃v₁ v₂ rest,keys.toList=v₁::v₂::rest:=by
  have hl:2<=keys.toList.length:=by rw[Jx];exact h2
  cases q:keys.toList with
  | nil=>rw[q]at hl;simp at hl
  | cons v₁ r =>
   cases r with
   | nil=>rw[q]at hl;simp at hl
   | cons v₂ rest=>exact⟨v₁,v₂,rest,rfl⟩
 have ek:keys=(v₁::v₂::rest).toArray:=by rw[<-e,Array.toArray_toList]
 rw[e]at r
 rw[ek]
 rcases h with h | h
 .exact keyKind_ints (cy r h)
 .exact ig (gv r h)
theorem Bn {prog:Program}{w:World}{A:Around}{s:Shared}{ks:List V}{keys:Array Value}{its:List Value}(r:i5 ks keys.toList)(h:eO ks):hV prog w A s oneType' (keys.zip its.toArray) (S9 ks):=by
 have one:∀(i:Nat) (x:Keyed),(keys.zip its.toArray)[i]? = some x->∃k,ks[i]? = some k/\l6 k x.1:=λi x e=>by
  rw[<-IR,ksk_zip,JM]at e
  cases q:ks[i]? with
  | none =>
   rw[r.none_of q]at e;exact absurd e.1 (by simp)
  | some k =>
   obtain⟨u,h1,h2⟩:=r.get q
   rw[h1]at e
   exact⟨k,rfl,by rw[<-HN e.1];exact h2⟩
 intro i j x y _ ex ey E Q hq
 rw[keyLt'_oneType]
 obtain⟨k1,a1,r1⟩:=one i x ex
 obtain⟨k2,a2,r2⟩:=one j y ey
 have n1:S9 ks i=ie k1:=by unfold S9;rw[HJ,a1];rfl
 have n2:S9 ks j=ie k2:=by unfold S9;rw[HJ,a2];rfl
 rw[n1,n2]at hq
 obtain⟨x1,x2⟩:=x
 obtain⟨y1,y2⟩:=y
 rcases h with h | h
 .obtain⟨m,rfl⟩:=h k1 (Iy a1)
  obtain⟨n,rfl⟩:=h k2 (Iy a2)
  obtain⟨t,e⟩:=r1
  obtain⟨t',e'⟩:=r2
  dsimp only at e e'
  subst e;subst e'
  exact oneLt_int hq
 .obtain⟨m,rfl⟩:=h k1 (Iy a1)
  obtain⟨n,rfl⟩:=h k2 (Iy a2)
  have e:x1 = .bool m:=r1
  have e':y1 = .bool n:=r2
  subst e;subst e'
  exact nc hq
section
variable {X:Cx}{pins:List (Addr×Obj)}{σ:St}{H:Hp}{s:Shared}
def New (X:Cx)(pins:List (Addr×Obj))(b:Addr):Prop:=X.s₀.heap.objs.size<=b/\b≠X.env.locals/\(∀x c,X.env.cells.lookup x=some c->c≠b)/\(∀p∈X.pn++pins,p.1≠b)/\b ∉ X.fs
theorem Inv.new {b:Addr}(I:Inv X pins σ H s)(h:s.heap.objs.size<=b):New X pins b:=by
 have ne:∀{c:Addr} {o:Obj},s.heap.get? c=some o->c≠b:=λe z=>absurd (Ie (HU e) h) (by rw[z];exact Jl _)
 refine⟨Im I.sz h,λz=>absurd (Ie I.lt h) (by rw[z];exact Jl _),λx c e=>?_,λp hp=>ne (I.pin p hp).1,I.nofs h⟩
 obtain⟨v,o,ho,_⟩:=I.cell x c e
 exact ne ho
theorem Inv.turn1 {b:Addr}{h':Heap}{t':Nat}(I:Inv X pins σ H s)(hb:New X pins b)(hn:H b=none)(k:∀c o,c≠b->s.heap.get? c=some o->h'.get? c=some o):Inv X pins σ H { s with heap:=h',toks:=t' } :=
 I.turned k hn hb.2.1 (.inr hb.1) hb.2.2.1 hb.2.2.2.1
theorem Inv.relay {a k:Addr}{ys:List V}{us:List Value}{n:Nat}{h':Heap}{t':Nat}(I:Inv X pins σ H s)(ha:New X pins a)(hk:New X pins k)(Ha:H a=none)(Hk:H k=none)
  (hs:∀c o,c≠a->c≠k->s.heap.get? c=some o->h'.get? c=some o) (hth:∃o,h'.get? k=some o) (hz:ys.length<=sizeLine) (r:i5 ys us) (ho:h'.get? a=some { cls:=.type "list",data:=.seq us.toArray n }) :
  Inv X pins σ (upd H a (.lst ys)) { s with heap:=h',toks:=t' }:=by
 have nin:∀{b:Addr},b ∉ [a,k]->b≠a/\b≠k:=λhb=>⟨λz=>hb (by simp[z]),λz=>hb (by simp[z])⟩
 have nu:∀{b:Addr} {u:HO},H b=some u->b≠a/\b≠k:=λe=>⟨λz=>(by rw[z,Ha]at e;cases e),λz=>(by rw[z,Hk]at e;cases e)⟩
 refine I.step (g':=s.gens) (d':=s.drawn) (ch:=[a,k]) (λb hb=>?_) (λb o _ _ hc e _=>hs b o (nin hc).1 (nin hc).2 e) (λb o _ _ hc e _=>⟨o.slots,hs b o (nin hc).1 (nin hc).2 e⟩) (λb o hc _ n=>by rw[a8 (nin hc).1];exact n)
  (λb o hc e=>⟨o,hs b o (nin hc).1 (nin hc).2 e⟩) (λb xs e=>by rw[a8 (nu e).1];exact e) (λb o u e=>by rw[a8 (nu e).1];exact e) (λb ps e=>⟨#[],by rw[a8 (nu e).1,e];simp⟩) (λm hm=>?_) (λb u e=>?_) I.bare
 .have hb':b=a\/b=k:=by simpa using hb
  rcases hb' with rfl | rfl
  .exact⟨.inr ha.1,ha.2.1,ha.2.2.1,ha.2.2.2.1⟩
  .exact⟨.inr hk.1,hk.2.1,hk.2.2.1,hk.2.2.2.1⟩
 .obtain⟨o,es,ep,ho',r'⟩:=hm
  exact⟨o,es,ep,hs _ o ha.2.1.symm hk.2.1.symm ho',r'⟩
 .by_cases hb:b=a
  .subst hb
   rw[b8]at e;cases e
   exact⟨hz,us,n,r,ho⟩
  .rw[a8 hb]at e
   refine(I.hok b u e).stay (λc v hc q=>?_) (λc q=>by rw[a8 (nu q).1];exact q) λc xs q=>by rw[a8 (nu q).1];exact q
   rcases hc with rfl | z
   .exact hs c v (nu e).1 (nu e).2 q
   .exact hs c v (nu z).1 (nu z).2 q
end
end
section
theorem atl {α:Type}(a:Array α):a.toList.length=a.size:=Jx
section
variable {X:Cx}{pins:List (Addr×Obj)}{σ:St}{H:Hp}{s:Shared}{Y:Around}{E:Value->Shared->Prop}{P:PySem.Fin->Shared->Prop}{a kS:Addr}{xs ks:List V}{its:List Value}{e1:Nat}
theorem pE {keys:Array Value}{e:Nat}{st:SortSt}{p:Nat->Nat}(I:Inv X ((kS,seqObj "list" keys e)::(a,seqObj "list" #[] e1)::pins) σ H s)(ha:New X pins a)(hk:New X pins kS)(hka:kS≠a)
  (rx:i5 xs its) (hkl:keys.size<=64) (h64:its.length<64) (hfl:failedOf st=none) (hsz:(arrOf st).size=its.length) (hp:∀i,i<its.length->(arrOf st)[i]? = (keys.zip its.toArray)[p i]?) (hS:SoS (S9 ks) p its.length) (hke:keys.size=its.length)
  (h:∀s' ys,eF ks xs ys->Inv X pins σ (upd H a (.lst ys)) s'->P (.done (.ret .none)) s') :
  wpAny (model X.prog X.w) Y (ksk_tail a false e1 (.ref kS) st) P E s:=by
 obtain⟨nk,Hk,_⟩:=I.pin (kS,seqObj "list" keys e) (HW _ (.head _))
 obtain⟨na,Ha,_⟩:=I.pin (a,seqObj "list" #[] e1) (HW _ (.tail _ (.head _)))
 have I0:Inv X pins σ H s:=I.pins_of λp hp=>I.pin p (HW _ (.tail _ (.tail _ hp)))
 have s1:=JH s.heap kS (Obj.mapSeq λ_=>(#[]:Array Value))
 have na1:(s.heap.update kS (Obj.mapSeq λ_=>(#[]:Array Value))).get? a=some (seqObj "list" #[] e1):=(s1.2 a hka.symm).trans na
 have s2:=JH (s.heap.update kS (Obj.mapSeq λ_=>(#[]:Array Value))) a (Obj.mapSeq λ_=>(arrOf st).map (·.2))
 obtain⟨c2,hc2⟩:∃c2,((s.heap.update kS (Obj.mapSeq λ_=>(#[]:Array Value))).update a (Obj.mapSeq λ_=>(arrOf st).map (·.2))).get? a=some (seqObj "list" ((arrOf st).map (·.2)) c2) :=
  ⟨_,KC na1 λ_=>(arrOf st).map (·.2)⟩
 have hout:((arrOf st).map (·.2)).size=its.length:=by rw[LI];exact hsz
 unfold ksk_tail
 try dsimp only
 refine Hy (Ki nk rfl ?_ (by rw[Io];omega) (IG _))
 refine Hy (wpAny_letGo ?_)
 refine Hy (seqEpoch_at na1 rfl ?_)
 refine Hy (Ki na1 rfl ?_ (IG _) (by rw[HM Ia,hout,Io];omega))
 rw[hfl]
 simp only[LY,ID,Ji]
 have xl:xs.length=its.length:=rx.length
 have outv:∀i,i<its.length->((arrOf st).map (·.2)).toList[i]? = its[p i]?:=λi hi=>by
  rw[IR,Array.getElem?_map,hp i hi,<-IR,ksk_zip]
  have hpi:=hS.2.2 i hi
  have e1:its[p i]? = some (its[p i]):=HD hpi
  have e2:keys.toList[p i]? = some (keys.toList[p i]'(by rw[atl keys,hke];exact hpi)):=HD _
  rw[show(keys.toList.zip its)[p i]? = some (keys.toList[p i]'(by rw[atl keys,hke];exact hpi),its[p i]) from JM.mpr ⟨e2,e1⟩,e1]
  rfl
 have ysl:((List.range its.length).map λi=>xs.getD (p i) .non).length=its.length:=by rw[Hz,Ih]
 have ysg:∀i,i<its.length->((List.range its.length).map λi=>xs.getD (p i) .non)[i]? = xs[p i]?:=λi hi=>by
  rw[HP,Kf hi]
  have hpi:=hS.2.2 i hi
  show some (xs.getD (p i) .non)=_
  rw[HJ,HD (by omega)]
  rfl
 refine HS (h _ ((List.range its.length).map λi=>xs.getD (p i) .non) ⟨by rw[ysl,xl],p,by rw[xl];exact hS,λi hi=>ysg i (by omega)⟩ (I0.relay (k:=kS) (n:=c2) ha hk Ha Hk (λc o h1 h2 e=>(s2.2 c h1).trans ((s1.2 c h2).trans e)) ?_ (by rw[ysl,Io];omega)
  (us:=((arrOf st).map (·.2)).toList) ?_ (by rw[hc2])))
 .obtain⟨c3,hc3⟩:∃c3,(s.heap.update kS (Obj.mapSeq λ_=>(#[]:Array Value))).get? kS=some (seqObj "list" #[] c3):=⟨_,KC nk λ_=>(#[]:Array Value)⟩
  exact⟨_,(s2.2 kS hka).trans hc3⟩
 .refine R5 (by rw[ysl,atl ((arrOf st).map (·.2)),hout]) λi x u hx hu=>?_
  have hi:i<its.length:=by
   have:=(HG.mp hx).1
   rwa [ysl]at this
  rw[ysg i hi]at hx
  rw[outv i hi]at hu
  obtain⟨u',h1,h2⟩:=rx.get hx
  rw[h1]at hu
  rw[<-HN hu]
  exact h2
theorem Bm {keys:Array Value}{e:Nat}(I:Inv X ((kS,seqObj "list" keys e)::(a,seqObj "list" #[] e1)::pins) σ H s)(ha:New X pins a)(hk:New X pins kS)(hka:kS≠a)
  (rx:i5 xs its) (rk:i5 ks keys.toList) (hl:ks.length=xs.length) (hko:eO ks) (h64:its.length<64)
  (h:∀s' ys,eF ks xs ys->Inv X pins σ (upd H a (.lst ys)) s'->P (.done (.ret .none)) s') :
  wpAny (model X.prog X.w) Y (ksk_end a false its.toArray e1 (.ref kS) keys) P E s:=by
 have xl:xs.length=its.length:=rx.length
 have hke:keys.size=its.length:=by
  have:=rk.length
  rw[atl keys]at this
  omega
 have hzs:(keys.zip its.toArray).size=its.length:=by rw[Array.size_zip,hke,HQ,Nat.min_self]
 unfold ksk_end
 simp only[ID,Ji]
 by_cases h2:its.toArray.size<2
 .rw[HH h2,HH h2]
  refine Hy (HS ?_)
  rw[StateT.run_pure]
  refine Hy (HS ?_)
  try dsimp only
  rw[HQ]at h2
  refine pE (st:=SortSt.mk' general' (keys.zip its.toArray) #[] 7 none) (p:=id) I ha hk hka rx (by omega) h64 rfl hzs (λi _=>rfl) ⟨λi j h1 h3=>by omega,λi _=>rfl,λi hi=>hi⟩ hke h
 .rw[HM h2,HM h2]
  rw[HQ]at h2
  rw[wb rk hko (by omega)]
  refine Hy (HS ?_)
  refine Hy (Jp (pW (a0:=keys.zip its.toArray) (κ:=S9 ks) (st:=SortSt.mk' oneType' (keys.zip its.toArray) #[] 7 none)
   (Q:=λ_ st'=>failedOf st'=none/\(arrOf st').size=(keys.zip its.toArray).size/\∃p,(∀i,i<(keys.zip its.toArray).size->(arrOf st')[i]? = (keys.zip its.toArray)[p i]?)/\SoS (S9 ks) p (keys.zip its.toArray).size)
   (Bn rk hko) ⟨⟨rfl,rfl,rfl,rfl⟩,λi j _ _ e=>e,λi _=>rfl,λi hi=>hi⟩ (by rw[hzs];omega) (by rw[hzs];exact h64) λst' a1 a2 a3=>⟨a1,a2,a3⟩) ?_ λ_ _ e=>e)
  rintro ⟨⟨⟩,st'⟩ s' ⟨rfl,hf,hsz,p,hp,hS⟩
  try dsimp only
  rw[hzs]at hsz hp hS
  exact pE I ha hk hka rx (by omega) h64 hf hsz hp hS hke h
theorem wm {f:Addr}{J:Nat->Hp->Prop}(I:Inv X ((kS,seqObj "list" #[] 0)::(a,seqObj "list" #[] e1)::pins) σ H s)(ha:New X pins a)(hk:New X pins kS)(hka:kS≠a)
  (rx:i5 xs its) (hl:ks.length=xs.length) (hko:eO ks) (h64:its.length<64) (j0:J 0 H)
  (turn:∀(i:Nat) (v:V) (u:Value) (pn:List (Addr×Obj)) (H':Hp) (s':Shared),xs[i]? = some v->l6 v u->J i H'->Inv X (pn++pins) σ H' s' ->
   wpAny (model X.prog X.w) Y (call (.ref f) [u]) (EP X (pn++pins) σ λk H2=>ks[i]? = some k/\J (i+1) H2) (λ_ _=>False) s')
  (h:∀s' H' ys,J xs.length H'->H' a=none->eF ks xs ys->Inv X pins σ (upd H' a (.lst ys)) s'->P (.done (.ret .none)) s') :
  wpAny (model X.prog X.w) Y (ksk_rest a (.ref f) false its.toArray e1 (.ref kS)) P E s:=by
 have xl:xs.length=its.length:=rx.length
 have hk2:New X ((a,seqObj "list" #[] e1)::pins) kS:=⟨hk.1,hk.2.1,hk.2.2.1,λp hp=>by
  rcases HC.mp hp with z | z
  .exact hk.2.2.2.1 p (Lq _ z)
  .rcases HB.mp z with rfl | z
   .exact hka.symm
   .exact hk.2.2.2.1 p (HW _ z),hk.2.2.2.2⟩
 unfold ksk_rest
 refine Hy (KQ ?_)
 first
  | rw[List.forIn_toArray]
  | (rw[<-Array.forIn_toList];simp only[List.toList_toArray])
  | rw[<-Array.forIn_toList]
 refine Hy (ksk_fold (λi s'=>∃H' kA e,Inv X ((kS,seqObj "list" kA e)::(a,seqObj "list" #[] e1)::pins) σ H' s'/\J i H'/\i5 (ks.take i) kA.toList) its 0 s ⟨H,#[],0,I,j0,by simpa using Paired.nil⟩ ?step ?done)
 case step =>
  rintro j x s' hx ⟨H',kA,e,I',hJ,hv⟩
  simp only[IB]at hJ hv ⊢
  have hj:j<its.length:=(HG.mp hx).1
  obtain⟨v,hxv⟩:∃v,xs[j]? = some v:=⟨_,HD (by omega)⟩
  obtain⟨u,hu,ru⟩:=rx.get hxv
  rw[hx]at hu
  cases hu
  have hz:kA.size<=its.length:=by
   have h1:=hv.length
   rw[atl kA,IH]at h1
   omega
  refine Hy (wpAny_attempt (Jp (turn j v x [(kS,seqObj "list" kA e),(a,seqObj "list" #[] e1)] H' s' hxv ru hJ I') (λkv s'' he=>?_) λ_ _ hF=>hF.elim))
  obtain⟨kk,H2,I2,rk,hkk,hJ2⟩:=he
  try dsimp only
  obtain⟨nk,Hk,_⟩:=I2.pin (kS,seqObj "list" kA e) (HW _ (.head _))
  have I3:Inv X ((a,seqObj "list" #[] e1)::pins) σ H2 s'':=I2.pins_of λp hp=>I2.pin p (HW _ (.tail _ hp))
  have s1:=JH s''.heap kS (Obj.mapSeq (·.push kv))
  obtain⟨c2,hc2⟩:∃c2,(s''.heap.update kS (Obj.mapSeq (·.push kv))).get? kS=some (seqObj "list" (kA.push kv) c2):=⟨_,KC nk (·.push kv)⟩
  refine Hy (Ki nk rfl ?_ (by rw[Io];omega) (Im (Nat.le_of_eq (Array.size_push ..)) (by rw[Io];omega)))
  have I4:=I3.turn1 (h':=s''.heap.update kS (Obj.mapSeq (·.push kv))) (t':=s''.toks) hk2 Hk λc o hc e=>(s1.2 c hc).trans e
  have ek:ks.take (j+1)=ks.take j++[kk]:=by rw[Kr,hkk];simp
  have ea:(kA.push kv).toList=kA.toList++[kv]:=by simp
  exact HS ⟨rfl,H2,kA.push kv,c2,I4.pin1 hc2 Hk hk.2.1 hk.2.2.2.2 (λv e=>nomatch e),hJ2,by rw[ea,ek];exact hv.append (.cons rk .nil)⟩
 case done =>
  rintro s' ⟨H',kA,e,I',hJ,hv⟩
  have e3:ks.take (0+its.length)=ks:=IV (by omega)
  rw[e3]at hv
  rw[IB,<-xl]at hJ
  obtain⟨nk,Hk,_⟩:=I'.pin (kS,seqObj "list" kA e) (HW _ (.head _))
  obtain⟨_,Ha,_⟩:=I'.pin (a,seqObj "list" #[] e1) (HW _ (.tail _ (.head _)))
  try dsimp only
  refine Hy (listItems_at nk rfl ?_)
  exact Bm I' ha hk hka rx hv hl hko h64 λs2 ys o J2=>h s2 H' ys hJ Ha o J2
end
end
section
section
variable {X:Cx}{pins:List (Addr×Obj)}{σ:St}{H:Hp}{s:Shared}{Y:Around}{E:Value->Shared->Prop}{P:PySem.Fin->Shared->Prop}{a:Addr}{xs ks:List V}{its:List Value}
theorem xp {f:Addr}{n:Nat}{J:Nat->Hp->Prop}(I:Inv X pins σ H s)(ho:s.heap.get? a=some (seqObj "list" its.toArray n))(ha:New X pins a)(Ha:H a=none)
  (rx:i5 xs its) (hl:ks.length=xs.length) (hko:eO ks) (h64:its.length<64) (j0:J 0 H)
  (turn:∀(i:Nat) (v:V) (u:Value) (pn:List (Addr×Obj)) (H':Hp) (s':Shared),xs[i]? = some v->l6 v u->J i H'->Inv X (pn++pins) σ H' s' ->
   wpAny (model X.prog X.w) Y (call (.ref f) [u]) (EP X (pn++pins) σ λk H2=>ks[i]? = some k/\J (i+1) H2) (λ_ _=>False) s')
  (h:∀s' H' ys,J xs.length H'->H' a=none->eF ks xs ys->Inv X pins σ (upd H' a (.lst ys)) s'->P (.done (.ret .none)) s') :
  wpAny (model X.prog X.w) Y (ksk_tree a (.ref f) false) P E s:=by
 have hlt:a<s.heap.objs.size:=HU ho
 have s1:=JH s.heap a (Obj.mapSeq λ_=>(#[]:Array Value))
 obtain⟨e1,ho1⟩:∃e1,(s.heap.update a (Obj.mapSeq λ_=>(#[]:Array Value))).get? a=some (seqObj "list" #[] e1):=⟨_,KC ho λ_=>#[]⟩
 have hkS:((s.heap.update a (Obj.mapSeq λ_=>(#[]:Array Value))).push (seqObj "tuple" its.toArray 0)).objs.size=s.heap.objs.size+1:=by rw[size_push',Ku]
 have hz:s.heap.objs.size<=((s.heap.update a (Obj.mapSeq λ_=>(#[]:Array Value))).push (seqObj "tuple" its.toArray 0)).objs.size:=by rw[hkS];exact Kb _
 unfold ksk_tree
 refine Hy (listItems_at ho rfl ?_)
 refine Hy (Ki ho rfl ?_ (by rw[HQ,Io];omega) (IG _))
 refine Hy (seqEpoch_at ho1 rfl ?_)
 refine Hy (wpAny_newTuple ?_ (by show its.length<=_;rw[Io];omega))
 refine Hy (LU ?_ (IG _))
 refine Ja ?_
 have I1:Inv X pins σ H { s with heap:=((s.heap.update a (Obj.mapSeq λ_=>(#[]:Array Value))).push (seqObj "tuple" its.toArray 0)).push (seqObj "list" #[] 0),toks:=s.toks } :=
  I.turn1 ha Ha λc o hc e=>HI _ (HI _ ((s1.2 c hc).trans e))
 have hk:=I.new hz
 have Hk:=I.hok.fresh hz
 have hka:((s.heap.update a (Obj.mapSeq λ_=>(#[]:Array Value))).push (seqObj "tuple" its.toArray 0)).objs.size≠a:=by rw[hkS];exact Ma (JP hlt)
 have I2:=I1.pin1 (a:=a) (o:=seqObj "list" #[] e1) (HI _ (HI _ ho1)) Ha ha.2.1 ha.2.2.2.2 (λv e=>nomatch e)
 have I3:=I2.pin1 (a:=((s.heap.update a (Obj.mapSeq λ_=>(#[]:Array Value))).push (seqObj "tuple" its.toArray 0)).objs.size) (o:=seqObj "list" #[] 0) (Ii _ rfl) Hk hk.2.1 hk.2.2.2.2 (λv e=>nomatch e)
 exact wm I3 ha hk hka rx hl hko h64 j0 turn h
theorem qF {l f:Addr}{J:Nat->Hp->Prop}{Q:Value->Shared->Prop}(I:Inv X pins σ H s)(hl':s.heap.IsList l its.toArray)
  (rx:i5 xs its) (hl:ks.length=xs.length) (hko:eO ks) (h64:its.length<64) (j0:J 0 H)
  (turn:∀(i:Nat) (v:V) (u:Value) (pn:List (Addr×Obj)) (H':Hp) (s':Shared),xs[i]? = some v->l6 v u->J i H'->Inv X (pn++pins) σ H' s' ->
   wpAny (model X.prog X.w) X.A.in1.in1 (call (.ref f) [u]) (EP X (pn++pins) σ λk H2=>ks[i]? = some k/\J (i+1) H2) (λ_ _=>False) s')
  (h:∀a s' H' ys,J xs.length H'->H' a=none->eF ks xs ys->Inv X pins σ (upd H' a (.lst ys)) s'->Q (.ref a) s') :
  wpAny (model X.prog X.w) X.A (call (.builtin "sorted") [.ref l] [(Str.ofString "key",.ref f)]) Q E s:=by
 refine call_function_entry_kw kind_sorted plain_sorted entry_sorted (ksk_s1 _ _) ?_
 unfold Builtin.«sorted»
 refine Hy (m:=checkCount "sorted" 1 1 _) (HS ?_)
 refine Hy (collect_list hl' ?_ (by rw[Io];omega))
 refine Hy (LU ?_ (by rw[Io];omega))
 have hsz:((s.heap.push (seqObj "list" #[] 0)).update s.heap.objs.size (Obj.mapSeq (· ++ its.toArray))).objs.size=s.heap.objs.size+1:=by
  rw[Ku,size_push']
 have hoL:(((s.heap.push (seqObj "list" #[] 0)).update s.heap.objs.size (Obj.mapSeq (· ++ its.toArray))).push (seqObj "list" its.toArray 0)).get? (s.heap.objs.size+1)=some (seqObj "list" its.toArray 0):=by
  rw[<-hsz];exact Ii _ rfl
 have keep:∀b o,s.heap.get? b=some o->(((s.heap.push (seqObj "list" #[] 0)).update s.heap.objs.size (Obj.mapSeq (· ++ its.toArray))).push (seqObj "list" its.toArray 0)).get? b=some o:=λb o q=>by
  have hlt:b<s.heap.objs.size:=HU q
  rw[JZ _ _ _ (by rw[hsz];exact Ic (JP hlt)),Heap.get?_update_ne _ _ _ _ (Ic hlt),JZ _ _ _ (Ic hlt)]
  exact q
 show wpAny _ _ _ _ _ { s with heap:=((s.heap.push (seqObj "list" #[] 0)).update s.heap.objs.size (Obj.mapSeq (· ++ its.toArray))).push (seqObj "list" its.toArray 0) }
 rw[hsz]
 refine Hy (Ja (wpAny_call_entry_kw slot_list_sort ⟨_,hoL,rfl⟩ entry_list_sort ?body (ksk_l1 _ _)))
 case body =>
  have ht':=ksk_t1 f (s.heap.objs.size+1)
  show wpAny (model X.prog X.w) X.A.in1.in1 (Builtin.«list.sort» ⟨[.ref (s.heap.objs.size+1)],[(Str.ofString "key",.ref f)]⟩) _ _ _
  rw[ht']
  have I1:Inv X pins σ H { s with heap:=((s.heap.push (seqObj "list" #[] 0)).update s.heap.objs.size (Obj.mapSeq (· ++ its.toArray))).push (seqObj "list" its.toArray 0),toks:=s.toks }:=I.kept keep
  refine xp I1 hoL (I.new (Kb _)) (I.hok.fresh (Kb _)) rx hl hko h64 j0 turn λs' H' ys hJ Ha o I'=>⟨_,rfl,?_⟩
  exact HS ⟨_,rfl,h _ s' H' ys hJ Ha o I'⟩
end
end
section
def tSK (K:Frag)(P:Addr)(q:Str)(cap:List Nat)(ta:TA)(te:TE):TE:=λσ H Q=>ta σ H λvs H1=>∃l xs,vs=[.ref l]/\SqL K H1 l xs/\xs.length<64/\jl H1 P q /\
 ∀H2,zU P q H1 H2->jl H2 P q->∀c,H2 c=some (cdO c q)->∃(J:Nat->Hp->Prop) (ks:List V),ks.length=xs.length/\eO ks/\SqL K H2 l xs/\J 0 H2/\(∀i H',J i H'->H' c=some (cdO c q)) /\
  (∀i v H',xs[i]? = some v->J i H'->te (bF v cap σ) H' λk H3=>ks[i]? = some k/\J (i+1) H3) /\
  ∀a H' ys,J xs.length H'->H' a=none->eF ks xs ys->Q (.ref a) (upd H' a (.lst ys))
theorem xT {M:Model}{A:Around}{E:Value->Shared->Prop}{s:Shared}{env:Env}{x:Str}{p pos:Pos}{args:List Expr}{kws:List Keyword}{Q:Value->Shared->Prop}
  (h:wpAny M A (eval (.Name x p) env) (λf s₁=>wpAny M A (callWith pos f [] (backTo pos (starEach args env)) (backToKw pos (keywordEach kws env))) Q E s₁) E s):wpAny M A (eval (.Call (.Name x p) args kws pos) env) Q E s:=by
 rw[show eval (.Call (.Name x p) args kws pos) env=(do callWith pos (<-eval (.Name x p) env) [] (backTo pos (starEach args env)) (backToKw pos (keywordEach kws env))) from rfl]
 exact Hy h
theorem Bp {X:Cx}{e:Expr}{params:Arguments}{body:Expr}{scope osc:Scope}{p pos lpos kp:Pos}{c P:Addr}{q x:Str}{N:List Str}{cap:List Nat}{ta:TA}{te:TE}{k:Nat}
  (hg:Gl X "sorted") (hm:X.mg "sorted" = none) (hr:Room k X.A) (hc:X.calm=true) (ha:PA X [e] ta) (hdef:defaultsOf params X.env=([],[])) (hosc:X.env.scope=osc) (L:LamOk X.N osc x N cap scope)
  (hcode:X.env.code = .ref c) (C:CodeHd X.base c P) (BM:BMd X.base X.mg) (hq:X.env.qual ++ "<lambda>" = q)
  (hbind:∀(cl:List (Str×Addr)) (pm:Value) (c':Addr) (ctv u:Value),bindArgs (kla_fn "<lambda>" q params body scope cl pm (.ref c') ctv) ⟨[u],[]⟩=pure [(x,u)])
  (he:∀cl f c' Y s H,PE (cxL X N q scope cl f c' Y s H) body te) (hs:starEach [e] X.env=[(false,eval e X.env)]:=by rfl) :
  PE X (.Call (.Name "sorted" p) [e] [⟨some "key",.Lambda params body scope lpos,kp⟩] pos) (tSK X.K P q cap ta te):=by
 intro pins s σ H Q I h
 have hcell:∀y∈scope.names,y.2 = .free->∃c,X.env.cells.lookup y.1=some c:=λy hy hk=>I.ok.has y.1 (by
  show X.env.scope.names.lookup y.1=_\/X.env.scope.names.lookup y.1=_
  rw[hosc];exact L.free y hy hk)
 let f:Str->Addr:=λx=>(X.env.cells.lookup x).getD 0
 have hf:∀y∈scope.names,y.2 = .free->X.env.cells.lookup y.1=some (f y.1):=λy hy hk=>by
  obtain⟨c,e⟩:=hcell y hy hk
  show _=some ((X.env.cells.lookup y.1).getD 0)
  rw[e];rfl
 have hclos:closureFor scope X.env=pure (F8 f scope.names []):=K5 λy hy hk=>by
  unfold cellOf
  rw[hf y hy hk]
 have hcl:∀{x:Str} {c:Addr},(F8 f scope.names []).lookup x=some c->X.env.cells.lookup x=some c:=λ{x c} e=>by
  rcases O3 _ _ e with ⟨h1,h2⟩ | h1
  .rw[h2];exact hf (x,.free) h1 rfl
  .simp at h1
 have hhas:∀x,(x,NameKind.free)∈scope.names->∃c,(F8 f scope.names []).lookup x=some c:=λx hx=>⟨_,ai _ _ (.inl hx)⟩
 generalize F8 f scope.names []=cl at hclos hcl hhas
 refine xT (Y1 I hg hm (by decide +kernel:bootBuiltins "sorted" = some (.builtin "sorted")) (callWith_kw (kws:=[⟨some "key",.Lambda params body scope lpos,kp⟩]) (thn (ha pos pins s σ H _ I h) λus s1 ⟨vs,H1,I1,r1,q1⟩=>?_) (by rw[hs];rfl) (by rw[hs];rfl)))
 obtain⟨l,xs,e0,hq0,h64,hT,q2⟩:=q1
 subst e0
 obtain⟨u,rfl,ru⟩:=N9 r1
 cases ru
 refine kws_cons (sI I1 hdef hclos hcode C BM hT hq λf c' ctv H2 s2 gr hT2 hc2 I2=>kws_nil ?_)
 obtain⟨J,ks,hlk,hko,hq2,j0,jc,turn,fin⟩:=q2 H2 gr hT2 c' hc2
 obtain⟨its,rv,pl,hz⟩:=I2.list hq2
 have xl:xs.length=its.length:=rv.length
 show wpAny (model X.prog X.w) X.A (call (.builtin "sorted") [.ref l] [(Str.ofString "key",.ref f)]) _ X.xe s2
 refine qF I2 pl.isList rv hlk hko (by omega) j0 (λi v u pn H' s' hx r hJ I'=>?_) λa s' H' ys hJ Ha o I'=>?_
 .exact tO I' I.ok.frames (I.ok.hd hc) (by have:=hr.dp;show X.A.depth<_;omega) (HW _ (HW _ (.head _))) (jc i H' hJ) hosc L hcl hhas (hbind _ _ _ _ _) (λs H=>he _ _ _ _ s H) r (turn i v H' hx hJ)
 .exact⟨.ref a,_,I'.pins_of (λp hp=>I'.pin p (HW _ (.tail _ hp))),rfl,fin a H' ys hJ Ha o⟩
end
section
section
variable {prog:Program}{w:World}{A:Around}{E:Value->Shared->Prop}{s:Shared}
theorem jw {a:Addr}{vs:List Value}{n:Nat}{kd:SortKind}{κ:Nat->Int}{P:PySem.Fin->Shared->Prop}(ho:s.heap.get? a=some (seqObj "list" vs.toArray n))(h64:vs.length<64)
  (hkind:2<=vs.length->∀(h':Heap) (Q:SortKind->Shared->Prop),(∀b o,b≠a->s.heap.get? b=some o->h'.get? b=some o)->Q kd { s with heap:=h' }->wpAny (model prog w) A (keyKind' vs.toArray) Q E { s with heap:=h' })
  (hlt:∀h':Heap,(∀b o,b≠a->s.heap.get? b=some o->h'.get? b=some o)->hV prog w A { s with heap:=h' } kd (pairsOf vs) κ)
  (h:∀(out:Array Value) (p:Nat->Nat),out.size=vs.length->(∀i,i<vs.length->out.toList[i]? = vs[p i]?)->SoS κ p vs.length->P (.done (.ret .none)) { s with heap:=sortedHeap s.heap a vs out }) :
  wpAny (model prog w) A (Builtin.«list.sort» ⟨[.ref a],[]⟩) P E s:=by
 rw[list_sort_plain]
 have ha:a<s.heap.objs.size:=HU ho
 refine Hy (listItems_at ho rfl ?_)
 refine Hy (Ki ho rfl ?_ (by rw[HQ,Io];omega) (IG _))
 obtain⟨e1,ho1⟩:∃e1,(s.heap.update a (Obj.mapSeq λ_=>#[])).get? a=some (seqObj "list" #[] e1):=⟨_,KC ho (λ_=>#[])⟩
 refine Hy (seqEpoch_at ho1 rfl ?_)
 refine Hy (wpAny_newTuple ?_ (by show vs.length<=_;rw[Io];omega))
 refine Hy (LU ?_ (IG _))
 refine Ja ?_
 have ho6:(((s.heap.update a (Obj.mapSeq λ_=>#[])).push (seqObj "tuple" vs.toArray 0)).push (seqObj "list" #[] 0)).get? a=some (seqObj "list" #[] e1):=by
  rw[JZ _ _ _ (by rw[size_push',Ku];exact Ic (JP ha)),JZ _ _ _ (by rw[Ku];exact Ic ha)]
  exact ho1
 have s1:=JH s.heap a (Obj.mapSeq λ_=>(#[]:Array Value))
 have kept:∀b o,b≠a->s.heap.get? b=some o->(((s.heap.update a (Obj.mapSeq λ_=>#[])).push (seqObj "tuple" vs.toArray 0)).push (seqObj "list" #[] 0)).get? b=some o:=λb o hb e=>HI _ (HI _ ((s1.2 b hb).trans e))
 show wpAny (model prog w) A _ P E { s with heap:=((s.heap.update a (Obj.mapSeq λ_=>#[])).push (seqObj "tuple" vs.toArray 0)).push (seqObj "list" #[] 0) }
 dsimp only
 have hsz:vs.toArray.size=vs.length:=by simp
 have fin:∀(st':SortSt) (p:Nat->Nat),(arrOf st').size=vs.length->(∀i,i<vs.length->(arrOf st')[i]? = (pairsOf vs)[p i]?)->SoS κ p vs.length->P (.done (.ret .none)) { s with heap:=sortedHeap s.heap a vs ((arrOf st').map (·.2)) }:=by
  intro st' p hz hp hS
  refine h _ p (by rw[LI];exact hz) (λi hi=>?_) hS
  rw[IR,Array.getElem?_map,hp i hi,<-IR,pairsOf_toList]
  have hpi:=hS.2.2 i hi
  have e1:vs[p i]? = some vs[p i]:=HD hpi
  rw[show(vs.zip vs)[p i]? = some (vs[p i],vs[p i]) from JM.mpr ⟨e1,e1⟩,e1]
  rfl
 by_cases h2:vs.toArray.size<2
 .rw[HH h2,HH h2]
  refine Hy (HS ?_)
  rw[StateT.run_pure]
  refine Hy (HS ?_)
  dsimp only
  refine Hy (seqEpoch_at ho6 rfl ?_)
  refine Hy (Ki ho6 rfl ?_ (hsz2:=by rw[LI];show(pairsOf vs).size<=_;rw[Ly,Io];omega))
  simp only[LY,ID,Ji]
  rw[hsz]at h2
  exact HS (fin (SortSt.mk' general' (vs.toArray.zip vs.toArray) #[] 7 none) id (Ly vs) (λi _=>rfl) ⟨λi j h1 h3=>by omega,λi _=>rfl,λi hi=>hi⟩)
 .rw[HM h2,HM h2]
  rw[hsz]at h2
  refine Hy (hkind (by omega) _ _ kept ?_)
  refine Hy (Jp (pW (a0:=pairsOf vs) (κ:=κ) (kd:=kd) (st:=SortSt.mk' kd (vs.toArray.zip vs.toArray) #[] 7 none)
   (Q:=λ_ st'=>failedOf st'=none/\(arrOf st').size=(pairsOf vs).size/\∃p,(∀i,i<(pairsOf vs).size->(arrOf st')[i]? = (pairsOf vs)[p i]?)/\SoS κ p (pairsOf vs).size)
   (hlt _ kept) ⟨⟨rfl,rfl,rfl,rfl⟩,λi j _ _ e=>e,λi _=>rfl,λi hi=>hi⟩ (by rw[Ly];omega) (by rw[Ly];exact h64) λst' a1 a2 a3=>⟨a1,a2,a3⟩) ?_ λ_ _ e=>e)
  rintro ⟨⟨⟩,st'⟩ s' ⟨rfl,hf,hz,p,hp,hS⟩
  rw[Ly]at hz hp hS
  dsimp only
  refine Hy (seqEpoch_at ho6 rfl ?_)
  refine Hy (Ki ho6 rfl ?_ (hsz2:=by rw[LI,hz,Io];omega))
  rw[hf]
  simp only[LY,ID,Ji]
  exact HS (fin st' p hz hp hS)
theorem sq {l:Addr}{vs:List Value}{kd:SortKind}{κ:Nat->Int}{Q:Value->Shared->Prop}(hl:s.heap.IsList l vs.toArray)(h64:vs.length<64)
  (hkind:2<=vs.length->∀(h':Heap) (Q:SortKind->Shared->Prop),(∀b o,s.heap.get? b=some o->h'.get? b=some o)->Q kd { s with heap:=h' }->wpAny (model prog w) A.in1.in1 (keyKind' vs.toArray) Q E { s with heap:=h' })
  (hlt:∀h':Heap,(∀b o,s.heap.get? b=some o->h'.get? b=some o)->hV prog w A.in1.in1 { s with heap:=h' } kd (pairsOf vs) κ)
  (h:∀(out:Array Value) (p:Nat->Nat),out.size=vs.length->(∀i,i<vs.length->out.toList[i]? = vs[p i]?)->SoS κ p vs.length->Q (.ref (s.heap.objs.size+1)) { s with heap:=sortedAll s.heap vs out }) :
  wpAny (model prog w) A (call (.builtin "sorted") [.ref l]) Q E s:=by
 refine Calls.call_function_entry kind_sorted plain_sorted entry_sorted (args_sorted1 _) ?_
 unfold Builtin.«sorted»
 refine Hy (m:=checkCount "sorted" 1 1 _) (HS ?_)
 refine Hy (collect_list hl ?_ (by rw[Io];omega))
 refine Hy (LU ?_ (by rw[Io];omega))
 have hsz:((s.heap.push (seqObj "list" #[] 0)).update s.heap.objs.size (Obj.mapSeq (· ++ vs.toArray))).objs.size=s.heap.objs.size+1:=by
  rw[Ku,size_push']
 have hoL:(((s.heap.push (seqObj "list" #[] 0)).update s.heap.objs.size (Obj.mapSeq (· ++ vs.toArray))).push (seqObj "list" vs.toArray 0)).get? (s.heap.objs.size+1)=some (seqObj "list" vs.toArray 0):=by
  rw[<-hsz];exact Ii _ rfl
 have keep:∀b o,s.heap.get? b=some o->(((s.heap.push (seqObj "list" #[] 0)).update s.heap.objs.size (Obj.mapSeq (· ++ vs.toArray))).push (seqObj "list" vs.toArray 0)).get? b=some o/\b≠s.heap.objs.size+1:=λb o q=>by
  have hlt:b<s.heap.objs.size:=HU q
  refine⟨?_,Ic (JP hlt)⟩
  rw[JZ _ _ _ (by rw[hsz];exact Ic (JP hlt)),Heap.get?_update_ne _ _ _ _ (Ic hlt),JZ _ _ _ (Ic hlt)]
  exact q
 show wpAny _ _ _ _ _ { s with heap:=((s.heap.push (seqObj "list" #[] 0)).update s.heap.objs.size (Obj.mapSeq (· ++ vs.toArray))).push (seqObj "list" vs.toArray 0) }
 rw[hsz]
 refine Hy (Ja (JR slot_list_sort ⟨_,hoL,rfl⟩ entry_list_sort (jw (s:={ s with heap:=((s.heap.push (seqObj "list" #[] 0)).update s.heap.objs.size (Obj.mapSeq (· ++ vs.toArray))).push (seqObj "list" vs.toArray 0) }) hoL h64
  (λh2 h' Q hk hq=>hkind h2 h' Q (λb o e=>hk b o (keep b o e).2 (keep b o e).1) hq) (λh' hk=>hlt h' λb o e=>hk b o (keep b o e).2 (keep b o e).1) λout p a1 a2 a3=>⟨_,rfl,?_⟩) (args_list_sort _)))
 exact HS ⟨_,rfl,h out p a1 a2 a3⟩
end
def mO (K:Frag)(H:Hp):List Int->List V->Prop
 | [],xs=>xs=[]
 | n::ns,xs=>∃t r ys,xs = .ref t::ys/\SqT K H t (.int n::r)/\mO K H ns ys
theorem mO.len {K:Frag}{H:Hp}:∀{ns:List Int} {xs:List V},mO K H ns xs->xs.length=ns.length
 | [],_,h=>by cases h;rfl
 | n::ns,_,⟨t,r,ys,rfl,_,h⟩=>by simp[mO.len h]
theorem mO.get {K:Frag}{H:Hp}:∀{ns:List Int} {xs:List V} {i:Nat} {n:Int},mO K H ns xs->ns[i]? = some n->∃t r,xs[i]? = some (.ref t)/\SqT K H t (.int n::r)
 | [],_,_,_,_,e=>by simp at e
 | m::ns,_,0,n,⟨t,r,ys,rfl,h1,h⟩,e=>by
  simp at e;subst e;exact⟨t,r,rfl,h1⟩
 | m::ns,_,i+1,n,⟨t,r,ys,rfl,h1,h⟩,e=>by
  obtain⟨t',r',a,b⟩:=h.get (i:=i) (by simpa using e)
  exact⟨t',r',by simpa using a,b⟩
section
variable {X:Cx}{K:Fg}
def AX (K:Frag):List V->Hp->VK->Prop:=λxs H Q=>∃(a:Addr) (zs:List V) (ns:List Int),xs=[.ref a]/\SqL K H a zs/\mO K H ns zs/\ns.Nodup/\ns.length<64 /\
 ∀(p:Addr) (ys:List V),H p=none->eF (ns.map V.int) zs ys->Q (.ref p) (upd H p (.lst ys))
theorem mY (hK:X.K=K):C5 X (.builtin "sorted") (AX K):=by
 subst hK
 intro pins s σ H xs us Q I r h
 obtain⟨a,zs,ns,rfl,hq,hT,hnd,h64,q⟩:=h
 obtain⟨u,rfl,ru⟩:=N9 r
 cases ru
 obtain⟨its,rv,p,hz⟩:=I.list hq
 have hl1:=hT.len
 have hl2:its.length=zs.length:=rv.length.symm
 -- each item: a tuple in the heap with its int in front
 have item:∀(i:Nat) (n:Int),ns[i]? = some n->∃(t:Addr) (o:Obj) (ys:Array Value) (k:Nat) (tk:Tok),its[i]? = some (.ref t)/\s.heap.get? t=some o/\o.cls = .type "tuple" /\ o.data = .seq ys k/\ys[0]? = some (.int n tk):=λi n e=>by
  obtain⟨t,r,e1,e2⟩:=hT.get e
  obtain⟨u,e3,e4⟩:=rv.get e1
  cases e4
  obtain⟨ys,ry,⟨o,ho,hc,k,hd⟩,_⟩:=I.tuple e2
  cases ry with
  | cons r1 r2 =>
   obtain⟨tk,rfl⟩:=r1
   exact⟨t,o,_,k,tk,e3,ho,hc,hd,by simp⟩
 have tups:∀(h':Heap),(∀b o,s.heap.get? b=some o->h'.get? b=some o)->∀(ms:List Int) (vs:List Value),ms.length=vs.length->(∀(i:Nat) (n:Int),ms[i]? = some n->∃(t:Addr) (o:Obj) (ys:Array Value) (k:Nat) (tk:Tok),vs[i]? = some (.ref t)/\s.heap.get? t=some o/\o.cls = .type "tuple" /\ o.data = .seq ys k/\ys[0]? = some (.int n tk)) ->
   ∃fs:List Value,KatTups h' vs fs/\fs.length=vs.length/\∀v∈fs,∃n t,v=Value.int n t:=by
  intro h' hk ms
  induction ms with
  | nil =>
   intro vs hl _
   rw[Jt.mp hl.symm]
   exact⟨[],KatTups.nil,rfl,λv hv=>by simp at hv⟩
  | cons m ms ih =>
   intro vs hl hi
   cases vs with
   | nil=>simp at hl
   | cons v vs =>
    obtain⟨t,o,ys,k,tk,e1,e2,e3,e4,e5⟩:=hi 0 m rfl
    have e1:some v=some (Value.ref t):=e1
    cases e1
    obtain⟨fs,f1,f2,f3⟩:=ih vs (by simpa using hl) λi n e=>by
     obtain⟨t,o,ys,k,tk,g1,g⟩:=hi (i+1) n (by simpa using e)
     exact⟨t,o,ys,k,tk,by simpa using g1,g⟩
    refine⟨.int m tk::fs,KatTups.cons (hk _ _ e2) e3 e4 e5 f1,by simp[f2],λv hv=>?_⟩
    rcases HB.mp hv with rfl | hv
    .exact⟨m,tk,rfl⟩
    .exact f3 v hv
 refine sq (kd:=tuples' true) (κ:=S9 (ns.map V.int)) p.isList (by omega) (λh2 h' Q' hk hQ=>?_) (λh' hk=>?_) λout p' a1 a2 a3=>?_
 .obtain⟨fs,f1,f2,f3⟩:=tups h' hk ns its (by omega) item
  refine kat_kind (T:=.type "int") (s:={ s with heap:=h' }) f1 (by omega) (λv hv=>?_) rfl hQ
  obtain⟨n,t,rfl⟩:=f3 v hv
  exact .now
 .intro i j x y hij ex ey E Q' hQ
  rw[<-IR,pairsOf_toList,JM]at ex ey
  have hi:i<ns.length:=by have:=(HG.mp ex.1).1;omega
  have hj:j<ns.length:=by have:=(HG.mp ey.1).1;omega
  obtain⟨t1,o1,ys1,k1,tk1,b1,b2,b3,b4,b5⟩:=item i ns[i] (HD hi)
  obtain⟨t2,o2,ys2,k2,tk2,c1,c2,c3,c4,c5⟩:=item j ns[j] (HD hj)
  rw[b1]at ex
  rw[c1]at ey
  rw[<-HN ex.1,<-HN ey.1]
  have n1:S9 (ns.map V.int) i=ns[i]:=by
   unfold S9;rw[HJ,HP,HD hi];rfl
  have n2:S9 (ns.map V.int) j=ns[j]:=by
   unfold S9;rw[HJ,HP,HD hj];rfl
  rw[n1,n2]at hQ
  have hne:ns[i]≠ns[j]:=λe=>hij ((List.getElem_inj hnd).mp e)
  refine kat_lt (s:={ s with heap:=h' }) (hk _ _ b2) b4 (hk _ _ c2) c4 ?_
  obtain⟨r1,er1⟩:∃r1,ys1.toList = .int ns[i] tk1::r1:=by
   cases e:ys1.toList with
   | nil=>rw[<-IR,e]at b5;simp at b5
   | cons z r=>rw[<-IR,e]at b5;simp at b5;exact⟨r,by rw[b5]⟩
  obtain⟨r2,er2⟩:∃r2,ys2.toList = .int ns[j] tk2::r2:=by
   cases e:ys2.toList with
   | nil=>rw[<-IR,e]at c5;simp at c5
   | cons z r=>rw[<-IR,e]at c5;simp at c5;exact⟨r,by rw[c5]⟩
  rw[er1,er2,List.zip_cons_cons]
  refine kat_cons (wpAny_eqBool_int ?_)
  have hb:(ns[i] == ns[j])=false:=by simpa using hne
  rw[hb]
  refine kat_no ?_
  exact oneLt_int hQ
 .have hlen:zs.length=its.length:=hl2.symm
  obtain⟨e,he⟩:=sortedAll_at s.heap its out
  have ysl:((List.range its.length).map λi=>zs.getD (p' i) .non).length=its.length:=by rw[Hz,Ih]
  have ysg:∀i,i<its.length->((List.range its.length).map λi=>zs.getD (p' i) .non)[i]? = zs[p' i]?:=λi hi=>by
   rw[HP,Kf hi]
   have hpi:=a3.2.2 i hi
   show some (zs.getD (p' i) .non)=_
   rw[HJ,HD (by omega)]
   rfl
  have I1:Inv X pins σ (upd H (s.heap.objs.size+1) (.lst ((List.range its.length).map λi=>zs.getD (p' i) .non))) { s with heap:=sortedAll s.heap its out,toks:=s.toks } :=
   I.laid (a:=s.heap.objs.size+1) (λb o ho=>sortedAll_old ho) (Kb _) ⟨by rw[ysl,Io];omega,out.toList,e,R5 (by rw[ysl,atl out,a1]) (λi x u hx hu=>by
    have hi:i<its.length:=by
     have:=(HG.mp hx).1
     rwa [ysl]at this
    rw[ysg i hi]at hx
    rw[a2 i hi]at hu
    obtain⟨u',g1,g2⟩:=rv.get hx
    rw[g1]at hu
    rw[<-HN hu]
    exact g2),by rw[he]⟩
  exact⟨.ref (s.heap.objs.size+1),_,I1,rfl,q _ _ (I.hok.fresh (Kb _)) ⟨by rw[ysl,hlen],p',by rw[hlen];exact a3,λi hi=>ysg i (by omega)⟩⟩
end
end
end L2
namespace L2
def V5 {α:Type}(p:Int × α):List (Int × α)->List (Int × α)
 | []=>[p]
 | q::r=>if p.1<=q.1 then p::q::r else q::V5 p r
def p8 {α:Type}:List (Int × α)->List (Int × α)
 | []=>[]
 | p::r=>V5 p (p8 r)
theorem lh {α β:Type}(f:α->β)(p:Int × α):∀l:List (Int × α),V5 (p.1,f p.2) (l.map λq=>(q.1,f q.2))=(V5 p l).map λq=>(q.1,f q.2)
 | []=>rfl
 | q::r=>by
  simp only[HX,V5]
  split
  .rfl
  .rw[HX,lh f p r]
theorem bz {α β:Type}(f:α->β):∀l:List (Int × α),p8 (l.map λq=>(q.1,f q.2))=(p8 l).map λq=>(q.1,f q.2)
 | []=>rfl
 | p::r=>by
  rw[HX,p8,p8,bz f r]
  exact lh f p _
theorem T3 {α:Type}(p:Int × α):∀l:List (Int × α),(V5 p l).Perm (p::l)
 | []=>.refl _
 | q::r=>by
  rw[V5]
  split
  .exact .refl _
  .exact((T3 p r).cons q).trans (.swap p q r)
theorem x6 {α:Type}:∀l:List (Int × α),(p8 l).Perm l
 | []=>.refl _
 | p::r=>(T3 p _).trans ((x6 r).cons p)
def LxP (a b:Int×Nat):Prop:=a.1<b.1\/(a.1=b.1/\a.2<b.2)
theorem pq {p:Int×Nat}:∀{l:List (Int×Nat)},l.Pairwise LxP->(∀q∈l,p.2<q.2)->(V5 p l).Pairwise LxP
 | [],_,_=>by simp[V5]
 | q::r,h,hl=>by
  rw[Iq]at h
  rw[V5]
  split
  .rename_i hle
   refine Iq.mpr ⟨λz hz=>?_,Iq.mpr h⟩
   have h1:LxP p q:=by
    rcases KI hle with e | e
    .exact .inl e
    .exact .inr ⟨e,hl q HV⟩
   rcases HB.mp hz with rfl | hz
   .exact h1
   .have h2:=h.1 z hz
    unfold LxP at h1 h2 ⊢
    omega
  .rename_i hgt
   refine Iq.mpr ⟨λz hz=>?_,pq h.2 λz hz=>hl z (HA _ hz)⟩
   rcases HB.mp ((T3 p r).mem_iff.mp hz) with rfl | hz
   .exact .inl (by omega)
   .exact h.1 z hz
theorem iD:∀{l:List (Int×Nat)},l.Pairwise (λa b=>a.2<b.2)->(p8 l).Pairwise LxP
 | [],_=>.nil
 | p::r,h=>by
  rw[Iq]at h
  exact pq (iD h.2) λq hq=>h.1 q ((x6 r).mem_iff.mp hq)
theorem iR:∀{l₁ l₂:List (Int×Nat)},l₁.Perm l₂->l₁.Pairwise LxP->l₂.Pairwise LxP->l₁=l₂
 | [],l₂,p,_,_=>p.nil_eq
 | a::r,[],p,_,_=>by have:=p.length_eq;simp at this
 | a::r,b::t,p,h1,h2=>by
  rw[Iq]at h1 h2
  have ab:a=b:=by
   rcases HB.mp (p.mem_iff.mp (HV (a:=a) (l:=r))) with e | e
   .exact e
   .rcases HB.mp (p.mem_iff.mpr (HV (a:=b) (l:=t))) with e2 | e2
    .exact e2.symm
    .have q1:=h2.1 a e
     have q2:=h1.1 b e2
     unfold LxP at q1 q2
     omega
  subst ab
  rw[iR (p.cons_inv) h1.2 h2.2]
theorem gq:∀(n:Nat) (l:List Nat),l.Nodup->(∀x∈l,x<n)->l.length=n->l.Perm (List.range n)
 | 0,l,_,_,hl=>by rw[Jt.mp hl];exact .refl _
 | n+1,l,hd,hb,hl=>by
  have short:∀(m:Nat) (l:List Nat),l.Nodup->(∀x∈l,x<m)->l.length<=m:=by
   intro m
   induction m with
   | zero =>
    intro l _ hb
    cases l with
    | nil=>simp
    | cons a r=>exact absurd (hb a HV) (by omega)
   | succ m ih =>
    intro l hd hb
    by_cases hm:m∈l
    .have e:=ih (l.erase m) (hd.erase m) λx hx=>by
      have h1:=hb x (List.mem_of_mem_erase hx)
      have h2:x≠m:=λz=>by subst z;exact(List.Nodup.not_mem_erase hd) hx
      omega
     rw[List.length_erase_of_mem hm]at e
     omega
    .have e:=ih l hd λx hx=>by
      have h1:=hb x hx
      have h2:x≠m:=λz=>hm (z▸hx)
      omega
     omega
  have hn:n∈l:=by
   by_cases hm:n∈l
   .exact hm
   .have e:=short n l hd λx hx=>by
     have h1:=hb x hx
     have h2:x≠n:=λz=>hm (z▸hx)
     omega
    omega
  have ih:=gq n (l.erase n) (hd.erase n) (λx hx=>by
   have h1:=hb x (List.mem_of_mem_erase hx)
   have h2:x≠n:=λz=>by subst z;exact(List.Nodup.not_mem_erase hd) hx
   omega) (by rw[List.length_erase_of_mem hn];omega)
  refine(List.perm_cons_erase hn).trans ((ih.cons n).trans ?_)
  rw[KD]
  exact(List.perm_append_singleton n (List.range n)).symm
theorem mM {ks xs ys:List V}(h:eF ks xs ys)(hl:ks.length=xs.length):ys=(p8 ((ks.map ie).zip xs)).map Prod.snd:=by
 obtain⟨hy,p,hS,hp⟩:=h
 generalize hn:xs.length=n at hy hS hp hl
 have nd:((List.range n).map p).Nodup:=by
  rw[IP,Jc]
  intro i j hi hj hij
  have hj':j<n:=by simpa using hj
  simp only[Me,JV]
  intro e
  have q:=hS.1 i j hij hj'
  rw[e]at q
  unfold Lx at q
  omega
 have pr:=gq n ((List.range n).map p) nd (λx hx=>by
  obtain⟨i,hi,rfl⟩:=Il.mp hx
  exact hS.2.2 i (Ir.mp hi)) (by simp)
 have q1:(((List.range n).map p).map λi=>(S9 ks i,i)).Pairwise LxP:=by
  rw[Jc]
  intro i j hi hj hij
  have hj':j<n:=by simpa using hj
  simp only[Me,JV]
  exact hS.1 i j hij hj'
 have q2:(p8 ((List.range n).map λi=>(S9 ks i,i))).Pairwise LxP:=iD (by
  rw[Jc]
  intro i j hi hj hij
  simpa using hij)
 have e:=iR ((pr.map λi=>(S9 ks i,i)).trans (x6 _).symm) q1 q2
 have ez:(ks.map ie).zip xs=((List.range n).map λi=>(S9 ks i,i)).map λq=>(q.1,xs.getD q.2 .non):=by
  refine Ld λi=>?_
  rw[Ik]
  by_cases hi:i<n
  .have h1:(ks.map ie)[i]? = some (S9 ks i):=by
    rw[HP]
    unfold S9
    rw[HJ,HD (by omega)]
    rfl
   have h2:xs[i]? = some (xs.getD i .non):=by
    rw[HJ,HD (by omega)]
    rfl
   rw[show((ks.map ie).zip xs)[i]? = some (S9 ks i,xs.getD i .non) from JM.mpr ⟨h1,h2⟩,HP,Kf hi]
   rfl
  .rw[Jk (by rw[List.length_zip,Hz];omega),Jk (by simp;omega)]
 rw[ez,bz (λi=>xs.getD i .non),<-e,Ik,Ik,Ik]
 refine Ld λi=>?_
 by_cases hi:i<n
 .rw[hp i hi,HP,Kf hi]
  have hpi:=hS.2.2 i hi
  show xs[p i]? = some (xs.getD (p i) .non)
  rw[HJ,HD (by omega)]
  rfl
 .rw[Jk (by omega),Jk (by simp;omega)]
end L2
namespace L3
open PySem PySem.Spec PyProof.Rows L2
section
abbrev St:=L2.St
def hid (H:Hp)(B:List Addr):Hp:=λb=>if b∈B then none else H b
theorem d7 {H:Hp}{B:List Addr}{b:Addr}(h:b ∉ B):hid H B b=H b:=by unfold hid;rw[HM h]
theorem u7 {H:Hp}{B:List Addr}{b:Addr}(h:b∈B):hid H B b=none:=by unfold hid;rw[HH h]
theorem c7 {H:Hp}{B:List Addr}:d8 (hid H B) H:=λb o e=>by
 by_cases h:b∈B
 .rw[u7 h]at e;cases e
 .rwa [d7 h]at e
theorem G6 {H:Hp}{B B':List Addr}(s:∀b∈B',b∈B):d8 (hid H B) (hid H B'):=λb o e=>by
 by_cases h:b∈B
 .rw[u7 h]at e;cases e
 .rw[d7 h]at e;rw[d7 λz=>h (s b z)];exact e
def Kp (fp:List Addr)(H H':Hp):Prop:=∀b o,H b=some o->b ∉ fp->H' b=some o
theorem Kp.refl {fp:List Addr}{H:Hp}:Kp fp H H:=λ_ _ e _=>e
theorem Kp.trans {fp:List Addr}{H H1 H2:Hp}(a:Kp fp H H1)(b:Kp fp H1 H2):Kp fp H H2:=λc o e n=>b c o (a c o e n) n
theorem Kp.same {fp:List Addr}{H H':Hp}(s:d8 H H'):Kp fp H H':=λb o e _=>s b o e
theorem Kp.upd {fp:List Addr}{H:Hp}{p:Addr}{o:HO}(hp:H p=none):Kp fp H (upd H p o):=Kp.same (d8.upd hp)
theorem Kp.hid {fp B:List Addr}{H H':Hp}(k:Kp fp H H')(s:∀b∈fp,b∈B):d8 (hid H B) (hid H' B):=λb o e=>by
 by_cases h:b∈B
 .rw[u7 h]at e;cases e
 .rw[d7 h]at e ⊢;exact k b o e λz=>h (s b z)
theorem U8 {H:Hp}{B:List Addr}{a:Addr}{o:HO}(h:a∈B):hid (upd H a o) B=hid H B:=by
 funext b
 by_cases hb:b∈B
 .rw[u7 hb,u7 hb]
 .rw[d7 hb,d7 hb,a8];intro e;subst e;exact hb h
def F9 (K:Fg)(fp B:List Addr)(H:Hp):PyData->V->Prop
 | .tuple ds,v=>∃a xs,v = .ref a/\SqT K (hid H B) a xs/\a6 K (hid H B) ds xs
 | .list ds,v=>∃a xs,v = .ref a/\hid H fp a=some (.lst xs)/\a6 K (hid H B) ds xs
 | .none,v=>v = .non
 | .bool b,v=>v = .bl b
 | .int i,v=>v = .int i
 | .str x,v=>v = .str x
 | .dict _,_=>False
section
variable {K:Fg}{fp B:List Addr}{H H':Hp}{d:PyData}{v:V}
theorem aU (h:a7 K (hid H B) d v)(s:∀b∈fp,b∈B):F9 K fp B H d v:=by
 cases d with
 | tuple ds =>
  simp only[a7]at h
  obtain⟨a,xs,e,hq,hd⟩:=h
  exact⟨a,xs,e,hq,hd⟩
 | list ds =>
  simp only[a7]at h
  obtain⟨a,xs,e,hq,hd⟩:=h
  exact⟨a,xs,e,G6 s _ _ hq,hd⟩
 | _=>simpa only[a7,F9] using h
theorem F9.dat (h:F9 K fp B H d v):a7 K H d v:=by
 cases d with
 | tuple ds =>
  obtain⟨a,xs,e,hq,hd⟩:=h
  simp only[a7]
  exact⟨a,xs,e,hq.same c7,hd.same c7⟩
 | list ds =>
  obtain⟨a,xs,e,hq,hd⟩:=h
  simp only[a7]
  exact⟨a,xs,e,c7 _ _ hq,hd.same c7⟩
 | _=>simpa only[a7,F9] using h
theorem F9.step (h:F9 K fp B H d v)(k:Kp fp H H')(s:∀b∈fp,b∈B):F9 K fp B H' d v:=by
 have sm:=k.hid s
 have sf:=k.hid (B:=fp) λ_ z=>z
 cases d with
 | tuple ds =>
  obtain⟨a,xs,e,hq,hd⟩:=h
  exact⟨a,xs,e,hq.same sm,hd.same sm⟩
 | list ds =>
  obtain⟨a,xs,e,hq,hd⟩:=h
  exact⟨a,xs,e,sf _ _ hq,hd.same sm⟩
 | _=>exact h
theorem F9.tup {ds:List PyData}(h:F9 K fp B H (.tuple ds) v):a7 K (hid H B) (.tuple ds) v:=by
 obtain⟨a,xs,e,hq,hd⟩:=h
 simp only[a7]
 exact⟨a,xs,e,hq,hd⟩
def BOk (H:Hp)(B:List Addr):Prop:=∀b∈B,∃o,H b=some o
theorem BOk.nin (h:BOk H B){p:Addr}(hp:H p=none):p ∉ B:=λz=>by
 obtain⟨o,e⟩:=h p z;rw[hp]at e;cases e
theorem O7 {p:Addr}{ds:List PyData}{xs:List V}(bk:BOk H B)(hp:H p=none)(h:a6 K (hid H B) ds xs):a7 K (hid (upd H p (.tup xs)) B) (.tuple ds) (.ref p):=by
 have e:d8 (hid H B) (hid (upd H p (.tup xs)) B):=(Kp.upd (fp:=[]) hp).hid (by simp)
 refine a7.tup ?_ (h.same e)
 rw[d7 (bk.nin hp)];exact b8
theorem K1 {p:Addr}{ds:List PyData}{xs:List V}(bk:BOk H B)(hp:H p=none)(h:a6 K (hid H B) ds xs):a7 K (hid (upd H p (.lst xs)) B) (.list ds) (.ref p):=by
 have e:d8 (hid H B) (hid (upd H p (.lst xs)) B):=(Kp.upd (fp:=[]) hp).hid (by simp)
 refine a7.lst ?_ (h.same e)
 rw[d7 (bk.nin hp)];exact b8
end
def NoT (o:HO):Prop:=(∀ps,o ≠ .tbl ps)/\∀φ,o ≠ .ext φ
class Feeds where
 S:Type
 At:Addr->Addr->Hp->S->Prop
 some1:∀{d c H F},At d c H F->∃o,H d=some o/\NoT o
 some2:∀{d c H F},At d c H F->∃o,H c=some o/\NoT o
 congr:∀{d c H H' F},At d c H F->H' d=H d->H' c=H c->At d c H' F
 lam:List Str
abbrev GF:=Option (Addr×Addr)
def tabsK (l:List Str)(K:Fg):List (Str×Addr×Addr):=l.filterMap λx=>(PySem.W.tabIn K x).map λp=>(x,p)
def kM (x:Str):Str:=x ++ ".<locals>." ++ "<lambda>"
def z9 (ts:List (Str×Addr×Addr))(H:Hp):Prop:=∀t∈ts,jl H t.2.2 (kM t.1)
theorem z9.congr {ts:List (Str×Addr×Addr)}{H H':Hp}(h:z9 ts H)(e:∀b,(b∈ts.map (·.2.2)\/∃φ,H b=some (.ext φ))->H' b=H b):z9 ts H':=λt ht=>by
 obtain⟨ps,h1,h2,h3⟩:=h t ht
 refine⟨ps,(e _ (.inl (Jy ht))).trans h1,h2,λpos cv q=>?_⟩
 obtain⟨c,r1,r2⟩:=h3 pos cv q
 exact⟨c,r1,(e c (.inr ⟨_,r2⟩)).trans r2⟩
theorem z9.but {ts:List (Str×Addr×Addr)}{H H':Hp}{d:Addr}{o0:HO}(h:z9 ts H)(hd:H d=some o0)(hn:NoT o0)(kp:∀b o,H b=some o->b≠d->H' b=some o):z9 ts H':=h.congr λb hb=>by
 obtain⟨o,e,hne⟩:∃o,H b=some o/\b≠d:=by
  rcases hb with hb | ⟨φ,e⟩
  .obtain⟨t,ht,rfl⟩:=Il.mp hb
   obtain⟨ps,e,_⟩:=h t ht
   exact⟨_,e,λz=>by rw[z,hd]at e;exact hn.1 ps (HN e)⟩
  .exact⟨_,e,λz=>by rw[z,hd]at e;exact hn.2 φ (HN e)⟩
 rw[e];exact kp b o e hne
section
variable [Feeds]
def tabP (K:Fg):List Addr:=(tabsK Feeds.lam K).map (·.2.2)
def j7 (K:Fg):GF->List Addr
 | none=>tabP K
 | some (d,c)=>d::c::tabP K
theorem ke {K:Fg}{G:GF}{b:Addr}(h:b∈tabP K):b∈j7 K G:=by
 cases G with
 | none=>exact h
 | some p=>exact HA _ (HA _ h)
abbrev FS:=Feeds.S
abbrev M (α:Type):=FS->Option (α×FS)
def Dk (G:GF)(H:Hp)(F:FS):Prop:=match G with
 | none=>True
 | some (d,c)=>Feeds.At d c H F
def FAt (K:Fg)(G:GF)(H:Hp)(F:FS):Prop:=Dk G H F/\z9 (tabsK Feeds.lam K) H
theorem FAt.bok {K:Fg}{G:GF}{H:Hp}{F:FS}(h:FAt K G H F):BOk H (j7 K G):=λb hb=>by
 have tb:b∈tabP K->∃o,H b=some o:=λz=>by
  obtain⟨t,ht,rfl⟩:=Il.mp z
  obtain⟨ps,h1,_⟩:=h.2 t ht
  exact⟨_,h1⟩
 cases G with
 | none=>exact tb hb
 | some p =>
  obtain⟨d,c⟩:=p
  simp only[j7,HB]at hb
  rcases hb with rfl | rfl | hb
  .obtain⟨o,e,_⟩:=Feeds.some1 h.1;exact⟨o,e⟩
  .obtain⟨o,e,_⟩:=Feeds.some2 h.1;exact⟨o,e⟩
  .exact tb hb
theorem FAt.congr {K:Fg}{G:GF}{H H':Hp}{F:FS}(h:FAt K G H F)(e:∀b,(b∈j7 K G\/∃φ,H b=some (.ext φ))->H' b=H b):FAt K G H' F:=by
 refine⟨?_,h.2.congr λb hb=>e b (hb.imp ke id)⟩
 cases G with
 | none=>trivial
 | some p =>
  obtain⟨d,c⟩:=p
  exact Feeds.congr h.1 (e d (.inl (by simp[j7]))) (e c (.inl (by simp[j7])))
theorem FAt.same {K:Fg}{G:GF}{H H':Hp}{F:FS}(h:FAt K G H F)(s:d8 H H'):FAt K G H' F:=h.congr λb hb=>by
 rcases hb with hb | ⟨φ,e⟩
 .obtain⟨o,e⟩:=h.bok b hb
  rw[e];exact s b o e
 .rw[e];exact s b _ e
inductive DV where
 | dat (d:PyData) | feed | own (ds:List PyData) | fn (x:Str) | adr (a:Addr)
abbrev DE:=List (Option DV)
def DVr (K:Fg)(G:GF)(B:List Addr)(H:Hp):DV->V->Prop
 | .dat d,v=>a7 K (hid H B) d v
 | .feed,v=>∃d c,G=some (d,c)/\v = .ref d
 | .fn x,v=>∃a,v = .ref a/\PySem.W.nsIn K mainGlobals x=some (some (.ref a))
 | .adr a,v=>v = .ref a
 | .own ds,v=>∃a xs,v = .ref a/\a∈B/\a ∉ j7 K G/\H a=some (.lst xs)/\a6 K (hid H B) ds xs
structure SitE (K:Fg) (G:GF) (B:List Addr) (E:DE) (F:FS) (σ:St) (H:Hp):Prop where
 fd:FAt K G H F
 fB:∀b∈j7 K G,b∈B
 bk:BOk H B
 ln:E.length = σ.length
 loc:∀(i:Nat) (x:DV),E[i]? = some (some x)->∃v,σ[i]? = some (some v)/\DVr K G B H x v
section
variable {K:Fg}{G:GF}{B:List Addr}{E:DE}{F F':FS}{σ:St}{H H':Hp}
theorem q5 (bk:BOk H B)(k:Kp (j7 K G) H H')(f:FAt K G H' F'):BOk H' B:=λb hb=>by
 by_cases h:b∈j7 K G
 .exact f.bok b h
 .obtain⟨o,e⟩:=bk b hb
  exact⟨o,k b o e h⟩
theorem DVr.step {x:DV}{v:V}(h:DVr K G B H x v)(k:Kp (j7 K G) H H')(fB:∀b∈j7 K G,b∈B):DVr K G B H' x v:=by
 cases x with
 | dat d=>exact a7.same (h:a7 _ _ _ _) (k.hid fB)
 | feed=>exact h
 | fn _=>exact h
 | adr _=>exact h
 | own ds =>
  obtain⟨a,xs,e,hB,hf,ha,hd⟩:=h
  exact⟨a,xs,e,hB,hf,k a _ ha hf,hd.same (k.hid fB)⟩
theorem SitE.step (I:SitE K G B E F σ H)(k:Kp (j7 K G) H H')(f:FAt K G H' F'):SitE K G B E F' σ H' :=
 ⟨f,I.fB,q5 I.bk k f,I.ln,λi x e=>by
  obtain⟨v,h1,h2⟩:=I.loc i x e
  exact⟨v,h1,h2.step k I.fB⟩⟩
end
end
end
section
section
variable [Feeds]
def TEd (K:Fg)(te:TE)(m:DE->M PyData):Prop:=∀(G:GF) (B:List Addr) (E:DE) (F:FS) (σ:St) (H:Hp) (Q:VK) (d:PyData) (F':FS),SitE K G B E F σ H->m E F=some (d,F') ->
 (∀v H',Kp (j7 K G) H H'->FAt K G H' F'->a7 K (hid H' B) d v->Q v H')->te σ H Q
def TEs (K:Fg)(te:TE)(m:DE->M PyData):Prop:=∀(G:GF) (B:List Addr) (E:DE) (F:FS) (σ:St) (H:Hp) (Q:VK) (d:PyData) (F':FS),SitE K G B E F σ H->m E F=some (d,F') ->
 (∀v H',Kp (j7 K G) H H'->FAt K G H' F'->F9 K (j7 K G) B H' d v->Q v H')->te σ H Q
theorem TEd.sh {K:Fg}{te:TE}{m:DE->M PyData}(h:TEd K te m):TEs K te m:=λG B E F σ H Q d F' I e q=>h G B E F σ H Q d F' I e λv H' k f hd=>q v H' k f (aU hd I.fB)
def TTd (K:Fg)(tt:TT)(m:DE->M Bool):Prop:=∀(G:GF) (B:List Addr) (E:DE) (F:FS) (σ:St) (H:Hp) (Q:Bool->Hp->Prop) (b:Bool) (F':FS),SitE K G B E F σ H->m E F=some (b,F') ->
 (∀H',Kp (j7 K G) H H'->FAt K G H' F'->Q b H')->tt σ H Q
def TAd (K:Fg)(ta:TA)(m:DE->M (List PyData)):Prop:=∀(G:GF) (B:List Addr) (E:DE) (F:FS) (σ:St) (H:Hp) (Q:List V->Hp->Prop) (ds:List PyData) (F':FS),SitE K G B E F σ H->m E F=some (ds,F') ->
 (∀vs H',Kp (j7 K G) H H'->FAt K G H' F'->a6 K (hid H' B) ds vs->Q vs H')->ta σ H Q
def gy (K:Fg)(fp B:List Addr)(H:Hp):List PyData->List V->Prop
 | [],vs=>vs=[]
 | d::ds,vs=>∃v r,vs=v::r/\F9 K fp B H d v/\gy K fp B H ds r
def TAs (K:Fg)(ta:TA)(m:DE->M (List PyData)):Prop:=∀(G:GF) (B:List Addr) (E:DE) (F:FS) (σ:St) (H:Hp) (Q:List V->Hp->Prop) (ds:List PyData) (F':FS),SitE K G B E F σ H->m E F=some (ds,F') ->
 (∀vs H',Kp (j7 K G) H H'->FAt K G H' F'->gy K (j7 K G) B H' ds vs->Q vs H')->ta σ H Q
structure Ev (K:Fg) (X:Cx) (e:Expr) (te:TE) (m:DE->M PyData):Prop where
 pe:PE X e te
 ok:TEd K te m
structure Eb (K:Fg) (X:Cx) (e:Expr) (te:TE) (m:DE->M PyData):Prop where
 pe:PE X e te
 ok:TEs K te m
structure Et (K:Fg) (X:Cx) (e:Expr) (tt:TT) (m:DE->M Bool):Prop where
 pt:PT X e tt
 ok:TTd K tt m
structure Ew (K:Fg) (X:Cx) (e:Expr) (tt:TT) (m:DE->M Bool):Prop where
 pw:PW X e tt
 ok:TTd K tt m
structure Ea (K:Fg) (X:Cx) (es:List Expr) (ta:TA) (m:DE->M (List PyData)):Prop where
 pa:PA X es ta
 ok:TAd K ta m
structure Es (K:Fg) (X:Cx) (es:List Expr) (ta:TA) (m:DE->M (List PyData)):Prop where
 pa:PA X es ta
 ok:TAs K ta m
variable {K:Fg}{X:Cx}{a b c e:Expr}{es:List Expr}{ta tb tc te:TE}{ma mb mc m:DE->M PyData}{pos:Pos}
theorem Ev.bw (h:Ev K X e te m):Eb K X e te m:=⟨h.pe,h.ok.sh⟩
def sC (d:PyData):DE->M PyData:=λ_ F=>some (d,F)
def sV (i:Nat):DE->M PyData:=λE F=>match E[i]? with
 | some (some (.dat d))=>some (d,F)
 | _=>none
def sW (i:Nat):DE->M PyData:=λE F=>match E[i]? with
 | some (some (.dat d))=>some (d,F)
 | some (some (.own ds))=>some (.list ds,F)
 | _=>none
theorem xn {d:PyData}{v:V}(h:∀H,a7 K H d v):TEd K (tC v) (sC d):=λG B E F σ H Q d' F' I e q=>by
 cases e
 exact q v H Kp.refl I.fd (h _)
theorem k4 {i j}:Ev K X (.Constant (.int i) j pos) (tC (.int i)) (sC (.int i)):=⟨f7,xn λ_=>a7.int⟩
theorem eQ {x j}:Ev K X (.Constant (.bool x) j pos) (tC (.bl x)) (sC (.bool x)):=⟨Cc,xn λ_=>a7.bl⟩
theorem Z9 {j}:Ev K X (.Constant .none j pos) (tC .non) (sC .none):=⟨Am,xn λ_=>a7.non⟩
theorem S7 {x j}:Ev K X (.Constant (.str x) j pos) (tC (.str x)) (sC (.str x)):=⟨v5,xn λ_=>a7.st⟩
theorem yQ (i:Nat):TEd K (l4 i) (sV i):=λG B E F σ H Q d F' I e q=>by
 unfold sV at e
 split at e
 .rename_i x hx
  cases e
  obtain⟨v,h1,h2⟩:=I.loc i _ hx
  exact⟨v,h1,q v H Kp.refl I.fd h2⟩
 .cases e
theorem CI (i:Nat):TEs K (l4 i) (sW i):=λG B E F σ H Q d F' I e q=>by
 unfold sW at e
 split at e
 .rename_i x hx
  cases e
  obtain⟨v,h1,h2⟩:=I.loc i _ hx
  exact⟨v,h1,q v H Kp.refl I.fd (aU h2 I.fB)⟩
 .rename_i x hx
  cases e
  obtain⟨v,h1,h2⟩:=I.loc i _ hx
  refine⟨v,h1,q v H Kp.refl I.fd ?_⟩
  obtain⟨p,xs,rfl,hB,hf,hp,hd⟩:=h2
  exact⟨p,xs,rfl,by rw[d7 hf];exact hp,hd⟩
 .cases e
theorem k9 (i:Nat){x:Str}(hN:X.N[i]? = some x:=by rfl)(hv:Vis X.env.scope x:=by first | exact Or.inl rfl | exact Or.inr (Or.inl rfl) | exact Or.inr (Or.inr rfl))(hd:(x == ("__debug__":Str))=false:=by decide)
  (hcd:(x == ("__classdict__":Str))=false:=by decide):Ev K X (.Name x pos) (l4 i) (sV i):=⟨C7 hN hv hd hcd,yQ i⟩
theorem h8 (i:Nat){x:Str}(hN:X.N[i]? = some x:=by rfl)(hv:Vis X.env.scope x:=by first | exact Or.inl rfl | exact Or.inr (Or.inl rfl) | exact Or.inr (Or.inr rfl))(hd:(x == ("__debug__":Str))=false:=by decide)
  (hcd:(x == ("__classdict__":Str))=false:=by decide):Eb K X (.Name x pos) (l4 i) (sW i):=⟨C7 hN hv hd hcd,CI i⟩
def rD1 (K:Fg)(f:PyData->Option PyData):V->Hp->VK->Prop:=λx H Q=>∃fp B d r,BOk H B/\F9 K fp B H d x/\f d=some r/\∀v H',d8 H H'->a7 K (hid H' B) r v->Q v H'
def rD2 (K:Fg)(f:PyData->PyData->Option PyData):R2:=λx y H Q=>∃fp B d e r,BOk H B/\F9 K fp B H d x/\F9 K fp B H e y/\f d e=some r/\∀v H',d8 H H'->a7 K (hid H' B) r v->Q v H'
def rDN (K:Fg)(f:List PyData->Option PyData):List V->Hp->VK->Prop:=λxs H Q=>∃fp B ds r,BOk H B/\gy K fp B H ds xs/\f ds=some r/\∀v H',d8 H H'->a7 K (hid H' B) r v->Q v H'
def s1 (f:PyData->Option PyData)(a:DE->M PyData):DE->M PyData:=λE F=>(a E F).bind λp=>(f p.1).bind λz=>some (z,p.2)
def s2 (f:PyData->PyData->Option PyData)(a b:DE->M PyData):DE->M PyData:=λE F=>(a E F).bind λp=>(b E p.2).bind λq=>(f p.1 q.1).bind λz=>some (z,q.2)
def sN (f:List PyData->Option PyData)(a:DE->M (List PyData)):DE->M PyData:=λE F=>(a E F).bind λp=>(f p.1).bind λz=>some (z,p.2)
theorem Ca {f:PyData->Option PyData}(ha:TEs K ta ma):TEd K (tUn (rD1 K f) ta) (s1 f ma):=λG B E F σ H Q d F' I e q=>by
 obtain⟨⟨x,F1⟩,e1,e⟩:=bS9 e
 obtain⟨z,e2,e⟩:=bS9 e
 cases e
 refine ha G B E F σ H _ x F1 I e1 λv H1 k1 f1 h1=>⟨j7 K G,B,x,_,q5 I.bk k1 f1,h1,e2,λw H2 s hw=>q w H2 (k1.trans (Kp.same s)) (f1.same s) hw⟩
theorem qe {f:PyData->PyData->Option PyData}(ha:TEs K ta ma)(hb:TEs K tb mb):TEd K (tOp (rD2 K f) ta tb) (s2 f ma mb):=λG B E F σ H Q d F' I e q=>by
 obtain⟨⟨x,F1⟩,e1,e⟩:=bS9 e
 obtain⟨⟨y,F2⟩,e2,e⟩:=bS9 e
 obtain⟨z,e3,e⟩:=bS9 e
 cases e
 refine ha G B E F σ H _ x F1 I e1 λv H1 k1 f1 h1=>?_
 refine hb G B E F1 σ H1 _ y F2 (I.step k1 f1) e2 λw H2 k2 f2 h2=>⟨j7 K G,B,x,y,_,q5 I.bk (k1.trans k2) f2,h1.step k2 I.fB,h2,e3,λu H3 s hu=>q u H3 ((k1.trans k2).trans (Kp.same s)) (f2.same s) hu⟩
theorem yN {f:List PyData->Option PyData}{t:TA}{ms:DE->M (List PyData)}(ha:TAs K t ms):TEd K (tCB (rDN K f) t) (sN f ms):=λG B E F σ H Q d F' I e q=>by
 obtain⟨⟨x,F1⟩,e1,e⟩:=bS9 e
 obtain⟨z,e2,e⟩:=bS9 e
 cases e
 exact ha G B E F σ H _ x F1 I e1 λvs H1 k1 f1 h1=>⟨j7 K G,B,x,_,q5 I.bk k1 f1,h1,e2,λw H2 s hw=>q w H2 (k1.trans (Kp.same s)) (f1.same s) hw⟩
theorem M6 {op:Operator}{f:PyData->PyData->Option PyData}(ho:OpR X (binaryOp op) (rD2 K f))(ha:Eb K X a ta ma)(hb:Eb K X b tb mb):Ev K X (.BinOp a op b pos) (tOp (rD2 K f) ta tb) (s2 f ma mb):=⟨x3 ho ha.pe hb.pe,qe ha.ok hb.ok⟩
theorem cY {op:CmpOp}{f:PyData->PyData->Option PyData}(ho:OpR X (compareOp op) (rD2 K f))(ha:Eb K X a ta ma)(hb:Eb K X b tb mb)(hm:behindInMarks op b=false:=by first | exact W2 _ | rfl):Ev K X (.Compare a [op] [b] pos) (tOp (rD2 K f) ta tb) (s2 f ma mb):=⟨kC ho ha.pe hb.pe hm,qe ha.ok hb.ok⟩
theorem B4 {f:PyData->PyData->Option PyData}(hr:IxR X (rD2 K f))(ha:Eb K X a ta ma)(hb:Eb K X b tb mb)(hs:ft b:=by intro _ _;rfl):Ev K X (.Subscript a b pos) (tOp (rD2 K f) ta tb) (s2 f ma mb):=⟨G5 hr ha.pe hb.pe hs,qe ha.ok hb.ok⟩
theorem q4 {f:List PyData->Option PyData}{id:String}{x:Str}{p:Pos}{t:TA}{ms:DE->M (List PyData)}(hc:C5 X (.builtin id) (rDN K f))(hm:X.mg x=none)(hv:bootBuiltins x=some (.builtin id))(ha:Es K X (e::es) t ms)(hg:Gl X x:=by rfl)(hn:x ≠ "__name__":=by decide)(hdb:(x == ("__debug__":Str))=false:=by decide)
  (he:starEach (e::es) X.env=(false,eval e X.env)::starEach es X.env:=by rfl) (hpl:(backTo pos (starEach es X.env)).any (·.1)=false:=by rfl):Ev K X (.Call (.Name x p) (e::es) [] pos) (tCB (rDN K f) t) (sN f ms):=⟨Q9 hc hg hm hv ha.pa hn hdb he hpl,yN ha.ok⟩
theorem M2 {f:List PyData->Option PyData}{T:String}{x:Str}{p:Pos}{t:TA}{ms:DE->M (List PyData)}(hc:C5 X (.type T) (rDN K f))(hm:X.mg x=none)(hv:bootBuiltins x=some (.type T))(ha:Es K X (e::es) t ms)(hg:Gl X x:=by rfl)(hn:x ≠ "__name__":=by decide)(hdb:(x == ("__debug__":Str))=false:=by decide)
  (he:starEach (e::es) X.env=(false,eval e X.env)::starEach es X.env:=by rfl) (hpl:(backTo pos (starEach es X.env)).any (·.1)=false:=by rfl):Ev K X (.Call (.Name x p) (e::es) [] pos) (tCB (rDN K f) t) (sN f ms):=⟨ak hc hg hm hv ha.pa hn hdb he hpl,yN ha.ok⟩
def h9:DE->M (List PyData):=λ_ F=>some ([],F)
def c6 (a:DE->M PyData)(r:DE->M (List PyData)):DE->M (List PyData):=λE F=>(a E F).bind λp=>(r E p.2).bind λq=>some (p.1::q.1,q.2)
theorem k7:Ea K X [] C4 h9:=⟨j9,λG B E F σ H Q ds F' I e q=>by cases e;exact q [] H Kp.refl I.fd a6.nil⟩
theorem d0 {t:TA}{ms:DE->M (List PyData)}(ha:Ev K X e te m)(hr:Ea K X es t ms)(hs:starEach (e::es) X.env=(false,eval e X.env)::starEach es X.env:=by rfl):Ea K X (e::es) (l9 te t) (c6 m ms) :=
 ⟨f9 ha.pe hr.pa hs,λG B E F σ H Q ds F' I e q=>by
  obtain⟨⟨x,F1⟩,e1,e⟩:=bS9 e
  obtain⟨⟨ys,F2⟩,e2,e⟩:=bS9 e
  cases e
  refine ha.ok G B E F σ H _ x F1 I e1 λv H1 k1 f1 h1=>?_
  refine hr.ok G B E F1 σ H1 _ ys F2 (I.step k1 f1) e2 λvs H2 k2 f2 h2=>q _ H2 (k1.trans k2) f2 (.cons (h1.same (k2.hid I.fB)) h2)⟩
theorem u6:Es K X [] C4 h9:=⟨j9,λG B E F σ H Q ds F' I e q=>by cases e;exact q [] H Kp.refl I.fd rfl⟩
theorem l5 {t:TA}{ms:DE->M (List PyData)}(ha:Eb K X e te m)(hr:Es K X es t ms)(hs:starEach (e::es) X.env=(false,eval e X.env)::starEach es X.env:=by rfl):Es K X (e::es) (l9 te t) (c6 m ms) :=
 ⟨f9 ha.pe hr.pa hs,λG B E F σ H Q ds F' I e q=>by
  obtain⟨⟨x,F1⟩,e1,e⟩:=bS9 e
  obtain⟨⟨ys,F2⟩,e2,e⟩:=bS9 e
  cases e
  refine ha.ok G B E F σ H _ x F1 I e1 λv H1 k1 f1 h1=>?_
  refine hr.ok G B E F1 σ H1 _ ys F2 (I.step k1 f1) e2 λvs H2 k2 f2 h2=>q _ H2 (k1.trans k2) f2 ⟨v,vs,rfl,h1.step k2 I.fB,h2⟩⟩
def O9 (a:DE->M (List PyData)):DE->M PyData:=λE F=>(a E F).bind λp=>if p.1.length<=sizeLine then some (.tuple p.1,p.2) else none
def oz (a:DE->M (List PyData)):DE->M PyData:=λE F=>(a E F).bind λp=>if p.1.length<=sizeLine then some (.list p.1,p.2) else none
theorem F0 {k}{t:TA}{ms:DE->M (List PyData)}(h:Ea K X es t ms):Ev K X (.Tuple es k pos) (qZ t) (O9 ms):=⟨gc h.pa,λG B E F σ H Q d F' I e q=>by
 obtain⟨⟨x,F1⟩,e1,e⟩:=bS9 e
 split at e
 .rename_i hl
  cases e
  refine h.ok G B E F σ H _ x F1 I e1 λvs H1 k1 f1 h1=>⟨by rw[h1.length];exact hl,λp hp=>q _ _ (k1.trans (Kp.upd hp)) (f1.same (d8.upd hp)) (O7 (q5 I.bk k1 f1) hp h1)⟩
 .cases e⟩
theorem vh {t:TA}{ms:DE->M (List PyData)}(h:Ea K X es t ms):Ev K X (.List es pos) (dB t) (oz ms):=⟨N4 h.pa,λG B E F σ H Q d F' I e q=>by
 obtain⟨⟨x,F1⟩,e1,e⟩:=bS9 e
 split at e
 .rename_i hl
  cases e
  refine h.ok G B E F σ H _ x F1 I e1 λvs H1 k1 f1 h1=>⟨by rw[h1.length];exact hl,λp hp=>q _ _ (k1.trans (Kp.upd hp)) (f1.same (d8.upd hp)) (K1 (q5 I.bk k1 f1) hp h1)⟩
 .cases e⟩
def bq:PyData->Option Bool
 | .bool b=>some b
 | _=>none
theorem R7 {d:PyData}{b:Bool}(h:bq d=some b):d = .bool b:=by
 cases d <;> simp[bq]at h
 rw[h]
def nO (a b:DE->M PyData):DE->M PyData:=λE F=>(a E F).bind λp=>(bq p.1).bind λc=>if c=true then b E p.2 else some (.bool false,p.2)
def yk (a:DE->M PyData):DE->M PyData:=λE F=>(a E F).bind λp=>(bq p.1).bind λc=>some (.bool (!c),p.2)
theorem AS {op}(h:Ev K X a te m):Ev K X (.BoolOp op [a] pos) te m:=⟨uP h.pe,h.ok⟩
theorem zH {rest:List Expr}(ha:Ev K X a ta ma)(hb:Ev K X (.BoolOp .And (b::rest) pos) tb mb):Ev K X (.BoolOp .And (a::b::rest) pos) (ux ta tb) (nO ma mb):=⟨tq ha.pe hb.pe,λG B E F σ H Q d F' I e q=>by
 obtain⟨⟨x,F1⟩,e1,e⟩:=bS9 e
 obtain⟨c,e2,e⟩:=bS9 e
 refine ha.ok G B E F σ H _ x F1 I e1 λv H1 k1 f1 h1=>?_
 have:=R7 e2
 simp only at this
 subst this
 simp only[a7]at h1
 refine⟨c,h1,?_⟩
 cases c with
 | true=>exact hb.ok G B E F1 σ H1 _ d F' (I.step k1 f1) e λw H2 k2 f2 h2=>q w H2 (k1.trans k2) f2 h2
 | false=>cases e;exact q _ H1 k1 f1 a7.bl⟩
theorem Bd (ha:Ev K X a ta ma):Ev K X (.UnaryOp .Not a pos) (yJ ta) (yk ma):=⟨zT ha.pe,λG B E F σ H Q d F' I e q=>by
 obtain⟨⟨x,F1⟩,e1,e⟩:=bS9 e
 obtain⟨c,e2,e⟩:=bS9 e
 cases e
 refine ha.ok G B E F σ H _ x F1 I e1 λv H1 k1 f1 h1=>?_
 have:=R7 e2
 simp only at this
 subst this
 simp only[a7]at h1
 exact⟨_,h1,q _ H1 k1 f1 a7.bl⟩⟩
def sIf (c:DE->M Bool)(a b:DE->M PyData):DE->M PyData:=λE F=>(c E F).bind λp=>if p.1=true then a E p.2 else b E p.2
theorem oY {tt:TT}{mt:DE->M Bool}(hc:Et K X c tt mt)(ha:Ev K X a ta ma)(hb:Ev K X b tb mb):Ev K X (.IfExp c a b pos) (tIf tt ta tb) (sIf mt ma mb):=⟨ll hc.pt ha.pe hb.pe,λG B E F σ H Q d F' I e q=>by
 obtain⟨⟨x,F1⟩,e1,e⟩:=bS9 e
 refine hc.ok G B E F σ H _ x F1 I e1 λH1 k1 f1=>?_
 cases x with
 | true=>exact ha.ok G B E F1 σ H1 _ d F' (I.step k1 f1) e λw H2 k2 f2 h2=>q w H2 (k1.trans k2) f2 h2
 | false=>exact hb.ok G B E F1 σ H1 _ d F' (I.step k1 f1) e λw H2 k2 f2 h2=>q w H2 (k1.trans k2) f2 h2⟩
variable {tA tB:TT}{na nb:DE->M Bool}
def uB (a:DE->M PyData):DE->M Bool:=λE F=>(a E F).bind λp=>(bq p.1).bind λc=>some (c,p.2)
def uOr (a b:DE->M Bool):DE->M Bool:=λE F=>(a E F).bind λp=>if p.1=true then some (true,p.2) else b E p.2
def qU (a:DE->M Bool):DE->M Bool:=λE F=>(a E F).bind λp=>some (!p.1,p.2)
theorem C1 {op:CmpOp}{f:PyData->PyData->Option PyData}(ho:OpR X (compareOp op) (rD2 K f))(ha:Eb K X a ta ma)(hb:Eb K X b tb mb)(hm:behindInMarks op b=false:=by first | exact W2 _ | rfl):Et K X (.Compare a [op] [b] pos) (fZ (tOp (rD2 K f) ta tb)) (uB (s2 f ma mb)) :=
 ⟨O6 ho ha.pe hb.pe hm,λG B E F σ H Q d F' I e q=>by
  obtain⟨⟨x,F1⟩,e1,e⟩:=bS9 e
  obtain⟨c,e2,e⟩:=bS9 e
  cases e
  refine qe ha.ok hb.ok G B E F σ H _ x F1 I e1 λv H1 k1 f1 h1=>?_
  have:=R7 e2
  simp only at this
  subst this
  simp only[a7]at h1
  exact⟨_,h1,q H1 k1 f1⟩⟩
theorem oW (ha:Et K X a tA na):Ew K X (.BoolOp .Or [a] pos) tA na:=⟨zc ha.pt,ha.ok⟩
theorem vB {rest:List Expr}(ha:Et K X a tA na)(hb:Ew K X (.BoolOp .Or (b::rest) pos) tB nb):Ew K X (.BoolOp .Or (a::b::rest) pos) (tOr tA tB) (uOr na nb):=⟨Cf ha.pt hb.pw,λG B E F σ H Q d F' I e q=>by
 obtain⟨⟨x,F1⟩,e1,e⟩:=bS9 e
 refine ha.ok G B E F σ H _ x F1 I e1 λH1 k1 f1=>?_
 cases x with
 | false=>exact hb.ok G B E F1 σ H1 _ d F' (I.step k1 f1) e λH2 k2 f2=>q H2 (k1.trans k2) f2
 | true=>cases e;exact q H1 k1 f1⟩
theorem Ew.t (h:Ew K X a tA na):Et K X a tA na:=⟨h.pw.pt,h.ok⟩
theorem oO (ha:Et K X a tA na):Et K X (.UnaryOp .Not a pos) (CK tA) (qU na):=⟨zr ha.pt,λG B E F σ H Q d F' I e q=>by
 obtain⟨⟨x,F1⟩,e1,e⟩:=bS9 e
 cases e
 exact ha.ok G B E F σ H _ x F1 I e1 λH1 k1 f1=>q H1 k1 f1⟩
def wC:PyData->Option Bool
 | .none=>some false
 | .bool b=>some b
 | .int i=>some (i != 0)
 | .str x=>if x.length<=sizeLine then some ((x.length:Int) != 0) else none
 | .tuple ds=>some (!ds.isEmpty)
 | .list ds=>some (!ds.isEmpty)
 | .dict _=>none
def uT (a:DE->M PyData):DE->M Bool:=λE F=>(a E F).bind λp=>(wC p.1).bind λc=>some (c,p.2)
theorem cL {H:Hp}{ds:List PyData}{xs:List V}(h:a6 K H ds xs):xs.isEmpty=ds.isEmpty:=by
 cases ds with
 | nil=>simp only[a6]at h;subst h;rfl
 | cons d r=>simp only[a6]at h;obtain⟨x,r,rfl,_⟩:=h;rfl
theorem zE {fp B:List Addr}{H:Hp}{d:PyData}{v:V}{c:Bool}(h:F9 K fp B H d v)(e:wC d=some c):uy K v H c:=by
 cases d with
 | none=>cases h;cases e;rfl
 | bool b=>cases h;cases e;rfl
 | int i=>cases h;cases e;rfl
 | str x =>
  cases h
  simp only[wC]at e
  split at e
  .rename_i hl;cases e;exact⟨hl,rfl⟩
  .cases e
 | tuple ds =>
  obtain⟨p,xs,rfl,hq,hd⟩:=h
  cases e
  exact .inr (.inl ⟨xs,hq.same c7,by rw[cL hd]⟩)
 | list ds =>
  obtain⟨p,xs,rfl,hq,hd⟩:=h
  cases e
  exact .inl ⟨xs,SqL.of (c7 _ _ hq),by rw[cL hd]⟩
 | dict kvs=>exact(show False from h).elim
theorem dN (ha:Eb K X a ta ma)(hK:X.K=K:=by rfl)(he:∀whole,isTrue a X.env whole=(do let v <-whole;standAt a.pos;holding [v] (truthy v)):=by intro _;rfl) :
  Et K X a (λσ H Q=>ta σ H λx H'=>∃k,uy K x H' k/\Q k H') (uT ma):=⟨rG hK ha.pe he,λG B E F σ H Q d F' I e q=>by
 obtain⟨⟨x,F1⟩,e1,e⟩:=bS9 e
 obtain⟨c,e2,e⟩:=bS9 e
 cases e
 exact ha.ok G B E F σ H _ x F1 I e1 λv H1 k1 f1 h1=>⟨_,zE h1 e2,q H1 k1 f1⟩⟩
end
end
section
section
variable {K:Fg}{X:Cx}
theorem hW {fp B:List Addr}{H:Hp}{ds:List PyData}{d:PyData}{vs:List V}(h:gy K fp B H ds vs)(e:ds=[d]):∃v,vs=[v]/\F9 K fp B H d v:=by
 subst e
 obtain⟨v,r,rfl,h1,h2⟩:=h
 cases h2
 exact⟨v,rfl,h1⟩
theorem CZ {fp B:List Addr}{H:Hp}{ds:List PyData}{d e:PyData}{vs:List V}(h:gy K fp B H ds vs)(eq:ds=[d,e]):∃v w,vs=[v,w]/\F9 K fp B H d v/\F9 K fp B H e w:=by
 subst eq
 obtain⟨v,r,rfl,h1,w,r2,rfl,h2,h3⟩:=h
 cases h3
 exact⟨v,w,rfl,h1,h2⟩
def i2 (C:Int->Int->Prop)[∀i j,Decidable (C i j)](g:Int->Int->PyData):PyData->PyData->Option PyData
 | .int i,.int j=>if C i j then some (g i j) else none
 | _,_=>none
theorem wx {C:Int->Int->Prop}[∀i j,Decidable (C i j)]{g:Int->Int->PyData}{d e r:PyData}(h:i2 C g d e=some r):∃i j,d = .int i/\e = .int j/\C i j/\r=g i j:=by
 cases d <;> cases e <;> simp only[i2]at h <;> try cases h
 split at h
 .rename_i hc;cases h;exact⟨_,_,rfl,rfl,hc,rfl⟩
 .cases h
theorem jR {f:Value->Value->Sem Value}{g:Int->Int->V}{gd:Int->Int->PyData}(ho:OpR X f (rI0 g))(hg:∀H i j,a7 K H (gd i j) (g i j)):OpR X f (rD2 K (i2 (λ_ _=>True) gd)):=by
 intro pins s σ H x y v u Q I rx ry h
 obtain⟨fp,B,d,e,r,bk,h1,h2,hf,q⟩:=h
 obtain⟨i,j,rfl,rfl,hc,rfl⟩:=wx hf
 cases h1
 cases h2
 exact ho pins s σ H _ _ v u Q I rx ry ⟨i,j,rfl,rfl,q _ H (d8.refl H) (hg _ i j)⟩
abbrev lN:=i2 (λ_ _=>True) λi j=>.int (i-j)
theorem jO:OpR X (binaryOp .Sub) (rD2 K lN):=jR uk λ_ _ _=>a7.int
instance:∀i j,Decidable (xA i j):=λi j=>inferInstanceAs (Decidable (_/\_/\_))
instance:∀i j,Decidable (vt i j):=λi j=>inferInstanceAs (Decidable ((_/\_)\/(_/\_)))
@[irreducible] def wq:Nat:=2 ^ 400000
theorem xm:wq=2 ^ 400000:=by unfold wq;rfl
def Big (i j:Int):Prop:=vt i j\/(i.natAbs<wq/\j.natAbs<wq)
instance {i j:Int}:Decidable (Big i j):=inferInstanceAs (Decidable (_\/_))
theorem pZ {n:Nat}{i:Int}(h:i.natAbs<2 ^ n):Builtin.Int.intBits i<=n:=by
 unfold Builtin.Int.intBits
 split
 .exact IG _
 .rename_i h0
  have h0:i.natAbs≠0:=λz=>h0 (by simpa using z)
  exact(Nat.log2_lt h0).mpr h
theorem Big.ok {i j:Int}(h:Big i j):IntMulOk i j:=by
 rcases h with h | ⟨h1,h2⟩
 .exact h.ok
 .unfold IntMulOk
  have e:Builtin.Int.intTooBig ((Builtin.Int.intBits i:Int)+Builtin.Int.intBits j)=false:=by
   unfold Builtin.Int.intTooBig
   rw[xm]at h1 h2
   have a:=pZ h1
   have b:=pZ h2
   have c:(bitsLine:Nat)=134217728:=by decide
   refine IL ?_
   rw[c]
   omega
  rw[e,KR]
  exact Ia
theorem xg:OpR X (binaryOp .Mult) (rI Big λi j=>.int (i*j)):=opI λ_ _ _ _ _ _ _ hc q=>mul_int q hc.ok
abbrev ltD:=i2 (λ_ _=>True) λi j=>.bool (decide (i<j))
abbrev gtD:=i2 (λ_ _=>True) λi j=>.bool (decide (j<i))
abbrev geD:=i2 (λ_ _=>True) λi j=>.bool (decide (j<=i))
theorem uL:OpR X (compareOp .Lt) (rD2 K ltD):=jR yx λ_ _ _=>a7.bl
theorem Cq:OpR X (compareOp .Gt) (rD2 K gtD):=jR yy λ_ _ _=>a7.bl
theorem CC:OpR X (compareOp .GtE) (rD2 K geD):=jR yX λ_ _ _=>a7.bl
def U1:PyData->PyData->Option PyData
 | .int i,.int j=>some (.int (i+j))
 | .str x,.str y=>if x.length+y.length<=sizeLine then some (.str (x++y)) else none
 | .tuple xs,.tuple ys=>if xs.length+ys.length<=sizeLine then some (.tuple (xs++ys)) else none
 | .list xs,.list ys=>if xs.length+ys.length<=sizeLine then some (.list (xs++ys)) else none
 | _,_=>none
theorem a6.nil_of {H:Hp}{ds:List PyData}{xs:List V}(h:a6 K H ds xs)(e:xs=[]):ds=[]:=by
 subst e;exact Jt.mp (by rw[<-h.length];rfl)
theorem P6 (hK:X.K=K):OpR X (binaryOp .Add) (rD2 K U1):=by
 intro pins s σ H x y v u Q I rx ry h
 obtain⟨fp,B,d,e,r,bk,h1,h2,hf,q⟩:=h
 cases d <;> cases e <;> simp only[U1]at hf <;> try cases hf
 .cases h1
  cases h2
  exact V3 pins s σ H _ _ v u Q I rx ry ⟨_,_,rfl,rfl,q _ H (d8.refl H) a7.int⟩
 .cases h1
  cases h2
  split at hf
  .rename_i hl
   cases hf
   exact nr pins s σ H _ _ v u Q I rx ry ⟨_,_,rfl,rfl,hl,q _ H (d8.refl H) a7.st⟩
  .cases hf
 .obtain⟨a,xs,rfl,ha,hd⟩:=h1
  obtain⟨b,ys,rfl,hb,he⟩:=h2
  split at hf
  .rename_i hl
   cases hf
   refine uz pins s σ H _ _ v u Q I rx ry ⟨a,b,xs,ys,rfl,rfl,c7 _ _ ha,c7 _ _ hb,by rw[hd.length,he.length];exact hl,λp hp=>q _ _ (d8.upd hp) (K1 bk hp (a6.append he hd))⟩
  .cases hf
 .obtain⟨a,xs,rfl,ha,hd⟩:=h1
  obtain⟨b,ys,rfl,hb,he⟩:=h2
  split at hf
  .rename_i hl
   cases hf
   refine xa hK pins s σ H _ _ v u Q I rx ry ⟨a,b,xs,ys,rfl,rfl,ha.same c7,hb.same c7,by rw[hd.length,he.length];exact hl,λz=>q _ H (d8.refl H) ?_,λz=>q _ H (d8.refl H) ?_,λp hp=>q _ _ (d8.upd hp) (O7 bk hp (a6.append he hd))⟩
   .cases a6.nil_of hd z
    simp only[a7,Jh]
    exact⟨b,ys,rfl,hb,he⟩
   .cases a6.nil_of he z
    simp only[a7,IE]
    exact⟨a,xs,rfl,ha,hd⟩
  .cases hf
def zo:PyData->PyData->Option PyData
 | .int i,.int j=>if Big i j then some (.int (i*j)) else none
 | .list xs,.int k=>if -(2 ^ 63)<=k/\k<2 ^ 63/\xs.length*k.toNat<=sizeLine then some (.list (List.replicate k.toNat xs).flatten) else none
 | _,_=>none
theorem a6.rep {H:Hp}{ds:List PyData}{xs:List V}(h:a6 K H ds xs):∀n,a6 K H (List.replicate n ds).flatten (List.replicate n xs).flatten
 | 0=>a6.nil
 | n+1=>by
  rw[IZ,IZ,JO,JO]
  exact a6.append (a6.rep h n) h
theorem Bl:OpR X (binaryOp .Mult) (rD2 K zo):=by
 intro pins s σ H x y v u Q I rx ry h
 obtain⟨fp,B,d,e,r,bk,h1,h2,hf,q⟩:=h
 cases d <;> cases e <;> simp only[zo]at hf <;> try cases hf
 .cases h1
  cases h2
  split at hf
  .rename_i hc
   cases hf
   exact xg pins s σ H _ _ v u Q I rx ry ⟨_,_,rfl,rfl,hc,q _ H (d8.refl H) a7.int⟩
  .cases hf
 .obtain⟨a,xs,rfl,ha,hd⟩:=h1
  cases h2
  split at hf
  .rename_i hc
   cases hf
   exact zi pins s σ H _ _ v u Q I rx ry ⟨a,_,xs,rfl,rfl,c7 _ _ ha,hc.1,hc.2.1,by rw[hd.length];exact hc.2.2,λp hp=>q _ _ (d8.upd hp) (K1 bk hp (a6.rep hd _))⟩
  .cases hf
open PySem.SeqAt in
def eqD (neg:Bool):PyData->PyData->Option PyData
 | .str x,.str y=>some (.bool (if neg then !decide (x=y) else decide (x=y)))
 | d,e=>if shaped d=true/\shaped e=true then some (.bool (if neg then !PyData.eqv d e else PyData.eqv d e)) else none
theorem tD (hK:X.K=K)(hu:X.A.units+64<cLine):OpR X (compareOp .Eq) (rD2 K (eqD false)):=by
 subst hK
 intro pins s σ H x y v u Q I rx ry h
 obtain⟨fp,B,d,e,r,bk,h1,h2,hf,q⟩:=h
 unfold eqD at hf
 split at hf
 .cases hf
  cases h1
  cases h2
  have z:=q _ H (d8.refl H) a7.bl
  rename_i a b
  have e:decide (V.str a=V.str b)=decide (a=b):=by simp
  exact vd pins s σ H _ _ v u Q I rx ry ⟨rfl,by rw[e];exact z⟩
 .split at hf
  .rename_i hs
   cases hf
   obtain⟨as,ra⟩:=G0 I _ x v h1.dat rx
   obtain⟨bs,rb⟩:=G0 I _ y u h2.dat ry
   exact eq_dataH ra rb hs.1 hs.2 hu ⟨.bl _,H,I,rfl,q _ H (d8.refl H) a7.bl⟩
  .cases hf
theorem sL (hK:X.K=K)(hu:X.A.units+64<cLine):OpR X (compareOp .NotEq) (rD2 K (eqD true)):=by
 subst hK
 intro pins s σ H x y v u Q I rx ry h
 obtain⟨fp,B,d,e,r,bk,h1,h2,hf,q⟩:=h
 unfold eqD at hf
 split at hf
 .cases hf
  cases h1
  cases h2
  have z:=q _ H (d8.refl H) a7.bl
  rename_i a b
  have e:decide (V.str a=V.str b)=decide (a=b):=by simp
  exact BF pins s σ H _ _ v u Q I rx ry ⟨rfl,by rw[e];exact z⟩
 .split at hf
  .rename_i hs
   cases hf
   obtain⟨as,ra⟩:=G0 I _ x v h1.dat rx
   obtain⟨bs,rb⟩:=G0 I _ y u h2.dat ry
   exact ne_dataH ra rb hs.1 hs.2 hu ⟨.bl _,H,I,rfl,q _ H (d8.refl H) a7.bl⟩
  .cases hf
open PySem.SeqAt in
def inD (neg:Bool):PyData->PyData->Option PyData
 | d,.list xs=>if shaped (.list xs)=true/\shaped d=true then some (.bool (if neg then !(xs.any λy=>PyData.eqv y d) else xs.any λy=>PyData.eqv y d)) else none
 | d,.tuple xs=>if shaped (.tuple xs)=true/\shaped d=true then some (.bool (if neg then !(xs.any λy=>PyData.eqv y d) else xs.any λy=>PyData.eqv y d)) else none
 | _,_=>none
theorem W9 (hK:X.K=K)(hu:X.A.units+65<cLine):OpR X (compareOp .In) (rD2 K (inD false)):=by
 subst hK
 intro pins s σ H x y v u Q I rx ry h
 obtain⟨fp,B,d,e,r,bk,h1,h2,hf,q⟩:=h
 obtain⟨as,ra⟩:=G0 I _ x v h1.dat rx
 obtain⟨bs,rb⟩:=G0 I _ y u h2.dat ry
 cases e <;> simp only[inD]at hf <;> try cases hf
 .split at hf
  .rename_i hs
   cases hf
   exact PySem.SeqAt.in_list_reads rb ra (by have:=IT hs.1;simpa only[PyData.canLay0] using this) (IT hs.2) (room_in_shaped hs.2 hu) ⟨.bl _,H,I,rfl,q _ H (d8.refl H) a7.bl⟩
  .cases hf
 .split at hf
  .rename_i hs
   cases hf
   exact PySem.SeqAt.in_tuple_reads rb ra (by have:=IT hs.1;simpa only[PyData.canLay0] using this) (IT hs.2) (room_in_shaped hs.2 hu) ⟨.bl _,H,I,rfl,q _ H (d8.refl H) a7.bl⟩
  .cases hf
theorem kW (hK:X.K=K)(hu:X.A.units+65<cLine):OpR X (compareOp .NotIn) (rD2 K (inD true)):=by
 subst hK
 intro pins s σ H x y v u Q I rx ry h
 obtain⟨fp,B,d,e,r,bk,h1,h2,hf,q⟩:=h
 obtain⟨as,ra⟩:=G0 I _ x v h1.dat rx
 obtain⟨bs,rb⟩:=G0 I _ y u h2.dat ry
 cases e <;> simp only[inD]at hf <;> try cases hf
 .split at hf
  .rename_i hs
   cases hf
   exact PySem.SeqAt.notIn_list_reads rb ra (by have:=IT hs.1;simpa only[PyData.canLay0] using this) (IT hs.2) (room_in_shaped hs.2 hu) ⟨.bl _,H,I,rfl,q _ H (d8.refl H) a7.bl⟩
  .cases hf
 .split at hf
  .rename_i hs
   cases hf
   exact PySem.SeqAt.notIn_tuple_reads rb ra (by have:=IT hs.1;simpa only[PyData.canLay0] using this) (IT hs.2) (room_in_shaped hs.2 hu) ⟨.bl _,H,I,rfl,q _ H (d8.refl H) a7.bl⟩
  .cases hf
end
end
section
section
variable {K:Fg}{X:Cx}
theorem a6.at {H:Hp}{ds:List PyData}{xs:List V}{i:Int}{d:PyData}(h:a6 K H ds xs)(e:atI ds i=some d):∃v,atI xs i=some v/\a7 K H d v:=by
 unfold atI at e ⊢
 rw[h.length]
 cases q:ixN ds.length i with
 | none=>rw[q]at e;cases e
 | some j =>
  rw[q]at e
  have e:ds[j]? = some d:=e
  obtain⟨hj,_⟩:=HG.mp e
  have hx:xs[j]? = some (xs[j]'(by rw[h.length];exact hj)):=by simp
  obtain⟨d',h1,h2⟩:=h.get hx
  rw[e]at h1;cases h1
  exact⟨_,hx,h2⟩
def ixD:PyData->PyData->Option PyData
 | .list ds,.int i=>atI ds i
 | .tuple ds,.int i=>atI ds i
 | .str x,.int i=>if x.length<=sizeLine then(atI x.cps.toList i).map λc=>.str ⟨#[c]⟩ else none
 | _,_=>none
theorem A4 (hK:X.K=K):IxR X (rD2 K ixD):=by
 intro value slice pins s σ H x y v u Q I rx ry h hs
 obtain⟨fp,B,d,e,r,bk,h1,h2,hf,q⟩:=h
 cases d <;> cases e <;> simp only[ixD]at hf <;> try cases hf
 .cases h1
  cases h2
  split at hf
  .rename_i hl
   obtain⟨c,e1,rfl⟩:=Ip.mp hf
   exact As value slice pins s σ H _ _ v u Q I rx ry ⟨_,_,c,rfl,rfl,hl,e1,q _ H (d8.refl H) a7.st⟩ hs
  .cases hf
 .obtain⟨a,xs,rfl,ha,hd⟩:=h1
  cases h2
  obtain⟨w,e1,e2⟩:=a6.at hd hf
  exact uh hK value slice pins s σ H _ _ v u Q I rx ry ⟨a,xs,_,w,rfl,rfl,SqL.of (c7 _ _ ha),e1,q w H (d8.refl H) e2⟩ hs
 .obtain⟨a,xs,rfl,ha,hd⟩:=h1
  cases h2
  obtain⟨w,e1,e2⟩:=a6.at hd hf
  exact qa hK value slice pins s σ H _ _ v u Q I rx ry ⟨a,xs,_,w,rfl,rfl,ha.same c7,e1,q w H (d8.refl H) e2⟩ hs
def eX {α:Type}(xs:List α)(lo hi:Option Int):List α:=(xs.drop (HT.sIx xs.length 0 lo)).take (HT.sIx xs.length xs.length hi-HT.sIx xs.length 0 lo)
def rL (lo hi:Option Int):PyData->Option PyData
 | .list ds=>some (.list (eX ds lo hi))
 | .tuple ds=>some (.tuple (eX ds lo hi))
 | .str x=>if x.length<=sizeLine then some (.str (Txt.slice x lo hi)) else none
 | _=>none
theorem a6.drop {H:Hp}:∀{ds:List PyData} {xs:List V} (n:Nat),a6 K H ds xs->a6 K H (ds.drop n) (xs.drop n)
 | ds,xs,0,h=>h
 | [],xs,n+1,h=>by simp only[a6]at h;subst h;simp[a6]
 | d::ds,xs,n+1,h=>by
  simp only[a6]at h
  obtain⟨y,r,rfl,h1,h2⟩:=h
  simp only[List.drop_succ_cons]
  exact a6.drop n h2
theorem a6.cut {H:Hp}{ds:List PyData}{xs:List V}(h:a6 K H ds xs)(lo hi:Option Int):a6 K H (eX ds lo hi) (cS xs lo hi):=by
 unfold eX cS
 rw[h.length]
 exact a6.take _ (a6.drop _ h)
def Cs (K:Fg):V->Option Int->Option Int->Hp->VK->Prop:=λx lo hi H Q=>∃fp B d r,BOk H B/\F9 K fp B H d x/\rL lo hi d=some r/\∀v H',d8 H H'->a7 K (hid H' B) r v->Q v H'
theorem ku {v:Value}{o:Option Int}(h:IsPart v o):∃p:Option (Int×Tok),v=partValue p/\p.map (·.1)=o:=by
 cases h with
 | none=>exact⟨none,rfl,rfl⟩
 | int i t=>exact⟨some (i,t),rfl,rfl⟩
theorem AH (hK:X.K=K):SlR X (Cs K):=by
 intro pins s σ H x v vl vu lo hi sl Q I rx hs pl pu h
 obtain⟨fp,B,d,r,bk,h1,hf,q⟩:=h
 cases d <;> simp only[rL]at hf <;> try cases hf
 .rename_i x0
  cases h1
  split at hf
  .rename_i hl
   cases hf
   obtain⟨t,rfl⟩:=rx
   obtain⟨l,rfl,rfl⟩:=ku pl
   obtain⟨m,rfl,rfl⟩:=ku pu
   refine⟨"str",_,KL.lookup,Ls _ _ _,getItem_meets (Ls _ _ _) (by decide) KL F.entry_str_getitem (F.args_str_getitem_2 _ _) (meets_str_getitem_slice _ t sl l m none rfl) ⟨hs,?_⟩⟩
   have z:=q _ H (d8.refl H) a7.st
   unfold sliceMade
   unfold Txt.slice at z
   have e:slicePicked x0 l m none=Builtin.Str.strSliceIndices (l.map (·.1)) (m.map (·.1)) 1 x0.length:=rfl
   rw[e]
   simp only[Option.map_none,Mc]
   split
   .rename_i hc
    rw[HH hc]at z
    exact⟨.str x0,H,I,⟨t,rfl⟩,z⟩
   .rename_i hc
    rw[HM hc]at z
    refine⟨?_,⟨.str _,H,I.tok _,⟨_,rfl⟩,z⟩⟩
    have:=Txt.slice_le x0 (l.map (·.1)) (m.map (·.1))
    unfold Txt.slice at this
    rw[HM hc]at this
    exact Im this hl
  .cases hf
 .obtain⟨a,xs,rfl,ha,hd⟩:=h1
  subst hK
  exact pd pins s σ H _ v vl vu lo hi sl Q I rx hs pl pu ⟨a,xs,rfl,SqL.of (c7 _ _ ha),λp hp=>q _ _ (d8.upd hp) (K1 bk hp (a6.cut hd lo hi))⟩
 .obtain⟨a,xs,rfl,ha,hd⟩:=h1
  refine tZ hK pins s σ H _ v vl vu lo hi sl Q I rx hs pl pu ⟨a,xs,rfl,ha.same c7,λz=>q _ H (d8.refl H) ?_,λ_ p hp=>q _ _ (d8.upd hp) (O7 bk hp (a6.cut hd lo hi))⟩
  have:=a6.cut hd lo hi
  rw[z.1]at this
  simp only[a7]
  exact⟨a,xs,rfl,ha,this⟩
end
section
variable [Feeds]{K:Fg}{X:Cx}{e:Expr}{te:TE}{m:DE->M PyData}{pos p2:Pos}
def TOd (K:Fg)(to:TO)(m:DE->M (Option Int)):Prop:=∀(G:GF) (B:List Addr) (E:DE) (F:FS) (σ:St) (H:Hp) (Q:Option Int->Hp->Prop) (d:Option Int) (F':FS),SitE K G B E F σ H->m E F=some (d,F') ->
 (∀H',Kp (j7 K G) H H'->FAt K G H' F'->Q d H')->to σ H Q
structure Eo (K:Fg) (X:Cx) (e:Option Expr) (to:TO) (m:DE->M (Option Int)):Prop where
 po:PO X e to
 ok:TOd K to m
def oNo:DE->M (Option Int):=λ_ F=>some (none,F)
def Z6:PyData->Option Int
 | .int i=>some i
 | _=>none
theorem W4 {d:PyData}{i:Int}(h:Z6 d=some i):d = .int i:=by
 cases d <;> simp[Z6]at h
 rw[h]
def oI (a:DE->M PyData):DE->M (Option Int):=λE F=>(a E F).bind λp=>(Z6 p.1).bind λi=>some (some i,p.2)
theorem yT:Eo K X none pA oNo:=⟨pS,λG B E F σ H Q d F' I e q=>by cases e;exact q H Kp.refl I.fd⟩
theorem Bq (h:Ev K X e te m):Eo K X (some e) (yB te) (oI m):=⟨jC h.pe,λG B E F σ H Q d F' I e q=>by
 obtain⟨⟨x,F1⟩,e1,e⟩:=bS9 e
 obtain⟨i,e2,e⟩:=bS9 e
 cases e
 refine h.ok G B E F σ H _ x F1 I e1 λv H1 k1 f1 h1=>?_
 have:=W4 e2
 simp only at this
 subst this
 simp only[a7]at h1
 exact⟨i,h1,q H1 k1 f1⟩⟩
def oV (a:DE->M PyData)(l u:DE->M (Option Int)):DE->M PyData:=λE F=>(a E F).bind λp=>(l E p.2).bind λx=>(u E x.2).bind λy=>(rL x.1 y.1 p.1).bind λz=>some (z,y.2)
theorem uS {lo hi:Option Expr}{tl th:TO}{ml mh:DE->M (Option Int)}(he:Eb K X e te m)(hl:Eo K X lo tl ml)(hh:Eo K X hi th mh)(hK:X.K=K:=by rfl):Ev K X (.Subscript e (.Slice lo hi none p2) pos) (tSl (Cs K) te tl th) (oV m ml mh) :=
 ⟨mw (AH hK) he.pe hl.po hh.po,λG B E F σ H Q d F' I e q=>by
  obtain⟨⟨x,F1⟩,e1,e⟩:=bS9 e
  obtain⟨⟨l,F2⟩,e2,e⟩:=bS9 e
  obtain⟨⟨h,F3⟩,e3,e⟩:=bS9 e
  obtain⟨z,e4,e⟩:=bS9 e
  cases e
  refine he.ok G B E F σ H _ x F1 I e1 λv H1 k1 f1 h1=>?_
  refine hl.ok G B E F1 σ H1 _ l F2 (I.step k1 f1) e2 λH2 k2 f2=>?_
  refine hh.ok G B E F2 σ H2 _ h F3 (I.step (k1.trans k2) f2) e3 λH3 k3 f3=>?_
  exact⟨j7 K G,B,x,_,q5 I.bk ((k1.trans k2).trans k3) f3,h1.step (k2.trans k3) I.fB,e4,λu H4 s hu=>q u H4 (((k1.trans k2).trans k3).trans (Kp.same s)) (f3.same s) hu⟩⟩
end
section
variable {K:Fg}{X:Cx}
def W0:List PyData->Option PyData
 | [.list ds]=>some (.int ds.length)
 | [.tuple ds]=>some (.int ds.length)
 | [.str x]=>if x.length<=sizeLine then some (.int x.length) else none
 | _=>none
theorem S8 (hK:X.K=K):C5 X (.builtin "len") (rDN K W0):=by
 intro pins s σ H xs us Q I r h
 obtain⟨fp,B,ds,z,bk,h1,hf,q⟩:=h
 unfold W0 at hf
 split at hf <;> try cases hf
 .obtain⟨v,rfl,a,xs,rfl,ha,hd⟩:=hW h1 rfl
  have:=q _ H (d8.refl H) a7.int
  rw[<-hd.length]at this
  exact aN hK pins s σ H _ us Q I r ⟨a,xs,rfl,.inl (SqL.of (c7 _ _ ha)),this⟩
 .obtain⟨v,rfl,a,xs,rfl,ha,hd⟩:=hW h1 rfl
  have:=q _ H (d8.refl H) a7.int
  rw[<-hd.length]at this
  exact aN hK pins s σ H _ us Q I r ⟨a,xs,rfl,.inr (ha.same c7),this⟩
 .rename_i x0
  obtain⟨v,rfl,hv⟩:=hW h1 rfl
  have hv:v = .str x0:=hv
  subst hv
  split at hf
  .rename_i hl
   cases hf
   exact jD pins s σ H _ us Q I r ⟨_,rfl,hl,q _ H (d8.refl H) a7.int⟩
  .cases hf
def K7:List PyData->Option PyData
 | [.list ds]=>some (.tuple ds)
 | [.tuple ds]=>some (.tuple ds)
 | _=>none
theorem T6 (hK:X.K=K):C5 X (.type "tuple") (rDN K K7):=by
 intro pins s σ H xs us Q I r h
 obtain⟨fp,B,ds,z,bk,h1,hf,q⟩:=h
 unfold K7 at hf
 split at hf <;> try cases hf
 .obtain⟨v,rfl,a,xs,rfl,ha,hd⟩:=hW h1 rfl
  exact X7 hK pins s σ H _ us Q I r ⟨a,xs,rfl,.inl ⟨SqL.of (c7 _ _ ha),λl hl=>q _ _ (d8.upd hl) (O7 bk hl hd)⟩⟩
 .obtain⟨v,rfl,hv⟩:=hW h1 rfl
  have hv':=hv.tup
  obtain⟨a,xs,rfl,ha,hd⟩:=hv
  exact X7 hK pins s σ H _ us Q I r ⟨a,xs,rfl,.inr ⟨ha.same c7,q _ H (d8.refl H) hv'⟩⟩
def V8:List PyData->Option (List Int)
 | []=>some []
 | .int i::r=>(V8 r).map (i :: ·)
 | _=>none
theorem Y8:∀{ds:List PyData} {ns:List Int},V8 ds=some ns->ds=ns.map .int
 | [],ns,h=>by cases h;rfl
 | d::r,ns,h=>by
  cases d <;> simp only[V8]at h <;> try cases h
  obtain⟨m,e,rfl⟩:=Ip.mp h
  rw[Y8 e];rfl
theorem nD {H:Hp}:∀{ns:List Int} {xs:List V},a6 K H (ns.map .int) xs->xs=ns.map V.int
 | [],xs,h=>by simpa only[Jb,a6] using h
 | n::ns,xs,h=>by
  simp only[HX,a6]at h
  obtain⟨x,r,rfl,h1,h2⟩:=h
  simp only[a7]at h1
  rw[h1,nD h2];rfl
def bG (d:PyData):Bool:=d.showable && !d.hasDict&&decide (d.depth<=50)&&decide (d.shown.length<=16000000)
end
end
section
section
variable {K:Fg}{X:Cx}
theorem nY {d:PyData}(h:bG d=true):Shw d 50 16000000:=by
 unfold bG at h
 simp only[JS,JE,Bool.not_eq_true']at h
 exact⟨h.1.1.1,h.1.1.2,h.1.2,h.2⟩
def hU:List PyData->Option PyData
 | [d]=>if bG d=true then some (.str d.shown) else none
 | _=>none
theorem fD (hK:X.K=K)(hg:X.A.guards=some [])(hu:X.A.units+64<cLine):C5 X (.builtin "repr") (rDN K hU):=by
 intro pins s σ H xs us Q I r h
 obtain⟨fp,B,ds,z,bk,h1,hf,q⟩:=h
 unfold hU at hf
 split at hf <;> try cases hf
 rename_i d
 split at hf
 .rename_i ho
  cases hf
  obtain⟨v,rfl,hv⟩:=hW h1 rfl
  have sh:=nY ho
  have qq:=q _ H (d8.refl H) a7.st
  cases d with
  | tuple ds =>
   have hd:=hv.dat
   obtain⟨a,xs,rfl,ha,_⟩:=hv
   exact gg hK hg hu pins s σ H _ us Q I r ⟨a,_,rfl,hd,sh,qq⟩
  | list ds =>
   have hd:=hv.dat
   obtain⟨a,xs,rfl,ha,_⟩:=hv
   exact gg hK hg hu pins s σ H _ us Q I r ⟨a,_,rfl,hd,sh,qq⟩
  | none =>
   cases(show v = .non from hv)
   obtain⟨u,rfl,rfl⟩:=N9 r
   exact PySem.P.repr_of_none ⟨.str _,H,I.tok _,⟨_,rfl⟩,by simpa only[PyData.shown] using qq⟩
  | bool b =>
   cases(show v = .bl b from hv)
   obtain⟨u,rfl,rfl⟩:=N9 r
   exact PySem.P.repr_of_bool ⟨.str _,H,I.tok _,⟨_,rfl⟩,by simpa only[PyData.shown] using qq⟩
  | int i =>
   cases(show v = .int i from hv)
   obtain⟨u,rfl,t,rfl⟩:=N9 r
   have hl:i.natAbs.log2<1920:=by have:=sh.sh;simpa only[PyData.showable,JE] using this
   exact PySem.P.repr_of_int hl ⟨.str _,H,I.tok _,⟨_,rfl⟩,by simpa only[PyData.shown] using qq⟩
  | str x =>
   cases(show v = .str x from hv)
   obtain⟨u,rfl,t,rfl⟩:=N9 r
   have hl:(reprText x).length<=sizeLine:=by have:=sh.ln;simp only[PyData.shown]at this;exact Im this (by rw[Io];decide)
   exact PySem.P.repr_of_str ⟨.str _,H,I.tok _,⟨_,rfl⟩,by simpa only[PyData.shown] using qq⟩ hl
  | dict b=>exact(show False from hv).elim
 .cases hf
def mv:List PyData->Option PyData
 | [.int i]=>some (.int i)
 | [.bool b]=>some (.int (if b then 1 else 0))
 | _=>none
theorem vi:C5 X (.type "int") (rDN K mv):=by
 intro pins s σ H xs us Q I r h
 obtain⟨fp,B,ds,z,bk,h1,hf,q⟩:=h
 unfold mv at hf
 split at hf <;> try cases hf
 .rename_i i
  obtain⟨v,rfl,hv⟩:=hW h1 rfl
  cases(show v = .int i from hv)
  exact iZ pins s σ H _ us Q I r (.inl ⟨i,rfl,q _ H (d8.refl H) a7.int⟩)
 .rename_i b
  obtain⟨v,rfl,hv⟩:=hW h1 rfl
  cases(show v = .bl b from hv)
  exact iZ pins s σ H _ us Q I r (.inr ⟨b,rfl,q _ H (d8.refl H) a7.int⟩)
def jF:List Int->Int
 | []=>0
 | [a]=>a
 | a::b::r=>min a (jF (b::r))
theorem mC:∀{ns:List Int},ns≠[]->jF ns∈ns/\∀n∈ns,jF ns<=n
 | [],h=>absurd rfl h
 | [a],_=>⟨by simp[jF],by simp[jF]⟩
 | a::b::r,_=>by
  obtain⟨h1,h2⟩:=mC (ns:=b::r) (by simp)
  rw[jF]
  constructor
  .by_cases h:a<=jF (b::r)
   .rw[Int.min_eq_left h];simp
   .rw[Int.min_eq_right (by omega)];exact HA _ h1
  .intro n hn
   rcases HB.mp hn with rfl | hn
   .exact Int.min_le_left _ _
   .exact Int.le_trans (Int.min_le_right _ _) (h2 n hn)
def Aq:List PyData->Option PyData
 | [.tuple ds]=>(V8 ds).bind λns=>if ns=[] then none else some (.int (jF ns))
 | [.int i,.int j]=>some (.int (if j<i then j else i))
 | _=>none
theorem Af (hK:X.K=K)(hc:X.calm=true):C5 X (.builtin "min") (rDN K Aq):=by
 intro pins s σ H xs us Q I r h
 obtain⟨fp,B,ds,z,bk,h1,hf,q⟩:=h
 unfold Aq at hf
 split at hf <;> try cases hf
 .obtain⟨ns,e,hf⟩:=bS9 hf
  split at hf
  .cases hf
  .rename_i hne
   cases hf
   cases Y8 e
   obtain⟨v,rfl,a,xs,rfl,ha,hd⟩:=hW h1 rfl
   cases nD hd
   refine qT hK hc pins s σ H _ us Q I r ⟨a,ns,rfl,ha.same c7,hne,λm hm hle=>?_⟩
   obtain⟨m1,m2⟩:=mC hne
   have:m=jF ns:=by have:=hle _ m1;have:=m2 _ hm;omega
   rw[this]
   exact q _ H (d8.refl H) a7.int
 .rename_i i j
  obtain⟨v,w,rfl,hv,hw⟩:=CZ h1 rfl
  cases(show v = .int i from hv)
  cases(show w = .int j from hw)
  exact rR hc pins s σ H _ us Q I r ⟨i,j,rfl,q _ H (d8.refl H) a7.int⟩
end
section
variable [Feeds]{K:Fg}{X:Cx}{e:Expr}{te:TE}{m:DE->M PyData}{pos p p2 p3:Pos}
def yP (T:String):PyData->Option PyData:=λd=>some (.bool (isT (tyD d) T))
def BK (K:Fg)(T:String)(te:TE):TE:=tCB (yU K) (l9 te (l9 (tC (.ty T)) C4))
theorem yi (T:String){x:Str}(he:Eb K X e te m)(hT:T∈["bool","int","str","list","tuple"])(hm:X.mg "isinstance" = none)(hmx:X.mg x=none)(hv:bootBuiltins x=some (.type T))(hg:Gl X "isinstance":=by rfl)(hgx:Gl X x:=by rfl)(hK:X.K=K:=by rfl)(hn:x ≠ "__name__":=by decide)(hd:(x == ("__debug__":Str))=false:=by decide)
  (hs:starEach [e,.Name x p2] X.env=(false,eval e X.env)::starEach [.Name x p2] X.env:=by rfl) (hs2:starEach [.Name x p2] X.env=(false,eval (.Name x p2) X.env)::starEach [] X.env:=by rfl) (hpl:(backTo pos (starEach [.Name x p2] X.env)).any (·.1)=false:=by rfl) :
  Ev K X (.Call (.Name "isinstance" p) [e,.Name x p2] [] pos) (BK K T te) (s1 (yP T) m) :=
 ⟨Q9 (rW hK) hg hm PyProof.Rows.boot_isinstance (f9 he.pe (f9 (wJ (v:=.ty T) hgx hmx hv rfl hn hd) j9 hs2) hs) (by decide) (by decide) hs hpl,λG B E F σ H Q d F' I e q=>by
  obtain⟨⟨y,F1⟩,e1,e⟩:=bS9 e
  obtain⟨z,e2,e⟩:=bS9 e
  cases e
  cases e2
  exact he.ok G B E F σ H _ y F1 I e1 λv H1 k1 f1 h1=>⟨v,T,y,rfl,h1.dat,hT,q _ H1 k1 f1 a7.bl⟩⟩
end
section
variable {K:Fg}{X:Cx}
def isD (neg:Bool):PyData->PyData->Option PyData
 | d,.none=>some (.bool (match d with | .none=>!neg | _=>neg))
 | _,_=>none
theorem qo {fp B:List Addr}{H:Hp}{d:PyData}{x:V}(h:F9 K fp B H d x):decide (x = .non)=(match d with | .none=>true | _=>false):=by
 cases d with
 | none=>cases(show x = .non from h);rfl
 | bool b=>cases(show x = .bl b from h);rfl
 | int b=>cases(show x = .int b from h);rfl
 | str b=>cases(show x = .str b from h);rfl
 | tuple ds=>obtain⟨a,xs,rfl,_⟩:=h;rfl
 | list ds=>obtain⟨a,xs,rfl,_⟩:=h;rfl
 | dict b=>exact(show False from h).elim
theorem sQ:OpR X (compareOp .Is) (rD2 K (isD false)):=by
 intro pins s σ H x y v u Q I rx ry h
 obtain⟨fp,B,d,e,r,bk,h1,h2,hf,q⟩:=h
 cases e <;> simp only[isD]at hf <;> try cases hf
 cases(show y = .non from h2)
 have z:=q (.bl (decide (x = .non))) H (d8.refl H) (by rw[qo h1];cases d <;> exact a7.bl)
 exact An pins s σ H _ _ v u Q I rx ry ⟨rfl,z⟩
theorem tj:OpR X (compareOp .IsNot) (rD2 K (isD true)):=by
 intro pins s σ H x y v u Q I rx ry h
 obtain⟨fp,B,d,e,r,bk,h1,h2,hf,q⟩:=h
 cases e <;> simp only[isD]at hf <;> try cases hf
 cases(show y = .non from h2)
 have z:=q (.bl (!decide (x = .non))) H (d8.refl H) (by rw[qo h1];cases d <;> exact a7.bl)
 exact xN pins s σ H _ _ v u Q I rx ry ⟨rfl,z⟩
end
end
section
section
variable [Feeds]{K:Fg}{X:Cx}{e:Expr}{te:TE}{m:DE->M PyData}{pos p p2 p3:Pos}
def uN (x:Str):Str:=⟨((Builtin.Str.strSliceIndices none none (-1) x.length).filterMap (x.cps[·]?)).toArray⟩
theorem vU (x:Str):(uN x).length<=x.length:=by
 have h:=sliceIndicesBy_le none none (-1) (by decide) x.length
 have h2:=List.length_filterMap_le (λ(i:Nat)=>x.cps[i]?) (Builtin.Str.strSliceIndices none none (-1) x.length)
 have e:(uN x).length=((Builtin.Str.strSliceIndices none none (-1) x.length).filterMap (x.cps[·]?)).length:=by simp[uN,Str.length]
 rw[e]
 exact Im h2 h
def uV:PyData->Option PyData
 | .list ds=>some (.list ds.reverse)
 | .tuple ds=>some (.tuple ds.reverse)
 | .str x=>if x.length<=sizeLine then some (.str (uN x)) else none
 | _=>none
theorem xh {j}(hK:X.K=K)(he:PE X e te):PE X (.Subscript e (.Slice none none (some (.UnaryOp .USub (.Constant (.int 1) j p) p3)) p2) pos) (tUn (rD1 K uV) te):=by
 subst hK
 intro pins s σ H Q I h
 refine Subscript_ (thn (he pins s σ H _ I h) λv s1 ⟨x,H1,I1,r1,q1⟩=>?_)
 refine wpAny_Slice ?_
 rw[evalPart_none]
 refine HS (HS ?_)
 refine thn (jC (yF tT f7) pins s1 σ H1 (λo H2=>o=some (-1)/\H2=H1) I1 ⟨1,rfl,_,rfl,rfl,rfl⟩) λvst s2 ⟨o,H2,I2,ps,ho,hH⟩=>?_
 subst ho hH
 obtain⟨fp,B,d,r,bk,h1,hf,q⟩:=q1
 have I4:Inv X pins σ H2 { s2 with heap:=s2.heap.push { cls:=.type "slice",data:=.fields #[.none,.none,vst] } }:=I2.kept (t':=s2.toks) λb ob q=>HI _ q
 show wpAny (model X.prog X.w) X.A (subscriptTail e (.Slice none none (some (.UnaryOp .USub (.Constant (.int 1) j p) p3)) p2) v (.ref s2.heap.objs.size)) (EP X pins σ Q) X.xe { s2 with heap:=s2.heap.push { cls:=.type "slice",data:=.fields #[.none,.none,vst] } }
 cases d <;> simp only[uV]at hf <;> try cases hf
 .rename_i x0
  cases(show x = .str x0 from h1)
  split at hf
  .rename_i hl
   cases hf
   obtain⟨t,rfl⟩:=r1
   obtain⟨l,rfl,e2⟩:=ku ps
   obtain⟨⟨i0,t0⟩,rfl⟩:∃z,l=some z:=by
    cases l with
    | none=>cases e2
    | some z=>exact⟨z,rfl⟩
   simp at e2
   subst e2
   have z:=q _ H2 (d8.refl H2) a7.st
   refine tail_any (ops:=[.str x0 t,.ref s2.heap.objs.size]) (Ls _ _ _) KL.lookup (getItem_meets (Ls _ _ _) (by decide) KL F.entry_str_getitem (F.args_str_getitem_2 _ _) (meets_str_getitem_slice x0 t s2.heap.objs.size none none (some (-1,t0)) rfl) ⟨⟨_,Ii _ rfl,rfl,rfl⟩,?_⟩) (by with_unfolding_all rfl)
   unfold sliceMade
   rw[HM (by simp)]
   exact⟨Im (vU x0) hl,⟨.str (uN x0),H2,I4.tok _,⟨_,rfl⟩,z⟩⟩
  .cases hf
 .obtain⟨a,xs,rfl,ha,hd⟩:=h1
  cases r1
  obtain⟨its,r,ht,hz⟩:=I4.list (SqL.of (K:=X.K) (c7 _ _ ha))
  have hlen:=r.length
  refine tail_any (ops:=[.ref a,.ref s2.heap.objs.size]) ht.isList.typeIs slot_list_getitem.lookup (wpAny_getItem_list_slice ht.isList (LK ..) .none .none ps (by decide) ?_ (by rw[HQ] <;> omega)) (by with_unfolding_all rfl)
  rw[PySem.W.krv_pick]
  refine⟨.ref _,_,I4.laid (t':=s2.toks) (o:=.lst xs.reverse) (λb ob q=>HI _ q) (HK _) ?_,rfl,?_⟩
  .exact⟨by rw[LC];exact hz,its.reverse,0,r.reverse,Ii _ rfl⟩
  .have hf:=I4.hok.fresh (HK _)
   exact q _ _ (d8.upd hf) (K1 bk hf (a6.reverse hd))
 .obtain⟨a,xs,rfl,ha,hd⟩:=h1
  cases r1
  obtain⟨its,r,ht,hz⟩:=I4.tuple (ha.same c7)
  have hlen:its.toArray.size=xs.length:=by rw[HQ];exact r.length.symm
  refine tail_any (ops:=[.ref a,.ref s2.heap.objs.size]) ht.typeIs IF.lookup (HT.getItem_tuple_rev ht (LK ..) ps ?_ (by rw[hlen];exact hz)) (by with_unfolding_all rfl)
  refine⟨.ref _,_,I4.laid (t':=s2.toks) (o:=.tup xs.reverse) (λb ob q=>HI _ q) (HK _) ?_,rfl,?_⟩
  .exact⟨by rw[LC];exact hz,_,r.reverse,Lp _ _⟩
  .have hf:=I4.hok.fresh (HK _)
   exact q _ _ (d8.upd hf) (O7 bk hf (a6.reverse hd))
theorem zd {j}(h:Eb K X e te m)(hK:X.K=K:=by rfl):Ev K X (.Subscript e (.Slice none none (some (.UnaryOp .USub (.Constant (.int 1) j p) p3)) p2) pos) (tUn (rD1 K uV) te) (s1 uV m):=⟨xh hK h.pe,Ca h.ok⟩
end
end
end L3
namespace L3
open PySem PySem.Spec L2
theorem dg:fillsNumberSlot (.type "tuple") "mul" = pure false :=
 fillsNumberSlot_seq (id:="tuple.__mul__") (r:=some (.builtin "tuple.__rmul__")) Kv.lookup (by decide +kernel) F.slot_tuple_rmul.lookup (by decide +kernel)
theorem km:seqRepeat? (.type "tuple")=pure (some (.builtin "tuple.__mul__")):=by
 unfold seqRepeat?
 rw[seqSlot_of (T:="tuple") (name:="__mul__") (id:="tuple.__mul__") Kv.lookup (by decide +kernel),seqSlot_of (T:="tuple") (name:="__rmul__") (id:="tuple.__rmul__") F.slot_tuple_rmul.lookup (by decide +kernel)]
 rfl
theorem fX (a:Int)(t:Tok)(l:Addr)(items:Array Value)(n:Nat)(dd:Option Addr)(sl:Array (Option Value)) :
  Meets (Builtin.«int.__rmul__» ⟨[.int a t,.ref l],[]⟩) (λ_ R s=>s.heap.get? l=some { cls:=.type "tuple",dict:=dd,data:=.seq items n,slots:=sl }/\R (.ok (.ret Value.notImplemented)) s) :=
 .of_wp λprog w A R s h=>by obtain⟨hp,g,d,tk,os⟩:=s;obtain⟨hl,h⟩:=h;wp_walk;exact⟨_,rfl,h⟩
theorem og (l:Addr)(items:Array Value)(n:Nat)(dd:Option Addr)(sl:Array (Option Value))(k:Int)(u:Tok)(hc0:(decide (k < -(2 ^ 63))||decide (k >= 2 ^ 63))=false)(hc1:(items.isEmpty||k == 1)=true) :
  Meets (Builtin.«tuple.__mul__» ⟨[.ref l,.int k u],[]⟩) (λ_ R s=>s.heap.get? l=some { cls:=.type "tuple",dict:=dd,data:=.seq items n,slots:=sl }/\R (.ok (.ret (.ref l))) s) :=
 .of_wp λprog w A R s h=>by
  obtain⟨hp,g,d,tk,os⟩:=s;obtain⟨hl,h⟩:=h
  have f1:=AutoSeq1.idx_int;have f2:=KM;have f3:=Lj;have f4:=KW;have f5:=KY
  wp_walk
  refine Lz (by rw[hc0];rfl) ?_
  wp_walk
  exact⟨_,rfl,h⟩
theorem nW (l:Addr)(items:Array Value)(n:Nat)(dd:Option Addr)(sl:Array (Option Value))(k:Int)(u:Tok)(hc0:(decide (k < -(2 ^ 63))||decide (k >= 2 ^ 63))=false)(hc1:(items.isEmpty||k == 1)=false)(hc2:(decide (k<=0)||items.isEmpty)=true) :
  Meets (Builtin.«tuple.__mul__» ⟨[.ref l,.int k u],[]⟩) (λ_ R s=>s.heap.get? l=some { cls:=.type "tuple",dict:=dd,data:=.seq items n,slots:=sl }/\R (.ok (.ret (.ref s.heap.objs.size))) { s with heap:=s.heap.push { cls:=.type "tuple",data:=.seq #[] } }) :=
 .of_wp λprog w A R s h=>by
  obtain⟨hp,g,d,tk,os⟩:=s;obtain⟨hl,h⟩:=h
  have f1:=AutoSeq1.idx_int;have f2:=KM;have f3:=Lj;have f4:=KW;have f5:=KY
  wp_walk
  refine Lz (by rw[hc0];rfl) ?_
  wp_walk
  exact⟨_,rfl,h⟩
theorem oK (l:Addr)(items:Array Value)(n:Nat)(dd:Option Addr)(sl:Array (Option Value))(k:Int)(u:Tok)(hc0:(decide (k < -(2 ^ 63))||decide (k >= 2 ^ 63))=false)(hc1:(items.isEmpty||k == 1)=false)(hc2:(decide (k<=0)||items.isEmpty)=false)(hc3:decide ((items.size:Int)*k > (2 ^ 63-1) / 8)=false)(hc4:Builtin.Tuple.tupleTooMany ((items.size:Int)*k)=false)
  (hsz:(List.foldl (λx1 x2=>x1++x2) #[] (List.replicate k.toNat items)).size<=sizeLine) :
  Meets (Builtin.«tuple.__mul__» ⟨[.ref l,.int k u],[]⟩) (λ_ R s=>s.heap.get? l=some { cls:=.type "tuple",dict:=dd,data:=.seq items n,slots:=sl }/\R (.ok (.ret (.ref s.heap.objs.size))) { s with heap:=s.heap.push { cls:=.type "tuple",data:=.seq (List.foldl (λx1 x2=>x1++x2) #[] (List.replicate k.toNat items)) } }) :=
 .of_wp λprog w A R s h=>by
  obtain⟨hp,g,d,tk,os⟩:=s;obtain⟨hl,h⟩:=h
  have f1:=AutoSeq1.idx_int;have f2:=KM;have f3:=Lj;have f4:=KW;have f5:=KY
  wp_walk
  refine Lz (by rw[hc0];rfl) ?_
  wp_walk
  refine Lz hc3 ?_
  wp_walk
  exact⟨_,rfl,h⟩
section
open PyProof.Rows
variable {K:Fg}{X:Cx}
def gA:PyData->PyData->Option PyData
 | .tuple xs,.int k=>if -(2 ^ 63)<=k/\k<2 ^ 63/\xs.length*k.toNat<=sizeLine then some (.tuple (List.replicate k.toNat xs).flatten) else none
 | d,e=>zo d e
theorem xE (hK:X.K=K):OpR X (binaryOp .Mult) (λx y H Q=>∃l k xs,x = .ref l/\y = .int k/\SqT K H l xs /\ -(2 ^ 63)<=k/\k<2 ^ 63/\xs.length*k.toNat<=sizeLine /\
  ((List.replicate k.toNat xs).flatten=xs->Q (.ref l) H)/\∀p,H p=none->Q (.ref p) (upd H p (.tup (List.replicate k.toNat xs).flatten))):=by
 subst hK
 intro pins s σ H x y v u Q I rx ry h
 obtain⟨l,k,xs,rfl,rfl,hq,h1,h2,hz,q0,q1⟩:=h
 cases rx
 obtain⟨t,rfl⟩:=ry
 obtain⟨its,r,p,hl⟩:=I.tuple hq
 have hlen:=r.length
 obtain⟨⟨cls,dd,data,sl⟩,ho,hc,n,hd⟩:=id p
 simp only at hc hd
 subst hc hd
 have hc0:(decide (k < -(2 ^ 63))||decide (k >= 2 ^ 63))=false:=by
  rw[IL (by omega),IL (by omega)];rfl
 have e1:s.TypeIs (.ref l) "tuple":=⟨_,ho,rfl⟩
 refine wpAny_binaryOp_repeat_ref (T:="tuple") (U:="int") (by decide) e1 (λs'=>typeIs_int s' k t) dg F.fills_int_mul Lu km F.slot_int_index.lookup
  (Kj Lu (typeIs_int s k t) F.entry_int_rmul (F.args_int_rmul_2 _ _) (fX k t l its.toArray n dd sl) ⟨ho,rfl,e1,?_⟩)
 by_cases c1:(its.toArray.isEmpty||k == 1)=true
 .refine Kj Kv e1 F.entry_tuple_mul (LN _ _) (og l its.toArray n dd sl k t hc0 c1) ⟨ho,⟨.ref l,H,I,rfl,q0 ?_⟩⟩
  simp only[Bool.or_eq_true,beq_iff_eq]at c1
  rcases c1 with c1 | c1
  .have:xs=[]:=by
    cases r with
    | nil=>rfl
    | cons a b=>simp at c1
   subst this
   simp
  .subst c1
   simp
 .have c1:(its.toArray.isEmpty||k == 1)=false:=by simpa using c1
  by_cases c2:(decide (k<=0)||its.toArray.isEmpty)=true
  .refine Kj Kv e1 F.entry_tuple_mul (LN _ _) (nW l its.toArray n dd sl k t hc0 c1 c2) ⟨ho,?_⟩
   have ez:(List.replicate k.toNat xs).flatten=[]:=by
    rw[Bool.or_eq_false_iff]at c1
    rw[c1.1,Bool.or_false]at c2
    have:k.toNat=0:=by have:=Iw c2;omega
    rw[this];rfl
   have z:=q1 _ I.fresh
   rw[ez]at z
   exact⟨.ref _,_,I.laid (t':=s.toks) (o:=.tup []) (λb ob q=>HI _ q) (HK _) ⟨IG _,[],.nil,Lp _ _⟩,rfl,z⟩
  .have c2:(decide (k<=0)||its.toArray.isEmpty)=false:=by simpa using c2
   have hk0:0<k:=by
    rw[Bool.or_eq_false_iff]at c2
    have:=IW c2.1
    omega
   have hm:(its.toArray.size:Int)*k<=sizeLine:=by
    obtain⟨j,rfl⟩:∃j:Nat,k=j:=⟨k.toNat,by omega⟩
    rw[HQ,<-hlen]
    simp only[Jq]at hz
    exact_mod_cast hz
   have hfold:List.foldl (λx1 x2=>x1++x2) #[] (List.replicate k.toNat its.toArray)=(List.replicate k.toNat its).flatten.toArray:=by
    have:=dh its k.toNat []
    rw[Jh]at this
    exact this
   have hsl:(sizeLine:Int)<=(2 ^ 63-1) / 8:=by rw[Io];decide
   refine Kj Kv e1 F.entry_tuple_mul (LN _ _) (oK l its.toArray n dd sl k t hc0 c1 c2 (IL (by omega)) (IL (by omega)) ?_) ⟨ho,?_⟩
   .rw[hfold,HQ,jK,<-hlen,Nat.mul_comm];exact hz
   .rw[hfold]
    exact⟨.ref _,_,I.laid (t':=s.toks) (o:=.tup (List.replicate k.toNat xs).flatten) (λb ob q=>HI _ q) (HK _) ⟨by rw[jK,Nat.mul_comm];exact hz,_,r.rep k.toNat,Lp _ _⟩,rfl,q1 _ I.fresh⟩
theorem qf (hK:X.K=K):OpR X (binaryOp .Mult) (rD2 K gA):=by
 intro pins s σ H x y v u Q I rx ry h
 obtain⟨fp,B,d,e,r,bk,h1,h2,hf,q⟩:=h
 unfold gA at hf
 split at hf
 .rename_i ds k
  obtain⟨a,xs,rfl,ha,hd⟩:=h1
  cases(show y = .int k from h2)
  split at hf
  .rename_i hc
   cases hf
   refine xE hK pins s σ H _ _ v u Q I rx ry ⟨a,k,xs,rfl,rfl,ha.same c7,hc.1,hc.2.1,by rw[hd.length];exact hc.2.2,λe=>q _ H (d8.refl H) ?_,λp hp=>q _ _ (d8.upd hp) (O7 bk hp (a6.rep hd _))⟩
   have:=a6.rep hd k.toNat
   rw[e]at this
   simp only[a7]
   exact⟨a,xs,rfl,ha,this⟩
  .cases hf
 .exact Bl pins s σ H x y v u Q I rx ry ⟨fp,B,d,e,r,bk,h1,h2,hf,q⟩
end
end L3
namespace L3
open PySem PySem.Spec PyProof.Rows L2
section
section
variable [Feeds]
def dH (K:Fg)(P:Hp->List Addr->Prop)(J:It)(items:List PyData):Prop:=∀H B,P H B ->
 (∀i d,items[i]? = some d->J.go i H/\∀x H2,J.yld i H x H2->d8 H H2/\(BOk H B->a7 K (hid H2 B) d x))/\J.stop items.length H
def TId (K:Fg)(wi:TI)(mi:DE->M (List PyData)):Prop:=∀(G:GF) (B:List Addr) (E:DE) (F:FS) (σ:St) (H:Hp) (R:It->Hp->Prop) (ds:List PyData) (F':FS),SitE K G B E F σ H->mi E F=some (ds,F') ->
 (∀J H',Kp (j7 K G) H H'->FAt K G H' F'->dH K (λH2 B2=>d8 (hid H' B) (hid H2 B2)) J ds->R J H')->wi σ H R
def TIs (K:Fg)(wi:TI)(mi:DE->M (List PyData)):Prop:=∀(G:GF) (B:List Addr) (E:DE) (F:FS) (σ:St) (H:Hp) (R:It->Hp->Prop) (ds:List PyData) (F':FS),SitE K G B E F σ H->mi E F=some (ds,F') ->
 (∀J H',Kp (j7 K G) H H'->FAt K G H' F'->dH K (λH2 B2=>Kp (j7 K G) H' H2/\d8 (hid H' B) (hid H2 B2)) J ds->R J H')->wi σ H R
structure Ei (K:Fg) (X:Cx) (tg iter:Expr) (wi:TI) (mi:DE->M (List PyData)):Prop where
 pi:PI X tg iter wi
 ok:TId K wi mi
structure Eib (K:Fg) (X:Cx) (tg iter:Expr) (wi:TI) (mi:DE->M (List PyData)):Prop where
 pi:PI X tg iter wi
 ok:TIs K wi mi
variable {K:Fg}{X:Cx}{tg iter e:Expr}{te:TE}{m:DE->M PyData}{pos p:Pos}
def mQ (K:Fg)(tl:TE):TI:=λσ H R=>tl σ H λx H1=>∃a,x = .ref a/\(((∃xs,SqL K H1 a xs)/\R (Itl K a) H1)\/((∃xs,SqT K H1 a xs)/\R (Itt K a) H1))
theorem nI {l:Expr}{tl:TE}(hK:X.K=K)(hl:PE X l tl):PI X tg l (mQ K tl):=by
 subst hK
 intro pins s σ H R I h
 refine thn (hl pins s σ H _ I h) λv s1 ⟨x,H1,I1,r1,q1⟩=>?_
 obtain⟨a,e,q⟩:=q1
 subst e
 cases r1
 rcases q with ⟨⟨xs,hq⟩,q⟩ | ⟨⟨xs,hq⟩,q⟩
 .obtain⟨its,rv,p,hz⟩:=I1.list hq
  refine wpAny_pyIter_list p.isList ?_
  refine⟨s1.heap.objs.size,[s1.heap.objs.size],_,_,H1,rfl,I1.kept (t':=s1.toks) λb o e=>HI _ e,rF a _,⟨_,Ii _ rfl,rfl,rfl⟩,λb hb=>?_,q⟩
  have e:b=s1.heap.objs.size:=by simpa using hb
  subst e
  exact I1.fpOk (HK _) (I1.hok.fresh (HK _))
 .obtain⟨its,rv,p,hz⟩:=I1.tuple hq
  refine Km (show s1.heap.IsTuple a its.toArray from p) ?_
  refine⟨s1.heap.objs.size,[s1.heap.objs.size],_,_,H1,rfl,I1.kept (t':=s1.toks) λb o e=>HI _ e,ny a _,⟨_,Ii _ rfl,rfl,rfl⟩,λb hb=>?_,q⟩
  have e:b=s1.heap.objs.size:=by simpa using hb
  subst e
  exact I1.fpOk (HK _) (I1.hok.fresh (HK _))
def iF:PyData->Option (List PyData)
 | .list ds=>some ds
 | .tuple ds=>some ds
 | _=>none
def X4 (a:DE->M PyData):DE->M (List PyData):=λE F=>(a E F).bind λp=>(iF p.1).bind λds=>some (ds,p.2)
theorem a6.item {H:Hp}{ds:List PyData}{xs:List V}{i:Nat}{d:PyData}(h:a6 K H ds xs)(e:ds[i]? = some d):∃v,xs[i]? = some v/\a7 K H d v:=by
 obtain⟨hj,_⟩:=HG.mp e
 have hx:xs[i]? = some (xs[i]'(by rw[h.length];exact hj)):=by simp
 obtain⟨d',h1,h2⟩:=h.get hx
 rw[e]at h1;cases h1
 exact⟨_,hx,h2⟩
theorem kc {P:Hp->List Addr->Prop}{a:Addr}{ds:List PyData}{xs:List V}(h:∀H B,P H B->H a=some (.lst xs)/\a6 K (hid H B) ds xs):dH K P (Itl K a) ds:=λH B hp=>by
 obtain⟨h1,h2⟩:=h H B hp
 refine⟨λi d e=>?_,⟨xs,SqL.of h1,by rw[h2.length];exact HK _⟩⟩
 obtain⟨v,e1,e2⟩:=a6.item h2 e
 refine⟨⟨xs,v,SqL.of h1,e1⟩,λx H2 y=>?_⟩
 obtain⟨rfl,y⟩:=y
 have:=y xs (SqL.of h1)
 rw[e1]at this;cases this
 exact⟨d8.refl _,λ_=>e2⟩
theorem oH {P:Hp->List Addr->Prop}{a:Addr}{ds:List PyData}{xs:List V}(h:∀H B,P H B->SqT K H a xs/\a6 K (hid H B) ds xs):dH K P (Itt K a) ds:=λH B hp=>by
 obtain⟨h1,h2⟩:=h H B hp
 refine⟨λi d e=>?_,⟨xs,h1,by rw[h2.length];exact HK _⟩⟩
 obtain⟨v,e1,e2⟩:=a6.item h2 e
 refine⟨⟨xs,v,h1,e1⟩,λx H2 y=>?_⟩
 obtain⟨rfl,y⟩:=y
 have:=y xs h1
 rw[e1]at this;cases this
 exact⟨d8.refl _,λ_=>e2⟩
theorem jz (h:Ev K X e te m)(hK:X.K=K:=by rfl):Ei K X tg e (mQ K te) (X4 m):=⟨nI hK h.pe,λG B E F σ H R ds F' I e q=>by
 obtain⟨⟨y,F1⟩,e1,e⟩:=bS9 e
 obtain⟨z,e2,e⟩:=bS9 e
 cases e
 refine h.ok G B E F σ H _ y F1 I e1 λv H1 k1 f1 h1=>?_
 cases y with
 | list ys =>
  cases e2
  simp only[a7]at h1
  obtain⟨a,xs,rfl,ha,hd⟩:=h1
  refine⟨a,rfl,.inl ⟨⟨xs,SqL.of (c7 _ _ ha)⟩,q _ H1 k1 f1 (kc λH2 B2 s=>⟨c7 _ _ (s _ _ ha),hd.same s⟩)⟩⟩
 | tuple ys =>
  cases e2
  simp only[a7]at h1
  obtain⟨a,xs,rfl,ha,hd⟩:=h1
  refine⟨a,rfl,.inr ⟨⟨xs,ha.same c7⟩,q _ H1 k1 f1 (oH λH2 B2 s=>⟨(ha.same s).same c7,hd.same s⟩)⟩⟩
 | _=>cases e2⟩
theorem js (h:Eb K X e te m)(hK:X.K=K:=by rfl):Eib K X tg e (mQ K te) (X4 m):=⟨nI hK h.pe,λG B E F σ H R ds F' I e q=>by
 obtain⟨⟨y,F1⟩,e1,e⟩:=bS9 e
 obtain⟨z,e2,e⟩:=bS9 e
 cases e
 refine h.ok G B E F σ H _ y F1 I e1 λv H1 k1 f1 h1=>?_
 cases y with
 | list ys =>
  cases e2
  obtain⟨a,xs,rfl,ha,hd⟩:=h1
  refine⟨a,rfl,.inl ⟨⟨xs,SqL.of (c7 _ _ ha)⟩,q _ H1 k1 f1 (kc λH2 B2 k=>⟨c7 _ _ (k.1.hid (B:=j7 K G) (λ_ z=>z) _ _ ha),hd.same k.2⟩)⟩⟩
 | tuple ys =>
  cases e2
  obtain⟨a,xs,rfl,ha,hd⟩:=h1
  refine⟨a,rfl,.inr ⟨⟨xs,ha.same c7⟩,q _ H1 k1 f1 (oH λH2 B2 k=>⟨(ha.same k.2).same c7,hd.same k.2⟩)⟩⟩
 | _=>cases e2⟩
def V4 (lo:Int)(n:Nat):List PyData:=(List.range n).map λ(i:Nat)=>.int (lo+i)
theorem zP {P:Hp->List Addr->Prop}{lo:Int}{n:Nat}:dH K P (Itr lo n) (V4 lo n):=λH B _=>by
 refine⟨λi d e=>?_,by show n<=_;simp[V4]⟩
 unfold V4 at e
 rw[HP]at e
 obtain⟨j,e1,rfl⟩:=Ip.mp e
 obtain⟨hj,e2⟩:=HG.mp e1
 simp at hj e2
 subst e2
 refine⟨hj,λx H2 y=>?_⟩
 obtain⟨rfl,rfl⟩:=y
 exact⟨d8.refl _,λ_=>a7.int⟩
def N0:List PyData->Option (List PyData)
 | [.int j]=>if -(2 ^ 62)<=j/\j<2 ^ 62 then some (V4 0 j.toNat) else none
 | _=>none
def ju:List PyData->Option (List PyData)
 | [.int i,.int j]=>if -(2 ^ 62)<=i/\i<2 ^ 62 /\ -(2 ^ 62)<=j/\j<2 ^ 62 then some (V4 i (j-i).toNat) else none
 | _=>none
def eE (a:DE->M (List PyData)):DE->M (List PyData):=λE F=>(a E F).bind λp=>(N0 p.1).bind λds=>some (ds,p.2)
theorem cm {a:Expr}{ta:TA}{ms:DE->M (List PyData)}(h:Ea K X [a] ta ms)(hm:X.mg "range" = none)(hg:Gl X "range":=by rfl)(hs:starEach [a] X.env=[(false,eval a X.env)]:=by rfl):Ei K X tg (.Call (.Name "range" p) [a] [] pos) (vv ta) (eE ms):=⟨iU hg hm h.pa hs,λG B E F σ H R ds F' I e q=>by
 obtain⟨⟨ys,F1⟩,e1,e⟩:=bS9 e
 obtain⟨z,e2,e⟩:=bS9 e
 cases e
 refine h.ok G B E F σ H _ ys F1 I e1 λvs H1 k1 f1 h1=>?_
 unfold N0 at e2
 split at e2
 .rename_i j hj
  split at e2
  .rename_i hc
   cases e2
   have hj:ys=[.int j]:=hj
   subst hj
   simp only[a6]at h1
   obtain⟨x,r,rfl,h2,rfl⟩:=h1
   simp only[a7]at h2
   subst h2
   exact⟨j,rfl,hc.1,hc.2,q _ H1 k1 f1 zP⟩
  .cases e2
 .cases e2⟩
def TGd (K:Fg)(g:TG)(bd:PyData->DE->Option DE):Prop:=∀(G:GF) (B:List Addr) (E:DE) (F:FS) (σ:St) (H:Hp) (x:V) (d:PyData) (E':DE) (Q:St->Hp->Prop),SitE K G B E F σ H->a7 K (hid H B) d x->bd d E=some E' ->
 (∀σ',SitE K G B E' F σ' H->(∀i:Nat,(∀y,E'[i]? ≠ some (some (.dat y)))->E'[i]? = E[i]? /\ σ'[i]? = σ[i]?)->Q σ' H)->g x σ H Q
def Dw (K:Fg)(g:TGs)(bd:List PyData->DE->Option DE):Prop:=∀(G:GF) (B:List Addr) (E:DE) (F:FS) (σ:St) (H:Hp) (xs:List V) (ds:List PyData) (E':DE) (Q:St->Hp->Prop),SitE K G B E F σ H->a6 K (hid H B) ds xs->bd ds E=some E' ->
 (∀σ',SitE K G B E' F σ' H->(∀i:Nat,(∀y,E'[i]? ≠ some (some (.dat y)))->E'[i]? = E[i]? /\ σ'[i]? = σ[i]?)->Q σ' H)->g xs σ H Q
structure Eg (K:Fg) (X:Cx) (tg:Expr) (g:TG) (bd:PyData->DE->Option DE):Prop where
 pg:PG X tg g
 ok:TGd K g bd
structure Egs (K:Fg) (X:Cx) (tgs:List Expr) (g:TGs) (bd:List PyData->DE->Option DE):Prop where
 pg:PGs X tgs g
 ok:Dw K g bd
def bN (i:Nat):PyData->DE->Option DE:=λd E=>if i<E.length then some (E.set i (some (.dat d))) else none
theorem SitE.set {G:GF}{B:List Addr}{E:DE}{F:FS}{σ:St}{H:Hp}{i:Nat}{d:PyData}{v:V}(I:SitE K G B E F σ H)(h:a7 K (hid H B) d v)(hi:i<E.length):SitE K G B (E.set i (some (.dat d))) F (σ.set i (some v)) H:=by
 refine⟨I.fd,I.fB,I.bk,by rw[Jg,Jg];exact I.ln,λj x e=>?_⟩
 have hs:i < σ.length:=by rw[<-I.ln];exact hi
 by_cases hj:i=j
 .subst hj
  rw[HR hi]at e
  cases e
  exact⟨v,by rw[HR hs],h⟩
 .rw[HL hj]at e
  rw[HL hj]
  exact I.loc j x e
theorem v8 {i:Nat}{x:Str}(hN:X.N.Nodup)(hi:X.N[i]? = some x:=by rfl)(hx:Loc X.env.scope x:=by first | exact Or.inl rfl | exact Or.inr rfl)(hf:X.fn x=true\/X.env.scope.names.lookup x=some .local:=by first | exact .inl rfl | exact .inr rfl | assumption):Eg K X (.Name x pos) (D3 i) (bN i):=⟨ff hN hi hx hf,λG B E F σ H x d E' Q I h e q=>by
 unfold bN at e
 split at e
 .rename_i hl
  cases e
  refine q _ (I.set h hl) λj hj=>?_
  by_cases hij:i=j
  .subst hij
   exact absurd (HR hl) (hj d)
  .rw[HL hij,HL hij]
   exact⟨rfl,rfl⟩
 .cases e⟩
def M1:List PyData->DE->Option DE:=λds E=>if ds.isEmpty then some E else none
def i8 (a:PyData->DE->Option DE)(r:List PyData->DE->Option DE):List PyData->DE->Option DE
 | d::ds,E=>(a d E).bind λE1=>r ds E1
 | [],_=>none
theorem B9:Egs K X [] Ay M1:=⟨pJ,λG B E F σ H xs ds E' Q I h e q=>by
 cases ds with
 | nil=>cases e;simp only[a6]at h;exact⟨h,q σ I λ_ _=>⟨rfl,rfl⟩⟩
 | cons d r=>cases e⟩
theorem e9 {es:List Expr}{t:TG}{u:TGs}{ba:PyData->DE->Option DE}{br:List PyData->DE->Option DE}(h1:Eg K X e t ba)(h2:Egs K X es u br)
  (hs:(assignEach (e::es) X.env).map (·.2)=assign e X.env::(assignEach es X.env).map (·.2):=by rfl):Egs K X (e::es) (qt t u) (i8 ba br):=⟨fR h1.pg h2.pg hs,λG B E F σ H xs ds E' Q I h e q=>by
 cases ds with
 | nil=>cases e
 | cons d r =>
  obtain⟨E1,e1,e⟩:=bS9 e
  simp only[a6]at h
  obtain⟨x,rr,rfl,hx,hr⟩:=h
  refine⟨x,rr,rfl,h1.ok G B E F σ H x d E1 _ I hx e1 λσ1 I1 k1=>?_⟩
  refine h2.ok G B E1 F σ1 H rr r E' _ I1 hr e λσ2 I2 k2=>q σ2 I2 λi hi=>?_
  obtain⟨a1,a2⟩:=k2 i hi
  obtain⟨b1,b2⟩:=k1 i (λy z=>hi y (a1.trans z))
  exact⟨a1.trans b1,a2.trans b2⟩⟩
def M3 (n:Nat)(r:List PyData->DE->Option DE):PyData->DE->Option DE
 | .tuple ds,E=>if ds.length=n then r ds E else none
 | _,_=>none
theorem K2 {es:List Expr}{k:Nat}{t:TGs}{n:Nat}{br:List PyData->DE->Option DE}(hc:X.calm=true)(h:Egs K X es t br)(hK:X.K=K:=by rfl)
  (hn:(assignEach es X.env).length=n:=by rfl) (hst:(assignEach es X.env).findIdx? (·.1)=none:=by rfl):Eg K X (.Tuple es k pos) (xI K n t) (M3 n br):=⟨pK hK hc h.pg hn hst,λG B E F σ H x d E' Q I hd e q=>by
 cases d <;> simp only[M3]at e <;> try cases e
 split at e
 .rename_i hl
  simp only[a7]at hd
  obtain⟨a,xs,rfl,ha,hx⟩:=hd
  exact⟨a,xs,rfl,ha.same c7,by rw[hx.length];exact hl,h.ok G B E F σ H xs _ E' Q I hx e q⟩
 .cases e⟩
def eZ (k:Nat)(cap:List Nat)(E:DE):DE:=List.replicate k none++cap.map λj=>(E[j]?).join
theorem SitE.cap {G:GF}{B:List Addr}{E:DE}{F:FS}{σ:St}{H:Hp}(I:SitE K G B E F σ H)(k:Nat)(cap:List Nat):SitE K G B (eZ k cap E) F (aM k cap σ) H:=by
 refine⟨I.fd,I.fB,I.bk,by simp[eZ,aM],λi x e=>?_⟩
 unfold eZ at e
 by_cases hi:i<k
 .rw[Ib (by simpa using hi),IJ,HH hi]at e
  cases e
 .rw[Ig (by simpa using hi),Jj,HP]at e
  obtain⟨j,hj,hv⟩:=Ip.mp e
  have hE:E[j]? = some (some x):=by
   cases q:E[j]? with
   | none=>rw[q]at hv;cases hv
   | some o=>rw[q]at hv;exact IK some hv
  obtain⟨v,h1,h2⟩:=I.loc j x hE
  refine⟨v,?_,h2⟩
  unfold aM
  rw[Ig (by simpa using hi),Jj,HP,hj,Kl,h1]
  rfl
theorem SitE.more {G:GF}{B:List Addr}{E:DE}{F:FS}{σ:St}{H:Hp}{D:Addr}{o:HO}(I:SitE K G B E F σ H)(hD:H D=none):SitE K G (D::B) E F σ (upd H D o):=by
 have hn:D ∉ B:=I.bk.nin hD
 have e1:hid (upd H D o) (D::B)=hid H B:=by
  funext b
  by_cases hb:b=D
  .subst hb;rw[u7 HV,d7 hn,hD]
  .by_cases hB:b∈B
   .rw[u7 hB,u7 (HA _ hB)]
   .rw[d7 hB,d7 (by simp[hb,hB]),a8 hb]
 refine⟨I.fd.same (d8.upd hD),λb hb=>HA _ (I.fB b hb),λb hb=>?_,I.ln,λi x e=>?_⟩
 .rcases HB.mp hb with rfl | hb
  .exact⟨o,b8⟩
  .obtain⟨u,e⟩:=I.bk b hb
   exact⟨u,by rw[a8 (d6 e hD)];exact e⟩
 .obtain⟨v,h1,h2⟩:=I.loc i x e
  refine⟨v,h1,?_⟩
  cases x with
  | dat d=>show a7 K (hid (upd H D o) (D::B)) d v;rw[e1];exact h2
  | feed=>exact h2
  | fn _=>exact h2
  | adr _=>exact h2
  | own ds =>
   obtain⟨a,xs,ea,hB,hf,ha,hd⟩:=h2
   exact⟨a,xs,ea,HA _ hB,hf,by rw[a8 (d6 ha hD)];exact ha,by rw[e1];exact hd⟩
theorem SitE.wr {G:GF}{B:List Addr}{E:DE}{F:FS}{σ:St}{H:Hp}{D:Addr}{o:HO}(I:SitE K G (D::B) E F σ H)(hf:D ∉ j7 K G)(hown:∀(i:Nat) (ds:List PyData),E[i]? = some (some (DV.own ds))->σ[i]? ≠ some (some (V.ref D))){acc:List V}(hD:H D=some (.lst acc)):SitE K G (D::B) E F σ (upd H D o):=by
 have e1:hid (upd H D o) (D::B)=hid H (D::B):=U8 HV
 refine⟨I.fd.congr λb hb=>a8 (λe=>hb.elim (λhb=>hf (e▸hb)) λ⟨φ,q⟩=>by rw[e,hD]at q;cases q),I.fB,λb hb=>?_,I.ln,λi x e=>?_⟩
 .by_cases h:b=D
  .subst h;exact⟨o,b8⟩
  .rw[a8 h];exact I.bk b hb
 .obtain⟨v,h1,h2⟩:=I.loc i x e
  refine⟨v,h1,?_⟩
  cases x with
  | dat d=>show a7 K (hid (upd H D o) (D::B)) d v;rw[e1];exact h2
  | feed=>exact h2
  | fn _=>exact h2
  | adr _=>exact h2
  | own ds =>
   obtain⟨a,xs,rfl,hB,hfa,ha,hd⟩:=h2
   have hne:a≠D:=λz=>hown i ds e (by rw[<-z];exact h1)
   exact⟨a,xs,rfl,hB,hfa,by rw[a8 hne];exact ha,by rw[e1];exact hd⟩
structure Ets (K:Fg) (X:Cx) (ifs:List Expr) (tt:TT) (m:DE->M Bool):Prop where
 pts:PTs X ifs tt
 ok:TTd K tt m
def cw:DE->M Bool:=λ_ F=>some (true,F)
theorem fw:Ets K X [] BW cw:=⟨wO,λG B E F σ H Q b F' I e q=>by cases e;exact q H Kp.refl I.fd⟩
theorem wX {c:Expr}{tt:TT}{mt:DE->M Bool}(h:Et K X c tt mt):Ets K X [c] tt mt:=⟨wg h.pt,h.ok⟩
def U6 (bd:PyData->DE->Option DE)(mt:DE->M Bool)(me:DE->M PyData):List PyData->DE->M (List PyData)
 | [],_,F=>some ([],F)
 | d::r,E,F=>(bd d E).bind λE1=>(mt E1 F).bind λp=>if p.1=true then(me E1 p.2).bind λy=>(U6 bd mt me r E1 y.2).bind λz=>some (y.1::z.1,z.2) else U6 bd mt me r E1 p.2
def sLC (mi:DE->M (List PyData))(k:Nat)(cap:List Nat)(bd:PyData->DE->Option DE)(mt:DE->M Bool)(me:DE->M PyData):DE->M PyData:=λE F =>
 (mi E F).bind λp=>if p.1.length<=sizeLine then(U6 bd mt me p.1 (eZ k cap E) p.2).bind λz=>some (.list z.1,z.2) else none
def yR (K:Fg)(G:GF)(B:List Addr)(D:Addr)(H1:Hp)(bd:PyData->DE->Option DE)(mt:DE->M Bool)(me:DE->M PyData)(items whole:List PyData)(Fz:FS)(i:Nat)(σ:St)(acc:List V)(H:Hp):Prop :=
 ∃E F done rest,SitE K G (D::B) E F σ H/\H D=some (.lst acc)/\Kp (j7 K G) H1 H/\(∀(j:Nat) (ds:List PyData),E[j]? = some (some (DV.own ds))->σ[j]? ≠ some (some (V.ref D)))/\a6 K (hid H (D::B)) done acc/\U6 bd mt me (items.drop i) E F=some (rest,Fz)/\whole=done++rest/\done.length<=i
theorem Bv {wi:TI}{mi:DE->M (List PyData)}{k:Nat}{cap:List Nat}{g:TG}{bd:PyData->DE->Option DE}{tt:TT}{mt:DE->M Bool}{me:DE->M PyData}(hi:TIs K wi mi)(hg:TGd K g bd)(ht:TTd K tt mt)(he:TEd K te me) :
  TEd K (tLC wi k cap g tt te) (sLC mi k cap bd mt me):=λG B E F σ H Q d F' I e q=>by
 obtain⟨⟨items,F1⟩,e1,e⟩:=bS9 e
 split at e
 .rename_i hsz
  obtain⟨⟨whole,F2⟩,e2,e⟩:=bS9 e
  cases e
  refine hi G B E F σ H _ items F1 I e1 λJ H1 k1 f1 ok D hD=>?_
  have I1:SitE K G B E F1 σ H1:=I.step k1 f1
  have hBD:D ∉ B:=I1.bk.nin hD
  have hfD:D ∉ j7 K G:=λz=>hBD (I.fB D z)
  have hsz:items.length<=sizeLine:=hsz
  have stab:∀{H':Hp},Kp (j7 K G) H1 H'->Kp (j7 K G) H1 H'/\d8 (hid H1 B) (hid H' (D::B)):=λ{H'} k=>⟨k,λb o eb=>by
   by_cases hb:b∈B
   .rw[u7 hb]at eb;cases eb
   .rw[d7 hb]at eb
    rw[d7 (by
     intro z
     rcases HB.mp z with rfl | z
     .rw[hD]at eb;cases eb
     .exact hb z)]
    exact k b o eb λz=>hb (I.fB b z)⟩
  refine uo items.length (yR K G B D H1 bd mt me items whole F2) ?_ ?_ ?_ ?_ ?_
  .refine⟨eZ k cap E,F1,[],whole,(I1.cap k cap).more hD,b8,Kp.upd hD,λj ds ej z=>?_,a6.nil,e2,rfl,HK _⟩
   obtain⟨v,v1,a,xs,rfl,_,_,ha,_⟩:=(I1.cap k cap).loc j _ ej
   rw[v1]at z
   cases z
   rw[hD]at ha;cases ha
  .rintro i σ' acc H' hlt ⟨E',F3,done,rest,I2,hD2,k2,ow,hd2,e3,ew,hdi⟩
   exact((ok H' (D::B) (stab k2)).1 i items[i] (by simp[hlt])).1
  .rintro σ' acc H' ⟨E',F3,done,rest,I2,hD2,k2,ow,hd2,e3,ew,hdi⟩
   exact(ok H' (D::B) (stab k2)).2
  .rintro i σ' acc H' hlt ⟨E',F3,done,rest,I2,hD2,k2,ow,hd2,e3,ew,hdi⟩ x H2 y R hR
   obtain⟨s2,hx⟩:=((ok H' (D::B) (stab k2)).1 i items[i] (by simp[hlt])).2 x H2 y
   have hx':=hx I2.bk
   rw[JA hlt,U6]at e3
   obtain⟨E4,e4,e3⟩:=bS9 e3
   obtain⟨⟨b,F5⟩,e5,e3⟩:=bS9 e3
   have I3:SitE K G (D::B) E' F3 σ' H2:=I2.step (Kp.same s2) (I2.fd.same s2)
   refine hg G (D::B) E' F3 σ' H2 x items[i] E4 _ I3 hx' e4 λσ4 I4 fr=>?_
   have ow4:∀(j:Nat) (ds:List PyData),E4[j]? = some (some (DV.own ds))->σ4[j]? ≠ some (some (V.ref D)):=λj ds ej=>by
    obtain⟨a1,a2⟩:=fr j λy z=>by rw[ej]at z;cases z
    rw[a2];exact ow j ds (a1▸ej)
   refine ht G (D::B) E4 F3 σ4 H2 _ b F5 I4 e5 λH5 k5 f5=>?_
   have kall:Kp (j7 K G) H1 H5:=(k2.trans (Kp.same s2)).trans k5
   have I5:SitE K G (D::B) E4 F5 σ4 H5:=I4.step k5 f5
   have hD5:H5 D=some (.lst acc):=k5 D _ (s2 D _ hD2) hfD
   have hd5:a6 K (hid H5 (D::B)) done acc:=(hd2.same ((Kp.same s2).hid (fp:=[]) (by simp))).same (k5.hid I4.fB)
   cases b with
   | false =>
    exact⟨hD5,hR _ _ _ ⟨E4,F5,done,rest,I5,hD5,kall,ow4,hd5,e3,ew,by omega⟩⟩
   | true =>
    obtain⟨⟨yd,F6⟩,e6,e3⟩:=bS9 e3
    obtain⟨⟨zs,F7⟩,e7,e3⟩:=bS9 e3
    cases e3
    refine he G (D::B) E4 F5 σ4 H5 _ yd F6 I5 e6 λv H6 k6 f6 h6=>?_
    have hD6:H6 D=some (.lst acc):=k6 D _ hD5 hfD
    have I6:SitE K G (D::B) E4 F6 σ4 H6:=I5.step k6 f6
    have hd6:=hd5.same (k6.hid I5.fB)
    have hlen:acc.length<sizeLine:=by rw[hd2.length];omega
    refine⟨hD6,hlen,hR _ _ _ ⟨E4,F6,done++[yd],zs,I6.wr hfD ow4 hD6,b8,λb o eb nb=>?_,ow4,?_,e7,by rw[ew];simp,by simp;omega⟩⟩
    .have:=k6 b o (kall b o eb nb) nb
     rw[a8];exact this
     intro z;subst z;rw[hD]at eb;cases eb
    .rw[U8 HV]
     exact hd6.snoc h6
  .rintro σ' acc H' ⟨E',F3,done,rest,I2,hD2,k2,ow,hd2,e3,ew,hdi⟩
   rw[Kw,U6]at e3
   cases e3
   rw[IE]at ew
   subst ew
   refine q _ H' (k1.trans k2) I2.fd ?_
   refine a7.lst (by rw[d7 hBD];exact hD2) (hd2.same (G6 λb hb=>HA _ hb))
 .cases e
theorem CJ {elt:Expr}{ifs:List Expr}{scope osc:Scope}{N:List Str}{k:Nat}{cap:List Nat}{wi:TI}{g:TG}{tt:TT}{mi:DE->M (List PyData)}{bd:PyData->DE->Option DE}{mt:DE->M Bool}{me:DE->M PyData}
  (hc:X.calm=true) (hosc:X.env.scope=osc) (hcap:Caps X.N osc N k cap scope) (hi:Eib K X tg iter wi mi)
  (hg:∀cl C ex pins s H,Eg K (cxC X N scope cl C ex pins s H) tg g bd)
  (ht:∀cl C ex pins s H,Ets K (cxC X N scope cl C ex pins s H) ifs tt mt)
  (he:∀cl C ex pins s H,Ev K (cxC X N scope cl C ex pins s H) elt te me)
  (hs:∀x,foldedSetIterable iter X.env x=pure x:=by intro _;rfl) :
  Ev K X (.ListComp elt [⟨tg,iter,ifs,0⟩] scope pos) (tLC wi k cap g tt te) (sLC mi k cap bd mt me) :=
 ⟨ub hc hosc hcap hi.pi (λcl C ex pins s H=>(hg cl C ex pins s H).pg) (λcl C ex pins s H=>(ht cl C ex pins s H).pts) (λcl C ex pins s H=>(he cl C ex pins s H).pe) hs,
  Bv hi.ok (hg [] 0 [] [] X.s₀ X.H₀).ok (ht [] 0 [] [] X.s₀ X.H₀).ok (he [] 0 [] [] X.s₀ X.H₀).ok⟩
end
end
section
section
variable [Feeds]
inductive Out where
 | nx (E:DE) | rt (d:PyData) | bk (E:DE) | ct (E:DE)
structure Sit (K:Fg) (G:GF) (B0:List Addr) (H0:Hp) (E:DE) (F:FS) (σ:St) (H:Hp):Prop where
 ex:∃B,(∀b∈B0,b∈B)/\(∀b∈B,b∈B0\/H0 b=none)/\SitE K G B E F σ H
 fB:∀b∈j7 K G,b∈B0
 kp:Kp (j7 K G) H0 H
 own:∀(i:Nat) (ds:List PyData) (a:Addr),E[i]? = some (some (DV.own ds))->σ[i]? = some (some (V.ref a))->H0 a=none/\a ∉ B0
 inj:∀(i j:Nat) (ds es:List PyData) (a:Addr),E[i]? = some (some (DV.own ds))->E[j]? = some (some (DV.own es))->σ[i]? = some (some (V.ref a))->σ[j]? = some (some (V.ref a))->i=j
def Cg (K:Fg)(G:GF)(B0:List Addr)(H0:Hp)(F:FS)(D:Ends):Out->Prop
 | .nx E=>∀σ H,Sit K G B0 H0 E F σ H->D.nx σ H
 | .bk E=>∀σ H,Sit K G B0 H0 E F σ H->D.bk σ H
 | .ct E=>∀σ H,Sit K G B0 H0 E F σ H->D.ct σ H
 | .rt d=>∀v H,Kp (j7 K G) H0 H->FAt K G H F->a7 K (hid H B0) d v->D.rt v H
def TSd (K:Fg)(ts:TS)(m:DE->M Out):Prop:=∀(G:GF) (B0:List Addr) (H0:Hp) (E:DE) (F:FS) (σ:St) (H:Hp) (D:Ends) (r:Out) (F':FS),Sit K G B0 H0 E F σ H->m E F=some (r,F')->Cg K G B0 H0 F' D r->ts D σ H
structure Ss (K:Fg) (X:Cx) (st:Stmt) (ts:TS) (m:DE->M Out):Prop where
 ps:PS X st ts
 ok:TSd K ts m
structure Sss (K:Fg) (X:Cx) (sts:List Stmt) (ts:TS) (m:DE->M Out):Prop where
 ps:PSs X sts ts
 ok:TSd K ts m
variable {K:Fg}{X:Cx}{a b c e tg iter:Expr}{es:List Expr}{st:Stmt}{sts rest:List Stmt}{ta tb te:TE}{ma mb m:DE->M PyData}{t u:TS}{mt mu:DE->M Out}{pos pos' p p2:Pos}
theorem Sit.step {G:GF}{B0:List Addr}{H0:Hp}{E:DE}{F F':FS}{σ:St}{H H':Hp}(S:Sit K G B0 H0 E F σ H)(k:Kp (j7 K G) H H')(f:FAt K G H' F'):Sit K G B0 H0 E F' σ H':=by
 obtain⟨B,s,sn,I⟩:=S.ex
 exact⟨⟨B,s,sn,I.step k f⟩,S.fB,S.kp.trans k,S.own,S.inj⟩
def mNx:DE->M Out:=λE F=>some (.nx E,F)
def mSq (a b:DE->M Out):DE->M Out:=λE F=>(a E F).bind λp=>match p.1 with
 | .nx E1=>b E1 p.2
 | o=>some (o,p.2)
theorem G8:Sss K X [] uC mNx:=⟨fE,λG B0 H0 E F σ H D r F' S e q=>by cases e;exact q σ H S⟩
theorem d5 (h1:Ss K X st t mt)(h2:Sss K X rest u mu):Sss K X (st::rest) (N5 t u) (mSq mt mu):=⟨i9 h1.ps h2.ps,λG B0 H0 E F σ H D r F' S e q=>by
 obtain⟨⟨o,F1⟩,e1,e⟩:=bS9 e
 refine h1.ok G B0 H0 E F σ H _ o F1 S e1 ?_
 cases o with
 | nx E1=>exact λσ' H' S'=>h2.ok G B0 H0 E1 F1 σ' H' D r F' S' e q
 | rt d=>cases e;exact q
 | bk E1=>cases e;exact q
 | ct E1=>cases e;exact q⟩
theorem j4 (h1:Ss K X st t mt):Sss K X [st] t mt:=⟨z7 h1.ps,h1.ok⟩
def mRt (a:DE->M PyData):DE->M Out:=λE F=>(a E F).bind λp=>some (.rt p.1,p.2)
theorem p9 (h:Ev K X e te m):Ss K X (.Return (some e) pos) (qE te) (mRt m):=⟨W7 h.pe,λG B0 H0 E F σ H D r F' S e q=>by
 obtain⟨⟨d,F1⟩,e1,e⟩:=bS9 e
 cases e
 obtain⟨B,s,sn,I⟩:=S.ex
 exact h.ok G B E F σ H _ d F1 I e1 λv H1 k1 f1 h1=>q v H1 (S.kp.trans k1) f1 (h1.same (G6 s))⟩
def D7 (i:Nat)(a:DE->M PyData):DE->M Out:=λE F=>(a E F).bind λp=>(bN i p.1 E).bind λE1=>some (.nx E1,p.2)
theorem Sit.bind {G:GF}{B0 B:List Addr}{H0:Hp}{E E':DE}{F F':FS}{σ σ':St}{H:Hp}(S:Sit K G B0 H0 E F σ H)(s:∀b∈B0,b∈B)(sn:∀b∈B,b∈B0\/H0 b=none)(I:SitE K G B E' F' σ' H)(fr:∀i:Nat,(∀y,E'[i]? ≠ some (some (.dat y)))->E'[i]? = E[i]? /\ σ'[i]? = σ[i]?):Sit K G B0 H0 E' F' σ' H:=by
 refine⟨⟨B,s,sn,I⟩,S.fB,S.kp,λi ds a ei si=>?_,λi j ds es a ei ej si sj=>?_⟩
 .obtain⟨a1,a2⟩:=fr i λy z=>by rw[ei]at z;cases z
  exact S.own i ds a (a1▸ei) (a2▸si)
 .obtain⟨a1,a2⟩:=fr i λy z=>by rw[ei]at z;cases z
  obtain⟨b1,b2⟩:=fr j λy z=>by rw[ej]at z;cases z
  exact S.inj i j ds es a (a1▸ei) (b1▸ej) (a2▸si) (b2▸sj)
theorem tX {g:TG}{bd:PyData->DE->Option DE}(he:TEd K te m)(hg:TGd K g bd):TSd K (G9 te g) (λE F=>(m E F).bind λp=>(bd p.1 E).bind λE1=>some (.nx E1,p.2)):=λG B0 H0 E F σ H D r F' S e q=>by
 obtain⟨⟨d,F1⟩,e1,e⟩:=bS9 e
 obtain⟨E1,e2,e⟩:=bS9 e
 cases e
 obtain⟨B,s,sn,I⟩:=S.ex
 refine he G B E F σ H _ d F1 I e1 λv H1 k1 f1 h1=>?_
 have S1:=S.step k1 f1
 exact hg G B E F1 σ H1 v d E1 _ (I.step k1 f1) h1 e2 λσ' I' fr=>q σ' H1 (S1.bind s sn I' fr)
theorem jx (i:Nat):TGd K (D3 i) (bN i):=λG B E F σ H x d E' Q I h e q=>by
 unfold bN at e
 split at e
 .rename_i hl
  cases e
  refine q _ (I.set h hl) λj hj=>?_
  by_cases hij:i=j
  .subst hij
   exact absurd (HR hl) (hj d)
  .rw[HL hij,HL hij]
   exact⟨rfl,rfl⟩
 .cases e
theorem A3 (i:Nat){x:Str}(hN:X.N.Nodup)(he:Ev K X e te m)(hi:X.N[i]? = some x:=by rfl)(hx:Loc X.env.scope x:=by first | exact Or.inl rfl | exact Or.inr rfl)(hs:swapsWith e (some (.Name x pos')) pos.line X.env=pure false:=by rfl)(hf:X.fn x=true\/X.env.scope.names.lookup x=some .local:=by first | exact .inl rfl | exact .inr rfl | assumption) :
  Ss K X (.Assign [.Name x pos'] e pos) (G9 te (D3 i)) (D7 i m):=⟨G7 hN hi hx he.pe hs hf,tX he.ok (jx i)⟩
def bu (bd:PyData->DE->Option DE)(a:DE->M PyData):DE->M Out:=λE F=>(a E F).bind λp=>(bd p.1 E).bind λE1=>some (.nx E1,p.2)
theorem bA {g:TG}{bd:PyData->DE->Option DE}(he:Ev K X e te m)(hg:Eg K X tg g bd)(hs:swapsWithSole [tg] e pos.line X.env=pure false:=by rfl)(hw:swappedStores [tg] e X.env=pure none:=by rfl)
  (h1:(assignEach [tg] X.env).map (·.2)=[assign tg X.env]:=by rfl):Ss K X (.Assign [tg] e pos) (G9 te g) (bu bd m):=⟨M9 he.pe hg.pg hs hw h1,tX he.ok hg.ok⟩
theorem lJ (i:Nat){y:Str}{py:Pos}{elt:Expr}{ifs:List Expr}{scope osc:Scope}{N:List Str}{k:Nat}{cap:List Nat}{wi:TI}{g:TG}{tt:TT}{mi:DE->M (List PyData)}{bd:PyData->DE->Option DE}{mt:DE->M Bool}{me:DE->M PyData}
  (hN:X.N.Nodup) (hc:X.calm=true) (hosc:X.env.scope=osc) (hcap:Caps X.N osc N k cap scope) (hi:Eib K X tg iter wi mi)
  (hg:∀cl C ex pins s H,Eg K (cxC X N scope cl C ex pins s H) tg g bd)
  (ht:∀cl C ex pins s H,Ets K (cxC X N scope cl C ex pins s H) ifs tt mt)
  (he:∀cl C ex pins s H,Ev K (cxC X N scope cl C ex pins s H) elt te me)
  (hix:X.N[i]? = some y:=by rfl) (hLy:Loc X.env.scope y:=by first | exact Or.inl rfl | exact Or.inr rfl)
  (hs:∀x,foldedSetIterable iter X.env x=pure x:=by intro _;rfl) (hfy:X.fn y=true\/X.env.scope.names.lookup y=some .local:=by first | exact .inl rfl | exact .inr rfl | assumption)
  (hsw:swapsWith (.ListComp elt [⟨tg,iter,ifs,0⟩] scope p) (some (.Name y py)) pos.line X.env=pure true:=by rfl) :
  Ss K X (.Assign [.Name y py] (.ListComp elt [⟨tg,iter,ifs,0⟩] scope p) pos) (G9 (tLC wi k cap g tt te) (D3 i)) (D7 i (sLC mi k cap bd mt me)) :=
 ⟨vH hN hix hLy hc hosc hcap hi.pi (λcl C ex pins s H=>(hg cl C ex pins s H).pg) (λcl C ex pins s H=>(ht cl C ex pins s H).pts) (λcl C ex pins s H=>(he cl C ex pins s H).pe) hs hfy hsw,
  tX (Bv hi.ok (hg [] 0 [] [] X.s₀ X.H₀).ok (ht [] 0 [] [] X.s₀ X.H₀).ok (he [] 0 [] [] X.s₀ X.H₀).ok) (jx i)⟩
def mIf (c:DE->M Bool)(a b:DE->M Out):DE->M Out:=λE F=>(c E F).bind λp=>if p.1=true then a E p.2 else b E p.2
theorem O0 {x y:List Stmt}{tt:TT}{mc:DE->M Bool}(hc:Et K X c tt mc)(ha:Sss K X x t mt)(hb:Sss K X y u mu):Ss K X (.If c x y pos) (lO tt t u) (mIf mc mt mu):=⟨gM hc.pt ha.ps hb.ps,λG B0 H0 E F σ H D r F' S e q=>by
 obtain⟨⟨d,F1⟩,e1,e⟩:=bS9 e
 obtain⟨B,s,sn,I⟩:=S.ex
 refine hc.ok G B E F σ H _ d F1 I e1 λH1 k1 f1=>?_
 cases d with
 | true=>exact ha.ok G B0 H0 E F1 σ H1 D r F' (S.step k1 f1) e q
 | false=>exact hb.ok G B0 H0 E F1 σ H1 D r F' (S.step k1 f1) e q⟩
end
end
section
section
variable [Feeds]{K:Fg}{X:Cx}{a b c e tg iter:Expr}{es:List Expr}{st:Stmt}{sts rest:List Stmt}{ta tb te:TE}{ma mb m:DE->M PyData}{t u:TS}{mt mu:DE->M Out}{pos pos' p p2:Pos}
def G2 (H:Hp)(B B0:List Addr):Hp:=hid H (B.filter λb=>decide (b ∉ B0))
theorem L0 {H:Hp}{B B0:List Addr}{b:Addr}(h1:b∈B)(h2:b ∉ B0):G2 H B B0 b=none:=u7 (Iu.mpr ⟨h1,by simpa using h2⟩)
theorem B7 {H:Hp}{B B0:List Addr}{b:Addr}(h:b ∉ B\/b∈B0):G2 H B B0 b=H b:=d7 λz=>by
 obtain⟨z1,z2⟩:=Iu.mp z
 rcases h with h | h
 .exact h z1
 .simp at z2;exact z2 h
section
variable {G:GF}{B0 B:List Addr}{H0:Hp}{E E2:DE}{F F2:FS}{σ σ2:St}{H H2:Hp}
theorem Sit.base (S:Sit K G B0 H0 E F σ H)(s:∀b∈B0,b∈B)(sn:∀b∈B,b∈B0\/H0 b=none)(I:SitE K G B E F σ H):Sit K G B0 (G2 H B B0) E F σ H:=by
 refine⟨⟨B,s,λb hb=>?_,I⟩,S.fB,Kp.same c7,λi ds a ei si=>?_,S.inj⟩
 .by_cases h:b∈B0
  .exact .inl h
  .exact .inr (L0 hb h)
 .obtain⟨v,v1,a',xs,rfl,hB,_⟩:=I.loc i _ ei
  rw[v1]at si;cases si
  exact⟨L0 hB (S.own i ds _ ei v1).2,(S.own i ds _ ei v1).2⟩
theorem vE (S:Sit K G B0 H0 E F σ H)(sn:∀b∈B,b∈B0\/H0 b=none)(k:Kp (j7 K G) (G2 H B B0) H2):Kp (j7 K G) H0 H2:=λb o e n=>by
 refine k b o ?_ n
 rw[B7]
 .exact S.kp b o e n
 .by_cases hb:b∈B
  .rcases sn b hb with h | h
   .exact .inr h
   .rw[h]at e;cases e
  .exact .inl hb
theorem Sit.unbase (S:Sit K G B0 H0 E F σ H)(sn:∀b∈B,b∈B0\/H0 b=none)(S2:Sit K G B0 (G2 H B B0) E2 F2 σ2 H2):Sit K G B0 H0 E2 F2 σ2 H2:=by
 have no:∀b,G2 H B B0 b=none->b∈B0\/H0 b=none:=λb e=>by
  by_cases hb:b∈B
  .exact sn b hb
  .rw[B7 (.inl hb)]at e
   by_cases hf:b∈j7 K G
   .exact .inl (S.fB b hf)
   .cases q:H0 b with
    | none=>exact .inr rfl
    | some o=>rw[S.kp b o q hf]at e;cases e
 obtain⟨B2,s2,sn2,I2⟩:=S2.ex
 refine⟨⟨B2,s2,λb hb=>?_,I2⟩,S.fB,vE S sn S2.kp,λi ds a ei si=>?_,S2.inj⟩
 .rcases sn2 b hb with h | h
  .exact .inl h
  .exact no b h
 .obtain⟨h1,h2⟩:=S2.own i ds a ei si
  exact⟨(no a h1).resolve_left h2,h2⟩
end
def G1 (bd:PyData->DE->Option DE)(body:DE->M Out):List PyData->DE->M Out
 | [],E,F=>some (.nx E,F)
 | d::r,E,F=>(bd d E).bind λE1=>(body E1 F).bind λp=>match p.1 with
  | .nx E2=>G1 bd body r E2 p.2
  | .ct E2=>G1 bd body r E2 p.2
  | .bk E2=>some (.nx E2,p.2)
  | .rt d=>some (.rt d,p.2)
def bo (mi:DE->M (List PyData))(bd:PyData->DE->Option DE)(body:DE->M Out):DE->M Out:=λE F=>(mi E F).bind λp=>G1 bd body p.1 E p.2
theorem BN {wi:TI}{g:TG}{tb:TS}{mi:DE->M (List PyData)}{bd:PyData->DE->Option DE}{mb:DE->M Out}(hi:TId K wi mi)(hg:TGd K g bd)(hb:TSd K tb mb):TSd K (qW wi g tb) (bo mi bd mb):=λG B0 H0 E F σ H D r F' S e q=>by
 obtain⟨⟨items,F1⟩,e1,e⟩:=bS9 e
 obtain⟨B,s,sn,I⟩:=S.ex
 refine hi G B E F σ H _ items F1 I e1 λJ H1 k1 f1 ok=>?_
 have S1:=S.step k1 f1
 have I1:=I.step k1 f1
 have S1':=S1.base s sn I1
 have qn:∀{E2:DE} {F2:FS},r = .nx E2->F'=F2->∀σ2 H2,Sit K G B0 (G2 H1 B B0) E2 F2 σ2 H2->D.nx σ2 H2:=λ{E2 F2} er ef σ2 H2 S2=>by
  subst er ef
  exact q σ2 H2 (S1.unbase sn S2)
 have stab:∀{E2:DE} {F2:FS} {σ2:St} {H2:Hp} {B2:List Addr},Sit K G B0 (G2 H1 B B0) E2 F2 σ2 H2->(∀b∈B2,b∈B0\/G2 H1 B B0 b=none)->d8 (hid H1 B) (hid H2 B2):=λ{E2 F2 σ2 H2 B2} S2 sn2 b o eb=>by
  by_cases hB:b∈B
  .rw[u7 hB]at eb;cases eb
  .rw[d7 hB]at eb
   have ec:G2 H1 B B0 b=some o:=by rw[B7 (.inl hB)];exact eb
   rw[d7 λz=>(sn2 b z).elim (λh=>hB (s b h)) λh=>by rw[h]at ec;cases ec]
   exact S2.kp b o ec λz=>hB (s b (S.fB b z))
 refine⟨λi m σ H=>m=items.length-i/\i<=items.length/\∃E F,Sit K G B0 (G2 H1 B B0) E F σ H/\G1 bd mb (items.drop i) E F=some (r,F'),⟨items.length,by simp,IG _,E,F1,S1',e⟩,?_⟩
 rintro i mm σ2 H2 ⟨rfl,hi2,E2,F2,S2,e2⟩
 obtain⟨B2,s2,sn2,I2⟩:=S2.ex
 have st2:=stab S2 sn2
 by_cases hlt:i<items.length
 .refine .inr ⟨((ok H2 B2 st2).1 i items[i] (by simp[hlt])).1,λσ' H'=>i+1<=items.length/\∃E F,Sit K G B0 (G2 H1 B B0) E F σ' H'/\G1 bd mb (items.drop (i+1)) E F=some (r,F'),λσ' H' ⟨h1,h2⟩=>⟨items.length-(i+1),by omega,rfl,h1,h2⟩,λx H3 y=>?_⟩
  obtain⟨s3,hx⟩:=((ok H2 B2 st2).1 i items[i] (by simp[hlt])).2 x H3 y
  have hx:=hx I2.bk
  rw[JA hlt,G1]at e2
  obtain⟨E4,e4,e2⟩:=bS9 e2
  obtain⟨⟨o,F5⟩,e5,e2⟩:=bS9 e2
  have S3:=S2.step (Kp.same s3) (I2.fd.same s3)
  have I3:SitE K G B2 E2 F2 σ2 H3:=I2.step (Kp.same s3) (I2.fd.same s3)
  refine hg G B2 E2 F2 σ2 H3 x items[i] E4 _ I3 hx e4 λσ4 I4 fr=>?_
  refine hb G B0 (G2 H1 B B0) E4 F2 σ4 H3 _ o F5 (S3.bind s2 sn2 I4 fr) e5 ?_
  cases o with
  | nx E6=>exact λσ6 H6 S6=>⟨hlt,E6,F5,S6,e2⟩
  | ct E6=>exact λσ6 H6 S6=>⟨hlt,E6,F5,S6,e2⟩
  | bk E6=>cases e2;exact λσ6 H6 S6=>qn rfl rfl σ6 H6 S6
  | rt d=>cases e2;exact λv H6 k6 f6 h6=>q v H6 (vE S1 sn k6) f6 h6
 .have ei:i=items.length:=by omega
  subst ei
  rw[Kw,G1]at e2
  cases e2
  exact .inl ⟨(ok H2 B2 st2).2,qn rfl rfl σ2 H2 S2⟩
theorem V2 {body:List Stmt}{wi:TI}{g:TG}{tb:TS}{mi:DE->M (List PyData)}{bd:PyData->DE->Option DE}{mb:DE->M Out}(hc:X.calm=true)(hi:Ei K X tg iter wi mi)(hg:Eg K X tg g bd)(hb:Sss K X body tb mb)(hp:PassesOwn (model X.prog X.w) X.A X.env X.xe:=by exact PassesOwn.never)
  (hs:∀x,foldedSetIterable iter X.env x=pure x:=by intro _;rfl):Ss K X (.For tg iter body [] pos) (qW wi g tb) (bo mi bd mb):=⟨ox hp hc hi.pi hg.pg hb.ps hs,BN hi.ok hg.ok hb.ok⟩
theorem wQ:Ss K X (.Continue pos) yt (λE F=>some (.ct E,F)):=⟨lG,λG B0 H0 E F σ H D r F' S e q=>by cases e;exact q σ H S⟩
def TFd (K:Fg)(te:TE)(m:DE->M (List PyData)):Prop:=∀(G:GF) (B:List Addr) (E:DE) (F:FS) (σ:St) (H:Hp) (Q:VK) (ds:List PyData) (F':FS),SitE K G B E F σ H->m E F=some (ds,F') ->
 (∀a vs H',H a=none->H' a=some (.lst vs)->Kp (j7 K G) H H'->FAt K G H' F'->a6 K (hid H' (a::B)) ds vs->Q (.ref a) H')->te σ H Q
structure Ef (K:Fg) (X:Cx) (e:Expr) (te:TE) (m:DE->M (List PyData)):Prop where
 pe:PE X e te
 ok:TFd K te m
theorem Kp.none {fp:List Addr}{H H':Hp}{b:Addr}(k:Kp fp H H')(h:H' b=none)(n:b ∉ fp):H b=none:=by
 cases q:H b with
 | none=>rfl
 | some o=>rw[k b o q n]at h;cases h
theorem vw {H:Hp}{B:List Addr}{p:Addr}{o:HO}(hp:H p=none):d8 (hid H B) (hid (upd H p o) (p::B)):=λb u e=>by
 by_cases hb:b∈B
 .rw[u7 hb]at e;cases e
 .rw[d7 hb]at e
  have hne:=d6 e hp
  rw[d7 (by simp[hne,hb]),a8 hne];exact e
def dm (a:DE->M (List PyData)):DE->M (List PyData):=λE F=>(a E F).bind λp=>if p.1.length<=sizeLine then some (p.1,p.2) else none
theorem Y3 {t:TA}{ms:DE->M (List PyData)}(h:Ea K X es t ms):Ef K X (.List es pos) (dB t) (dm ms):=⟨N4 h.pa,λG B E F σ H Q d F' I e q=>by
 obtain⟨⟨x,F1⟩,e1,e⟩:=bS9 e
 split at e
 .rename_i hl
  cases e
  refine h.ok G B E F σ H _ x F1 I e1 λvs H1 k1 f1 h1=>⟨by rw[h1.length];exact hl,λp hp=>?_⟩
  have hnf:p ∉ j7 K G:=λz=>(q5 I.bk k1 f1).nin hp (I.fB p z)
  exact q p vs _ (k1.none hp hnf) b8 (k1.trans (Kp.upd hp)) (f1.same (d8.upd hp)) (h1.same (vw hp))
 .cases e⟩
def dA (i:Nat)(a:DE->M (List PyData)):DE->M Out:=λE F=>(a E F).bind λp=>if i<E.length then some (.nx (E.set i (some (.own p.1))),p.2) else none
theorem Ci {i:Nat}{mf:DE->M (List PyData)}(he:TFd K te mf):TSd K (G9 te (D3 i)) (dA i mf):=λG B0 H0 E F σ H D r F' S e q=>by
 obtain⟨⟨ds,F1⟩,e1,e⟩:=bS9 e
 split at e
 .rename_i hl
  cases e
  obtain⟨B,s,sn,I⟩:=S.ex
  refine he G B E F σ H _ ds _ I e1 λa vs H1 hn ha k1 f1 h1=>?_
  have I1:=I.step k1 f1
  have hsl:i < σ.length:=by rw[<-I.ln];exact hl
  have haB:a ∉ B:=I.bk.nin hn
  have haf:a ∉ j7 K G:=λz=>haB (I.fB a z)
  have h0:H0 a=none:=S.kp.none hn haf
  have sm:d8 (hid H B) (hid H1 (a::B)):=λb o eb=>by
   by_cases hb:b∈B
   .rw[u7 hb]at eb;cases eb
   .rw[d7 hb]at eb
    have hne:=d6 eb hn
    rw[d7 (by simp[hne,hb])]
    exact k1 b o eb λz=>hb (I.fB b z)
  refine q _ H1 ⟨⟨a::B,λb hb=>HA _ (s b hb),λb hb=>?_,⟨f1,λb hb=>HA _ (I.fB b hb),λb hb=>?_,by rw[Jg,Jg];exact I.ln,λj x ej=>?_⟩⟩,S.fB,S.kp.trans k1,λj es a' ej sj=>?_,λj k es es' a' ej ek sj sk=>?_⟩
  .rcases HB.mp hb with rfl | hb
   .exact .inr h0
   .exact sn b hb
  .rcases HB.mp hb with rfl | hb
   .exact⟨_,ha⟩
   .exact I1.bk b hb
  .by_cases hj:i=j
   .subst hj
    rw[HR hl]at ej
    cases ej
    exact⟨.ref a,by rw[HR hsl],a,vs,rfl,HV,haf,ha,h1⟩
   .rw[HL hj]at ej
    obtain⟨v,v1,v2⟩:=I.loc j x ej
    refine⟨v,by rw[HL hj];exact v1,?_⟩
    cases x with
    | dat d=>exact a7.same (show a7 K (hid H B) d v from v2) sm
    | feed=>exact v2
    | fn _=>exact v2
    | adr _=>exact v2
    | own es =>
     obtain⟨a',xs',rfl,hB',hf',ha',hd'⟩:=v2
     exact⟨a',xs',rfl,HA _ hB',hf',k1 _ _ ha' hf',hd'.same sm⟩
  .by_cases hj:i=j
   .subst hj
    rw[HR hsl]at sj
    cases sj
    exact⟨h0,λz=>haB (s a z)⟩
   .rw[HL hj]at ej sj
    exact S.own j es a' ej sj
  .have other:∀(j:Nat) (es:List PyData),i≠j->E[j]? = some (some (DV.own es))->σ[j]? ≠ some (some (V.ref a)):=λj es _ ej z=>by
    obtain⟨v,v1,a',xs',rfl,hB',_⟩:=I.loc j _ ej
    rw[v1]at z;cases z
    exact haB hB'
   by_cases hj:i=j
   .by_cases hk:i=k
    .exact hj.symm.trans hk
    .subst hj
     rw[HR hsl]at sj
     cases sj
     rw[HL hk]at ek sk
     exact absurd sk (other k es' hk ek)
   .rw[HL hj]at ej sj
    by_cases hk:i=k
    .subst hk
     rw[HR hsl]at sk
     cases sk
     exact absurd sj (other j es hj ej)
    .rw[HL hk]at ek sk
     exact S.inj j k es es' a' ej ek sj sk
 .cases e
theorem bf (i:Nat){x:Str}{mf:DE->M (List PyData)}(hN:X.N.Nodup)(he:Ef K X e te mf)(hi:X.N[i]? = some x:=by rfl)(hx:Loc X.env.scope x:=by first | exact Or.inl rfl | exact Or.inr rfl)(hs:swapsWith e (some (.Name x pos')) pos.line X.env=pure false:=by rfl)(hf:X.fn x=true\/X.env.scope.names.lookup x=some .local:=by first | exact .inl rfl | exact .inr rfl | assumption) :
  Ss K X (.Assign [.Name x pos'] e pos) (G9 te (D3 i)) (dA i mf):=⟨G7 hN hi hx he.pe hs hf,Ci he.ok⟩
end
end
section
section
variable [Feeds]{K:Fg}{X:Cx}{a b c e tg iter:Expr}{es:List Expr}{st:Stmt}{sts rest:List Stmt}{ta tb te:TE}{ma mb m:DE->M PyData}{t u:TS}{mt mu:DE->M Out}{pos pos' p p2:Pos}
section
variable {G:GF}{B0 B:List Addr}{H0:Hp}{E:DE}{F:FS}{σ:St}{H:Hp}
theorem Sit.write {i:Nat}{ds ds':List PyData}{x:Addr}{vs':List V}(S:Sit K G B0 H0 E F σ H)(s:∀b∈B0,b∈B)(sn:∀b∈B,b∈B0\/H0 b=none)(I:SitE K G B E F σ H)(ei:E[i]? = some (some (DV.own ds)))(si:σ[i]? = some (some (V.ref x)))
  (hd:a6 K (hid H B) ds' vs'):Sit K G B0 H0 (E.set i (some (.own ds'))) F σ (upd H x (.lst vs')):=by
 have hl:i<E.length:=(HG.mp ei).1
 obtain⟨v,v1,x',xs,rfl,hB,hf,hx,_⟩:=I.loc i _ ei
 rw[si]at v1;cases v1
 have e1:hid (upd H x (.lst vs')) B=hid H B:=U8 hB
 obtain⟨n1,n2⟩:=S.own i ds x ei si
 refine⟨⟨B,s,sn,⟨I.fd.congr λb hb=>a8 (λz=>hb.elim (λhb=>hf (z▸hb)) λ⟨φ,q⟩=>by rw[z,hx]at q;cases q),I.fB,λb hb=>?_,by rw[Jg];exact I.ln,λj y ej=>?_⟩⟩,S.fB,λb o eb nb=>?_,λj es a' ej sj=>?_,λj k es es' a' ej ek sj sk=>?_⟩
 .by_cases h:b=x
  .subst h;exact⟨_,b8⟩
  .rw[a8 h];exact I.bk b hb
 .by_cases hj:i=j
  .subst hj
   rw[HR hl]at ej
   cases ej
   exact⟨.ref x,si,x,vs',rfl,hB,hf,b8,by rw[e1];exact hd⟩
  .rw[HL hj]at ej
   obtain⟨w,w1,w2⟩:=I.loc j y ej
   refine⟨w,w1,?_⟩
   cases y with
   | dat d=>show a7 K (hid (upd H x (.lst vs')) B) d w;rw[e1];exact w2
   | feed=>exact w2
   | fn _=>exact w2
   | adr _=>exact w2
   | own es =>
    obtain⟨a',xs',rfl,hB',hf',ha',hd'⟩:=w2
    have hne:a'≠x:=λz=>hj (S.inj i j ds es x ei ej si (z▸w1))
    exact⟨a',xs',rfl,hB',hf',by rw[a8 hne];exact ha',by rw[e1];exact hd'⟩
 .rw[a8]
  .exact S.kp b o eb nb
  .intro z;subst z;rw[n1]at eb;cases eb
 .by_cases hj:i=j
  .subst hj
   exact S.own i ds a' ei sj
  .rw[HL hj]at ej
   exact S.own j es a' ej sj
 .have back:∀(j:Nat) (es:List PyData),(E.set i (some (.own ds')))[j]? = some (some (DV.own es))->∃es,E[j]? = some (some (DV.own es)):=λj es ej=>by
   by_cases hj:i=j
   .subst hj;exact⟨ds,ei⟩
   .rw[HL hj]at ej;exact⟨es,ej⟩
  obtain⟨f1,ej'⟩:=back j es ej
  obtain⟨f2,ek'⟩:=back k es' ek
  exact S.inj j k f1 f2 a' ej' ek' sj sk
end
def R3 (E:DE)(i:Nat):Option (List PyData):=match E[i]? with
 | some (some (.own ds))=>some ds
 | _=>none
theorem P8 {E:DE}{i:Nat}{ds:List PyData}(h:R3 E i=some ds):E[i]? = some (some (DV.own ds)):=by
 unfold R3 at h
 split at h
 .rename_i q;cases h;exact q
 .cases h
def vJ (i:Nat)(v k:DE->M PyData):DE->M Out:=λE F=>(v E F).bind λp=>(k E p.2).bind λq=>(Z6 q.1).bind λn=>(R3 E i).bind λds=>(ixN ds.length n).bind λj=>some (.nx (E.set i (some (.own (ds.set j p.1)))),q.2)
theorem a6.set {H:Hp}:∀{ds:List PyData} {xs:List V} {d:PyData} {v:V} (j:Nat),a6 K H ds xs->a7 K H d v->a6 K H (ds.set j d) (xs.set j v)
 | [],xs,d,v,j,h,h'=>by simp only[a6]at h;subst h;simp[a6]
 | e::ds,xs,d,v,0,h,h'=>by
  simp only[a6]at h
  obtain⟨y,r,rfl,h1,h2⟩:=h
  simp only[List.set_cons_zero,a6]
  exact⟨v,r,rfl,h',h2⟩
 | e::ds,xs,d,v,j+1,h,h'=>by
  simp only[a6]at h
  obtain⟨y,r,rfl,h1,h2⟩:=h
  simp only[List.set_cons_succ,a6]
  exact⟨y,r.set j v,rfl,h1,a6.set j h2 h'⟩
theorem AN (i:Nat){x:Str}{px:Pos}(hv:Ev K X e te m)(hk:Ev K X b tb mb)(hN:X.N[i]? = some x:=by rfl)(hvis:Vis X.env.scope x:=by first | exact Or.inl rfl | exact Or.inr (Or.inl rfl) | exact Or.inr (Or.inr rfl))(hd:(x == ("__debug__":Str))=false:=by decide)(hcd:(x == ("__classdict__":Str))=false:=by decide)
  (ha:∀v,assign (.Subscript (.Name x px) b p) X.env v=(do
   let ov <-holding [v] (eval (.Name x px) X.env)
   let iv <-holding [v,ov] (eval b X.env)
   standAt p
   holding [v,ov,iv] (setItem ov iv v)
   release [v,ov,iv] []):=by intro _;rfl)
  (hs:swapsWithSole [.Subscript (.Name x px) b p] e pos.line X.env=pure false:=by rfl) (hw:swappedStores [.Subscript (.Name x px) b p] e X.env=pure none:=by rfl)
  (h1:(assignEach [.Subscript (.Name x px) b p] X.env).map (·.2)=[assign (.Subscript (.Name x px) b p) X.env]:=by rfl) :
  Ss K X (.Assign [.Subscript (.Name x px) b p] e pos) (G9 te (jn (l4 i) tb bP)) (vJ i m mb) :=
 ⟨M9 hv.pe (U9 (C7 hN hvis hd hcd) hk.pe K3 ha) hs hw h1,λG B0 H0 E F σ H D r F' S e q=>by
  obtain⟨⟨d,F1⟩,e1,e⟩:=bS9 e
  obtain⟨⟨n,F2⟩,e2,e⟩:=bS9 e
  obtain⟨k,e3,e⟩:=bS9 e
  obtain⟨ds,e4,e⟩:=bS9 e
  obtain⟨j,e5,e⟩:=bS9 e
  cases e
  obtain⟨B,s,sn,I⟩:=S.ex
  have eo:=P8 e4
  refine hv.ok G B E F σ H _ d F1 I e1 λv H1 k1 f1 h1=>?_
  have I1:=I.step k1 f1
  obtain⟨w,w1,a,xs,rfl,hB,hf,hx,hdx⟩:=I1.loc i _ eo
  refine⟨_,w1,hk.ok G B E F1 σ H1 _ n _ I1 e2 λu H2 k2 f2 h2=>?_⟩
  have:=W4 e3
  simp only at this
  subst this
  simp only[a7]at h2
  subst h2
  have I2:=I1.step k2 f2
  have S2:=S.step (k1.trans k2) f2
  have hd2:=hdx.same (k2.hid I.fB)
  refine⟨a,xs,k,j,rfl,rfl,k2 a _ hx hf,by rw[hd2.length];exact e5,q σ _ (S2.write s sn I2 eo w1 (a6.set j hd2 (h1.same (k2.hid I.fB))))⟩⟩
def cZ (i:Nat)(v:DE->M PyData):DE->M Out:=λE F=>(v E F).bind λp=>(R3 E i).bind λds=>if ds.length<sizeLine then some (.nx (E.set i (some (.own (ds++[p.1])))),p.2) else none
theorem BB {i:Nat}(hv:TEd K te m):TSd K (aa (tBM K "list" R4 (l4 i) (l9 te C4))) (cZ i m):=λG B0 H0 E F σ H D r F' S e q=>by
 obtain⟨⟨d,F1⟩,e1,e⟩:=bS9 e
 obtain⟨ds,e4,e⟩:=bS9 e
 split at e
 .rename_i hl
  cases e
  obtain⟨B,s,sn,I⟩:=S.ex
  have eo:=P8 e4
  obtain⟨w,w1,a,xs,rfl,hB,hf,hx,hdx⟩:=I.loc i _ eo
  refine⟨_,w1,.inl ⟨rfl,xs,SqL.of hx⟩,hv G B E F σ H _ d _ I e1 λu H2 k2 f2 h2=>?_⟩
  have hd2:=hdx.same (k2.hid I.fB)
  exact⟨a,xs,u,rfl,rfl,k2 a _ hx hf,by rw[hdx.length];exact hl,q σ _ ((S.step k2 f2).write s sn (I.step k2 f2) eo w1 (hd2.snoc h2))⟩
 .cases e
def dD (K:Fg)(G:GF)(B:List Addr)(H:Hp):List DV->List V->Prop
 | [],vs=>vs=[]
 | x::xs,vs=>∃v r,vs=v::r/\(∀ds,x ≠ .own ds)/\DVr K G B H x v/\dD K G B H xs r
def spD (K:Fg)(n:Nat)(f:List DV->M PyData):Sp:=λvs H Q _=>∃G B F args d F',vs.length=n/\(∀b∈j7 K G,b∈B)/\BOk H B/\FAt K G H F/\dD K G B H args vs/\f args F=some (d,F') /\
 ∀v H',Kp (j7 K G) H H'->FAt K G H' F'->a7 K (hid H' B) d v->Q v H'
def p6 (N:List Str)(args:List DV):DE:=args.map some++List.replicate (N.length-args.length) none
def X5 (N:List Str)(m:DE->M Out):List DV->M PyData:=λargs F=>(m (p6 N args) F).bind λp=>match p.1 with
 | .rt d=>some (d,p.2)
 | .nx _=>some (.none,p.2)
 | _=>none
theorem dD.length {G:GF}{B:List Addr}{H:Hp}:∀{args:List DV} {vs:List V},dD K G B H args vs->vs.length=args.length
 | [],vs,h=>by cases h;rfl
 | x::xs,vs,⟨v,r,e,_,_,h⟩=>by subst e;rw[HZ,HZ,h.length]
theorem dD.get {G:GF}{B:List Addr}{H:Hp}:∀{args:List DV} {vs:List V} {i:Nat} {x:DV},dD K G B H args vs->args[i]? = some x->∃v,vs[i]? = some v/\(∀ds,x ≠ .own ds)/\DVr K G B H x v
 | [],vs,i,x,h,e=>by simp at e
 | y::xs,vs,i,x,⟨v,r,e1,h1,h2,h3⟩,e=>by
  subst e1
  cases i with
  | zero=>simp at e;subst e;exact⟨v,rfl,h1,h2⟩
  | succ i=>simpa using h3.get (i:=i) (by simpa using e)
theorem dP {N:List Str}{args:List DV}{i:Nat}{x:DV}(h:(p6 N args)[i]? = some (some x)):args[i]? = some x:=by
 unfold p6 at h
 by_cases hi:i<args.length
 .rw[Ib (by simpa using hi),HP]at h
  obtain⟨y,e1,e2⟩:=Ip.mp h
  cases e2;exact e1
 .rw[Ig (by simpa using hi),IJ]at h
  split at h <;> simp at h
theorem cX {G:GF}{B:List Addr}{F:FS}{H:Hp}{N:List Str}{args:List DV}{vs:List V}(fB:∀b∈j7 K G,b∈B)(bk:BOk H B)(f:FAt K G H F)(h:dD K G B H args vs):Sit K G B H (p6 N args) F (L2.A5 N vs) H:=by
 have noown:∀(i:Nat) (ds:List PyData),(p6 N args)[i]? ≠ some (some (DV.own ds)):=λi ds e=>by
  obtain⟨v,_,n,_⟩:=h.get (dP e)
  exact n ds rfl
 refine⟨⟨B,λ_ z=>z,λb hb=>.inl hb,⟨f,fB,bk,by simp[p6,L2.A5,h.length],λi x e=>?_⟩⟩,fB,Kp.refl,λi ds a e _=>absurd e (noown i ds),λi j ds es a e _ _ _=>absurd e (noown i ds)⟩
 obtain⟨v,v1,_,v2⟩:=h.get (dP e)
 refine⟨v,?_,v2⟩
 have hi:i<vs.length:=(HG.mp v1).1
 unfold L2.A5
 rw[Ib (by simpa using hi),HP,v1]
 rfl
variable {P:Program}{w:World}{mg:Str->Option Value}{base:Heap}
theorem Q2 {x qual:Str}{f:Addr}{fd:FuncData}{N ps:List Str}{k:Nat}{m:DE->M Out}(Fn:Fun K x qual st f fd)(S:FnScope N ps (defScope st))
  (hbody:∀(cdv:Value) (A:Around) (outer:List Env) (s:Shared) (H:Hp) (E:XK),Room k (A.deeper (envOfC qual (defScope st) s.heap.objs.size f cdv)) ->
   ∃ts,Sss K (M8 CX0 P w K mg base N qual (defScope st) f cdv A outer s H E).nox (defBody st) ts m):FnOk P w K mg base CX0 (k+1) f fd ps (spD K ps.length (X5 N m)):=by
 refine Fn.ok S (λvs H Q E h=>?_) (λcdv A outer s H vs Q E hr h=>?_)
 .obtain⟨G,B,F,args,d,F',hl,_⟩:=h
  exact hl
 .obtain⟨G,B,F,args,d,F',hl,fB,bk,fa,ha,hm,q⟩:=h
  obtain⟨ts,hts⟩:=hbody cdv A outer s H E hr
  refine⟨ts,hts.ps,?_⟩
  obtain⟨⟨o,F1⟩,e1,e⟩:=bS9 hm
  refine hts.ok G B H (p6 N args) F (L2.A5 N vs) H _ o F1 (cX fB bk fa ha) e1 ?_
  cases o with
  | rt d'=>cases e;exact λv H' k1 f1 h1=>q v H' k1 f1 h1
  | nx E'=>cases e;exact λσ' H' S'=>q _ H' S'.kp (by obtain⟨B,_,_,I⟩:=S'.ex;exact I.fd) a7.non
  | bk E'=>cases e
  | ct E'=>cases e
def TVd (K:Fg)(ta:TA)(m:DE->M (List DV)):Prop:=∀(G:GF) (B:List Addr) (E:DE) (F:FS) (σ:St) (H:Hp) (Q:List V->Hp->Prop) (ds:List DV) (F':FS),SitE K G B E F σ H->m E F=some (ds,F') ->
 (∀vs H',Kp (j7 K G) H H'->FAt K G H' F'->dD K G B H' ds vs->Q vs H')->ta σ H Q
structure Evs (K:Fg) (X:Cx) (es:List Expr) (ta:TA) (m:DE->M (List DV)):Prop where
 pa:PA X es ta
 ok:TVd K ta m
def D8:DE->M (List DV):=λ_ F=>some ([],F)
def vD (a:DE->M PyData)(r:DE->M (List DV)):DE->M (List DV):=λE F=>(a E F).bind λp=>(r E p.2).bind λq=>some (.dat p.1::q.1,q.2)
def vF (i:Nat)(r:DE->M (List DV)):DE->M (List DV):=λE F=>match E[i]? with
 | some (some .feed)=>(r E F).bind λq=>some (.feed::q.1,q.2)
 | _=>none
theorem u5:Evs K X [] C4 D8:=⟨j9,λG B E F σ H Q ds F' I e q=>by cases e;exact q [] H Kp.refl I.fd rfl⟩
theorem C9 {tl:TA}{ms:DE->M (List DV)}(ha:Ev K X e te m)(hr:Evs K X es tl ms)(hs:starEach (e::es) X.env=(false,eval e X.env)::starEach es X.env:=by rfl):Evs K X (e::es) (l9 te tl) (vD m ms) :=
 ⟨f9 ha.pe hr.pa hs,λG B E F σ H Q ds F' I e q=>by
  obtain⟨⟨x,F1⟩,e1,e⟩:=bS9 e
  obtain⟨⟨ys,F2⟩,e2,e⟩:=bS9 e
  cases e
  refine ha.ok G B E F σ H _ x F1 I e1 λv H1 k1 f1 h1=>?_
  refine hr.ok G B E F1 σ H1 _ ys _ (I.step k1 f1) e2 λvs H2 k2 f2 h2=>q _ H2 (k1.trans k2) f2 ⟨v,vs,rfl,(λ_ z=>by cases z),h1.same (k2.hid I.fB),h2⟩⟩
theorem dk (i:Nat){x:Str}{tl:TA}{ms:DE->M (List DV)}(hr:Evs K X es tl ms)(hN:X.N[i]? = some x:=by rfl)(hv:Vis X.env.scope x:=by first | exact Or.inl rfl | exact Or.inr (Or.inl rfl) | exact Or.inr (Or.inr rfl))(hd:(x == ("__debug__":Str))=false:=by decide)
  (hcd:(x == ("__classdict__":Str))=false:=by decide) (hs:starEach (.Name x p::es) X.env=(false,eval (.Name x p) X.env)::starEach es X.env:=by rfl):Evs K X (.Name x p::es) (l9 (l4 i) tl) (vF i ms) :=
 ⟨f9 (C7 hN hv hd hcd) hr.pa hs,λG B E F σ H Q ds F' I e q=>by
  unfold vF at e
  split at e
  .rename_i hx
   obtain⟨⟨ys,F2⟩,e2,e⟩:=bS9 e
   cases e
   obtain⟨v,v1,v2⟩:=I.loc i _ hx
   refine⟨v,v1,hr.ok G B E F σ H _ ys _ I e2 λvs H2 k2 f2 h2=>q _ H2 k2 f2 ⟨v,vs,rfl,(λ_ z=>by cases z),v2.step k2 I.fB,h2⟩⟩
  .cases e⟩
def p0 (f:List DV->M PyData)(ms:DE->M (List DV)):DE->M PyData:=λE F=>(ms E F).bind λp=>f p.1 p.2
theorem zS {n:Nat}{f:List DV->M PyData}{ta:TA}{ms:DE->M (List DV)}(h:TVd K ta ms)(hn:∀E F args F',ms E F=some (args,F')->args.length=n):TEd K (U3 (spD K n f) [] E0 ta) (p0 f ms):=λG B E F σ H Q d F' I e q=>by
 obtain⟨⟨args,F1⟩,e1,e⟩:=bS9 e
 refine h G B E F σ H _ args F1 I e1 λvs H1 k1 f1 h1=>?_
 rw[IE]
 exact⟨G,B,F1,args,d,F',by rw[h1.length];exact hn _ _ _ _ e1,I.fB,q5 I.bk k1 f1,f1,h1,e,λv H2 k2 f2 h2=>q v H2 (k1.trans k2) f2 h2⟩
theorem u3:∀E F args F',D8 E F=some (args,F')->args.length=0:=λE F args F' e=>by cases e;rfl
theorem D1 {n:Nat}{ms:DE->M (List DV)}(h:∀E F args F',ms E F=some (args,F')->args.length=n):∀E F args F',vD m ms E F=some (args,F')->args.length=n+1:=λE F args F' e=>by
 obtain⟨⟨x,F1⟩,e1,e⟩:=bS9 e
 obtain⟨⟨ys,F2⟩,e2,e⟩:=bS9 e
 cases e
 rw[HZ,h _ _ _ _ e2]
theorem cV {n i:Nat}{ms:DE->M (List DV)}(h:∀E F args F',ms E F=some (args,F')->args.length=n):∀E F args F',vF i ms E F=some (args,F')->args.length=n+1:=λE F args F' e=>by
 unfold vF at e
 split at e
 .obtain⟨⟨ys,F2⟩,e2,e⟩:=bS9 e
  cases e
  rw[HZ,h _ _ _ _ e2]
 .cases e
theorem n9 {x:Str}{k n:Nat}{ps:List Str}{f:List DV->M PyData}{tl:TA}{ms:DE->M (List DV)}(C:j8 X.prog X.w X.K X.mg X.base x k ps (spD K n f))(hr:Room k X.A)(ha:Evs K X (e::es) tl ms)(hn:∀E F args F',ms E F=some (args,F')->args.length=n)(hg:Gl X x:=by rfl)
  (hdb:(x == ("__debug__":Str))=false:=by decide) (he:starEach (e::es) X.env=(false,eval e X.env)::starEach es X.env:=by rfl) (hpl:(backTo pos (starEach es X.env)).any (·.1)=false:=by rfl) :
  Ev K X (.Call (.Name x p) (e::es) [] pos) (U3 (spD K n f) [] E0 tl) (p0 f ms):=⟨P4 C hr hg ha.pa hdb he hpl,zS ha.ok hn⟩
end
end
section
theorem J5 (a b:Str):((Sum.inr a:Key)=Sum.inr b)=(a=b):=by
 apply propext;constructor
 .intro h;injection h
 .intro h;rw[h]
section
variable {H:Hp}{d c:Addr}{a l t:Int}
end
structure FdS where
 ns:List Int
 a:Int
 l:Int
 t:Int
class Fam where
 At:Addr->Addr->Hp->FdS->Prop
 some1:∀{d c H F},At d c H F->∃o,H d=some o/\NoT o
 some2:∀{d c H F},At d c H F->∃o,H c=some o/\NoT o
 congr:∀{d c H H' F},At d c H F->H' d=H d->H' c=H c->At d c H' F
 lam:List Str
 drawF:Int->FdS->Option (Int×FdS)
 draw_some:∀{m:Int} {F:FdS},0<m->m<1073741824->F.t<199999->∃r F',drawF m F=some (r,F')/\0<=r/\r<m/\F'.t=F.t+1
instance fdI [Fam]:Feeds where
 S:=FdS
 At:=Fam.At
 some1:=Fam.some1
 some2:=Fam.some2
 congr:=Fam.congr
 lam:=Fam.lam
def FdS.cell (F:FdS):Int:=if F.ns=[] then 11 else(F.ns[(F.a % (F.ns.length:Int)).toNat]?).getD 0
def N7 [Fam]:List DV->M PyData
 | [.feed,.dat (.int m)]=>λF=>(Fam.drawF m F).bind λp=>some (.int p.1,p.2)
 | _=>λ_=>none
theorem oo {x m:Int}(h:0<m):0<=x % m/\x % m<m:=⟨Int.emod_nonneg _ (by omega),Int.emod_lt_of_pos _ h⟩
theorem wj {F:FdS}(h0:¬F.ns=[]):atI (F.ns.map V.int) (F.a % ((F.ns.map V.int).length:Int))=some (.int F.cell):=by
 have hp:0<F.ns.length:=LD.mpr h0
 rw[Hz]
 obtain⟨q1,q2⟩:=oo (x:=F.a) (m:=(F.ns.length:Int)) (by omega)
 obtain⟨j,hj⟩:∃j:Nat,F.a % (F.ns.length:Int)=j:=⟨(F.a % (F.ns.length:Int)).toNat,by omega⟩
 have hjl:j<F.ns.length:=by omega
 unfold FdS.cell
 rw[HM h0,hj]
 refine W3 ?_
 rw[HP]
 simp[hjl]
def FdS.cellL (F:FdS):Int:=if F.ns=[] then 0 else(F.ns[(F.a % (F.ns.length:Int)).toNat]?).getD 0
theorem tW {F:FdS}(h0:¬F.ns=[]):atI (F.ns.map V.int) (F.a % ((F.ns.map V.int).length:Int))=some (.int F.cellL):=by
 have e:F.cellL=F.cell:=by unfold FdS.cellL FdS.cell;rw[HM h0,HM h0]
 rw[e]
 exact wj h0
def X3 (ns:List Int):FdS:=⟨ns,0,0,0⟩
end
section
def cC:Const->Option PyData
 | .int i=>some (.int i)
 | .bool b=>some (.bool b)
 | .none=>some .none
 | .str x=>some (.str x)
 | _=>none
def cI:Expr->Option Int
 | .Constant c _ _=>match c with
  | .int i=>some i
  | _=>none
 | _=>none
def cU:UnaryOp->Bool
 | .USub=>true
 | _=>false
def cP:Operator->Bool
 | .Pow=>true
 | _=>false
mutual
def bh:Expr->Option PyData
 | .Constant c _ _=>cC c
 | .UnaryOp o e _=>if cU o=true then(cI e).map λi=>.int (-i) else none
 | .BinOp a o b _=>if cP o=true then(cI a).bind λi=>(cI b).bind λj=>if xA i j then some (.int (i ^ j.toNat)) else none else none
 | .Tuple es _ _=>(aA es).bind λds=>if ds.length<=10000 then some (.tuple ds) else none
 | .List es _=>(aA es).bind λds=>if ds.length<=10000 then some (.list ds) else none
 | _=>none
def aA:List Expr->Option (List PyData)
 | []=>some []
 | e::es=>(bh e).bind λd=>(aA es).bind λds=>some (d::ds)
end
mutual
def K9:PyData->TE
 | .int i=>tC (.int i)
 | .bool b=>tC (.bl b)
 | .none=>tC .non
 | .str x=>tC (.str x)
 | .tuple ds=>qZ (aF ds)
 | .list ds=>dB (aF ds)
 | .dict _=>λ_ _ _=>False
def aF:List PyData->TA
 | []=>C4
 | d::ds=>l9 (K9 d) (aF ds)
end
theorem ki {e:Expr}{i:Int}(h:cI e=some i):∃k p,e = .Constant (.int i) k p:=by
 unfold cI at h
 split at h
 .split at h
  .cases h;exact⟨_,_,rfl⟩
  .cases h
 .cases h
theorem nZ {e:Expr}{es:List Expr}{env:Env}{d:PyData}(h:bh e=some d):starEach (e::es) env=(false,eval e env)::starEach es env:=by
 unfold bh at h
 split at h
 .rfl
 .rfl
 .rfl
 .rfl
 .rfl
 .cases h
section
variable [Feeds]{K:Fg}{X:Cx}
theorem qN:∀n:Nat,(∀(e:Expr) (d:PyData),sizeOf e<n->bh e=some d->Ev K X e (K9 d) (sC d))/\(∀(es:List Expr) (ds:List PyData),sizeOf es<n->aA es=some ds->Ea K X es (aF ds) (λ_ F=>some (ds,F))):=by
 intro n
 induction n with
 | zero=>exact⟨λ_ _ h=>absurd h (LA _),λ_ _ h=>absurd h (LA _)⟩
 | succ n ih =>
  refine⟨λe d hn h=>?_,λes ds hn h=>?_⟩
  .unfold bh at h
   split at h
   .unfold cC at h
    split at h
    .cases h;simp only[K9];exact k4
    .cases h;simp only[K9];exact eQ
    .cases h;simp only[K9];exact Z9
    .cases h;simp only[K9];exact S7
    .cases h
   .rename_i o e1 p1
    split at h
    .rename_i ho
     obtain⟨i,e2,h2⟩:=Ip.mp h
     clear h
     obtain⟨k,p,rfl⟩:=ki e2
     have:o = .USub:=by cases o <;> first | rfl | (exact absurd ho (by decide))
     subst this h2
     simp only[K9]
     have hp:PE X (.UnaryOp .USub (.Constant (.int i) k p) p1) (tUn (rU λi=>.int (-i)) (tC (.int i))):=yF tT f7
     exact⟨λpins s σ H Q I h=>hp pins s σ H Q I ⟨i,rfl,h⟩,λG B E F σ H Q d F' I e q=>by cases e;exact q _ H Kp.refl I.fd a7.int⟩
    .cases h
   .rename_i a o b p1
    split at h
    .rename_i ho
     obtain⟨i,e2,h2⟩:=bS9 h
     clear h
     obtain⟨j,e3,h⟩:=bS9 h2
     clear h2
     obtain⟨k,p,rfl⟩:=ki e2
     obtain⟨k',p',rfl⟩:=ki e3
     have:o = .Pow:=by cases o <;> first | rfl | (exact absurd ho (by decide))
     subst this
     split at h
     .rename_i hc
      cases h
      simp only[K9]
      have hp:PE X (.BinOp (.Constant (.int i) k p) .Pow (.Constant (.int j) k' p') p1) (tOp (rI xA λi j=>.int (i ^ j.toNat)) (tC (.int i)) (tC (.int j))):=x3 vN f7 f7
      exact⟨λpins s σ H Q I h=>hp pins s σ H Q I ⟨i,j,rfl,rfl,hc,h⟩,λG B E F σ H Q d F' I e q=>by cases e;exact q _ H Kp.refl I.fd a7.int⟩
     .cases h
    .cases h
   .rename_i es k p
    obtain⟨ds,e1,h⟩:=bS9 h
    split at h
    .rename_i hl
     cases h;simp only[K9]
     have hh:=ih.2 es ds (by simp at hn;omega) e1
     exact⟨gc hh.pa,λG B E F σ H Q d F' I e q=>by
      cases e
      refine hh.ok G B E F σ H _ ds _ I rfl λvs H1 k1 f1 h1=>⟨?_,λp hp=>q _ _ (k1.trans (Kp.upd hp)) (f1.same (d8.upd hp)) (O7 (q5 I.bk k1 f1) hp h1)⟩
      rw[h1.length]
      exact Im hl (by rw[Io];decide)⟩
    .cases h
   .rename_i es p
    obtain⟨ds,e1,h⟩:=bS9 h
    split at h
    .rename_i hl
     cases h;simp only[K9]
     have hh:=ih.2 es ds (by simp at hn;omega) e1
     exact⟨N4 hh.pa,λG B E F σ H Q d F' I e q=>by
      cases e
      refine hh.ok G B E F σ H _ ds _ I rfl λvs H1 k1 f1 h1=>⟨?_,λp hp=>q _ _ (k1.trans (Kp.upd hp)) (f1.same (d8.upd hp)) (K1 (q5 I.bk k1 f1) hp h1)⟩
      rw[h1.length]
      exact Im hl (by rw[Io];decide)⟩
    .cases h
   .cases h
  .cases es with
   | nil=>simp only[aA]at h;cases h;simp only[aF];exact k7
   | cons e es =>
    simp only[aA]at h
    obtain⟨d,e1,h⟩:=bS9 h
    obtain⟨ds',e2,h⟩:=bS9 h
    cases h
    simp only[aF]
    exact d0 (ih.1 e d (by simp at hn;omega) e1) (ih.2 es ds' (by simp at hn;omega) e2) (nZ e1)
theorem vM (e:Expr)(d:PyData)(h:bh e=some d):Ev K X e (K9 d) (sC d):=(qN (sizeOf e+1)).1 e d (Kc _) h
theorem Z3 (d:PyData){e:Expr}(h:bh e=some d):Ev K X e (K9 d) (sC d):=vM e d h
end
end
end L3
namespace L3
open PySem
theorem S5:bootBuiltins "len" = some (.builtin "len"):=by decide +kernel
theorem zg:bootBuiltins "min" = some (.builtin "min"):=by decide +kernel
theorem fo:bootBuiltins "repr" = some (.builtin "repr"):=by decide +kernel
theorem iB:bootBuiltins "sorted" = some (.builtin "sorted"):=by decide +kernel
theorem T9:bootBuiltins "tuple" = some (.type "tuple"):=by decide +kernel
theorem fu:bootBuiltins "list" = some (.type "list"):=by decide +kernel
theorem vL:bootBuiltins "int" = some (.type "int"):=by decide +kernel
end L3
namespace L3
open PySem PySem.Spec PyProof.Rows L2
section
section
variable [Feeds]{K:Fg}{X:Cx}{a b c e tg iter:Expr}{es:List Expr}{ta tb tc te:TE}{ma mb mc m:DE->M PyData}{pos pos' p p2:Pos}
theorem bg (i:Nat){x:Str}{px ap cp:Pos}(hK:X.K=K)(hv:Ev K X e te m)(hN:X.N[i]? = some x:=by rfl)(hvis:Vis X.env.scope x:=by first | exact Or.inl rfl | exact Or.inr (Or.inl rfl) | exact Or.inr (Or.inr rfl))(hd:(x == ("__debug__":Str))=false:=by decide)(hcd:(x == ("__classdict__":Str))=false:=by decide)
  (hbase:attributeBase (.Name x px) "append" X.env (eval (.Name x px) X.env)=eval (.Name x px) X.env:=by rfl)
  (hfew:((backTo cp (starEach [e] X.env)).all (λx=>!x.1)&&(backToKw cp (keywordEach [] X.env)).all (λx=>x.1.isSome)
   && decide ([e].length+([]:List Keyword).length+(if ([]:List Keyword).isEmpty then 0 else 1)<30))=true:=by rfl)
  (hline:(ap.endLine == cp.line)=true:=by rfl) (hst:starEach [e] X.env=(false,eval e X.env)::starEach [] X.env:=by rfl) (hplain:(backTo cp (starEach [] X.env)).any (·.1)=false:=by rfl)
  (hs:swapsWith (.Call (.Attribute (.Name x px) "append" ap) [e] [] cp) none pos.line X.env=pure false:=by rfl) :
  Ss K X (.Expr (.Call (.Attribute (.Name x px) "append" ap) [e] [] cp) pos) (aa (tBM K "list" R4 (l4 i) (l9 te C4))) (cZ i m):=by
 subst hK
 exact⟨S4 (ia Ju JB JC J0 (C7 hN hvis hd hcd) (f9 hv.pe j9 hst) hbase hfew hline hst hplain) hs,BB hv.ok⟩
def fLC (mi:DE->M (List PyData))(k:Nat)(cap:List Nat)(bd:PyData->DE->Option DE)(mt:DE->M Bool)(me:DE->M PyData):DE->M (List PyData):=λE F =>
 (mi E F).bind λp=>if p.1.length<=sizeLine then(U6 bd mt me p.1 (eZ k cap E) p.2).bind λz=>some (z.1,z.2) else none
theorem yD {wi:TI}{mi:DE->M (List PyData)}{k:Nat}{cap:List Nat}{g:TG}{bd:PyData->DE->Option DE}{tt:TT}{mt:DE->M Bool}{me:DE->M PyData}(hi:TIs K wi mi)(hg:TGd K g bd)(ht:TTd K tt mt)(he:TEd K te me) :
  TFd K (tLC wi k cap g tt te) (fLC mi k cap bd mt me):=λG B E F σ H Q d F' I e q=>by
 obtain⟨⟨items,F1⟩,e1,e⟩:=bS9 e
 split at e
 .rename_i hsz
  obtain⟨⟨whole,F2⟩,e2,e⟩:=bS9 e
  cases e
  refine hi G B E F σ H _ items F1 I e1 λJ H1 k1 f1 ok D hD=>?_
  have I1:SitE K G B E F1 σ H1:=I.step k1 f1
  have hBD:D ∉ B:=I1.bk.nin hD
  have hfD:D ∉ j7 K G:=λz=>hBD (I.fB D z)
  have hsz:items.length<=sizeLine:=hsz
  have stab:∀{H':Hp},Kp (j7 K G) H1 H'->Kp (j7 K G) H1 H'/\d8 (hid H1 B) (hid H' (D::B)):=λ{H'} k=>⟨k,λb o eb=>by
   by_cases hb:b∈B
   .rw[u7 hb]at eb;cases eb
   .rw[d7 hb]at eb
    rw[d7 (by
     intro z
     rcases HB.mp z with rfl | z
     .rw[hD]at eb;cases eb
     .exact hb z)]
    exact k b o eb λz=>hb (I.fB b z)⟩
  refine uo items.length (yR K G B D H1 bd mt me items whole F2) ?_ ?_ ?_ ?_ ?_
  .refine⟨eZ k cap E,F1,[],whole,(I1.cap k cap).more hD,b8,Kp.upd hD,λj ds ej z=>?_,a6.nil,e2,rfl,HK _⟩
   obtain⟨v,v1,a,xs,rfl,_,_,ha,_⟩:=(I1.cap k cap).loc j _ ej
   rw[v1]at z
   cases z
   rw[hD]at ha;cases ha
  .rintro i σ' acc H' hlt ⟨E',F3,done,rest,I2,hD2,k2,ow,hd2,e3,ew,hdi⟩
   exact((ok H' (D::B) (stab k2)).1 i items[i] (by simp[hlt])).1
  .rintro σ' acc H' ⟨E',F3,done,rest,I2,hD2,k2,ow,hd2,e3,ew,hdi⟩
   exact(ok H' (D::B) (stab k2)).2
  .rintro i σ' acc H' hlt ⟨E',F3,done,rest,I2,hD2,k2,ow,hd2,e3,ew,hdi⟩ x H2 y R hR
   obtain⟨s2,hx⟩:=((ok H' (D::B) (stab k2)).1 i items[i] (by simp[hlt])).2 x H2 y
   have hx':=hx I2.bk
   rw[JA hlt,U6]at e3
   obtain⟨E4,e4,e3⟩:=bS9 e3
   obtain⟨⟨b,F5⟩,e5,e3⟩:=bS9 e3
   have I3:SitE K G (D::B) E' F3 σ' H2:=I2.step (Kp.same s2) (I2.fd.same s2)
   refine hg G (D::B) E' F3 σ' H2 x items[i] E4 _ I3 hx' e4 λσ4 I4 fr=>?_
   have ow4:∀(j:Nat) (ds:List PyData),E4[j]? = some (some (DV.own ds))->σ4[j]? ≠ some (some (V.ref D)):=λj ds ej=>by
    obtain⟨a1,a2⟩:=fr j λy z=>by rw[ej]at z;cases z
    rw[a2];exact ow j ds (a1▸ej)
   refine ht G (D::B) E4 F3 σ4 H2 _ b F5 I4 e5 λH5 k5 f5=>?_
   have kall:Kp (j7 K G) H1 H5:=(k2.trans (Kp.same s2)).trans k5
   have I5:SitE K G (D::B) E4 F5 σ4 H5:=I4.step k5 f5
   have hD5:H5 D=some (.lst acc):=k5 D _ (s2 D _ hD2) hfD
   have hd5:a6 K (hid H5 (D::B)) done acc:=(hd2.same ((Kp.same s2).hid (fp:=[]) (by simp))).same (k5.hid I4.fB)
   cases b with
   | false =>
    exact⟨hD5,hR _ _ _ ⟨E4,F5,done,rest,I5,hD5,kall,ow4,hd5,e3,ew,by omega⟩⟩
   | true =>
    obtain⟨⟨yd,F6⟩,e6,e3⟩:=bS9 e3
    obtain⟨⟨zs,F7⟩,e7,e3⟩:=bS9 e3
    cases e3
    refine he G (D::B) E4 F5 σ4 H5 _ yd F6 I5 e6 λv H6 k6 f6 h6=>?_
    have hD6:H6 D=some (.lst acc):=k6 D _ hD5 hfD
    have I6:SitE K G (D::B) E4 F6 σ4 H6:=I5.step k6 f6
    have hd6:=hd5.same (k6.hid I5.fB)
    have hlen:acc.length<sizeLine:=by rw[hd2.length];omega
    refine⟨hD6,hlen,hR _ _ _ ⟨E4,F6,done++[yd],zs,I6.wr hfD ow4 hD6,b8,λb o eb nb=>?_,ow4,?_,e7,by rw[ew];simp,by simp;omega⟩⟩
    .have:=k6 b o (kall b o eb nb) nb
     rw[a8];exact this
     intro z;subst z;rw[hD]at eb;cases eb
    .rw[U8 HV]
     exact hd6.snoc h6
  .rintro σ' acc H' ⟨E',F3,done,rest,I2,hD2,k2,ow,hd2,e3,ew,hdi⟩
   rw[Kw,U6]at e3
   cases e3
   rw[IE]at ew
   subst ew
   exact q D acc H' (k1.none hD hfD) hD2 (k1.trans k2) I2.fd hd2
 .cases e
end
end
section
section
variable [Feeds]{K:Fg}{X:Cx}{a b c e tg iter:Expr}{es:List Expr}{ta tb tc te:TE}{ma mb mc m:DE->M PyData}{pos pos' p p2:Pos}{P:Program}{w:World}{mg:Str->Option Value}{base:Heap}
def GD (K:Fg)(mg:Str->Option Value)(x:Str)(d:PyData):Prop:=∃a,mg x=some (.ref a)/\∀H,a7 K H d (.ref a)
theorem De {x:Str}{d:PyData}(h:GD K X.mg x d)(hg:Gl X x:=by rfl)(hd:(x == ("__debug__":Str))=false:=by decide):Ev K X (.Name x p) (tC (.ref h.choose)) (sC d) :=
 ⟨xJ hg h.choose_spec.1 rfl hd,λG B E F σ H Q d F' I e q=>by
  cases e
  exact q _ H Kp.refl I.fd (h.choose_spec.2 _)⟩
def strsOf:List Value->Option (List Str)
 | []=>some []
 | .str x _::r=>(strsOf r).map (x :: ·)
 | _=>none
theorem iJ:∀{us:List Value} {ss:List Str},strsOf us=some ss->i5 (ss.map V.str) us/\∀H,a6 K H (ss.map .str) (ss.map V.str)
 | [],ss,h=>by cases h;exact⟨.nil,λH=>a6.nil⟩
 | u::r,ss,h=>by
  cases u with
  | str x t =>
   obtain⟨ss',e1,rfl⟩:=Ip.mp (show(strsOf r).map (x :: ·)=some ss from h)
   obtain⟨h1,h2⟩:=iJ e1
   exact⟨.cons ⟨t,rfl⟩ h1,λH=>⟨_,_,rfl,rfl,h2 H⟩⟩
  | _=>cases h
theorem gd_mk {h:Heap}{x:Str}{t:Addr}{its:Array Value}{n:Nat}{dd:Option Addr}{sl:Array (Option Value)}{ss:List Str}(X:K.In h)(G:h.Ns mainGlobals mg)(hn:PySem.W.nsIn K mainGlobals x=some (some (.ref t)))(hl:K.lookup t=some ⟨.type "tuple",dd,.seq its n,sl⟩)(hs:strsOf its.toList=some ss)(hz:ss.length<=1000):GD K mg x (.tuple (ss.map .str)):=by
 obtain⟨h1,h2⟩:=iJ (K:=K) hs
 refine⟨t,Ln X G hn,λH=>⟨t,ss.map V.str,rfl,.inr ⟨_,its,n,hl,rfl,rfl,?_,h1⟩,h2 H⟩⟩
 have:=h1.length
 rw[Hz]at this
 have e:its.size=ss.length:=by rw[this];simp
 rw[e]
 exact Im hz (by rw[Io];decide)
end
end
section
section
variable {prog:Program}{w:World}{A:Around}{E:Value->Shared->Prop}{s:Shared}
theorem bL {it l:Addr}{i:Nat}{items}{x:Value}{Q:Value->Shared->Prop}(hit:s.heap.IsTupleIter it l i)
  (hl:s.heap.IsTuple l items) (hx:items[i]? = some x)
  (hQ:∀h',h'.IsTupleIter it l (i+1)->Heap.SameBut it s.heap h'->Q x { s with heap:=h' }) :
  wpAny (model prog w) A (Builtin.SmallTypes.nextOf (.ref it)) Q E s:=by
 obtain⟨o,ho,hc,hd⟩:=id hit
 obtain⟨ol,hol,_,nl,hdl⟩:=hl
 unfold Builtin.SmallTypes.nextOf
 refine Hy (JQ (name:=Str.ofString "__next__") hit.typeIs JJ
  (JR JJ hit.typeIs Lk ?_ (Le _)))
 show wpAny _ _ (field (.ref it) 0 >>= _) _ _ s
 refine Hy (JT ho hd (x:=.ref l) rfl ?_)
 show wpAny _ _ (if (Value.ref l == Value.none)=true then _ else _) _ _ s
 rw[HM (show ¬((Value.ref l == Value.none)=true) from Ia)]
 show wpAny _ _ (field (.ref it) 1 >>= _) _ _ s
 refine Hy (JT ho hd (x:=.int i 0) rfl ?_)
 show wpAny _ _ (seqItems? (.ref l) >>= _) _ _ s
 refine Hy (wpAny_seqItems hol hdl ?_)
 simp only[Jq,hx]
 refine Hy (wpAny_setField ho hd (by simp) (HS ⟨x,rfl,HS (hQ _ ?_ (JH ..))⟩))
 exact⟨_,Heap.get?_update_self _ ho (Obj.isFreed_of_fields (Obj.data_mapFields hd _)),(Obj.cls_mapFields ..).trans hc,by
  rw[Obj.data_mapFields hd];simp[rawInt]⟩
theorem dE {it l:Addr}{i:Nat}{items}{Q:Value->Shared->Prop}(hh:A.handled=none)
  (hit:s.heap.IsTupleIter it l i) (hl:s.heap.IsTuple l items) (hx:items[i]? = none)
  (hE:∀h' e,Heap.ExtBut it s.heap h'->(∃o,h'.get? e=some o/\o.cls = .type "StopIteration")->E (.ref e) { s with heap:=h' }) :
  wpAny (model prog w) A (Builtin.SmallTypes.nextOf (.ref it)) Q E s:=by
 obtain⟨o,ho,hc,hd⟩:=id hit
 obtain⟨ol,hol,_,nl,hdl⟩:=hl
 unfold Builtin.SmallTypes.nextOf
 refine Hy (JQ (name:=Str.ofString "__next__") hit.typeIs JJ
  (JR JJ hit.typeIs Lk ?_ (Le _)))
 show wpAny _ _ (field (.ref it) 0 >>= _) _ _ s
 refine Hy (JT ho hd (x:=.ref l) rfl ?_)
 show wpAny _ _ (if (Value.ref l == Value.none)=true then _ else _) _ _ s
 rw[HM (show ¬((Value.ref l == Value.none)=true) from Ia)]
 show wpAny _ _ (field (.ref it) 1 >>= _) _ _ s
 refine Hy (JT ho hd (x:=.int i 0) rfl ?_)
 show wpAny _ _ (seqItems? (.ref l) >>= _) _ _ s
 refine Hy (wpAny_seqItems hol hdl ?_)
 simp only[Jq,hx]
 refine Hy (KQ (Hy (wpAny_setField ho hd (by simp) ?_)))
 show wpAny _ _ (newExc (.type "StopIteration") [] >>= _) _ _ _
 refine Hy ?_
 simp only[newExc,newTuple]
 refine Hy (IU ?_ (by size_fits))
 refine Hy (m:=firstArgMember _ _) (wpAny_of_eq (a:=Value.none) (by first | rfl | (simp only[firstArgMember];rfl)) ?_)
 refine IU ?_ (by size_fits)
 simp only[raiseNew]
 refine Hy (wpAny_handled ?_)
 first | rw[show A.in1.handled=none from hh] | rw[hh]
 refine Hy (HS (wpAny_throw ?_))
 exact hE _ _ (((JH ..).extBut.push _).push _) ⟨_,Ii _ rfl,rfl⟩
end
def kX (b:Bool)(h:Heap)(it l:Addr)(i:Nat):Prop:=if b then h.IsListIter it l i else h.IsTupleIter it l i
def sx (b:Bool)(h:Heap)(l:Addr)(items:Array Value):Prop:=if b then h.IsList l items else h.IsTuple l items
theorem kX.at {b:Bool}{h h':Heap}{it l:Addr}{i:Nat}(x:kX b h it l i)(k:∀o,h.get? it=some o->h'.get? it=some o):kX b h' it l i:=by
 cases b
 .exact Heap.IsTupleIter.at (show h.IsTupleIter it l i from x) k
 .exact Heap.IsListIter.at (show h.IsListIter it l i from x) k
theorem sx.at {b:Bool}{h h':Heap}{l:Addr}{items:Array Value}(x:sx b h l items)(k:∀o,h.get? l=some o->h'.get? l=some o):sx b h' l items:=by
 cases b
 .obtain⟨o,ho,r⟩:=(show h.IsTuple l items from x)
  exact⟨o,k o ho,r⟩
 .exact Heap.IsList.at (show h.IsList l items from x) k
theorem kX.obj {b:Bool}{h:Heap}{it l:Addr}{i:Nat}(x:kX b h it l i):∃o,h.get? it=some o/\∀v,o.data ≠ .cell v:=by
 cases b
 .obtain⟨o,e,c,d⟩:=(show h.IsTupleIter it l i from x)
  exact⟨o,e,λv z=>by rw[d]at z;cases z⟩
 .obtain⟨o,e,c,d⟩:=(show h.IsListIter it l i from x)
  exact⟨o,e,λv z=>by rw[d]at z;cases z⟩
theorem mn {prog:Program}{w:World}{A:Around}(b:Bool)(hh:A.handled=none)(it l:Addr)(hne:l≠it)(items:Array Value) :
  Draws prog w A it [it,l] items.size (λi v=>items[i]? = some v) (λi h=>kX b h it l i/\sx b h l items) where
 live:=λ_ _ st=>let ⟨o,ho,_⟩:=st.1.obj;⟨o,ho⟩
 frame:=λ_ _ _ st hk=>⟨st.1.at λo e=>hk it (by simp) o e,st.2.at λo e=>hk l (by simp) o e⟩
 item:=λi s Q E hi st hQ=>by
  cases b
  .refine bL (show s.heap.IsTupleIter it l i from st.1) (show s.heap.IsTuple l items from st.2) (x:=items[i]) (by simp[hi]) λh' hit' hs'=>?_
   exact hQ _ h' s.toks (by simp[hi]) ⟨hit',st.2.at λo e=>hs'.extBut l o hne e⟩ hs'
  .refine wpAny_nextOf_list_item (show s.heap.IsListIter it l i from st.1) (show s.heap.IsList l items from st.2) (x:=items[i]) (by simp[hi]) λh' hit' hs'=>?_
   exact hQ _ h' s.toks (by simp[hi]) ⟨hit',st.2.at λo e=>hs'.extBut l o hne e⟩ hs'
 done:=λs Q E st hE=>by
  cases b
  .exact dE hh (show s.heap.IsTupleIter it l items.size from st.1) (show s.heap.IsTuple l items from st.2) (by simp) hE
  .exact wpAny_nextOf_list_end hh (show s.heap.IsListIter it l items.size from st.1) (show s.heap.IsList l items from st.2) (by simp) hE
open AutoSeq1 (wpAny_loadPart') in
theorem X8 (l:Addr)(items:Array Value)(n:Nat)(dct:Option Addr)(sl:Array (Option Value)) :
  Meets (Builtin.«enumerate.__new__» ⟨[.type "enumerate",.ref l],[]⟩) (λ_ R s=>s.heap.get? l=some { cls:=.type "tuple",dict:=dct,data:=.seq items n,slots:=sl } /\
   R (.ok (.ret (.ref (s.heap.push { cls:=.type "tuple_iterator",data:=.fields #[.ref l,.int 0 0] }).objs.size)))
    { s with heap:=(s.heap.push { cls:=.type "tuple_iterator",data:=.fields #[.ref l,.int 0 0] }).push { cls:=.type "enumerate",data:=.fields #[.none,.bool false,.ref s.heap.objs.size,rawInt 0,.none,.none] } }) :=
 .of_wp λprog w A R s h=>by
  obtain⟨hp,g,d,tk,os⟩:=s;obtain⟨hl,h⟩:=h
  have hsub:=sub_enumerate
  have hL:Heap.IsTuple (Shared.heap ⟨hp,g,d,tk,os⟩) l items:=⟨_,hl,rfl,n,rfl⟩
  wp_walk using wpAny_loadPart' hl
  refine wpAny_stack_any λst=>HS ?_
  split
  .rename_i c _ _ _ _ _
   cases(c == Value.type "enumerate")
   .wp_walk using wpAny_loadPart' hl,Km hL
    exact⟨_,rfl,h⟩
   .wp_walk using wpAny_loadPart' hl,Km hL
    exact⟨_,rfl,h⟩
  .wp_walk using wpAny_loadPart' hl,Km hL
   exact⟨_,rfl,h⟩
section
variable {prog:Program}{w:World}{A:Around}{E:Value->Shared->Prop}{s:Shared}
theorem Z0 {l:Addr}{items:Array Value}{Q:Value->Shared->Prop}(hL:s.heap.IsTuple l items)
  (h:∀h',IsEnum h' (s.heap.objs.size+1) s.heap.objs.size 0 .none->h'.IsTupleIter s.heap.objs.size l 0->h'.objs.size=s.heap.objs.size+2 ->
   (∀b o,s.heap.get? b=some o->h'.get? b=some o)->Q (.ref (s.heap.objs.size+1)) { s with heap:=h' }) :
  wpAny (model prog w) A (call (.type "enumerate") [.ref l]) Q E s:=by
 obtain⟨⟨c,dct,dt,sl⟩,hl,hc,n,hd⟩:=hL
 replace hc:c = .type "tuple":=hc
 replace hd:dt = .seq items n:=hd
 subst hc hd
 refine callType_new PySem.F.called_enumerate (by decide) (PySem.F.typeCall_enumerate_1 _) (PySem.F.newCall_enumerate_1 _) (λobj=>PySem.F.args_object_init_2 obj _) PySem.F.entry_enumerate_new
  (X8 l items n dct sl) ⟨hl,?_⟩
 have hz:(s.heap.push { cls:=.type "tuple_iterator",data:=.fields #[.ref l,.int 0 0] }).objs.size=s.heap.objs.size+1:=LH ..
 show _/\_
 rw[hz]
 have he:IsEnum ((s.heap.push { cls:=.type "tuple_iterator",data:=.fields #[.ref l,.int 0 0] }).push
   { cls:=.type "enumerate",data:=.fields #[.none,.bool false,.ref s.heap.objs.size,rawInt 0,.none,.none] }) (s.heap.objs.size+1) s.heap.objs.size 0 .none:=by
  have:=Ii (s.heap.push { cls:=.type "tuple_iterator",data:=.fields #[.ref l,.int 0 0] })
   (o:={ cls:=.type "enumerate",data:=.fields #[.none,.bool false,.ref s.heap.objs.size,rawInt 0,.none,.none] }) rfl
  rw[hz]at this;exact this
 refine⟨⟨_,he,rfl⟩,h _ he ⟨_,HI _ (Ii _ rfl),rfl,rfl⟩ (by rw[LH,hz]) λb o x=>HI _ (HI _ x)⟩
theorem qV {b:Bool}{l:Addr}{items:Array Value}{Q:Value->Shared->Prop}(hL:sx b s.heap l items)
  (h:∀h',IsEnum h' (s.heap.objs.size+1) s.heap.objs.size 0 .none->kX b h' s.heap.objs.size l 0->h'.objs.size=s.heap.objs.size+2 ->
   (∀b o,s.heap.get? b=some o->h'.get? b=some o)->Q (.ref (s.heap.objs.size+1)) { s with heap:=h' }) :
  wpAny (model prog w) A (call (.type "enumerate") [.ref l]) Q E s:=by
 cases b
 .exact Z0 (show s.heap.IsTuple l items from hL) h
 .exact call_enumerate_list (show s.heap.IsList l items from hL) h
end
def SqA (b:Bool)(K:Fg)(H:Hp)(a:Addr)(xs:List V):Prop:=if b then SqL K H a xs else SqT K H a xs
def Ite (b:Bool)(K:Fg)(a:Addr):It :=
 ⟨λi H=>∃xs x,SqA b K H a xs/\xs[i]? = some x,λi H v H'=>∃t x,v = .ref t/\H t=none/\H'=upd H t (.tup [.int i,x])/\∀xs,SqA b K H a xs->xs[i]? = some x,λi H=>∃xs,SqA b K H a xs/\xs.length=i⟩
theorem SqA.get {b:Bool}{X:Cx}{pins:List (Addr×Obj)}{σ:St}{H:Hp}{s:Shared}{a:Addr}{xs:List V}(I:Inv X pins σ H s)(h:SqA b X.K H a xs):∃its:List Value,i5 xs its/\sx b s.heap a its.toArray:=by
 cases b
 .obtain⟨its,rv,p,_⟩:=I.tuple (show SqT X.K H a xs from h)
  exact⟨its,rv,p⟩
 .obtain⟨its,rv,p,_⟩:=I.list (show SqL X.K H a xs from h)
  exact⟨its,rv,p.isList⟩
theorem SqA.inj {b:Bool}{X:Cx}{pins:List (Addr×Obj)}{σ:St}{H:Hp}{s:Shared}{a:Addr}{xs ys:List V}(I:Inv X pins σ H s)(h:SqA b X.K H a xs)(h':SqA b X.K H a ys):ys=xs:=by
 cases b
 .exact I.tuple_inj (show SqT X.K H a ys from h') (show SqT X.K H a xs from h)
 .exact I.list_inj (show SqL X.K H a ys from h') (show SqL X.K H a xs from h)
end
section
theorem sY {h:Heap}{c:Addr}{o o':Obj}(hl:c<h.objs.size)(e:(h.push o).get? c=some o'):h.get? c=some o':=by
 obtain⟨e1,e2⟩:=Heap.get?_some_iff.mp e
 refine Heap.get?_some_iff.mpr ⟨?_,e2⟩
 have:=Ic hl
 cases h;simpa [Heap.push,Array.getElem?_push,this] using e1
theorem gL {X:Cx}{pins:List (Addr×Obj)}{σ:St}{H:Hp}{s:Shared}{h':Heap}{t':Nat}{fp:List Addr}(I:Inv X pins σ H s)(hf:∀b∈fp,eY X pins H b)(k:∀b o,b ∉ fp->s.heap.get? b=some o->h'.get? b=some o):Inv X pins σ H { s with heap:=h',toks:=t' }:=by
 have nit:∀b u,H b=some u->b ∉ fp:=λb u e z=>by rw[(hf b z).1]at e;cases e
 refine I.step (g':=s.gens) (d':=s.drawn) (ch:=fp) (λb hb=>?_) (λb o _ _ hc e _=>k b o hc e) (λb o _ _ hc e _=>⟨o.slots,k b o hc e⟩) (λ_ _ _ _ n=>n)
  (λb o hc e=>⟨o,k b o hc e⟩) (λ_ _ e=>e) (λ_ _ _ e=>e) (λb ps e=>⟨#[],by rw[e];simp⟩) (λm hm=>?_) (λb u e=>?_) I.bare
 .obtain⟨_,f1,f2,f3,f4,f5⟩:=hf b hb
  exact⟨f3,f1,f4,f5⟩
 .obtain⟨o,es,ep,ho,r⟩:=hm
  exact⟨o,es,ep,k _ o (λz=>(hf _ z).2.1 rfl) ho,r⟩
 .refine(I.hok b u e).stay (λc v hc q=>k c v ?_ q) (λ_ q=>q) λ_ _ q=>q
  rcases hc with z | z
  .rw[z];exact nit b u e
  .exact nit c _ z
theorem qS {P:Program}{w:World}{K:Fg}{es:List Expr}{k:Nat}{pos:Pos}(b:Bool)(a e it:Addr):Turn P w K (.Tuple es k pos) (Ite b K a) [e,it] e (λi h=>(e≠it/\a≠e/\a≠it)/\(∃old,IsEnum h e it i old)/\kX b h it a i) where
 mem:=by simp
 obj:=λi h st c hb=>by
  obtain⟨_,⟨old,he⟩,hit⟩:=st
  rcases HB.mp hb with rfl | hb
  .exact⟨_,he,λv z=>by cases(show Data.fields _=Data.cell v from z)⟩
  .rw[Jd.mp hb];exact hit.obj
 keep:=λi h h' st kk=>by
  obtain⟨n,⟨old,he⟩,hit⟩:=st
  exact⟨n,⟨old,kk e (by simp) _ he⟩,hit.at λo z=>kk it (by simp) o z⟩
 item:=by
  intro X hP hw hK hc i pins s σ H E I hf st hg
  subst hP hw hK
  obtain⟨⟨n1,n2,n3⟩,⟨old,he⟩,hit⟩:=st
  obtain⟨xs,x,hq,hx⟩:=hg
  obtain⟨its,rv,p⟩:=SqA.get I hq
  obtain⟨u,hu,ru⟩:=rv.get hx
  have hlt:i<its.toArray.size:=by
   have:=(HG.mp hu).1
   simpa using this
  have hel:e<s.heap.objs.size:=HU he
  have hil:it<s.heap.objs.size:=by obtain⟨o,z,_⟩:=hit.obj;exact HU z
  refine wpAny_pyNext_enum_itemD (mn b (A:=X.A.in1) (I.ok.hd hc) it a n3 its.toArray) he ⟨hit,p⟩ hlt n1 (by simp[n1,Iz n2]) λy h' tk hy ho hst' ht hz hk=>?_
  have hyu:y=u:=by
   have hy:its.toArray[i]? = some y:=hy
   rw[List.getElem?_toArray,hu]at hy
   exact(HN hy).symm
  subst hyu
  refine⟨_,rfl,wpAny_letOwnedTupleGo_enum ho λh2 he2 hs2=>?_⟩
  have hs2:Heap.SameBut e h' h2:=hs2
  have hf0:H s.heap.objs.size=none:=I.hok.fresh (HK _)
  have I1:Inv X pins σ (upd H s.heap.objs.size (.tup [.int i,x])) { s with heap:=s.heap.push { cls:=.type "tuple",data:=.seq #[.int i tk,y] },toks:=tk }:=by
   refine I.laid (t':=tk) (λb u e=>HI _ e) (HK _) ?_
   exact⟨Im (show 2<=10000 by decide) (by rw[Io];decide),[.int i tk,y],.cons ⟨tk,rfl⟩ (.cons ru .nil),⟨_,Ii _ rfl,rfl,_,rfl⟩⟩
  have hfp:∀c∈[e,it],eY X pins (upd H s.heap.objs.size (.tup [.int i,x])) c:=λc hcm=>by
   obtain⟨f0,f⟩:=hf c hcm
   have hne:c≠s.heap.objs.size:=by
    rcases HB.mp hcm with rfl | hcm
    .exact Ic hel
    .rw[Jd.mp hcm];exact Ic hil
   exact⟨by rw[a8 hne];exact f0,f⟩
  have hT2:h2.get? s.heap.objs.size=some { cls:=.type "tuple",data:=.seq #[.int i tk,y] }:=hs2.extBut _ _ (Ma hel) ht
  have I2:Inv X pins σ (upd H s.heap.objs.size (.tup [.int i,x])) { s with heap:=h2,toks:=tk+1 }:=by
   refine gL (s:={ s with heap:=s.heap.push { cls:=.type "tuple",data:=.seq #[.int i tk,y] },toks:=tk }) I1 hfp λc o hcn ec=>?_
   have c1:c≠e:=λz=>hcn (by simp[z])
   have c2:c≠it:=λz=>hcn (by simp[z])
   by_cases hcT:c=s.heap.objs.size
   .subst hcT
    have:(s.heap.push { cls:=.type "tuple",data:=.seq #[.int i tk,y] }).get? s.heap.objs.size=some o:=ec
    rw[Ii _ rfl]at this
    rw[hT2];exact this
   .have hlc:c<s.heap.objs.size:=by
     have h1:c<(s.heap.push { cls:=.type "tuple",data:=.seq #[.int i tk,y] }).objs.size:=HU ec
     rw[LH]at h1
     exact Nat.lt_of_le_of_ne (Nat.le_of_lt_succ h1) hcT
    have ec':s.heap.get? c=some o:=by
     have ec:(s.heap.push { cls:=.type "tuple",data:=.seq #[.int i tk,y] }).get? c=some o:=ec
     exact sY hlc ec
    exact hs2.extBut c o c1 (hk c o c1 c2 ec')
  refine⟨.ref s.heap.objs.size,upd H s.heap.objs.size (.tup [.int i,x]),I2,rfl,⟨_,x,rfl,hf0,rfl,λys hy=>by rw[SqA.inj I hq hy];exact hx⟩,⟨⟨n1,n2,n3⟩,⟨y,by simpa using he2⟩,hst'.1.at λo z=>hs2.extBut it o (Iz n1) z⟩,λc hcm=>(hfp c hcm).1⟩
 done:=by
  intro X hP hw hK hc i pins s σ H E I hf st hg
  subst hP hw hK
  obtain⟨⟨n1,n2,n3⟩,⟨old,he⟩,hit⟩:=st
  obtain⟨xs,hq,hx⟩:=hg
  obtain⟨its,rv,p⟩:=SqA.get I hq
  have hl:its.toArray.size=i:=by rw[HQ,<-rv.length];exact hx
  refine wpAny_pyNext_enum_endD (mn b (A:=X.A.in1) (I.ok.hd hc) it a n3 its.toArray) he (by rw[hl];exact⟨hit,p⟩) λh' eb=>⟨rfl,gL (t':=s.toks) I hf λc o hc ec=>eb c o (λz=>hc (by simp[z])) ec⟩
 self:=λ_ _ _ _ _ st h=>by
  obtain⟨_,⟨old,he⟩,_⟩:=st
  exact wpAny_pyIter_enum he h
section
variable [Feeds]{K:Fg}{X:Cx}{tg iter e:Expr}{te:TE}{m:DE->M PyData}{pos p tp:Pos}{es:List Expr}{tk:Nat}
def J8:Nat->List PyData->List PyData
 | _,[]=>[]
 | k,d::r=>.tuple [.int k,d]::J8 (k+1) r
theorem iX:∀{ds:List PyData} {k:Nat},(J8 k ds).length=ds.length
 | [],k=>rfl
 | d::r,k=>by rw[J8,HZ,HZ,iX]
theorem jh:∀{ds:List PyData} {k i:Nat} {z:PyData},(J8 k ds)[i]? = some z->∃d,ds[i]? = some d/\z = .tuple [.int ((k+i:Nat)),d]
 | [],k,i,z,h=>by simp[J8]at h
 | d::r,k,0,z,h=>by simp[J8]at h;exact⟨d,by simp,by simp[h]⟩
 | d::r,k,i+1,z,h=>by
  rw[J8,Kg]at h
  obtain⟨d',h1,h2⟩:=jh h
  refine⟨d',by simpa using h1,?_⟩
  rw[h2,show k+1+i=k+(i+1) by omega]
def cR (a:DE->M PyData):DE->M (List PyData):=λE F=>(a E F).bind λp=>(iF p.1).bind λds=>some (J8 0 ds,p.2)
def ve (K:Fg)(tl:TA):TI:=λσ H R=>tl σ H λxs H1=>∃a,xs=[.ref a]/\∃b ys,SqA b K H1 a ys/\R (Ite b K a) H1
theorem qx {l:Expr}{tl:TA}(hK:X.K=K)(hg:Gl X "enumerate")(hm:X.mg "enumerate" = none)(ha:PA X [l] tl)(hs:starEach [l] X.env=[(false,eval l X.env)]:=by rfl):PI X (.Tuple es tk tp) (.Call (.Name "enumerate" p) [l] [] pos) (ve K tl):=by
 subst hK
 intro pins s σ H R I h
 refine Call_ (Y1 I hg hm boot_enumerate (JF (thn (ha pos pins s σ H _ I h) λus s1 ⟨vs,H1,I1,r1,q1⟩=>?_) hs rfl))
 obtain⟨a,e,b,ys,hq,q⟩:=q1
 subst e
 cases r1 with
 | cons r rr =>
  cases rr
  cases r
  obtain⟨its,rv,p⟩:=SqA.get I1 hq
  refine qV p λh' he hit hz hk=>?_
  have I2:Inv X pins σ H1 { s1 with heap:=h' }:=I1.kept (t':=s1.toks) hk
  have hal:a<s1.heap.objs.size:=by
   cases b
   .obtain⟨o,z,_⟩:=(show s1.heap.IsTuple a its.toArray from p);exact HU z
   .obtain⟨o,z,_⟩:=(show s1.heap.IsList a its.toArray from p);exact HU z
  refine wpAny_pyIter_enum he ⟨s1.heap.objs.size+1,[s1.heap.objs.size+1,s1.heap.objs.size],_,_,H1,rfl,I2,qS b a _ _,⟨⟨Nat.succ_ne_self _,Ic (JP hal),Ic hal⟩,⟨_,he⟩,hit⟩,λc hc=>?_,q⟩
  have hle:s1.heap.objs.size<=c:=by
   rcases HB.mp hc with rfl | hc
   .exact Kb _
   .rw[Jd.mp hc];exact HK _
  exact I1.fpOk hle (I1.hok.fresh hle)
theorem fk {P:Hp->List Addr->Prop}{b:Bool}{a:Addr}{ds:List PyData}{xs:List V}(h:∀H B,P H B->SqA b K H a xs/\a6 K (hid H B) ds xs):dH K P (Ite b K a) (J8 0 ds):=λH B hp=>by
 obtain⟨h1,h2⟩:=h H B hp
 refine⟨λi d e=>?_,⟨xs,h1,by rw[iX,h2.length]⟩⟩
 obtain⟨d',hd',rfl⟩:=jh e
 obtain⟨v,e1,e2⟩:=a6.item h2 hd'
 refine⟨⟨xs,v,h1,e1⟩,λx H2 y=>?_⟩
 obtain⟨t,x',rfl,ht,rfl,y⟩:=y
 have:=y xs h1
 rw[e1]at this;cases this
 refine⟨d8.upd ht,λbk=>?_⟩
 rw[IB]
 exact O7 bk ht ⟨_,_,rfl,a7.int,_,_,rfl,e2,rfl⟩
theorem pR (h:Ev K X e te m)(hm:X.mg "enumerate" = none)(hK:X.K=K:=by rfl)(hg:Gl X "enumerate":=by rfl)(hs:starEach [e] X.env=[(false,eval e X.env)]:=by rfl):Ei K X (.Tuple es tk tp) (.Call (.Name "enumerate" p) [e] [] pos) (ve K (l9 te C4)) (cR m):=⟨qx hK hg hm (f9 h.pe j9 hs) hs,λG B E F σ H R ds F' I e q=>by
 obtain⟨⟨y,F1⟩,e1,e⟩:=bS9 e
 obtain⟨z,e2,e⟩:=bS9 e
 cases e
 refine h.ok G B E F σ H _ y F1 I e1 λv H1 k1 f1 h1=>?_
 cases y with
 | list ys =>
  cases e2
  simp only[a7]at h1
  obtain⟨a,xs,rfl,ha,hd⟩:=h1
  exact⟨a,rfl,true,xs,SqL.of (c7 _ _ ha),q _ H1 k1 f1 (fk λH2 B2 s=>⟨SqL.of (c7 _ _ (s _ _ ha)),hd.same s⟩)⟩
 | tuple ys =>
  cases e2
  simp only[a7]at h1
  obtain⟨a,xs,rfl,ha,hd⟩:=h1
  exact⟨a,rfl,false,xs,ha.same c7,q _ H1 k1 f1 (fk λH2 B2 s=>⟨(ha.same s).same c7,hd.same s⟩)⟩
 | _=>cases e2⟩
theorem uA (h:Eb K X e te m)(hm:X.mg "enumerate" = none)(hK:X.K=K:=by rfl)(hg:Gl X "enumerate":=by rfl)(hs:starEach [e] X.env=[(false,eval e X.env)]:=by rfl):Eib K X (.Tuple es tk tp) (.Call (.Name "enumerate" p) [e] [] pos) (ve K (l9 te C4)) (cR m):=⟨qx hK hg hm (f9 h.pe j9 hs) hs,λG B E F σ H R ds F' I e q=>by
 obtain⟨⟨y,F1⟩,e1,e⟩:=bS9 e
 obtain⟨z,e2,e⟩:=bS9 e
 cases e
 refine h.ok G B E F σ H _ y F1 I e1 λv H1 k1 f1 h1=>?_
 cases y with
 | list ys =>
  cases e2
  obtain⟨a,xs,rfl,ha,hd⟩:=h1
  exact⟨a,rfl,true,xs,SqL.of (c7 _ _ ha),q _ H1 k1 f1 (fk λH2 B2 k=>⟨SqL.of (c7 _ _ (k.1.hid (B:=j7 K G) (λ_ z=>z) _ _ ha)),hd.same k.2⟩)⟩
 | tuple ys =>
  cases e2
  obtain⟨a,xs,rfl,ha,hd⟩:=h1
  exact⟨a,rfl,false,xs,ha.same c7,q _ H1 k1 f1 (fk λH2 B2 k=>⟨(ha.same k.2).same c7,hd.same k.2⟩)⟩
 | _=>cases e2⟩
end
end
section
section
variable [Feeds]{K:Fg}{X:Cx}{a b c e tg iter:Expr}{es:List Expr}{ta tb tc te:TE}{ma mb mc m:DE->M PyData}{pos pos' p p2:Pos}{t u:TS}{mt mu:DE->M Out}
def rK (f:Int->Int->Int)(i:Nat)(a:DE->M PyData):DE->M Out:=λE F=>match E[i]? with
 | some (some (.dat (.int x)))=>(a E F).bind λp=>(Z6 p.1).bind λy=>(bN i (.int (f x y)) E).bind λE1=>some (.nx E1,p.2)
 | _=>none
theorem CP {f:Int->Int->Int}{i:Nat}(he:TEd K te m):TSd K (tQ i te (ipI f)) (rK f i m):=λG B0 H0 E F σ H D r F' S e q=>by
 unfold rK at e
 split at e
 .rename_i x hx
  obtain⟨⟨d,F1⟩,e1,e⟩:=bS9 e
  obtain⟨y,e2,e⟩:=bS9 e
  obtain⟨E1,e3,e⟩:=bS9 e
  cases e
  obtain⟨B,s,sn,I⟩:=S.ex
  obtain⟨v,v1,v2⟩:=I.loc i _ hx
  have v2:a7 K (hid H B) (.int x) v:=v2
  simp only[a7]at v2
  subst v2
  refine⟨_,v1,he G B E F σ H _ d F1 I e1 λv H1 k1 f1 h1=>?_⟩
  have:=W4 e2
  simp only at this
  subst this
  simp only[a7]at h1
  subst h1
  refine⟨x,y,rfl,rfl,?_⟩
  have S1:=S.step k1 f1
  exact jx i G B E F1 σ H1 (.int (f x y)) _ E1 (λσ' H'=>D.nx σ' H') (I.step k1 f1) a7.int e3 λσ' I' fr=>q σ' H1 (S1.bind s sn I' fr)
 .cases e
theorem xH (i:Nat){x:Str}(hN:X.N.Nodup)(he:Ev K X e te m)(hi:X.N[i]? = some x:=by rfl)(hx:Loc X.env.scope x:=by first | exact Or.inl rfl | exact Or.inr rfl)(hf:X.fn x=true\/X.env.scope.names.lookup x=some .local:=by first | exact .inl rfl | exact .inr rfl | assumption) :
  Ss K X (.AugAssign (.Name x pos') .Add e pos) (tQ i te (ipI λi j=>i+j)) (rK (λi j=>i+j) i m):=⟨tM hN hi hx he.pe zD hf,CP he.ok⟩
def lg (i:Nat)(v:DE->M PyData):DE->M Out:=λE F=>(v E F).bind λp=>(R3 E i).bind λds=>match p.1 with
 | .list zs=>if ds.length+zs.length<=sizeLine then some (.nx (E.set i (some (.own (ds++zs)))),p.2) else none
 | _=>none
end
end
section
section
variable [Feeds]{K:Fg}{X:Cx}{a b c e tg iter:Expr}{es:List Expr}{ta tb tc te:TE}{ma mb mc m:DE->M PyData}{pos pos' p p2:Pos}
end
end
section
section
variable {X:Cx}
def jQ:V->List V->Hp->VK->Prop:=λx vs H Q=>∃l xs k y,x = .ref l/\vs=[.int k,y]/\H l=some (.lst xs)/\0<=k/\k<=xs.length/\xs.length<sizeLine/\Q .non (upd H l (.lst (xs.take k.toNat++[y]++xs.drop k.toNat)))
theorem rN:MtM X "list.insert" jQ:=by
 intro pins s σ H x vs v us Q I rx rv h
 obtain⟨l,xs,k,y,rfl,rfl,hH,k0,k1,hz,q⟩:=h
 cases rx
 cases rv with
 | cons r1 rr =>
  cases rr with
  | cons r2 rr =>
   cases rr
   rename_i u2
   obtain⟨tk,rfl⟩:=r1
   obtain⟨z,its,n,r,hl,e⟩:=I.lstM hH
   have hln:=Z4
   have hfit:¬(!Builtin.List.listFitsIndex k)=true:=by
    rw[fitsIndex_both (by omega) (by omega)]
    exact Ia
   have hk:k.toNat<=its.length:=by omega
   refine Kj PySem.F.slot_list_insert ⟨_,e,rfl⟩ PySem.F.entry_list_insert (PySem.F.args_list_insert_3 _ _ _) (PySem.AutoListH.list_insert_list_int_val_1 l its.toArray n k tk u2 hfit (by rw[HQ];omega)) ⟨e,?_⟩
   refine⟨.non,_,I.lset (its':=its.take k.toNat++[u2]++its.drop k.toNat) hH e ?_ ((i5.append (i5.take k.toNat r) (.cons r2 .nil)).append (i5.drop k.toNat r)) ?_,rfl,q⟩
   .have h1:(if k<0 then(k+((its.toArray.size:Nat):Int)).toNat else min k.toNat its.toArray.size)=k.toNat:=by
     rw[HM (by omega),HQ];omega
    show(have kk:=if k<0 then(k+((its.toArray.size:Nat):Int)).toNat else min k.toNat its.toArray.size;(its.toArray.extract 0 kk).push u2++its.toArray.extract kk)=_
    rw[h1]
    apply Array.ext'
    simp[IV]
   .simp only[IA,IH,Mb,List.length_singleton]
    omega
end
section
variable [Feeds]{K:Fg}{X:Cx}{a b c e tg iter:Expr}{es:List Expr}{ta tb tc te:TE}{ma mb mc m:DE->M PyData}{pos pos' p p2 pos2:Pos}
def tG (i:Nat)(k v:DE->M PyData):DE->M Out:=λE F=>(k E F).bind λp=>(v E p.2).bind λq=>(Z6 p.1).bind λn=>(R3 E i).bind λds=>if 0<=n/\n<=ds.length/\ds.length<sizeLine then some (.nx (E.set i (some (.own (ds.take n.toNat++[q.1]++ds.drop n.toNat)))),q.2) else none
theorem a6.take {H:Hp}:∀{ds:List PyData} {xs:List V} (n:Nat),a6 K H ds xs->a6 K H (ds.take n) (xs.take n)
 | ds,xs,0,_=>by simp[a6]
 | [],xs,n+1,h=>by simp only[a6]at h;subst h;simp[a6]
 | d::ds,xs,n+1,h=>by
  simp only[a6]at h
  obtain⟨y,r,rfl,h1,h2⟩:=h
  simp only[Ke,a6]
  exact⟨y,r.take n,rfl,h1,a6.take n h2⟩
theorem CD {i:Nat}(hk:TEd K tb mb)(hv:TEd K te m):TSd K (aa (tBM K "list" jQ (l4 i) (l9 tb (l9 te C4)))) (tG i mb m):=λG B0 H0 E F σ H D r F' S e q=>by
 obtain⟨⟨n,F1⟩,e1,e⟩:=bS9 e
 obtain⟨⟨d,F2⟩,e2,e⟩:=bS9 e
 obtain⟨k,e3,e⟩:=bS9 e
 obtain⟨ds,e4,e⟩:=bS9 e
 split at e
 .rename_i hl
  cases e
  obtain⟨B,s,sn,I⟩:=S.ex
  have eo:=P8 e4
  obtain⟨w,w1,a,xs,rfl,hB,hf,hx,hdx⟩:=I.loc i _ eo
  refine⟨_,w1,.inl ⟨rfl,xs,SqL.of hx⟩,hk G B E F σ H _ n F1 I e1 λu H1 k1 f1 h1=>hv G B E F1 σ H1 _ d _ (I.step k1 f1) e2 λu2 H2 k2 f2 h2=>?_⟩
  have:=W4 e3
  simp only at this
  subst this
  simp only[a7]at h1
  subst h1
  have hd2:=(hdx.same (k1.hid I.fB)).same (k2.hid I.fB)
  refine⟨a,xs,k,u2,rfl,rfl,k2 a _ (k1 a _ hx hf) hf,hl.1,by rw[hdx.length];exact hl.2.1,by rw[hdx.length];exact hl.2.2,q σ _ ((S.step (k1.trans k2) f2).write s sn ((I.step k1 f1).step k2 f2) eo w1 ?_)⟩
  exact a6.append (a6.drop _ hd2) ((a6.take _ hd2).snoc h2)
 .cases e
theorem Ac (i:Nat){x:Str}{px ap cp:Pos}(hK:X.K=K)(hk:Ev K X b tb mb)(hv:Ev K X e te m)(hN:X.N[i]? = some x:=by rfl)(hvis:Vis X.env.scope x:=by first | exact Or.inl rfl | exact Or.inr (Or.inl rfl) | exact Or.inr (Or.inr rfl))(hd:(x == ("__debug__":Str))=false:=by decide)(hcd:(x == ("__classdict__":Str))=false:=by decide)
  (hbase:attributeBase (.Name x px) "insert" X.env (eval (.Name x px) X.env)=eval (.Name x px) X.env:=by rfl)
  (hfew:((backTo cp (starEach [b,e] X.env)).all (λx=>!x.1)&&(backToKw cp (keywordEach [] X.env)).all (λx=>x.1.isSome)
   && decide ([b,e].length+([]:List Keyword).length+(if ([]:List Keyword).isEmpty then 0 else 1)<30))=true:=by rfl)
  (hline:(ap.endLine == cp.line)=true:=by rfl) (hst:starEach [b,e] X.env=(false,eval b X.env)::starEach [e] X.env:=by rfl) (hst2:starEach [e] X.env=(false,eval e X.env)::starEach [] X.env:=by rfl) (hplain:(backTo cp (starEach [e] X.env)).any (·.1)=false:=by rfl)
  (hs:swapsWith (.Call (.Attribute (.Name x px) "insert" ap) [b,e] [] cp) none pos.line X.env=pure false:=by rfl) :
  Ss K X (.Expr (.Call (.Attribute (.Name x px) "insert" ap) [b,e] [] cp) pos) (aa (tBM K "list" jQ (l4 i) (l9 tb (l9 te C4)))) (tG i mb m):=by
 subst hK
 exact⟨S4 (ia Ju PySem.F.slot_list_insert PySem.F.type_list_insert rN (C7 hN hvis hd hcd) (f9 hk.pe (f9 hv.pe j9 hst2) hst) hbase hfew hline hst hplain) hs,CD hk.ok hv.ok⟩
def yV (ta:TA):TE:=λσ H Q=>ta σ H λvs H1=>∃i j:Int,vs=[.int i,.int j]/\∀p,H1 p=none->Q (.ref p) (upd H1 p (.rng i j))
theorem rO {ta:TA}(hg:Gl X "range")(hm:X.mg "range" = none)(ha:PA X [a,b] ta)(hs:starEach [a,b] X.env=[(false,eval a X.env),(false,eval b X.env)]:=by rfl)(hs2:starEach [b] X.env=[(false,eval b X.env)]:=by rfl):PE X (.Call (.Name "range" p) [a,b] [] pos) (yV ta):=by
 intro pins s σ H Q I h
 refine Call_ (Y1 I hg hm boot_range (JF (thn (ha pos pins s σ H _ I h) λus s1 ⟨vs,H1,I1,r1,q1⟩=>?_) (by rw[hs,hs2]) (by rw[hs2];rfl)))
 obtain⟨i,j,e,q⟩:=q1
 subst e
 cases r1 with
 | cons r rr =>
  cases rr with
  | cons r2 rr =>
   cases rr
   obtain⟨t,rfl⟩:=r
   obtain⟨t2,rfl⟩:=r2
   refine call_range_2 ?_
   exact⟨.ref s1.heap.objs.size,_,I1.laid (a:=s1.heap.objs.size) (o:=.rng i j) (λb o e=>HI _ e) (HK _) ⟨_,_,_,Ii _ rfl⟩,rfl,q _ (I1.hok.fresh (HK _))⟩
theorem rS {lo:Int}{n:Nat}{acc:Array Value}(h:ItemsOf (λi v=>∃t,v=Value.int (lo+i*1) t) acc n):i5 ((List.range n).map λ(i:Nat)=>V.int (lo+(i:Int))) acc.toList:=by
 obtain⟨h1,h2⟩:=h
 refine R5 (by rw[Hz,Ih,Jx,h1]) λi x u hx hu=>?_
 rw[HP]at hx
 obtain⟨j,hj,rfl⟩:=Ip.mp hx
 obtain⟨hlt,e⟩:=HG.mp hj
 rw[JV]at e
 subst e
 obtain⟨t,rfl⟩:=h2 i u (by rw[<-IR];exact hu)
 exact⟨t,by congr 1;omega⟩
def uQ:List V->Hp->VK->Prop:=λxs H Q=>∃(p:Addr) (i j:Int),xs=[.ref p]/\H p=some (.rng i j) /\ -(2 ^ 62)<=i/\i<2 ^ 62 /\ -(2 ^ 62)<=j/\j<2 ^ 62/\(j-i).toNat<=1000/\∀l,H l=none->Q (.ref l) (upd H l (.lst ((List.range (j-i).toNat).map λ(k:Nat)=>V.int (i+(k:Int)))))
theorem Z5 (hc:X.calm=true):C5 X (.type "list") uQ:=by
 intro pins s σ H xs us Q I r h
 obtain⟨p,i,j,rfl,hp,i0,i1,j0,j1,hz,q⟩:=h
 obtain⟨u,rfl,ru⟩:=N9 r
 cases ru
 obtain⟨t,u,v,hr⟩:=(show A7 X.prog X.w H s.heap p (.rng i j) from I.hok p _ hp)
 have hn:Builtin.Range.rangeSize i j 1=((j-i).toNat:Int):=by rw[rangeSize_one];split <;> omega
 refine call_list_range (n:=(j-i).toNat) (I.ok.hd hc) hr (small_one (by omega) (by omega) (by omega) (by omega)) hn (by omega) λh' tk acc c' hk hS hit=>?_
 have I1:Inv X pins σ (upd H s.heap.objs.size (.lst ((List.range (j-i).toNat).map λ(k:Nat)=>V.int (i+(k:Int))))) { s with heap:=h',toks:=tk } :=
  I.laid (a:=s.heap.objs.size) hk (HK _) ⟨by rw[Hz,Ih];exact Jm (L7 (by omega)),acc.toList,c',rS hit,by rw[hS]⟩
 exact⟨.ref s.heap.objs.size,_,I1,rfl,q _ (I.hok.fresh (HK _))⟩
theorem gC {H:Hp}{lo:Int}:∀{ns:List Nat},a6 K H (ns.map λ(i:Nat)=>PyData.int (lo+i)) (ns.map λ(k:Nat)=>V.int (lo+(k:Int)))
 | []=>a6.nil
 | n::r=>⟨_,_,rfl,a7.int,gC (ns:=r)⟩
def kB (a:DE->M (List PyData)):DE->M PyData:=λE F=>(a E F).bind λp=>(N0 p.1).bind λds=>if ds.length<=1000 then some (.list ds,p.2) else none
def gO (a:DE->M (List PyData)):DE->M PyData:=λE F=>(a E F).bind λp=>(ju p.1).bind λds=>if ds.length<=1000 then some (.list ds,p.2) else none
theorem tm {ta:TA}{ms:DE->M (List PyData)}(h:Ea K X [a] ta ms)(hc:X.calm=true)(hm:X.mg "range" = none)(hml:X.mg "list" = none)(hbt:bootBuiltins "list" = some (.type "list"))(hg:Gl X "range":=by rfl)(hgl:Gl X "list":=by rfl)(hs:starEach [a] X.env=[(false,eval a X.env)]:=by rfl)
  (he:starEach [.Call (.Name "range" p2) [a] [] pos2] X.env=(false,eval (.Call (.Name "range" p2) [a] [] pos2) X.env)::starEach [] X.env:=by rfl) (hpl:(backTo pos (starEach [] X.env)).any (·.1)=false:=by rfl) :
  Ev K X (.Call (.Name "list" p) [.Call (.Name "range" p2) [a] [] pos2] [] pos) (tCB uQ (l9 (BY ta) C4)) (kB ms) :=
 ⟨ak (Z5 hc) hgl hml hbt (f9 (vP hg hm h.pa hs) j9 he) (by decide) (by decide) he hpl,λG B E F σ H Q d F' I e q=>by
  obtain⟨⟨ys,F1⟩,e1,e⟩:=bS9 e
  obtain⟨z,e2,e⟩:=bS9 e
  split at e
  .rename_i hz
   cases e
   refine h.ok G B E F σ H _ ys F1 I e1 λvs H1 k1 f1 h1=>?_
   unfold N0 at e2
   split at e2
   .rename_i j hj
    split at e2
    .rename_i hc
     cases e2
     have hj:ys=[.int j]:=hj
     subst hj
     simp only[a6]at h1
     obtain⟨x,r,rfl,h2,rfl⟩:=h1
     simp only[a7]at h2
     subst h2
     have hz:(V4 0 j.toNat).length<=1000:=hz
     simp[V4]at hz
     refine⟨j,rfl,λp hp=>⟨p,0,j,rfl,b8,by omega,by omega,hc.1,hc.2,by omega,λl hl=>?_⟩⟩
     have bk1:=q5 I.bk k1 f1
     have bk2:BOk (upd H1 p (.rng 0 j)) B:=λb hb=>by
      obtain⟨o,eo⟩:=bk1 b hb
      exact⟨o,by rw[a8 (d6 eo hp)];exact eo⟩
     rw[Int.sub_zero]
     exact q _ _ ((k1.trans (Kp.upd hp)).trans (Kp.upd hl)) ((f1.same (d8.upd hp)).same (d8.upd hl)) (K1 bk2 hl gC)
    .cases e2
   .cases e2
  .cases e⟩
theorem sJ {ta:TA}{ms:DE->M (List PyData)}(h:Ea K X [a,b] ta ms)(hc:X.calm=true)(hm:X.mg "range" = none)(hml:X.mg "list" = none)(hbt:bootBuiltins "list" = some (.type "list"))(hg:Gl X "range":=by rfl)(hgl:Gl X "list":=by rfl)(hs:starEach [a,b] X.env=[(false,eval a X.env),(false,eval b X.env)]:=by rfl)(hs2:starEach [b] X.env=[(false,eval b X.env)]:=by rfl)
  (he:starEach [.Call (.Name "range" p2) [a,b] [] pos2] X.env=(false,eval (.Call (.Name "range" p2) [a,b] [] pos2) X.env)::starEach [] X.env:=by rfl) (hpl:(backTo pos (starEach [] X.env)).any (·.1)=false:=by rfl) :
  Ev K X (.Call (.Name "list" p) [.Call (.Name "range" p2) [a,b] [] pos2] [] pos) (tCB uQ (l9 (yV ta) C4)) (gO ms) :=
 ⟨ak (Z5 hc) hgl hml hbt (f9 (rO hg hm h.pa hs hs2) j9 he) (by decide) (by decide) he hpl,λG B E F σ H Q d F' I e q=>by
  obtain⟨⟨ys,F1⟩,e1,e⟩:=bS9 e
  obtain⟨z,e2,e⟩:=bS9 e
  split at e
  .rename_i hz
   cases e
   refine h.ok G B E F σ H _ ys F1 I e1 λvs H1 k1 f1 h1=>?_
   unfold ju at e2
   split at e2
   .rename_i i j hj
    split at e2
    .rename_i hc
     cases e2
     have hj:ys=[.int i,.int j]:=hj
     subst hj
     simp only[a6]at h1
     obtain⟨x,r,rfl,h2,y,r2,rfl,h3,rfl⟩:=h1
     simp only[a7]at h2 h3
     subst h2 h3
     have hz:(V4 i (j-i).toNat).length<=1000:=hz
     simp[V4]at hz
     refine⟨i,j,rfl,λp hp=>⟨p,i,j,rfl,b8,by omega,by omega,by omega,by omega,by omega,λl hl=>?_⟩⟩
     have bk1:=q5 I.bk k1 f1
     have bk2:BOk (upd H1 p (.rng i j)) B:=λb hb=>by
      obtain⟨o,eo⟩:=bk1 b hb
      exact⟨o,by rw[a8 (d6 eo hp)];exact eo⟩
     exact q _ _ ((k1.trans (Kp.upd hp)).trans (Kp.upd hl)) ((f1.same (d8.upd hp)).same (d8.upd hl)) (K1 bk2 hl gC)
    .cases e2
   .cases e2
  .cases e⟩
end
end
section
section
variable {prog:Program}{w:World}{A:Around}{E:Value->Shared->Prop}{s:Shared}
end
section
variable {X:Cx}{K:Fg}{p p2 pos pos2:Pos}
end
section
variable {prog:Program}{w:World}{A:Around}{E:Value->Shared->Prop}{s:Shared}
end
section
variable {X:Cx}{K:Fg}{p p2 pos pos2:Pos}
variable [Feeds]
end
end
section
section
variable {X:Cx}{K:Fg}
variable {mg:Str->Option Value}
end
section
variable [Feeds]{X:Cx}{K:Fg}
def sg (i:Nat)(m:DE->M Out):DE->M Out:=λE F=>(R3 E i).bind λds=>m (E.set i (some (.dat (.list ds)))) F
theorem BR {i:Nat}{ts:TS}{m:DE->M Out}(h:TSd K ts m):TSd K ts (sg i m):=λG B0 H0 E F σ H D r F' S e q=>by
 obtain⟨ds,e4,e⟩:=bS9 e
 obtain⟨B,s,sn,I⟩:=S.ex
 have eo:=P8 e4
 have hil:i<E.length:=(HG.mp eo).1
 obtain⟨w,w1,a,xs,rfl,hB,hf,hx,hdx⟩:=I.loc i _ eo
 have ha:=S.own i ds a eo w1
 have sub:∀b∈B.filter (λb=>decide (b≠a)),b∈B:=λb hb=>(Iu.mp hb).1
 have inB:∀b∈B,b≠a->b∈B.filter (λb=>decide (b≠a)):=λb hb hn=>Iu.mpr ⟨hb,Je hn⟩
 have ng:a ∉ B.filter (λb=>decide (b≠a)):=λhb=>absurd rfl (Iw (Iu.mp hb).2)
 have sm:d8 (hid H B) (hid H (B.filter (λb=>decide (b≠a)))):=G6 sub
 have get:∀j,j≠i->(E.set i (some (.dat (.list ds))))[j]? = E[j]?:=λj hj=>by rw[HL (Iz hj)]
 have geti:(E.set i (some (.dat (.list ds))))[i]? = some (some (.dat (.list ds))):=by rw[HR hil]
 refine h G B0 H0 (E.set i (some (.dat (.list ds)))) F σ H D r F' ⟨⟨_,λb hb=>inB b (s b hb) λz=>ha.2 (z▸hb),λb hb=>sn b (sub b hb),⟨I.fd,λb hb=>inB b (I.fB b hb) λz=>hf (z▸hb),λb hb=>I.bk b (sub b hb),by rw[Jg];exact I.ln,λj x ej=>?_⟩⟩,S.fB,S.kp,λj es b ej=>?_,λj k es fs b ej ek=>?_⟩ e q
 .by_cases hj:j=i
  .subst hj
   rw[geti]at ej
   cases ej
   refine⟨_,w1,a7.lst (by rw[d7 ng];exact hx) (hdx.same sm)⟩
  .rw[get j hj]at ej
   obtain⟨v,v1,hv⟩:=I.loc j x ej
   refine⟨v,v1,?_⟩
   cases x with
   | dat d=>exact a7.same (hv:a7 _ _ _ _) sm
   | feed=>exact hv
   | fn _=>exact hv
   | adr _=>exact hv
   | own es =>
    obtain⟨b,ys,e1,hb1,hb2,hb3,hb4⟩:=hv
    subst e1
    exact⟨b,ys,rfl,inB b hb1 λz=>hj (S.inj j i es ds a ej eo (z▸v1) w1),hb2,hb3,hb4.same sm⟩
 .by_cases hj:j=i
  .subst hj;rw[geti]at ej;cases ej
  .rw[get j hj]at ej;exact S.own j es b ej
 .by_cases hj:j=i
  .subst hj;rw[geti]at ej;cases ej
  .by_cases hk:k=i
   .subst hk;rw[geti]at ek;cases ek
   .rw[get j hj]at ej;rw[get k hk]at ek;exact S.inj j k es fs b ej ek
theorem AL (i:Nat){st:Stmt}{ts:TS}{m:DE->M Out}(h:Ss K X st ts m):Ss K X st ts (sg i m):=⟨h.ps,BR h.ok⟩
end
end
section
section
variable {X:Cx}
end
section
variable [Feeds]{X:Cx}{K:Fg}{e:Expr}{te:TE}{m:DE->M PyData}{pos pos':Pos}
end
end
section
section
variable {prog:Program}{w:World}{A:Around}{E:Value->Shared->Prop}{s:Shared}
theorem iI {it t:Addr}{items:Array Value}(hne:t≠it):∀(n i:Nat) (s:Shared) (Q:List Value->Shared->Prop),s.heap.IsListIter it t i->s.heap.IsList t items->i+n<=items.size ->
  (∀h',Heap.IsListIter h' it t (i+n)->Heap.SameBut it s.heap h'->Q ((items.toList.drop i).take n) { s with heap:=h' })->wpAny (model prog w) A (draw (.ref it) n) Q E s
 | 0,i,s,Q,hit,_,_,hQ=>by
  show wpAny _ _ (pure []) Q E s
  exact HS (by simpa using hQ s.heap hit (Heap.SameBut.refl ..))
 | n+1,i,s,Q,hit,ht,hle,hQ=>by
  have hlt:i<items.size:=by omega
  show wpAny _ _ (pyNext (.ref it) >>= _) Q E s
  refine Hy (wpAny_pyNext_list_item hit ht (x:=items[i]) (by simp[hlt]) λh₁ hit₁ hs₁=>?_)
  refine Hy (Ja (iI hne n (i+1) _ _ hit₁ (Heap.IsList.at ht λo e=>hs₁.extBut t o hne e) (by omega) λh₂ hit₂ hs₂=>HS ?_))
  have hd:items.toList.drop i=items[i]::items.toList.drop (i+1):=by simp[JA,hlt]
  have:=hQ h₂ (by rw[show i+(n+1)=i+1+n by omega];exact hit₂) (hs₁.trans hs₂)
  rw[hd,Ke]at this
  exact this
theorem dG {t:Addr}{items:Array Value}{Q:List Value->Shared->Prop}(hh:A.handled=none)(ht:s.heap.IsList t items)
  (hQ:∀h',Heap.ExtBut s.heap.objs.size s.heap h'->Q items.toList { s with heap:=h' }):wpAny (model prog w) A (unpackItems (.ref t) items.size none) Q E s:=by
 have hlt:t≠s.heap.objs.size:=by obtain⟨o,ho,_⟩:=ht;exact Ic (HU ho)
 unfold unpackItems
 refine Hy ?_
 .unfold notIterableAtAll
  refine Hy (wpAny_specialOf ht.typeIs slot_list_iter.lookup ?_)
  refine HS ?_
  simp only[ID,Ji]
  refine Hy (Ja (wpAny_pyIter_list ht ?_))
  refine Hy (Ja (iI hlt items.size 0 _ _ ⟨_,Ii _ rfl,rfl,rfl⟩ (ht.push _) (by omega) λh₁ hit₁ hs₁=>?_))
  have hall:List.take items.size (List.drop 0 items.toList)=items.toList:=by
   rw[List.drop_zero];exact IV (by simp)
  rw[hall]
  rw[HM (by simp)]
  have ht₁:Heap.IsList h₁ t items:=Heap.IsList.at (ht.push _) λo e=>hs₁.extBut t o hlt e
  refine Hy (Ja (wpAny_pyNext_list_end hh hit₁ ht₁ (by simp) λh₂ he₂=>?_))
  simp only[Option.isSome_none,ID,Ji]
  refine HS (hQ h₂ λb o hb e=>he₂ b o hb (hs₁.extBut b o hb (HI _ e)))
theorem bT {env:Env}{elts:List Expr}{x1}{pos:Pos}{t:Addr}{items:Array Value}{Q:Unit->Shared->Prop}(hh:A.handled=none)(ht:s.heap.IsList t items)
  (hn:(assignEach elts env).length=items.size) (hstar:(assignEach elts env).findIdx? (·.1)=none)
  (h:∀h',Heap.ExtBut s.heap.objs.size s.heap h'->wpAny (model prog w) A (assignInOrder ((assignEach elts env).map (·.2)) items.toList) Q E { s with heap:=h' }) :
  wpAny (model prog w) A (assign (.Tuple elts x1 pos) env (.ref t)) Q E s:=by
 rw[assign_Tuple]
 refine Hy (Lm ?_)
 unfold unpack
 rw[hn,hstar]
 exact Hy (Ja (dG hh ht h))
end
section
variable [Feeds]{K:Fg}{X:Cx}{pos:Pos}
def CN (K:Fg)(n:Nat)(t:TGs):TG:=λv σ H Q=>∃a xs,v = .ref a/\SqL K H a xs/\xs.length=n/\t xs σ H Q
theorem Bc {es:List Expr}{k:Nat}{t:TGs}{n:Nat}(hK:X.K=K)(hc:X.calm=true)(h:PGs X es t)
  (hn:(assignEach es X.env).length=n:=by rfl) (hst:(assignEach es X.env).findIdx? (·.1)=none:=by rfl):PG X (.Tuple es k pos) (CN K n t):=by
 subst hK
 intro pins s σ H v u Q I r hw
 obtain⟨a,xs,e1,hq,hl,hw⟩:=hw
 subst e1
 cases r
 obtain⟨its,rv,ht,hz⟩:=I.list hq
 refine bT (I.ok.hd hc) ht.isList (by simp[hn,<-hl,rv.length]) hst λh' hx=>?_
 have I1:Inv X pins σ H { s with heap:=h' }:=I.kept (t':=s.toks) λb o e=>hx b o (Ic (HU e)) e
 exact h pins _ σ H xs _ Q I1 (by simpa using rv) hw
def AM (n:Nat)(r:List PyData->DE->Option DE):PyData->DE->Option DE
 | .list ds,E=>if ds.length=n then r ds E else none
 | _,_=>none
theorem zG {es:List Expr}{k:Nat}{t:TGs}{n:Nat}{br:List PyData->DE->Option DE}(hc:X.calm=true)(h:Egs K X es t br)(hK:X.K=K:=by rfl)
  (hn:(assignEach es X.env).length=n:=by rfl) (hst:(assignEach es X.env).findIdx? (·.1)=none:=by rfl):Eg K X (.Tuple es k pos) (CN K n t) (AM n br):=⟨Bc hK hc h.pg hn hst,λG B E F σ H x d E' Q I hd e q=>by
 cases d <;> simp only[AM]at e <;> try cases e
 split at e
 .rename_i hl
  simp only[a7]at hd
  obtain⟨a,xs,rfl,ha,hx⟩:=hd
  exact⟨a,xs,rfl,SqL.of (c7 _ _ ha),by rw[hx.length];exact hl,h.ok G B E F σ H xs _ E' Q I hx e q⟩
 .cases e⟩
end
end
section
section
variable [Feeds]{X:Cx}{K:Fg}{e:Expr}{te:TE}{m:DE->M PyData}{pos:Pos}
def mDo (m:DE->M PyData):DE->M Out:=λE F=>(m E F).bind λp=>some (.nx E,p.2)
end
end
section
section
variable [Feeds]{X:Cx}{K:Fg}{e:Expr}{te:TE}{m:DE->M PyData}{pos p2:Pos}
end
end
section
theorem len_1 {us:List Value}(h:us.length=1):∃a,us=[a]:=List.length_eq_one_iff.mp h
theorem yZ {us:List Value}{n:Nat}(h:us.length=n+1):∃a r,us=a::r/\r.length=n:=by
 cases us with
 | nil=>cases h
 | cons a r=>exact⟨a,r,rfl,Nat.succ.inj h⟩
theorem len_2 {us:List Value}(h:us.length=2):∃a b,us=[a,b]:=by
 obtain⟨a,r,rfl,h2⟩:=yZ h
 obtain⟨b,rfl⟩:=len_1 h2
 exact⟨a,b,rfl⟩
theorem len_3 {us:List Value}(h:us.length=3):∃a b c,us=[a,b,c]:=by
 obtain⟨a,r,rfl,h2⟩:=yZ h
 obtain⟨b,c,rfl⟩:=len_2 h2
 exact⟨a,b,c,rfl⟩
mutual
def noL:PyData->Bool
 | .tuple ds=>nQ ds
 | .list _=>false
 | .dict _=>false
 | _=>true
def nQ:List PyData->Bool
 | []=>true
 | d::ds=>noL d&&nQ ds
end
def wo (B A:List Addr):List Addr:=B.filter λb=>decide (b ∉ A)
theorem bH {B A:List Addr}{b:Addr}:b∈wo B A↔b∈B/\b ∉ A:=by unfold wo;rw[Iu];simp
section
variable {K:Fg}{H:Hp}{B A:List Addr}
theorem pT (hA:∀a∈A,∃xs,H a=some (.lst xs)){a:Addr}{u:HO}(h:hid H (wo B A) a=some u)(hu:∀xs,u ≠ .lst xs):hid H B a=some u:=by
 by_cases hw:a∈wo B A
 .rw[u7 hw]at h;cases h
 .rw[d7 hw]at h
  rw[d7 λhb=>?_]
  .exact h
  .have:a∈A:=by
    rcases Classical.em (a∈A) with z | z
    .exact z
    .exact absurd (bH.mpr ⟨hb,z⟩) hw
   obtain⟨xs,e⟩:=hA a this
   rw[e]at h;cases h
   exact hu xs rfl
mutual
theorem a7.back (hA:∀a∈A,∃xs,H a=some (.lst xs)):∀(d:PyData) (v:V),noL d=true->a7 K (hid H (wo B A)) d v->a7 K (hid H B) d v
 | .none,v,_,h=>by simpa only[a7] using h
 | .bool b,v,_,h=>by simpa only[a7] using h
 | .int i,v,_,h=>by simpa only[a7] using h
 | .str x,v,_,h=>by simpa only[a7] using h
 | .tuple ds,v,hn,h=>by
  simp only[a7]at h ⊢
  obtain⟨a,xs,e,hq,hd⟩:=h
  refine⟨a,xs,e,?_,a6.back hA ds xs (by simpa only[noL] using hn) hd⟩
  rcases hq with (hq | ⟨o,hq⟩) | hq
  .exact .inl (.inl (pT hA hq λ_ z=>nomatch z))
  .exact .inl (.inr ⟨o,pT hA hq λ_ z=>nomatch z⟩)
  .exact .inr hq
 | .list ds,v,hn,h=>by simp[noL]at hn
 | .dict kvs,v,hn,h=>by simp[noL]at hn
theorem a6.back (hA:∀a∈A,∃xs,H a=some (.lst xs)):∀(ds:List PyData) (xs:List V),nQ ds=true->a6 K (hid H (wo B A)) ds xs->a6 K (hid H B) ds xs
 | [],xs,_,h=>by simpa only[a6] using h
 | d::ds,xs,hn,h=>by
  simp only[nQ,JS]at hn
  simp only[a6]at h ⊢
  obtain⟨v,r,e,h1,h2⟩:=h
  exact⟨v,r,e,a7.back hA d v hn.1 h1,a6.back hA ds r hn.2 h2⟩
end
end
section
variable [Feeds]
variable {K:Fg}{X:Cx}{e:Expr}{es:List Expr}{te:TE}{m:DE->M PyData}{tl:TA}{ms:DE->M (List DV)}{pos p:Pos}
end
end
section
def mv?:PyData->Option Int
 | .int i=>some i
 | _=>none
def eC?:PyData->Option Int
 | .bool b=>some (if b then 1 else 0)
 | _=>none
def eN (ks:List PyData):Option (List Int):=match ks.mapM mv? with
 | some r=>some r
 | none=>ks.mapM eC?
def vOf:PyData->V
 | .int i=>.int i
 | .bool b=>.bl b
 | _=>.non
theorem lp:∀{ks:List PyData} {ns:List Int},ks.mapM mv? = some ns->ks=ns.map .int
 | [],ns,h=>by simp at h;subst h;rfl
 | k::ks,ns,h=>by
  rw[JK]at h
  obtain⟨a,e1,h⟩:=bS9 h
  obtain⟨r,e2,h⟩:=bS9 h
  cases h
  rw[lp e2]
  cases k <;> cases e1
  rfl
theorem iH:∀{ks:List PyData} {ns:List Int},ks.mapM eC? = some ns->∃bs:List Bool,ks=bs.map .bool/\ns=bs.map λb=>if b then 1 else 0
 | [],ns,h=>by simp at h;subst h;exact⟨[],rfl,rfl⟩
 | k::ks,ns,h=>by
  rw[JK]at h
  obtain⟨a,e1,h⟩:=bS9 h
  obtain⟨r,e2,h⟩:=bS9 h
  cases h
  obtain⟨bs,rfl,rfl⟩:=iH e2
  cases k with
  | bool b=>cases e1;exact⟨b::bs,rfl,rfl⟩
  | _=>cases e1
theorem ud {ks:List PyData}{ns:List Int}(h:eN ks=some ns):eO (ks.map vOf)/\(ks.map vOf).map ie=ns/\∀k∈ks,∀(K:Fg) (H:Hp) (v:V),a7 K H k v->v=vOf k:=by
 unfold eN at h
 split at h
 .rename_i r e
  cases h
  rw[lp e]
  refine⟨.inl λk hk=>?_,?_,λk hk K H v hv=>?_⟩
  .simp only[Ik,Il]at hk
   obtain⟨n,_,rfl⟩:=hk
   exact⟨n,rfl⟩
  .rw[Ik,Ik]
   exact(Iv λn _=>rfl).trans (List.map_id _)
  .obtain⟨n,_,rfl⟩:=Il.mp hk
   simp only[a7]at hv;exact hv
 .obtain⟨bs,rfl,rfl⟩:=iH h
  refine⟨.inr λk hk=>?_,?_,λk hk K H v hv=>?_⟩
  .simp only[Ik,Il]at hk
   obtain⟨n,_,rfl⟩:=hk
   exact⟨n,rfl⟩
  .rw[Ik,Ik]
   exact Iv λn _=>rfl
  .obtain⟨n,_,rfl⟩:=Il.mp hk
   simp only[a7]at hv;exact hv
inductive Al (K:Fg) (H:Hp):List (Int×PyData)->List (Int×V)->Prop
 | nil:Al K H [] []
 | cons {k:Int} {d:PyData} {v:V} {l m}:a7 K H d v->Al K H l m->Al K H ((k,d)::l) ((k,v)::m)
theorem Al.ins {K:Fg}{H:Hp}{k:Int}{d:PyData}{v:V}(h:a7 K H d v):∀{l m},Al K H l m->Al K H (V5 (k,d) l) (V5 (k,v) m)
 | _,_,.nil=>.cons h .nil
 | _,_,.cons (k:=k') h' r=>by
  simp only[V5]
  split
  .exact .cons h (.cons h' r)
  .exact .cons h' (Al.ins h r)
theorem Al.sort {K:Fg}{H:Hp}:∀{l m},Al K H l m->Al K H (p8 l) (p8 m)
 | _,_,.nil=>.nil
 | _,_,.cons h r=>Al.ins h r.sort
theorem Al.dats {K:Fg}{H:Hp}:∀{l m},Al K H l m->a6 K H (l.map Prod.snd) (m.map Prod.snd)
 | _,_,.nil=>a6.nil
 | _,_,.cons h r=>a6.cons h r.dats
theorem nv {K:Fg}{H:Hp}:∀{ns:List Int} {ds:List PyData} {xs:List V},a6 K H ds xs->Al K H (ns.zip ds) (ns.zip xs)
 | [],_,_,_=>.nil
 | n::ns,[],xs,h=>by
  have e:xs=[]:=Jt.mp (by rw[h.length];rfl)
  subst e;exact .nil
 | n::ns,d::ds,xs,h=>by
  cases xs with
  | nil=>have:=h.length;simp at this
  | cons x xs =>
   simp only[a6]at h
   obtain⟨y,ys,e,h1,h2⟩:=h
   cases e
   exact .cons h1 (nv h2)
section
variable [Feeds]{K:Fg}{X:Cx}
structure LamB (K:Fg) (mg:Str->Option Value) (base:Heap) (x:Str) (fd:FuncData) (c P:Addr):Prop where
 mem:(x,c,P)∈tabsK Feeds.lam K
 code:fd.code = .ref c
 hd:PySem.W.CodeHd base c P
 bm:BMd base mg
 nd:(tabP K).Nodup
def ed (me:DE->M PyData)(E0:DE):List PyData->M (List PyData)
 | []=>λF=>some ([],F)
 | d::r=>λF=>(me (some (.dat d)::E0) F).bind λp=>(ed me E0 r p.2).bind λq=>some (p.1::q.1,q.2)
def sSK (ma:DE->M (List PyData))(cap:List Nat)(me:DE->M PyData):DE->M PyData:=λE F=>(ma E F).bind λp=>match p.1 with
 | [.list ds]=>if ds.length<64 then(ed me (cap.map λj=>(E[j]?).join) ds p.2).bind λq=>(eN q.1).bind λns=>some (.list ((p8 (ns.zip ds)).map Prod.snd),q.2) else none
 | _=>none
theorem dI {me:DE->M PyData}{E0:DE}:∀{ds:List PyData} {F:FS} {ks:List PyData} {F':FS},ed me E0 ds F=some (ks,F')->ks.length=ds.length
 | [],F,ks,F',h=>by cases h;rfl
 | d::r,F,ks,F',h=>by
  obtain⟨p,_,h⟩:=bS9 h
  obtain⟨q,e,h⟩:=bS9 h
  cases h
  simp[dI (F:=p.2) (ks:=q.1) (F':=q.2) e]
theorem aS {α β:Type}{f:α->β}:∀{l:List α},(l.map f).Nodup->∀{a b},a∈l->b∈l->f a=f b->a=b
 | [],_,_,_,h,_,_=>by simp at h
 | x::l,h,a,b,ha,hb,e=>by
  rw[HX,IS]at h
  rcases HB.mp ha with e1 | ha1
  .rcases HB.mp hb with e2 | hb1
   .rw[e1,e2]
   .exact absurd (by rw[<-e1,e];exact Jy hb1) h.1
  .rcases HB.mp hb with e2 | hb1
   .exact absurd (by rw[<-e2,<-e];exact Jy ha1) h.1
   .exact aS h.2 ha1 hb1 e
theorem wF {G:GF}{H H2:Hp}{F:FS}{x:Str}{c P:Addr}(hm:(x,c,P)∈tabsK Feeds.lam K)(nd:(tabP K).Nodup)(f:FAt K G H F)(g:zU P (kM x) H H2)(hT:jl H2 P (kM x)):Kp (j7 K G) H H2/\FAt K G H2 F:=by
 rcases g with rfl | ⟨ps,more,c',hP,hc',hcP,rfl⟩
 .exact⟨Kp.refl,f⟩
 .have hPf:P∈tabP K:=Jy (f:=λt:Str×Addr×Addr=>t.2.2) hm
  have stay:∀b o,H b=some o->b≠P->upd (upd H P (.tbl (ps++more))) c' (cdO c' (kM x)) b=some o:=λb o e hb=>by
   rw[a8 (d6 e hc'),a8 hb];exact e
  have ne:∀{b o},H b=some o->NoT o->b≠P:=λ{b o} e h z=>by
   rw[z,hP]at e
   exact h.1 _ (HN e).symm
  refine⟨λb o e hb=>stay b o e λz=>hb (z▸ke hPf),?_,λt ht=>?_⟩
  .cases G with
   | none=>trivial
   | some p =>
    obtain⟨d,c0⟩:=p
    obtain⟨o1,a1,b1⟩:=Feeds.some1 f.1
    obtain⟨o2,a2,b2⟩:=Feeds.some2 f.1
    exact Feeds.congr f.1 (by rw[a1];exact stay _ _ a1 (ne a1 b1)) (by rw[a2];exact stay _ _ a2 (ne a2 b2))
  .by_cases htP:t.2.2=P
   .have e:t=(x,c,P):=aS (f:=λt:Str×Addr×Addr=>t.2.2) nd ht hm htP
    rw[e];exact hT
   .obtain⟨qs,h1,h2,h3⟩:=f.2 t ht
    refine⟨qs,stay _ _ h1 htP,h2,λpos cv q=>?_⟩
    obtain⟨c2,r1,r2⟩:=h3 pos cv q
    exact⟨c2,r1,stay _ _ r2 λz=>by rw[z,hP]at r2;cases r2⟩
theorem uO {G:GF}{H:Hp}{F:FS}{c:Addr}{q:Str}(f:FAt K G H F)(h:H c=some (cdO c q)):c ∉ j7 K G:=λz=>by
 have tb:c∈tabP K->False:=λz=>by
  obtain⟨t,ht,e⟩:=Il.mp z
  obtain⟨ps,h1,_⟩:=f.2 t ht
  rw[e,h]at h1;cases h1
 cases G with
 | none=>exact tb z
 | some p =>
  obtain⟨d,c0⟩:=p
  simp only[j7,HB]at z
  rcases z with rfl | rfl | z
  .obtain⟨o,e,hn⟩:=Feeds.some1 f.1
   rw[h]at e;exact hn.2 _ (HN e).symm
  .obtain⟨o,e,hn⟩:=Feeds.some2 f.1
   rw[h]at e;exact hn.2 _ (HN e).symm
  .exact tb z
theorem SitE.lamS {G:GF}{B:List Addr}{E:DE}{F F':FS}{σ:St}{H H':Hp}{d:PyData}{v:V}(I:SitE K G B E F σ H)(k:Kp (j7 K G) H H')(f:FAt K G H' F')(h:a7 K (hid H' B) d v)(cap:List Nat) :
  SitE K G B (some (.dat d)::cap.map λj=>(E[j]?).join) F' (bF v cap σ) H':=by
 have J:=(I.step k f).cap 0 cap
 refine⟨f,I.fB,J.bk,by simp[bF],λi x e=>?_⟩
 cases i with
 | zero =>
  have e:some (some (DV.dat d))=some (some x):=e
  cases e
  exact⟨v,rfl,h⟩
 | succ i=>exact J.loc i x e
theorem tJ {e:Expr}{params:Arguments}{body:Expr}{scope osc:Scope}{p pos lpos kp:Pos}{c P:Addr}{x y:Str}{N:List Str}{cap:List Nat}{ta:TA}{ma:DE->M (List PyData)}{te:TE}{me:DE->M PyData}{k:Nat}{fd:FuncData}
  (LB:LamB K X.mg X.base x fd c P) (hK:X.K=K) (hm:X.mg "sorted" = none) (hr:Room k X.A) (hc:X.calm=true) (ha:Ea K X [e] ta ma) (hosc:X.env.scope=osc) (L:LamOk X.N osc y N cap scope)
  (hcode:X.env.code = .ref c) (hq:X.env.qual ++ "<lambda>" = kM x)
  (hE:∀cl f c' Y s H,Ev K (cxL X N (kM x) scope cl f c' Y s H) body te me)
  (hdef:defaultsOf params X.env=([],[]):=by rfl)
  (hbind:∀(cl:List (Str×Addr)) (pm:Value) (c':Addr) (ctv u:Value),bindArgs (PySem.W.kla_fn "<lambda>" (kM x) params body scope cl pm (.ref c') ctv) ⟨[u],[]⟩=pure [(y,u)]:=by intros;rfl)
  (hg:Gl X "sorted":=by rfl) (hs:starEach [e] X.env=[(false,eval e X.env)]:=by rfl) :
  Ev K X (.Call (.Name "sorted" p) [e] [⟨some "key",.Lambda params body scope lpos,kp⟩] pos) (tSK K P (kM x) cap ta te) (sSK ma cap me):=by
 subst hK
 refine⟨Bp hg hm hr hc ha.pa hdef hosc L hcode LB.hd LB.bm hq hbind (λcl f c' Y s H=>(hE cl f c' Y s H).pe) hs,λG B E F σ H Q d F' I e q=>?_⟩
 obtain⟨⟨as,F1⟩,e1,e⟩:=bS9 e
 refine ha.ok G B E F σ H _ as F1 I e1 λvs H1 k1 f1 h1=>?_
 dsimp only at e
 split at e
 case h_2=>cases e
 rename_i ds
 split at e
 case isFalse=>cases e
 rename_i h64
 obtain⟨⟨kds,F2⟩,e2,e⟩:=bS9 e
 obtain⟨ns,e3,e⟩:=bS9 e
 cases e
 obtain⟨hko,hnum,hv⟩:=ud e3
 obtain⟨l,xs,rfl,hl,hd⟩:∃l xs,vs=[.ref l]/\hid H1 B l=some (.lst xs)/\a6 X.K (hid H1 B) ds xs:=by
  simp only[a6]at h1
  obtain⟨v,r,rfl,h2,rfl⟩:=h1
  simp only[a7]at h2
  obtain⟨l,xs,rfl,h3,h4⟩:=h2
  exact⟨l,xs,rfl,h3,h4⟩
 have xl:=hd.length
 refine⟨l,xs,rfl,SqL.of (c7 _ _ hl),by omega,f1.2 _ LB.mem,λH2 gr hT2 c' hc'=>?_⟩
 obtain⟨k2,f2⟩:=wF LB.mem LB.nd f1 gr hT2
 have hlB:l ∉ j7 X.K G:=λz=>by
  rw[u7 (I.fB l z)]at hl;cases hl
 refine⟨λi H'=>∃Fi rest,Kp (j7 X.K G) H2 H'/\FAt X.K G H' Fi/\ed me (cap.map λj=>(E[j]?).join) (ds.drop i) Fi=some (rest,F2)/\kds.drop i=rest,kds.map vOf,by rw[Hz,dI e2,xl],hko,
  SqL.of (k2 l _ (c7 _ _ hl) hlB),⟨F1,kds,Kp.refl,f2,e2,rfl⟩,λi H' ⟨Fi,rest,a1,a2,_⟩=>a1 _ _ hc' (uO f2 hc'),λi v H' hx ⟨Fi,rest,a1,a2,a3,a4⟩=>?_,λa H' ys ⟨Fi,rest,a1,a2,a3,a4⟩ Ha o=>?_⟩
 .have hd':=hd.same ((k2.trans a1).hid I.fB)
  obtain⟨dd,hdd,hdv⟩:=hd'.get hx
  have edr:ds.drop i=dd::ds.drop (i+1):=by
   have hi:=(HG.mp hdd)
   obtain⟨hi,e⟩:=hi
   rw[JA hi,e]
  rw[edr]at a3
  obtain⟨⟨kk,Fk⟩,g1,g⟩:=bS9 a3
  obtain⟨⟨kr,Fr'⟩,g2,g⟩:=bS9 g
  cases g
  have hki:kds[i]? = some kk:=by
   have:=IK (λl=>l[0]?) a4
   simpa using this
  refine(hE [] 0 0 X.A X.s₀ H').ok G B _ Fi _ H' _ kk Fk (I.lamS ((k1.trans k2).trans a1) a2 hdv cap) g1 λw H3 k3 f3 h3=>?_
  refine⟨?_,Fk,kr,a1.trans k3,f3,g2,?_⟩
  .rw[HP,hki,hv kk (Iy hki) _ _ _ h3];rfl
  .have:=IK List.tail a4
   simpa using this
 .have hend:ed me (cap.map λj=>(E[j]?).join) (ds.drop xs.length) Fi=some ([],Fi):=by rw[xl,Kw];rfl
  rw[hend]at a3
  cases a3
  have ey:=mM o (by rw[Hz,dI e2,xl])
  rw[hnum]at ey
  subst ey
  have bk':=q5 I.bk ((k1.trans k2).trans a1) a2
  have hdz:=(nv (ns:=ns) (hd.same ((k2.trans a1).hid I.fB))).sort.dats
  exact q _ _ (((k1.trans k2).trans a1).trans (Kp.upd Ha)) (a2.same (d8.upd Ha)) (K1 bk' Ha hdz)
end
end
section
def oi (p:Int):List Int->List Int
 | []=>[p]
 | q::r=>if p<=q then p::q::r else q::oi p r
def lR:List Int->List Int
 | []=>[]
 | p::r=>oi p (lR r)
theorem dS (p:Int):∀l:List Int,(oi p l).Perm (p::l)
 | []=>.refl _
 | q::r=>by
  rw[oi]
  split
  .exact .refl _
  .exact((dS p r).cons q).trans (.swap p q r)
theorem bc:∀l:List Int,(lR l).Perm l
 | []=>.refl _
 | p::r=>(dS p _).trans ((bc r).cons p)
theorem qu {p:Int}:∀{l:List Int},l.Pairwise (· <= ·)->(oi p l).Pairwise (· <= ·)
 | [],_=>by simp[oi]
 | q::r,h=>by
  rw[Iq]at h
  rw[oi]
  split
  .rename_i hle
   refine Iq.mpr ⟨λz hz=>?_,Iq.mpr h⟩
   rcases HB.mp hz with rfl | hz
   .exact hle
   .have:=h.1 z hz;omega
  .rename_i hgt
   refine Iq.mpr ⟨λz hz=>?_,qu h.2⟩
   rcases HB.mp ((dS p r).mem_iff.mp hz) with rfl | hz
   .omega
   .exact h.1 z hz
theorem gI:∀l:List Int,(lR l).Pairwise (· <= ·)
 | []=>.nil
 | p::r=>qu (gI r)
theorem dR:∀{l₁ l₂:List Int},l₁.Perm l₂->l₁.Pairwise (· <= ·)->l₂.Pairwise (· <= ·)->l₁=l₂
 | [],l₂,p,_,_=>p.nil_eq
 | a::r,[],p,_,_=>by have:=p.length_eq;simp at this
 | a::r,b::t,p,h1,h2=>by
  rw[Iq]at h1 h2
  have ab:a=b:=by
   rcases HB.mp (p.mem_iff.mp (HV (a:=a) (l:=r))) with e | e
   .exact e
   .rcases HB.mp (p.mem_iff.mpr (HV (a:=b) (l:=t))) with e2 | e2
    .exact e2.symm
    .have q1:=h2.1 a e
     have q2:=h1.1 b e2
     omega
  subst ab
  rw[dR (p.cons_inv) h1.2 h2.2]
def jN:PyData->Option Int
 | .tuple (.int n::_)=>some n
 | _=>none
def bO:List PyData->Option PyData
 | [.list ds]=>match V8 ds with
  | some ns=>if ns.length<64 then some (.list ((lR ns).map .int)) else none
  | none=>(ds.mapM jN).bind λns=>if ns.Nodup/\ns.length<64 then some (.list ((p8 (ns.zip ds)).map Prod.snd)) else none
 | _=>none
theorem qz {K:Fg}{H H':Hp}(s:d8 H H'):∀{ds:List PyData} {ns:List Int} {zs:List V},ds.mapM jN=some ns->a6 K H ds zs->mO K H' ns zs
 | [],ns,zs,e,h=>by
  simp at e;subst e
  exact Jt.mp (by rw[h.length];rfl)
 | d::ds,ns,zs,e,h=>by
  rw[JK]at e
  obtain⟨n,e1,e⟩:=bS9 e
  obtain⟨ns',e2,e⟩:=bS9 e
  cases e
  simp only[a6]at h
  obtain⟨z,zs',rfl,h1,h2⟩:=h
  unfold jN at e1
  split at e1
  .cases e1
   obtain⟨t,xs,rfl,hq,hd⟩:=h1.ofTup
   simp only[a6]at hd
   obtain⟨v,r,rfl,hv,_⟩:=hd
   simp only[a7]at hv
   subst hv
   exact⟨t,r,zs',rfl,hq.same s,qz s e2 h2⟩
  .cases e1
theorem mI {α β:Type}{f:α->Option β}:∀{l:List α} {m:List β},l.mapM f=some m->m.length=l.length
 | [],m,e=>by simp at e;subst e;rfl
 | a::l,m,e=>by
  rw[JK]at e
  obtain⟨b,_,e⟩:=bS9 e
  obtain⟨m',e2,e⟩:=bS9 e
  cases e
  simp[mI e2]
theorem jk {K:Fg}{H:Hp}:∀ns:List Int,a6 K H (ns.map .int) (ns.map V.int)
 | []=>a6.nil
 | n::ns=>a6.cons a7.int (jk ns)
section
variable [Feeds]{K:Fg}{X:Cx}
theorem iG (hK:X.K=K):C5 X (.builtin "sorted") (rDN K bO):=by
 intro pins s σ H xs us Q I r h
 obtain⟨fp,B,ds,z,bk,h1,hf,q⟩:=h
 unfold bO at hf
 split at hf <;> try cases hf
 split at hf
 .rename_i ns e
  split at hf
  case isFalse=>cases hf
  rename_i h64
  cases hf
  cases Y8 e
  obtain⟨v,rfl,a,xs,rfl,ha,hd⟩:=hW h1 rfl
  cases nD hd
  refine lL hK pins s σ H _ us Q I r ⟨a,ns,rfl,SqL.of (c7 _ _ ha),h64,λp ns' hp pm pw=>?_⟩
  cases dR (pm.trans (bc ns).symm) pw (gI ns)
  exact q _ _ (d8.upd hp) (K1 bk hp (jk _))
 .obtain⟨ns,e,hf⟩:=bS9 hf
  split at hf
  case isFalse=>cases hf
  rename_i hc
  cases hf
  obtain⟨v,rfl,a,xs,rfl,ha,hd⟩:=hW h1 rfl
  refine mY hK pins s σ H _ us Q I r ⟨a,xs,ns,rfl,SqL.of (c7 _ _ ha),qz c7 e hd,hc.1,hc.2,λp ys hp o=>?_⟩
  have ey:=mM o (by rw[Hz,mI e,hd.length])
  rw[Ik,show(ie ∘ V.int)=id from rfl,List.map_id]at ey
  subst ey
  exact q _ _ (d8.upd hp) (K1 bk hp (nv (ns:=ns) hd).sort.dats)
end
end
end L3
namespace L2
open PySem PySem.Spec PyProof.Rows
section
variable {P:Program}{w:World}{K:Fg}{mg:Str->Option Value}{base:Heap}
theorem Fun.okC {x qual:Str}{st:Stmt}{f:Addr}{fd:FuncData}{N ps:List Str}{k:Nat}{sp:Sp}(F:Fun K x qual st f fd)(S:FnScope N ps (defScope st))(len:∀vs H Q E,sp vs H Q E->vs.length=ps.length)
  (hbody:∀(cdv:Value) (A:Around) (outer:List Env) (s:Shared) (H:Hp) (vs:List V) (Q:VK) (E:XK),fd.code=cdv->Room k (A.deeper (envOfC qual (defScope st) s.heap.objs.size f cdv))->sp vs H Q E ->
   ∃t,PSs (M8 CX0 P w K mg base N qual (defScope st) f cdv A outer s H E).nox (defBody st) t/\t { nx:=λ_ H'=>Q .non H',rt:=Q } (A5 N vs) H):FnOk P w K mg base CX0 (k+1) f fd ps sp:=by
 obtain⟨oc,od,kV,doc,pm,an,cdv,ct,osl,rfl,lk,hcd⟩:=F.ex
 refine yp lk hcd S len λA outer s H vs Q E hr hsp=>?_
 obtain⟨t,h,q⟩:=hbody cdv A outer s H vs Q E rfl hr hsp
 exact⟨t,h.nox,q⟩
end
end L2
namespace L3
open PySem PySem.Spec PyProof.Rows L2
section
section
variable [Feeds]{P:Program}{w:World}{K:Fg}{mg:Str->Option Value}{base:Heap}
theorem pH {x qual:Str}{st:Stmt}{f:Addr}{fd:FuncData}{N ps:List Str}{k:Nat}{m:DE->M Out}(Fn:Fun K x qual st f fd)(S:FnScope N ps (defScope st))
  (hbody:∀(cdv:Value) (A:Around) (outer:List Env) (s:Shared) (H:Hp) (E:XK),fd.code=cdv->Room k (A.deeper (envOfC qual (defScope st) s.heap.objs.size f cdv)) ->
   ∃ts,Sss K (M8 CX0 P w K mg base N qual (defScope st) f cdv A outer s H E).nox (defBody st) ts m):FnOk P w K mg base CX0 (k+1) f fd ps (spD K ps.length (X5 N m)):=by
 refine Fn.okC S (λvs H Q E h=>?_) (λcdv A outer s H vs Q E hcd hr h=>?_)
 .obtain⟨G,B,F,args,d,F',hl,_⟩:=h
  exact hl
 .obtain⟨G,B,F,args,d,F',hl,fB,bk,fa,ha,hm,q⟩:=h
  obtain⟨ts,hts⟩:=hbody cdv A outer s H E hcd hr
  refine⟨ts,hts.ps,?_⟩
  obtain⟨⟨o,F1⟩,e1,e⟩:=bS9 hm
  refine hts.ok G B H (p6 N args) F (L2.A5 N vs) H _ o F1 (cX fB bk fa ha) e1 ?_
  cases o with
  | rt d'=>cases e;exact λv H' k1 f1 h1=>q v H' k1 f1 h1
  | nx E'=>cases e;exact λσ' H' S'=>q _ H' S'.kp (by obtain⟨B,_,_,I⟩:=S'.ex;exact I.fd) a7.non
  | bk E'=>cases e
  | ct E'=>cases e
end
end
section
abbrev BE:=List (Str×Addr×Addr)
def AG (ts:BE)(h:Heap):Prop:=∀t∈ts,PySem.W.CodeHd h t.2.1 t.2.2/\h.get? t.2.2=some (PySem.W.tabObj #[])
theorem rQ {P:Program}{w:World}{K:Fg}{mg mb:Str->Option Value}{CX:CXT}{k:Nat}{fa a:Addr}{fd:FuncData}{x:Str}{sp:Sp}{s₁:Shared}{vs:List Value}{ns:List Int}{ts:BE}
  (KX:K.In s₁.heap) (hns:s₁.heap.Ns mainGlobals mg) (hb:s₁.heap.Ns builtinsNs mb) (hbb:∀x:Str,x ≠ "__name__"->mb x=bootBuiltins x) (hlim:s₁.heap.NoLimit) (hg:s₁.gens = #[])
  (ha:s₁.heap.get? a=some { cls:=.type "list",data:=.seq vs.toArray }) (hi:IntsAre vs ns) (hl:ns.length<=sizeLine) (hr:Room k callerA)
  (hT:AG ts s₁.heap) (hnt:PySem.W.noTabs K=true) (BM:BMd s₁.heap mg)
  (F:∀base:Heap,K.In base->base.Ns mainGlobals mg->BMd base mg->(∀t∈ts,PySem.W.CodeHd base t.2.1 t.2.2)->FnOk P w K mg base CX k fa fd [x] sp) (hbind:∀(s:Shared) (u:Value),BindsTo s fd ⟨[u],[]⟩ [(x,u)])
  (hsp:∀H:Hp,SqL K H a (ns.map V.int)->z9 ts H->sp [.ref a] H (λv _=>v = .bl true) λ_ _ _=>False)
  (hCX:∀H e s',CX [] H s₁ (λ_ _ _=>False) e s'->False) :
  codeAny (model P w) callerA (.call (.ref fa) ⟨[.ref a],[]⟩) (λr s'=>r = .ok (.ret (.bool true))/\OldK s₁.heap s'.heap/\s'.os=s₁.os/\AllBare s'.gens) s₁:=by
 have rv:=dy hi
 have lenV:=hi.length
 have aP:∀t∈ts,t.2.2≠a:=λt ht e=>by
  have:=(hT t ht).2
  rw[e,ha]at this;cases this
 have core:∀H:Hp,(∀b,H b=none\/(b=a/\H b=some (.frz { cls:=.type "list",data:=.seq vs.toArray } (.lst (ns.map V.int))))\/(b∈ts.map (·.2.2)/\H b=some (.tbl #[])))->(∀t∈ts,H t.2.2=some (.tbl #[]))->SqL K H a (ns.map V.int)->(H a≠none->K.lookup a=none) ->
   codeAny (model P w) callerA (.call (.ref fa) ⟨[.ref a],[]⟩) (λr s'=>r = .ok (.ret (.bool true))/\OldK s₁.heap s'.heap/\s'.os=s₁.os/\AllBare s'.gens) s₁:=by
  intro H hO hTH hS hK
  have tabO:∀{b:Addr},b∈ts.map (·.2.2)->s₁.heap.get? b=some (PySem.W.tabObj #[]):=λ{b} hb=>by
   obtain⟨t,ht,rfl⟩:=Il.mp hb
   exact(hT t ht).2
  have hok:HOk P w H s₁.heap:=λb u e=>by
   rcases hO b with z | ⟨rfl,z⟩ | ⟨hb,z⟩
   .rw[z]at e;cases e
   .rw[z]at e;cases e
    exact⟨ha,by rw[Hz];exact hl,vs,_,rv,ha⟩
   .rw[z]at e;cases e
    exact tabO hb
  have base_of:∀{b:Addr} {o:Obj},s₁.heap.get? b=some o->H b=none->(gk s₁.heap H).get? b=some o:=λe n=>uf e n
  have other:∀{b:Addr} {o:Obj},s₁.heap.get? b=some o->o≠{ cls:=.type "list",data:=.seq vs.toArray }->o≠PySem.W.tabObj #[]->H b=none:=λ{b o} e h1 h2=>by
   rcases hO b with z | ⟨rfl,z⟩ | ⟨hb,z⟩
   .exact z
   .rw[ha]at e;exact absurd (HN e).symm h1
   .rw[tabO hb]at e;exact absurd (HN e).symm h2
  have nsK:∀{b:Addr} {m:Str->Option Value},s₁.heap.Ns b m->(gk s₁.heap H).Ns b m:=λ{b m} ⟨o,es,ep,e,d,r⟩=>⟨o,es,ep,base_of e (other e (λz=>by rw[z]at d;cases d) λz=>by rw[z]at d;cases d),d,r⟩
  have hKb:K.In (gk s₁.heap H):=λb o e=>base_of (KX b o e) (by
   rcases hO b with z | ⟨rfl,z⟩ | ⟨hb,z⟩
   .exact z
   .rw[hK (by rw[z];simp)]at e;cases e
   .have e2:=KX b o e
    rw[tabO hb]at e2
    cases e2
    have h2:=Lo.mp hnt _ (PySem.W.mem_of_lookupK e)
    exact absurd (show false=true from h2) Ia)
  have hM:Mod K mg (gk s₁.heap H):=⟨hKb,nsK hns,⟨mb,nsK hb,hbb⟩,let ⟨mc,h1,h2⟩:=hlim;⟨mc,nsK h1,h2⟩⟩
  have hBM:BMd (gk s₁.heap H) mg:=by
   obtain⟨bm,ob,b1,b2,b3,b4,b5,b6⟩:=BM
   exact⟨bm,ob,b1,b2,base_of b3 (other b3 (λz=>by rw[z]at b4;have b4:Value.type "list" = Value.type "module":=b4;exact absurd b4 (by decide)) λz=>by rw[z]at b4;have b4:Value.none=Value.type "module":=b4;exact absurd b4 (by decide)),b4,b5,b6⟩
  have hCd:∀t∈ts,PySem.W.CodeHd (gk s₁.heap H) t.2.1 t.2.2:=λt ht=>by
   obtain⟨o,vs',file,tf,flags,tg,inF,text,tt,e1,r1,r2⟩:=(hT t ht).1
   exact⟨o,vs',file,tf,flags,tg,inF,text,tt,base_of e1 (other e1 (λz=>by rw[z]at r1;have r1:Value.type "list" = Value.type "code":=r1;exact absurd r1 (by decide)) λz=>by rw[z]at r1;have r1:Value.none=Value.type "code":=r1;exact absurd r1 (by decide)),r1,r2⟩
  have e0:Env0 P w K mg (gk s₁.heap H) callerA [] s₁ H:=⟨rfl,hM,λb o e=>wL e,Nat.le_of_eq (sd _ _),trivial,λb hb=>absurd (show b∈([]:List Addr) from hb) (by simp),hok,.of_eq hg⟩
  have hTO:z9 ts H:=λt ht=>⟨#[],hTH t ht,trivial,λpos cv e=>by cases e⟩
  refine codeAny_mono ((F _ hKb (nsK hns) hBM hCd).run callerA [] s₁ H ⟨[.ref a],[]⟩ [.ref a] [.ref a] _ _ hr e0 (hbind s₁ (.ref a)) (.cons rfl .nil) (hsp H hS hTO)) λr s' h=>?_
  cases r with
  | error e=>exact(hCX H e s' h).elim
  | ok fl =>
   cases fl with
   | next=>exact False.elim h
   | brk=>exact False.elim h
   | cont=>exact False.elim h
   | ret u =>
    obtain⟨v,H',os,bare,un,hok',r',q⟩:=h
    have q':v = .bl true:=q
    subst q'
    obtain rfl:u=Value.bool true:=r'
    have kept:∀b o,s₁.heap.get? b=some o->H b=none->s'.heap.get? b=some o:=λb o e q=>un.keep b o e q (by intro z;exact absurd (show b∈([]:List Addr) from z) (by simp)) (by simp)
    have scr:∀b o,s₁.heap.get? b=some o->b=a->H b=some (.frz { cls:=.type "list",data:=.seq vs.toArray } (.lst (ns.map V.int)))->s'.heap.get? b=some o:=λb o e hb z=>by
     have z2:=un.frzs b _ _ z
     obtain⟨e1,_⟩:=hok b _ z
     obtain⟨e2,_⟩:=hok' b _ z2
     rw[e]at e1;cases e1
     exact e2
    have tab:∀b,H b=some (.tbl #[])->∃more,s'.heap.get? b=some (PySem.W.tabObj more):=λb z=>by
     obtain⟨more,z2⟩:=un.tbls b _ z
     exact⟨_,hok' b _ z2⟩
    refine⟨rfl,⟨λb o e=>?_,λb o e=>?_⟩,os,bare⟩
    .rcases hO b with z | ⟨hb,z⟩ | ⟨hb,z⟩
     .exact .inl (kept b o e z)
     .exact .inl (scr b o e hb z)
     .obtain⟨more,e2⟩:=tab b z
      have e3:=tabO hb
      rw[e]at e3;cases e3
      obtain⟨t,ht,rfl⟩:=Il.mp hb
      refine .inr (.inl ⟨((hT t ht).1.tab (hT t ht).2).isCodeTable,rfl,#[],more,rfl,by rw[Array.empty_append];exact e2⟩)
    .rcases hO b with z | ⟨hb,z⟩ | ⟨hb,z⟩
     .exact⟨o,kept b o e z⟩
     .exact⟨o,scr b o e hb z⟩
     .obtain⟨more,e2⟩:=tab b z
      exact⟨_,e2⟩
 cases hk:K.lookup a with
 | some o =>
  have e:=KX a o hk
  rw[ha]at e
  cases e
  have haT:a ∉ ts.map (·.2.2):=λz=>by
   obtain⟨t,ht,e⟩:=Il.mp z
   exact aP t ht e
  refine core (λb=>if b∈ts.map (·.2.2) then some (.tbl #[]) else none) (λb=>?_) (λt ht=>HH (Jy ht)) (.inr ⟨_,vs.toArray,_,hk,rfl,rfl,rfl,by rw[HQ,lenV];exact hl,by simpa using rv⟩) λz=>absurd (HM haT) z
  by_cases hb:b∈ts.map (·.2.2)
  .exact .inr (.inr ⟨hb,HH hb⟩)
  .exact .inl (HM hb)
 | none =>
  refine core (λb=>if b=a then some (.frz { cls:=.type "list",data:=.seq vs.toArray } (.lst (ns.map V.int))) else if b∈ts.map (·.2.2) then some (.tbl #[]) else none) (λb=>?_) (λt ht=>?_) (.inl (.inr ⟨{ cls:=.type "list",data:=.seq vs.toArray },HH rfl⟩)) λ_=>hk
  .by_cases hb:b=a
   .exact .inr (.inl ⟨hb,HH hb⟩)
   .by_cases hb2:b∈ts.map (·.2.2)
    .exact .inr (.inr ⟨hb2,by rw[HM hb,HH hb2]⟩)
    .exact .inl (by rw[HM hb,HM hb2])
  .rw[HM (aP t ht)]
   exact HH (Jy (f:=λt:Str×Addr×Addr=>t.2.2) ht)
theorem walk_ofT {l:PySem.W.OpenLaw}{n k:Nat}{q:Program}{loose:List Str}{XP:(Str->Option Value)->Heap->Prop}{YP:World->Heap->Prop}{d:DefRec}{K:Params->Fg}{CX:World->CXT}{sp:World->Sp}{x:Str}(lam:List Str)
  (hn:l.most=some n) (hn2:n<=sizeLine) (hdf:d.params.defaults=[]) (hr:Room k callerA)
  (hrec:(lam.all λx=>((recsOf q).find? λe=>e.name == x).isSome)=true) (hnt:∀w:World,PySem.W.noTabs (K w.params)=true)
  (hY:∀(w:World) (h:Heap),YP w h->(K w.params).In h)
  (F:∀(w:World) (mg:Str->Option Value) (fa:Addr) (h:Heap),(K w.params).In h->h.Ns mainGlobals mg->mg d.name=some (.ref fa) ->
   ∃fd:FuncData,(∀(s:Shared) (u:Value),BindsTo s fd ⟨[u],[]⟩ [(x,u)]) /\
    ∀base:Heap,(K w.params).In base->base.Ns mainGlobals mg->BMd base mg->(∀t∈tabsK lam (K w.params),PySem.W.CodeHd base t.2.1 t.2.2)->FnOk l.prog w (K w.params) mg base (CX w) k fa fd [x] (sp w))
  (hsp:∀(w:World) (H:Hp) (a:Addr) (ns:List Int),ns.length<=n->SqL (K w.params) H a (ns.map V.int)->z9 (tabsK lam (K w.params)) H->sp w [.ref a] H (λv _=>v = .bl true) λ_ _ _=>False)
  (hCX:∀(w:World) (H:Hp) (s:Shared) (e:Value) (s':Shared),CX w [] H s (λ_ _ _=>False) e s'->False) :
  PySem.W.WalkO q loose XP YP l.row.toRowW d [] (λf vs=>PySem.call f vs):=by
 refine Att.attach_call hn hdf λw s₀ s₁ mg mb fa o pm cd doc a vs ns G Y ho hd hcd hmg hobj hints hlen hg=>?_
 have KX:=hY w _ Y
 obtain⟨fd,hb,hF⟩:=F w mg fa _ KX G.T.g hmg
 refine rQ (ts:=tabsK lam (K w.params)) KX G.T.g G.T.b G.T.builtins G.T.nolimit hg hobj hints (Im hlen hn2) hr (λt ht=>?_) (hnt w) G.T.bmain hF hb (λH hS hT=>hsp w H a ns hlen hS hT) λH e s'=>hCX w H s₁ e s'
 obtain⟨x,hx,e⟩:=KE.mp ht
 obtain⟨⟨c,P⟩,e1,e2⟩:=Ip.mp e
 cases e2
 obtain⟨dr,hdr⟩:=KF.mp (Lo.mp hrec x hx)
 exact PySem.W.tab_of G.T KX hdr e1
theorem lamB_mk [Feeds]{K:Fg}{mg:Str->Option Value}{base:Heap}{x:Str}{f:Addr}{oc:Value}{od:Option Addr}{fd:FuncData}{osl:Array (Option Value)}(ga:PySem.W.nsIn K mainGlobals x=some (some (.ref f)))(gl:K.lookup f=some ⟨oc,od,.func fd,osl⟩)
  (hx:x∈(Feeds.lam:List Str)) (hs:(PySem.W.tabIn K x).isSome=true) (nd:(tabP K).Nodup) (BM:BMd base mg) (hC:∀t∈tabsK Feeds.lam K,PySem.W.CodeHd base t.2.1 t.2.2):∃c P,LamB K mg base x fd c P:=by
 obtain⟨⟨c,P⟩,e⟩:=KF.mp hs
 have hm:(x,c,P)∈tabsK Feeds.lam K:=KE.mpr ⟨x,hx,by rw[e];rfl⟩
 refine⟨c,P,hm,?_,hC _ hm,BM,nd⟩
 unfold PySem.W.tabIn at e
 rw[ga]at e
 simp only[gl]at e
 split at e
 .rename_i c2 hc
  split at e
  .split at e
   .cases e;exact hc
   .cases e
  .cases e
 .cases e
end
section
section
variable [Feeds]{K:Fg}{X:Cx}{e a b c:Expr}{te:TE}{pos:Pos}
def xx (K:Fg)(B:List Addr)(H H':Hp):DV->V->Prop
 | .dat d,v=>a7 K (hid H' B) d v
 | .own ds,v=>∃a vs,v = .ref a/\H a=none/\H' a=some (.lst vs)/\a6 K (hid H' (a::B)) ds vs
 | .feed,_=>False
 | .fn _,_=>False
 | .adr _,_=>False
def ir (B:List Addr):DV->V->List Addr
 | .own _,.ref a=>a::B
 | _,_=>B
def TCd (K:Fg)(te:TE)(mc:DE->M DV):Prop:=∀(G:GF) (B:List Addr) (E:DE) (F:FS) (σ:St) (H:Hp) (Q:VK) (dv:DV) (F':FS),SitE K G B E F σ H->mc E F=some (dv,F') ->
 (∀v H',Kp (j7 K G) H H'->FAt K G H' F'->xx K B H H' dv v->Q v H')->te σ H Q
structure Ec (K:Fg) (X:Cx) (e:Expr) (te:TE) (m:DE->M DV):Prop where
 pe:PE X e te
 ok:TCd K te m
def cD (m:DE->M PyData):DE->M DV:=λE F=>(m E F).bind λp=>some (.dat p.1,p.2)
def cO (m:DE->M (List PyData)):DE->M DV:=λE F=>(m E F).bind λp=>some (.own p.1,p.2)
theorem Dm {m:DE->M PyData}(h:Ev K X e te m):Ec K X e te (cD m):=⟨h.pe,λG B E F σ H Q dv F' I e q=>by
 obtain⟨⟨d,F1⟩,e1,e⟩:=bS9 e
 cases e
 exact h.ok G B E F σ H _ d F1 I e1 λv H' k f r=>q v H' k f r⟩
theorem Av {m:DE->M (List PyData)}(h:Ef K X e te m):Ec K X e te (cO m):=⟨h.pe,λG B E F σ H Q dv F' I e q=>by
 obtain⟨⟨d,F1⟩,e1,e⟩:=bS9 e
 cases e
 exact h.ok G B E F σ H _ d F1 I e1 λa vs H' h1 h2 k f r=>q _ H' k f ⟨a,vs,rfl,h1,h2,r⟩⟩
section
variable {G:GF}{B B0:List Addr}{E:DE}{F F1:FS}{σ:St}{H H1 H0:Hp}{dv:DV}{v:V}{i:Nat}
theorem zQ (I:SitE K G B E F σ H)(k1:Kp (j7 K G) H H1)(r:xx K B H H1 dv v):d8 (hid H B) (hid H1 (ir B dv v)):=by
 cases dv with
 | dat d=>exact k1.hid I.fB
 | feed=>exact r.elim
 | fn _=>exact r.elim
 | adr _=>exact r.elim
 | own ds =>
  obtain⟨a,vs,rfl,hn,ha,h1⟩:=r
  intro b o eb
  by_cases hb:b∈B
  .rw[u7 hb]at eb;cases eb
  .rw[d7 hb]at eb
   have hne:=d6 eb hn
   show hid H1 (a::B) b=some o
   rw[d7 (by simp[hne,hb])]
   exact k1 b o eb λz=>hb (I.fB b z)
theorem gR:∀b∈B,b∈ir B dv v:=λb hb=>by
 cases dv <;> cases v <;> first | exact hb | exact HA _ hb
theorem SitE.moreC (I:SitE K G B E F σ H)(k1:Kp (j7 K G) H H1)(f1:FAt K G H1 F1)(r:xx K B H H1 dv v):SitE K G (ir B dv v) E F1 σ H1:=by
 have sm:=zQ I k1 r
 refine⟨f1,λb hb=>gR b (I.fB b hb),λb hb=>?_,I.ln,λj x ej=>?_⟩
 .have old:b∈B->∃o,H1 b=some o:=λhb=>(I.step k1 f1).bk b hb
  cases dv with
  | dat d=>cases v <;> exact old hb
  | feed=>exact r.elim
  | fn _=>exact r.elim
  | adr _=>exact r.elim
  | own ds =>
   obtain⟨a,vs,rfl,hn,ha,h1⟩:=r
   rcases HB.mp hb with rfl | hb
   .exact⟨_,ha⟩
   .exact old hb
 .obtain⟨w,v1,v2⟩:=I.loc j x ej
  refine⟨w,v1,?_⟩
  cases x with
  | dat d=>exact a7.same (show a7 K (hid H B) d w from v2) sm
  | feed=>exact v2
  | fn _=>exact v2
  | adr _=>exact v2
  | own es =>
   obtain⟨a',xs',rfl,hB',hf',ha',hd'⟩:=v2
   exact⟨a',xs',rfl,gR _ hB',hf',k1 _ _ ha' hf',hd'.same sm⟩
theorem Sit.putC (S:Sit K G B0 H0 E F σ H)(s:∀b∈B0,b∈B)(sn:∀b∈B,b∈B0\/H0 b=none)(I:SitE K G B E F σ H)(k1:Kp (j7 K G) H H1)(f1:FAt K G H1 F1)(r:xx K B H H1 dv v)(hl:i<E.length) :
  Sit K G B0 H0 (E.set i (some dv)) F1 (σ.set i (some v)) H1/\(∀b∈B0,b∈ir B dv v)/\(∀b∈ir B dv v,b∈B0\/H0 b=none)/\SitE K G (ir B dv v) (E.set i (some dv)) F1 (σ.set i (some v)) H1:=by
 have hsl:i < σ.length:=by rw[<-I.ln];exact hl
 have s':∀b∈B0,b∈ir B dv v:=λb hb=>gR b (s b hb)
 have newB:∀ds,dv = .own ds->∃a vs,v = .ref a/\H1 a=some (.lst vs)/\a6 K (hid H1 (a::B)) ds vs/\a ∉ B/\a ∉ j7 K G/\H0 a=none:=λds e=>by
  subst e
  obtain⟨a,vs,rfl,hn,ha,h1⟩:=r
  have haB:a ∉ B:=I.bk.nin hn
  have haf:a ∉ j7 K G:=λz=>haB (I.fB a z)
  exact⟨a,vs,rfl,ha,h1,haB,haf,S.kp.none hn haf⟩
 have sn':∀b∈ir B dv v,b∈B0\/H0 b=none:=λb hb=>by
  cases dv with
  | dat d=>cases v <;> exact sn b hb
  | feed=>exact r.elim
  | fn _=>exact r.elim
  | adr _=>exact r.elim
  | own ds =>
   obtain⟨a,vs,rfl,ha,h1,haB,haf,h0⟩:=newB ds rfl
   rcases HB.mp hb with rfl | hb
   .exact .inr h0
   .exact sn b hb
 have IC:=I.moreC k1 f1 r
 have I':SitE K G (ir B dv v) (E.set i (some dv)) F1 (σ.set i (some v)) H1:=by
  refine⟨IC.fd,IC.fB,IC.bk,by rw[Jg,Jg];exact I.ln,λj x ej=>?_⟩
  by_cases hj:i=j
  .subst hj
   rw[HR hl]at ej
   cases ej
   refine⟨v,by rw[HR hsl],?_⟩
   cases dv with
   | dat d=>cases v <;> exact r
   | feed=>exact r.elim
   | fn _=>exact r.elim
   | adr _=>exact r.elim
   | own ds =>
    obtain⟨a,vs,rfl,ha,h1,haB,haf,h0⟩:=newB ds rfl
    exact⟨a,vs,rfl,HV,haf,ha,h1⟩
  .rw[HL hj]at ej
   obtain⟨w,v1,v2⟩:=IC.loc j x ej
   exact⟨w,by rw[HL hj];exact v1,v2⟩
 have other:∀(ds:List PyData) (j:Nat) (es:List PyData) (a:Addr),dv = .own ds->v = .ref a->E[j]? = some (some (DV.own es))->σ[j]? ≠ some (some (V.ref a)):=λds j es a e ev ej z=>by
  obtain⟨a1,vs,ev1,ha,h1,haB,haf,h0⟩:=newB ds e
  rw[ev]at ev1;cases ev1
  obtain⟨w,v1,a',xs',rfl,hB',_⟩:=I.loc j _ ej
  rw[v1]at z;cases z
  exact haB hB'
 refine⟨⟨⟨ir B dv v,s',sn',I'⟩,S.fB,S.kp.trans k1,λj es a' ej sj=>?_,λj k es es' a' ej ek sj sk=>?_⟩,s',sn',I'⟩
 .by_cases hj:i=j
  .subst hj
   rw[HR hl]at ej
   rw[HR hsl]at sj
   have e1:dv = .own es:=HN (HN ej)
   have e2:v = .ref a':=HN (HN sj)
   obtain⟨a,vs,ev,ha,h1,haB,haf,h0⟩:=newB es e1
   rw[e2]at ev;cases ev
   exact⟨h0,λz=>haB (s _ z)⟩
  .rw[HL hj]at ej sj
   exact S.own j es a' ej sj
 .by_cases hj:i=j
  .by_cases hk:i=k
   .rw[<-hj,<-hk]
   .subst hj
    rw[HR hl]at ej
    rw[HR hsl]at sj
    rw[HL hk]at ek sk
    have e1:dv = .own es:=HN (HN ej)
    have e2:v = .ref a':=HN (HN sj)
    exact absurd sk (other es k es' a' e1 e2 ek)
  .by_cases hk:i=k
   .subst hk
    rw[HR hl]at ek
    rw[HR hsl]at sk
    rw[HL hj]at ej sj
    have e1:dv = .own es':=HN (HN ek)
    have e2:v = .ref a':=HN (HN sk)
    exact absurd sj (other es' j es a' e1 e2 ej)
   .rw[HL hj]at ej sj
    rw[HL hk]at ek sk
    exact S.inj j k es es' a' ej ek sj sk
end
def gw (i j:Nat)(c1 c2:DE->M DV):DE->M Out:=λE F=>(c1 E F).bind λp=>(c2 E p.2).bind λq=>if i<E.length/\j<E.length then some (.nx ((E.set i (some p.1)).set j (some q.1)),q.2) else none
theorem ye (i j:Nat){x y:Str}{t1 t2:TE}{c1 c2:DE->M DV}{px py pt:Pos}{kt k2 pt2}(hc:X.calm=true)(hN:X.N.Nodup)(h1:Ec K X a t1 c1)(h2:Ec K X b t2 c2)(hi:X.N[i]? = some x:=by rfl)(hj:X.N[j]? = some y:=by rfl)(hij:i≠j:=by decide)
  (hx:X.env.scope.names.lookup x=some .local:=by rfl) (hy:X.env.scope.names.lookup y=some .local:=by rfl)
  (hw:swappedStores [.Tuple [.Name x px,.Name y py] kt pt] (.Tuple [a,b] k2 pt2) X.env=pure (some [x,y]):=by rfl)
  (hs:swapsWithSole [.Tuple [.Name x px,.Name y py] kt pt] (.Tuple [a,b] k2 pt2) pos.line X.env=pure false:=by rfl)
  (hs1:starEach [a,b] X.env=(false,eval a X.env)::starEach [b] X.env:=by rfl) (hs2:starEach [b] X.env=(false,eval b X.env)::starEach [] X.env:=by rfl) :
  Ss K X (.Assign [.Tuple [.Name x px,.Name y py] kt pt] (.Tuple [a,b] k2 pt2) pos) (Ck i j (l9 t1 (l9 t2 C4))) (gw i j c1 c2):=⟨zf hc hN hi hj hij hx hy (f9 h1.pe (f9 h2.pe j9 hs2) hs1) hw hs,λG B0 H0 E F σ H D r F' S e q=>by
 obtain⟨⟨d1,F1⟩,e1,e⟩:=bS9 e
 obtain⟨⟨d2,F2⟩,e2,e⟩:=bS9 e
 split at e
 case isFalse=>cases e
 rename_i hl
 cases e
 obtain⟨B,s,sn,I⟩:=S.ex
 refine h1.ok G B E F σ H _ d1 F1 I e1 λv H1 k1 f1 r1=>?_
 obtain⟨S1,s1,sn1,I1⟩:=S.putC s sn I k1 f1 r1 hl.1
 refine h2.ok G _ E F1 σ H1 _ d2 F2 (I.moreC k1 f1 r1) e2 λw H2 k2' f2 r2=>?_
 obtain⟨S2,_⟩:=S1.putC s1 sn1 I1 k2' f2 r2 (i:=j) (by rw[Jg];exact hl.2)
 exact⟨v,w,rfl,q _ _ S2⟩⟩
end
end
section
section
variable {K:Fg}{X0:Cx}{tg iter:Expr}{te:TE}{pos:Pos}
end
section
variable {K:Fg}{X:Cx}[Feeds]
end
def FdS.fstN (F:FdS):Int:=(F.cellL % 1000003+37*F.a*F.a+13*F.a+5)*48271 % 999983
def FdS.mixN (F:FdS):Int:=((F.fstN*F.fstN+7919*F.a+11) % 2097143)*69621 % 2147483629 / 7
def eP (m:Int)(F:FdS):Option (Int×FdS):=if 0<m/\m<1073741824/\F.t<199999 then
  some (if 0<F.l then(F.l % m,⟨F.ns,F.a,F.l / m,F.t+1⟩)
   else if 10 ^ 18<=F.cellL/\F.a<F.ns.length then(F.cellL % m,⟨F.ns,F.a+1,F.cellL / m,F.t+1⟩)
   else(F.mixN % m,⟨F.ns,F.a+1,F.l,F.t+1⟩))
 else none
theorem nj {m:Int}{F:FdS}(h0:0<m)(h1:m<1073741824)(h2:F.t<199999):∃r F',eP m F=some (r,F')/\0<=r/\r<m/\F'.t=F.t+1:=by
 have b:∀x:Int,0<=x % m/\x % m<m:=λx=>⟨Int.emod_nonneg _ (by omega),Int.emod_lt_of_pos _ h0⟩
 unfold eP
 rw[HH ⟨h0,h1,h2⟩]
 by_cases hl:0<F.l
 .rw[HH hl];exact⟨_,_,rfl,(b _).1,(b _).2,rfl⟩
 .rw[HM hl]
  by_cases hc:10 ^ 18<=F.cellL/\F.a<F.ns.length
  .rw[HH hc];exact⟨_,_,rfl,(b _).1,(b _).2,rfl⟩
  .rw[HM hc];exact⟨_,_,rfl,(b _).1,(b _).2,rfl⟩
@[reducible] def Dq (l:List Str):Fam where
 At:=λd c H F=>H d=some (.lst [.ref c,.int F.a,.int F.l])/\H c=some (.lst (F.ns.map V.int))/\F.ns.length<=63/\0<=F.a/\F.a<=F.t/\d≠c
 some1:=λh=>⟨_,h.1,⟨λ_ z=>(by cases z),λ_ z=>(by cases z)⟩⟩
 some2:=λh=>⟨_,h.2.1,⟨λ_ z=>(by cases z),λ_ z=>(by cases z)⟩⟩
 lam:=l
 congr:=λh e1 e2=>⟨e1.trans h.1,e2.trans h.2.1,h.2.2⟩
 drawF:=eP
 draw_some:=nj
end
section
end
section
section
variable {K:Fg}{X:Cx}[Feeds]
end
end
section
section
variable {M:Lang}{A:Around}{E:Value->Shared->Prop}{s:Shared}
theorem ik:seqSlot? (.type "list") (dunderI "add")=pure (some (.builtin "list.__iadd__")):=PySem.seqSlot_of Ll.lookup (by decide +kernel)
theorem gm:fillsInplaceSlot (.type "list") "add" (Operator.Add == .Add)=pure false:=by
 unfold fillsInplaceSlot
 show(typeLookup (.type "list") (dunderI "add") >>= λfi=>pure (fi.isSome && !isSeqSlot fi))=pure false
 rw[Ll.lookup]
 show(pure ((some (Value.builtin "list.__iadd__")).isSome && !isSeqSlotId "list.__iadd__"):Sem Bool)=pure false
 have:isSeqSlotId "list.__iadd__" = true:=by decide +kernel
 rw[this]
 rfl
end
section
variable {prog:Program}{w:World}{A:Around}{E:Value->Shared->Prop}{s:Shared}
theorem qQ {a b:Value}{Q:Value->Shared->Prop}(ha:s.TypeIs a "list")(hb:s.TypeIs b "list")(hc:wpAny (model prog w) A (call (.builtin "list.__iadd__") [a,b]) Q E s):wpAny (model prog w) A (inplaceOp .Add a b) Q E s:=by
 unfold inplaceOp
 refine Ja ?_
 refine Hy (Lr ha (Hy (wpAny_of_eq gm ?_)))
 show wpAny _ A (if false=true then _ else _) Q E s
 rw[HM Ia]
 refine Hy (binaryOp1_none (nm:="add") ha hb noFill_list_add ?_)
 refine Hy (wpAny_of_eq ik ?_)
 exact Hy (KQ hc)
end
section
variable {K:Fg}{X:Cx}[Feeds]
def ipE:TIp:=λx y H Q=>∃l b xs zs,x = .ref l/\y = .ref b/\H l=some (.lst xs)/\H b=some (.lst zs)/\xs.length+zs.length<=sizeLine/\Q (.ref l) (upd H l (.lst (xs++zs)))
theorem zb:PIp X .Add ipE:=by
 intro pins s σ H x y v u Q I rx ry h
 obtain⟨l,b,xs,zs,rfl,rfl,hH,hB,hz,q⟩:=h
 cases rx
 cases ry
 obtain⟨z,its,n,r,hl,e⟩:=I.lstM hH
 obtain⟨z2,its2,n2,r2,hl2,e2⟩:=I.lstM hB
 have hsz:its.toArray.size+its2.toArray.size<=sizeLine:=by rw[HQ,HQ];omega
 have hlong:¬(!its.toArray.isEmpty&&Builtin.List.listTooLong (its.toArray.size+its2.toArray.size))=true:=by
  rw[md hsz,KR]
  exact Ia
 refine qQ ⟨_,e,rfl⟩ ⟨_,e2,rfl⟩ ?_
 refine Kj Ll ⟨_,e,rfl⟩ PySem.F.entry_list_iadd (PySem.F.args_list_iadd_2 _ _)
  (AutoSeq1.list___iadd___list_list_0 l its.toArray n b its2.toArray n2 hlong (by rw[HQ];omega) (by omega)) ⟨e,e2,?_⟩
 refine⟨.ref l,_,I.lset (its':=its++its2) hH e (by simp) (r.append r2) ?_,rfl,q⟩
 rw[IA]
 omega
theorem ur {v w:V}:[v,w].length<=sizeLine:=by show 2<=sizeLine;rw[Io];decide
theorem mV {α:Type}:∀{l:List α} {i:Nat} {a:α},l[i]? = some a->l.set i a=l
 | [],_,_,h=>by simp at h
 | x::l,0,a,h=>by simp at h;simp[h]
 | x::l,i+1,a,h=>by simp at h;simp[mV h]
variable {e:Expr}{te:TE}{m:DE->M PyData}{pos:Pos}
theorem Ad {i:Nat}(hv:TEs K te m):TSd K (tQ i te ipE) (lg i m):=λG B0 H0 E F σ H D r F' S e q=>by
 obtain⟨⟨d,F1⟩,e1,e⟩:=bS9 e
 obtain⟨ds,e4,e⟩:=bS9 e
 dsimp only at e
 split at e
 .split at e
  .rename_i hl
   cases e
   obtain⟨B,s,sn,I⟩:=S.ex
   have eo:=P8 e4
   obtain⟨w,w1,a,xs,rfl,hB,hf,hx,hdx⟩:=I.loc i _ eo
   refine⟨_,w1,hv G B E F σ H _ (.list _) _ I e1 λu H2 k2 f2 h2=>?_⟩
   obtain⟨b,ys,rfl,hb,hdb⟩:=h2
   have hd2:=hdx.same (k2.hid I.fB)
   refine⟨a,b,xs,ys,rfl,rfl,k2 a _ hx hf,c7 _ _ hb,by rw[hdx.length,hdb.length];exact hl,?_⟩
   show D.nx (List.set σ i (some (V.ref a))) _
   rw[mV w1]
   exact q σ _ ((S.step k2 f2).write s sn (I.step k2 f2) eo w1 (a6.append hdb hd2))
  .cases e
 .cases e
theorem pY (i:Nat){x:Str}{pos':Pos}(hN:X.N.Nodup)(he:Eb K X e te m)(hi:X.N[i]? = some x:=by rfl)(hx:Loc X.env.scope x:=by first | exact Or.inl rfl | exact Or.inr rfl)(hf:X.fn x=true\/X.env.scope.names.lookup x=some .local:=by first | exact .inl rfl | exact .inr rfl | assumption) :
  Ss K X (.AugAssign (.Name x pos') .Add e pos) (tQ i te ipE) (lg i m):=⟨tM hN hi hx he.pe zb hf,Ad he.ok⟩
variable {a b:Expr}
theorem uU (i j:Nat){x y:Str}{t1 t2:TE}{c1 c2:DE->M DV}{px py pt:Pos}{kt k2 pt2}(hK:X.K=K)(hc:X.calm=true)(hN:X.N.Nodup)(h1:Ec K X a t1 c1)(h2:Ec K X b t2 c2)(hi:X.N[i]? = some x:=by rfl)(hj:X.N[j]? = some y:=by rfl)
  (hx:Loc X.env.scope x:=by first | exact Or.inl rfl | exact Or.inr rfl) (hy:Loc X.env.scope y:=by first | exact Or.inl rfl | exact Or.inr rfl)
  (hfx:X.fn x=true\/X.env.scope.names.lookup x=some .local:=by first | exact .inl rfl | exact .inr rfl | assumption) (hfy:X.fn y=true\/X.env.scope.names.lookup y=some .local:=by first | exact .inl rfl | exact .inr rfl | assumption)
  (hw:swappedStores [.Tuple [.Name x px,.Name y py] kt pt] (.Tuple [a,b] k2 pt2) X.env=pure none:=by rfl)
  (hs:swapsWithSole [.Tuple [.Name x px,.Name y py] kt pt] (.Tuple [a,b] k2 pt2) pos.line X.env=pure false:=by rfl)
  (ha1:(assignEach [.Tuple [.Name x px,.Name y py] kt pt] X.env).map (·.2)=[assign (.Tuple [.Name x px,.Name y py] kt pt) X.env]:=by rfl)
  (hs1:starEach [a,b] X.env=(false,eval a X.env)::starEach [b] X.env:=by rfl) (hs2:starEach [b] X.env=(false,eval b X.env)::starEach [] X.env:=by rfl) :
  Ss K X (.Assign [.Tuple [.Name x px,.Name y py] kt pt] (.Tuple [a,b] k2 pt2) pos) (G9 (qZ (l9 t1 (l9 t2 C4))) (xI K 2 (qt (D3 i) (qt (D3 j) Ay)))) (gw i j c1 c2) :=
 ⟨M9 (gc (f9 h1.pe (f9 h2.pe j9 hs2) hs1)) (pK hK hc (fR (ff hN hi hx hfx) (fR (ff hN hj hy hfy) pJ))) hs hw ha1,λG B0 H0 E F σ H D r F' S e q=>by
 obtain⟨⟨d1,F1⟩,e1,e⟩:=bS9 e
 obtain⟨⟨d2,F2⟩,e2,e⟩:=bS9 e
 split at e
 case isFalse=>cases e
 rename_i hl
 cases e
 obtain⟨B,s,sn,I⟩:=S.ex
 refine h1.ok G B E F σ H _ d1 F1 I e1 λv H1 k1 f1 r1=>?_
 obtain⟨S1,s1,sn1,I1⟩:=S.putC s sn I k1 f1 r1 hl.1
 refine h2.ok G _ E F1 σ H1 _ d2 F2 (I.moreC k1 f1 r1) e2 λw H2 k2' f2 r2=>?_
 obtain⟨S2,_⟩:=S1.putC s1 sn1 I1 k2' f2 r2 (i:=j) (by rw[Jg];exact hl.2)
 refine⟨ur,λp hp=>⟨p,[v,w],rfl,SqT.of b8,rfl,v,[w],rfl,w,[],rfl,rfl,?_⟩⟩
 exact q _ _ (S2.step (Kp.upd hp) (f2.same (d8.upd hp)))⟩
theorem Cm {tg iter elt:Expr}{ifs:List Expr}{scope osc:Scope}{N:List Str}{k:Nat}{cap:List Nat}{wi:TI}{g:TG}{tt:TT}{mi:DE->M (List PyData)}{bd:PyData->DE->Option DE}{mt:DE->M Bool}{me:DE->M PyData}
  (hc:X.calm=true) (hosc:X.env.scope=osc) (hcap:Caps X.N osc N k cap scope) (hi:Eib K X tg iter wi mi)
  (hg:∀cl C ex pins s H,Eg K (cxC X N scope cl C ex pins s H) tg g bd)
  (ht:∀cl C ex pins s H,Ets K (cxC X N scope cl C ex pins s H) ifs tt mt)
  (he:∀cl C ex pins s H,Ev K (cxC X N scope cl C ex pins s H) elt te me)
  (hs:∀x,foldedSetIterable iter X.env x=pure x:=by intro _;rfl) :
  Ef K X (.ListComp elt [⟨tg,iter,ifs,0⟩] scope pos) (tLC wi k cap g tt te) (fLC mi k cap bd mt me) :=
 ⟨ub hc hosc hcap hi.pi (λcl C ex pins s H=>(hg cl C ex pins s H).pg) (λcl C ex pins s H=>(ht cl C ex pins s H).pts) (λcl C ex pins s H=>(he cl C ex pins s H).pe) hs,
  yD hi.ok (hg [] 0 [] [] X.s₀ X.H₀).ok (ht [] 0 [] [] X.s₀ X.H₀).ok (he [] 0 [] [] X.s₀ X.H₀).ok⟩
end
end
section
section
variable [Feeds]
variable {K:Fg}{X:Cx}{e i v1 v2 v3:Expr}{es:List Expr}{te t1 t2 t3 ti:TE}{m1 m2 m3 mi:DE->M PyData}{p pos p1 p2 p3:Pos}
variable {P:Program}{w:World}{mg:Str->Option Value}{base:Heap}
def spG (K:Fg)(n:Nat)(f:List DV->M (List PyData)):Sp:=λvs H Q _=>∃G B F args ds F',vs.length=n/\(∀b∈j7 K G,b∈B)/\BOk H B/\FAt K G H F/\dD K G B H args vs/\f args F=some (ds,F') /\
 ∀a ws H',H a=none->H' a=some (.lst ws)->Kp (j7 K G) H H'->FAt K G H' F'->a6 K (hid H' (a::B)) ds ws->Q (.ref a) H'
def AY (N:List Str)(mf:DE->M (List PyData)):List DV->M (List PyData):=λargs F=>mf (p6 N args) F
def qm (f:List DV->M (List PyData))(ms:DE->M (List DV)):DE->M (List PyData):=λE F=>(ms E F).bind λp=>f p.1 p.2
theorem wV {n:Nat}{f:List DV->M (List PyData)}{ta:TA}{ms:DE->M (List DV)}(h:TVd K ta ms)(hn:∀E F args F',ms E F=some (args,F')->args.length=n):TFd K (U3 (spG K n f) [] E0 ta) (qm f ms):=λG B E F σ H Q ds F' I e q=>by
 obtain⟨⟨args,F1⟩,e1,e⟩:=bS9 e
 refine h G B E F σ H _ args F1 I e1 λvs H1 k1 f1 h1=>?_
 rw[IE]
 refine⟨G,B,F1,args,ds,F',by rw[h1.length];exact hn _ _ _ _ e1,I.fB,q5 I.bk k1 f1,f1,h1,e,λa ws H2 hn2 ha2 k2 f2 h2=>q a ws H2 ?_ ha2 (k1.trans k2) f2 h2⟩
 exact k1.none hn2 λz=>(q5 I.bk k1 f1).nin hn2 (I.fB a z)
theorem xP {x:Str}{k n:Nat}{ps:List Str}{f:List DV->M (List PyData)}{tl:TA}{ms:DE->M (List DV)}(C:j8 X.prog X.w X.K X.mg X.base x k ps (spG K n f))(hr:Room k X.A)(ha:Evs K X (e::es) tl ms)(hn:∀E F args F',ms E F=some (args,F')->args.length=n)(hg:Gl X x:=by rfl)
  (hdb:(x == ("__debug__":Str))=false:=by decide) (he:starEach (e::es) X.env=(false,eval e X.env)::starEach es X.env:=by rfl) (hpl:(backTo pos (starEach es X.env)).any (·.1)=false:=by rfl) :
  Ef K X (.Call (.Name x p) (e::es) [] pos) (U3 (spG K n f) [] E0 tl) (qm f ms):=⟨P4 C hr hg ha.pa hdb he hpl,wV ha.ok hn⟩
end
end
section
section
variable {prog:Program}{w:World}{A:Around}{E:Value->Shared->Prop}{s:Shared}
variable {b1 b2:Bool}{z TI TO i1 i2 l1 l2:Addr}{k:Nat}{xs ys:Array Value}{x y a b:Value}
end
end
section
section
variable {prog:Program}{w:World}{A:Around}{E:Value->Shared->Prop}{s:Shared}
end
section
variable [Feeds]{K:Fg}{X:Cx}{tg e1 e2:Expr}{te1 te2:TE}{m1 m2:DE->M PyData}{pos p tp:Pos}{es:List Expr}{tk:Nat}
end
end
end L3
namespace L2
open PySem PySem.Spec PyProof.Rows
section
section
variable {prog:Program}{w:World}{A:Around}{R:Result->Shared->Prop}{s:Shared}
end
end
section
end
end L2
namespace L3
open PySem PySem.Spec PyProof.Rows L2
section
section
variable [Feeds]
variable {K:Fg}{X:Cx}{tg iter tg1 iter1 elt:Expr}{te:TE}{pos:Pos}
end
end
section
section
variable [Feeds]
variable {K:Fg}{X:Cx}{st:Stmt}{rest:List Stmt}{t u:TS}{mt:DE->M Out}{mu:DE->M (List PyData)}{p pos:Pos}
variable {P:Program}{w:World}{mg:Str->Option Value}{base:Heap}
def gSq (a:DE->M Out)(b:DE->M (List PyData)):DE->M (List PyData):=λE F=>(a E F).bind λp=>match p.1 with
 | .nx E1=>b E1 p.2
 | _=>none
def uZ (i:Nat):DE->M (List PyData):=λE F=>match E[i]? with
 | some (some (.own ds))=>some (ds,F)
 | _=>none
structure SsG (K:Fg) (X:Cx) (sts:List Stmt) (ts:TS) (m:DE->M (List PyData)):Prop where
 ps:PSs X sts ts
 ok:∀(G:GF) (B0:List Addr) (H0:Hp) (E:DE) (F:FS) (σ:St) (H:Hp) (D:Ends) (ds:List PyData) (F':FS),Sit K G B0 H0 E F σ H->m E F=some (ds,F') ->
  (∀a ws H',H0 a=none->H' a=some (.lst ws)->Kp (j7 K G) H0 H'->FAt K G H' F'->a6 K (hid H' (a::B0)) ds ws->D.rt (.ref a) H')->ts D σ H
theorem vo (i:Nat){x:Str}(hN:X.N[i]? = some x:=by rfl)(hv:Vis X.env.scope x:=by first | exact Or.inl rfl | exact Or.inr (Or.inl rfl) | exact Or.inr (Or.inr rfl))(hd:(x == ("__debug__":Str))=false:=by decide)
  (hcd:(x == ("__classdict__":Str))=false:=by decide):SsG K X [.Return (some (.Name x p)) pos] (qE (l4 i)) (uZ i):=⟨z7 (W7 (C7 hN hv hd hcd)),λG B0 H0 E F σ H D ds F' S e q=>by
 obtain⟨B,s,sn,I⟩:=S.ex
 unfold uZ at e
 split at e
 .rename_i x hx
  cases e
  obtain⟨v,h1,p,xs,rfl,hB,hf,hp,hd⟩:=I.loc i _ hx
  obtain⟨n1,n2⟩:=S.own i _ p hx h1
  exact⟨_,h1,q p xs H n1 hp S.kp I.fd (hd.same (G6 λb hb=>by
   rcases HB.mp hb with rfl | hb
   .exact hB
   .exact s b hb))⟩
 .cases e⟩
theorem bR (h1:Ss K X st t mt)(h2:SsG K X rest u mu):SsG K X (st::rest) (N5 t u) (gSq mt mu):=⟨i9 h1.ps h2.ps,λG B0 H0 E F σ H D ds F' S e q=>by
 obtain⟨⟨o,F1⟩,e1,e⟩:=bS9 e
 refine h1.ok G B0 H0 E F σ H _ o F1 S e1 ?_
 cases o with
 | nx E1=>exact λσ' H' S'=>h2.ok G B0 H0 E1 F1 σ' H' D ds F' S' e q
 | rt d=>cases e
 | bk E1=>cases e
 | ct E1=>cases e⟩
theorem xY {x qual:Str}{st:Stmt}{f:Addr}{fd:FuncData}{N ps:List Str}{k:Nat}{mf:DE->M (List PyData)}(Fn:Fun K x qual st f fd)(S:FnScope N ps (defScope st))
  (hbody:∀(cdv:Value) (A:Around) (outer:List Env) (s:Shared) (H:Hp) (E:XK),Room k (A.deeper (envOfC qual (defScope st) s.heap.objs.size f cdv)) ->
   ∃ts,SsG K (M8 CX0 P w K mg base N qual (defScope st) f cdv A outer s H E).nox (defBody st) ts mf):FnOk P w K mg base CX0 (k+1) f fd ps (spG K ps.length (AY N mf)):=by
 refine Fn.ok S (λvs H Q E h=>?_) (λcdv A outer s H vs Q E hr h=>?_)
 .obtain⟨G,B,F,args,d,F',hl,_⟩:=h
  exact hl
 .obtain⟨G,B,F,args,ds,F',hl,fB,bk,fa,ha,e1,q⟩:=h
  obtain⟨ts,hts⟩:=hbody cdv A outer s H E hr
  exact⟨ts,hts.ps,hts.ok G B H (p6 N args) F (L2.A5 N vs) H _ ds F' (cX fB bk fa ha) e1 q⟩
end
end
end L3
namespace L2
open PySem PySem.Spec PyProof.Rows
section
variable {X:Cx}{K:Fg}
end
end L2
namespace L3
open PySem PySem.Spec PyProof.Rows L2
section
section
variable [Feeds]{K:Fg}{X:Cx}
end
end
section
section
variable [Feeds]
variable {K:Fg}{X:Cx}{e:Expr}{es:List Expr}{p pos:Pos}
end
end
section
section
variable [Feeds]
variable {K:Fg}{X:Cx}{e:Expr}{te:TE}{m:DE->M PyData}{p pos:Pos}
end
end
end L3
namespace L3
open PySem PySem.Spec PyProof.Rows L2 PySem.SeqAt
section
variable [Feeds]{K:Fg}{X:Cx}
end
end L3
namespace L3
open PySem PySem.Spec PyProof.Rows L2
section
section
variable {prog:Program}{w:World}{A:Around}{E:Value->Shared->Prop}{s:Shared}
variable {b1 b2 f:Bool}{z TI TO T0 i1 i2 l1 l2:Addr}{k:Nat}{xs ys:Array Value}{x y a b:Value}{oT:Obj}
end
end
section
section
variable {X:Cx}{K:Fg}{p p2 pos pos2:Pos}
end
section
variable [Feeds]{X:Cx}{K:Fg}{p p2 pos pos2:Pos}{e1 e2:Expr}{te1 te2:TE}{m1 m2:DE->M PyData}
end
end
section
section
variable {prog:Program}{w:World}{A:Around}{E:Value->Shared->Prop}{s:Shared}
end
section
variable [Feeds]{K:Fg}{X:Cx}{tg e1 e2:Expr}{te1 te2:TE}{m1 m2:DE->M PyData}{pos p tp:Pos}{es:List Expr}{tk:Nat}
end
end
section
variable [Fam]
def wp {α σ:Type}(m:Option (α × σ))(Q:α->σ->Prop):Prop:=∃a F',m=some (a,F')/\Q a F'
section
variable {α β γ σ τ:Type}{Q:α->σ->Prop}
theorem a9 {a:α}{F:σ}:wp (some (a,F)) Q↔Q a F:=⟨λ⟨_,_,e,q⟩=>by cases e;exact q,λq=>⟨_,_,rfl,q⟩⟩
theorem u8:wp (none:Option (α × σ)) Q↔False:=⟨λ⟨_,_,e,_⟩=>(by cases e),False.elim⟩
theorem b9 {x:Option (β × τ)}{f:β × τ->Option (α × σ)}:wp (x.bind f) Q↔wp x λa F'=>wp (f (a,F')) Q:=by
 constructor
 .rintro ⟨a,F',e,q⟩
  obtain⟨⟨b,F1⟩,e1,e2⟩:=bS9 e
  exact⟨b,F1,e1,a,F',e2,q⟩
 .rintro ⟨b,F1,e1,a,F',e2,q⟩
  exact⟨a,F',by rw[e1];exact e2,q⟩
theorem y9 {o:Option γ}{f:γ->Option (α × σ)}:wp (o.bind f) Q↔∃z,o=some z/\wp (f z) Q:=by
 constructor
 .rintro ⟨a,F',e,q⟩
  obtain⟨z,e1,e2⟩:=bS9 e
  exact⟨z,e1,a,F',e2,q⟩
 .rintro ⟨z,e1,a,F',e2,q⟩
  exact⟨a,F',by rw[e1];exact e2,q⟩
theorem ky {c:Prop}[Decidable c]{a b:Option (α × σ)}:wp (if c then a else b) Q↔if c then wp a Q else wp b Q:=by
 split <;> rfl
theorem g7 {m:Option (α × σ)}{Q':α->σ->Prop}(h:wp m Q)(hq:∀a F,Q a F->Q' a F):wp m Q':=by
 obtain⟨a,F,e,q⟩:=h
 exact⟨a,F,e,hq a F q⟩
theorem B3 {m:Option (α × σ)}{Q':α->σ->Prop}(h:∀a F,Q a F↔Q' a F):wp m Q↔wp m Q':=⟨λz=>g7 z λa F q=>(h a F).mp q,λz=>g7 z λa F q=>(h a F).mpr q⟩
theorem qv {z:γ}{P:γ->Prop}:(∃y,some z=some y/\P y)↔P z:=⟨λ⟨_,e,p⟩=>by cases e;exact p,λp=>⟨_,rfl,p⟩⟩
theorem O5 {m:Int}{F:FdS}{Q:PyData->FdS->Prop}(h0:0<m)(h1:m<1073741824)(h2:F.t<199999)(q:∀r F',0<=r->r<m->F'.t=F.t+1->Q (.int r) F'):wp (N7 [.feed,.dat (.int m)] F) Q:=by
 obtain⟨r,F',e,r0,r1,ht⟩:=Fam.draw_some h0 h1 h2
 exact⟨.int r,F',by show(Fam.drawF m F).bind _=_;rw[e];rfl,q r F' r0 r1 ht⟩
end
def gD (o:Option (Option DV))(P:PyData->Prop):Prop:=match o with
 | some (some (.dat d))=>P d
 | _=>False
def gW (o:Option (Option DV))(P:PyData->Prop):Prop:=match o with
 | some (some (.dat d))=>P d
 | some (some (.own ds))=>P (.list ds)
 | _=>False
def gF (o:Option (Option DV))(P:Prop):Prop:=match o with
 | some (some .feed)=>P
 | _=>False
def oB {γ:Type}(o:Option γ)(P:γ->Prop):Prop:=∃z,o=some z/\P z
def cIf (c:Bool)(A B:Prop):Prop:=if c=true then A else B
theorem iL {A B:Prop}:cIf true A B↔A:=by simp[cIf]
theorem bU {A B:Prop}:cIf false A B↔B:=by simp[cIf]
theorem R6 {c:Bool}{A B:Prop}(h1:c=true->A)(h2:c=false->B):cIf c A B:=by
 cases c
 .exact bU.mpr (h2 rfl)
 .exact iL.mpr (h1 rfl)
section
variable [Feeds]{E:DE}{F:FS}
theorem u9 {d:PyData}{Q:PyData->FS->Prop}:wp (sC d E F) Q↔Q d F:=a9
theorem n6 {i:Nat}{Q:PyData->FS->Prop}:wp (sV i E F) Q↔gD E[i]? λd=>Q d F:=by
 unfold sV gD;generalize E[i]? = o
 rcases o with _ | _ | x
 .exact u8
 .exact u8
 .cases x <;> first | exact a9 | exact u8
theorem j5 {i:Nat}{Q:PyData->FS->Prop}:wp (sW i E F) Q↔gW E[i]? λd=>Q d F:=by
 unfold sW gW;generalize E[i]? = o
 rcases o with _ | _ | x
 .exact u8
 .exact u8
 .cases x <;> first | exact a9 | exact u8
theorem CG {f:PyData->Option PyData}{a:DE->M PyData}{Q:PyData->FS->Prop}:wp (s1 f a E F) Q↔wp (a E F) λx F1=>oB (f x) λz=>Q z F1:=by
 unfold s1;rw[b9];simp only[y9,a9,oB]
theorem v9 {f:PyData->PyData->Option PyData}{a b:DE->M PyData}{Q:PyData->FS->Prop}:wp (s2 f a b E F) Q↔wp (a E F) λx F1=>wp (b E F1) λy F2=>oB (f x y) λz=>Q z F2:=by
 unfold s2;rw[b9];refine B3 λx F1=>?_;rw[b9];refine B3 λy F2=>?_;simp only[y9,a9,oB]
theorem N3 {f:List PyData->Option PyData}{a:DE->M (List PyData)}{Q:PyData->FS->Prop}:wp (sN f a E F) Q↔wp (a E F) λx F1=>oB (f x) λz=>Q z F1:=by
 unfold sN;rw[b9];simp only[y9,a9,oB]
theorem e8 {Q:List PyData->FS->Prop}:wp (h9 E F) Q↔Q [] F:=a9
theorem b7 {a:DE->M PyData}{r:DE->M (List PyData)}{Q:List PyData->FS->Prop}:wp (c6 a r E F) Q↔wp (a E F) λx F1=>wp (r E F1) λxs F2=>Q (x::xs) F2:=by
 unfold c6;rw[b9];simp only[b9,a9]
theorem K6 {a:DE->M (List PyData)}{Q:PyData->FS->Prop}:wp (O9 a E F) Q↔wp (a E F) λxs F1=>xs.length<=sizeLine/\Q (.tuple xs) F1:=by
 unfold O9;rw[b9]
 constructor
 .exact λh=>g7 h λxs F1 h=>by
   split at h
   .rename_i hl;exact⟨hl,a9.mp h⟩
   .exact(u8.mp h).elim
 .exact λh=>g7 h λxs F1 h=>by rw[HH h.1];exact a9.mpr h.2
theorem nE {a:DE->M (List PyData)}{Q:PyData->FS->Prop}:wp (oz a E F) Q↔wp (a E F) λxs F1=>xs.length<=sizeLine/\Q (.list xs) F1:=by
 unfold oz;rw[b9]
 constructor
 .exact λh=>g7 h λxs F1 h=>by
   split at h
   .rename_i hl;exact⟨hl,a9.mp h⟩
   .exact(u8.mp h).elim
 .exact λh=>g7 h λxs F1 h=>by rw[HH h.1];exact a9.mpr h.2
theorem L8 {Q:List DV->FS->Prop}:wp (D8 E F) Q↔Q [] F:=a9
theorem U2 {a:DE->M PyData}{r:DE->M (List DV)}{Q:List DV->FS->Prop}:wp (vD a r E F) Q↔wp (a E F) λx F1=>wp (r E F1) λxs F2=>Q (.dat x::xs) F2:=by
 unfold vD;rw[b9];simp only[b9,a9]
theorem zx {i:Nat}{r:DE->M (List DV)}{Q:List DV->FS->Prop}:wp (vF i r E F) Q↔gF E[i]? (wp (r E F) λxs F2=>Q (.feed::xs) F2):=by
 unfold vF gF;generalize E[i]? = o
 rcases o with _ | _ | x
 .exact u8
 .exact u8
 .cases x with
  | feed=>exact b9.trans (B3 λ_ _=>a9)
  | _=>exact u8
theorem J9 {f:List DV->M PyData}{ms:DE->M (List DV)}{Q:PyData->FS->Prop}:wp (p0 f ms E F) Q↔wp (ms E F) λxs F1=>wp (f xs F1) Q:=by
 unfold p0;rw[b9]
theorem vq {a:DE->M PyData}{l u:DE->M (Option Int)}{Q:PyData->FS->Prop}:wp (oV a l u E F) Q↔wp (a E F) λx F1=>wp (l E F1) λlo F2=>wp (u E F2) λhi F3=>oB (rL lo hi x) λz=>Q z F3:=by
 unfold oV;rw[b9];refine B3 λx F1=>?_;rw[b9];refine B3 λy F2=>?_;rw[b9];refine B3 λy F2=>?_;simp only[y9,a9,oB]
theorem vR {Q:Option Int->FS->Prop}:wp (oNo E F) Q↔Q none F:=a9
theorem AZ {a:DE->M PyData}{Q:Option Int->FS->Prop}:wp (oI a E F) Q↔wp (a E F) λx F1=>oB (Z6 x) λi=>Q (some i) F1:=by
 unfold oI;rw[b9];simp only[y9,a9,oB]
theorem oQ {a b:DE->M PyData}{Q:PyData->FS->Prop}:wp (nO a b E F) Q↔wp (a E F) λx F1=>oB (bq x) λc=>cIf c (wp (b E F1) Q) (Q (.bool false) F1):=by
 unfold nO;rw[b9];simp only[y9,ky,a9,oB,cIf]
theorem iV {c:DE->M Bool}{a b:DE->M PyData}{Q:PyData->FS->Prop}:wp (sIf c a b E F) Q↔wp (c E F) λx F1=>cIf x (wp (a E F1) Q) (wp (b E F1) Q):=by
 unfold sIf;rw[b9];simp only[ky,cIf]
theorem W1 {a:DE->M PyData}{Q:Bool->FS->Prop}:wp (uB a E F) Q↔wp (a E F) λx F1=>oB (bq x) λc=>Q c F1:=by
 unfold uB;rw[b9];simp only[y9,a9,oB]
theorem lI {a:DE->M PyData}{Q:Bool->FS->Prop}:wp (uT a E F) Q↔wp (a E F) λx F1=>oB (wC x) λc=>Q c F1:=by
 unfold uT;rw[b9];simp only[y9,a9,oB]
theorem mx {a b:DE->M Bool}{Q:Bool->FS->Prop}:wp (uOr a b E F) Q↔wp (a E F) λx F1=>cIf x (Q true F1) (wp (b E F1) Q):=by
 unfold uOr;rw[b9];simp only[ky,a9,cIf]
theorem jt {a:DE->M Bool}{Q:Bool->FS->Prop}:wp (qU a E F) Q↔wp (a E F) λx F1=>Q (!x) F1:=by
 unfold qU;rw[b9];simp only[a9]
theorem ue {Q:Bool->FS->Prop}:wp (cw E F) Q↔Q true F:=a9
theorem X2 {Q:Out->FS->Prop}:wp (mNx E F) Q↔Q (.nx E) F:=a9
def sqK (b:DE->M Out)(Q:Out->FS->Prop)(o:Out)(F1:FS):Prop:=match o with
  | .nx E1=>wp (b E1 F1) Q
  | o=>Q o F1
theorem i3 {b:DE->M Out}{Q:Out->FS->Prop}{E1:DE}(h:wp (b E1 F) Q):sqK b Q (.nx E1) F:=h
theorem kT {b:DE->M Out}{Q:Out->FS->Prop}{d:PyData}(h:Q (.rt d) F):sqK b Q (.rt d) F:=h
theorem CO {b:DE->M Out}{Q:Out->FS->Prop}{d:DE}(h:Q (.ct d) F):sqK b Q (.ct d) F:=h
theorem i6 {a b:DE->M Out}{Q:Out->FS->Prop}:wp (mSq a b E F) Q↔wp (a E F) (sqK b Q):=by
 unfold mSq;rw[b9]
 refine B3 λo F1=>?_
 cases o with
 | nx E1=>exact Iff.rfl
 | rt d=>exact a9
 | bk d=>exact a9
 | ct d=>exact a9
theorem U0 {a:DE->M PyData}{Q:Out->FS->Prop}:wp (mRt a E F) Q↔wp (a E F) λx F1=>Q (.rt x) F1:=by
 unfold mRt;rw[b9];simp only[a9]
theorem x4 {i:Nat}{a:DE->M PyData}{Q:Out->FS->Prop}:wp (D7 i a E F) Q↔wp (a E F) λx F1=>i<E.length/\Q (.nx (E.set i (some (.dat x)))) F1:=by
 unfold D7;rw[b9]
 refine B3 λx F1=>?_
 unfold bN
 by_cases h:i<E.length
 .rw[HH h];simp only[y9,a9,qv,h,true_and]
 .rw[HM h];simp only[y9,h,false_and]
  exact⟨λ⟨_,e,_⟩=>(by cases e),False.elim⟩
theorem P7 {bd:PyData->DE->Option DE}{a:DE->M PyData}{Q:Out->FS->Prop}:wp (bu bd a E F) Q↔wp (a E F) λx F1=>oB (bd x E) λE1=>Q (.nx E1) F1:=by
 unfold bu;rw[b9]
 simp only[y9,a9,oB]
theorem K4 {c:DE->M Bool}{a b:DE->M Out}{Q:Out->FS->Prop}:wp (mIf c a b E F) Q↔wp (c E F) λx F1=>cIf x (wp (a E F1) Q) (wp (b E F1) Q):=by
 unfold mIf;rw[b9];simp only[ky,cIf]
theorem dw {i:Nat}{a:DE->M (List PyData)}{Q:Out->FS->Prop}:wp (dA i a E F) Q↔wp (a E F) λx F1=>i<E.length/\Q (.nx (E.set i (some (.own x)))) F1:=by
 unfold dA;rw[b9]
 refine B3 λx F1=>?_
 by_cases h:i<E.length
 .rw[HH h];simp only[a9,h,true_and]
 .rw[HM h];simp only[h,false_and]
  exact u8
theorem zm {i:Nat}{v k:DE->M PyData}{ds:List PyData}{Q:Out->FS->Prop}(h:E[i]? = some (some (.own ds))):wp (vJ i v k E F) Q↔wp (v E F) λx F1=>wp (k E F1) λy F2=>oB (Z6 y) λn=>oB (ixN ds.length n) λj=>Q (.nx (E.set i (some (.own (ds.set j x))))) F2:=by
 unfold vJ;rw[b9]
 have e:R3 E i=some ds:=by unfold R3;rw[h]
 refine B3 λx F1=>?_;rw[b9];refine B3 λy F2=>?_
 simp only[y9,a9,e,qv,oB]
theorem Y4 {mi:DE->M (List PyData)}{bd:PyData->DE->Option DE}{body:DE->M Out}{Q:Out->FS->Prop}:wp (bo mi bd body E F) Q↔wp (mi E F) λds F1=>wp (G1 bd body ds E F1) Q:=by
 unfold bo;rw[b9]
theorem fA {a:DE->M (List PyData)}{Q:List PyData->FS->Prop}:wp (eE a E F) Q↔wp (a E F) λx F1=>oB (N0 x) λds=>Q ds F1:=by
 unfold eE;rw[b9];simp only[y9,a9,oB]
theorem Z7 {a:DE->M PyData}{Q:List PyData->FS->Prop}:wp (X4 a E F) Q↔wp (a E F) λx F1=>oB (iF x) λds=>Q ds F1:=by
 unfold X4;rw[b9];simp only[y9,a9,oB]
theorem bx {a:DE->M (List PyData)}{Q:List PyData->FS->Prop}:wp (dm a E F) Q↔wp (a E F) λx F1=>x.length<=sizeLine/\Q x F1:=by
 unfold dm;rw[b9]
 constructor
 .exact λh=>g7 h λxs F1 h=>by
   split at h
   .rename_i hl;exact⟨hl,a9.mp h⟩
   .exact(u8.mp h).elim
 .exact λh=>g7 h λxs F1 h=>by rw[HH h.1];exact a9.mpr h.2
theorem qd {mi:DE->M (List PyData)}{k:Nat}{cap:List Nat}{bd:PyData->DE->Option DE}{mt:DE->M Bool}{me:DE->M PyData}{Q:PyData->FS->Prop}:wp (sLC mi k cap bd mt me E F) Q↔wp (mi E F) λds F1=>ds.length<=sizeLine/\wp (U6 bd mt me ds (eZ k cap E) F1) λzs F2=>Q (.list zs) F2:=by
 unfold sLC;rw[b9]
 constructor
 .refine λh=>g7 h λds F1 h=>?_
  dsimp only at h
  split at h
  .rename_i hl;rw[b9]at h;exact⟨hl,g7 h λzs F2 h=>a9.mp h⟩
  .exact(u8.mp h).elim
 .refine λh=>g7 h λds F1 h=>?_
  dsimp only
  rw[HH h.1,b9]
  exact g7 h.2 λzs F2 h=>a9.mpr h
def tw (Q:PyData->FS->Prop)(o:Out)(F1:FS):Prop:=match o with
  | .rt d=>Q d F1
  | .nx _=>Q .none F1
  | _=>False
theorem X9 {Q:PyData->FS->Prop}{d:PyData}(h:Q d F):tw Q (.rt d) F:=h
theorem cq {N:List Str}{m:DE->M Out}{args:List DV}{Q:PyData->FS->Prop}:wp (X5 N m args F) Q↔wp (m (p6 N args) F) (tw Q):=by
 unfold X5;rw[b9]
 refine B3 λo F1=>?_
 cases o with
 | nx E1=>exact a9
 | rt d=>exact a9
 | bk d=>exact u8
 | ct d=>exact u8
theorem n8 {o:Option (Option DV)}{d:PyData}{P:PyData->Prop}(h:o=some (some (.dat d)))(q:P d):gD o P:=by rw[h];exact q
theorem l3 {o:Option (Option DV)}{d:PyData}{P:PyData->Prop}(h:o=some (some (.dat d)))(q:P d):gW o P:=by rw[h];exact q
theorem X1 {o:Option (Option DV)}{ds:List PyData}{P:PyData->Prop}(h:o=some (some (.own ds)))(q:P (.list ds)):gW o P:=by rw[h];exact q
theorem zw {o:Option (Option DV)}{P:Prop}(h:o=some (some .feed))(q:P):gF o P:=by rw[h];exact q
theorem c9 {γ:Type}{o:Option γ}{z:γ}{P:γ->Prop}(h:o=some z)(q:P z):oB o P:=⟨z,h,q⟩
theorem N6 {c:Bool}{A B:Prop}(h:c=true)(q:A):cIf c A B:=by rw[h];exact iL.mpr q
theorem n5 {c:Bool}{A B:Prop}(h:c=false)(q:B):cIf c A B:=by rw[h];exact bU.mpr q
theorem x8 {n:Nat}(h:Nat.ble n 10000=true):n<=sizeLine:=Im (Nat.le_of_ble_eq_true h) (by rw[Io];decide)
theorem k8 {i n:Nat}(h:Nat.ble (i+1) n=true):i<n:=Nat.le_of_ble_eq_true h
end
def Tr (f:List DV->M PyData)(args:List DV)(c:Int)(P:PyData->Prop):Prop:=∀F:FdS,F.t+c<=199999->∃d F',f args F=some (d,F')/\F'.t<=F.t+c/\P d
theorem Tr.wp {f:List DV->M PyData}{args:List DV}{c:Int}{P:PyData->Prop}{F:FdS}{Q:PyData->FdS->Prop}(h:Tr f args c P)(hF:F.t+c<=199999)(q:∀d F',F'.t<=F.t+c->P d->Q d F'):wp (f args F) Q:=by
 obtain⟨d,F',e,ht,p⟩:=h F hF
 exact⟨d,F',e,q d F' ht p⟩
theorem Tr.of {f:List DV->M PyData}{args:List DV}{c:Int}{P:PyData->Prop}(h:∀F:FdS,F.t+c<=199999->L3.wp (f args F) λd F'=>F'.t<=F.t+c/\P d):Tr f args c P:=λF hF=>by
 obtain⟨d,F',e,q⟩:=h F hF
 exact⟨d,F',e,q⟩
mutual
def cnt:PyData->Nat
 | .tuple ds=>1+dM ds
 | .list ds=>1+dM ds
 | _=>1
def dM:List PyData->Nat
 | []=>0
 | d::ds=>cnt d+dM ds
end
def asc (x:Str):Prop:=∀c∈x.cps.toList,c<128
mutual
def scs (n:Nat):PyData->Prop
 | .none=>True
 | .bool _=>True
 | .int i=>i.natAbs<10 ^ 300+n
 | .str x=>x.length<=600+n/\asc x
 | .tuple ds=>rM n ds
 | .list ds=>rM n ds
 | .dict _=>False
def rM (n:Nat):List PyData->Prop
 | []=>True
 | d::ds=>scs n d/\rM n ds
end
theorem bX {n:Nat}:∀{ds:List PyData},rM n ds↔∀d∈ds,scs n d
 | []=>by simp[rM]
 | d::ds=>by simp[rM,bX (ds:=ds)]
structure Gd (n N k:Nat) (d:PyData):Prop where
 sc:scs n d
 dp:d.depth<=k
 ct:cnt d<=N
theorem Y2 {k:Nat}:∀{ds:List PyData},PyData.depthAll ds<=k↔∀d∈ds,d.depth<=k
 | []=>by simp[PyData.depthAll]
 | d::ds=>by
  have:=Y2 (k:=k) (ds:=ds)
  simp only[PyData.depthAll,HB,forall_eq_or_imp]
  rw[<-this];omega
theorem Gd.tup {n N k M:Nat}{ds:List PyData}(h:∀d∈ds,Gd n M k d)(hc:1+dM ds<=N):Gd n N (k+1) (.tuple ds):=by
 refine⟨?_,?_,?_⟩
 .simp only[scs];rw[bX];exact λd hd=>(h d hd).sc
 .simp only[PyData.depth]
  have:PyData.depthAll ds<=k:=Y2.mpr λd hd=>(h d hd).dp
  omega
 .simp only[cnt];exact hc
end
section
variable [Fam]
structure Nod (d:PyData):Prop where
 sh:d.showable=true
 nd:d.hasDict=false
 cl:d.canLay0=true
 ln:d.shown.length+2<=7100*cnt d
theorem xk:(10:Nat) ^ 300<=2 ^ 1000:=by
 have h:((10:Nat) ^ 3) ^ 100<=(2 ^ 10) ^ 100:=Nat.pow_le_pow_left (by decide) 100
 rwa [<-Nat.pow_mul,<-Nat.pow_mul]at h
theorem AV {n:Nat}(hn:n<=100):10 ^ 300+n<=2 ^ 1001:=by
 have h0:=xk
 have h1:(2:Nat) ^ 1001=2 ^ 1000+2 ^ 1000:=by rw[Nat.pow_succ,Nat.mul_two]
 have h2:(2:Nat) ^ 7<=2 ^ 1000:=Nat.pow_le_pow_right (by decide) (by decide)
 have h3:(2:Nat) ^ 7=128:=by decide
 rw[h1]
 generalize (10:Nat) ^ 300=A at *
 generalize (2:Nat) ^ 1000=B at *
 omega
theorem BI {ds:List PyData}:(∀d∈ds,Nod d)->PyData.showableAll ds=true/\PyData.hasDictAll ds=false/\PyData.canLayAll0 ds=true/\((PyData.shownAll ds).map (·.length)).sum+2*ds.length<=7100*dM ds:=by
 induction ds with
 | nil=>intro _;exact⟨by simp[PyData.showableAll],by simp[PyData.hasDictAll],by simp[PyData.canLayAll0],by simp[PyData.shownAll,dM]⟩
 | cons d ds ih =>
  intro h
  obtain⟨a,b,c,e⟩:=ih λx hx=>h x (HA _ hx)
  have hd:=h d HV
  refine⟨by simp[PyData.showableAll,hd.sh,a],by simp[PyData.hasDictAll,hd.nd,b],by simp[PyData.canLayAll0,hd.cl,c],?_⟩
  simp only[PyData.shownAll,HX,List.sum_cons,HZ,dM]
  have:=hd.ln
  omega
theorem zY {n:Nat}(hn:n<=100):∀m:Nat,∀d:PyData,sizeOf d<m->scs n d->Nod d:=by
 intro m
 induction m with
 | zero=>intro d h;exact absurd h (LA _)
 | succ m ih =>
  intro d hm hs
  cases d with
  | none=>exact⟨rfl,rfl,rfl,by decide⟩
  | bool b=>exact⟨rfl,rfl,rfl,by cases b <;> decide⟩
  | int i =>
   simp only[scs]at hs
   have hb:i.natAbs<2 ^ 1001:=Ie hs (AV hn)
   have:=Shw.int hb (by decide) (by decide)
   exact⟨this.sh,this.nd,rfl,by have:=this.ln;simp only[cnt];omega⟩
  | str x =>
   simp only[scs]at hs
   refine⟨rfl,rfl,?_,?_⟩
   .simp only[PyData.canLay0,PyData.strOk]
    rw[Array.all_eq_true']
    intro c hc
    have:=hs.2 c (by simpa using hc)
    exact Je (by omega)
   .have h1:=LV x λc hc=>Ie (hs.2 c hc) (by decide)
    simp only[PyData.shown,cnt]
    omega
  | tuple ds =>
   simp only[scs]at hs
   rw[bX]at hs
   obtain⟨a,b,c,e⟩:=BI λd hd=>ih d (by have:=Ks hd;simp at hm;omega) (hs d hd)
   refine⟨by simpa only[PyData.showable] using a,by simpa only[PyData.hasDict] using b,by simpa only[PyData.canLay0] using c,?_⟩
   have h5:=tupleText_len_le (PyData.shownAll ds)
   have h6:=Kn ds
   simp only[PyData.shown,cnt]
   omega
  | list ds =>
   simp only[scs]at hs
   rw[bX]at hs
   obtain⟨a,b,c,e⟩:=BI λd hd=>ih d (by have:=Ks hd;simp at hm;omega) (hs d hd)
   refine⟨by simpa only[PyData.showable] using a,by simpa only[PyData.hasDict] using b,by simpa only[PyData.canLay0] using c,?_⟩
   have h5:=listText_len_le (PyData.shownAll ds)
   have h6:=Kn ds
   simp only[PyData.shown,cnt]
   omega
  | dict kvs=>simp only[scs]at hs
section
variable {n N k:Nat}{d:PyData}
theorem Gd.nod (h:Gd n N k d)(hn:n<=100):Nod d:=zY hn _ d (Kc _) h.sc
theorem Gd.shaped (h:Gd n N k d)(hn:n<=100)(hk:k<=50):PySem.SeqAt.shaped d=true:=by
 unfold PySem.SeqAt.shaped
 rw[(h.nod hn).cl]
 have h3:=h.dp
 simp
 omega
theorem Aj {i:Int}(h:i.natAbs<10 ^ 300+n):Gd n 1 0 (.int i):=⟨h,by simp[PyData.depth],by simp[cnt]⟩
end
theorem rE {i:Int}{n:Nat}(h:i.natAbs<=100000000000000000000000000000000000000000):i.natAbs<10 ^ 300+n:=by
 have h1:(10:Nat) ^ 42<=10 ^ 300:=Nat.pow_le_pow_right (by decide) (by decide)
 have h2:100000000000000000000000000000000000000000<(10:Nat) ^ 42:=by decide
 generalize (10:Nat) ^ 300=A at *
 omega
end
section
variable [Fam]
section
variable {ds es:List PyData}{i j:Int}{x y:Str}{b c:Bool}{d:PyData}{T:String}
theorem zh:U1 (.int i) (.int j)=some (.int (i+j)):=rfl
theorem jW:lN (.int i) (.int j)=some (.int (i-j)):=rfl
theorem Ct:gtD (.int i) (.int j)=some (.bool (decide (j<i))):=rfl
theorem gB:W0 [.tuple ds]=some (.int ds.length):=rfl
theorem nV:W0 [.list ds]=some (.int ds.length):=rfl
theorem ui:K7 [.list ds]=some (.tuple ds):=rfl
theorem CQ:Z6 (.int i)=some i:=rfl
theorem Bf {lo hi:Option Int}:rL lo hi (.tuple ds)=some (.tuple (eX ds lo hi)):=rfl
theorem Ar {lo hi:Option Int}:rL lo hi (.list ds)=some (.list (eX ds lo hi)):=rfl
theorem gu:iF (.tuple ds)=some ds:=rfl
theorem nT:iF (.list ds)=some ds:=rfl
end
end
end L3
set_option hygiene false
local macro_rules | `(tactic| walk_at "st")=>`(tactic| first | (with_reducible first | refine L3.i3 ?_ | refine L3.kT ?_ | refine L3.X9 ?_ | refine L3.i6.mpr ?_ | refine L3.K4.mpr ?_ | refine L3.x4.mpr ?_ | refine L3.U0.mpr ?_ | refine L3.X2.mpr ?_ | refine r_uAnd.mpr ?_ | refine L3.mx.mpr ?_ | refine L3.jt.mpr ?_ | refine L3.W1.mpr ?_ | refine L3.lI.mpr ?_ | refine L3.ue.mpr ?_ | refine L3.v9.mpr ?_ | refine L3.CG.mpr ?_ | refine L3.N3.mpr ?_ | refine L3.u9.mpr ?_ | refine L3.n6.mpr ?_ | refine L3.j5.mpr ?_ | refine L3.e8.mpr ?_ | refine L3.b7.mpr ?_ | refine L3.K6.mpr ?_ | refine L3.nE.mpr ?_ | refine L3.L8.mpr ?_ | refine L3.U2.mpr ?_ | refine L3.zx.mpr ?_ | refine L3.J9.mpr ?_ | refine L3.vq.mpr ?_ | refine L3.vR.mpr ?_ | refine L3.AZ.mpr ?_ | refine L3.oQ.mpr ?_ | refine r_sOr.mpr ?_ | refine r_sNot.mpr ?_ | refine L3.iV.mpr ?_ | refine L3.P7.mpr ?_ | refine L3.dw.mpr ?_ | refine L3.Y4.mpr ?_ | refine L3.fA.mpr ?_ | refine L3.Z7.mpr ?_ | refine L3.bx.mpr ?_ | refine r_fCat.mpr ?_ | refine L3.qd.mpr ?_) | ((with_reducible refine L3.cq.mpr ?_);try dsimp only[L3.p6,HX,Jb,HZ,JG,List.replicate,Jv,Jh,Nat.reduceAdd,Nat.reduceSub]) | ((with_reducible apply L3.n8);exact rfl) | ((with_reducible apply L3.l3);exact rfl) | ((with_reducible apply L3.X1);exact rfl) | ((with_reducible apply L3.zw);exact rfl) | ((with_reducible apply L3.c9);first | exact e_isin | exact rfl) | ((with_reducible refine And.intro (L3.x8 ?_) ?_);exact rfl) | ((with_reducible refine And.intro (L3.k8 ?_) ?_);exact rfl;try dsimp only[List.set_cons_zero,List.set_cons_succ]))
local macro_rules | `(tactic| walk_at "rd")=>`(tactic| (repeat walk_at "st"))
local macro_rules | `(tactic| walk_at "ty")=>`(tactic| first | refine L3.n5 L3.da ?_ | refine L3.n5 L3.eT ?_ | refine L3.n5 L3.fJ ?_ | refine L3.n5 L3.fS ?_ | refine L3.n5 L3.fc ?_ | refine L3.n5 L3.jE ?_ | refine L3.N6 L3.lr ?_ | refine L3.N6 L3.nh ?_ | refine L3.n5 L3.nG ?_ | refine L3.n5 L3.lu ?_ | refine L3.n5 L3.lx ?_ | refine L3.n5 L3.mZ ?_ | refine L3.N6 L3.qP ?_ | refine L3.n5 L3.rn ?_ | refine L3.n5 L3.nJ ?_ | refine L3.n5 L3.mT ?_ | refine L3.n5 L3.oN ?_ | refine L3.n5 L3.qL ?_ | refine L3.N6 L3.rZ ?_ | refine L3.n5 L3.nP ?_ | refine L3.n5 L3.jT ?_ | refine L3.n5 L3.lU ?_ | refine L3.n5 L3.ni ?_ | refine L3.n5 L3.oq ?_ | refine L3.N6 L3.lM ?_ | refine L3.N6 L3.ij ?_ | refine L3.n5 L3.kh ?_ | refine L3.n5 L3.lq ?_ | refine L3.n5 L3.kN ?_ | refine L3.n5 L3.jm ?_)
local macro_rules | `(tactic| walk_at "go")=>`(tactic| (repeat first | walk_at "st" | walk_at "ty"))
namespace L3
open PySem PySem.Spec PyProof.Rows L2
variable [Fam]
theorem da:isT "NoneType" "tuple" = false:=by decide +kernel
theorem eT:isT "NoneType" "bool" = false:=by decide +kernel
theorem fJ:isT "NoneType" "int" = false:=by decide +kernel
theorem fS:isT "NoneType" "str" = false:=by decide +kernel
theorem fc:isT "NoneType" "list" = false:=by decide +kernel
theorem jE:isT "bool" "tuple" = false:=by decide +kernel
theorem lr:isT "bool" "bool" = true:=by decide +kernel
theorem nh:isT "bool" "int" = true:=by decide +kernel
theorem nG:isT "bool" "str" = false:=by decide +kernel
theorem lu:isT "bool" "list" = false:=by decide +kernel
theorem lx:isT "int" "tuple" = false:=by decide +kernel
theorem mZ:isT "int" "bool" = false:=by decide +kernel
theorem qP:isT "int" "int" = true:=by decide +kernel
theorem rn:isT "int" "str" = false:=by decide +kernel
theorem nJ:isT "int" "list" = false:=by decide +kernel
theorem mT:isT "str" "tuple" = false:=by decide +kernel
theorem oN:isT "str" "bool" = false:=by decide +kernel
theorem qL:isT "str" "int" = false:=by decide +kernel
theorem rZ:isT "str" "str" = true:=by decide +kernel
theorem nP:isT "str" "list" = false:=by decide +kernel
theorem jT:isT "list" "tuple" = false:=by decide +kernel
theorem lU:isT "list" "bool" = false:=by decide +kernel
theorem ni:isT "list" "int" = false:=by decide +kernel
theorem oq:isT "list" "str" = false:=by decide +kernel
theorem lM:isT "list" "list" = true:=by decide +kernel
theorem ij:isT "tuple" "tuple" = true:=by decide +kernel
theorem kh:isT "tuple" "bool" = false:=by decide +kernel
theorem lq:isT "tuple" "int" = false:=by decide +kernel
theorem kN:isT "tuple" "str" = false:=by decide +kernel
theorem jm:isT "tuple" "list" = false:=by decide +kernel
section
variable {s N k:Nat}
end
variable [Fam]
theorem sz {n:Nat}(h:n<=100000):n<=sizeLine:=Im h (by rw[Io];decide)
variable [Fam]
variable [Fam]
theorem E3 {bd:PyData->DE->Option DE}{body:DE->M Out}{Q:Out->FdS->Prop}(I:Nat->DE->FdS->Prop):∀(items:List PyData) (n:Nat) (E:DE) (F:FdS),I n E F ->
  (∀i d,items[i]? = some d->∀E F,I (n+i) E F->∃E1,bd d E=some E1/\wp (body E1 F) λo F'=>∃E2,o = .nx E2/\I (n+i+1) E2 F')->(∀E F,I (n+items.length) E F->Q (.nx E) F)->wp (G1 bd body items E F) Q
 | [],n,E,F,h,_,hq=>a9.mpr (hq E F h)
 | d::r,n,E,F,h,st,hq=>by
  obtain⟨E1,e1,h1⟩:=st 0 d rfl E F h
  rw[G1,e1,HY,b9]
  refine g7 h1 λo F1 ⟨E2,e2,h2⟩=>?_
  subst e2
  refine E3 I r (n+1) E2 F1 h2 (λi d e E F hI=>?_) (λE F hI=>hq E F (by rw[HZ];rw[show n+(r.length+1)=n+1+r.length by omega];exact hI))
  have:=st (i+1) d (by simpa using e) E F (by rw[show n+(i+1)=n+1+i by omega];exact hI)
  rw[show n+(i+1)+1=n+1+i+1 by omega]at this
  exact this
theorem bQ {lo:Int}{n:Nat}:(V4 lo n).length=n:=by simp[V4]
variable [Fam]
section
variable {F:FdS}{Q:PyData->FdS->Prop}{n:Nat}
theorem pU {d:PyData}(h:bG d=true):hU [d]=some (.str d.shown):=HH h
theorem Au {xs ys:List PyData}(h:xs.length+ys.length<=100000):U1 (.list xs) (.list ys)=some (.list (xs++ys)):=HH (sz h)
theorem Dd {xs ys:List PyData}(h:xs.length+ys.length<=100000):U1 (.tuple xs) (.tuple ys)=some (.tuple (xs++ys)):=HH (sz h)
abbrev W8:List PyData:=[.str "first",.str "last",.str "short",.str "front",.str "lastoff",.str "shortoff",.str "frontoff",.str "turns"]
def cG:List DV->M PyData:=X5 ["rule"] (mRt (s2 (inD false) (sW 0) (sC (.tuple [.str "first",.str "last",.str "short",.str "front"]))))
def kb:PyData->Bool
 | .str x=>(([.str "first",.str "last",.str "short",.str "front"]:List PyData)).any λy=>PyData.eqv y (.str x)
 | _=>false
theorem in4 {x:Str}(h:SeqAt.shaped (.str x)=true):inD false (.str x) (.tuple [.str "first",.str "last",.str "short",.str "front"])=some (.bool (kb (.str x))):=by
 show(if SeqAt.shaped (.tuple [.str "first",.str "last",.str "short",.str "front"])=true/\SeqAt.shaped (.str x)=true then _ else none)=_
 rw[HH ⟨by decide +kernel,h⟩,HM (by decide)]
 rfl
theorem K8 {r:PyData}(h:r∈W8):∃x:Str,r = .str x/\SeqAt.shaped (.str x)=true:=by
 simp only[HB,IM,JN]at h
 rcases h with rfl | rfl | rfl | rfl | rfl | rfl | rfl | rfl <;> exact⟨_,rfl,by decide +kernel⟩
theorem pF {r:PyData}(h:r∈W8)(q:Q (.bool (kb r)) F):wp (cG [.dat r] F) Q:=by
 obtain⟨x,rfl,hx⟩:=K8 h
 unfold cG
 walk_at "go"
 refine c9 (in4 hx) ?_
 walk_at "go"
 exact q
theorem Aa {r:PyData}(h:r∈W8):∃x:Str,r = .str x/\x.length<=10/\asc x:=by
 simp only[HB,IM,JN]at h
 rcases h with rfl | rfl | rfl | rfl | rfl | rfl | rfl | rfl <;> exact⟨_,rfl,by decide +kernel,by unfold asc;decide +kernel⟩
end
section
variable {F:FdS}{Q:Out->FdS->Prop}{E:DE}{i:Nat}{ds:List PyData}
theorem dX {v:DE->M PyData}(he:R3 E i=some ds)(hl:ds.length<=100000)(q:wp (v E F) λx F1=>Q (.nx (E.set i (some (.own (ds++[x]))))) F1):wp (cZ i v E F) Q:=by
 unfold cZ;rw[b9]
 refine g7 q λx F1 h=>?_
 rw[he,HY,HH (JU hl (by rw[Io];decide))]
 exact a9.mpr h
theorem yI {v:DE->M PyData}(he:R3 E i=some ds)(q:wp (v E F) λx F1=>∃zs,x = .list zs/\ds.length+zs.length<=100000/\Q (.nx (E.set i (some (.own (ds++zs))))) F1):wp (lg i v E F) Q:=by
 unfold lg;rw[b9]
 refine g7 q λx F1 h=>?_
 obtain⟨zs,rfl,hl,q⟩:=h
 rw[he,HY]
 dsimp only
 rw[HH (sz hl)]
 exact a9.mpr q
theorem nH {a:DE->M PyData}{Q:List PyData->FdS->Prop}(q:wp (a E F) λx F1=>oB (iF x) λds=>Q (J8 0 ds) F1):wp (cR a E F) Q:=by
 unfold cR;rw[b9]
 refine g7 q λx F1 h=>?_
 obtain⟨ds,e,q⟩:=h
 dsimp only
 rw[e,HY]
 exact a9.mpr q
theorem CH {mi:DE->M (List PyData)}{k:Nat}{cap:List Nat}{bd:PyData->DE->Option DE}{mt:DE->M Bool}{me:DE->M PyData}{Q:List PyData->FdS->Prop}(h:wp (mi E F) λds F1=>ds.length<=sizeLine/\wp (U6 bd mt me ds (eZ k cap E) F1) λzs F2=>Q zs F2):wp (fLC mi k cap bd mt me E F) Q:=by
 unfold fLC;rw[b9]
 refine g7 h λds F1 h=>?_
 dsimp only
 rw[HH h.1,b9]
 exact g7 h.2 λzs F2 h=>a9.mpr h
end
variable [Fam]
theorem cb {c:Nat}:∀{ds:List PyData},(∀d∈ds,cnt d<=c)->dM ds<=c*ds.length
 | [],_=>by simp[dM]
 | d::ds,h=>by
  have h1:=h d HV
  have h2:=cb (c:=c) (ds:=ds) λd hd=>h d (HA _ hd)
  rw[dM,HZ,Nat.mul_add,Nat.mul_one]
  omega
variable [Fam]
variable [Fam]
variable [Fam]
variable [Fam]
section
variable {B:Int}
end
section
variable {F:FdS}{E:DE}
end
variable [Fam]
theorem fH {i:Int}(h0:-(2 ^ 62)<=i)(h1:i<2 ^ 62):N0 [.int i]=some (V4 0 i.toNat):=HH ⟨h0,h1⟩
theorem Ag {n:Nat}(h:n<=100000):N0 [.int (n:Nat)]=some (V4 0 n):=by
 have e:=fH (i:=(n:Int)) (by omega) (by omega)
 rwa [Jq]at e
end L3
namespace L3
open L2
abbrev Pn:=Int×Int×Bool
def pAt (ps:List Pn)(i:Nat):Pn:=ps.getD i (0,0,false)
def T1 (k:Nat)(ps:List Pn):List Nat :=
 if k=1 then(List.range ps.length).reverse
 else if k=2 then(p8 ((List.range ps.length).map λi=>((pAt ps i).2.1,i))).map Prod.snd
 else if k=3 then(p8 ((List.range ps.length).map λi=>((pAt ps i).1,i))).map Prod.snd
 else List.range ps.length
def bI (b:Bool):Int:=if b then 1 else 0
def order (k:Nat)(kp:Bool)(ps:List Pn):List Nat :=
 if kp then(p8 ((T1 k ps).map λi=>(bI (!(pAt ps i).2.2),i))).map Prod.snd else T1 k ps
def Q8 (k:Nat)(ps:List Pn)(i j:Nat):Prop :=
 if k=1 then j<i else if k=2 then(pAt ps i).2.1<(pAt ps j).2.1\/((pAt ps i).2.1=(pAt ps j).2.1/\i<j)
 else if k=3 then(pAt ps i).1<(pAt ps j).1\/((pAt ps i).1=(pAt ps j).1/\i<j) else i<j
def x5 (k:Nat)(kp:Bool)(ps:List Pn)(i j:Nat):Prop :=
 if kp then(bI (!(pAt ps i).2.2)<bI (!(pAt ps j).2.2)\/(bI (!(pAt ps i).2.2)=bI (!(pAt ps j).2.2)/\Q8 k ps i j)) else Q8 k ps i j
theorem sT {T:Nat->Nat->Prop}{p:Int×Nat}(tr:∀a b c,T a b->T b c->T a c):∀{l:List (Int×Nat)},l.Pairwise (λa b=>a.1<b.1\/(a.1=b.1/\T a.2 b.2))->(∀q∈l,T p.2 q.2)->(V5 p l).Pairwise λa b=>a.1<b.1\/(a.1=b.1/\T a.2 b.2)
 | [],_,_=>by simp[V5]
 | q::r,h,hl=>by
  rw[Iq]at h
  rw[V5]
  split
  .rename_i hle
   refine Iq.mpr ⟨λz hz=>?_,Iq.mpr h⟩
   have hz':=hl z hz
   have hle':p.1<=z.1:=by
    rcases HB.mp hz with rfl | hz
    .exact hle
    .rcases h.1 z hz with e | e <;> omega
   rcases KI hle' with e | e
   .exact .inl e
   .exact .inr ⟨e,hz'⟩
  .rename_i hgt
   refine Iq.mpr ⟨λz hz=>?_,sT tr h.2 λz hz=>hl z (HA _ hz)⟩
   rcases HB.mp ((T3 p r).mem_iff.mp hz) with rfl | hz
   .exact .inl (by omega)
   .exact h.1 z hz
theorem mG {T:Nat->Nat->Prop}(tr:∀a b c,T a b->T b c->T a c):∀{l:List (Int×Nat)},l.Pairwise (λa b=>T a.2 b.2)->(p8 l).Pairwise λa b=>a.1<b.1\/(a.1=b.1/\T a.2 b.2)
 | [],_=>.nil
 | p::r,h=>by
  rw[Iq]at h
  exact sT tr (mG tr h.2) λq hq=>h.1 q ((x6 r).mem_iff.mp hq)
theorem gG {T:Nat->Nat->Prop}(tr:∀a b c,T a b->T b c->T a c)(g:Nat->Int){l:List Nat}(h:l.Pairwise T):((p8 (l.map λi=>(g i,i))).map Prod.snd).Pairwise λi j=>g i<g j\/(g i=g j/\T i j):=by
 have h1:(l.map λi=>(g i,i)).Pairwise (λa b=>T a.2 b.2):=by
  rw[Jw];exact h
 have h2:=mG tr h1
 rw[Jw]
 refine h2.imp_of_mem λ{a b} ha hb hab=>?_
 have ea:a.1=g a.2:=by
  obtain⟨i,_,rfl⟩:=Il.mp ((x6 _).mem_iff.mp ha);rfl
 have eb:b.1=g b.2:=by
  obtain⟨i,_,rfl⟩:=Il.mp ((x6 _).mem_iff.mp hb);rfl
 rw[<-ea,<-eb];exact hab
theorem Z1 (g:Nat->Int)(l:List Nat):((p8 (l.map λi=>(g i,i))).map Prod.snd).Perm l:=by
 have:=(x6 (l.map λi=>(g i,i))).map Prod.snd
 rw[Ik]at this
 exact this.trans (.of_eq ((Iv λi _=>rfl).trans (List.map_id _)))
theorem Q5 (n:Nat):(List.range n).Pairwise (· < ·):=by
 rw[Jc]
 intro i j hi hj hij
 simpa using hij
theorem R8 (k:Nat)(ps:List Pn):(T1 k ps).Perm (List.range ps.length):=by
 unfold T1
 repeat' split
 .exact List.reverse_perm _
 .exact Z1 (λi=>(pAt ps i).2.1) _
 .exact Z1 (λi=>(pAt ps i).1) _
 .exact .refl _
theorem p7 (k:Nat)(kp:Bool)(ps:List Pn):(order k kp ps).Perm (List.range ps.length):=by
 unfold order
 split
 .exact(Z1 (λi=>bI (!(pAt ps i).2.2)) _).trans (R8 k ps)
 .exact R8 k ps
theorem cE (k:Nat)(ps:List Pn):(T1 k ps).Pairwise (Q8 k ps):=by
 unfold T1 Q8
 repeat' split
 .rw[List.pairwise_reverse];exact Q5 _
 .exact gG (T:=λa b=>a<b) (λa b c h1 h2=>Nat.lt_trans h1 h2) (λi=>(pAt ps i).2.1) (Q5 _)
 .exact gG (T:=λa b=>a<b) (λa b c h1 h2=>Nat.lt_trans h1 h2) (λi=>(pAt ps i).1) (Q5 _)
 .exact Q5 _
theorem lC {k:Nat}{ps:List Pn}(a b c:Nat)(h1:Q8 k ps a b)(h2:Q8 k ps b c):Q8 k ps a c:=by
 unfold Q8 at *
 repeat' split
 all_goals simp_all
 all_goals omega
theorem eG {k:Nat}{ps:List Pn}(a b:Nat)(h1:Q8 k ps a b)(h2:Q8 k ps b a):False:=by
 unfold Q8 at *
 split at h1
 .simp_all;omega
 .split at h1
  .simp_all;omega
  .split at h1
   .simp_all;omega
   .simp_all;omega
theorem cx (k:Nat)(kp:Bool)(ps:List Pn):(order k kp ps).Pairwise (x5 k kp ps):=by
 unfold order x5
 cases kp with
 | true =>
  simp only[Js]
  exact gG lC (λi=>bI (!(pAt ps i).2.2)) (cE k ps)
 | false=>simpa using cE k ps
theorem bS {k:Nat}{kp:Bool}{ps:List Pn}(a b:Nat)(h1:x5 k kp ps a b)(h2:x5 k kp ps b a):False:=by
 unfold x5 at *
 cases kp with
 | true =>
  simp only[Js]at h1 h2
  rcases h1 with h1 | ⟨e1,h1⟩ <;> rcases h2 with h2 | ⟨e2,h2⟩ <;> first | omega | exact eG a b h1 h2
 | false =>
  simp only[ID,Ji]at h1 h2
  exact eG a b h1 h2
theorem mP {S:Nat->Nat->Prop}[DecidableRel S](as:∀a b,S a b->S b a->False):∀{L:List Nat} {h i:Nat},L.Pairwise S->L.Nodup->i∈L->(i∈L.take h↔(L.filter λj=>decide (j≠i/\S j i)).length<h)
 | [],h,i,_,_,hi=>by simp at hi
 | a::L,h,i,hp,hn,hi=>by
  rw[Iq]at hp
  rw[IS]at hn
  cases h with
  | zero=>simp
  | succ h =>
   rw[Ke,HB]
   by_cases e:i=a
   .subst e
    have z:(List.filter (λj=>decide (j≠i/\S j i)) (i::L))=[]:=by
     rw[List.filter_eq_nil_iff]
     intro j hj
     simp only[JE]
     rintro ⟨h1,h2⟩
     rcases HB.mp hj with rfl | hj
     .exact h1 rfl
     .exact as _ _ (hp.1 j hj) h2
    rw[z]
    simp
   .have hi':i∈L:=(HB.mp hi).resolve_left e
    have c:decide (a≠i/\S a i)=true:=Je ⟨λz=>e z.symm,hp.1 i hi'⟩
    rw[Kh (by simpa using c),HZ,mP as hp.2 hn.2 hi']
    constructor
    .rintro (z | z)
     .exact absurd z e
     .omega
    .intro z
     exact .inr (by omega)
def i4 (h k:Nat)(kp:Bool)(ps:List Pn):List Nat:=(List.range ps.length).filter λi=>decide (i∈(order k kp ps).take h)
theorem D4 (n:Nat):(List.range n).Nodup:=by
 rw[IP]
 exact(Q5 n).imp λh=>Ic h
theorem ag (k:Nat)(kp:Bool)(ps:List Pn):(order k kp ps).Nodup:=(p7 k kp ps).nodup_iff.mpr (D4 _)
theorem fY {l m:List Nat}(h1:l.Nodup)(h2:m.Nodup)(h:∀x,x∈l↔x∈m):l.Perm m:=(List.perm_ext_iff_of_nodup h1 h2).mpr h
theorem gH (h k:Nat)(kp:Bool)(ps:List Pn):(i4 h k kp ps).Perm ((order k kp ps).take h):=by
 refine fY ((D4 _).sublist Jz) ((ag k kp ps).sublist (List.take_sublist _ _)) λx=>?_
 unfold i4
 rw[Iu,JE]
 exact⟨λz=>z.2,λz=>⟨(p7 k kp ps).mem_iff.mp (Ka z),z⟩⟩
theorem jq (h k:Nat)(kp:Bool)(ps:List Pn):(i4 h k kp ps).length=min h ps.length:=by
 rw[(gH h k kp ps).length_eq,IH,(p7 k kp ps).length_eq,Ih]
theorem vI (h k:Nat)(kp:Bool)(ps:List Pn):(i4 h k kp ps).Pairwise (· < ·):=(Q5 _).sublist Jz
theorem kD (h k:Nat)(kp:Bool)(ps:List Pn):lR (((order k kp ps).take h).map Int.ofNat)=(i4 h k kp ps).map Int.ofNat:=by
 refine dR ((bc _).trans ((gH h k kp ps).map Int.ofNat).symm) (gI _) ?_
 rw[Jw]
 exact(vI h k kp ps).imp λ{a b} h=>by simp only[Int.ofNat_eq_natCast];omega
instance ahead_dec (k:Nat) (ps:List Pn):DecidableRel (Q8 k ps):=λi j=>by unfold Q8;infer_instance
instance sooner_dec (k:Nat) (kp:Bool) (ps:List Pn):DecidableRel (x5 k kp ps):=λi j=>by unfold x5;infer_instance
theorem ae (h k:Nat)(kp:Bool)(ps:List Pn):i4 h k kp ps=(List.range ps.length).filter λi=>decide (((List.range ps.length).filter λj=>decide (j≠i/\x5 k kp ps j i)).length<h):=by
 unfold i4
 refine Lf λi hi=>?_
 have hm:=(p7 k kp ps).mem_iff.mpr hi
 have e:=mP (S:=x5 k kp ps) bS (h:=h) (cx k kp ps) (ag k kp ps) hm
 have e2:=((p7 k kp ps).filter λj=>decide (j≠i/\x5 k kp ps j i)).length_eq
 rw[<-e2]
 exact JD.mpr e
end L3
namespace L3
open PySem PySem.Spec PyProof.Rows L2
abbrev pnD (p:Pn):PyData:=.tuple [.int p.1,.int p.2.1,.bool p.2.2]
def g9 (l:List Nat):List PyData:=l.map λi:Nat=>PyData.int (i:Int)
def kOf:PyData->Nat
 | .str x=>if x = "last" \/ x = "lastoff" then 1 else if x = "short" \/ x = "shortoff" then 2 else if x = "front" \/ x = "frontoff" then 3 else 0
 | _=>0
theorem C3 (l:List Nat):(g9 l).length=l.length:=by simp[g9]
theorem sO (l:List Nat):(g9 l).reverse=g9 l.reverse:=by simp[g9]
theorem pB (n:Nat):V4 0 n=g9 (List.range n):=by
 unfold V4 g9
 exact Iv λi _=>by congr 1;omega
theorem iS:∀(l:List Int),(l.map PyData.int).mapM mv? = some l
 | []=>rfl
 | i::l=>by rw[HX,JK,iS l];rfl
theorem gS:∀(l:List Bool),(l.map PyData.bool).mapM eC? = some (l.map bI)
 | []=>rfl
 | i::l=>by rw[HX,JK,gS l];rfl
theorem oC (l:List Int):eN (l.map .int)=some l:=by unfold eN;rw[iS]
theorem lZ (l:List Bool):eN (l.map .bool)=some (l.map bI):=by
 unfold eN
 cases l with
 | nil=>rfl
 | cons b l=>exact gS (b::l)
theorem W5 {α β γ:Type}(f:α->β)(g:α->γ):∀l:List α,(l.map f).zip (l.map g)=l.map λx=>(f x,g x)
 | []=>rfl
 | x::l=>by rw[HX,HX,List.zip_cons_cons,W5 f g l];rfl
theorem gE (g:Nat->Int)(l:List Nat):((p8 ((l.map g).zip (g9 l))).map Prod.snd)=g9 ((p8 (l.map λi=>(g i,i))).map Prod.snd):=by
 have e:(l.map g).zip (g9 l)=(l.map λi=>(g i,i)).map λq=>(q.1,(λi:Nat=>PyData.int (i:Int)) q.2):=by
  rw[Ik];exact W5 g _ l
 rw[e,bz (λi:Nat=>PyData.int (i:Int)),Ik]
 unfold g9
 rw[Ik]
 rfl
section
variable [Fam]
theorem qg {r:PyData}(h:r∈W8):inD false r (.tuple [.str "last",.str "lastoff"])=some (.bool (decide (kOf r=1))):=by
 obtain⟨x,rfl,hx⟩:=K8 h
 show(if SeqAt.shaped (.tuple [.str "last",.str "lastoff"])=true/\SeqAt.shaped (.str x)=true then _ else none)=_
 rw[HH ⟨by decide +kernel,hx⟩,HM (by decide)]
 simp only[HB,IM,JN,PyData.str.injEq]at h
 rcases h with rfl | rfl | rfl | rfl | rfl | rfl | rfl | rfl <;> exact IK (λb=>some (PyData.bool b)) (by decide +kernel)
theorem mD {r:PyData}(h:r∈W8):inD false r (.tuple [.str "short",.str "shortoff"])=some (.bool (decide (kOf r=2))):=by
 obtain⟨x,rfl,hx⟩:=K8 h
 show(if SeqAt.shaped (.tuple [.str "short",.str "shortoff"])=true/\SeqAt.shaped (.str x)=true then _ else none)=_
 rw[HH ⟨by decide +kernel,hx⟩,HM (by decide)]
 simp only[HB,IM,JN,PyData.str.injEq]at h
 rcases h with rfl | rfl | rfl | rfl | rfl | rfl | rfl | rfl <;> exact IK (λb=>some (PyData.bool b)) (by decide +kernel)
theorem mq {r:PyData}(h:r∈W8):inD false r (.tuple [.str "front",.str "frontoff"])=some (.bool (decide (kOf r=3))):=by
 obtain⟨x,rfl,hx⟩:=K8 h
 show(if SeqAt.shaped (.tuple [.str "front",.str "frontoff"])=true/\SeqAt.shaped (.str x)=true then _ else none)=_
 rw[HH ⟨by decide +kernel,hx⟩,HM (by decide)]
 simp only[HB,IM,JN,PyData.str.injEq]at h
 rcases h with rfl | rfl | rfl | rfl | rfl | rfl | rfl | rfl <;> exact IK (λb=>some (PyData.bool b)) (by decide +kernel)
end
theorem za {ps:List Pn}{i:Nat}(h:i<ps.length):atI (ps.map pnD) (i:Int)=some (pnD (pAt ps i)):=by
 refine W3 ?_
 rw[HP,HD h]
 unfold pAt
 rw[HJ,HD h]
 rfl
section
variable [Fam]
def DP:List DV->M PyData:=X5 ["rule","stand","places"] (mSq (D7 2 (kB (c6 (sN W0 (c6 (sW 1) h9)) h9)))
  (mSq (mIf (uB (s2 (inD false) (sW 0) (sC (.tuple [.str "last",.str "lastoff"])))) (mRt (s1 uV (sW 2))) mNx)
  (mSq (mIf (uB (s2 (inD false) (sW 0) (sC (.tuple [.str "short",.str "shortoff"])))) (mRt (sSK (c6 (sV 2) h9) [1] (s2 ixD (s2 ixD (sW 1) (sW 0)) (sC (.int 1))))) mNx)
  (mSq (mIf (uB (s2 (inD false) (sW 0) (sC (.tuple [.str "front",.str "frontoff"])))) (mRt (sSK (c6 (sV 2) h9) [1] (s2 ixD (s2 ixD (sW 1) (sW 0)) (sC (.int 0))))) mNx)
  (mRt (sV 2))))))
def Ej:List DV->M PyData:=X5 ["house","stand","hands","places","rule","order"] (mSq (bu (M3 3 (i8 (bN 2) (i8 (bN 3) (i8 (bN 4) M1)))) (sV 0))
  (mSq (D7 5 (p0 DP (vD (sV 4) (vD (sV 1) D8))))
  (mSq (mIf (uT (p0 cG (vD (sV 4) D8))) (D7 5 (sSK (c6 (sV 5) h9) [1] (yk (s2 ixD (s2 ixD (sW 1) (sW 0)) (sC (.int 2)))))) mNx)
  (mRt (sN K7 (c6 (sN bO (c6 (oV (sW 5) oNo (oI (sV 2))) h9)) h9))))))
theorem du {me:DE->M PyData}{E0:DE}{g:Nat->PyData}:∀(l:List Nat) (F:FdS),(∀i∈l,me (some (.dat (.int (i:Int)))::E0) F=some (g i,F))->ed me E0 (g9 l) F=some (l.map g,F)
 | [],F,_=>rfl
 | d::ds,F,h=>by
  show(me (some (.dat (.int (d:Int)))::E0) F).bind _=_
  rw[h d HV,HY]
  show(ed me E0 (g9 ds) F).bind _=_
  rw[du ds F λx hx=>h x (HA _ hx)]
  rfl
variable {F:FdS}{Q:PyData->FdS->Prop}
theorem CA {ma:DE->M (List PyData)}{cap:List Nat}{me:DE->M PyData}{E:DE}(q:wp (ma E F) λxs F1=>∃ds kd ns,xs=[.list ds]/\ds.length<64/\ed me (cap.map λj=>(E[j]?).join) ds F1=some (kd,F1)/\eN kd=some ns/\Q (.list ((p8 (ns.zip ds)).map Prod.snd)) F1):wp (sSK ma cap me E F) Q:=by
 unfold sSK
 rw[b9]
 refine g7 q λxs F1 ⟨ds,kd,ns,e,h64,e2,e3,q⟩=>?_
 subst e
 dsimp only
 rw[HH h64,e2,HY,e3,HY]
 exact a9.mpr q
theorem tF {ma:DE->M (List PyData)}{cap:List Nat}{me:DE->M PyData}{E:DE}{g:Nat->Int}(q:wp (ma E F) λxs F1=>∃l:List Nat,xs=[.list (g9 l)]/\l.length<64/\(∀i∈l,me (some (.dat (.int (i:Int)))::cap.map λj=>(E[j]?).join) F1=some (.int (g i),F1))/\Q (.list (g9 ((p8 (l.map λi=>(g i,i))).map Prod.snd))) F1):wp (sSK ma cap me E F) Q:=by
 refine CA (g7 q λxs F1 ⟨l,e,h1,h2,h3⟩=>⟨g9 l,l.map λi=>.int (g i),l.map g,e,by rw[C3];exact h1,du l F1 h2,?_,by rw[gE];exact h3⟩)
 rw[<-oC (l.map g),Ik]
 rfl
theorem xF {ma:DE->M (List PyData)}{cap:List Nat}{me:DE->M PyData}{E:DE}{g:Nat->Bool}(q:wp (ma E F) λxs F1=>∃l:List Nat,xs=[.list (g9 l)]/\l.length<64/\(∀i∈l,me (some (.dat (.int (i:Int)))::cap.map λj=>(E[j]?).join) F1=some (.bool (g i),F1))/\Q (.list (g9 ((p8 (l.map λi=>(bI (g i),i))).map Prod.snd))) F1):wp (sSK ma cap me E F) Q:=by
 refine CA (g7 q λxs F1 ⟨l,e,h1,h2,h3⟩=>⟨g9 l,l.map λi=>.bool (g i),l.map λi=>bI (g i),e,by rw[C3];exact h1,du l F1 h2,?_,by rw[gE λi=>bI (g i)];exact h3⟩)
 have:=lZ (l.map g)
 rw[Ik,Ik]at this
 exact this
theorem vZ {a:DE->M (List PyData)}{E:DE}(q:wp (a E F) λx F1=>oB (N0 x) λds=>ds.length<=1000/\Q (.list ds) F1):wp (kB a E F) Q:=by
 unfold kB
 rw[b9]
 refine g7 q λx F1 ⟨ds,e,h1,q⟩=>?_
 rw[e,HY,HH h1]
 exact a9.mpr q
theorem uJ {ps:List Pn}{i:Nat}{j:Int}(h:i<ps.length):s2 ixD (s2 ixD (sW 1) (sW 0)) (sC (.int j)) [some (.dat (.int (i:Int))),some (.dat (.tuple (ps.map pnD)))] F=(ixD (pnD (pAt ps i)) (.int j)).bind λz=>some (z,F):=by
 show(((atI (ps.map pnD) (i:Int)).bind λz=>some (z,F)).bind λp=>(ixD p.1 (.int j)).bind λz=>some (z,p.2))=_
 rw[za h]
 rfl
theorem AJ {ps:List Pn}{i:Nat}(h:i<ps.length):yk (s2 ixD (s2 ixD (sW 1) (sW 0)) (sC (.int 2))) [some (.dat (.int (i:Int))),some (.dat (.tuple (ps.map pnD)))] F=some (.bool (!(pAt ps i).2.2),F):=by
 unfold yk
 rw[uJ h]
 rfl
theorem yf {r:PyData}{ps:List Pn}(hr:r∈W8)(hl:ps.length<64)(q:Q (.list (g9 (T1 (kOf r) ps))) F):wp (DP [.dat r,.dat (.tuple (ps.map pnD))] F) Q:=by
 unfold DP
 walk_at "go"
 refine vZ ?_
 refine b7.mpr (N3.mpr (b7.mpr (j5.mpr (e8.mpr ?_))))
 refine c9 gB (e8.mpr ?_)
 rw[Hz]
 refine c9 (Ag (by omega)) ⟨by rw[bQ];omega,?_⟩
 rw[pB]
 have hperm:∀i∈List.range ps.length,i<ps.length:=λi hi=>Ir.mp hi
 walk_at "go"
 refine c9 (qg hr) ?_
 unfold T1 at q
 refine c9 rfl (R6 (λh=>?_) λh=>?_)
 .rw[HH (Iw h)]at q
  walk_at "go"
  rw[sO]
  exact q
 rw[HM (IW h)]at q
 walk_at "go"
 refine c9 (mD hr) ?_
 refine c9 rfl (R6 (λh=>?_) λh=>?_)
 .rw[HH (Iw h)]at q
  walk_at "go"
  refine tF (g:=λi=>(pAt ps i).2.1) ?_
  walk_at "go"
  refine⟨_,rfl,by rw[Ih];exact hl,λi hi=>?_,?_⟩
  .exact uJ (hperm i hi)
  .walk_at "go"
   exact q
 rw[HM (IW h)]at q
 walk_at "go"
 refine c9 (mq hr) ?_
 refine c9 rfl (R6 (λh=>?_) λh=>?_)
 .rw[HH (Iw h)]at q
  walk_at "go"
  refine tF (g:=λi=>(pAt ps i).1) ?_
  walk_at "go"
  refine⟨_,rfl,by rw[Ih];exact hl,λi hi=>?_,?_⟩
  .exact uJ (hperm i hi)
  .walk_at "go"
   exact q
 rw[HM (IW h)]at q
 walk_at "go"
 exact q
theorem gj {α:Type}{l:List α}{h:Nat}:eX l none (some (h:Int))=l.take h:=by
 unfold eX
 simp only[HT.sIx_none,HT.sIx_nat,List.drop_zero,Md]
 by_cases hh:h<=l.length
 .rw[Mj hh]
 .rw[Mf (by omega),IV (by omega),IV (by omega)]
theorem se (l:List Nat)(n:Nat):(g9 l).take n=g9 (l.take n):=by unfold g9;rw[List.map_take]
theorem fP:∀l:List Nat,V8 (g9 l)=some (l.map Int.ofNat)
 | []=>rfl
 | i::l=>by
  show V8 (.int (i:Int)::g9 l)=_
  rw[V8,fP l]
  rfl
theorem uY {r pl:PyData}{ps:List Pn}{h:Nat}(hr:r∈W8)(hl:ps.length<64)(q:Q (.tuple (g9 (i4 h (kOf r) (kb r) ps))) F):wp (Ej [.dat (.tuple [.int h,pl,r]),.dat (.tuple (ps.map pnD))] F) Q:=by
 unfold Ej
 walk_at "go"
 refine yf hr hl ?_
 have hlen:(T1 (kOf r) ps).length=ps.length:=by rw[(R8 (kOf r) ps).length_eq,Ih]
 have hperm:∀i∈T1 (kOf r) ps,i<ps.length:=λi hi=>Ir.mp ((R8 (kOf r) ps).mem_iff.mp hi)
 have hol:(order (kOf r) (kb r) ps).length=ps.length:=by rw[(p7 (kOf r) (kb r) ps).length_eq,Ih]
 have fin:∀E:DE,E=[some (.dat (.tuple [.int h,pl,r])),some (.dat (.tuple (ps.map pnD))),some (.dat (.int h)),some (.dat pl),some (.dat r),some (.dat (.list (g9 (order (kOf r) (kb r) ps))))]->wp (mRt (sN K7 (c6 (sN bO (c6 (oV (sW 5) oNo (oI (sV 2))) h9)) h9)) E F) (tw Q):=by
  rintro E rfl
  refine U0.mpr (N3.mpr (b7.mpr (N3.mpr (b7.mpr (vq.mpr (j5.mpr (l3 rfl (vR.mpr (AZ.mpr (n6.mpr (n8 rfl (c9 CQ (c9 Ar (e8.mpr ?_))))))))))))))
  rw[gj,se]
  have e:bO [.list (g9 ((order (kOf r) (kb r) ps).take h))]=some (.list (g9 (i4 h (kOf r) (kb r) ps))):=by
   simp only[bO,fP]
   rw[HH (by rw[Hz,IH,hol];omega),kD,Ik]
   rfl
  refine c9 e (e8.mpr (c9 ui ?_))
  exact q
 refine⟨k8 rfl,i3 (i6.mpr (K4.mpr (lI.mpr (J9.mpr ?_))))⟩
 walk_at "go"
 refine pF hr ?_
 refine c9 rfl (R6 (λe=>?_) λe=>?_)
 .refine x4.mpr (xF (g:=λi=>!(pAt ps i).2.2) ?_)
  walk_at "go"
  refine⟨_,rfl,by rw[hlen];exact hl,λi hi=>?_,k8 rfl,?_⟩
  .exact AJ (hperm i hi)
  .refine fin _ ?_
   unfold order
   rw[HH e]
   rfl
 .refine X2.mpr (i3 ?_)
  refine fin _ ?_
  unfold order
  rw[HM (by rw[e];simp)]
  rfl
end
variable [Fam]
theorem yu {a b c:Bool}(h:(if true=true then !(PyData.bool a).eqv (PyData.bool b) else(PyData.bool a).eqv (PyData.bool b))=c):c = !decide (a=b):=by
 subst h
 cases a <;> cases b <;> rfl
section
variable {F:FdS}{Q:PyData->FdS->Prop}
theorem gQ {l:List Nat}{i:Nat}{d:PyData}(h:(g9 l)[i]? = some d):∃k,l[i]? = some k/\d = .int (k:Int):=by
 unfold g9 at h
 rw[HP]at h
 obtain⟨k,e,rfl⟩:=Ip.mp h
 exact⟨k,e,rfl⟩
end
variable [Fam]
theorem Di {i:Int}{n:Nat}(h0:-100000<=i)(h1:i<=100000):Gd n 1 0 (.int i):=Aj (rE (by omega))
theorem fq {l:List Nat}(h:∀i∈l,i<=1000):Gd 0 (1+l.length) 1 (.tuple (g9 l)):=by
 refine Gd.tup (M:=1) (λx hx=>?_) ?_
 .obtain⟨p,hp,rfl⟩:=Il.mp hx
  have:=h p hp
  exact Di (by omega) (by omega)
 .have:=cb (c:=1) (ds:=g9 l) λd hd=>by
   obtain⟨p,hp,rfl⟩:=Il.mp hd
   simp[cnt]
  rw[C3]at this
  omega
theorem kQ {h k:Nat}{ps:List Pn}(hp:∀p∈ps,p.2.2=false):i4 h k true ps=i4 h k false ps:=by
 have hb:∀i,(pAt ps i).2.2=false:=λi=>by
  unfold pAt
  rw[HJ]
  cases e:ps[i]? with
  | none=>rfl
  | some p=>exact hp p (Iy e)
 rw[ae,ae]
 have e:∀i j,x5 k true ps i j↔x5 k false ps i j:=λi j=>by
  unfold x5
  simp[hb i,hb j]
 refine Lf λi _=>?_
 rw[JD]
 have:((List.range ps.length).filter λj=>decide (j≠i/\x5 k true ps j i))=(List.range ps.length).filter λj=>decide (j≠i/\x5 k false ps j i):=Lf λj _=>by
  rw[JD,e]
 rw[this]
end L3
namespace L3
open L2
section
def fe (kp:Bool)(p:Pn):Pn:=(p.1,p.2.1-1,kp)
def Q6 (P:List Nat)(ps:List Pn)(i:Nat):Bool:=decide (i∈P)&&decide ((pAt ps i).2.1<=1)
def N8 (P:List Nat)(kp:Bool)(ps:List Pn)(i:Nat):Pn:=if i∈P then fe kp (pAt ps i) else pAt ps i
def U5 (P:List Nat)(ps:List Pn):List Nat:=(List.range ps.length).filter λi=>!decide (i∈P)
def J1 (P:List Nat)(ps:List Pn):List Nat:=P.filter λi=>!decide ((pAt ps i).2.1<=1)
def M5 (P:List Nat)(ps:List Pn):List Nat:=P.filter λi=>decide ((pAt ps i).2.1<=1)
def w4 (tn:Bool)(P:List Nat)(ps:List Pn):List Nat:=if tn then U5 P ps++J1 P ps else(List.range ps.length).filter λi=>!Q6 P ps i
theorem aO {α:Type}{R:α->α->Prop}(as:∀a b,R a b->R b a->False):∀{l₁ l₂:List α},l₁.Perm l₂->l₁.Pairwise R->l₂.Pairwise R->l₁=l₂
 | [],l₂,p,_,_=>p.nil_eq
 | a::r,[],p,_,_=>by have:=p.length_eq;simp at this
 | a::r,b::t,p,h1,h2=>by
  rw[Iq]at h1 h2
  have ab:a=b:=by
   rcases HB.mp (p.mem_iff.mp (HV (a:=a) (l:=r))) with e | e
   .exact e
   .rcases HB.mp (p.mem_iff.mpr (HV (a:=b) (l:=t))) with e2 | e2
    .exact e2.symm
    .exact(as _ _ (h2.1 a e) (h1.1 b e2)).elim
  subst ab
  rw[aO as (p.cons_inv) h1.2 h2.2]
theorem lX {α:Type}{p:Int × α}:∀{l:List (Int × α)},l.Pairwise (λa b=>a.1<b.1)->(∀q∈l,p.1≠q.1)->(V5 p l).Pairwise λa b=>a.1<b.1
 | [],_,_=>by simp[V5]
 | q::r,h,hl=>by
  rw[Iq]at h
  rw[V5]
  split
  .rename_i hle
   have hq:=hl q HV
   refine Iq.mpr ⟨λz hz=>?_,Iq.mpr h⟩
   rcases HB.mp hz with rfl | hz
   .omega
   .have:=h.1 z hz;omega
  .rename_i hgt
   refine Iq.mpr ⟨λz hz=>?_,lX h.2 λz hz=>hl z (HA _ hz)⟩
   rcases HB.mp ((T3 p r).mem_iff.mp hz) with rfl | hz
   .omega
   .exact h.1 z hz
theorem gP {α:Type}:∀{l:List (Int × α)},(l.map Prod.fst).Nodup->(p8 l).Pairwise λa b=>a.1<b.1
 | [],_=>.nil
 | p::r,h=>by
  rw[HX,IS]at h
  exact lX (gP h.2) λq hq e=>h.1 (e▸Jy ((x6 r).mem_iff.mp hq))
theorem qX {α:Type}{l m:List (Int × α)}(hp:m.Perm l)(hs:m.Pairwise λa b=>a.1<b.1):p8 l=m:=by
 have nd:(l.map Prod.fst).Nodup:=by
  refine(hp.map Prod.fst).nodup_iff.mp ?_
  rw[IP,Jw]
  exact hs.imp λh=>by omega
 exact aO (R:=λa b:Int × α=>a.1<b.1) (λa b h1 h2=>by omega) ((x6 l).trans hp.symm) (gP nd) hs
theorem P1 {h k:Nat}{kp:Bool}{ps:List Pn}:∀i∈i4 h k kp ps,i<ps.length:=λi hi=>Ir.mp (Iu.mp hi).1
theorem D9 {h k:Nat}{kp:Bool}{ps:List Pn}:(i4 h k kp ps).Nodup:=(D4 _).sublist Jz
theorem dO {P:List Nat}{ps:List Pn}(hs:∀i∈P,i<ps.length)(hn:P.Nodup):(U5 P ps++J1 P ps).Perm (w4 false P ps):=by
 unfold w4
 rw[HM (by simp)]
 refine fY ?_ ((D4 _).sublist Jz) λx=>?_
 .rw[Jr]
  refine⟨(D4 _).sublist Jz,hn.sublist Jz,λa ha b hb e=>?_⟩
  subst e
  have h1:=(Iu.mp ha).2
  have h2:=(Iu.mp hb).1
  simp[h2]at h1
 .unfold U5 J1 Q6
  simp only[HC,Iu,Ir,Bool.not_eq_true',decide_eq_false_iff_not,Bool.and_eq_false_iff]
  constructor
  .rintro (⟨h1,h2⟩ | ⟨h1,h2⟩)
   .exact⟨h1,.inl h2⟩
   .exact⟨hs x h1,.inr h2⟩
  .rintro ⟨h1,h2⟩
   by_cases hx:x∈P
   .exact .inr ⟨hx,h2.resolve_left λz=>z hx⟩
   .exact .inl ⟨h1,hx⟩
theorem yj (P:List Nat)(ps:List Pn):(w4 false P ps).Pairwise (· < ·):=by
 unfold w4
 rw[HM (by simp)]
 exact(Q5 _).sublist Jz
theorem cB {tn:Bool}{P:List Nat}{ps:List Pn}(hs:∀i∈P,i<ps.length)(hn:P.Nodup):(w4 tn P ps).Perm (w4 false P ps):=by
 cases tn with
 | false=>exact .refl _
 | true =>
  have:=dO hs hn
  unfold w4 at this ⊢
  simpa using this
def after (h k:Nat)(kp tn:Bool)(ps:List Pn):List Pn:=(w4 tn (i4 h k kp ps) ps).map (N8 (i4 h k kp ps) kp ps)
def i7 (pl:Option Nat)(n m:Nat):Nat:=match pl with
 | some v=>min m (v-n)
 | none=>m
def j3 (pl:Option Nat)(ps:List Pn)(bt:List (Int×Int)):List Pn:=ps++(bt.take (i7 pl ps.length bt.length)).map λc=>(c.1,c.2,false)
theorem cj (pl:Option Nat)(ps:List Pn)(bt:List (Int×Int)):(j3 pl ps bt).length=ps.length+i7 pl ps.length bt.length:=by
 unfold j3
 rw[IA,Hz,IH]
 unfold i7
 split <;> omega
end
section
theorem rA {α β:Type}(d:α)(f:α->β):∀l:List α,(List.range l.length).map (λi=>f (l.getD i d))=l.map f:=λl=>by
 apply Mg
 .simp
 .intro i h1 h2
  simp only[Hz,Ih]at h1
  simp[h1]
theorem ic {tn:Bool}{P:List Nat}{ps:List Pn}(hs:∀i∈P,i<ps.length)(hn:P.Nodup){i:Nat}(h:i∈w4 tn P ps):i<ps.length/\Q6 P ps i=false:=by
 have:=(cB (tn:=tn) hs hn).mem_iff.mp h
 unfold w4 at this
 rw[HM (by simp)]at this
 have h2:=Iu.mp this
 exact⟨Ir.mp h2.1,by simpa using h2.2⟩
theorem cT {h k:Nat}{kp tn:Bool}{ps:List Pn}:(after h k kp tn ps).length<=ps.length:=by
 unfold after
 rw[Hz,(cB (tn:=tn) (P1 (h:=h) (k:=k) (kp:=kp) (ps:=ps)) D9).length_eq]
 have h2:=JL (λi=>!Q6 (i4 h k kp ps) ps i) (List.range ps.length)
 unfold w4
 rw[HM (by simp)]
 rw[Ih]at h2
 exact h2
abbrev Bt:=List (Int×Int)
def O1 (h k:Nat)(kp tn:Bool)(pl:Option Nat)(ps:List Pn)(bt:Bt):List Pn:=after h k kp tn (j3 pl ps bt)
def aH (f:List Pn->Bt->List Pn)(ps:List Pn)(way:List Bt)(i:Nat):List Pn:=(way.take i).foldl f ps
def f8 (way:List Bt)(i:Nat):Bt:=way.getD i []
theorem T7 {f:List Pn->Bt->List Pn}{ps:List Pn}{way:List Bt}:aH f ps way 0=ps:=by simp[aH]
theorem av {f:List Pn->Bt->List Pn}{ps:List Pn}{way:List Bt}{i:Nat}(h:i<way.length):aH f ps way (i+1)=f (aH f ps way i) (f8 way i):=by
 unfold aH f8
 have e:way.getD i []=way[i]:=by simp[h]
 rw[Kr,HD h,Lg,e]
 rfl
def G4 (way:List Bt):Nat:=(way.map List.length).sum
theorem P2 {way:List Bt}{i:Nat}(h:i<way.length):G4 (way.take (i+1))=G4 (way.take i)+(f8 way i).length:=by
 unfold G4 f8
 have e:way.getD i []=way[i]:=by simp[h]
 rw[Kr,HD h,Ij,Ml,e]
 rfl
theorem jU (way:List Bt)(i:Nat):G4 (way.take i)<=G4 way:=by
 conv=>rhs;rw[<-List.take_append_drop i way]
 unfold G4
 rw[Ij,Ml]
 omega
theorem lT {h k:Nat}{kp tn:Bool}{pl:Option Nat}{ps:List Pn}{way:List Bt}:∀{i:Nat},i<=way.length->(aH (O1 h k kp tn pl) ps way i).length<=ps.length+G4 (way.take i)
 | 0,_=>by rw[T7];omega
 | i+1,hi=>by
  have ih:=lT (h:=h) (k:=k) (kp:=kp) (tn:=tn) (pl:=pl) (ps:=ps) (way:=way) (i:=i) (by omega)
  rw[av (by omega),P2 (by omega)]
  unfold O1
  refine Im cT ?_
  rw[cj]
  have:i7 pl (aH (O1 h k kp tn pl) ps way i).length (f8 way i).length<=(f8 way i).length:=by unfold i7;split <;> omega
  unfold O1 at ih this
  omega
theorem mN {h k:Nat}{kp tn:Bool}{pl:Option Nat}{ps:List Pn}{way:List Bt}(hl:ps.length+G4 way<64){i:Nat}(hi:i<way.length):(aH (O1 h k kp tn pl) ps way i).length+(f8 way i).length<64:=by
 have h1:=lT (h:=h) (k:=k) (kp:=kp) (tn:=tn) (pl:=pl) (ps:=ps) (way:=way) (i:=i) (by omega)
 have h2:=P2 hi
 have h3:=jU way (i+1)
 omega
end
section
def Cw (pl:Option Nat)(x:Nat):Nat:=match pl with
 | some v=>min x v
 | none=>x
def kE (pl:Option Nat)(n:Nat):Prop:=∀v,pl=some v->n<=v
theorem uW {pl:Option Nat}{n m:Nat}(h:kE pl n):n+i7 pl n m=Cw pl (n+m):=by
 cases pl with
 | none=>rfl
 | some v =>
  have:=h v rfl
  show n+min m (v-n)=min (n+m) v
  omega
theorem xG {pl:Option Nat}{x:Nat}:kE pl (Cw pl x):=λv hv=>by
 subst hv
 exact Nat.min_le_right _ _
theorem kE.le {pl:Option Nat}{n m:Nat}(h:kE pl n)(hm:m<=n):kE pl m:=λv hv=>Im hm (h v hv)
theorem jg {h k:Nat}{kp tn:Bool}{pl:Option Nat}{ps:List Pn}{way:List Bt}(h0:kE pl ps.length):∀{i:Nat},i<=way.length->kE pl (aH (O1 h k kp tn pl) ps way i).length
 | 0,_=>by rw[T7];exact h0
 | i+1,hi=>by
  have ih:=jg (h:=h) (k:=k) (kp:=kp) (tn:=tn) (way:=way) h0 (i:=i) (by omega)
  rw[av (by omega)]
  unfold O1 at ih ⊢
  refine kE.le ?_ cT
  rw[cj,uW ih]
  exact xG
end
section
end
section
end
section
section
variable {h c:Nat}{rk L w:Nat->Int}
end
end
end L3
namespace L3
open PySem PySem.Spec PyProof.Rows L2
section
variable [Fam]
abbrev cmD (c:Int×Int):PyData:=.tuple [.int c.1,.int c.2]
def plD:Option Nat->PyData
 | some v=>.int (v:Int)
 | none=>.none
def Y9:List DV->M PyData:=X5 ["house","stand","beat","places","room","entered"] (mSq (D7 3 (s2 ixD (sW 0) (sC (.int 1))))
  (mSq (D7 4 (sIf (uB (s2 (isD false) (sW 3) (sC .none))) (sN W0 (c6 (sW 2) h9)) (s2 lN (sW 3) (sN W0 (c6 (sW 1) h9)))))
  (mSq (D7 5 (sLC (X4 (oV (sW 2) oNo (oI (sV 4)))) 2 [] (M3 2 (i8 (bN 0) (i8 (bN 1) M1))) cw (O9 (c6 (sV 0) (c6 (sV 1) (c6 (sC (.bool false)) h9))))))
  (mRt (O9 (c6 (s2 U1 (sW 1) (sN K7 (c6 (sW 5) h9))) (c6 (s2 lN (sN W0 (c6 (sW 2) h9)) (sN W0 (c6 (sW 5) h9))) h9)))))))
def af:List DV->M PyData:=X5 ["house","stand","rule","hands_on","waiting","served","gone","place","rank","left","begun","staying"] (mSq (D7 2 (s2 ixD (sW 0) (sC (.int 2))))
  (mSq (D7 3 (p0 Ej (vD (sV 0) (vD (sV 1) D8))))
  (mSq (D7 4 (sLC (cR (sW 1)) 2 [3] (M3 2 (i8 (bN 0) (i8 (bN 1) M1))) (uB (s2 (inD true) (sW 0) (sW 2))) (O9 (c6 (sV 0) (c6 (sV 1) h9)))))
  (mSq (gw 5 6 (cO (dm h9)) (cO (dm h9)))
  (mSq (bo (X4 (sV 3)) (bN 7) (mSq (bu (M3 3 (i8 (bN 8) (i8 (bN 9) (i8 (bN 10) M1)))) (s2 ixD (sW 1) (sW 7)))
  (mIf (uB (s2 gtD (sW 9) (sC (.int 1)))) (cZ 5 (O9 (c6 (sV 7) (c6 (O9 (c6 (sV 8) (c6 (s2 lN (sW 9) (sC (.int 1))) (c6 (p0 cG (vD (sV 2) D8)) h9)))) h9)))) (cZ 6 (sV 7)))))
  (mSq (D7 11 (sIf (uB (s2 (eqD false) (sW 2) (sC (.str "turns")))) (s2 U1 (sW 4) (sW 5)) (sN bO (c6 (s2 U1 (sW 4) (sW 5)) h9))))
  (mRt (O9 (c6 (sV 11) (c6 (sV 3) (c6 (sN K7 (c6 (sW 6) h9)) h9)))))))))))
abbrev b2:PyData->DE->Option DE:=M3 2 (i8 (bN 0) (i8 (bN 1) M1))
section
variable {F:FdS}
theorem yn {me:DE->M PyData}{α:Type}{x y:α->PyData}{f:α->PyData}{rest:DE}{Q:List PyData->FdS->Prop}:∀(ds:List α) (o o':Option DV),(∀d∈ds,∀(F:FdS) (Q:PyData->FdS->Prop),Q (f d) F->wp (me (some (.dat (x d))::some (.dat (y d))::rest) F) Q)->Q (ds.map f) F->wp (U6 b2 cw me (ds.map λd=>.tuple [x d,y d]) (o::o'::rest) F) Q
 | [],o,o',_,q=>a9.mpr q
 | d::ds,o,o',h,q=>by
  rw[HX,U6]
  have e:b2 (.tuple [x d,y d]) (o::o'::rest)=some (some (.dat (x d))::some (.dat (y d))::rest):=rfl
  rw[e,HY,b9]
  refine ue.mpr ?_
  rw[HH rfl,b9]
  refine h d HV F _ ?_
  rw[b9]
  exact yn ds _ _ (λd hd=>h d (HA _ hd)) (a9.mpr q)
theorem Ak {mt:DE->M Bool}{me:DE->M PyData}{α:Type}{x y:α->PyData}{g:α->Bool}{f:α->PyData}{rest:DE}{Q:List PyData->FdS->Prop}:∀(ds:List α) (o o':Option DV),(∀d∈ds,∀(F:FdS) (Q:Bool->FdS->Prop),Q (g d) F->wp (mt (some (.dat (x d))::some (.dat (y d))::rest) F) Q) ->
  (∀d∈ds,g d=true->∀(F:FdS) (Q:PyData->FdS->Prop),Q (f d) F->wp (me (some (.dat (x d))::some (.dat (y d))::rest) F) Q)->Q ((ds.filter g).map f) F->wp (U6 b2 mt me (ds.map λd=>.tuple [x d,y d]) (o::o'::rest) F) Q
 | [],o,o',_,_,q=>a9.mpr q
 | d::ds,o,o',ht,h,q=>by
  rw[HX,U6]
  have e:b2 (.tuple [x d,y d]) (o::o'::rest)=some (some (.dat (x d))::some (.dat (y d))::rest):=rfl
  rw[e,HY,b9]
  refine ht d HV F _ ?_
  cases c:g d with
  | false =>
   rw[KZ (by rw[c];simp)]at q
   rw[HM (by simp)]
   exact Ak ds _ _ (λd hd=>ht d (HA _ hd)) (λd hd=>h d (HA _ hd)) q
  | true =>
   rw[Kh c,HX]at q
   rw[HH rfl,b9]
   refine h d HV c F _ ?_
   rw[b9]
   exact Ak ds _ _ (λd hd=>ht d (HA _ hd)) (λd hd=>h d (HA _ hd)) (a9.mpr q)
theorem tU {ps:List Pn}:J8 0 (ps.map pnD)=(List.range ps.length).map λi=>.tuple [.int (i:Int),pnD (pAt ps i)]:=by
 have key:∀(l:List PyData) (k:Nat),J8 k l=(List.range l.length).map λi=>.tuple [.int ((k+i:Nat):Int),l.getD i .none]:=by
  intro l
  induction l with
  | nil=>intro k;rfl
  | cons d l ih =>
   intro k
   rw[J8,ih,HZ,Ko,HX,Ik]
   have e1:(PyData.tuple [.int (k:Int),d]) = .tuple [.int ((k+0:Nat):Int),(d::l).getD 0 .none]:=by simp
   rw[<-e1]
   refine IK (List.cons _) (Iv λi _=>?_)
   simp only[Function.comp,KA,LF]
   rw[show k+1+i=k+(i+1) by omega]
 rw[key,Hz]
 refine Iv λi hi=>?_
 have hi:=Ir.mp hi
 rw[IB,HJ,HP,HD hi]
 unfold pAt
 rw[HJ,HD hi]
 rfl
theorem oF {a b:Int}:(PyData.int a).eqv (.int b)=decide (a=b):=by
 simp only[PyData.eqv]
 exact Bool.beq_eq_decide_eq ..
theorem cW {l:List Nat}{i:Nat}(hl:∀j∈l,j<=1000):inD true (.int (i:Int)) (.tuple (g9 l))=some (.bool (!decide (i∈l))):=by
 have hs:SeqAt.shaped (.tuple (g9 l))=true:=(fq hl).shaped (by decide) (by decide)
 have hi:SeqAt.shaped (.int (i:Int))=true:=by simp[SeqAt.shaped,PyData.canLay0,PyData.depth]
 show(if SeqAt.shaped (.tuple (g9 l))=true/\SeqAt.shaped (.int (i:Int))=true then _ else none)=_
 rw[HH ⟨hs,hi⟩,HH rfl]
 refine IK (λb=>some (PyData.bool (!b))) ?_
 unfold g9
 rw[List.any_map]
 have e:(l.any ((λy=>y.eqv (.int (i:Int))) ∘ λj:Nat=>PyData.int (j:Int)))=l.any λj=>decide (j=i):=by
  congr 1
  funext j
  simp only[Function.comp,oF]
  rw[JD];omega
 rw[e]
 induction l with
 | nil=>simp
 | cons a l ih =>
  rw[LR,ih λj hj=>hl j (HA _ hj)]
  .by_cases h:a=i
   .simp[h]
   .have:¬i=a:=λz=>h z.symm
    simp[h,this]
  .exact(fq λj hj=>hl j (HA _ hj)).shaped (by decide) (by decide)
  .congr 1
   funext j
   simp only[Function.comp,oF]
   rw[JD];omega
end
section
variable {F:FdS}{Q:PyData->FdS->Prop}
def qp (pl:Option Nat)(n:Nat):Prop:=∀v,pl=some v->n<=v
def yY (pl:Option Nat)(n m:Nat):Int:=match pl with
 | some v=>(v:Int)-(n:Int)
 | none=>(m:Int)
theorem uH {pl:Option Nat}{n:Nat}{bt:List PyData}(hp:qp pl n):eX bt none (some (yY pl n bt.length))=bt.take (i7 pl n bt.length):=by
 cases pl with
 | none =>
  show eX bt none (some ((bt.length:Nat):Int))=_
  rw[gj];rfl
 | some v =>
  have:=hp v rfl
  show eX bt none (some ((v:Int)-(n:Int)))=bt.take (min bt.length (v-n))
  have e:(v:Int)-(n:Int)=((v-n:Nat):Int):=by omega
  rw[e,gj]
  by_cases hh:v-n<=bt.length
  .rw[Mf hh]
  .rw[Mj (by omega),IV (by omega),IV (by omega)]
theorem vg {h r:PyData}{pl:Option Nat}{ps:List Pn}{bt:List (Int×Int)}(hp:qp pl ps.length)(hl:ps.length+bt.length<=1000)(q:Q (.tuple [.tuple ((j3 pl ps bt).map pnD),.int ((bt.length-i7 pl ps.length bt.length:Nat):Int)]) F) :
  wp (Y9 [.dat (.tuple [h,plD pl,r]),.dat (.tuple (ps.map pnD)),.dat (.tuple (bt.map cmD))] F) Q:=by
 have rle:i7 pl ps.length bt.length<=bt.length:=by unfold i7;split <;> omega
 have fin:∀(E:DE) (room:Int) (a5:Option DV),room=yY pl ps.length bt.length->E=[some (.dat (.tuple [h,plD pl,r])),some (.dat (.tuple (ps.map pnD))),some (.dat (.tuple (bt.map cmD))),some (.dat (plD pl)),some (.dat (.int room)),a5] ->
   wp (mSq (D7 5 (sLC (X4 (oV (sW 2) oNo (oI (sV 4)))) 2 [] (M3 2 (i8 (bN 0) (i8 (bN 1) M1))) cw (O9 (c6 (sV 0) (c6 (sV 1) (c6 (sC (.bool false)) h9))))))
    (mRt (O9 (c6 (s2 U1 (sW 1) (sN K7 (c6 (sW 5) h9))) (c6 (s2 lN (sN W0 (c6 (sW 2) h9)) (sN W0 (c6 (sW 5) h9))) h9)))) E F) (tw Q):=by
  rintro E room a5 hroom rfl
  have ec:eX (bt.map cmD) none (some room)=(bt.take (i7 pl ps.length bt.length)).map cmD:=by
   have:=uH (bt:=bt.map cmD) hp
   rw[Hz]at this
   rw[hroom,this,List.map_take]
  refine i6.mpr (x4.mpr (qd.mpr (Z7.mpr (vq.mpr (j5.mpr (l3 rfl (vR.mpr (AZ.mpr (n6.mpr (n8 rfl (c9 CQ (c9 Bf (c9 gu ?_)))))))))))))
  rw[ec]
  refine⟨sz (by rw[Hz,IH];omega),?_⟩
  refine yn (x:=λc:Int×Int=>.int c.1) (y:=λc=>.int c.2) (f:=λc=>pnD (c.1,c.2,false)) _ _ _ (λc hc F Q q=>?_) ?_
  .walk_at "go"
   exact q
  .refine⟨k8 rfl,i3 ?_⟩
   refine U0.mpr (K6.mpr (b7.mpr (v9.mpr (j5.mpr (l3 rfl (N3.mpr (b7.mpr (j5.mpr (l3 rfl (e8.mpr (c9 ui (c9 (Dd ?_) (b7.mpr (v9.mpr (N3.mpr (b7.mpr (j5.mpr (l3 rfl (e8.mpr (c9 gB (N3.mpr (b7.mpr (j5.mpr (l3 rfl (e8.mpr (c9 nV (c9 jW (e8.mpr ⟨x8 rfl,?_⟩))))))))))))))))))))))))))))
   .rw[Hz,Hz,IH];omega
   .have e1:ps.map pnD++(bt.take (i7 pl ps.length bt.length)).map (λc=>pnD (c.1,c.2,false))=(j3 pl ps bt).map pnD:=by
     unfold j3;rw[Ij,Ik];rfl
    have e2:((List.map cmD bt).length:Int)-((List.map (λc:Int×Int=>pnD (c.1,c.2,false)) (bt.take (i7 pl ps.length bt.length))).length:Int)=((bt.length-i7 pl ps.length bt.length:Nat):Int):=by
     rw[Hz,Hz,IH];omega
    rw[e1,e2]
    exact q
 unfold Y9
 refine cq.mpr (i6.mpr (x4.mpr (v9.mpr (j5.mpr (l3 rfl (u9.mpr (c9 rfl ⟨k8 rfl,i3 (i6.mpr (x4.mpr (iV.mpr (W1.mpr (v9.mpr (j5.mpr (l3 rfl (u9.mpr (c9 rfl (c9 rfl ?_))))))))))⟩)))))))
 cases pl with
 | none =>
  refine N6 rfl ?_
  refine N3.mpr (b7.mpr (j5.mpr (l3 rfl (e8.mpr (c9 gB ⟨k8 rfl,i3 ?_⟩)))))
  rw[Hz]
  exact fin _ _ none rfl rfl
 | some v =>
  refine n5 rfl ?_
  refine v9.mpr (j5.mpr (l3 rfl (N3.mpr (b7.mpr (j5.mpr (l3 rfl (e8.mpr (c9 gB (c9 jW ⟨k8 rfl,i3 ?_⟩)))))))))
  rw[Hz]
  exact fin _ _ none rfl rfl
end
variable [Fam]
def tnB:PyData->Bool
 | .str x=>decide (x = "turns")
 | _=>false
abbrev prD (q:Nat×Pn):PyData:=.tuple [.int (q.1:Int),pnD q.2]
theorem um {r:PyData}(h:r∈W8):eqD false r (.str "turns")=some (.bool (tnB r)):=by
 obtain⟨x,rfl,hx⟩:=K8 h
 show some (PyData.bool (if false=true then !decide (x = "turns") else decide (x = "turns")))=_
 rw[HM (by decide)]
 rfl
theorem vb {c1 c2:DE->M DV}{E:DE}{F:FdS}{i j:Nat}{Q:Out->FdS->Prop}(h:wp (c1 E F) λx F1=>wp (c2 E F1) λy F2=>(i<E.length/\j<E.length)/\Q (.nx ((E.set i (some x)).set j (some y))) F2):wp (gw i j c1 c2 E F) Q:=by
 unfold gw
 rw[b9]
 refine g7 h λx F1 h1=>?_
 rw[b9]
 refine g7 h1 λy F2 h2=>?_
 rw[HH h2.1]
 exact a9.mpr h2.2
theorem zX {m:DE->M (List PyData)}{E:DE}{F:FdS}{Q:DV->FdS->Prop}(h:wp (m E F) λx F1=>Q (.own x) F1):wp (cO m E F) Q:=by
 unfold cO
 rw[b9]
 exact g7 h λx F1 h1=>a9.mpr h1
theorem Ds {m:DE->M PyData}{E:DE}{F:FdS}{Q:DV->FdS->Prop}(h:wp (m E F) λx F1=>Q (.dat x) F1):wp (cD m E F) Q:=by
 unfold cD
 rw[b9]
 exact g7 h λx F1 h1=>a9.mpr h1
theorem hZ:∀l:List (Nat×Pn),(l.map prD).mapM jN=some (l.map λq=>(q.1:Int))
 | []=>rfl
 | q::l=>by rw[HX,JK,hZ l];rfl
theorem su {l:List (Nat×Pn)}(h:l≠[]):V8 (l.map prD)=none:=by
 cases l with
 | nil=>exact absurd rfl h
 | cons q l=>rfl
theorem wZ {l m:List (Nat×Pn)}(hp:m.Perm l)(hs:m.Pairwise λa b=>a.1<b.1)(h64:l.length<64):bO [.list (l.map prD)]=some (.list (m.map prD)):=by
 by_cases hl:l=[]
 .subst hl
  have:=hp.symm.nil_eq
  subst this
  rfl
 .have nd:(l.map λq=>(q.1:Int)).Nodup:=by
   refine(hp.map λq=>(q.1:Int)).nodup_iff.mp ?_
   rw[IP,Jw]
   exact hs.imp λh=>by omega
  simp only[bO,su hl,hZ,HY]
  rw[HH ⟨nd,by rw[Hz];exact h64⟩]
  have e:(l.map λq=>(q.1:Int)).zip (l.map prD)=l.map λq=>((q.1:Int),prD q):=W5 _ _ l
  rw[e,qX (l:=l.map λq=>((q.1:Int),prD q)) (m:=m.map λq=>((q.1:Int),prD q)) (hp.map _) (by rw[Jw];exact hs.imp λh=>by show(_:Int)<_;omega),Ik]
  rfl
section
variable {F:FdS}{Q:PyData->FdS->Prop}
theorem va {r:PyData}{pl:PyData}{ps:List Pn}{h:Nat}(hr:r∈W8)(hl:ps.length<64)
  (q:Q (.tuple [.list ((w4 (tnB r) (i4 h (kOf r) (kb r) ps) ps).map λi=>prD (i,N8 (i4 h (kOf r) (kb r) ps) (kb r) ps i)),.tuple (g9 (i4 h (kOf r) (kb r) ps)),.tuple (g9 (M5 (i4 h (kOf r) (kb r) ps) ps))]) F) :
  wp (af [.dat (.tuple [.int (h:Int),pl,r]),.dat (.tuple (ps.map pnD))] F) Q:=by
 have hsub:=P1 (h:=h) (k:=kOf r) (kp:=kb r) (ps:=ps)
 have hnd:=D9 (h:=h) (k:=kOf r) (kp:=kb r) (ps:=ps)
 have hplen:(i4 h (kOf r) (kb r) ps).length<=ps.length:=by rw[jq];omega
 unfold af
 walk_at "go"
 refine uY hr hl ?_
 generalize i4 h (kOf r) (kb r) ps=P at q hsub hnd hplen
 refine⟨k8 rfl,i3 (i6.mpr (x4.mpr (qd.mpr (nH (j5.mpr (l3 rfl (c9 gu ?_)))))))⟩
 rw[tU]
 refine⟨sz (by rw[Hz,Ih];omega),?_⟩
 refine Ak (x:=λi:Nat=>.int (i:Int)) (y:=λi=>pnD (pAt ps i)) (g:=λi=>!decide (i∈P)) (f:=λi=>prD (i,pAt ps i)) _ _ _ (λi hi F Q q=>?_) (λi hi _ F Q q=>?_) ?_
 .walk_at "go"
  refine c9 (cW λj hj=>by have:=hsub j hj;omega) ?_
  exact c9 rfl q
 .walk_at "go"
  exact q
 have ew:((List.range ps.length).filter λi=>!decide (i∈P))=U5 P ps:=rfl
 rw[ew]
 refine⟨k8 rfl,i3 (i6.mpr (vb (zX (bx.mpr (e8.mpr ⟨sz (by decide),zX (bx.mpr (e8.mpr ⟨sz (by decide),⟨k8 rfl,k8 rfl⟩,i3 (i6.mpr (Y4.mpr (Z7.mpr (n6.mpr (n8 rfl (c9 gu ?_))))))⟩))⟩)))))⟩
 refine E3 (λm E F'=>F'=F/\∃o7 o8 o9 o10 o11,E=[some (.dat (.tuple [.int (h:Int),pl,r])),some (.dat (.tuple (ps.map pnD))),some (.dat r),some (.dat (.tuple (g9 P))),some (.dat (.list ((U5 P ps).map λi=>prD (i,pAt ps i)))),some (.own ((J1 (P.take m) ps).map λi=>prD (i,fe (kb r) (pAt ps i)))),some (.own (g9 (M5 (P.take m) ps))),o7,o8,o9,o10,o11]) _ 0 _ F ⟨rfl,none,none,none,none,none,rfl⟩ ?_ ?_
 .rintro m d e E F1 ⟨rfl,o7,o8,o9,o10,o11,rfl⟩
  obtain⟨i,ei,rfl⟩:=gQ e
  have hi:=hsub i (Iy ei)
  have et:P.take (0+m+1)=P.take (0+m)++[i]:=by rw[IB,Kr,ei];rfl
  refine⟨_,rfl,?_⟩
  refine i6.mpr (P7.mpr (v9.mpr (j5.mpr (l3 rfl (j5.mpr (l3 rfl (c9 (za hi) (c9 rfl (i3 ?_)))))))))
  refine K4.mpr (W1.mpr (v9.mpr (j5.mpr (l3 rfl (u9.mpr (c9 Ct (c9 rfl (R6 (λhc=>?_) λhc=>?_))))))))
  .have hc:1<(pAt ps i).2.1:=Iw hc
   have e1:J1 (P.take (0+m+1)) ps=J1 (P.take (0+m)) ps++[i]:=by
    unfold J1;rw[et,IQ,Kh (by simp;omega),JX]
   have e2:M5 (P.take (0+m+1)) ps=M5 (P.take (0+m)) ps:=by
    unfold M5;rw[et,IQ,KZ (by simp;omega),JX,IE]
   refine dX rfl (by
    have:=JL (λi=>!decide ((pAt ps i).2.1<=1)) (P.take (0+m))
    have h2:=IH (i:=0+m) (l:=P)
    rw[Hz];unfold J1;omega) ?_
   refine K6.mpr (b7.mpr (n6.mpr (n8 rfl (b7.mpr (K6.mpr (b7.mpr (n6.mpr (n8 rfl (b7.mpr (v9.mpr (j5.mpr (l3 rfl (u9.mpr (c9 jW (b7.mpr (J9.mpr (U2.mpr (n6.mpr (n8 rfl (L8.mpr ?_))))))))))))))))))))
   refine pF hr (e8.mpr ⟨x8 rfl,e8.mpr ⟨x8 rfl,?_⟩⟩)
   exact⟨_,rfl,rfl,_,_,_,_,_,by rw[e1,e2,Ij];rfl⟩
  .have hc:¬1<(pAt ps i).2.1:=IW hc
   have e1:J1 (P.take (0+m+1)) ps=J1 (P.take (0+m)) ps:=by
    unfold J1;rw[et,IQ,KZ (by simp;omega),JX,IE]
   have e2:g9 (M5 (P.take (0+m+1)) ps)=g9 (M5 (P.take (0+m)) ps)++[.int (i:Int)]:=by
    unfold M5;rw[et,IQ,Kh (by simp;omega),JX]
    simp only[g9,Ij,HX,Jb]
   refine dX rfl (by
    have:=JL (λi=>decide ((pAt ps i).2.1<=1)) (P.take (0+m))
    have h2:=IH (i:=0+m) (l:=P)
    rw[C3];unfold M5;omega) (n6.mpr (n8 rfl ?_))
   exact⟨_,rfl,rfl,_,_,_,_,_,by rw[e1,e2];rfl⟩
 .rintro E F1 ⟨rfl,o7,o8,o9,o10,o11,rfl⟩
  rw[C3,IB,Kx]
  have lw:(U5 P ps).length<=ps.length:=by
   have:=JL (λi=>!decide (i∈P)) (List.range ps.length)
   rw[Ih]at this;exact this
  have ls:(J1 P ps).length<=ps.length:=by
   have:=JL (λi=>!decide ((pAt ps i).2.1<=1)) P
   unfold J1;omega
  have eW:(U5 P ps).map (λi=>prD (i,pAt ps i))=(U5 P ps).map λi=>prD (i,N8 P (kb r) ps i):=Iv λi hi=>by
   have h2:i ∉ P:=by have:=(Iu.mp hi).2;simpa using this
   unfold N8;rw[HM h2]
  have eS:(J1 P ps).map (λi=>prD (i,fe (kb r) (pAt ps i)))=(J1 P ps).map λi=>prD (i,N8 P (kb r) ps i):=Iv λi hi=>by
   have h2:i∈P:=(Iu.mp hi).1
   unfold N8;rw[HH h2]
  have eA:(U5 P ps).map (λi=>prD (i,pAt ps i))++(J1 P ps).map (λi=>prD (i,fe (kb r) (pAt ps i)))=((U5 P ps++J1 P ps).map λi=>(i,N8 P (kb r) ps i)).map prD:=by
   rw[eW,eS,<-Ij,Ik];rfl
  have last:∀(E:DE) (st:PyData),st = .list ((w4 (tnB r) P ps).map λi=>prD (i,N8 P (kb r) ps i))->E=[some (.dat (.tuple [.int (h:Int),pl,r])),some (.dat (.tuple (ps.map pnD))),some (.dat r),some (.dat (.tuple (g9 P))),some (.dat (.list ((U5 P ps).map λi=>prD (i,pAt ps i)))),some (.own ((J1 P ps).map λi=>prD (i,fe (kb r) (pAt ps i)))),some (.own (g9 (M5 P ps))),o7,o8,o9,o10,some (.dat st)] ->
    wp (mRt (O9 (c6 (sV 11) (c6 (sV 3) (c6 (sN K7 (c6 (sW 6) h9)) h9)))) E F1) (tw Q):=by
   rintro E st rfl rfl
   walk_at "go"
   exact q
  refine i3 (i6.mpr (x4.mpr (iV.mpr (W1.mpr (v9.mpr (j5.mpr (l3 rfl (u9.mpr (c9 (um hr) (c9 rfl (R6 (λht=>?_) λht=>?_)))))))))))
  .refine v9.mpr (j5.mpr (l3 rfl (j5.mpr (X1 rfl (c9 (Au ?_) ⟨k8 rfl,i3 (last _ _ ?_ rfl)⟩)))))
   .rw[Hz,Hz];omega
   .rw[eA,Ik]
    unfold w4
    rw[HH ht]
    rfl
  .refine N3.mpr (b7.mpr (v9.mpr (j5.mpr (l3 rfl (j5.mpr (X1 rfl (c9 (Au ?_) (e8.mpr ?_))))))))
   .rw[Hz,Hz];omega
   .rw[eA]
    have hperm:=(dO hsub hnd).symm.map λi=>(i,N8 P (kb r) ps i)
    have hsrt:((w4 false P ps).map λi=>(i,N8 P (kb r) ps i)).Pairwise λa b=>a.1<b.1:=by
     rw[Jw];exact yj P ps
    have hlen:((U5 P ps++J1 P ps).map λi=>(i,N8 P (kb r) ps i)).length<64:=by
     rw[Hz,(dO hsub hnd).length_eq]
     have:=JL (λi=>!Q6 P ps i) (List.range ps.length)
     unfold w4
     rw[HM (by simp)]
     rw[Ih]at this
     omega
    refine c9 (wZ hperm hsrt hlen) ⟨k8 rfl,i3 (last _ _ ?_ rfl)⟩
    rw[ht,Ik]
    rfl
end
variable [Fam]
abbrev btD (b:Bt):PyData:=.tuple (b.map cmD)
abbrev stD (ps:List Pn):PyData:=.tuple (ps.map pnD)
theorem AW {way:List Bt}{i:Nat}{d:PyData}(h:(way.map btD)[i]? = some d):i<way.length/\d=btD (f8 way i):=by
 rw[HP]at h
 obtain⟨b,e,rfl⟩:=Ip.mp h
 obtain⟨hi,rfl⟩:=HG.mp e
 exact⟨hi,by unfold f8;simp[hi]⟩
theorem xy {way:List Bt}:J8 0 (way.map btD)=(List.range way.length).map λi=>.tuple [.int (i:Int),btD (f8 way i)]:=by
 have key:∀(l:List PyData) (k:Nat),J8 k l=(List.range l.length).map λi=>.tuple [.int ((k+i:Nat):Int),l.getD i .none]:=by
  intro l
  induction l with
  | nil=>intro k;rfl
  | cons d l ih =>
   intro k
   rw[J8,ih,HZ,Ko,HX,Ik]
   have e1:(PyData.tuple [.int (k:Int),d]) = .tuple [.int ((k+0:Nat):Int),(d::l).getD 0 .none]:=by simp
   rw[<-e1]
   refine IK (List.cons _) (Iv λi _=>?_)
   simp only[Function.comp,KA,LF]
   rw[show k+1+i=k+(i+1) by omega]
 rw[key,Hz]
 refine Iv λi hi=>?_
 have hi:=Ir.mp hi
 rw[IB,HJ,HP,HD hi]
 unfold f8
 rw[HJ,HD hi]
 rfl
theorem pO {n i:Nat}{d:PyData}{f:Nat->PyData}(h:((List.range n).map f)[i]? = some d):i<n/\d=f i:=by
 rw[HP]at h
 obtain⟨b,e,rfl⟩:=Ip.mp h
 obtain⟨hi,rfl⟩:=HG.mp e
 simp only[Ih]at hi
 exact⟨hi,by simp⟩
def lS (pl:Option Nat)(ps:List Pn)(bt:Bt):Nat:=bt.length-i7 pl ps.length bt.length
section
variable {F:FdS}{Q:PyData->FdS->Prop}
end
variable [Fam]
section
variable {F:FdS}{Q:PyData->FdS->Prop}
end
variable [Fam]
def ka (nm:List Str):List DV->M PyData:=X5 nm (mSq (dA 3 (dm h9))
  (mSq (D7 4 (sC (.int 0)))
  (mSq (bo (eE (c6 (p0 N7 (vF 0 (vD (s2 U1 (sW 1) (sC (.int 1))) D8))) h9)) (bN 5) (mSq (dA 6 (dm h9))
  (mSq (bo (eE (c6 (s2 ixD (sC (.list [.int 0,.int 0,.int 1,.int 1,.int 2,.int 3])) (p0 N7 (vF 0 (vD (sC (.int 6)) D8)))) h9)) (bN 7) (mIf (uB (s2 ltD (sW 4) (sC (.int 40)))) (mSq (cZ 6 (O9 (c6 (p0 N7 (vF 0 (vD (sC (.int 2)) D8))) (c6 (s2 U1 (sC (.int 1)) (p0 N7 (vF 0 (vD (sV 2) D8)))) h9))))
  (D7 4 (s2 U1 (sW 4) (sC (.int 1))))) mNx))
  (cZ 3 (sN K7 (c6 (sW 6) h9))))))
  (mRt (sN K7 (c6 (sW 3) h9))))))
def bM (nm:List Str):List DV->M PyData:=X5 ["_law_feed_here","_law_beats"] (mSq (D7 1 (s2 ixD (sC (.list [.int 5,.int 9,.int 14,.int 24])) (p0 N7 (vF 0 (vD (sC (.int 4)) D8)))))
  (mRt (p0 (ka nm) (vF 0 (vD (sV 1) (vD (s2 ixD (sC (.list [.int 1,.int 3,.int 6])) (p0 N7 (vF 0 (vD (sC (.int 3)) D8)))) D8))))))
def xQ (c:Int×Int):Prop:=0<=c.1/\c.1<=1/\1<=c.2/\c.2<=6
structure WayOk (n:Nat) (way:List Bt):Prop where
 len:way.length<=n
 many:G4 way<=40
 ok:∀b∈way,∀c∈b,xQ c
theorem mr (way:List Bt)(b:Bt):G4 (way++[b])=G4 way+b.length:=by
 unfold G4
 rw[Ij,Ml]
 rfl
theorem six {r:Int}(r0:0<=r)(r1:r<6):∃c:Nat,ixD (.list [.int 0,.int 0,.int 1,.int 1,.int 2,.int 3]) (.int r)=some (.int (c:Int))/\c<=3:=by
 have:r=0\/r=1\/r=2\/r=3\/r=4\/r=5:=by omega
 rcases this with rfl | rfl | rfl | rfl | rfl | rfl
 .exact⟨0,rfl,by decide⟩
 .exact⟨0,rfl,by decide⟩
 .exact⟨1,rfl,by decide⟩
 .exact⟨1,rfl,by decide⟩
 .exact⟨2,rfl,by decide⟩
 .exact⟨3,rfl,by decide⟩
theorem wa {nm:List Str}(hnm:nm.length=8){n w:Nat}(hn:n<=24)(w1:1<=w)(w2:w<=6):Tr (ka nm) [.feed,.dat (.int (n:Int)),.dat (.int (w:Int))] 170 (λd=>∃way:List Bt,d = .tuple (way.map btD)/\WayOk n way):=Tr.of λF hF=>by
 unfold ka
 refine cq.mpr ?_
 have es:p6 nm [.feed,.dat (.int (n:Int)),.dat (.int (w:Int))]=[some .feed,some (.dat (.int (n:Int))),some (.dat (.int (w:Int))),none,none,none,none,none]:=by unfold p6;rw[hnm];rfl
 rw[es]
 walk_at "go"
 refine O5 (by omega) (by omega) (by omega) λr F1 r0 r1 t1=>?_
 refine e8.mpr (c9 (fH (by omega) (by omega)) ?_)
 refine E3 (λm E F'=>F'.t<=F.t+1+7*m/\∃way:List Bt,∃o5 o6 o7,E=[some .feed,some (.dat (.int (n:Int))),some (.dat (.int (w:Int))),some (.own (way.map btD)),some (.dat (.int (G4 way:Nat))),o5,o6,o7]/\way.length=m/\G4 way<=40/\∀b∈way,∀c∈b,xQ c) _ 0 _ F1 ⟨by omega,[],none,none,none,rfl,rfl,by decide,λb hb=>by cases hb⟩ ?_ ?_
 .rintro m d e E F2 ⟨t2,way,o5,o6,o7,rfl,hw,hm,ho⟩
  have hi:=(HG.mp e).1
  rw[bQ]at hi
  refine⟨_,rfl,?_⟩
  walk_at "go"
  refine O5 (by decide) (by decide) (by omega) λr2 F3 r20 r21 t3=>?_
  obtain⟨c,ec,hc⟩:=six r20 r21
  refine c9 ec (e8.mpr (c9 (fH (by omega) (by omega)) ?_))
  refine E3 (λj E F'=>F'.t<=F2.t+1+2*j/\∃bt:Bt,∃o5 o7,E=[some .feed,some (.dat (.int (n:Int))),some (.dat (.int (w:Int))),some (.own (way.map btD)),some (.dat (.int (G4 way+bt.length:Nat))),o5,some (.own (bt.map cmD)),o7]/\bt.length<=j/\G4 way+bt.length<=40/\∀c∈bt,xQ c) _ 0 _ F3 ⟨by omega,[],_,_,rfl,HK _,hm,λb hb=>by cases hb⟩ ?_ ?_
  .rintro j d2 e2 E F4 ⟨t4,bt,o5,o7,rfl,hbl,hbm,hbo⟩
   have hj:=(HG.mp e2).1
   rw[bQ]at hj
   refine⟨_,rfl,?_⟩
   refine K4.mpr (W1.mpr (v9.mpr (j5.mpr (l3 rfl (u9.mpr (c9 rfl (c9 rfl (R6 (λhc=>?_) λhc=>?_))))))))
   .have hc:((G4 way+bt.length:Nat):Int)<40:=Iw hc
    refine i6.mpr (dX rfl (by rw[Hz];omega) ?_)
    walk_at "go"
    refine O5 (by decide) (by decide) (by omega) λa F5 a0 a1 t5=>?_
    walk_at "go"
    refine O5 (by omega) (by omega) (by omega) λb F6 b0 b1 t6=>?_
    walk_at "go"
    refine⟨_,rfl,by omega,bt++[(a,1+b)],o5,some (.dat d2),?_,by simp;omega,by simp;omega,λc hc=>?_⟩
    .have e1:(G4 way+(bt++[(a,1+b)]).length:Nat)=(G4 way+bt.length)+1:=by simp;omega
     rw[e1,Ij]
     rfl
    .rcases HC.mp hc with hc | hc
     .exact hbo c hc
     .simp only[Jd]at hc
      subst hc
      exact⟨a0,by show a<=1;omega,by show 1<=1+b;omega,by show 1+b<=6;omega⟩
   .exact X2.mpr ⟨_,rfl,by omega,bt,_,_,rfl,by omega,hbm,hbo⟩
  .rintro E F4 ⟨t4,bt,o5,o7,rfl,hbl,hbm,hbo⟩
   rw[bQ]at t4
   refine i3 (dX rfl (by rw[Hz];omega) ?_)
   walk_at "go"
   refine⟨_,rfl,by omega,way++[bt],o5,some (.own (bt.map cmD)),o7,?_,by simp[hw],by rw[mr];exact hbm,λb hb=>?_⟩
   .rw[mr,Ij];rfl
   .rcases HC.mp hb with hb | hb
    .exact ho b hb
    .simp only[Jd]at hb
     subst hb
     exact hbo
 .rintro E F2 ⟨t2,way,o5,o6,o7,rfl,hw,hm,ho⟩
  rw[bQ]at t2 hw
  walk_at "go"
  exact⟨by omega,way,rfl,by omega,hm,ho⟩
theorem uI {nm:List Str}(hnm:nm.length=8):Tr (bM nm) [.feed] 172 (λd=>∃way:List Bt,d = .tuple (way.map btD)/\WayOk 24 way):=Tr.of λF hF=>by
 unfold bM
 walk_at "go"
 refine O5 (by decide) (by decide) (by omega) λr F1 r0 r1 t1=>?_
 obtain⟨n,en,hn⟩:∃n:Nat,ixD (.list [.int 5,.int 9,.int 14,.int 24]) (.int r)=some (.int (n:Int))/\n<=24:=by
  have:r=0\/r=1\/r=2\/r=3:=by omega
  rcases this with rfl | rfl | rfl | rfl
  .exact⟨5,rfl,by decide⟩
  .exact⟨9,rfl,by decide⟩
  .exact⟨14,rfl,by decide⟩
  .exact⟨24,rfl,by decide⟩
 refine c9 en ?_
 walk_at "go"
 refine O5 (by decide) (by decide) (by omega) λr2 F2 r20 r21 t2=>?_
 obtain⟨w,ew,w1,w2⟩:∃w:Nat,ixD (.list [.int 1,.int 3,.int 6]) (.int r2)=some (.int (w:Int))/\1<=w/\w<=6:=by
  have:r2=0\/r2=1\/r2=2:=by omega
  rcases this with rfl | rfl | rfl
  .exact⟨1,rfl,by decide,by decide⟩
  .exact⟨3,rfl,by decide,by decide⟩
  .exact⟨6,rfl,by decide,by decide⟩
 refine c9 ew (L8.mpr ?_)
 refine(wa hnm hn w1 w2).wp (by omega) λd F3 t3 hd=>?_
 walk_at "go"
 obtain⟨way,rfl,hw⟩:=hd
 exact⟨by omega,way,rfl,⟨Im hw.len hn,hw.many,hw.ok⟩⟩
variable [Fam]
theorem zO {i j:Int}(h0:-(2 ^ 62)<=i)(h1:i<2 ^ 62)(h2:-(2 ^ 62)<=j)(h3:j<2 ^ 62):ju [.int i,.int j]=some (V4 i (j-i).toNat):=HH ⟨h0,h1,h2,h3⟩
variable [Fam]
def C2:List DV->M PyData:=X5 ["course","waited","gone_at","word","beat","waits"] (mSq (bu (M3 3 (i8 (bN 3) (i8 (bN 4) (i8 (bN 5) M1)))) (sV 0))
  (mSq (rK (λi j=>i+j) 5 (sIf (uT (sW 1)) (sC (.int 1)) (sC (.int 0))))
  (mSq (mIf (uB (s2 (isD false) (sW 2) (sC .none))) (mRt (O9 (c6 (sV 3) (c6 (sV 4) (c6 (sV 5) h9))))) mNx)
  (mRt (O9 (c6 (sC (.str "gone")) (c6 (sV 4) (c6 (sV 2) (c6 (sV 5) h9)))))))))
theorem Ba {i:Nat}{m:DE->M Out}{E:DE}{F:FdS}{ds:List PyData}{Q:Out->FdS->Prop}(he:R3 E i=some ds)(q:wp (m (E.set i (some (.dat (.list ds)))) F) Q):wp (sg i m E F) Q:=by
 unfold sg;rw[he,HY];exact q
theorem tH {f:Int->Int->Int}{i:Nat}{a:DE->M PyData}{E:DE}{F:FdS}{x:Int}{Q:Out->FdS->Prop}(he:E[i]? = some (some (.dat (.int x))))(q:wp (a E F) λd F1=>∃y:Int,d = .int y/\Q (.nx (E.set i (some (.dat (.int (f x y)))))) F1):wp (rK f i a E F) Q:=by
 unfold rK
 rw[he]
 dsimp only
 rw[b9]
 refine g7 q λd F1 ⟨y,e,q⟩=>?_
 subst e
 have hl:i<E.length:=(HG.mp he).1
 have e2:bN i (.int (f x y)) E=some (E.set i (some (.dat (.int (f x y))))):=by unfold bN;rw[HH hl]
 show wp ((bN i (.int (f x y)) E).bind _) Q
 rw[e2]
 exact a9.mpr q
theorem xV {a:DE->M (List PyData)}{E:DE}{F:FdS}{Q:PyData->FdS->Prop}(q:wp (a E F) λx F1=>oB (ju x) λds=>ds.length<=1000/\Q (.list ds) F1):wp (gO a E F) Q:=by
 unfold gO
 rw[b9]
 refine g7 q λx F1 ⟨ds,e,h1,q⟩=>?_
 rw[e,HY,HH h1]
 exact a9.mpr q
theorem yC {d:PyData}{k:Nat}(h:k<=1000):gA (.list [d]) (.int (k:Int))=some (.list (List.replicate k d)):=by
 have e:(List.replicate ((k:Int)).toNat [d]).flatten=List.replicate k d:=by
  rw[Jq]
  clear h
  induction k with
  | zero=>rfl
  | succ k ih=>rw[IZ,JO,ih,IZ];rfl
 rw[<-e]
 have hz:[d].length*((k:Int)).toNat<=sizeLine:=sz (by rw[Jq];show 1*k<=_;omega)
 have h1:-(2 ^ 63)<=(k:Int):=by omega
 have h2:(k:Int)<2 ^ 63:=by omega
 generalize (k:Int)=i at hz h1 h2
 exact HH ⟨h1,h2,hz⟩
theorem jG {l:List Nat}{i:Nat}(hl:∀j∈l,j<=1000):inD false (.int (i:Int)) (.tuple (g9 l))=some (.bool (decide (i∈l))):=by
 have h:=cW (i:=i) hl
 have hs:SeqAt.shaped (.tuple (g9 l))=true:=(fq hl).shaped (by decide) (by decide)
 have hi:SeqAt.shaped (.int (i:Int))=true:=by simp[SeqAt.shaped,PyData.canLay0,PyData.depth]
 have e1:inD true (.int (i:Int)) (.tuple (g9 l))=some (.bool (!((g9 l).any λy=>y.eqv (.int (i:Int))))):=by
  show(if SeqAt.shaped (.tuple (g9 l))=true/\SeqAt.shaped (.int (i:Int))=true then _ else none)=_
  rw[HH ⟨hs,hi⟩,HH rfl]
 rw[e1]at h
 have e2:inD false (.int (i:Int)) (.tuple (g9 l))=some (.bool ((g9 l).any λy=>y.eqv (.int (i:Int)))):=by
  show(if SeqAt.shaped (.tuple (g9 l))=true/\SeqAt.shaped (.int (i:Int))=true then _ else none)=_
  rw[HH ⟨hs,hi⟩,HM (by decide)]
 rw[e2]
 have h3:(!((g9 l).any λy=>y.eqv (.int (i:Int)))) = !decide (i∈l):=by
  injection h with h
  injection h
 have h4:((g9 l).any λy=>y.eqv (.int (i:Int)))=decide (i∈l):=by
  generalize ((g9 l).any λy=>y.eqv (.int (i:Int)))=x at h3
  generalize decide (i∈l)=y at h3
  cases x <;> cases y <;> simp_all
 rw[h4]
abbrev wH (a w:Nat):PyData:=.tuple [.str "in",.int (a:Int),.int (w:Int)]
abbrev goD (a m w:Nat):PyData:=.tuple [.str "gone",.int (a:Int),.int (m:Int),.int (w:Int)]
section
variable {F:FdS}{Q:PyData->FdS->Prop}
theorem uM {a w:Nat}{b:Bool}(q:Q (wH a (w+if b then 1 else 0)) F):wp (C2 [.dat (wH a w),.dat (.bool b),.dat .none] F) Q:=by
 unfold C2
 refine cq.mpr ?_
 dsimp only[p6,HX,Jb,HZ,JG,List.replicate,Jv,Jh,Nat.reduceAdd,Nat.reduceSub]
 refine i6.mpr (P7.mpr (n6.mpr (n8 rfl (c9 rfl (i3 (i6.mpr (tH (x:=(w:Int)) rfl (iV.mpr (lI.mpr (j5.mpr (l3 rfl (c9 rfl (R6 (λhb=>?_) λhb=>?_)))))))))))))
 .refine u9.mpr ⟨1,rfl,i3 (i6.mpr (K4.mpr (W1.mpr (v9.mpr (j5.mpr (l3 rfl (u9.mpr (c9 rfl (c9 rfl (N6 rfl ?_))))))))))⟩
  rw[hb,HH rfl]at q
  exact U0.mpr (K6.mpr (b7.mpr (n6.mpr (n8 rfl (b7.mpr (n6.mpr (n8 rfl (b7.mpr (n6.mpr (n8 rfl (e8.mpr ⟨x8 rfl,kT (X9 q)⟩)))))))))))
 .refine u9.mpr ⟨0,rfl,i3 (i6.mpr (K4.mpr (W1.mpr (v9.mpr (j5.mpr (l3 rfl (u9.mpr (c9 rfl (c9 rfl (N6 rfl ?_))))))))))⟩
  rw[hb,HM (by simp)]at q
  have e:(w:Int)+0=((w+0:Nat):Int):=by omega
  rw[<-show((w+0:Nat):Int)=(w:Int)+0 from by omega] at *
  exact U0.mpr (K6.mpr (b7.mpr (n6.mpr (n8 rfl (b7.mpr (n6.mpr (n8 rfl (b7.mpr (n6.mpr (n8 rfl (e8.mpr ⟨x8 rfl,kT (X9 q)⟩)))))))))))
theorem oy {a w m:Nat}(q:Q (goD a m w) F):wp (C2 [.dat (wH a w),.dat (.bool false),.dat (.int (m:Int))] F) Q:=by
 unfold C2
 refine cq.mpr ?_
 dsimp only[p6,HX,Jb,HZ,JG,List.replicate,Jv,Jh,Nat.reduceAdd,Nat.reduceSub]
 refine i6.mpr (P7.mpr (n6.mpr (n8 rfl (c9 rfl (i3 (i6.mpr (tH (x:=(w:Int)) rfl (iV.mpr (lI.mpr (j5.mpr (l3 rfl (c9 rfl (n5 rfl (u9.mpr ⟨0,rfl,i3 (i6.mpr (K4.mpr (W1.mpr (v9.mpr (j5.mpr (l3 rfl (u9.mpr (c9 rfl (c9 rfl (n5 rfl (X2.mpr (i3 ?_))))))))))))⟩))))))))))))))
 exact U0.mpr (K6.mpr (b7.mpr (u9.mpr (b7.mpr (n6.mpr (n8 rfl (b7.mpr (n6.mpr (n8 rfl (b7.mpr (n6.mpr (n8 rfl (e8.mpr ⟨x8 rfl,X9 (by rw[Int.add_zero];exact q)⟩)))))))))))))
end
end
section
section
variable (h:Nat)(way:List Bt)
end
section
variable {h:Nat}{way:List Bt}{m:Nat}
end
end
section
variable [Fam]
section
variable {F:FdS}{Q:PyData->FdS->Prop}
theorem vK (a b:Nat):V4 (a:Int) b=g9 ((List.range b).map (a + ·)):=by
 unfold V4 g9
 rw[Ik]
 refine Iv λi _=>?_
 show PyData.int ((a:Int)+(i:Int)) = .int ((a+i:Nat):Int)
 have e2:((a+i:Nat):Int)=(a:Int)+(i:Int):=by omega
 rw[e2]
theorem sD (l:List Nat):J8 0 (g9 l)=(List.range l.length).map λi=>.tuple [.int (i:Int),.int (l.getD i 0:Nat)]:=by
 have key:∀(l:List PyData) (k:Nat),J8 k l=(List.range l.length).map λi=>.tuple [.int ((k+i:Nat):Int),l.getD i .none]:=by
  intro l
  induction l with
  | nil=>intro k;rfl
  | cons d l ih =>
   intro k
   rw[J8,ih,HZ,Ko,HX,Ik]
   have e1:(PyData.tuple [.int (k:Int),d]) = .tuple [.int ((k+0:Nat):Int),(d::l).getD 0 .none]:=by simp
   rw[<-e1]
   refine IK (List.cons _) (Iv λi _=>?_)
   simp only[Function.comp,KA,LF]
   rw[show k+1+i=k+(i+1) by omega]
 rw[key,C3]
 refine Iv λi hi=>?_
 have hi:=Ir.mp hi
 unfold g9
 rw[IB,HJ,HP,HD hi,HJ,HD hi]
 rfl
end
variable [Fam]
section
variable {F:FdS}{Q:PyData->FdS->Prop}
end
end
section
def FI (K:Fg)(x:Str)(st:Stmt):Prop:=∃(f:Addr) (oc:Value) (od:Option Addr) (kV doc pm:Value) (an:Option Addr) (cdv ct:Value) (osl:Array (Option Value)),
 PySem.W.nsIn K mainGlobals x=some (some (.ref f))/\K.lookup f=some ⟨oc,od,.func (PySem.W.fnOf x x (defArgs st) (defBody st) (defScope st) .none kV doc pm an cdv ct),osl⟩/\PySem.W.codeIn K cdv x=true/\PySem.W.keepIn K (.ref f)=true
variable {P:Program}{w:World}{K:Fg}{mg:Str->Option Value}{base h:Heap}{x q:Str}{st:Stmt}{f:Addr}{fd:FuncData}{ps:List Str}{k:Nat}{sp:Sp}
theorem FI.of {oc:Value}{od:Option Addr}{kV doc pm:Value}{an:Option Addr}{cdv ct:Value}{osl:Array (Option Value)}(a:PySem.W.nsIn K mainGlobals x=some (some (.ref f)))(b:K.lookup f=some ⟨oc,od,.func (PySem.W.fnOf x x (defArgs st) (defBody st) (defScope st) .none kV doc pm an cdv ct),osl⟩)
  (c:PySem.W.codeIn K cdv x=true) (d:PySem.W.keepIn K (.ref f)=true):FI K x st:=⟨f,oc,od,kV,doc,pm,an,cdv,ct,osl,a,b,c,d⟩
theorem FI.mk (X:K.In h)(G:h.Ns mainGlobals mg)(ps:List Str)(F:FI K x st)
  (hb:∀(kV doc pm:Value) (an:Option Addr) (cdv ct:Value) (us:List Value),us.length=ps.length->bindArgs (PySem.W.fnOf x x (defArgs st) (defBody st) (defScope st) .none kV doc pm an cdv ct) ⟨us,[]⟩=pure (ps.zip us)) :
  ∃f fd,Fun K x x st f fd/\mg x=some (.ref f)/\dZ K fd ps []/\(∃oc od osl,K.lookup f=some ⟨oc,od,.func fd,osl⟩)/\PySem.W.nsIn K mainGlobals x=some (some (.ref f)):=by
 obtain⟨f,oc,od,kV,doc,pm,an,cdv,ct,osl,a,b,c,d⟩:=F
 have Fn:=fun_mk b c d
 exact⟨f,_,Fn,Ln X G a,Fn.binds hb,⟨oc,od,osl,b⟩,a⟩
theorem cal (P:Program)(w:World)(base:Heap)(F:FnOk P w K mg base CX0 k f fd ps sp)(m:mg x=some (.ref f))(Fn:Fun K x q st f fd)(b:dZ K fd ps []):j8 P w K mg base x k ps sp:=⟨f,fd,F,m,Fn.kp,b⟩
end
section
end
section
end
section
class Regs where
 S:Type
 Reg:Fg->Hp->Hp->Addr->S->List Addr->Prop
 keep:∀{K:Fg} {V V' H H':Hp} {d:Addr} {μ:S} {A:List Addr},Reg K V H d μ A->d8 V V'->(∀a∈A,H' a=H a)->Reg K V' H' d μ A
 has:∀{K:Fg} {V H:Hp} {d:Addr} {μ:S} {A:List Addr},Reg K V H d μ A->∀a∈A,∃o,H a=some o
 lam:List Str
@[reducible] def E7 [Regs]:Feeds where
 S:=Regs.S
 At:=λ_ _ _ _=>False
 some1:=λh=>h.elim
 some2:=λh=>h.elim
 congr:=λh _ _=>h.elim
 lam:=Regs.lam
def v6 (E:DE)(i:Nat):Option Addr:=match E[i]? with
 | some (some (.adr a))=>some a
 | _=>none
section
variable [Regs]
local instance regI:Feeds:=E7
structure SitMB (K:Fg) (i0:Nat) (d:Addr) (B0 A0:List Addr) (H0:Hp) (B A:List Addr) (E:DE) (μ:FS) (σ:St) (H:Hp):Prop where
 s:∀b∈B0,b∈B
 sn:∀b∈B,b∈B0\/H0 b=none
 I:SitE K none B E μ σ H
 rg:Regs.Reg K (hid H B) H d μ A
 aB:∀a∈A,a∈B/\a ∉ tabP K/\(a∈A0\/(H0 a=none/\a ∉ B0))
 pin:v6 E i0=some d
 tB:∀b∈tabP K,b∈B0
 a0:∀a∈A0,a∈B0
 kp:∀b o,H0 b=some o->b ∉ tabP K->b ∉ A0->H b=some o
 own:∀(i:Nat) (ds:List PyData) (a:Addr),E[i]? = some (some (DV.own ds))->σ[i]? = some (some (V.ref a))->(H0 a=none/\a ∉ B0)/\a ∉ A
 inj:∀(i j:Nat) (ds es:List PyData) (a:Addr),E[i]? = some (some (DV.own ds))->E[j]? = some (some (DV.own es))->σ[i]? = some (some (V.ref a))->σ[j]? = some (some (V.ref a))->i=j
structure EndM (K:Fg) (d:Addr) (B0 A0:List Addr) (H0:Hp) (μ:FS) (H:Hp) (A:List Addr):Prop where
 rg:Regs.Reg K (hid H (A++B0)) H d μ A
 aB:∀a∈A,a ∉ tabP K/\(a∈A0\/(H0 a=none/\a ∉ B0))
 kp:∀b o,H0 b=some o->b ∉ tabP K->b ∉ A0->H b=some o
 tb:z9 (tabsK Feeds.lam K) H
 bk:BOk H B0
def AD (K:Fg)(i0:Nat)(d:Addr)(B0 A0:List Addr)(H0:Hp)(μ:FS)(D:Ends):Out->Prop
 | .nx E=>∀B A σ H,SitMB K i0 d B0 A0 H0 B A E μ σ H->D.nx σ H
 | .bk E=>∀B A σ H,SitMB K i0 d B0 A0 H0 B A E μ σ H->D.bk σ H
 | .ct E=>∀B A σ H,SitMB K i0 d B0 A0 H0 B A E μ σ H->D.ct σ H
 | .rt r=>∀v H A,EndM K d B0 A0 H0 μ H A->a7 K (hid H (A++B0)) r v->D.rt v H
def TSm (K:Fg)(i0:Nat)(ts:TS)(m:DE->M Out):Prop:=∀(d:Addr) (B0 A0:List Addr) (H0:Hp) (B A:List Addr) (E:DE) (μ:FS) (σ:St) (H:Hp) (D:Ends) (r:Out) (μ':FS),SitMB K i0 d B0 A0 H0 B A E μ σ H->m E μ=some (r,μ')->AD K i0 d B0 A0 H0 μ' D r->ts D σ H
def TEm (K:Fg)(i0:Nat)(te:TE)(m:DE->M PyData):Prop:=∀(d:Addr) (B0 A0:List Addr) (H0:Hp) (B A:List Addr) (E:DE) (μ:FS) (σ:St) (H:Hp) (Q:VK) (r:PyData) (μ':FS),SitMB K i0 d B0 A0 H0 B A E μ σ H->m E μ=some (r,μ') ->
 (∀v H' B' A',SitMB K i0 d B0 A0 H0 B' A' E μ' σ H'->d8 (hid H B) (hid H' B')->a7 K (hid H' B') r v->Q v H')->te σ H Q
def TTm (K:Fg)(i0:Nat)(tt:TT)(m:DE->M Bool):Prop:=∀(d:Addr) (B0 A0:List Addr) (H0:Hp) (B A:List Addr) (E:DE) (μ:FS) (σ:St) (H:Hp) (Q:Bool->Hp->Prop) (r:Bool) (μ':FS),SitMB K i0 d B0 A0 H0 B A E μ σ H->m E μ=some (r,μ') ->
 (∀H' B' A',SitMB K i0 d B0 A0 H0 B' A' E μ' σ H'->d8 (hid H B) (hid H' B')->Q r H')->tt σ H Q
def TAm (K:Fg)(i0:Nat)(ta:TA)(m:DE->M (List PyData)):Prop:=∀(d:Addr) (B0 A0:List Addr) (H0:Hp) (B A:List Addr) (E:DE) (μ:FS) (σ:St) (H:Hp) (Q:List V->Hp->Prop) (r:List PyData) (μ':FS),SitMB K i0 d B0 A0 H0 B A E μ σ H->m E μ=some (r,μ') ->
 (∀vs H' B' A',SitMB K i0 d B0 A0 H0 B' A' E μ' σ H'->d8 (hid H B) (hid H' B')->a6 K (hid H' B') r vs->Q vs H')->ta σ H Q
structure SmR (K:Fg) (X:Cx) (i0:Nat) (st:Stmt) (ts:TS) (m:DE->M Out):Prop where
 ps:PS X st ts
 ok:TSm K i0 ts m
structure SmsR (K:Fg) (X:Cx) (i0:Nat) (sts:List Stmt) (ts:TS) (m:DE->M Out):Prop where
 ps:PSs X sts ts
 ok:TSm K i0 ts m
structure Em (K:Fg) (X:Cx) (i0:Nat) (e:Expr) (te:TE) (m:DE->M PyData):Prop where
 pe:PE X e te
 ok:TEm K i0 te m
structure Etm (K:Fg) (X:Cx) (i0:Nat) (e:Expr) (tt:TT) (m:DE->M Bool):Prop where
 pt:PT X e tt
 ok:TTm K i0 tt m
structure Eam (K:Fg) (X:Cx) (i0:Nat) (es:List Expr) (ta:TA) (m:DE->M (List PyData)):Prop where
 pa:PA X es ta
 ok:TAm K i0 ta m
variable {K:Fg}{X:Cx}{i0:Nat}{a b c e tg iter:Expr}{es:List Expr}{st:Stmt}{sts rest:List Stmt}{ta tb te:TE}{ma mb m:DE->M PyData}{t u:TS}{mt mu:DE->M Out}{pos pos' p p2:Pos}
section
variable {d:Addr}{B0 A0:List Addr}{H0:Hp}{B A:List Addr}{E E':DE}{μ:FS}{σ σ':St}{H H':Hp}
theorem SitMB.step (S:SitMB K i0 d B0 A0 H0 B A E μ σ H)(k:Kp (tabP K) H H')(f:z9 (tabsK Feeds.lam K) H'):SitMB K i0 d B0 A0 H0 B A E μ σ H' :=
 have fB:∀b∈tabP K,b∈B:=λb hb=>S.s b (S.tB b hb)
 ⟨S.s,S.sn,S.I.step (G:=none) k ⟨trivial,f⟩,Regs.keep S.rg (k.hid fB) λa ha=>by
   obtain⟨o,e⟩:=Regs.has S.rg a ha
   rw[e];exact k a o e (S.aB a ha).2.1,S.aB,S.pin,S.tB,S.a0,λb o e n1 n2=>k b o (S.kp b o e n1 n2) n1,S.own,S.inj⟩
theorem SitMB.sm (S:SitMB K i0 d B0 A0 H0 B A E μ σ H)(k:Kp (tabP K) H H'):d8 (hid H B) (hid H' B):=k.hid λb hb=>S.s b (S.tB b hb)
theorem SitMB.bind (S:SitMB K i0 d B0 A0 H0 B A E μ σ H)(I:SitE K none B E' μ σ' H)(fr:∀i:Nat,(∀y,E'[i]? ≠ some (some (.dat y)))->E'[i]? = E[i]? /\ σ'[i]? = σ[i]?)(hp:v6 E' i0=v6 E i0):SitMB K i0 d B0 A0 H0 B A E' μ σ' H:=by
 refine⟨S.s,S.sn,I,S.rg,S.aB,hp.trans S.pin,S.tB,S.a0,S.kp,λi ds a ei si=>?_,λi j ds es a ei ej si sj=>?_⟩
 .obtain⟨a1,a2⟩:=fr i λy z=>by rw[ei]at z;cases z
  exact S.own i ds a (a1▸ei) (a2▸si)
 .obtain⟨a1,a2⟩:=fr i λy z=>by rw[ei]at z;cases z
  obtain⟨b1,b2⟩:=fr j λy z=>by rw[ej]at z;cases z
  exact S.inj i j ds es a (a1▸ei) (b1▸ej) (a2▸si) (b2▸sj)
theorem SitMB.fin (S:SitMB K i0 d B0 A0 H0 B A E μ σ H):EndM K d B0 A0 H0 μ H A/\d8 (hid H B) (hid H (A++B0)):=by
 have sub:∀b∈A++B0,b∈B:=λb hb=>by
  rcases HC.mp hb with h | h
  .exact(S.aB b h).1
  .exact S.s b h
 exact⟨⟨Regs.keep S.rg (G6 sub) λ_ _=>rfl,λa ha=>(S.aB a ha).2,S.kp,S.I.fd.2,λb hb=>S.I.bk b (S.s b hb)⟩,G6 sub⟩
theorem SitMB.base (S:SitMB K i0 d B0 A0 H0 B A E μ σ H):SitMB K i0 d B0 A0 (G2 H B B0) B A E μ σ H:=by
 refine⟨S.s,λb hb=>?_,S.I,S.rg,λa ha=>?_,S.pin,S.tB,S.a0,λb o e _ _=>c7 b o e,λi ds a ei si=>?_,S.inj⟩
 .by_cases h:b∈B0
  .exact .inl h
  .exact .inr (L0 hb h)
 .obtain⟨h1,h2,h3⟩:=S.aB a ha
  exact⟨h1,h2,h3.imp id λh=>⟨L0 h1 h.2,h.2⟩⟩
 .obtain⟨v,v1,a',xs,rfl,hB,_⟩:=S.I.loc i _ ei
  rw[v1]at si;cases si
  obtain⟨h1,h2⟩:=S.own i ds _ ei v1
  exact⟨⟨L0 hB h1.2,h1.2⟩,h2⟩
theorem SitMB.no (S:SitMB K i0 d B0 A0 H0 B A E μ σ H)(b:Addr)(e:G2 H B B0 b=none):b∈B0\/H0 b=none:=by
 by_cases hb:b∈B
 .exact S.sn b hb
 .rw[B7 (.inl hb)]at e
  cases q:H0 b with
  | none=>exact .inr rfl
  | some o =>
   have h0:b ∉ B0:=λz=>hb (S.s b z)
   rw[S.kp b o q (λz=>h0 (S.tB b z)) λz=>h0 (S.a0 b z)]at e;cases e
theorem SitMB.cutkp (S:SitMB K i0 d B0 A0 H0 B A E μ σ H)(k:∀b o,G2 H B B0 b=some o->b ∉ tabP K->b ∉ A0->H' b=some o):∀b o,H0 b=some o->b ∉ tabP K->b ∉ A0->H' b=some o:=λb o e n1 n2=>by
 refine k b o ?_ n1 n2
 rw[B7]
 .exact S.kp b o e n1 n2
 .by_cases hb:b∈B
  .rcases S.sn b hb with h | h
   .exact .inr h
   .rw[h]at e;cases e
  .exact .inl hb
theorem SitMB.unbase {B' A':List Addr}{μ':FS}(S:SitMB K i0 d B0 A0 H0 B A E μ σ H)(S2:SitMB K i0 d B0 A0 (G2 H B B0) B' A' E' μ' σ' H'):SitMB K i0 d B0 A0 H0 B' A' E' μ' σ' H':=by
 refine⟨S2.s,λb hb=>(S2.sn b hb).elim .inl λh=>S.no b h,S2.I,S2.rg,λa ha=>?_,S2.pin,S2.tB,S2.a0,S.cutkp S2.kp,λi ds a ei si=>?_,S2.inj⟩
 .obtain⟨h1,h2,h3⟩:=S2.aB a ha
  exact⟨h1,h2,h3.imp id λh=>⟨(S.no a h.1).resolve_left h.2,h.2⟩⟩
 .obtain⟨h1,h2⟩:=S2.own i ds a ei si
  exact⟨⟨(S.no a h1.1).resolve_left h1.2,h1.2⟩,h2⟩
theorem SitMB.unend {A':List Addr}{μ':FS}(S:SitMB K i0 d B0 A0 H0 B A E μ σ H)(S2:EndM K d B0 A0 (G2 H B B0) μ' H' A'):EndM K d B0 A0 H0 μ' H' A':=by
 refine⟨S2.rg,λa ha=>?_,S.cutkp S2.kp,S2.tb,S2.bk⟩
 obtain⟨h2,h3⟩:=S2.aB a ha
 exact⟨h2,h3.imp id λh=>⟨(S.no a h.1).resolve_left h.2,h.2⟩⟩
theorem SitMB.stab {B' A':List Addr}{μ':FS}(S:SitMB K i0 d B0 A0 H0 B A E μ σ H)(S2:SitMB K i0 d B0 A0 (G2 H B B0) B' A' E' μ' σ' H'):d8 (hid H B) (hid H' B'):=λb o eb=>by
 by_cases hB:b∈B
 .rw[u7 hB]at eb;cases eb
 .rw[d7 hB]at eb
  have h0:b ∉ B0:=λz=>hB (S.s b z)
  have ec:G2 H B B0 b=some o:=by rw[B7 (.inl hB)];exact eb
  rw[d7 λz=>(S2.sn b z).elim h0 λh=>by rw[h]at ec;cases ec]
  exact S2.kp b o ec (λz=>h0 (S2.tB b z)) λz=>h0 (S2.a0 b z)
end
def mE {α:Type}(m:DE->M α):DE->M α:=λE μ=>(m E μ).bind λp=>some (p.1,μ)
theorem zI (h:TEd K te m):TEm K i0 te (mE m):=λd B0 A0 H0 B A E μ σ H Q r μ' S e q=>by
 obtain⟨⟨x,μ1⟩,e1,e⟩:=bS9 e
 cases e
 exact h none B E μ σ H _ x μ1 S.I e1 λv H1 k1 f1 h1=>q v H1 B A (S.step k1 f1.2) (S.sm k1) h1
theorem zK {tt:TT}{m:DE->M Bool}(h:TTd K tt m):TTm K i0 tt (mE m):=λd B0 A0 H0 B A E μ σ H Q r μ' S e q=>by
 obtain⟨⟨x,μ1⟩,e1,e⟩:=bS9 e
 cases e
 exact h none B E μ σ H _ x μ1 S.I e1 λH1 k1 f1=>q H1 B A (S.step k1 f1.2) (S.sm k1)
theorem mU (h:Ev K X e te m):Em K X i0 e te (mE m):=⟨h.pe,zI h.ok⟩
theorem Be {tt:TT}{m:DE->M Bool}(h:Et K X e tt m):Etm K X i0 e tt (mE m):=⟨h.pt,zK h.ok⟩
def aW (i0:Nat)(E:DE)(μ:FS):Out->Option (Out×FS)
 | .nx E1=>if v6 E1 i0=v6 E i0 then some (.nx E1,μ) else none
 | .bk E1=>if v6 E1 i0=v6 E i0 then some (.bk E1,μ) else none
 | .ct E1=>if v6 E1 i0=v6 E i0 then some (.ct E1,μ) else none
 | .rt d=>some (.rt d,μ)
def mL (i0:Nat)(m:DE->M Out):DE->M Out:=λE μ=>(m E μ).bind λp=>aW i0 E μ p.1
theorem zF (h:TSd K t mt):TSm K i0 t (mL i0 mt):=λd B0 A0 H0 B A E μ σ H D r μ' S e q=>by
 obtain⟨⟨x,μ1⟩,e1,e⟩:=bS9 e
 have sub:∀b∈B0++A,b∈B:=λb hb=>by
  rcases HC.mp hb with h | h
  .exact S.s b h
  .exact(S.aB b h).1
 have St:Sit K none (B0++A) (G2 H B (B0++A)) E μ σ H:=by
  refine⟨⟨B,sub,λb hb=>?_,S.I⟩,λb hb=>HC.mpr (.inl (S.tB b hb)),Kp.same c7,λi ds a ei si=>?_,S.inj⟩
  .by_cases h:b∈B0++A
   .exact .inl h
   .exact .inr (L0 hb h)
  .obtain⟨v,v1,a',xs,rfl,hB,_⟩:=S.I.loc i _ ei
   rw[v1]at si;cases si
   obtain⟨h1,h2⟩:=S.own i ds _ ei v1
   have:a ∉ B0++A:=λz=>(HC.mp z).elim h1.2 h2
   exact⟨L0 hB this,this⟩
 have kp0:∀{H2:Hp},Kp (tabP K) (G2 H B (B0++A)) H2->∀b o,H0 b=some o->b ∉ tabP K->b ∉ A0->H2 b=some o:=λ{H2} k b o eb n1 n2=>by
  refine k b o ?_ n1
  rw[B7]
  .exact S.kp b o eb n1 n2
  .by_cases hb:b∈B
   .rcases S.sn b hb with h | h
    .exact .inr (HC.mpr (.inl h))
    .rw[h]at eb;cases eb
   .exact .inl hb
 have atA:∀{H2:Hp},Kp (tabP K) (G2 H B (B0++A)) H2->∀a∈A,H2 a=H a:=λ{H2} k a ha=>by
  obtain⟨o,ea⟩:=Regs.has S.rg a ha
  rw[ea]
  refine k a o ?_ (S.aB a ha).2.1
  rw[B7 (.inr (HC.mpr (.inr ha)))];exact ea
 have vis:∀{H2:Hp} {B2:List Addr},Kp (tabP K) (G2 H B (B0++A)) H2->(∀b∈B2,b∈B0++A\/G2 H B (B0++A) b=none)->d8 (hid H B) (hid H2 B2):=λ{H2 B2} k sn2 b o eb=>by
  by_cases hB:b∈B
  .rw[u7 hB]at eb;cases eb
  .rw[d7 hB]at eb
   have ec:G2 H B (B0++A) b=some o:=by rw[B7 (.inl hB)];exact eb
   rw[d7 λz=>(sn2 b z).elim (λh=>hB (sub b h)) λh=>by rw[h]at ec;cases ec]
   exact k b o ec λz=>hB (S.s b (S.tB b z))
 have no:∀b,G2 H B (B0++A) b=none->b∈B0\/H0 b=none:=λb eb=>by
  by_cases hb:b∈B
  .exact S.sn b hb
  .rw[B7 (.inl hb)]at eb
   cases q:H0 b with
   | none=>exact .inr rfl
   | some o =>
    have h0:b ∉ B0:=λz=>hb (S.s b z)
    rw[S.kp b o q (λz=>h0 (S.tB b z)) λz=>h0 (S.a0 b z)]at eb;cases eb
 have again:∀{E1:DE},v6 E1 i0=v6 E i0->∀σ2 H2,Sit K none (B0++A) (G2 H B (B0++A)) E1 μ1 σ2 H2->∃B2,SitMB K i0 d B0 A0 H0 B2 A E1 μ σ2 H2:=λ{E1} hp σ2 H2 S2=>by
  obtain⟨B2,s2,sn2,I2⟩:=S2.ex
  refine⟨B2,λb hb=>s2 b (HC.mpr (.inl hb)),λb hb=>?_,⟨⟨trivial,I2.fd.2⟩,I2.fB,I2.bk,I2.ln,I2.loc⟩,Regs.keep S.rg (vis S2.kp sn2) (atA S2.kp),λa ha=>⟨s2 a (HC.mpr (.inr ha)),(S.aB a ha).2⟩,hp.trans S.pin,S.tB,S.a0,kp0 S2.kp,λi ds a ei si=>?_,S2.inj⟩
  .rcases sn2 b hb with h | h
   .rcases HC.mp h with h | h
    .exact .inl h
    .exact S.sn b (S.aB b h).1
   .exact no b h
  .obtain⟨h1,h2⟩:=S2.own i ds a ei si
   have h3:a ∉ B0:=λz=>h2 (HC.mpr (.inl z))
   exact⟨⟨(no a h1).resolve_left h3,h3⟩,λz=>h2 (HC.mpr (.inr z))⟩
 refine h none (B0++A) (G2 H B (B0++A)) E μ σ H D x μ1 St e1 ?_
 cases x with
 | nx E1 =>
  unfold aW at e
  dsimp only at e
  split at e
  .rename_i hp
   cases e
   exact λσ2 H2 S2=>by obtain⟨B2,z⟩:=again hp σ2 H2 S2;exact q B2 A σ2 H2 z
  .cases e
 | bk E1 =>
  unfold aW at e
  dsimp only at e
  split at e
  .rename_i hp
   cases e
   exact λσ2 H2 S2=>by obtain⟨B2,z⟩:=again hp σ2 H2 S2;exact q B2 A σ2 H2 z
  .cases e
 | ct E1 =>
  unfold aW at e
  dsimp only at e
  split at e
  .rename_i hp
   cases e
   exact λσ2 H2 S2=>by obtain⟨B2,z⟩:=again hp σ2 H2 S2;exact q B2 A σ2 H2 z
  .cases e
 | rt y =>
  cases e
  intro v H2 k2 f2 h2
  have ww:d8 (hid H2 (B0++A)) (hid H2 (A++B0)):=G6 λb hb=>HC.mpr ((HC.mp hb).symm)
  refine q v H2 A ⟨Regs.keep S.rg ((vis k2 λb hb=>.inl hb).trans ww) (atA k2),λa ha=>(S.aB a ha).2,kp0 k2,f2.2,λb hb=>?_⟩ (h2.same ww)
  by_cases hb':b∈tabP K
  .exact f2.bok b hb'
  .obtain⟨o,eo⟩:=S.I.bk b (S.s b hb)
   refine⟨o,k2 b o ?_ hb'⟩
   rw[B7 (.inr (HC.mpr (.inl hb)))];exact eo
theorem sU (h:Ss K X st t mt):SmR K X i0 st t (mL i0 mt):=⟨h.ps,zF h.ok⟩
end
end
section
def gJ (i0:Nat)(bd:PyData->DE->Option DE):Prop:=∀x E E',bd x E=some E'->v6 E' i0=v6 E i0
def kl (i0:Nat)(bd:List PyData->DE->Option DE):Prop:=∀x E E',bd x E=some E'->v6 E' i0=v6 E i0
theorem V6 {i0 j:Nat}(h:j≠i0):gJ i0 (bN j):=λx E E' e=>by
 unfold bN at e
 split at e
 .cases e
  unfold v6
  rw[HL h]
 .cases e
theorem iK {i0:Nat}:kl i0 M1:=λx E E' e=>by
 unfold M1 at e
 split at e
 .cases e;rfl
 .cases e
theorem Q1 {i0:Nat}{f:PyData->DE->Option DE}{r:List PyData->DE->Option DE}(h1:gJ i0 f)(h2:kl i0 r):kl i0 (i8 f r):=λx E E' e=>by
 unfold i8 at e
 split at e
 .obtain⟨E1,e1,e⟩:=bS9 e
  exact(h2 _ _ _ e).trans (h1 _ _ _ e1)
 .cases e
theorem ja {i0 n:Nat}{r:List PyData->DE->Option DE}(h:kl i0 r):gJ i0 (M3 n r):=λx E E' e=>by
 unfold M3 at e
 split at e
 .split at e
  .exact h _ _ _ e
  .cases e
 .cases e
section
variable [Regs]
local instance regI2:Feeds:=E7
variable {K:Fg}{X:Cx}{i0:Nat}{a b c e tg iter:Expr}{es:List Expr}{st:Stmt}{sts rest:List Stmt}{ta tb te:TE}{ma mb m:DE->M PyData}{t u:TS}{mt mu:DE->M Out}{pos pos' p p2:Pos}
theorem AA:SmsR K X i0 [] uC mNx:=⟨fE,λd B0 A0 H0 B A E μ σ H D r μ' S e q=>by cases e;exact q B A σ H S⟩
theorem O8 (h1:SmR K X i0 st t mt)(h2:SmsR K X i0 rest u mu):SmsR K X i0 (st::rest) (N5 t u) (mSq mt mu):=⟨i9 h1.ps h2.ps,λd B0 A0 H0 B A E μ σ H D r μ' S e q=>by
 obtain⟨⟨o,μ1⟩,e1,e⟩:=bS9 e
 refine h1.ok d B0 A0 H0 B A E μ σ H _ o μ1 S e1 ?_
 cases o with
 | nx E1=>exact λB1 A1 σ' H' S'=>h2.ok d B0 A0 H0 B1 A1 E1 μ1 σ' H' D r μ' S' e q
 | rt d=>cases e;exact q
 | bk E1=>cases e;exact q
 | ct E1=>cases e;exact q⟩
theorem jS (h1:SmR K X i0 st t mt):SmsR K X i0 [st] t mt:=⟨z7 h1.ps,h1.ok⟩
theorem yS {g:TG}{bd:PyData->DE->Option DE}(he:TEm K i0 te m)(hg:TGd K g bd)(hk:gJ i0 bd):TSm K i0 (G9 te g) (bu bd m):=λd B0 A0 H0 B A E μ σ H D r μ' S e q=>by
 obtain⟨⟨x,μ1⟩,e1,e⟩:=bS9 e
 obtain⟨E1,e2,e⟩:=bS9 e
 cases e
 refine he d B0 A0 H0 B A E μ σ H _ x _ S e1 λv H1 B1 A1 S1 _ h1=>?_
 exact hg none B1 E _ σ H1 v x E1 _ S1.I h1 e2 λσ' I' fr=>q B1 A1 σ' H1 (S1.bind I' fr (hk _ _ _ e2))
theorem jZ (i:Nat){x:Str}(hi0:i≠i0)(hN:X.N.Nodup)(he:Em K X i0 e te m)(hi:X.N[i]? = some x:=by rfl)(hx:Loc X.env.scope x:=by first | exact Or.inl rfl | exact Or.inr rfl)(hs:swapsWith e (some (.Name x pos')) pos.line X.env=pure false:=by rfl)(hf:X.fn x=true\/X.env.scope.names.lookup x=some .local:=by first | exact .inl rfl | exact .inr rfl | assumption) :
  SmR K X i0 (.Assign [.Name x pos'] e pos) (G9 te (D3 i)) (D7 i m):=⟨G7 hN hi hx he.pe hs hf,yS he.ok (jx i) (V6 hi0)⟩
theorem Az {g:TG}{bd:PyData->DE->Option DE}(he:Em K X i0 e te m)(hg:Eg K X tg g bd)(hk:gJ i0 bd)(hs:swapsWithSole [tg] e pos.line X.env=pure false:=by rfl)(hw:swappedStores [tg] e X.env=pure none:=by rfl)
  (h1:(assignEach [tg] X.env).map (·.2)=[assign tg X.env]:=by rfl):SmR K X i0 (.Assign [tg] e pos) (G9 te g) (bu bd m):=⟨M9 he.pe hg.pg hs hw h1,yS he.ok hg.ok hk⟩
theorem Bx (he:Em K X i0 e te m)(hs:swapsWith e none pos.line X.env=pure false:=by rfl):SmR K X i0 (.Expr e pos) (aa te) (mDo m):=⟨S4 he.pe hs,λd B0 A0 H0 B A E μ σ H D r μ' S e q=>by
 obtain⟨⟨x,μ1⟩,e1,e⟩:=bS9 e
 cases e
 exact he.ok d B0 A0 H0 B A E μ σ H _ x _ S e1 λv H1 B1 A1 S1 _ h1=>q B1 A1 σ H1 S1⟩
theorem Cp {x y:List Stmt}{tt:TT}{mc:DE->M Bool}(hc:Etm K X i0 c tt mc)(ha:SmsR K X i0 x t mt)(hb:SmsR K X i0 y u mu):SmR K X i0 (.If c x y pos) (lO tt t u) (mIf mc mt mu):=⟨gM hc.pt ha.ps hb.ps,λd B0 A0 H0 B A E μ σ H D r μ' S e q=>by
 obtain⟨⟨x,μ1⟩,e1,e⟩:=bS9 e
 refine hc.ok d B0 A0 H0 B A E μ σ H _ x μ1 S e1 λH1 B1 A1 S1 _=>?_
 cases x with
 | true=>exact ha.ok d B0 A0 H0 B1 A1 E μ1 σ H1 D r μ' S1 e q
 | false=>exact hb.ok d B0 A0 H0 B1 A1 E μ1 σ H1 D r μ' S1 e q⟩
def jd (mi:DE->M (List PyData))(bd:PyData->DE->Option DE)(body:DE->M Out):DE->M Out:=λE μ=>(mi E μ).bind λp=>G1 bd body p.1 E μ
theorem Cd {wi:TI}{g:TG}{tb:TS}{mi:DE->M (List PyData)}{bd:PyData->DE->Option DE}{mb:DE->M Out}(hi:TId K wi mi)(hg:TGd K g bd)(hk:gJ i0 bd)(hb:TSm K i0 tb mb):TSm K i0 (qW wi g tb) (jd mi bd mb):=λd B0 A0 H0 B A E μ σ H D r μ' S e q=>by
 obtain⟨⟨items,μ1⟩,e1,e⟩:=bS9 e
 refine hi none B E μ σ H _ items μ1 S.I e1 λJ H1 k1 f1 ok=>?_
 have S1:=S.step k1 f1.2
 refine⟨λi m σ H=>m=items.length-i/\i<=items.length/\∃B2 A2 E μ,SitMB K i0 d B0 A0 (G2 H1 B B0) B2 A2 E μ σ H/\G1 bd mb (items.drop i) E μ=some (r,μ'),⟨items.length,by simp,IG _,B,A,E,μ,S1.base,e⟩,?_⟩
 rintro i mm σ2 H2 ⟨rfl,hi2,B2,A2,E2,μ2,S2,e2⟩
 have st2:=S1.stab S2
 by_cases hlt:i<items.length
 .refine .inr ⟨((ok H2 B2 st2).1 i items[i] (by simp[hlt])).1,λσ' H'=>i+1<=items.length/\∃B2 A2 E μ,SitMB K i0 d B0 A0 (G2 H1 B B0) B2 A2 E μ σ' H'/\G1 bd mb (items.drop (i+1)) E μ=some (r,μ'),λσ' H' ⟨h1,h2⟩=>⟨items.length-(i+1),by omega,rfl,h1,h2⟩,λx H3 y=>?_⟩
  obtain⟨s3,hx⟩:=((ok H2 B2 st2).1 i items[i] (by simp[hlt])).2 x H3 y
  have hx:=hx S2.I.bk
  rw[JA hlt,G1]at e2
  obtain⟨E4,e4,e2⟩:=bS9 e2
  obtain⟨⟨o,μ5⟩,e5,e2⟩:=bS9 e2
  have S3:=S2.step (Kp.same s3) (S2.I.fd.same s3).2
  refine hg none B2 E2 μ2 σ2 H3 x items[i] E4 _ S3.I hx e4 λσ4 I4 fr=>?_
  refine hb d B0 A0 (G2 H1 B B0) B2 A2 E4 μ2 σ4 H3 _ o μ5 (S3.bind I4 fr (hk _ _ _ e4)) e5 ?_
  cases o with
  | nx E6=>exact λB6 A6 σ6 H6 S6=>⟨hlt,B6,A6,E6,μ5,S6,e2⟩
  | ct E6=>exact λB6 A6 σ6 H6 S6=>⟨hlt,B6,A6,E6,μ5,S6,e2⟩
  | bk E6=>cases e2;exact λB6 A6 σ6 H6 S6=>q B6 A6 σ6 H6 (S1.unbase S6)
  | rt d=>cases e2;exact λv H6 A6 k6 h6=>q v H6 A6 (S1.unend k6) h6
 .have ei:i=items.length:=by omega
  subst ei
  rw[Kw,G1]at e2
  cases e2
  exact .inl ⟨(ok H2 B2 st2).2,q B2 A2 σ2 H2 (S1.unbase S2)⟩
theorem uq {body:List Stmt}{wi:TI}{g:TG}{tb:TS}{mi:DE->M (List PyData)}{bd:PyData->DE->Option DE}{mb:DE->M Out}(hc:X.calm=true)(hi:Ei K X tg iter wi mi)(hg:Eg K X tg g bd)(hk:gJ i0 bd)(hb:SmsR K X i0 body tb mb)(hp:PassesOwn (model X.prog X.w) X.A X.env X.xe:=by exact PassesOwn.never)
  (hs:∀x,foldedSetIterable iter X.env x=pure x:=by intro _;rfl):SmR K X i0 (.For tg iter body [] pos) (qW wi g tb) (jd mi bd mb):=⟨ox hp hc hi.pi hg.pg hb.ps hs,Cd hi.ok hg.ok hk hb.ok⟩
theorem jy:Eam K X i0 [] C4 h9:=⟨j9,λd B0 A0 H0 B A E μ σ H Q r μ' S e q=>by cases e;exact q [] H B A S (d8.refl _) a6.nil⟩
theorem ly {t:TA}{ms:DE->M (List PyData)}(ha:Em K X i0 e te m)(hr:Eam K X i0 es t ms)(hs:starEach (e::es) X.env=(false,eval e X.env)::starEach es X.env:=by rfl):Eam K X i0 (e::es) (l9 te t) (c6 m ms) :=
 ⟨f9 ha.pe hr.pa hs,λd B0 A0 H0 B A E μ σ H Q r μ' S e q=>by
  obtain⟨⟨x,μ1⟩,e1,e⟩:=bS9 e
  obtain⟨⟨ys,μ2⟩,e2,e⟩:=bS9 e
  cases e
  refine ha.ok d B0 A0 H0 B A E μ σ H _ x μ1 S e1 λv H1 B1 A1 S1 s1 h1=>?_
  exact hr.ok d B0 A0 H0 B1 A1 E μ1 σ H1 _ ys _ S1 e2 λvs H2 B2 A2 S2 s2 h2=>q _ H2 B2 A2 S2 (s1.trans s2) (.cons (h1.same s2) h2)⟩
theorem zB {op}(h:Em K X i0 a te m):Em K X i0 (.BoolOp op [a] pos) te m:=⟨uP h.pe,h.ok⟩
theorem AO {rest:List Expr}(ha:Em K X i0 a ta ma)(hb:Em K X i0 (.BoolOp .And (b::rest) pos) tb mb):Em K X i0 (.BoolOp .And (a::b::rest) pos) (ux ta tb) (nO ma mb):=⟨tq ha.pe hb.pe,λd B0 A0 H0 B A E μ σ H Q r μ' S e q=>by
 obtain⟨⟨x,μ1⟩,e1,e⟩:=bS9 e
 obtain⟨c,e2,e⟩:=bS9 e
 refine ha.ok d B0 A0 H0 B A E μ σ H _ x μ1 S e1 λv H1 B1 A1 S1 s1 h1=>?_
 have:=R7 e2
 simp only at this
 subst this
 simp only[a7]at h1
 refine⟨c,h1,?_⟩
 cases c with
 | true=>exact hb.ok d B0 A0 H0 B1 A1 E μ1 σ H1 _ r μ' S1 e λw H2 B2 A2 S2 s2 h2=>q w H2 B2 A2 S2 (s1.trans s2) h2
 | false=>cases e;exact q _ H1 B1 A1 S1 s1 a7.bl⟩
theorem BA {op:CmpOp}{f:PyData->PyData->Option PyData}(ho:OpR X (compareOp op) (rD2 K f))(ha:Em K X i0 a ta ma)(hb:Em K X i0 b tb mb)(hm:behindInMarks op b=false:=by first | exact W2 _ | rfl):Em K X i0 (.Compare a [op] [b] pos) (tOp (rD2 K f) ta tb) (s2 f ma mb):=⟨kC ho ha.pe hb.pe hm,λd B0 A0 H0 B A E μ σ H Q r μ' S e q=>by
 obtain⟨⟨x,μ1⟩,e1,e⟩:=bS9 e
 obtain⟨⟨y,μ2⟩,e2,e⟩:=bS9 e
 obtain⟨z,e3,e⟩:=bS9 e
 cases e
 refine ha.ok d B0 A0 H0 B A E μ σ H _ x μ1 S e1 λv H1 B1 A1 S1 s1 h1=>?_
 refine hb.ok d B0 A0 H0 B1 A1 E μ1 σ H1 _ y _ S1 e2 λw H2 B2 A2 S2 s2 h2=>⟨tabP K,B2,x,y,_,S2.I.bk,aU (h1.same s2) S2.I.fB,aU h2 S2.I.fB,e3,λu H3 s hu=>?_⟩
 exact q u H3 B2 A2 (S2.step (Kp.same s) (S2.I.fd.same s).2) ((s1.trans s2).trans (S2.sm (Kp.same s))) hu⟩
variable {tA tB:TT}{na nb:DE->M Bool}
end
end
section
def iy:Out->Option PyData
 | .rt d=>some d
 | .nx _=>some .none
 | _=>none
section
variable [Regs]
local instance regI3:Feeds:=E7
def spM (K:Fg)(n:Nat)(f:List PyData->FS->Option (PyData×FS)):Sp:=λvs H Q _=>∃(d:Addr) (B A:List Addr) (ds:List PyData) (r:PyData) (μ μ':FS) (xs:List V),vs = .ref d::xs/\ds.length+1=n/\(∀b∈tabP K,b∈B)/\(∀a∈A,a∈B/\a ∉ tabP K)/\BOk H B/\z9 (tabsK Feeds.lam K) H /\
 Regs.Reg K (hid H B) H d μ A/\a6 K (hid H B) ds xs/\f ds μ=some (r,μ')/\∀v H' A',EndM K d B A H μ' H' A'->a7 K (hid H' (A'++B)) r v->Q v H'
variable {K:Fg}{X:Cx}{i0:Nat}{a b c e tg iter:Expr}{es:List Expr}{st:Stmt}{sts rest:List Stmt}{ta tb te:TE}{ma mb m:DE->M PyData}{t u:TS}{mt mu:DE->M Out}{pos pos' p p2:Pos}
section
variable {d:Addr}{B0 A0:List Addr}{H0:Hp}{B A A2:List Addr}{E:DE}{μ μ':FS}{σ:St}{H H2:Hp}
theorem SitMB.called (S:SitMB K i0 d B0 A0 H0 B A E μ σ H)(Z:EndM K d B A H μ' H2 A2):SitMB K i0 d B0 A0 H0 (A2++B) A2 E μ' σ H2/\d8 (hid H B) (hid H2 (A2++B)):=by
 have nH0:∀a,H a=none->a ∉ B->H0 a=none/\a ∉ B0:=λa e n=>by
  have n0:a ∉ B0:=λz=>n (S.s a z)
  refine⟨?_,n0⟩
  cases q:H0 a with
  | none=>rfl
  | some o=>rw[S.kp a o q (λz=>n0 (S.tB a z)) λz=>n0 (S.a0 a z)]at e;cases e
 have sm:d8 (hid H B) (hid H2 (A2++B)):=λb o eb=>by
  by_cases hB:b∈B
  .rw[u7 hB]at eb;cases eb
  .rw[d7 hB]at eb
   have k:H2 b=some o:=Z.kp b o eb (λz=>hB (S.s b (S.tB b z))) λz=>hB (S.aB b z).1
   rw[d7 λz=>?_]
   .exact k
   .rcases HC.mp z with z | z
    .rcases(Z.aB b z).2 with h | h
     .exact hB (S.aB b h).1
     .rw[h.1]at eb;cases eb
    .exact hB z
 refine⟨⟨λb hb=>HC.mpr (.inr (S.s b hb)),λb hb=>?_,⟨⟨trivial,Z.tb⟩,λb hb=>HC.mpr (.inr (S.I.fB b hb)),λb hb=>?_,S.I.ln,λi x ei=>?_⟩,Z.rg,λa ha=>⟨HC.mpr (.inl ha),(Z.aB a ha).1,?_⟩,S.pin,S.tB,S.a0,λb o eb n1 n2=>?_,λi ds a ei si=>?_,S.inj⟩,sm⟩
 .rcases HC.mp hb with h | h
  .rcases(Z.aB b h).2 with h | h
   .exact S.sn b (S.aB b h).1
   .exact .inr (nH0 b h.1 h.2).1
  .exact S.sn b h
 .rcases HC.mp hb with h | h
  .exact Regs.has Z.rg b h
  .exact Z.bk b h
 .obtain⟨v,v1,v2⟩:=S.I.loc i x ei
  refine⟨v,v1,?_⟩
  cases x with
  | dat y=>exact a7.same (show a7 K (hid H B) y v from v2) sm
  | feed=>exact v2
  | fn _=>exact v2
  | adr _=>exact v2
  | own ys =>
   obtain⟨a',xs,rfl,hB,hf,hx,hd⟩:=v2
   exact⟨a',xs,rfl,HC.mpr (.inr hB),hf,Z.kp _ _ hx hf (S.own i ys a' ei v1).2,hd.same sm⟩
 .rcases(Z.aB a ha).2 with h | h
  .exact(S.aB a h).2.2
  .exact .inr (nH0 a h.1 h.2)
 .refine Z.kp b o (S.kp b o eb n1 n2) n1 λz=>?_
  rcases(S.aB b z).2.2 with h | h
  .exact n2 h
  .rw[h.1]at eb;cases eb
 .obtain⟨h1,h2⟩:=S.own i ds a ei si
  refine⟨h1,λz=>?_⟩
  rcases(Z.aB a z).2 with h | h
  .exact h2 h
  .obtain⟨v,v1,a',xs,rfl,hB,_,hx,_⟩:=S.I.loc i _ ei
   rw[v1]at si;cases si
   rw[h.1]at hx;cases hx
theorem SitMB.at0 (S:SitMB K i0 d B0 A0 H0 B A E μ σ H):σ[i0]? = some (some (.ref d)):=by
 have h:=S.pin
 unfold v6 at h
 split at h
 .rename_i a hx
  cases h
  obtain⟨v,v1,v2⟩:=S.I.loc i0 _ hx
  rw[v1,show v = .ref d from v2]
 .cases h
end
def bC (f:List PyData->FS->Option (PyData×FS))(ms:DE->M (List PyData)):DE->M PyData:=λE μ=>(ms E μ).bind λp=>f p.1 p.2
theorem wA {n:Nat}{f:List PyData->FS->Option (PyData×FS)}{ta:TA}{ms:DE->M (List PyData)}(h:TAm K i0 ta ms)(hn:∀E F args F',ms E F=some (args,F')->args.length+1=n):TEm K i0 (U3 (spM K n f) [] E0 (l9 (l4 i0) ta)) (bC f ms):=λd B0 A0 H0 B A E μ σ H Q r μ' S e q=>by
 obtain⟨⟨args,μ1⟩,e1,e⟩:=bS9 e
 refine⟨_,S.at0,h d B0 A0 H0 B A E μ σ H _ args μ1 S e1 λvs H1 B1 A1 S1 s1 h1=>?_⟩
 show spM K n f ((V.ref d::vs)++[]) H1 Q E0
 rw[IE]
 refine⟨d,B1,A1,args,r,μ1,μ',vs,rfl,hn _ _ _ _ e1,λb hb=>S1.s b (S1.tB b hb),λa ha=>⟨(S1.aB a ha).1,(S1.aB a ha).2.1⟩,S1.I.bk,S1.I.fd.2,S1.rg,h1,e,λv H2 A2 Z h2=>?_⟩
 obtain⟨z1,z2⟩:=S1.called Z
 exact q v H2 _ _ z1 (s1.trans z2) h2
theorem jA:∀(E:DE) (F:FS) args F',(h9:DE->M (List PyData)) E F=some (args,F')->args.length+1=1:=λE F args F' e=>by cases e;rfl
theorem lD {n:Nat}{ms:DE->M (List PyData)}(h:∀(E:DE) (F:FS) args F',ms E F=some (args,F')->args.length+1=n):∀(E:DE) (F:FS) args F',c6 m ms E F=some (args,F')->args.length+1=n+1:=λE F args F' e=>by
 obtain⟨⟨x,F1⟩,e1,e⟩:=bS9 e
 obtain⟨⟨ys,F2⟩,e2,e⟩:=bS9 e
 cases e
 rw[HZ,h _ _ _ _ e2]
theorem jH {x y:Str}{k n:Nat}{ps:List Str}{f:List PyData->FS->Option (PyData×FS)}{tl:TA}{ms:DE->M (List PyData)}(C:j8 X.prog X.w X.K X.mg X.base x k ps (spM K n f))(hr:Room k X.A)(ha:Eam K X i0 es tl ms)(hn:∀E F args F',ms E F=some (args,F')->args.length+1=n)(hN:X.N[i0]? = some y:=by rfl)(hv:Vis X.env.scope y:=by first | exact Or.inl rfl | exact Or.inr (Or.inl rfl) | exact Or.inr (Or.inr rfl))(hd:(y == ("__debug__":Str))=false:=by decide)
  (hcd:(y == ("__classdict__":Str))=false:=by decide) (hs:starEach (.Name y p2::es) X.env=(false,eval (.Name y p2) X.env)::starEach es X.env:=by rfl) (hg:Gl X x:=by rfl)
  (hdb:(x == ("__debug__":Str))=false:=by decide) (hpl:(backTo pos (starEach es X.env)).any (·.1)=false:=by rfl) :
  Em K X i0 (.Call (.Name x p) (.Name y p2::es) [] pos) (U3 (spM K n f) [] E0 (l9 (l4 i0) tl)) (bC f ms):=⟨P4 C hr hg (f9 (C7 hN hv hd hcd) ha.pa hs) hdb hs hpl,wA ha.ok hn⟩
def R0 (N:List Str)(d:Addr)(ds:List PyData):DE:=some (.adr d)::(ds.map λx=>some (.dat x))++List.replicate (N.length-(ds.length+1)) none
open Classical in
def kg (N:List Str)(m:DE->M Out):List PyData->FS->Option (PyData×FS):=λds μ =>
 if h:∃x:PyData×FS,∀d:Addr,∃o,m (R0 N d ds) μ=some (o,x.2)/\iy o=some x.1 then some (Classical.choose h) else none
theorem wW {N:List Str}{m:DE->M Out}{ds:List PyData}{μ μ':FS}{r:PyData}(h:∀d:Addr,∃o,m (R0 N d ds) μ=some (o,μ')/\iy o=some r):kg N m ds μ=some (r,μ'):=by
 unfold kg
 have hx:∃x:PyData×FS,∀d:Addr,∃o,m (R0 N d ds) μ=some (o,x.2)/\iy o=some x.1:=⟨(r,μ'),h⟩
 rw[dif_pos hx]
 obtain⟨o1,a1,a2⟩:=Kt hx 0
 obtain⟨o2,b1,b2⟩:=h 0
 rw[b1]at a1
 obtain⟨rfl,e2⟩:=Prod.mk.inj (HN a1)
 rw[b2]at a2
 exact IK some (Prod.ext (HN a2).symm e2.symm)
theorem xU {N:List Str}{m:DE->M Out}{ds:List PyData}{μ μ':FS}{r:PyData}(h:kg N m ds μ=some (r,μ'))(d:Addr):∃o,m (R0 N d ds) μ=some (o,μ')/\iy o=some r:=by
 unfold kg at h
 split at h
 .rename_i hx
  have:=Kt hx d
  rw[HN h]at this
  exact this
 .cases h
variable {P:Program}{w:World}{mg:Str->Option Value}{base:Heap}
theorem nS {d:Addr}{B A:List Addr}{H:Hp}{N:List Str}{ds:List PyData}{xs:List V}{μ:FS}(hN:ds.length+1<=N.length)(tB:∀b∈tabP K,b∈B)(aB:∀a∈A,a∈B/\a ∉ tabP K)(bk:BOk H B)(tb:z9 (tabsK Feeds.lam K) H)(rg:Regs.Reg K (hid H B) H d μ A)(hd:a6 K (hid H B) ds xs) :
  SitMB K 0 d B A H B A (R0 N d ds) μ (L2.A5 N (.ref d::xs)) H:=by
 have noown:∀(i:Nat) (es:List PyData),(R0 N d ds)[i]? ≠ some (some (DV.own es)):=λi es e=>by
  unfold R0 at e
  by_cases hi:i<ds.length+1
  .rw[Ib (by simp;omega)]at e
   cases i with
   | zero=>simp at e
   | succ i=>simp[HP]at e
  .rw[Ig (by simp;omega),IJ]at e
   split at e <;> simp at e
 refine⟨λ_ z=>z,λb hb=>.inl hb,⟨⟨trivial,tb⟩,tB,bk,by simp[R0,L2.A5,hd.length],λi x e=>?_⟩,rg,λa ha=>⟨(aB a ha).1,(aB a ha).2,.inl ha⟩,rfl,tB,λa ha=>(aB a ha).1,λb o e _ _=>e,λi es a e _=>absurd e (noown i es),λi j es fs a e _ _ _=>absurd e (noown i es)⟩
 unfold R0 at e
 by_cases hi:i<ds.length+1
 .rw[Ib (by simp;omega)]at e
  unfold L2.A5
  rw[Ib (by simp[hd.length];omega)]
  cases i with
  | zero =>
   simp at e
   subst e
   exact⟨.ref d,rfl,rfl⟩
  | succ i =>
   simp[HP]at e
   obtain⟨y,e1,e2⟩:=e
   subst e2
   obtain⟨v,v1,v2⟩:=a6.item hd e1
   exact⟨v,by simp[v1],v2⟩
 .rw[Ig (by simp;omega),IJ]at e
  split at e <;> simp at e
theorem kj {x qual:Str}{f:Addr}{fd:FuncData}{N ps:List Str}{k:Nat}{m:DE->M Out}(Fn:Fun K x qual st f fd)(S:FnScope N ps (defScope st))(hNp:ps.length<=N.length)
  (hbody:∀(cdv:Value) (A:Around) (outer:List Env) (s:Shared) (H:Hp) (E:XK),Room k (A.deeper (envOfC qual (defScope st) s.heap.objs.size f cdv)) ->
   ∃ts,SmsR K (M8 CX0 P w K mg base N qual (defScope st) f cdv A outer s H E).nox 0 (defBody st) ts m):FnOk P w K mg base CX0 (k+1) f fd ps (spM K ps.length (kg N m)):=by
 refine Fn.ok S (λvs H Q E h=>?_) (λcdv A outer s H vs Q E hr h=>?_)
 .obtain⟨d,B,A,ds,r,μ,μ',xs,rfl,hl,_,_,_,_,_,hd,_⟩:=h
  rw[HZ,hd.length];exact hl
 .obtain⟨d,B,A1,ds,r,μ,μ',xs,rfl,hl,tB,aB,bk,tb,rg,hd,hm,q⟩:=h
  obtain⟨ts,hts⟩:=hbody cdv A outer s H E hr
  refine⟨ts,hts.ps,?_⟩
  obtain⟨o,e1,e2⟩:=xU hm d
  refine hts.ok d B A1 H B A1 (R0 N d ds) μ (L2.A5 N (.ref d::xs)) H _ o μ' (nS (by omega) tB aB bk tb rg hd) e1 ?_
  cases o with
  | rt d'=>cases e2;exact λv H' A' Z h1=>q v H' A' Z h1
  | nx E'=>cases e2;exact λB' A' σ' H' S'=>q _ H' A' S'.fin.1 a7.non
  | bk E'=>cases e2
  | ct E'=>cases e2
end
end
section
def dU:List DV->Option (List PyData)
 | []=>some []
 | .dat d::r=>(dU r).bind λds=>some (d::ds)
 | _::_=>none
theorem Z2:∀{args:List DV} {ds:List PyData},dU args=some ds->args=ds.map DV.dat
 | [],ds,h=>by cases h;rfl
 | .dat d::r,ds,h=>by
  obtain⟨es,e1,e⟩:=bS9 h
  cases e
  rw[Z2 e1];rfl
 | .feed::r,ds,h=>by cases h
 | .own _::r,ds,h=>by cases h
 | .fn _::r,ds,h=>by cases h
 | .adr _::r,ds,h=>by cases h
theorem aY:∀(ds:List PyData),dU (ds.map DV.dat)=some ds
 | []=>rfl
 | d::ds=>by rw[HX,dU,aY ds];rfl
def spN [Regs](K:Fg)(mkh:PyData->Option Regs.S):Sp:=λvs H Q _=>∃(B:List Addr) (h:PyData) (μ:Regs.S) (v:V),vs=[v]/\BOk H B/\a7 K (hid H B) h v/\mkh h=some μ /\
 ∀d A H',d8 H H'->(∀a∈A,H a=none)->Regs.Reg K (hid H' (A++B)) H' d μ A->Q (.ref d) H'
section
variable [Regs]{K:Fg}
local instance regI5:Feeds:=E7
theorem oR {d:Addr}{B A1:List Addr}{H H1:Hp}{N:List Str}{i0:Nat}{ds:List PyData}{vs:List V}{μ0:FS}(hi0:i0<N.length)(hdl:ds.length<=i0)(tB:∀b∈tabP K,b∈B)(bk:BOk H B)(sm:d8 H H1)(fr:∀a∈A1,H a=none)(tb1:z9 (tabsK Feeds.lam K) H1)(rg:Regs.Reg K (hid H1 (A1++B)) H1 d μ0 A1)(hd:a6 K (hid H B) ds vs) :
  SitMB K i0 d (A1++B) A1 H1 (A1++B) A1 ((p6 N (ds.map DV.dat)).set i0 (some (.adr d))) μ0 ((L2.A5 N vs).set i0 (some (.ref d))) H1:=by
  have hlen:vs.length=ds.length:=hd.length
  have nB:∀a∈A1,a ∉ B:=λa ha=>bk.nin (fr a ha)
  have sv:d8 (hid H B) (hid H1 (A1++B)):=λb o eb=>by
   by_cases hb:b∈B
   .rw[u7 hb]at eb;cases eb
   .rw[d7 hb]at eb
    rw[d7 λz=>(HC.mp z).elim (λz=>by rw[fr b z]at eb;cases eb) hb]
    exact sm b o eb
  have hE:∀i x,((p6 N (ds.map DV.dat)).set i0 (some (.adr d)))[i]? = some (some x)->(i=i0/\x = .adr d)\/(i≠i0/\∃y,ds[i]? = some y/\x = .dat y):=λi x e=>by
   by_cases hi:i0=i
   .subst hi
    rw[HR (by simp[p6];omega)]at e
    cases e;exact .inl ⟨rfl,rfl⟩
   .rw[HL hi]at e
    have:=dP e
    rw[HP]at this
    obtain⟨y,y1,y2⟩:=Ip.mp this
    exact .inr ⟨Iz hi,y,y1,y2.symm⟩
  refine⟨λ_ z=>z,λb hb=>.inl hb,⟨⟨trivial,tb1⟩,λb hb=>HC.mpr (.inr (tB b hb)),λb hb=>?_,by simp[p6,L2.A5,hlen],λi x ei=>?_⟩,rg,λa ha=>⟨HC.mpr (.inl ha),λz=>nB a ha (tB a z),.inl ha⟩,?_,λb hb=>HC.mpr (.inr (tB b hb)),λa ha=>HC.mpr (.inl ha),λb o e _ _=>e,λi es a ei _=>?_,λi j es fs a ei _ _ _=>?_⟩
  .rcases HC.mp hb with h | h
   .exact Regs.has rg b h
   .obtain⟨o,e⟩:=bk b h
    exact⟨o,sm b o e⟩
  .rcases hE i x ei with ⟨rfl,rfl⟩ | ⟨hi,y,y1,rfl⟩
   .exact⟨.ref d,by rw[HR (by simp[L2.A5,hlen];omega)],rfl⟩
   .obtain⟨v,v1,v2⟩:=a6.item hd y1
    refine⟨v,?_,v2.same sv⟩
    have hil:i<vs.length:=(HG.mp v1).1
    rw[HL (Iz hi)]
    unfold L2.A5
    rw[Ib (by simpa using hil),HP,v1];rfl
  .unfold v6
   rw[HR (by simp[p6];omega)]
  .rcases hE i _ ei with ⟨_,z⟩ | ⟨_,y,_,z⟩ <;> cases z
  .rcases hE i _ ei with ⟨_,z⟩ | ⟨_,y,_,z⟩ <;> cases z
end
section
variable [Fam][Regs]
open Classical in
def uX (N:List Str)(i0:Nat)(m:DE->@M E7 Out)(μ0:Regs.S)(ds:List PyData):Option PyData :=
 if h:∃r:PyData,∀d:Addr,∃o μ',m ((p6 N (ds.map DV.dat)).set i0 (some (.adr d))) μ0=some (o,μ')/\iy o=some r then some (Classical.choose h) else none
theorem xc {N:List Str}{i0:Nat}{m:DE->@M E7 Out}{μ0:Regs.S}{ds:List PyData}{r:PyData}(h:∀d:Addr,∃o μ',m ((p6 N (ds.map DV.dat)).set i0 (some (.adr d))) μ0=some (o,μ')/\iy o=some r):uX N i0 m μ0 ds=some r:=by
 unfold uX
 have hx:∃r:PyData,∀d:Addr,∃o μ',m ((p6 N (ds.map DV.dat)).set i0 (some (.adr d))) μ0=some (o,μ')/\iy o=some r:=⟨r,h⟩
 rw[dif_pos hx]
 obtain⟨o1,μ1,a1,a2⟩:=Kt hx 0
 obtain⟨o2,μ2,b1,b2⟩:=h 0
 rw[b1]at a1
 obtain⟨rfl,_⟩:=Prod.mk.inj (HN a1)
 rw[b2]at a2
 exact IK some (HN a2).symm
theorem xZ {N:List Str}{i0:Nat}{m:DE->@M E7 Out}{μ0:Regs.S}{ds:List PyData}{r:PyData}(h:uX N i0 m μ0 ds=some r)(d:Addr):∃o μ',m ((p6 N (ds.map DV.dat)).set i0 (some (.adr d))) μ0=some (o,μ')/\iy o=some r:=by
 unfold uX at h
 split at h
 .rename_i hx
  have:=Kt hx d
  rw[HN h]at this
  exact this
 .cases h
def qC (N:List Str)(i0 j:Nat)(mkh:PyData->Option Regs.S)(m:DE->@M E7 Out):List DV->@M fdI PyData:=λargs F=>(dU args).bind λds=>(ds[j]?).bind λh=>(mkh h).bind λμ0=>(uX N i0 m μ0 ds).bind λr=>some (r,F)
variable {K:Fg}{P:Program}{w:World}{mg:Str->Option Value}{base:Heap}{st:Stmt}
theorem oZ (hlam:Regs.lam=Fam.lam):@tabP E7 K = @tabP fdI K:=by
 unfold tabP
 show(tabsK Regs.lam K).map _=(tabsK Fam.lam K).map _
 rw[hlam]
theorem iY {G:GF}{B:List Addr}{H:Hp}:∀{ds:List PyData} {vs:List V},dD K G B H (ds.map DV.dat) vs->a6 K (hid H B) ds vs
 | [],vs,h=>by have h:vs=[]:=h;simpa only[a6] using h
 | d::ds,vs,⟨v,r,e,_,h1,h2⟩=>by subst e;exact .cons h1 (iY h2)
theorem pz {B:List Addr}{H:Hp}:∀{ds:List PyData} {vs:List V},@dD E7 K none B H (ds.map DV.dat) vs->@dD fdI K none B H (ds.map DV.dat) vs
 | [],vs,h=>h
 | d::ds,vs,⟨v,r,e,n,h1,h2⟩=>⟨v,r,e,n,h1,pz h2⟩
theorem xj {G:GF}{H H':Hp}{F:FdS}(fa:@FAt fdI K G H F)(tb:z9 (tabsK Fam.lam K) H')(k:∀b o,H b=some o->b ∉ @tabP fdI K->H' b=some o):@FAt fdI K G H' F:=by
 refine⟨?_,tb⟩
 cases G with
 | none=>trivial
 | some p =>
  obtain⟨d,c⟩:=p
  have nt:∀{x:Addr} {o:HO},H x=some o->NoT o->x ∉ @tabP fdI K:=λ{x o} e n z=>by
   obtain⟨t,ht,rfl⟩:=Il.mp z
   obtain⟨ps,h1,_⟩:=fa.2 t ht
   rw[h1]at e
   exact n.1 ps (HN e.symm)
  obtain⟨o1,e1,n1⟩:=Fam.some1 fa.1
  obtain⟨o2,e2,n2⟩:=Fam.some2 fa.1
  exact Fam.congr fa.1 ((k _ _ e1 (nt e1 n1)).trans e1.symm) ((k _ _ e2 (nt e2 n2)).trans e2.symm)
def reF (f:List DV->@M fdI PyData):List DV->@M E7 PyData:=λargs μ=>(dU args).bind λ_=>(f args (X3 [])).bind λp=>some (p.1,μ)
theorem iN {x:Str}{k n:Nat}{ps:List Str}{f:List DV->@M fdI PyData}(hlam:Regs.lam=Fam.lam)(C:j8 P w K mg base x k ps (@spD fdI K n f)):j8 P w K mg base x k ps (@spD E7 K n (reF f)):=by
 obtain⟨a,fd,F,h2,h3,h4⟩:=C
 refine⟨a,fd,F.imp λvs H Q E h=>?_,h2,h3,h4⟩
 obtain⟨G,B,μ,args,d,μ',hl,fB,bk,fa,ha,e,q⟩:=h
 obtain⟨ds,e1,e⟩:=bS9 e
 obtain⟨⟨y,F'⟩,e2,e⟩:=bS9 e
 cases e
 have:=Z2 e1
 subst this
 have te:=oZ (K:=K) hlam
 have gn:G=none:=by
  cases G with
  | none=>rfl
  | some p=>exact(show False from fa.1).elim
 subst gn
 have fp:@j7 E7 K none = @j7 fdI K none:=te
 refine⟨none,B,X3 [],ds.map DV.dat,y,F',hl,λb hb=>fB b (fp▸hb),bk,⟨trivial,by have:=fa.2;show z9 (tabsK Fam.lam K) H;rw[<-hlam];exact this⟩,?_,e2,λv H' k1 f1 h1=>q v H' (fp▸k1) ⟨trivial,by show z9 (tabsK Regs.lam K) H';rw[hlam];exact f1.2⟩ h1⟩
 exact pz ha
end
end
section
structure Per where
 n:Int
 r:Int
 l:Int
 b:Bool
structure Row where
 w:Str
 t:Int
 m:Option Int
 q:Int
structure Mac where
 h:Int
 c:Option Int
 u:Str
 line:List Per
 book:List Row
 t:Int
def vp:Option Int->V
 | none=>.non
 | some i=>.int i
def eV:Option Int->PyData
 | none=>.none
 | some i=>.int i
def cK (p:Per):List V:=[.int p.n,.int p.r,.int p.l,.bl p.b]
def lz (r:Row):List V:=[.str r.w,.int r.t,vp r.m,.int r.q]
def aL (p:Per):PyData:=.list [.int p.n,.int p.r,.int p.l,.bool p.b]
def aI (r:Row):PyData:=.list [.str r.w,.int r.t,eV r.m,.int r.q]
def dz (μ:Mac):PyData:=.tuple [.int μ.h,eV μ.c,.str μ.u]
def y8 (hv:V)(l b:Addr)(t:Int):List (Key×V):=[(Sum.inr "house",hv),(Sum.inr "line",.ref l),(Sum.inr "book",.ref b),(Sum.inr "at",.int t)]
theorem mn1:¬(("house":Str) = "line"):=by decide +kernel
theorem mn2:¬(("house":Str) = "book"):=by decide +kernel
theorem mn3:¬(("house":Str) = "at"):=by decide +kernel
theorem mn4:¬(("line":Str) = "book"):=by decide +kernel
theorem mn5:¬(("line":Str) = "at"):=by decide +kernel
theorem mn6:¬(("book":Str) = "at"):=by decide +kernel
theorem Dg:¬(("book":Str) = "line"):=by decide +kernel
theorem Du:¬(("at":Str) = "line"):=by decide +kernel
section
variable {H:Hp}{d l b:Addr}{hv:V}{t:Int}
theorem uw:aK (y8 hv l b t) (Sum.inr "house")=some hv:=by unfold y8;exact Q0 rfl
theorem qh:aK (y8 hv l b t) (Sum.inr "line")=some (.ref l):=by
 unfold y8;rw[w6 (by rw[J5];exact mn1)];exact Q0 rfl
theorem wz:aK (y8 hv l b t) (Sum.inr "book")=some (.ref b):=by
 unfold y8;rw[w6 (by rw[J5];exact mn2),w6 (by rw[J5];exact mn4)];exact Q0 rfl
theorem yE:aK (y8 hv l b t) (Sum.inr "at")=some (.int t):=by
 unfold y8;rw[w6 (by rw[J5];exact mn3),w6 (by rw[J5];exact mn5),w6 (by rw[J5];exact mn6)];exact Q0 rfl
theorem BH (z:Int):J6 (y8 hv l b t) (Sum.inr "at") (.int z)=y8 hv l b z:=by
 unfold J6
 rw[Y0,yE]
 simp only[KH,Js,y8,HX,Jb,J5,mn3,mn5,mn6,Js,Ji]
theorem vY (z:Addr):J6 (y8 hv l b t) (Sum.inr "line") (.ref z)=y8 hv z b t:=by
 unfold J6
 rw[Y0,qh]
 simp only[KH,Js,y8,HX,Jb,J5,mn1,Dg,Du,Js,Ji]
theorem gZ (hd:H d=some (.dK (y8 hv l b t))):cM H d (.str "house") (some hv):=by have:=cM.k (k:=Sum.inr "house") hd;rwa [uw]at this
theorem aC (hd:H d=some (.dK (y8 hv l b t))):cM H d (.str "line") (some (.ref l)):=by have:=cM.k (k:=Sum.inr "line") hd;rwa [qh]at this
theorem fj (hd:H d=some (.dK (y8 hv l b t))):cM H d (.str "book") (some (.ref b)):=by have:=cM.k (k:=Sum.inr "book") hd;rwa [wz]at this
theorem sF (hd:H d=some (.dK (y8 hv l b t))):cM H d (.str "at") (some (.int t)):=by have:=cM.k (k:=Sum.inr "at") hd;rwa [yE]at this
theorem lQ:(y8 hv l b t).length<sizeLine:=L7 (by show 4<=1000;decide)
theorem BP (z:Int)(hd:H d=some (.dK (y8 hv l b t))):mX H d (.str "at") (.int z) (upd H d (.dK (y8 hv l b z))):=by have:=mX.k (k:=Sum.inr "at") (v:=.int z) hd lQ;rwa [BH]at this
theorem ya (z:Addr)(hd:H d=some (.dK (y8 hv l b t))):mX H d (.str "line") (.ref z) (upd H d (.dK (y8 hv z b t))):=by have:=mX.k (k:=Sum.inr "line") (v:=.ref z) hd lQ;rwa [vY]at this
end
def v7 {α:Type}(f:α->List V)(H:Hp)(ps:List Addr)(xs:List α):Prop:=ps.length=xs.length/\∀(i:Nat) a x,ps[i]? = some a->xs[i]? = some x->H a=some (.lst (f x))
theorem v7.keep {α:Type}{f:α->List V}{H H':Hp}{ps:List Addr}{xs:List α}(h:v7 f H ps xs)(e:∀a∈ps,H' a=H a):v7 f H' ps xs:=⟨h.1,λi a x h1 h2=>(e a (Iy h1)).trans (h.2 i a x h1 h2)⟩
theorem v7.has {α:Type}{f:α->List V}{H:Hp}{ps:List Addr}{xs:List α}(h:v7 f H ps xs):∀a∈ps,∃ys,H a=some (.lst ys):=λa ha=>by
 obtain⟨i,hi⟩:=JY.mp ha
 obtain⟨hj,_⟩:=HG.mp hi
 exact⟨_,h.2 i a (xs[i]'(by rw[<-h.1];exact hj)) hi (by simp)⟩
theorem v7.snoc {α:Type}{f:α->List V}{H:Hp}{ps:List Addr}{xs:List α}{a:Addr}{x:α}(h:v7 f H ps xs)(e:H a=some (.lst (f x))):v7 f H (ps++[a]) (xs++[x]):=by
 refine⟨by simp[h.1],λi b y h1 h2=>?_⟩
 by_cases hi:i<ps.length
 .rw[Ib hi]at h1
  rw[Ib (by rw[<-h.1];exact hi)]at h2
  exact h.2 i b y h1 h2
 .rw[Ig (by omega)]at h1
  rw[Ig (by rw[<-h.1];omega),<-h.1]at h2
  cases hk:i-ps.length with
  | zero=>rw[hk]at h1 h2;simp at h1 h2;subst h1 h2;exact e
  | succ k=>rw[hk]at h1;simp at h1
structure MacIn (K:Fg) (W H:Hp) (d:Addr) (μ:Mac) (ha l b:Addr) (ps rs:List Addr):Prop where
 nd:(d::l::b::(ps++rs)).Nodup
 hd:H d=some (.dK (y8 (.ref ha) l b μ.t))
 hh:SqT K W ha [.int μ.h,vp μ.c,.str μ.u]
 hl:H l=some (.lst (ps.map V.ref))
 hb:H b=some (.lst (rs.map V.ref))
 pl:v7 cK H ps μ.line
 pb:v7 lz H rs μ.book
def yw (K:Fg)(W H:Hp)(d:Addr)(μ:Mac)(A:List Addr):Prop:=∃ha l b ps rs,A=d::l::b::(ps++rs)/\MacIn K W H d μ ha l b ps rs
theorem MacIn.keep {K:Fg}{W W' H H':Hp}{d:Addr}{μ:Mac}{ha l b:Addr}{ps rs:List Addr}(h:MacIn K W H d μ ha l b ps rs)(s:d8 W W')(e:∀a∈d::l::b::(ps++rs),H' a=H a):MacIn K W' H' d μ ha l b ps rs :=
 ⟨h.nd,(e d (by simp)).trans h.hd,h.hh.same s,(e l (by simp)).trans h.hl,(e b (by simp)).trans h.hb,h.pl.keep λa ha=>e a (by simp[ha]),h.pb.keep λa ha=>e a (by simp[ha])⟩
theorem MacIn.has {K:Fg}{W H:Hp}{d:Addr}{μ:Mac}{ha l b:Addr}{ps rs:List Addr}(h:MacIn K W H d μ ha l b ps rs):∀a∈l::b::(ps++rs),∃ys,H a=some (.lst ys):=λa hm=>by
 simp only[HB,HC]at hm
 rcases hm with rfl | rfl | hm | hm
 .exact⟨_,h.hl⟩
 .exact⟨_,h.hb⟩
 .exact h.pl.has a hm
 .exact h.pb.has a hm
class LamC where
 l:List Str
instance macR [LamC]:Regs where
 S:=Mac
 Reg:=yw
 keep:=λ⟨ha,l,b,ps,rs,e,h⟩ s k=>⟨ha,l,b,ps,rs,e,h.keep s (e▸k)⟩
 has:=λ⟨ha,l,b,ps,rs,e,h⟩ a hm=>by
  rw[e]at hm
  rcases HB.mp hm with rfl | hm
  .exact⟨_,h.hd⟩
  .obtain⟨ys,z⟩:=h.has a hm
   exact⟨_,z⟩
 lam:=LamC.l
section
variable [LamC]
local instance regI6:Feeds:=E7
variable {K:Fg}{X:Cx}{i0:Nat}{a b c e tg iter:Expr}{es:List Expr}{st:Stmt}{sts rest:List Stmt}{ta tb te:TE}{ma mb m:DE->M PyData}{t u:TS}{mt mu:DE->M Out}{pos pos' p p2 p3 p4:Pos}{x:Str}{j j2:Option Str}
def TEq (K:Fg)(i0:Nat)(te:TE)(m:DE->M PyData):Prop:=∀(d:Addr) (B0 A0:List Addr) (H0:Hp) (B A:List Addr) (E:DE) (μ:FS) (σ:St) (H:Hp) (Q:VK) (r:PyData) (μ':FS),SitMB K i0 d B0 A0 H0 B A E μ σ H->m E μ=some (r,μ') ->
 (∀v H',μ' = μ->SitMB K i0 d B0 A0 H0 B A E μ σ H'->(∀a∈A,H' a=H a)->d8 (hid H B) (hid H' B)->a7 K (hid H' B) r v->Q v H')->te σ H Q
def TAq (K:Fg)(i0:Nat)(ta:TA)(m:DE->M (List PyData)):Prop:=∀(d:Addr) (B0 A0:List Addr) (H0:Hp) (B A:List Addr) (E:DE) (μ:FS) (σ:St) (H:Hp) (Q:List V->Hp->Prop) (r:List PyData) (μ':FS),SitMB K i0 d B0 A0 H0 B A E μ σ H->m E μ=some (r,μ') ->
 (∀vs H',μ' = μ->SitMB K i0 d B0 A0 H0 B A E μ σ H'->(∀a∈A,H' a=H a)->d8 (hid H B) (hid H' B)->a6 K (hid H' B) r vs->Q vs H')->ta σ H Q
structure Eq1 (K:Fg) (X:Cx) (i0:Nat) (e:Expr) (te:TE) (m:DE->M PyData):Prop where
 pe:PE X e te
 ok:TEq K i0 te m
structure Eaq (K:Fg) (X:Cx) (i0:Nat) (es:List Expr) (ta:TA) (m:DE->M (List PyData)):Prop where
 pa:PA X es ta
 ok:TAq K i0 ta m
theorem SitMB.kept {d:Addr}{B0 A0:List Addr}{H0:Hp}{B A:List Addr}{E:DE}{μ:FS}{σ:St}{H H':Hp}(S:SitMB K i0 d B0 A0 H0 B A E μ σ H)(k:Kp (tabP K) H H'):∀a∈A,H' a=H a:=λa ha=>by
 obtain⟨o,e⟩:=Regs.has S.rg a ha
 rw[e];exact k a o e (S.aB a ha).2.1
theorem rl (h:Ev K X e te m):Eq1 K X i0 e te (mE m):=⟨h.pe,λd B0 A0 H0 B A E μ σ H Q r μ' S e q=>by
 obtain⟨⟨x,μ1⟩,e1,e⟩:=bS9 e
 cases e
 exact h.ok none B E μ σ H _ x μ1 S.I e1 λv H1 k1 f1 h1=>q v H1 rfl (S.step k1 f1.2) (S.kept k1) (S.sm k1) h1⟩
theorem q_m (h:TEq K i0 te m):TEm K i0 te m:=λd B0 A0 H0 B A E μ σ H Q r μ' S e q=>h d B0 A0 H0 B A E μ σ H _ r μ' S e λv H' em S' _ s h'=>q v H' B A (em▸S') s h'
theorem zL (h:Eq1 K X i0 e te m):Em K X i0 e te m:=⟨h.pe,q_m h.ok⟩
theorem qj:Eaq K X i0 [] C4 h9:=⟨j9,λd B0 A0 H0 B A E μ σ H Q r μ' S e q=>by cases e;exact q [] H rfl S (λ_ _=>rfl) (d8.refl _) a6.nil⟩
theorem M4 {t:TA}{ms:DE->M (List PyData)}(ha:Eq1 K X i0 e te m)(hr:Eaq K X i0 es t ms)(hs:starEach (e::es) X.env=(false,eval e X.env)::starEach es X.env:=by rfl):Eaq K X i0 (e::es) (l9 te t) (c6 m ms) :=
 ⟨f9 ha.pe hr.pa hs,λd B0 A0 H0 B A E μ σ H Q r μ' S e q=>by
  obtain⟨⟨x,μ1⟩,e1,e⟩:=bS9 e
  obtain⟨⟨ys,μ2⟩,e2,e⟩:=bS9 e
  cases e
  refine ha.ok d B0 A0 H0 B A E μ σ H _ x μ1 S e1 λv H1 em1 S1 k1 s1 h1=>?_
  subst em1
  exact hr.ok d B0 A0 H0 B A E _ σ H1 _ ys _ S1 e2 λvs H2 em2 S2 k2 s2 h2=>q _ H2 em2 S2 (λa ha=>(k2 a ha).trans (k1 a ha)) (s1.trans s2) (.cons (h1.same s2) h2)⟩
def AQ (K:Fg):List V->Hp->VK->Prop:=λxs H Q=>∃p ys,xs=[.ref p]/\(SqL K H p ys\/SqT K H p ys)/\Q (.int ys.length) H
def sAt:DE->M PyData:=λ_ μ=>some (.int (Mac.t μ),μ)
def fG:DE->M PyData:=λ_ μ=>some (dz μ,μ)
def qB:DE->M PyData:=λ_ μ=>some (.int (Mac.line μ).length,μ)
def sP:DE->M PyData:=λ_ μ=>some (.int (Mac.book μ).length,μ)
theorem Dt:TEq K i0 (E9 (l4 i0) (tC (.str "at"))) sAt:=λd B0 A0 H0 B A E μ σ H Q r μ' S e q=>by
 cases e
 obtain⟨ha,l,b,ps,rs,_,h⟩:=S.rg
 exact⟨_,S.at0,d,_,rfl,sF h.hd,q _ H rfl S (λ_ _=>rfl) (d8.refl _) a7.int⟩
theorem Cv {k}(hu:X.A.units+65<cLine)(hN:X.N[i0]? = some x:=by rfl)(hv:Vis X.env.scope x:=by first | exact Or.inl rfl | exact Or.inr (Or.inl rfl) | exact Or.inr (Or.inr rfl))(hd:(x == ("__debug__":Str))=false:=by decide)(hcd:(x == ("__classdict__":Str))=false:=by decide) :
  Eq1 K X i0 (.Subscript (.Name x p) (.Constant (.str "at") k p2) pos) (E9 (l4 i0) (tC (.str "at"))) sAt:=⟨C0 (by omega) (C7 hN hv hd hcd) v5 (λ_ _=>rfl),Dt⟩
theorem qc {H:Hp}{c:Option Int}:a7 K H (eV c) (vp c):=by
 cases c with
 | none=>exact a7.non
 | some i=>exact a7.int
theorem gK {W:Hp}{μ:Mac}{ha:Addr}(h:SqT K W ha [.int μ.h,vp μ.c,.str μ.u]):a7 K W (dz μ) (.ref ha):=by
 unfold dz
 simp only[a7]
 exact⟨ha,_,rfl,h,.cons a7.int (.cons qc (.cons a7.st a6.nil))⟩
theorem vX:TEq K i0 (E9 (l4 i0) (tC (.str "house"))) fG:=λd B0 A0 H0 B A E μ σ H Q r μ' S e q=>by
 cases e
 obtain⟨ha,l,b,ps,rs,_,h⟩:=S.rg
 exact⟨_,S.at0,d,_,rfl,gZ h.hd,q _ H rfl S (λ_ _=>rfl) (d8.refl _) (gK h.hh)⟩
theorem la {k}(hu:X.A.units+65<cLine)(hN:X.N[i0]? = some x:=by rfl)(hv:Vis X.env.scope x:=by first | exact Or.inl rfl | exact Or.inr (Or.inl rfl) | exact Or.inr (Or.inr rfl))(hd:(x == ("__debug__":Str))=false:=by decide)(hcd:(x == ("__classdict__":Str))=false:=by decide) :
  Eq1 K X i0 (.Subscript (.Name x p) (.Constant (.str "house") k p2) pos) (E9 (l4 i0) (tC (.str "house"))) fG:=⟨C0 (by omega) (C7 hN hv hd hcd) v5 (λ_ _=>rfl),vX⟩
theorem Ce {f:PyData->PyData->Option PyData}(hr:IxR X (rD2 K f))(ha:Em K X i0 a ta ma)(hb:Em K X i0 b tb mb)(hs:ft b:=by intro _ _;rfl):Em K X i0 (.Subscript a b pos) (tOp (rD2 K f) ta tb) (s2 f ma mb):=⟨G5 hr ha.pe hb.pe hs,λd B0 A0 H0 B A E μ σ H Q r μ' S e q=>by
 obtain⟨⟨x,μ1⟩,e1,e⟩:=bS9 e
 obtain⟨⟨y,μ2⟩,e2,e⟩:=bS9 e
 obtain⟨z,e3,e⟩:=bS9 e
 cases e
 refine ha.ok d B0 A0 H0 B A E μ σ H _ x μ1 S e1 λv H1 B1 A1 S1 s1 h1=>?_
 refine hb.ok d B0 A0 H0 B1 A1 E μ1 σ H1 _ y _ S1 e2 λw H2 B2 A2 S2 s2 h2=>⟨tabP K,B2,x,y,_,S2.I.bk,aU (h1.same s2) S2.I.fB,aU h2 S2.I.fB,e3,λu H3 s hu=>?_⟩
 exact q u H3 B2 A2 (S2.step (Kp.same s) (S2.I.fd.same s).2) ((s1.trans s2).trans (S2.sm (Kp.same s))) hu⟩
theorem xv {k}(hK:X.K=K)(hu:X.A.units+65<cLine)(hl:X.mg "len" = none)(hN:X.N[i0]? = some x:=by rfl)(hv:Vis X.env.scope x:=by first | exact Or.inl rfl | exact Or.inr (Or.inl rfl) | exact Or.inr (Or.inr rfl))(hd:(x == ("__debug__":Str))=false:=by decide)(hcd:(x == ("__classdict__":Str))=false:=by decide)(hg:Gl X "len":=by rfl)
  (he:starEach [.Subscript (.Name x p) (.Constant (.str "line") k p2) p3] X.env=(false,eval (.Subscript (.Name x p) (.Constant (.str "line") k p2) p3) X.env)::starEach [] X.env:=by rfl) (hpl:(backTo pos (starEach [] X.env)).any (·.1)=false:=by rfl) :
  Eq1 K X i0 (.Call (.Name "len" p4) [.Subscript (.Name x p) (.Constant (.str "line") k p2) p3] [] pos) (tCB (AQ K) (l9 (E9 (l4 i0) (tC (.str "line"))) C4)) qB:=by
 subst hK
 refine⟨Q9 E5 hg hl KS (f9 (C0 (by omega) (C7 hN hv hd hcd) v5 (λ_ _=>rfl)) j9 he) (by decide) (by decide) he hpl,λd B0 A0 H0 B A E μ σ H Q r μ' S e q=>?_⟩
 cases e
 obtain⟨ha,l,b,ps,rs,_,h⟩:=S.rg
 exact⟨_,S.at0,d,_,rfl,aC h.hd,l,_,rfl,.inl (SqL.of h.hl),by rw[Hz,h.pl.1];exact q _ H rfl S (λ_ _=>rfl) (d8.refl _) a7.int⟩
theorem wN {k}(hK:X.K=K)(hu:X.A.units+65<cLine)(hl:X.mg "len" = none)(hN:X.N[i0]? = some x:=by rfl)(hv:Vis X.env.scope x:=by first | exact Or.inl rfl | exact Or.inr (Or.inl rfl) | exact Or.inr (Or.inr rfl))(hd:(x == ("__debug__":Str))=false:=by decide)(hcd:(x == ("__classdict__":Str))=false:=by decide)(hg:Gl X "len":=by rfl)
  (he:starEach [.Subscript (.Name x p) (.Constant (.str "book") k p2) p3] X.env=(false,eval (.Subscript (.Name x p) (.Constant (.str "book") k p2) p3) X.env)::starEach [] X.env:=by rfl) (hpl:(backTo pos (starEach [] X.env)).any (·.1)=false:=by rfl) :
  Eq1 K X i0 (.Call (.Name "len" p4) [.Subscript (.Name x p) (.Constant (.str "book") k p2) p3] [] pos) (tCB (AQ K) (l9 (E9 (l4 i0) (tC (.str "book"))) C4)) sP:=by
 subst hK
 refine⟨Q9 E5 hg hl KS (f9 (C0 (by omega) (C7 hN hv hd hcd) v5 (λ_ _=>rfl)) j9 he) (by decide) (by decide) he hpl,λd B0 A0 H0 B A E μ σ H Q r μ' S e q=>?_⟩
 cases e
 obtain⟨ha,l,b,ps,rs,_,h⟩:=S.rg
 exact⟨_,S.at0,d,_,rfl,fj h.hd,b,_,rfl,.inl (SqL.of h.hb),by rw[Hz,h.pb.1];exact q _ H rfl S (λ_ _=>rfl) (d8.refl _) a7.int⟩
end
end
section
section
variable [LamC]
local instance regI7:Feeds:=E7
variable {K:Fg}{X:Cx}{i0:Nat}{a b c e tg iter:Expr}{es:List Expr}{st:Stmt}{sts rest:List Stmt}{ta tb te:TE}{ma mb m:DE->M PyData}{t u:TS}{mt mu:DE->M Out}{pos pos' p p2 p3 p4:Pos}{x:Str}{j j2:Option Str}
section
variable {d:Addr}{B0 A0:List Addr}{H0:Hp}{B A:List Addr}{E:DE}{μ μ':Mac}{σ:St}{H H':Hp}
theorem SitMB.remake {A':List Addr}(S:SitMB K i0 d B0 A0 H0 B A E μ σ H)(kp:∀b o,H b=some o->b ∉ A->H' b=some o)(hA:∀a∈A',a∈A\/H a=none)(al:∀a∈A,∃o,H' a=some o)(rg:∀{W:Hp},d8 (hid H B) W->yw K W H' d μ' A'):SitMB K i0 d B0 A0 H0 (A'++B) A' E μ' σ H'/\d8 (hid H B) (hid H' (A'++B)):=by
 have tn:∀b∈A,b ∉ tabP K:=λb hb=>(S.aB b hb).2.1
 have nB:∀a,H a=none->a ∉ B:=λa e=>S.I.bk.nin e
 refine S.called ⟨?_,λa ha=>?_,λb o e _ n=>kp b o e n,?_,λb hb=>?_⟩
 .refine rg λb o eb=>?_
  by_cases hB:b∈B
  .rw[u7 hB]at eb;cases eb
  .rw[d7 hB]at eb
   rw[d7 λz=>(HC.mp z).elim (λz=>(hA b z).elim (λz=>hB (S.aB b z).1) λz=>by rw[z]at eb;cases eb) hB]
   exact kp b o eb λz=>hB (S.aB b z).1
 .rcases hA a ha with h | h
  .exact⟨tn a h,.inl h⟩
  .exact⟨λz=>nB a h (S.s a (S.tB a z)),.inr ⟨h,nB a h⟩⟩
 .refine S.I.fd.2.congr λb hb=>?_
  obtain⟨o,e,n⟩:∃o,H b=some o/\b ∉ A:=by
   rcases hb with hb | ⟨φ,e⟩
   .obtain⟨t,ht,rfl⟩:=Il.mp hb
    obtain⟨ps,e,_⟩:=S.I.fd.2 t ht
    exact⟨_,e,λz=>tn _ z (Jy ht)⟩
   .refine⟨_,e,λz=>?_⟩
    obtain⟨ha,l,bb,ps,rs,ea,h⟩:=S.rg
    rw[ea]at z
    rcases HB.mp z with rfl | z
    .rw[h.hd]at e;cases e
    .obtain⟨ys,ey⟩:=h.has b z
     rw[ey]at e;cases e
  rw[e];exact kp b o e n
 .by_cases hb':b∈A
  .exact al b hb'
  .obtain⟨o,e⟩:=S.I.bk b hb
   exact⟨o,kp b o e hb'⟩
end
def iO:List PyData->Option Per
 | [.int n,.int r,.int l,.bool b]=>some ⟨n,r,l,b⟩
 | _=>none
def je:List PyData->Option Row
 | [.str w,.int t,.none,.int q]=>some ⟨w,t,none,q⟩
 | _=>none
theorem xM {H:Hp}{ds:List PyData}{vs:List V}{y:Per}(h:iO ds=some y)(hd:a6 K H ds vs):vs=cK y:=by
 unfold iO at h
 split at h
 .cases h
  simp only[a6,a7]at hd
  obtain⟨_,_,rfl,rfl,_,_,rfl,rfl,_,_,rfl,rfl,_,_,rfl,rfl,rfl⟩:=hd
  rfl
 .cases h
theorem wR {H:Hp}{ds:List PyData}{vs:List V}{y:Row}(h:je ds=some y)(hd:a6 K H ds vs):vs=lz y:=by
 unfold je at h
 split at h
 .cases h
  simp only[a6,a7]at hd
  obtain⟨_,_,rfl,rfl,_,_,rfl,rfl,_,_,rfl,rfl,_,_,rfl,rfl,rfl⟩:=hd
  rfl
 .cases h
def mS (ms:DE->M (List PyData)):DE->M Out:=λE μ=>(ms E μ).bind λp=>(iO p.1).bind λy=>if (Mac.line p.2).length<sizeLine/\p.1.length<=sizeLine then some (.nx E,{ (p.2:Mac) with line:=Mac.line p.2++[y] }) else none
def kI (ms:DE->M (List PyData)):DE->M Out:=λE μ=>(ms E μ).bind λp=>(je p.1).bind λy=>if (Mac.book p.2).length<sizeLine/\p.1.length<=sizeLine then some (.nx E,{ (p.2:Mac) with book:=Mac.book p.2++[y] }) else none
theorem AF {ta:TA}{ms:DE->M (List PyData)}(h:TAq K i0 ta ms):TSm K i0 (aa (tBM K "list" R4 (E9 (l4 i0) (tC (.str "line"))) (l9 (dB ta) C4))) (mS ms):=λd B0 A0 H0 B A E μ σ H D r μ' S e q=>by
 obtain⟨⟨ds,μ1⟩,e1,e⟩:=bS9 e
 obtain⟨y,e2,e⟩:=bS9 e
 split at e
 .rename_i hsz
  cases e
  obtain⟨ha,l,b,ps,rs,ea,hm⟩:=S.rg
  refine⟨_,S.at0,d,_,rfl,aC hm.hd,.inl ⟨rfl,_,SqL.of hm.hl⟩,h d B0 A0 H0 B A E μ σ H _ ds μ1 S e1 λvs H1 em S1 k1 s1 h1=>⟨by rw[h1.length];exact hsz.2,λz hz=>?_⟩⟩
  subst em
  have ev:=xM e2 h1
  subst ev
  have hm1:MacIn K (hid H1 B) H1 d _ ha l b ps rs:=hm.keep s1 (ea▸k1)
  have nz:z ∉ A:=λzz=>by
   obtain⟨o,eo⟩:=Regs.has S1.rg z zz
   rw[hz]at eo;cases eo
  have nd:=hm1.nd
  have hlz:l≠z:=λzz=>nz (by rw[ea,<-zz];simp)
  refine⟨l,ps.map V.ref,.ref z,rfl,rfl,by rw[a8 hlz];exact hm1.hl,by rw[Hz,hm1.pl.1];exact hsz.1,?_⟩
  have hH:∀a,a≠z->a≠l->(upd (upd H1 z (.lst (cK y))) l (.lst (ps.map V.ref++[.ref z]))) a=H1 a:=λa n1 n2=>by rw[a8 n2,a8 n1]
  obtain⟨Z,_⟩:=S1.remake (A':=d::l::b::((ps++[z])++rs)) (H':=upd (upd H1 z (.lst (cK y))) l (.lst (ps.map V.ref++[.ref z]))) (μ':={ (μ1:Mac) with line:=Mac.line μ1++[y] })
   (λb' o eo n=>by rw[hH b' (λzz=>by rw[zz,hz]at eo;cases eo) (λzz=>n (by rw[ea,zz];simp))];exact eo)
   (λa ha=>by
    simp only[HB,HC,Jd,IM,JN]at ha
    rw[ea]
    simp only[HB,HC]
    rcases ha with h | h | h | (h | h) | h
    .exact .inl (.inl h)
    .exact .inl (.inr (.inl h))
    .exact .inl (.inr (.inr (.inl h)))
    .exact .inl (.inr (.inr (.inr (.inl h))))
    .exact .inr (h▸hz)
    .exact .inl (.inr (.inr (.inr (.inr h)))))
   (λa ha=>by
    by_cases h1:a=l
    .subst h1;exact⟨_,b8⟩
    .obtain⟨o,eo⟩:=Regs.has S1.rg a ha
     rw[hH a (λzz=>nz (zz▸ha)) h1];exact⟨o,eo⟩)
   (λ{W} sW=>by
    have nl:l ∉ d::b::(ps++rs):=by simp at nd ⊢;grind
    have nzz:z ∉ d::l::b::(ps++rs):=ea▸nz
    refine⟨ha,l,b,ps++[z],rs,rfl,?_,?_,hm1.hh.same sW,?_,?_,?_,?_⟩
    .simp at nd nzz ⊢;grind
    .rw[hH d (by simp at nzz;grind) (by simp at nl;grind)];exact hm1.hd
    .rw[b8,Ij];rfl
    .rw[hH b (by simp at nzz;grind) (by simp at nl;grind)];exact hm1.hb
    .refine v7.snoc (hm1.pl.keep λa ha=>hH a (by simp at nzz;grind) (by simp at nl;grind)) ?_
     rw[a8 (Iz hlz)];exact b8
    .exact hm1.pb.keep λa ha=>hH a (by simp at nzz;grind) (by simp at nl;grind))
  exact q _ _ σ _ Z
 .cases e
theorem zy {ta:TA}{ms:DE->M (List PyData)}(h:TAq K i0 ta ms):TSm K i0 (aa (tBM K "list" R4 (E9 (l4 i0) (tC (.str "book"))) (l9 (dB ta) C4))) (kI ms):=λd B0 A0 H0 B A E μ σ H D r μ' S e q=>by
 obtain⟨⟨ds,μ1⟩,e1,e⟩:=bS9 e
 obtain⟨y,e2,e⟩:=bS9 e
 split at e
 .rename_i hsz
  cases e
  obtain⟨ha,l,b,ps,rs,ea,hm⟩:=S.rg
  refine⟨_,S.at0,d,_,rfl,fj hm.hd,.inl ⟨rfl,_,SqL.of hm.hb⟩,h d B0 A0 H0 B A E μ σ H _ ds μ1 S e1 λvs H1 em S1 k1 s1 h1=>⟨by rw[h1.length];exact hsz.2,λz hz=>?_⟩⟩
  subst em
  have ev:=wR e2 h1
  subst ev
  have hm1:MacIn K (hid H1 B) H1 d _ ha l b ps rs:=hm.keep s1 (ea▸k1)
  have nz:z ∉ A:=λzz=>by
   obtain⟨o,eo⟩:=Regs.has S1.rg z zz
   rw[hz]at eo;cases eo
  have nd:=hm1.nd
  have hlz:b≠z:=λzz=>nz (by rw[ea,<-zz];simp)
  refine⟨b,rs.map V.ref,.ref z,rfl,rfl,by rw[a8 hlz];exact hm1.hb,by rw[Hz,hm1.pb.1];exact hsz.1,?_⟩
  have hH:∀a,a≠z->a≠b->(upd (upd H1 z (.lst (lz y))) b (.lst (rs.map V.ref++[.ref z]))) a=H1 a:=λa n1 n2=>by rw[a8 n2,a8 n1]
  obtain⟨Z,_⟩:=S1.remake (A':=d::l::b::(ps++(rs++[z]))) (H':=upd (upd H1 z (.lst (lz y))) b (.lst (rs.map V.ref++[.ref z]))) (μ':={ (μ1:Mac) with book:=Mac.book μ1++[y] })
   (λb' o eo n=>by rw[hH b' (λzz=>by rw[zz,hz]at eo;cases eo) (λzz=>n (by rw[ea,zz];simp))];exact eo)
   (λa ha=>by
    simp only[HB,HC,Jd,IM,JN]at ha
    rw[ea]
    simp only[HB,HC]
    rcases ha with h | h | h | h | (h | h)
    .exact .inl (.inl h)
    .exact .inl (.inr (.inl h))
    .exact .inl (.inr (.inr (.inl h)))
    .exact .inl (.inr (.inr (.inr (.inl h))))
    .exact .inl (.inr (.inr (.inr (.inr h))))
    .exact .inr (h▸hz))
   (λa ha=>by
    by_cases h1:a=b
    .subst h1;exact⟨_,b8⟩
    .obtain⟨o,eo⟩:=Regs.has S1.rg a ha
     rw[hH a (λzz=>nz (zz▸ha)) h1];exact⟨o,eo⟩)
   (λ{W} sW=>by
    have nl:b ∉ d::l::(ps++rs):=by simp at nd ⊢;grind
    have nzz:z ∉ d::l::b::(ps++rs):=ea▸nz
    refine⟨ha,l,b,ps,rs++[z],rfl,?_,?_,hm1.hh.same sW,?_,?_,?_,?_⟩
    .simp at nd nzz ⊢;grind
    .rw[hH d (by simp at nzz;grind) (by simp at nl;grind)];exact hm1.hd
    .rw[hH l (by simp at nzz;grind) (by simp at nl;grind)];exact hm1.hl
    .rw[b8,Ij];rfl
    .exact hm1.pl.keep λa ha=>hH a (by simp at nzz;grind) (by simp at nl;grind)
    .refine v7.snoc (hm1.pb.keep λa ha=>hH a (by simp at nzz;grind) (by simp at nl;grind)) ?_
     rw[a8 (Iz hlz)];exact b8)
  exact q _ _ σ _ Z
 .cases e
end
end
section
def isInt:PyData->Bool
 | .int _=>true
 | _=>false
def eu:DE->Bool
 | []=>true
 | some (.own _)::_=>false
 | _::r=>eu r
theorem iA:∀{E:DE} {i:Nat} {ds:List PyData},eu E=true->E[i]? ≠ some (some (DV.own ds))
 | [],i,ds,_=>by simp
 | x::r,0,ds,h=>by
  intro z
  simp at z
  subst z
  simp[eu]at h
 | x::r,i+1,ds,h=>by
  have:eu r=true:=by
   cases x with
   | none=>simpa [eu] using h
   | some y=>cases y <;> simp[eu]at h <;> exact h
  simpa using iA (i:=i) (ds:=ds) this
theorem my {K:Fg}{H H':Hp}:∀{ds:List PyData} {ws:List V},ds.all isInt=true->a6 K H ds ws->a6 K H' ds ws
 | [],ws,_,h=>by simpa only[a6] using h
 | d::ds,ws,hi,h=>by
  simp only[List.all_cons,JS]at hi
  simp only[a6]at h ⊢
  obtain⟨x,r,e,h1,h2⟩:=h
  refine⟨x,r,e,?_,my hi.2 h2⟩
  cases d <;> simp[isInt]at hi
  simpa only[a7] using h1
section
variable [LamC]
local instance regI8:Feeds:=E7
variable {K:Fg}{X:Cx}{i0:Nat}{a b c e tg iter:Expr}{es:List Expr}{st:Stmt}{sts rest:List Stmt}{ta tb te:TE}{ma mb m:DE->M PyData}{t u:TS}{mt mu:DE->M Out}{pos pos' p p2 p3 p4 px py:Pos}{x y:Str}
theorem zj {H:Hp}{a:Addr}{q:Per}(h:H a=some (.lst (cK q))):a7 K H (aL q) (.ref a):=by
 unfold aL
 exact a7.lst h (.cons a7.int (.cons a7.int (.cons a7.int (.cons a7.bl a6.nil))))
theorem AE {H:Hp}{a:Addr}{q:Row}(h:H a=some (.lst (lz q))):a7 K H (aI q) (.ref a):=by
 unfold aI
 exact a7.lst h (.cons a7.st (.cons a7.int (.cons qc (.cons a7.int a6.nil))))
theorem gY {α:Type}{f:α->List V}{g:α->PyData}{H:Hp}{B:List Addr}(hg:∀{a:Addr} {q:α},hid H B a=some (.lst (f q))->a7 K (hid H B) (g q) (.ref a)):∀{ps:List Addr} {xs:List α},v7 f H ps xs->(∀a∈ps,a ∉ B)->a6 K (hid H B) (xs.map g) (ps.map V.ref)
 | [],[],_,_=>by simp[a6]
 | [],x::xs,h,_=>by have:=h.1;simp at this
 | a::ps,[],h,_=>by have:=h.1;simp at this
 | a::ps,x::xs,h,hn=>by
  refine .cons (hg ?_) (gY hg ⟨by have:=h.1;simpa using this,λi b y h1 h2=>h.2 (i+1) b y (by simpa using h1) (by simpa using h2)⟩ λb hb=>hn b (HA _ hb))
  rw[d7 (hn a HV)]
  exact h.2 0 a x rfl rfl
def kU (μ:Mac):PyData:=.list (μ.line.map aL)
def BC (μ:Mac):PyData:=.list (μ.book.map aI)
section
variable {d:Addr}{B0 A0:List Addr}{H0:Hp}{B A:List Addr}{E:DE}{μ μ':Mac}{σ:St}{H H':Hp}{ha l bb:Addr}{ps rs:List Addr}
theorem MacIn.lineIs (h:MacIn K (hid H B) H d μ ha l bb ps rs){B':List Addr}(n:∀a∈l::bb::(ps++rs),a ∉ B'):a7 K (hid H B') (kU μ) (.ref l):=by
 refine a7.lst ?_ (gY (λz=>zj z) h.pl λa ha=>n a (by simp[ha]))
 rw[d7 (n l (by simp))];exact h.hl
theorem MacIn.bookIs (h:MacIn K (hid H B) H d μ ha l bb ps rs){B':List Addr}(n:∀a∈l::bb::(ps++rs),a ∉ B'):a7 K (hid H B') (BC μ) (.ref bb):=by
 refine a7.lst ?_ (gY (λz=>AE z) h.pb λa ha=>n a (by simp[ha]))
 rw[d7 (n bb (by simp))];exact h.hb
theorem SitMB.reveal (S:SitMB K i0 d B0 A0 H0 B A E μ σ H)(ea:A=d::l::bb::(ps++rs)):SitE K none (wo B (l::bb::(ps++rs))) E μ σ H:=by
 have mA:∀a∈l::bb::(ps++rs),a∈A:=λa h=>ea▸HA _ h
 refine⟨S.I.fd,λb hb=>bH.mpr ⟨S.s b (S.tB b hb),λz=>(S.aB b (mA b z)).2.1 hb⟩,λb hb=>S.I.bk b (bH.mp hb).1,S.I.ln,λi x ei=>?_⟩
 obtain⟨v,v1,v2⟩:=S.I.loc i x ei
 refine⟨v,v1,?_⟩
 have sub:∀b∈wo B (l::bb::(ps++rs)),b∈B:=λb hb=>(bH.mp hb).1
 cases x with
 | dat y=>exact a7.same (show a7 K (hid H B) y v from v2) (G6 sub)
 | feed=>exact v2
 | fn _=>exact v2
 | adr _=>exact v2
 | own ys =>
  obtain⟨a',xs,rfl,hB,hf,hx,hd⟩:=v2
  exact⟨a',xs,rfl,bH.mpr ⟨hB,λz=>(S.own i ys a' ei v1).2 (mA _ z)⟩,hf,hx,hd.same (G6 sub)⟩
theorem SitE.snoc {G:GF}{F:FS}{v:V}{x:DV}(I:SitE K G B E F σ H)(h:DVr K G B H x v):SitE K G B (E++[some x]) F (σ++[some v]) H:=by
 refine⟨I.fd,I.fB,I.bk,by simp[I.ln],λi y e=>?_⟩
 by_cases hi:i<E.length
 .rw[Ib hi]at e
  rw[Ib (by rw[<-I.ln];exact hi)]
  exact I.loc i y e
 .rw[Ig (by omega)]at e
  rw[Ig (by rw[<-I.ln];omega),<-I.ln]
  cases hk:i-E.length with
  | zero=>rw[hk]at e;simp at e;subst e;exact⟨v,rfl,h⟩
  | succ k=>rw[hk]at e;simp at e
end
def aw (j:Nat)(mu:DE->M (List PyData)):DE->M Out:=λE μ=>if j<E.length/\eu E=true then(mu (E.set j (some (.dat (kU μ)))) μ).bind λp=>if p.1.all isInt=true then some (.rt (.list p.1),μ) else none else none
theorem iC {E:DE}{j:Nat}{d:PyData}(h:eu E=true):∀(i:Nat) (ds:List PyData),(E.set j (some (.dat d)))[i]? ≠ some (some (DV.own ds)):=λi ds e=>by
 by_cases hj:j=i
 .subst hj
  by_cases hl:j<E.length
  .rw[HR hl]at e;cases e
  .rw[Jk (by simpa using hl)]at e;cases e
 .rw[HL hj]at e
  exact iA h e
theorem sM {j:Nat}{u:TS}{mu:DE->M (List PyData)}(h:∀(G:GF) (B0:List Addr) (H0:Hp) (E:DE) (F:FS) (σ:St) (H:Hp) (D:Ends) (ds:List PyData) (F':FS),Sit K G B0 H0 E F σ H->mu E F=some (ds,F') ->
  (∀a ws H',H0 a=none->H' a=some (.lst ws)->Kp (j7 K G) H0 H'->FAt K G H' F'->a6 K (hid H' (a::B0)) ds ws->D.rt (.ref a) H')->u D σ H):TSm K i0 (N5 (G9 (E9 (l4 i0) (tC (.str "line"))) (D3 j)) u) (aw j mu):=λd B0 A0 H0 B A E μ σ H D r μ' S e q=>by
 unfold aw at e
 split at e
 .rename_i hc
  obtain⟨⟨ds,μ1⟩,e1,e⟩:=bS9 e
  split at e
  .rename_i hi
   cases e
   obtain⟨ha,l,bb,ps,rs,ea,hm⟩:=S.rg
   have nn:∀a∈l::bb::(ps++rs),a ∉ wo B (l::bb::(ps++rs)):=λa h z=>(bH.mp z).2 h
   have I0:=S.reveal ea
   refine⟨_,S.at0,d,_,rfl,aC hm.hd,?_⟩
   refine h none (wo B (l::bb::(ps++rs))) H _ μ _ H D ds μ1 ⟨⟨_,λ_ z=>z,λb hb=>.inl hb,I0.set (hm.lineIs nn) hc.1⟩,I0.fB,Kp.refl,λi es a ei _=>absurd ei (iC hc.2 i es),λi k es fs a ei _ _ _=>absurd ei (iC hc.2 i es)⟩ e1 λa ws H' hn hw k f hd=>?_
   have S':=S.step k f.2
   refine q _ H' A S'.fin.1 (a7.lst ?_ (my hi hd))
   rw[d7 λz=>?_]
   .exact hw
   .refine S.I.bk.nin hn ?_
    rcases HC.mp z with z | z
    .exact(S.aB a z).1
    .exact S.s a z
  .cases e
 .cases e
theorem rJ (j:Nat){k}{u:TS}{mu:DE->M (List PyData)}(hu:X.A.units+65<cLine)(hN:X.N.Nodup)(h:SsG K X rest u mu)(h0:X.N[i0]? = some x:=by rfl)(hv:Vis X.env.scope x:=by first | exact Or.inl rfl | exact Or.inr (Or.inl rfl) | exact Or.inr (Or.inr rfl))(hd:(x == ("__debug__":Str))=false:=by decide)(hcd:(x == ("__classdict__":Str))=false:=by decide)
  (hi:X.N[j]? = some y:=by rfl) (hx:Loc X.env.scope y:=by first | exact Or.inl rfl | exact Or.inr rfl) (hs:swapsWith (.Subscript (.Name x px) (.Constant (.str "line") k p2) p3) (some (.Name y py)) pos.line X.env=pure false:=by rfl) (hf:X.fn y=true\/X.env.scope.names.lookup y=some .local:=by first | exact .inl rfl | exact .inr rfl | assumption) :
  SmsR K X i0 (.Assign [.Name y py] (.Subscript (.Name x px) (.Constant (.str "line") k p2) p3) pos::rest) (N5 (G9 (E9 (l4 i0) (tC (.str "line"))) (D3 j)) u) (aw j mu) :=
 ⟨i9 (G7 hN hi hx (C0 (by omega) (C7 h0 hv hd hcd) v5 (λ_ _=>rfl)) hs hf) h.ps,sM h.ok⟩
theorem xi {k}{ap cp pl:Pos}{ta:TA}{ms:DE->M (List PyData)}(hK:X.K=K)(hu:X.A.units+65<cLine)(h:Eaq K X i0 es ta ms)(h0:X.N[i0]? = some x:=by rfl)(hv:Vis X.env.scope x:=by first | exact Or.inl rfl | exact Or.inr (Or.inl rfl) | exact Or.inr (Or.inr rfl))(hd:(x == ("__debug__":Str))=false:=by decide)(hcd:(x == ("__classdict__":Str))=false:=by decide)
  (hbase:attributeBase (.Subscript (.Name x px) (.Constant (.str "line") k p2) p3) "append" X.env (eval (.Subscript (.Name x px) (.Constant (.str "line") k p2) p3) X.env)=eval (.Subscript (.Name x px) (.Constant (.str "line") k p2) p3) X.env:=by rfl)
  (hfew:((backTo cp (starEach [.List es pl] X.env)).all (λx=>!x.1)&&(backToKw cp (keywordEach [] X.env)).all (λx=>x.1.isSome)
   && decide ([Expr.List es pl].length+([]:List Keyword).length+(if ([]:List Keyword).isEmpty then 0 else 1)<30))=true:=by rfl)
  (hline:(ap.endLine == cp.line)=true:=by rfl) (hst:starEach [.List es pl] X.env=(false,eval (.List es pl) X.env)::starEach [] X.env:=by rfl) (hplain:(backTo cp (starEach [] X.env)).any (·.1)=false:=by rfl)
  (hs:swapsWith (.Call (.Attribute (.Subscript (.Name x px) (.Constant (.str "line") k p2) p3) "append" ap) [.List es pl] [] cp) none pos.line X.env=pure false:=by rfl) :
  SmR K X i0 (.Expr (.Call (.Attribute (.Subscript (.Name x px) (.Constant (.str "line") k p2) p3) "append" ap) [.List es pl] [] cp) pos) (aa (tBM K "list" R4 (E9 (l4 i0) (tC (.str "line"))) (l9 (dB ta) C4))) (mS ms):=by
 subst hK
 exact⟨S4 (ia Ju JB JC J0 (C0 (by omega) (C7 h0 hv hd hcd) v5 (λ_ _=>rfl)) (f9 (N4 h.pa) j9 hst) hbase hfew hline hst hplain) hs,AF h.ok⟩
theorem xq {k}{ap cp pl:Pos}{ta:TA}{ms:DE->M (List PyData)}(hK:X.K=K)(hu:X.A.units+65<cLine)(h:Eaq K X i0 es ta ms)(h0:X.N[i0]? = some x:=by rfl)(hv:Vis X.env.scope x:=by first | exact Or.inl rfl | exact Or.inr (Or.inl rfl) | exact Or.inr (Or.inr rfl))(hd:(x == ("__debug__":Str))=false:=by decide)(hcd:(x == ("__classdict__":Str))=false:=by decide)
  (hbase:attributeBase (.Subscript (.Name x px) (.Constant (.str "book") k p2) p3) "append" X.env (eval (.Subscript (.Name x px) (.Constant (.str "book") k p2) p3) X.env)=eval (.Subscript (.Name x px) (.Constant (.str "book") k p2) p3) X.env:=by rfl)
  (hfew:((backTo cp (starEach [.List es pl] X.env)).all (λx=>!x.1)&&(backToKw cp (keywordEach [] X.env)).all (λx=>x.1.isSome)
   && decide ([Expr.List es pl].length+([]:List Keyword).length+(if ([]:List Keyword).isEmpty then 0 else 1)<30))=true:=by rfl)
  (hline:(ap.endLine == cp.line)=true:=by rfl) (hst:starEach [.List es pl] X.env=(false,eval (.List es pl) X.env)::starEach [] X.env:=by rfl) (hplain:(backTo cp (starEach [] X.env)).any (·.1)=false:=by rfl)
  (hs:swapsWith (.Call (.Attribute (.Subscript (.Name x px) (.Constant (.str "book") k p2) p3) "append" ap) [.List es pl] [] cp) none pos.line X.env=pure false:=by rfl) :
  SmR K X i0 (.Expr (.Call (.Attribute (.Subscript (.Name x px) (.Constant (.str "book") k p2) p3) "append" ap) [.List es pl] [] cp) pos) (aa (tBM K "list" R4 (E9 (l4 i0) (tC (.str "book"))) (l9 (dB ta) C4))) (kI ms):=by
 subst hK
 exact⟨S4 (ia Ju JB JC J0 (C0 (by omega) (C7 h0 hv hd hcd) v5 (λ_ _=>rfl)) (f9 (N4 h.pa) j9 hst) hbase hfew hline hst hplain) hs,zy h.ok⟩
end
end
section
section
variable [LamC]
local instance regI9:Feeds:=E7
variable {K:Fg}{X:Cx}{i0:Nat}{a b c e tg iter:Expr}{es:List Expr}{st:Stmt}{sts rest:List Stmt}{ta tb te:TE}{ma mb m:DE->M PyData}{t u:TS}{mt mu:DE->M Out}{pos pos' p p2 p3 p4 px py:Pos}{x y:Str}
theorem CB (h:TEs K te m):TIs K (mQ K te) (X4 m):=λG B E F σ H R ds F' I e q=>by
 obtain⟨⟨y,F1⟩,e1,e⟩:=bS9 e
 obtain⟨z,e2,e⟩:=bS9 e
 cases e
 refine h G B E F σ H _ y F1 I e1 λv H1 k1 f1 h1=>?_
 cases y with
 | list ys =>
  cases e2
  obtain⟨a,xs,rfl,ha,hd⟩:=h1
  refine⟨a,rfl,.inl ⟨⟨xs,SqL.of (c7 _ _ ha)⟩,q _ H1 k1 f1 (kc λH2 B2 k=>⟨c7 _ _ (k.1.hid (B:=j7 K G) (λ_ z=>z) _ _ ha),hd.same k.2⟩)⟩⟩
 | tuple ys =>
  cases e2
  obtain⟨a,xs,rfl,ha,hd⟩:=h1
  refine⟨a,rfl,.inr ⟨⟨xs,ha.same c7⟩,q _ H1 k1 f1 (oH λH2 B2 k=>⟨(ha.same k.2).same c7,hd.same k.2⟩)⟩⟩
 | _=>cases e2
def ao (book:Bool)(μ:Mac):List PyData:=if book=true then μ.book.map aI else μ.line.map aL
def wc (book:Bool)(k:Nat)(bd:PyData->DE->Option DE)(mt:DE->M Bool)(me:DE->M PyData):DE->M (List PyData):=λ_ μ =>
 if (ao book μ).length<=sizeLine then(U6 bd mt me (ao book μ) (List.replicate k none) μ).bind λz=>if nQ z.1=true then some (z.1,μ) else none else none
def jb (book:Bool):Str:=if book then "book" else "line"
theorem BX {book:Bool}{k:Nat}{g:TG}{bd:PyData->DE->Option DE}{tt:TT}{mt:DE->M Bool}{me:DE->M PyData}(hg:TGd K g bd)(ht:TTd K tt mt)(he:TEd K te me) :
  ∀(d:Addr) (B0 A0:List Addr) (H0:Hp) (B A:List Addr) (E:DE) (μ:FS) (σ:St) (H:Hp) (Q:VK) (r:List PyData) (μ':FS),SitMB K i0 d B0 A0 H0 B A E μ σ H->wc book k bd mt me E μ=some (r,μ') ->
  (∀z ws H',μ' = μ->H z=none->H' z=some (.lst ws)->SitMB K i0 d B0 A0 H0 B A E μ σ H'->(∀a∈A,H' a=H a)->d8 (hid H B) (hid H' B)->a6 K (hid H' B) r ws->a7 K (hid H' B) (.list r) (.ref z)->Q (.ref z) H')->tLC (mQ K (E9 (l4 i0) (tC (.str (jb book))))) k [] g tt te σ H Q:=λd B0 A0 H0 B A E μ σ H Q r μ' S e q=>by
 unfold wc at e
 split at e
 .rename_i hok
  obtain⟨⟨rs0,μ1⟩,e1,e⟩:=bS9 e
  split at e
  .rename_i hnl
   cases e
   obtain⟨ha,l,bb,ps,rs,ea,hm⟩:=S.rg
   have nn:∀a∈l::bb::(ps++rs),a ∉ wo B (l::bb::(ps++rs)):=λa h z=>(bH.mp z).2 h
   obtain⟨v,items,hit,hget,hdv⟩:∃v items,ao book μ=items/\cM H d (.str (jb book)) (some v)/\a7 K (hid H (wo B (l::bb::(ps++rs)))) (.list items) v:=by
    cases book with
    | true=>exact⟨_,_,rfl,fj hm.hd,hm.bookIs nn⟩
    | false=>exact⟨_,_,rfl,aC hm.hd,hm.lineIs nn⟩
   rw[hit]at hok e1
   have I0:=(S.reveal ea).snoc (x:=.dat (.list items)) hdv
   have hsz:items.length<=sizeLine:=hok
   have hT:TFd K (tLC (mQ K (l4 σ.length)) k [] g tt te) (fLC (X4 (sV E.length)) k [] bd mt me):=yD (CB (by rw[<-S.I.ln];exact(yQ E.length).sh)) hg ht he
   have hrun:fLC (X4 (sV E.length)) k [] bd mt me (E++[some (.dat (.list items))]) μ=some (rs0,μ1):=by
    have h1:sV E.length (E++[some (.dat (.list items))]) μ=some (.list items,μ):=by
     unfold sV
     rw[Ig (HK _),Nat.sub_self]
     rfl
    unfold fLC X4
    rw[h1]
    show(if items.length<=sizeLine then(U6 bd mt me items (eZ k [] _) μ).bind λz=>some (z.1,z.2) else none)=_
    rw[HH hsz]
    have:eZ k [] (E++[some (DV.dat (.list items))])=List.replicate k none:=by simp[eZ]
    rw[this,e1];rfl
   have key:=hT none _ _ μ _ H (λv H'=>Q v H') rs0 μ1 I0 hrun λz ws H' hz hw k1 f1 hd=>by
    have S':=S.step k1 f1.2
    have hA:∀a∈l::bb::(ps++rs),∃xs,H' a=some (.lst xs):=λa h=>by
     obtain⟨ys,ey⟩:=hm.has a h
     exact⟨ys,k1 a _ ey (S.aB a (ea▸HA _ h)).2.1⟩
    have hd':a6 K (hid H' (wo B (l::bb::(ps++rs)))) rs0 ws:=hd.same (G6 λb hb=>HA _ hb)
    have hd2:=a6.back hA rs0 ws hnl hd'
    refine q z ws H' rfl hz hw S' (S.kept k1) (S.sm k1) hd2 (a7.lst ?_ hd2)
    rw[d7 (S.I.bk.nin hz)];exact hw
   obtain⟨v',hv',a',ea',key⟩:=key
   have hvv:v'=v:=by
    rw[Ig (HK _),Nat.sub_self]at hv'
    simpa using hv'.symm
   subst hvv
   exact⟨_,S.at0,d,v',rfl,hget,a',ea',key⟩
  .cases e
 .cases e
def kL (book:Bool)(k:Nat)(bd:PyData->DE->Option DE)(mt:DE->M Bool)(me:DE->M PyData):DE->M PyData:=λE μ=>(wc book k bd mt me E μ).bind λp=>some (.list p.1,p.2)
theorem Ab {book:Bool}{k:Nat}{g:TG}{bd:PyData->DE->Option DE}{tt:TT}{mt:DE->M Bool}{me:DE->M PyData}(hg:TGd K g bd)(ht:TTd K tt mt)(he:TEd K te me) :
  TEm K i0 (tLC (mQ K (E9 (l4 i0) (tC (.str (jb book))))) k [] g tt te) (kL book k bd mt me):=λd B0 A0 H0 B A E μ σ H Q r μ' S e q=>by
 obtain⟨⟨rs,μ1⟩,e1,e⟩:=bS9 e
 cases e
 exact BX hg ht he d B0 A0 H0 B A E μ σ H _ rs _ S e1 λz ws H' em hz hw S' k1 s1 hd hl=>q _ H' B A (em▸S') s1 hl
theorem xf {k k2}{elt:Expr}{ifs:List Expr}{scope osc:Scope}{N:List Str}{book:Bool}{g:TG}{bd:PyData->DE->Option DE}{tt:TT}{mt:DE->M Bool}{me:DE->M PyData}(hK:X.K=K)(hu:X.A.units+65<cLine)
  (hc:X.calm=true) (hosc:X.env.scope=osc) (hcap:Caps X.N osc N k [] scope)
  (hg:∀cl C ex pins s H,Eg K (cxC X N scope cl C ex pins s H) tg g bd)
  (ht:∀cl C ex pins s H,Ets K (cxC X N scope cl C ex pins s H) ifs tt mt)
  (he:∀cl C ex pins s H,Ev K (cxC X N scope cl C ex pins s H) elt te me)
  (h0:X.N[i0]? = some x:=by rfl) (hv:Vis X.env.scope x:=by first | exact Or.inl rfl | exact Or.inr (Or.inl rfl) | exact Or.inr (Or.inr rfl)) (hd:(x == ("__debug__":Str))=false:=by decide) (hcd:(x == ("__classdict__":Str))=false:=by decide)
  (hs:∀z,foldedSetIterable (.Subscript (.Name x p) (.Constant (.str (jb book)) k2 p2) p3) X.env z=pure z:=by intro _;rfl) :
  Em K X i0 (.ListComp elt [⟨tg,.Subscript (.Name x p) (.Constant (.str (jb book)) k2 p2) p3,ifs,0⟩] scope pos) (tLC (mQ K (E9 (l4 i0) (tC (.str (jb book))))) k [] g tt te) (kL book k bd mt me):=by
 subst hK
 exact⟨ub hc hosc hcap (nI rfl (C0 (by omega) (C7 h0 hv hd hcd) v5 (λ_ _=>rfl))) (λcl C ex pins s H=>(hg cl C ex pins s H).pg) (λcl C ex pins s H=>(ht cl C ex pins s H).pts) (λcl C ex pins s H=>(he cl C ex pins s H).pe) hs,
  Ab (hg [] 0 [] [] X.s₀ X.H₀).ok (ht [] 0 [] [] X.s₀ X.H₀).ok (he [] 0 [] [] X.s₀ X.H₀).ok⟩
def yG:PyData->Option (Option Int)
 | .none=>some none
 | .int i=>some (some i)
 | _=>none
def ar:PyData->Option Mac
 | .tuple [.int h,c,.str u]=>(yG c).bind λc=>some ⟨h,c,u,[],[],0⟩
 | _=>none
theorem rP (hv:V)(l b:Addr):dF [] (y8 hv l b 0)=y8 hv l b 0:=by
 have e1:J6 ([]:List (Key×V)) (Sum.inr "house") hv=([(Sum.inr "house",hv)]:List (Key×V)):=cz _ rfl
 have e2:J6 ([(Sum.inr "house",hv)]:List (Key×V)) (Sum.inr "line") (V.ref l)=([(Sum.inr "house",hv),(Sum.inr "line",V.ref l)]:List (Key×V)):=cz _ (by rw[w6 (by rw[J5];exact mn1)];rfl)
 have e3:J6 ([(Sum.inr "house",hv),(Sum.inr "line",V.ref l)]:List (Key×V)) (Sum.inr "book") (V.ref b)=([(Sum.inr "house",hv),(Sum.inr "line",V.ref l),(Sum.inr "book",V.ref b)]:List (Key×V)) :=
  cz _ (by rw[w6 (by rw[J5];exact mn2),w6 (by rw[J5];exact mn4)];rfl)
 have e4:J6 ([(Sum.inr "house",hv),(Sum.inr "line",V.ref l),(Sum.inr "book",V.ref b)]:List (Key×V)) (Sum.inr "at") (V.int 0)=y8 hv l b 0 :=
  cz _ (by rw[w6 (by rw[J5];exact mn3),w6 (by rw[J5];exact mn5),w6 (by rw[J5];exact mn6)];rfl)
 show J6 (J6 (J6 (J6 ([]:List (Key×V)) (Sum.inr "house") hv) (Sum.inr "line") (V.ref l)) (Sum.inr "book") (V.ref b)) (Sum.inr "at") (V.int 0)=_
 rw[e1,e2,e3,e4]
def Cn:TE:=yr [(tC (.str "house"),l4 0),(tC (.str "line"),dB C4),(tC (.str "book"),dB C4),(tC (.str "at"),tC (.int 0))]
theorem Cu {vs:List V}{H:Hp}{Q:VK}{E:XK}{D:Ends}{N:List Str}(h:spN K ar vs H Q E)(hD:D.rt=Q):qE Cn D (L2.A5 N vs) H:=by
 obtain⟨B,hh,μ,v,rfl,bk,hd,hm,q⟩:=h
 obtain⟨hn,c,u,ec,rfl,rfl⟩:∃hn c u,True/\hh = .tuple [.int hn,eV c,.str u] /\ μ=⟨hn,c,u,[],[],0⟩:=by
  unfold ar at hm
  split at hm
  .rename_i h1 c1 u1
   obtain⟨c2,e1,e2⟩:=bS9 hm
   cases e2
   refine⟨_,c2,_,trivial,?_,rfl⟩
   unfold yG at e1
   split at e1
   .cases e1;rfl
   .cases e1;rfl
   .cases e1
  .cases hm
 simp only[a7]at hd
 obtain⟨ha,xs,rfl,hq,hx⟩:=hd
 have hx:xs=[.int hn,vp c,.str u]:=by
  simp only[a6,a7]at hx
  obtain⟨_,_,rfl,rfl,y,_,rfl,h2,_,_,rfl,rfl,rfl⟩:=hx
  cases c with
  | none =>
   have:y = .non:=by simpa only[eV,a7] using h2
   subst this;rfl
  | some i =>
   have:y = .int i:=by simpa only[eV,a7] using h2
   subst this;rfl
 subst hx
 show Cn (L2.A5 N [.ref ha]) H D.rt
 rw[hD]
 intro p hp
 refine⟨_,rfl,IG _,λl hl=>⟨IG _,λb hb=>?_⟩⟩
 have pl:p≠l:=d6 b8 hl
 have lb:l≠b:=d6 b8 hb
 have hb1:=hb
 rw[a8 (Iz lb)]at hb1
 have pb:p≠b:=d6 b8 hb1
 have hl0:H l=none:=by rw[a8 (Iz pl)]at hl;exact hl
 have hb0:H b=none:=by rw[a8 (Iz pb)]at hb1;exact hb1
 refine⟨by rw[a8 pb,a8 pl];exact b8,y8 (.ref ha) l b 0,rfl,by show 4<=15;decide,?_⟩
 rw[rP]
 have sm:d8 H (upd (upd (upd (upd H p (.dK [])) l (.lst [])) b (.lst [])) p (.dK (y8 (.ref ha) l b 0))):=λx o e=>by
  rw[a8 (d6 e hp),a8 (d6 e hb0),a8 (d6 e hl0),a8 (d6 e hp)];exact e
 refine q p [p,l,b] _ sm (λa hm=>?_) ⟨ha,l,b,[],[],rfl,?_,b8,hq.same λx o e=>?_,?_,?_,⟨rfl,λi x y h1 _=>by simp at h1⟩,⟨rfl,λi x y h1 _=>by simp at h1⟩⟩
 .simp at hm
  rcases hm with rfl | rfl | rfl
  .exact hp
  .exact hl0
  .exact hb0
 .simp[pl,pb,lb]
 .by_cases hB:x∈B
  .rw[u7 hB]at e;cases e
  .rw[d7 hB]at e
   rw[d7 λz=>?_]
   .exact sm x o e
   .simp at z
    rcases z with z | z | z | z
    .rw[z,hp]at e;cases e
    .rw[z,hl0]at e;cases e
    .rw[z,hb0]at e;cases e
    .exact hB z
 .rw[a8 (Iz pl),a8 lb];exact b8
 .rw[a8 (Iz pb)];exact b8
end
end
section
structure BS where
 line:List Per
 book:List Row
 stay:List Per
 turned:List Per
 gone:List Int
def eC:Option PyData->Option Bool
 | some (.bool b)=>some b
 | _=>none
theorem gT {o:Option PyData}{b:Bool}(h:eC o=some b):o=some (.bool b):=by
 unfold eC at h
 split at h
 .cases h;rfl
 .cases h
def mJ:PyData:=.tuple [.str "first",.str "last",.str "short",.str "front"]
def gz (u:Str):Option Bool:=eC (inD false (.str u) mJ)
def inB (some:PyData)(k:Nat):Option Bool:=eC (inD false (.int k) some)
def cN (kp tn:Bool)(t:Int)(k:Nat)(pk:Bool)(s:BS):Option BS :=
 (s.line[k]?).bind λp=>(ixN s.book.length p.n).bind λj=>(s.book[j]?).bind λrow =>
  let p1:Per:=if pk=true then⟨p.n,p.r,p.l-1,kp⟩ else p
  let row1:Row:=if pk=true then row else⟨row.w,row.t,row.m,row.q+1⟩
  some (if p1.l=0 then⟨s.line.set k p1,s.book.set j ⟨"gone",row1.t,some t,row1.q⟩,s.stay,s.turned,s.gone++[p.n]⟩
   else if pk=true/\tn=true then⟨s.line.set k p1,s.book.set j row1,s.stay,s.turned++[p1],s.gone⟩
   else⟨s.line.set k p1,s.book.set j row1,s.stay++[p1],s.turned,s.gone⟩)
def V9 (kp tn:Bool)(t:Int)(some:PyData):Nat->Nat->BS->Option BS
 | 0,_,s=>Option.some s
 | n+1,k,s=>(inB some k).bind λpk=>(cN kp tn t k pk s).bind λs'=>V9 kp tn t some n (k+1) s'
def kZ (some:PyData)(μ:Mac):Option (List Int×Mac):=if μ.line.length<sizeLine/\(μ.line.length:Int)<2 ^ 62 then
 (gz μ.u).bind λkp=>(V9 kp (decide (μ.u = "turns")) (μ.t+1) some μ.line.length 0 ⟨μ.line,μ.book,[],[],[]⟩).bind λs=>Option.some (s.gone,{ μ with line:=s.stay++s.turned,book:=s.book,t:=μ.t+1 }) else none
section
variable (K:Fg)
def tML:TE:=E9 (l4 0) (tC (.str "line"))
def tMB:TE:=E9 (l4 0) (tC (.str "book"))
def ze:TE:=tOp (vz K) (E9 (l4 0) (tC (.str "house"))) (tC (.int 2))
def tP (i:Int):TE:=tOp (qI K) (l4 8) (tC (.int i))
def tR (i:Int):TE:=tOp (qI K) (l4 9) (tC (.int i))
def tIn:TT:=fZ (tOp (rD2 K (inD false)) (l4 7) (l4 3))
def lY (i:Nat)(te:TE):TS:=aa (tBM K "list" R4 (l4 i) (l9 te C4))
def yz:TS :=
 N5 (G9 (tOp (qI K) tML (l4 7)) (D3 8))
 (N5 (G9 (tOp (qI K) tMB (tP K 0)) (D3 9))
 (N5 (lO (tIn K)
   (N5 (G9 (tOp (rI0 λi j=>.int (i-j)) (tP K 2) (tC (.int 1))) (jn (l4 8) (tC (.int 2)) bP))
    (G9 (tOp (rD2 K (inD false)) (ze K) (K9 mJ)) (jn (l4 8) (tC (.int 3)) bP)))
   (G9 (tOp (rI0 λi j=>.int (i+j)) (tR K 3) (tC (.int 1))) (jn (l4 9) (tC (.int 3)) bP)))
  (lO (fZ (tOp rEq (tP K 2) (tC (.int 0))))
   (N5 (G9 (tC (.str "gone")) (jn (l4 9) (tC (.int 0)) bP))
   (N5 (G9 (E9 (l4 0) (tC (.str "at"))) (jn (l4 9) (tC (.int 2)) bP))
    (lY K 6 (tP K 0))))
   (lO (zJ (tIn K) (fZ (tOp rEq (ze K) (tC (.str "turns")))))
    (lY K 5 (l4 8)) (lY K 4 (l4 8))))))
def BV:TS :=
 N5 (sG (l4 0) (tC (.str "at")) (tOp (rI0 λi j=>.int (i+j)) (E9 (l4 0) (tC (.str "at"))) (tC (.int 1))))
 (N5 (G9 (dB C4) (D3 4)) (N5 (G9 (dB C4) (D3 5)) (N5 (G9 (dB C4) (D3 6))
 (N5 (qW (vv (l9 (tCB (AQ K) (l9 tML C4)) C4)) (D3 7) (yz K))
 (N5 (sG (l4 0) (tC (.str "line")) (tOp CT (l4 4) (l4 5)))
  (qE (qZ (l9 (l4 2) (l9 (l4 6) C4)))))))))
end
structure LP (K:Fg) (B A:List Addr) (Hs:Hp) (d ha l b:Addr) (ps rs:List Addr) (st tu go:Addr) (h:Int) (c:Option Int) (u:Str) (t:Int) (sa ta:List Addr) (s:BS) (H:Hp):Prop where
 mi:MacIn K (hid H B) H d ⟨h,c,u,s.line,s.book,t⟩ ha l b ps rs
 hst:H st=some (.lst (sa.map V.ref))
 htu:H tu=some (.lst (ta.map V.ref))
 hgo:H go=some (.lst (s.gone.map V.int))
 so:v7 cK H sa s.stay
 to:v7 cK H ta s.turned
 kp:∀x o,Hs x=some o->x ∉ A->H x=some o
 bk:BOk H B
section
variable {K:Fg}{B A:List Addr}{Hs:Hp}{d ha l b:Addr}{ps rs:List Addr}{st tu go:Addr}{h:Int}{c:Option Int}{u:Str}{t:Int}{sa ta:List Addr}{s:BS}{H H':Hp}
theorem LP.same (L:LP K B A Hs d ha l b ps rs st tu go h c u t sa ta s H)(sm:d8 H H'):LP K B A Hs d ha l b ps rs st tu go h c u t sa ta s H':=by
 have ob:∀{α:Type} {f:α->List V} {qs:List Addr} {xs:List α},v7 f H qs xs->v7 f H' qs xs:=λo=>⟨o.1,λi a x h1 h2=>sm _ _ (o.2 i a x h1 h2)⟩
 exact⟨⟨L.mi.nd,sm _ _ L.mi.hd,L.mi.hh.same ((Kp.same (fp:=[]) sm).hid (by simp)),sm _ _ L.mi.hl,sm _ _ L.mi.hb,ob L.mi.pl,ob L.mi.pb⟩,sm _ _ L.hst,sm _ _ L.htu,sm _ _ L.hgo,ob L.so,ob L.to,λx o e n=>sm _ _ (L.kp x o e n),λx hx=>by obtain⟨o,e⟩:=L.bk x hx;exact⟨o,sm _ _ e⟩⟩
end
theorem kq {xs:List Addr}(nd:xs.Nodup){i j:Nat}{a:Addr}(h1:xs[i]? = some a)(h2:xs[j]? = some a):i=j:=by
 obtain⟨hi,ei⟩:=HG.mp h1
 obtain⟨hj,ej⟩:=HG.mp h2
 rcases Nat.lt_trichotomy i j with h | h | h
 .exact absurd (ei.trans ej.symm) (Jc.mp nd i j hi hj h)
 .exact h
 .exact absurd (ej.trans ei.symm) (Jc.mp nd j i hj hi h)
theorem v7.set {α:Type}{f:α->List V}{H:Hp}{ps:List Addr}{xs:List α}{k:Nat}{a:Addr}{x:α}(o:v7 f H ps xs)(ha:ps[k]? = some a)(nd:ps.Nodup):v7 f (upd H a (.lst (f x))) ps (xs.set k x):=by
 refine⟨by simp[o.1],λi b y h1 h2=>?_⟩
 obtain⟨hk,ek⟩:=HG.mp ha
 obtain⟨hi,ei⟩:=HG.mp h1
 by_cases hik:k=i
 .subst hik
  rw[ha]at h1;cases h1
  rw[HR (by rw[<-o.1];exact hk)]at h2
  cases h2
  exact b8
 .rw[HL hik]at h2
  have hne:b≠a:=λz=>hik (kq nd ha (z▸h1))
  rw[a8 hne]
  exact o.2 i b y h1 h2
theorem v7.other {α:Type}{f:α->List V}{H:Hp}{ps:List Addr}{xs:List α}{a:Addr}{v:HO}(o:v7 f H ps xs)(n:a ∉ ps):v7 f (upd H a v) ps xs:=o.keep λb hb=>a8 λz=>n (z▸hb)
end
section
section
variable {K:Fg}{B A:List Addr}{Hs:Hp}{d ha l b:Addr}{ps rs:List Addr}{st tu go:Addr}{h:Int}{c:Option Int}{u:Str}{t:Int}{sa ta:List Addr}{s:BS}{H H':Hp}{a r:Addr}{k j:Nat}
structure Apart (B A:List Addr) (Hs:Hp) (d l b:Addr) (ps rs:List Addr) (st tu go:Addr):Prop where
 nd:(st::tu::go::d::l::b::(ps++rs)).Nodup
 hid:∀x∈st::tu::go::d::l::b::(ps++rs),x∈B
 eA:A=d::l::b::(ps++rs)
 new:Hs st=none/\Hs tu=none/\Hs go=none
theorem Apart.per (P:Apart B A Hs d l b ps rs st tu go)(ha:ps[k]? = some a):a ∉ rs/\a≠st/\a≠tu/\a≠go/\a≠d/\a≠l/\a≠b/\a∈A/\a∈B:=by
 have hm:=Iy ha
 have:=P.nd
 have hb:=P.hid a (by simp[hm])
 rw[P.eA]
 simp[Jr]at this
 refine⟨?_,?_,?_,?_,?_,?_,?_,by simp[hm],hb⟩ <;> grind
theorem Apart.row (P:Apart B A Hs d l b ps rs st tu go)(hr:rs[j]? = some r):r ∉ ps/\r≠st/\r≠tu/\r≠go/\r≠d/\r≠l/\r≠b/\r∈A/\r∈B:=by
 have hm:=Iy hr
 have:=P.nd
 have hb:=P.hid r (by simp[hm])
 rw[P.eA]
 simp[Jr]at this
 refine⟨?_,?_,?_,?_,?_,?_,?_,by simp[hm],hb⟩ <;> grind
theorem Apart.nps (P:Apart B A Hs d l b ps rs st tu go):ps.Nodup/\rs.Nodup:=by
 have:=P.nd
 simp[Jr]at this
 grind
theorem Apart.lists (P:Apart B A Hs d l b ps rs st tu go):(∀x∈[st,tu,go],x ∉ A/\x∈B)/\st≠tu/\st≠go/\tu≠go:=by
 have h1:=P.nd
 have h2:=P.hid
 rw[P.eA]
 refine⟨λx hx=>⟨?_,h2 x ?_⟩,?_,?_,?_⟩
 .simp at hx h1 ⊢;grind
 .simp at hx ⊢;grind
 all_goals (simp at h1;grind)
theorem kx {x:Addr}{o:HO}(h:BOk H B):BOk (upd H x o) B:=λy hy=>by
 by_cases z:y=x
 .subst z;exact⟨_,b8⟩
 .rw[a8 z];exact h y hy
theorem LP.setP {q:Per}(L:LP K B A Hs d ha l b ps rs st tu go h c u t sa ta s H)(P:Apart B A Hs d l b ps rs st tu go)(hp:ps[k]? = some a)(n1:a ∉ sa)(n2:a ∉ ta):LP K B A Hs d ha l b ps rs st tu go h c u t sa ta ⟨s.line.set k q,s.book,s.stay,s.turned,s.gone⟩ (upd H a (.lst (cK q))):=by
 obtain⟨m1,m2,m3,m4,m5,m6,m7,m8,m9⟩:=P.per hp
 refine⟨⟨L.mi.nd,by rw[a8 (Iz m5)];exact L.mi.hd,by rw[U8 m9];exact L.mi.hh,by rw[a8 (Iz m6)];exact L.mi.hl,by rw[a8 (Iz m7)];exact L.mi.hb,v7.set L.mi.pl hp P.nps.1,v7.other L.mi.pb m1⟩,
  by rw[a8 (Iz m2)];exact L.hst,by rw[a8 (Iz m3)];exact L.htu,by rw[a8 (Iz m4)];exact L.hgo,L.so.other n1,L.to.other n2,λx o e n=>(a8 (λz=>n (by rw[z];exact m8))).trans (L.kp x o e n),kx L.bk⟩
theorem LP.setR {q:Row}(L:LP K B A Hs d ha l b ps rs st tu go h c u t sa ta s H)(P:Apart B A Hs d l b ps rs st tu go)(hr:rs[j]? = some r)(n1:r ∉ sa)(n2:r ∉ ta):LP K B A Hs d ha l b ps rs st tu go h c u t sa ta ⟨s.line,s.book.set j q,s.stay,s.turned,s.gone⟩ (upd H r (.lst (lz q))):=by
 obtain⟨m1,m2,m3,m4,m5,m6,m7,m8,m9⟩:=P.row hr
 refine⟨⟨L.mi.nd,by rw[a8 (Iz m5)];exact L.mi.hd,by rw[U8 m9];exact L.mi.hh,by rw[a8 (Iz m6)];exact L.mi.hl,by rw[a8 (Iz m7)];exact L.mi.hb,v7.other L.mi.pl m1,v7.set L.mi.pb hr P.nps.2⟩,
  by rw[a8 (Iz m2)];exact L.hst,by rw[a8 (Iz m3)];exact L.htu,by rw[a8 (Iz m4)];exact L.hgo,L.so.other n1,L.to.other n2,λx o e n=>(a8 (λz=>n (by rw[z];exact m8))).trans (L.kp x o e n),kx L.bk⟩
theorem LP.other {x:Addr}{o:HO}(L:LP K B A Hs d ha l b ps rs st tu go h c u t sa ta s H)(nA:x ∉ A)(eA:A=d::l::b::(ps++rs))(hx:Hs x=none)(xB:x∈B)(sub:∀y∈sa++ta,y∈ps):MacIn K (hid (upd H x o) B) (upd H x o) d ⟨h,c,u,s.line,s.book,t⟩ ha l b ps rs/\v7 cK (upd H x o) sa s.stay/\v7 cK (upd H x o) ta s.turned/\(∀y o',Hs y=some o'->y ∉ A->(upd H x o) y=some o')/\BOk (upd H x o) B:=by
 have ne:∀y∈A,y≠x:=λy hy z=>nA (z▸hy)
 have inA:∀y∈ps,y∈A:=λy hy=>by rw[eA];simp[hy]
 refine⟨?_,L.so.other λz=>nA (inA _ (sub _ (HC.mpr (.inl z)))),L.to.other λz=>nA (inA _ (sub _ (HC.mpr (.inr z)))),λy o' e n=>by rw[a8 λz=>by rw[z,hx]at e;cases e];exact L.kp y o' e n,kx L.bk⟩
 rw[U8 xB]
 exact L.mi.keep (d8.refl _) λy hy=>a8 (ne y (eA▸hy))
theorem Ai {D:Ends}{σ:St}{v3:V}{sm:PyData}{kb pk:Bool}{s':BS}(L:LP K B A Hs d ha l b ps rs st tu go h c u t sa ta s H)(P:Apart B A Hs d l b ps rs st tu go)
  (hnd:(sa++ta).Nodup) (htk:∀x∈sa++ta,x∈ps.take k) (hk:k<ps.length) (h0:σ[0]? = some (some (.ref d))) (h3:σ[3]? = some (some v3)) (h4:σ[4]? = some (some (.ref st))) (h5:σ[5]? = some (some (.ref tu))) (h6:σ[6]? = some (some (.ref go))) (h7:σ[7]? = some (some (.int k))) (hl10:σ.length=10)
  (hv3:∀H',(∀x o,Hs x=some o->x ∉ A->H' x=some o)->a7 K (hid H' B) sm v3) (hkp:gz u=some kb) (hpk:inB sm k=some pk) (hst:cN kb (decide (u = "turns")) t k pk s=some s') (hlen:s.stay.length+s.turned.length+s.gone.length<sizeLine)
  (fin:∀σ' H' sa' ta',LP K B A Hs d ha l b ps rs st tu go h c u t sa' ta' s' H'->(sa'++ta').Nodup->(∀x∈sa'++ta',x∈ps.take (k+1))->s'.line.length=s.line.length->s'.stay.length+s'.turned.length+s'.gone.length=s.stay.length+s.turned.length+s.gone.length+1->(∀i,i<7->σ'[i]? = σ[i]?)->σ'.length=10->D.nx σ' H'):yz K D σ H:=by
 obtain⟨p,hp,hst⟩:=bS9 hst
 obtain⟨j,hj,hst⟩:=bS9 hst
 obtain⟨row,hrow,hst⟩:=bS9 hst
 obtain⟨a,hpa⟩:∃a,ps[k]? = some a:=⟨ps[k],by simp[hk]⟩
 have hjl:=(HG.mp hrow).1
 obtain⟨r,hrj⟩:∃r,rs[j]? = some r:=⟨rs[j]'(by rw[L.mi.pb.1];exact hjl),by simp[L.mi.pb.1]⟩
 have nat:∀x∈sa++ta,x≠a:=λx hx z=>by
  subst z
  have:=htk x hx
  obtain⟨i,hi⟩:=JY.mp this
  rw[KN]at hi
  split at hi
  .rename_i hik
   exact absurd (kq P.nps.1 hi hpa) (by omega)
  .cases hi
 have sub:∀x∈sa++ta,x∈ps:=λx hx=>Ka (htk x hx)
 have n1:a ∉ sa:=λz=>nat a (HC.mpr (.inl z)) rfl
 have n2:a ∉ ta:=λz=>nat a (HC.mpr (.inr z)) rfl
 obtain⟨rp,_⟩:=P.row hrj
 have n3:r ∉ sa:=λz=>rp (sub r (HC.mpr (.inl z)))
 have n4:r ∉ ta:=λz=>rp (sub r (HC.mpr (.inr z)))
 obtain⟨lb,ne1,ne2,ne3⟩:=P.lists
 have hHa:=L.mi.pl.2 k a p hpa hp
 have at1:atI (ps.map V.ref) (k:Int)=some (.ref a):=W3 (by rw[HP,hpa];rfl)
 have at2:atI (rs.map V.ref) p.n=some (.ref r):=by
  unfold atI
  rw[Hz,L.mi.pb.1,show ixN s.book.length p.n=some j from hj,HY,HP,hrj];rfl
 refine⟨_,h0,d,_,rfl,aC L.mi.hd,_,h7,l,_,k,_,rfl,rfl,SqL.of L.mi.hl,at1,?_⟩
 have g8:((σ.set 8 (some (.ref a))))[8]? = some (some (.ref a)):=HR (by omega)
 refine⟨_,(HL (by decide)).trans h0,d,_,rfl,fj L.mi.hd,_,g8,a,_,0,_,rfl,rfl,SqL.of hHa,rfl,b,_,p.n,_,rfl,rfl,SqL.of L.mi.hb,at2,?_⟩
 have q9:(((σ.set 8 (some (.ref a))).set 9 (some (.ref r))))[9]? = some (some (.ref r)):=HR (by simp;omega)
 have q8:(((σ.set 8 (some (.ref a))).set 9 (some (.ref r))))[8]? = some (some (.ref a)):=(HL (by decide)).trans g8
 have qi:∀i,i<8->(((σ.set 8 (some (.ref a))).set 9 (some (.ref r))))[i]? = σ[i]?:=λi hi=>by rw[HL (by omega),HL (by omega)]
 have ql:((σ.set 8 (some (.ref a))).set 9 (some (.ref r))).length=10:=by simp[hl10]
 show N5 _ _ D ((σ.set 8 (some (V.ref a))).set 9 (some (V.ref r))) H
 generalize (σ.set 8 (some (V.ref a))).set 9 (some (V.ref r)) = τ at q9 q8 qi ql ⊢
 have t0:=(qi 0 (by decide)).trans h0
 have t3:=(qi 3 (by decide)).trans h3
 have t4:=(qi 4 (by decide)).trans h4
 have t5:=(qi 5 (by decide)).trans h5
 have t6:=(qi 6 (by decide)).trans h6
 have t7:=(qi 7 (by decide)).trans h7
 have isin:∀{s0:BS} {H1:Hp} {Q:Bool->Hp->Prop},LP K B A Hs d ha l b ps rs st tu go h c u t sa ta s0 H1->(∀H2,LP K B A Hs d ha l b ps rs st tu go h c u t sa ta s0 H2->Q pk H2)->tIn K τ H1 Q:=λ{s0 H1 Q} L1 q =>
  ⟨_,t7,_,t3,[],B,.int k,sm,.bool pk,L1.bk,aU a7.int (by simp),aU (hv3 H1 L1.kp) (by simp),gT hpk,λv H2 s2 hv=>⟨pk,by simpa only[a7] using hv,q H2 (L1.same s2)⟩⟩
 have rest:∀{s1:BS} {H1:Hp} {p1:Per} {row1:Row},LP K B A Hs d ha l b ps rs st tu go h c u t sa ta s1 H1->s1.line[k]? = some p1->s1.book[j]? = some row1->p1.n=p.n->s1.stay=s.stay->s1.turned=s.turned->s1.gone=s.gone->s1.line.length=s.line.length ->
   s'=(if p1.l=0 then⟨s1.line,s1.book.set j ⟨"gone",row1.t,some t,row1.q⟩,s1.stay,s1.turned,s1.gone++[p.n]⟩
    else if pk=true/\decide (u = "turns")=true then⟨s1.line,s1.book,s1.stay,s1.turned++[p1],s1.gone⟩ else⟨s1.line,s1.book,s1.stay++[p1],s1.turned,s1.gone⟩) ->
   lO (fZ (tOp rEq (tP K 2) (tC (.int 0))))
   (N5 (G9 (tC (.str "gone")) (jn (l4 9) (tC (.int 0)) bP))
   (N5 (G9 (E9 (l4 0) (tC (.str "at"))) (jn (l4 9) (tC (.int 2)) bP))
    (lY K 6 (tP K 0))))
   (lO (zJ (tIn K) (fZ (tOp rEq (ze K) (tC (.str "turns")))))
    (lY K 5 (l4 8)) (lY K 4 (l4 8))) D τ H1:=λ{s1 H1 p1 row1} L1 e1 e2 en es et eg el es'=>by
  have hHa1:=L1.mi.pl.2 k a p1 hpa e1
  have hHr1:=L1.mi.pb.2 j r row1 hrj e2
  have tk1:∀x∈sa++ta,x∈ps.take (k+1):=λx hx=>List.take_subset_take_left ps (Kb k) (htk x hx)
  have atk:a∈ps.take (k+1):=by
   refine JY.mpr ⟨k,?_⟩
   rw[KN,HH (Kc k)];exact hpa
  refine⟨_,q8,a,_,2,_,rfl,rfl,SqL.of hHa1,rfl,rfl,_,rfl,lP (λhz=>?_) (λhz=>?_)⟩
  .have hz:p1.l=0:=by simpa using hz
   rw[HH hz]at es'
   refine⟨_,q9,r,_,0,0,rfl,rfl,hHr1,rfl,?_⟩
   have L2:=L1.setR (q:=⟨"gone",row1.t,row1.m,row1.q⟩) P hrj n3 n4
   have hHr2:(upd H1 r (.lst ((lz row1).set 0 (.str "gone")))) r=some (.lst (lz ⟨"gone",row1.t,row1.m,row1.q⟩)):=b8
   refine⟨_,t0,d,_,rfl,sF L2.mi.hd,_,q9,r,_,2,2,rfl,rfl,hHr2,rfl,?_⟩
   have L3:=L2.setR (q:=⟨"gone",row1.t,some t,row1.q⟩) P hrj n3 n4
   have hHa3:=L3.mi.pl.2 k a p1 hpa e1
   refine⟨_,t6,.inl ⟨rfl,_,SqL.of L3.hgo⟩,_,q8,a,_,0,_,rfl,rfl,SqL.of hHa3,rfl,go,_,_,rfl,rfl,L3.hgo,by rw[Hz,eg];omega,?_⟩
   obtain⟨z1,z2,z3,z4,z5⟩:=L3.other (o:=.lst (s1.gone.map V.int++[.int p1.n])) (lb go (by simp)).1 P.eA P.new.2.2 (lb go (by simp)).2 sub
   refine fin τ _ sa ta ?_ hnd tk1 (by rw[es'];exact el) (by rw[es'];simp[es,et,eg];omega) (λi hi=>qi i (by omega)) ql
   rw[es']
   refine⟨by have z:=z1;simp only[List.set_set]at z;exact z,by rw[a8 ne2];exact L3.hst,by rw[a8 ne3];exact L3.htu,?_,z2,z3,z4,z5⟩
   show upd _ go _ go=_
   rw[b8,Ij,<-en];rfl
  .have hz:¬p1.l=0:=by simpa using hz
   rw[HM hz]at es'
   have toS:∀{H2:Hp},LP K B A Hs d ha l b ps rs st tu go h c u t sa ta s1 H2->¬(pk=true/\decide (u = "turns")=true)->lY K 4 (l4 8) D τ H2:=λ{H2} L2 hn=>by
    rw[HM hn]at es'
    refine⟨_,t4,.inl ⟨rfl,_,SqL.of L2.hst⟩,_,q8,st,_,_,rfl,rfl,L2.hst,by rw[Hz,L2.so.1,es];omega,?_⟩
    obtain⟨z1,z2,z3,z4,z5⟩:=L2.other (o:=.lst (sa.map V.ref++[.ref a])) (lb st (by simp)).1 P.eA P.new.1 (lb st (by simp)).2 sub
    refine fin τ _ (sa++[a]) ta ?_ (by simp[Jr]at hnd ⊢;grind) (λx hx=>by
     simp only[HC,Jd]at hx
     rcases hx with (hx | hx) | hx
     .exact tk1 x (HC.mpr (.inl hx))
     .exact hx▸atk
     .exact tk1 x (HC.mpr (.inr hx))) (by rw[es'];exact el) (by rw[es'];simp[es,et,eg];omega) (λi hi=>qi i (by omega)) ql
    rw[es']
    refine⟨z1,by rw[b8,Ij];rfl,by rw[a8 (Iz ne1)];exact L2.htu,by rw[a8 (Iz ne2)];exact L2.hgo,z2.snoc ?_,z3,z4,z5⟩
    rw[a8 (P.per hpa).2.1];exact L2.mi.pl.2 k a p1 hpa e1
   have toT:∀{H2:Hp},LP K B A Hs d ha l b ps rs st tu go h c u t sa ta s1 H2->(pk=true/\decide (u = "turns")=true)->lY K 5 (l4 8) D τ H2:=λ{H2} L2 hn=>by
    rw[HH hn]at es'
    refine⟨_,t5,.inl ⟨rfl,_,SqL.of L2.htu⟩,_,q8,tu,_,_,rfl,rfl,L2.htu,by rw[Hz,L2.to.1,et];omega,?_⟩
    obtain⟨z1,z2,z3,z4,z5⟩:=L2.other (o:=.lst (ta.map V.ref++[.ref a])) (lb tu (by simp)).1 P.eA P.new.2.1 (lb tu (by simp)).2 sub
    refine fin τ _ sa (ta++[a]) ?_ (by simp[Jr]at hnd ⊢;grind) (λx hx=>by
     simp only[HC,Jd]at hx
     rcases hx with hx | hx | hx
     .exact tk1 x (HC.mpr (.inl hx))
     .exact tk1 x (HC.mpr (.inr hx))
     .exact hx▸atk) (by rw[es'];exact el) (by rw[es'];simp[es,et,eg];omega) (λi hi=>qi i (by omega)) ql
    rw[es']
    refine⟨z1,by rw[a8 ne1];exact L2.hst,by rw[b8,Ij];rfl,by rw[a8 (Iz ne3)];exact L2.hgo,z2,z3.snoc ?_,z4,z5⟩
    rw[a8 (P.per hpa).2.2.1];exact L2.mi.pl.2 k a p1 hpa e1
   refine isin L1 λH2 L2=>?_
   cases pk with
   | false=>exact sX (sX (toS L2 (by simp)))
   | true =>
    refine Br ⟨_,t0,d,_,rfl,gZ L2.mi.hd,ha,_,2,_,rfl,rfl,L2.mi.hh.same c7,rfl,rfl,_,rfl,?_⟩
    refine lP (λhc=>toT L2 ⟨rfl,?_⟩) (λhc=>toS L2 λhc2=>hc ?_)
    .simpa using hc
    .simpa using hc2.2
 refine isin L λH1 L1=>?_
 cases pk with
 | false =>
  refine sX ?_
  have hHr1:=L1.mi.pb.2 j r row hrj hrow
  refine⟨_,q9,r,_,3,_,rfl,rfl,SqL.of hHr1,rfl,row.q,1,rfl,rfl,_,q9,r,_,3,3,rfl,rfl,hHr1,rfl,?_⟩
  have L2:=L1.setR (q:=⟨row.w,row.t,row.m,row.q+1⟩) P hrj n3 n4
  have hpl:k<s.line.length:=(HG.mp hp).1
  refine rest (p1:=p) (row1:=⟨row.w,row.t,row.m,row.q+1⟩) L2 hp (by rw[HR hjl]) rfl rfl rfl rfl rfl ?_
  have hst:=HN hst
  rw[<-hst]
  have e0:s.line.set k p=s.line:=by
   have:=(HG.mp hp).2
   rw[<-this,List.set_getElem_self]
  simp[e0]
 | true =>
  refine Br ?_
  have hHa1:=L1.mi.pl.2 k a p hpa hp
  have hpl:k<s.line.length:=(HG.mp hp).1
  refine⟨_,q8,a,_,2,_,rfl,rfl,SqL.of hHa1,rfl,p.l,1,rfl,rfl,_,q8,a,_,2,2,rfl,rfl,hHa1,rfl,?_⟩
  have L2:=L1.setP (q:=⟨p.n,p.r,p.l-1,p.b⟩) P hpa n1 n2
  have hHa2:(upd H1 a (.lst ((cK p).set 2 (.int (p.l-1))))) a=some (.lst (cK ⟨p.n,p.r,p.l-1,p.b⟩)):=b8
  refine⟨_,t0,d,_,rfl,gZ L2.mi.hd,ha,_,2,_,rfl,rfl,L2.mi.hh.same c7,rfl,L7 (by show 4<=1000;decide) |> Jm,λq hq=>⟨[],B,.str u,mJ,.bool kb,(L2.same (d8.upd hq)).bk,aU a7.st (by simp),aU (O7 L2.bk hq (.cons a7.st (.cons a7.st (.cons a7.st (.cons a7.st a6.nil))))) (by simp),gT hkp,λv H4 s4 hv=>?_⟩⟩
  have hv:v = .bl kb:=by simpa only[a7] using hv
  subst hv
  have L4:=(L2.same (d8.upd hq)).same s4
  have hHa4:=L4.mi.pl.2 k a ⟨p.n,p.r,p.l-1,p.b⟩ hpa (HR hpl)
  refine⟨_,q8,a,_,3,3,rfl,rfl,hHa4,rfl,?_⟩
  have L5:=L4.setP (q:=⟨p.n,p.r,p.l-1,kb⟩) P hpa n1 n2
  refine rest (p1:=⟨p.n,p.r,p.l-1,kb⟩) (row1:=row) L5 (HR (by simpa using hpl)) hrow rfl rfl rfl rfl (by simp) ?_
  have hst:=HN hst
  rw[<-hst]
  have e0:s.book.set j row=s.book:=by
   have:=(HG.mp hrow).2
   rw[<-this,List.set_getElem_self]
  simp[e0]
end
end
section
def pQ (E:DE)(i:Nat):Option PyData:=match E[i]? with
 | some (some (.dat d))=>some d
 | _=>none
theorem fI {E:DE}{i:Nat}{d:PyData}(h:pQ E i=some d):E[i]? = some (some (.dat d)):=by
 unfold pQ at h
 split at h
 .rename_i hx;cases h;exact hx
 .cases h
section
variable [LamC]
local instance regI10:Feeds:=E7
variable {K:Fg}
def pN:DE->M Out:=λE μ=>(pQ E 2).bind λlost=>(pQ E 3).bind λsm=>if E.length=10 then(kZ sm μ).bind λz=>some (.rt (.tuple [lost,.list (z.1.map PyData.int)]),z.2) else none
theorem fF {H:Hp}:∀(ns:List Int),a6 K H (ns.map PyData.int) (ns.map V.int)
 | []=>a6.nil
 | n::ns=>.cons a7.int (fF ns)
theorem zq:TSm K 0 (BV K) pN:=λd B0 A0 H0 B A E μ σ H D r μ' S e q=>by
 obtain⟨lost,e2,e⟩:=bS9 e
 obtain⟨sm,e3,e⟩:=bS9 e
 have e2:=fI e2
 have e3:=fI e3
 .split at e
  .rename_i hE
   obtain⟨⟨gn,μ1⟩,eb,e⟩:=bS9 e
   cases e
   unfold kZ at eb
   split at eb
   .rename_i hsz
    obtain⟨kb,ekb,eb⟩:=bS9 eb
    obtain⟨sE,ego,eb⟩:=bS9 eb
    cases eb
    obtain⟨ha,l,b,ps,rs,ea,hm⟩:=S.rg
    obtain⟨v2,w2,dv2⟩:=S.I.loc 2 _ e2
    obtain⟨v3,w3,dv3⟩:=S.I.loc 3 _ e3
    have dv2:a7 K (hid H B) lost v2:=dv2
    have dv3:a7 K (hid H B) sm v3:=dv3
    have h0:=S.at0
    have hl10:σ.length=10:=by rw[<-S.I.ln];exact hE
    have inA:∀x∈d::l::b::(ps++rs),x∈A:=λx hx=>ea▸hx
    refine⟨_,h0,d,_,rfl,sF hm.hd,μ.t,1,rfl,rfl,_,h0,d,_,rfl,BP (μ.t+1) hm.hd,?_⟩
    refine⟨IG _,λst hst=>⟨IG _,λtu htu=>⟨IG _,λgo hgo=>?_⟩⟩⟩
    have nd:=hm.nd
    have pres:∀x∈A,∃o,(upd H d (.dK (y8 (.ref ha) l b (μ.t+1)))) x=some o:=λx hx=>by
     by_cases z:x=d
     .subst z;exact⟨_,b8⟩
     .rw[a8 z];exact Regs.has S.rg x hx
    have nst:st ∉ A:=λz=>by obtain⟨o,eo⟩:=pres st z;rw[hst]at eo;cases eo
    have sdn:st≠d:=λz=>nst (z▸inA d (by simp))
    have Hst:H st=none:=by rw[a8 sdn]at hst;exact hst
    have tus:tu≠st:=(d6 b8 htu).symm
    have htu1:=htu
    rw[a8 tus]at htu1
    have ntu:tu ∉ A:=λz=>by obtain⟨o,eo⟩:=pres tu z;rw[htu1]at eo;cases eo
    have tdn:tu≠d:=λz=>ntu (z▸inA d (by simp))
    have Htu:H tu=none:=by rw[a8 tdn]at htu1;exact htu1
    have gtn:go≠tu:=(d6 b8 hgo).symm
    have hgo1:=hgo
    rw[a8 gtn]at hgo1
    have gsn:go≠st:=(d6 b8 hgo1).symm
    rw[a8 gsn]at hgo1
    have ngo:go ∉ A:=λz=>by obtain⟨o,eo⟩:=pres go z;rw[hgo1]at eo;cases eo
    have gdn:go≠d:=λz=>ngo (z▸inA d (by simp))
    have Hgo:H go=none:=by rw[a8 gdn]at hgo1;exact hgo1
    have Ap:Apart (st::tu::go::B) A H d l b ps rs st tu go:=by
     refine⟨?_,λx hx=>?_,ea,Hst,Htu,Hgo⟩
     .rw[ea]at nst ntu ngo
      refine IS.mpr ⟨?_,IS.mpr ⟨?_,IS.mpr ⟨ngo,nd⟩⟩⟩
      .intro z
       rcases HB.mp z with z | z
       .exact tus z.symm
       .rcases HB.mp z with z | z
        .exact gsn z.symm
        .exact nst z
      .intro z
       rcases HB.mp z with z | z
       .exact gtn z.symm
       .exact ntu z
     .rcases HB.mp hx with z | z
      .simp[z]
      .rcases HB.mp z with z | z
       .simp[z]
       .rcases HB.mp z with z | z
        .simp[z]
        .exact HA _ (HA _ (HA _ (S.aB x (inA x z)).1))
    have Hx:∀x,x≠d->x≠st->x≠tu->x≠go->(upd (upd (upd (upd H d (.dK (y8 (.ref ha) l b (μ.t+1)))) st (.lst [])) tu (.lst [])) go (.lst [])) x=H x:=λx n1 n2 n3 n4=>by rw[a8 n4,a8 n3,a8 n2,a8 n1]
    have g4:(upd (upd (upd (upd H d (.dK (y8 (.ref ha) l b (μ.t+1)))) st (.lst [])) tu (.lst [])) go (.lst [])) st=some (.lst []):=by rw[a8 (Iz gsn),a8 (Iz tus)];exact b8
    have g5:(upd (upd (upd (upd H d (.dK (y8 (.ref ha) l b (μ.t+1)))) st (.lst [])) tu (.lst [])) go (.lst [])) tu=some (.lst []):=by rw[a8 (Iz gtn)];exact b8
    have g6:(upd (upd (upd (upd H d (.dK (y8 (.ref ha) l b (μ.t+1)))) st (.lst [])) tu (.lst [])) go (.lst [])) go=some (.lst []):=b8
    have gd:(upd (upd (upd (upd H d (.dK (y8 (.ref ha) l b (μ.t+1)))) st (.lst [])) tu (.lst [])) go (.lst [])) d=some (.dK (y8 (.ref ha) l b (μ.t+1))):=by rw[a8 (Iz gdn),a8 (Iz tdn),a8 (Iz sdn)];exact b8
    generalize (upd (upd (upd (upd H d (.dK (y8 (.ref ha) l b (μ.t+1)))) st (.lst [])) tu (.lst [])) go (.lst []))=H4 at Hx g4 g5 g6 gd
    have nef:∀x∈A,x≠st/\x≠tu/\x≠go:=λx hx=>⟨λz=>nst (z▸hx),λz=>ntu (z▸hx),λz=>ngo (z▸hx)⟩
    have kp4:∀x o,H x=some o->x ∉ A->H4 x=some o:=λx o eo n=>by
     rw[Hx x (λz=>n (z▸inA d (by simp))) (λz=>by rw[z,Hst]at eo;cases eo) (λz=>by rw[z,Htu]at eo;cases eo) (λz=>by rw[z,Hgo]at eo;cases eo)]
     exact eo
    have sm4:d8 (hid H B) (hid H4 (st::tu::go::B)):=λx o eo=>by
     by_cases hB:x∈B
     .rw[u7 hB]at eo;cases eo
     .rw[d7 hB]at eo
      rw[d7 λz=>?_]
      .exact kp4 x o eo λz=>hB (S.aB x z).1
      .rcases HB.mp z with z | z
       .rw[z,Hst]at eo;cases eo
       .rcases HB.mp z with z | z
        .rw[z,Htu]at eo;cases eo
        .rcases HB.mp z with z | z
         .rw[z,Hgo]at eo;cases eo
         .exact hB z
    have Lb:LP K (st::tu::go::B) A H d ha l b ps rs st tu go μ.h μ.c μ.u (μ.t+1) [] [] ⟨μ.line,μ.book,[],[],[]⟩ H4:=by
     have ne:∀x∈l::b::(ps++rs),x≠d:=λx hx z=>by
      subst z
      exact(IS.mp nd).1 hx
     have eqA:∀x∈l::b::(ps++rs),H4 x=H x:=λx hx=>by
      obtain⟨n1,n2,n3⟩:=nef x (inA x (HA _ hx))
      exact Hx x (ne x hx) n1 n2 n3
     refine⟨⟨nd,gd,hm.hh.same sm4,(eqA l (by simp)).trans hm.hl,(eqA b (by simp)).trans hm.hb,hm.pl.keep λx hx=>eqA x (by simp[hx]),hm.pb.keep λx hx=>eqA x (by simp[hx])⟩,g4,g5,g6,⟨rfl,λi x y h1 _=>by simp at h1⟩,⟨rfl,λi x y h1 _=>by simp at h1⟩,kp4,λx hx=>?_⟩
     rcases HB.mp hx with z | z
     .exact⟨_,z▸g4⟩
     .rcases HB.mp z with z | z
      .exact⟨_,z▸g5⟩
      .rcases HB.mp z with z | z
       .exact⟨_,z▸g6⟩
       .by_cases hxA:x∈A
        .rw[ea]at hxA
         rcases HB.mp hxA with zz | zz
         .exact⟨_,zz▸gd⟩
         .obtain⟨ys,ey⟩:=hm.has x zz
          exact⟨_,(eqA x zz).trans ey⟩
        .obtain⟨o,eo⟩:=S.I.bk x z
         exact⟨o,kp4 x o eo hxA⟩
    have hv3:∀H',(∀x o,H x=some o->x ∉ A->H' x=some o)->a7 K (hid H' (st::tu::go::B)) sm v3:=λH' k=>dv3.same λx o eo=>by
     by_cases hB:x∈B
     .rw[u7 hB]at eo;cases eo
     .rw[d7 hB]at eo
      rw[d7 λz=>?_]
      .exact k x o eo λz=>hB (S.aB x z).1
      .rcases HB.mp z with z | z
       .rw[z,Hst]at eo;cases eo
       .rcases HB.mp z with z | z
        .rw[z,Htu]at eo;cases eo
        .rcases HB.mp z with z | z
         .rw[z,Hgo]at eo;cases eo
         .exact hB z
    have y0:(((σ.set 4 (some (.ref st))).set 5 (some (.ref tu))).set 6 (some (.ref go)))[0]? = some (some (.ref d)):=by simpa using h0
    have y2:(((σ.set 4 (some (.ref st))).set 5 (some (.ref tu))).set 6 (some (.ref go)))[2]? = some (some v2):=by simpa using w2
    have y3:(((σ.set 4 (some (.ref st))).set 5 (some (.ref tu))).set 6 (some (.ref go)))[3]? = some (some v3):=by simpa using w3
    have y4:(((σ.set 4 (some (.ref st))).set 5 (some (.ref tu))).set 6 (some (.ref go)))[4]? = some (some (.ref st)):=by simp[LZ,hl10]
    have y5:(((σ.set 4 (some (.ref st))).set 5 (some (.ref tu))).set 6 (some (.ref go)))[5]? = some (some (.ref tu)):=by simp[LZ,hl10]
    have y6:(((σ.set 4 (some (.ref st))).set 5 (some (.ref tu))).set 6 (some (.ref go)))[6]? = some (some (.ref go)):=by simp[LZ,hl10]
    have yl:(((σ.set 4 (some (.ref st))).set 5 (some (.ref tu))).set 6 (some (.ref go))).length=10:=by simp[hl10]
    show N5 _ _ D (((σ.set 4 (some (.ref st))).set 5 (some (.ref tu))).set 6 (some (.ref go))) H4
    generalize ((σ.set 4 (some (V.ref st))).set 5 (some (V.ref tu))).set 6 (some (V.ref go)) = τ at y0 y2 y3 y4 y5 y6 yl ⊢
    have epl:(ps.map V.ref).length=ps.length:=Hz ..
    have en:ps.length = μ.line.length:=hm.pl.1
    refine⟨_,y0,d,_,rfl,aC gd,l,_,rfl,.inl (SqL.of Lb.mi.hl),((ps.map V.ref).length:Int),rfl,by omega,by rw[epl,en];exact hsz.2,?_⟩
    refine⟨λi m τ' H'=>m=ps.length-i/\i<=ps.length/\∃sa ta s,LP K (st::tu::go::B) A H d ha l b ps rs st tu go μ.h μ.c μ.u (μ.t+1) sa ta s H'/\(sa++ta).Nodup/\(∀x∈sa++ta,x∈ps.take i)/\s.line.length=ps.length/\s.stay.length+s.turned.length+s.gone.length=i/\(∀i,i<7->τ'[i]? = τ[i]?) /\ τ'.length=10/\V9 kb (decide (μ.u = "turns")) (μ.t+1) sm (ps.length-i) i s=some sE,
     ⟨ps.length,by simp,IG _,[],[],_,Lb,by simp,by simp,en.symm,rfl,λ_ _=>rfl,yl,by rw[en];exact ego⟩,?_⟩
    rintro i mm τ' H' ⟨rfl,hi,sa,ta,s,L,hnd,htk,hsl,hcnt,hτ,hτl,hgo'⟩
    have z0:=(hτ 0 (by decide)).trans y0
    have z2:=(hτ 2 (by decide)).trans y2
    have z3:=(hτ 3 (by decide)).trans y3
    have z4:=(hτ 4 (by decide)).trans y4
    have z5:=(hτ 5 (by decide)).trans y5
    have z6:=(hτ 6 (by decide)).trans y6
    by_cases hlt:i<ps.length
    .refine .inr ⟨by show i<(((ps.map V.ref).length:Int)).toNat;rw[epl];simpa using hlt,λτ'' H''=>i+1<=ps.length/\∃sa ta s,LP K (st::tu::go::B) A H d ha l b ps rs st tu go μ.h μ.c μ.u (μ.t+1) sa ta s H''/\(sa++ta).Nodup/\(∀x∈sa++ta,x∈ps.take (i+1))/\s.line.length=ps.length/\s.stay.length+s.turned.length+s.gone.length=i+1/\(∀i,i<7->τ''[i]? = τ[i]?) /\ τ''.length=10/\V9 kb (decide (μ.u = "turns")) (μ.t+1) sm (ps.length-(i+1)) (i+1) s=some sE,λτ'' H'' ⟨a1,a2⟩=>⟨ps.length-(i+1),by omega,rfl,a1,a2⟩,λx H2 hy=>?_⟩
     obtain⟨rfl,rfl⟩:=hy
     obtain⟨n',hn'⟩:∃n',ps.length-i=n'+1:=⟨ps.length-(i+1),by omega⟩
     rw[hn',V9]at hgo'
     obtain⟨pk,hpk,hgo'⟩:=bS9 hgo'
     obtain⟨s',hs',hgo'⟩:=bS9 hgo'
     have en':n'=ps.length-(i+1):=by omega
     subst en'
     refine Ai (k:=i) (pk:=pk) (s':=s') L Ap hnd htk hlt ((HL (by decide)).trans z0) ((HL (by decide)).trans z3) ((HL (by decide)).trans z4) ((HL (by decide)).trans z5) ((HL (by decide)).trans z6) (by rw[HR (by omega)];simp) (by simp[hτl]) hv3 ekb hpk hs' (by rw[hcnt];have:=hsz.1;omega) λσ' H'' sa' ta' L' nd' tk' hl' hc' hσ' hσl'=>?_
     exact⟨hlt,sa',ta',s',L',nd',tk',hl'.trans hsl,by omega,λi hi=>(hσ' i hi).trans ((HL (by omega)).trans (hτ i hi)),hσl',hgo'⟩
    .have ei:i=ps.length:=by omega
     subst ei
     rw[Nat.sub_self,V9]at hgo'
     cases hgo'
     refine .inl ⟨by show(((ps.map V.ref).length:Int)).toNat<=ps.length;rw[epl];simp,?_⟩
     have hsz1:=hsz.1
     refine⟨_,z4,_,z5,st,tu,_,_,rfl,rfl,L.hst,L.htu,by rw[Hz,Hz,L.so.1,L.to.1];omega,λl' hl'=>⟨_,z0,d,_,rfl,ya l' (by rw[a8 (d6 L.mi.hd hl')];exact L.mi.hd),?_⟩⟩
     refine⟨_,z2,_,z6,L7 (by show 2<=1000;decide) |> Jm,λz hz=>?_⟩
     obtain⟨lb,ne1,ne2,ne3⟩:=Ap.lists
     have nl'B:l' ∉ st::tu::go::B:=L.bk.nin hl'
     have nl'A:l' ∉ A:=λzz=>nl'B (HA _ (HA _ (HA _ (S.aB l' zz).1)))
     have ldn:l'≠d:=λzz=>nl'A (zz▸inA d (by simp))
     have hz1:=hz
     have zdn:z≠d:=(d6 b8 hz1).symm
     rw[a8 zdn]at hz1
     have zln:z≠l':=(d6 b8 hz1).symm
     rw[a8 zln]at hz1
     have nzB:z ∉ st::tu::go::B:=L.bk.nin hz1
     have HF:∀x,x≠d->x≠l'->x≠z->(upd (upd (upd H' l' (.lst (sa.map V.ref++ta.map V.ref))) d (.dK (y8 (.ref ha) l' b (μ.t+1)))) z (.tup [v2,.ref go])) x=H' x:=λx a1 a2 a3=>by rw[a8 a3,a8 a1,a8 a2]
     have fd:(upd (upd (upd H' l' (.lst (sa.map V.ref++ta.map V.ref))) d (.dK (y8 (.ref ha) l' b (μ.t+1)))) z (.tup [v2,.ref go])) d=some (.dK (y8 (.ref ha) l' b (μ.t+1))):=by rw[a8 (Iz zdn)];exact b8
     have fl:(upd (upd (upd H' l' (.lst (sa.map V.ref++ta.map V.ref))) d (.dK (y8 (.ref ha) l' b (μ.t+1)))) z (.tup [v2,.ref go])) l'=some (.lst (sa.map V.ref++ta.map V.ref)):=by rw[a8 (Iz zln),a8 ldn];exact b8
     have fz:(upd (upd (upd H' l' (.lst (sa.map V.ref++ta.map V.ref))) d (.dK (y8 (.ref ha) l' b (μ.t+1)))) z (.tup [v2,.ref go])) z=some (.tup [v2,.ref go]):=b8
     show D.rt (.ref z) (upd (upd (upd H' l' (.lst (sa.map V.ref++ta.map V.ref))) d (.dK (y8 (.ref ha) l' b (μ.t+1)))) z (.tup [v2,.ref go]))
     generalize (upd (upd (upd H' l' (.lst (sa.map V.ref++ta.map V.ref))) d (.dK (y8 (.ref ha) l' b (μ.t+1)))) z (.tup [v2,.ref go]))=HE at HF fd fl fz ⊢
     have sub:∀x∈sa++ta,x∈ps:=λx hx=>Ka (htk x hx)
     have zA:∀x∈A,x≠z:=λx hx zz=>nzB (zz▸HA _ (HA _ (HA _ (S.aB x hx).1)))
     have lA:∀x∈A,x≠l':=λx hx zz=>nl'A (zz▸hx)
     have Hl':H l'=none:=by
      cases qq:H l' with
      | none=>rfl
      | some o=>rw[L.kp l' o qq nl'A]at hl';cases hl'
     have eqA:∀x∈A,x≠d->HE x=H' x:=λx hx n=>HF x n (lA x hx) (zA x hx)
     have dn:∀x∈l::b::(ps++rs),x≠d:=λx hx zz=>(IS.mp nd).1 (zz▸hx)
     obtain⟨Z,sZ⟩:=S.remake (A':=d::l'::b::((sa++ta)++rs)) (H':=HE) (μ':={ μ with line:=sE.stay++sE.turned,book:=sE.book,t:=μ.t+1 })
      (λx o eo n=>by
       rw[HF x (λzz=>n (zz▸inA d (by simp))) (λzz=>by rw[zz,Hl']at eo;cases eo) (λzz=>by have:=L.kp x o eo n;rw[zz,hz1]at this;cases this)]
       exact L.kp x o eo n)
      (λx hx=>by
       simp only[HB,HC]at hx
       rcases hx with hx | hx | hx | hx | hx
       .exact .inl (inA x (by simp[hx]))
       .exact .inr (hx▸Hl')
       .exact .inl (inA x (by simp[hx]))
       .exact .inl (inA x (by simp[sub x (HC.mpr hx)]))
       .exact .inl (inA x (by simp[hx])))
      (λx hx=>by
       by_cases zz:x=d
       .exact⟨_,zz▸fd⟩
       .rw[eqA x hx zz]
        exact L.bk x (HA _ (HA _ (HA _ (S.aB x hx).1))))
      (λ{W} sW=>by
       refine⟨ha,l',b,sa++ta,rs,rfl,?_,fd,hm.hh.same sW,by rw[fl,Ij],(eqA b (inA b (by simp)) (dn b (by simp))).trans L.mi.hb,?_,?_⟩
       .have d1:∀x∈sa++ta,x ∉ rs/\x≠d/\x≠b:=λx hx=>by
         have:=sub x hx
         simp[Jr]at nd
         grind
        have d2:rs.Nodup:=Ap.nps.2
        have d3:b ∉ rs/\d≠b/\d ∉ rs:=by
         simp[Jr]at nd
         grind
        have d4:l' ∉ sa++ta/\l' ∉ rs/\l'≠b:=⟨λzz=>nl'A (inA _ (by simp[sub _ zz])),λzz=>nl'A (inA _ (by simp[zz])),λzz=>nl'A (inA _ (by simp[zz]))⟩
        refine IS.mpr ⟨?_,IS.mpr ⟨?_,IS.mpr ⟨?_,Jr.mpr ⟨hnd,d2,λx hx y hy zz=>(d1 x hx).1 (zz▸hy)⟩⟩⟩⟩
        .simp only[HB,HC];grind
        .simp only[HB,HC];grind
        .simp only[HC];grind
       .have ob:∀{qs:List Addr} {xs:List Per},v7 cK H' qs xs->(∀x∈qs,x∈ps)->v7 cK HE qs xs:=λo hq=>o.keep λx hx=>eqA x (inA x (by simp[hq x hx])) (dn x (by simp[hq x hx]))
        have o1:=ob L.so λx hx=>sub x (HC.mpr (.inl hx))
        have o2:=ob L.to λx hx=>sub x (HC.mpr (.inr hx))
        refine⟨by simp[o1.1,o2.1],λi x y h1 h2=>?_⟩
        by_cases hi':i<sa.length
        .rw[Ib hi']at h1
         rw[Ib (by rw[<-o1.1];exact hi')]at h2
         exact o1.2 i x y h1 h2
        .rw[Ig (by omega)]at h1
         rw[Ig (by rw[<-o1.1];omega),<-o1.1]at h2
         exact o2.2 _ x y h1 h2
       .exact L.mi.pb.keep λx hx=>eqA x (inA x (by simp[hx])) (dn x (by simp[hx])))
     obtain⟨F1,F2⟩:=Z.fin
     have nB':∀x,x ∉ st::tu::go::B->x ∉ B:=λx n zz=>n (HA _ (HA _ (HA _ zz)))
     have nAA:∀x,x ∉ A->x≠l'->x ∉ d::l'::b::((sa++ta)++rs):=λx n1 n2 zz=>by
      simp only[HB,HC]at zz
      rcases zz with zz | zz | zz | zz | zz
      .exact n1 (inA x (by simp[zz]))
      .exact n2 zz
      .exact n1 (inA x (by simp[zz]))
      .exact n1 (inA x (by simp[sub x (HC.mpr zz)]))
      .exact n1 (inA x (by simp[zz]))
     refine q _ HE _ F1 (a7.same (a7.tup (xs:=[v2,.ref go]) ?_ (.cons (dv2.same sZ) (.cons (a7.lst (xs:=sE.gone.map V.int) ?_ (fF _)) a6.nil))) F2)
     .rw[d7 λzz=>(HC.mp zz).elim (nAA z (λa1=>zA z a1 rfl) zln) (nB' z nzB)]
      exact fz
     .have ngl:go≠l':=λzz=>nl'B (zz▸by simp)
      have ngz:go≠z:=λzz=>nzB (zz▸by simp)
      rw[d7 λzz=>(HC.mp zz).elim (nAA go ngo ngl) (S.I.bk.nin Hgo),HF go gdn ngl ngz]
      exact L.hgo
   .cases eb
  .cases e
end
end
section
section
variable [Regs]
local instance regI66:Feeds:=E7
structure SmsP (K:Fg) (X:Cx) (i0:Nat) (sts:List Stmt) (ts:TS) (m:DE->M Out):Prop where
 ps:PSs X sts ts
 ok:∀(d:Addr) (B0 A0:List Addr) (H0:Hp) (B A:List Addr) (E:DE) (μ:FS) (σ:St) (H:Hp) (D:Ends) (r:PyData) (μ':FS),SitMB K i0 d B0 A0 H0 B A E μ σ H->m E μ=some (.rt r,μ') ->
  (∀p v y H' A',EndM K d B0 A0 H0 μ' H' A'->SqT K H' p [v,y]->a7 K (hid H' (A'++B0)) r v->D.rt (.ref p) H')->ts D σ H
def pSq (a b:DE->M Out):DE->M Out:=λE μ=>(a E μ).bind λp=>match p.1 with
 | .nx E1=>b E1 p.2
 | _=>none
variable {K:Fg}{X:Cx}{i0:Nat}{e:Expr}{st:Stmt}{rest:List Stmt}{te:TE}{m:DE->M PyData}{t u:TS}{mt mu:DE->M Out}{pos p p2:Pos}{x:Str}
theorem Bz {m:DE->M PyData}:∀E μ E1 μ1,mRt m E μ=some (.nx E1,μ1)->False:=λE μ E1 μ1 e=>by
 obtain⟨⟨x,μ2⟩,e1,e⟩:=bS9 e
 cases e
theorem Ao {a b:DE->M Out}(h:∀E μ E1 μ1,b E μ=some (.nx E1,μ1)->False):∀E μ E1 μ1,pSq a b E μ=some (.nx E1,μ1)->False:=λE μ E1 μ1 e=>by
 obtain⟨⟨o,μ2⟩,e1,e⟩:=bS9 e
 cases o with
 | nx E2=>exact h _ _ _ _ e
 | rt _=>cases e
 | bk _=>cases e
 | ct _=>cases e
theorem wI (h1:SmR K X i0 st t mt)(h2:SmsP K X i0 rest u mu):SmsP K X i0 (st::rest) (N5 t u) (pSq mt mu):=⟨i9 h1.ps h2.ps,λd B0 A0 H0 B A E μ σ H D r μ' S e q=>by
 obtain⟨⟨o,μ1⟩,e1,e⟩:=bS9 e
 refine h1.ok d B0 A0 H0 B A E μ σ H _ o μ1 S e1 ?_
 cases o with
 | nx E1=>exact λB1 A1 σ' H' S'=>h2.ok d B0 A0 H0 B1 A1 E1 μ1 σ' H' D r μ' S' e q
 | rt d=>cases e
 | bk E1=>cases e
 | ct E1=>cases e⟩
theorem Bi {k}(h:Em K X i0 e te m)(h0:X.N[i0]? = some x:=by rfl)(hv:Vis X.env.scope x:=by first | exact Or.inl rfl | exact Or.inr (Or.inl rfl) | exact Or.inr (Or.inr rfl))(hd:(x == ("__debug__":Str))=false:=by decide)(hcd:(x == ("__classdict__":Str))=false:=by decide)
  (hs1:starEach [e,.Name x p] X.env=(false,eval e X.env)::starEach [.Name x p] X.env:=by rfl) (hs2:starEach [.Name x p] X.env=(false,eval (.Name x p) X.env)::starEach [] X.env:=by rfl) :
  SmsP K X i0 [.Return (some (.Tuple [e,.Name x p] k p2)) pos] (qE (qZ (l9 te (l9 (l4 i0) C4)))) (mRt m):=⟨z7 (W7 (gc (f9 h.pe (f9 (C7 h0 hv hd hcd) j9 hs2) hs1))),λd B0 A0 H0 B A E μ σ H D r μ' S e q=>by
 obtain⟨⟨x,μ1⟩,e1,e⟩:=bS9 e
 cases e
 refine h.ok d B0 A0 H0 B A E μ σ H _ _ _ S e1 λv H1 B1 A1 S1 s1 h1=>⟨_,S1.at0,⟨Jm (L7 (by show 2<=1000;decide)),λp hp=>?_⟩⟩
 have S2:=S1.step (H':=upd H1 p (.tup [v,.ref d])) (Kp.upd hp) (S1.I.fd.same (d8.upd hp)).2
 exact q p v (.ref d) _ A1 S2.fin.1 (SqT.of b8) ((h1.same (S1.sm (Kp.upd hp))).same S2.fin.2)⟩
end
section
variable [Fam][Regs]
def spP (K:Fg)(n:Nat)(f:List DV->@M fdI PyData):Sp:=λvs H Q _=>∃G B F args d F',vs.length=n/\(∀b ∈ @j7 fdI K G,b∈B)/\BOk H B /\ @FAt fdI K G H F /\ @dD fdI K G B H args vs/\f args F=some (d,F') /\
 ∀p v y H',Kp (@j7 fdI K G) H H'->@FAt fdI K G H' F'->SqT K H' p [v,y]->a7 K (hid H' B) d v->Q (.ref p) H'
variable {K:Fg}{P:Program}{w:World}{mg:Str->Option Value}{base:Heap}{st:Stmt}
theorem yh {x qual:Str}{f:Addr}{fd:FuncData}{N ps:List Str}{k i0 j:Nat}{mkh:PyData->Option Regs.S}{m:DE->@M E7 Out}(hlam:Regs.lam=Fam.lam)(Fn:Fun K x qual st f fd)(S:FnScope N ps (defScope st))(hi0:i0<N.length)(hpi:ps.length<=i0)(hno:∀E μ E1 μ1,m E μ=some (.nx E1,μ1)->False)
  (hbody:∀(cdv:Value) (A:Around) (outer:List Env) (s:Shared) (H:Hp) (E:XK),Room k (A.deeper (envOfC qual (defScope st) s.heap.objs.size f cdv)) ->
   ∃st0 rest ts,defBody st=st0::rest/\PS (M8 CX0 P w K mg base N qual (defScope st) f cdv A outer s H E).nox st0 (G9 (U3 (spN K mkh) [] E0 (l9 (l4 j) C4)) (D3 i0))/\SmsP K (M8 CX0 P w K mg base N qual (defScope st) f cdv A outer s H E).nox i0 rest ts m) :
  FnOk P w K mg base CX0 (k+1) f fd ps (spP K ps.length (qC N i0 j mkh m)):=by
 refine Fn.ok S (λvs H Q E h=>?_) (λcdv A outer s H vs Q E hr h=>?_)
 .obtain⟨G,B,F,args,d,F',hl,_⟩:=h
  exact hl
 .obtain⟨G,B,F,args,r,F',hl,fB,bk,fa,ha,hm,q⟩:=h
  obtain⟨ds,e1,hm⟩:=bS9 hm
  obtain⟨h,e2,hm⟩:=bS9 hm
  obtain⟨μ0,e3,hm⟩:=bS9 hm
  obtain⟨r',e4,hm⟩:=bS9 hm
  cases hm
  have:=Z2 e1
  subst this
  have hd:=iY ha
  obtain⟨st0,rest,ts,eb,hps,hts⟩:=hbody cdv A outer s H E hr
  refine⟨N5 (G9 (U3 (spN K mkh) [] E0 (l9 (l4 j) C4)) (D3 i0)) ts,by rw[eb];exact i9 hps hts.ps,?_⟩
  obtain⟨v,v1,v2⟩:=a6.item hd e2
  have hjl:j<vs.length:=(HG.mp v1).1
  have hsj:(L2.A5 N vs)[j]? = some (some v):=by
   unfold L2.A5
   rw[Ib (by simpa using hjl),HP,v1];rfl
  refine⟨v,hsj,?_⟩
  simp only[C4,IE]
  refine⟨B,h,μ0,v,rfl,bk,v2,e3,λd A1 H1 sm fr rg=>?_⟩
  have te:=oZ (K:=K) hlam
  have tB:∀b ∈ @tabP E7 K,b∈B:=λb hb=>fB b (ke (te▸hb))
  obtain⟨o,μ',a1,a2⟩:=xZ e4 d
  have hlen:vs.length=ds.length:=hd.length
  have tb0:z9 (tabsK Fam.lam K) H1:=(@FAt.same fdI K G H H1 F fa sm).2
  have tb1:z9 (tabsK Regs.lam K) H1:=by rw[hlam];exact tb0
  have hdl:ds.length<=i0:=by rw[<-hlen,hl];exact hpi
  have SM:=oR (i0:=i0) (N:=N) hi0 hdl tB bk sm fr tb1 rg hd
  cases o with
  | rt d' =>
   cases a2
   refine hts.ok d (A1++B) A1 H1 (A1++B) A1 _ μ0 _ H1 _ r μ' SM a1 λp v y H2 A2 Z hs hv=>?_
   have kk:∀b o,H b=some o->b ∉ @tabP fdI K->H2 b=some o:=λb o e n=>Z.kp b o (sm b o e) (λz=>n (te▸z)) λz=>by rw[fr b z]at e;cases e
   exact q p v y H2 (λb o e n=>kk b o e λz=>n (ke z)) (xj fa (by rw[<-hlam];exact Z.tb) kk) hs (hv.same (G6 λb hb=>HC.mpr (.inr (HC.mpr (.inr hb)))))
  | nx E'=>exact(hno _ _ _ _ a1).elim
  | bk E'=>cases a2
  | ct E'=>cases a2
end
section
variable [Fam]{K:Fg}{X:Cx}{e:Expr}{es:List Expr}{pos pos2 p p2:Pos}
theorem wM {n:Nat}{f:List DV->M PyData}{ta:TA}{ms:DE->M (List DV)}(h:TVd K ta ms)(hn:∀E F args F',ms E F=some (args,F')->args.length=n):TEd K (tOp (vz K) (U3 (spP K n f) [] E0 ta) (tC (.int 0))) (p0 f ms):=λG B E F σ H Q d F' I e q=>by
 obtain⟨⟨args,F1⟩,e1,e⟩:=bS9 e
 refine h G B E F σ H _ args F1 I e1 λvs H1 k1 f1 h1=>?_
 rw[IE]
 exact⟨G,B,F1,args,d,F',by rw[h1.length];exact hn _ _ _ _ e1,I.fB,q5 I.bk k1 f1,f1,h1,e,λp v y H2 k2 f2 hs h2=>⟨p,[v,y],0,v,rfl,rfl,hs,rfl,q v H2 (k1.trans k2) f2 h2⟩⟩
theorem vf {x:Str}{k n:Nat}{j}{ps:List Str}{f:List DV->M PyData}{tl:TA}{ms:DE->M (List DV)}(hK:X.K=K)(C:j8 X.prog X.w X.K X.mg X.base x k ps (spP K n f))(hr:Room k X.A)(ha:Evs K X (e::es) tl ms)(hn:∀E F args F',ms E F=some (args,F')->args.length=n)(hg:Gl X x:=by rfl)
  (hdb:(x == ("__debug__":Str))=false:=by decide) (he:starEach (e::es) X.env=(false,eval e X.env)::starEach es X.env:=by rfl) (hpl:(backTo pos (starEach es X.env)).any (·.1)=false:=by rfl) (hs:ft (.Constant (.int 0) j p2):=by intro _ _;rfl) :
  Ev K X (.Subscript (.Call (.Name x p) (e::es) [] pos) (.Constant (.int 0) j p2) pos2) (tOp (vz K) (U3 (spP K n f) [] E0 tl) (tC (.int 0))) (p0 f ms):=⟨G5 (qa hK) (P4 C hr hg ha.pa hdb he hpl) f7 hs,wM ha.ok hn⟩
end
end
end L3
namespace LM
open PySem PySem.Spec PyProof.Rows L2 L3
variable [Fam][LamC]
local instance regW:Feeds:=E7
section
variable {E:DE}{F:Mac}
end
section
variable {E:DE}{F:Mac}{i:Nat}{ds:List PyData}{Q:Out->Mac->Prop}
theorem dX {v:DE->M PyData}(he:L3.R3 E i=some ds)(hl:ds.length<=100000)(q:wp (v E F) λx F1=>Q (.nx (E.set i (some (.own (ds++[x]))))) F1):wp (cZ i v E F) Q:=by
 unfold cZ;rw[b9]
 refine g7 q λx F1 h=>?_
 rw[he,HY,HH (JU hl (by rw[Io];decide))]
 exact a9.mpr h
end
theorem E3 {bd:PyData->DE->Option DE}{body:DE->M Out}{Q:Out->Mac->Prop}(I:Nat->DE->Mac->Prop):∀(items:List PyData) (n:Nat) (E:DE) (F:Mac),I n E F ->
  (∀i d,items[i]? = some d->∀E F,I (n+i) E F->∃E1,bd d E=some E1/\wp (body E1 F) λo F'=>∃E2,o = .nx E2/\I (n+i+1) E2 F')->(∀E F,I (n+items.length) E F->Q (.nx E) F)->wp (G1 bd body items E F) Q
 | [],n,E,F,h,_,hq=>a9.mpr (hq E F h)
 | d::r,n,E,F,h,st,hq=>by
  obtain⟨E1,e1,h1⟩:=st 0 d rfl E F h
  rw[G1,e1,HY,b9]
  refine g7 h1 λo F1 ⟨E2,e2,h2⟩=>?_
  subst e2
  refine E3 I r (n+1) E2 F1 h2 (λi d e E F hI=>?_) (λE F hI=>hq E F (by rw[HZ];rw[show n+(r.length+1)=n+1+r.length by omega];exact hI))
  have:=st (i+1) d (by simpa using e) E F (by rw[show n+(i+1)=n+1+i by omega];exact hI)
  rw[show n+(i+1)+1=n+1+i+1 by omega]at this
  exact this
section
variable {E:DE}{μ:Mac}
theorem aJ {α:Type}{m:DE->M α}{Q:α->Mac->Prop}:wp (mE m E μ) Q↔wp (m E μ) λx _=>Q x μ:=by
 unfold mE;rw[b9];simp only[a9]
def lK (i0:Nat)(E:DE)(μ:Mac)(Q:Out->Mac->Prop):Out->Prop
 | .nx E1=>v6 E1 i0=v6 E i0/\Q (.nx E1) μ
 | .bk E1=>v6 E1 i0=v6 E i0/\Q (.bk E1) μ
 | .ct E1=>v6 E1 i0=v6 E i0/\Q (.ct E1) μ
 | .rt d=>Q (.rt d) μ
theorem AI {i0:Nat}{Q:Out->Mac->Prop}{E1:DE}(h:v6 E1 i0=v6 E i0)(q:Q (.nx E1) μ):lK i0 E μ Q (.nx E1):=⟨h,q⟩
theorem Dp {i0:Nat}{Q:Out->Mac->Prop}{d:PyData}(q:Q (.rt d) μ):lK i0 E μ Q (.rt d):=q
theorem wu {i0:Nat}{m:DE->M Out}{Q:Out->Mac->Prop}:wp (mL i0 m E μ) Q↔wp (m E μ) λo _=>lK i0 E μ Q o:=by
 unfold mL;rw[b9]
 refine B3 λo F=>?_
 cases o with
 | rt d=>exact a9
 | nx E1=>show wp (aW i0 E μ (.nx E1)) Q↔(v6 E1 i0=v6 E i0/\Q (.nx E1) μ);unfold aW;dsimp only;split <;> rename_i h <;> simp[a9,u8,h]
 | bk E1=>show wp (aW i0 E μ (.bk E1)) Q↔(v6 E1 i0=v6 E i0/\Q (.bk E1) μ);unfold aW;dsimp only;split <;> rename_i h <;> simp[a9,u8,h]
 | ct E1=>show wp (aW i0 E μ (.ct E1)) Q↔(v6 E1 i0=v6 E i0/\Q (.ct E1) μ);unfold aW;dsimp only;split <;> rename_i h <;> simp[a9,u8,h]
theorem pV {mi:DE->M (List PyData)}{bd:PyData->DE->Option DE}{body:DE->M Out}{Q:Out->Mac->Prop}:wp (jd mi bd body E μ) Q↔wp (mi E μ) λds _=>wp (G1 bd body ds E μ) Q:=by
 unfold jd;rw[b9]
theorem fU {f:List PyData->Mac->Option (PyData×Mac)}{ms:DE->M (List PyData)}{Q:PyData->Mac->Prop}:wp (bC f ms E μ) Q↔wp (ms E μ) λxs μ1=>wp (f xs μ1) Q:=by
 unfold bC;rw[b9]
theorem yq {Q:PyData->Mac->Prop}:wp (sAt E μ) Q↔Q (.int μ.t) μ:=a9
theorem mH {Q:PyData->Mac->Prop}:wp (fG E μ) Q↔Q (dz μ) μ:=a9
theorem xw {Q:PyData->Mac->Prop}:wp (qB E μ) Q↔Q (.int μ.line.length) μ:=a9
theorem xr {Q:PyData->Mac->Prop}:wp (sP E μ) Q↔Q (.int μ.book.length) μ:=a9
theorem Bu {a:DE->M PyData}{Q:Out->Mac->Prop}:wp (mDo a E μ) Q↔wp (a E μ) λ_ F1=>Q (.nx E) F1:=by
 unfold mDo;rw[b9];simp only[a9]
theorem Bk {ms:DE->M (List PyData)}{Q:Out->Mac->Prop}(h:wp (ms E μ) λxs μ1=>∃y,iO xs=some y /\ μ1.line.length<=10000/\Q (.nx E) { μ1 with line:=μ1.line++[y] }):wp (mS ms E μ) Q:=by
 unfold mS
 rw[b9]
 refine g7 h λxs μ1 ⟨y,e1,e2,q⟩=>?_
 have hl:xs.length=4:=by
  unfold iO at e1
  split at e1
  .rfl
  .cases e1
 have z:(10000:Nat)<sizeLine:=by rw[Io];decide
 show wp ((iO xs).bind _) Q
 rw[e1,HY,HH ⟨by show μ1.line.length<sizeLine;omega,by show xs.length<=sizeLine;omega⟩]
 exact a9.mpr q
theorem sS {ms:DE->M (List PyData)}{Q:Out->Mac->Prop}(h:wp (ms E μ) λxs μ1=>∃y,je xs=some y /\ μ1.book.length<=10000/\Q (.nx E) { μ1 with book:=μ1.book++[y] }):wp (kI ms E μ) Q:=by
 unfold kI
 rw[b9]
 refine g7 h λxs μ1 ⟨y,e1,e2,q⟩=>?_
 have hl:xs.length=4:=by
  unfold je at e1
  split at e1
  .rfl
  .cases e1
 have z:(10000:Nat)<sizeLine:=by rw[Io];decide
 show wp ((je xs).bind _) Q
 rw[e1,HY,HH ⟨by show μ1.book.length<sizeLine;omega,by show xs.length<=sizeLine;omega⟩]
 exact a9.mpr q
theorem CM {f:List DV->@M fdI PyData}{ds:List PyData}{Q:PyData->Mac->Prop}(h:wp (f (ds.map DV.dat) (X3 [])) λd _=>Q d μ):wp (reF f (ds.map DV.dat) μ) Q:=by
 unfold reF
 rw[aY,HY,b9]
 refine g7 h λd F q=>a9.mpr q
theorem jo {N:List Str}{m:DE->M Out}{ds:List PyData}{r:PyData}{μ':Mac}(h:∀d:Addr,wp (m (R0 N d ds) μ) λo μ1=>μ1 = μ'/\iy o=some r):kg N m ds μ=some (r,μ'):=wW λd=>by
 obtain⟨o,F,e,rfl,e2⟩:=h d
 exact⟨o,e,e2⟩
theorem AK {N:List Str}{i0 j:Nat}{mkh:PyData->Option Mac}{m:DE->M Out}{ds:List PyData}{h r:PyData}{μ0:Mac}{F:FdS}{Q:PyData->FdS->Prop}(hj:ds[j]? = some h)(hm:mkh h=some μ0)(hr:∀d:Addr,wp (m ((p6 N (ds.map DV.dat)).set i0 (some (.adr d))) μ0) λo _=>iy o=some r)(q:Q r F):wp (qC N i0 j mkh m (ds.map DV.dat) F) Q:=by
 unfold qC
 have e:=xc (N:=N) (i0:=i0) (m:=m) (μ0:=μ0) (ds:=ds) (r:=r) λd=>by
  obtain⟨o,F,e,e2⟩:=hr d
  exact⟨o,F,e,e2⟩
 rw[aY,HY,hj,HY,hm,HY,e,HY]
 exact a9.mpr q
end
end LM
namespace L3
open PySem PySem.Spec PyProof.Rows L2
variable [Fam]
def cn:List DV->M PyData:=X5 ["_law_rule_here","_law_one","_law_other"] (mSq (mIf (uB (s2 (eqD true) (s2 ixD (sW 1) (sC (.int 3))) (s2 ixD (sW 2) (sC (.int 3))))) (mRt (s2 ixD (sW 1) (sC (.int 3)))) mNx)
  (mSq (mIf (uB (s2 (inD false) (sW 0) (sC (.tuple [.str "last",.str "lastoff"])))) (mRt (sC (.bool true))) mNx)
  (mSq (mIf (uB (s2 (inD false) (sW 0) (sC (.tuple [.str "short",.str "shortoff"])))) (mRt (s2 ltD (s2 ixD (sW 1) (sC (.int 2))) (s2 ixD (sW 2) (sC (.int 2))))) mNx)
  (mRt (nO (s2 (inD false) (sW 0) (sC (.tuple [.str "front",.str "frontoff"]))) (s2 ltD (s2 ixD (sW 1) (sC (.int 1))) (s2 ixD (sW 2) (sC (.int 1)))))))))
def gf (p:Per):Pn:=(p.r,p.l,p.b)
def j6 (line:List Per)(i:Nat):Per:=line.getD i ⟨0,0,0,false⟩
def pnL (line:List Per):List Pn:=line.map gf
theorem bV {line:List Per}{i:Nat}(h:i<line.length):pAt (pnL line) i=gf (j6 line i):=by
 unfold pAt pnL j6
 simp[h]
theorem t8 (line:List Per):(pnL line).length=line.length:=by simp[pnL]
def jY (k:Nat)(p q:Per):Bool:=if p.b≠q.b then p.b else if k=1 then true else if k=2 then decide (p.l<q.l) else if k=3 then decide (p.r<q.r) else false
theorem vc {r:PyData}{p q:Per}{F:FdS}{Q:PyData->FdS->Prop}(hr:r∈W8)(hq:Q (.bool (jY (kOf r) p q)) F):wp (cn [.dat r,.dat (aL p),.dat (aL q)] F) Q:=by
 unfold cn aL
 unfold jY at hq
 walk_at "go"
 refine R6 (λh=>?_) λh=>?_
 .have hne:p.b≠q.b:=by have:=yu h;simpa using this.symm
  rw[HH hne]at hq
  walk_at "go"
  exact hq
 have heq:p.b=q.b:=by have:=yu h;simpa using this.symm
 rw[HM (by simp[heq])]at hq
 walk_at "go"
 refine c9 (qg hr) (c9 rfl (R6 (λh=>?_) λh=>?_))
 .rw[HH (Iw h)]at hq
  walk_at "go"
  exact hq
 rw[HM (IW h)]at hq
 walk_at "go"
 refine c9 (mD hr) (c9 rfl (R6 (λh=>?_) λh=>?_))
 .rw[HH (Iw h)]at hq
  walk_at "go"
  exact hq
 rw[HM (IW h)]at hq
 walk_at "go"
 refine c9 (mq hr) (c9 rfl (R6 (λh=>?_) λh=>?_))
 .rw[HH (Iw h)]at hq
  walk_at "go"
  exact hq
 rw[HM (IW h)]at hq
 walk_at "go"
 exact hq
theorem ko {k:Nat}{line:List Per}{i j:Nat}(hj:j<line.length)(hij:i<j):jY k (j6 line j) (j6 line i)=decide (x5 k true (pnL line) j i):=by
 have hi:i<line.length:=by omega
 rw[JW,JE]
 unfold jY x5 Q8
 rw[bV hi,bV hj]
 generalize j6 line j=p
 generalize j6 line i=q
 obtain⟨pn,pr,pl,pb⟩:=p
 obtain⟨qn,qr,ql,qb⟩:=q
 have h1:¬j<i:=by omega
 by_cases k1:k=1
 .cases pb <;> cases qb <;> simp[gf,bI,k1,hij]
 .by_cases k2:k=2
  .cases pb <;> cases qb <;> simp[gf,bI,k2,h1]
  .by_cases k3:k=3
   .cases pb <;> cases qb <;> simp[gf,bI,k3,h1]
   .cases pb <;> cases qb <;> simp[gf,bI,k1,k2,k3,h1]
def K0 (S:Nat->Nat->Bool)(found:List Nat):Nat->Option Nat
 | 0=>none
 | j+1=>if j∈found then K0 S found j else match K0 S found j with
  | none=>some j
  | some b=>if S j b=true then some j else some b
theorem cQ {S:Nat->Nat->Bool}{found:List Nat}:∀{j b:Nat},K0 S found j=some b->b<j/\b ∉ found
 | 0,b,h=>by cases h
 | j+1,b,h=>by
  unfold K0 at h
  split at h
  .obtain⟨h1,h2⟩:=cQ h;exact⟨by omega,h2⟩
  .rename_i hn
   split at h
   .cases h;exact⟨by omega,hn⟩
   .rename_i c hc
    obtain⟨h1,h2⟩:=cQ hc
    split at h <;> cases h
    .exact⟨by omega,hn⟩
    .exact⟨by omega,h2⟩
theorem aG {L:List Nat}{i:Nat}(h:i∈L):L[L.idxOf i]? = some i:=by
 have:=KO.mpr h
 rw[HD this,LO this]
theorem xK {L:List Nat}(nd:L.Nodup){t i:Nat}(h:L[t]? = some i):L.idxOf i=t:=by
 have h2:=aG (Iy h)
 exact kq nd h2 h
theorem bK {S:Nat->Nat->Bool}{L found:List Nat}{n:Nat}(hS:∀i j,i<n->j<n->i<j->(S j i=true↔L.idxOf j<L.idxOf i)):∀{j:Nat},j<=n->(∀i<j,i ∉ found->∃b,K0 S found j=some b/\L.idxOf b<=L.idxOf i)
 | 0,_,i,hi,_=>absurd hi (by omega)
 | j+1,hj,i,hi,hf=>by
  unfold K0
  by_cases hjf:j∈found
  .rw[HH hjf]
   have:i≠j:=λz=>hf (z▸hjf)
   exact bK hS (by omega) i (by omega) hf
  .rw[HM hjf]
   cases hb:K0 S found j with
   | none =>
    by_cases hij:i=j
    .exact⟨j,rfl,by rw[hij];exact HK _⟩
    .obtain⟨b,e,_⟩:=bK hS (show j<=n by omega) i (by omega) hf
     rw[hb]at e;cases e
   | some b =>
    obtain⟨hbl,_⟩:=cQ hb
    have hs:=hS b j (by omega) (by omega) hbl
    dsimp only
    by_cases hij:i=j
    .subst hij
     split
     .exact⟨_,rfl,HK _⟩
     .rename_i hns
      refine⟨b,rfl,?_⟩
      have hge:¬(L.idxOf i<L.idxOf b):=λz=>hns (hs.mpr z)
      omega
    .obtain⟨b',e,hle⟩:=bK hS (show j<=n by omega) i (by omega) hf
     rw[hb]at e;cases e
     split
     .rename_i hss
      exact⟨j,rfl,by have:=hs.mp hss;omega⟩
     .exact⟨b,rfl,hle⟩
theorem rz {k:Nat}{kp:Bool}{ps:List Pn}{i j:Nat}(hi:i<ps.length)(hj:j<ps.length)(hij:i≠j):x5 k kp ps i j↔(order k kp ps).idxOf i<(order k kp ps).idxOf j:=by
 have mi:i∈order k kp ps:=(p7 k kp ps).mem_iff.mpr (Ir.mpr hi)
 have mj:j∈order k kp ps:=(p7 k kp ps).mem_iff.mpr (Ir.mpr hj)
 have li:=KO.mpr mi
 have lj:=KO.mpr mj
 have P:=Jc.mp (cx k kp ps)
 have ei:(order k kp ps)[(order k kp ps).idxOf i]=i:=LO li
 have ej:(order k kp ps)[(order k kp ps).idxOf j]=j:=LO lj
 constructor
 .intro h
  rcases Nat.lt_trichotomy ((order k kp ps).idxOf i) ((order k kp ps).idxOf j) with z | z | z
  .exact z
  .have h1:=aG mi
   have h2:=aG mj
   rw[z,h2]at h1
   exact absurd (HN h1).symm hij
  .have:=P _ _ lj li z
   rw[ei,ej]at this
   exact(bS _ _ h this).elim
 .intro z
  have:=P _ _ li lj z
  rw[ei,ej]at this
  exact this
theorem qR {k:Nat}{ps:List Pn}{t b:Nat}(ht:(order k true ps)[t]? = some b):K0 (λi j=>decide (x5 k true ps i j)) ((order k true ps).take t) ps.length=some b:=by
 have nd:=ag k true ps
 have mb:b∈order k true ps:=Iy ht
 have hb:b<ps.length:=Ir.mp ((p7 k true ps).mem_iff.mp mb)
 have ib:=xK nd ht
 have hnf:b ∉ (order k true ps).take t:=λz=>by
  obtain⟨i,hi⟩:=JY.mp z
  rw[KN]at hi
  split at hi
  .exact absurd (kq nd hi ht) (by omega)
  .cases hi
 obtain⟨c,e,hle⟩:=bK (S:=λi j=>decide (x5 k true ps i j)) (L:=order k true ps) (found:=(order k true ps).take t) (n:=ps.length) (λi j hi hj hij=>by simp only[JE];exact rz hj hi (by omega)) (HK _) b hb hnf
 obtain⟨hc,hcf⟩:=cQ e
 have mc:c∈order k true ps:=(p7 k true ps).mem_iff.mpr (Ir.mpr hc)
 have hge:t<=(order k true ps).idxOf c:=by
  rcases Nat.lt_or_ge ((order k true ps).idxOf c) t with z | z
  .refine absurd (JY.mpr ⟨(order k true ps).idxOf c,?_⟩) hcf
   rw[KN,HH z];exact aG mc
  .exact z
 have:(order k true ps).idxOf c=t:=by omega
 have h2:=aG mc
 rw[this,ht]at h2
 rw[e,h2]
end L3
namespace LM
open PySem PySem.Spec PyProof.Rows L2 L3
variable [Fam][LamC]
local instance regN:Feeds:=E7
theorem lB {bd:PyData->DE->Option DE}{body:DE->M Out}{Q:Out->Mac->Prop}(I:Nat->DE->Mac->Prop):∀(items:List PyData) (n:Nat) (E:DE) (F:Mac),I n E F ->
  (∀i d,items[i]? = some d->∀E F,I (n+i) E F->∃E1,bd d E=some E1/\wp (body E1 F) λo F'=>∃E2,(o = .nx E2\/o = .ct E2)/\I (n+i+1) E2 F')->(∀E F,I (n+items.length) E F->Q (.nx E) F)->wp (G1 bd body items E F) Q
 | [],n,E,F,h,_,hq=>a9.mpr (hq E F h)
 | d::r,n,E,F,h,st,hq=>by
  obtain⟨E1,e1,h1⟩:=st 0 d rfl E F h
  rw[G1,e1,HY,b9]
  refine g7 h1 λo F1 ⟨E2,e2,h2⟩=>?_
  have go:wp (G1 bd body r E2 F1) Q:=by
   refine lB I r (n+1) E2 F1 h2 (λi d e E F hI=>?_) (λE F hI=>hq E F (by rw[HZ];rw[show n+(r.length+1)=n+1+r.length by omega];exact hI))
   have:=st (i+1) d (by simpa using e) E F (by rw[show n+(i+1)=n+1+i by omega];exact hI)
   rw[show n+(i+1)+1=n+1+i+1 by omega]at this
   exact this
  rcases e2 with e2 | e2 <;> subst e2 <;> exact go
theorem jG {l:List Nat}{i:Nat}(hl:∀j∈l,j<=1000):inD false (.int (i:Int)) (.list (g9 l))=some (.bool (decide (i∈l))):=by
 have hs:SeqAt.shaped (.list (g9 l))=true:=by
  have:=(fq hl).shaped (by decide) (by decide)
  simpa [SeqAt.shaped,PyData.canLay0,PyData.depth] using this
 have hi:SeqAt.shaped (.int (i:Int))=true:=by simp[SeqAt.shaped,PyData.canLay0,PyData.depth]
 show(if SeqAt.shaped (.list (g9 l))=true/\SeqAt.shaped (.int (i:Int))=true then _ else none)=_
 rw[HH ⟨hs,hi⟩,HM (by simp)]
 refine IK (λb=>some (PyData.bool b)) ?_
 unfold g9
 rw[List.any_map]
 have e:(l.any ((λy=>y.eqv (.int (i:Int))) ∘ λj:Nat=>PyData.int (j:Int)))=l.any λj=>decide (j=i):=by
  congr 1
  funext j
  simp only[Function.comp,oF]
  rw[JD];omega
 rw[e]
 rw[JW]
 simp
theorem fH {j:Int}(h0:-(2 ^ 62)<=j)(h1:j<2 ^ 62):N0 [.int j]=some (V4 0 j.toNat):=HH ⟨h0,h1⟩
theorem uc {n:Nat}(h:n<=100000):N0 [.int (n:Int)]=some (g9 (List.range n)):=by
 rw[fH (by omega) (by omega),Jq,pB]
def Cy:Option Nat->PyData
 | none=>.none
 | some b=>.int (b:Int)
def fm:DE->M (List PyData):=gSq (dA 5 (dm h9))
  (gSq (bo (eE (c6 (sN Aq (c6 (sW 1) (c6 (sN W0 (c6 (sW 4) h9)) h9))) h9)) (bN 6) (mSq (D7 7 (sC .none))
  (mSq (bo (eE (c6 (sN W0 (c6 (sW 4) h9)) h9)) (bN 8) (mSq (mIf (uB (s2 (inD false) (sW 8) (sW 5))) (λE F=>some (.ct E,F)) mNx)
  (mIf (uOr (uB (s2 (isD false) (sW 7) (sC .none))) (uT (p0 (reF cn) (vD (sV 3) (vD (s2 ixD (sW 4) (sW 8)) (vD (s2 ixD (sW 4) (sW 7)) D8)))))) (D7 7 (sV 8)) mNx)))
  (cZ 5 (sV 7)))))
  (uZ 5))
def EY:List PyData->Mac->Option (PyData×Mac):=kg ["_law_m","_law_hands","_law_places","_law_rule_here","_law_line","_law_found","_law_hand","_law_best","_law_place"] (mSq (bu (M3 3 (i8 (bN 1) (i8 (bN 2) (i8 (bN 3) M1)))) fG) (aw 4 fm))
theorem pf {line:List Per}{i:Nat}(h:i<line.length):atI (line.map aL) (i:Int)=some (aL (j6 line i)):=by
 refine W3 ?_
 unfold j6
 simp[h]
theorem yK {a:DE->M Out}{b:DE->M (List PyData)}{E:DE}{μ:Mac}{Q:List PyData->Mac->Prop}(h:wp (a E μ) λo μ1=>∃E1,o = .nx E1/\wp (b E1 μ1) Q):wp (gSq a b E μ) Q:=by
 unfold gSq
 rw[b9]
 refine g7 h λo μ1 ⟨E1,e,q⟩=>?_
 subst e;exact q
theorem oE {μ:Mac}{d:Addr}{h:Nat}{r:PyData}{c8:PyData}(hr:r∈W8)(hl:μ.line.length<64) :
  wp (fm [some (.adr d),some (.dat (.int (h:Int))),some (.dat c8),some (.dat r),some (.dat (kU μ)),none,none,none,none] μ) λds μ1=>μ1 = μ/\ds=g9 ((order (kOf r) true (pnL μ.line)).take h):=by
 have hol:(order (kOf r) true (pnL μ.line)).length = μ.line.length:=by rw[(p7 _ _ _).length_eq,Ih,t8]
 have hsm:∀t,∀j∈(order (kOf r) true (pnL μ.line)).take t,j<=1000:=λt j hj=>by
  have:=Ir.mp ((p7 (kOf r) true (pnL μ.line)).mem_iff.mp (Ka hj))
  rw[t8]at this;omega
 unfold fm
 refine yK (dw.mpr (bx.mpr (e8.mpr ⟨x8 rfl,k8 rfl,_,rfl,?_⟩)))
 refine yK (Y4.mpr (fA.mpr (b7.mpr (N3.mpr (b7.mpr (j5.mpr (l3 rfl (b7.mpr (N3.mpr (b7.mpr (j5.mpr (l3 rfl (e8.mpr (c9 rfl (e8.mpr (c9 rfl (e8.mpr ?_)))))))))))))))))
 have emin:(if ((μ.line.map aL).length:Int)<(h:Int) then((μ.line.map aL).length:Int) else(h:Int))=((min h μ.line.length:Nat):Int):=by
  rw[Hz];split <;> omega
 show oB (N0 [.int (if ((μ.line.map aL).length:Int)<(h:Int) then((μ.line.map aL).length:Int) else(h:Int))]) _
 rw[emin]
 refine c9 (z:=g9 (List.range (min h μ.line.length))) (uc (by omega)) ?_
 refine E3 (λt E F=>F = μ/\∃o6 o7 o8,E=[some (.adr d),some (.dat (.int (h:Int))),some (.dat c8),some (.dat r),some (.dat (kU μ)),some (.own (g9 ((order (kOf r) true (pnL μ.line)).take t))),o6,o7,o8]) _ 0 _ μ ⟨rfl,none,none,none,rfl⟩ ?_ ?_
 .rintro t dd e E F ⟨rfl,o6,o7,o8,rfl⟩
  rw[IB]
  obtain⟨tt,e2,rfl⟩:=gQ e
  have ht:t<min h F.line.length/\tt=t:=by
   obtain⟨h1,h2⟩:=HG.mp e2
   simp at h1 h2
   exact⟨by omega,h2.symm⟩
  obtain⟨ht,rfl⟩:=ht
  obtain⟨b,hb⟩:∃b,(order (kOf r) true (pnL F.line))[tt]? = some b:=⟨_,HD (by omega)⟩
  refine⟨_,rfl,?_⟩
  refine i6.mpr (x4.mpr (u9.mpr ⟨k8 rfl,i3 ?_⟩))
  refine i6.mpr (Y4.mpr (fA.mpr (b7.mpr (N3.mpr (b7.mpr (j5.mpr (l3 rfl (e8.mpr (c9 rfl (e8.mpr ?_)))))))))) 
  show oB (N0 [.int ((F.line.map aL).length:Int)]) _
  rw[Hz]
  refine c9 (z:=g9 (List.range F.line.length)) (uc (by omega)) ?_
  refine lB (λj E F'=>F'=F/\∃o8,E=[some (.adr d),some (.dat (.int (h:Int))),some (.dat c8),some (.dat r),some (.dat (kU F)),some (.own (g9 ((order (kOf r) true (pnL F.line)).take tt))),some (.dat (.int (tt:Int))),some (.dat (Cy (K0 (λi j=>decide (x5 (kOf r) true (pnL F.line) i j)) ((order (kOf r) true (pnL F.line)).take tt) j))),o8]) _ 0 _ F ⟨rfl,o8,rfl⟩ ?_ ?_
  .rintro j dj ej E F' ⟨rfl,o8',rfl⟩
   rw[IB]
   obtain⟨jj,ej2,rfl⟩:=gQ ej
   have hj:j<F'.line.length/\jj=j:=by
    obtain⟨h1,h2⟩:=HG.mp ej2
    simp at h1 h2
    exact⟨by omega,h2.symm⟩
   obtain⟨hj,rfl⟩:=hj
   refine⟨_,rfl,?_⟩
   refine i6.mpr (K4.mpr (W1.mpr (v9.mpr (j5.mpr (l3 rfl (j5.mpr (X1 rfl (c9 (jG (hsm tt)) (c9 rfl (R6 (λhin=>?_) λhin=>?_))))))))))
   .have hin:=Iw hin
    exact a9.mpr (CO ⟨_,.inr rfl,rfl,_,by rw[K0,HH hin];rfl⟩)
   .have hin:=IW hin
    refine X2.mpr (i3 ?_)
    cases hb0:K0 (λi j=>decide (x5 (kOf r) true (pnL F'.line) i j)) ((order (kOf r) true (pnL F'.line)).take tt) jj with
    | none =>
     refine K4.mpr (mx.mpr (W1.mpr (v9.mpr (j5.mpr (l3 rfl (u9.mpr (c9 rfl (c9 rfl (iL.mpr (iL.mpr ?_))))))))))
     exact x4.mpr (n6.mpr (n8 rfl ⟨k8 rfl,_,.inl rfl,rfl,_,by rw[K0,HM hin,hb0];rfl⟩))
    | some bb =>
     obtain⟨hbb,_⟩:=cQ hb0
     refine K4.mpr (mx.mpr (W1.mpr (v9.mpr (j5.mpr (l3 rfl (u9.mpr (c9 rfl (c9 rfl (bU.mpr ?_)))))))))
     refine lI.mpr (J9.mpr (U2.mpr (n6.mpr (n8 rfl (U2.mpr (v9.mpr (j5.mpr (l3 rfl (j5.mpr (l3 rfl (c9 (pf hj) ?_)))))))))))
     refine U2.mpr (v9.mpr (j5.mpr (l3 rfl (j5.mpr (l3 rfl (c9 (pf (show bb<F'.line.length by omega)) (L8.mpr ?_)))))))
     refine CM (ds:=[r,aL (j6 F'.line jj),aL (j6 F'.line bb)]) (vc hr (c9 rfl ?_))
     rw[ko hj hbb]
     refine R6 (λhs=>?_) λhs=>?_
     .exact x4.mpr (n6.mpr (n8 rfl ⟨k8 rfl,_,.inl rfl,rfl,_,by rw[K0,HM hin,hb0];dsimp only;rw[HH hs];rfl⟩))
     .exact X2.mpr ⟨_,.inl rfl,rfl,_,by rw[K0,HM hin,hb0];dsimp only;rw[HM (by rw[hs];simp)];rfl⟩
  .rintro E F' ⟨rfl,o8',rfl⟩
   rw[IB,C3,Ih]
   have hbest:=qR hb
   rw[t8]at hbest
   rw[hbest]
   have e3:(order (kOf r) true (pnL F'.line)).take (tt+1)=(order (kOf r) true (pnL F'.line)).take tt++[b]:=by
    rw[List.take_succ,hb];rfl
   exact i3 (dX rfl (by rw[C3,IH];omega) (n6.mpr (n8 rfl ⟨_,rfl,rfl,_,_,_,by rw[e3];simp only[g9,Ij,HX,Jb];rfl⟩)))
 .rintro E F ⟨rfl,o6,o7,o8,rfl⟩
  refine⟨_,rfl,⟨_,_,rfl,rfl,?_⟩⟩
  rw[IB,C3,Ih]
  rcases Nat.le_total h F.line.length with z | z
  .rw[Mj z]
  .rw[Mf z,IV (by omega),IV (by omega)]
end LM
namespace L3
open PySem PySem.Spec PyProof.Rows L2
variable [Fam]
def C8 (book:List Row)(j:Nat):Row:=book.getD j ⟨"",0,none,0⟩
def thP (P:Nat->Bool)(kp:Bool)(line:List Per)(i:Nat):Per:=if P i=true then⟨(j6 line i).n,(j6 line i).r,(j6 line i).l-1,kp⟩ else j6 line i
def gnP (P:Nat->Bool)(line:List Per)(i:Nat):Bool:=P i&&decide ((j6 line i).l<=1)
def row1 (P:Nat->Bool)(i:Nat)(row:Row):Row:=if P i=true then row else⟨row.w,row.t,row.m,row.q+1⟩
def fO (P:Nat->Bool)(t:Int)(line:List Per)(i:Nat)(row:Row):Row:=if gnP P line i=true then⟨"gone",(row1 P i row).t,some t,(row1 P i row).q⟩ else row1 P i row
def lH (P:Nat->Bool)(t:Int)(line:List Per)(book:List Row)(i:Nat):List Row:=book.set (j6 line i).n.toNat (fO P t line i (C8 book (j6 line i).n.toNat))
def J3 (P:Nat->Bool)(t:Int)(line:List Per)(book:List Row)(k:Nat):List Row:=(List.range k).foldl (lH P t line) book
theorem dQ {P:Nat->Bool}{t:Int}{line:List Per}{book:List Row}{k:Nat}:J3 P t line book (k+1)=lH P t line (J3 P t line book k) k:=by
 unfold J3
 rw[KD,Lg];rfl
theorem M7 {P:Nat->Bool}{t:Int}{line:List Per}{book:List Row}:∀{k:Nat},(J3 P t line book k).length=book.length
 | 0=>rfl
 | k+1=>by rw[dQ];unfold lH;rw[Jg,M7]
def fb (P:Nat->Bool)(kp:Bool)(line:List Per)(k:Nat):List Per:=(List.range line.length).map λi=>if i<k then thP P kp line i else j6 line i
def U7 (P:Nat->Bool)(kp tn:Bool)(line:List Per)(k:Nat):List Per:=((List.range k).filter λi=>!gnP P line i && !(P i&&tn)).map (thP P kp line)
def V0 (P:Nat->Bool)(kp tn:Bool)(line:List Per)(k:Nat):List Per:=((List.range k).filter λi=>!gnP P line i&&(P i&&tn)).map (thP P kp line)
def df (P:Nat->Bool)(line:List Per)(k:Nat):List Int:=((List.range k).filter λi=>gnP P line i).map λi=>(j6 line i).n
def bsG (P:Nat->Bool)(kp tn:Bool)(t:Int)(line:List Per)(book:List Row)(k:Nat):BS:=⟨fb P kp line k,J3 P t line book k,U7 P kp tn line k,V0 P kp tn line k,df P line k⟩
def qA (line:List Per)(book:List Row):Prop:=∀i<line.length,0<=(j6 line i).n/\(j6 line i).n<book.length/\1<=(j6 line i).l
theorem rV (P:Nat->Bool)(kp:Bool)(line:List Per):fb P kp line 0=line:=by
 unfold fb j6
 refine Mg (by simp) λi h1 h2=>?_
 simp[h2]
theorem fQ {P:Nat->Bool}{kp:Bool}{line:List Per}{k i:Nat}(h:i<line.length):(fb P kp line k)[i]? = some (if i<k then thP P kp line i else j6 line i):=by
 unfold fb
 simp[h]
theorem rq {P:Nat->Bool}{kp:Bool}{line:List Per}{k:Nat}(h:k<line.length):(fb P kp line k).set k (thP P kp line k)=fb P kp line (k+1):=by
 refine Ld λi=>?_
 by_cases hi:i<line.length
 .rw[fQ hi]
  by_cases hk:k=i
  .subst hk
   rw[HR (by simp[fb,hi]),HH (Kc k)]
  .rw[HL hk,fQ hi]
   congr 1
   by_cases h1:i<k
   .rw[HH h1,HH (by omega)]
   .rw[HM h1,HM (by omega)]
 .rw[Jk (by simp[fb];omega),Jk (by simp[fb];omega)]
theorem zp {P:Nat->Bool}{kp tn:Bool}{t:Int}{line:List Per}{book:List Row}{k:Nat}(hk:k<line.length)(hn:qA line book):cN kp tn t k (P k) (bsG P kp tn t line book k)=some (bsG P kp tn t line book (k+1)):=by
 obtain⟨n1,n2,n3⟩:=hn k hk
 unfold cN bsG
 dsimp only
 rw[fQ hk,HM (Jl k),HY]
 have hj:ixN (J3 P t line book k).length (j6 line k).n=some (j6 line k).n.toNat:=by
  unfold ixN
  rw[HH n1,M7,HH n2]
 rw[hj,HY]
 have hjl:(j6 line k).n.toNat<(J3 P t line book k).length:=by rw[M7];omega
 have hrow:(J3 P t line book k)[(j6 line k).n.toNat]? = some (C8 (J3 P t line book k) (j6 line k).n.toNat):=by
  unfold C8
  simp[hjl]
 rw[hrow,HY]
 have e1:(if P k=true then(⟨(j6 line k).n,(j6 line k).r,(j6 line k).l-1,kp⟩:Per) else j6 line k)=thP P kp line k:=rfl
 have hl0:(thP P kp line k).l=0↔gnP P line k=true:=by
  unfold thP gnP
  cases hp:P k with
  | false=>simp;omega
  | true=>simp;omega
 have e2:∀row:Row,(if P k=true then row else(⟨row.w,row.t,row.m,row.q+1⟩:Row))=row1 P k row:=λ_=>rfl
 have eb:∀z,lH P t line (J3 P t line book k) k=z↔(J3 P t line book k).set (j6 line k).n.toNat (fO P t line k (C8 (J3 P t line book k) (j6 line k).n.toNat))=z:=λz=>Iff.rfl
 congr 1
 rw[e1,e2]
 have eL:fb P kp line (k+1)=(fb P kp line k).set k (thP P kp line k):=(rq hk).symm
 have eB:J3 P t line book (k+1)=(J3 P t line book k).set (j6 line k).n.toNat (fO P t line k (C8 (J3 P t line book k) (j6 line k).n.toNat)):=dQ
 rw[eL,eB]
 by_cases hg:gnP P line k=true
 .rw[HH (hl0.mpr hg)]
  have r2:fO P t line k (C8 (J3 P t line book k) (j6 line k).n.toNat)=⟨"gone",(row1 P k (C8 (J3 P t line book k) (j6 line k).n.toNat)).t,some t,(row1 P k (C8 (J3 P t line book k) (j6 line k).n.toNat)).q⟩:=by unfold fO;rw[HH hg]
  rw[r2]
  unfold U7 V0 df
  rw[KD,IQ,IQ,IQ]
  simp only[Mh,JX,hg,Bool.not_false,LS,Bool.true_and,LG,KR,Bool.and_true,Js,Ji,ID,ite_true,ite_false,Ij,HX,Jb,IE,Bool.and_self]
 .rw[HM λz=>hg (hl0.mp z)]
  have hgf:gnP P line k=false:=by simpa using hg
  have r2:fO P t line k (C8 (J3 P t line book k) (j6 line k).n.toNat)=row1 P k (C8 (J3 P t line book k) (j6 line k).n.toNat):=by unfold fO;rw[HM hg]
  rw[r2]
  by_cases ht:P k=true/\tn=true
  .rw[HH ht]
   unfold U7 V0 df
   rw[KD,IQ,IQ,IQ]
   simp only[Mh,JX,hgf,ht.1,ht.2,Bool.not_false,LS,Bool.true_and,LG,KR,Bool.and_true,Js,Ji,ID,ite_true,ite_false,Ij,HX,Jb,IE,Bool.and_self]
  .rw[HM ht]
   have ht':(P k&&tn)=false:=Bool.eq_false_iff.mpr λz=>ht (by simpa using z)
   unfold U7 V0 df
   rw[KD,IQ,IQ,IQ]
   simp only[Mh,JX,hgf,ht',Bool.not_false,LS,Bool.true_and,LG,KR,Bool.and_true,Js,Ji,ID,ite_true,ite_false,Ij,HX,Jb,IE,Bool.and_self]
theorem BU {P:Nat->Bool}{kp tn:Bool}{t:Int}{line:List Per}{book:List Row}{sm:PyData}(hn:qA line book)(hin:∀i<line.length,inB sm i=some (P i)):∀{m k:Nat},m+k=line.length->V9 kp tn t sm m k (bsG P kp tn t line book k)=some (bsG P kp tn t line book line.length)
 | 0,k,h=>by rw[V9,show k=line.length by omega]
 | m+1,k,h=>by
  rw[V9,hin k (by omega),HY,zp (by omega) hn,HY]
  exact BU hn hin (by omega)
def eJ (P:Nat->Bool)(kp tn:Bool)(μ:Mac):Mac:={ μ with line:=U7 P kp tn μ.line μ.line.length++V0 P kp tn μ.line μ.line.length,book:=J3 P (μ.t+1) μ.line μ.book μ.line.length,t:=μ.t+1 }
theorem xb {P:Nat->Bool}{kp:Bool}{sm:PyData}{μ:Mac}(hl:μ.line.length<=1000)(hk:gz μ.u=some kp)(hn:qA μ.line μ.book)(hin:∀i < μ.line.length,inB sm i=some (P i)) :
  kZ sm μ=some (df P μ.line μ.line.length,eJ P kp (decide (μ.u = "turns")) μ):=by
 unfold kZ
 have z:(1000:Nat)<sizeLine:=by rw[Io];decide
 rw[HH ⟨by omega,by omega⟩,hk,HY]
 have e0:(⟨μ.line,μ.book,[],[],[]⟩:BS)=bsG P kp (decide (μ.u = "turns")) (μ.t+1) μ.line μ.book 0:=by
  unfold bsG
  rw[rV];rfl
 rw[e0,BU hn hin rfl]
 rfl
def Q7 (pl:Option Nat)(n:Nat):Bool:=match pl with
 | none=>false
 | some v=>decide (v<=n)
def r6 (pl:Option Nat)(s:Mac×Nat)(c:Int×Int):Mac×Nat :=
 if Q7 pl s.1.line.length=true then({ s.1 with book:=s.1.book++[⟨"lost",s.1.t,none,0⟩] },s.2+1)
 else({ s.1 with line:=s.1.line++[⟨(s.1.book.length:Int),c.1,c.2,false⟩],book:=s.1.book++[⟨"in",s.1.t,none,0⟩] },s.2)
def d9 (pl:Option Nat)(bt:Bt)(s:Mac×Nat):Mac×Nat:=bt.foldl (r6 pl) s
theorem fC {pl:Option Nat}:∀{bt:Bt} {s:Mac×Nat},pnL (d9 pl bt s).1.line=j3 pl (pnL s.1.line) bt/\(d9 pl bt s).2=s.2+(bt.length-i7 pl s.1.line.length bt.length)
 | [],s=>by
  constructor
  .unfold d9 j3;simp
  .unfold d9 i7;simp
 | c::bt,s=>by
  obtain⟨h1,h2⟩:=fC (pl:=pl) (bt:=bt) (s:=r6 pl s c)
  have e:d9 pl (c::bt) s=d9 pl bt (r6 pl s c):=rfl
  rw[e,h1,h2]
  unfold r6
  cases hf:Q7 pl s.1.line.length with
  | true =>
   rw[HH rfl]
   obtain⟨v,rfl,hv⟩:∃v,pl=some v/\v<=s.1.line.length:=by
    unfold Q7 at hf
    split at hf
    .cases hf
    .exact⟨_,rfl,Iw hf⟩
   constructor
   .unfold j3 i7
    rw[t8]
    have:v-s.1.line.length=0:=by omega
    simp[this]
   .unfold i7
    simp only[HZ]
    omega
  | false =>
   rw[HM (by simp)]
   constructor
   .unfold j3
    have er:i7 pl (pnL s.1.line).length (c::bt).length=i7 pl (pnL (s.1.line++[⟨(s.1.book.length:Int),c.1,c.2,false⟩])).length bt.length+1:=by
     unfold Q7 at hf
     unfold i7
     rw[t8,t8]
     split
     .rename_i v
      have:¬v<=s.1.line.length:=IW hf
      simp only[HZ,IA,JG];omega
     .simp
    rw[er,Ke]
    simp[pnL,gf]
   .unfold Q7 at hf
    unfold i7
    split
    .rename_i v
     have:¬v<=s.1.line.length:=IW hf
     simp only[HZ,IA,JG];omega
    .simp
theorem T4 {pl:Option Nat}:∀{bt:Bt} {s:Mac×Nat},(d9 pl bt s).1.h=s.1.h/\(d9 pl bt s).1.c=s.1.c/\(d9 pl bt s).1.u=s.1.u/\(d9 pl bt s).1.t=s.1.t/\(d9 pl bt s).1.book.length=s.1.book.length+bt.length
 | [],s=>⟨rfl,rfl,rfl,rfl,rfl⟩
 | c::bt,s=>by
  obtain⟨h1,h2,h3,h4,h5⟩:=T4 (pl:=pl) (bt:=bt) (s:=r6 pl s c)
  have e:d9 pl (c::bt) s=d9 pl bt (r6 pl s c):=rfl
  rw[e,h1,h2,h3,h4,h5]
  unfold r6
  split <;> (refine⟨rfl,rfl,rfl,rfl,?_⟩;simp;omega)
end L3
namespace LM
open PySem PySem.Spec PyProof.Rows L2 L3
variable [Fam][LamC]
local instance regO:Feeds:=E7
structure HouseOk (μ:Mac) (h:Nat) (pl:Option Nat) (r:PyData):Prop where
 hh:μ.h=(h:Int)
 hc:eV μ.c=plD pl
 hr:r = .str μ.u
 w8:r∈W8
theorem rf (l:List Nat):(g9 l).all isInt=true:=by
 unfold g9
 rw[List.all_map,Lo]
 intro x _;rfl
theorem qM {μ:Mac}{h:Nat}{pl:Option Nat}{r:PyData}(H:HouseOk μ h pl r)(hl:μ.line.length<64):EY [] μ=some (.list (g9 ((order (kOf r) true (pnL μ.line)).take h)),μ):=by
 refine jo λd=>?_
 refine i6.mpr (P7.mpr (mH.mpr ?_))
 unfold dz
 rw[H.hh,<-H.hr]
 refine c9 rfl (i3 ?_)
 show wp (aw 4 fm [some (.adr d),some (.dat (.int (h:Int))),some (.dat (eV μ.c)),some (.dat r),none,none,none,none,none] μ) _
 unfold aw
 rw[HH ⟨k8 rfl,rfl⟩,b9]
 refine g7 (oE (μ:=μ) (d:=d) (h:=h) (c8:=eV μ.c) H.w8 hl) λds μ1 ⟨e1,e2⟩=>?_
 subst e1 e2
 rw[HH (rf _)]
 exact a9.mpr ⟨rfl,rfl⟩
def FO:List PyData->Mac->Option (PyData×Mac):=kg ["_law_m","_law_comers","_law_places","_law_lost","_law_rank","_law_work","_law_is_lost"] (mSq (D7 2 (s2 ixD fG (mE (sC (.int 1)))))
  (mSq (mL 0 (D7 3 (sC (.int 0))))
  (mSq (jd (X4 (sV 1)) (M3 2 (i8 (bN 4) (i8 (bN 5) M1))) (mSq (D7 6 (nO (mE (s2 (isD true) (sW 2) (sC .none))) (s2 geD qB (mE (sV 2)))))
  (mSq (mIf (mE (qU (uT (sW 6)))) (mS (c6 sP (c6 (mE (sV 4)) (c6 (mE (sV 5)) (c6 (mE (sC (.bool false))) h9))))) mNx)
  (mSq (kI (c6 (mE (s2 ixD (sC (.list [.str "in",.str "lost"])) (sN mv (c6 (sW 6) h9)))) (c6 sAt (c6 (mE (sC .none)) (c6 (mE (sC (.int 0))) h9)))))
  (mL 0 (D7 3 (s2 U1 (sW 3) (sN mv (c6 (sW 6) h9)))))))))
  (mL 0 (mRt (sV 3))))))
theorem Y6 (pl:Option Nat):∀(bt:Bt) (s:Mac×Nat),(d9 pl bt s).1.line.length<=s.1.line.length+bt.length
 | [],s=>HK _
 | c::bt,s=>by
  have:=Y6 pl bt (r6 pl s c)
  have e:d9 pl (c::bt) s=d9 pl bt (r6 pl s c):=rfl
  rw[e]
  refine Im this ?_
  unfold r6
  split
  .simp
  .simp;omega
theorem wt {μ:Mac}{h:Nat}{pl:Option Nat}{r:PyData}{bt:Bt}(H:HouseOk μ h pl r)(hl:μ.line.length+bt.length<=1000)(hb:μ.book.length+bt.length<=5000) :
  FO [.tuple (bt.map cmD)] μ=some (.int ((d9 pl bt (μ,0)).2:Nat),(d9 pl bt (μ,0)).1):=by
 refine jo λd=>?_
 refine i6.mpr (x4.mpr (v9.mpr (mH.mpr (aJ.mpr (u9.mpr (c9 (z:=plD pl) ?_ ?_))))))
 .unfold dz;rw[H.hc];rfl
 refine⟨k8 rfl,i3 (i6.mpr (wu.mpr (x4.mpr (u9.mpr ⟨k8 rfl,AI rfl (i3 ?_)⟩))))⟩
 refine i6.mpr (pV.mpr (Z7.mpr (n6.mpr (n8 rfl (c9 rfl ?_)))))
 refine E3 (λm E F=>F=(d9 pl (bt.take m) (μ,0)).1/\∃o4 o5 o6,E=[some (.adr d),some (.dat (.tuple (bt.map cmD))),some (.dat (plD pl)),some (.dat (.int ((d9 pl (bt.take m) (μ,0)).2:Nat))),o4,o5,o6]) _ 0 _ μ ⟨rfl,none,none,none,rfl⟩ ?_ ?_
 .rintro m dd e E F ⟨rfl,o4,o5,o6,rfl⟩
  rw[IB]
  rw[HP]at e
  obtain⟨c,ec,rfl⟩:=Ip.mp e
  obtain⟨hm,hc⟩:=HG.mp ec
  have es:d9 pl (bt.take (m+1)) (μ,0)=r6 pl (d9 pl (bt.take m) (μ,0)) c:=by
   unfold d9
   rw[List.take_succ,ec,Lg];rfl
  have hll:(d9 pl (bt.take m) (μ,0)).1.line.length<=1000:=by
   have:=Y6 pl (bt.take m) (μ,0)
   rw[IH]at this
   have h2:((μ,0):Mac×Nat).1.line.length = μ.line.length:=rfl
   omega
  have hbl:(d9 pl (bt.take m) (μ,0)).1.book.length<=5000:=by
   have:=(T4 (pl:=pl) (bt:=bt.take m) (s:=(μ,0))).2.2.2.2
   rw[IH]at this
   have h2:((μ,0):Mac×Nat).1.book.length = μ.book.length:=rfl
   omega
  rw[es]
  generalize d9 pl (bt.take m) (μ,0)=s at hll hbl
  refine⟨_,rfl,?_⟩
  have hplaces:wp (nO (mE (s2 (isD true) (sW 2) (sC .none))) (s2 geD qB (mE (sV 2))) [some (.adr d),some (.dat (.tuple (bt.map cmD))),some (.dat (plD pl)),some (.dat (.int (s.2:Nat))),some (.dat (.int c.1)),some (.dat (.int c.2)),o6] s.1) λx μ1=>x = .bool (Q7 pl s.1.line.length) /\ μ1=s.1:=by
   cases pl with
   | none=>exact oQ.mpr (aJ.mpr (v9.mpr (j5.mpr (l3 rfl (u9.mpr (c9 rfl (c9 rfl (bU.mpr ⟨rfl,rfl⟩))))))))
   | some v =>
    refine oQ.mpr (aJ.mpr (v9.mpr (j5.mpr (l3 rfl (u9.mpr (c9 rfl (c9 rfl (iL.mpr ?_))))))))
    refine v9.mpr (xw.mpr (aJ.mpr (n6.mpr (n8 rfl (c9 rfl ⟨?_,rfl⟩)))))
    show PyData.bool _=PyData.bool _
    unfold Q7
    congr 1
    dsimp only
    rw[JD];omega
  refine i6.mpr (x4.mpr (g7 hplaces λx μ1 ⟨e1,e2⟩=>?_))
  subst e1 e2
  refine⟨k8 rfl,i3 (i6.mpr (K4.mpr (aJ.mpr (jt.mpr (lI.mpr (j5.mpr (l3 rfl (c9 rfl ?_))))))))⟩
  cases hf:Q7 pl s.1.line.length with
  | true =>
   refine bU.mpr (X2.mpr (i3 ?_))
   refine i6.mpr (sS (b7.mpr (aJ.mpr (v9.mpr (u9.mpr (N3.mpr (b7.mpr (j5.mpr (l3 rfl (e8.mpr (c9 rfl (c9 rfl ?_))))))))))))
   refine b7.mpr (yq.mpr (b7.mpr (aJ.mpr (u9.mpr (b7.mpr (aJ.mpr (u9.mpr (e8.mpr ⟨_,rfl,by omega,i3 ?_⟩))))))))
   refine wu.mpr (x4.mpr (v9.mpr (j5.mpr (l3 rfl (N3.mpr (b7.mpr (j5.mpr (l3 rfl (e8.mpr (c9 rfl (c9 rfl ⟨k8 rfl,AI rfl ⟨_,rfl,by unfold r6;rw[HH hf],_,_,_,by unfold r6;rw[HH hf];rfl⟩⟩)))))))))))
  | false =>
   refine iL.mpr (Bk (b7.mpr (xr.mpr (b7.mpr (aJ.mpr (n6.mpr (n8 rfl (b7.mpr (aJ.mpr (n6.mpr (n8 rfl (b7.mpr (aJ.mpr (u9.mpr (e8.mpr ⟨_,rfl,by omega,i3 ?_⟩)))))))))))))))
   refine i6.mpr (sS (b7.mpr (aJ.mpr (v9.mpr (u9.mpr (N3.mpr (b7.mpr (j5.mpr (l3 rfl (e8.mpr (c9 rfl (c9 rfl ?_))))))))))))
   refine b7.mpr (yq.mpr (b7.mpr (aJ.mpr (u9.mpr (b7.mpr (aJ.mpr (u9.mpr (e8.mpr ⟨_,rfl,by show s.1.book.length<=10000;omega,i3 ?_⟩))))))))
   refine wu.mpr (x4.mpr (v9.mpr (j5.mpr (l3 rfl (N3.mpr (b7.mpr (j5.mpr (l3 rfl (e8.mpr (c9 rfl (c9 rfl ⟨k8 rfl,AI rfl ⟨_,rfl,by unfold r6;rw[HM (show ¬Q7 pl s.1.line.length=true by rw[hf];simp)],_,_,_,by unfold r6;rw[HM (show ¬Q7 pl s.1.line.length=true by rw[hf];simp)];rfl⟩⟩)))))))))))
 .rintro E F ⟨rfl,o4,o5,o6,rfl⟩
  rw[IB,Hz,Kx]
  refine i3 (wu.mpr (U0.mpr (n6.mpr (n8 rfl (Dp ⟨rfl,rfl⟩)))))
end LM
namespace L3
open PySem PySem.Spec PyProof.Rows L2
variable [Fam]
def D6 (h k:Nat)(ps:List Pn)(i:Nat):Bool:=decide (i∈(order k true ps).take h)
theorem dc {h k:Nat}{kp:Bool}{ps:List Pn}{i:Nat}(hi:i<ps.length)(hb:kp=false->∀p∈ps,p.2.2=false):D6 h k ps i=decide (i∈i4 h k kp ps):=by
 have e:i4 h k kp ps=i4 h k true ps:=by
  cases kp with
  | true=>rfl
  | false=>exact(kQ (hb rfl)).symm
 rw[e]
 unfold D6 i4
 rw[JD,Iu,JE]
 exact⟨λz=>⟨Ir.mpr hi,z⟩,λz=>z.2⟩
theorem M0 {l:List Nat}{p q:Nat->Bool}(h:∀i∈l,p i=q i):l.filter p=l.filter q:=Lf h
theorem ji {h k:Nat}{kp tn:Bool}{line:List Per}(hb:kp=false->∀p∈line,p.b=false) :
  (List.filter (λi=>!gnP (D6 h k (pnL line)) line i && !(D6 h k (pnL line) i&&tn)) (List.range line.length)++List.filter (λi=>!gnP (D6 h k (pnL line)) line i&&(D6 h k (pnL line) i&&tn)) (List.range line.length))=w4 tn (i4 h k kp (pnL line)) (pnL line):=by
 have hb':kp=false->∀p∈pnL line,p.2.2=false:=λz p hp=>by
  obtain⟨q,hq,rfl⟩:=Il.mp hp
  exact hb z q hq
 have pk:∀i∈List.range line.length,D6 h k (pnL line) i=decide (i∈i4 h k kp (pnL line)):=λi hi=>dc (by rw[t8];exact Ir.mp hi) hb'
 have gn:∀i∈List.range line.length,gnP (D6 h k (pnL line)) line i=Q6 (i4 h k kp (pnL line)) (pnL line) i:=λi hi=>by
  unfold gnP Q6
  rw[pk i hi,bV (Ir.mp hi)];rfl
 unfold w4
 cases tn with
 | false =>
  rw[HM (by simp)]
  have e2:List.filter (λi=>!gnP (D6 h k (pnL line)) line i&&(D6 h k (pnL line) i&&false)) (List.range line.length)=[]:=by
   rw[List.filter_eq_nil_iff];intro i _;simp
  rw[e2,IE,t8]
  exact M0 λi hi=>by rw[gn i hi];simp
 | true =>
  rw[HH rfl]
  unfold U5 J1
  congr 1
  .rw[t8]
   refine M0 λi hi=>?_
   rw[gn i hi,pk i hi]
   unfold Q6
   cases decide (i∈i4 h k kp (pnL line)) <;> simp
  .have ep:i4 h k kp (pnL line)=(List.range line.length).filter λi=>decide (i∈i4 h k kp (pnL line)):=by
    conv=>lhs;unfold i4
    rw[t8]
    refine M0 λi hi=>?_
    unfold i4
    rw[JD,Iu,JE,t8]
    exact⟨λz=>⟨hi,z⟩,λz=>z.2⟩
   have e3:List.filter (λi=>!decide ((pAt (pnL line) i).2.1<=1)) (i4 h k kp (pnL line))=List.filter (λi=>!decide ((pAt (pnL line) i).2.1<=1)) ((List.range line.length).filter λi=>decide (i∈i4 h k kp (pnL line))):=by rw[<-ep]
   rw[e3,List.filter_filter]
   refine M0 λi hi=>?_
   rw[gn i hi,pk i hi]
   unfold Q6
   cases decide (i∈i4 h k kp (pnL line)) <;> simp
theorem xR {h k:Nat}{kp tn:Bool}{line:List Per}(hb:kp=false->∀p∈line,p.b=false) :
  pnL (U7 (D6 h k (pnL line)) kp tn line line.length++V0 (D6 h k (pnL line)) kp tn line line.length)=after h k kp tn (pnL line):=by
 have hb':kp=false->∀p∈pnL line,p.2.2=false:=λz p hp=>by
  obtain⟨q,hq,rfl⟩:=Il.mp hp
  exact hb z q hq
 have pk:∀i∈List.range line.length,D6 h k (pnL line) i=decide (i∈i4 h k kp (pnL line)):=λi hi=>dc (by rw[t8];exact Ir.mp hi) hb'
 have th:∀i∈List.range line.length,gf (thP (D6 h k (pnL line)) kp line i)=N8 (i4 h k kp (pnL line)) kp (pnL line) i:=λi hi=>by
  unfold thP N8 fe
  rw[pk i hi,bV (Ir.mp hi)]
  by_cases z:i∈i4 h k kp (pnL line)
  .simp[z,gf]
  .simp[z]
 unfold U7 V0 after
 rw[<-Ij]
 show List.map gf _=_
 rw[Ik]
 show List.map (gf ∘ thP (D6 h k (pnL line)) kp line) _=List.map (N8 (i4 h k kp (pnL line)) kp (pnL line)) (w4 tn (i4 h k kp (pnL line)) (pnL line))
 rw[ji hb]
 refine Iv λi hi=>th i ?_
 have:=(cB (tn:=tn) (P:=i4 h k kp (pnL line)) (ps:=pnL line) P1 D9).mem_iff.mp hi
 unfold w4 at this
 rw[HM (by simp),t8]at this
 exact(Iu.mp this).1
def O2 (h:Nat)(pl:Option Nat)(r:PyData)(μ:Mac)(bt:Bt):Mac:=eJ (D6 h (kOf r) (pnL (d9 pl bt (μ,0)).1.line)) (kb r) (tnB r) (d9 pl bt (μ,0)).1
def ah (kp:Bool)(line:List Per)(n:Nat):Prop:=∀p∈line,0<=p.n/\p.n<(n:Int)/\1<=p.l/\(kp=false->p.b=false)
theorem ah.num {kp:Bool}{line:List Per}{book:List Row}(h:ah kp line book.length):qA line book:=λi hi=>by
 have:j6 line i∈line:=by
  unfold j6
  simp[hi]
 obtain⟨a,b,c,_⟩:=h _ this
 exact⟨a,b,c⟩
theorem bZ {kp:Bool}{pl:Option Nat}:∀{bt:Bt} {s:Mac×Nat},ah kp s.1.line s.1.book.length->(∀c∈bt,1<=c.2)->ah kp (d9 pl bt s).1.line (d9 pl bt s).1.book.length
 | [],s,h,_=>h
 | c::bt,s,h,hc=>by
  refine bZ (bt:=bt) (s:=r6 pl s c) ?_ λx hx=>hc x (HA _ hx)
  unfold r6
  split
  .intro p hp
   obtain⟨a,b,c,d⟩:=h p hp
   exact⟨a,by simp;omega,c,d⟩
  .intro p hp
   rcases HC.mp hp with hp | hp
   .obtain⟨a,b,c,d⟩:=h p hp
    exact⟨a,by simp;omega,c,d⟩
   .simp at hp
    subst hp
    exact⟨by simp,by simp;omega,hc c HV,λ_=>rfl⟩
theorem qJ {line:List Per}{i:Nat}(h:i<line.length):j6 line i∈line:=by unfold j6;simp[h]
theorem yb {P:Nat->Bool}{kp tn:Bool}{μ:Mac}(h:ah kp μ.line μ.book.length):ah kp (eJ P kp tn μ).line (eJ P kp tn μ).book.length:=by
 unfold eJ
 dsimp only
 rw[M7]
 have key:∀i,i < μ.line.length->gnP P μ.line i=false->(0<=(thP P kp μ.line i).n/\(thP P kp μ.line i).n<(μ.book.length:Int)/\1<=(thP P kp μ.line i).l/\(kp=false->(thP P kp μ.line i).b=false)):=λi hi hg=>by
  obtain⟨a,b,c,d⟩:=h _ (qJ hi)
  unfold thP
  unfold gnP at hg
  cases hp:P i with
  | false=>rw[HM (by simp)];exact⟨a,b,c,d⟩
  | true =>
   rw[HH rfl]
   rw[hp]at hg
   have:¬(j6 μ.line i).l<=1:=by simpa using hg
   exact⟨a,b,by show 1<=(j6 μ.line i).l-1;omega,λz=>z⟩
 intro p hp
 rcases HC.mp hp with hp | hp
 .obtain⟨i,hi,rfl⟩:=Il.mp hp
  obtain⟨h1,h2⟩:=Iu.mp hi
  exact key i (Ir.mp h1) (by simp at h2;simpa using h2.1)
 .obtain⟨i,hi,rfl⟩:=Il.mp hp
  obtain⟨h1,h2⟩:=Iu.mp hi
  exact key i (Ir.mp h1) (by simp at h2;simpa using h2.1)
theorem pL {h:Nat}{pl:Option Nat}{r:PyData}{μ:Mac}{bt:Bt}(hk:ah (kb r) μ.line μ.book.length)(hc:∀c∈bt,1<=c.2):pnL (O2 h pl r μ bt).line=O1 h (kOf r) (kb r) (tnB r) pl (pnL μ.line) bt:=by
 have ok:=bZ (kp:=kb r) (pl:=pl) (s:=(μ,0)) hk hc
 unfold O2 eJ O1
 dsimp only
 rw[xR λz p hp=>(ok p hp).2.2.2 z,(fC (pl:=pl) (bt:=bt) (s:=(μ,0))).1]
theorem wD {h:Nat}{pl:Option Nat}{r:PyData}{μ:Mac}{bt:Bt}(hk:ah (kb r) μ.line μ.book.length)(hc:∀c∈bt,1<=c.2):ah (kb r) (O2 h pl r μ bt).line (O2 h pl r μ bt).book.length:=yb (bZ (s:=(μ,0)) hk hc)
theorem iP {h:Nat}{pl:Option Nat}{r:PyData}{μ:Mac}{bt:Bt}:(O2 h pl r μ bt).book.length = μ.book.length+bt.length/\(O2 h pl r μ bt).t = μ.t+1/\(O2 h pl r μ bt).h = μ.h/\(O2 h pl r μ bt).c = μ.c/\(O2 h pl r μ bt).u = μ.u:=by
 obtain⟨h1,h2,h3,h4,h5⟩:=T4 (pl:=pl) (bt:=bt) (s:=(μ,0))
 unfold O2 eJ
 dsimp only
 rw[M7]
 exact⟨h5,by rw[h4],h1,h2,h3⟩
end L3
namespace LM
open PySem PySem.Spec PyProof.Rows L2 L3
variable [Fam][LamC]
local instance regQ:Feeds:=E7
def ES:List PyData->Mac->Option (PyData×Mac):=kg ["_law_m","_law_comers","_law_lost","_law_some","_law_stay","_law_turned","_law_gone","_law_place","_law_person","_law_row"] (mSq (D7 2 (bC FO (c6 (mE (sV 1)) h9))) (mSq (D7 3 (bC EY h9)) pN))
def oP (h:Nat)(pl:Option Nat)(r:PyData)(μ:Mac)(bt:Bt):List Int:=df (D6 h (kOf r) (pnL (d9 pl bt (μ,0)).1.line)) (d9 pl bt (μ,0)).1.line (d9 pl bt (μ,0)).1.line.length
theorem HouseOk.come {μ:Mac}{h:Nat}{pl:Option Nat}{r:PyData}(H:HouseOk μ h pl r){bt:Bt}:HouseOk (d9 pl bt (μ,0)).1 h pl r:=by
 obtain⟨h1,h2,h3,h4,h5⟩:=T4 (pl:=pl) (bt:=bt) (s:=(μ,0))
 exact⟨h1.trans H.hh,(IK eV h2).trans H.hc,H.hr.trans (by rw[h3]),H.w8⟩
theorem HouseOk.beat {μ:Mac}{h:Nat}{pl:Option Nat}{r:PyData}(H:HouseOk μ h pl r){bt:Bt}:HouseOk (O2 h pl r μ bt) h pl r:=by
 obtain⟨_,_,h1,h2,h3⟩:=iP (h:=h) (pl:=pl) (r:=r) (μ:=μ) (bt:=bt)
 exact⟨h1.trans H.hh,(IK eV h2).trans H.hc,H.hr.trans (by rw[h3]),H.w8⟩
theorem yc {μ:Mac}{h:Nat}{pl:Option Nat}{r:PyData}{bt:Bt}(H:HouseOk μ h pl r)(hl:μ.line.length+bt.length<64)(hb:μ.book.length+bt.length<=5000)(hk:ah (kb r) μ.line μ.book.length)(hc:∀c∈bt,1<=c.2) :
  ES [.tuple (bt.map cmD)] μ=some (.tuple [.int (lS pl (pnL μ.line) bt:Nat),.list ((oP h pl r μ bt).map PyData.int)],O2 h pl r μ bt):=by
 refine jo λd=>?_
 have hlen:=Y6 pl bt (μ,0)
 have h2:((μ,0):Mac×Nat).1.line.length = μ.line.length:=rfl
 have H1:=H.come (bt:=bt)
 have ok:=bZ (kp:=kb r) (pl:=pl) (s:=(μ,0)) hk hc
 have hlost:(d9 pl bt (μ,0)).2=lS pl (pnL μ.line) bt:=by
  rw[(fC (pl:=pl) (bt:=bt) (s:=(μ,0))).2]
  unfold lS
  rw[t8];simp
 refine i6.mpr (x4.mpr (fU.mpr (b7.mpr (aJ.mpr (n6.mpr (n8 rfl (e8.mpr ?_)))))))
 rw[wt H (by omega) hb]
 refine a9.mpr ⟨k8 rfl,i3 ?_⟩
 refine i6.mpr (x4.mpr (fU.mpr (e8.mpr ?_)))
 rw[qM H1 (by omega)]
 refine a9.mpr ⟨k8 rfl,i3 ?_⟩
 show wp (pN [some (.adr d),some (.dat (.tuple (bt.map cmD))),some (.dat (.int ((d9 pl bt (μ,0)).2:Nat))),some (.dat (.list (g9 ((order (kOf r) true (pnL (d9 pl bt (μ,0)).1.line)).take h)))),none,none,none,none,none,none] (d9 pl bt (μ,0)).1) _
 unfold pN
 show wp (if (10:Nat)=10 then(kZ (.list (g9 ((order (kOf r) true (pnL (d9 pl bt (μ,0)).1.line)).take h))) (d9 pl bt (μ,0)).1).bind _ else none) _
 rw[HH rfl]
 have hkd:gz (d9 pl bt (μ,0)).1.u=some (kb r):=by
  unfold gz mJ
  rw[<-H1.hr]
  obtain⟨x,e,hx⟩:=K8 H1.w8
  rw[e,in4 hx];rfl
 have htn:decide ((d9 pl bt (μ,0)).1.u = "turns")=tnB r:=by rw[H1.hr];rfl
 have hin:∀i<(d9 pl bt (μ,0)).1.line.length,inB (.list (g9 ((order (kOf r) true (pnL (d9 pl bt (μ,0)).1.line)).take h))) i=some (D6 h (kOf r) (pnL (d9 pl bt (μ,0)).1.line) i):=λi hi=>by
  unfold inB
  rw[jG λj hj=>?_]
  .rfl
  .have:=Ir.mp ((p7 _ _ _).mem_iff.mp (Ka hj))
   rw[t8]at this;omega
 rw[xb (by omega) hkd ok.num hin,htn]
 refine a9.mpr ⟨rfl,?_⟩
 show some (PyData.tuple [.int ((d9 pl bt (μ,0)).2:Nat),_])=_
 rw[hlost];rfl
end LM
namespace L3
open PySem PySem.Spec PyProof.Rows L2
variable [Fam]
def E8 (h:Nat)(pl:Option Nat)(r:PyData)(μ:Mac)(way:List Bt)(i:Nat):Mac:=(way.take i).foldl (O2 h pl r) μ
theorem V1 {h:Nat}{pl:Option Nat}{r:PyData}{μ:Mac}{way:List Bt}:E8 h pl r μ way 0 = μ:=rfl
theorem L6 {h:Nat}{pl:Option Nat}{r:PyData}{μ:Mac}{way:List Bt}{i:Nat}(hi:i<way.length):E8 h pl r μ way (i+1)=O2 h pl r (E8 h pl r μ way i) (f8 way i):=by
 unfold E8 f8
 rw[List.take_succ,HD hi,Lg]
 simp[hi]
theorem cc {way:List Bt}(hw:∀b∈way,∀c∈b,1<=c.2){i:Nat}(hi:i<way.length):∀c∈f8 way i,1<=c.2:=by
 have:f8 way i∈way:=by unfold f8;simp[hi]
 exact hw _ this
theorem bW {h:Nat}{pl:Option Nat}{r:PyData}{μ:Mac}{way:List Bt}(hw:∀b∈way,∀c∈b,1<=c.2)(hk:ah (kb r) μ.line μ.book.length):∀{i:Nat},i<=way.length->ah (kb r) (E8 h pl r μ way i).line (E8 h pl r μ way i).book.length
 | 0,_=>hk
 | i+1,hi=>by
  rw[L6 (by omega)]
  exact wD (bW hw hk (by omega)) (cc hw (by omega))
theorem lV {h:Nat}{pl:Option Nat}{r:PyData}{μ:Mac}{way:List Bt}(hw:∀b∈way,∀c∈b,1<=c.2)(hk:ah (kb r) μ.line μ.book.length):∀{i:Nat},i<=way.length->pnL (E8 h pl r μ way i).line=aH (O1 h (kOf r) (kb r) (tnB r) pl) (pnL μ.line) way i
 | 0,_=>by rw[T7];rfl
 | i+1,hi=>by
  rw[L6 (by omega),pL (bW hw hk (by omega)) (cc hw (by omega)),lV hw hk (by omega),av (by omega)]
theorem gN {h:Nat}{pl:Option Nat}{r:PyData}{μ:Mac}{way:List Bt}:∀{i:Nat},i<=way.length->(E8 h pl r μ way i).book.length = μ.book.length+G4 (way.take i)/\(E8 h pl r μ way i).t = μ.t+i
 | 0,_=>by constructor <;> simp[E8,G4]
 | i+1,hi=>by
  obtain⟨h1,h2⟩:=gN (h:=h) (pl:=pl) (r:=r) (μ:=μ) (way:=way) (i:=i) (by omega)
  obtain⟨b1,b2,_⟩:=iP (h:=h) (pl:=pl) (r:=r) (μ:=E8 h pl r μ way i) (bt:=f8 way i)
  rw[L6 (by omega),b1,b2,h1,h2,P2 (by omega)]
  constructor
  .omega
  .push_cast;omega
end L3
namespace LM
open PySem PySem.Spec PyProof.Rows L2 L3
section
variable [Fam][LamC]
local instance regR:Feeds:=E7
theorem dY {h:Nat}{pl:Option Nat}{r:PyData}{μ:Mac}{way:List Bt}(H:HouseOk μ h pl r):∀{i:Nat},i<=way.length->HouseOk (E8 h pl r μ way i) h pl r
 | 0,_=>H
 | i+1,hi=>by rw[L6 (by omega)];exact(dY H (by omega)).beat
theorem wB {h:Nat}{pl:Option Nat}{r:PyData}{μ:Mac}{way:List Bt}{i:Nat}(H:HouseOk μ h pl r)(hw:∀b∈way,∀c∈b,1<=c.2)(hk:ah (kb r) μ.line μ.book.length)(hl:μ.line.length+G4 way<64)(hb:μ.book.length<=4000)(hi:i<way.length) :
  ES [btD (f8 way i)] (E8 h pl r μ way i)=some (.tuple [.int (lS pl (aH (O1 h (kOf r) (kb r) (tnB r) pl) (pnL μ.line) way i) (f8 way i):Nat),.list ((oP h pl r (E8 h pl r μ way i) (f8 way i)).map PyData.int)],E8 h pl r μ way (i+1)):=by
 have ep:=lV (h:=h) (pl:=pl) hw hk (Jm hi)
 have hfit:=mN (h:=h) (k:=kOf r) (kp:=kb r) (tn:=tnB r) (pl:=pl) (ps:=pnL μ.line) (way:=way) (by rw[t8];exact hl) (i:=i) hi
 have elen:(E8 h pl r μ way i).line.length=(aH (O1 h (kOf r) (kb r) (tnB r) pl) (pnL μ.line) way i).length:=by rw[<-ep,t8]
 obtain⟨hbk,_⟩:=gN (h:=h) (pl:=pl) (r:=r) (μ:=μ) (way:=way) (Jm hi)
 have hle:G4 (way.take i)+(f8 way i).length<=G4 way:=by
  rw[<-P2 hi];exact jU way (i+1)
 rw[L6 hi,<-ep]
 exact yc (dY H (Jm hi)) (by rw[elen];exact hfit) (by omega) (bW hw hk (Jm hi)) (cc hw hi)
theorem mR {α:Type}{f:α->PyData}(h:∀a,noL (f a)=true):∀(l:List α),nQ (l.map f)=true
 | []=>rfl
 | a::l=>by rw[HX,nQ,h a,mR h l];rfl
end
section
variable [Fam][LamC]
local instance regS:Feeds:=E7
def cI (pl:Option Nat):Option Int:=pl.map λv=>(v:Int)
theorem xX (pl:Option Nat):eV (cI pl)=plD pl:=by cases pl <;> rfl
theorem vj {h:Nat}{pl:Option Nat}{x:Str}:ar (.tuple [.int (h:Int),plD pl,.str x])=some ⟨(h:Int),cI pl,x,[],[],0⟩:=by cases pl <;> rfl
end
end LM
namespace L3
open PySem PySem.Spec PyProof.Rows L2
variable [Fam]
end L3
namespace LM
open PySem PySem.Spec PyProof.Rows L2 L3
variable [Fam][LamC]
local instance regT:Feeds:=E7
abbrev iw (h:Nat)(pl:Option Nat)(x:Str):Mac:=⟨(h:Int),cI pl,x,[],[],0⟩
theorem xu {h:Nat}{pl:Option Nat}{x:Str}{kp:Bool}:ah kp (iw h pl x).line (iw h pl x).book.length:=λp hp=>by cases hp
theorem nM {h:Nat}{pl:Option Nat}{x:Str}(hr:PyData.str x∈W8):HouseOk (iw h pl x) h pl (.str x):=⟨rfl,xX pl,rfl,hr⟩
theorem CU {h:Nat}{pl:Option Nat}{x:Str}{way:List Bt}{i:Nat}(hr:PyData.str x∈W8)(hw:∀b∈way,∀c∈b,1<=c.2)(hl:G4 way<64)(hi:i<way.length) :
  ES [btD (f8 way i)] (E8 h pl (.str x) (iw h pl x) way i)=some (.tuple [.int (lS pl (aH (O1 h (kOf (.str x)) (kb (.str x)) (tnB (.str x)) pl) [] way i) (f8 way i):Nat),.list ((oP h pl (.str x) (E8 h pl (.str x) (iw h pl x) way i) (f8 way i)).map PyData.int)],E8 h pl (.str x) (iw h pl x) way (i+1)) :=
 wB (μ:=iw h pl x) (nM hr) hw xu (by show 0+G4 way<64;omega) (by show 0<=4000;omega) hi
end LM
namespace L3
open PySem PySem.Spec PyProof.Rows L2
inductive Co where
 | inn (b w:Nat)
 | lost (b:Nat)
 | gone (b m w:Nat)
def coD:Co->PyData
 | .inn b w=>.tuple [.str "in",.int (b:Int),.int (w:Int)]
 | .lost b=>.tuple [.str "lost",.int (b:Int)]
 | .gone b m w=>.tuple [.str "gone",.int (b:Int),.int (m:Int),.int (w:Int)]
def aft (t:Nat)(waited gone:Bool):Co->Co
 | .inn b w=>if gone=true then .gone b (t+1) w else .inn b (w+if waited then 1 else 0)
 | c=>c
structure CS where
 told:List Co
 ins:List Nat
 st:List Pn
section
variable (h k:Nat)(kp tn:Bool)(pl:Option Nat)
def r9 (bt:Bt)(s:CS):List Nat:=s.ins++(List.range (i7 pl s.st.length bt.length)).map (s.told.length + ·)
def u4 (t:Nat)(bt:Bt)(s:CS):List Co:=s.told++(List.replicate (i7 pl s.st.length bt.length) (.inn t 0)++List.replicate (bt.length-i7 pl s.st.length bt.length) (.lost t))
def Q4 (bt:Bt)(s:CS):List Nat:=i4 h k kp (j3 pl s.st bt)
def lF (t:Nat)(bt:Bt)(s:CS)(n:Nat):Co:=aft t (!decide ((r9 pl bt s).idxOf n∈Q4 h k kp pl bt s)) (decide ((r9 pl bt s).idxOf n∈M5 (Q4 h k kp pl bt s) (j3 pl s.st bt))) ((u4 pl t bt s).getD n (.lost 0))
def N2 (t:Nat)(bt:Bt)(s:CS):CS where
 told:=(List.range (u4 pl t bt s).length).map λn=>if n∈r9 pl bt s then lF h k kp pl t bt s n else(u4 pl t bt s).getD n (.lost 0)
 ins:=(w4 tn (Q4 h k kp pl bt s) (j3 pl s.st bt)).map λi=>(r9 pl bt s).getD i 0
 st:=after h k kp tn (j3 pl s.st bt)
def V7 (way:List Bt):Nat->CS
 | 0=>⟨[],[],[]⟩
 | m+1=>N2 h k kp tn pl m (f8 way m) (V7 way m)
end
structure CsOk (s:CS):Prop where
 nd:s.ins.Nodup
 lt:∀n∈s.ins,n<s.told.length
 inn:∀n∈s.ins,∃b w,s.told.getD n (.lost 0) = .inn b w
 len:s.ins.length=s.st.length
section
variable {h k:Nat}{kp tn:Bool}{pl:Option Nat}{t:Nat}{bt:Bt}{s:CS}
theorem fg (pl:Option Nat)(n m:Nat):i7 pl n m<=m:=by unfold i7;split <;> omega
theorem aZ:(u4 pl t bt s).length=s.told.length+bt.length:=by
 unfold u4
 simp only[IA,Jj]
 have:=fg pl s.st.length bt.length
 omega
theorem dC (o:CsOk s):(r9 pl bt s).length=(j3 pl s.st bt).length:=by
 unfold r9
 rw[cj,IA,Hz,Ih,o.len]
theorem gb (o:CsOk s):(r9 pl bt s).Nodup:=by
 unfold r9
 rw[Jr]
 refine⟨o.nd,?_,λa ha b hb e=>?_⟩
 .rw[IP,Jw]
  exact(IP.mp (D4 _)).imp λhne z=>hne (by omega)
 .obtain⟨j,hj,rfl⟩:=Il.mp hb
  have:=o.lt a ha
  omega
theorem gp (o:CsOk s):∀n∈r9 pl bt s,n<(u4 pl t bt s).length:=λn hn=>by
 rw[aZ]
 rcases HC.mp hn with hn | hn
 .have:=o.lt n hn;omega
 .obtain⟨j,hj,rfl⟩:=Il.mp hn
  have:=Ir.mp hj
  have:=fg pl s.st.length bt.length
  omega
theorem dJ (o:CsOk s):∀n∈r9 pl bt s,∃b w,(u4 pl t bt s).getD n (.lost 0) = .inn b w:=λn hn=>by
 rcases HC.mp hn with hn | hn
 .obtain⟨b,w,e⟩:=o.inn n hn
  refine⟨b,w,?_⟩
  unfold u4
  rw[HJ,Ib (o.lt n hn),<-HJ]
  exact e
 .obtain⟨j,hj,rfl⟩:=Il.mp hn
  have hj:=Ir.mp hj
  refine⟨t,0,?_⟩
  unfold u4
  rw[HJ,Ig (by omega),Ib (by rw[Jj];omega),IJ,HH (by omega)]
  rfl
theorem gU {l:List Nat}(hn:l.Nodup){i:Nat}(hi:i<l.length):l.idxOf l[i]=i:=hn.idxOf_getElem i hi
theorem W6 {l:List Nat}{i:Nat}(hi:i<l.length):l.getD i 0=l[i]:=by rw[HJ,HD hi];rfl
theorem bE:∀i∈Q4 h k kp pl bt s,i<(j3 pl s.st bt).length:=P1
theorem qH (o:CsOk s):CsOk (N2 h k kp tn pl t bt s):=by
 have hnd:=gb (pl:=pl) (bt:=bt) o
 have hlen:=dC (pl:=pl) (bt:=bt) o
 have hst:∀i∈w4 tn (Q4 h k kp pl bt s) (j3 pl s.st bt),i<(r9 pl bt s).length/\Q6 (Q4 h k kp pl bt s) (j3 pl s.st bt) i=false:=λi hi=>by
  have:=ic (tn:=tn) bE D9 hi
  rw[hlen]
  exact this
 have key:∀i∈w4 tn (Q4 h k kp pl bt s) (j3 pl s.st bt),∃b w,(N2 h k kp tn pl t bt s).told.getD ((r9 pl bt s).getD i 0) (.lost 0) = .inn b w/\(r9 pl bt s).getD i 0<(N2 h k kp tn pl t bt s).told.length:=λi hi=>by
  obtain⟨h1,h2⟩:=hst i hi
  have hm:=Ky h1
  have hlt:=gp (pl:=pl) (t:=t) (bt:=bt) o _ hm
  obtain⟨b,w,e⟩:=dJ (pl:=pl) (t:=t) (bt:=bt) o _ hm
  rw[W6 h1]
  have hl2:(r9 pl bt s)[i]<(N2 h k kp tn pl t bt s).told.length:=by
   show _<(List.map _ (List.range _)).length
   rw[Hz,Ih]
   exact hlt
  have e2:(N2 h k kp tn pl t bt s).told.getD (r9 pl bt s)[i] (.lost 0)=lF h k kp pl t bt s (r9 pl bt s)[i]:=by
   show(List.map _ (List.range _)).getD _ _=_
   rw[HJ,HP,HD (by rw[Ih];exact hlt)]
   simp only[JV,Kl,Option.getD_some]
   rw[HH hm]
  have hg:¬i∈M5 (Q4 h k kp pl bt s) (j3 pl s.st bt):=λz=>by
   have z:=Iu.mp z
   unfold Q6 at h2
   rw[Je z.1,z.2]at h2
   cases h2
  rw[e2]
  unfold lF
  rw[e,gU hnd h1,IL hg]
  exact⟨b,_,rfl,hl2⟩
 have hsnd:(w4 tn (Q4 h k kp pl bt s) (j3 pl s.st bt)).Nodup:=by
  refine(cB (tn:=tn) bE D9).nodup_iff.mpr ?_
  unfold w4
  rw[HM (by simp)]
  exact(D4 _).sublist Jz
 refine⟨?_,λn hn=>?_,λn hn=>?_,?_⟩
 .show(List.map _ _).Nodup
  rw[IP,Jw]
  refine(IP.mp hsnd).imp_of_mem λ{a b} ha hb hne z=>hne ?_
  have h1:=(hst a ha).1
  have h2:=(hst b hb).1
  rw[W6 h1,W6 h2]at z
  rw[<-gU hnd h1,<-gU hnd h2,z]
 .obtain⟨i,hi,rfl⟩:=Il.mp hn
  obtain⟨b,w,_,h2⟩:=key i hi
  exact h2
 .obtain⟨i,hi,rfl⟩:=Il.mp hn
  obtain⟨b,w,h1,_⟩:=key i hi
  exact⟨b,w,h1⟩
 .show(List.map _ _).length=(after h k kp tn (j3 pl s.st bt)).length
  unfold after
  rw[Hz,Hz]
  rfl
theorem jV {way:List Bt}:∀m,CsOk (V7 h k kp tn pl way m)
 | 0=>⟨.nil,λn hn=>(by cases hn),λn hn=>(by cases hn),rfl⟩
 | m+1=>qH (jV m)
theorem pC {way:List Bt}:∀{m:Nat},m<=way.length->(V7 h k kp tn pl way m).st=aH (O1 h k kp tn pl) [] way m
 | 0,_=>by rw[T7];rfl
 | m+1,hm=>by
  rw[av (by omega),<-pC (m:=m) (by omega)]
  rfl
theorem ck {way:List Bt}:∀{m:Nat},m<=way.length->(V7 h k kp tn pl way m).told.length=G4 (way.take m)
 | 0,_=>rfl
 | m+1,hm=>by
  show(List.map _ (List.range _)).length=_
  rw[Hz,Ih,aZ,ck (m:=m) (by omega),P2 (by omega)]
end
end L3
namespace LM
open PySem PySem.Spec PyProof.Rows L2 L3
variable [Fam]
def rowOf:Co->L3.Row
 | .inn b w=>⟨"in",(b:Int),none,(w:Int)⟩
 | .lost b=>⟨"lost",(b:Int),none,0⟩
 | .gone b m w=>⟨"gone",(b:Int),some (m:Int),(w:Int)⟩
def nsL (line:List Per):List Int:=line.map (·.n)
def ip (l:List Nat):List Int:=l.map λ(n:Nat)=>(n:Int)
structure CsM (s:CS) (μ:Mac) (t:Nat):Prop where
 n:nsL μ.line=ip s.ins
 p:pnL μ.line=s.st
 b:μ.book=s.told.map rowOf
 t:μ.t=(t:Int)
theorem we {pl:Option Nat}{n m:Nat}(h:Q7 pl n=false):i7 pl n (m+1)=i7 pl (n+1) m+1:=by
 unfold Q7 at h
 unfold i7
 split
 .rename_i v
  have:¬v<=n:=IW h
  omega
 .rfl
theorem mW {pl:Option Nat}{n m:Nat}(h:Q7 pl n=true):i7 pl n m=0:=by
 unfold Q7 at h
 unfold i7
 split
 .rename_i v
  have:v<=n:=Iw h
  omega
 .cases h
theorem pG {pl:Option Nat}:∀{bt:Bt} {s:Mac×Nat},
  nsL (d9 pl bt s).1.line=nsL s.1.line++(List.range (i7 pl s.1.line.length bt.length)).map (λ(j:Nat)=>((s.1.book.length+j:Nat):Int)) /\
  (d9 pl bt s).1.book=s.1.book++(List.replicate (i7 pl s.1.line.length bt.length) ⟨"in",s.1.t,none,0⟩++List.replicate (bt.length-i7 pl s.1.line.length bt.length) ⟨"lost",s.1.t,none,0⟩)
 | [],s=>by
  have:i7 pl s.1.line.length 0=0:=by have:=fg pl s.1.line.length 0;omega
  constructor
  .show nsL s.1.line=nsL s.1.line++(List.range (i7 pl s.1.line.length 0)).map _
   rw[this];simp
  .show s.1.book=s.1.book++(List.replicate (i7 pl s.1.line.length 0) _++List.replicate (0-i7 pl s.1.line.length 0) _)
   rw[this];simp
 | c::bt,s=>by
  obtain⟨h1,h2⟩:=pG (pl:=pl) (bt:=bt) (s:=r6 pl s c)
  have e:d9 pl (c::bt) s=d9 pl bt (r6 pl s c):=rfl
  rw[e,h1,h2]
  unfold r6
  cases hf:Q7 pl s.1.line.length with
  | true =>
   rw[HH rfl,HZ,mW hf,mW hf]
   refine⟨by simp,?_⟩
   simp only[List.replicate_zero,Jh,Md,Lc]
   rw[IZ];rfl
  | false =>
   rw[HM (by simp),HZ,we hf]
   simp only[IA,HZ,JG,IB]
   constructor
   .unfold nsL
    rw[Ij,Lc,Ko]
    congr 1
    rw[HX,HX,Jb,List.singleton_append,Ik]
    congr 1
    refine Iv λj _=>?_
    show((_:Nat):Int)=((_:Nat):Int)
    simp only[KA]
    omega
   .rw[Lc]
    congr 1
    rw[IZ,Nat.add_sub_add_right]
    rfl
theorem kY {l:List Nat}{line:List Per}(h:nsL line=ip l){i:Nat}(hi:i<line.length):(j6 line i).n=((l.getD i 0:Nat):Int)/\i<l.length:=by
 have hl:l.length=line.length:=by
  have:=IK List.length h
  unfold nsL ip at this
  rw[Hz,Hz]at this
  exact this.symm
 have e:(nsL line)[i]? = (ip l)[i]?:=by rw[h]
 unfold nsL ip at e
 rw[HP,HP,HD hi,HD (by omega)]at e
 unfold j6
 rw[HJ,HJ,HD hi,HD (by omega)]
 exact⟨HN e,by omega⟩
theorem nq {P:Nat->Bool}{t:Int}{line:List Per}{book:List L3.Row}{l:List Nat}(hn:nsL line=ip l)(nd:l.Nodup)(hlt:∀n∈l,n<book.length):∀{k:Nat},k<=line.length->∀{j:Nat},j<book.length ->
  C8 (J3 P t line book k) j=if j∈l/\l.idxOf j<k then fO P t line (l.idxOf j) (C8 book j) else C8 book j
 | 0,_,j,_=>by rw[HM (by omega)];rfl
 | k+1,hk,j,hj=>by
  obtain⟨e,hkl⟩:=kY hn (show k<line.length by omega)
  have hm:l.getD k 0∈l:=by rw[W6 hkl];exact Ky hkl
  have hidx:l.idxOf (l.getD k 0)=k:=by rw[W6 hkl];exact gU nd hkl
  rw[dQ]
  unfold lH
  rw[e,Jq]
  by_cases hjk:l.getD k 0=j
  .subst hjk
   have hlen:l.getD k 0<(J3 P t line book k).length:=by rw[M7];exact hlt _ hm
   rw[HH ⟨hm,by omega⟩,hidx]
   have:C8 (J3 P t line book k) (l.getD k 0)=C8 book (l.getD k 0):=by
    rw[nq hn nd hlt (k:=k) (by omega) (hlt _ hm),HM (by omega)]
   rw[this]
   unfold C8
   rw[HJ,HR hlen]
   rfl
  .have e2:C8 ((J3 P t line book k).set (l.getD k 0) (fO P t line k (C8 (J3 P t line book k) (l.getD k 0)))) j=C8 (J3 P t line book k) j:=by
    unfold C8
    rw[HJ,HL hjk,<-HJ]
   rw[e2,nq hn nd hlt (k:=k) (by omega) hj]
   by_cases hm2:j∈l
   .have hne:l.idxOf j≠k:=λz=>hjk (by
     have:=aG hm2
     rw[z,HD hkl]at this
     rw[W6 hkl];exact HN this)
    by_cases hlt2:l.idxOf j<k
    .rw[HH ⟨hm2,hlt2⟩,HH ⟨hm2,by omega⟩]
    .rw[HM (λz=>hlt2 z.2),HM (λz=>by have:=z.2;omega)]
   .rw[HM (λz=>hm2 z.1),HM (λz=>hm2 z.1)]
theorem sr {l:List Co}{j:Nat}(h:j<l.length):C8 (l.map rowOf) j=rowOf (l.getD j (.lost 0)):=by
 unfold C8
 rw[HJ,HP,HJ,HD h]
 rfl
theorem tY {P:Nat->Bool}{t:Nat}{line:List Per}{i b w:Nat}:fO P ((t:Int)+1) line i (rowOf (.inn b w))=rowOf (aft t (!P i) (gnP P line i) (.inn b w)):=by
 unfold fO row1
 cases hg:gnP P line i with
 | true =>
  have:P i=true:=by unfold gnP at hg;simp at hg;exact hg.1
  rw[HH rfl,this,HH rfl];rfl
 | false =>
  rw[HM (by decide)]
  cases P i with
  | true=>rfl
  | false=>rfl
theorem xS {s:CS}{μ:Mac}{t:Nat}{pl:Option Nat}{bt:Bt}(M:CsM s μ t):nsL (d9 pl bt (μ,0)).1.line=ip (r9 pl bt s)/\pnL (d9 pl bt (μ,0)).1.line=j3 pl s.st bt/\(d9 pl bt (μ,0)).1.book=(u4 pl t bt s).map rowOf/\(d9 pl bt (μ,0)).1.t=(t:Int):=by
 obtain⟨h1,h2⟩:=pG (pl:=pl) (bt:=bt) (s:=(μ,0))
 have h3:=(fC (pl:=pl) (bt:=bt) (s:=(μ,0))).1
 have h4:=(T4 (pl:=pl) (bt:=bt) (s:=(μ,0))).2.2.2.1
 have el:μ.line.length=s.st.length:=by rw[<-M.p,t8]
 have eb:μ.book.length=s.told.length:=by rw[M.b,Hz]
 refine⟨?_,by rw[h3];show j3 pl (pnL μ.line) bt=_;rw[M.p],?_,by rw[h4];exact M.t⟩
 .rw[h1]
  show nsL μ.line++List.map _ (List.range (i7 pl μ.line.length bt.length))=_
  unfold r9 ip
  rw[M.n,Ij,Ik,el]
  congr 1
  refine Iv λj _=>?_
  show((μ.book.length+j:Nat):Int)=((s.told.length+j:Nat):Int)
  rw[eb]
 .rw[h2]
  show μ.book++(List.replicate (i7 pl μ.line.length bt.length) _++List.replicate (bt.length-i7 pl μ.line.length bt.length) _)=_
  unfold u4
  rw[Ij,Ij,KP,KP,M.b,el]
  show _++(List.replicate _ (⟨"in",μ.t,none,0⟩:L3.Row)++List.replicate _ ⟨"lost",μ.t,none,0⟩)=_
  rw[M.t]
  rfl
theorem xD {s:CS}{μ:Mac}{t h:Nat}{pl:Option Nat}{r:PyData}{bt:Bt}(M:CsM s μ t)(o:CsOk s)(hk:ah (kb r) μ.line μ.book.length)(hc:∀c∈bt,1<=c.2):CsM (N2 h (kOf r) (kb r) (tnB r) pl t bt s) (O2 h pl r μ bt) (t+1):=by
 obtain⟨h1,h2,h3,h4⟩:=xS (pl:=pl) (bt:=bt) M
 have hk2:=bZ (pl:=pl) (bt:=bt) (s:=(μ,0)) hk hc
 have hpn:=pL (h:=h) (pl:=pl) (r:=r) (bt:=bt) hk hc
 have nd:=gb (pl:=pl) (bt:=bt) o
 have hlt:=gp (pl:=pl) (t:=t) (bt:=bt) o
 have hinn:=dJ (pl:=pl) (t:=t) (bt:=bt) o
 have hlen:=dC (pl:=pl) (bt:=bt) o
 have hb:kb r=false->∀p∈(d9 pl bt (μ,0)).1.line,p.b=false:=λz p hp=>(hk2 p hp).2.2.2 z
 have hb':kb r=false->∀p∈pnL (d9 pl bt (μ,0)).1.line,p.2.2=false:=λz p hp=>by
  obtain⟨q,hq,rfl⟩:=Il.mp hp
  exact hb z q hq
 have hst:=ji (h:=h) (k:=kOf r) (tn:=tnB r) hb
 have pk:∀i,i<(d9 pl bt (μ,0)).1.line.length->D6 h (kOf r) (pnL (d9 pl bt (μ,0)).1.line) i=decide (i∈i4 h (kOf r) (kb r) (pnL (d9 pl bt (μ,0)).1.line)):=λi hi=>dc (by rw[t8];exact hi) hb'
 unfold O2 eJ at hpn ⊢
 generalize (d9 pl bt (μ,0)).1 = ν at h1 h2 h3 h4 hk2 hpn hb hb' hst pk ⊢
 have hll:ν.line.length=(j3 pl s.st bt).length:=by rw[<-h2,t8]
 have hbl:ν.book.length=(u4 pl t bt s).length:=by rw[h3,Hz]
 refine⟨?_,?_,?_,?_⟩
 .show nsL (U7 _ _ _ _ _++V0 _ _ _ _ _)=ip (List.map _ _)
  unfold U7 V0 nsL ip
  rw[<-Ij,hst,Ik,Ik,h2]
  show List.map _ (w4 (tnB r) (i4 h (kOf r) (kb r) (j3 pl s.st bt)) (j3 pl s.st bt))=_
  refine Iv λi hi=>?_
  have hi2:=(ic (tn:=tnB r) (bE (h:=h) (k:=kOf r) (kp:=kb r) (pl:=pl) (bt:=bt) (s:=s)) D9 hi).1
  obtain⟨e,_⟩:=kY h1 (show i < ν.line.length by omega)
  show(thP _ _ _ i).n=_
  have:(thP (D6 h (kOf r) (pnL ν.line)) (kb r) ν.line i).n=(j6 ν.line i).n:=by unfold thP;split <;> rfl
  rw[<-h2,this,e]
  rfl
 .rw[hpn,M.p];rfl
 .show J3 _ _ _ _ _=List.map rowOf (List.map _ (List.range (u4 pl t bt s).length))
  rw[Ik]
  refine Ld λj=>?_
  by_cases hj:j < ν.book.length
  .have e1:(J3 (D6 h (kOf r) (pnL ν.line)) (ν.t+1) ν.line ν.book ν.line.length)[j]? = some (C8 (J3 (D6 h (kOf r) (pnL ν.line)) (ν.t+1) ν.line ν.book ν.line.length) j):=by
    unfold C8
    rw[HJ,HD (by rw[M7];exact hj)];rfl
   rw[e1,HP,Kf (by omega)]
   show _=some (rowOf (if j∈r9 pl bt s then lF h (kOf r) (kb r) pl t bt s j else(u4 pl t bt s).getD j (.lost 0)))
   rw[nq h1 nd (λn hn=>by rw[hbl];exact hlt n hn) (HK _) hj,h4,h3,sr (by omega)]
   congr 1
   by_cases hm:j∈r9 pl bt s
   .have hi:(r9 pl bt s).idxOf j < ν.line.length:=by
     have:=List.idxOf_lt_length_of_mem hm
     omega
    rw[HH ⟨hm,hi⟩,HH hm]
    obtain⟨b,w,e⟩:=hinn j hm
    rw[e,tY]
    unfold lF
    rw[e]
    have hp2:=pk _ hi
    rw[h2]at hp2
    have e3:gnP (D6 h (kOf r) (pnL ν.line)) ν.line ((r9 pl bt s).idxOf j)=decide ((r9 pl bt s).idxOf j∈M5 (Q4 h (kOf r) (kb r) pl bt s) (j3 pl s.st bt)):=by
     unfold gnP M5 Q4
     rw[h2,hp2,show(j6 ν.line ((r9 pl bt s).idxOf j)).l=(pAt (j3 pl s.st bt) ((r9 pl bt s).idxOf j)).2.1 from by rw[<-h2,bV hi];rfl]
     rw[JW]
     simp[Iu]
    rw[e3,h2,hp2]
    rfl
   .rw[HM (λz=>hm z.1),HM hm]
  .rw[Jk (by rw[M7];omega),Jk (by rw[Hz,Ih];omega)]
 .show ν.t+1=((t+1:Nat):Int)
  rw[h4];omega
theorem kJ {h:Nat}{pl:Option Nat}{r:PyData}{μ:Mac}{way:List Bt}(hw:∀b∈way,∀c∈b,1<=c.2)(hl:μ.line=[])(hb:μ.book=[])(ht:μ.t=0):∀{i:Nat},i<=way.length->CsM (V7 h (kOf r) (kb r) (tnB r) pl way i) (E8 h pl r μ way i) i
 | 0,_=>⟨by rw[V1,hl];rfl,by rw[V1,hl];rfl,by rw[V1,hb];rfl,by rw[V1,ht];rfl⟩
 | i+1,hi=>by
  have hk:ah (kb r) μ.line μ.book.length:=by rw[hl];exact λp hp=>by cases hp
  rw[L6 (by omega)]
  exact xD (kJ hw hl hb ht (by omega)) (jV i) (bW hw hk (by omega)) (cc hw (by omega))
end LM
namespace L3
open PySem PySem.Spec PyProof.Rows L2
section
variable [Fam]
def t9:List DV->M PyData:=X5 ["_law_row","_law_word","_law_beat_here","_law_moment","_law_waits"] (mSq (bu (AM 4 (i8 (bN 1) (i8 (bN 2) (i8 (bN 3) (i8 (bN 4) M1))))) (sV 0))
  (mSq (mIf (uB (s2 (eqD false) (sW 1) (sC (.str "lost")))) (mRt (O9 (c6 (sC (.str "lost")) (c6 (sV 2) h9)))) mNx)
  (mSq (mIf (uB (s2 (eqD false) (sW 1) (sC (.str "in")))) (mRt (O9 (c6 (sC (.str "in")) (c6 (sV 2) (c6 (sV 4) h9))))) mNx)
  (mRt (O9 (c6 (sC (.str "gone")) (c6 (sV 2) (c6 (sV 3) (c6 (sV 4) h9)))))))))
end
section
variable [Fam]
theorem ua {c:Co}{F:FdS}{Q:PyData->FdS->Prop}(q:Q (coD c) F):wp (t9 [.dat (aI (LM.rowOf c))] F) Q:=by
 unfold t9
 cases c with
 | lost b =>
  refine cq.mpr (i6.mpr (P7.mpr (n6.mpr (n8 rfl (c9 rfl (i3 ?_))))))
  refine i6.mpr (K4.mpr (W1.mpr (v9.mpr (j5.mpr (l3 rfl (u9.mpr ?_))))))
  exact c9 rfl (c9 rfl (N6 rfl (U0.mpr (K6.mpr (b7.mpr (u9.mpr (b7.mpr (n6.mpr (n8 rfl (e8.mpr ⟨x8 rfl,kT (X9 q)⟩)))))))))) 
 | inn b w =>
  refine cq.mpr (i6.mpr (P7.mpr (n6.mpr (n8 rfl (c9 rfl (i3 ?_))))))
  refine i6.mpr (K4.mpr (W1.mpr (v9.mpr (j5.mpr (l3 rfl (u9.mpr ?_))))))
  refine c9 rfl (c9 rfl (n5 rfl (X2.mpr (i3 (i6.mpr (K4.mpr (W1.mpr (v9.mpr (j5.mpr (l3 rfl (u9.mpr (c9 rfl (c9 rfl (N6 rfl ?_)))))))))))))) 
  exact U0.mpr (K6.mpr (b7.mpr (u9.mpr (b7.mpr (n6.mpr (n8 rfl (b7.mpr (n6.mpr (n8 rfl (e8.mpr ⟨x8 rfl,kT (X9 q)⟩))))))))))
 | gone b m w =>
  refine cq.mpr (i6.mpr (P7.mpr (n6.mpr (n8 rfl (c9 rfl (i3 ?_))))))
  refine i6.mpr (K4.mpr (W1.mpr (v9.mpr (j5.mpr (l3 rfl (u9.mpr ?_))))))
  refine c9 rfl (c9 rfl (n5 rfl (X2.mpr (i3 (i6.mpr (K4.mpr (W1.mpr (v9.mpr (j5.mpr (l3 rfl (u9.mpr (c9 rfl (c9 rfl (n5 rfl (X2.mpr (i3 ?_)))))))))))))))) 
  exact U0.mpr (K6.mpr (b7.mpr (u9.mpr (b7.mpr (n6.mpr (n8 rfl (b7.mpr (n6.mpr (n8 rfl (b7.mpr (n6.mpr (n8 rfl (e8.mpr ⟨x8 rfl,X9 q⟩)))))))))))))
theorem vn {c:Co}:t9 [.dat (aI (LM.rowOf c))] (X3 [])=some (coD c,X3 []):=by
 obtain⟨d,F,e,rfl,rfl⟩:∃d F,t9 [.dat (aI (LM.rowOf c))] (X3 [])=some (d,F)/\d=coD c/\F=X3 []:=by
  have:wp (t9 [.dat (aI (LM.rowOf c))] (X3 [])) λd F=>d=coD c/\F=X3 []:=ua ⟨rfl,rfl⟩
  obtain⟨d,F,e,h⟩:=this
  exact⟨d,F,e,h⟩
 exact e
end
end L3
namespace LM
open PySem PySem.Spec PyProof.Rows L2 L3
variable [Fam][LamC]
local instance regV:Feeds:=E7
def FP:List DV->@M fdI PyData:=qC ["_law_house_here","_law_way_here","_law_m","_law_beat_here"] 2 0 ar (pSq (jd (X4 (sV 1)) (bN 3) (mDo (bC ES (c6 (mE (sV 3)) h9))))
  (mRt (kL true 1 (bN 0) cw (p0 (reF t9) (vD (sV 0) D8)))))
theorem zl {a b:DE->M Out}{E:DE}{μ:Mac}{Q:Out->Mac->Prop}(h:wp (a E μ) λo μ1=>∃E1,o = .nx E1/\wp (b E1 μ1) Q):wp (pSq a b E μ) Q:=by
 unfold pSq
 rw[b9]
 refine g7 h λo μ1 ⟨E1,e,q⟩=>?_
 subst e;exact q
theorem yo {μ:Mac}:∀(l:List Co) (o:Option DV),U6 (bN 0) cw (p0 (reF t9) (vD (sV 0) D8)) ((l.map rowOf).map aI) [o] μ=some (l.map coD,μ)
 | [],o=>rfl
 | c::l,o=>by
  rw[HX,HX,U6]
  have e:bN 0 (aI (rowOf c)) [o]=some [some (.dat (aI (rowOf c)))]:=rfl
  have e2:cw [some (DV.dat (aI (rowOf c)))] μ=some (true,μ):=rfl
  have e3:p0 (reF t9) (vD (sV 0) D8) [some (DV.dat (aI (rowOf c)))] μ=some (coD c,μ):=by
   show(t9 [.dat (aI (rowOf c))] (X3 [])).bind (λp=>some (p.1,μ))=_
   rw[vn];rfl
  rw[e,HY,e2,HY]
  dsimp only
  rw[HH rfl,e3,HY,yo l]
  rfl
theorem Bj (c:Co):noL (coD c)=true:=by cases c <;> rfl
theorem cs20_w {r:PyData}{pl:Option Nat}{h:Nat}{way:List Bt}{F:FdS}{Q:PyData->FdS->Prop}(hr:r∈W8)(hw:∀b∈way,∀c∈b,1<=c.2)(hl:G4 way<64)
  (q:Q (.list ((V7 h (kOf r) (kb r) (tnB r) pl way way.length).told.map coD)) F) :
  wp (FP [.dat (.tuple [.int (h:Int),plD pl,r]),.dat (.tuple (way.map btD))] F) Q:=by
 obtain⟨x,rfl,_⟩:=K8 hr
 unfold FP
 refine AK (ds:=[.tuple [.int (h:Int),plD pl,.str x],.tuple (way.map btD)]) rfl vj (λd=>?_) q
 refine zl (pV.mpr (Z7.mpr (n6.mpr (n8 rfl (c9 rfl ?_)))))
 refine E3 (λm E F=>m<=way.length/\F=E8 h pl (.str x) (iw h pl x) way m/\∃o3,E=[some (.dat (.tuple [.int (h:Int),plD pl,.str x])),some (.dat (.tuple (way.map btD))),some (.adr d),o3]) _ 0 _ _ ⟨IG _,rfl,none,rfl⟩ ?_ ?_
 .rintro m dd e E F1 ⟨_,rfl,o3,rfl⟩
  rw[IB]
  obtain⟨hm,rfl⟩:=AW e
  refine⟨_,rfl,?_⟩
  refine Bu.mpr (fU.mpr (b7.mpr (aJ.mpr (n6.mpr (n8 rfl (e8.mpr ?_))))))
  rw[CU hr hw hl hm]
  exact a9.mpr ⟨_,rfl,hm,rfl,_,rfl⟩
 .rintro E F1 ⟨_,rfl,o3,rfl⟩
  rw[IB,Hz]
  have M:=kJ (h:=h) (pl:=pl) (r:=.str x) (μ:=iw h pl x) hw rfl rfl rfl (HK way.length)
  have hlen:=ck (h:=h) (k:=kOf (.str x)) (kp:=kb (.str x)) (tn:=tnB (.str x)) (pl:=pl) (way:=way) (HK way.length)
  rw[Kx]at hlen
  generalize V7 h (kOf (.str x)) (kb (.str x)) (tnB (.str x)) pl way way.length=s at M hlen
  generalize E8 h pl (.str x) (iw h pl x) way way.length = μ at M
  refine⟨_,rfl,U0.mpr ?_⟩
  have z:(1000:Nat)<=sizeLine:=by rw[Io];decide
  have e1:ao true μ=(s.told.map rowOf).map aI:=by unfold ao;rw[HH rfl,M.b]
  have e2:(ao true μ).length<=sizeLine:=by rw[e1,Hz,Hz];omega
  have e3:∀E:DE,kL true 1 (bN 0) cw (p0 (reF t9) (vD (sV 0) D8)) E μ=some (.list (s.told.map coD),μ):=λE=>by
   unfold kL wc
   rw[HH e2,e1]
   show((U6 (bN 0) cw (p0 (reF t9) (vD (sV 0) D8)) ((s.told.map rowOf).map aI) [none] μ).bind _).bind _=_
   rw[yo,HY]
   dsimp only
   rw[HH (mR Bj _)]
   rfl
  rw[e3]
  exact a9.mpr rfl
end LM
namespace L3
open PySem PySem.Spec PyProof.Rows L2
section
variable [Fam]
theorem BG {l:List Co}{n:Nat}(h:n<l.length):ixD (.list (l.map coD)) (.int (n:Int))=some (coD (l.getD n (.lost 0))):=by
 show atI (l.map coD) (n:Int)=_
 refine W3 ?_
 rw[HP,HD h,HJ,HD h]
 rfl
section
variable {F:FdS}{Q:PyData->FdS->Prop}
end
variable [Fam]
theorem tL {a b:DE->M Out}{c:DE->M (List PyData)}:gSq a (gSq b c)=gSq (mSq a b) c:=by
 funext E F
 unfold gSq mSq
 rw[Option.bind_assoc]
 cases a E F with
 | none=>rfl
 | some p =>
  obtain⟨o,F1⟩:=p
  cases o <;> rfl
theorem zZ {a b c:DE->M Out}:mSq a (mSq b c)=mSq (mSq a b) c:=by
 funext E F
 unfold mSq
 rw[Option.bind_assoc]
 cases a E F with
 | none=>rfl
 | some p =>
  obtain⟨o,F1⟩:=p
  cases o <;> rfl
theorem zM {a:DE->M Out}{b:DE->M (List PyData)}{E:DE}{F:FdS}{Q:List PyData->FdS->Prop}(h:wp (a E F) λo F1=>∃E1,o = .nx E1/\wp (b E1 F1) Q):wp (gSq a b E F) Q:=by
 unfold gSq
 rw[b9]
 refine g7 h λo F1 ⟨E1,e,q⟩=>?_
 subst e
 exact q
section
variable {F:FdS}
end
variable [Fam]
abbrev Aw:DE->M Out:=(mSq (dA 2 (dm h9))
  (mSq (gw 3 4 (cD (sC (.tuple []))) (cO (dm h9)))
  (bo (cR (sV 1)) (M3 2 (i8 (bN 5) (i8 (bN 6) M1))) (mSq (bu (M3 2 (i8 (bN 7) (i8 (bN 8) M1))) (p0 Y9 (vD (sV 0) (vD (sV 3) (vD (sV 6) D8)))))
  (mSq (D7 9 (s2 lN (sN W0 (c6 (sW 6) h9)) (sW 8)))
  (mSq (lg 4 (gO (c6 (sN W0 (c6 (sW 2) h9)) (c6 (s2 U1 (sN W0 (c6 (sW 2) h9)) (sW 9)) h9))))
  (mSq (lg 2 (s2 U1 (s2 gA (oz (c6 (O9 (c6 (sC (.str "in")) (c6 (sV 5) (c6 (sC (.int 0)) h9)))) h9)) (sW 9)) (s2 gA (oz (c6 (O9 (c6 (sC (.str "lost")) (c6 (sV 5) h9))) h9)) (sW 8))))
  (mSq (bu (M3 3 (i8 (bN 10) (i8 (bN 11) (i8 (bN 12) M1)))) (p0 af (vD (sV 0) (vD (sV 7) D8))))
  (mSq (sg 4 (bo (cR (sV 4)) (M3 2 (i8 (bN 13) (i8 (bN 14) M1))) (vJ 2 (p0 C2 (vD (s2 ixD (sW 2) (sW 14)) (vD (s2 (inD true) (sW 13) (sW 11)) (vD (sIf (uB (s2 (inD false) (sW 13) (sW 12))) (s2 U1 (sW 5) (sC (.int 1))) (sC .none)) D8)))) (sV 14))))
  (mSq (dA 4 (fLC (X4 (sW 10)) 2 [4] (M3 2 (i8 (bN 0) (i8 (bN 1) M1))) cw (s2 ixD (sW 2) (sW 0))))
  (D7 3 (sN K7 (c6 (sLC (X4 (sW 10)) 2 [] (M3 2 (i8 (bN 0) (i8 (bN 1) M1))) cw (sV 1)) h9)))))))))))))
section
variable {F:FdS}
theorem oS {r:PyData}{pl:Option Nat}{h:Nat}{way:List Bt}(hr:r∈W8)(hp:∀i<way.length,qp pl (aH (O1 h (kOf r) (kb r) (tnB r) pl) [] way i).length)(hl:G4 way<64)(hn:way.length<=1000)
{Q:Out->FdS->Prop}
  (q:∀o3 o4 o5 o6 o7 o8 o9 o10 o11 o12 o13 o14,Q (.nx [some (.dat (.tuple [.int (h:Int),plD pl,r])),some (.dat (.tuple (way.map btD))),some (.own ((V7 h (kOf r) (kb r) (tnB r) pl way way.length).told.map coD)),o3,o4,o5,o6,o7,o8,o9,o10,o11,o12,o13,o14]) F) :
  wp (Aw [some (.dat (.tuple [.int (h:Int),plD pl,r])),some (.dat (.tuple (way.map btD))),none,none,none,none,none,none,none,none,none,none,none,none,none] F) Q:=by
 have hfit:=λi hi=>mN (h:=h) (k:=kOf r) (kp:=kb r) (tn:=tnB r) (pl:=pl) (ps:=[]) (way:=way) (by simpa using hl) (i:=i) hi
 have hok:=λm=>jV (h:=h) (k:=kOf r) (kp:=kb r) (tn:=tnB r) (pl:=pl) (way:=way) m
 have hst:=λm hm=>pC (h:=h) (k:=kOf r) (kp:=kb r) (tn:=tnB r) (pl:=pl) (way:=way) (m:=m) hm
 have hln:=λm hm=>ck (h:=h) (k:=kOf r) (kp:=kb r) (tn:=tnB r) (pl:=pl) (way:=way) (m:=m) hm
 have hsc:∀m,V7 h (kOf r) (kb r) (tnB r) pl way (m+1)=N2 h (kOf r) (kb r) (tnB r) pl m (f8 way m) (V7 h (kOf r) (kb r) (tnB r) pl way m):=λm=>rfl
 generalize V7 h (kOf r) (kb r) (tnB r) pl way=cs at q hok hst hln hsc
 have h0:cs 0=⟨[],[],[]⟩:=by
  have a1:=hst 0 (IG _)
  have a2:=hln 0 (IG _)
  have a3:=(hok 0).len
  rw[T7]at a1
  generalize cs 0=s at a1 a2 a3
  obtain⟨x,y,z⟩:=s
  simp only at a1 a2 a3
  subst a1
  have b1:x=[]:=Jt.mp (by rw[a2];rfl)
  have b2:y=[]:=Jt.mp (by rw[a3];rfl)
  rw[b1,b2]
 refine i6.mpr (dw.mpr (bx.mpr (e8.mpr ⟨sz (by decide),k8 rfl,i3 (i6.mpr (vb (Ds (u9.mpr (zX (bx.mpr (e8.mpr ⟨sz (by decide),⟨k8 rfl,k8 rfl⟩,i3 (Y4.mpr (nH (n6.mpr (n8 rfl (c9 gu ?_)))))⟩)))))))⟩)))
 rw[xy]
 refine E3 (λm E F'=>F'=F/\∃o5 o6 o7 o8 o9 o10 o11 o12 o13 o14,E=[some (.dat (.tuple [.int (h:Int),plD pl,r])),some (.dat (.tuple (way.map btD))),some (.own ((cs m).told.map coD)),some (.dat (stD (cs m).st)),some (.own (g9 (cs m).ins)),o5,o6,o7,o8,o9,o10,o11,o12,o13,o14]) _ 0 _ F ⟨rfl,none,none,none,none,none,none,none,none,none,none,by rw[h0];rfl⟩ ?_ ?_
 .rintro m d e E F1 ⟨rfl,o5,o6,o7,o8,o9,o10,o11,o12,o13,o14,rfl⟩
  rw[IB]
  obtain⟨hm,rfl⟩:=pO e
  have hpm:=hp m hm
  have hfm:=hfit m hm
  rw[<-hst m (by omega)]at hpm hfm
  have o:=hok m
  have hlm:=hln m (by omega)
  have hll:=P2 hm
  have hll2:=jU way (m+1)
  rw[hsc m]
  generalize cs m=s at hpm hfm o hlm
  have hrm:=fg pl s.st.length (f8 way m).length
  have hfl:(j3 pl s.st (f8 way m)).length<64:=by rw[cj];omega
  have hil:=dC (pl:=pl) (bt:=f8 way m) o
  refine⟨_,rfl,?_⟩
  refine i6.mpr (P7.mpr (J9.mpr (U2.mpr (n6.mpr (n8 rfl (U2.mpr (n6.mpr (n8 rfl (U2.mpr (n6.mpr (n8 rfl (L8.mpr ?_))))))))))))
  refine vg (pl:=pl) (ps:=s.st) (bt:=f8 way m) hpm (by omega) (c9 rfl (i3 ?_))
  refine i6.mpr (x4.mpr (v9.mpr (N3.mpr (b7.mpr (j5.mpr (l3 rfl (e8.mpr (c9 gB (j5.mpr (l3 rfl (c9 jW ⟨k8 rfl,i3 ?_⟩)))))))))))
  rw[Hz]
  have eb1:(((f8 way m).length:Nat):Int)-(((f8 way m).length-i7 pl s.st.length (f8 way m).length:Nat):Int)=(i7 pl s.st.length (f8 way m).length:Nat):=by omega
  rw[eb1]
  refine i6.mpr (yI rfl (xV (b7.mpr (N3.mpr (b7.mpr (j5.mpr (X1 rfl (e8.mpr (c9 nV (b7.mpr (v9.mpr (N3.mpr (b7.mpr (j5.mpr (X1 rfl (e8.mpr (c9 nV (j5.mpr (l3 rfl (c9 zh (e8.mpr ?_)))))))))))))))))))))
  rw[Hz]
  refine c9 (zO (by omega) (by omega) (by omega) (by omega)) ?_
  have er:(((s.told.length:Nat):Int)+(i7 pl s.st.length (f8 way m).length:Nat)-((s.told.length:Nat):Int)).toNat=i7 pl s.st.length (f8 way m).length:=by omega
  rw[er,vK]
  have hil0:s.ins.length<64:=by rw[o.len];omega
  refine⟨by rw[C3];simp;omega,_,rfl,by rw[C3,C3];simp;omega,i3 ?_⟩
  have ei:g9 s.ins++g9 ((List.range (i7 pl s.st.length (f8 way m).length)).map (s.told.length + ·))=g9 (r9 pl (f8 way m) s):=by
   unfold r9 g9;rw[Ij]
  rw[ei]
  refine i6.mpr (yI rfl (v9.mpr (v9.mpr (nE.mpr (b7.mpr (K6.mpr (b7.mpr (u9.mpr (b7.mpr (n6.mpr (n8 rfl (b7.mpr (u9.mpr (e8.mpr ⟨x8 rfl,e8.mpr ⟨x8 rfl,j5.mpr (l3 rfl (c9 (yC (by omega)) ?_))⟩⟩))))))))))))))
  refine v9.mpr (nE.mpr (b7.mpr (K6.mpr (b7.mpr (u9.mpr (b7.mpr (n6.mpr (n8 rfl (e8.mpr ⟨x8 rfl,e8.mpr ⟨x8 rfl,j5.mpr (l3 rfl (c9 (yC (by omega)) ?_))⟩⟩)))))))))
  refine c9 (Au (by simp;omega)) ⟨_,rfl,by simp;omega,i3 ?_⟩
  have et1:s.told.map coD++(List.replicate (i7 pl s.st.length (f8 way m).length) (PyData.tuple [.str "in",.int (m:Int),.int 0])++List.replicate ((f8 way m).length-i7 pl s.st.length (f8 way m).length) (PyData.tuple [.str "lost",.int (m:Int)]))=(u4 pl m (f8 way m) s).map coD:=by
   unfold u4
   rw[Ij,Ij,KP,KP]
   rfl
  rw[et1]
  refine i6.mpr (P7.mpr (J9.mpr (U2.mpr (n6.mpr (n8 rfl (U2.mpr (n6.mpr (n8 rfl (L8.mpr ?_)))))))))
  refine va (h:=h) (pl:=plD pl) hr hfl (c9 rfl (i3 ?_))
  have hnd:=gb (pl:=pl) (bt:=f8 way m) o
  have hlt:=gp (pl:=pl) (t:=m) (bt:=f8 way m) o
  have hin:=dJ (pl:=pl) (t:=m) (bt:=f8 way m) o
  have hst1:(N2 h (kOf r) (kb r) (tnB r) pl m (f8 way m) s).st=(w4 (tnB r) (i4 h (kOf r) (kb r) (j3 pl s.st (f8 way m))) (j3 pl s.st (f8 way m))).map (N8 (i4 h (kOf r) (kb r) (j3 pl s.st (f8 way m))) (kb r) (j3 pl s.st (f8 way m))):=rfl
  have hst2:(N2 h (kOf r) (kb r) (tnB r) pl m (f8 way m) s).ins=(w4 (tnB r) (i4 h (kOf r) (kb r) (j3 pl s.st (f8 way m))) (j3 pl s.st (f8 way m))).map λi=>(r9 pl (f8 way m) s).getD i 0:=rfl
  have hst3:(N2 h (kOf r) (kb r) (tnB r) pl m (f8 way m) s).told=(List.range (u4 pl m (f8 way m) s).length).map λn=>if n∈r9 pl (f8 way m) s then aft m (!decide ((r9 pl (f8 way m) s).idxOf n∈i4 h (kOf r) (kb r) (j3 pl s.st (f8 way m)))) (decide ((r9 pl (f8 way m) s).idxOf n∈M5 (i4 h (kOf r) (kb r) (j3 pl s.st (f8 way m))) (j3 pl s.st (f8 way m)))) ((u4 pl m (f8 way m) s).getD n (.lost 0)) else(u4 pl m (f8 way m) s).getD n (.lost 0):=rfl
  have hPs:∀j∈i4 h (kOf r) (kb r) (j3 pl s.st (f8 way m)),j<=1000:=λj hj=>by have:=P1 j hj;omega
  have hGP:∀j∈M5 (i4 h (kOf r) (kb r) (j3 pl s.st (f8 way m))) (j3 pl s.st (f8 way m)),j∈i4 h (kOf r) (kb r) (j3 pl s.st (f8 way m)):=λj hj=>(Iu.mp hj).1
  have hsub:∀i∈w4 (tnB r) (i4 h (kOf r) (kb r) (j3 pl s.st (f8 way m))) (j3 pl s.st (f8 way m)),i<(r9 pl (f8 way m) s).length:=λi hi=>by rw[hil];exact(ic P1 D9 hi).1
  have hsl:(w4 (tnB r) (i4 h (kOf r) (kb r) (j3 pl s.st (f8 way m))) (j3 pl s.st (f8 way m))).length<=1000:=by
   have:=cT (h:=h) (k:=kOf r) (kp:=kb r) (tn:=tnB r) (ps:=j3 pl s.st (f8 way m))
   unfold after at this
   rw[Hz]at this
   omega
  have htl:(u4 pl m (f8 way m) s).length<=1000:=by rw[aZ];omega
  generalize N2 h (kOf r) (kb r) (tnB r) pl m (f8 way m) s=s' at hst1 hst2 hst3
  generalize M5 (i4 h (kOf r) (kb r) (j3 pl s.st (f8 way m))) (j3 pl s.st (f8 way m))=G at *
  generalize w4 (tnB r) (i4 h (kOf r) (kb r) (j3 pl s.st (f8 way m))) (j3 pl s.st (f8 way m))=S at *
  generalize N8 (i4 h (kOf r) (kb r) (j3 pl s.st (f8 way m))) (kb r) (j3 pl s.st (f8 way m))=T at *
  generalize i4 h (kOf r) (kb r) (j3 pl s.st (f8 way m))=P at *
  generalize j3 pl s.st (f8 way m)=fl at *
  generalize r9 pl (f8 way m) s=l at *
  generalize u4 pl m (f8 way m) s=tt at *
  refine i6.mpr (Ba rfl (Y4.mpr (nH (n6.mpr (n8 rfl (c9 nT ?_))))))
  rw[sD]
  refine E3 (λp E F'=>F'=F1/\∃o13 o14,E=[some (.dat (.tuple [.int (h:Int),plD pl,r])),some (.dat (.tuple (way.map btD))),some (.own (((List.range tt.length).map λn=>if n∈l.take p then aft m (!decide (l.idxOf n∈P)) (decide (l.idxOf n∈G)) (tt.getD n (.lost 0)) else tt.getD n (.lost 0)).map coD)),some (.dat (stD s.st)),some (.dat (.list (g9 l))),some (.dat (.int (m:Int))),some (.dat (btD (f8 way m))),some (.dat (.tuple (fl.map pnD))),some (.dat (.int ((f8 way m).length-i7 pl s.st.length (f8 way m).length:Nat))),some (.dat (.int (i7 pl s.st.length (f8 way m).length:Nat))),some (.dat (.list (S.map λi=>prD (i,T i)))),some (.dat (.tuple (g9 P))),some (.dat (.tuple (g9 G))),o13,o14]) _ 0 _ F1 ⟨rfl,o13,o14,?_⟩ ?_ ?_
  .have e1:((List.range tt.length).map λn=>if n∈l.take 0 then aft m (!decide (l.idxOf n∈P)) (decide (l.idxOf n∈G)) (tt.getD n (.lost 0)) else tt.getD n (.lost 0))=tt:=by
    have:=rA (Co.lost 0) (λx:Co=>x) tt
    rw[List.map_id']at this
    conv=>rhs;rw[<-this]
    exact Iv λn _=>by simp
   rw[e1]
   rfl
  .rintro p d2 e2 E F2 ⟨rfl,o13,o14,rfl⟩
   rw[IB]
   obtain⟨hp',rfl⟩:=pO e2
   have eg:=W6 hp'
   have hmem:=Ky hp'
   have hnl:=hlt _ hmem
   obtain⟨b,w,ein⟩:=hin _ hmem
   have eix:=gU hnd hp'
   refine⟨_,rfl,(zm rfl).mpr ?_⟩
   rw[eg]
   have hnot:l[p] ∉ l.take p:=λz=>by
    obtain⟨j,hj,ej⟩:=List.getElem_of_mem z
    rw[List.getElem_take]at ej
    have hj2:j<p:=by simp at hj;omega
    exact absurd ((IP.mp hnd |> Jc.mp) j p (by omega) hp' hj2) (by simp[ej])
   have eat:ixD (.list (((List.range tt.length).map λn=>if n∈l.take p then aft m (!decide (l.idxOf n∈P)) (decide (l.idxOf n∈G)) (tt.getD n (.lost 0)) else tt.getD n (.lost 0)).map coD)) (.int (l[p]:Nat))=some (wH b w):=by
    rw[BG (by simpa using hnl),HJ,HP,HD (by simpa using hnl)]
    simp only[JV,Kl,Option.getD_some]
    rw[HM hnot,ein]
    rfl
   have done:∀(y:PyData) (F3:FdS),F3=F2->y=coD (aft m (!decide (p∈P)) (decide (p∈G)) (.inn b w))->wp (sV 14 [some (.dat (.tuple [.int (h:Int),plD pl,r])),some (.dat (.tuple (way.map btD))),some (.own (((List.range tt.length).map λn=>if n∈l.take p then aft m (!decide (l.idxOf n∈P)) (decide (l.idxOf n∈G)) (tt.getD n (.lost 0)) else tt.getD n (.lost 0)).map coD)),some (.dat (stD s.st)),some (.dat (.list (g9 l))),some (.dat (.int (m:Int))),some (.dat (btD (f8 way m))),some (.dat (.tuple (fl.map pnD))),some (.dat (.int ((f8 way m).length-i7 pl s.st.length (f8 way m).length:Nat))),some (.dat (.int (i7 pl s.st.length (f8 way m).length:Nat))),some (.dat (.list (S.map λi=>prD (i,T i)))),some (.dat (.tuple (g9 P))),some (.dat (.tuple (g9 G))),some (.dat (.int (p:Int))),some (.dat (.int (l[p]:Nat)))] F3) λz F4=>oB (Z6 z) λn=>oB (ixN (((List.range tt.length).map λn=>if n∈l.take p then aft m (!decide (l.idxOf n∈P)) (decide (l.idxOf n∈G)) (tt.getD n (.lost 0)) else tt.getD n (.lost 0)).map coD).length n) λj=>∃E2,Out.nx (([some (.dat (.tuple [.int (h:Int),plD pl,r])),some (.dat (.tuple (way.map btD))),some (.own (((List.range tt.length).map λn=>if n∈l.take p then aft m (!decide (l.idxOf n∈P)) (decide (l.idxOf n∈G)) (tt.getD n (.lost 0)) else tt.getD n (.lost 0)).map coD)),some (.dat (stD s.st)),some (.dat (.list (g9 l))),some (.dat (.int (m:Int))),some (.dat (btD (f8 way m))),some (.dat (.tuple (fl.map pnD))),some (.dat (.int ((f8 way m).length-i7 pl s.st.length (f8 way m).length:Nat))),some (.dat (.int (i7 pl s.st.length (f8 way m).length:Nat))),some (.dat (.list (S.map λi=>prD (i,T i)))),some (.dat (.tuple (g9 P))),some (.dat (.tuple (g9 G))),some (.dat (.int (p:Int))),some (.dat (.int (l[p]:Nat)))]:DE).set 2 (some (.own ((((List.range tt.length).map λn=>if n∈l.take p then aft m (!decide (l.idxOf n∈P)) (decide (l.idxOf n∈G)) (tt.getD n (.lost 0)) else tt.getD n (.lost 0)).map coD).set j y)))) = .nx E2/\F4=F2/\∃o13 o14,E2=[some (.dat (.tuple [.int (h:Int),plD pl,r])),some (.dat (.tuple (way.map btD))),some (.own (((List.range tt.length).map λn=>if n∈l.take (p+1) then aft m (!decide (l.idxOf n∈P)) (decide (l.idxOf n∈G)) (tt.getD n (.lost 0)) else tt.getD n (.lost 0)).map coD)),some (.dat (stD s.st)),some (.dat (.list (g9 l))),some (.dat (.int (m:Int))),some (.dat (btD (f8 way m))),some (.dat (.tuple (fl.map pnD))),some (.dat (.int ((f8 way m).length-i7 pl s.st.length (f8 way m).length:Nat))),some (.dat (.int (i7 pl s.st.length (f8 way m).length:Nat))),some (.dat (.list (S.map λi=>prD (i,T i)))),some (.dat (.tuple (g9 P))),some (.dat (.tuple (g9 G))),o13,o14]:=by
    rintro y F3 rfl rfl
    refine n6.mpr (n8 rfl (c9 rfl (c9 (z:=l[p]) ?_ ?_)))
    .unfold ixN
     rw[HH (by omega),HH (by simp;omega),Jq]
    .have es:(((List.range tt.length).map λn=>if n∈l.take p then aft m (!decide (l.idxOf n∈P)) (decide (l.idxOf n∈G)) (tt.getD n (.lost 0)) else tt.getD n (.lost 0)).map coD).set l[p] (coD (aft m (!decide (p∈P)) (decide (p∈G)) (.inn b w)))=((List.range tt.length).map λn=>if n∈l.take (p+1) then aft m (!decide (l.idxOf n∈P)) (decide (l.idxOf n∈G)) (tt.getD n (.lost 0)) else tt.getD n (.lost 0)).map coD:=by
      apply Mg
      .simp
      .intro k h1 h2
       simp only[Jg,Hz,Ih]at h1
       rw[List.getElem_set]
       simp only[Me,JV]
       have et:l.take (p+1)=l.take p++[l[p]]:=by rw[Kr,HD hp'];rfl
       by_cases hk:l[p]=k
       .rw[HH hk,<-hk,HH (by rw[et];exact HW _ HV),eix,ein]
       .rw[HM hk,et]
        have:(k∈l.take p++[l[p]])↔k∈l.take p:=by
         rw[HC]
         constructor
         .rintro (z | z)
          .exact z
          .simp at z;exact absurd z.symm hk
         .exact .inl
        by_cases hkm:k∈l.take p
        .rw[HH hkm,HH (this.mpr hkm)]
        .rw[HM hkm,HM λz=>hkm (this.mp z)]
     exact⟨_,rfl,rfl,_,_,by rw[es];rfl⟩
   refine J9.mpr (U2.mpr (v9.mpr (j5.mpr (X1 rfl (j5.mpr (l3 rfl (c9 eat (U2.mpr (v9.mpr (j5.mpr (l3 rfl (j5.mpr (l3 rfl (c9 (cW hPs) (U2.mpr (iV.mpr (W1.mpr (v9.mpr (j5.mpr (l3 rfl (j5.mpr (l3 rfl (c9 (jG λj hj=>hPs j (hGP j hj)) (c9 rfl ?_))))))))))))))))))))))))
   by_cases hg:p∈G
   .rw[Je hg] at *
    rw[Je (hGP p hg)] at *
    refine N6 rfl (v9.mpr (j5.mpr (l3 rfl (u9.mpr (c9 rfl (L8.mpr ?_))))))
    exact oy (m:=m+1) (done _ _ rfl rfl)
   .rw[IL hg] at *
    exact n5 rfl (u9.mpr (L8.mpr (uM (done _ _ rfl rfl))))
  .rintro E F2 ⟨rfl,o13,o14,rfl⟩
   rw[IB,Hz,Ih,Kx,<-hst3]
   refine i3 (i6.mpr (dw.mpr (CH (Z7.mpr (j5.mpr (l3 rfl (c9 nT ⟨sz (by rw[Hz];omega),?_⟩)))))))
   refine yn (x:=λi:Nat=>.int (i:Int)) (y:=λi=>pnD (T i)) (f:=λi=>.int (l.getD i 0:Nat)) S _ _ (λi hi F Q q=>?_) ?_
   .refine v9.mpr (j5.mpr (l3 rfl (j5.mpr (l3 rfl (c9 ?_ q)))))
    have hi2:=hsub i hi
    show atI (g9 l) (i:Int)=_
    refine W3 ?_
    unfold g9
    rw[HP,HD hi2,HJ,HD hi2]
    rfl
   .have e3:S.map (λi=>PyData.int (l.getD i 0:Nat))=g9 s'.ins:=by
     rw[hst2];unfold g9;rw[Ik];rfl
    rw[e3]
    refine⟨k8 rfl,i3 (x4.mpr (N3.mpr (b7.mpr (qd.mpr (Z7.mpr (j5.mpr (l3 rfl (c9 nT ⟨sz (by rw[Hz];omega),?_⟩))))))))⟩
    refine yn (x:=λi:Nat=>.int (i:Int)) (y:=λi=>pnD (T i)) (f:=λi=>pnD (T i)) S _ _ (λi hi F Q q=>n6.mpr (n8 rfl q)) (e8.mpr (c9 rfl ⟨k8 rfl,?_⟩))
    have e4:S.map (λi=>pnD (T i))=s'.st.map pnD:=by rw[hst1,Ik];rfl
    exact⟨_,rfl,rfl,_,_,_,_,_,_,_,_,_,_,by rw[e4];rfl⟩
 .rintro E F1 ⟨rfl,o5,o6,o7,o8,o9,o10,o11,o12,o13,o14,rfl⟩
  rw[IB,Hz,Ih]
  exact q _ _ _ _ _ _ _ _ _ _ _ _
abbrev bj:List DV->M (List PyData):=AY ["house","way","told","stand","inside","at","beat","filled","lost","entered","staying","hands_on","gone","place","number"] (gSq Aw (uZ 2))
theorem oA {r:PyData}{pl:Option Nat}{h:Nat}{way:List Bt}(hr:r∈W8)(hp:∀i<way.length,qp pl (aH (O1 h (kOf r) (kb r) (tnB r) pl) [] way i).length)(hl:G4 way<64)(hn:way.length<=1000)
{Q:List PyData->FdS->Prop}
  (q:Q ((V7 h (kOf r) (kb r) (tnB r) pl way way.length).told.map coD) F) :
  wp (bj [.dat (.tuple [.int (h:Int),plD pl,r]),.dat (.tuple (way.map btD))] F) Q :=
 zM (oS hr hp hl hn λo3 o4 o5 o6 o7 o8 o9 o10 o11 o12 o13 o14=>⟨_,rfl,a9.mpr q⟩)
end
end
section
def Wt (t:Nat):Co->Prop
 | .inn b w=>b<=t/\w<=t
 | .lost b=>b<=t
 | .gone b m w=>b<=t/\m<=t/\w<=t
theorem Wt.more {t:Nat}{c:Co}(h:Wt t c):Wt (t+1) c:=by
 cases c with
 | lost b=>have h:b<=t:=h;show b<=t+1;omega
 | gone b m w=>obtain⟨h1,h2,h3⟩:=h;exact⟨by omega,by omega,by omega⟩
 | inn b w=>obtain⟨h1,h2⟩:=h;exact⟨by omega,by omega⟩
theorem Wt.aft {t:Nat}{x y:Bool}{c:Co}(h:Wt t c):Wt (t+1) (aft t x y c):=by
 cases c with
 | lost b=>exact Wt.more h
 | gone b m w=>exact Wt.more h
 | inn b w =>
  obtain⟨h1,h2⟩:=h
  cases y with
  | true=>exact⟨by omega,HK _,by omega⟩
  | false=>cases x <;> exact⟨by omega,by simp;omega⟩
theorem pM {h k:Nat}{kp tn:Bool}{pl:Option Nat}{way:List Bt}:∀m,∀c∈(V7 h k kp tn pl way m).told,Wt m c
 | 0,c,hc=>by cases hc
 | m+1,c,hc=>by
  have ih:=pM (h:=h) (k:=k) (kp:=kp) (tn:=tn) (pl:=pl) (way:=way) m
  have hT:∀c∈u4 pl m (f8 way m) (V7 h k kp tn pl way m),Wt m c:=λc hc=>by
   unfold u4 at hc
   rcases HC.mp hc with hc | hc
   .exact ih c hc
   rcases HC.mp hc with hc | hc
   .rw[(List.mem_replicate.mp hc).2]
    exact⟨HK _,IG _⟩
   .rw[(List.mem_replicate.mp hc).2]
    exact HK m
  obtain⟨n,hn,rfl⟩:=Il.mp (show c∈List.map _ _ from hc)
  have hn:=Ir.mp hn
  have hg:(u4 pl m (f8 way m) (V7 h k kp tn pl way m)).getD n (.lost 0)∈u4 pl m (f8 way m) (V7 h k kp tn pl way m):=by
   rw[HJ,HD hn]
   exact Ky hn
  have h1:=hT _ hg
  by_cases hi:n∈r9 pl (f8 way m) (V7 h k kp tn pl way m)
  .rw[HH hi]
   exact h1.aft
  .rw[HM hi]
   exact h1.more
end
section
variable [Fam]
mutual
def sml:PyData->Prop
 | .none=>True
 | .bool _=>True
 | .int i=>i.natAbs<2 ^ 40
 | .str x=>x.length<=20/\asc x
 | .tuple ds=>qK ds
 | .list ds=>qK ds
 | .dict _=>False
def qK:List PyData->Prop
 | []=>True
 | d::ds=>sml d/\qK ds
end
theorem Y5:∀{ds:List PyData},qK ds↔∀d∈ds,sml d
 | []=>by simp[qK]
 | d::ds=>by simp[qK,Y5 (ds:=ds)]
structure Sml (N k:Nat) (d:PyData):Prop where
 sc:sml d
 dp:d.depth<=k
 ct:cnt d<=N
structure Nos (d:PyData):Prop where
 sh:d.showable=true
 nd:d.hasDict=false
 cl:d.canLay0=true
 ln:d.shown.length+2<=300*cnt d
theorem CV {ds:List PyData}:(∀d∈ds,Nos d)->PyData.showableAll ds=true/\PyData.hasDictAll ds=false/\PyData.canLayAll0 ds=true/\((PyData.shownAll ds).map (·.length)).sum+2*ds.length<=300*dM ds:=by
 induction ds with
 | nil=>intro _;exact⟨by simp[PyData.showableAll],by simp[PyData.hasDictAll],by simp[PyData.canLayAll0],by simp[PyData.shownAll,dM]⟩
 | cons d ds ih =>
  intro h
  obtain⟨a,b,c,e⟩:=ih λx hx=>h x (HA _ hx)
  have hd:=h d HV
  refine⟨by simp[PyData.showableAll,hd.sh,a],by simp[PyData.hasDictAll,hd.nd,b],by simp[PyData.canLayAll0,hd.cl,c],?_⟩
  simp only[PyData.shownAll,HX,List.sum_cons,HZ,dM]
  have:=hd.ln
  omega
theorem Bg:∀m:Nat,∀d:PyData,sizeOf d<m->sml d->Nos d:=by
 intro m
 induction m with
 | zero=>intro d h;exact absurd h (LA _)
 | succ m ih =>
  intro d hm hs
  cases d with
  | none=>exact⟨rfl,rfl,rfl,by decide⟩
  | bool b=>exact⟨rfl,rfl,rfl,by cases b <;> decide⟩
  | int i =>
   simp only[sml]at hs
   have:=Shw.int hs (by decide) (by decide)
   exact⟨this.sh,this.nd,rfl,by have:=this.ln;simp only[cnt];omega⟩
  | str x =>
   simp only[sml]at hs
   refine⟨rfl,rfl,?_,?_⟩
   .simp only[PyData.canLay0,PyData.strOk]
    rw[Array.all_eq_true']
    intro c hc
    have:=hs.2 c (by simpa using hc)
    exact Je (by omega)
   .have h1:=LV x λc hc=>Ie (hs.2 c hc) (by decide)
    simp only[PyData.shown,cnt]
    omega
  | tuple ds =>
   simp only[sml]at hs
   rw[Y5]at hs
   obtain⟨a,b,c,e⟩:=CV λd hd=>ih d (by have:=Ks hd;simp at hm;omega) (hs d hd)
   refine⟨by simpa only[PyData.showable] using a,by simpa only[PyData.hasDict] using b,by simpa only[PyData.canLay0] using c,?_⟩
   have h5:=tupleText_len_le (PyData.shownAll ds)
   have h6:=Kn ds
   simp only[PyData.shown,cnt]
   omega
  | list ds =>
   simp only[sml]at hs
   rw[Y5]at hs
   obtain⟨a,b,c,e⟩:=CV λd hd=>ih d (by have:=Ks hd;simp at hm;omega) (hs d hd)
   refine⟨by simpa only[PyData.showable] using a,by simpa only[PyData.hasDict] using b,by simpa only[PyData.canLay0] using c,?_⟩
   have h5:=listText_len_le (PyData.shownAll ds)
   have h6:=Kn ds
   simp only[PyData.shown,cnt]
   omega
  | dict kvs=>simp only[sml]at hs
section
variable {N k:Nat}{d:PyData}
theorem Sml.repr (h:Sml N k d)(hN:N<=50000)(hk:k<=50):bG d=true:=by
 have hd:=Bg _ d (Kc _) h.sc
 unfold bG
 rw[hd.sh,hd.nd]
 have h1:=hd.ln
 have h2:=h.ct
 have h3:=h.dp
 simp
 constructor <;> omega
theorem Sml.mono {N' k':Nat}(h:Sml N k d)(h2:N<=N')(h3:k<=k'):Sml N' k' d:=⟨h.sc,Im h.dp h3,Im h.ct h2⟩
end
theorem mB {k:Nat}{ds:List PyData}(h:∀d∈ds,d.depth<=k):PyData.depthAll ds<=k:=Y2.mpr h
theorem Sml.tup {c k:Nat}{ds:List PyData}(h:∀d∈ds,Sml c k d):Sml (1+c*ds.length) (k+1) (.tuple ds):=by
 refine⟨?_,?_,?_⟩
 .simp only[sml];rw[Y5];exact λd hd=>(h d hd).sc
 .have:=mB λd hd=>(h d hd).dp
  simp only[PyData.depth];omega
 .have:=cb (c:=c) λd hd=>(h d hd).ct
  simp only[cnt];omega
theorem Sml.lst {c k:Nat}{ds:List PyData}(h:∀d∈ds,Sml c k d):Sml (1+c*ds.length) (k+1) (.list ds):=by
 refine⟨?_,?_,?_⟩
 .simp only[sml];rw[Y5];exact λd hd=>(h d hd).sc
 .have:=mB λd hd=>(h d hd).dp
  simp only[PyData.depth];omega
 .have:=cb (c:=c) λd hd=>(h d hd).ct
  simp only[cnt];omega
theorem iq {i:Int}(h0:-100000000<=i)(h1:i<=100000000):Sml 1 0 (.int i):=⟨by simp only[sml];omega,by simp[PyData.depth],by simp[cnt]⟩
theorem Cz:Sml 1 0 .none:=⟨trivial,by simp[PyData.depth],by simp[cnt]⟩
theorem xC {x:Str}(h1:x.length<=20)(h2:asc x):Sml 1 0 (.str x):=⟨⟨h1,h2⟩,by simp[PyData.depth],by simp[cnt]⟩
theorem sW8 {r:PyData}(h:r∈W8):Sml 1 0 r:=by
 obtain⟨x,rfl,h1,h2⟩:=Aa h
 exact xC (by omega) h2
end
section
variable [Fam]
section
abbrev hsD (h:Nat)(pl:Option Nat)(r:PyData):PyData:=.tuple [.int (h:Int),plD pl,r]
abbrev wyD (way:List Bt):PyData:=.tuple (way.map btD)
theorem sBt {b:Bt}(h:∀c∈b,xQ c):Sml (1+3*b.length) 2 (btD b):=by
 have:=Sml.tup (c:=3) (k:=1) (ds:=b.map cmD) λd hd=>by
  obtain⟨c,hc,rfl⟩:=Il.mp hd
  obtain⟨h1,h2,h3,h4⟩:=h c hc
  refine(Sml.tup (c:=1) (k:=0) λd hd=>?_).mono (by simp) (by decide)
  simp only[HB,IM,JN]at hd
  rcases hd with rfl | rfl
  .exact iq (by omega) (by omega)
  .exact iq (by omega) (by omega)
 rwa [Hz]at this
theorem wY {way:List Bt}{b:Bt}(hb:b∈way):b.length<=G4 way:=by
 unfold G4
 induction way with
 | nil=>cases hb
 | cons c way ih =>
  rw[HX,List.sum_cons]
  rcases HB.mp hb with rfl | hb
  .omega
  .have:=ih hb;omega
theorem Df {way:List Bt}(hw:WayOk 24 way):Sml 3000 3 (wyD way):=by
 have h1:=hw.len
 have h2:=hw.many
 refine(Sml.tup (c:=121) (k:=2) λd hd=>?_).mono (by rw[Hz];omega) (by decide)
 obtain⟨b,hb,rfl⟩:=Il.mp hd
 have:=wY hb
 exact(sBt (hw.ok b hb)).mono (by omega) (by decide)
theorem xo {h:Nat}{pl:Option Nat}{r:PyData}(h3:h<=3)(hr:r∈W8)(hpl:∀v,pl=some v->v<=6):Sml 4 1 (hsD h pl r):=by
 refine(Sml.tup (c:=1) (k:=0) λd hd=>?_).mono (by simp) (by decide)
 simp only[HB,IM,JN]at hd
 rcases hd with rfl | rfl | rfl
 .exact iq (by omega) (by omega)
 .cases pl with
  | none=>exact Cz
  | some v=>have:=hpl v rfl;exact iq (by omega) (by omega)
 .exact sW8 hr
theorem Dl {a b c:PyData}{N k:Nat}(ha:Sml N k a)(hb:Sml N k b)(hc:Sml N k c):Sml (1+N*3) (k+1) (.tuple [a,b,c]):=by
 refine(Sml.tup (c:=N) (k:=k) λd hd=>?_).mono (by simp) (HK _)
 simp only[HB,IM,JN]at hd
 rcases hd with rfl | rfl | rfl
 .exact ha
 .exact hb
 .exact hc
theorem CW {x y:Str}:eqD true (.str x) (.str y)=some (.bool (!decide (x=y))):=by
 show some (PyData.bool (if true=true then !decide (x=y) else decide (x=y)))=_
 rw[HH rfl]
theorem tN {x:Str}:eqD true (.str x) (.str x)=some (.bool false):=by rw[CW];simp
end
end
section
variable [Fam]
section
variable {F:FdS}{Q:PyData->FdS->Prop}
end
variable [Fam]
def bY:List DV->M PyData:=X5 ["_law_feed_here"] (mRt (s2 ixD (sC (.list [.str "first",.str "last",.str "short",.str "front",.str "lastoff",.str "shortoff",.str "frontoff",.str "turns"])) (p0 N7 (vF 0 (vD (sC (.int 8)) D8)))))
def ax:List DV->M PyData:=X5 ["_law_feed_here","_law_places"] (mSq (D7 1 (s2 ixD (sC (.list [.none,.none,.none,.int 0,.int 1,.int 2,.int 3,.int 4,.int 5,.int 6])) (p0 N7 (vF 0 (vD (sC (.int 10)) D8)))))
  (mRt (O9 (c6 (s2 U1 (sC (.int 1)) (p0 N7 (vF 0 (vD (sC (.int 3)) D8)))) (c6 (sV 1) (c6 (p0 bY (vF 0 D8)) h9))))))
theorem vx:Tr bY [.feed] 1 (λd=>d∈W8):=Tr.of λF hF=>by
 unfold bY
 walk_at "go"
 refine O5 (by decide) (by decide) (by omega) λr F1 r0 r1 t1=>?_
 obtain⟨d,e,hd⟩:∃d,ixD (.list W8) (.int r)=some d/\d∈W8:=by
  have:r=0\/r=1\/r=2\/r=3\/r=4\/r=5\/r=6\/r=7:=by omega
  rcases this with rfl | rfl | rfl | rfl | rfl | rfl | rfl | rfl
  all_goals exact⟨_,rfl,by simp[W8]⟩
 refine c9 e ?_
 walk_at "go"
 exact⟨by omega,hd⟩
theorem rj:Tr ax [.feed] 3 (λd=>∃(h:Nat) (pl:Option Nat) (r:PyData),d = .tuple [.int (h:Int),plD pl,r]/\1<=h/\h<=3/\r∈W8/\∀v,pl=some v->v<=6):=Tr.of λF hF=>by
 unfold ax
 walk_at "go"
 refine O5 (by decide) (by decide) (by omega) λu F1 u0 u1 t1=>?_
 obtain⟨pl,e,hpl⟩:∃pl:Option Nat,ixD (.list [.none,.none,.none,.int 0,.int 1,.int 2,.int 3,.int 4,.int 5,.int 6]) (.int u)=some (plD pl)/\∀v,pl=some v->v<=6:=by
  have:u=0\/u=1\/u=2\/u=3\/u=4\/u=5\/u=6\/u=7\/u=8\/u=9:=by omega
  rcases this with rfl | rfl | rfl | rfl | rfl | rfl | rfl | rfl | rfl | rfl
  .exact⟨none,rfl,λv hv=>by cases hv⟩
  .exact⟨none,rfl,λv hv=>by cases hv⟩
  .exact⟨none,rfl,λv hv=>by cases hv⟩
  .exact⟨some 0,rfl,λv hv=>by injection hv;omega⟩
  .exact⟨some 1,rfl,λv hv=>by injection hv;omega⟩
  .exact⟨some 2,rfl,λv hv=>by injection hv;omega⟩
  .exact⟨some 3,rfl,λv hv=>by injection hv;omega⟩
  .exact⟨some 4,rfl,λv hv=>by injection hv;omega⟩
  .exact⟨some 5,rfl,λv hv=>by injection hv;omega⟩
  .exact⟨some 6,rfl,λv hv=>by injection hv;omega⟩
 refine c9 e ?_
 walk_at "go"
 refine O5 (by decide) (by decide) (by omega) λhv F2 v0 v1 t2=>?_
 walk_at "go"
 refine vx.wp (by omega) λr F3 t3 hr=>?_
 walk_at "go"
 obtain⟨h,eh,g1,g2⟩:∃h:Nat,1+hv=(h:Int)/\1<=h/\h<=3:=⟨(1+hv).toNat,by omega,by omega,by omega⟩
 rw[eh]
 exact⟨by omega,h,pl,r,rfl,g1,g2,hr,hpl⟩
end
end L3
namespace K20
open PySem L2 L3
section
def top (i:Nat):Stmt:=PySem.Challenge.pw_hatchwaits_k20_courses_told.main.body.getD i (.Pass ⟨0,0,0,0⟩)
instance famI:Fam:=Dq ["lined_up","picked"]
instance lamI:LamC:=⟨["lined_up","picked"]⟩
abbrev Fs:Stmt:=top 2
abbrev ET:Stmt:=top 4
abbrev DI:Stmt:=top 5
abbrev EU:Stmt:=top 6
abbrev Ek:Stmt:=top 7
abbrev DX:Stmt:=top 9
abbrev DO:Stmt:=top 10
abbrev El:Stmt:=top 12
abbrev En:Stmt:=top 13
abbrev Ep:Stmt:=top 14
abbrev DY:Stmt:=top 15
abbrev EE:Stmt:=top 16
abbrev DJ:Stmt:=top 17
abbrev DN:Stmt:=top 18
abbrev DL:Stmt:=top 19
abbrev DQ:Stmt:=top 20
abbrev DR:Stmt:=top 21
abbrev EF:Stmt:=top 22
abbrev DS:Stmt:=top 23
abbrev DD:Stmt:=top 24
abbrev DG:Stmt:=top 25
abbrev DC:Stmt:=top 26
structure Txt (K:PySem.W.Frag) (mg:Str->Option Value):Prop where
 enumerate:mg "enumerate" = none
 int:mg "int" = none
 isinstance:mg "isinstance" = none
 len:mg "len" = none
 list:mg "list" = none
 min:mg "min" = none
 range:mg "range" = none
 repr:mg "repr" = none
 sorted:mg "sorted" = none
 tuple:mg "tuple" = none
 g_KEEPING:GD K mg "KEEPING" (.tuple [.str "first",.str "last",.str "short",.str "front"])
section
variable {P:Program}{w:World}{K:PySem.W.Frag}{mg:Str->Option Value}{base:Heap}
theorem uG:FnScope ["rule"] ["rule"] (defScope Fs):={}
abbrev kz:=cG
theorem GZ {f:Addr}{fd:FuncData}(Fn:Fun K "keeps" "keeps" Fs f fd)(T:Txt K mg) :FnOk P w K mg base CX0 1 f fd ["rule"] (spD K 1 kz):=by
 refine Q2 Fn uG λcdv A outer s H E hr=>?_
 have hu5:(A.deeper (PyProof.Rows.envOfC "keeps" (defScope Fs) s.heap.objs.size f cdv)).units+65<cLine:=by have:=hr.un;omega
 exact⟨_,(j4 (p9 (cY (W9 rfl hu5) (h8 0) (Ev.bw (De T.g_KEEPING)))))⟩
theorem aE:FnScope ["house","stand","beat","places","room","entered"] ["house","stand","beat"] (defScope ET):={}
abbrev cf:=Y9
theorem GL {f:Addr}{fd:FuncData}(Fn:Fun K "let_in" "let_in" ET f fd)(T:Txt K mg) :FnOk P w K mg base CX0 1 f fd ["house","stand","beat"] (spD K 3 cf):=by
 refine Q2 Fn aE λcdv A outer s H E hr=>?_
 exact⟨_,(d5 (A3 3 aE.nd (B4 (A4 rfl) (h8 0) (Ev.bw k4)))
   (d5 (A3 4 aE.nd (oY (C1 sQ (h8 3) (Ev.bw Z9)) (q4 (S8 rfl) T.len S5 (l5 (h8 2) u6)) (M6 jO (h8 3) (Ev.bw (q4 (S8 rfl) T.len S5 (l5 (h8 1) u6))))))
   (d5 (lJ 5 (hN:=aE.nd) (osc:=(defScope ET)) (N:=["rank","work"]) (k:=2) (cap:=[]) (hc:=rfl) (hosc:=rfl) (hcap:=⟨rfl,by decide +kernel,by decide +kernel,by decide +kernel,rfl,rfl,by decide +kernel⟩) (js (Ev.bw (uS (h8 2) yT (Bq (k9 4))))) (λcl C ex pins s H=>(K2 (n:=2) rfl (e9 (v8 (i:=0) (show List.Nodup (["rank","work"]:List Str) by decide +kernel)) (e9 (v8 (i:=1) (show List.Nodup (["rank","work"]:List Str) by decide +kernel)) B9)))) (λcl C ex pins s H=>fw) (λcl C ex pins s H=>(F0 (d0 (k9 0) (d0 (k9 1) (d0 eQ k7))))))
   (j4 (p9 (F0 (d0 (M6 (P6 rfl) (h8 1) (Ev.bw (M2 (T6 rfl) T.tuple T9 (l5 (h8 5) u6)))) (d0 (M6 jO (Ev.bw (q4 (S8 rfl) T.len S5 (l5 (h8 2) u6))) (Ev.bw (q4 (S8 rfl) T.len S5 (l5 (h8 5) u6)))) k7))))))))⟩
theorem eI:FnScope ["rule","stand","places"] ["rule","stand"] (defScope DI):={}
abbrev gX:=DP
theorem Ge {f c P0:Addr}{fd:FuncData}(Fn:Fun K "lined_up" "lined_up" DI f fd)(T:Txt K mg)(LB:LamB K mg base "lined_up" fd c P0) :FnOk P w K mg base CX0 1 f fd ["rule","stand"] (spD K 2 gX):=by
 refine pH Fn eI λcdv A outer s H E hcd hr=>?_
 obtain rfl:cdv = .ref c:=hcd.symm.trans LB.code
 have hu5:(A.deeper (PyProof.Rows.envOfC "lined_up" (defScope DI) s.heap.objs.size f (.ref c))).units+65<cLine:=by have:=hr.un;omega
 exact⟨_,(d5 (A3 2 eI.nd (tm (d0 (q4 (S8 rfl) T.len S5 (l5 (h8 1) u6)) k7) rfl T.range T.list fu))
   (d5 (O0 (C1 (W9 rfl hu5) (h8 0) (Ev.bw (Z3 (.tuple [.str "last",.str "lastoff"]) rfl))) (j4 (p9 (zd (h8 2)))) G8)
   (d5 (O0 (C1 (W9 rfl hu5) (h8 0) (Ev.bw (Z3 (.tuple [.str "short",.str "shortoff"]) rfl))) (j4 (p9 (tJ (osc:=(defScope DI)) (N:=["place","stand"]) (cap:=[1]) (y:="place") LB rfl T.sorted hr rfl (d0 (k9 2) k7) rfl ⟨rfl,rfl,rfl,by decide +kernel,rfl,rfl,by decide +kernel,rfl,rfl,by decide +kernel⟩ rfl rfl (λcl f c' Y s H=>(B4 (A4 rfl) (Ev.bw (B4 (A4 rfl) (h8 1) (h8 0))) (Ev.bw k4)))))) G8)
   (d5 (O0 (C1 (W9 rfl hu5) (h8 0) (Ev.bw (Z3 (.tuple [.str "front",.str "frontoff"]) rfl))) (j4 (p9 (tJ (osc:=(defScope DI)) (N:=["place","stand"]) (cap:=[1]) (y:="place") LB rfl T.sorted hr rfl (d0 (k9 2) k7) rfl ⟨rfl,rfl,rfl,by decide +kernel,rfl,rfl,by decide +kernel,rfl,rfl,by decide +kernel⟩ rfl rfl (λcl f c' Y s H=>(B4 (A4 rfl) (Ev.bw (B4 (A4 rfl) (h8 1) (h8 0))) (Ev.bw k4)))))) G8)
   (j4 (p9 (k9 2)))))))⟩
theorem P3:FnScope ["house","stand","hands","places","rule","order"] ["house","stand"] (defScope EU):={}
abbrev lE:=Ej
theorem GM {f c P0:Addr}{fd:FuncData}(Fn:Fun K "picked" "picked" EU f fd)(T:Txt K mg)(LB:LamB K mg base "picked" fd c P0)(EG:j8 P w K mg base "lined_up" 1 ["rule","stand"] (spD K 2 gX))(EC:j8 P w K mg base "keeps" 1 ["rule"] (spD K 1 kz)):FnOk P w K mg base CX0 2 f fd ["house","stand"] (spD K 2 lE):=by
 refine pH Fn P3 λcdv A outer s H E hcd hr=>?_
 obtain rfl:cdv = .ref c:=hcd.symm.trans LB.code
 exact⟨_,(d5 (bA (k9 0) (K2 (n:=3) rfl (e9 (v8 (i:=2) P3.nd) (e9 (v8 (i:=3) P3.nd) (e9 (v8 (i:=4) P3.nd) B9)))))
   (d5 (A3 5 P3.nd (n9 EG (hr.mono (by decide)) (C9 (k9 4) (C9 (k9 1) u5)) (D1 (D1 u3))))
   (d5 (O0 (dN (Ev.bw (n9 EC (hr.mono (by decide)) (C9 (k9 4) u5) (D1 u3)))) (j4 (A3 5 P3.nd (tJ (osc:=(defScope EU)) (N:=["place","stand"]) (cap:=[1]) (y:="place") LB rfl T.sorted hr rfl (d0 (k9 5) k7) rfl ⟨rfl,rfl,rfl,by decide +kernel,rfl,rfl,by decide +kernel,rfl,rfl,by decide +kernel⟩ rfl rfl (λcl f c' Y s H=>(Bd (B4 (A4 rfl) (Ev.bw (B4 (A4 rfl) (h8 1) (h8 0))) (Ev.bw k4))))))) G8)
   (j4 (p9 (M2 (T6 rfl) T.tuple T9 (l5 (Ev.bw (q4 (iG rfl) T.sorted iB (l5 (Ev.bw (uS (h8 5) yT (Bq (k9 2)))) u6))) u6)))))))⟩
theorem C6:FnScope ["house","stand","rule","hands_on","waiting","served","gone","place","rank","left","begun","staying"] ["house","stand"] (defScope Ek):={}
abbrev cF:=af
theorem GN {f:Addr}{fd:FuncData}(Fn:Fun K "worked" "worked" Ek f fd)(T:Txt K mg)(Ft:j8 P w K mg base "picked" 2 ["house","stand"] (spD K 2 lE))(EC:j8 P w K mg base "keeps" 1 ["rule"] (spD K 1 kz)):FnOk P w K mg base CX0 3 f fd ["house","stand"] (spD K 2 cF):=by
 refine Q2 Fn C6 λcdv A outer s H E hr=>?_
 have hu5:(A.deeper (PyProof.Rows.envOfC "worked" (defScope Ek) s.heap.objs.size f cdv)).units+65<cLine:=by have:=hr.un;omega
 exact⟨_,(d5 (A3 2 C6.nd (B4 (A4 rfl) (h8 0) (Ev.bw k4)))
   (d5 (A3 3 C6.nd (n9 Ft (hr.mono (by decide)) (C9 (k9 0) (C9 (k9 1) u5)) (D1 (D1 u3))))
   (d5 (lJ 4 (hN:=C6.nd) (osc:=(defScope Ek)) (N:=["place","person","hands_on"]) (k:=2) (cap:=[3]) (hc:=rfl) (hosc:=rfl) (hcap:=⟨rfl,by decide +kernel,by decide +kernel,by decide +kernel,rfl,rfl,by decide +kernel⟩) (uA (h8 1) T.enumerate) (λcl C ex pins s H=>(K2 (n:=2) rfl (e9 (v8 (i:=0) (show List.Nodup (["place","person","hands_on"]:List Str) by decide +kernel)) (e9 (v8 (i:=1) (show List.Nodup (["place","person","hands_on"]:List Str) by decide +kernel)) B9)))) (λcl C ex pins s H=>(wX (C1 (kW rfl hu5) (h8 0) (h8 2)))) (λcl C ex pins s H=>(F0 (d0 (k9 0) (d0 (k9 1) k7)))))
   (d5 (ye 5 6 rfl C6.nd (Av (Y3 k7)) (Av (Y3 k7)))
   (d5 (V2 rfl (jz (k9 3)) (v8 (i:=7) C6.nd) (d5 (bA (B4 (A4 rfl) (h8 1) (h8 7)) (K2 (n:=3) rfl (e9 (v8 (i:=8) C6.nd) (e9 (v8 (i:=9) C6.nd) (e9 (v8 (i:=10) C6.nd) B9)))))
   (j4 (O0 (C1 Cq (h8 9) (Ev.bw k4)) (j4 (bg 5 rfl (F0 (d0 (k9 7) (d0 (F0 (d0 (k9 8) (d0 (M6 jO (h8 9) (Ev.bw k4)) (d0 (n9 EC (hr.mono (by decide)) (C9 (k9 2) u5) (D1 u3)) k7)))) k7))))) (j4 (bg 6 rfl (k9 7)))))))
   (d5 (A3 11 C6.nd (oY (C1 (tD rfl hr.units) (h8 2) (Ev.bw S7)) (M6 (P6 rfl) (h8 4) (h8 5)) (q4 (iG rfl) T.sorted iB (l5 (Ev.bw (M6 (P6 rfl) (h8 4) (h8 5))) u6))))
   (j4 (p9 (F0 (d0 (k9 11) (d0 (k9 3) (d0 (M2 (T6 rfl) T.tuple T9 (l5 (h8 6) u6)) k7))))))))))))⟩
theorem G3:FnScope ["course","waited","gone_at","word","beat","waits"] ["course","waited","gone_at"] (defScope DX):={}
abbrev O4:=C2
theorem FF {f:Addr}{fd:FuncData}(Fn:Fun K "after_beat" "after_beat" DX f fd)(T:Txt K mg) :FnOk P w K mg base CX0 1 f fd ["course","waited","gone_at"] (spD K 3 O4):=by
 refine Q2 Fn G3 λcdv A outer s H E hr=>?_
 exact⟨_,(d5 (bA (k9 0) (K2 (n:=3) rfl (e9 (v8 (i:=3) G3.nd) (e9 (v8 (i:=4) G3.nd) (e9 (v8 (i:=5) G3.nd) B9)))))
   (d5 (xH 5 G3.nd (oY (dN (h8 1)) k4 k4))
   (d5 (O0 (C1 sQ (h8 2) (Ev.bw Z9)) (j4 (p9 (F0 (d0 (k9 3) (d0 (k9 4) (d0 (k9 5) k7)))))) G8)
   (j4 (p9 (F0 (d0 S7 (d0 (k9 4) (d0 (k9 2) (d0 (k9 5) k7))))))))))⟩
theorem l0:FnScope ["house","way","told","stand","inside","at","beat","filled","lost","entered","staying","hands_on","gone","place","number"] ["house","way"] (defScope DO):={}
def P5:List DV->M (List PyData):=AY ["house","way","told","stand","inside","at","beat","filled","lost","entered","staying","hands_on","gone","place","number"] (gSq (dA 2 (dm h9))
  (gSq (gw 3 4 (cD (sC (.tuple []))) (cO (dm h9)))
  (gSq (bo (cR (sV 1)) (M3 2 (i8 (bN 5) (i8 (bN 6) M1))) (mSq (bu (M3 2 (i8 (bN 7) (i8 (bN 8) M1))) (p0 cf (vD (sV 0) (vD (sV 3) (vD (sV 6) D8)))))
  (mSq (D7 9 (s2 lN (sN W0 (c6 (sW 6) h9)) (sW 8)))
  (mSq (lg 4 (gO (c6 (sN W0 (c6 (sW 2) h9)) (c6 (s2 U1 (sN W0 (c6 (sW 2) h9)) (sW 9)) h9))))
  (mSq (lg 2 (s2 U1 (s2 gA (oz (c6 (O9 (c6 (sC (.str "in")) (c6 (sV 5) (c6 (sC (.int 0)) h9)))) h9)) (sW 9)) (s2 gA (oz (c6 (O9 (c6 (sC (.str "lost")) (c6 (sV 5) h9))) h9)) (sW 8))))
  (mSq (bu (M3 3 (i8 (bN 10) (i8 (bN 11) (i8 (bN 12) M1)))) (p0 cF (vD (sV 0) (vD (sV 7) D8))))
  (mSq (sg 4 (bo (cR (sV 4)) (M3 2 (i8 (bN 13) (i8 (bN 14) M1))) (vJ 2 (p0 O4 (vD (s2 ixD (sW 2) (sW 14)) (vD (s2 (inD true) (sW 13) (sW 11)) (vD (sIf (uB (s2 (inD false) (sW 13) (sW 12))) (s2 U1 (sW 5) (sC (.int 1))) (sC .none)) D8)))) (sV 14))))
  (mSq (dA 4 (fLC (X4 (sW 10)) 2 [4] (M3 2 (i8 (bN 0) (i8 (bN 1) M1))) cw (s2 ixD (sW 2) (sW 0))))
  (D7 3 (sN K7 (c6 (sLC (X4 (sW 10)) 2 [] (M3 2 (i8 (bN 0) (i8 (bN 1) M1))) cw (sV 1)) h9)))))))))))
  (uZ 2))))
theorem Gf {f:Addr}{fd:FuncData}(Fn:Fun K "courses" "courses" DO f fd)(T:Txt K mg)(Fu:j8 P w K mg base "let_in" 1 ["house","stand","beat"] (spD K 3 cf))(Fv:j8 P w K mg base "worked" 3 ["house","stand"] (spD K 2 cF))(DZ:j8 P w K mg base "after_beat" 1 ["course","waited","gone_at"] (spD K 3 O4)):FnOk P w K mg base CX0 4 f fd ["house","way"] (spG K 2 P5):=by
 refine xY Fn l0 λcdv A outer s H E hr=>?_
 have hu5:(A.deeper (PyProof.Rows.envOfC "courses" (defScope DO) s.heap.objs.size f cdv)).units+65<cLine:=by have:=hr.un;omega
 exact⟨_,(bR (bf 2 l0.nd (Y3 k7))
   (bR (uU 3 4 rfl rfl l0.nd (Dm (Z3 (.tuple []) rfl)) (Av (Y3 k7)))
   (bR (V2 rfl (pR (k9 1) T.enumerate) (K2 (n:=2) rfl (e9 (v8 (i:=5) l0.nd) (e9 (v8 (i:=6) l0.nd) B9))) (d5 (bA (n9 Fu (hr.mono (by decide)) (C9 (k9 0) (C9 (k9 3) (C9 (k9 6) u5))) (D1 (D1 (D1 u3)))) (K2 (n:=2) rfl (e9 (v8 (i:=7) l0.nd) (e9 (v8 (i:=8) l0.nd) B9))))
   (d5 (A3 9 l0.nd (M6 jO (Ev.bw (q4 (S8 rfl) T.len S5 (l5 (h8 6) u6))) (h8 8)))
   (d5 (pY 4 l0.nd (Ev.bw (sJ (d0 (q4 (S8 rfl) T.len S5 (l5 (h8 2) u6)) (d0 (M6 (P6 rfl) (Ev.bw (q4 (S8 rfl) T.len S5 (l5 (h8 2) u6))) (h8 9)) k7)) rfl T.range T.list fu)))
   (d5 (pY 2 l0.nd (Ev.bw (M6 (P6 rfl) (Ev.bw (M6 (qf rfl) (Ev.bw (vh (d0 (F0 (d0 S7 (d0 (k9 5) (d0 k4 k7)))) k7))) (h8 9))) (Ev.bw (M6 (qf rfl) (Ev.bw (vh (d0 (F0 (d0 S7 (d0 (k9 5) k7))) k7))) (h8 8))))))
   (d5 (bA (n9 Fv (hr.mono (by decide)) (C9 (k9 0) (C9 (k9 7) u5)) (D1 (D1 u3))) (K2 (n:=3) rfl (e9 (v8 (i:=10) l0.nd) (e9 (v8 (i:=11) l0.nd) (e9 (v8 (i:=12) l0.nd) B9)))))
   (d5 (AL 4 (V2 rfl (pR (k9 4) T.enumerate) (K2 (n:=2) rfl (e9 (v8 (i:=13) l0.nd) (e9 (v8 (i:=14) l0.nd) B9))) (j4 (AN 2 (n9 DZ (hr.mono (by decide)) (C9 (B4 (A4 rfl) (h8 2) (h8 14)) (C9 (cY (kW rfl hu5) (h8 13) (h8 11)) (C9 (oY (C1 (W9 rfl hu5) (h8 13) (h8 12)) (M6 (P6 rfl) (h8 5) (Ev.bw k4)) Z9) u5))) (D1 (D1 (D1 u3)))) (k9 14)))))
   (d5 (bf 4 l0.nd (Cm (osc:=(defScope DO)) (N:=["place","person","inside"]) (k:=2) (cap:=[4]) rfl rfl ⟨rfl,by decide +kernel,by decide +kernel,by decide +kernel,rfl,rfl,by decide +kernel⟩ (js (h8 10)) (λcl C ex pins s H=>(K2 (n:=2) rfl (e9 (v8 (i:=0) (show List.Nodup (["place","person","inside"]:List Str) by decide +kernel)) (e9 (v8 (i:=1) (show List.Nodup (["place","person","inside"]:List Str) by decide +kernel)) B9)))) (λcl C ex pins s H=>fw) (λcl C ex pins s H=>(B4 (A4 rfl) (h8 2) (h8 0)))))
   (j4 (A3 3 l0.nd (M2 (T6 rfl) T.tuple T9 (l5 (Ev.bw (CJ (osc:=(defScope DO)) (N:=["place","person"]) (k:=2) (cap:=[]) rfl rfl ⟨rfl,by decide +kernel,by decide +kernel,by decide +kernel,rfl,rfl,by decide +kernel⟩ (js (h8 10)) (λcl C ex pins s H=>(K2 (n:=2) rfl (e9 (v8 (i:=0) (show List.Nodup (["place","person"]:List Str) by decide +kernel)) (e9 (v8 (i:=1) (show List.Nodup (["place","person"]:List Str) by decide +kernel)) B9)))) (λcl C ex pins s H=>fw) (λcl C ex pins s H=>(k9 1)))) u6))))))))))))
   (vo 2))))⟩
def jI (K:PySem.W.Frag):Sp:=λvs H Q _=>∃(a:Addr) (ns:List Int),vs=[.ref a]/\SqL K H a (ns.map V.int)/\ns.length<=63 /\
 ∀(d c:Addr) (H':Hp),Feeds.At d c H' (X3 ns)->d8 H H'->Q (.ref d) H'
theorem Cj {ns:List Int}(h:ns.length<=63):cS (ns.map V.int) none (some 63)=ns.map V.int:=by
 unfold cS
 have e:HT.sIx (ns.map V.int).length (ns.map V.int).length (some 63)=min 63 (ns.map V.int).length:=HT.sIx_nat _ _ 63
 rw[e,HT.sIx_none,List.drop_zero,Md,IV (by rw[Hz];omega)]
theorem jX:FnScope ["_law_script"] ["_law_script"] (defScope El):={}
theorem FQ {f:Addr}{fd:FuncData}(F:Fun K "_law_feed" "_law_feed" El f fd)(T:Txt K mg):FnOk P w K mg base CX0 1 f fd ["_law_script"] (jI K):=by
 refine F.ok jX (λvs H Q E h=>?_) (λcdv A outer s H vs Q E hr h=>?_)
 .obtain⟨a,ns,rfl,_⟩:=h
  rfl
 .obtain⟨a,ns,rfl,hS,hl,k⟩:=h
  refine⟨_,z7 (W7 (N4 (f9 (ak jv rfl T.list fu (f9 (mw pd (pv 0) pS (jC f7)) j9)) (f9 f7 (f9 f7 j9))))),?_⟩
  refine⟨_,rfl,63,rfl,a,_,rfl,hS,λq0 hq0=>?_⟩
  rw[Cj hl]
  refine⟨q0,_,rfl,.inl (SqL.of b8),λq hq=>⟨Jm (L7 (by show 3<=1000;decide)),λp hp=>?_⟩⟩
  have s0:d8 H (upd H q0 (.lst (ns.map V.int))):=d8.upd hq0
  have nqp:q≠p:=d6 b8 hp
  refine k p q _ ⟨b8,by rw[a8 nqp];exact b8,hl,(by show(0:Int)<=0;decide),(by show(0:Int)<=0;decide),Iz nqp⟩ λb o e=>?_
  have e1:upd (upd H q0 (.lst (ns.map V.int))) q (.lst (ns.map V.int)) b=some o:=by rw[a8 (d6 (s0 b o e) hq)];exact s0 b o e
  rw[a8 (d6 e1 hp)]
  exact e1
theorem J7:FnScope ["_law_feed_here","_law_many","_law_digit","_law_at","_law_cell","_law_first"] ["_law_feed_here","_law_many"] (defScope En):={}
theorem FR {f:Addr}{fd:FuncData}(Fn:Fun K "_law_next" "_law_next" En f fd)(T:Txt K mg):FnOk P w K mg base CX0 1 f fd ["_law_feed_here","_law_many"] (spD K 2 N7):=by
 refine Fn.ok J7 (λvs H Q E h=>?_) (λcdv A outer s H vs Q E hr h=>?_)
 .obtain⟨G,B,F,args,d,F',hl,_⟩:=h
  exact hl
 .obtain⟨G,B,F,args,dd,F',hl,fB,bk,fa,ha,hm0,q⟩:=h
  obtain⟨m,rfl⟩:∃m,args=[.feed,.dat (.int m)]:=by
   unfold N7 at hm0
   split at hm0
   .exact⟨_,rfl⟩
   .cases hm0
  obtain⟨v,r,rfl,_,⟨d,c,rfl,rfl⟩,v2,r2,rfl,_,hv2,rfl⟩:=ha
  have hv2:v2 = .int m:=by simpa only[DVr,a7] using hv2
  subst hv2
  obtain⟨⟨r0,F1⟩,e1,e2⟩:=bS9 hm0
  cases e2
  replace e1:eP m F=some (r0,F1):=e1
  have hcond:0<m/\m<1073741824/\F.t<199999:=by
   unfold eP at e1
   split at e1
   .assumption
   .cases e1
  obtain⟨hm,hm2,htl⟩:=hcond
  obtain⟨ns,a,l,t⟩:=F
  obtain⟨⟨hd,hc,hl63,ha0,ht0,ndc⟩,tbo⟩:=fa
  simp only at hd hc hl63 ha0 ht0 htl
  have k:∀(r:Int) (H':Hp) (F2:FdS),eP m ⟨ns,a,l,t⟩=some (r,F2)->Feeds.At d c H' F2->(∀b o,H b=some o->b≠d->H' b=some o)->Q (.int r) H':=λr H' F2 er fa' kp=>by
   rw[er]at e1
   cases e1
   exact q _ H' (λb o e nb=>kp b o e λz=>nb (by simp[j7,z])) ⟨fa',tbo.but hd ⟨λ_ z=>(by cases z),λ_ z=>(by cases z)⟩ kp⟩ a7.int
  have hdr:eP m ⟨ns,a,l,t⟩=some (if 0<l then(l % m,⟨ns,a,l / m,t+1⟩) else if 10 ^ 18<=(FdS.cellL ⟨ns,a,l,t⟩)/\a<ns.length then((FdS.cellL ⟨ns,a,l,t⟩) % m,⟨ns,a+1,(FdS.cellL ⟨ns,a,l,t⟩) / m,t+1⟩) else((FdS.mixN ⟨ns,a,l,t⟩) % m,⟨ns,a+1,l,t+1⟩)):=by
   unfold eP;rw[HH ⟨hm,hm2,htl⟩]
  have ncd:c≠d:=Iz ndc
  refine⟨_,i9 (gM (O6 yy (G5 x9 (pv 0) f7 (λ_ _=>rfl)) f7 (W2 _))
    (i9 (G7 (i:=2) J7.nd rfl (Or.inl rfl) (x3 X6 (G5 x9 (pv 0) f7 (λ_ _=>rfl)) (pv 1)))
     (i9 (M9 (x3 jM (G5 x9 (pv 0) f7 (λ_ _=>rfl)) (pv 1)) (U9 (pv 0) f7 K3 (λ_=>rfl))) (z7 (W7 (pv 2))))) fE)
   (i9 (G7 (i:=3) J7.nd rfl (Or.inl rfl) (G5 x9 (pv 0) f7 (λ_ _=>rfl)))
   (i9 (M9 (x3 V3 (pv 3) f7) (U9 (pv 0) f7 K3 (λ_=>rfl)))
   (i9 (G7 (i:=4) J7.nd rfl (Or.inl rfl) (ll (O6 (uR (JU (Nat.le_add_right _ 64) hr.units)) (G5 x9 (pv 0) f7 (λ_ _=>rfl)) (N4 j9) (W2 _))
    (G5 x9 (G5 x9 (pv 0) f7 (λ_ _=>rfl)) (x3 X6 (pv 3) (Q9 E5 (by rfl) T.len KS (f9 (G5 x9 (pv 0) f7 (λ_ _=>rfl)) j9))) (λ_ _=>rfl)) f7))
   (i9 (gM (PW.pt (vC (O6 yX (pv 4) (x3 vN f7 f7) (W2 _)) (pI (O6 yx (pv 3) (Q9 E5 (by rfl) T.len KS (f9 (G5 x9 (pv 0) f7 (λ_ _=>rfl)) j9)) (W2 _)))))
    (i9 (M9 (x3 jM (pv 4) (pv 1)) (U9 (pv 0) f7 K3 (λ_=>rfl))) (z7 (W7 (x3 X6 (pv 4) (pv 1))))) fE)
   (i9 (G7 (i:=5) J7.nd rfl (Or.inl rfl) (x3 X6 (x3 bD (x3 V3 (x3 V3 (x3 V3 (x3 X6 (pv 4) f7) (x3 bD (x3 bD f7 (pv 3)) (pv 3))) (x3 bD f7 (pv 3))) f7) f7) f7))
   (z7 (W7 (x3 X6 (x3 jM (x3 X6 (x3 bD (x3 X6 (x3 V3 (x3 V3 (x3 bD (pv 5) (pv 5)) (x3 bD f7 (pv 3))) f7) f7) f7) f7) f7) (pv 1))))))))),?_⟩
  refine⟨_,rfl,d,_,_,_,rfl,rfl,SqL.of hd,rfl,_,_,rfl,rfl,_,rfl,?_⟩
  refine lP (λhleft=>?_) (λhleft=>?_)
  .have hleft:0<l:=Iw hleft
   refine⟨_,rfl,d,_,_,_,rfl,rfl,SqL.of hd,rfl,_,rfl,_,_,rfl,rfl,hm,?_⟩
   refine⟨_,rfl,d,_,_,_,rfl,rfl,SqL.of hd,rfl,_,rfl,_,_,rfl,rfl,⟨hm,hm2⟩,_,rfl,d,_,_,2,rfl,rfl,hd,rfl,_,rfl,?_⟩
   exact k _ _ ⟨ns,a,l / m,t+1⟩ (by rw[hdr,HH hleft]) ⟨b8,by rw[a8 ncd];exact hc,hl63,ha0,by simp only;omega,ndc⟩ (λb o e hb=>by rw[a8 hb];exact e)
  .have hleft:¬0<l:=λz=>hleft (Je z)
   refine⟨_,rfl,d,_,_,_,rfl,rfl,SqL.of hd,rfl,?_⟩
   refine⟨_,rfl,_,_,rfl,rfl,_,rfl,d,_,_,1,rfl,rfl,hd,rfl,?_⟩
   have hd1:(upd H d (.lst [.ref c,.int (a+1),.int l])) d=some (.lst [.ref c,.int (a+1),.int l]):=b8
   have hc1:(upd H d (.lst [.ref c,.int (a+1),.int l])) c=some (.lst (ns.map V.int)):=by rw[a8 ncd];exact hc
   have kp1:∀b o,H b=some o->b≠d->(upd H d (.lst [.ref c,.int (a+1),.int l])) b=some o:=λb o e hb=>by rw[a8 hb];exact e
   show N5 _ _ _ _ (upd H d (.lst [.ref c,.int (a+1),.int l]))
   generalize upd H d (.lst [.ref c,.int (a+1),.int l])=H1 at hd1 hc1 kp1
   refine⟨_,rfl,d,_,_,_,rfl,rfl,SqL.of hd1,rfl,?_⟩
   refine⟨Jm (L7 (by show 0<=1000;decide)),λp hp=>?_⟩
   replace kp1:∀b o,H b=some o->b≠d->(upd H1 p (.lst [])) b=some o:=λb o e hb=>by rw[a8 (d6 (kp1 b o e hb) hp)];exact kp1 b o e hb
   replace hd1:(upd H1 p (.lst [])) d=some (.lst [.ref c,.int (a+1),.int l]):=by rw[a8 (d6 hd1 hp)];exact hd1
   replace hc1:(upd H1 p (.lst [])) c=some (.lst (ns.map V.int)):=by rw[a8 (d6 hc1 hp)];exact hc1
   have hpp:(upd H1 p (.lst [])) p=some (.lst []):=b8
   generalize upd H1 p (.lst [])=H1 at hd1 hc1 kp1 hpp
   refine⟨c,p,_,rfl,rfl,SqL.of hc1,SqL.of hpp,_,rfl,?_⟩
   have big:10 ^ 18<=(FdS.cellL ⟨ns,a,l,t⟩)/\a<ns.length->Q (.int (FdS.cellL ⟨ns,a,l,t⟩ % m)) (upd H1 d (.lst [.ref c,.int (a+1),.int (FdS.cellL ⟨ns,a,l,t⟩ / m)])):=λhb =>
    k _ _ ⟨ns,a+1,FdS.cellL ⟨ns,a,l,t⟩ / m,t+1⟩ (by rw[hdr,HM hleft,HH hb]) ⟨b8,by rw[a8 ncd];exact hc1,hl63,by simp only;omega,by simp only;omega,ndc⟩ (λb o e hb=>by rw[a8 hb];exact kp1 b o e hb)
   have small:¬(10 ^ 18<=(FdS.cellL ⟨ns,a,l,t⟩)/\a<ns.length)->Q (.int (FdS.mixN ⟨ns,a,l,t⟩ % m)) H1:=λhb =>
    k _ _ ⟨ns,a+1,l,t+1⟩ (by rw[hdr,HM hleft,HM hb]) ⟨hd1,hc1,hl63,by simp only;omega,by simp only;omega,ndc⟩ kp1
   unfold FdS.mixN FdS.fstN at small
   simp only at small
   refine lP (λhne=>?_) (λhe=>?_)
   .have h0:¬ns=[]:=by intro e;rw[e]at hne;simp at hne
    have hne:(0:Int)<ns.length:=by have:=LD.mpr h0;omega
    refine⟨_,rfl,d,_,_,_,rfl,rfl,SqL.of hd1,rfl,_,rfl,_,rfl,d,_,_,_,rfl,rfl,SqL.of hd1,rfl,c,_,rfl,.inl (SqL.of hc1),_,_,rfl,rfl,(by rw[Hz];exact hne),c,_,_,_,rfl,rfl,SqL.of hc1,tW (F:=⟨ns,a,l,t⟩) h0,?_⟩
    generalize FdS.cellL ⟨ns,a,l,t⟩=z at big small
    obtain⟨q1,q2⟩:=oo (x:=(z % 1000003+37*a*a+13*a+5)*48271) (m:=999983) (by decide)
    have tl:¬(10 ^ 18<=(z:Int)/\a<ns.length)->Q (.int (((z % 1000003+37*a*a+13*a+5)*48271 % 999983*((z % 1000003+37*a*a+13*a+5)*48271 % 999983)+7919*a+11) % 2097143*69621 % 2147483629 / 7 % m)) H1:=small
    refine⟨_,rfl,_,_,rfl,rfl,⟨by decide,by decide,by decide⟩,_,_,rfl,rfl,_,rfl,?_⟩
    refine lP (λhb1=>⟨_,rfl,_,rfl,d,_,_,_,rfl,rfl,SqL.of hd1,rfl,c,_,rfl,.inl (SqL.of hc1),_,_,rfl,rfl,_,rfl,lP (λhb2=>?_) (λhb2=>?_)⟩) (λhb1=>sX ?_)
    .have hb1:=Iw hb1
     have hb2:=Iw hb2
     rw[Hz]at hb2
     exact⟨_,rfl,_,rfl,_,_,rfl,rfl,⟨hm,hm2⟩,_,rfl,d,_,_,2,rfl,rfl,hd1,rfl,_,rfl,_,rfl,_,_,rfl,rfl,hm,big ⟨hb1,hb2⟩⟩
    .have hq:=tl λhb=>hb2 (Je (by rw[Hz];exact hb.2))
     refine⟨_,rfl,_,_,rfl,rfl,(by show(0:Int)<1000003;decide),_,rfl,_,_,rfl,rfl,.inl ⟨by decide,by decide⟩,_,rfl,_,_,rfl,rfl,.inr ⟨by omega,by omega⟩,_,_,rfl,rfl,_,rfl,_,_,rfl,rfl,.inl ⟨by decide,by decide⟩,_,_,rfl,rfl,_,_,rfl,rfl,_,_,rfl,rfl,.inr ⟨by decide,by decide⟩,_,_,rfl,rfl,(by show(0:Int)<999983;decide),?_⟩
     refine⟨_,rfl,_,rfl,_,_,rfl,rfl,.inl ⟨by omega,by omega⟩,_,rfl,_,_,rfl,rfl,.inl ⟨by decide,by decide⟩,_,_,rfl,rfl,_,_,rfl,rfl,_,_,rfl,rfl,(by show(0:Int)<2097143;decide),?_⟩
     exact⟨_,_,rfl,rfl,.inr ⟨by decide,by decide⟩,_,_,rfl,rfl,(by show(0:Int)<2147483629;decide),_,_,rfl,rfl,⟨by decide,by decide⟩,_,rfl,_,_,rfl,rfl,hm,hq⟩
    .have hq:=tl λhb=>hb1 (Je hb.1)
     refine⟨_,rfl,_,_,rfl,rfl,(by show(0:Int)<1000003;decide),_,rfl,_,_,rfl,rfl,.inl ⟨by decide,by decide⟩,_,rfl,_,_,rfl,rfl,.inr ⟨by omega,by omega⟩,_,_,rfl,rfl,_,rfl,_,_,rfl,rfl,.inl ⟨by decide,by decide⟩,_,_,rfl,rfl,_,_,rfl,rfl,_,_,rfl,rfl,.inr ⟨by decide,by decide⟩,_,_,rfl,rfl,(by show(0:Int)<999983;decide),?_⟩
     refine⟨_,rfl,_,rfl,_,_,rfl,rfl,.inl ⟨by omega,by omega⟩,_,rfl,_,_,rfl,rfl,.inl ⟨by decide,by decide⟩,_,_,rfl,rfl,_,_,rfl,rfl,_,_,rfl,rfl,(by show(0:Int)<2097143;decide),?_⟩
     exact⟨_,_,rfl,rfl,.inr ⟨by decide,by decide⟩,_,_,rfl,rfl,(by show(0:Int)<2147483629;decide),_,_,rfl,rfl,⟨by decide,by decide⟩,_,rfl,_,_,rfl,rfl,hm,hq⟩
   .have h0:ns=[]:=by
     cases ns with
     | nil=>rfl
     | cons x y=>exact absurd rfl he
    have hcell:FdS.cellL ⟨ns,a,l,t⟩=0:=by unfold FdS.cellL;rw[HH h0]
    rw[hcell]at big small
    obtain⟨q1,q2⟩:=oo (x:=((0:Int) % 1000003+37*a*a+13*a+5)*48271) (m:=999983) (by decide)
    have tl:¬(10 ^ 18<=((0:Int):Int)/\a<ns.length)->Q (.int ((((0:Int) % 1000003+37*a*a+13*a+5)*48271 % 999983*(((0:Int) % 1000003+37*a*a+13*a+5)*48271 % 999983)+7919*a+11) % 2097143*69621 % 2147483629 / 7 % m)) H1:=small
    refine⟨_,rfl,_,_,rfl,rfl,⟨by decide,by decide,by decide⟩,_,_,rfl,rfl,_,rfl,?_⟩
    refine lP (λhb1=>⟨_,rfl,_,rfl,d,_,_,_,rfl,rfl,SqL.of hd1,rfl,c,_,rfl,.inl (SqL.of hc1),_,_,rfl,rfl,_,rfl,lP (λhb2=>?_) (λhb2=>?_)⟩) (λhb1=>sX ?_)
    .have hb1:=Iw hb1
     have hb2:=Iw hb2
     rw[Hz]at hb2
     exact⟨_,rfl,_,rfl,_,_,rfl,rfl,⟨hm,hm2⟩,_,rfl,d,_,_,2,rfl,rfl,hd1,rfl,_,rfl,_,rfl,_,_,rfl,rfl,hm,big ⟨hb1,hb2⟩⟩
    .have hq:=tl λhb=>hb2 (Je (by rw[Hz];exact hb.2))
     refine⟨_,rfl,_,_,rfl,rfl,(by show(0:Int)<1000003;decide),_,rfl,_,_,rfl,rfl,.inl ⟨by decide,by decide⟩,_,rfl,_,_,rfl,rfl,.inr ⟨by omega,by omega⟩,_,_,rfl,rfl,_,rfl,_,_,rfl,rfl,.inl ⟨by decide,by decide⟩,_,_,rfl,rfl,_,_,rfl,rfl,_,_,rfl,rfl,.inr ⟨by decide,by decide⟩,_,_,rfl,rfl,(by show(0:Int)<999983;decide),?_⟩
     refine⟨_,rfl,_,rfl,_,_,rfl,rfl,.inl ⟨by omega,by omega⟩,_,rfl,_,_,rfl,rfl,.inl ⟨by decide,by decide⟩,_,_,rfl,rfl,_,_,rfl,rfl,_,_,rfl,rfl,(by show(0:Int)<2097143;decide),?_⟩
     exact⟨_,_,rfl,rfl,.inr ⟨by decide,by decide⟩,_,_,rfl,rfl,(by show(0:Int)<2147483629;decide),_,_,rfl,rfl,⟨by decide,by decide⟩,_,rfl,_,_,rfl,rfl,hm,hq⟩
    .have hq:=tl λhb=>hb1 (Je hb.1)
     refine⟨_,rfl,_,_,rfl,rfl,(by show(0:Int)<1000003;decide),_,rfl,_,_,rfl,rfl,.inl ⟨by decide,by decide⟩,_,rfl,_,_,rfl,rfl,.inr ⟨by omega,by omega⟩,_,_,rfl,rfl,_,rfl,_,_,rfl,rfl,.inl ⟨by decide,by decide⟩,_,_,rfl,rfl,_,_,rfl,rfl,_,_,rfl,rfl,.inr ⟨by decide,by decide⟩,_,_,rfl,rfl,(by show(0:Int)<999983;decide),?_⟩
     refine⟨_,rfl,_,rfl,_,_,rfl,rfl,.inl ⟨by omega,by omega⟩,_,rfl,_,_,rfl,rfl,.inl ⟨by decide,by decide⟩,_,_,rfl,rfl,_,_,rfl,rfl,_,_,rfl,rfl,(by show(0:Int)<2097143;decide),?_⟩
     exact⟨_,_,rfl,rfl,.inr ⟨by decide,by decide⟩,_,_,rfl,rfl,(by show(0:Int)<2147483629;decide),_,_,rfl,rfl,⟨by decide,by decide⟩,_,rfl,_,_,rfl,rfl,hm,hq⟩
theorem jB:FnScope ["_law_feed_here"] ["_law_feed_here"] (defScope Ep):={}
abbrev eM:=bY
theorem FT {f:Addr}{fd:FuncData}(Fn:Fun K "_law_rule" "_law_rule" Ep f fd)(T:Txt K mg)(DA:j8 P w K mg base "_law_next" 1 ["_law_feed_here","_law_many"] (spD K 2 N7)):FnOk P w K mg base CX0 2 f fd ["_law_feed_here"] (spD K 1 eM):=by
 refine Q2 Fn jB λcdv A outer s H E hr=>?_
 exact⟨_,(j4 (p9 (B4 (A4 rfl) (Ev.bw (Z3 (.list [.str "first",.str "last",.str "short",.str "front",.str "lastoff",.str "shortoff",.str "frontoff",.str "turns"]) rfl)) (Ev.bw (n9 DA (hr.mono (by decide)) (dk 0 (C9 k4 u5)) (cV (D1 u3)))))))⟩
theorem aR:FnScope ["_law_feed_here","_law_places"] ["_law_feed_here"] (defScope DY):={}
abbrev J4:=ax
theorem FG {f:Addr}{fd:FuncData}(Fn:Fun K "_law_house" "_law_house" DY f fd)(T:Txt K mg)(DA:j8 P w K mg base "_law_next" 1 ["_law_feed_here","_law_many"] (spD K 2 N7))(Er:j8 P w K mg base "_law_rule" 2 ["_law_feed_here"] (spD K 1 eM)):FnOk P w K mg base CX0 3 f fd ["_law_feed_here"] (spD K 1 J4):=by
 refine Q2 Fn aR λcdv A outer s H E hr=>?_
 exact⟨_,(d5 (A3 1 aR.nd (B4 (A4 rfl) (Ev.bw (Z3 (.list [.none,.none,.none,.int 0,.int 1,.int 2,.int 3,.int 4,.int 5,.int 6]) rfl)) (Ev.bw (n9 DA (hr.mono (by decide)) (dk 0 (C9 k4 u5)) (cV (D1 u3))))))
   (j4 (p9 (F0 (d0 (M6 (P6 rfl) (Ev.bw k4) (Ev.bw (n9 DA (hr.mono (by decide)) (dk 0 (C9 k4 u5)) (cV (D1 u3))))) (d0 (k9 1) (d0 (n9 Er (hr.mono (by decide)) (dk 0 u5) (cV u3)) k7)))))))⟩
theorem D2:FnScope ["_law_feed_here","_law_beats","_law_works","_law_way_here","_law_many","_law_k","_law_beat_here","_law_j"] ["_law_feed_here","_law_beats","_law_works"] (defScope EE):={}
abbrev gh:=ka ["_law_feed_here","_law_beats","_law_works","_law_way_here","_law_many","_law_k","_law_beat_here","_law_j"]
theorem Gg {f:Addr}{fd:FuncData}(Fn:Fun K "_law_way" "_law_way" EE f fd)(T:Txt K mg)(DA:j8 P w K mg base "_law_next" 1 ["_law_feed_here","_law_many"] (spD K 2 N7)):FnOk P w K mg base CX0 2 f fd ["_law_feed_here","_law_beats","_law_works"] (spD K 3 gh):=by
 refine Q2 Fn D2 λcdv A outer s H E hr=>?_
 exact⟨_,(d5 (bf 3 D2.nd (Y3 k7))
   (d5 (A3 4 D2.nd k4)
   (d5 (V2 rfl (cm (d0 (n9 DA (hr.mono (by decide)) (dk 0 (C9 (M6 (P6 rfl) (h8 1) (Ev.bw k4)) u5)) (cV (D1 u3))) k7) T.range) (v8 (i:=5) D2.nd) (d5 (bf 6 D2.nd (Y3 k7))
   (d5 (V2 rfl (cm (d0 (B4 (A4 rfl) (Ev.bw (Z3 (.list [.int 0,.int 0,.int 1,.int 1,.int 2,.int 3]) rfl)) (Ev.bw (n9 DA (hr.mono (by decide)) (dk 0 (C9 k4 u5)) (cV (D1 u3))))) k7) T.range) (v8 (i:=7) D2.nd) (j4 (O0 (C1 uL (h8 4) (Ev.bw k4)) (d5 (bg 6 rfl (F0 (d0 (n9 DA (hr.mono (by decide)) (dk 0 (C9 k4 u5)) (cV (D1 u3))) (d0 (M6 (P6 rfl) (Ev.bw k4) (Ev.bw (n9 DA (hr.mono (by decide)) (dk 0 (C9 (k9 2) u5)) (cV (D1 u3))))) k7))))
   (j4 (A3 4 D2.nd (M6 (P6 rfl) (h8 4) (Ev.bw k4))))) G8)))
   (j4 (bg 3 rfl (M2 (T6 rfl) T.tuple T9 (l5 (h8 6) u6)))))))
   (j4 (p9 (M2 (T6 rfl) T.tuple T9 (l5 (h8 3) u6)))))))⟩
theorem R9:FnScope ["_law_feed_here","_law_beats"] ["_law_feed_here"] (defScope DJ):={}
abbrev A9:=bM ["_law_feed_here","_law_beats","_law_works","_law_way_here","_law_many","_law_k","_law_beat_here","_law_j"]
theorem EV {f:Addr}{fd:FuncData}(Fn:Fun K "_law_sized_way" "_law_sized_way" DJ f fd)(T:Txt K mg)(DA:j8 P w K mg base "_law_next" 1 ["_law_feed_here","_law_many"] (spD K 2 N7))(EH:j8 P w K mg base "_law_way" 2 ["_law_feed_here","_law_beats","_law_works"] (spD K 3 gh)):FnOk P w K mg base CX0 3 f fd ["_law_feed_here"] (spD K 1 A9):=by
 refine Q2 Fn R9 λcdv A outer s H E hr=>?_
 exact⟨_,(d5 (A3 1 R9.nd (B4 (A4 rfl) (Ev.bw (Z3 (.list [.int 5,.int 9,.int 14,.int 24]) rfl)) (Ev.bw (n9 DA (hr.mono (by decide)) (dk 0 (C9 k4 u5)) (cV (D1 u3))))))
   (j4 (p9 (n9 EH (hr.mono (by decide)) (dk 0 (C9 (k9 1) (C9 (B4 (A4 rfl) (Ev.bw (Z3 (.list [.int 1,.int 3,.int 6]) rfl)) (Ev.bw (n9 DA (hr.mono (by decide)) (dk 0 (C9 k4 u5)) (cV (D1 u3))))) u5))) (cV (D1 (D1 u3)))))))⟩
theorem il:FnScope ["_law_rule_here","_law_one","_law_other"] ["_law_rule_here","_law_one","_law_other"] (defScope DN):={}
abbrev cH:=cn
theorem FH {f:Addr}{fd:FuncData}(Fn:Fun K "_law_ahead" "_law_ahead" DN f fd)(T:Txt K mg) :FnOk P w K mg base CX0 1 f fd ["_law_rule_here","_law_one","_law_other"] (spD K 3 cH):=by
 refine Q2 Fn il λcdv A outer s H E hr=>?_
 have hu5:(A.deeper (PyProof.Rows.envOfC "_law_ahead" (defScope DN) s.heap.objs.size f cdv)).units+65<cLine:=by have:=hr.un;omega
 exact⟨_,(d5 (O0 (C1 (sL rfl hr.units) (Ev.bw (B4 (A4 rfl) (h8 1) (Ev.bw k4))) (Ev.bw (B4 (A4 rfl) (h8 2) (Ev.bw k4)))) (j4 (p9 (B4 (A4 rfl) (h8 1) (Ev.bw k4)))) G8)
   (d5 (O0 (C1 (W9 rfl hu5) (h8 0) (Ev.bw (Z3 (.tuple [.str "last",.str "lastoff"]) rfl))) (j4 (p9 eQ)) G8)
   (d5 (O0 (C1 (W9 rfl hu5) (h8 0) (Ev.bw (Z3 (.tuple [.str "short",.str "shortoff"]) rfl))) (j4 (p9 (cY uL (Ev.bw (B4 (A4 rfl) (h8 1) (Ev.bw k4))) (Ev.bw (B4 (A4 rfl) (h8 2) (Ev.bw k4)))))) G8)
   (j4 (p9 (zH (cY (W9 rfl hu5) (h8 0) (Ev.bw (Z3 (.tuple [.str "front",.str "frontoff"]) rfl))) (AS (cY uL (Ev.bw (B4 (A4 rfl) (h8 1) (Ev.bw k4))) (Ev.bw (B4 (A4 rfl) (h8 2) (Ev.bw k4)))))))))))⟩
section
local instance GY:Feeds:=E7
theorem l8:FnScope ["_law_m","_law_hands","_law_places","_law_rule_here","_law_line","_law_found","_law_hand","_law_best","_law_place"] ["_law_m"] (defScope DL):={}
abbrev aQ:=LM.EY
theorem Fw {f:Addr}{fd:FuncData}(Fn:Fun K "_law_picked" "_law_picked" DL f fd)(T:Txt K mg)(DH:j8 P w K mg base "_law_ahead" 1 ["_law_rule_here","_law_one","_law_other"] (@spD fdI K 3 cH)):FnOk P w K mg base CX0 2 f fd ["_law_m"] (spM K 1 aQ):=by
 refine kj Fn l8 (by decide) λcdv A outer s H E hr=>?_
 have hu5:(A.deeper (PyProof.Rows.envOfC "_law_picked" (defScope DL) s.heap.objs.size f cdv)).units+65<cLine:=by have:=hr.un;omega
 have DH:=iN (show Regs.lam=Fam.lam from rfl) DH
 exact⟨_,(O8 (Az (zL (la hu5)) (K2 (n:=3) rfl (e9 (v8 (i:=1) l8.nd) (e9 (v8 (i:=2) l8.nd) (e9 (v8 (i:=3) l8.nd) B9)))) (ja (Q1 (V6 (by decide)) (Q1 (V6 (by decide)) (Q1 (V6 (by decide)) iK))))) (rJ 4 hu5 l8.nd (bR (bf 5 l8.nd (Y3 k7))
   (bR (V2 rfl (cm (d0 (q4 (Af rfl rfl) T.min zg (l5 (h8 1) (l5 (Ev.bw (q4 (S8 rfl) T.len S5 (l5 (h8 4) u6))) u6))) k7) T.range) (v8 (i:=6) l8.nd) (d5 (A3 7 l8.nd Z9)
   (d5 (V2 rfl (cm (d0 (q4 (S8 rfl) T.len S5 (l5 (h8 4) u6)) k7) T.range) (v8 (i:=8) l8.nd) (d5 (O0 (C1 (W9 rfl hu5) (h8 8) (h8 5)) (j4 wQ) G8)
   (j4 (O0 (Ew.t (vB (C1 sQ (h8 7) (Ev.bw Z9)) (oW (dN (Ev.bw (n9 DH (hr.mono (by decide)) (C9 (k9 3) (C9 (B4 (A4 rfl) (h8 4) (h8 8)) (C9 (B4 (A4 rfl) (h8 4) (h8 7)) u5))) (D1 (D1 (D1 u3))))))))) (j4 (A3 7 l8.nd (k9 8))) G8))))
   (j4 (bg 5 rfl (k9 7))))))
   (vo 5)))))⟩
end
section
local instance He:Feeds:=E7
theorem B8:FnScope ["_law_m","_law_comers","_law_places","_law_lost","_law_rank","_law_work","_law_is_lost"] ["_law_m","_law_comers"] (defScope DQ):={}
abbrev eD:=LM.FO
theorem FU {f:Addr}{fd:FuncData}(Fn:Fun K "_law_come" "_law_come" DQ f fd)(T:Txt K mg) :FnOk P w K mg base CX0 1 f fd ["_law_m","_law_comers"] (spM K 2 eD):=by
 refine kj Fn B8 (by decide) λcdv A outer s H E hr=>?_
 have hu5:(A.deeper (PyProof.Rows.envOfC "_law_come" (defScope DQ) s.heap.objs.size f cdv)).units+65<cLine:=by have:=hr.un;omega
 exact⟨_,(O8 (jZ 2 (by decide) B8.nd (Ce (A4 rfl) (zL (la hu5)) (mU k4)))
   (O8 (sU (A3 3 B8.nd k4))
   (O8 (uq rfl (jz (k9 1)) (K2 (n:=2) rfl (e9 (v8 (i:=4) B8.nd) (e9 (v8 (i:=5) B8.nd) B9))) (ja (Q1 (V6 (by decide)) (Q1 (V6 (by decide)) iK))) (O8 (jZ 6 (by decide) B8.nd (AO (mU (cY tj (h8 2) (Ev.bw Z9))) (zB (BA CC (zL (xv rfl hu5 T.len)) (mU (k9 2))))))
   (O8 (Cp (Be (oO (dN (h8 6)))) (jS (xi rfl hu5 (M4 (wN rfl hu5 T.len) (M4 (rl (k9 4)) (M4 (rl (k9 5)) (M4 (rl eQ) qj)))))) AA)
   (O8 (xq rfl hu5 (M4 (rl (B4 (A4 rfl) (Ev.bw (Z3 (.list [.str "in",.str "lost"]) rfl)) (Ev.bw (M2 (vi) T.int vL (l5 (h8 6) u6))))) (M4 (Cv hu5) (M4 (rl Z9) (M4 (rl k4) qj)))))
   (jS (sU (A3 3 B8.nd (M6 (P6 rfl) (h8 3) (Ev.bw (M2 (vi) T.int vL (l5 (h8 6) u6)))))))))))
   (jS (sU (p9 (k9 3)))))))⟩
end
section
local instance Hf:Feeds:=E7
theorem v4:FnScope ["_law_m","_law_comers","_law_lost","_law_some","_law_stay","_law_turned","_law_gone","_law_place","_law_person","_law_row"] ["_law_m","_law_comers"] (defScope DR):={}
abbrev eK:=LM.ES
theorem FV {f:Addr}{fd:FuncData}(Fn:Fun K "_law_beat" "_law_beat" DR f fd)(T:Txt K mg)(Eu:j8 P w K mg base "_law_come" 1 ["_law_m","_law_comers"] (spM K 2 eD))(DT:j8 P w K mg base "_law_picked" 2 ["_law_m"] (spM K 1 aQ)):FnOk P w K mg base CX0 3 f fd ["_law_m","_law_comers"] (spM K 2 eK):=by
 refine kj Fn v4 (by decide) λcdv A outer s H E hr=>?_
 have hu5:(A.deeper (PyProof.Rows.envOfC "_law_beat" (defScope DR) s.heap.objs.size f cdv)).units+65<cLine:=by have:=hr.un;omega
 exact⟨_,(have hu:=CL hr;O8 (jZ 2 (by decide) v4.nd (jH Eu (hr.mono (by decide)) (ly (mU (k9 1)) jy) (lD jA)))
   (O8 (jZ 3 (by decide) v4.nd (jH DT (hr.mono (by decide)) jy jA))
   ⟨(i9 (pD hu (pv 0) v5 (x3 V3 (C0 hu (pv 0) v5 (λ_ _=>rfl)) f7) rfl)
   (i9 (G7 (i:=4) v4.nd rfl (Or.inl rfl) (N4 j9)) (i9 (G7 (i:=5) v4.nd rfl (Or.inl rfl) (N4 j9)) (i9 (G7 (i:=6) v4.nd rfl (Or.inl rfl) (N4 j9))
   (i9 (ox PassesOwn.never rfl (iU rfl T.range (f9 (Q9 E5 rfl T.len KS (f9 (C0 hu (pv 0) v5 (λ_ _=>rfl)) j9)) j9)) (ff (i:=7) v4.nd rfl (Or.inl rfl))
    (i9 (G7 (i:=8) v4.nd rfl (Or.inl rfl) (G5 x9 (C0 hu (pv 0) v5 (λ_ _=>rfl)) (pv 7) (λ_ _=>rfl)))
    (i9 (G7 (i:=9) v4.nd rfl (Or.inl rfl) (G5 x9 (C0 hu (pv 0) v5 (λ_ _=>rfl)) (G5 x9 (pv 8) f7 (λ_ _=>rfl)) (λ_ _=>rfl)))
    (i9 (gM (O6 (W9 rfl hu5) (pv 7) (pv 3) rfl)
      (i9 (M9 (x3 uk (G5 x9 (pv 8) f7 (λ_ _=>rfl)) f7) (U9 (pv 8) f7 K3 (λ_=>rfl))) (z7 (M9 (kC (W9 rfl hu5) (G5 oa (C0 hu (pv 0) v5 (λ_ _=>rfl)) f7 (λ_ _=>rfl)) (Z3 (K:=K) mJ rfl).pe rfl) (U9 (pv 8) f7 K3 (λ_=>rfl)))))
      (z7 (M9 (x3 V3 (G5 x9 (pv 9) f7 (λ_ _=>rfl)) f7) (U9 (pv 9) f7 K3 (λ_=>rfl)))))
    (z7 (gM (O6 vd (G5 x9 (pv 8) f7 (λ_ _=>rfl)) f7 (W2 _))
      (i9 (M9 v5 (U9 (pv 9) f7 K3 (λ_=>rfl))) (i9 (M9 (C0 hu (pv 0) v5 (λ_ _=>rfl)) (U9 (pv 9) f7 K3 (λ_=>rfl))) (z7 (S4 (ia Ju JB JC J0 (pv 6) (f9 (G5 x9 (pv 8) f7 (λ_ _=>rfl)) j9))))))
      (z7 (gM (PW.pt (vC (O6 (W9 rfl hu5) (pv 7) (pv 3) rfl) (pI (O6 vd (G5 oa (C0 hu (pv 0) v5 (λ_ _=>rfl)) f7 (λ_ _=>rfl)) v5 (W2 _))))) (z7 (S4 (ia Ju JB JC J0 (pv 5) (f9 (pv 8) j9)))) (z7 (S4 (ia Ju JB JC J0 (pv 4) (f9 (pv 8) j9))))))))))))
   (i9 (pD hu (pv 0) v5 (x3 uz (pv 4) (pv 5)) rfl) (z7 (W7 (gc (f9 (pv 2) (f9 (pv 6) j9))))))))))),zq⟩))⟩
end
section
local instance Hg:Feeds:=E7
theorem kK:FnScope ["_law_house_here"] ["_law_house_here"] (defScope EF):={}
theorem Gh {f:Addr}{fd:FuncData}(Fn:Fun K "_law_new" "_law_new" EF f fd)(T:Txt K mg):FnOk P w K mg base CX0 1 f fd ["_law_house_here"] (spN K ar):=by
 refine Fn.ok kK (λvs H Q E h=>?_) (λcdv A outer s H vs Q E hr h=>?_)
 .obtain⟨B,hh,μ,v,rfl,_⟩:=h;rfl
 .exact⟨_,z7 (W7 (vV (cJ v5 (pv 0) (cJ v5 (N4 j9) (cJ v5 (N4 j9) (cJ v5 f7 wy)))) rfl rfl (by simp) (by decide))),Cu h rfl⟩
end
theorem D5:FnScope ["_law_row","_law_word","_law_beat_here","_law_moment","_law_waits"] ["_law_row"] (defScope DS):={}
abbrev aT:=t9
theorem Fx {f:Addr}{fd:FuncData}(Fn:Fun K "_law_course" "_law_course" DS f fd)(T:Txt K mg) :FnOk P w K mg base CX0 1 f fd ["_law_row"] (spD K 1 aT):=by
 refine Q2 Fn D5 λcdv A outer s H E hr=>?_
 exact⟨_,(d5 (bA (k9 0) (zG (n:=4) rfl (e9 (v8 (i:=1) D5.nd) (e9 (v8 (i:=2) D5.nd) (e9 (v8 (i:=3) D5.nd) (e9 (v8 (i:=4) D5.nd) B9))))))
   (d5 (O0 (C1 (tD rfl hr.units) (h8 1) (Ev.bw S7)) (j4 (p9 (F0 (d0 S7 (d0 (k9 2) k7))))) G8)
   (d5 (O0 (C1 (tD rfl hr.units) (h8 1) (Ev.bw S7)) (j4 (p9 (F0 (d0 S7 (d0 (k9 2) (d0 (k9 4) k7)))))) G8)
   (j4 (p9 (F0 (d0 S7 (d0 (k9 2) (d0 (k9 3) (d0 (k9 4) k7))))))))))⟩
section
local instance GQ:Feeds:=E7
theorem N1:FnScope ["_law_house_here","_law_way_here","_law_m","_law_beat_here"] ["_law_house_here","_law_way_here"] (defScope DD):={}
abbrev B5:=LM.FP
theorem Fo {f:Addr}{fd:FuncData}(Fn:Fun K "_law_courses" "_law_courses" DD f fd)(T:Txt K mg)(EI:j8 P w K mg base "_law_new" 1 ["_law_house_here"] (spN K ar))(Ex:j8 P w K mg base "_law_beat" 3 ["_law_m","_law_comers"] (spM K 2 eK))(DF:j8 P w K mg base "_law_course" 1 ["_law_row"] (@spD fdI K 1 aT)):FnOk P w K mg base CX0 4 f fd ["_law_house_here","_law_way_here"] (spP K 2 B5):=by
 refine yh (show Regs.lam=Fam.lam from rfl) Fn N1 (by decide) (by decide) (Ao Bz) λcdv A outer s H E hr=>?_
 have hu5:(A.deeper (PyProof.Rows.envOfC "_law_courses" (defScope DD) s.heap.objs.size f cdv)).units+65<cLine:=by have:=hr.un;omega
 have DF:=iN (show Regs.lam=Fam.lam from rfl) DF
 exact⟨_,_,_,rfl,G7 (i:=2) N1.nd rfl (Or.inl rfl) (P4 EI (hr.mono (by decide)) rfl (f9 (pv 0) j9)),(wI (uq rfl (jz (k9 1)) (v8 (i:=3) N1.nd) (V6 (by decide)) (jS (Bx (jH Ex (hr.mono (by decide)) (ly (mU (k9 3)) jy) (lD jA)))))
   (Bi (xf (book:=true) (osc:=(defScope DD)) (N:=["_law_row"]) (k:=1) rfl hu5 rfl rfl ⟨rfl,by decide +kernel,by decide +kernel,by decide +kernel,rfl,rfl,by decide +kernel⟩ (λcl C ex pins s H=>(v8 (i:=0) (show List.Nodup (["_law_row"]:List Str) by decide +kernel))) (λcl C ex pins s H=>fw) (λcl C ex pins s H=>(n9 DF (hr.mono (by decide)) (C9 (k9 0) u5) (D1 u3))))))⟩
end
theorem P9:FnScope ["_law_house_here","_law_way_here","_law_due","_law_told"] ["_law_house_here","_law_way_here","_law_due"] (defScope DG):={}
def r8:List DV->M PyData:=X5 ["_law_house_here","_law_way_here","_law_due","_law_told"] (mSq (dA 3 (qm P5 (vD (sV 0) (vD (sV 1) D8))))
  (mSq (mIf (uOr (qU (uT (s1 (yP "list") (sW 3)))) (uB (s2 (eqD true) (sN hU (c6 (sW 3) h9)) (sN hU (c6 (sW 2) h9))))) (mRt (sC (.bool false))) mNx)
  (mSq (cZ 3 (sC (.tuple [.str "lost",.int 0])))
  (mSq (tG 3 (sC (.int 0)) (sC (.tuple [.str "in",.int 0,.int 0])))
  (mRt (sC (.bool true)))))))
theorem EJ {f:Addr}{fd:FuncData}(Fn:Fun K "_law_told_right" "_law_told_right" DG f fd)(T:Txt K mg)(EK:j8 P w K mg base "courses" 4 ["house","way"] (spG K 2 P5)):FnOk P w K mg base CX0 5 f fd ["_law_house_here","_law_way_here","_law_due"] (spD K 3 r8):=by
 refine Q2 Fn P9 λcdv A outer s H E hr=>?_
 exact⟨_,(d5 (bf 3 P9.nd (xP EK (hr.mono (by decide)) (C9 (k9 0) (C9 (k9 1) u5)) (D1 (D1 u3))))
   (d5 (O0 (Ew.t (vB (oO (dN (Ev.bw (yi "list" (h8 3) (by decide) T.isinstance T.list fu)))) (oW (C1 (sL rfl hr.units) (Ev.bw (q4 (fD rfl hr.gd hr.units) T.repr fo (l5 (h8 3) u6))) (Ev.bw (q4 (fD rfl hr.gd hr.units) T.repr fo (l5 (h8 2) u6))))))) (j4 (p9 eQ)) G8)
   (d5 (bg 3 rfl (Z3 (.tuple [.str "lost",.int 0]) rfl))
   (d5 (Ac 3 rfl k4 (Z3 (.tuple [.str "in",.int 0,.int 0]) rfl))
   (j4 (p9 eQ))))))⟩
end
end
section
section
variable {P:Program}{w:World}{K:PySem.W.Frag}{mg:Str->Option Value}{base:Heap}
theorem Q3:FnScope ["_law_script","_law_feed_here","_law_cases","_law_turn","_law_house_here","_law_way_here","_law_kept","_law_at","_law_due"] ["_law_script"] (defScope DC):={}
def cg:Stmt->List Stmt
 | .For _ _ b _ _=>b
 | _=>[]
def fy:DE->M Out:=(dA 2 (dm h9))
def au:DE->M Out:=(D7 4 (p0 J4 (vF 1 D8)))
def ay:DE->M Out:=(D7 5 (p0 A9 (vF 1 D8)))
def az:DE->M Out:=(cZ 2 (O9 (c6 (sV 4) (c6 (sV 5) (c6 (p0 B5 (vD (sV 4) (vD (sV 5) D8))) h9)))))
def kf:DE->M Out:=(bo (eE (c6 (sC (.int 2)) h9)) (bN 3) (mSq au (mSq ay az)))
def fx:DE->M Out:=(D7 6 (sN hU (c6 (sW 2) h9)))
def aq:DE->M Out:=(bu (M3 3 (i8 (bN 4) (i8 (bN 5) (i8 (bN 8) M1)))) (s2 ixD (sW 2) (sW 7)))
def aj:DE->M Out:=(mIf (uOr (qU (uT (p0 r8 (vD (sV 4) (vD (sV 5) (vD (sV 8) D8)))))) (uB (s2 (eqD true) (sN hU (c6 (sW 2) h9)) (sW 6)))) (mRt (sC (.bool false))) mNx)
def jJ:DE->M Out:=(bo (X4 (sC (.tuple [.int 1,.int 0,.int 1,.int 0]))) (bN 7) (mSq aq aj))
def fh:DE->M Out:=(mRt (sC (.bool true)))
section
variable {f:Addr}{cdv:Value}{A:Around}{outer:List Env}{s:Shared}{H:Hp}{E:XK}(T:Txt K mg)(hr:Room 5 (A.deeper (PyProof.Rows.envOfC "law" (defScope DC) s.heap.objs.size f cdv)))(hu5:(A.deeper (PyProof.Rows.envOfC "law" (defScope DC) s.heap.objs.size f cdv)).units+65<cLine)(DB:j8 P w K mg base "_law_house" 3 ["_law_feed_here"] (spD K 1 J4))(Dy:j8 P w K mg base "_law_sized_way" 3 ["_law_feed_here"] (spD K 1 A9))(Dz:j8 P w K mg base "_law_courses" 4 ["_law_house_here","_law_way_here"] (spP K 2 B5))(Dx:j8 P w K mg base "_law_told_right" 5 ["_law_house_here","_law_way_here","_law_due"] (spD K 3 r8))
include T hr hu5 DB Dy Dz Dx
theorem vS:∃ts,Ss K (M8 CX0 P w K mg base ["_law_script","_law_feed_here","_law_cases","_law_turn","_law_house_here","_law_way_here","_law_kept","_law_at","_law_due"] "law" (defScope DC) f cdv A outer s H E).nox ((defBody DC).getD 1 (.Pass ⟨0,0,0,0⟩)) ts fy:=by
 unfold fy
 exact⟨_,(bf 2 Q3.nd (Y3 k7))⟩
theorem oj:∃ts,Ss K (M8 CX0 P w K mg base ["_law_script","_law_feed_here","_law_cases","_law_turn","_law_house_here","_law_way_here","_law_kept","_law_at","_law_due"] "law" (defScope DC) f cdv A outer s H E).nox ((cg ((defBody DC).getD 2 (.Pass ⟨0,0,0,0⟩))).getD 0 (.Pass ⟨0,0,0,0⟩)) ts au:=by
 unfold au
 exact⟨_,(A3 4 Q3.nd (n9 DB (hr.mono (by decide)) (dk 1 u5) (cV u3)))⟩
theorem oU:∃ts,Ss K (M8 CX0 P w K mg base ["_law_script","_law_feed_here","_law_cases","_law_turn","_law_house_here","_law_way_here","_law_kept","_law_at","_law_due"] "law" (defScope DC) f cdv A outer s H E).nox ((cg ((defBody DC).getD 2 (.Pass ⟨0,0,0,0⟩))).getD 1 (.Pass ⟨0,0,0,0⟩)) ts ay:=by
 unfold ay
 exact⟨_,(A3 5 Q3.nd (n9 Dy (hr.mono (by decide)) (dk 1 u5) (cV u3)))⟩
theorem nR:∃ts,Ss K (M8 CX0 P w K mg base ["_law_script","_law_feed_here","_law_cases","_law_turn","_law_house_here","_law_way_here","_law_kept","_law_at","_law_due"] "law" (defScope DC) f cdv A outer s H E).nox ((cg ((defBody DC).getD 2 (.Pass ⟨0,0,0,0⟩))).getD 2 (.Pass ⟨0,0,0,0⟩)) ts az:=by
 unfold az
 exact⟨_,(bg 2 rfl (F0 (d0 (k9 4) (d0 (k9 5) (d0 (vf rfl Dz (hr.mono (by decide)) (C9 (k9 4) (C9 (k9 5) u5)) (D1 (D1 u3))) k7)))))⟩
theorem uu:∃ts,Ss K (M8 CX0 P w K mg base ["_law_script","_law_feed_here","_law_cases","_law_turn","_law_house_here","_law_way_here","_law_kept","_law_at","_law_due"] "law" (defScope DC) f cdv A outer s H E).nox ((defBody DC).getD 2 (.Pass ⟨0,0,0,0⟩)) ts kf:=by
 obtain⟨t_law_2_0,h_law_2_0⟩:=oj (f:=f) (cdv:=cdv) (A:=A) (outer:=outer) (s:=s) (H:=H) (E:=E) T hr hu5 DB Dy Dz Dx
 obtain⟨t_law_2_1,h_law_2_1⟩:=oU (f:=f) (cdv:=cdv) (A:=A) (outer:=outer) (s:=s) (H:=H) (E:=E) T hr hu5 DB Dy Dz Dx
 obtain⟨t_law_2_2,h_law_2_2⟩:=nR (f:=f) (cdv:=cdv) (A:=A) (outer:=outer) (s:=s) (H:=H) (E:=E) T hr hu5 DB Dy Dz Dx
 exact⟨_,V2 rfl (cm (d0 k4 k7) T.range) (v8 (i:=3) Q3.nd) (d5 h_law_2_0 (d5 h_law_2_1 (j4 h_law_2_2)))⟩
theorem tV:∃ts,Ss K (M8 CX0 P w K mg base ["_law_script","_law_feed_here","_law_cases","_law_turn","_law_house_here","_law_way_here","_law_kept","_law_at","_law_due"] "law" (defScope DC) f cdv A outer s H E).nox ((defBody DC).getD 3 (.Pass ⟨0,0,0,0⟩)) ts fx:=by
 unfold fx
 exact⟨_,(A3 6 Q3.nd (q4 (fD rfl hr.gd hr.units) T.repr fo (l5 (h8 2) u6)))⟩
theorem om:∃ts,Ss K (M8 CX0 P w K mg base ["_law_script","_law_feed_here","_law_cases","_law_turn","_law_house_here","_law_way_here","_law_kept","_law_at","_law_due"] "law" (defScope DC) f cdv A outer s H E).nox ((cg ((defBody DC).getD 4 (.Pass ⟨0,0,0,0⟩))).getD 0 (.Pass ⟨0,0,0,0⟩)) ts aq:=by
 unfold aq
 exact⟨_,(bA (B4 (A4 rfl) (h8 2) (h8 7)) (K2 (n:=3) rfl (e9 (v8 (i:=4) Q3.nd) (e9 (v8 (i:=5) Q3.nd) (e9 (v8 (i:=8) Q3.nd) B9)))))⟩
theorem nX:∃ts,Ss K (M8 CX0 P w K mg base ["_law_script","_law_feed_here","_law_cases","_law_turn","_law_house_here","_law_way_here","_law_kept","_law_at","_law_due"] "law" (defScope DC) f cdv A outer s H E).nox ((cg ((defBody DC).getD 4 (.Pass ⟨0,0,0,0⟩))).getD 1 (.Pass ⟨0,0,0,0⟩)) ts aj:=by
 unfold aj
 exact⟨_,(O0 (Ew.t (vB (oO (dN (Ev.bw (n9 Dx (hr.mono (by decide)) (C9 (k9 4) (C9 (k9 5) (C9 (k9 8) u5))) (D1 (D1 (D1 u3))))))) (oW (C1 (sL rfl hr.units) (Ev.bw (q4 (fD rfl hr.gd hr.units) T.repr fo (l5 (h8 2) u6))) (h8 6))))) (j4 (p9 eQ)) G8)⟩
theorem vy:∃ts,Ss K (M8 CX0 P w K mg base ["_law_script","_law_feed_here","_law_cases","_law_turn","_law_house_here","_law_way_here","_law_kept","_law_at","_law_due"] "law" (defScope DC) f cdv A outer s H E).nox ((defBody DC).getD 4 (.Pass ⟨0,0,0,0⟩)) ts jJ:=by
 obtain⟨t_law_4_0,h_law_4_0⟩:=om (f:=f) (cdv:=cdv) (A:=A) (outer:=outer) (s:=s) (H:=H) (E:=E) T hr hu5 DB Dy Dz Dx
 obtain⟨t_law_4_1,h_law_4_1⟩:=nX (f:=f) (cdv:=cdv) (A:=A) (outer:=outer) (s:=s) (H:=H) (E:=E) T hr hu5 DB Dy Dz Dx
 exact⟨_,V2 rfl (jz (Z3 (.tuple [.int 1,.int 0,.int 1,.int 0]) rfl)) (v8 (i:=7) Q3.nd) (d5 h_law_4_0 (j4 h_law_4_1))⟩
theorem tE:∃ts,Ss K (M8 CX0 P w K mg base ["_law_script","_law_feed_here","_law_cases","_law_turn","_law_house_here","_law_way_here","_law_kept","_law_at","_law_due"] "law" (defScope DC) f cdv A outer s H E).nox ((defBody DC).getD 5 (.Pass ⟨0,0,0,0⟩)) ts fh:=by
 unfold fh
 exact⟨_,(p9 eQ)⟩
end
def lW:DE->M Out:=(mSq fy (mSq kf (mSq fx (mSq jJ fh))))
theorem AB {α:Type}(l:List α)(d:α)(h:0<l.length):l=l.getD 0 d::l.drop 1:=by
 cases l with
 | nil=>simp at h
 | cons a r=>rfl
def spLaw (K:PySem.W.Frag):Sp:=λvs H Q _=>∃(a:Addr) (ns:List Int),vs=[.ref a]/\SqL K H a (ns.map V.int)/\ns.length<=63/\z9 (tabsK Feeds.lam K) H/\∀H',Q (.bl true) H'
theorem tI {f:Addr}{cdv:Value}{A:Around}{outer:List Env}{s:Shared}{H:Hp}{E:XK}(hr:Room 5 (A.deeper (PyProof.Rows.envOfC "law" (defScope DC) s.heap.objs.size f cdv)))(CF:j8 P w K mg base "_law_feed" 1 ["_law_script"] (jI K)) :
  PS (M8 CX0 P w K mg base ["_law_script","_law_feed_here","_law_cases","_law_turn","_law_house_here","_law_way_here","_law_kept","_law_at","_law_due"] "law" (defScope DC) f cdv A outer s H E).nox ((defBody DC).getD 0 (.Pass ⟨0,0,0,0⟩)) (G9 (U3 (jI K) [] E0 (l9 (l4 0) C4)) (D3 1)) :=
 G7 (i:=1) Q3.nd rfl (by first | exact Or.inl rfl | exact Or.inr rfl) (P4 CF (hr.mono (by decide)) rfl (f9 (pv 0) j9))
theorem Hr {f:Addr}{fd:FuncData}(Fn:Fun K "law" "law" DC f fd)(T:Txt K mg)(CF:j8 P w K mg base "_law_feed" 1 ["_law_script"] (jI K))(DB:j8 P w K mg base "_law_house" 3 ["_law_feed_here"] (spD K 1 J4))(Dy:j8 P w K mg base "_law_sized_way" 3 ["_law_feed_here"] (spD K 1 A9))(Dz:j8 P w K mg base "_law_courses" 4 ["_law_house_here","_law_way_here"] (spP K 2 B5))(Dx:j8 P w K mg base "_law_told_right" 5 ["_law_house_here","_law_way_here","_law_due"] (spD K 3 r8))
  (fin:∀ns:List Int,ns.length<=63->∃F',lW ([none,some .feed]++List.replicate (["_law_script","_law_feed_here","_law_cases","_law_turn","_law_house_here","_law_way_here","_law_kept","_law_at","_law_due"].length-2) none) (X3 ns)=some (.rt (.bool true),F')):FnOk P w K mg base CX0 6 f fd ["_law_script"] (spLaw K):=by
 refine Fn.ok Q3 (λvs H Q E h=>?_) (λcdv A outer s H vs Q E hr h=>?_)
 .obtain⟨a,ns,rfl,_⟩:=h
  rfl
 .obtain⟨a,ns,rfl,hS,hl,tbo,k⟩:=h
  have hu5:(A.deeper (PyProof.Rows.envOfC "law" (defScope DC) s.heap.objs.size f cdv)).units+65<cLine:=by have:=hr.un;omega
  obtain⟨t_law_1,h_law_1⟩:=vS (f:=f) (cdv:=cdv) (A:=A) (outer:=outer) (s:=s) (H:=H) (E:=E) T hr hu5 DB Dy Dz Dx
  obtain⟨t_law_2,h_law_2⟩:=uu (f:=f) (cdv:=cdv) (A:=A) (outer:=outer) (s:=s) (H:=H) (E:=E) T hr hu5 DB Dy Dz Dx
  obtain⟨t_law_3,h_law_3⟩:=tV (f:=f) (cdv:=cdv) (A:=A) (outer:=outer) (s:=s) (H:=H) (E:=E) T hr hu5 DB Dy Dz Dx
  obtain⟨t_law_4,h_law_4⟩:=vy (f:=f) (cdv:=cdv) (A:=A) (outer:=outer) (s:=s) (H:=H) (E:=E) T hr hu5 DB Dy Dz Dx
  obtain⟨t_law_5,h_law_5⟩:=tE (f:=f) (cdv:=cdv) (A:=A) (outer:=outer) (s:=s) (H:=H) (E:=E) T hr hu5 DB Dy Dz Dx
  obtain⟨ts,hq,hk⟩:∃ts,Sss K (M8 CX0 P w K mg base ["_law_script","_law_feed_here","_law_cases","_law_turn","_law_house_here","_law_way_here","_law_kept","_law_at","_law_due"] "law" (defScope DC) f cdv A outer s H E).nox ((defBody DC).drop 1) ts lW:=⟨_,(d5 h_law_1 (d5 h_law_2 (d5 h_law_3 (d5 h_law_4 (j4 h_law_5)))))⟩
  have h0:=tI (P:=P) (w:=w) (K:=K) (mg:=mg) (base:=base) (f:=f) (cdv:=cdv) (A:=A) (outer:=outer) (s:=s) (H:=H) (E:=E) hr CF
  have hsp:=AB (defBody DC) (.Pass ⟨0,0,0,0⟩) (by decide +kernel)
  generalize List.drop 1 (defBody DC)=R at hq hsp
  generalize (defBody DC).getD 0 (Stmt.Pass { line:=0,col:=0,endLine:=0,endCol:=0 })=S0 at h0 hsp
  have hp:=i9 h0 hq
  rw[<-hsp]at hp
  refine⟨_,hp,?_⟩
  refine⟨_,rfl,a,ns,rfl,hS,hl,λd c H1 f1 s1=>?_⟩
  obtain⟨F',e⟩:=fin ns hl
  have fat:FAt K (some (d,c)) H1 (X3 ns):=⟨f1,tbo.congr λb hb=>by
   obtain⟨o,e⟩:∃o,H b=some o:=by
    rcases hb with hb | ⟨φ,e⟩
    .obtain⟨t,ht,rfl⟩:=Il.mp hb
     obtain⟨ps,e,_⟩:=tbo t ht
     exact⟨_,e⟩
    .exact⟨_,e⟩
   rw[e];exact s1 b o e⟩
  refine hk (some (d,c)) (j7 K (some (d,c))) H1 _ (X3 ns) _ H1 _ _ F' ⟨⟨j7 K (some (d,c)),λ_ z=>z,λb hb=>.inl hb,⟨fat,λ_ z=>z,fat.bok,by simp[L2.A5],λi x ei=>?_⟩⟩,λ_ z=>z,Kp.refl,λi ds b ei=>?_,λi j ds es b ei=>?_⟩ e (λv H' _ _ hv=>?_)
  .match i,ei with
   | 0,ei=>cases ei
   | 1,ei=>cases ei;exact⟨.ref d,rfl,d,c,rfl,rfl⟩
   | i+2,ei=>simp only[Jv,Jh,Kg,IJ]at ei;split at ei <;> cases ei
  .match i,ei with
   | 0,ei=>cases ei
   | 1,ei=>cases ei
   | i+2,ei=>simp only[Jv,Jh,Kg,IJ]at ei;split at ei <;> cases ei
  .match i,ei with
   | 0,ei=>cases ei
   | 1,ei=>cases ei
   | i+2,ei=>simp only[Jv,Jh,Kg,IJ]at ei;split at ei <;> cases ei
  .simp only[a7]at hv
   subst hv
   exact k H'
end
end
section
theorem gK:J4=ax:=rfl
theorem tK:A9=bM ["_law_feed_here","_law_beats","_law_works","_law_way_here","_law_many","_law_k","_law_beat_here","_law_j"]:=rfl
theorem nU:B5=LM.FP:=rfl
theorem Ah:cf=Y9:=rfl
theorem rD:cF=af:=rfl
theorem zC:O4=C2:=rfl
theorem kR:P5=bj:=by
 unfold P5 bj Aw
 rw[tL,tL,<-zZ,Ah,rD,zC]
theorem Cb {i:Nat}{k v:DE->M PyData}{E:DE}{F:FdS}{ds:List PyData}{Q:Out->FdS->Prop}(he:R3 E i=some ds)(hl:ds.length<=1000)(q:wp (k E F) λx F1=>wp (v E F1) λy F2=>∃n:Int,x = .int n/\0<=n/\n<=ds.length/\Q (.nx (E.set i (some (.own (ds.take n.toNat++[y]++ds.drop n.toNat))))) F2):wp (tG i k v E F) Q:=by
 unfold tG;rw[b9]
 refine g7 q λx F1 h=>?_
 rw[b9]
 refine g7 h λy F2 h=>?_
 obtain⟨n,rfl,n0,n1,q⟩:=h
 dsimp only[Z6]
 rw[HY,he,HY,HH ⟨n0,n1,JU hl (by rw[Io];decide)⟩]
 exact a9.mpr q
abbrev fV (h:Nat)(pl:Option Nat)(r:PyData)(way:List Bt):List PyData:=(V7 h (kOf r) (kb r) (tnB r) pl way way.length).told.map coD
theorem sCo {t:Nat}{c:Co}(ht:t<=1000)(h:Wt t c):Sml 5 1 (coD c):=by
 cases c with
 | lost b =>
  have h:b<=t:=h
  refine(Sml.tup (c:=1) (k:=0) λd hd=>?_).mono (by simp) (by decide)
  simp only[HB,IM,JN]at hd
  rcases hd with rfl | rfl
  .exact xC (by decide) (by unfold asc;decide +kernel)
  .exact iq (by omega) (by omega)
 | inn b w =>
  obtain⟨h1,h2⟩:=h
  refine(Sml.tup (c:=1) (k:=0) λd hd=>?_).mono (by simp) (by decide)
  simp only[HB,IM,JN]at hd
  rcases hd with rfl | rfl | rfl
  .exact xC (by decide) (by unfold asc;decide +kernel)
  .exact iq (by omega) (by omega)
  .exact iq (by omega) (by omega)
 | gone b m w =>
  obtain⟨h1,h2,h3⟩:=h
  refine(Sml.tup (c:=1) (k:=0) λd hd=>?_).mono (by simp) (by decide)
  simp only[HB,IM,JN]at hd
  rcases hd with rfl | rfl | rfl | rfl
  .exact xC (by decide) (by unfold asc;decide +kernel)
  .exact iq (by omega) (by omega)
  .exact iq (by omega) (by omega)
  .exact iq (by omega) (by omega)
theorem kH {h:Nat}{pl:Option Nat}{r:PyData}{way:List Bt}(hw:WayOk 24 way):(fV h pl r way).length<=40:=by
 have:=ck (h:=h) (k:=kOf r) (kp:=kb r) (tn:=tnB r) (pl:=pl) (way:=way) (HK way.length)
 rw[Kx]at this
 unfold fV
 rw[Hz,this]
 exact hw.many
theorem yO {h:Nat}{pl:Option Nat}{r:PyData}{way:List Bt}(hw:WayOk 24 way):Sml 3000 3 (.list (fV h pl r way)):=by
 have h1:=kH (h:=h) (pl:=pl) (r:=r) hw
 have h2:=hw.len
 refine(Sml.lst (c:=5) (k:=1) λd hd=>?_).mono (by omega) (by decide)
 obtain⟨c,hc,rfl⟩:=Il.mp hd
 exact sCo (by omega) (pM way.length c hc)
structure Case where
 h:Nat
 pl:Option Nat
 r:PyData
 way:List Bt
structure CaseOk (c:Case):Prop where
 h3:c.h<=3
 hr:c.r∈W8
 hpl:∀v,c.pl=some v->v<=6
 hw:WayOk 24 c.way
def gx (c:Case):PyData:=.tuple [hsD c.h c.pl c.r,wyD c.way,.list (fV c.h c.pl c.r c.way)]
theorem rm {cs:List Case}(hl:cs.length<=2)(h:∀c∈cs,CaseOk c):bG (.list (cs.map gx))=true:=by
 refine((Sml.lst (c:=9001) (k:=4) λd hd=>?_).mono (N':=20000) (k':=5) (by rw[Hz];omega) (by decide)).repr (by decide) (by decide)
 obtain⟨c,hc,rfl⟩:=Il.mp hd
 have C:=h c hc
 exact(Dl ((xo C.h3 C.hr C.hpl).mono (N':=3000) (k':=3) (by decide) (by decide)) (Df C.hw) (yO C.hw)).mono (by decide) (by decide)
theorem Bo {h:Nat}{pl:Option Nat}{r:PyData}{way:List Bt}{F:FdS}{Q:PyData->FdS->Prop}(hr:r∈W8)(hw:WayOk 24 way)(q:Q (.list (fV h pl r way)) F):wp (B5 [.dat (hsD h pl r),.dat (wyD way)] F) Q:=by
 rw[nU]
 have h2:=hw.many
 exact LM.cs20_w hr (λb hb c hc=>(hw.ok b hb c hc).2.2.1) (by omega) q
theorem xt {h:Nat}{pl:Option Nat}{r:PyData}{way:List Bt}{F:FdS}{Q:PyData->FdS->Prop}(hr:r∈W8)(hw:WayOk 24 way)(q:Q (.bool true) F):wp (r8 [.dat (hsD h pl r),.dat (wyD way),.dat (.list (fV h pl r way))] F) Q:=by
 have h1:=hw.len
 have h2:=hw.many
 have hlen:=kH (h:=h) (pl:=pl) (r:=r) hw
 have hlen2:(V7 h (kOf r) (kb r) (tnB r) pl way way.length).told.length<=40:=by unfold fV at hlen;rwa [Hz]at hlen
 have krep:=(yO (h:=h) (pl:=pl) (r:=r) hw).repr (by decide) (by decide)
 unfold r8
 refine cq.mpr ?_
 dsimp only[p6,HX,Jb,HZ,JG,List.replicate,Jv,Jh,Nat.reduceAdd,Nat.reduceSub]
 refine i6.mpr (dw.mpr ?_)
 unfold qm
 rw[b9]
 refine U2.mpr (n6.mpr (n8 rfl (U2.mpr (n6.mpr (n8 rfl (L8.mpr ?_))))))
 dsimp only
 rw[kR]
 refine oA hr (λi hi=>jg (ps:=[]) (λv _=>IG v) (Jm hi)) (by omega) (by omega) ⟨k8 rfl,i3 (i6.mpr ?_)⟩
 refine K4.mpr (mx.mpr (jt.mpr (lI.mpr (CG.mpr (j5.mpr (X1 rfl (c9 rfl (c9 rfl (bU.mpr ?_)))))))))
 refine W1.mpr (v9.mpr (N3.mpr (b7.mpr (j5.mpr (X1 rfl (e8.mpr (c9 (pU krep) (N3.mpr (b7.mpr (j5.mpr (l3 rfl (e8.mpr (c9 (pU krep) (c9 tN (c9 rfl (bU.mpr (X2.mpr (i3 ?_))))))))))))))))))
 refine i6.mpr (dX rfl (by rw[Hz];omega) (u9.mpr (i3 ?_)))
 refine i6.mpr (Cb rfl (by simp;omega) (u9.mpr (u9.mpr ⟨0,rfl,by decide,by omega,i3 ?_⟩)))
 exact U0.mpr (u9.mpr (X9 q))
theorem fin (ns:List Int):∃F',lW ([none,some .feed]++List.replicate 7 none) (X3 ns)=some (.rt (.bool true),F'):=by
 have key:wp (lW ([none,some .feed]++List.replicate 7 none) (X3 ns)) λo _=>o = .rt (.bool true):=by
  have h0:(X3 ns).t=0:=rfl
  unfold lW
  refine i6.mpr ?_
  unfold fy
  refine dw.mpr (bx.mpr (e8.mpr ⟨x8 rfl,k8 rfl,i3 (i6.mpr ?_)⟩))
  unfold kf
  refine Y4.mpr (fA.mpr (b7.mpr (u9.mpr (e8.mpr (c9 rfl ?_)))))
  refine E3 (λj E F=>F.t<=180*j/\∃(cs:List Case) (o3 o4 o5:Option DV),cs.length=j/\(∀c∈cs,CaseOk c)/\E=[none,some .feed,some (.own (cs.map gx)),o3,o4,o5,none,none,none]) _ 0 _ (X3 ns) ⟨by omega,[],none,none,none,rfl,(λ_ z=>by cases z),rfl⟩ ?_ ?_
  .rintro j dj ej E F ⟨hF,cs,o3,o4,o5,hl,hok,rfl⟩
   have hj:j<2:=(HG.mp ej).1
   rw[IB]at hF hl ⊢
   refine⟨_,rfl,i6.mpr ?_⟩
   unfold au
   rw[gK]
   refine x4.mpr (J9.mpr (zx.mpr (zw rfl (L8.mpr ?_))))
   refine rj.wp (by omega) λd1 F1 t1 hd1=>?_
   obtain⟨h,pl,r,rfl,hh1,hh3,hr,hpl⟩:=hd1
   refine⟨k8 rfl,i3 (i6.mpr ?_)⟩
   unfold ay
   rw[tK]
   refine x4.mpr (J9.mpr (zx.mpr (zw rfl (L8.mpr ?_))))
   refine(uI rfl).wp (by omega) λd2 F2 t2 hd2=>?_
   obtain⟨way,rfl,hw⟩:=hd2
   refine⟨k8 rfl,i3 ?_⟩
   unfold az
   refine dX rfl (by rw[Hz];omega) (K6.mpr (b7.mpr (n6.mpr (n8 rfl (b7.mpr (n6.mpr (n8 rfl (b7.mpr (J9.mpr (U2.mpr (n6.mpr (n8 rfl (U2.mpr (n6.mpr (n8 rfl (L8.mpr ?_)))))))))))))))) 
   refine Bo hr hw (e8.mpr ⟨x8 rfl,_,rfl,by omega,cs++[⟨h,pl,r,way⟩],_,_,_,by simp[hl],λc hc=>?_,by rw[Ij];rfl⟩)
   rcases HC.mp hc with hc | hc
   .exact hok c hc
   .simp only[HB,IM,JN]at hc
    subst hc
    exact⟨hh3,hr,hpl,hw⟩
  .rintro E F ⟨_,cs,o3,o4,o5,hl,hok,rfl⟩
   have hl:cs.length=2:=hl
   have krep:=rm (by omega) hok
   refine i3 (i6.mpr ?_)
   unfold fx
   refine x4.mpr (N3.mpr (b7.mpr (j5.mpr (X1 rfl (e8.mpr (c9 (pU krep) ⟨k8 rfl,i3 (i6.mpr ?_)⟩))))))
   unfold jJ
   refine Y4.mpr (Z7.mpr (u9.mpr (c9 gu ?_)))
   refine E3 (λj E F'=>∃(o3 o4 o5 o7 o8:Option DV),E=[none,some .feed,some (.own (cs.map gx)),o3,o4,o5,some (.dat (.str (PyData.list (cs.map gx)).shown)),o7,o8]) _ 0 _ F ⟨o3,o4,o5,none,none,rfl⟩ ?_ ?_
   .rintro j dj ej E F' ⟨o3,o4,o5,o7,o8,rfl⟩
    obtain⟨i,hi,rfl⟩:∃i:Nat,i<2/\dj = .int (i:Int):=by
     have hj:j<4:=(HG.mp ej).1
     rcases(show j=0\/j=1\/j=2\/j=3 by omega) with rfl | rfl | rfl | rfl
     .cases ej;exact⟨1,by decide,rfl⟩
     .cases ej;exact⟨0,by decide,rfl⟩
     .cases ej;exact⟨1,by decide,rfl⟩
     .cases ej;exact⟨0,by decide,rfl⟩
    refine⟨_,rfl,i6.mpr ?_⟩
    unfold aq
    have hil:i<cs.length:=by omega
    have C:=hok cs[i] (Ky hil)
    have eix:ixD (.list (cs.map gx)) (.int (i:Int))=some (gx cs[i]):=by
     show atI (cs.map gx) (i:Int)=_
     refine W3 ?_
     rw[HP,HD hil];rfl
    generalize cs[i]=c at C eix
    refine P7.mpr (v9.mpr (j5.mpr (X1 rfl (j5.mpr (l3 rfl (c9 eix ?_))))))
    refine c9 rfl (i3 ?_)
    unfold aj
    refine K4.mpr (mx.mpr (jt.mpr (lI.mpr (J9.mpr (U2.mpr (n6.mpr (n8 rfl (U2.mpr (n6.mpr (n8 rfl (U2.mpr (n6.mpr (n8 rfl (L8.mpr ?_))))))))))))))
    refine xt C.hr C.hw (c9 rfl (bU.mpr ?_))
    refine W1.mpr (v9.mpr (N3.mpr (b7.mpr (j5.mpr (X1 rfl (e8.mpr (c9 (pU krep) (j5.mpr (l3 rfl (c9 tN (c9 rfl (bU.mpr (X2.mpr ⟨_,rfl,_,_,_,_,_,rfl⟩)))))))))))))
   .rintro E F' ⟨o3,o4,o5,o7,o8,rfl⟩
    refine i3 ?_
    unfold fh
    exact U0.mpr (u9.mpr rfl)
 obtain⟨o,F',e,rfl⟩:=key
 exact⟨F',e⟩
end
section
theorem all_mk {l:PySem.W.OpenLaw}{w:World}{K:PySem.W.Frag}{h:Heap}{mg:Str->Option Value}{fa flaw:Addr}(X:K.In h)(G:h.Ns mainGlobals mg)(hfa:mg "law" = some (.ref fa))
    {odlaw anlaw:Option Addr} {sllaw:Array (Option Value)} {oclaw kVlaw dclaw pmlaw cdlaw ctlaw:Value}
    (alaw:PySem.W.nsIn K mainGlobals "law" = some (some (.ref flaw))) (llaw:K.lookup flaw=some ⟨oclaw,odlaw,.func (PySem.W.fnOf "law" "law" (defArgs DC) (defBody DC) (defScope DC) .none kVlaw dclaw pmlaw anlaw cdlaw ctlaw),sllaw⟩) (claw:PySem.W.codeIn K cdlaw "law" = true) (klaw:PySem.W.keepIn K (.ref flaw)=true)
    (Gz:L3.FI K "keeps" Fs)
    (FY:L3.FI K "let_in" ET)
    (Fb:L3.FI K "lined_up" DI)
    (FZ:L3.FI K "picked" EU)
    (Ga:L3.FI K "worked" Ek)
    (Ey:L3.FI K "after_beat" DX)
    (Fy:L3.FI K "courses" DO)
    (EL:L3.FI K "_law_feed" El)
    (EM:L3.FI K "_law_next" En)
    (EN:L3.FI K "_law_rule" Ep)
    (Ez:L3.FI K "_law_house" DY)
    (Fc:L3.FI K "_law_way" EE)
    (DM:L3.FI K "_law_sized_way" DJ)
    (EA:L3.FI K "_law_ahead" DN)
    (Ed:L3.FI K "_law_picked" DL)
    (EO:L3.FI K "_law_come" DQ)
    (ER:L3.FI K "_law_beat" DR)
    (Fd:L3.FI K "_law_new" EF)
    (Ee:L3.FI K "_law_course" DS)
    (DU:L3.FI K "_law_courses" DD)
    (DK:L3.FI K "_law_told_right" DG)
    (zenumerate:PySem.W.nsIn K mainGlobals "enumerate" = some none)
    (zint:PySem.W.nsIn K mainGlobals "int" = some none)
    (zisinstance:PySem.W.nsIn K mainGlobals "isinstance" = some none)
    (zlen:PySem.W.nsIn K mainGlobals "len" = some none)
    (zlist:PySem.W.nsIn K mainGlobals "list" = some none)
    (zmin:PySem.W.nsIn K mainGlobals "min" = some none)
    (zrange:PySem.W.nsIn K mainGlobals "range" = some none)
    (zrepr:PySem.W.nsIn K mainGlobals "repr" = some none)
    (zsorted:PySem.W.nsIn K mainGlobals "sorted" = some none)
    (ztuple:PySem.W.nsIn K mainGlobals "tuple" = some none)
    {t_KEEPING:Addr} {it_KEEPING:Array Value} {n_KEEPING:Nat} {dd_KEEPING:Option Addr} {sl_KEEPING:Array (Option Value)} (ga_KEEPING:PySem.W.nsIn K mainGlobals "KEEPING" = some (some (.ref t_KEEPING))) (gl_KEEPING:K.lookup t_KEEPING=some ⟨.type "tuple",dd_KEEPING,.seq it_KEEPING n_KEEPING,sl_KEEPING⟩) (gq_KEEPING:L3.strsOf it_KEEPING.toList=some (["first","last","short","front"]:List Str))
    (EB:(PySem.W.tabIn K "lined_up").isSome=true)
    (Fe:(PySem.W.tabIn K "picked").isSome=true)
    (hnd0:decide (((L3.tabsK (["lined_up","picked"]:List Str) K).map (·.2.2)).Nodup)=true)
   :∃fd:FuncData,(∀(s:Shared) (v:Value),BindsTo s fd ⟨[v],[]⟩ [("_law_script",v)])/\∀base:Heap,K.In base->base.Ns mainGlobals mg->BMd base mg->(∀t∈L3.tabsK (["lined_up","picked"]:List Str) K,PySem.W.CodeHd base t.2.1 t.2.2)->FnOk l.prog w K mg base CX0 6 fa fd ["_law_script"] (spLaw K):=by
  have hnd:(L3.tabP K).Nodup:=Iw hnd0
  have e:=hfa.symm.trans (Ln X G alaw)
  cases e
  have T:Txt K mg:=⟨Jn X G zenumerate,Jn X G zint,Jn X G zisinstance,Jn X G zlen,Jn X G zlist,Jn X G zmin,Jn X G zrange,Jn X G zrepr,Jn X G zsorted,Jn X G ztuple,L3.gd_mk X G ga_KEEPING gl_KEEPING gq_KEEPING (by decide)⟩
  obtain⟨_,_,Hb,Ht,Hu,_⟩:=Gz.mk X G ["rule"] λ_ _ _ _ _ _ us hl=>by
    obtain⟨z0,rfl⟩:=L3.len_1 hl
    rfl
  obtain⟨_,_,GH,Hh,Hi,_⟩:=FY.mk X G ["house","stand","beat"] λ_ _ _ _ _ _ us hl=>by
    obtain⟨z0,z1,z2,rfl⟩:=L3.len_3 hl
    rfl
  obtain⟨_,_,FL,GR,GS,⟨_,_,_,GT⟩,GU⟩:=Fb.mk X G ["rule","stand"] λ_ _ _ _ _ _ us hl=>by
    obtain⟨z0,z1,rfl⟩:=L3.len_2 hl
    rfl
  obtain⟨_,_,GJ,Hj,Hl,⟨_,_,_,Hm⟩,Hn⟩:=FZ.mk X G ["house","stand"] λ_ _ _ _ _ _ us hl=>by
    obtain⟨z0,z1,rfl⟩:=L3.len_2 hl
    rfl
  obtain⟨_,_,GK,Ho,Hq,_⟩:=Ga.mk X G ["house","stand"] λ_ _ _ _ _ _ us hl=>by
    obtain⟨z0,z1,rfl⟩:=L3.len_2 hl
    rfl
  obtain⟨_,_,Fh,Gm,Gn,_⟩:=Ey.mk X G ["course","waited","gone_at"] λ_ _ _ _ _ _ us hl=>by
    obtain⟨z0,z1,z2,rfl⟩:=L3.len_3 hl
    rfl
  obtain⟨_,_,Gp,Hc,Hd,_⟩:=Fy.mk X G ["house","way"] λ_ _ _ _ _ _ us hl=>by
    obtain⟨z0,z1,rfl⟩:=L3.len_2 hl
    rfl
  obtain⟨_,_,FA,Gu,GA,_⟩:=EL.mk X G ["_law_script"] λ_ _ _ _ _ _ us hl=>by
    obtain⟨z0,rfl⟩:=L3.len_1 hl
    rfl
  obtain⟨_,_,FB,Gv,GB,_⟩:=EM.mk X G ["_law_feed_here","_law_many"] λ_ _ _ _ _ _ us hl=>by
    obtain⟨z0,z1,rfl⟩:=L3.len_2 hl
    rfl
  obtain⟨_,_,FC,Gw,GC,_⟩:=EN.mk X G ["_law_feed_here"] λ_ _ _ _ _ _ us hl=>by
    obtain⟨z0,rfl⟩:=L3.len_1 hl
    rfl
  obtain⟨_,_,Fj,Gi,Gq,_⟩:=Ez.mk X G ["_law_feed_here"] λ_ _ _ _ _ _ us hl=>by
    obtain⟨z0,rfl⟩:=L3.len_1 hl
    rfl
  obtain⟨_,_,FM,GO,GV,_⟩:=Fc.mk X G ["_law_feed_here","_law_beats","_law_works"] λ_ _ _ _ _ _ us hl=>by
    obtain⟨z0,z1,z2,rfl⟩:=L3.len_3 hl
    rfl
  obtain⟨_,_,Eh,Fp,Fq,_⟩:=DM.mk X G ["_law_feed_here"] λ_ _ _ _ _ _ us hl=>by
    obtain⟨z0,rfl⟩:=L3.len_1 hl
    rfl
  obtain⟨_,_,Fm,Gj,Gr,_⟩:=EA.mk X G ["_law_rule_here","_law_one","_law_other"] λ_ _ _ _ _ _ us hl=>by
    obtain⟨z0,z1,z2,rfl⟩:=L3.len_3 hl
    rfl
  obtain⟨_,_,EW,FW,Gb,_⟩:=Ed.mk X G ["_law_m"] λ_ _ _ _ _ _ us hl=>by
    obtain⟨z0,rfl⟩:=L3.len_1 hl
    rfl
  obtain⟨_,_,FD,Gx,GE,_⟩:=EO.mk X G ["_law_m","_law_comers"] λ_ _ _ _ _ _ us hl=>by
    obtain⟨z0,z1,rfl⟩:=L3.len_2 hl
    rfl
  obtain⟨_,_,FE,Gy,GG,_⟩:=ER.mk X G ["_law_m","_law_comers"] λ_ _ _ _ _ _ us hl=>by
    obtain⟨z0,z1,rfl⟩:=L3.len_2 hl
    rfl
  obtain⟨_,_,FN,GP,GW,_⟩:=Fd.mk X G ["_law_house_here"] λ_ _ _ _ _ _ us hl=>by
    obtain⟨z0,rfl⟩:=L3.len_1 hl
    rfl
  obtain⟨_,_,EX,FX,Gc,_⟩:=Ee.mk X G ["_law_row"] λ_ _ _ _ _ _ us hl=>by
    obtain⟨z0,rfl⟩:=L3.len_1 hl
    rfl
  obtain⟨_,_,ED,FJ,FK,_⟩:=DU.mk X G ["_law_house_here","_law_way_here"] λ_ _ _ _ _ _ us hl=>by
    obtain⟨z0,z1,rfl⟩:=L3.len_2 hl
    rfl
  obtain⟨_,_,DW,EZ,Ff,_⟩:=DK.mk X G ["_law_house_here","_law_way_here","_law_due"] λ_ _ _ _ _ _ us hl=>by
    obtain⟨z0,z1,z2,rfl⟩:=L3.len_3 hl
    rfl
  have Flaw:=fun_mk (st:=DC) llaw claw klaw
  have blaw:=Flaw.binds (ps:=["_law_script"]) λ_ _ _ _ _ _ us hl=>by
    obtain⟨z0,rfl⟩:=L3.len_1 hl
    rfl
  have mlaw:=Ln X G alaw
  refine⟨PySem.W.fnOf "law" "law" (defArgs DC) (defBody DC) (defScope DC) .none kVlaw dclaw pmlaw anlaw cdlaw ctlaw,λs v=>.of_eq rfl,λbase _ _ BM hC=>?_⟩
  have EC:=L3.cal l.prog w base (GZ Hb T ) Ht Hb Hu
  have Fu:=L3.cal l.prog w base (GL GH T ) Hh GH Hi
  obtain⟨DP,Hv,Gs⟩:=L3.lamB_mk (mg:=mg) (base:=base) GU GT (by decide) EB hnd BM hC
  have EG:=L3.cal l.prog w base (Ge FL T Gs ) GR FL GS
  obtain⟨Ej,Hw,GX⟩:=L3.lamB_mk (mg:=mg) (base:=base) Hn Hm (by decide) Fe hnd BM hC
  have Ft:=L3.cal l.prog w base (GM GJ T GX EG EC) Hj GJ Hl
  have Fv:=L3.cal l.prog w base (GN GK T Ft EC) Ho GK Hq
  have DZ:=L3.cal l.prog w base (FF Fh T ) Gm Fh Gn
  have EK:=L3.cal l.prog w base (Gf Gp T Fu Fv DZ) Hc Gp Hd
  have Gk:=L3.cal l.prog w base (FQ FA T) Gu FA GA
  have DA:=L3.cal l.prog w base (FR FB T ) Gv FB GB
  have Er:=L3.cal l.prog w base (FT FC T DA) Gw FC GC
  have DB:=L3.cal l.prog w base (FG Fj T DA Er) Gi Fj Gq
  have EH:=L3.cal l.prog w base (Gg FM T DA) GO FM GV
  have Dy:=L3.cal l.prog w base (EV Eh T DA EH) Fp Eh Fq
  have DH:=L3.cal l.prog w base (FH Fm T ) Gj Fm Gr
  have DT:=L3.cal l.prog w base (Fw EW T DH) FW EW Gb
  have Eu:=L3.cal l.prog w base (FU FD T ) Gx FD GE
  have Ex:=L3.cal l.prog w base (FV FE T Eu DT) Gy FE GG
  have EI:=L3.cal l.prog w base (Gh FN T ) GP FN GW
  have DF:=L3.cal l.prog w base (Fx EX T ) FX EX Gc
  have Dz:=L3.cal l.prog w base (Fo ED T EI Ex DF) FJ ED FK
  have Dx:=L3.cal l.prog w base (EJ DW T EK) EZ DW Ff
  exact Hr Flaw T Gk DB Dy Dz Dx (λns _=>fin ns)
theorem walk {l:PySem.W.OpenLaw}{q:Program}{loose:List Str}{XP:(Str->Option Value)->Heap->Prop}{YP:World->Heap->Prop}{d:DefRec}{K:Params->PySem.W.Frag}(hn:l.most=some 63)(hdf:d.params.defaults=[])
  (hrec:((["lined_up","picked"]:List Str).all λx=>((PyProof.Rows.recsOf q).find? λe=>e.name == x).isSome)=true) (hnt:∀w:World,PySem.W.noTabs (K w.params)=true)
  (hY:∀(w:World) (h:Heap),YP w h->(K w.params).In h)
  (F:∀(w:World) (mg:Str->Option Value) (fa:Addr) (h:Heap),(K w.params).In h->h.Ns mainGlobals mg->mg d.name=some (.ref fa) ->
   ∃fd:FuncData,(∀(s:Shared) (u:Value),BindsTo s fd ⟨[u],[]⟩ [("_law_script",u)])/\∀base:Heap,(K w.params).In base->base.Ns mainGlobals mg->BMd base mg->(∀t∈L3.tabsK (["lined_up","picked"]:List Str) (K w.params),PySem.W.CodeHd base t.2.1 t.2.2)->FnOk l.prog w (K w.params) mg base CX0 6 fa fd ["_law_script"] (spLaw (K w.params))) :
  PySem.W.WalkO q loose XP YP l.row.toRowW d [] (λf vs=>PySem.call f vs) :=
 L3.walk_ofT (["lined_up","picked"]:List Str) (n:=63) (k:=6) (x:="_law_script") (CX:=λ_=>CX0) (sp:=λw=>spLaw (K w.params)) hn (by decide) hdf ⟨rfl,by decide,by decide,rfl⟩ hrec hnt hY F (λ_ _ a ns hl hS hT=>⟨a,ns,rfl,hS,hl,hT,λ_=>rfl⟩) λ_ _ _ _ _ z=>z
end
end K20
open PySem PySem.W PyProof.Rows
set_option maxRecDepth 100000 in
set_option maxHeartbeats 0 in
theorem PySem.Challenge.cw_hatchwaits_k20_courses_told_holds : PySem.Challenge.rw_hatchwaits_k20_courses_told.Holds := by
 w_on;o_law;k_head;(case hw=>w_witness2)
 k_fill
 refine K20.walk (l:=PySem.Challenge.rw_hatchwaits_k20_courses_told) rfl rfl (by first | rfl | kernel_rfl) (by intro w;first | kernel_rfl | with_unfolding_all rfl) (λw h Y=>PySem.W.km_in_of Y) ?F
 case F =>
  intro w mg fa h KX G hmg
  refine' K20.all_mk KX G hmg ?alaw ?llaw ?claw ?klaw ?Gz ?FY ?Fb ?FZ ?Ga ?Ey ?Fy ?EL ?EM ?EN ?Ez ?Fc ?DM ?EA ?Ed ?EO ?ER ?Fd ?Ee ?DU ?DK ?zenumerate ?zint ?zisinstance ?zlen ?zlist ?zmin ?zrange ?zrepr ?zsorted ?ztuple ?ga_KEEPING ?gl_KEEPING ?gq_KEEPING ?EB ?Fe ?hnd0
  (case alaw=>k_is)
  (case llaw=>k_is)
  (case claw=>k_is)
  (case klaw=>k_is)
  (case Gz=>exact .of (by k_is) (by k_is) (by k_is) (by k_is))
  (case FY=>exact .of (by k_is) (by k_is) (by k_is) (by k_is))
  (case Fb=>exact .of (by k_is) (by k_is) (by k_is) (by k_is))
  (case FZ=>exact .of (by k_is) (by k_is) (by k_is) (by k_is))
  (case Ga=>exact .of (by k_is) (by k_is) (by k_is) (by k_is))
  (case Ey=>exact .of (by k_is) (by k_is) (by k_is) (by k_is))
  (case Fy=>exact .of (by k_is) (by k_is) (by k_is) (by k_is))
  (case EL=>exact .of (by k_is) (by k_is) (by k_is) (by k_is))
  (case EM=>exact .of (by k_is) (by k_is) (by k_is) (by k_is))
  (case EN=>exact .of (by k_is) (by k_is) (by k_is) (by k_is))
  (case Ez=>exact .of (by k_is) (by k_is) (by k_is) (by k_is))
  (case Fc=>exact .of (by k_is) (by k_is) (by k_is) (by k_is))
  (case DM=>exact .of (by k_is) (by k_is) (by k_is) (by k_is))
  (case EA=>exact .of (by k_is) (by k_is) (by k_is) (by k_is))
  (case Ed=>exact .of (by k_is) (by k_is) (by k_is) (by k_is))
  (case EO=>exact .of (by k_is) (by k_is) (by k_is) (by k_is))
  (case ER=>exact .of (by k_is) (by k_is) (by k_is) (by k_is))
  (case Fd=>exact .of (by k_is) (by k_is) (by k_is) (by k_is))
  (case Ee=>exact .of (by k_is) (by k_is) (by k_is) (by k_is))
  (case DU=>exact .of (by k_is) (by k_is) (by k_is) (by k_is))
  (case DK=>exact .of (by k_is) (by k_is) (by k_is) (by k_is))
  (case zenumerate=>k_is)
  (case zint=>k_is)
  (case zisinstance=>k_is)
  (case zlen=>k_is)
  (case zlist=>k_is)
  (case zmin=>k_is)
  (case zrange=>k_is)
  (case zrepr=>k_is)
  (case zsorted=>k_is)
  (case ztuple=>k_is)
  (case ga_KEEPING=>k_is)
  (case gl_KEEPING=>k_is)
  (case gq_KEEPING=>first | rfl | k_is | with_unfolding_all rfl)
  (case EB=>first | kernel_rfl | with_unfolding_all rfl)
  (case Fe=>first | kernel_rfl | with_unfolding_all rfl)
  (case hnd0=>first | kernel_rfl | with_unfolding_all rfl)
