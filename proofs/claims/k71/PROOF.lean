import PyProof.Rows.All
import Wide.All
import OpenK.AllK
import Wide.FinOn
import Lean
import PyProof.EqAt
import PyProof.EqKinds
import PyProof.TupleCall
import PyProof.NeData
import PyProof.EqLayable
import PyProof.ConsumeWalk
import PyProof.EnumFor
import PyProof.EnumMake
import PyProof.EnumStmt
import PyProof.ZipIter
import PyProof.Rows.ZipGen
import PyProof.TupleIter
import PyProof.WalksMore
import PyProof.StrWalks
import PyProof.FString5
import PyProof.CallStr
import KE.KDictList
import KE.KDictSum
import PyProof.Rows.SortWalk
import PyProof.ListRange
import PyProof.StationsW
import PyProof.ExcClass2
import PyProof.ExcInit
import PyProof.Rows.FStr
import PyProof.FString
import PyProof.ExcBaseAll.ValueError
import OpenK.KOwn
import PyProof.RulesAs
import PyProof.NsDelKeeps
import KE.KIsAll
import PyProof.ExcArgs
import OpenK.KCls
import PyProof.InstStoreFacts
import OpenK.KMake
import PyProof.DictWalks
import PyProof.DictItems
import KE.KEqDict
import PyProof.Claim2Refuses
import KE.KDictLaws
import PyProof.WalkInts
import KE.KSortTup
import PyProof.DictUpdate
import KE.KNest
import KE.KLam
import KE.KNestM
import KE.KMinKey
import PyProof.MeetsStr
import PyProof.StrLawsIn
import PyProof.StrBlockH
import PyProof.Rows.StrSplitMax
import PyProof.Rows.StrNews2
import KE.KIntText
import KE.KTabLook
import PyProof.Rows.EqBoolInt
import PyProof.Examples.IsLeap
import KE.KDictOf
import PyProof.AttrMissHeap
import PySem.Challenge.RW_roadnet_k71_measures_refused
set_option Elab.async false
set_option linter.all false
set_option maxRecDepth 100000
namespace L2
open PySem PySem.W
noncomputable def dropR (n : Nat) : List Obj → List Obj :=
  @Nat.rec (fun _ => List Obj → List Obj) (fun l => l) (fun _ ih l => @List.rec Obj (fun _ => List Obj) [] (fun _ t _ => ih t) l) n
def aliveR (o : Obj) : Option Obj := match o with
  | ⟨_, _, .freed, _⟩ => none
  | o => some o
noncomputable def pickR (gs : List Nat) : List Obj → List (Option Obj) :=
  @List.rec Nat (fun _ => List Obj → List (Option Obj)) (fun _ => []) (fun g _ ih l => @List.rec Obj (fun _ => List (Option Obj)) (none :: ih []) (fun o t _ => aliveR o :: ih t) (dropR g l)) gs
noncomputable def gapsR (as : List Nat) : Nat → List Nat :=
  @List.rec Nat (fun _ => Nat → List Nat) (fun _ => []) (fun a _ ih p => Nat.sub a p :: ih (Nat.succ a)) as
noncomputable def ascR (as : List Nat) : Nat → Bool :=
  @List.rec Nat (fun _ => Nat → Bool) (fun _ => true) (fun a _ ih p => @Bool.rec (fun _ => Bool) false (ih (Nat.succ a)) (Nat.ble p a)) as
theorem dropR_eq : ∀ (n : Nat) (l : List Obj), dropR n l = l.drop n
  | 0, l => rfl
  | n + 1, [] => by rw [List.drop_nil]; rfl
  | n + 1, o :: t => dropR_eq n t
theorem getR (h : Heap) (a : Addr) : h.get? a = (h.objs.toList[a]?).bind aliveR := by
  unfold Heap.get?
  rw [Array.getElem?_toList]
  cases h.objs[a]? with
  | none => rfl
  | some o =>
    obtain ⟨c, d, t, sl⟩ := o
    cases t <;> rfl
theorem pickR_eq (l : List Obj) : ∀ (as : List Nat) (p : Nat), ascR as p = true → pickR (gapsR as p) (l.drop p) = as.map fun a => (l[a]?).bind aliveR
  | [], p, _ => rfl
  | a :: as, p, h => by
    have hp : p ≤ a ∧ ascR as (a + 1) = true := by
      have h' : @Bool.rec (fun _ => Bool) false (ascR as (a + 1)) (Nat.ble p a) = true := h
      cases e : Nat.ble p a with
      | false => rw [e] at h'; cases h'
      | true => rw [e] at h'; exact ⟨Nat.le_of_ble_eq_true e, h'⟩
    have ih := pickR_eq l as (a + 1) hp.2
    have e1 : pickR (gapsR (a :: as) p) (l.drop p) = @List.rec Obj (fun _ => List (Option Obj)) (none :: pickR (gapsR as (a + 1)) []) (fun o t _ => aliveR o :: pickR (gapsR as (a + 1)) t) (dropR (a - p) (l.drop p)) := rfl
    rw [e1, dropR_eq, List.drop_drop, Nat.add_sub_cancel' hp.1, List.map_cons, ← ih]
    cases e : l.drop a with
    | nil =>
      have hl : l.length ≤ a := List.drop_eq_nil_iff.mp e
      rw [List.drop_eq_nil_of_le (Nat.le_succ_of_le hl), List.getElem?_eq_none hl]
      rfl
    | cons o t =>
      have e2 : l[a]? = some o := by rw [← List.head?_drop, e]; rfl
      have e3 : l.drop (a + 1) = t := by rw [← List.drop_drop, e]; rfl
      rw [e2, e3]
      rfl
theorem pick_get {as : List Addr} {h : Heap} (a : ascR as 0 = true) : pickR (gapsR as 0) h.objs.toList = as.map h.get? := by
  have := pickR_eq h.objs.toList as 0 a
  rw [List.drop_zero] at this
  rw [this]
  exact List.map_congr_left fun b _ => (getR h b).symm
noncomputable def fHook (K : Params → PySem.W.Frag) (as : List Addr) (e : ∀ P, as = (K P).map (·.1)) (ts : List Addr) : Hook where
  α := Bool × List (Option Obj) × List (Option Obj)
  obs := fun s => (ascR as 0, pickR (gapsR as 0) s.heap.objs.toList, ts.map s.heap.get?)
  val := fun w => (true, (K w.params).map fun p => some p.2, ts.map fun _ => some (tabObj #[]))
  says := fun w h => InK K w h ∧ ∀ P ∈ ts, h.get? P = some (tabObj #[])
  of := fun w s x => ⟨InK.of e w s ((pick_get (Prod.mk.inj x).1).symm.trans (Prod.mk.inj (Prod.mk.inj x).2).1), List.map_inj_left.mp (Prod.mk.inj (Prod.mk.inj x).2).2⟩
  keeps := fun w h h' x k => ⟨InK.keeps w h h' x.1 k, fun P hP => k _ _ (x.2 P hP)⟩
theorem f_in_of {K : Params → PySem.W.Frag} {as : List Addr} {e : ∀ P, as = (K P).map (·.1)} {ts : List Addr} {w : World} {h : Heap} (Y : (fHook K as e ts).says w h) : (K w.params).In h := Y.1
theorem f_tabs_of {K : Params → PySem.W.Frag} {as : List Addr} {e : ∀ P, as = (K P).map (·.1)} {ts : List Addr} {w : World} {h : Heap} (Y : (fHook K as e ts).says w h) : ∀ P ∈ ts, h.get? P = some (tabObj #[]) := Y.2
end L2
namespace PySem.W.Fast
def tw5825409947972229839 : Nat := 0
def tw11331251651140103332 : Nat := 0
def tw1599924523353585796 : Nat := 0
def tw2816290407362494436 : Nat := 0
def tw6003767015541014276 : Nat := 0
def tw2028536835656641124 : Nat := 0
def tw2824465243753330349 : Nat := 0
def tw4434529626663171917 : Nat := 0
def tw7735736674568121378 : Nat := 0
def tw14624858429262586146 : Nat := 0
def tw720182213239873954 : Nat := 0
def tw13899065419108184747 : Nat := 0
def tw17994664805873458059 : Nat := 0
def tw4685532357684912256 : Nat := 0
def tw14520926752066310921 : Nat := 0
def tw11178570125107628329 : Nat := 0
def tw2469563516683605129 : Nat := 0
def tw6305824308257724521 : Nat := 0
def tw16302438123402980190 : Nat := 0
def tw11666790100263769662 : Nat := 0
def tw6360475311246533694 : Nat := 0
def tw16887874625920362215 : Nat := 0
def tw12651436270660103420 : Nat := 0
def tw3688191417413847301 : Nat := 0
def tw47921589123629370 : Nat := 0
def tw12645470735417692602 : Nat := 0
def tw628921569908525274 : Nat := 0
def tw6816466609110293882 : Nat := 0
def tw9160439555572305082 : Nat := 0
def tw11486809870710139363 : Nat := 0
def tw7391529763189263800 : Nat := 0
def tw14170447467462077848 : Nat := 0
def tw1290163129171264673 : Nat := 0
def tw10883863559855048886 : Nat := 0
def tw10428923271143762559 : Nat := 0
def tw6584177812583139709 : Nat := 0
def tw18348308730201665458 : Nat := 0
def tw16317728555382166267 : Nat := 0
def tw14747568480141253275 : Nat := 0
def tw11613124591313757275 : Nat := 0
def tw8248268956689172251 : Nat := 0
def tw5310553268394897561 : Nat := 0
def tw15851069841833318105 : Nat := 0
def tw12754127706444157902 : Nat := 0
def tw6537179486684230702 : Nat := 0
def tw4762238011465203438 : Nat := 0
def tw7382694709574484718 : Nat := 0
def tw11067473629288292727 : Nat := 0
def tw11857314218815517804 : Nat := 0
def tw9441634888808394453 : Nat := 0
def tw9174608562646866229 : Nat := 0
def tw3683365271636527850 : Nat := 0
def tw9189343543460322410 : Nat := 0
def tw7303454830252390218 : Nat := 0
def tw6259716006626015571 : Nat := 0
def tw12333364358464397352 : Nat := 0
def tw9833348195830914609 : Nat := 0
def tw16109076998993837297 : Nat := 0
def tw12685671121589298235 : Nat := 0
def tw12863206862845797777 : Nat := 0
def tw13472021762189266334 : Nat := 0
def tw7229341486303941017 : Nat := 0
def tw10998654837781905745 : Nat := 0
def tw17405590050494407859 : Nat := 0
def tw16194141452092568717 : Nat := 0
def tw2728508464599067835 : Nat := 0
def tw2368542866200705195 : Nat := 0
def tw16291857627984742587 : Nat := 0
def tw2780377872459718824 : Nat := 0
def tw17825647687015786682 : Nat := 0
def tw2267728834975518075 : Nat := 0
def tw2960825276279914369 : Nat := 0
def tw12077783155612769082 : Nat := 0
def tw13100603414206312644 : Nat := 0
def tw9213557232544168848 : Nat := 0
def tw7043932928183681490 : Nat := 0
def tw11069281766927954345 : Nat := 0
def tw6245025627376572529 : Nat := 0
def tw3515398937131297620 : Nat := 0
def tw7628451976596560639 : Nat := 0
def tw8311575904546286548 : Nat := 0
def tw17665251164431831164 : Nat := 0
def tw1281421381914333577 : Nat := 0
def tw16545915604468598236 : Nat := 0
def tw1578672922481428964 : Nat := 0
def tw13402908862389655714 : Nat := 0
def tw5960678200722586224 : Nat := 0
def tw1448978251194285990 : Nat := 0
def tw16042735047040115754 : Nat := 0
def tw5999794107273525885 : Nat := 0
def tw12017369267952087255 : Nat := 0
def tw12007863514053338401 : Nat := 0
def tw15976097785503824493 : Nat := 0
def tw6341039490185777599 : Nat := 0
def tw17235783482992643493 : Nat := 0
def tw2772812558353490042 : Nat := 0
def tw17562462547977269029 : Nat := 0
def tw4904342776649549578 : Nat := 0
def tw2924680139335678927 : Nat := 0
def tw14320773100896284743 : Nat := 0
def tw18106382505119889493 : Nat := 0
def tw1942203045289070759 : Nat := 0
def tw9931379224738385647 : Nat := 0
def tw8473305537240766065 : Nat := 0
def tw9283172404449290573 : Nat := 0
def tw6807931587592230553 : Nat := 0
def tw17425383452345801700 : Nat := 0
def tw1061116715780088310 : Nat := 0
def tw16820627531021098109 : Nat := 0
def tw4648536606750819565 : Nat := 0
def tw9402872087376993708 : Nat := 0
def tw2429266170819349737 : Nat := 0
def tw5643380822246993206 : Nat := 0
def tw14131496697614329000 : Nat := 0
def tw4212174033079024748 : Nat := 0
def tw15155588174371592353 : Nat := 0
def tw4300492826332933198 : Nat := 0
def tw8382244986363410154 : Nat := 0
def tw12450606285970995976 : Nat := 0
def tw2299676337627775460 : Nat := 0
def tw1719992969841469542 : Nat := 0
def tw1755244951223476258 : Nat := 0
def tw15229181203039660529 : Nat := 0
def tw13158003750015501652 : Nat := 0
def tw9693529958223702874 : Nat := 0
def tw11407037379863239798 : Nat := 0
def tw9070410877345370885 : Nat := 0
def tw6292445169665681716 : Nat := 0
def tw13455333569079841498 : Nat := 0
def tw1503156775958761626 : Nat := 0
def tw9037095074624231601 : Nat := 0
def tw7206814438505825881 : Nat := 0
def tw18233768327069883446 : Nat := 0
def tw406263119687962005 : Nat := 0
def tw8298707898300809119 : Nat := 0
def tw9793678135824739741 : Nat := 0
def tw16354894010779684335 : Nat := 0
def tw10995929835709887779 : Nat := 0
def tw14003523671349612460 : Nat := 0
def tw1397530213922198976 : Nat := 0
def tw17230540569172385389 : Nat := 0
def tw1876476778131325874 : Nat := 0
def tw5843793985684982323 : Nat := 0
def tw12796880213535964897 : Nat := 0
def tw5783141774668907211 : Nat := 0
def tw2878615412189482973 : Nat := 0
def tw9869794683650641033 : Nat := 0
def tw13771022695132675840 : Nat := 0
def tw9016012922067410730 : Nat := 0
def tw18350918489004300427 : Nat := 0
def tw15992046722534089150 : Nat := 0
def tw3490493688218772536 : Nat := 0
def tw10233617741798944932 : Nat := 0
def tw15935369524227000686 : Nat := 0
def tw9990734124328634111 : Nat := 0
def tw11871537736391334014 : Nat := 0
def tw8575589539769254945 : Nat := 0
def tw17693321365240830887 : Nat := 0
def tw7716205384454254646 : Nat := 0
def tw14324068175942930213 : Nat := 0
def tw7134491499837052698 : Nat := 0
def tw14459447292326377487 : Nat := 0
def tw14945656879022400994 : Nat := 0
def tw3099439442077575426 : Nat := 0
def tw10130053074355741212 : Nat := 0
def tw9601969621821266911 : Nat := 0
def tw16468421705895386590 : Nat := 0
def tw13649472665597891738 : Nat := 0
def tw6892312072168948014 : Nat := 0
def tw5662168022354114101 : Nat := 0
def tw15033298197767297942 : Nat := 0
def tw2324351538103756188 : Nat := 0
def tw8064797402951532276 : Nat := 0
def tw12242686136872964753 : Nat := 0
def tw16029622617963882876 : Nat := 0
def tw16837260728463313393 : Nat := 0
def tw14588102828876772959 : Nat := 0
def tw4694322603346413248 : Nat := 0
def tw8941885789930117512 : Nat := 0
def tw9070705279292731786 : Nat := 0
def tw4326193953904211763 : Nat := 0
def tw4836215318009159195 : Nat := 0
def tw15530644434155946595 : Nat := 0
def tw14340875437791794698 : Nat := 0
def tw9146069429331719204 : Nat := 0
def tw2445878564221335618 : Nat := 0
def tw14980752692284703829 : Nat := 0
def tw2594156599281280045 : Nat := 0
def tw9033821564826775594 : Nat := 0
def tw5022317965446437929 : Nat := 0
def tw5055274028415145107 : Nat := 0
def tw14795022339404187851 : Nat := 0
def tw16390759506751032870 : Nat := 0
def tw4635262208496275944 : Nat := 0
def tw8948399163933202181 : Nat := 0
def tw17958257916071603643 : Nat := 0
def tw12591911564914820683 : Nat := 0
def tw2601153517579664556 : Nat := 0
def tw11477837485125088463 : Nat := 0
def tw16583542324326618040 : Nat := 0
def tw16999217455414452222 : Nat := 0
def tw18253905271279376813 : Nat := 0
def tw10334001980780393424 : Nat := 0
def tw4497012715522452490 : Nat := 0
def tw4660190592430218727 : Nat := 0
def tw2637568008107362406 : Nat := 0
def tw9586125378060055261 : Nat := 0
def tw15167638691828923709 : Nat := 0
def tw7128401146358888032 : Nat := 0
def tw15170566415855810708 : Nat := 0
def tw139539095141681510 : Nat := 0
def tw6787642087123346756 : Nat := 0
def tw17167551595482119041 : Nat := 0
def tw12242573559565828093 : Nat := 0
def tw2962003054160455987 : Nat := 0
def tw15751935589785043708 : Nat := 0
def tw11978902676053848260 : Nat := 0
def tw16376378456955076436 : Nat := 0
def tw10298718654463523681 : Nat := 0
def tw10369953859940754096 : Nat := 0
def tw8467025483891678231 : Nat := 0
def tw7827805208690632421 : Nat := 0
def tw17983304653298058 : Nat := 0
def tw9373715711313888514 : Nat := 0
def tw374848416877462989 : Nat := 0
def tw6373352513358370190 : Nat := 0
def tw6310635297371794819 : Nat := 0
def tw18037512323835794495 : Nat := 0
def tw11631209062655305792 : Nat := 0
def tw16575684298887734938 : Nat := 0
def tw13195819237855418796 : Nat := 0
def tw1731769161165168283 : Nat := 0
def tw13030239997479735172 : Nat := 0
def tw6899678290424553758 : Nat := 0
def tw1296122914102799616 : Nat := 0
def tw10976041697744377365 : Nat := 0
def tw13951686364422730951 : Nat := 0
def tw8987100500871936689 : Nat := 0
def tw6446855844438902358 : Nat := 0
def tw11610897147089332671 : Nat := 0
def tw18131955053215234370 : Nat := 0
def tw9266186974736670955 : Nat := 0
def tw8943121961803985401 : Nat := 0
def tw13558890283413572524 : Nat := 0
def tw2259639865296660589 : Nat := 0
def tw15214535475515263052 : Nat := 0
def tw13949097224012311655 : Nat := 0
def tw12075576885744487487 : Nat := 0
def tw16130600124248369698 : Nat := 0
def tw12195660079371270858 : Nat := 0
def tw7136252027445959133 : Nat := 0
def tw157062728756963158 : Nat := 0
def tw14169207031973286306 : Nat := 0
def tw13342758588036753396 : Nat := 0
def tw6640099460788198111 : Nat := 0
def tw1713362694185275750 : Nat := 0
def tw1629044892843923429 : Nat := 0
def tw3913977198033477687 : Nat := 0
def tw6038333912252144069 : Nat := 0
def tw15494829254539235276 : Nat := 0
def tw5797022798160017557 : Nat := 0
def tw3732192093147188303 : Nat := 0
def tw15788158573822854069 : Nat := 0
def tw13578967311403791618 : Nat := 0
def tw16994009545885936574 : Nat := 0
def tw17083820814317908333 : Nat := 0
def tw17545283939683897621 : Nat := 0
def tw18055349634198235926 : Nat := 0
def tw9427467350698374165 : Nat := 0
def tw11137705120924787123 : Nat := 0
def tw10261311321914750328 : Nat := 0
def tw8051154557730470433 : Nat := 0
def tw3433380631673604961 : Nat := 0
def tw12735055576962416118 : Nat := 0
def tw14267369772893654379 : Nat := 0
def tw11160721453921188434 : Nat := 0
def tw17899448791131915768 : Nat := 0
def tw14131167521276900221 : Nat := 0
def tw230822792584286814 : Nat := 0
def tw12897358487201033873 : Nat := 0
def tw8917482467483487001 : Nat := 0
def tw16762460867495935099 : Nat := 0
def tw16218645388274941430 : Nat := 0
def tw16154680590324663401 : Nat := 0
def tw12106390884283689695 : Nat := 0
def tw9196049309978160668 : Nat := 0
def tw3716958272779074659 : Nat := 0
def tw6486763353469432902 : Nat := 0
def tw1348532199676703144 : Nat := 0
def tw10941870456762759737 : Nat := 0
def tw10933816054766664863 : Nat := 0
def tw5683853188802661780 : Nat := 0
def tw17150291750619361916 : Nat := 0
def tw16927263939913168802 : Nat := 0
def tw13620404272402971542 : Nat := 0
def tw8769462067795185780 : Nat := 0
def tw14206784736856120446 : Nat := 0
def tw1552325980942804137 : Nat := 0
def tw17954518387706587919 : Nat := 0
def tw14010209344315961952 : Nat := 0
def tw5542130916006037953 : Nat := 0
def tw9034157069213579944 : Nat := 0
def tw9211607292383139387 : Nat := 0
def tw18368129433758507492 : Nat := 0
def tw9124322889261392753 : Nat := 0
def tw14968554307107038139 : Nat := 0
def tw5420951098235110012 : Nat := 0
def tw10606813379119095208 : Nat := 0
def tw15180802781304786391 : Nat := 0
def tw3603328724638191909 : Nat := 0
def tw13492846501729935240 : Nat := 0
def tw5956093646611059055 : Nat := 0
def tw8250013011178702851 : Nat := 0
def tw5368499725735871296 : Nat := 0
def tw9607723986917423948 : Nat := 0
def tw3481112282378271456 : Nat := 0
def tw12087618682437168344 : Nat := 0
def tw17886463828596443179 : Nat := 0
def tw8019526351032105099 : Nat := 0
def tw12141895154840270360 : Nat := 0
def tw986683033005840878 : Nat := 0
def tw14885222710986029902 : Nat := 0
def tw13292683211633127116 : Nat := 0
def tw12969389769850303806 : Nat := 0
def tw9175332462722863301 : Nat := 0
def tw11384347650258275384 : Nat := 0
def tw8212739736746256278 : Nat := 0
def tw1423878442719486544 : Nat := 0
def tw10766919241391067961 : Nat := 0
def tw2945918134268393108 : Nat := 0
def tw619703162852687712 : Nat := 0
def tw5808075536406869630 : Nat := 0
def tw13756709309518889603 : Nat := 0
def tw12764773454547672722 : Nat := 0
def tw4352089839606525231 : Nat := 0
def tw3958798819610925751 : Nat := 0
def tw4956375448497194988 : Nat := 0
def tw13150167607199792556 : Nat := 0
def tw2947884598173730697 : Nat := 0
def tw14366121494161010943 : Nat := 0
def tw7282682198397973848 : Nat := 0
def tw16128917154399053665 : Nat := 0
def tw7922724198301725233 : Nat := 0
def tw5400147230000892367 : Nat := 0
def tw15646117003517165853 : Nat := 0
def tw1344190578144359730 : Nat := 0
def tw10256313642105062827 : Nat := 0
def tw761509186221982504 : Nat := 0
def tw12362183524553138858 : Nat := 0
def tw7916052853164808894 : Nat := 0
def tw8589283556816555039 : Nat := 0
def tw14549660432128380605 : Nat := 0
def tw6905846450734867587 : Nat := 0
def tw4705244539048315158 : Nat := 0
def tw11219983960301459162 : Nat := 0
def tw16033585882395420154 : Nat := 0
def tw742805260417989845 : Nat := 0
def tw16775135928068965599 : Nat := 0
def tw7407323855639477569 : Nat := 0
def tw125594144584363917 : Nat := 0
def tw3144123288771802414 : Nat := 0
def tw9384319089244263926 : Nat := 0
def tw8911851186027937917 : Nat := 0
def tw16814690389266957026 : Nat := 0
def tw5152672739147611822 : Nat := 0
def tw16066103632554802206 : Nat := 0
def tw4422847645754062796 : Nat := 0
def tw9749967549413101339 : Nat := 0
def tw12450353972241457965 : Nat := 0
def tw8633841285886047510 : Nat := 0
def tw4680426995242687811 : Nat := 0
def tw497894726812058912 : Nat := 0
def tw2598694490047584774 : Nat := 0
def tw16402993746994166745 : Nat := 0
def tw1385095835207242557 : Nat := 0
def tw15862333124380604938 : Nat := 0
def tw13014435496235000653 : Nat := 0
def tw17169392271763368291 : Nat := 0
def tw331768918910090009 : Nat := 0
def tw12862894213270435052 : Nat := 0
def tw9802361689671970702 : Nat := 0
def tw10541525369651699660 : Nat := 0
def tw12683347663554345098 : Nat := 0
def tw1022612095064279432 : Nat := 0
def tw15559553379611796525 : Nat := 0
def tw13403489565228955396 : Nat := 0
def tw3024212758581976388 : Nat := 0
def tw9949496542272693612 : Nat := 0
def tw1754294640101705125 : Nat := 0
def tw130415944929294358 : Nat := 0
def tw14194057601104407956 : Nat := 0
def tw6049871395992398676 : Nat := 0
def tw8361220364777011570 : Nat := 0
def tw8311268333034830670 : Nat := 0
def tw5902293345653179352 : Nat := 0
def tw7738663354224656718 : Nat := 0
def tw13380659229919102477 : Nat := 0
def tw11002945015566049086 : Nat := 0
def tw8144180420439518461 : Nat := 0
def tw13202429697868920329 : Nat := 0
def tw11228978622050929256 : Nat := 0
def tw17645911299230944709 : Nat := 0
def tw8419679964912017926 : Nat := 0
def tw9603244429406063872 : Nat := 0
def tw14417024907801903948 : Nat := 0
def tw16748114559216145815 : Nat := 0
def tw13968594899611143674 : Nat := 0
def tw17126971652145353279 : Nat := 0
def tw2905733723047280240 : Nat := 0
def tw12051170310217725075 : Nat := 0
def tw4221768500705125736 : Nat := 0
def tw15883707785616958792 : Nat := 0
def tw10833794937126635318 : Nat := 0
def tw4161430778747527838 : Nat := 0
def tw3556785679463824069 : Nat := 0
def tw17632740157910703502 : Nat := 0
def tw16836158556645983807 : Nat := 0
def tw160958512405221200 : Nat := 0
def tw6743852579357951548 : Nat := 0
def tw13886410362472863730 : Nat := 0
def tw8302447745028630811 : Nat := 0
def tw13749973902094061951 : Nat := 0
def tw1559210882631211762 : Nat := 0
def tw14948407442536891620 : Nat := 0
def tw11161687649814805522 : Nat := 0
def tw3064801585946290643 : Nat := 0
def tw17665978845819058957 : Nat := 0
def tw13435046390087034569 : Nat := 0
def tw4732988402838050080 : Nat := 0
def tw10333893052258203416 : Nat := 0
def tw16498865320131780166 : Nat := 0
def tw15036574382758921457 : Nat := 0
def tw2518875146261389246 : Nat := 0
def tw8603424769925409794 : Nat := 0
def tw5884379170264707252 : Nat := 0
def tw6745308535611556129 : Nat := 0
def tw13434850524531395688 : Nat := 0
def tw662061877822297937 : Nat := 0
def tw15300510692291430395 : Nat := 0
def tw9159577137437899978 : Nat := 0
def tw13101556222256915703 : Nat := 0
def tw2145400673981214393 : Nat := 0
def tw450024874105874403 : Nat := 0
def tw8675849093248277398 : Nat := 0
def tw13783522480852536054 : Nat := 0
def tw802244656438357468 : Nat := 0
def tw2657005097995461223 : Nat := 0
def tw15819334403962696659 : Nat := 0
def tw15661788450081238656 : Nat := 0
def tw5220936709487191643 : Nat := 0
def tw11691222994900835507 : Nat := 0
def tw16660362673899636945 : Nat := 0
def tw14707685012812132491 : Nat := 0
def tw1901317703805739561 : Nat := 0
def tw14154949590627230764 : Nat := 0
def tw4384368399335075199 : Nat := 0
def tw14121215846288714357 : Nat := 0
def tw6288157300014047148 : Nat := 0
def tw139275347682097820 : Nat := 0
def tw6176198767773796120 : Nat := 0
def tw406504326864950468 : Nat := 0
def tw15984949943000707600 : Nat := 0
def tw13576089962501119859 : Nat := 0
def tw13730305622293785498 : Nat := 0
def tw1133753297510682136 : Nat := 0
def tw17973411151664097932 : Nat := 0
def tw7774006888361460494 : Nat := 0
def tw2570123792925501356 : Nat := 0
def tw10734128851337634567 : Nat := 0
def tw5669813525861598867 : Nat := 0
def tw5898034709043702561 : Nat := 0
def tw14013773565591295383 : Nat := 0
def tw15077739871636200874 : Nat := 0
def tw4648037265933865648 : Nat := 0
def tw3647318460580784916 : Nat := 0
def tw2059960302387029093 : Nat := 0
def tw8983836735178449591 : Nat := 0
def tw17338674792704982227 : Nat := 0
def tw11148080879459670935 : Nat := 0
def tw1065698895220938212 : Nat := 0
def tw11250661550130316137 : Nat := 0
def tw571038744319446792 : Nat := 0
def tw13718301274733861739 : Nat := 0
def tw10604645349175020778 : Nat := 0
def tw12591542598153427185 : Nat := 0
def tw4090926767870489675 : Nat := 0
def tw2111138448243361344 : Nat := 0
def tw7470361951932381792 : Nat := 0
def tw9626570887034984011 : Nat := 0
def tw7830265594692958207 : Nat := 0
def tw4291587042615182378 : Nat := 0
def tw11009167460385512249 : Nat := 0
def tw16523269663036962490 : Nat := 0
def tw6829005505854403178 : Nat := 0
def tw7514418971333116972 : Nat := 0
def tw4432767866110387493 : Nat := 0
def tw9468733353873683454 : Nat := 0
def tw5424778267142702813 : Nat := 0
def tw5387101079849381998 : Nat := 0
def tw12123279396623058498 : Nat := 0
def tw3338938934137409872 : Nat := 0
def tw5270227330140471310 : Nat := 0
def tw2426635130764774844 : Nat := 0
def tw2369245097946242590 : Nat := 0
def tw16934780104105424537 : Nat := 0
def tw8991074879025050001 : Nat := 0
def tw5877691746762531144 : Nat := 0
def tw15626916381293923089 : Nat := 0
def tw14607076480144566421 : Nat := 0
def tw2141994621683269254 : Nat := 0
def tw15388020647006470812 : Nat := 0
def tw5917176541870400262 : Nat := 0
def tw2114822798858051146 : Nat := 0
def tw13368907539283199718 : Nat := 0
def tw16125851240161458165 : Nat := 0
def tw5823787856353807384 : Nat := 0
def tw159772920864238114 : Nat := 0
end PySem.W.Fast
section
open PySem PySem.W PyProof.Rows
local macro_rules
  | `(tactic| o_head ($f:ident $k:term $a:term $e:term)) => do
    if f.getId.eraseMacroScopes == `kHook then `(tactic| o_head (L2.fHook $k $a $e [])) else Lean.Macro.throwUnsupported
  | `(tactic| o_head ($f:ident $k:term $a:term $e:term $t:term)) => do
    if f.getId.eraseMacroScopes == `kmHook then `(tactic| o_head (L2.fHook $k $a $e $t)) else Lean.Macro.throwUnsupported
set_option maxHeartbeats 0 in
open_top K71.top for PySem.Challenge.rw_roadnet_k71_measures_refused
end
namespace L2
open PySem PySem.Spec PyProof.Rows
abbrev Key := Sum Int Str
def keyIs : Key → Value → Bool
  | .inl k, v => Value.isInt k v
  | .inr x, v => Value.isStrOf x v
def keyH (w : World) : Key → Int
  | .inl k => hashInt k
  | .inr x => hashStr w x
theorem keyIs_shape : ∀ {k : Key} {v : Value}, keyIs k v = true → (∃ i t, k = Sum.inl i ∧ v = Value.int i t) ∨ (∃ x t, k = Sum.inr x ∧ v = Value.str x t)
  | .inl i, v, h => by
    obtain ⟨t, e⟩ := Value.isInt_shape (k := i) (v := v) h
    exact .inl ⟨i, t, rfl, e⟩
  | .inr x, v, h => by
    obtain ⟨t, e⟩ := Value.isStrOf_shape (x := x) (v := v) h
    exact .inr ⟨x, t, rfl, e⟩
theorem keyIs_int (i : Int) (t : Tok) : keyIs (.inl i) (.int i t) = true := by simp [keyIs, Value.isInt]
theorem keyIs_str (x : Str) (t : Tok) : keyIs (.inr x) (.str x t) = true := by simp [keyIs, Value.isStrOf]
theorem key_ll (a b : Int) : decide ((Sum.inl a : Key) = Sum.inl b) = (a == b) := by
  by_cases e : a = b
  · subst e; simp
  · have h : ¬ (Sum.inl a : Key) = Sum.inl b := fun q => e (Sum.inl.inj q)
    rw [decide_eq_false h]
    exact (beq_eq_false_iff_ne.mpr e).symm
theorem key_rr (a b : Str) : decide ((Sum.inr a : Key) = Sum.inr b) = decide (a = b) := by
  by_cases e : a = b
  · subst e; simp
  · have h : ¬ (Sum.inr a : Key) = Sum.inr b := fun q => e (Sum.inr.inj q)
    rw [decide_eq_false h, decide_eq_false e]
theorem key_lr (a : Int) (b : Str) : decide ((Sum.inl a : Key) = Sum.inr b) = false := decide_eq_false (fun q => nomatch q)
theorem key_rl (a : Str) (b : Int) : decide ((Sum.inr a : Key) = Sum.inl b) = false := decide_eq_false (fun q => nomatch q)
def mixKind (prog : Program) (w : World) : PySem.KeyKind prog w Key where
  is := keyIs
  hash := keyH w
  inj := fun v a b ha hb => by
    rcases keyIs_shape ha with ⟨i, t, rfl, rfl⟩ | ⟨x, t, rfl, rfl⟩
    · rcases keyIs_shape hb with ⟨j, u, rfl, e⟩ | ⟨y, u, rfl, e⟩
      · injection e with e1 _; rw [e1]
      · exact nomatch e
    · rcases keyIs_shape hb with ⟨j, u, rfl, e⟩ | ⟨y, u, rfl, e⟩
      · exact nomatch e
      · injection e with e1 _; rw [e1]
  byValue := fun k v h => by
    rcases keyIs_shape h with ⟨i, t, rfl, rfl⟩ | ⟨x, t, rfl, rfl⟩ <;> rfl
  pyHash := fun hv h => by
    rcases keyIs_shape hv with ⟨i, t, rfl, rfl⟩ | ⟨x, t, rfl, rfl⟩
    · exact wpAny_pyHash_int h
    · exact wpAny_pyHash_str h
  eqBool := fun hu hv h => by
    rcases keyIs_shape hu with ⟨i, t, rfl, rfl⟩ | ⟨x, t, rfl, rfl⟩
    · rcases keyIs_shape hv with ⟨j, u, rfl, rfl⟩ | ⟨y, u, rfl, rfl⟩
      · rw [key_ll] at h; exact wpAny_eqBool_int h
      · rw [key_lr] at h; exact SeqAt.EqAt.int_str i t y u _ _ _ _ h
    · rcases keyIs_shape hv with ⟨j, u, rfl, rfl⟩ | ⟨y, u, rfl, rfl⟩
      · rw [key_rl] at h; exact SeqAt.EqAt.str_int x t j u _ _ _ _ h
      · rw [key_rr] at h; exact wpAny_eqBool_str h
  «strs» := fun k x t v h => by
    rcases keyIs_shape h with ⟨i, u, rfl, e⟩ | ⟨y, u, rfl, e⟩
    · exact nomatch e
    · injection e with e1 _
      subst e1
      cases v <;> rfl
theorem mixKind_int (prog : Program) (w : World) (i : Int) (t : Tok) : (mixKind prog w).is (.inl i) (.int i t) = true := keyIs_int i t
theorem mixKind_str (prog : Program) (w : World) (x : Str) (t : Tok) : (mixKind prog w).is (.inr x) (.str x t) = true := keyIs_str x t
end L2
namespace L2
open PySem PySem.Spec PyProof.Rows
inductive V where
  | non | bl (b : Bool) | int (i : Int) | str (x : Str) | byt (b : Array UInt8) | flt (b : UInt64) | ref (a : Addr) | ty (n : String)
  deriving DecidableEq
def RelV : V → Value → Prop
  | .non, u => u = Value.none
  | .bl b, u => u = Value.bool b
  | .int i, u => ∃ t, u = Value.int i t
  | .str x, u => ∃ t, u = Value.str x t
  | .byt b, u => ∃ t, u = Value.bytes b t
  | .flt b, u => ∃ t, u = Value.float b t
  | .ref a, u => u = Value.ref a
  | .ty n, u => u = Value.type n
abbrev Vals : List V → List Value → Prop := Paired RelV
theorem Vals.length {xs : List V} {us : List Value} (r : Vals xs us) : xs.length = us.length := Paired.length r
theorem Vals.get : ∀ {xs : List V} {us : List Value} {i : Nat} {x : V}, Vals xs us → xs[i]? = some x → ∃ u, us[i]? = some u ∧ RelV x u
  | _, _, _, _, .nil, e => by simp at e
  | _, _, 0, _, .cons r _, e => by simp at e; subst e; exact ⟨_, rfl, r⟩
  | _, _, i + 1, x, .cons _ t, e => by
    obtain ⟨u, h1, h2⟩ := Vals.get (i := i) (x := x) t (by simpa using e)
    exact ⟨u, by simpa using h1, h2⟩
theorem Vals.append : ∀ {xs ys : List V} {us ws : List Value}, Vals xs us → Vals ys ws → Vals (xs ++ ys) (us ++ ws)
  | _, _, _, _, .nil, s => s
  | _, _, _, _, .cons r t, s => .cons r (Vals.append t s)
theorem Vals.take : ∀ {xs : List V} {us : List Value} (n : Nat), Vals xs us → Vals (xs.take n) (us.take n)
  | _, _, 0, _ => .nil
  | _, _, _ + 1, .nil => .nil
  | _, _, n + 1, .cons r t => .cons r (Vals.take n t)
theorem Vals.drop : ∀ {xs : List V} {us : List Value} (n : Nat), Vals xs us → Vals (xs.drop n) (us.drop n)
  | _, _, 0, r => r
  | _, _, _ + 1, .nil => .nil
  | _, _, n + 1, .cons _ t => Vals.drop n t
def RelO : Option V → Option Value → Prop
  | some v, some u => RelV v u
  | none, none => True
  | _, _ => False
def KV {κ : Type} : List (κ × V) → List (κ × Value) → Prop := Paired fun (p : κ × V) (q : κ × Value) => p.1 = q.1 ∧ RelV p.2 q.2
def kV : Key → V
  | .inl i => .int i
  | .inr x => .str x
inductive HO where
  | lst (xs : List V)
  | tup (xs : List V)
  | dK (kvs : List (Key × V)) | dT (kvs : List (List Key × V))
  | set (S : Int → Bool) (n : Nat)
  | ins (C dx : Addr) (fs : List (Str × V))
  | own (x : Addr)
  | xd (fs : List (Str × V))
  | met (f x : Addr)
  | rng (lo hi : Int)
  | frz (o : Obj) (u : HO)
  | tbl (ps : Array Value)
  | ext (φ : Heap → Prop)
abbrev Hp := Addr → Option HO
def upd (H : Hp) (a : Addr) (o : HO) : Hp := fun b => if b = a then some o else H b
theorem upd_same {H : Hp} {a : Addr} {o : HO} : upd H a o a = some o := by unfold upd; rw [if_pos rfl]
theorem upd_ne {H : Hp} {a b : Addr} {o : HO} (h : b ≠ a) : upd H a o b = H b := by unfold upd; rw [if_neg h]
theorem upd_upd {H : Hp} {a : Addr} {o u : HO} : upd (upd H a o) a u = upd H a u := by
  funext b; unfold upd; split <;> rfl
theorem ne_of_none {H : Hp} {a b : Addr} {o : HO} (h : H a = some o) (h' : H b = none) : a ≠ b := by
  intro e; subst e; rw [h] at h'; cases h'
section
variable (P : Program) (w : World)
def ObjOk (H : Hp) (h : Heap) (a : Addr) : HO → Prop
  | .lst xs => xs.length ≤ sizeLine ∧ ∃ (its : List Value) (n : Nat), Vals xs its ∧ h.get? a = some { cls := .type "list", data := .seq its.toArray n }
  | .tup xs => xs.length ≤ sizeLine ∧ ∃ its : List Value, Vals xs its ∧ IsTup h a its.toArray
  | .dK kvs => kvs.length ≤ sizeLine ∧ (a == sysModules) = false ∧ ∃ vs, KV kvs vs ∧ h.DictOf (mixKind P w) a vs
  | .dT kvs => kvs.length ≤ sizeLine ∧ (a == sysModules) = false ∧ ∃ xs : List (List Key × Addr × Value),
      Paired (fun (p : List Key × V) (q : List Key × Addr × Value) => p.1 = q.1 ∧ H q.2.1 = some (.tup (p.1.map kV)) ∧ RelV p.2 q.2.2) kvs xs ∧
      ∃ o es ep, h.get? a = some o ∧ o.ExactDict ∧ o.data = .dict es ep ∧ es.toList = xs.map (entryOfKey (tupleKind (mixKind P w))) ∧ (xs.map (·.1)).Nodup
  | .set S n => h.SetOf (intKind P w) a S n
  | .ins C dx fs => H dx = some (.own a) ∧ fs.length ≤ 1000 ∧ dx ≠ a ∧ h.get? a = some (PySem.W.instObj C dx) ∧
      ∃ mA, h.Ns1 dx mA ∧ (∀ f, RelO (fs.lookup f) (mA f)) ∧ PySem.Within mA (fs.map (·.1))
  | .own _ => ∃ o, h.get? a = some o
  | .xd fs => ∃ mA, h.Ns1 a mA ∧ ∀ f, RelO (fs.lookup f) (mA f)
  | .rng lo hi => ∃ t u v, h.get? a = some { cls := .type "range", data := .fields #[.int lo t, .int hi u, .int 1 v] }
  | .frz o u => h.get? a = some o ∧ ObjOk H h a u
  | .tbl ps => h.get? a = some { cls := .none, data := .fields ps }
  | .met f x => h.get? a = some (PySem.W.methodObj (.ref f) (.ref x))
  | .ext φ => φ h ∧ (∃ o, h.get? a = some o) ∧ ∀ h1 h2 : Heap, φ h1 → (∀ o, h1.get? a = some o → h2.get? a = some o) → φ h2
def HOk (H : Hp) (h : Heap) : Prop := ∀ a o, H a = some o → ObjOk P w H h a o
end
section
variable {P : Program} {w : World} {H H' : Hp} {h h' : Heap} {a : Addr} {o : HO}
theorem ObjOk.lt (x : ObjOk P w H h a o) : a < h.objs.size := by
  cases o with
  | lst xs => obtain ⟨_, _, _, _, e⟩ := x; exact Heap.lt_size e
  | tup xs => obtain ⟨_, _, _, p⟩ := x; exact p.lt
  | dK kvs => obtain ⟨_, _, _, _, o, _, _, e, _⟩ := x; exact Heap.lt_size e
  | dT kvs => obtain ⟨_, _, _, _, o, _, _, e, _⟩ := x; exact Heap.lt_size e
  | set S n => obtain ⟨o, _, _, _, e, _⟩ := x; exact Heap.lt_size e
  | ins C dx fs => obtain ⟨_, _, _, e, _⟩ := x; exact Heap.lt_size e
  | own y => obtain ⟨_, e⟩ := x; exact Heap.lt_size e
  | xd fs => obtain ⟨_, ⟨_, _, _, e, _⟩, _⟩ := x; exact Heap.lt_size e
  | rng lo hi => obtain ⟨_, _, _, e⟩ := x; exact Heap.lt_size e
  | frz ob u => obtain ⟨e, _⟩ := x; exact Heap.lt_size e
  | tbl ps => exact Heap.lt_size (show h.get? a = some _ from x)
  | met f y => exact Heap.lt_size (show h.get? a = some _ from x)
  | ext φ => obtain ⟨_, ⟨_, e⟩, _⟩ := x; exact Heap.lt_size e
theorem Paired.mapP {α β : Type} {F G : α → β → Prop} : ∀ {l₁ : List α} {l₂ : List β}, Paired F l₁ l₂ → (∀ a b, F a b → G a b) → Paired G l₁ l₂
  | _, _, .nil, _ => .nil
  | _, _, .cons r t, f => .cons (f _ _ r) (Paired.mapP t f)
theorem ObjOk.stay (x : ObjOk P w H h a o) (k : ∀ b u, (b = a ∨ H b = some (.own a)) → h.get? b = some u → h'.get? b = some u)
    (ho : ∀ b, H b = some (.own a) → H' b = some (.own a)) (ht : ∀ b xs, H b = some (.tup xs) → H' b = some (.tup xs)) : ObjOk P w H' h' a o := by
  induction o with
  | lst xs => obtain ⟨z, its, n, r, e⟩ := x; exact ⟨z, its, n, r, k _ _ (.inl rfl) e⟩
  | tup xs => obtain ⟨z, its, r, ob, e, c⟩ := x; exact ⟨z, its, r, ob, k _ _ (.inl rfl) e, c⟩
  | dK kvs => obtain ⟨z, y, vs, r, ob, es, ep, e, c⟩ := x; exact ⟨z, y, vs, r, ob, es, ep, k _ _ (.inl rfl) e, c⟩
  | dT kvs =>
    obtain ⟨z, y, xs, r, ob, es, ep, e, c⟩ := x
    exact ⟨z, y, xs, Paired.mapP r fun p q z => ⟨z.1, ht _ _ z.2.1, z.2.2⟩, ob, es, ep, k _ _ (.inl rfl) e, c⟩
  | set S n => obtain ⟨ob, es, ep, t, e, c⟩ := x; exact ⟨ob, es, ep, t, k _ _ (.inl rfl) e, c⟩
  | ins C dx fs =>
    obtain ⟨d, z, ne, e, mA, ⟨od, es, ep, e2, c⟩, r⟩ := x
    exact ⟨ho _ d, z, ne, k _ _ (.inl rfl) e, mA, ⟨od, es, ep, k _ _ (.inr d) e2, c⟩, r⟩
  | own y => obtain ⟨ob, e⟩ := x; exact ⟨ob, k _ _ (.inl rfl) e⟩
  | xd fs => obtain ⟨mA, ⟨od, es, ep, e, c⟩, r⟩ := x; exact ⟨mA, ⟨od, es, ep, k _ _ (.inl rfl) e, c⟩, r⟩
  | rng lo hi => obtain ⟨t, u, v, e⟩ := x; exact ⟨t, u, v, k _ _ (.inl rfl) e⟩
  | frz ob u ih => obtain ⟨e, q⟩ := x; exact ⟨k _ _ (.inl rfl) e, ih q⟩
  | tbl ps =>
    have e : h.get? a = some { cls := .none, data := .fields ps } := x
    show h'.get? a = some { cls := .none, data := .fields ps }
    exact k a _ (.inl rfl) e
  | met f y =>
    have e : h.get? a = some (PySem.W.methodObj (.ref f) (.ref y)) := x
    show h'.get? a = some (PySem.W.methodObj (.ref f) (.ref y))
    exact k a _ (.inl rfl) e
  | ext φ => obtain ⟨p, ⟨o, e⟩, st⟩ := x; exact ⟨st _ _ p fun o q => k _ _ (.inl rfl) q, ⟨o, k _ _ (.inl rfl) e⟩, st⟩
theorem HOk.lt (x : HOk P w H h) (e : H a = some o) : a < h.objs.size := (x a o e).lt
theorem HOk.fresh (x : HOk P w H h) (e : h.objs.size ≤ a) : H a = none := by
  cases q : H a with
  | none => rfl
  | some u => exact absurd (Nat.lt_of_lt_of_le (x.lt q) e) (Nat.lt_irrefl _)
theorem HOk.kept (x : HOk P w H h) (k : ∀ b u, h.get? b = some u → h'.get? b = some u) : HOk P w H h' := fun a o e =>
  (x a o e).stay (fun b u _ q => k b u q) (fun _ q => q) fun _ _ q => q
theorem HOk.laid (x : HOk P w H h) (k : ∀ b u, h.get? b = some u → h'.get? b = some u) (hp : h.objs.size ≤ a) (new : ObjOk P w (upd H a o) h' a o) : HOk P w (upd H a o) h' := fun b u e => by
  have hn := x.fresh hp
  by_cases hb : b = a
  · subst hb; rw [upd_same] at e; cases e; exact new
  · rw [upd_ne hb] at e
    exact (x b u e).stay (fun c v _ q => k c v q) (fun c q => by rw [upd_ne (ne_of_none q hn)]; exact q) fun c xs q => by rw [upd_ne (ne_of_none q hn)]; exact q
end
def Rd (H : Hp) (a : Addr) (u : HO) : Prop := H a = some u ∨ ∃ o, H a = some (.frz o u)
theorem Rd.ok {P : Program} {w : World} {H : Hp} {h : Heap} {a : Addr} {u : HO} (r : Rd H a u) (x : HOk P w H h) : ObjOk P w H h a u := by
  rcases r with r | ⟨o, r⟩
  · exact x a u r
  · obtain ⟨_, q⟩ := x a _ r
    exact q
def Mut : Option HO → Prop
  | some (.lst _) => True
  | some (.dK _) => True
  | some (.dT _) => True
  | some (.set _ _) => True
  | some (.ins _ _ _) => True
  | some (.ext _) => True
  | _ => False
section
variable {P : Program} {w : World} {H : Hp} {h h' : Heap} {x e : Addr} {o' : HO}
theorem HOk.write (ok : HOk P w H h) (mu : Mut (H x)) (he : e = x ∨ H e = some (.own x)) (k : ∀ b u, b ≠ e → h.get? b = some u → h'.get? b = some u) (heo : ∃ u, h'.get? e = some u)
    (new : ObjOk P w (upd H x o') h' x o') : HOk P w (upd H x o') h' := fun b u q => by
  have nown : ∀ c y, H c = some (.own y) → c ≠ x := fun c y r z => by subst z; rw [r] at mu; exact mu
  have ntup : ∀ c xs, H c = some (.tup xs) → c ≠ x := fun c xs r z => by subst z; rw [r] at mu; exact mu
  by_cases hb : b = x
  · subst hb; rw [upd_same] at q; cases q; exact new
  · rw [upd_ne hb] at q
    by_cases hbe : b = e
    · have q' : H b = some (.own x) := by
        rcases he with z | z
        · exact absurd (hbe.trans z) hb
        · rw [hbe]; exact z
      rw [q] at q'; cases q'
      obtain ⟨v, hv⟩ := heo
      exact ⟨v, by rw [hbe]; exact hv⟩
    · refine (ok b u q).stay (fun c v hc r => k c v ?_ r) (fun c r => by rw [upd_ne (nown c b r)]; exact r) fun c xs r => by rw [upd_ne (ntup c xs r)]; exact r
      rcases hc with rfl | hc
      · exact hbe
      · rintro rfl
        rcases he with z | z
        · exact nown c b hc z
        · rw [hc] at z; cases z; exact hb rfl
end
structure Un (fs ex : List Addr) (H H' : Hp) (h h' : Heap) : Prop where
  keep : ∀ b o, h.get? b = some o → H b = none → b ∉ fs → b ∉ ex → h'.get? b = some o
  slot : ∀ b o, h.get? b = some o → H b = none → b ∈ fs → b ∉ ex → ∃ sl, h'.get? b = some { o with slots := sl }
  free : ∀ b o, h.get? b = some o → H b = none → b ∉ ex → H' b = none
  there : ∀ b o, h.get? b = some o → b ∉ ex → ∃ o', h'.get? b = some o'
  tups : ∀ b xs, H b = some (.tup xs) → H' b = some (.tup xs)
  frzs : ∀ b o u, H b = some (.frz o u) → H' b = some (.frz o u)
  tbls : ∀ b ps, H b = some (.tbl ps) → ∃ more, H' b = some (.tbl (ps ++ more))
section
variable {fs fs' ex ex' : List Addr} {H H1 H2 : Hp} {h h1 h2 h' : Heap} {a x e : Addr} {o : HO}
theorem Un.any (u : Un fs ex H H1 h h1) {b : Addr} {ob : Obj} (q : h.get? b = some ob) (n : H b = none) (hx : b ∉ ex) : ∃ sl, h1.get? b = some { ob with slots := sl } := by
  by_cases hb : b ∈ fs
  · exact u.slot b ob q n hb hx
  · exact ⟨ob.slots, u.keep b ob q n hb hx⟩
theorem Un.kept (k : ∀ b u, h.get? b = some u → h'.get? b = some u) : Un fs ex H H h h' :=
  ⟨fun b ob q _ _ _ => k b ob q, fun b ob q _ _ _ => ⟨ob.slots, k b ob q⟩, fun _ _ _ n _ => n, fun b ob q _ => ⟨ob, k b ob q⟩, fun _ _ q => q, fun _ _ _ q => q, fun _ ps q => ⟨#[], by rw [q]; simp⟩⟩
theorem Un.refl : Un fs ex H H h h := Un.kept fun _ _ q => q
theorem Un.laid (k : ∀ b u, h.get? b = some u → h'.get? b = some u) (hp : h.objs.size ≤ a) (hn : H a = none) : Un fs ex H (upd H a o) h h' where
  keep := fun b u q _ _ _ => k b u q
  slot := fun b u q _ _ _ => ⟨u.slots, k b u q⟩
  free := fun b u q n _ => by rw [upd_ne (Nat.ne_of_lt (Nat.lt_of_lt_of_le (Heap.lt_size q) hp))]; exact n
  there := fun b u q _ => ⟨u, k b u q⟩
  tups := fun b xs q => by rw [upd_ne (ne_of_none q hn)]; exact q
  frzs := fun b u xs q => by rw [upd_ne (ne_of_none q hn)]; exact q
  tbls := fun b ps q => ⟨#[], by rw [upd_ne (ne_of_none q hn), q]; simp⟩
theorem Un.write (mu : Mut (H x)) (he : e = x ∨ H e = some (.own x)) (k : ∀ b u, b ≠ e → h.get? b = some u → h'.get? b = some u) (heo : ∃ u, h'.get? e = some u) : Un fs ex H (upd H x o) h h' := by
  have hx : ∀ b, H b = none → b ≠ x := fun b n z => by subst z; rw [n] at mu; exact mu
  have hb : ∀ b, H b = none → b ≠ e := fun b n z => by
    subst z
    rcases he with r | r
    · exact hx b n r
    · rw [n] at r; cases r
  have hm : ∀ b u, H b = some u → ¬ Mut (some u) → b ≠ x := fun b u q nm z => by subst z; rw [q] at mu; exact nm mu
  refine ⟨fun b u q n _ _ => k b u (hb b n) q, fun b u q n _ _ => ⟨u.slots, k b u (hb b n) q⟩, fun b u q n _ => by rw [upd_ne (hx b n)]; exact n, fun b u q _ => ?_,
    fun b xs q => by rw [upd_ne (hm b _ q fun z => z)]; exact q, fun b u xs q => by rw [upd_ne (hm b _ q fun z => z)]; exact q, fun b ps q => ⟨#[], by rw [upd_ne (hm b _ q fun z => z), q]; simp⟩⟩
  by_cases hbe : b = e
  · subst hbe; exact heo
  · exact ⟨u, k b u hbe q⟩
end
def trk (h : Heap) (H : Hp) : List Addr := (List.range h.objs.size).filter fun a => (H a).isSome
def hidT (h : Heap) (H : Hp) : Heap := PySem.W.hideAll h (trk h H)
theorem hidT_size (h : Heap) (H : Hp) : (hidT h H).objs.size = h.objs.size := PySem.W.hideAll_size _ _
theorem hidT_get {h : Heap} {H : Hp} {b : Addr} {o : Obj} (e : h.get? b = some o) (n : H b = none) : (hidT h H).get? b = some o :=
  PySem.W.hideAll_get _ e fun hm => by
    have q : (H b).isSome = true := (List.mem_filter.mp hm).2
    rw [n] at q; simp at q
theorem of_hidT {h : Heap} {H : Hp} {b : Addr} {o : Obj} (e : (hidT h H).get? b = some o) : h.get? b = some o ∧ H b = none := by
  have e' : h.get? b = some o := PySem.W.of_hideAll (trk h H) e
  refine ⟨e', ?_⟩
  cases q : H b with
  | none => rfl
  | some x =>
    have hm : b ∈ trk h H := List.mem_filter.mpr ⟨List.mem_range.mpr (Heap.lt_size e'), by simp [q]⟩
    have z : (hidT h H).get? b = none := PySem.W.hideAll_none (trk h H) hm
    rw [z] at e; cases e
def allNews (g h : Heap) (L : Addr) : List (Addr × Obj) := (List.range h.objs.size).filterMap fun a => if a = L ∨ (g.get? a).isSome = true then none else (h.get? a).map fun o => (a, o)
def rest (g h : Heap) (L d : Addr) : List (Addr × Obj) := (allNews g h L).filter fun p => decide (p.1 ≠ d)
end L2
namespace L2
open PySem PySem.Spec PyProof.Rows
structure Mod (K : PySem.W.Frag) (mg : Str → Option Value) (base : Heap) : Prop where
  kin : K.In base
  glob : base.Ns mainGlobals mg
  blt : ∃ mb, base.Ns builtinsNs mb ∧ ∀ x : Str, x ≠ "__name__" → mb x = bootBuiltins x
  nolimit : base.NoLimit
structure Cx where
  prog : Program
  w : World
  K : PySem.W.Frag
  mg : Str → Option Value
  base : Heap
  A : Around
  N : List Str
  s₀ : Shared
  H₀ : Hp
  env : Env
  outer : List Env
  stack : List Env
  ex : List Addr
  fn : Str → Bool
  calm : Bool
  pn : List (Addr × Obj)
  xe : Value → Shared → Prop
def frs (l : List Env) : List Addr := l.filterMap (·.frame)
abbrev Cx.fs (X : Cx) : List Addr := frs X.outer
def Vis (sc : Scope) (x : Str) : Prop := sc.names.lookup x = some .local ∨ sc.names.lookup x = some .cell ∨ sc.names.lookup x = some .free
def Loc (sc : Scope) (x : Str) : Prop := sc.names.lookup x = some .local ∨ sc.names.lookup x = some .cell
def Look (env : Env) (h : Heap) (m : Str → Option Value) (x : Str) (u : Value) : Prop :=
  (env.kindOf x = some .local ∧ m x = some u) ∨ ((env.kindOf x = some .cell ∨ env.kindOf x = some .free) ∧ ∃ c, env.cells.lookup x = some c ∧ h.IsCell c (some u))
structure Cx.Ok (X : Cx) : Prop where
  mod : Mod X.K X.mg X.base
  kind : X.env.scope.kind = .function
  glob : X.env.globals = mainGlobals
  blt : X.env.builtins = builtinsNs
  above : X.s₀.heap.objs.size ≤ X.env.locals
  inj : ∀ x y c, X.env.cells.lookup x = some c → X.env.cells.lookup y = some c → x = y
  has : ∀ x, (X.env.kindOf x = some .cell ∨ X.env.kindOf x = some .free) → ∃ c, X.env.cells.lookup x = some c
  cab : ∀ x c, X.fn x = true → X.env.cells.lookup x = some c → X.s₀.heap.objs.size ≤ c
  hd : X.calm = true → X.A.handled = none
  frames : X.A.frames = some X.stack
  stk : X.stack = X.outer ∨ (X.stack = X.env :: X.outer ∧ X.env.frame = some X.env.locals)
  exf : ∀ b ∈ X.ex, b ≠ X.env.locals ∧ ∀ x c, X.env.cells.lookup x = some c → c ≠ b
  bs : ∀ b o, X.base.get? b = some o → X.s₀.heap.get? b = some o ∧ X.H₀ b = none
  bsz : X.base.objs.size ≤ X.s₀.heap.objs.size
  noex : ∀ b o, X.base.get? b = some o → b ∉ X.ex
  exfs : ∀ b ∈ X.ex, b ∉ X.fs
  funs : X.s₀.heap.FunFrames X.base X.outer
  frf : ∀ b ∈ X.fs, X.H₀ b = none
structure Inv (X : Cx) (pins : List (Addr × Obj)) (σ : List (Option V)) (H : Hp) (s : Shared) : Prop where
  ok : X.Ok
  os : s.os = X.s₀.os
  bare : AllBare s.gens
  base : Un X.fs X.ex X.H₀ H X.s₀.heap s.heap
  loc : ∃ m, s.heap.Ns X.env.locals m ∧ ∀ (i : Nat) (x : Str) (v : V), X.N[i]? = some x → σ[i]? = some (some v) → Vis X.env.scope x → ∃ u, RelV v u ∧ Look X.env s.heap m x u
  cell : ∀ x c, X.env.cells.lookup x = some c → ∃ v, s.heap.IsCell c v
  free : H X.env.locals = none
  freeC : ∀ x c, X.env.cells.lookup x = some c → H c = none
  pin : ∀ p ∈ X.pn ++ pins, s.heap.get? p.1 = some p.2 ∧ H p.1 = none ∧ p.1 ≠ X.env.locals ∧ p.1 ∉ X.fs ∧ ∀ v, p.2.data ≠ .cell v
  hok : HOk X.prog X.w H s.heap
  len : σ.length = X.N.length
section
variable {X : Cx} {pins : List (Addr × Obj)} {σ : List (Option V)} {H H' : Hp} {s : Shared} {h' : Heap}
theorem Cx.Ok.nofr (ok : X.Ok) {b : Addr} {o : Obj} (e : X.base.get? b = some o) : b ∉ X.fs := fun hb => by
  have := (ok.funs.mem hb).1
  rw [e] at this; cases this
theorem Inv.bs (I : Inv X pins σ H s) : ∀ b o, X.base.get? b = some o → s.heap.get? b = some o ∧ H b = none := fun b o e =>
  ⟨I.base.keep b o (I.ok.bs b o e).1 (I.ok.bs b o e).2 (I.ok.nofr e) (I.ok.noex b o e), I.base.free b o (I.ok.bs b o e).1 (I.ok.bs b o e).2 (I.ok.noex b o e)⟩
theorem Inv.bk (I : Inv X pins σ H s) : ∀ b o, X.base.get? b = some o → s.heap.get? b = some o := fun b o e => (I.bs b o e).1
theorem Inv.mod (I : Inv X pins σ H s) : Mod X.K X.mg X.base := I.ok.mod
theorem Inv.kIn (I : Inv X pins σ H s) : X.K.In s.heap := I.ok.mod.kin.keeps I.bk
theorem Inv.lt (I : Inv X pins σ H s) : X.env.locals < s.heap.objs.size := let ⟨_, hn, _⟩ := I.loc; hn.lt
theorem Inv.sz (I : Inv X pins σ H s) : X.s₀.heap.objs.size ≤ s.heap.objs.size := Nat.le_trans I.ok.above (Nat.le_of_lt I.lt)
theorem Inv.nofs (I : Inv X pins σ H s) {a : Addr} (h : s.heap.objs.size ≤ a) : a ∉ X.fs := fun hb => by
  obtain ⟨_, o, ho, _⟩ := I.ok.funs.mem hb
  exact absurd (Nat.lt_of_lt_of_le (Heap.lt_size ho) (Nat.le_trans I.sz h)) (Nat.lt_irrefl _)
theorem Inv.cne (I : Inv X pins σ H s) : ∀ x c, X.env.cells.lookup x = some c → c ≠ X.env.locals := fun x c e z => by
  obtain ⟨v, o, ho, hd⟩ := I.cell x c e
  obtain ⟨m, ⟨o', es, ep, ho', hd', _⟩, _⟩ := I.loc
  rw [z, ho'] at ho; cases ho; rw [hd'] at hd; cases hd
theorem Inv.funs (I : Inv X pins σ H s) : s.heap.FunFrames X.base X.outer := by
  have all : ∀ (l : List Env), (∀ b ∈ frs l, b ∈ X.fs) → X.s₀.heap.FunFrames X.base l → s.heap.FunFrames X.base l := by
    intro l
    induction l with
    | nil => intro _ _; trivial
    | cons env r ih =>
      intro hs hl
      obtain ⟨hk, ⟨L, o, hf, hn, ho, hd⟩, hr⟩ := hl
      have hL : L ∈ X.fs := hs L (by unfold frs; rw [List.filterMap_cons, hf]; exact List.mem_cons_self)
      obtain ⟨sl, e⟩ := I.base.slot L o ho (I.ok.frf L hL) hL fun z => I.ok.exfs L z hL
      exact ⟨hk, ⟨L, _, hf, hn, e, hd⟩, ih (fun b hb => hs b (by unfold frs; rw [List.filterMap_cons, hf]; exact List.mem_cons_of_mem _ hb)) hr⟩
  exact all X.outer (fun _ hb => hb) I.ok.funs
theorem Inv.stack (I : Inv X pins σ H s) : s.heap.FunFrames X.base X.stack := by
  rcases I.ok.stk with e | ⟨e, hf⟩
  · rw [e]; exact I.funs
  · rw [e]
    obtain ⟨m, hn, _⟩ := I.loc
    refine .cons (by rw [I.ok.kind]; decide) hf hn ?_ I.funs
    exact Heap.get?_none_of_le (Nat.le_trans I.ok.bsz I.ok.above)
theorem Inv.stkSub (I : Inv X pins σ H s) : ∀ b ∈ frs X.stack, b ∈ X.env.locals :: X.fs := fun b hb => by
  rcases I.ok.stk with e | ⟨e, hf⟩
  · rw [e] at hb; exact List.mem_cons_of_mem _ hb
  · rw [e] at hb
    unfold frs at hb
    rw [List.filterMap_cons, hf] at hb
    exact hb
theorem Inv.stkFree (I : Inv X pins σ H s) : ∀ b ∈ frs X.stack, H b = none := fun b hb => by
  rcases List.mem_cons.mp (I.stkSub b hb) with e | hb
  · rw [e]; exact I.free
  · obtain ⟨_, o, ho, _⟩ := I.ok.funs.mem hb
    exact I.base.free b o ho (I.ok.frf b hb) fun z => I.ok.exfs b z hb
theorem Inv.step {g' : Array GenState} {t' : Nat} {d' : Drawn} {ch : List Addr} (I : Inv X pins σ H s)
    (hch : ∀ b ∈ ch, (b ∈ X.ex ∨ X.s₀.heap.objs.size ≤ b) ∧ b ≠ X.env.locals ∧ (∀ x c, X.env.cells.lookup x = some c → c ≠ b) ∧ ∀ p ∈ X.pn ++ pins, p.1 ≠ b)
    (keep : ∀ b o, b ≠ X.env.locals → b ∉ X.fs → b ∉ ch → s.heap.get? b = some o → H b = none → h'.get? b = some o)
    (slot : ∀ b o, b ≠ X.env.locals → b ∈ X.fs → b ∉ ch → s.heap.get? b = some o → H b = none → ∃ sl, h'.get? b = some { o with slots := sl }) (free : ∀ b o, b ∉ ch → s.heap.get? b = some o → H b = none → H' b = none)
    (there : ∀ b o, b ∉ ch → s.heap.get? b = some o → ∃ o', h'.get? b = some o')
    (tups : ∀ b xs, H b = some (.tup xs) → H' b = some (.tup xs)) (frzs : ∀ b o u, H b = some (.frz o u) → H' b = some (.frz o u)) (tbls : ∀ b ps, H b = some (.tbl ps) → ∃ more, H' b = some (.tbl (ps ++ more)))
    (ns : ∀ m, s.heap.Ns X.env.locals m → h'.Ns X.env.locals m) (hok : HOk X.prog X.w H' h') (hg : AllBare g') :
    Inv X pins σ H' { s with heap := h', gens := g', drawn := d', toks := t' } := by
  have neL : ∀ b o, X.s₀.heap.get? b = some o → b ≠ X.env.locals := fun b o e => Nat.ne_of_lt (Nat.lt_of_lt_of_le (Heap.lt_size e) I.ok.above)
  have neC : ∀ b o, X.s₀.heap.get? b = some o → b ∉ X.ex → b ∉ ch := fun b o e hx hb => by
    rcases (hch b hb).1 with z | z
    · exact hx z
    · exact absurd (Nat.lt_of_lt_of_le (Heap.lt_size e) z) (Nat.lt_irrefl _)
  have cellK : ∀ x c, X.env.cells.lookup x = some c → ∀ v, s.heap.IsCell c v → h'.IsCell c v := fun x c e v ⟨o, ho, hd⟩ => by
    have nch : c ∉ ch := fun z => (hch c z).2.2.1 x c e rfl
    by_cases hc : c ∈ X.fs
    · obtain ⟨sl, q⟩ := slot c o (I.cne x c e) hc nch ho (I.freeC x c e)
      exact ⟨_, q, hd⟩
    · exact ⟨o, keep c o (I.cne x c e) hc nch ho (I.freeC x c e), hd⟩
  refine ⟨I.ok, I.os, hg, ⟨fun b o e n hb hx => ?_, fun b o e n hb hx => ?_, fun b o e n hx => ?_, fun b o e hx => ?_, fun b xs e => tups b xs (I.base.tups b xs e), fun b o xs e => frzs b o xs (I.base.frzs b o xs e), fun b ps e => ?_⟩, ?_, fun x c e => ?_, ?_, fun x c e => ?_, fun p hp => ?_, hok, I.len⟩
  · exact keep b o (neL b o e) hb (neC b o e hx) (I.base.keep b o e n hb hx) (I.base.free b o e n hx)
  · obtain ⟨sl, e1⟩ := I.base.slot b o e n hb hx
    obtain ⟨sl', e2⟩ := slot b _ (neL b o e) hb (neC b o e hx) e1 (I.base.free b o e n hx)
    exact ⟨sl', e2⟩
  · obtain ⟨o', e1⟩ := I.base.there b o e hx
    exact free b o' (neC b o e hx) e1 (I.base.free b o e n hx)
  · obtain ⟨o', e1⟩ := I.base.there b o e hx
    exact there b o' (neC b o e hx) e1
  · obtain ⟨m1, e1⟩ := I.base.tbls b ps e
    obtain ⟨m2, e2⟩ := tbls b _ e1
    exact ⟨m1 ++ m2, by rw [e2, Array.append_assoc]⟩
  · obtain ⟨m, hn, hl⟩ := I.loc
    refine ⟨m, ns m hn, fun i x v e1 e2 e3 => ?_⟩
    obtain ⟨u, r, l⟩ := hl i x v e1 e2 e3
    refine ⟨u, r, ?_⟩
    rcases l with l | ⟨k, c, e, z⟩
    · exact .inl l
    · exact .inr ⟨k, c, e, cellK x c e _ z⟩
  · obtain ⟨v, z⟩ := I.cell x c e
    exact ⟨v, cellK x c e v z⟩
  · obtain ⟨m, ⟨o, _, _, ho, _⟩, _⟩ := I.loc
    exact free _ o (fun z => (hch _ z).2.1 rfl) ho I.free
  · obtain ⟨v, o, ho, hd⟩ := I.cell x c e
    exact free c o (fun z => (hch c z).2.2.1 x c e rfl) ho (I.freeC x c e)
  · obtain ⟨e, n, ne, nf, d⟩ := I.pin p hp
    have nch : p.1 ∉ ch := fun z => (hch p.1 z).2.2.2 p hp rfl
    exact ⟨keep p.1 p.2 ne nf nch e n, free p.1 p.2 nch e n, ne, nf, d⟩
theorem Inv.un {t' : Nat} (I : Inv X pins σ H s) (u : Un X.fs [] H H' s.heap h') (hok : HOk X.prog X.w H' h') : Inv X pins σ H' { s with heap := h', toks := t' } := by
  obtain ⟨m, ⟨o, es, ep, ho, r⟩, _⟩ := id I.loc
  obtain ⟨sl, hL⟩ := u.any ho I.free (by simp)
  exact I.step (g' := s.gens) (d' := s.drawn) (ch := []) (fun _ z => nomatch z) (fun b o _ hb _ e n => u.keep b o e n hb (by simp)) (fun b o _ hb _ e n => u.slot b o e n hb (by simp)) (fun b o _ e n => u.free b o e n (by simp)) (fun b o _ e => u.there b o e (by simp)) u.tups u.frzs u.tbls (fun m' hm => by
    obtain ⟨o', es', ep', ho', r'⟩ := hm
    rw [ho] at ho'; cases ho'
    exact ⟨_, es', ep', hL, r'⟩) hok I.bare
theorem Inv.call {g' : Array GenState} {t' : Nat} {d' : Drawn} {ch : List Addr} (I : Inv X pins σ H s) (u : Un (frs X.stack) ch H H' s.heap h') (hok : HOk X.prog X.w H' h') (hg : AllBare g')
    (hch : ∀ b ∈ ch, (b ∈ X.ex ∨ X.s₀.heap.objs.size ≤ b) ∧ b ≠ X.env.locals ∧ (∀ x c, X.env.cells.lookup x = some c → c ≠ b) ∧ ∀ p ∈ X.pn ++ pins, p.1 ≠ b) :
    Inv X pins σ H' { s with heap := h', gens := g', drawn := d', toks := t' } := by
  obtain ⟨m, ⟨o, es, ep, ho, r⟩, _⟩ := id I.loc
  obtain ⟨sl, hL⟩ := u.any ho I.free fun z => (hch _ z).2.1 rfl
  exact I.step (ch := ch) hch (fun b o hL hb hc e n => u.keep b o e n (fun z => (List.mem_cons.mp (I.stkSub b z)).elim hL hb) hc) (fun b o _ _ hc e n => u.any e n hc) (fun b o hc e n => u.free b o e n hc) (fun b o hc e => u.there b o e hc) u.tups u.frzs u.tbls (fun m' hm => by
    obtain ⟨o', es', ep', ho', r'⟩ := hm
    rw [ho] at ho'; cases ho'
    exact ⟨_, es', ep', hL, r'⟩) hok hg
theorem Inv.turned {t' : Nat} {it : Addr} (I : Inv X pins σ H s) (k : ∀ b o, b ≠ it → s.heap.get? b = some o → h'.get? b = some o) (hn : H it = none) (hL : it ≠ X.env.locals)
    (h1 : it ∈ X.ex ∨ X.s₀.heap.objs.size ≤ it) (h2 : ∀ x c, X.env.cells.lookup x = some c → c ≠ it) (h3 : ∀ p ∈ X.pn ++ pins, p.1 ≠ it) : Inv X pins σ H { s with heap := h', toks := t' } := by
  have nit : ∀ b u, H b = some u → b ≠ it := fun b u e z => by rw [z, hn] at e; cases e
  refine I.step (g' := s.gens) (d' := s.drawn) (ch := [it]) (fun b hb => ?_) (fun b o _ _ hc e _ => k b o (fun z => hc (by simp [z])) e) (fun b o _ _ hc e _ => ⟨o.slots, k b o (fun z => hc (by simp [z])) e⟩) (fun _ _ _ _ n => n)
    (fun b o hc e => ⟨o, k b o (fun z => hc (by simp [z])) e⟩) (fun _ _ e => e) (fun _ _ _ e => e) (fun b ps e => ⟨#[], by rw [e]; simp⟩) (fun m hm => ?_) (fun b u e => ?_) I.bare
  · have e : b = it := by simpa using hb
    subst e
    exact ⟨h1, hL, h2, h3⟩
  · obtain ⟨o, es, ep, ho, r⟩ := hm
    exact ⟨o, es, ep, k _ o (Ne.symm hL) ho, r⟩
  · refine (I.hok b u e).stay (fun c v hc q => k c v ?_ q) (fun _ q => q) fun _ _ q => q
    rcases hc with z | z
    · rw [z]; exact nit b u e
    · exact nit c _ z
theorem Inv.tok (I : Inv X pins σ H s) (t : Nat) : Inv X pins σ H { s with toks := t } := I.un (h' := s.heap) (t' := t) Un.refl I.hok
theorem Inv.kept {t' : Nat} (I : Inv X pins σ H s) (k : ∀ b u, s.heap.get? b = some u → h'.get? b = some u) : Inv X pins σ H { s with heap := h', toks := t' } := I.un (Un.kept k) (I.hok.kept k)
theorem Inv.laid {a : Addr} {o : HO} {t' : Nat} (I : Inv X pins σ H s) (k : ∀ b u, s.heap.get? b = some u → h'.get? b = some u) (hp : s.heap.objs.size ≤ a) (new : ObjOk X.prog X.w (upd H a o) h' a o) :
    Inv X pins σ (upd H a o) { s with heap := h', toks := t' } := I.un (Un.laid k hp (I.hok.fresh hp)) (I.hok.laid k hp new)
theorem Inv.write {x e : Addr} {o : HO} {t' : Nat} (I : Inv X pins σ H s) (mu : Mut (H x)) (he : e = x ∨ H e = some (.own x)) (k : ∀ b u, b ≠ e → s.heap.get? b = some u → h'.get? b = some u) (heo : ∃ u, h'.get? e = some u)
    (new : ObjOk X.prog X.w (upd H x o) h' x o) : Inv X pins σ (upd H x o) { s with heap := h', toks := t' } := I.un (Un.write mu he k heo) (I.hok.write mu he k heo new)
theorem Inv.weak {σ' : List (Option V)} (I : Inv X pins σ H s) (hl : σ'.length = σ.length) (w : ∀ (i : Nat) v, σ'[i]? = some (some v) → σ[i]? = some (some v)) : Inv X pins σ' H s :=
  ⟨I.ok, I.os, I.bare, I.base, let ⟨m, hn, hl'⟩ := I.loc; ⟨m, hn, fun i x v e1 e2 e3 => hl' i x v e1 (w i v e2) e3⟩, I.cell, I.free, I.freeC, I.pin, I.hok, hl.trans I.len⟩
theorem Inv.pins_of {pins' : List (Addr × Obj)} (I : Inv X pins σ H s) (h : ∀ p ∈ pins', s.heap.get? p.1 = some p.2 ∧ H p.1 = none ∧ p.1 ≠ X.env.locals ∧ p.1 ∉ X.fs ∧ ∀ v, p.2.data ≠ .cell v) : Inv X pins' σ H s :=
  ⟨I.ok, I.os, I.bare, I.base, I.loc, I.cell, I.free, I.freeC, fun p hp => (List.mem_append.mp hp).elim (fun z => I.pin p (List.mem_append_left _ z)) (h p), I.hok, I.len⟩
theorem nodup_ix {N : List Str} (hN : N.Nodup) {i j : Nat} {x : Str} (a : N[i]? = some x) (b : N[j]? = some x) : i = j := by
  obtain ⟨h1, e1⟩ := List.getElem?_eq_some_iff.mp a
  obtain ⟨h2, e2⟩ := List.getElem?_eq_some_iff.mp b
  exact (List.getElem_inj hN).mp (e1.trans e2.symm)
theorem store_ok2 {M : Model} {A : Around} {E : Value → Shared → Prop} {i : Nat} {x : Str} {v : V} {u : Value} {Q : Unit → Shared → Prop} (I : Inv X pins σ H s) (hN : X.N.Nodup) (hi : X.N[i]? = some x) (hx : Loc X.env.scope x) (r : RelV v u)
    (h : ∀ s', Inv X pins (σ.set i (some v)) H s' → (∃ a, Heap.SameBut a s.heap s'.heap ∧ (a = X.env.locals ∨ X.env.cells.lookup x = some a)) → Q () s') (hf : X.fn x = true ∨ X.env.scope.names.lookup x = some .local := by first | exact .inl rfl | exact .inr rfl | assumption) : wpAny M A (storeName X.env x u) Q E s := by
  obtain ⟨m, hn, hl⟩ := id I.loc
  have hcls : (X.env.scope.kind == .class || (X.env.scope.kind == .module && X.env.locals != X.env.globals)) = false := by rw [I.ok.kind]; rfl
  have hiσ : i < σ.length := by rw [I.len]; exact (List.getElem?_eq_some_iff.mp hi).1
  have cne := I.cne
  have tracked : ∀ {a : Addr} {h' : Heap}, (∃ o, s.heap.get? a = some o ∧ H a = none) → Heap.SameBut a s.heap h' → HOk X.prog X.w H h' := fun {a h'} ha hs b ob e => by
    obtain ⟨_, _, hfree⟩ := ha
    refine (I.hok b ob e).stay (fun c w' hc q => (hs.2 c ?_).trans q) (fun _ q => q) fun _ _ q => q
    rintro rfl
    rcases hc with rfl | hc
    · rw [hfree] at e; cases e
    · rw [hfree] at hc; cases hc
  rcases hx with hk | hk
  · refine wpAny_storeName_local hk hn (fun h' hn' hs => ?_) hcls
    obtain ⟨oL, _, _, hoL, _⟩ := id hn
    refine h _ ⟨I.ok, I.os, I.bare, ⟨fun b o e n hb hx => ?_, fun b o e n hb hx => ?_, I.base.free, fun b o e hx => ?_, I.base.tups, I.base.frzs, I.base.tbls⟩, ⟨_, hn', fun j y v' e1 e2 e3 => ?_⟩, fun y c e => ?_, I.free, I.freeC, fun p hp => ?_, tracked ⟨oL, hoL, I.free⟩ hs, by simpa using I.len⟩ ⟨_, hs, .inl rfl⟩
    · exact (hs.2 b (Nat.ne_of_lt (Nat.lt_of_lt_of_le (Heap.lt_size e) I.ok.above))).trans (I.base.keep b o e n hb hx)
    · obtain ⟨sl, e1⟩ := I.base.slot b o e n hb hx
      exact ⟨sl, (hs.2 b (Nat.ne_of_lt (Nat.lt_of_lt_of_le (Heap.lt_size e) I.ok.above))).trans e1⟩
    · obtain ⟨o', e1⟩ := I.base.there b o e hx
      exact ⟨o', (hs.2 b (Nat.ne_of_lt (Nat.lt_of_lt_of_le (Heap.lt_size e) I.ok.above))).trans e1⟩
    · by_cases hj : j = i
      · subst hj
        rw [hi] at e1; cases e1
        rw [List.getElem?_set_self hiσ] at e2
        cases e2
        exact ⟨u, r, .inl ⟨hk, by simp⟩⟩
      · rw [List.getElem?_set_ne (Ne.symm hj)] at e2
        obtain ⟨u', r', q⟩ := hl j y v' e1 e2 e3
        refine ⟨u', r', ?_⟩
        rcases q with ⟨k, e⟩ | ⟨k, c, e, z⟩
        · refine .inl ⟨k, ?_⟩
          have : y ≠ x := fun e => hj (nodup_ix hN e1 (e ▸ hi))
          simp [this, e]
        · exact .inr ⟨k, c, e, z.sameBut hs (cne y c e)⟩
    · obtain ⟨w', z⟩ := I.cell y c e
      exact ⟨w', z.sameBut hs (cne y c e)⟩
    · obtain ⟨e, n, ne, nf, d⟩ := I.pin p hp
      exact ⟨(hs.2 p.1 ne).trans e, n, ne, nf, d⟩
  · have hfn : X.fn x = true := by
      rcases hf with z | z
      · exact z
      · rw [z] at hk; cases hk
    obtain ⟨c, hc⟩ := I.ok.has x (.inl hk)
    obtain ⟨w', z⟩ := I.cell x c hc
    refine wpAny_storeName_cell I.ok.kind hk hc z (fun h' hc' hs => ?_)
    obtain ⟨oc, hoc, hocd⟩ := id z
    refine h { s with heap := h' } ⟨I.ok, I.os, I.bare, ⟨fun b o e n hb hx => ?_, fun b o e n hb hx => ?_, I.base.free, fun b o e hx => ?_, I.base.tups, I.base.frzs, I.base.tbls⟩, ⟨m, hn.sameBut hs (Ne.symm (cne x c hc)), fun j y v' e1 e2 e3 => ?_⟩, fun y c' e => ?_, I.free, I.freeC, fun p hp => ?_, tracked ⟨oc, hoc, I.freeC x c hc⟩ hs, by simpa using I.len⟩ ⟨c, hs, .inr hc⟩
    · exact (hs.2 b (Nat.ne_of_lt (Nat.lt_of_lt_of_le (Heap.lt_size e) (I.ok.cab x c hfn hc)))).trans (I.base.keep b o e n hb hx)
    · obtain ⟨sl, e1⟩ := I.base.slot b o e n hb hx
      exact ⟨sl, (hs.2 b (Nat.ne_of_lt (Nat.lt_of_lt_of_le (Heap.lt_size e) (I.ok.cab x c hfn hc)))).trans e1⟩
    · obtain ⟨o', e1⟩ := I.base.there b o e hx
      exact ⟨o', (hs.2 b (Nat.ne_of_lt (Nat.lt_of_lt_of_le (Heap.lt_size e) (I.ok.cab x c hfn hc)))).trans e1⟩
    · by_cases hj : j = i
      · subst hj
        rw [hi] at e1; cases e1
        rw [List.getElem?_set_self hiσ] at e2
        cases e2
        exact ⟨u, r, .inr ⟨.inl hk, c, hc, hc'⟩⟩
      · rw [List.getElem?_set_ne (Ne.symm hj)] at e2
        obtain ⟨u', r', q⟩ := hl j y v' e1 e2 e3
        refine ⟨u', r', ?_⟩
        rcases q with q | ⟨k, c', e, z'⟩
        · exact .inl q
        · refine .inr ⟨k, c', e, z'.sameBut hs ?_⟩
          rintro rfl
          exact hj (nodup_ix hN e1 (I.ok.inj _ _ _ e hc ▸ hi))
    · by_cases hcc : c' = c
      · subst hcc; exact ⟨_, hc'⟩
      · obtain ⟨w2, z2⟩ := I.cell y c' e
        exact ⟨w2, z2.sameBut hs hcc⟩
    · obtain ⟨e, n, ne, nf, d⟩ := I.pin p hp
      refine ⟨(hs.2 p.1 ?_).trans e, n, ne, nf, d⟩
      intro q
      rw [q, hoc] at e
      have q' : oc = p.2 := Option.some.inj e
      exact d w' (by rw [← q']; exact hocd)
theorem store_ok {M : Model} {A : Around} {E : Value → Shared → Prop} {i : Nat} {x : Str} {v : V} {u : Value} {Q : Unit → Shared → Prop} (I : Inv X pins σ H s) (hN : X.N.Nodup) (hi : X.N[i]? = some x) (hx : Loc X.env.scope x) (r : RelV v u)
    (h : ∀ s', Inv X pins (σ.set i (some v)) H s' → Q () s') (hf : X.fn x = true ∨ X.env.scope.names.lookup x = some .local := by first | exact .inl rfl | exact .inr rfl | assumption) : wpAny M A (storeName X.env x u) Q E s :=
  store_ok2 I hN hi hx r (fun s' I' _ => h s' I') hf
theorem Inv.call' {s' : Shared} {ch : List Addr} (I : Inv X pins σ H s) (ho : s'.os = s.os) (u : Un (frs X.stack) ch H H' s.heap s'.heap) (hok : HOk X.prog X.w H' s'.heap) (hg : AllBare s'.gens)
    (hch : ∀ b ∈ ch, (b ∈ X.ex ∨ X.s₀.heap.objs.size ≤ b) ∧ b ≠ X.env.locals ∧ (∀ x c, X.env.cells.lookup x = some c → c ≠ b) ∧ ∀ p ∈ X.pn ++ pins, p.1 ≠ b) : Inv X pins σ H' s' := by
  obtain ⟨h', g', d', t', o'⟩ := s'
  have e : o' = s.os := ho
  subst e
  exact I.call (g' := g') (t' := t') (d' := d') u hok hg hch
end
abbrev XK := Value → Option Addr → Hp → Prop
abbrev St := List (Option V)
abbrev VK := V → Hp → Prop
abbrev TE := St → Hp → VK → Prop
abbrev TT := St → Hp → (Bool → Hp → Prop) → Prop
abbrev TA := St → Hp → (List V → Hp → Prop) → Prop
structure Ends where
  nx : St → Hp → Prop
  rt : VK
  bk : St → Hp → Prop := fun _ _ => False
  ct : St → Hp → Prop := fun _ _ => False
abbrev TS := Ends → St → Hp → Prop
def EP (X : Cx) (pins : List (Addr × Obj)) (σ : St) (Q : VK) (u : Value) (s' : Shared) : Prop := ∃ v H', Inv X pins σ H' s' ∧ RelV v u ∧ Q v H'
def TP (X : Cx) (pins : List (Addr × Obj)) (σ : St) (Q : Bool → Hp → Prop) (b : Bool) (s' : Shared) : Prop := ∃ H', Inv X pins σ H' s' ∧ Q b H'
def AP (X : Cx) (pins : List (Addr × Obj)) (σ : St) (Q : List V → Hp → Prop) (us : List Value) (s' : Shared) : Prop := ∃ vs H', Inv X pins σ H' s' ∧ Vals vs us ∧ Q vs H'
def SP (X : Cx) (pins : List (Addr × Obj)) (D : Ends) (f : Flow) (s' : Shared) : Prop :=
  match f with
  | .next => ∃ σ' H', Inv X pins σ' H' s' ∧ D.nx σ' H'
  | .brk => ∃ σ' H', Inv X pins σ' H' s' ∧ D.bk σ' H'
  | .cont => ∃ σ' H', Inv X pins σ' H' s' ∧ D.ct σ' H'
  | .ret u => ∃ v σ' H', Inv X pins σ' H' s' ∧ RelV v u ∧ D.rt v H'
def PE (X : Cx) (e : Expr) (t : TE) : Prop :=
  ∀ (pins : List (Addr × Obj)) (s : Shared) (σ : St) (H : Hp) (Q : VK), Inv X pins σ H s → t σ H Q → wpAny (model X.prog X.w) X.A (eval e X.env) (EP X pins σ Q) X.xe s
def PT (X : Cx) (e : Expr) (t : TT) : Prop :=
  ∀ (pins : List (Addr × Obj)) (s : Shared) (σ : St) (H : Hp) (Q : Bool → Hp → Prop), Inv X pins σ H s → t σ H Q → wpAny (model X.prog X.w) X.A (isTrue e X.env (eval e X.env)) (TP X pins σ Q) X.xe s
def PW (X : Cx) (e : Expr) (t : TT) : Prop :=
  ∀ (whole : Sem Value) (pins : List (Addr × Obj)) (s : Shared) (σ : St) (H : Hp) (Q : Bool → Hp → Prop), Inv X pins σ H s → t σ H Q → wpAny (model X.prog X.w) X.A (isTrue e X.env whole) (TP X pins σ Q) X.xe s
theorem PW.pt {X : Cx} {e : Expr} {t : TT} (h : PW X e t) : PT X e t := h _
def PA (X : Cx) (es : List Expr) (t : TA) : Prop :=
  ∀ (pos : Pos) (pins : List (Addr × Obj)) (s : Shared) (σ : St) (H : Hp) (Q : List V → Hp → Prop), Inv X pins σ H s → t σ H Q → wpAny (model X.prog X.w) X.A (spliced (backTo pos (starEach es X.env))) (AP X pins σ Q) X.xe s
def PS (X : Cx) (st : Stmt) (t : TS) : Prop :=
  ∀ (pins : List (Addr × Obj)) (s : Shared) (σ : St) (H : Hp) (D : Ends), Inv X pins σ H s → t D σ H → wpAny (model X.prog X.w) X.A (exec st X.env) (SP X pins D) X.xe s
def PSs (X : Cx) (st : List Stmt) (t : TS) : Prop :=
  ∀ (pins : List (Addr × Obj)) (s : Shared) (σ : St) (H : Hp) (D : Ends), Inv X pins σ H s → t D σ H → wpAny (model X.prog X.w) X.A (execs st X.env) (SP X pins D) X.xe s
theorem thn {α : Type} {t : Sem α} {Q Q' : α → Shared → Prop} {M : Model} {A : Around} {E : Value → Shared → Prop} {s : Shared} (h : wpAny M A t Q E s) (hQ : ∀ a s, Q a s → Q' a s) : wpAny M A t Q' E s := wpAny_mono h hQ fun _ _ x => x
end L2
namespace L2
open PySem PySem.Spec PyProof.Rows
section
variable {X : Cx}
def tVar (i : Nat) : TE := fun σ H Q => ∃ v, σ[i]? = some (some v) ∧ Q v H
def tC (v : V) : TE := fun _ H Q => Q v H
theorem pe_var {i : Nat} {x : Str} {pos : Pos} (hN : X.N[i]? = some x) (hv : Vis X.env.scope x) (hd : (x == ("__debug__" : Str)) = false := by decide) (hcd : (x == ("__classdict__" : Str)) = false := by decide) : PE X (.Name x pos) (tVar i) := by
  intro pins s σ H Q I h
  obtain ⟨v, e, h⟩ := h
  obtain ⟨m, hn, hl⟩ := I.loc
  obtain ⟨u, r, l⟩ := hl i x v hN e hv
  have fin : EP X pins σ Q u s := ⟨v, H, I, r, h⟩
  rcases l with ⟨hk, hm⟩ | ⟨hk, c, hc, hcell⟩
  · exact wpAny_Name (wpAny_loadName_local I.ok.kind hk hn hm fin) hd
  · rcases hk with hk | hk
    · exact wpAny_Name (wpAny_loadName_cell I.ok.kind hk hc hcell fin) hd
    · exact wpAny_Name (wpAny_loadName_free I.ok.kind hk hc hcell fin hcd) hd
theorem pe_int {i j pos} : PE X (.Constant (.int i) j pos) (tC (.int i)) := fun _ _ _ H _ I h => wpAny_Constant_int ⟨.int i, H, I.tok _, ⟨_, rfl⟩, h⟩
theorem pe_bl {b j pos} : PE X (.Constant (.bool b) j pos) (tC (.bl b)) := fun _ _ _ H _ I h => Constant_bool ⟨.bl b, H, I, rfl, h⟩
theorem pe_non {j pos} : PE X (.Constant .none j pos) (tC .non) := fun _ _ _ H _ I h => Constant_none ⟨.non, H, I, rfl, h⟩
theorem pe_str {x j pos} : PE X (.Constant (.str x) j pos) (tC (.str x)) := fun _ _ _ H _ I h => Calls.Constant_str ⟨.str x, H, I.tok _, ⟨_, rfl⟩, h⟩
def Gl (X : Cx) (x : Str) : Prop := X.env.kindOf x = some .globalImplicit
theorem ld_glob {E : Value → Shared → Prop} {pins : List (Addr × Obj)} {s : Shared} {σ : St} {H : Hp} {x : Str} {u : Value} {pos : Pos} {Q : Value → Shared → Prop} (I : Inv X pins σ H s) (hg : Gl X x) (hm : X.mg x = some u) (h : Q u s)
    (hd : (x == ("__debug__" : Str)) = false := by decide) : wpAny (model X.prog X.w) X.A (eval (.Name x pos) X.env) Q E s :=
  Calls.Name_function_global I.ok.kind hg (Calls.loadGlobal_global (by rw [I.ok.glob]; exact I.mod.glob.keeps I.bk) hm h) hd
theorem ld_blt {E : Value → Shared → Prop} {pins : List (Addr × Obj)} {s : Shared} {σ : St} {H : Hp} {x : Str} {u : Value} {pos : Pos} {Q : Value → Shared → Prop} (I : Inv X pins σ H s) (hg : Gl X x) (hm : X.mg x = none) (hv : bootBuiltins x = some u) (h : Q u s)
    (hn : x ≠ "__name__" := by decide) (hd : (x == ("__debug__" : Str)) = false := by decide) : wpAny (model X.prog X.w) X.A (eval (.Name x pos) X.env) Q E s := by
  obtain ⟨mb, h1, h2⟩ := I.mod.blt
  exact Calls.Name_function_global I.ok.kind hg (Calls.loadGlobal_builtin (by rw [I.ok.glob]; exact I.mod.glob.keeps I.bk) hm (by rw [I.ok.blt]; exact h1.keeps I.bk) ((h2 x hn).trans hv) h) hd
theorem pe_glob {x : Str} {v : V} {u : Value} {pos : Pos} (hg : Gl X x) (hm : X.mg x = some u) (r : RelV v u) (hd : (x == ("__debug__" : Str)) = false := by decide) : PE X (.Name x pos) (tC v) :=
  fun _ _ _ H _ I h => ld_glob I hg hm ⟨v, H, I, r, h⟩ hd
theorem pe_bltn {x : Str} {v : V} {u : Value} {pos : Pos} (hg : Gl X x) (hm : X.mg x = none) (hv : bootBuiltins x = some u) (r : RelV v u) (hn : x ≠ "__name__" := by decide) (hd : (x == ("__debug__" : Str)) = false := by decide) : PE X (.Name x pos) (tC v) :=
  fun _ _ _ H _ I h => ld_blt I hg hm hv ⟨v, H, I, r, h⟩ hn hd
variable {a b : Expr} {ta tb : TE} {pos : Pos}
variable {tA tB' : TT} {rest : List Expr}
def tAnd (t u : TT) : TT := fun σ H Q => t σ H fun c H1 => if c = true then u σ H1 Q else Q false H1
def tOr (t u : TT) : TT := fun σ H Q => t σ H fun c H1 => if c = true then Q true H1 else u σ H1 Q
def tNot (t : TT) : TT := fun σ H Q => t σ H fun c H1 => Q (!c) H1
theorem pw_and1 (ha : PT X a tA) : PW X (.BoolOp .And [a] pos) tA := by
  intro wh pins s σ H Q I h
  refine isTrue_and (thn (ha pins s σ H Q I h) fun c s1 e => ?_)
  cases c with
  | true => exact isTrue_and_nil e
  | false => exact e
theorem pw_or1 (ha : PT X a tA) : PW X (.BoolOp .Or [a] pos) tA := by
  intro wh pins s σ H Q I h
  refine isTrue_or (thn (ha pins s σ H Q I h) fun c s1 e => ?_)
  cases c with
  | false => exact isTrue_or_nil e
  | true => exact e
theorem pw_and (ha : PT X a tA) (hb : PW X (.BoolOp .And (b :: rest) pos) tB') : PW X (.BoolOp .And (a :: b :: rest) pos) (tAnd tA tB') := by
  intro wh pins s σ H Q I h
  refine isTrue_and (thn (ha pins s σ H _ I h) fun c s1 ⟨H1, I1, q1⟩ => ?_)
  cases c with
  | true => exact hb wh pins s1 σ H1 Q I1 q1
  | false => exact ⟨H1, I1, q1⟩
theorem pw_or (ha : PT X a tA) (hb : PW X (.BoolOp .Or (b :: rest) pos) tB') : PW X (.BoolOp .Or (a :: b :: rest) pos) (tOr tA tB') := by
  intro wh pins s σ H Q I h
  refine isTrue_or (thn (ha pins s σ H _ I h) fun c s1 ⟨H1, I1, q1⟩ => ?_)
  cases c with
  | true => exact ⟨H1, I1, q1⟩
  | false => exact hb wh pins s1 σ H1 Q I1 q1
theorem pt_not (ha : PT X a tA) : PT X (.UnaryOp .Not a pos) (tNot tA) := by
  intro pins s σ H Q I h
  exact isTrue_not (ha pins s σ H (fun c H1 => Q (!c) H1) I h)
def tAndV (ta tb : TE) : TE := fun σ H Q => ta σ H fun x H1 => ∃ c, x = .bl c ∧ if c = true then tb σ H1 Q else Q (.bl false) H1
def tOrV (ta tb : TE) : TE := fun σ H Q => ta σ H fun x H1 => ∃ c, x = .bl c ∧ if c = true then Q (.bl true) H1 else tb σ H1 Q
def tNotV (ta : TE) : TE := fun σ H Q => ta σ H fun x H1 => ∃ c, x = .bl c ∧ Q (.bl (!c)) H1
theorem pe_one {op} {t : TE} (h : PE X a t) : PE X (.BoolOp op [a] pos) t := fun pins s σ H Q I hw => BoolOp_one (h pins s σ H Q I hw)
theorem pe_and (ha : PE X a ta) (hb : PE X (.BoolOp .And (b :: rest) pos) tb) : PE X (.BoolOp .And (a :: b :: rest) pos) (tAndV ta tb) := by
  intro pins s σ H Q I h
  refine BoolOp_and (thn (ha pins s σ H _ I h) fun v s1 ⟨x, H1, I1, r1, q1⟩ => ?_)
  obtain ⟨c, rfl, q1⟩ := q1
  cases r1
  refine wpAny_truthy_bool ?_
  cases c with
  | true => exact hb pins s1 σ H1 Q I1 q1
  | false => exact ⟨.bl false, H1, I1, rfl, q1⟩
theorem pe_or (ha : PE X a ta) (hb : PE X (.BoolOp .Or (b :: rest) pos) tb) : PE X (.BoolOp .Or (a :: b :: rest) pos) (tOrV ta tb) := by
  intro pins s σ H Q I h
  refine BoolOp_or (thn (ha pins s σ H _ I h) fun v s1 ⟨x, H1, I1, r1, q1⟩ => ?_)
  obtain ⟨c, rfl, q1⟩ := q1
  cases r1
  refine wpAny_truthy_bool ?_
  cases c with
  | false => exact hb pins s1 σ H1 Q I1 q1
  | true => exact ⟨.bl true, H1, I1, rfl, q1⟩
theorem pe_not (ha : PE X a ta) : PE X (.UnaryOp .Not a pos) (tNotV ta) := by
  intro pins s σ H Q I h
  refine UnaryOp_ (thn (ha pins s σ H _ I h) fun v s1 ⟨x, H1, I1, r1, q1⟩ => ?_)
  obtain ⟨c, rfl, q1⟩ := q1
  cases r1
  exact not_of (wpAny_truthy_bool ⟨.bl (!c), H1, I1, rfl, q1⟩)
def tIf (t : TT) (ta tb : TE) : TE := fun σ H Q => t σ H fun c H1 => if c = true then ta σ H1 Q else tb σ H1 Q
theorem pe_ifExp {c : Expr} (hc : PT X c tA) (ha : PE X a ta) (hb : PE X b tb) : PE X (.IfExp c a b pos) (tIf tA ta tb) := by
  intro pins s σ H Q I h
  refine wpAny_IfExp (thn (hc pins s σ H _ I h) fun d s1 ⟨H1, I1, q1⟩ => ?_)
  cases d with
  | true => exact ha pins s1 σ H1 Q I1 q1
  | false => exact hb pins s1 σ H1 Q I1 q1
end
end L2
namespace L2
open PySem PySem.Spec PyProof.Rows
def SqL (K : PySem.W.Frag) (H : Hp) (a : Addr) (xs : List V) : Prop :=
  Rd H a (.lst xs) ∨
    ∃ (o : Obj) (its : Array Value) (n : Nat), K.lookup a = some o ∧ o.cls = .type "list" ∧ o.dict = none ∧ o.data = .seq its n ∧ its.size ≤ sizeLine ∧ Vals xs its.toList
def SqT (K : PySem.W.Frag) (H : Hp) (a : Addr) (xs : List V) : Prop :=
  Rd H a (.tup xs) ∨
    ∃ (o : Obj) (its : Array Value) (n : Nat), K.lookup a = some o ∧ o.cls = .type "tuple" ∧ o.data = .seq its n ∧ its.size ≤ sizeLine ∧ Vals xs its.toList
def absV : Value → Option V
  | .none => some .non
  | .bool b => some (.bl b)
  | .int i _ => some (.int i)
  | .str x _ => some (.str x)
  | .bytes b _ => some (.byt b)
  | .float b _ => some (.flt b)
  | .ref a => some (.ref a)
  | .type n => some (.ty n)
  | _ => none
theorem RelV.abs {x : V} {u : Value} (r : RelV x u) : absV u = some x := by
  cases x with
  | non => cases r; rfl
  | bl _ => cases r; rfl
  | int _ => obtain ⟨t, rfl⟩ := r; rfl
  | str _ => obtain ⟨t, rfl⟩ := r; rfl
  | byt _ => obtain ⟨t, rfl⟩ := r; rfl
  | flt _ => obtain ⟨t, rfl⟩ := r; rfl
  | ref _ => cases r; rfl
  | ty _ => cases r; rfl
theorem RelV.inj {x y : V} {u : Value} (r : RelV x u) (q : RelV y u) : x = y := Option.some.inj (r.abs.symm.trans q.abs)
theorem Vals.inj : ∀ {xs ys : List V} {us : List Value}, Vals xs us → Vals ys us → xs = ys
  | _, _, _, .nil, .nil => rfl
  | _, _, _, .cons r t, .cons r' t' => by rw [r.inj r', Vals.inj t t']
section
variable {X : Cx} {pins : List (Addr × Obj)} {σ : St} {H : Hp} {s : Shared} {a : Addr} {xs ys : List V}
theorem SqL.of {K : PySem.W.Frag} (h : H a = some (.lst xs)) : SqL K H a xs := .inl (.inl h)
theorem SqT.of {K : PySem.W.Frag} (h : H a = some (.tup xs)) : SqT K H a xs := .inl (.inl h)
theorem Inv.list (I : Inv X pins σ H s) (h : SqL X.K H a xs) : ∃ its : List Value, Vals xs its ∧ PlainL s.heap a its.toArray ∧ xs.length ≤ sizeLine := by
  rcases h with h | ⟨o, its, n, hk, hc, hd, hs, hz, r⟩
  · obtain ⟨z, its, n, r, e⟩ := h.ok I.hok
    exact ⟨its, r, ⟨_, n, e, rfl, rfl, rfl⟩, z⟩
  · refine ⟨its.toList, r, ⟨o, n, I.kIn a o hk, hc, hd, by simpa using hs⟩, ?_⟩
    have e := r.length
    simp only [Array.length_toList] at e
    omega
theorem Inv.tuple (I : Inv X pins σ H s) (h : SqT X.K H a xs) : ∃ its : List Value, Vals xs its ∧ IsTup s.heap a its.toArray ∧ xs.length ≤ sizeLine := by
  rcases h with h | ⟨o, its, n, hk, hc, hs, hz, r⟩
  · obtain ⟨z, its, r, p⟩ := h.ok I.hok
    exact ⟨its, r, p, z⟩
  · refine ⟨its.toList, r, ⟨o, I.kIn a o hk, hc, n, by simpa using hs⟩, ?_⟩
    have e := r.length
    simp only [Array.length_toList] at e
    omega
theorem Inv.list_inj (I : Inv X pins σ H s) (h : SqL X.K H a xs) (h' : SqL X.K H a ys) : xs = ys := by
  obtain ⟨its, r, ⟨o, n, e, _, _, d⟩, _⟩ := I.list h
  obtain ⟨its', r', ⟨o', n', e', _, _, d'⟩, _⟩ := I.list h'
  rw [e] at e'; cases e'
  rw [d] at d'
  injection d' with d1 _
  have : its = its' := by simpa using congrArg Array.toList d1
  subst this
  exact r.inj r'
theorem Inv.tuple_inj (I : Inv X pins σ H s) (h : SqT X.K H a xs) (h' : SqT X.K H a ys) : xs = ys := by
  obtain ⟨its, r, ⟨o, e, _, n, d⟩, _⟩ := I.tuple h
  obtain ⟨its', r', ⟨o', e', _, n', d'⟩, _⟩ := I.tuple h'
  rw [e] at e'; cases e'
  rw [d] at d'
  injection d' with d1 _
  have : its = its' := by simpa using congrArg Array.toList d1
  subst this
  exact r.inj r'
end
abbrev Cx.wish (X : Cx) (E : Value → Shared → Prop) : Cx := { X with xe := E }
abbrev Cx.nox (X : Cx) : Cx := X.wish fun _ _ => False
theorem Cx.Ok.wish {X : Cx} (ok : X.Ok) (E : Value → Shared → Prop) : (X.wish E).Ok :=
  ⟨ok.mod, ok.kind, ok.glob, ok.blt, ok.above, ok.inj, ok.has, ok.cab, ok.hd, ok.frames, ok.stk, ok.exf, ok.bs, ok.bsz, ok.noex, ok.exfs, ok.funs, ok.frf⟩
theorem Cx.Ok.unwish {X : Cx} {E : Value → Shared → Prop} (ok : (X.wish E).Ok) : X.Ok :=
  ⟨ok.mod, ok.kind, ok.glob, ok.blt, ok.above, ok.inj, ok.has, ok.cab, ok.hd, ok.frames, ok.stk, ok.exf, ok.bs, ok.bsz, ok.noex, ok.exfs, ok.funs, ok.frf⟩
section
variable {X : Cx} {pins : List (Addr × Obj)} {σ : St} {H : Hp} {s : Shared} {E : Value → Shared → Prop}
theorem Inv.wish (I : Inv X pins σ H s) (E : Value → Shared → Prop) : Inv (X.wish E) pins σ H s := ⟨I.ok.wish E, I.os, I.bare, I.base, I.loc, I.cell, I.free, I.freeC, I.pin, I.hok, I.len⟩
theorem Inv.unwish (I : Inv (X.wish E) pins σ H s) : Inv X pins σ H s := ⟨I.ok.unwish, I.os, I.bare, I.base, I.loc, I.cell, I.free, I.freeC, I.pin, I.hok, I.len⟩
theorem SP.unwish {D : Ends} {f : Flow} {s' : Shared} (h : SP (X.wish E) pins D f s') : SP X pins D f s' := by
  cases f with
  | next => obtain ⟨σ', H', I, q⟩ := h; exact ⟨σ', H', I.unwish, q⟩
  | brk => obtain ⟨σ', H', I, q⟩ := h; exact ⟨σ', H', I.unwish, q⟩
  | cont => obtain ⟨σ', H', I, q⟩ := h; exact ⟨σ', H', I.unwish, q⟩
  | ret u => obtain ⟨v, σ', H', I, r, q⟩ := h; exact ⟨v, σ', H', I.unwish, r, q⟩
theorem PSs.nox {st : List Stmt} {t : TS} (h : PSs X.nox st t) : PSs X st t := fun pins s σ H D I hw =>
  wpAny_mono (h pins s σ H D (I.wish _) hw) (fun _ _ q => q.unwish) fun _ _ z => False.elim z
end
section
variable {X : Cx} {st : Stmt} {rest : List Stmt} {t u : TS} {e : Expr} {te : TE} {pos : Pos}
def tNext : TS := fun D σ H => D.nx σ H
def tSeq (t u : TS) : TS := fun D σ H => t { D with nx := u D } σ H
theorem pss_nil : PSs X [] tNext := fun _ _ σ H _ I h => wpAny_execs_nil ⟨σ, H, I, h⟩
theorem pss_cons (h1 : PS X st t) (h2 : PSs X rest u) : PSs X (st :: rest) (tSeq t u) := by
  intro pins s σ H D I h
  refine wpAny_execs_cons (thn (h1 pins s σ H { D with nx := u D } I h) fun f s1 q => ?_)
  cases f with
  | next =>
    obtain ⟨σ', H', I', q⟩ := q
    exact h2 pins s1 σ' H' D I' q
  | ret v => exact q
  | brk => exact q
  | cont => exact q
theorem pss_one (h1 : PS X st t) : PSs X [st] t := by
  intro pins s σ H D I h
  refine wpAny_execs_cons (thn (h1 pins s σ H D I h) fun f s1 q => ?_)
  cases f with
  | next => exact wpAny_execs_nil q
  | ret v => exact q
  | brk => exact q
  | cont => exact q
theorem Inv.quiet {pins : List (Addr × Obj)} {σ : St} {H : Hp} {s : Shared} (I : Inv X pins σ H s) : interactive X.env = false := by simp [interactive, I.ok.kind]
def tDrop (te : TE) : TS := fun D σ H => te σ H fun _ H1 => D.nx σ H1
theorem ps_expr (he : PE X e te) (hs : swapsWith e none pos.line X.env = pure false := by rfl) : PS X (.Expr e pos) (tDrop te) := by
  intro pins s σ H D I h
  exact wpAny_Expr_any (thn (he pins s σ H _ I h) fun v s1 ⟨x, H1, I1, r1, q1⟩ => ⟨σ, H1, I1, q1⟩) I.quiet hs
def tRet (te : TE) : TS := fun D σ H => te σ H D.rt
theorem ps_ret (he : PE X e te) : PS X (.Return (some e) pos) (tRet te) := by
  intro pins s σ H D I h
  exact wpAny_Return_some (thn (he pins s σ H _ I h) fun v s1 ⟨x, H1, I1, r1, q1⟩ => ⟨x, σ, H1, I1, r1, q1⟩)
def tRetN : TS := fun D _ H => D.rt .non H
def tIfS (c : TT) (t u : TS) : TS := fun D σ H => c σ H fun b H1 => if b = true then t D σ H1 else u D σ H1
theorem ps_if {c : Expr} {a b : List Stmt} {tc : TT} (hc : PT X c tc) (ha : PSs X a t) (hb : PSs X b u) : PS X (.If c a b pos) (tIfS tc t u) := by
  intro pins s σ H D I h
  refine wpAny_If (thn (hc pins s σ H _ I h) fun d s1 ⟨H1, I1, q1⟩ => ?_)
  cases d with
  | true => exact ha pins s1 σ H1 D I1 q1
  | false => exact hb pins s1 σ H1 D I1 q1
def tNever : TS := fun _ _ _ => False
theorem ps_never : PS X st tNever := fun _ _ _ _ _ _ h => h.elim
end
abbrev TG := V → St → Hp → (St → Hp → Prop) → Prop
abbrev TGs := List V → St → Hp → (St → Hp → Prop) → Prop
def PG (X : Cx) (target : Expr) (t : TG) : Prop :=
  ∀ (pins : List (Addr × Obj)) (s : Shared) (σ : St) (H : Hp) (v : V) (u : Value) (Q : St → Hp → Prop), Inv X pins σ H s → RelV v u → t v σ H Q →
    wpAny (model X.prog X.w) X.A (assign target X.env u) (fun _ s' => ∃ σ' H', Inv X pins σ' H' s' ∧ Q σ' H') X.xe s
def PGs (X : Cx) (ts : List Expr) (t : TGs) : Prop :=
  ∀ (pins : List (Addr × Obj)) (s : Shared) (σ : St) (H : Hp) (vs : List V) (us : List Value) (Q : St → Hp → Prop), Inv X pins σ H s → Vals vs us → t vs σ H Q →
    wpAny (model X.prog X.w) X.A (assignInOrder ((assignEach ts X.env).map (·.2)) us) (fun _ s' => ∃ σ' H', Inv X pins σ' H' s' ∧ Q σ' H') X.xe s
section
variable {X : Cx} {pos : Pos}
def gName (i : Nat) : TG := fun v σ H Q => Q (σ.set i (some v)) H
theorem pg_name {i : Nat} {x : Str} (hN : X.N.Nodup) (hi : X.N[i]? = some x) (hx : Loc X.env.scope x) (hf : X.fn x = true ∨ X.env.scope.names.lookup x = some .local := by first | exact .inl rfl | exact .inr rfl | assumption) : PG X (.Name x pos) (gName i) := by
  intro pins s σ H v u Q I r h
  exact wpAny_assign_Name (store_ok I hN hi hx r (fun s' I' => ⟨_, H, I', h⟩) hf)
def gNil : TGs := fun vs σ H Q => vs = [] ∧ Q σ H
def gCons (t : TG) (u : TGs) : TGs := fun vs σ H Q => ∃ v r, vs = v :: r ∧ t v σ H fun σ' H' => u r σ' H' Q
theorem pgs_nil : PGs X [] gNil := by
  intro pins s σ H vs us Q I r h
  obtain ⟨e, h⟩ := h
  subst e
  cases r
  exact assignInOrder_nil ⟨σ, H, I, h⟩
theorem pgs_cons {e : Expr} {es : List Expr} {t : TG} {u : TGs} (h1 : PG X e t) (h2 : PGs X es u)
    (hs : (assignEach (e :: es) X.env).map (·.2) = assign e X.env :: (assignEach es X.env).map (·.2) := by rfl) : PGs X (e :: es) (gCons t u) := by
  intro pins s σ H vs us Q I r h
  obtain ⟨v, vr, e1, h⟩ := h
  subst e1
  cases r with
  | cons r rr =>
    rw [hs]
    refine assignInOrder_cons (thn (h1 pins s σ H _ _ _ I r h) fun _ s1 ⟨σ1, H1, I1, q1⟩ => ?_)
    exact h2 pins s1 σ1 H1 _ _ Q I1 rr q1
def gTup (K : PySem.W.Frag) (n : Nat) (t : TGs) : TG := fun v σ H Q => ∃ a xs, v = .ref a ∧ SqT K H a xs ∧ xs.length = n ∧ t xs σ H Q
theorem pg_tup {es : List Expr} {k : Nat} {t : TGs} {n : Nat} (hc : X.calm = true) (h : PGs X es t)
    (hn : (assignEach es X.env).length = n := by rfl) (hst : (assignEach es X.env).findIdx? (·.1) = none := by rfl) : PG X (.Tuple es k pos) (gTup X.K n t) := by
  intro pins s σ H v u Q I r hw
  obtain ⟨a, xs, e1, hq, hl, hw⟩ := hw
  subst e1
  cases r
  obtain ⟨its, rv, ht, hz⟩ := I.tuple hq
  refine assign_Tuple_tuple (I.ok.hd hc) ht (by simp [hn, ← hl, rv.length]) hst fun h' hx => ?_
  have I1 : Inv X pins σ H { s with heap := h' } := I.kept (t' := s.toks) fun b o e => hx b o (Nat.ne_of_lt (Heap.lt_size e)) e
  exact h pins _ σ H xs _ Q I1 (by simpa using rv) hw
def tAsg (te : TE) (g : TG) : TS := fun D σ H => te σ H fun x H1 => g x σ H1 D.nx
theorem ps_asg {tg e : Expr} {te : TE} {g : TG} (he : PE X e te) (hg : PG X tg g) (hs : swapsWithSole [tg] e pos.line X.env = pure false := by rfl) (hw : swappedStores [tg] e X.env = pure none := by rfl)
    (h1 : (assignEach [tg] X.env).map (·.2) = [assign tg X.env] := by rfl) : PS X (.Assign [tg] e pos) (tAsg te g) := by
  intro pins s σ H D I h
  refine wpAny_Assign_stores (thn (he pins s σ H _ I h) fun v s1 ⟨x, H1, I1, r1, q1⟩ => ?_) hs hw
  rw [h1]
  exact thn (hg pins s1 σ H1 x v _ I1 r1 q1) fun _ s2 q => q
theorem ps_set {i : Nat} {x : Str} {e : Expr} {te : TE} {pos' : Pos} (hN : X.N.Nodup) (hi : X.N[i]? = some x) (hx : Loc X.env.scope x) (he : PE X e te) (hs : swapsWith e (some (.Name x pos')) pos.line X.env = pure false := by rfl) (hf : X.fn x = true ∨ X.env.scope.names.lookup x = some .local := by first | exact .inl rfl | exact .inr rfl | assumption) :
    PS X (.Assign [.Name x pos'] e pos) (tAsg te (gName i)) := by
  intro pins s σ H D I h
  refine wpAny_Assign_Name (thn (he pins s σ H _ I h) fun v s1 ⟨y, H1, I1, r1, q1⟩ => ?_) hs
  exact store_ok I1 hN hi hx r1 (fun s2 I2 => ⟨_, H1, I2, q1⟩) hf
end
section
variable {X : Cx} {pos : Pos}
def tWhile (c : TT) (tb : TS) : TS := fun D σ H => ∃ W : Nat → St → Hp → Prop, (∃ m, W m σ H) ∧ ∀ m σ H, W m σ H →
  c σ H fun b H1 => if b = true then ∃ N : St → Hp → Prop, (∀ σ' H', N σ' H' → ∃ m', m' < m ∧ W m' σ' H') ∧ tb { D with nx := N, ct := N, bk := D.nx } σ H1 else D.nx σ H1
end
structure It where
  go : Nat → Hp → Prop
  yld : Nat → Hp → V → Hp → Prop
  stop : Nat → Hp → Prop
def FpOk (X : Cx) (pins : List (Addr × Obj)) (H : Hp) (b : Addr) : Prop :=
  H b = none ∧ b ≠ X.env.locals ∧ b ∉ X.fs ∧ (b ∈ X.ex ∨ X.s₀.heap.objs.size ≤ b) ∧ (∀ x c, X.env.cells.lookup x = some c → c ≠ b) ∧ ∀ p ∈ X.pn ++ pins, p.1 ≠ b
theorem Inv.fpOk {X : Cx} {pins : List (Addr × Obj)} {σ : St} {H H' : Hp} {s : Shared} {b : Addr} (I : Inv X pins σ H s) (hb : s.heap.objs.size ≤ b) (hn : H' b = none) : FpOk X pins H' b := by
  refine ⟨hn, Nat.ne_of_gt (Nat.lt_of_lt_of_le I.lt hb), I.nofs hb, .inr (Nat.le_trans I.sz hb), fun x c e z => ?_, fun p hp z => ?_⟩
  · obtain ⟨v, q⟩ := I.cell x c e
    exact absurd (Nat.lt_of_lt_of_le q.lt (by rw [z]; exact hb)) (Nat.lt_irrefl _)
  · exact absurd (Nat.lt_of_lt_of_le (Heap.lt_size (I.pin p hp).1) (by rw [z]; exact hb)) (Nat.lt_irrefl _)
structure Turn (P : Program) (w : World) (K : PySem.W.Frag) (tg : Expr) (J : It) (fp : List Addr) (it : Addr) (tn : Nat → Heap → Prop) : Prop where
  mem : it ∈ fp
  obj : ∀ i h, tn i h → ∀ b ∈ fp, ∃ o, h.get? b = some o ∧ ∀ v, o.data ≠ .cell v
  keep : ∀ i h h', tn i h → (∀ b ∈ fp, ∀ o, h.get? b = some o → h'.get? b = some o) → tn i h'
  item : ∀ (X : Cx), X.prog = P → X.w = w → X.K = K → X.calm = true → ∀ (i : Nat) (pins : List (Addr × Obj)) (s : Shared) (σ : St) (H : Hp) (E : Value → Shared → Prop), Inv X pins σ H s → (∀ b ∈ fp, FpOk X pins H b) → tn i s.heap → J.go i H →
    wpAny (model P w) X.A (pyNext (.ref it)) (fun r s1 => ∃ u, r = some u ∧
      wpAny (model P w) X.A (letOwnedTupleGo tg (.ref it) u) (fun _ s2 => ∃ x H', Inv X pins σ H' s2 ∧ RelV x u ∧ J.yld i H x H' ∧ tn (i + 1) s2.heap ∧ ∀ b ∈ fp, H' b = none) E s1) E s
  done : ∀ (X : Cx), X.prog = P → X.w = w → X.K = K → X.calm = true → ∀ (i : Nat) (pins : List (Addr × Obj)) (s : Shared) (σ : St) (H : Hp) (E : Value → Shared → Prop), Inv X pins σ H s → (∀ b ∈ fp, FpOk X pins H b) → tn i s.heap → J.stop i H →
    wpAny (model P w) X.A (pyNext (.ref it)) (fun r s1 => r = none ∧ Inv X pins σ H s1) E s
  self : ∀ (A : Around) (i : Nat) (s : Shared) (Q : Value → Shared → Prop) (E : Value → Shared → Prop), tn i s.heap → Q (.ref it) s → wpAny (model P w) A (pyIter (.ref it)) Q E s
abbrev TI := St → Hp → (It → Hp → Prop) → Prop
def PIE (X : Cx) (pins : List (Addr × Obj)) (σ : St) (tg : Expr) (R : It → Hp → Prop) (itv : Value) (s2 : Shared) : Prop :=
  ∃ (it : Addr) (fp : List Addr) (tn : Nat → Heap → Prop) (J : It) (H' : Hp), itv = .ref it ∧ Inv X pins σ H' s2 ∧ Turn X.prog X.w X.K tg J fp it tn ∧ tn 0 s2.heap ∧ (∀ b ∈ fp, FpOk X pins H' b) ∧ R J H'
def PI (X : Cx) (tg iter : Expr) (wi : TI) : Prop :=
  ∀ (pins : List (Addr × Obj)) (s : Shared) (σ : St) (H : Hp) (R : It → Hp → Prop), Inv X pins σ H s → wi σ H R →
    wpAny (model X.prog X.w) X.A (eval iter X.env) (fun v s1 => wpAny (model X.prog X.w) X.A (pyIter v) (PIE X pins σ tg R) X.xe s1) X.xe s
theorem go_of {M : Model} {A : Around} {E : Value → Shared → Prop} {s : Shared} {tg : Expr} {it : Addr} {u : Value} {o : Obj} {n : String} {vs : Array Value} {Q : Unit → Shared → Prop} (ho : s.heap.get? it = some o) (hc : o.cls = .type n) (hd : o.data = .fields vs)
    (hn : ["enumerate", "zip", "dict_itemiterator", "dict_reverseitemiterator", "odict_iterator", "itertools.zip_longest", "itertools.pairwise"].contains n = false) (hQ : Q () s) : wpAny M A (letOwnedTupleGo tg (.ref it) u) Q E s := by
  unfold letOwnedTupleGo
  cases tg <;> first
    | exact wpAny_pure hQ
    | (cases u <;> first
        | exact wpAny_pure hQ
        | (refine wpAny_bind (wpAny_load ho ?_)
           rw [hc, hd]
           show wpAny M A (if (["enumerate", "zip", "dict_itemiterator", "dict_reverseitemiterator", "odict_iterator", "itertools.zip_longest", "itertools.pairwise"].contains n && vs[0]? == some (rawInt _)) = true then _ else _) Q E s
           rw [if_neg (by intro h; rw [hn, Bool.false_and] at h; cases h)]
           exact wpAny_pure hQ))
def Itl (K : PySem.W.Frag) (a : Addr) : It :=
  ⟨fun i H => ∃ xs x, SqL K H a xs ∧ xs[i]? = some x, fun i H x H' => H' = H ∧ ∀ xs, SqL K H a xs → xs[i]? = some x, fun i H => ∃ xs, SqL K H a xs ∧ xs.length ≤ i⟩
def Itt (K : PySem.W.Frag) (a : Addr) : It :=
  ⟨fun i H => ∃ xs x, SqT K H a xs ∧ xs[i]? = some x, fun i H x H' => H' = H ∧ ∀ xs, SqT K H a xs → xs[i]? = some x, fun i H => ∃ xs, SqT K H a xs ∧ xs.length ≤ i⟩
def Itr (lo : Int) (n : Nat) : It := ⟨fun i _ => i < n, fun i H x H' => H' = H ∧ x = .int (lo + i), fun i _ => n ≤ i⟩
theorem turn_list {P : Program} {w : World} {K : PySem.W.Frag} {tg : Expr} (a it : Addr) : Turn P w K tg (Itl K a) [it] it (fun i h => h.IsListIter it a i) where
  mem := by simp
  obj := fun i h st b hb => by
    have e : b = it := by simpa using hb
    subst e
    obtain ⟨o, e, c, d⟩ := st
    exact ⟨o, e, fun v z => by rw [d] at z; cases z⟩
  keep := fun i h h' st k => st.at fun o e => k it (by simp) o e
  item := by
    intro X hP hw hK hc i pins s σ H E I hf st hg
    subst hP hw hK
    obtain ⟨xs, x, hq, hx⟩ := hg
    obtain ⟨its, rv, p, hz⟩ := I.list hq
    obtain ⟨u, hu, ru⟩ := rv.get hx
    obtain ⟨f0, f1, f2, f3, f4, f5⟩ := hf it (by simp)
    refine wpAny_pyNext_list_item st p.isList (x := u) (by simpa using hu) fun h' st' sb => ?_
    have I1 : Inv X pins σ H { s with heap := h' } := I.turned (t' := s.toks) (fun b o hb e => (sb.2 b hb).trans e) f0 f1 f3 f4 f5
    obtain ⟨o, e, c, d⟩ := id st'
    exact ⟨u, rfl, go_of (s := { s with heap := h' }) e c d (by decide) ⟨x, H, I1, ru, ⟨rfl, fun ys hy => by rw [I.list_inj hy hq]; exact hx⟩, st', fun b hb => (hf b hb).1⟩⟩
  done := by
    intro X hP hw hK hc i pins s σ H E I hf st hg
    subst hP hw hK
    obtain ⟨xs, hq, hx⟩ := hg
    obtain ⟨its, rv, p, hz⟩ := I.list hq
    obtain ⟨f0, f1, f2, f3, f4, f5⟩ := hf it (by simp)
    have hl := rv.length
    exact wpAny_pyNext_list_end (I.ok.hd hc) st p.isList (by simp; omega) fun h' eb => ⟨rfl, I.turned (t' := s.toks) (fun b o hb e => eb b o hb e) f0 f1 f3 f4 f5⟩
  self := fun _ _ _ _ _ st h => wpAny_pyIter_listiter st h
theorem turn_tuple {P : Program} {w : World} {K : PySem.W.Frag} {tg : Expr} (a it : Addr) : Turn P w K tg (Itt K a) [it] it (fun i h => h.IsTupleIter it a i) where
  mem := by simp
  obj := fun i h st b hb => by
    have e : b = it := by simpa using hb
    subst e
    obtain ⟨o, e, c, d⟩ := st
    exact ⟨o, e, fun v z => by rw [d] at z; cases z⟩
  keep := fun i h h' st k => st.at fun o e => k it (by simp) o e
  item := by
    intro X hP hw hK hc i pins s σ H E I hf st hg
    subst hP hw hK
    obtain ⟨xs, x, hq, hx⟩ := hg
    obtain ⟨its, rv, p, hz⟩ := I.tuple hq
    obtain ⟨u, hu, ru⟩ := rv.get hx
    obtain ⟨f0, f1, f2, f3, f4, f5⟩ := hf it (by simp)
    refine wpAny_pyNext_tuple_item st (show s.heap.IsTuple a its.toArray from p) (x := u) (by simpa using hu) fun h' st' sb => ?_
    have I1 : Inv X pins σ H { s with heap := h' } := I.turned (t' := s.toks) (fun b o hb e => (sb.2 b hb).trans e) f0 f1 f3 f4 f5
    obtain ⟨o, e, c, d⟩ := id st'
    exact ⟨u, rfl, go_of (s := { s with heap := h' }) e c d (by decide) ⟨x, H, I1, ru, ⟨rfl, fun ys hy => by rw [I.tuple_inj hy hq]; exact hx⟩, st', fun b hb => (hf b hb).1⟩⟩
  done := by
    intro X hP hw hK hc i pins s σ H E I hf st hg
    subst hP hw hK
    obtain ⟨xs, hq, hx⟩ := hg
    obtain ⟨its, rv, p, hz⟩ := I.tuple hq
    obtain ⟨f0, f1, f2, f3, f4, f5⟩ := hf it (by simp)
    have hl := rv.length
    exact wpAny_pyNext_tuple_end (I.ok.hd hc) st (show s.heap.IsTuple a its.toArray from p) (by simp; omega) fun h' eb => ⟨rfl, I.turned (t' := s.toks) (fun b o hb e => eb b o hb e) f0 f1 f3 f4 f5⟩
  self := fun _ _ _ _ _ st h => wpAny_pyIter_tupleiter st h
theorem turn_range {P : Program} {w : World} {K : PySem.W.Frag} {tg : Expr} (it : Addr) (lo : Int) (n : Nat) : Turn P w K tg (Itr lo n) [it] it (fun i h => IsRangeIter h it (lo + (i : Nat) * 1) ((n : Int) - (i : Nat)) 1) where
  mem := by simp
  obj := fun i h st b hb => by
    have e : b = it := by simpa using hb
    subst e
    exact ⟨_, st, fun v z => by
      have z' : Data.fields _ = Data.cell v := z
      cases z'⟩
  keep := fun i h h' st k => k it (by simp) _ st
  item := by
    intro X hP hw hK hc i pins s σ H E I hf st hg
    subst hP hw hK
    obtain ⟨f0, f1, f2, f3, f4, f5⟩ := hf it (by simp)
    have W := Walks.range (prog := X.prog) (w := X.w) (I.ok.hd hc) it lo 1 n
    refine W.item i s _ _ hg st fun v h' tk hv st' kk => ?_
    obtain ⟨t, rfl⟩ := hv
    have I1 : Inv X pins σ H { s with heap := h', toks := tk } := I.turned (fun b o hb e => kk b o (by simpa using hb) e) f0 f1 f3 f4 f5
    refine ⟨_, rfl, go_of (s := { s with heap := h', toks := tk }) (n := "range_iterator") st' rfl rfl (by decide) ⟨.int (lo + i), H, I1, ⟨t, ?_⟩, ⟨rfl, rfl⟩, st', fun b hb => (hf b hb).1⟩⟩
    rw [Int.mul_one]
  done := by
    intro X hP hw hK hc i pins s σ H E I hf st hg
    subst hP hw hK
    obtain ⟨f0, f1, f2, f3, f4, f5⟩ := hf it (by simp)
    exact wpAny_pyNext_range_end (I.ok.hd hc) st (by have : n ≤ i := hg; omega) fun h' eb => ⟨rfl, I.turned (t' := s.toks) (fun b o hb e => eb b o hb e) f0 f1 f3 f4 f5⟩
  self := fun _ _ _ _ _ st h => wpAny_pyIter_rangeiter st h
end L2
namespace L2
open PySem PySem.Spec PyProof.Rows
section
variable {X : Cx} {tg : Expr}
def iList (K : PySem.W.Frag) (tl : TE) : TI := fun σ H R => tl σ H fun x H1 => ∃ a, x = .ref a ∧ (∃ xs, SqL K H1 a xs) ∧ R (Itl K a) H1
def iTup (K : PySem.W.Frag) (tl : TE) : TI := fun σ H R => tl σ H fun x H1 => ∃ a, x = .ref a ∧ (∃ xs, SqT K H1 a xs) ∧ R (Itt K a) H1
theorem pi_list {l : Expr} {tl : TE} (hl : PE X l tl) : PI X tg l (iList X.K tl) := by
  intro pins s σ H R I h
  refine thn (hl pins s σ H _ I h) fun v s1 ⟨x, H1, I1, r1, q1⟩ => ?_
  obtain ⟨a, e, ⟨xs, hq⟩, q⟩ := q1
  subst e
  cases r1
  obtain ⟨its, rv, p, hz⟩ := I1.list hq
  refine wpAny_pyIter_list p.isList ?_
  refine ⟨s1.heap.objs.size, [s1.heap.objs.size], _, _, H1, rfl, I1.kept (t' := s1.toks) fun b o e => Heap.get?_push_of_some _ e, turn_list a _, ⟨_, Heap.get?_push_size _ rfl, rfl, rfl⟩, fun b hb => ?_, q⟩
  have e : b = s1.heap.objs.size := by simpa using hb
  subst e
  exact I1.fpOk (Nat.le_refl _) (I1.hok.fresh (Nat.le_refl _))
theorem pi_tup {l : Expr} {tl : TE} (hl : PE X l tl) : PI X tg l (iTup X.K tl) := by
  intro pins s σ H R I h
  refine thn (hl pins s σ H _ I h) fun v s1 ⟨x, H1, I1, r1, q1⟩ => ?_
  obtain ⟨a, e, ⟨xs, hq⟩, q⟩ := q1
  subst e
  cases r1
  obtain ⟨its, rv, p, hz⟩ := I1.tuple hq
  refine wpAny_pyIter_tuple (show s1.heap.IsTuple a its.toArray from p) ?_
  refine ⟨s1.heap.objs.size, [s1.heap.objs.size], _, _, H1, rfl, I1.kept (t' := s1.toks) fun b o e => Heap.get?_push_of_some _ e, turn_tuple a _, ⟨_, Heap.get?_push_size _ rfl, rfl, rfl⟩, fun b hb => ?_, q⟩
  have e : b = s1.heap.objs.size := by simpa using hb
  subst e
  exact I1.fpOk (Nat.le_refl _) (I1.hok.fresh (Nat.le_refl _))
theorem range_it {pins : List (Addr × Obj)} {σ : St} {H : Hp} {s : Shared} {R : It → Hp → Prop} {E : Value → Shared → Prop} {lo hi : Int} {t u v : Tok} {tk : Nat} (I : Inv X pins σ H s) (h1 : -(2 ^ 62) ≤ lo) (h2 : lo < 2 ^ 62) (h3 : -(2 ^ 62) ≤ hi) (h4 : hi < 2 ^ 62)
    (q : R (Itr lo (hi - lo).toNat) H) : wpAny (model X.prog X.w) X.A (pyIter (.ref s.heap.objs.size)) (PIE X pins σ tg R) E { s with heap := s.heap.push { cls := .type "range", data := .fields #[.int lo t, .int hi u, .int 1 v] }, toks := tk } := by
  refine wpAny_pyIter_range (IsRange.new ..) (small_one h1 h2 h3 h4) ?_
  have I1 : Inv X pins σ H { s with heap := s.heap.push { cls := .type "range", data := .fields #[.int lo t, .int hi u, .int 1 v] }, toks := tk } := I.kept fun b o e => Heap.get?_push_of_some _ e
  refine ⟨(s.heap.push { cls := .type "range", data := .fields #[.int lo t, .int hi u, .int 1 v] }).objs.size, [(s.heap.push { cls := .type "range", data := .fields #[.int lo t, .int hi u, .int 1 v] }).objs.size], _, _, H, rfl,
    I1.kept (t' := tk) fun b o e => Heap.get?_push_of_some _ e, turn_range _ lo (hi - lo).toNat, ?_, fun b hb => ?_, q⟩
  · have e1 : lo + ((0 : Nat) : Int) * 1 = lo := by simp
    have e2 : (((hi - lo).toNat : Nat) : Int) - ((0 : Nat) : Int) = Builtin.Range.rangeSize lo hi 1 := by rw [rangeSize_one]; split <;> omega
    show IsRangeIter _ _ (lo + ((0 : Nat) : Int) * 1) ((((hi - lo).toNat : Nat) : Int) - ((0 : Nat) : Int)) 1
    rw [e1, e2]
    exact Heap.get?_push_size _ rfl
  · have e : b = (s.heap.push { cls := .type "range", data := .fields #[.int lo t, .int hi u, .int 1 v] }).objs.size := by simpa using hb
    subst e
    exact I1.fpOk (Nat.le_refl _) (I1.hok.fresh (Nat.le_refl _))
def iRng1 (ta : TA) : TI := fun σ H R => ta σ H fun vs H1 => ∃ j : Int, vs = [.int j] ∧ -(2 ^ 62) ≤ j ∧ j < 2 ^ 62 ∧ R (Itr 0 j.toNat) H1
def iRng2 (ta : TA) : TI := fun σ H R => ta σ H fun vs H1 => ∃ i j : Int, vs = [.int i, .int j] ∧ (-(2 ^ 62) ≤ i ∧ i < 2 ^ 62 ∧ -(2 ^ 62) ≤ j ∧ j < 2 ^ 62) ∧ R (Itr i (j - i).toNat) H1
theorem pi_range1 {a : Expr} {ta : TA} {p pos : Pos} (hg : Gl X "range") (hm : X.mg "range" = none) (ha : PA X [a] ta) (hs : starEach [a] X.env = [(false, eval a X.env)] := by rfl) : PI X tg (.Call (.Name "range" p) [a] [] pos) (iRng1 ta) := by
  intro pins s σ H R I h
  refine Call_ (ld_blt I hg hm boot_range (PyProof.Rows.callWith_type1 (thn (ha pos pins s σ H _ I h) fun us s1 ⟨vs, H1, I1, r1, q1⟩ => ?_) hs rfl))
  obtain ⟨j, e, q1, q2, q⟩ := q1
  subst e
  cases r1 with
  | cons r rr =>
    cases rr
    obtain ⟨t, rfl⟩ := r
    exact call_range_1 (range_it I1 (by omega) (by omega) q1 q2 (by simpa using q))
def tFor (wi : TI) (g : TG) (tb : TS) : TS := fun D σ H => wi σ H fun J H1 => ∃ W : Nat → Nat → St → Hp → Prop, (∃ m, W 0 m σ H1) ∧ ∀ i m σ H, W i m σ H →
  (J.stop i H ∧ D.nx σ H) ∨ (J.go i H ∧ ∃ N : St → Hp → Prop, (∀ σ' H', N σ' H' → ∃ m', m' < m ∧ W (i + 1) m' σ' H') ∧ ∀ x H', J.yld i H x H' → g x σ H' fun σ2 H2 => tb { D with nx := N, ct := N, bk := D.nx } σ2 H2)
def pinsAt (fp : List Addr) (h : Heap) : List (Addr × Obj) := fp.filterMap fun b => (h.get? b).map fun o => (b, o)
theorem mem_pinsAt {fp : List Addr} {h : Heap} {b : Addr} {o : Obj} (hb : b ∈ fp) (e : h.get? b = some o) : (b, o) ∈ pinsAt fp h := List.mem_filterMap.mpr ⟨b, hb, by rw [e]; rfl⟩
theorem of_pinsAt {fp : List Addr} {h : Heap} {p : Addr × Obj} (hp : p ∈ pinsAt fp h) : p.1 ∈ fp ∧ h.get? p.1 = some p.2 := by
  obtain ⟨b, hb, e⟩ := List.mem_filterMap.mp hp
  cases q : h.get? b with
  | none => rw [q] at e; cases e
  | some o =>
    rw [q] at e
    have e' : (b, o) = p := Option.some.inj e
    subst e'
    exact ⟨hb, q⟩
theorem Inv.pinned {pins : List (Addr × Obj)} {σ : St} {H : Hp} {s : Shared} {fp : List Addr} (I : Inv X pins σ H s) (hf : ∀ b ∈ fp, FpOk X pins H b) (ho : ∀ b ∈ fp, ∃ o, s.heap.get? b = some o ∧ ∀ v, o.data ≠ .cell v) : Inv X (pins ++ pinsAt fp s.heap) σ H s :=
  I.pins_of fun p hp => (List.mem_append.mp hp).elim (fun z => I.pin p (List.mem_append_right _ z)) fun z => by
    obtain ⟨hb, e⟩ := of_pinsAt z
    obtain ⟨f0, f1, f2, _⟩ := hf p.1 hb
    obtain ⟨o, e', d⟩ := ho p.1 hb
    rw [e] at e'; cases e'
    exact ⟨e, f0, f1, f2, d⟩
theorem Inv.unpinned {pins pl : List (Addr × Obj)} {σ : St} {H : Hp} {s : Shared} (I : Inv X (pins ++ pl) σ H s) : Inv X pins σ H s := I.pins_of fun p hp => I.pin p (List.mem_append_right _ (List.mem_append_left _ hp))
theorem ps_for {iter : Expr} {body : List Stmt} {wi : TI} {g : TG} {tb : TS} {pos : Pos} (hp : PassesOwn (model X.prog X.w) X.A X.env X.xe) (hc : X.calm = true) (hi : PI X tg iter wi) (hg : PG X tg g) (hb : PSs X body tb)
    (hs : ∀ x, foldedSetIterable iter X.env x = pure x := by intro _; rfl) : PS X (.For tg iter body [] pos) (tFor wi g tb) := by
  intro pins s σ H D I h
  refine wpAny_For (thn (hi pins s σ H _ I h) fun v s1 h1 => thn h1 fun itv s2 h2 => ?_) hs
  obtain ⟨it, fp, tn, J, H2, e, I2, T, st2, f2, W, ⟨m0, w0⟩, turn⟩ := h2
  subst e
  have stat : ∀ {H' : Hp}, (∀ b ∈ fp, H' b = none) → ∀ b ∈ fp, FpOk X pins H' b := fun hn b hb => ⟨hn b hb, (f2 b hb).2⟩
  refine codeAny_forLoop_any (fun n s' => ∃ i σ' H', Inv X pins σ' H' s' ∧ tn i s'.heap ∧ (∀ b ∈ fp, H' b = none) ∧ W i n σ' H') ?_ m0 ⟨0, σ, H2, I2, st2, fun b hb => (f2 b hb).1, w0⟩
  rintro n s3 ⟨i, σ3, H3, I3, st3, fr3, w3⟩
  rcases turn i n σ3 H3 w3 with ⟨stop, qn⟩ | ⟨go, N, hN, step⟩
  · refine wpAny_passesOwn hp (thn (T.done X rfl rfl rfl hc i pins s3 σ3 H3 X.xe I3 (stat fr3) st3 stop) fun r s4 ⟨hr, I4⟩ => ?_)
    subst hr
    exact wpAny_execs_nil ⟨σ3, H3, I4, qn⟩
  · refine wpAny_passesOwn hp (thn (T.item X rfl rfl rfl hc i pins s3 σ3 H3 X.xe I3 (stat fr3) st3 go) fun r s4 ⟨u, hr, h4⟩ => ?_)
    subst hr
    refine wpAny_passesOwn hp (thn h4 fun _ s5 ⟨x, H5, I5, r5, y5, st5, fr5⟩ => ?_)
    have I5' := I5.pinned (stat fr5) (T.obj _ _ st5)
    refine wpAny_passesOwn hp (thn (hg _ s5 σ3 H5 x u _ I5' r5 (step x H5 y5)) fun _ s6 ⟨σ6, H6, I6, q6⟩ => ?_)
    refine wpAny_passesOwn hp (thn (hb _ s6 σ6 H6 _ I6 q6) fun f s7 q7 => ?_)
    have again : ∀ {σ7 : St} {H7 : Hp}, Inv X (pins ++ pinsAt fp s5.heap) σ7 H7 s7 → N σ7 H7 → ∃ m, m < n ∧ ∃ i σ' H', Inv X pins σ' H' s7 ∧ tn i s7.heap ∧ (∀ b ∈ fp, H' b = none) ∧ W i m σ' H' := fun {σ7 H7} I7 n7 => by
      obtain ⟨m', hm, w7⟩ := hN σ7 H7 n7
      refine ⟨m', hm, i + 1, σ7, H7, I7.unpinned, T.keep _ _ _ st5 fun b hb o e => (I7.pin (b, o) (List.mem_append_right _ (List.mem_append_right _ (mem_pinsAt hb e)))).1, fun b hb => ?_, w7⟩
      obtain ⟨o, e, d⟩ := T.obj _ _ st5 b hb
      exact (I7.pin (b, o) (List.mem_append_right _ (List.mem_append_right _ (mem_pinsAt hb e)))).2.1
    cases f with
    | next => obtain ⟨σ7, H7, I7, n7⟩ := q7; exact again I7 n7
    | cont => obtain ⟨σ7, H7, I7, n7⟩ := q7; exact again I7 n7
    | brk => obtain ⟨σ7, H7, I7, q7⟩ := q7; exact ⟨σ7, H7, I7.unpinned, q7⟩
    | ret v => obtain ⟨x7, σ7, H7, I7, r7, q7⟩ := q7; exact ⟨x7, σ7, H7, I7.unpinned, r7, q7⟩
end
theorem for_list {K : PySem.W.Frag} {a : Addr} {xs : List V} {g : TG} {tb : TS} {D : Ends} {σ : St} {H : Hp} (Pv : Nat → St → Hp → Prop) (h0 : Pv 0 σ H) (hl : ∀ i σ H, i ≤ xs.length → Pv i σ H → SqL K H a xs)
    (hs : ∀ i x σ H, xs[i]? = some x → Pv i σ H → g x σ H fun σ2 H2 => tb { D with nx := Pv (i + 1), ct := Pv (i + 1), bk := D.nx } σ2 H2) (hd : ∀ σ H, Pv xs.length σ H → D.nx σ H) :
    ∃ W : Nat → Nat → St → Hp → Prop, (∃ m, W 0 m σ H) ∧ ∀ i m σ H, W i m σ H →
      ((Itl K a).stop i H ∧ D.nx σ H) ∨ ((Itl K a).go i H ∧ ∃ N : St → Hp → Prop, (∀ σ' H', N σ' H' → ∃ m', m' < m ∧ W (i + 1) m' σ' H') ∧ ∀ x H', (Itl K a).yld i H x H' → g x σ H' fun σ2 H2 => tb { D with nx := N, ct := N, bk := D.nx } σ2 H2) := by
  refine ⟨fun i m σ H => m = xs.length - i ∧ i ≤ xs.length ∧ Pv i σ H, ⟨xs.length, by simp, Nat.zero_le _, h0⟩, ?_⟩
  rintro i m σ H ⟨rfl, hi, p⟩
  have q := hl i σ H hi p
  by_cases hlt : i < xs.length
  · refine .inr ⟨⟨xs, xs[i], q, by simp [hlt]⟩, Pv (i + 1), fun σ' H' p' => ⟨xs.length - (i + 1), by omega, rfl, hlt, p'⟩, fun x H' y => ?_⟩
    obtain ⟨e, y⟩ := y
    subst e
    exact hs i x σ _ (y xs q) p
  · have e : i = xs.length := by omega
    subst e
    exact .inl ⟨⟨xs, q, Nat.le_refl _⟩, hd σ H p⟩
theorem for_tup {K : PySem.W.Frag} {a : Addr} {xs : List V} {g : TG} {tb : TS} {D : Ends} {σ : St} {H : Hp} (Pv : Nat → St → Hp → Prop) (h0 : Pv 0 σ H) (hl : ∀ i σ H, i ≤ xs.length → Pv i σ H → SqT K H a xs)
    (hs : ∀ i x σ H, xs[i]? = some x → Pv i σ H → g x σ H fun σ2 H2 => tb { D with nx := Pv (i + 1), ct := Pv (i + 1), bk := D.nx } σ2 H2) (hd : ∀ σ H, Pv xs.length σ H → D.nx σ H) :
    ∃ W : Nat → Nat → St → Hp → Prop, (∃ m, W 0 m σ H) ∧ ∀ i m σ H, W i m σ H →
      ((Itt K a).stop i H ∧ D.nx σ H) ∨ ((Itt K a).go i H ∧ ∃ N : St → Hp → Prop, (∀ σ' H', N σ' H' → ∃ m', m' < m ∧ W (i + 1) m' σ' H') ∧ ∀ x H', (Itt K a).yld i H x H' → g x σ H' fun σ2 H2 => tb { D with nx := N, ct := N, bk := D.nx } σ2 H2) := by
  refine ⟨fun i m σ H => m = xs.length - i ∧ i ≤ xs.length ∧ Pv i σ H, ⟨xs.length, by simp, Nat.zero_le _, h0⟩, ?_⟩
  rintro i m σ H ⟨rfl, hi, p⟩
  have q := hl i σ H hi p
  by_cases hlt : i < xs.length
  · refine .inr ⟨⟨xs, xs[i], q, by simp [hlt]⟩, Pv (i + 1), fun σ' H' p' => ⟨xs.length - (i + 1), by omega, rfl, hlt, p'⟩, fun x H' y => ?_⟩
    obtain ⟨e, y⟩ := y
    subst e
    exact hs i x σ _ (y xs q) p
  · have e : i = xs.length := by omega
    subst e
    exact .inl ⟨⟨xs, q, Nat.le_refl _⟩, hd σ H p⟩
theorem for_range {lo : Int} {n : Nat} {g : TG} {tb : TS} {D : Ends} {σ : St} {H : Hp} (Pv : Nat → St → Hp → Prop) (h0 : Pv 0 σ H)
    (hs : ∀ i σ H, i < n → Pv i σ H → g (.int (lo + i)) σ H fun σ2 H2 => tb { D with nx := Pv (i + 1), ct := Pv (i + 1), bk := D.nx } σ2 H2) (hd : ∀ σ H, Pv n σ H → D.nx σ H) :
    ∃ W : Nat → Nat → St → Hp → Prop, (∃ m, W 0 m σ H) ∧ ∀ i m σ H, W i m σ H →
      ((Itr lo n).stop i H ∧ D.nx σ H) ∨ ((Itr lo n).go i H ∧ ∃ N : St → Hp → Prop, (∀ σ' H', N σ' H' → ∃ m', m' < m ∧ W (i + 1) m' σ' H') ∧ ∀ x H', (Itr lo n).yld i H x H' → g x σ H' fun σ2 H2 => tb { D with nx := N, ct := N, bk := D.nx } σ2 H2) := by
  refine ⟨fun i m σ H => m = n - i ∧ i ≤ n ∧ Pv i σ H, ⟨n, by simp, Nat.zero_le _, h0⟩, ?_⟩
  rintro i m σ H ⟨rfl, hi, p⟩
  by_cases hlt : i < n
  · refine .inr ⟨hlt, Pv (i + 1), fun σ' H' p' => ⟨n - (i + 1), by omega, rfl, hlt, p'⟩, fun x H' y => ?_⟩
    obtain ⟨e, y⟩ := y
    subst e y
    exact hs i σ _ hlt p
  · have e : i = n := by omega
    subst e
    exact .inl ⟨Nat.le_refl _, hd σ H p⟩
theorem while_by {c : TT} {tb : TS} {D : Ends} {σ : St} {H : Hp} (Pv : St → Hp → Prop) (μ : St → Hp → Nat) (h0 : Pv σ H)
    (hs : ∀ σ H, Pv σ H → c σ H fun b H1 => if b = true then tb { D with nx := fun σ' H' => Pv σ' H' ∧ μ σ' H' < μ σ H, ct := fun σ' H' => Pv σ' H' ∧ μ σ' H' < μ σ H, bk := D.nx } σ H1 else D.nx σ H1)
    (mono : ∀ σ H Q Q', (∀ b H1, Q b H1 → Q' b H1) → c σ H Q → c σ H Q') : tWhile c tb D σ H := by
  refine ⟨fun m σ H => m = μ σ H ∧ Pv σ H, ⟨_, rfl, h0⟩, ?_⟩
  rintro m σ H ⟨rfl, p⟩
  refine mono σ H _ _ (fun b H1 q => ?_) (hs σ H p)
  cases b with
  | true => exact ⟨_, fun σ' H' ⟨p', l⟩ => ⟨_, l, rfl, p'⟩, q⟩
  | false => exact q
end L2
namespace L2
open PySem PySem.Spec PyProof.Rows
abbrev R2 := V → V → Hp → VK → Prop
def OpR (X : Cx) (f : Value → Value → Sem Value) (r : R2) : Prop :=
  ∀ (pins : List (Addr × Obj)) (s : Shared) (σ : St) (H : Hp) (x y : V) (v u : Value) (Q : VK), Inv X pins σ H s → RelV x v → RelV y u → r x y H Q →
    wpAny (model X.prog X.w) X.A (f v u) (EP X pins σ Q) X.xe s
def CallR (X : Cx) (f : Value) (r : List V → Hp → VK → Prop) : Prop :=
  ∀ (pins : List (Addr × Obj)) (s : Shared) (σ : St) (H : Hp) (xs : List V) (us : List Value) (Q : VK), Inv X pins σ H s → Vals xs us → r xs H Q →
    wpAny (model X.prog X.w) X.A (call f us) (EP X pins σ Q) X.xe s
def TruR (X : Cx) (r : V → Hp → (Bool → Hp → Prop) → Prop) : Prop :=
  ∀ (pins : List (Addr × Obj)) (s : Shared) (σ : St) (H : Hp) (x : V) (v : Value) (Q : Bool → Hp → Prop), Inv X pins σ H s → RelV x v → r x H Q →
    wpAny (model X.prog X.w) X.A (truthy v) (TP X pins σ Q) X.xe s
def tOp (r : R2) (ta tb : TE) : TE := fun σ H Q => ta σ H fun x H1 => tb σ H1 fun y H2 => r x y H2 Q
def tUn (r : V → Hp → VK → Prop) (ta : TE) : TE := fun σ H Q => ta σ H fun x H1 => r x H1 Q
def rI (C : Int → Int → Prop) (g : Int → Int → V) : R2 := fun x y H Q => ∃ i j, x = .int i ∧ y = .int j ∧ C i j ∧ Q (g i j) H
def rI0 (g : Int → Int → V) : R2 := fun x y H Q => ∃ i j, x = .int i ∧ y = .int j ∧ Q (g i j) H
def rU (g : Int → V) : V → Hp → VK → Prop := fun x H Q => ∃ i, x = .int i ∧ Q (g i) H
section
variable {X : Cx} {a b c : Expr} {ta tb tc : TE} {pos : Pos}
theorem binT (ha : PE X a ta) (hb : PE X b tb) {pins : List (Addr × Obj)} {s : Shared} {σ : St} {H : Hp} {R : V → V → Hp → Prop} (I : Inv X pins σ H s)
    (h : ta σ H fun x H1 => tb σ H1 fun y H2 => R x y H2) {Q : Value → Shared → Prop} {f : Value → Value → Sem Value}
    (hf : ∀ v u s2 x y H2, Inv X pins σ H2 s2 → RelV x v → RelV y u → R x y H2 → wpAny (model X.prog X.w) X.A (f v u) Q X.xe s2) :
    wpAny (model X.prog X.w) X.A (eval a X.env) (fun v s₁ => wpAny (model X.prog X.w) X.A (eval b X.env) (fun u s₂ => wpAny (model X.prog X.w) X.A (f v u) Q X.xe s₂) X.xe s₁) X.xe s := by
  refine thn (ha pins s σ H _ I h) fun v s1 ⟨x, H1, I1, r1, q1⟩ => ?_
  refine thn (hb pins s1 σ H1 _ I1 q1) fun u s2 ⟨y, H2, I2, r2, q2⟩ => ?_
  exact hf v u s2 x y H2 I2 r1 r2 q2
theorem pe_op {op : Operator} {r : R2} (ho : OpR X (binaryOp op) r) (ha : PE X a ta) (hb : PE X b tb) : PE X (.BinOp a op b pos) (tOp r ta tb) := by
  intro pins s σ H Q I h
  exact wpAny_BinOp (binT ha hb I h fun v u s2 x y H2 I2 rx ry q => ho pins s2 σ H2 x y v u Q I2 rx ry q)
theorem opI {f : Value → Value → Sem Value} {C : Int → Int → Prop} {g : Int → Int → Int}
    (rule : ∀ (i j : Int) (t u : Tok) (s : Shared) (Q : Value → Shared → Prop) (E : Value → Shared → Prop), C i j → Q (.int (g i j) s.toks) { s with toks := s.toks + 1 } → wpAny (model X.prog X.w) X.A (f (.int i t) (.int j u)) Q E s) :
    OpR X f (rI C fun i j => .int (g i j)) := by
  intro pins s σ H x y v u Q I rx ry h
  obtain ⟨i, j, rfl, rfl, hc, q⟩ := h
  obtain ⟨t, rfl⟩ := rx
  obtain ⟨t', rfl⟩ := ry
  exact rule i j t t' s _ _ hc ⟨.int (g i j), H, I.tok _, ⟨_, rfl⟩, q⟩
theorem opI0 {f : Value → Value → Sem Value} {g : Int → Int → Int}
    (rule : ∀ (i j : Int) (t u : Tok) (s : Shared) (Q : Value → Shared → Prop) (E : Value → Shared → Prop), Q (.int (g i j) s.toks) { s with toks := s.toks + 1 } → wpAny (model X.prog X.w) X.A (f (.int i t) (.int j u)) Q E s) :
    OpR X f (rI0 fun i j => .int (g i j)) := by
  intro pins s σ H x y v u Q I rx ry h
  obtain ⟨i, j, rfl, rfl, q⟩ := h
  obtain ⟨t, rfl⟩ := rx
  obtain ⟨t', rfl⟩ := ry
  exact rule i j t t' s _ _ ⟨.int (g i j), H, I.tok _, ⟨_, rfl⟩, q⟩
theorem opB0 {f : Value → Value → Sem Value} {g : Int → Int → Bool}
    (rule : ∀ (i j : Int) (t u : Tok) (s : Shared) (Q : Value → Shared → Prop) (E : Value → Shared → Prop), Q (.bool (g i j)) s → wpAny (model X.prog X.w) X.A (f (.int i t) (.int j u)) Q E s) :
    OpR X f (rI0 fun i j => .bl (g i j)) := by
  intro pins s σ H x y v u Q I rx ry h
  obtain ⟨i, j, rfl, rfl, q⟩ := h
  obtain ⟨t, rfl⟩ := rx
  obtain ⟨t', rfl⟩ := ry
  exact rule i j t t' s _ _ ⟨.bl (g i j), H, I, rfl, q⟩
def CDiv (i j : Int) : Prop := 0 < j ∧ j < 1073741824
def CPow (i j : Int) : Prop := 0 ≤ j ∧ j ≤ 1000000 ∧ i.natAbs < 2 ^ 64
def CMul (i j : Int) : Prop := (-(2 ^ 64) < i ∧ i < 2 ^ 64) ∨ (-(2 ^ 64) < j ∧ j < 2 ^ 64)
theorem CMul.ok {i j : Int} (h : CMul i j) : IntMulOk i j := by
  rcases h with ⟨h1, h2⟩ | ⟨h1, h2⟩
  · exact .of_left (intBits_le_64 h1 h2)
  · exact .of_right (intBits_le_64 h1 h2)
theorem two_pow_nn (k : Nat) : (0 : Int) ≤ 2 ^ k := by
  rw [two_pow_cast]
  exact Int.natCast_nonneg _
theorem op_add : OpR X (binaryOp .Add) (rI0 fun i j => .int (i + j)) := opI0 fun _ _ _ _ _ _ _ q => add_int q
theorem op_sub : OpR X (binaryOp .Sub) (rI0 fun i j => .int (i - j)) := opI0 fun _ _ _ _ _ _ _ q => sub_int q
theorem op_mul : OpR X (binaryOp .Mult) (rI CMul fun i j => .int (i * j)) := opI fun _ _ _ _ _ _ _ hc q => mul_int q hc.ok
theorem op_fdiv : OpR X (binaryOp .FloorDiv) (rI CDiv fun i j => .int (i / j)) := opI fun i j _ _ _ _ _ hc q => by
  have h1 : (0 : Int) < j := hc.1
  have h2 : j < 1073741824 := hc.2
  exact floordiv_int (by omega) (by rw [Int.fdiv_eq_ediv_of_nonneg i (by omega)]; exact q) (.inl (PyProof.noPylong_small (by omega)))
theorem op_mod : OpR X (binaryOp .Mod) (rI (fun _ j => 0 < j) fun i j => .int (i % j)) := opI fun i j _ _ _ _ _ hc q => by
  have h1 : (0 : Int) < j := hc
  exact mod_int' (by omega) (by rw [Int.fmod_eq_emod_of_nonneg i (by omega)]; exact q)
theorem op_pow : OpR X (binaryOp .Pow) (rI CPow fun i j => .int (i ^ j.toNat)) := opI fun _ _ _ _ _ _ _ hc q => pow_int_small hc.1 hc.2.1 hc.2.2 q
theorem op_shl : OpR X (binaryOp .LShift) (rI CPow fun i j => .int (i * 2 ^ j.toNat)) := opI fun _ _ _ _ _ _ _ hc q => lshift_int_small hc.1 hc.2.1 hc.2.2 q
theorem op_shr : OpR X (binaryOp .RShift) (rI (fun _ j => 0 ≤ j) fun i j => .int (i / 2 ^ j.toNat)) := opI fun i j _ _ _ _ _ hc q =>
  rshift_int hc (by rw [Int.fdiv_eq_ediv_of_nonneg i (two_pow_nn _)]; exact q)
end
def scal : V → V → Bool
  | .non, .non => true | .non, .int _ => true | .int _, .non => true | .non, .bl _ => true | .bl _, .non => true | .non, .str _ => true | .str _, .non => true
  | .int _, .int _ => true | .bl _, .bl _ => true | .str _, .str _ => true | .byt _, .byt _ => true
  | .int _, .str _ => true | .str _, .int _ => true | .bl _, .str _ => true | .str _, .bl _ => true
  | _, _ => false
def rEq : R2 := fun x y H Q => scal x y = true ∧ Q (.bl (decide (x = y))) H
def rNe : R2 := fun x y H Q => scal x y = true ∧ Q (.bl (!decide (x = y))) H
theorem dec_int {i j : Int} : decide (V.int i = V.int j) = (i == j) := by
  rw [Bool.eq_iff_iff]
  simp
theorem dec_bl {i j : Bool} : decide (V.bl i = V.bl j) = (i == j) := by
  rw [Bool.eq_iff_iff]
  simp
theorem dec_str {i j : Str} : decide (V.str i = V.str j) = (i == j) := by
  rw [Bool.eq_iff_iff]
  simp
theorem dec_byt {i j : Array UInt8} : decide (V.byt i = V.byt j) = (i.toList == j.toList) := by
  rw [Bool.eq_iff_iff]
  cases i
  cases j
  simp
section
variable {X : Cx} {a b c : Expr} {ta tb tc : TE} {pos : Pos}
theorem fin_bl {pins : List (Addr × Obj)} {σ : St} {H : Hp} {s : Shared} {Q : VK} {k k' : Bool} (I : Inv X pins σ H s) (q : Q (.bl k) H) (e : k = k') : EP X pins σ Q (.bool k') s := by
  subst e
  exact ⟨.bl k, H, I, rfl, q⟩
theorem op_eq : OpR X (compareOp .Eq) rEq := by
  intro pins s σ H x y v u Q I rx ry h
  obtain ⟨hs, q⟩ := h
  cases x with
  | non =>
    cases rx
    cases y with
    | non => cases ry; exact PySem.EqNone.eq_none_none (fin_bl I q (by simp))
    | bl j => cases ry; exact PySem.EqNone.eq_none_bool (fin_bl I q (by simp))
    | int j => obtain ⟨t', rfl⟩ := ry; exact PySem.EqNone.eq_none_int (fin_bl I q (by simp))
    | str j => obtain ⟨t', rfl⟩ := ry; exact PySem.EqNone.eq_none_str (fin_bl I q (by simp))
    | _ => exact absurd (show false = true from hs) Bool.false_ne_true
  | bl i =>
    cases rx
    cases y with
    | non => cases ry; exact PySem.EqNone.eq_bool_none (fin_bl I q (by simp))
    | bl j => cases ry; exact eq_bool (fin_bl I q dec_bl)
    | str j => obtain ⟨t', rfl⟩ := ry; exact PySem.EqMixed.eq_bool_str (fin_bl I q (by simp))
    | _ => exact absurd (show false = true from hs) Bool.false_ne_true
  | int i =>
    obtain ⟨t, rfl⟩ := rx
    cases y with
    | non => cases ry; exact PySem.EqNone.eq_int_none (fin_bl I q (by simp))
    | int j => obtain ⟨t', rfl⟩ := ry; exact eq_int (fin_bl I q dec_int)
    | str j => obtain ⟨t', rfl⟩ := ry; exact PySem.EqMixed.eq_int_str (fin_bl I q (by simp))
    | _ => exact absurd (show false = true from hs) Bool.false_ne_true
  | str i =>
    obtain ⟨t, rfl⟩ := rx
    cases y with
    | non => cases ry; exact PySem.EqNone.eq_str_none (fin_bl I q (by simp))
    | bl j => cases ry; exact PySem.EqMixed.eq_str_bool (fin_bl I q (by simp))
    | int j => obtain ⟨t', rfl⟩ := ry; exact PySem.EqMixed.eq_str_int (fin_bl I q (by simp))
    | str j => obtain ⟨t', rfl⟩ := ry; exact eq_str (fin_bl I q dec_str)
    | _ => exact absurd (show false = true from hs) Bool.false_ne_true
  | byt i =>
    obtain ⟨t, rfl⟩ := rx
    cases y with
    | byt j => obtain ⟨t', rfl⟩ := ry; exact PySem.W.eq_bytes (fin_bl I q dec_byt)
    | _ => exact absurd (show false = true from hs) Bool.false_ne_true
  | _ => cases y <;> exact absurd (show false = true from hs) Bool.false_ne_true
theorem op_ne : OpR X (compareOp .NotEq) rNe := by
  intro pins s σ H x y v u Q I rx ry h
  obtain ⟨hs, q⟩ := h
  cases x with
  | non =>
    cases rx
    cases y with
    | non => cases ry; exact PySem.EqNone.ne_none_none (fin_bl I q (by simp))
    | bl j => cases ry; exact PySem.EqNone.ne_none_bool (fin_bl I q (by simp))
    | int j => obtain ⟨t', rfl⟩ := ry; exact PySem.EqNone.ne_none_int (fin_bl I q (by simp))
    | str j => obtain ⟨t', rfl⟩ := ry; exact PySem.EqNone.ne_none_str (fin_bl I q (by simp))
    | _ => exact absurd (show false = true from hs) Bool.false_ne_true
  | bl i =>
    cases rx
    cases y with
    | non => cases ry; exact PySem.EqNone.ne_bool_none (fin_bl I q (by simp))
    | bl j => cases ry; exact ne_bool (fin_bl I q (congrArg not dec_bl))
    | str j => obtain ⟨t', rfl⟩ := ry; exact PySem.EqMixed.ne_bool_str (fin_bl I q (by simp))
    | _ => exact absurd (show false = true from hs) Bool.false_ne_true
  | int i =>
    obtain ⟨t, rfl⟩ := rx
    cases y with
    | non => cases ry; exact PySem.EqNone.ne_int_none (fin_bl I q (by simp))
    | int j => obtain ⟨t', rfl⟩ := ry; exact ne_int (fin_bl I q (congrArg not dec_int))
    | str j => obtain ⟨t', rfl⟩ := ry; exact PySem.EqMixed.ne_int_str (fin_bl I q (by simp))
    | _ => exact absurd (show false = true from hs) Bool.false_ne_true
  | str i =>
    obtain ⟨t, rfl⟩ := rx
    cases y with
    | non => cases ry; exact PySem.EqNone.ne_str_none (fin_bl I q (by simp))
    | bl j => cases ry; exact PySem.EqMixed.ne_str_bool (fin_bl I q (by simp))
    | int j => obtain ⟨t', rfl⟩ := ry; exact PySem.EqMixed.ne_str_int (fin_bl I q (by simp))
    | str j => obtain ⟨t', rfl⟩ := ry; exact ne_str (fin_bl I q (congrArg not dec_str))
    | _ => exact absurd (show false = true from hs) Bool.false_ne_true
  | byt i =>
    obtain ⟨t, rfl⟩ := rx
    cases y with
    | byt j => obtain ⟨t', rfl⟩ := ry; exact PySem.W.ne_bytes (fin_bl I q (congrArg not dec_byt))
    | _ => exact absurd (show false = true from hs) Bool.false_ne_true
  | _ => cases y <;> exact absurd (show false = true from hs) Bool.false_ne_true
theorem op_lt : OpR X (compareOp .Lt) (rI0 fun i j => .bl (decide (i < j))) := opB0 fun _ _ _ _ _ _ _ q => lt_int q
theorem op_le : OpR X (compareOp .LtE) (rI0 fun i j => .bl (decide (i ≤ j))) := opB0 fun _ _ _ _ _ _ _ q => le_int q
theorem op_gt : OpR X (compareOp .Gt) (rI0 fun i j => .bl (decide (j < i))) := opB0 fun _ _ _ _ _ _ _ q => gt_int q
theorem op_ge : OpR X (compareOp .GtE) (rI0 fun i j => .bl (decide (j ≤ i))) := opB0 fun _ _ _ _ _ _ _ q => ge_int q
theorem op_isN : OpR X (compareOp .Is) (fun x y H Q => y = .non ∧ Q (.bl (decide (x = .non))) H) := by
  intro pins s σ H x y v u Q I rx ry h
  obtain ⟨rfl, q⟩ := h
  cases ry
  refine is_none_gen (fin_bl I q ?_)
  cases x <;> first
    | (cases rx; rfl)
    | (obtain ⟨t, rfl⟩ := rx; rfl)
theorem op_notN : OpR X (compareOp .IsNot) (fun x y H Q => y = .non ∧ Q (.bl (!decide (x = .non))) H) := by
  intro pins s σ H x y v u Q I rx ry h
  obtain ⟨rfl, q⟩ := h
  cases ry
  refine isnot_none_gen (fin_bl I q ?_)
  cases x <;> first
    | (cases rx; rfl)
    | (obtain ⟨t, rfl⟩ := rx; rfl)
theorem nomark (b : Expr) {op : CmpOp} (h : op ≠ .In := by decide) (h2 : op ≠ .NotIn := by decide) : behindInMarks op b = false := by
  have e1 : (op == CmpOp.In) = false := by cases op <;> first | rfl | exact absurd rfl h
  have e2 : (op == CmpOp.NotIn) = false := by cases op <;> first | rfl | exact absurd rfl h2
  cases b <;> simp [behindInMarks, e1, e2]
theorem pe_cmpR {op : CmpOp} {r : R2} (ho : OpR X (compareOp op) r) (ha : PE X a ta) (hb : PE X b tb) (hm : behindInMarks op b = false) : PE X (.Compare a [op] [b] pos) (tOp r ta tb) := by
  intro pins s σ H Q I h
  exact wpAny_Compare1 (binT ha hb I h fun v u s2 x y H2 I2 rx ry q => ho pins s2 σ H2 x y v u Q I2 rx ry q) hm
def tTest (t : TE) : TT := fun σ H Q => t σ H fun x H' => ∃ k, x = .bl k ∧ Q k H'
theorem pt_cmpR {op : CmpOp} {r : R2} (ho : OpR X (compareOp op) r) (ha : PE X a ta) (hb : PE X b tb) (hm : behindInMarks op b = false) : PT X (.Compare a [op] [b] pos) (tTest (tOp r ta tb)) := by
  intro pins s σ H Q I h
  refine wpAny_isTrue_Compare1 (thn (ha pins s σ H _ I h) fun v s1 ⟨x, H1, I1, r1, q1⟩ => thn (hb pins s1 σ H1 _ I1 q1) fun u s2 ⟨y, H2, I2, r2, q2⟩ =>
    thn (ho pins s2 σ H2 x y v u _ I2 r1 r2 q2) fun c s3 ⟨z, H3, I3, r3, k, e, q3⟩ => ?_) hm
  subst e
  cases r3
  exact wpAny_truthy_bool ⟨H3, I3, q3⟩
def tChain (r r' : R2) (ta tb tc : TE) : TE := fun σ H Q => ta σ H fun x H1 => tb σ H1 fun y H2 => r x y H2 fun z H3 => ∃ k, z = .bl k ∧
  (if k = true then tc σ H3 fun w' H4 => r' y w' H4 Q else Q (.bl false) H3)
theorem pe_chain {op op' : CmpOp} {r r' : R2} (ho : OpR X (compareOp op) r) (ho' : OpR X (compareOp op') r') (ha : PE X a ta) (hb : PE X b tb) (hc : PE X c tc)
    (hm : lastMarks [op, op'] [b, c] = false := by with_unfolding_all rfl) : PE X (.Compare a [op, op'] [b, c] pos) (tChain r r' ta tb tc) := by
  intro pins s σ H Q I h
  refine Compare_chain (thn (ha pins s σ H _ I h) fun v s1 ⟨x, H1, I1, r1, q1⟩ => chain_link (thn (hb pins s1 σ H1 _ I1 q1) fun u s2 ⟨y, H2, I2, r2, q2⟩ =>
    thn (ho pins s2 σ H2 x y v u _ I2 r1 r2 q2) fun d s3 ⟨z, H3, I3, r3, k, e, q3⟩ => ?_)) hm
  subst e
  cases r3
  refine wpAny_truthy_bool ?_
  cases k with
  | false => exact ite_ff ⟨.bl false, H3, I3, rfl, q3⟩
  | true => exact ite_tt (chain_last (thn (hc pins s3 σ H3 _ I3 q3) fun w' s4 ⟨z', H4, I4, r4, q4⟩ => ho' pins s4 σ H4 y z' u w' Q I4 r2 r4 q4))
theorem pt_chain {op op' : CmpOp} {r r' : R2} (ho : OpR X (compareOp op) r) (ho' : OpR X (compareOp op') r') (ha : PE X a ta) (hb : PE X b tb) (hc : PE X c tc)
    (hm : lastMarks [op, op'] [b, c] = false := by with_unfolding_all rfl) : PT X (.Compare a [op, op'] [b, c] pos) (tTest (tChain r r' ta tb tc)) := by
  intro pins s σ H Q I h
  refine isTrue_chain (thn (ha pins s σ H _ I h) fun v s1 ⟨x, H1, I1, r1, q1⟩ => test_link (thn (hb pins s1 σ H1 _ I1 q1) fun u s2 ⟨y, H2, I2, r2, q2⟩ =>
    thn (ho pins s2 σ H2 x y v u _ I2 r1 r2 q2) fun d s3 ⟨z, H3, I3, r3, k, e, q3⟩ => ?_)) hm
  subst e
  cases r3
  refine wpAny_truthy_bool ?_
  cases k with
  | false =>
    obtain ⟨k', e', q'⟩ := q3
    cases e'
    exact ite_ff ⟨H3, I3, q'⟩
  | true =>
    refine ite_tt (test_last (thn (hc pins s3 σ H3 _ I3 q3) fun w' s4 ⟨z', H4, I4, r4, q4⟩ => thn (ho' pins s4 σ H4 y z' u w' _ I4 r2 r4 q4) fun d' s5 ⟨z2, H5, I5, r5, k2, e2, q5⟩ => ?_))
    subst e2
    cases r5
    exact wpAny_truthy_bool ⟨H5, I5, q5⟩
def TruV (K : PySem.W.Frag) (x : V) (H : Hp) (k : Bool) : Prop :=
  match x with
  | .non => k = false
  | .bl b => k = b
  | .int i => k = (i != 0)
  | .str y => y.length ≤ sizeLine ∧ k = ((y.length : Int) != 0)
  | .byt y => y.size ≤ sizeLine ∧ k = ((y.size : Int) != 0)
  | .ref p => (∃ xs, SqL K H p xs ∧ k = !xs.isEmpty) ∨ (∃ xs, SqT K H p xs ∧ k = !xs.isEmpty) ∨ ∃ kvs, H p = some (.dK kvs) ∧ k = !kvs.isEmpty
  | _ => False
theorem isEmpty_kv {κ : Type} {kvs : List (κ × V)} {vs : List (κ × Value)} (r : KV kvs vs) : (!vs.isEmpty) = !kvs.isEmpty := by
  cases r <;> rfl
theorem isEmpty_of {xs : List V} {its : List Value} (r : Vals xs its) : (!its.toArray.isEmpty) = !xs.isEmpty := by
  cases r <;> simp
theorem line63 : (sizeLine : Nat) < 2 ^ 63 := by rw [sizeLine_eq]; decide
theorem tru_ok : TruR X (fun x H Q => ∃ k, TruV X.K x H k ∧ Q k H) := by
  intro pins s σ H x v Q I rx h
  obtain ⟨k, e, q⟩ := h
  have hl := line63
  have hs : sizeLine = 16777216 := sizeLine_eq
  cases x with
  | non =>
    cases rx
    have e' : k = false := e
    subst e'
    exact truthy_none ⟨H, I, q⟩
  | bl b =>
    cases rx
    have e' : k = b := e
    subst e'
    exact wpAny_truthy_bool ⟨H, I, q⟩
  | int i =>
    obtain ⟨t, rfl⟩ := rx
    have e' : k = (i != 0) := e
    subst e'
    exact PySem.P.truthy_int ⟨H, I, q⟩
  | str y =>
    obtain ⟨t, rfl⟩ := rx
    obtain ⟨hy, e'⟩ : y.length ≤ sizeLine ∧ k = ((y.length : Int) != 0) := e
    subst e'
    exact PySem.P.truthy_str (by omega) ⟨H, I.tok _, q⟩
  | byt y =>
    obtain ⟨t, rfl⟩ := rx
    obtain ⟨hy, e'⟩ : y.size ≤ sizeLine ∧ k = ((y.size : Int) != 0) := e
    subst e'
    exact PySem.W.truthy_bytes (by omega) ⟨H, I.tok _, q⟩
  | ref p =>
    cases rx
    have e' : (∃ xs, SqL X.K H p xs ∧ k = !xs.isEmpty) ∨ (∃ xs, SqT X.K H p xs ∧ k = !xs.isEmpty) ∨ ∃ kvs, H p = some (.dK kvs) ∧ k = !kvs.isEmpty := e
    rcases e' with ⟨xs, hx, e'⟩ | ⟨xs, hx, e'⟩ | ⟨kvs, hx, e'⟩
    · subst e'
      obtain ⟨its, r, pl, hz⟩ := I.list hx
      have hlen := r.length
      exact wpAny_truthy_list pl.isList (by simp only [List.size_toArray]; omega) ⟨H, I.tok _, by rw [isEmpty_of r]; exact q⟩
    · subst e'
      obtain ⟨its, r, pl, hz⟩ := I.tuple hx
      have hlen := r.length
      exact truthy_tuple pl (by simp only [List.size_toArray]; omega) ⟨H, I.tok _, by rw [isEmpty_of r]; exact q⟩
    · subst e'
      obtain ⟨hz, hS, vs, r, m⟩ : kvs.length ≤ sizeLine ∧ (p == sysModules) = false ∧ ∃ vs, KV kvs vs ∧ s.heap.DictOf (mixKind X.prog X.w) p vs := I.hok p _ hx
      have hlen : kvs.length = vs.length := Paired.length r
      exact wpAny_truthy_dict hS m (by omega) ⟨H, I.tok _, by rw [isEmpty_kv r]; exact q⟩
  | _ => exact (show False from e).elim
theorem vals1 {x : V} {us : List Value} (r : Vals [x] us) : ∃ u, us = [u] ∧ RelV x u := by
  cases r with
  | cons r1 r2 => cases r2; exact ⟨_, rfl, r1⟩
theorem vals2 {x y : V} {us : List Value} (r : Vals [x, y] us) : ∃ u w', us = [u, w'] ∧ RelV x u ∧ RelV y w' := by
  cases r with
  | cons r1 r2 =>
    cases r2 with
    | cons r3 r4 => cases r4; exact ⟨_, _, rfl, r1, r3⟩
end
end L2
namespace L2
open PySem PySem.Spec PyProof.Rows
structure ObjM (h : Heap) (x dx C : Addr) (mA : Str → Option Value) : Prop where
  obj : h.get? x = some (PySem.W.instObj C dx)
  ns : h.Ns1 dx mA
  ne : dx ≠ x
theorem lookIn_ns {h : Heap} {dx : Addr} {mA : Str → Option Value} (n : h.Ns1 dx mA) : ∃ od, h.get? dx = some od ∧ ∀ name, PySem.W.lookIn name od = some (mA name) := by
  obtain ⟨o, es, ep, ho, hd, hk, _, hm⟩ := n
  refine ⟨o, ho, fun name => ?_⟩
  have e := hm name
  unfold nsFind findBy at e
  rw [← Array.find?_toList] at e
  unfold PySem.W.lookIn
  rw [hd]
  dsimp only
  split
  · rename_i y q
    rw [q] at e
    exact congrArg some e
  · rename_i q
    rw [q] at e
    have a : es.toList.any (·.refKey) = false := by
      rw [List.any_eq_false]
      intro y hy
      obtain ⟨z, t, hkey⟩ := hk y (Array.mem_toList_iff.mp hy)
      simp [DictEntry.refKey, hkey]
    have a' : ¬ es.toList.any (·.refKey) = true := by rw [a]; exact Bool.false_ne_true
    rw [if_neg a']
    exact congrArg some e
theorem ObjM.look {h : Heap} {x dx C : Addr} {mA : Str → Option Value} (I : ObjM h x dx C mA) : ∃ od, PySem.W.InstAt h x (PySem.W.instObj C dx) C (some od) ∧ ∀ name, PySem.W.lookIn name od = some (mA name) :=
  let ⟨od, ho, hl⟩ := lookIn_ns I.ns
  ⟨od, ⟨I.obj, rfl, rfl, ho⟩, hl⟩
section
variable {prog : Program} {w : World} {A : Around} {E : Value → Shared → Prop} {s : Shared} {K : PySem.W.Frag} {x dx C f : Addr} {mA : Str → Option Value} {name : Str} {v : Value}
theorem get_map {expr : Bool} {Q : Value → Shared → Prop} (X : K.In s.heap) (I : ObjM s.heap x dx C mA) (hg : PySem.W.plainGet K C name = true) (hh : PySem.W.hasDictIn K C = true)
    (ha : PySem.W.findIn K (.ref C) name = some none) (hv : mA name = some v) (hv' : PySem.W.handedIn v = true) (h : Q v { s with toks := s.toks + 1 }) :
    wpAny (model prog w) A (getAttr (.ref x) name expr) Q E s := by
  obtain ⟨od, J, hl⟩ := I.look
  exact PySem.W.get_value X J (PySem.W.plainGet_of hg).1 (PySem.W.findObj_own hh ha rfl (by rw [hl, hv])) hv' h
theorem get_meth {pl : Sem Bool} {Q : Value × List Value → Shared → Prop} (X : K.In s.heap) (I : ObjM s.heap x dx C mA) (hg : PySem.W.plainGet K C name = true)
    (hf : PySem.W.findIn K (.ref C) name = some (some (.ref f))) (ht : PySem.W.isFn K (.ref f) = true) (hv : mA name = none) (h : Q (.ref f, [.ref x]) s) :
    wpAny (model prog w) A (getMethod (.ref x) name pl) Q E s := by
  obtain ⟨od, J, hl⟩ := I.look
  exact PySem.W.method_fn X J (PySem.W.plainGet_of hg).1 (PySem.W.plainGet_of hg).2 hf (beq_iff_eq.mp ht) (by show (PySem.W.lookIn name od).map (·.isSome) = some false; rw [hl, hv]; rfl) h
theorem set_map {ns : List Str} {Q : Unit → Shared → Prop} (X : K.In s.heap) (I : ObjM s.heap x dx C mA)
    (hs : PySem.W.findIn K (.ref C) "__setattr__" = some (some (.builtin "object.__setattr__"))) (hp : PySem.W.plainOver K C = true) (ht : PySem.W.takerIn K C name = some none) (hh : PySem.W.hasDictIn K C = true)
    (hw : PySem.Within mA ns) (hsz : ns.length ≤ sizeLine)
    (h : ∀ h', ObjM h' x dx C (fun y => if y = name then some v else mA y) → Heap.SameBut dx s.heap h' → Q () { s with heap := h', toks := s.toks + 2 }) :
    wpAny (model prog w) A (setAttr (.ref x) name v) Q E s := by
  obtain ⟨od, J, hl⟩ := I.look
  refine PySem.W.set_plain X J hs (PySem.W.osa_open (s := { s with toks := s.toks + 1 }) (r := none) X J hp ht fun b => ?_)
  obtain ⟨cd, hc, hd'⟩ := PySem.W.any_some hh
  have hx : s.heap.get? x = some ⟨.ref C, some dx, .plain, #[]⟩ := I.obj
  refine wpAny_bind (wpAny_pure (wpAny_bind (wpAny_bind (wpAny_loadPart hx (wpAny_bind (PySem.W.Looks.here (s := { s with toks := s.toks + 1 }) (PySem.W.looks_clsIn X hc) ?_))))))
  rw [hd']
  refine wpAny_pure (a := some dx) (wpAny_bind (wpAny_pure (wpAny_bind ?_)))
  refine wpAny_nsSet1 (s := { s with toks := s.toks + 1 }) I.ns fun h' hn2 hs2 => ?_
  obtain ⟨oD, esD, epD, hoD, hdD, hcD⟩ := hn2.count (PySem.Within.cons name v hw)
  refine wpAny_bind (wpAny_lookBehind hoD (by rw [hdD]; exact pastItsLine_dict (Nat.le_trans hcD (by rw [List.length_cons]; omega))) ?_)
  exact wpAny_pure (h _ ⟨(hs2.2 _ (Ne.symm I.ne)).trans I.obj, hn2, I.ne⟩ hs2)
theorem make_map {R : Result → Shared → Prop} {vs : List Value} {kw : List (Str × Value)} (X : K.In s.heap) (hm : PySem.W.makesIn K C = true)
    (hi : PySem.W.findIn K (.ref C) "__init__" = some (some (.ref f))) (hf : PySem.W.typeIn K (.ref f) = some (.type "function"))
    (h : codeAny (model prog w) (A.under (.builtin "type.__call__" ⟨.ref C :: vs, kw⟩)) (.call (.ref f) ⟨.ref (s.heap.objs.size + 1) :: vs, kw⟩) (PySem.W.InitBack (s.heap.objs.size + 1) R)
      { s with heap := (s.heap.push PySem.W.emptyDict).push (PySem.W.instObj C s.heap.objs.size) }) :
    codeAny (model prog w) A (.call (.ref C) ⟨vs, kw⟩) R s := by
  obtain ⟨hh, g, d, t, os⟩ := s
  exact PySem.W.make_core (PySem.W.makes_of X hm) (PySem.W.looks_findIn X hi) (fun self => PySem.W.bind_fn X self hf) (.inl rfl) h
end
def putF (f : Str) (v : V) : List (Str × V) → List (Str × V)
  | [] => [(f, v)]
  | (g, x) :: r => if g = f then (g, v) :: r else (g, x) :: putF f v r
theorem lookup_putF (f g : Str) (v : V) : ∀ fs : List (Str × V), (putF f v fs).lookup g = if g = f then some v else fs.lookup g
  | [] => by
    show List.lookup g [(f, v)] = _
    by_cases h : g = f
    · have hb : (g == f) = true := beq_iff_eq.mpr h
      simp only [List.lookup, hb, if_pos h]
    · have hb : (g == f) = false := beq_eq_false_iff_ne.mpr h
      simp only [List.lookup, hb, if_neg h]
  | (k, x) :: r => by
    have ih := lookup_putF f g v r
    rw [show putF f v ((k, x) :: r) = (if k = f then (k, v) :: r else (k, x) :: putF f v r) from rfl]
    by_cases hk : k = f
    · rw [if_pos hk]
      by_cases h : g = k
      · have hb : (g == k) = true := beq_iff_eq.mpr h
        simp only [List.lookup, hb, if_pos (h.trans hk)]
      · have hb : (g == k) = false := beq_eq_false_iff_ne.mpr h
        simp only [List.lookup, hb, if_neg (fun e : g = f => h (e.trans hk.symm))]
    · rw [if_neg hk]
      by_cases h : g = k
      · have hb : (g == k) = true := beq_iff_eq.mpr h
        simp only [List.lookup, hb, if_neg (fun e : g = f => hk (h.symm.trans e))]
      · have hb : (g == k) = false := beq_eq_false_iff_ne.mpr h
        simp only [List.lookup, hb]
        exact ih
theorem keys_putF (f : Str) (v : V) : ∀ fs : List (Str × V), f ∈ (putF f v fs).map (·.1) ∧ ∀ g, g ∈ fs.map (·.1) → g ∈ (putF f v fs).map (·.1)
  | [] => ⟨by simp [putF], fun g h => by simp at h⟩
  | (k, x) :: r => by
    obtain ⟨i1, i2⟩ := keys_putF f v r
    rw [show putF f v ((k, x) :: r) = (if k = f then (k, v) :: r else (k, x) :: putF f v r) from rfl]
    by_cases hk : k = f
    · rw [if_pos hk]
      subst hk
      exact ⟨by simp, fun g h => by simpa using h⟩
    · rw [if_neg hk]
      refine ⟨?_, fun g h => ?_⟩
      · rw [List.map_cons]
        exact List.mem_cons_of_mem _ i1
      · rw [List.map_cons] at h ⊢
        rcases List.mem_cons.mp h with e | e
        · exact List.mem_cons.mpr (.inl e)
        · exact List.mem_cons_of_mem _ (i2 g e)
theorem length_putF (f : Str) (v : V) : ∀ fs : List (Str × V), (putF f v fs).length ≤ fs.length + 1
  | [] => by simp [putF]
  | (k, x) :: r => by
    have ih := length_putF f v r
    rw [show putF f v ((k, x) :: r) = (if k = f then (k, v) :: r else (k, x) :: putF f v r) from rfl]
    by_cases hk : k = f
    · rw [if_pos hk, List.length_cons, List.length_cons]; omega
    · rw [if_neg hk, List.length_cons, List.length_cons]; omega
theorem RelO.some_of {v : V} {o : Option Value} (r : RelO (some v) o) : ∃ u, o = some u ∧ RelV v u := by
  cases o with
  | none => exact (show False from r).elim
  | some u => exact ⟨u, rfl, r⟩
theorem RelO.none_of {o : Option Value} (r : RelO none o) : o = none := by
  cases o with
  | none => rfl
  | some u => exact (show False from r).elim
theorem handed_of {v : V} {u : Value} (r : RelV v u) : PySem.W.handedIn u = true := by
  cases v with
  | non => cases (show u = Value.none from r); rfl
  | bl b => cases (show u = Value.bool b from r); rfl
  | int i => obtain ⟨t, e⟩ := (show ∃ t, u = Value.int i t from r); cases e; rfl
  | str x => obtain ⟨t, e⟩ := (show ∃ t, u = Value.str x t from r); cases e; rfl
  | byt b => obtain ⟨t, e⟩ := (show ∃ t, u = Value.bytes b t from r); cases e; rfl
  | flt b => obtain ⟨t, e⟩ := (show ∃ t, u = Value.float b t from r); cases e; rfl
  | ref a => cases (show u = Value.ref a from r); rfl
  | ty n => cases (show u = Value.type n from r); rfl
section
variable {P : Program} {w : World} {H H' : Hp} {h h' : Heap} {a C dx : Addr} {fs fs' : List (Str × V)}
theorem ins_get (hok : HOk P w H h) (e : H a = some (.ins C dx fs)) : ∃ mA, ObjM h a dx C mA ∧ (∀ f, RelO (fs.lookup f) (mA f)) ∧ PySem.Within mA (fs.map (·.1)) ∧ fs.length ≤ 1000 ∧ H dx = some (.own a) := by
  obtain ⟨d, z, ne, ob, mA, n, r, q⟩ := (show ObjOk P w H h a (.ins C dx fs) from hok a _ e)
  exact ⟨mA, ⟨ob, n, ne⟩, r, q, z, d⟩
end
structure Cls (K : PySem.W.Frag) (C : Addr) : Prop where
  pg : PySem.W.plainGet K C Str.empty = true
  hd : PySem.W.hasDictIn K C = true
  po : PySem.W.plainOver K C = true
  sa : PySem.W.findIn K (.ref C) "__setattr__" = some (some (.builtin "object.__setattr__"))
theorem Cls.get {K : PySem.W.Frag} {C : Addr} (c : Cls K C) (f : Str) : PySem.W.plainGet K C f = true := c.pg
def NoAttr (K : PySem.W.Frag) (C : Addr) (f : Str) : Prop := PySem.W.findIn K (.ref C) f = some none
theorem NoAttr.taker {K : PySem.W.Frag} {C : Addr} {f : Str} (n : NoAttr K C f) : PySem.W.takerIn K C f = some none := by
  unfold PySem.W.takerIn
  rw [show PySem.W.findIn K (.ref C) f = some none from n]
  rfl
structure Con (K : PySem.W.Frag) (C : Addr) (f : Str) (v : V) (u : Value) : Prop where
  at_ : PySem.W.findIn K (.ref C) f = some (some u)
  rel : RelV v u
  get : PySem.W.specialIn K u "__get__" = some none
  cp : PySem.W.copiedNames.contains f = false
structure Meth (K : PySem.W.Frag) (C : Addr) (m : Str) (f : Addr) : Prop where
  at_ : PySem.W.findIn K (.ref C) m = some (some (.ref f))
  fn : PySem.W.isFn K (.ref f) = true
  kp : PySem.W.keepIn K (.ref f) = true
section
variable {X : Cx} {pins : List (Addr × Obj)} {σ : St} {H : Hp} {s : Shared} {a C dx : Addr} {fs : List (Str × V)} {f : Str} {v : V} {A : Around} {E : Value → Shared → Prop}
theorem getattr_ok {b : Bool} {Q : Value → Shared → Prop} (I : Inv X pins σ H s) (e : H a = some (.ins C dx fs)) (c : Cls X.K C) (n : NoAttr X.K C f) (l : fs.lookup f = some v)
    (h : ∀ u s', Inv X pins σ H s' → RelV v u → Q u s') : wpAny (model X.prog X.w) A (getAttr (.ref a) f b) Q E s := by
  obtain ⟨mA, O, r, _, _, _⟩ := ins_get I.hok e
  obtain ⟨u, hu, ru⟩ := RelO.some_of (v := v) (o := mA f) (by rw [← l]; exact r f)
  exact get_map I.kIn O (c.get f) c.hd n hu (handed_of ru) (h u _ (I.tok _) ru)
theorem getmeth_ok {m : Str} {g : Addr} {pl : Sem Bool} {Q : Value × List Value → Shared → Prop} (I : Inv X pins σ H s) (e : H a = some (.ins C dx fs)) (c : Cls X.K C) (k : Meth X.K C m g) (l : fs.lookup m = none)
    (h : Q (.ref g, [.ref a]) s) : wpAny (model X.prog X.w) A (getMethod (.ref a) m pl) Q E s := by
  obtain ⟨mA, O, r, _, _, _⟩ := ins_get I.hok e
  have hn : mA m = none := RelO.none_of (by rw [← l]; exact r m)
  exact get_meth I.kIn O (c.get m) k.at_ k.fn hn h
theorem setattr_ok {y : V} {u : Value} {Q : Unit → Shared → Prop} (I : Inv X pins σ H s) (e : H a = some (.ins C dx fs)) (c : Cls X.K C) (n : NoAttr X.K C f) (hl : fs.length < 1000) (ry : RelV y u)
    (h : ∀ s', Inv X pins σ (upd H a (.ins C dx (putF f y fs))) s' → Q () s') : wpAny (model X.prog X.w) A (setAttr (.ref a) f u) Q E s := by
  obtain ⟨mA, O, r, wi, _, ho⟩ := ins_get I.hok e
  have hz : (fs.map (·.1)).length ≤ sizeLine := by rw [List.length_map, sizeLine_eq]; omega
  refine set_map I.kIn O c.sa c.po n.taker c.hd wi hz fun h' O' sb => h _ ?_
  have hd : ∃ o, h'.get? dx = some o := let ⟨o, _, _, e', _⟩ := O'.ns; ⟨o, e'⟩
  refine I.write (x := a) (e := dx) (by rw [e]; exact True.intro) (.inr ho) (fun b q hb z => (sb.2 b hb).trans z) hd ?_
  refine ⟨by rw [upd_ne O.ne]; exact ho, ?_, O.ne, O'.obj, _, O'.ns, fun g => ?_, fun g hg => ?_⟩
  · have := length_putF f y fs; omega
  · show RelO ((putF f y fs).lookup g) (if g = f then some u else mA g)
    rw [lookup_putF]
    by_cases q : g = f
    · rw [if_pos q, if_pos q]; exact ry
    · rw [if_neg q, if_neg q]; exact r g
  · by_cases q : g = f
    · rw [q]; exact (keys_putF f y fs).1
    · refine (keys_putF f y fs).2 g (wi g fun z => hg ?_)
      show (if g = f then some u else mA g) = none
      rw [if_neg q]; exact z
theorem Inv.made (I : Inv X pins σ H s) : Inv X pins σ (upd (upd H s.heap.objs.size (.own (s.heap.objs.size + 1))) (s.heap.objs.size + 1) (.ins C s.heap.objs.size []))
    { s with heap := (s.heap.push PySem.W.emptyDict).push (PySem.W.instObj C s.heap.objs.size) } := by
  have e1 : (s.heap.push PySem.W.emptyDict).get? s.heap.objs.size = some PySem.W.emptyDict := Heap.get?_push_size s.heap rfl
  have e2 : ((s.heap.push PySem.W.emptyDict).push (PySem.W.instObj C s.heap.objs.size)).get? (s.heap.objs.size + 1) = some (PySem.W.instObj C s.heap.objs.size) := by
    have := Heap.get?_push_size (s.heap.push PySem.W.emptyDict) (o := PySem.W.instObj C s.heap.objs.size) rfl
    rwa [Heap.size_push] at this
  have e3 : (s.heap.push PySem.W.emptyDict).Ns s.heap.objs.size (fun _ => none) := ⟨PySem.W.emptyDict, #[], _, e1, rfl, (fun e he => absurd he (by simp)), fun _ => rfl⟩
  have I1 := I.laid (a := s.heap.objs.size) (o := .own (s.heap.objs.size + 1)) (h' := s.heap.push PySem.W.emptyDict) (t' := s.toks) (fun b u q => Heap.get?_push_of_some _ q) (Nat.le_refl _) ⟨_, e1⟩
  refine I1.laid (a := s.heap.objs.size + 1) (o := .ins C s.heap.objs.size []) (t' := s.toks) (fun b u q => Heap.get?_push_of_some _ q) (Nat.le_of_eq (Heap.size_push _ _)) ?_
  have ne : s.heap.objs.size ≠ s.heap.objs.size + 1 := Nat.ne_of_lt (Nat.lt_succ_self _)
  refine ⟨by rw [upd_ne ne, upd_same], Nat.zero_le _, ne, e2, fun _ => none, (Heap.Ns1.of_empty e3).at fun o q => Heap.get?_push_of_some _ q, fun _ => True.intro, fun y hy => absurd rfl hy⟩
theorem attr_of {prog : Program} {w : World} {env : Env} {e : Expr} {f : Str} {pos : Pos} {s : Shared} {Q : Value → Shared → Prop} (hb : attributeBase e f env (eval e env) = eval e env)
    (h : wpAny (model prog w) A (eval e env) (fun o s₁ => wpAny (model prog w) A (getAttr o f true) Q E s₁) E s) : wpAny (model prog w) A (eval (.Attribute e f pos) env) Q E s :=
  Attribute_any_ h (by rw [arm_eval_Attribute, hb])
end
def tFld (K : PySem.W.Frag) (ta : TE) (f : Str) : TE := fun σ H Q => ta σ H fun x H1 => ∃ a C dx fs v, x = .ref a ∧ H1 a = some (.ins C dx fs) ∧ Cls K C ∧ NoAttr K C f ∧ fs.lookup f = some v ∧ Q v H1
def sFld (K : PySem.W.Frag) (ta tv : TE) (f : Str) : TS := fun D σ H => tv σ H fun y H1 => ta σ H1 fun x H2 => ∃ a C dx fs, x = .ref a ∧ H2 a = some (.ins C dx fs) ∧ Cls K C ∧ NoAttr K C f ∧ fs.length < 1000 ∧
  D.nx σ (upd H2 a (.ins C dx (putF f y fs)))
section
variable {X : Cx} {o e value : Expr} {f : Str} {pos pos' tpos : Pos} {ta tv : TE}
theorem pe_fld (he : PE X e ta) (hb : attributeBase e f X.env (eval e X.env) = eval e X.env) : PE X (.Attribute e f pos) (tFld X.K ta f) := by
  intro pins s σ H Q I h
  refine attr_of hb (thn (he pins s σ H _ I h) fun u s1 ⟨x, H1, I1, rx, a, C, dx, fs, v, ex, ea, c, n, l, q⟩ => ?_)
  subst ex
  obtain rfl : u = Value.ref a := rx
  exact getattr_ok I1 ea c n l fun u' s2 I2 ru => ⟨v, H1, I2, ru, q⟩
theorem ps_fld (ha : PE X o ta) (hv : PE X value tv) (hs : swapsWith value (some (.Attribute o f pos')) pos.line X.env = pure false) : PS X (.Assign [.Attribute o f pos'] value pos) (sFld X.K ta tv f) := by
  intro pins s σ H D I h
  refine plainObj_wpAny_Assign_Attribute (thn (hv pins s σ H _ I h) fun u s1 ⟨y, H1, I1, ry, q⟩ => thn (ha pins s1 σ H1 _ I1 q) fun ov s2 ⟨x, H2, I2, rx, a, C, dx, fs, ex, ea, c, n, l, q2⟩ => ?_) hs
  subst ex
  obtain rfl : ov = Value.ref a := rx
  exact setattr_ok I2 ea c n l ry fun s3 I3 => ⟨σ, _, I3, q2⟩
end
section
variable {X : Cx} {pins : List (Addr × Obj)} {σ : St} {H : Hp} {s : Shared} {A : Around} {E : Value → Shared → Prop} {Q : Value → Shared → Prop} {c : Value} {b : Bool}
inductive TyOf (K : PySem.W.Frag) (H : Hp) : V → Value → Prop where
  | non : TyOf K H .non (.type "NoneType")
  | bl (x : Bool) : TyOf K H (.bl x) (.type "bool")
  | int (i : Int) : TyOf K H (.int i) (.type "int")
  | str (x : Str) : TyOf K H (.str x) (.type "str")
  | flt (x : UInt64) : TyOf K H (.flt x) (.type "float")
  | lst {a : Addr} {xs : List V} (e : H a = some (.lst xs)) : TyOf K H (.ref a) (.type "list")
  | frz {a : Addr} {o : Obj} {xs : List V} (e : H a = some (.frz o (.lst xs))) : TyOf K H (.ref a) (.type "list")
  | tup {a : Addr} {xs : List V} (e : H a = some (.tup xs)) : TyOf K H (.ref a) (.type "tuple")
  | dK {a : Addr} {kvs : List (Key × V)} (e : H a = some (.dK kvs)) : TyOf K H (.ref a) (.type "dict")
  | dT {a : Addr} {kvs : List (List Key × V)} (e : H a = some (.dT kvs)) : TyOf K H (.ref a) (.type "dict")
  | ins {a C dx : Addr} {fs : List (Str × V)} (e : H a = some (.ins C dx fs)) (cl : Cls K C) (ha : PySem.W.findIn K (.ref C) "__class__" = some (some (.builtin "object.__class__")))
      (hn : PySem.W.specialIn K (.builtin "object.__class__") "__get__" = some (some (.builtin "getset_descriptor.__get__"))) (htk : PySem.W.takesIn K (.builtin "object.__class__") = some true)
      (hm : PySem.W.mroIn K C (.type "object") = some true) : TyOf K H (.ref a) (.ref C)
theorem isinst_ok {x : V} {u t : Value} (I : Inv X pins σ H s) (rx : RelV x u) (ty : TyOf X.K H x t) (e : PySem.W.kitOne X.K t c = some b) (h : ∀ tk, Q (.bool b) { s with toks := tk }) :
    wpAny (model X.prog X.w) A (call (.builtin "isinstance") [u, c]) Q E s := by
  cases ty with
  | non => cases (show u = Value.none from rx); exact PySem.W.kia_one PySem.W.kitx_none I.kIn True.intro e (fun z => nomatch z) h
  | bl y => cases (show u = Value.bool y from rx); exact PySem.W.kia_one PySem.W.kitx_bool I.kIn True.intro e (fun z => nomatch z) h
  | int i => obtain ⟨t, q⟩ := (show ∃ t, u = Value.int i t from rx); cases q; exact PySem.W.kia_one PySem.W.kitx_int I.kIn True.intro e (fun z => nomatch z) h
  | str y => obtain ⟨t, q⟩ := (show ∃ t, u = Value.str y t from rx); cases q; exact PySem.W.kia_one PySem.W.kitx_str I.kIn True.intro e (fun z => nomatch z) h
  | flt y => obtain ⟨t, q⟩ := (show ∃ t, u = Value.float y t from rx); cases q; exact PySem.W.kia_one PySem.W.kitx_float I.kIn True.intro e (fun z => nomatch z) h
  | @lst a xs ea =>
    cases (show u = Value.ref a from rx)
    obtain ⟨_, _, n, _, h1⟩ := (show ObjOk X.prog X.w H s.heap a (.lst xs) from I.hok a _ ea)
    exact PySem.W.kia_one PySem.W.kitx_list I.kIn ⟨_, h1, rfl⟩ e (fun z => nomatch z) h
  | @frz a ob xs ea =>
    cases (show u = Value.ref a from rx)
    obtain ⟨_, _, _, n, _, h1⟩ := (show ObjOk X.prog X.w H s.heap a (.frz ob (.lst xs)) from I.hok a _ ea)
    exact PySem.W.kia_one PySem.W.kitx_list I.kIn ⟨_, h1, rfl⟩ e (fun z => nomatch z) h
  | @tup a xs ea =>
    cases (show u = Value.ref a from rx)
    obtain ⟨_, _, _, p⟩ := (show ObjOk X.prog X.w H s.heap a (.tup xs) from I.hok a _ ea)
    obtain ⟨o, h1, h2, _⟩ := p
    exact PySem.W.kia_one PySem.W.kitx_tuple I.kIn ⟨o, h1, h2⟩ e (fun z => nomatch z) h
  | @dK a kvs ea =>
    cases (show u = Value.ref a from rx)
    obtain ⟨_, _, vs, _, p⟩ := (show ObjOk X.prog X.w H s.heap a (.dK kvs) from I.hok a _ ea)
    obtain ⟨o, es, ep, h1, h2, _⟩ := p
    exact PySem.W.kia_one PySem.W.kitx_dict I.kIn ⟨o, h1, h2.1⟩ e (fun z => nomatch z) h
  | @dT a kvs ea =>
    cases (show u = Value.ref a from rx)
    obtain ⟨_, _, xs, _, o, es, ep, h1, h2, _⟩ := (show ObjOk X.prog X.w H s.heap a (.dT kvs) from I.hok a _ ea)
    exact PySem.W.kia_one PySem.W.kitx_dict I.kIn ⟨o, h1, h2.1⟩ e (fun z => nomatch z) h
  | @ins a C dx fs ea cl ha hn htk hm =>
    cases (show u = Value.ref a from rx)
    obtain ⟨mA, O, _⟩ := ins_get I.hok ea
    obtain ⟨od, J, _⟩ := O.look
    exact PySem.W.kia_one (PySem.W.kitx_own (cl.get _) cl.hd ha hn htk hm) I.kIn J e (fun z => nomatch z) h
end
end L2
namespace L2
open PySem PySem.Spec PyProof.Rows
structure Room (k : Nat) (A : Around) : Prop where
  hd : A.handled = none
  dp : A.depth + 3 * k + 5 < recursionLimit
  un : A.units + 16 * k + 200 < cLine
theorem Room.mono {j k : Nat} {A : Around} (r : Room k A) (h : j ≤ k) : Room j A := ⟨r.hd, by have := r.dp; omega, by have := r.un; omega⟩
theorem Room.deeper {k : Nat} {A : Around} (r : Room (k + 1) A) (env : Env) : Room k (A.deeper env) :=
  ⟨r.hd, by have := r.dp; show A.depth + 1 + 3 * k + 5 < _; omega, by have := r.un; show A.units + 3 + 16 * k + 200 < _; omega⟩
theorem make_depth {A : Around} {C : Addr} {us : List Value} {kw : List (Str × Value)} : (A.under (.builtin "type.__call__" ⟨.ref C :: us, kw⟩)).depth = A.depth + 1 := by
  first | rfl | simp [Around.under, Code.weight, Code.isCreation, Code.isGuard, Code.isCaller, Code.frames, Code.isFrame, guardIds]
theorem make_units {A : Around} {C : Addr} {us : List Value} {kw : List (Str × Value)} : (A.under (.builtin "type.__call__" ⟨.ref C :: us, kw⟩)).units = A.units + 1 := by
  first | rfl | simp [Around.under, Code.cUnits, Code.frames, Code.isFrame]
theorem Room.make {k : Nat} {A : Around} (r : Room (k + 1) A) (C : Addr) (us : List Value) (kw : List (Str × Value)) : Room k (A.under (.builtin "type.__call__" ⟨.ref C :: us, kw⟩)) :=
  ⟨r.hd, by have := r.dp; rw [make_depth]; omega, by have := r.un; rw [make_units]; omega⟩
theorem Room.depth {k : Nat} {A : Around} (r : Room k A) : A.depth < recursionLimit := by have := r.dp; omega
theorem Room.units {k : Nat} {A : Around} (r : Room k A) : A.units + 64 < cLine := by have := r.un; omega
def tNil : TA := fun _ H Q => Q [] H
def tCons (ta : TE) (tr : TA) : TA := fun σ H Q => ta σ H fun x H1 => tr σ H1 fun xs H2 => Q (x :: xs) H2
section
variable {X : Cx} {e : Expr} {es : List Expr} {te : TE} {t : TA} {pos : Pos}
theorem pa_nil : PA X [] tNil := fun _ _ _ _ H Q I h => Calls.spliced_nil ⟨[], H, I, .nil, h⟩
theorem pa_cons (ha : PE X e te) (hr : PA X es t) (hs : starEach (e :: es) X.env = (false, eval e X.env) :: starEach es X.env := by rfl) : PA X (e :: es) (tCons te t) := by
  intro pos pins s σ H Q I h
  rw [hs]
  show wpAny _ _ (spliced ((false, eval e X.env) :: backTo pos (starEach es X.env))) _ _ s
  refine Calls.spliced_cons (thn (ha pins s σ H _ I h) fun u s1 ⟨x, H1, I1, r1, q1⟩ => ?_)
  exact thn (hr pos pins s1 σ H1 _ I1 q1) fun us s2 ⟨xs, H2, I2, r2, q2⟩ => ⟨x :: xs, H2, I2, .cons r1 r2, q2⟩
def tTup (t : TA) : TE := fun σ H Q => t σ H fun xs H1 => xs.length ≤ sizeLine ∧ ∀ p, H1 p = none → Q (.ref p) (upd H1 p (.tup xs))
def tLst (t : TA) : TE := fun σ H Q => t σ H fun xs H1 => xs.length ≤ sizeLine ∧ ∀ p, H1 p = none → Q (.ref p) (upd H1 p (.lst xs))
theorem pe_tup {x1} (h : PA X es t) : PE X (.Tuple es x1 pos) (tTup t) := by
  intro pins s σ H Q I hq
  refine wpAny_Tuple_spliced (thn (h pos pins s σ H _ I hq) fun us s1 ⟨xs, H1, I1, r, z, q⟩ => ⟨by rw [← r.length]; exact z, ?_⟩)
  have hf : H1 s1.heap.objs.size = none := I1.hok.fresh (Nat.le_refl _)
  refine ⟨.ref s1.heap.objs.size, upd H1 s1.heap.objs.size (.tup xs), I1.laid (t' := s1.toks) (fun b u e => Heap.get?_push_of_some _ e) (Nat.le_refl _) ?_, rfl, q _ hf⟩
  exact ⟨z, us, r, ⟨_, Heap.get?_push_size _ rfl, rfl, _, rfl⟩⟩
theorem pe_lst (h : PA X es t) : PE X (.List es pos) (tLst t) := by
  intro pins s σ H Q I hq
  refine wpAny_List_spliced (thn (h pos pins s σ H _ I hq) fun us s1 ⟨xs, H1, I1, r, z, q⟩ => ⟨by rw [← r.length]; exact z, ?_⟩)
  have hf : H1 s1.heap.objs.size = none := I1.hok.fresh (Nat.le_refl _)
  refine ⟨.ref s1.heap.objs.size, upd H1 s1.heap.objs.size (.lst xs), I1.laid (t' := s1.toks) (fun b u e => Heap.get?_push_of_some _ e) (Nat.le_refl _) ?_, rfl, q _ hf⟩
  exact ⟨z, us, 0, r, Heap.get?_push_size _ rfl⟩
end
abbrev Sp := List V → Hp → VK → XK → Prop
abbrev CXT := List Env → Hp → Shared → XK → Value → Shared → Prop
structure Env0 (P : Program) (w : World) (K : PySem.W.Frag) (mg : Str → Option Value) (base : Heap) (A : Around) (outer : List Env) (s : Shared) (H : Hp) : Prop where
  frames : A.frames = some outer
  mod : Mod K mg base
  bs : ∀ b o, base.get? b = some o → s.heap.get? b = some o ∧ H b = none
  bsz : base.objs.size ≤ s.heap.objs.size
  funs : s.heap.FunFrames base outer
  frf : ∀ b ∈ frs outer, H b = none
  hok : HOk P w H s.heap
  bare : AllBare s.gens
def CE (outer : List Env) (P : Program) (w : World) (H : Hp) (s : Shared) (Q : VK) (u : Value) (s' : Shared) : Prop :=
  ∃ v H', s'.os = s.os ∧ AllBare s'.gens ∧ Un (frs outer) [] H H' s.heap s'.heap ∧ HOk P w H' s'.heap ∧ RelV v u ∧ Q v H'
def CR (CX : CXT) (outer : List Env) (P : Program) (w : World) (H : Hp) (s : Shared) (Q : VK) (E : XK) (r : Result) (s' : Shared) : Prop :=
  match r with
  | .ok (.ret u) => CE outer P w H s Q u s'
  | .ok _ => False
  | .error e => CX outer H s E e s'
structure FnOk (P : Program) (w : World) (K : PySem.W.Frag) (mg : Str → Option Value) (base : Heap) (CX : CXT) (k : Nat) (f : Addr) (fd : FuncData) (ps : List Str) (sp : Sp) : Prop where
  len : ∀ vs H Q E, sp vs H Q E → vs.length = ps.length
  run : ∀ (A : Around) (outer : List Env) (s : Shared) (H : Hp) (args : Args) (us : List Value) (vs : List V) (Q : VK) (E : XK), Room k A → Env0 P w K mg base A outer s H → BindsTo s fd args (ps.zip us) → Vals vs us → sp vs H Q E →
    codeAny (model P w) A (.call (.ref f) args) (CR CX outer P w H s Q E) s
theorem Env0.make {P : Program} {w : World} {K : PySem.W.Frag} {mg : Str → Option Value} {base : Heap} {A : Around} {outer : List Env} {s : Shared} {H : Hp} (e : Env0 P w K mg base A outer s H) (C : Addr) (us : List Value) (kw : List (Str × Value)) :
    Env0 P w K mg base (A.under (.builtin "type.__call__" ⟨.ref C :: us, kw⟩)) outer s H := ⟨by first | exact e.frames | (simpa [Around.under, Code.envs, Code.isFrame, pushEnvs] using e.frames), e.mod, e.bs, e.bsz, e.funs, e.frf, e.hok, e.bare⟩
section
variable {X : Cx} {pins : List (Addr × Obj)} {σ : St} {H : Hp} {s s' : Shared}
theorem Inv.env0 (I : Inv X pins σ H s) : Env0 X.prog X.w X.K X.mg X.base X.A X.stack s H :=
  ⟨I.ok.frames, I.ok.mod, I.bs, Nat.le_trans I.ok.bsz I.sz, I.stack, I.stkFree, I.hok, I.bare⟩
theorem Inv.after {Q : VK} {u : Value} (I : Inv X pins σ H s) (h : CE X.stack X.prog X.w H s Q u s') : EP X pins σ Q u s' := by
  obtain ⟨v, H', os, bare, un, hok, r, q⟩ := h
  obtain ⟨hh, g, d, t, os'⟩ := s'
  obtain rfl : os' = s.os := os
  exact ⟨v, H', I.call (h' := hh) (g' := g) (d' := d) (t' := t) (ch := []) un hok bare (fun b z => absurd z (by simp)), r, q⟩
end
def tCall (sp : Sp) (dvs : List V) (E : XK) (t : TA) : TE := fun σ H Q => t σ H fun vs H1 => sp (vs ++ dvs) H1 Q E
def tMeth (C : Addr) (m : Str) (sp : Sp) (dvs : List V) (E : XK) (ta : TE) (t : TA) : TE := fun σ H Q => ta σ H fun x H1 => ∃ a dx fs, x = .ref a ∧ H1 a = some (.ins C dx fs) ∧ fs.lookup m = none ∧
  t σ H1 fun vs H2 => sp (x :: (vs ++ dvs)) H2 Q E
def tMake (C : Addr) (sp : Sp) (dvs : List V) (E : XK) (t : TA) : TE := fun σ H Q => t σ H fun vs H1 => ∀ x dx, H1 x = none → H1 dx = none → dx ≠ x →
  sp (.ref x :: (vs ++ dvs)) (upd (upd H1 dx (.own x)) x (.ins C dx [])) (fun v H2 => v = .non ∧ Q (.ref x) H2) E
def Binds (K : PySem.W.Frag) (fd : FuncData) (ps : List Str) (ds : List Value) : Prop :=
  ∀ (s : Shared) (us : List Value), K.In s.heap → (us ++ ds).length = ps.length → BindsTo s fd ⟨us, []⟩ (ps.zip (us ++ ds))
theorem Binds.all {K : PySem.W.Frag} {fd : FuncData} {ps : List Str} (h : ∀ us : List Value, us.length = ps.length → bindArgs fd ⟨us, []⟩ = pure (ps.zip us)) : Binds K fd ps [] := fun s us _ hl => by
  rw [List.append_nil] at hl ⊢
  exact .of_eq (h us hl)
def Passes (CX : CXT) (X : Cx) (E : XK) : Prop := ∀ (pins : List (Addr × Obj)) (σ : St) (H : Hp) (s : Shared) (e : Value) (s' : Shared), Inv X pins σ H s → CX X.stack H s E e s' → X.xe e s'
section
variable {X : Cx} {CX : CXT} {k : Nat} {f C : Addr} {fd : FuncData} {ps : List Str} {sp : Sp} {dvs : List V} {ds : List Value} {E : XK} {x m : Str} {p pos apos : Pos} {e o : Expr} {es : List Expr} {ta : TE} {t : TA}
theorem run_fn {pins : List (Addr × Obj)} {σ : St} {H : Hp} {s : Shared} {Q : VK} {us : List Value} {vs : List V} (F : FnOk X.prog X.w X.K X.mg X.base CX k f fd ps sp) (hr : Room k X.A) (hb : Binds X.K fd ps ds) (hd : Vals dvs ds) (hx : Passes CX X E)
    (I : Inv X pins σ H s) (r : Vals vs us) (h : sp (vs ++ dvs) H Q E) : wpAny (model X.prog X.w) X.A (call (.ref f) us) (EP X pins σ Q) X.xe s := by
  have r2 : Vals (vs ++ dvs) (us ++ ds) := r.append hd
  have hl : (us ++ ds).length = ps.length := by rw [← r2.length]; exact F.len _ _ _ _ h
  refine wpAny_call (codeAny_mono (F.run X.A X.stack s H ⟨us, []⟩ (us ++ ds) (vs ++ dvs) Q E hr I.env0 (hb s us I.kIn hl) r2 h) fun r s' hq => ?_)
  cases r with
  | error e => exact hx pins σ H s e s' I hq
  | ok fl =>
    cases fl with
    | ret u => exact I.after hq
    | next => exact False.elim hq
    | brk => exact False.elim hq
    | cont => exact False.elim hq
theorem pe_call (F : FnOk X.prog X.w X.K X.mg X.base CX k f fd ps sp) (hr : Room k X.A) (hg : Gl X x) (hm : X.mg x = some (.ref f)) (hk : PySem.W.keepIn X.K (.ref f) = true) (hb : Binds X.K fd ps ds) (hd : Vals dvs ds) (hx : Passes CX X E)
    (ha : PA X (e :: es) t) (hdb : (x == ("__debug__" : Str)) = false := by decide) (he : starEach (e :: es) X.env = (false, eval e X.env) :: starEach es X.env := by rfl) (hpl : (backTo pos (starEach es X.env)).any (·.1) = false := by rfl) :
    PE X (.Call (.Name x p) (e :: es) [] pos) (tCall sp dvs E t) := by
  intro pins s σ H Q I h
  refine wpAny_Call_Name_kw (ld_glob I hg hm ?_ hdb)
  refine PySem.W.callWith_K (h₀ := X.base) I.ok.mod.kin hk (thn (ha pos pins s σ H _ I h) fun us s1 ⟨vs, H1, I1, r, q⟩ => ⟨I1.kIn, ?_⟩) he hpl
  exact run_fn F hr hb hd hx I1 r q
theorem pe_call0 (F : FnOk X.prog X.w X.K X.mg X.base CX k f fd ps sp) (hr : Room k X.A) (hg : Gl X x) (hm : X.mg x = some (.ref f)) (hk : PySem.W.keepIn X.K (.ref f) = true) (hb : Binds X.K fd ps ds) (hd : Vals dvs ds) (hx : Passes CX X E)
    (hdb : (x == ("__debug__" : Str)) = false := by decide) : PE X (.Call (.Name x p) [] [] pos) (tCall sp dvs E tNil) := by
  intro pins s σ H Q I h
  refine wpAny_Call_Name_kw (ld_glob I hg hm ?_ hdb)
  exact PySem.W.callWith_K0 I.kIn hk (run_fn (us := []) F hr hb hd hx I .nil h)
theorem pe_meth {pl : Sem Bool} (he : PE X o ta) (c : Cls X.K C) (hm : Meth X.K C m f) (F : FnOk X.prog X.w X.K X.mg X.base CX k f fd ps sp) (hr : Room k X.A) (hb : Binds X.K fd ps ds) (hd : Vals dvs ds) (hx : Passes CX X E) (ha : PA X (e :: es) t)
    (hst : starEach (e :: es) X.env = (false, eval e X.env) :: starEach es X.env := by rfl) (hpl : (backTo pos (starEach es X.env)).any (·.1) = false := by rfl)
    (ht : eval (.Call (.Attribute o m apos) (e :: es) [] pos) X.env = (do
      let ov ← eval o X.env
      standAt apos.atName
      let (f, first) ← holding [ov] (getMethod ov m pl)
      callWith pos f first (backTo pos (starEach (e :: es) X.env)) (backToKw pos (keywordEach [] X.env))) := by rfl) :
    PE X (.Call (.Attribute o m apos) (e :: es) [] pos) (tMeth C m sp dvs E ta t) := by
  intro pins s σ H Q I h
  refine PySem.W.methodCall_KW (pl := pl) (thn (he pins s σ H _ I h) fun u s1 ⟨x, H1, I1, rx, a, dx, fs, ex, ea, l, q⟩ => ?_) ht
  subst ex
  obtain rfl : u = Value.ref a := rx
  refine getmeth_ok I1 ea c hm l ?_
  refine PySem.W.callWith_K (first := [.ref a]) (h₀ := X.base) I.ok.mod.kin hm.kp (thn (ha pos pins s1 σ H1 _ I1 q) fun us s2 ⟨vs, H2, I2, r, q2⟩ => ⟨I2.kIn, ?_⟩) hst hpl
  exact run_fn (us := .ref a :: us) (vs := .ref a :: vs) F hr hb hd hx I2 (.cons rfl r) q2
theorem pe_meth0 {pl : Sem Bool} (he : PE X o ta) (c : Cls X.K C) (hm : Meth X.K C m f) (F : FnOk X.prog X.w X.K X.mg X.base CX k f fd ps sp) (hr : Room k X.A) (hb : Binds X.K fd ps ds) (hd : Vals dvs ds) (hx : Passes CX X E)
    (ht : eval (.Call (.Attribute o m apos) [] [] pos) X.env = (do
      let ov ← eval o X.env
      standAt apos.atName
      let (f, first) ← holding [ov] (getMethod ov m pl)
      callWith pos f first (backTo pos (starEach [] X.env)) (backToKw pos (keywordEach [] X.env))) := by rfl) :
    PE X (.Call (.Attribute o m apos) [] [] pos) (tMeth C m sp dvs E ta tNil) := by
  intro pins s σ H Q I h
  refine PySem.W.methodCall_KW (pl := pl) (thn (he pins s σ H _ I h) fun u s1 ⟨x, H1, I1, rx, a, dx, fs, ex, ea, l, q⟩ => ?_) ht
  subst ex
  obtain rfl : u = Value.ref a := rx
  refine getmeth_ok I1 ea c hm l ?_
  exact PySem.W.callWith_K0 (first := [.ref a]) I1.kIn hm.kp (run_fn (us := [.ref a]) (vs := [.ref a]) F hr hb hd hx I1 (.cons rfl .nil) q)
structure Mk (K : PySem.W.Frag) (C f : Addr) : Prop where
  makes : PySem.W.makesIn K C = true
  init : PySem.W.findIn K (.ref C) "__init__" = some (some (.ref f))
  fn : PySem.W.isFn K (.ref f) = true
  kp : PySem.W.keepIn K (.ref C) = true
theorem run_make {pins : List (Addr × Obj)} {σ : St} {H : Hp} {s : Shared} {Q : VK} {us : List Value} {vs : List V} (M : Mk X.K C f) (F : FnOk X.prog X.w X.K X.mg X.base CX k f fd ps sp) (hr : Room (k + 1) X.A) (hb : Binds X.K fd ps ds) (hd : Vals dvs ds)
    (hx : Passes CX X E) (I : Inv X pins σ H s) (r : Vals vs us)
    (h : ∀ x dx, H x = none → H dx = none → dx ≠ x → sp (.ref x :: (vs ++ dvs)) (upd (upd H dx (.own x)) x (.ins C dx [])) (fun v H2 => v = .non ∧ Q (.ref x) H2) E) :
    wpAny (model X.prog X.w) X.A (call (.ref C) us) (EP X pins σ Q) X.xe s := by
  have hq := h (s.heap.objs.size + 1) s.heap.objs.size (I.hok.fresh (Nat.le_succ _)) (I.hok.fresh (Nat.le_refl _)) (Nat.ne_of_lt (Nat.lt_succ_self _))
  have I2 := Inv.made (C := C) I
  have r2 : Vals (V.ref (s.heap.objs.size + 1) :: (vs ++ dvs)) (Value.ref (s.heap.objs.size + 1) :: (us ++ ds)) := .cons rfl (r.append hd)
  have hl : (Value.ref (s.heap.objs.size + 1) :: us ++ ds).length = ps.length := by
    have e := r2.length
    rw [F.len _ _ _ _ hq] at e
    exact e.symm
  refine wpAny_call (make_map (f := f) I.kIn M.makes M.init (beq_iff_eq.mp M.fn) (codeAny_mono (F.run _ X.stack _ _ ⟨Value.ref (s.heap.objs.size + 1) :: us, []⟩ (Value.ref (s.heap.objs.size + 1) :: (us ++ ds)) _ _ E (hr.make C us [])
    (I2.env0.make C us []) (hb _ (Value.ref (s.heap.objs.size + 1) :: us) I2.kIn hl) r2 hq) fun r s' hq' => ?_))
  cases r with
  | error e => exact hx pins σ _ _ e s' I2 hq'
  | ok fl =>
    cases fl with
    | ret u =>
      obtain ⟨v, H', I3, rv, ev, q3⟩ := I2.after hq'
      subst ev
      exact ⟨rv, ⟨V.ref (s.heap.objs.size + 1), H', I3, rfl, q3⟩⟩
    | next => exact False.elim hq'
    | brk => exact False.elim hq'
    | cont => exact False.elim hq'
theorem pe_make (M : Mk X.K C f) (F : FnOk X.prog X.w X.K X.mg X.base CX k f fd ps sp) (hr : Room (k + 1) X.A) (hg : Gl X x) (hm : X.mg x = some (.ref C)) (hb : Binds X.K fd ps ds) (hd : Vals dvs ds) (hx : Passes CX X E)
    (ha : PA X (e :: es) t) (hdb : (x == ("__debug__" : Str)) = false := by decide) (he : starEach (e :: es) X.env = (false, eval e X.env) :: starEach es X.env := by rfl) (hpl : (backTo pos (starEach es X.env)).any (·.1) = false := by rfl) :
    PE X (.Call (.Name x p) (e :: es) [] pos) (tMake C sp dvs E t) := by
  intro pins s σ H Q I h
  refine wpAny_Call_Name_kw (ld_glob I hg hm ?_ hdb)
  refine PySem.W.callWith_K (h₀ := X.base) I.ok.mod.kin M.kp (thn (ha pos pins s σ H _ I h) fun us s1 ⟨vs, H1, I1, r, q⟩ => ⟨I1.kIn, ?_⟩) he hpl
  exact run_make M F hr hb hd hx I1 r q
theorem pe_make0 (M : Mk X.K C f) (F : FnOk X.prog X.w X.K X.mg X.base CX k f fd ps sp) (hr : Room (k + 1) X.A) (hg : Gl X x) (hm : X.mg x = some (.ref C)) (hb : Binds X.K fd ps ds) (hd : Vals dvs ds) (hx : Passes CX X E)
    (hdb : (x == ("__debug__" : Str)) = false := by decide) : PE X (.Call (.Name x p) [] [] pos) (tMake C sp dvs E tNil) := by
  intro pins s σ H Q I h
  refine wpAny_Call_Name_kw (ld_glob I hg hm ?_ hdb)
  exact PySem.W.callWith_K0 I.kIn M.kp (run_make (us := []) M F hr hb hd hx I .nil h)
end
def PK (X : Cx) (kws : List Keyword) (t : TA) : Prop :=
  ∀ (pos : Pos) (pins : List (Addr × Obj)) (s : Shared) (σ : St) (H : Hp) (Q : List V → Hp → Prop), Inv X pins σ H s → t σ H Q → wpAny (model X.prog X.w) X.A (evalAll ((backToKw pos (keywordEach kws X.env)).map (·.2))) (AP X pins σ Q) X.xe s
section
variable {X : Cx} {CX : CXT} {k : Nat} {f C : Addr} {fd : FuncData} {ps ks : List Str} {sp : Sp} {E : XK} {x m : Str} {p pos apos kpos : Pos} {e o : Expr} {es : List Expr} {kws : List Keyword} {te ta : TE} {t tk : TA} {nm : Option Str}
theorem pk_nil : PK X [] tNil := fun _ _ _ _ H Q I h => wpAny_evalAll_nil ⟨[], H, I, .nil, h⟩
theorem pk_cons (ha : PE X e te) (hr : PK X kws t) : PK X (⟨nm, e, kpos⟩ :: kws) (tCons te t) := by
  intro pos pins s σ H Q I h
  show wpAny _ _ (evalAll ((do let v ← eval e X.env; standAt pos; pure v) :: (backToKw pos (keywordEach kws X.env)).map (·.2))) _ _ s
  refine wpAny_evalAll_cons (wpAny_bind (thn (ha pins s σ H _ I h) fun u s1 ⟨x, H1, I1, r1, q1⟩ => wpAny_bind (wpAny_standAt (wpAny_pure ?_))))
  exact thn (hr pos pins s1 σ H1 _ I1 q1) fun us s2 ⟨xs, H2, I2, r2, q2⟩ => ⟨x :: xs, H2, I2, .cons r1 r2, q2⟩
structure KBinds (K : PySem.W.Frag) (fd : FuncData) (ps ks : List Str) (g : List Value → List Value → List Value) (gV : List V → List V → List V) : Prop where
  to : ∀ (s : Shared) (us ws : List Value), K.In s.heap → (g us ws).length = ps.length → BindsTo s fd ⟨us, ks.zip ws⟩ (ps.zip (g us ws))
  rel : ∀ {vs : List V} {us : List Value} {zs : List V} {ws : List Value}, Vals vs us → Vals zs ws → Vals (gV vs zs) (g us ws)
variable {g : List Value → List Value → List Value} {gV : List V → List V → List V}
end
structure FnScope (N P : List Str) (sc : Scope) : Prop where
  kind : sc.kind = .function
  co : sc.isCoroutine = false
  gen : sc.isGenerator = false
  nd : N.Nodup
  pre : N.take P.length = P
  par : ∀ x ∈ P, sc.names.lookup x = some .local ∨ sc.names.lookup x = some .cell
  nofree : ∀ y ∈ sc.names, y.2 ≠ .free
theorem bindL_out {kindOf : Str → Option NameKind} {x : Str} : ∀ {binds : List (Str × Value)} {m : Str → Option Value}, (∀ v, (x, v) ∉ binds) → bindL kindOf binds m x = m x
  | [], _, _ => rfl
  | (n, v) :: r, m, h => by
    unfold bindL
    rw [bindL_out fun w hw => h w (List.mem_cons_of_mem _ hw)]
    split
    · have : x ≠ n := by rintro rfl; exact h v List.mem_cons_self
      simp [this]
    · rfl
theorem bindC_out {kindOf : Str → Option NameKind} {x : Str} : ∀ {binds : List (Str × Value)} {m : Str → Option Value}, (∀ v, (x, v) ∉ binds) → bindC kindOf binds m x = m x
  | [], _, _ => rfl
  | (n, v) :: r, m, h => by
    unfold bindC
    rw [bindC_out fun w hw => h w (List.mem_cons_of_mem _ hw)]
    split
    · rfl
    · have : x ≠ n := by rintro rfl; exact h v List.mem_cons_self
      simp [this]
theorem bindL_get {kindOf : Str → Option NameKind} {x : Str} {v : Value} : ∀ {P : List Str} {vs : List Value} {i : Nat} {m : Str → Option Value}, P.Nodup → P[i]? = some x → vs[i]? = some v → kindOf x = some .local →
    bindL kindOf (P.zip vs) m x = some v
  | [], _, _, _, _, h, _, _ => by simp at h
  | _ :: _, [], _, _, _, _, h, _ => by simp at h
  | p :: P, w :: vs, 0, m, nd, h1, h2, hk => by
    simp at h1 h2; subst h1; subst h2
    show bindL kindOf ((p, w) :: P.zip vs) m p = _
    unfold bindL
    rw [bindL_out fun v hv => (List.nodup_cons.mp nd).1 (List.of_mem_zip hv).1, if_pos hk]
    simp
  | p :: P, w :: vs, i + 1, m, nd, h1, h2, hk => by
    show bindL kindOf ((p, w) :: P.zip vs) m x = _
    unfold bindL
    exact bindL_get (i := i) (List.nodup_cons.mp nd).2 (by simpa using h1) (by simpa using h2) hk
theorem bindC_get {kindOf : Str → Option NameKind} {x : Str} {v : Value} : ∀ {P : List Str} {vs : List Value} {i : Nat} {m : Str → Option Value}, P.Nodup → P[i]? = some x → vs[i]? = some v → kindOf x ≠ some .local →
    bindC kindOf (P.zip vs) m x = some v
  | [], _, _, _, _, h, _, _ => by simp at h
  | _ :: _, [], _, _, _, _, h, _ => by simp at h
  | p :: P, w :: vs, 0, m, nd, h1, h2, hk => by
    simp at h1 h2; subst h1; subst h2
    show bindC kindOf ((p, w) :: P.zip vs) m p = _
    unfold bindC
    rw [bindC_out fun v hv => (List.nodup_cons.mp nd).1 (List.of_mem_zip hv).1, if_neg hk]
    simp
  | p :: P, w :: vs, i + 1, m, nd, h1, h2, hk => by
    show bindC kindOf ((p, w) :: P.zip vs) m x = _
    unfold bindC
    exact bindC_get (i := i) (List.nodup_cons.mp nd).2 (by simpa using h1) (by simpa using h2) hk
def start (N : List Str) (vs : List V) : St := vs.map some ++ List.replicate (N.length - vs.length) none
def cxOf (CX : CXT) (P : Program) (w : World) (K : PySem.W.Frag) (mg : Str → Option Value) (base : Heap) (N : List Str) (qual : Str) (scope : Scope) (f : Addr) (cd : Value) (A : Around) (outer : List Env) (s : Shared) (H : Hp) (E : XK) : Cx where
  prog := P
  w := w
  K := K
  mg := mg
  base := base
  A := A.deeper (envOfC qual scope s.heap.objs.size f cd)
  N := N
  s₀ := s
  H₀ := H
  env := envOfC qual scope s.heap.objs.size f cd
  outer := outer
  stack := envOfC qual scope s.heap.objs.size f cd :: outer
  ex := []
  calm := true
  fn := fun _ => true
  pn := []
  xe := fun e s' => wpAny (model P w) (A.deeper (envOfC qual scope s.heap.objs.size f cd)) (leaving (envOfC qual scope s.heap.objs.size f cd) e) (fun _ s'' => CX outer H s E e s'') (fun e' s'' => CX outer H s E e' s'') s'
theorem cell_has {sc : Scope} {n : Nat} {x : Str} (h : sc.names.lookup x = some .cell) : ∃ c, (cellsFrom n sc.names []).lookup x = some c := by
  have q := PySem.W.cellsFrom_some sc.names n [] (.inl h)
  exact Option.isSome_iff_exists.mp q
theorem inv_start {CX : CXT} {P : Program} {w : World} {K : PySem.W.Frag} {mg : Str → Option Value} {base : Heap} {N ps : List Str} {qual : Str} {scope : Scope} {f : Addr} {cd : Value} {A : Around} {outer : List Env} {s s1 : Shared} {H : Hp} {E : XK} {us : List Value} {vs : List V}
    (S : FnScope N ps scope) (hd : A.handled = none) (e0 : Env0 P w K mg base A outer s H) (hl : vs.length = ps.length) (r : Vals vs us)
    (x : InCallC s s.heap.objs.size (bindL (envOfC qual scope s.heap.objs.size f cd).kindOf (ps.zip us) fun _ => none) (cellsFrom (s.heap.objs.size + 1) scope.names []) (bindC (envOfC qual scope s.heap.objs.size f cd).kindOf (ps.zip us) fun _ => none) s1) :
    Inv (cxOf CX P w K mg base N qual scope f cd A outer s H E) [] (start N vs) H s1 := by
  have hpl : ps.length ≤ N.length := by have := congrArg List.length S.pre; rw [List.length_take] at this; omega
  obtain ⟨h1, tk, rfl, hk⟩ := x.done
  have noA : ∀ b : Addr, b ∉ (cxOf CX P w K mg base N qual scope f cd A outer s H E).ex := fun b z => absurd (show b ∈ ([] : List Addr) from z) (by simp)
  refine ⟨⟨e0.mod, S.kind, rfl, rfl, Nat.le_refl _, fun y z c h1 h2 => ?_, fun y hy => ?_, fun y c _ h => ?_, fun _ => hd, Around.frames_deeper e0.frames, .inr ⟨rfl, rfl⟩, fun b z => absurd z (noA b), e0.bs, e0.bsz, fun b _ _ => noA b, fun b z => absurd z (noA b), e0.funs, e0.frf⟩,
    rfl, e0.bare, Un.kept hk, ⟨_, x.toInCall.ns, fun i y v h1 h2 h3 => ?_⟩, fun y c h => ⟨_, x.cell y c h⟩, e0.hok.fresh (Nat.le_refl _), fun y c h => ?_, fun p hp => absurd (show p ∈ ([] : List (Addr × Obj)) from hp) (by simp), e0.hok.kept hk, ?_⟩
  · exact name_of_addr x.apart (PySem.mem_of_lookup h1) (PySem.mem_of_lookup h2)
  · have hy : scope.names.lookup y = some .cell ∨ scope.names.lookup y = some .free := hy
    rcases hy with hy | hy
    · exact cell_has hy
    · exact absurd rfl (S.nofree _ (PySem.mem_of_lookup hy))
  · exact Nat.le_of_lt (x.above y c (PySem.mem_of_lookup h))
  · have hi : i < vs.length := by
      unfold start at h2
      by_cases hi : i < vs.length
      · exact hi
      · rw [List.getElem?_append_right (by simpa using hi)] at h2
        rw [List.getElem?_replicate] at h2
        split at h2 <;> cases h2
    have ha : vs[i]? = some v := by
      unfold start at h2
      rw [List.getElem?_append_left (by simpa using hi), List.getElem?_map] at h2
      cases e : vs[i]? with
      | none => rw [e] at h2; cases h2
      | some a => rw [e] at h2; cases h2; rfl
    obtain ⟨u, hu, rv⟩ := r.get ha
    have hp : ps[i]? = some y := by
      rw [← S.pre, List.getElem?_take_of_lt (by omega)]; exact h1
    have ndP : ps.Nodup := by rw [← S.pre]; exact S.nd.sublist (List.take_sublist _ _)
    refine ⟨u, rv, ?_⟩
    rcases S.par y (List.mem_of_getElem? hp) with k | k
    · exact .inl ⟨k, bindL_get ndP hp hu k⟩
    · obtain ⟨c, e⟩ := cell_has (n := s.heap.objs.size + 1) k
      refine .inr ⟨.inl k, c, e, ?_⟩
      have q := x.cell y c e
      rw [bindC_get ndP hp hu (by show scope.names.lookup y ≠ _; rw [k]; decide)] at q
      exact q
  · exact e0.hok.fresh (Nat.le_of_lt (x.above y c (PySem.mem_of_lookup h)))
  · unfold start
    show _ = N.length
    rw [List.length_append, List.length_map, List.length_replicate]
    omega
theorem fn_of {CX : CXT} {P : Program} {w : World} {K : PySem.W.Frag} {mg : Str → Option Value} {base : Heap} {k : Nat} {f : Addr} {name qual : Str} {params : Arguments} {body : List Stmt} {scope : Scope} {dV kV doc pm cdv ct oc : Value} {an od : Option Addr}
    {osl : Array (Option Value)} {N ps : List Str} {sp : Sp} (lk : K.lookup f = some ⟨oc, od, .func (PySem.W.fnOf name qual params body scope dV kV doc pm an cdv ct), osl⟩) (hcd : PySem.W.codeIn K cdv qual = true) (S : FnScope N ps scope)
    (len : ∀ vs H Q E, sp vs H Q E → vs.length = ps.length)
    (hbody : ∀ (A : Around) (outer : List Env) (s : Shared) (H : Hp) (vs : List V) (Q : VK) (E : XK), Room k (A.deeper (envOfC qual scope s.heap.objs.size f cdv)) → sp vs H Q E →
      ∃ t, PSs (cxOf CX P w K mg base N qual scope f cdv A outer s H E) body t ∧ t { nx := fun _ H' => Q .non H', rt := Q } (start N vs) H) :
    FnOk P w K mg base CX (k + 1) f (PySem.W.fnOf name qual params body scope dV kV doc pm an cdv ct) ps sp := by
  refine ⟨len, fun A outer s H args us vs Q E hr e0 hb r hsp => ?_⟩
  have hl := len _ _ _ _ hsp
  have KX : K.In s.heap := e0.mod.kin.keeps fun b o e => (e0.bs b o e).1
  have lim : s.heap.NoLimit := e0.mod.nolimit.keeps fun b o e => (e0.bs b o e).1
  have hkind : ∀ y ∈ ps.zip us, scope.names.lookup y.1 = some .local ∨ (scope.names.lookup y.1 = some .cell ∧ ((cellsFrom (s.heap.objs.size + 1) scope.names []).lookup y.1).isSome = true) := fun ⟨n, v⟩ hy => by
    rcases S.par n (List.of_mem_zip hy).1 with q | q
    · exact .inl q
    · exact .inr ⟨q, PySem.W.cellsFrom_some _ _ _ (.inl q)⟩
  refine codeAny_call_function hr.depth (KX _ _ lk) rfl S.co S.gen rfl (PySem.W.codeRec_of KX hcd) (hb _ _ _ _ ?_)
  refine wpAny_newFunctionEnv_cells S.kind hkind fun env he s1 x => ?_
  subst he
  refine ⟨lim.keeps x.toInCall.keep, codeAny_func ?_⟩
  obtain ⟨t, ht, hq⟩ := hbody A outer s H vs Q E (hr.deeper _) hsp
  have I : Inv (cxOf CX P w K mg base N qual scope f cdv A outer s H E) [] (start N vs) H s1 := inv_start S hr.hd e0 hl r x
  refine wpAny_mono (ht [] s1 (start N vs) H _ I hq) (fun fl s' hs => ?_) fun e s' hs => hs
  have fin : ∀ {σ' : St} {H' : Hp} {v : V} {u : Value}, Inv (cxOf CX P w K mg base N qual scope f cdv A outer s H E) [] σ' H' s' → RelV v u → Q v H' → CE outer P w H s Q u s' :=
    fun {σ' H' v u} J rv q => ⟨v, H', J.os, J.bare, J.base, J.hok, rv, q⟩
  cases fl with
  | ret u =>
    obtain ⟨v, σ', H', J, rv, q⟩ := hs
    exact fin J rv q
  | next =>
    obtain ⟨σ', H', J, q⟩ := hs
    exact fin (v := V.non) (u := Value.none) J rfl q
  | brk =>
    obtain ⟨_, _, _, q⟩ := hs
    exact False.elim q
  | cont =>
    obtain ⟨_, _, _, q⟩ := hs
    exact False.elim q
end L2
namespace L2
open PySem PySem.Spec PyProof.Rows
section
variable {X : Cx} {x : Str} {p pos : Pos} {e : Expr} {es : List Expr} {t : TA} {id T : String} {r : List V → Hp → VK → Prop}
def tCB (r : List V → Hp → VK → Prop) (t : TA) : TE := fun σ H Q => t σ H fun vs H1 => r vs H1 Q
theorem pe_callB (hc : CallR X (.builtin id) r) (hg : Gl X x) (hm : X.mg x = none) (hv : bootBuiltins x = some (.builtin id)) (ha : PA X (e :: es) t) (hn : x ≠ "__name__" := by decide) (hdb : (x == ("__debug__" : Str)) = false := by decide)
    (he : starEach (e :: es) X.env = (false, eval e X.env) :: starEach es X.env := by rfl) (hpl : (backTo pos (starEach es X.env)).any (·.1) = false := by rfl) : PE X (.Call (.Name x p) (e :: es) [] pos) (tCB r t) := by
  intro pins s σ H Q I h
  refine wpAny_Call_Name_kw (ld_blt I hg hm hv ?_ hn hdb)
  exact PyProof.Rows.callWith_builtin1 (thn (ha pos pins s σ H _ I h) fun us s1 ⟨vs, H1, I1, r1, q1⟩ => hc pins s1 σ H1 vs us Q I1 r1 q1) he hpl
theorem pe_callTy (hc : CallR X (.type T) r) (hg : Gl X x) (hm : X.mg x = none) (hv : bootBuiltins x = some (.type T)) (ha : PA X (e :: es) t) (hn : x ≠ "__name__" := by decide) (hdb : (x == ("__debug__" : Str)) = false := by decide)
    (he : starEach (e :: es) X.env = (false, eval e X.env) :: starEach es X.env := by rfl) (hpl : (backTo pos (starEach es X.env)).any (·.1) = false := by rfl) : PE X (.Call (.Name x p) (e :: es) [] pos) (tCB r t) := by
  intro pins s σ H Q I h
  refine wpAny_Call_Name_kw (ld_blt I hg hm hv ?_ hn hdb)
  exact PyProof.Rows.callWith_type1 (thn (ha pos pins s σ H _ I h) fun us s1 ⟨vs, H1, I1, r1, q1⟩ => hc pins s1 σ H1 vs us Q I1 r1 q1) he hpl
end
end L2
namespace HT
open PySem PyProof.Rows
section
open PySem.SeqAt
open PySem.AutoSeq1 (wpAny_loadPart')
open PySem.MeetsSeq PySem.MeetsSeq2 PySem.MeetsSeq3
end
section
variable {prog : Program} {w : World} {A : Around} {E : Value → Shared → Prop} {s : Shared}
def sIx (n d : Nat) : Option Int → Nat
  | none => d
  | some v => if v < 0 then (v + (n : Int)).toNat else min v.toNat n
theorem sIx_none (n d : Nat) : sIx n d none = d := rfl
theorem sIx_nat (n d k : Nat) : sIx n d (some (k : Int)) = min k n := by
  show (if (k : Int) < 0 then ((k : Int) + (n : Int)).toNat else min (k : Int).toNat n) = min k n
  rw [if_neg (by omega), Int.toNat_natCast]
end
end HT
namespace L2
open PySem PySem.Spec PyProof.Rows
abbrev TO := St → Hp → (Option Int → Hp → Prop) → Prop
def PO (X : Cx) (e : Option Expr) (t : TO) : Prop :=
  ∀ (pins : List (Addr × Obj)) (s : Shared) (σ : St) (H : Hp) (Q : Option Int → Hp → Prop), Inv X pins σ H s → t σ H Q →
    wpAny (model X.prog X.w) X.A (evalPart e X.env) (fun u s' => ∃ o H', Inv X pins σ H' s' ∧ IsPart u o ∧ Q o H') X.xe s
def tNoPart : TO := fun _ H Q => Q none H
def tPart (t : TE) : TO := fun σ H Q => t σ H fun x H1 => ∃ i, x = .int i ∧ Q (some i) H1
section
variable {X : Cx} {e : Expr} {te : TE} {lo hi : Option Expr} {tl th : TO} {pos p2 : Pos}
theorem po_none : PO X none tNoPart := by
  intro pins s σ H Q I h
  rw [evalPart_none]
  exact wpAny_pure ⟨none, H, I, .none, h⟩
theorem po_some (h : PE X e te) : PO X (some e) (tPart te) := by
  intro pins s σ H Q I hw
  rw [evalPart_some]
  refine thn (h pins s σ H _ I hw) fun u s1 ⟨x, H1, I1, r1, q1⟩ => ?_
  obtain ⟨i, rfl, q⟩ := q1
  obtain ⟨t, rfl⟩ := r1
  exact ⟨some i, H1, I1, .int i t, q⟩
def SlR (X : Cx) (r : V → Option Int → Option Int → Hp → VK → Prop) : Prop :=
  ∀ (pins : List (Addr × Obj)) (s : Shared) (σ : St) (H : Hp) (x : V) (v vl vu : Value) (lo hi : Option Int) (sl : Addr) (Q : VK), Inv X pins σ H s → RelV x v → s.heap.IsSliceOf sl vl vu .none → IsPart vl lo → IsPart vu hi → r x lo hi H Q →
    ∃ T id, typeLookup (.type T) "__getitem__" = pure (some (.builtin id)) ∧ s.TypeIs v T ∧ wpAny (model X.prog X.w) X.A (getItem v (.ref sl)) (EP X pins σ Q) X.xe s
def tSl (r : V → Option Int → Option Int → Hp → VK → Prop) (te : TE) (tl th : TO) : TE := fun σ H Q => te σ H fun x H1 => tl σ H1 fun l H2 => th σ H2 fun u H3 => r x l u H3 Q
theorem pe_slice {r : V → Option Int → Option Int → Hp → VK → Prop} (hr : SlR X r) (he : PE X e te) (hl : PO X lo tl) (hu : PO X hi th) : PE X (.Subscript e (.Slice lo hi none p2) pos) (tSl r te tl th) := by
  intro pins s σ H Q I h
  refine Subscript_ (thn (he pins s σ H _ I h) fun v s1 ⟨x, H1, I1, r1, q1⟩ => ?_)
  refine wpAny_Slice (thn (hl pins s1 σ H1 _ I1 q1) fun vl s2 ⟨l, H2, I2, pl, q2⟩ => thn (hu pins s2 σ H2 _ I2 q2) fun vu s3 ⟨u, H3, I3, pu, q3⟩ => ?_)
  rw [evalPart_none]
  refine wpAny_pure ?_
  have I4 : Inv X pins σ H3 { s3 with heap := s3.heap.push { cls := .type "slice", data := .fields #[vl, vu, .none] } } := I3.kept (t' := s3.toks) fun b ob q => Heap.get?_push_of_some _ q
  obtain ⟨T, id, hT, ht, hg⟩ := hr pins { s3 with heap := s3.heap.push { cls := .type "slice", data := .fields #[vl, vu, .none] } } σ H3 x v vl vu l u s3.heap.objs.size Q I4 r1 (Heap.IsSliceOf.new ..) pl pu q3
  show wpAny (model X.prog X.w) X.A (subscriptTail e (.Slice lo hi none p2) v (.ref s3.heap.objs.size)) (EP X pins σ Q) X.xe { s3 with heap := s3.heap.push { cls := .type "slice", data := .fields #[vl, vu, .none] } }
  exact tail_any (ops := [.ref s3.heap.objs.size, v]) ht hT hg (by with_unfolding_all rfl)
def cutV (xs : List V) (lo hi : Option Int) : List V := (xs.drop (HT.sIx xs.length 0 lo)).take (HT.sIx xs.length xs.length hi - HT.sIx xs.length 0 lo)
theorem cutV_length (xs : List V) (lo hi : Option Int) : (cutV xs lo hi).length ≤ xs.length := by
  unfold cutV
  rw [List.length_take, List.length_drop]
  omega
end
end L2
namespace L2
open PySem PySem.Spec PyProof.Rows
def ixN (n : Nat) (i : Int) : Option Nat := if 0 ≤ i then (if i < n then some i.toNat else none) else if -(n : Int) ≤ i then some (i + n).toNat else none
def atI {α : Type} (xs : List α) (i : Int) : Option α := (ixN xs.length i).bind fun j => xs[j]?
theorem ixN_seq {n : Nat} {i : Int} {j : Nat} (h : ixN n i = some j) : seqIndex? i n = some j ∧ j < n ∧ -(n : Int) ≤ i ∧ i < n := by
  unfold ixN at h
  by_cases h0 : 0 ≤ i
  · rw [if_pos h0] at h
    by_cases h1 : i < n
    · rw [if_pos h1] at h
      have e : i.toNat = j := Option.some.inj h
      exact ⟨by rw [seqIndex_of h0 h1, e], by omega, by omega, h1⟩
    · rw [if_neg h1] at h; cases h
  · rw [if_neg h0] at h
    by_cases h1 : -(n : Int) ≤ i
    · rw [if_pos h1] at h
      have e : (i + n).toNat = j := Option.some.inj h
      exact ⟨by rw [seqIndex_neg (by omega) h1, e], by omega, h1, by omega⟩
    · rw [if_neg h1] at h; cases h
theorem atI_get {α : Type} {xs : List α} {i : Int} {v : α} (h : atI xs i = some v) : ∃ j, seqIndex? i xs.length = some j ∧ xs[j]? = some v ∧ j < xs.length ∧ -(xs.length : Int) ≤ i ∧ i < xs.length := by
  unfold atI at h
  cases e : ixN xs.length i with
  | none => rw [e] at h; cases h
  | some j =>
    rw [e] at h
    obtain ⟨h1, h2, h3, h4⟩ := ixN_seq e
    exact ⟨j, h1, h, h2, h3, h4⟩
theorem atI_nat {α : Type} {xs : List α} {j : Nat} {v : α} (h : xs[j]? = some v) : atI xs (j : Int) = some v := by
  have hj : j < xs.length := (List.getElem?_eq_some_iff.mp h).1
  have e : ixN xs.length (j : Int) = some j := by
    unfold ixN
    rw [if_pos (by omega), if_pos (by omega)]; simp
  unfold atI; rw [e]; exact h
def PlainIx (b : Expr) : Prop := ∀ o i, subscripted b false o i = operate [o, i] (getItem o i)
def IxR (X : Cx) (r : R2) : Prop :=
  ∀ (value slice : Expr) (pins : List (Addr × Obj)) (s : Shared) (σ : St) (H : Hp) (x y : V) (v u : Value) (Q : VK), Inv X pins σ H s → RelV x v → RelV y u → r x y H Q →
    subscripted slice false v u = operate [v, u] (getItem v u) → wpAny (model X.prog X.w) X.A (subscriptTail value slice v u) (EP X pins σ Q) X.xe s
def MtR (X : Cx) (id : String) (r : V → List V → Hp → VK → Prop) : Prop :=
  ∀ (pins : List (Addr × Obj)) (s : Shared) (σ : St) (H : Hp) (x : V) (xs : List V) (v : Value) (us : List Value) (Q : VK), Inv X pins σ H s → RelV x v → Vals xs us → r x xs H Q →
    wpAny (model X.prog X.w) X.A (call (.builtin id) (v :: us)) (EP X pins σ Q) X.xe s
section
variable {X : Cx} {a b : Expr} {ta tb : TE} {pos : Pos}
theorem pe_ix {r : R2} (hr : IxR X r) (ha : PE X a ta) (hb : PE X b tb) (hs : PlainIx b) : PE X (.Subscript a b pos) (tOp r ta tb) := by
  intro pins s σ H Q I h
  exact Subscript_ (binT ha hb I h fun v u s2 x y H2 I2 rx ry q => hr a b pins s2 σ H2 x y v u Q I2 rx ry q (hs _ _))
def rIxL (K : PySem.W.Frag) : R2 := fun x y H Q => ∃ p xs i v, x = .ref p ∧ y = .int i ∧ SqL K H p xs ∧ atI xs i = some v ∧ Q v H
def rIxT (K : PySem.W.Frag) : R2 := fun x y H Q => ∃ p xs i v, x = .ref p ∧ y = .int i ∧ SqT K H p xs ∧ atI xs i = some v ∧ Q v H
theorem ix_list : IxR X (rIxL X.K) := by
  intro value slice pins s σ H x y v u Q I rx ry h hs
  obtain ⟨p, xs, i, z, rfl, rfl, hq, he, q⟩ := h
  cases rx
  obtain ⟨t, rfl⟩ := ry
  obtain ⟨its, r, pl, hz⟩ := I.list hq
  obtain ⟨j, h1, h2, h3, h4, h5⟩ := atI_get he
  obtain ⟨w, ew, rw'⟩ := r.get h2
  have hl := r.length
  have hn := line63
  have fin : EP X pins σ Q w s := ⟨z, H, I, rw', q⟩
  by_cases h0 : 0 ≤ i
  · have hj : i.toNat = j := by
      rw [seqIndex_of h0 h5] at h1
      exact Option.some.inj h1
    exact item_listR pl.isList h0 (by omega) (by rw [hj]; simpa using ew) fin hs
  · have hj : (i + (its.toArray.size : Int)).toNat = j := by
      rw [seqIndex_neg (by omega) h4] at h1
      rw [List.size_toArray, ← hl]
      exact Option.some.inj h1
    exact subscriptTail_builtinR (x := w) pl.isList.typeIs slot_list_getitem.lookup
      (wpAny_getItem_list_neg (Q := fun r s' => r = w ∧ EP X pins σ Q r s') pl.isList (by omega) (by rw [List.size_toArray] <;> omega) (by omega) (by rw [hj]; simpa using ew) ⟨rfl, fin⟩) hs
theorem ix_tup : IxR X (rIxT X.K) := by
  intro value slice pins s σ H x y v u Q I rx ry h hs
  obtain ⟨p, xs, i, z, rfl, rfl, hq, he, q⟩ := h
  cases rx
  obtain ⟨t, rfl⟩ := ry
  obtain ⟨its, r, pl, hz⟩ := I.tuple hq
  obtain ⟨j, h1, h2, h3, h4, h5⟩ := atI_get he
  obtain ⟨w, ew, rw'⟩ := r.get h2
  have hl := r.length
  have hn := line63
  have fin : EP X pins σ Q w s := ⟨z, H, I, rw', q⟩
  exact subscriptTail_builtinR (x := w) pl.typeIs slot_tuple_getitem.lookup
    (getItem_tuple (j := j) (Q := fun r s' => r = w ∧ EP X pins σ Q r s') pl (by omega) (by omega) (by rw [List.size_toArray, ← hl]; exact h1) (by simpa using ew) ⟨rfl, fin⟩) hs
theorem slice_bounds (lo hi : Option Int) (n : Nat) : (sliceBounds lo hi none n).1 = ((HT.sIx n 0 lo : Nat) : Int) ∧ (sliceBounds lo hi none n).2.1 = ((HT.sIx n n hi : Nat) : Int) ∧ (sliceBounds lo hi none n).2.2 = 1 := by
  refine ⟨?_, ?_, rfl⟩
  · cases lo with
    | none => simp [sliceBounds, HT.sIx]
    | some i =>
      simp only [sliceBounds, HT.sIx, Option.getD_none, show (1 : Int) > 0 by decide, if_true]
      by_cases h : i < 0
      · simp only [h, if_true] <;> omega
      · simp only [h, if_false] <;> omega
  · cases hi with
    | none => simp [sliceBounds, HT.sIx]
    | some i =>
      simp only [sliceBounds, HT.sIx, Option.getD_none, show (1 : Int) > 0 by decide, if_true]
      by_cases h : i < 0
      · simp only [h, if_true] <;> omega
      · simp only [h, if_false] <;> omega
theorem slicePick_cut (its : List Value) (lo hi : Option Int) : slicePick its.toArray lo hi none = ((its.drop (HT.sIx its.length 0 lo)).take (HT.sIx its.length its.length hi - HT.sIx its.length 0 lo)).toArray := by
  obtain ⟨h1, h2, h3⟩ := slice_bounds lo hi its.toArray.size
  unfold slicePick
  rw [h1, h2, h3]
  simp only [sliceRange_one, pick_run, List.size_toArray] <;> rfl
def rSlL (K : PySem.W.Frag) : V → Option Int → Option Int → Hp → VK → Prop := fun x lo hi H Q => ∃ a xs, x = .ref a ∧ SqL K H a xs ∧ ∀ p, H p = none → Q (.ref p) (upd H p (.lst (cutV xs lo hi)))
theorem sl_list : SlR X (rSlL X.K) := by
  intro pins s σ H x v vl vu lo hi sl Q I rx hs pl pu h
  obtain ⟨a, xs, rfl, hx, q⟩ := h
  cases rx
  obtain ⟨its, r, ht, hz⟩ := I.list hx
  have hlen := r.length
  refine ⟨"list", _, slot_list_getitem.lookup, ht.isList.typeIs, ?_⟩
  refine wpAny_getItem_list_slice ht.isList hs pl pu .none (by simp) ?_ (by rw [List.size_toArray] <;> omega)
  rw [slicePick_cut, ← hlen]
  refine ⟨.ref s.heap.objs.size, _, I.laid (t' := s.toks) (o := .lst (cutV xs lo hi)) (fun b ob q => Heap.get?_push_of_some _ q) (Nat.le_refl _) ?_, rfl, q _ (I.hok.fresh (Nat.le_refl _))⟩
  exact ⟨Nat.le_trans (cutV_length xs lo hi) hz, _, 0, (r.drop (HT.sIx xs.length 0 lo)).take (HT.sIx xs.length xs.length hi - HT.sIx xs.length 0 lo), Heap.get?_push_size _ rfl⟩
def flatV : V → Bool
  | .non => true
  | .bl _ => true
  | .int _ => true
  | .str _ => true
  | _ => false
def eqV : V → V → Bool
  | .non, .non => true
  | .bl a, .bl b => a == b
  | .bl a, .int b => (if a then 1 else 0) == b
  | .int a, .bl b => a == (if b then 1 else 0)
  | .int a, .int b => a == b
  | .str a, .str b => a == b
  | _, _ => false
theorem eqAt_V {A : Around} {s : Shared} {y x : V} {u v : Value} (ry : RelV y u) (rx : RelV x v) (fy : flatV y = true) (fx : flatV x = true) : SeqAt.EqAt A s u v (eqV y x) := by
  cases y with
  | non =>
    cases ry
    cases x with
    | non => cases rx; exact SeqAt.EqAt.same _
    | bl b => cases rx; exact SeqAt.EqAt.none_bool b
    | int b => obtain ⟨t, rfl⟩ := rx; exact SeqAt.EqAt.none_int b t
    | str b => obtain ⟨t, rfl⟩ := rx; exact SeqAt.EqAt.none_str b t
    | _ => exact absurd (show false = true from fx) Bool.false_ne_true
  | bl a =>
    cases ry
    cases x with
    | non => cases rx; exact SeqAt.EqAt.bool_none a
    | bl b => cases rx; exact SeqAt.EqAt.bool_bool a b
    | int b => obtain ⟨t, rfl⟩ := rx; exact SeqAt.EqAt.bool_int a b t
    | str b => obtain ⟨t, rfl⟩ := rx; exact SeqAt.EqAt.bool_str a b t
    | _ => exact absurd (show false = true from fx) Bool.false_ne_true
  | int a =>
    obtain ⟨t', rfl⟩ := ry
    cases x with
    | non => cases rx; exact SeqAt.EqAt.int_none a t'
    | bl b => cases rx; exact SeqAt.EqAt.int_bool a t' b
    | int b => obtain ⟨t, rfl⟩ := rx; exact SeqAt.EqAt.int_int a t' b t
    | str b => obtain ⟨t, rfl⟩ := rx; exact SeqAt.EqAt.int_str a t' b t
    | _ => exact absurd (show false = true from fx) Bool.false_ne_true
  | str a =>
    obtain ⟨t', rfl⟩ := ry
    cases x with
    | non => cases rx; exact SeqAt.EqAt.str_none a t'
    | bl b => cases rx; exact SeqAt.EqAt.str_bool a t' b
    | int b => obtain ⟨t, rfl⟩ := rx; exact SeqAt.EqAt.str_int a t' b t
    | str b => obtain ⟨t, rfl⟩ := rx; exact SeqAt.EqAt.str_str a t' b t
    | _ => exact absurd (show false = true from fx) Bool.false_ne_true
  | _ => exact absurd (show false = true from fy) Bool.false_ne_true
def eqU (x : V) (u : Value) : Bool := match u with
  | .none => eqV .non x
  | .bool b => eqV (.bl b) x
  | .int i _ => eqV (.int i) x
  | .str z _ => eqV (.str z) x
  | _ => false
theorem eqU_of {x y : V} {u : Value} (r : RelV y u) (f : flatV y = true) : eqU x u = eqV y x := by
  cases y with
  | non => cases r; rfl
  | bl b => cases r; rfl
  | int i => obtain ⟨t, rfl⟩ := r; rfl
  | str z => obtain ⟨t, rfl⟩ := r; rfl
  | _ => exact absurd (show false = true from f) Bool.false_ne_true
theorem any_eqU {x : V} : ∀ {xs : List V} {us : List Value}, Vals xs us → xs.all flatV = true → us.any (eqU x) = xs.any fun y => eqV y x
  | _, _, .nil, _ => rfl
  | y :: xs, u :: us, .cons r t, f => by
    rw [List.all_cons, Bool.and_eq_true] at f
    rw [List.any_cons, List.any_cons, eqU_of r f.1, any_eqU t f.2]
theorem mem_eqAt {A : Around} {s : Shared} {x : V} {v : Value} (rx : RelV x v) (fx : flatV x = true) : ∀ {xs : List V} {us : List Value}, Vals xs us → xs.all flatV = true → ∀ u ∈ us, SeqAt.EqAt A s u v (eqU x u)
  | _, _, .nil, _ => fun u hu => by cases hu
  | y :: xs, u :: us, .cons r t, f => fun u' hu => by
    rw [List.all_cons, Bool.and_eq_true] at f
    rcases List.mem_cons.mp hu with rfl | hu
    · rw [eqU_of r f.1]; exact eqAt_V r rx f.1 fx
    · exact mem_eqAt rx fx t f.2 u' hu
def inV (x : V) (xs : List V) : Bool := xs.any fun y => eqV y x
def rIn (K : PySem.W.Frag) (neg : Bool) : R2 := fun x y H Q => ∃ p xs, y = .ref p ∧ (SqL K H p xs ∨ SqT K H p xs) ∧ flatV x = true ∧ xs.all flatV = true ∧ Q (.bl (if neg then !inV x xs else inV x xs)) H
theorem op_in_seq : OpR X (compareOp .In) (rIn X.K false) := by
  intro pins s σ H x y v u Q I rx ry h
  obtain ⟨p, xs, rfl, hq, fx, fs, q⟩ := h
  cases ry
  rcases hq with hq | hq
  · obtain ⟨its, r, pl, hz⟩ := I.list hq
    refine SeqAt.in_listAt (eqU x) pl.isList (fun w hw => mem_eqAt rx fx r fs w (by simpa using hw)) ⟨.bl _, H, I, rfl, ?_⟩
    rw [show its.toArray.any (eqU x) = its.any (eqU x) by simp, any_eqU r fs]
    exact q
  · obtain ⟨its, r, pl, hz⟩ := I.tuple hq
    refine SeqAt.in_tupleAt (eqU x) pl (fun w hw => mem_eqAt rx fx r fs w (by simpa using hw)) ⟨.bl _, H, I, rfl, ?_⟩
    rw [show its.toArray.any (eqU x) = its.any (eqU x) by simp, any_eqU r fs]
    exact q
theorem op_notIn_seq : OpR X (compareOp .NotIn) (rIn X.K true) := by
  intro pins s σ H x y v u Q I rx ry h
  obtain ⟨p, xs, rfl, hq, fx, fs, q⟩ := h
  cases ry
  rcases hq with hq | hq
  · obtain ⟨its, r, pl, hz⟩ := I.list hq
    refine SeqAt.notIn_listAt (eqU x) pl.isList (fun w hw => mem_eqAt rx fx r fs w (by simpa using hw)) ⟨.bl _, H, I, rfl, ?_⟩
    rw [show its.toArray.any (eqU x) = its.any (eqU x) by simp, any_eqU r fs]
    exact q
  · obtain ⟨its, r, pl, hz⟩ := I.tuple hq
    refine SeqAt.notIn_tupleAt (eqU x) pl (fun w hw => mem_eqAt rx fx r fs w (by simpa using hw)) ⟨.bl _, H, I, rfl, ?_⟩
    rw [show its.toArray.any (eqU x) = its.any (eqU x) by simp, any_eqU r fs]
    exact q
theorem call_len_seq : CallR X (.builtin "len") (fun xs H Q => ∃ p ys, xs = [.ref p] ∧ (SqL X.K H p ys ∨ SqT X.K H p ys) ∧ Q (.int ys.length) H) := by
  intro pins s σ H xs us Q I r h
  obtain ⟨p, ys, rfl, hq, q⟩ := h
  obtain ⟨u, rfl, rx⟩ := vals1 r
  cases rx
  have hn := line63
  rcases hq with hq | hq
  · obtain ⟨its, r', pl, hz⟩ := I.list hq
    have hlen := r'.length
    exact Calls.call_len_list pl.isList (by simp only [List.size_toArray] <;> omega) ⟨.int ys.length, H, I.tok _, ⟨s.toks + 1, by rw [List.size_toArray, hlen]⟩, q⟩
  · obtain ⟨its, r', pl, hz⟩ := I.tuple hq
    have hlen := r'.length
    exact len_tuple pl (by simp only [List.size_toArray] <;> omega) ⟨.int ys.length, H, I.tok _, ⟨s.toks + 1, by rw [List.size_toArray, hlen]⟩, q⟩
theorem call_len_str : CallR X (.builtin "len") (fun xs H Q => ∃ z, xs = [.str z] ∧ z.length ≤ sizeLine ∧ Q (.int z.length) H) := by
  intro pins s σ H xs us Q I r h
  obtain ⟨z, rfl, hz, q⟩ := h
  obtain ⟨u, rfl, t, rfl⟩ := vals1 r
  have hn := line63
  exact len_str (by omega) ⟨.int z.length, H, I.tok _, ⟨_, rfl⟩, q⟩
theorem call_list_of : CallR X (.type "list") (fun xs H Q => ∃ p ys, xs = [.ref p] ∧ (SqL X.K H p ys ∨ SqT X.K H p ys) ∧ ∀ l, H l = none → Q (.ref l) (upd H l (.lst ys))) := by
  intro pins s σ H xs us Q I r h
  obtain ⟨p, ys, rfl, hq, q⟩ := h
  obtain ⟨u, rfl, rx⟩ := vals1 r
  cases rx
  have fin : ∀ (its : List Value), Vals ys its → ys.length ≤ sizeLine → ∀ (h' : Heap) (c' : Nat), (∀ b o', s.heap.get? b = some o' → h'.get? b = some o') →
      h'.get? s.heap.objs.size = some { cls := .type "list", dict := none, data := .seq its.toArray c', slots := #[] } → EP X pins σ Q (.ref s.heap.objs.size) { s with heap := h' } := fun its r' hz h' c' kp e =>
    ⟨.ref s.heap.objs.size, _, I.laid (t' := s.toks) kp (Nat.le_refl _) (show ObjOk X.prog X.w _ h' _ (.lst ys) from ⟨hz, its, c', r', e⟩), rfl, q _ (I.hok.fresh (Nat.le_refl _))⟩
  rcases hq with hq | hq
  · obtain ⟨its, r', pl, hz⟩ := I.list hq
    have hlen := r'.length
    obtain ⟨o, ho, hc, n, hd⟩ := pl.isList
    exact call_list_seq p (.inl rfl) ho hc hd (fun h' c' kp e => fin its r' hz h' c' kp e) (by simp only [List.size_toArray] <;> omega)
  · obtain ⟨its, r', pl, hz⟩ := I.tuple hq
    have hlen := r'.length
    obtain ⟨o, ho, hc, n, hd⟩ := pl
    exact call_list_seq p (.inr rfl) ho hc hd (fun h' c' kp e => fin its r' hz h' c' kp e) (by simp only [List.size_toArray] <;> omega)
def tyV (K : PySem.W.Frag) (T : String) (x : V) (H : Hp) : Prop := match x with
  | .str _ => T = "str"
  | .int _ => T = "int"
  | .ref p => (T = "list" ∧ ∃ xs, SqL K H p xs) ∨ (T = "tuple" ∧ ∃ o, K.lookup p = some o ∧ o.cls = .type "tuple" ∧ o.dict = none) ∨
      (T = "dict" ∧ ((∃ kvs, H p = some (.dK kvs)) ∨ ∃ kvs, H p = some (.dT kvs))) ∨ (T = "set" ∧ ∃ S n, H p = some (.set S n))
  | _ => False
theorem tyV_is {pins : List (Addr × Obj)} {σ : St} {H : Hp} {s : Shared} {T : String} {x : V} {v : Value} (I : Inv X pins σ H s) (r : RelV x v) (ty : tyV X.K T x H) :
    s.TypeIs v T ∧ ∀ a, v = .ref a → ∃ ob, s.heap.get? a = some ob ∧ ob.dict = none := by
  cases x with
  | str z =>
    obtain ⟨t, rfl⟩ := r
    cases (show T = "str" from ty)
    exact ⟨typeIs_str s z t, fun _ e => nomatch e⟩
  | int i =>
    obtain ⟨t, rfl⟩ := r
    cases (show T = "int" from ty)
    exact ⟨typeIs_int s i t, fun _ e => nomatch e⟩
  | ref p =>
    cases r
    rcases ty with ⟨rfl, xs, hq⟩ | ⟨rfl, o, hk, hc, hd⟩ | ⟨rfl, hk⟩ | ⟨rfl, S, n, hk⟩
    · obtain ⟨its, _, pl, _⟩ := I.list hq
      refine ⟨pl.isList.typeIs, fun a e => ?_⟩
      cases e
      obtain ⟨o, n, e, c, hd, _⟩ := pl
      exact ⟨o, e, hd⟩
    · refine ⟨⟨o, I.kIn p o hk, hc⟩, fun a e => ?_⟩
      cases e
      exact ⟨o, I.kIn _ o hk, hd⟩
    · have z : ∃ o, s.heap.get? p = some o ∧ o.ExactDict := by
        rcases hk with ⟨kvs, hk⟩ | ⟨kvs, hk⟩
        · obtain ⟨_, _, _, _, o, _, _, e, ex, _⟩ := I.hok p _ hk
          exact ⟨o, e, ex⟩
        · obtain ⟨_, _, _, _, o, _, _, e, ex, _⟩ := I.hok p _ hk
          exact ⟨o, e, ex⟩
      obtain ⟨o, e, ex⟩ := z
      refine ⟨⟨o, e, ex.1⟩, fun a e2 => ?_⟩
      cases e2
      exact ⟨o, e, ex.2.1⟩
    · obtain ⟨o, _, _, _, e, ex, _⟩ := I.hok p _ hk
      refine ⟨⟨o, e, ex.1⟩, fun a e2 => ?_⟩
      cases e2
      exact ⟨o, e, ex.2.1⟩
  | _ => exact False.elim ty
def tBM0 (K : PySem.W.Frag) (T : String) (r : V → List V → Hp → VK → Prop) (to : TE) : TE := fun σ H Q => to σ H fun x H1 => tyV K T x H1 ∧ r x [] H1 Q
def tBM (K : PySem.W.Frag) (T : String) (r : V → List V → Hp → VK → Prop) (to : TE) (t : TA) : TE := fun σ H Q => to σ H fun x H1 => tyV K T x H1 ∧ t σ H1 fun xs H2 => r x xs H2 Q
variable {o e : Expr} {es : List Expr} {to : TE} {t : TA} {name : Str} {apos cpos : Pos} {T id : String} {r : V → List V → Hp → VK → Prop}
end
end L2
namespace L2
open PySem PySem.Spec PyProof.Rows
def MtM (X : Cx) (id : String) (r : V → List V → Hp → VK → Prop) : Prop :=
  ∀ (pins : List (Addr × Obj)) (s : Shared) (σ : St) (H : Hp) (x : V) (xs : List V) (v : Value) (us : List Value) (Q : VK), Inv X pins σ H s → RelV x v → Vals xs us → r x xs H Q →
    wpAny (model X.prog X.w) X.A (call (.builtin id) (v :: us)) (EP X pins σ Q) X.xe s
theorem Vals.one : ∀ {x : V} {us : List Value}, Vals [x] us → ∃ u, us = [u] ∧ RelV x u
  | _, _, .cons r .nil => ⟨_, rfl, r⟩
theorem Vals.zero : ∀ {us : List Value}, Vals [] us → us = []
  | _, .nil => rfl
section
variable {X : Cx} {pins : List (Addr × Obj)} {σ : St} {H : Hp} {s : Shared} {l b : Addr} {xs ys zs : List V}
theorem Inv.lset {its its' : List Value} {n : Nat} {f : Array Value → Array Value} {t' : Nat} (I : Inv X pins σ H s) (hH : H l = some (.lst xs))
    (e : s.heap.get? l = some { cls := .type "list", data := .seq its.toArray n }) (hf : f its.toArray = its'.toArray) (hv : Vals ys its') (hz : ys.length ≤ sizeLine) :
    Inv X pins σ (upd H l (.lst ys)) { s with heap := s.heap.update l (Obj.mapSeq f), toks := t' } := by
  have q := PySem.IsL.update e f
  rw [hf] at q
  refine I.write (x := l) (e := l) (by rw [hH]; exact trivial) (.inl rfl) (fun b' u hb hu => (Heap.get?_update_other s.heap (Obj.mapSeq f) (Ne.symm hb)).trans hu) ⟨_, q⟩ ?_
  exact ⟨hz, its', _, hv, q⟩
theorem Inv.lnew {its : List Value} {t' : Nat} (I : Inv X pins σ H s) (hv : Vals ys its) (hz : ys.length ≤ sizeLine) :
    Inv X pins σ (upd H s.heap.objs.size (.lst ys)) { s with heap := s.heap.push { cls := .type "list", data := .seq its.toArray }, toks := t' } :=
  I.laid (fun _ _ q => Heap.get?_push_of_some _ q) (Nat.le_refl _) ⟨hz, its, 0, hv, Heap.get?_push_size _ rfl⟩
theorem Inv.fresh (I : Inv X pins σ H s) : H s.heap.objs.size = none := I.hok.fresh (Nat.le_refl _)
theorem Inv.lstM (I : Inv X pins σ H s) (hH : H l = some (.lst xs)) : xs.length ≤ sizeLine ∧ ∃ (its : List Value) (n : Nat), Vals xs its ∧ xs.length = its.length ∧ s.heap.get? l = some { cls := .type "list", data := .seq its.toArray n } := by
  obtain ⟨z, its, n, r, e⟩ := I.hok l _ hH
  exact ⟨z, its, n, r, r.length, e⟩
end
section
variable {X : Cx}
def rAppend : V → List V → Hp → VK → Prop := fun x vs H Q => ∃ l xs y, x = .ref l ∧ vs = [y] ∧ H l = some (.lst xs) ∧ xs.length < sizeLine ∧ Q .non (upd H l (.lst (xs ++ [y])))
theorem mt_append : MtM X "list.append" rAppend := by
  intro pins s σ H x vs v us Q I rx rv h
  obtain ⟨l, xs, y, rfl, rfl, hH, hz, q⟩ := h
  cases rx
  obtain ⟨u, rfl, ru⟩ := rv.one
  obtain ⟨z, its, n, r, hl, e⟩ := I.lstM hH
  refine call_meets F.slot_list_append ⟨_, e, rfl⟩ F.entry_list_append (F.args_list_append_2 _ _) (PySem.list_append l its.toArray n u (by rw [List.size_toArray]; omega)) ⟨e, ?_⟩
  refine ⟨.non, _, I.lset (its' := its ++ [u]) hH e (by simp) (r.append (.cons ru .nil)) ?_, rfl, q⟩
  rw [List.length_append, List.length_singleton]
  omega
def rClear : V → List V → Hp → VK → Prop := fun x vs H Q => ∃ l xs, x = .ref l ∧ vs = [] ∧ H l = some (.lst xs) ∧ Q .non (upd H l (.lst []))
theorem mt_clear : MtM X "list.clear" rClear := by
  intro pins s σ H x vs v us Q I rx rv h
  obtain ⟨l, xs, rfl, rfl, hH, q⟩ := h
  cases rx
  have hus := rv.zero
  subst hus
  obtain ⟨z, its, n, r, hl, e⟩ := I.lstM hH
  refine call_meets F.slot_list_clear ⟨_, e, rfl⟩ F.entry_list_clear (F.args_list_clear_1 _) (AutoSeq1.list_clear_list_0 l its.toArray n (by rw [List.size_toArray]; omega)) ⟨e, ?_⟩
  exact ⟨.non, _, I.lset (its' := []) (ys := []) hH e rfl .nil (Nat.zero_le _), rfl, q⟩
def rCat : R2 := fun x y H Q => ∃ l b xs zs, x = .ref l ∧ y = .ref b ∧ H l = some (.lst xs) ∧ H b = some (.lst zs) ∧ xs.length + zs.length ≤ sizeLine ∧ ∀ p, H p = none → Q (.ref p) (upd H p (.lst (xs ++ zs)))
theorem op_cat : OpR X (binaryOp .Add) rCat := by
  intro pins s σ H x y v u Q I rx ry h
  obtain ⟨l, b, xs, zs, rfl, rfl, hH, hB, hz, q⟩ := h
  cases rx
  cases ry
  obtain ⟨z, its, n, r, hl, e⟩ := I.lstM hH
  obtain ⟨z2, its2, n2, r2, hl2, e2⟩ := I.lstM hB
  refine PySem.P.add_list e e2 ?_ (by rw [List.size_toArray, List.size_toArray]; omega)
  have ea : its.toArray ++ its2.toArray = (its ++ its2).toArray := by simp
  rw [ea]
  exact ⟨.ref _, _, I.lnew (t' := s.toks) (r.append r2) (by rw [List.length_append]; omega), rfl, q _ I.fresh⟩
end
section
variable {prog : Program} {w : World} {A : Around} {E : Value → Shared → Prop} {s : Shared}
end
section
variable {X : Cx}
end
end L2
namespace Att
open PySem PySem.W PySem.Calls PyProof.Rows
theorem ints_of_wellAll {P : Params} {h : Heap} : ∀ (ns : List Int) (vs : List Value), WellAll P h vs (ns.map WData.int) → IntsAre vs ns := by
  intro ns
  induction ns with
  | nil =>
    intro vs w
    rw [List.map_nil] at w
    cases w
    exact .nil
  | cons n ns ih =>
    intro vs w
    rw [List.map_cons] at w
    cases w with
    | cons a b =>
      cases a
      exact .cons _ _ (ih _ b)
theorem script_of {l : OpenLaw} {n : Nat} (hn : l.most = some n) {P : Params} {h : Heap} {args : List WData} {vals : List Value}
    (hpre : l.row.toRowW.claim.pre args = true) (hwl : WellAll P h vals args) :
    ∃ a vs ns, vals = [Value.ref a] ∧ args = [WData.list (ns.map WData.int)] ∧ h.get? a = some { cls := .type "list", data := .seq vs.toArray } ∧ IntsAre vs ns ∧ ns.length ≤ n := by
  have hsh : WShape.hasAll [] args [.list .int] = true := (pre_splitW hpre).1
  have hc : l.pre.holds [] { args := args } = true := (pre_splitW hpre).2
  obtain ⟨d, r, rfl, h1, h2⟩ := hasAllW_cons hsh
  obtain rfl := hasAllW_nil h2
  obtain ⟨xs, rfl, h3⟩ := hasW_list h1
  obtain ⟨ns, rfl⟩ := items_int h3
  have hlen : ns.length ≤ n := by
    unfold OpenLaw.pre at hc
    have h4 : (WTm.not (.lt (.lit (.int (n : Int))) (.len (.arg 0)))).holds [] { args := [.list (ns.map .int)] } = true := by
      have h4 := (holds_andW hc).1
      rw [hn] at h4
      exact h4
    have h5 := condW_of h4 (w_not (w_lt w_lit (w_len_list (w_arg rfl))))
    rw [List.length_map] at h5
    refine Nat.le_of_not_lt fun q => ?_
    have q' : (n : Int) < ((ns.length : Nat) : Int) := by omega
    first
      | (rw [decide_eq_true q'] at h5; exact absurd h5 (by decide))
      | (simp at h5; omega)
  cases hwl with
  | cons w1 w2 =>
    cases w2
    cases w1 with
    | list ho hall => exact ⟨_, _, ns, rfl, rfl, ho, ints_of_wellAll ns _ hall, hlen⟩
theorem post_true (l : OpenLaw) (args : List WData) : l.row.toRowW.claim.post args (.bool true) args = true :=
  postW_of (r := l.row.toRowW) (X := (true == true))
    (show WShape.has [] (.bool true) .bool = true by first | rfl | decide | simp [WShape.has, WShape.arms, WShape.armsAll])
    (show (WTm.eq .res (.lit (.bool true))).value [] { args := args, res := some (.bool true), after := args } = some (.bool (true == true)) from w_eq_bool (w_res rfl) w_lit) rfl
theorem attach_call {l : OpenLaw} {n : Nat} {q : Program} {loose : List Str} {XP : (Str → Option Value) → Heap → Prop} {YP : World → Heap → Prop} {d : DefRec}
    (hn : l.most = some n) (hdf : d.params.defaults = [])
    (call : ∀ (w : World) (s₀ s₁ : Shared) (mg mb : Str → Option Value) (fa : Addr) (o : Obj) (pm cd doc : Value) (a : Addr) (vs : List Value) (ns : List Int),
      Ground q loose [] XP w s₀ mg mb s₁.heap → YP w s₁.heap →
      s₁.heap.get? fa = some o → o.data = .func (docDef d.name d.params d.body d.scope pm cd doc) → s₁.heap.CodeRec cd d.name → mg d.name = some (.ref fa) →
      s₁.heap.get? a = some { cls := .type "list", data := .seq vs.toArray } → IntsAre vs ns → ns.length ≤ n → s₁.gens = #[] →
      codeAny (model l.prog w) callerA (.call (.ref fa) ⟨[.ref a], []⟩) (fun r s' => r = .ok (.ret (.bool true)) ∧ OldK s₁.heap s'.heap ∧ s'.os = s₁.os ∧ AllBare s'.gens) s₁) :
    WalkO q loose XP YP l.row.toRowW d [] (fun f vs => PySem.call f vs) := by
  intro w s₀ s₁ mg mb G Y fa o pm cd doc dV kV ho hd hcd hD hmg hg args vals as hpre hlay hrd hwl hlo
  obtain rfl : dV = .none := Dflts.none hD hdf
  obtain rfl : kV = .none := Dflts.noKw hD
  obtain ⟨a, vs, ns, rfl, rfl, hobj, hints, hlen⟩ := script_of hn hpre hwl
  refine enter_call (codeAny_mono (call w s₀ s₁ mg mb fa o pm cd doc a vs ns G Y ho (fd_plain hd) hcd hmg hobj hints hlen hg) fun r s' hq => ?_)
  obtain ⟨rfl, h2, h3, h4⟩ := hq
  exact ⟨.inl ⟨.bool true, .bool true, [], rfl, fun _ => rfl, .bool true, post_true l _, fun _ => ⟨List.Pairwise.nil, fun _ hm => (nomatch hm)⟩⟩, h2, h3, h4⟩
section
variable {prog : Program} {w : World} {A : Around} {E : Value → Shared → Prop} {s : Shared} {K : Frag}
def ledger (h : Heap) (L d : Addr) : List (Addr × Obj) := (List.range h.objs.size).filterMap fun a => if a = L ∨ a = d then none else (h.get? a).map fun o => (a, o)
end
end Att
namespace L2
open PySem PySem.Spec PyProof.Rows
theorem vals_ints : ∀ {vs : List Value} {ns : List Int}, IntsAre vs ns → Vals (ns.map V.int) vs
  | _, _, .nil => .nil
  | _, _, .cons n t h => .cons ⟨t, rfl⟩ (vals_ints h)
def Only (H : Hp) : Prop := ∀ b, H b = none ∨ ∃ o xs, H b = some (.frz o (.lst xs))
theorem law_call {P : Program} {w : World} {K : PySem.W.Frag} {mg mb : Str → Option Value} {CX : CXT} {k : Nat} {fa a : Addr} {fd : FuncData} {x : Str} {sp : Sp} {s₁ : Shared} {vs : List Value} {ns : List Int}
    (KX : K.In s₁.heap) (hns : s₁.heap.Ns mainGlobals mg) (hb : s₁.heap.Ns builtinsNs mb) (hbb : ∀ x : Str, x ≠ "__name__" → mb x = bootBuiltins x) (hlim : s₁.heap.NoLimit) (hg : s₁.gens = #[])
    (ha : s₁.heap.get? a = some { cls := .type "list", data := .seq vs.toArray }) (hi : IntsAre vs ns) (hl : ns.length ≤ sizeLine) (hr : Room k callerA)
    (F : ∀ base : Heap, K.In base → base.Ns mainGlobals mg → FnOk P w K mg base CX k fa fd [x] sp) (hbind : ∀ (s : Shared) (u : Value), BindsTo s fd ⟨[u], []⟩ [(x, u)])
    (hsp : ∀ H : Hp, Only H → SqL K H a (ns.map V.int) → sp [.ref a] H (fun v _ => v = .bl true) fun _ _ _ => False)
    (hCX : ∀ H e s', CX [] H s₁ (fun _ _ _ => False) e s' → False) :
    codeAny (model P w) callerA (.call (.ref fa) ⟨[.ref a], []⟩) (fun r s' => r = .ok (.ret (.bool true)) ∧ OldK s₁.heap s'.heap ∧ s'.os = s₁.os ∧ AllBare s'.gens) s₁ := by
  have rv := vals_ints hi
  have lenV := hi.length
  have core : ∀ H : Hp, Only H → SqL K H a (ns.map V.int) → HOk P w H s₁.heap → (∀ b, H b ≠ none → b = a) → (H a ≠ none → K.lookup a = none) →
      codeAny (model P w) callerA (.call (.ref fa) ⟨[.ref a], []⟩) (fun r s' => r = .ok (.ret (.bool true)) ∧ OldK s₁.heap s'.heap ∧ s'.os = s₁.os ∧ AllBare s'.gens) s₁ := by
    intro H hO hS hok hA hK
    have base_of : ∀ {b : Addr} {o : Obj}, s₁.heap.get? b = some o → H b = none → (hidT s₁.heap H).get? b = some o := fun e n => hidT_get e n
    have noA : ∀ {b : Addr} {o : Obj} {es : Array DictEntry} {ep : Nat}, s₁.heap.get? b = some o → o.data = .dict es ep → H b = none := fun {b o es ep} e d => by
      cases q : H b with
      | none => rfl
      | some u =>
        have e' : b = a := hA b (by rw [q]; simp)
        subst e'
        rw [ha] at e; cases e
        have d' : Data.seq vs.toArray _ = Data.dict es ep := d
        cases d'
    have nsK : ∀ {b : Addr} {m : Str → Option Value}, s₁.heap.Ns b m → (hidT s₁.heap H).Ns b m := fun {b m} ⟨o, es, ep, e, d, r⟩ => ⟨o, es, ep, base_of e (noA e d), d, r⟩
    have hKb : K.In (hidT s₁.heap H) := fun b o e => base_of (KX b o e) (by
      cases q : H b with
      | none => rfl
      | some u =>
        have e' : b = a := hA b (by rw [q]; simp)
        subst e'
        rw [hK (by rw [q]; simp)] at e; cases e)
    have hM : Mod K mg (hidT s₁.heap H) := ⟨hKb, nsK hns, ⟨mb, nsK hb, hbb⟩, let ⟨mc, h1, h2⟩ := hlim; ⟨mc, nsK h1, h2⟩⟩
    have e0 : Env0 P w K mg (hidT s₁.heap H) callerA [] s₁ H := ⟨rfl, hM, fun b o e => of_hidT e, Nat.le_of_eq (hidT_size _ _), trivial, fun b hb => absurd (show b ∈ ([] : List Addr) from hb) (by simp), hok, .of_eq hg⟩
    refine codeAny_mono ((F _ hKb (nsK hns)).run callerA [] s₁ H ⟨[.ref a], []⟩ [.ref a] [.ref a] _ _ hr e0 (hbind s₁ (.ref a)) (.cons rfl .nil) (hsp H hO hS)) fun r s' h => ?_
    cases r with
    | error e => exact (hCX H e s' h).elim
    | ok fl =>
      cases fl with
      | next => exact False.elim h
      | brk => exact False.elim h
      | cont => exact False.elim h
      | ret u =>
        obtain ⟨v, H', os, bare, un, hok', r', q⟩ := h
        have q' : v = .bl true := q
        subst q'
        obtain rfl : u = Value.bool true := r'
        refine ⟨rfl, OldK.of_keep fun b o e => ?_, os, bare⟩
        cases q : H b with
        | none => exact un.keep b o e q (by intro z; exact absurd (show b ∈ ([] : List Addr) from z) (by simp)) (by simp)
        | some u =>
          rcases hO b with z | ⟨ob, xs, z⟩
          · rw [q] at z; cases z
          · have z2 := un.frzs b ob _ z
            obtain ⟨e1, _⟩ := hok b _ z
            obtain ⟨e2, _⟩ := hok' b _ z2
            rw [e] at e1; cases e1
            exact e2
  cases hk : K.lookup a with
  | some o =>
    have e := KX a o hk
    rw [ha] at e
    cases e
    refine core (fun _ => none) (fun _ => .inl rfl) (.inr ⟨_, vs.toArray, _, hk, rfl, rfl, rfl, by rw [List.size_toArray, lenV]; exact hl, by simpa using rv⟩) (fun b u z => by have z' : (none : Option HO) = some u := z; cases z') (fun b z => absurd rfl z) fun z => absurd rfl z
  | none =>
    refine core (fun b => if b = a then some (.frz { cls := .type "list", data := .seq vs.toArray } (.lst (ns.map V.int))) else none) (fun b => ?_) (.inl (.inr ⟨{ cls := .type "list", data := .seq vs.toArray }, if_pos rfl⟩)) (fun b u z => ?_) (fun b z => ?_) fun _ => hk
    · by_cases hb : b = a
      · exact .inr ⟨_, _, if_pos hb⟩
      · exact .inl (if_neg hb)
    · by_cases hb : b = a
      · have z' := (if_pos hb).symm.trans z
        cases z'
        subst hb
        exact ⟨ha, by rw [List.length_map]; exact hl, vs, _, rv, ha⟩
      · have z' := (if_neg hb).symm.trans z
        cases z'
    · by_cases hb : b = a
      · exact hb
      · exact absurd (if_neg hb) z
end L2
namespace L2
open PySem PySem.Spec PyProof.Rows
abbrev KOf {K : PySem.W.Frag} {h : Heap} (_ : K.In h) : PySem.W.Frag := K
theorem walk_of {l : PySem.W.OpenLaw} {n k : Nat} {q : Program} {loose : List Str} {XP : (Str → Option Value) → Heap → Prop} {YP : World → Heap → Prop} {d : DefRec} {K : Params → PySem.W.Frag} {CX : World → CXT} {sp : World → Sp} {x : Str}
    (hn : l.most = some n) (hn2 : n ≤ sizeLine) (hdf : d.params.defaults = []) (hr : Room k callerA)
    (hY : ∀ (w : World) (h : Heap), YP w h → (K w.params).In h)
    (F : ∀ (w : World) (mg : Str → Option Value) (fa : Addr) (h : Heap), (K w.params).In h → h.Ns mainGlobals mg → mg d.name = some (.ref fa) →
      ∃ fd : FuncData, (∀ (s : Shared) (u : Value), BindsTo s fd ⟨[u], []⟩ [(x, u)]) ∧
        ∀ base : Heap, (K w.params).In base → base.Ns mainGlobals mg → FnOk l.prog w (K w.params) mg base (CX w) k fa fd [x] (sp w))
    (hsp : ∀ (w : World) (H : Hp) (a : Addr) (ns : List Int), ns.length ≤ n → Only H → SqL (K w.params) H a (ns.map V.int) → sp w [.ref a] H (fun v _ => v = .bl true) fun _ _ _ => False)
    (hCX : ∀ (w : World) (H : Hp) (s : Shared) (e : Value) (s' : Shared), CX w [] H s (fun _ _ _ => False) e s' → False) :
    PySem.W.WalkO q loose XP YP l.row.toRowW d [] (fun f vs => PySem.call f vs) := by
  refine Att.attach_call hn hdf fun w s₀ s₁ mg mb fa o pm cd doc a vs ns G Y ho hd hcd hmg hobj hints hlen hg => ?_
  have KX := hY w _ Y
  obtain ⟨fd, hb, hF⟩ := F w mg fa _ KX G.T.g hmg
  exact law_call KX G.T.g G.T.b G.T.builtins G.T.nolimit hg hobj hints (Nat.le_trans hlen hn2) hr hF hb (fun H hO hS => hsp w H a ns hlen hO hS) fun H e s' => hCX w H s₁ e s'
theorem walk_ofK {l : PySem.W.OpenLaw} {n k : Nat} {q : Program} {loose : List Str} {XP : (Str → Option Value) → Heap → Prop} {YP : World → Heap → Prop} {d : DefRec} {K : Params → PySem.W.Frag} {CX : CXT} {sp : PySem.W.Frag → Sp} {x : Str}
    (hn : l.most = some n) (hn2 : n ≤ sizeLine) (hdf : d.params.defaults = []) (hr : Room k callerA)
    (hY : ∀ (w : World) (h : Heap), YP w h → (K w.params).In h)
    (F : ∀ (w : World) (mg : Str → Option Value) (fa : Addr) (h : Heap), (K w.params).In h → h.Ns mainGlobals mg → mg d.name = some (.ref fa) →
      ∃ fd : FuncData, (∀ (s : Shared) (u : Value), BindsTo s fd ⟨[u], []⟩ [(x, u)]) ∧
        ∀ base : Heap, (K w.params).In base → base.Ns mainGlobals mg → FnOk l.prog w (K w.params) mg base CX k fa fd [x] (sp (K w.params)))
    (hsp : ∀ (K : PySem.W.Frag) (H : Hp) (a : Addr) (ns : List Int), ns.length ≤ n → Only H → SqL K H a (ns.map V.int) → sp K [.ref a] H (fun v _ => v = .bl true) fun _ _ _ => False)
    (hCX : ∀ (H : Hp) (s : Shared) (e : Value) (s' : Shared), CX [] H s (fun _ _ _ => False) e s' → False) :
    PySem.W.WalkO q loose XP YP l.row.toRowW d [] (fun f vs => PySem.call f vs) :=
  walk_of (K := K) (CX := fun _ => CX) (sp := fun w => sp (K w.params)) hn hn2 hdf hr hY F (fun w H a ns h1 h2 h3 => hsp (K w.params) H a ns h1 h2 h3) fun _ H s e s' => hCX H s e s'
end L2
namespace L2
open PySem PySem.Spec PyProof.Rows
def inClass (s : Stmt) (j : Nat) : Stmt := match s with
  | .ClassDef _ _ _ body _ _ _ _ _ _ _ => body.getD j (.Pass ⟨0, 0, 0, 0⟩)
  | _ => .Pass ⟨0, 0, 0, 0⟩
def defArgs (s : Stmt) : Arguments := match s with
  | .FunctionDef _ a _ _ _ _ _ _ _ _ => a
  | _ => { posonlyargs := [], args := [], vararg := none, kwonlyargs := [], kw_defaults := [], kwarg := none, defaults := [] }
def defBody (s : Stmt) : List Stmt := match s with
  | .FunctionDef _ _ b _ _ _ _ _ _ _ => b
  | _ => []
def defScope (s : Stmt) : Scope := match s with
  | .FunctionDef _ _ _ _ _ _ sc _ _ _ => sc
  | _ => { kind := .function, names := [], isGenerator := false, isCoroutine := false }
abbrev CX0 : CXT := fun _ _ _ _ _ _ => False
abbrev E0 : XK := fun _ _ _ => False
theorem pass0 {X : Cx} : Passes CX0 X E0 := fun _ _ _ _ _ _ _ h => h.elim
structure Fun (K : PySem.W.Frag) (x qual : Str) (st : Stmt) (f : Addr) (fd : FuncData) : Prop where
  ex : ∃ (oc : Value) (od : Option Addr) (kV doc pm : Value) (an : Option Addr) (cdv ct : Value) (osl : Array (Option Value)),
    fd = PySem.W.fnOf x qual (defArgs st) (defBody st) (defScope st) .none kV doc pm an cdv ct ∧ K.lookup f = some ⟨oc, od, .func fd, osl⟩ ∧ PySem.W.codeIn K cdv qual = true
  kp : PySem.W.keepIn K (.ref f) = true
section
variable {P : Program} {w : World} {K : PySem.W.Frag} {mg : Str → Option Value} {base : Heap}
theorem Fun.ok {x qual : Str} {st : Stmt} {f : Addr} {fd : FuncData} {N ps : List Str} {k : Nat} {sp : Sp} (F : Fun K x qual st f fd) (S : FnScope N ps (defScope st)) (len : ∀ vs H Q E, sp vs H Q E → vs.length = ps.length)
    (hbody : ∀ (cdv : Value) (A : Around) (outer : List Env) (s : Shared) (H : Hp) (vs : List V) (Q : VK) (E : XK), Room k (A.deeper (envOfC qual (defScope st) s.heap.objs.size f cdv)) → sp vs H Q E →
      ∃ t, PSs (cxOf CX0 P w K mg base N qual (defScope st) f cdv A outer s H E).nox (defBody st) t ∧ t { nx := fun _ H' => Q .non H', rt := Q } (start N vs) H) : FnOk P w K mg base CX0 (k + 1) f fd ps sp := by
  obtain ⟨oc, od, kV, doc, pm, an, cdv, ct, osl, rfl, lk, hcd⟩ := F.ex
  refine fn_of lk hcd S len fun A outer s H vs Q E hr hsp => ?_
  obtain ⟨t, h, q⟩ := hbody cdv A outer s H vs Q E hr hsp
  exact ⟨t, h.nox, q⟩
theorem Fun.binds {x qual : Str} {st : Stmt} {f : Addr} {fd : FuncData} {ps : List Str} (F : Fun K x qual st f fd)
    (h : ∀ (kV doc pm : Value) (an : Option Addr) (cdv ct : Value) (us : List Value), us.length = ps.length → bindArgs (PySem.W.fnOf x qual (defArgs st) (defBody st) (defScope st) .none kV doc pm an cdv ct) ⟨us, []⟩ = pure (ps.zip us)) : Binds K fd ps [] := by
  obtain ⟨oc, od, kV, doc, pm, an, cdv, ct, osl, rfl, lk, hcd⟩ := F.ex
  exact .all (h kV doc pm an cdv ct)
theorem fun_mk {x qual : Str} {st : Stmt} {f : Addr} {oc : Value} {od an : Option Addr} {osl : Array (Option Value)} {kV doc pm cdv ct : Value} (l : K.lookup f = some ⟨oc, od, .func (PySem.W.fnOf x qual (defArgs st) (defBody st) (defScope st) .none kV doc pm an cdv ct), osl⟩)
    (c : PySem.W.codeIn K cdv qual = true) (k : PySem.W.keepIn K (.ref f) = true) : Fun K x qual st f (PySem.W.fnOf x qual (defArgs st) (defBody st) (defScope st) .none kV doc pm an cdv ct) := ⟨⟨oc, od, kV, doc, pm, an, cdv, ct, osl, rfl, l, c⟩, k⟩
end
section
variable {X : Cx}
theorem pv (i : Nat) {x : Str} {pos : Pos} (hN : X.N[i]? = some x := by rfl) (hv : Vis X.env.scope x := by first | exact Or.inl rfl | exact Or.inr (Or.inl rfl) | exact Or.inr (Or.inr rfl)) (hd : (x == ("__debug__" : Str)) = false := by decide)
    (hcd : (x == ("__classdict__" : Str)) = false := by decide) : PE X (.Name x pos) (tVar i) := pe_var hN hv hd hcd
end
theorem iteF {A B : Prop} (h : B) : if false = true then A else B := by
  rw [if_neg Bool.false_ne_true]
  exact h
theorem iteT {A B : Prop} (h : A) : if true = true then A else B := by
  rw [if_pos rfl]
  exact h
theorem ite2 {c A B : Prop} [Decidable c] (h1 : c → A) (h2 : ¬ c → B) : if c then A else B := by
  by_cases h : c
  · rw [if_pos h]
    exact h1 h
  · rw [if_neg h]
    exact h2 h
def Same (H H' : Hp) : Prop := ∀ b o, H b = some o → H' b = some o
theorem Same.refl (H : Hp) : Same H H := fun _ _ h => h
theorem Same.trans {H H1 H2 : Hp} (a : Same H H1) (b : Same H1 H2) : Same H H2 := fun c o h => b c o (a c o h)
theorem Same.free {H H' : Hp} (e : Same H H') {l : Addr} (h : H' l = Option.none) : H l = Option.none := by
  cases q : H l with
  | none => rfl
  | some o =>
    rw [e l o q] at h
    cases h
theorem Same.seq {K : PySem.W.Frag} {H H' : Hp} {a : Addr} {xs : List V} (e : Same H H') (h : SqL K H a xs) : SqL K H' a xs := by
  rcases h with (h | ⟨o, h⟩) | h
  · exact .inl (.inl (e _ _ h))
  · exact .inl (.inr ⟨o, e _ _ h⟩)
  · exact .inr h
end L2
namespace L2
open PySem PySem.Spec PyProof.Rows
section
variable {κ : Type} [DecidableEq κ]
def valV (kvs : List (κ × V)) (k : κ) : Option V := (kvs.find? fun kv => decide (kv.1 = k)).map (·.2)
def putK (kvs : List (κ × V)) (k : κ) (v : V) : List (κ × V) :=
  if (kvs.any fun kv => decide (kv.1 = k)) = true then kvs.map (fun kv => if kv.1 = k then (kv.1, v) else kv) else kvs ++ [(k, v)]
theorem valV_pos {p : κ × V} {r : List (κ × V)} {k : κ} (e : p.1 = k) : valV (p :: r) k = some p.2 := by simp [valV, List.find?_cons, e]
theorem valV_neg {p : κ × V} {r : List (κ × V)} {k : κ} (e : ¬ p.1 = k) : valV (p :: r) k = valV r k := by simp [valV, List.find?_cons, e]
theorem RelO.isSome_eq {o : Option V} {u : Option Value} (r : RelO o u) : o.isSome = u.isSome := by
  cases o with
  | none => cases u with
    | none => rfl
    | some _ => exact (show False from r).elim
  | some _ => cases u with
    | none => exact (show False from r).elim
    | some _ => rfl
theorem KV.val {kvs : List (κ × V)} {vs : List (κ × Value)} (r : KV kvs vs) (k : κ) : RelO (valV kvs k) (valueAt vs k) := by
  unfold KV at r
  induction r with
  | nil => exact True.intro
  | @cons p q ps qs h t ih =>
    obtain ⟨h1, h2⟩ := h
    by_cases e : p.1 = k
    · have e' : q.1 = k := h1.symm.trans e
      have b : valueAt (q :: qs) k = some q.2 := by simp [valueAt, List.find?_cons, e']
      rw [valV_pos e, b]; exact h2
    · have e' : ¬ q.1 = k := fun z => e (h1.trans z)
      have b : valueAt (q :: qs) k = valueAt qs k := by simp [valueAt, List.find?_cons, e']
      rw [valV_neg e, b]; exact ih
theorem KV.length {kvs : List (κ × V)} {vs : List (κ × Value)} (r : KV kvs vs) : kvs.length = vs.length := Paired.length r
end
theorem kV_is {P : Program} {w : World} {k : Key} {u : Value} (r : RelV (kV k) u) : (mixKind P w).is k u = true := by
  cases k with
  | inl i => obtain ⟨t, e⟩ := (show ∃ t, u = Value.int i t from r); subst e; exact mixKind_int P w i t
  | inr x => obtain ⟨t, e⟩ := (show ∃ t, u = Value.str x t from r); subst e; exact mixKind_str P w x t
theorem items_are {P : Program} {w : World} : ∀ {ks : List Key} {us : List Value}, Vals (ks.map kV) us → ItemsAre (mixKind P w) ks us
  | [], _, r => by rw [List.map_nil] at r; cases r; exact .nil
  | k :: ks, _, r => by
    rw [List.map_cons] at r
    cases r with
    | cons h t => exact .cons (kV_is h) (items_are t)
abbrev KT (H : Hp) : List (List Key × V) → List (List Key × Addr × Value) → Prop := Paired fun p q => p.1 = q.1 ∧ H q.2.1 = some (.tup (p.1.map kV)) ∧ RelV p.2 q.2.2
theorem KT.val {H : Hp} {kvs : List (List Key × V)} {xs : List (List Key × Addr × Value)} (r : KT H kvs xs) (k : List Key) : RelO (valV kvs k) ((atKey xs k).map (·.2)) := by
  induction r with
  | nil => exact True.intro
  | @cons p q ps qs h t ih =>
    obtain ⟨h1, _, h2⟩ := h
    by_cases e : p.1 = k
    · have e' : q.1 = k := h1.symm.trans e
      have b : atKey (q :: qs) k = some q.2 := by simp [atKey, List.find?_cons, e']
      rw [valV_pos e, b]; exact h2
    · have e' : ¬ q.1 = k := fun z => e (h1.trans z)
      have b : atKey (q :: qs) k = atKey qs k := by simp [atKey, List.find?_cons, e']
      rw [valV_neg e, b]; exact ih
section
variable {P : Program} {w : World} {H : Hp} {h : Heap} {a : Addr}
theorem rd_of {u : HO} (ok : HOk P w H h) (e : Rd H a u) : ObjOk P w H h a u := e.ok ok
theorem dk_rd {kvs : List (Key × V)} (ok : HOk P w H h) (e : Rd H a (.dK kvs)) : kvs.length ≤ sizeLine ∧ (a == sysModules) = false ∧ ∃ vs, KV kvs vs ∧ h.DictOf (mixKind P w) a vs :=
  show ObjOk P w H h a (.dK kvs) from rd_of ok e
theorem key_of {ks : List Key} (ok : HOk P w H h) (e : H a = some (.tup (ks.map kV))) : (tupleKind (mixKind P w)).is h ks a := by
  obtain ⟨_, its, r, o, h1, h2, n, h3⟩ := (show ObjOk P w H h a (.tup (ks.map kV)) from ok a _ e)
  exact ⟨o, its.toArray, n, h1, h2, h3, by simpa using items_are r⟩
theorem dt_rd {kvs : List (List Key × V)} (ok : HOk P w H h) (e : Rd H a (.dT kvs)) : kvs.length ≤ sizeLine ∧ (a == sysModules) = false ∧
    ∃ xs, KT H kvs xs ∧ h.DictOfH (tupleKind (mixKind P w)) a xs := by
  obtain ⟨z, y, xs, r, o, es, ep, h1, h2, h3, h4, h5⟩ := (show ObjOk P w H h a (.dT kvs) from rd_of ok e)
  refine ⟨z, y, xs, r, o, es, ep, h1, h2, h3, h4, fun x hx => ?_, h5⟩
  have all : ∀ {l : List (List Key × V)} {m : List (List Key × Addr × Value)}, KT H l m → ∀ x ∈ m, (tupleKind (mixKind P w)).is h x.1 x.2.1 := by
    intro l m q
    induction q with
    | nil => intro x hx; exact nomatch hx
    | @cons p q ps qs hq t ih =>
      intro x hx
      rcases List.mem_cons.mp hx with e | hx
      · subst e
        exact key_of ok (by rw [← hq.1]; exact hq.2.1)
      · exact ih x hx
  exact all r x hx
end
def DGet (H : Hp) (a : Addr) (y : V) (r : Option V) : Prop :=
  (∃ kvs k, Rd H a (.dK kvs) ∧ y = kV k ∧ r = valV kvs k) ∨ ∃ kvs k b, Rd H a (.dT kvs) ∧ y = .ref b ∧ H b = some (.tup (k.map kV)) ∧ r = valV kvs k
def DPut (H : Hp) (a : Addr) (y v : V) (H' : Hp) : Prop :=
  (∃ kvs k, H a = some (.dK kvs) ∧ y = kV k ∧ kvs.length < sizeLine ∧ H' = upd H a (.dK (putK kvs k v))) ∨
  ∃ kvs k b, H a = some (.dT kvs) ∧ y = .ref b ∧ H b = some (.tup (k.map kV)) ∧ kvs.length < sizeLine ∧ H' = upd H a (.dT (putK kvs k v))
section
variable {X : Cx} {pins : List (Addr × Obj)} {σ : St} {H : Hp} {s : Shared} {a : Addr} {y v : V} {u r : Value} {o : Option V} {A : Around} {E : Value → Shared → Prop}
theorem Inv.big (I : Inv X pins σ H s) : sysModules < s.heap.objs.size := by
  have h : mainGlobals < s.heap.objs.size := (I.mod.glob.keeps I.bk).lt
  exact Nat.lt_trans (by decide) h
theorem d_getItem {Q : Value → Shared → Prop} (hu : A.units + 1 < cLine) (I : Inv X pins σ H s) (g : DGet H a y (some v)) (ry : RelV y u) (h : ∀ w' s', Inv X pins σ H s' → RelV v w' → Q w' s') :
    wpAny (model X.prog X.w) A (getItem (.ref a) u) Q E s := by
  rcases g with ⟨kvs, k, e, ey, l⟩ | ⟨kvs, k, b, e, ey, eb, l⟩
  · subst ey
    obtain ⟨z, hd, vs, rel, dd⟩ := dk_rd I.hok e
    obtain ⟨w', hw, rw'⟩ := RelO.some_of (v := v) (o := valueAt vs k) (by rw [l]; exact rel.val k)
    exact wpAny_getItem_of (kV_is ry) dd.mapOf hw (h w' _ (I.tok _) rw')
  · subst ey
    cases (show u = Value.ref b from ry)
    obtain ⟨z, hd, xs, rel, dd⟩ := dt_rd I.hok e
    obtain ⟨w', hw, rw'⟩ := RelO.some_of (v := v) (o := (atKey xs k).map (·.2)) (by rw [l]; exact rel.val k)
    obtain ⟨p, hp, hp2⟩ := Option.map_eq_some_iff.mp hw
    refine wpAny_getItem_heap (tupleKind_room_in1 hu) (key_of I.hok eb) dd hp ?_
    rw [hp2]
    exact h w' _ (I.tok _) rw'
theorem d_in {Q : Value → Shared → Prop} (hu : A.units + 1 < cLine) (I : Inv X pins σ H s) (g : DGet H a y o) (ry : RelV y u) (h : ∀ s', Inv X pins σ H s' → Q (.bool o.isSome) s') :
    wpAny (model X.prog X.w) A (compareOp .In u (.ref a)) Q E s := by
  rcases g with ⟨kvs, k, e, ey, l⟩ | ⟨kvs, k, b, e, ey, eb, l⟩
  · subst ey
    obtain ⟨z, hd, vs, rel, dd⟩ := dk_rd I.hok e
    refine wpAny_in_of (kV_is ry) hd dd.mapOf ?_
    rw [← (rel.val k).isSome_eq, ← l]
    exact h _ (I.tok _)
  · subst ey
    cases (show u = Value.ref b from ry)
    obtain ⟨z, hd, xs, rel, dd⟩ := dt_rd I.hok e
    refine wpAny_in_heap (tupleKind_room_in1 hu) (key_of I.hok eb) hd dd ?_
    have q := (rel.val k).isSome_eq
    rw [Option.isSome_map] at q
    rw [← q, ← l]
    exact h _ (I.tok _)
theorem d_notIn {Q : Value → Shared → Prop} (hu : A.units + 1 < cLine) (I : Inv X pins σ H s) (g : DGet H a y o) (ry : RelV y u) (h : ∀ s', Inv X pins σ H s' → Q (.bool (!o.isSome)) s') :
    wpAny (model X.prog X.w) A (compareOp .NotIn u (.ref a)) Q E s := by
  rcases g with ⟨kvs, k, e, ey, l⟩ | ⟨kvs, k, b, e, ey, eb, l⟩
  · subst ey
    obtain ⟨z, hd, vs, rel, dd⟩ := dk_rd I.hok e
    refine wpAny_notIn_of (kV_is ry) hd dd.mapOf ?_
    rw [← (rel.val k).isSome_eq, ← l]
    exact h _ (I.tok _)
  · subst ey
    cases (show u = Value.ref b from ry)
    obtain ⟨z, hd, xs, rel, dd⟩ := dt_rd I.hok e
    refine wpAny_notIn_heap (tupleKind_room_in1 hu) (key_of I.hok eb) hd dd ?_
    have q := (rel.val k).isSome_eq
    rw [Option.isSome_map] at q
    rw [← q, ← l]
    exact h _ (I.tok _)
end
section
variable {X : Cx} {pins : List (Addr × Obj)} {σ : St} {H : Hp} {s : Shared} {a : Addr} {kvs : List (Key × V)} {k : Key} {u : Value} {A : Around} {E : Value → Shared → Prop}
theorem d_len {Q : Value → Shared → Prop} (I : Inv X pins σ H s) (e : Rd H a (.dK kvs)) (h : ∀ t s', Inv X pins σ H s' → Q (.int kvs.length t) s') : wpAny (model X.prog X.w) A (call (.builtin "len") [.ref a]) Q E s := by
  obtain ⟨z, hd, vs, rel, dd⟩ := dk_rd I.hok e
  refine call_len_dict hd dd (by rw [← rel.length]; rw [sizeLine_eq] at z; omega) ?_
  rw [← rel.length]
  exact h _ _ (I.tok _)
end
theorem dict_typeIs {X : Cx} {pins : List (Addr × Obj)} {σ : St} {H : Hp} {s : Shared} {a : Addr} {y : V} {o : Option V} (I : Inv X pins σ H s) (g : DGet H a y o) : s.TypeIs (.ref a) "dict" := by
  rcases g with ⟨kvs, k, e, _, _⟩ | ⟨kvs, k, b, e, _, _, _⟩
  · obtain ⟨_, _, vs, _, dd⟩ := dk_rd I.hok e
    exact dd.typeIs
  · obtain ⟨_, _, xs, _, dd⟩ := dt_rd I.hok e
    exact dd.typeIs
def tDGet (td ty : TE) : TE := fun σ H Q => td σ H fun x H1 => ty σ H1 fun y H2 => ∃ a v, x = .ref a ∧ DGet H2 a y (some v) ∧ Q v H2
def sDPut (td ty tv : TE) : TS := fun D σ H => tv σ H fun v H1 => td σ H1 fun x H2 => ty σ H2 fun y H3 => ∃ a H4, x = .ref a ∧ DPut H3 a y v H4 ∧ D.nx σ H4
section
variable {X : Cx} {o i e value : Expr} {pos pos' tpos : Pos} {td ty tv : TE}
end
theorem dk_empty {P : Program} {w : World} {H : Hp} (h : Heap) (hb : sysModules < h.objs.size) : ObjOk P w H (h.push { cls := .type "dict", data := .dict #[] }) h.objs.size (.dK []) :=
  ⟨Nat.zero_le _, beq_eq_false_iff_ne.mpr (Ne.symm (Nat.ne_of_lt hb)), [], .nil, Heap.DictOf.new h⟩
def tDNewK : TE := fun _ H Q => ∀ p, H p = none → Q (.ref p) (upd H p (.dK []))
section
variable {X : Cx} {pos : Pos}
theorem pe_dnewK : PE X (.Dict [] [] pos) tDNewK := fun pins s σ H Q I h =>
  wpAny_Dict_empty ⟨.ref s.heap.objs.size, _, I.laid (a := s.heap.objs.size) (o := .dK []) (t' := s.toks) (fun _ _ q => Heap.get?_push_of_some _ q) (Nat.le_refl _) (dk_empty s.heap I.big), rfl, h _ (I.hok.fresh (Nat.le_refl _))⟩
end
def tPairs : List (TE × TE) → St → Hp → (List (V × V) → Hp → Prop) → Prop
  | [], _, H, Q => Q [] H
  | (tk, tv) :: r, σ, H, Q => tk σ H fun x H1 => tv σ H1 fun y H2 => tPairs r σ H2 fun ps H3 => Q ((x, y) :: ps) H3
def mergeK (kvs more : List (Key × V)) : List (Key × V) := more.foldl (fun acc kv => putK acc kv.1 kv.2) kvs
def tDisp (trs : List (TE × TE)) : TE := fun σ H Q => ∀ p, H p = none → tPairs trs σ (upd H p (.dK [])) fun ps H2 => H2 p = some (.dK []) ∧ ∃ kvs : List (Key × V), ps = kvs.map (fun kv => (kV kv.1, kv.2)) ∧ kvs.length ≤ 15 ∧ Q (.ref p) (upd H2 p (.dK (mergeK [] kvs)))
structure M1 (X : Cx) (o : Expr) (m : Str) (apos : Pos) (e : Expr) (cpos : Pos) : Prop where
  base : attributeBase o m X.env (eval o X.env) = eval o X.env
  few : ((backTo cpos (starEach [e] X.env)).all (fun x => !x.1) && (backToKw cpos (keywordEach [] X.env)).all (fun x => x.1.isSome)
    && decide (([e] : List Expr).length + ([] : List Keyword).length + (if ([] : List Keyword).isEmpty then 0 else 1) < 30)) = true
  line : (apos.endLine == cpos.line) = true
  trees : backTo cpos (starEach [e] X.env) = [(false, eval e X.env)]
structure M2 (X : Cx) (o : Expr) (m : Str) (apos : Pos) (e f : Expr) (cpos : Pos) : Prop where
  base : attributeBase o m X.env (eval o X.env) = eval o X.env
  few : ((backTo cpos (starEach [e, f] X.env)).all (fun x => !x.1) && (backToKw cpos (keywordEach [] X.env)).all (fun x => x.1.isSome)
    && decide (([e, f] : List Expr).length + ([] : List Keyword).length + (if ([] : List Keyword).isEmpty then 0 else 1) < 30)) = true
  line : (apos.endLine == cpos.line) = true
  trees : backTo cpos (starEach [e, f] X.env) = [(false, eval e X.env), (false, eval f X.env)]
section
variable {X : Cx} {pins : List (Addr × Obj)} {σ : St} {H : Hp} {s : Shared} {a : Addr} {y d : V} {u r : Value} {o : Option V} {A : Around} {E : Value → Shared → Prop}
end
section
variable {X : Cx} {o e f : Expr} {apos cpos : Pos} {td ty tx : TE}
end
section
variable {X : Cx} {pins : List (Addr × Obj)} {σ : St} {H : Hp} {s : Shared} {a : Addr} {kvs : List (Key × V)} {A : Around} {E : Value → Shared → Prop}
end
section
variable {X : Cx} {pins : List (Addr × Obj)} {σ : St} {H : Hp} {s : Shared} {a : Addr} {y : V} {u : Value} {A : Around} {E : Value → Shared → Prop}
end
end L2
namespace L2
open PySem PySem.Spec PyProof.Rows
section
variable {κ : Type} [DecidableEq κ]
end
end L2
namespace L2
open PySem PySem.Spec PyProof.Rows
section
variable {prog : Program} {w : World} {A : Around} {R : Result → Shared → Prop} {s : Shared}
abbrev testsOf (ifs : List Expr) (env : Env) : Sem Bool :=
  forIn ifs true fun c r => if r = true then do let ok ← isTrue c env (eval c env); pure (ForInStep.yield ok) else pure (ForInStep.yield r)
theorem compLoop_gen {elt target iter : Expr} {ifs : List Expr} {scope : Scope} {pos : Pos} {it acc : Value} {env : Env} {nE : Value → Shared → Prop} (hE : nE = notedBy (model prog w) A env fun e s' => R (.error e) s') (I : Nat → Shared → Prop)
    (turn : ∀ n s, I n s → wpAny (model prog w) A (pyNext it) (fun r s1 => match r with
      | none => R (.ok .next) s1
      | some v => wpAny (model prog w) A (letOwnedTupleGo target it v) (fun _ s1b => wpAny (model prog w) A (assign target env v) (fun _ s2 =>
          wpAny (model prog w) A (testsOf ifs env) (fun ok s3 =>
            if ok = true then wpAny (model prog w) A (eval elt env) (fun x s4 =>
              wpAny (model prog w) A (call (.builtin "list.append") [acc, x]) (fun _ s5 => ∃ m, m < n ∧ I m s5) nE s4) nE s3
            else ∃ m, m < n ∧ I m s3) nE s2) nE s1b) nE s1) nE s)
    (n : Nat) (h : I n s) :
    codeAny (model prog w) A (.compLoop (.ListComp elt [⟨target, iter, ifs, 0⟩] scope pos) 0 it acc env) R s := by
  subst hE
  refine codeAny_loop rfl I (fun n s hI => ?_) n h
  show wpAny _ A ((compTurn (.ListComp elt [⟨target, iter, ifs, 0⟩] scope pos) 0 it acc env).onRaise (fun x => do noteFrame x env; theTreesLotGoes x)) _ _ s
  refine wpAny_noted ?_
  rw [compTurn_list]
  refine wpAny_bind (wpAny_standAt (wpAny_bind (wpAny_mono (turn n s hI) (fun r s1 h1 => ?_) fun _ _ h' => h')))
  cases r with
  | none => exact wpAny_pure h1
  | some v =>
    refine wpAny_bind (wpAny_mono h1 (fun _ s1b h1b => ?_) fun _ _ h' => h')
    refine wpAny_bind (wpAny_mono h1b (fun _ s2 h2 => wpAny_bind (wpAny_mono h2 (fun ok s3 h3 => ?_) fun _ _ h' => h')) fun _ _ h' => h')
    cases ok with
    | false => exact wpAny_pure ⟨rfl, h3⟩
    | true =>
      exact wpAny_bind (wpAny_bind (wpAny_mono h3 (fun x s4 h4 => wpAny_bind (wpAny_mono h4 (fun _ s5 h5 => wpAny_pure (wpAny_pure ⟨rfl, h5⟩)) fun _ _ h' => h')) fun _ _ h' => h'))
end
def clOf (cells : List (Str × Addr)) : List (Str × NameKind) → List (Str × Addr) → List (Str × Addr)
  | [], acc => acc
  | (n, k) :: r, acc => clOf cells r (if k == NameKind.free then (n, (cells.lookup n).getD 0) :: acc else acc)
theorem closure_forIn (env : Env) : ∀ (names : List (Str × NameKind)) (acc : List (Str × Addr)), (∀ y ∈ names, y.2 = .free → ∃ c, env.cells.lookup y.1 = some c) →
    (forIn names acc fun x (r : List (Str × Addr)) => match x with
      | (name, kind) => if (kind == NameKind.free) = true then (do let a ← cellOf env name; pure (ForInStep.yield ((name, a) :: r))) else pure (ForInStep.yield r) : Sem (List (Str × Addr))) = pure (clOf env.cells names acc)
  | [], acc, _ => by simp [clOf]
  | (n, k) :: r, acc, h => by
    have ih := fun acc => closure_forIn env r acc fun y hy => h y (List.mem_cons_of_mem _ hy)
    rw [List.forIn_cons]
    unfold clOf
    by_cases hk : k = .free
    · subst hk
      obtain ⟨c, e⟩ := h (n, .free) List.mem_cons_self rfl
      simp only [beq_self_eq_true, if_true, cellOf, e, Option.getD_some, pure_bind]
      exact ih _
    · have hb : (k == NameKind.free) = false := by simpa using hk
      simp only [hb, Bool.false_eq_true, if_false, pure_bind]
      exact ih _
theorem closureFor_eq {scope : Scope} {env : Env} (h : ∀ y ∈ scope.names, y.2 = .free → ∃ c, env.cells.lookup y.1 = some c) : closureFor scope env = pure (clOf env.cells scope.names []) := by
  have e := closure_forIn env scope.names [] h
  unfold closureFor
  first
    | (rw [e]; rfl)
    | (simp only [bind_pure]; exact e)
    | (show (_ >>= _) = _; rw [e]; rfl)
theorem clOf_lookup {cells : List (Str × Addr)} {x : Str} {c : Addr} : ∀ (names : List (Str × NameKind)) (acc : List (Str × Addr)), (∀ y ∈ names, y.2 = .free → ∃ c, cells.lookup y.1 = some c) →
    (∀ d, acc.lookup x = some d → cells.lookup x = some d) → (clOf cells names acc).lookup x = some c → cells.lookup x = some c
  | [], acc, _, ha, e => ha c e
  | (n, k) :: r, acc, h, ha, e => by
    unfold clOf at e
    refine clOf_lookup r _ (fun y hy => h y (List.mem_cons_of_mem _ hy)) (fun d hd => ?_) e
    by_cases hk : k = .free
    · subst hk
      obtain ⟨c', e'⟩ := h (n, .free) List.mem_cons_self rfl
      have e2 : cells.lookup n = some c' := e'
      rw [if_pos (beq_self_eq_true _), e2] at hd
      cases hx : x == n with
      | true =>
        have : x = n := eq_of_beq hx
        subst this
        simp only [List.lookup_cons, hx, Option.getD_some] at hd
        rw [e2]
        exact hd
      | false =>
        simp only [List.lookup_cons, hx] at hd
        exact ha d hd
    · have hb : ¬ (k == NameKind.free) = true := by simpa using hk
      rw [if_neg hb] at hd
      exact ha d hd
theorem clOf_keeps {cells : List (Str × Addr)} {x : Str} : ∀ (names : List (Str × NameKind)) (acc : List (Str × Addr)), (acc.lookup x).isSome = true → ((clOf cells names acc).lookup x).isSome = true
  | [], _, h => h
  | (n, k) :: r, acc, h => by
    unfold clOf
    refine clOf_keeps r _ ?_
    by_cases hk : (k == NameKind.free) = true
    · rw [if_pos hk]
      cases hx : x == n with
      | true => simp only [List.lookup_cons, hx, Option.isSome_some]
      | false => simp only [List.lookup_cons, hx]; exact h
    · rw [if_neg hk]; exact h
theorem clOf_has {cells : List (Str × Addr)} {x : Str} : ∀ (names : List (Str × NameKind)) (acc : List (Str × Addr)), (x, NameKind.free) ∈ names → ((clOf cells names acc).lookup x).isSome = true
  | (n, k) :: r, acc, h => by
    unfold clOf
    rcases List.mem_cons.mp h with e | h
    · cases e
      refine clOf_keeps r _ ?_
      rw [if_pos (beq_self_eq_true _)]
      simp only [List.lookup_cons, beq_self_eq_true, Option.isSome_some]
    · exact clOf_has r _ h
theorem relab_lookup {env : Env} (x : Str) : ∀ names : List (Str × NameKind),
    (names.map fun (n, k) => if (k == NameKind.free && env.scope.kind == .function && env.kindOf n == some .cell) then (n, NameKind.cell) else (n, k)).lookup x =
      (names.lookup x).map fun k => if (k == NameKind.free && env.scope.kind == .function && env.kindOf x == some .cell) then NameKind.cell else k
  | [] => rfl
  | (n, k) :: r => by
    have ih := relab_lookup (env := env) x r
    rw [List.map_cons]
    cases hx : x == n with
    | true =>
      have : x = n := eq_of_beq hx
      subst this
      show List.lookup x ((if (k == NameKind.free && env.scope.kind == .function && env.kindOf x == some .cell) = true then (x, NameKind.cell) else (x, k)) :: _) = _
      by_cases hc : (k == NameKind.free && env.scope.kind == .function && env.kindOf x == some .cell) = true
      · rw [if_pos hc]; simp only [List.lookup_cons, hx, Option.map_some]; rw [if_pos hc]
      · rw [if_neg hc]; simp only [List.lookup_cons, hx, Option.map_some]; rw [if_neg hc]
    | false =>
      show List.lookup x ((if (k == NameKind.free && env.scope.kind == .function && env.kindOf n == some .cell) = true then (n, NameKind.cell) else (n, k)) :: _) = _
      by_cases hc : (k == NameKind.free && env.scope.kind == .function && env.kindOf n == some .cell) = true
      · rw [if_pos hc]; simp only [List.lookup_cons, hx]; exact ih
      · rw [if_neg hc]; simp only [List.lookup_cons, hx]; exact ih
structure CScope (own caps : List Str) (scope osc : Scope) : Prop where
  kind : scope.kind = .function
  nocell : ∀ y ∈ scope.names, y.2 ≠ .cell
  loc : ∀ y ∈ scope.names, y.2 = .local → scope.names.lookup y.1 = some .local
  fr : ∀ y ∈ scope.names, y.2 = .free → osc.names.lookup y.1 = some .cell ∨ osc.names.lookup y.1 = some .free
  cap : ∀ x ∈ caps, scope.names.lookup x = some .free
  nd : (own ++ caps).Nodup
def cxC (X : Cx) (scope : Scope) (N' : List Str) (C : Addr) (fp : List Addr) (s : Shared) (H : Hp) : Cx where
  prog := X.prog
  w := X.w
  K := X.K
  mg := X.mg
  base := X.base
  A := X.A
  N := N'
  s₀ := s
  H₀ := H
  env := compEnvC scope (clOf X.env.cells scope.names []) C X.env
  outer := X.stack
  stack := X.stack
  ex := fp
  fn := fun _ => false
  calm := X.calm
  pn := X.pn
  xe := fun _ _ => False
def cSt (n : Nat) (js : List Nat) (σ : St) : St := List.replicate n none ++ js.map fun j => (σ[j]?).join
def PF (X : Cx) (ifs : List Expr) (t : TT) : Prop :=
  ∀ (pins : List (Addr × Obj)) (s : Shared) (σ : St) (H : Hp) (Q : Bool → Hp → Prop), Inv X pins σ H s → t σ H Q → wpAny (model X.prog X.w) X.A (testsOf ifs X.env) (TP X pins σ Q) X.xe s
def tYes : TT := fun _ H Q => Q true H
theorem pf_nil {X : Cx} : PF X [] tYes := fun pins s σ H Q I h => by
  show wpAny _ _ (forIn [] true _) _ _ s
  rw [List.forIn_nil]
  exact wpAny_pure ⟨H, I, h⟩
def tComp (n : Nat) (js : List Nat) (wi : TI) (g : TG) (tc : TT) (te : TE) : TE := fun σ H Q => wi σ H fun J H1 => ∀ D, H1 D = none → ∃ W : Nat → Nat → List V → Hp → Prop, (∃ m, W 0 m [] (upd H1 D (.lst []))) ∧ ∀ i m acc H, W i m acc H →
  H D = some (.lst acc) ∧ ((J.stop i H ∧ Q (.ref D) H) ∨ (J.go i H ∧ acc.length < sizeLine ∧ ∃ Nx : List V → Hp → Prop, (∀ acc' H', Nx acc' H' → ∃ m', m' < m ∧ W (i + 1) m' acc' H') ∧
    ∀ x H', J.yld i H x H' → g x (cSt n js σ) H' fun σ2 H2 => σ2.drop n = (cSt n js σ).drop n ∧ tc σ2 H2 fun b H3 => if b = true then te σ2 H3 fun v H4 => H4 D = some (.lst acc) ∧ Nx (acc ++ [v]) (upd H4 D (.lst (acc ++ [v]))) else H3 D = some (.lst acc) ∧ Nx acc H3))
section
variable {X : Cx} {pins : List (Addr × Obj)} {σ : St} {H : Hp} {s : Shared}
abbrev capN (X : Cx) (js : List Nat) : List Str := js.map fun j => (X.N[j]?).getD Str.empty
theorem js_ok {X : Cx} {js : List Nat} (h : (js.all fun j => decide (j < X.N.length)) = true) : ∀ j ∈ js, ∃ x, X.N[j]? = some x := fun j hj => by
  have := of_decide_eq_true (List.all_eq_true.mp h j hj)
  exact ⟨X.N[j], List.getElem?_eq_getElem this⟩
theorem Inv.block {scope : Scope} {own : List Str} {js : List Nat} {fp : List Addr} {h' : Heap} {t' : Nat} {m : Str → Option Value} (I : Inv X pins σ H s) (S : CScope own (capN X js) scope X.env.scope) (hj : ∀ j ∈ js, ∃ x, X.N[j]? = some x)
    (hf : ∀ b ∈ fp, FpOk X pins H b) (hfo : ∀ b ∈ fp, ∃ o, s.heap.get? b = some o) (hn : h'.Ns s.heap.objs.size m) (hk : ∀ b o, s.heap.get? b = some o → h'.get? b = some o) :
    Inv (cxC X scope (own ++ capN X js) s.heap.objs.size fp s H) pins (cSt own.length js σ) H { s with heap := h', toks := t' } := by
  have hfr : ∀ y ∈ scope.names, y.2 = .free → ∃ c, X.env.cells.lookup y.1 = some c := fun y hy e => I.ok.has y.1 (S.fr y hy e)
  have hcl : ∀ x c, (clOf X.env.cells scope.names []).lookup x = some c → X.env.cells.lookup x = some c := fun x c e => clOf_lookup scope.names [] hfr (fun d z => nomatch z) e
  have hlt : ∀ b o, s.heap.get? b = some o → b ≠ s.heap.objs.size := fun b o e => Nat.ne_of_lt (Heap.lt_size e)
  have nstk : ∀ b, b ≠ X.env.locals → b ∉ X.fs → b ∉ frs X.stack := fun b h1 h2 hb => (List.mem_cons.mp (I.stkSub b hb)).elim h1 h2
  have hrl : ∀ x, (relabel scope X.env).names.lookup x = (scope.names.lookup x).map fun k => if (k == NameKind.free && X.env.scope.kind == .function && X.env.kindOf x == some .cell) then NameKind.cell else k := fun x => relab_lookup x scope.names
  refine ⟨⟨I.ok.mod, S.kind, I.ok.glob, I.ok.blt, Nat.le_refl _, fun x y c h1 h2 => I.ok.inj x y c (hcl x c h1) (hcl y c h2), fun x hx => ?_, (fun x c z => nomatch z), I.ok.hd, I.ok.frames, .inl rfl, fun b hb => ?_, I.bs, Nat.le_trans I.ok.bsz I.sz, fun b o e hb => ?_, fun b hb => ?_, I.stack, I.stkFree⟩,
    rfl, I.bare, Un.kept hk, ⟨m, hn, fun i x v h1 h2 h3 => ?_⟩, fun x c e => ?_, I.hok.fresh (Nat.le_refl _), fun x c e => I.freeC x c (hcl x c e), fun p hp => ?_, I.hok.kept hk, ?_⟩
  · have hx' : (relabel scope X.env).names.lookup x = some .cell ∨ (relabel scope X.env).names.lookup x = some .free := hx
    rw [hrl] at hx'
    cases e : scope.names.lookup x with
    | none => rw [e] at hx'; rcases hx' with z | z <;> cases z
    | some k =>
      have hm : (x, k) ∈ scope.names := PySem.mem_of_lookup e
      have hkf : k = .free := by
        rw [e] at hx'
        cases k with
        | free => rfl
        | cell => exact absurd rfl (S.nocell _ hm)
        | _ => exfalso; revert hx'; simp
      subst hkf
      exact Option.isSome_iff_exists.mp (clOf_has scope.names [] hm)
  · obtain ⟨o, e⟩ := hfo b hb
    obtain ⟨_, _, _, _, f4, _⟩ := hf b hb
    exact ⟨hlt b o e, fun x c z => f4 x c (hcl x c z)⟩
  · obtain ⟨_, _, _, f3, _⟩ := hf b hb
    rcases f3 with z | z
    · exact I.ok.noex b o e z
    · exact absurd (Nat.lt_of_lt_of_le (Heap.lt_size (I.ok.bs b o e).1) z) (Nat.lt_irrefl _)
  · obtain ⟨_, f1, f2, _⟩ := hf b hb
    exact nstk b f1 f2
  ·
    have h1' : (own ++ capN X js)[i]? = some x := h1
    have hi : own.length ≤ i := by
      rcases Nat.lt_or_ge i own.length with z | z
      · exfalso
        unfold cSt at h2
        rw [List.getElem?_append_left (by simpa using z), List.getElem?_replicate] at h2
        split at h2 <;> cases h2
      · exact z
    rw [List.getElem?_append_right hi] at h1'
    unfold cSt at h2
    rw [List.getElem?_append_right (by simpa using hi), List.length_replicate, List.getElem?_map] at h2
    unfold capN at h1'
    rw [List.getElem?_map] at h1'
    cases ej : js[i - own.length]? with
    | none => rw [ej] at h2; cases h2
    | some j =>
      rw [ej] at h1' h2
      obtain ⟨y, ey⟩ := hj j (List.mem_of_getElem? ej)
      have exy : y = x := by
        have z : some ((X.N[j]?).getD Str.empty) = some x := h1'
        rw [ey] at z
        exact Option.some.inj z
      subst exy
      have es : σ[j]? = some (some v) := by
        have z : some ((σ[j]?).join) = some (some v) := h2
        cases q : σ[j]? with
        | none => rw [q] at z; cases z
        | some o => rw [q] at z; cases o with
          | none => cases z
          | some v' => cases z; rfl
      have hcap : y ∈ capN X js := List.mem_map.mpr ⟨j, List.mem_of_getElem? ej, by rw [ey]; rfl⟩
      have hfree : scope.names.lookup y = some .free := S.cap y hcap
      have hm : (y, NameKind.free) ∈ scope.names := PySem.mem_of_lookup hfree
      have ho := S.fr _ hm rfl
      obtain ⟨m0, hn0, hl0⟩ := I.loc
      obtain ⟨u, r, l⟩ := hl0 j y v ey es (ho.elim (fun z => .inr (.inl z)) fun z => .inr (.inr z))
      refine ⟨u, r, .inr ⟨?_, ?_⟩⟩
      · show (relabel scope X.env).names.lookup y = _ ∨ (relabel scope X.env).names.lookup y = _
        rw [hrl, hfree, Option.map_some]
        by_cases hcc : (NameKind.free == NameKind.free && X.env.scope.kind == .function && X.env.kindOf y == some .cell) = true
        · rw [if_pos hcc]; exact .inl rfl
        · rw [if_neg hcc]; exact .inr rfl
      · rcases l with ⟨k, _⟩ | ⟨_, c, e, z⟩
        · have k' : X.env.scope.names.lookup y = some .local := k
          rcases ho with z | z <;> (rw [k'] at z; cases z)
        · obtain ⟨c', e'⟩ := Option.isSome_iff_exists.mp (clOf_has (cells := X.env.cells) scope.names [] hm)
          have := hcl y c' e'
          rw [e] at this
          cases this
          refine ⟨c, e', ?_⟩
          obtain ⟨oc, ho', hd⟩ := z
          exact ⟨oc, hk c oc ho', hd⟩
  · obtain ⟨v, o, ho, hd⟩ := I.cell x c (hcl x c e)
    exact ⟨v, o, hk c o ho, hd⟩
  · obtain ⟨e, n, ne, nf, d⟩ := I.pin p hp
    exact ⟨hk _ _ e, n, hlt _ _ e, nstk p.1 ne nf, d⟩
  · unfold cSt
    show _ = (own ++ capN X js).length
    simp
theorem Inv.unblock {scope : Scope} {N' : List Str} {fp : List Addr} {σb : St} {H' : Hp} {s' : Shared} {h' : Heap} (I : Inv X pins σ H s) (hf : ∀ b ∈ fp, FpOk X pins H b)
    (B : Inv (cxC X scope N' s.heap.objs.size fp s H) pins σb H' s') (hs : Heap.SameBut s.heap.objs.size s'.heap h') : Inv X pins σ H' { s' with heap := h' } := by
  have hlt : ∀ b o, s.heap.get? b = some o → b ≠ s.heap.objs.size := fun b o e => Nat.ne_of_lt (Heap.lt_size e)
  have hu : Un (frs X.stack) fp H H' s.heap s'.heap := B.base
  have hfree : H' s.heap.objs.size = none := B.free
  refine I.call' (s' := { s' with heap := h' }) (ch := fp) B.os ⟨fun b o e n hb hx => ?_, fun b o e n hb hx => ?_, hu.free, fun b o e hx => ?_, hu.tups, hu.frzs, hu.tbls⟩ (fun b u e => ?_) B.bare fun b hb => ?_
  · exact (hs.2 b (hlt b o e)).trans (hu.keep b o e n hb hx)
  · obtain ⟨sl, z⟩ := hu.slot b o e n hb hx
    exact ⟨sl, (hs.2 b (hlt b o e)).trans z⟩
  · obtain ⟨o', z⟩ := hu.there b o e hx
    exact ⟨o', (hs.2 b (hlt b o e)).trans z⟩
  · refine (B.hok b u e).stay (fun c v hc q => (hs.2 c ?_).trans q) (fun _ q => q) fun _ _ q => q
    rintro rfl
    rcases hc with z | z
    · rw [← z, hfree] at e; cases e
    · rw [hfree] at z; cases z
  · obtain ⟨_, f1, f2, f3, f4, f5⟩ := hf b hb
    exact ⟨f3, f1, f4, f5⟩
end
section
variable {X : Cx} {elt tg iter : Expr} {ifs : List Expr} {scope : Scope} {pos : Pos} {own : List Str} {js : List Nat} {wi : TI} {g : TG} {tc : TT} {te : TE}
theorem comp_core (hc : X.calm = true) (S : CScope own (capN X js) scope X.env.scope) (hj : ∀ j ∈ js, ∃ x, X.N[j]? = some x) (hi : PI X tg iter wi)
    (hg : ∀ C fp s H, PG (cxC X scope (own ++ capN X js) C fp s H) tg g) (ht : ∀ C fp s H, PF (cxC X scope (own ++ capN X js) C fp s H) ifs tc) (he : ∀ C fp s H, PE (cxC X scope (own ++ capN X js) C fp s H) elt te)
    {pins : List (Addr × Obj)} {σ : St} {H : Hp} {s : Shared} {Q : VK} (I : Inv X pins σ H s) (h : tComp own.length js wi g tc te σ H Q) {RR : Value → Addr → Result → Shared → Prop}
    (hRR : ∀ D C s' m H', s'.heap.Ns C m → H' C = none → C ≠ X.env.locals → C ∉ X.fs → (∀ x c, X.env.cells.lookup x = some c → c ≠ C) → X.s₀.heap.objs.size ≤ C → (∀ p ∈ X.pn ++ pins, p.1 ≠ C) → (∀ h', Heap.SameBut C s'.heap h' → Inv X pins σ H' { s' with heap := h' }) → Q (.ref D) H' → RR (.ref D) C (.ok .next) s') :
    wpAny (model X.prog X.w) X.A (eval iter X.env) (fun x s1 => wpAny (model X.prog X.w) X.A (pyIter x) (fun it s2 => wpAny (model X.prog X.w) X.A (newList []) (fun acc s3 =>
      wpAny (model X.prog X.w) X.A (newFunctionEnv scope X.env.globals (clOf X.env.cells scope.names []) [] X.env.qual none .none (some X.env)) (fun cenv s4 =>
        codeAny (model X.prog X.w) X.A (.compStart (.ListComp elt [⟨tg, iter, ifs, 0⟩] scope pos) 0 it acc { cenv with scope := relabel scope X.env }) (RR acc cenv.locals) s4) X.xe s3) X.xe s2) X.xe s1) X.xe s := by
  refine thn (hi pins s σ H _ I h) fun v s1 h1 => thn h1 fun itv s2 h2 => ?_
  obtain ⟨it, fp, tn, J, H2, e, I2, T, st2, f2, hq⟩ := h2
  subst e
  refine wpAny_newList ?_ (by simp)
  have I3 := I2.lnew (t' := s2.toks) (ys := []) (its := []) .nil (by simp)
  have hDn : H2 s2.heap.objs.size = none := I2.fresh
  generalize hD : s2.heap.objs.size = D at I3 hDn ⊢
  generalize hH3 : upd H2 D (.lst []) = H3 at I3
  generalize hs3 : ({ s2 with heap := s2.heap.push { cls := .type "list", data := .seq ([] : List Value).toArray }, toks := s2.toks } : Shared) = s3 at I3
  have k3 : ∀ b o, s2.heap.get? b = some o → s3.heap.get? b = some o := fun b o e => by rw [← hs3]; exact Heap.get?_push_of_some _ e
  have st3 : tn 0 s3.heap := T.keep _ _ _ st2 fun b _ o e => k3 b o e
  have fo2 : ∀ b ∈ fp, ∃ o, s2.heap.get? b = some o := fun b hb => (T.obj _ _ st2 b hb).imp fun _ z => z.1
  have neD : ∀ b ∈ fp, b ≠ D := fun b hb => by
    obtain ⟨o, e⟩ := fo2 b hb
    rw [← hD]
    exact Nat.ne_of_lt (Heap.lt_size e)
  have f3 : ∀ b ∈ fp, FpOk X pins H3 b := fun b hb => by
    obtain ⟨a0, a1⟩ := f2 b hb
    exact ⟨by rw [← hH3, upd_ne (neD b hb)]; exact a0, a1⟩
  have fo3 : ∀ b ∈ fp, ∃ o, s3.heap.get? b = some o := fun b hb => (fo2 b hb).imp fun o e => k3 b o e
  obtain ⟨W, ⟨m0, w0⟩, turn⟩ := hq D hDn
  rw [hH3] at w0
  refine wpAny_newFunctionEnv S.nocell (by intro y hy; simp at hy) (fun h4 hns4 hsb4 => ?_) S.kind
  have k4 : ∀ b o, s3.heap.get? b = some o → h4.get? b = some o := fun b o e => hsb4.extBut b o (Nat.ne_of_lt (Heap.lt_size e)) (Heap.get?_push_of_some _ e)
  have B4 := I3.block (t' := s3.toks + ([] : List (Str × Value)).length) S hj f3 fo3 hns4 k4
  have st4 : tn 0 h4 := T.keep _ _ _ st3 fun b _ o e => k4 b o e
  have f4 : ∀ b ∈ fp, FpOk (cxC X scope (own ++ capN X js) s3.heap.objs.size fp s3 H3) pins H3 b := fun b hb => by
    obtain ⟨a0, a1, a2, a3, a4, a5⟩ := f3 b hb
    obtain ⟨o, e⟩ := fo3 b hb
    exact ⟨a0, (B4.ok.exf b hb).1, B4.ok.exfs b hb, .inl hb, (B4.ok.exf b hb).2, a5⟩
  have nL : s3.heap.objs.size ≠ X.env.locals := Nat.ne_of_gt I3.lt
  have nF : s3.heap.objs.size ∉ X.fs := I3.nofs (Nat.le_refl _)
  have nC : ∀ x c, X.env.cells.lookup x = some c → c ≠ s3.heap.objs.size := fun x c e => by
    obtain ⟨_, o, ho, _⟩ := I3.cell x c e
    exact Nat.ne_of_lt (Heap.lt_size ho)
  have loop : ∀ s5 : Shared, s5 = { s3 with heap := h4, toks := s3.toks + ([] : List (Str × Value)).length } →
      codeAny (model X.prog X.w) X.A (.compLoop (.ListComp elt [⟨tg, iter, ifs, 0⟩] scope pos) 0 (.ref it) (.ref D) (compEnvC scope (clOf X.env.cells scope.names []) s3.heap.objs.size X.env)) (RR (.ref D) s3.heap.objs.size) s5 := by
    rintro s5 rfl
    have stat : ∀ {H' : Hp}, (∀ b ∈ fp, H' b = none) → ∀ b ∈ fp, FpOk (cxC X scope (own ++ capN X js) s3.heap.objs.size fp s3 H3) pins H' b := fun hn b hb => ⟨hn b hb, (f4 b hb).2⟩
    refine compLoop_gen rfl (fun n s' => ∃ i acc H', Inv (cxC X scope (own ++ capN X js) s3.heap.objs.size fp s3 H3) pins (cSt own.length js σ) H' s' ∧ tn i s'.heap ∧ (∀ b ∈ fp, H' b = none) ∧ W i n acc H') ?_ m0
      ⟨0, [], H3, B4, st4, fun b hb => (f3 b hb).1, w0⟩
    rintro n s6 ⟨i, acc, H6, B6, st6, fr6, w6⟩
    obtain ⟨hacc, way⟩ := turn i n acc H6 w6
    rcases way with ⟨stop, q⟩ | ⟨go, hz, Nx, hN, step⟩
    · refine thn (T.done (cxC X scope (own ++ capN X js) s3.heap.objs.size fp s3 H3) rfl rfl rfl hc i pins s6 _ H6 _ B6 (stat fr6) st6 stop) fun r s7 ⟨hr, B7⟩ => ?_
      subst hr
      obtain ⟨m, hm, _⟩ := B7.loc
      exact hRR D _ s7 m H6 hm B7.free nL nF nC I3.sz (fun p hp => Nat.ne_of_lt (Heap.lt_size (I3.pin p hp).1)) (fun h' hs => I3.unblock f3 B7 hs) q
    · refine thn (T.item (cxC X scope (own ++ capN X js) s3.heap.objs.size fp s3 H3) rfl rfl rfl hc i pins s6 _ H6 _ B6 (stat fr6) st6 go) fun r s7 ⟨u, hr, h7⟩ => ?_
      subst hr
      refine thn h7 fun _ s8 ⟨x, H8, B8, r8, y8, st8, fr8⟩ => ?_
      have B8' := B8.pinned (stat fr8) (T.obj _ _ st8)
      have away : ∀ {s9 : Shared} {σ9 : St} {H9 : Hp} {acc' : List V}, Inv (cxC X scope (own ++ capN X js) s3.heap.objs.size fp s3 H3) (pins ++ pinsAt fp s8.heap) σ9 H9 s9 → σ9.drop own.length = (cSt own.length js σ).drop own.length → Nx acc' H9 →
          ∃ m', m' < n ∧ ∃ i acc H', Inv (cxC X scope (own ++ capN X js) s3.heap.objs.size fp s3 H3) pins (cSt own.length js σ) H' s9 ∧ tn i s9.heap ∧ (∀ b ∈ fp, H' b = none) ∧ W i m' acc H' := fun {s9 σ9 H9 acc'} B9 hd nx => by
        obtain ⟨m', hm, w9⟩ := hN acc' H9 nx
        refine ⟨m', hm, i + 1, acc', H9, B9.unpinned.weak ?_ ?_, T.keep _ _ _ st8 fun b hb o e => (B9.pin (b, o) (List.mem_append_right _ (List.mem_append_right _ (mem_pinsAt hb e)))).1, fun b hb => ?_, w9⟩
        · rw [B9.len, B6.len]
        · intro k v hv
          unfold cSt at hv
          have hk : own.length ≤ k := by
            rcases Nat.lt_or_ge k own.length with z | z
            · exfalso
              rw [List.getElem?_append_left (by simpa using z), List.getElem?_replicate] at hv
              split at hv <;> cases hv
            · exact z
          have e1 : σ9[k]? = (σ9.drop own.length)[k - own.length]? := by rw [List.getElem?_drop]; congr 1; omega
          rw [e1, hd, List.getElem?_drop]
          have e2 : own.length + (k - own.length) = k := by omega
          rw [e2]
          exact hv
        · obtain ⟨o, e, d⟩ := T.obj _ _ st8 b hb
          exact (B9.pin (b, o) (List.mem_append_right _ (List.mem_append_right _ (mem_pinsAt hb e)))).2.1
      refine wpAny_mono (hg _ _ _ _ _ s8 _ H8 x u _ B8' r8 (step x H8 y8)) (fun _ s9 ⟨σ9, H9, B9, hd9, q9⟩ => ?_) fun _ _ f => f.elim
      refine wpAny_mono (ht _ _ _ _ _ s9 σ9 H9 _ B9 q9) (fun b s10 ⟨H10, B10, q10⟩ => ?_) fun _ _ f => f.elim
      cases b with
      | false =>
        rw [if_neg Bool.false_ne_true] at q10 ⊢
        exact away B10 hd9 q10.2
      | true =>
        rw [if_pos rfl] at q10 ⊢
        refine wpAny_mono (he _ _ _ _ _ s10 σ9 H10 _ B10 q10) (fun y s11 ⟨z, H11, B11, r11, q11⟩ => ?_) fun _ _ f => f.elim
        obtain ⟨hl11, nx⟩ := q11
        refine wpAny_mono (mt_append (X := cxC X scope (own ++ capN X js) s3.heap.objs.size fp s3 H3) _ s11 σ9 H11 (.ref D) [z] (.ref D) [y] (fun _ H12 => Nx (acc ++ [z]) H12) B11 rfl (.cons r11 .nil) ⟨D, acc, z, rfl, rfl, hl11, hz, nx⟩) (fun _ s12 ⟨_, H12, B12, _, q12⟩ => ?_) fun _ _ f => f.elim
        exact away B12 hd9 q12
  exact codeAny_compStart_list (loop _ rfl) (T.self X.A 0 _ _ _ st4 (loop _ rfl))
theorem pe_comp (own caps : List Str) (js : List Nat) (hc : X.calm = true) {osc : Scope} (S : CScope own caps scope osc) (hi : PI X tg iter wi)
    (hg : ∀ C fp s H, PG (cxC X scope (own ++ caps) C fp s H) tg g) (ht : ∀ C fp s H, PF (cxC X scope (own ++ caps) C fp s H) ifs tc) (he : ∀ C fp s H, PE (cxC X scope (own ++ caps) C fp s H) elt te)
    (ho : X.env.scope = osc := by rfl) (hcp : capN X js = caps := by rfl) (hj : (js.all fun j => decide (j < X.N.length)) = true := by rfl)
    (hs : ∀ x, foldedSetIterable iter X.env x = pure x := by intro _; rfl) : PE X (.ListComp elt [⟨tg, iter, ifs, 0⟩] scope pos) (tComp own.length js wi g tc te) := by
  subst ho
  subst hcp
  intro pins s σ H Q I h
  have hfr : ∀ y ∈ scope.names, y.2 = .free → ∃ c, X.env.cells.lookup y.1 = some c := fun y hy e => I.ok.has y.1 (S.fr y hy e)
  rw [eval_ListComp]
  refine wpAny_comprehension_free (use := none) rfl hs (closureFor_eq hfr) S.kind S.loc ?_
  refine comp_core hc S (js_ok hj) hi hg ht he I h (RR := fun acc C => compPost (model X.prog X.w) X.A X.xe none (EP X pins σ Q) acc C) ?_
  intro D C s' m H' hn hf h1 h2 h3 h4 h5 hI hq
  exact ⟨m, hn, fun h' hs' => ⟨.ref D, H', hI h' hs', rfl, hq⟩⟩
end
end L2
namespace L2
open PySem PySem.Spec PyProof.Rows
mutual
inductive Has (K : PySem.W.Frag) (H : Hp) : V → PyData → Prop
  | non : Has K H .non .none
  | bl (b : Bool) : Has K H (.bl b) (.bool b)
  | int (i : Int) : Has K H (.int i) (.int i)
  | str (x : Str) : Has K H (.str x) (.str x)
  | lst {a : Addr} {xs : List V} {ds : List PyData} : SqL K H a xs → HasAll K H xs ds → Has K H (.ref a) (.list ds)
  | tup {a : Addr} {xs : List V} {ds : List PyData} : SqT K H a xs → HasAll K H xs ds → Has K H (.ref a) (.tuple ds)
inductive HasAll (K : PySem.W.Frag) (H : Hp) : List V → List PyData → Prop
  | nil : HasAll K H [] []
  | cons {x : V} {xs : List V} {d : PyData} {ds : List PyData} : Has K H x d → HasAll K H xs ds → HasAll K H (x :: xs) (d :: ds)
end
section
variable {X : Cx} {pins : List (Addr × Obj)} {σ : St} {H : Hp} {s : Shared}
mutual
theorem Has.reads (I : Inv X pins σ H s) : ∀ {x : V} {d : PyData} {u : Value}, Has X.K H x d → RelV x u → ∃ as, Reads s.heap u d as
  | _, _, _, .non, r => by cases r; exact ⟨_, .none⟩
  | _, _, _, .bl b, r => by cases r; exact ⟨_, .bool b⟩
  | _, _, _, .int i, r => by obtain ⟨t, rfl⟩ := r; exact ⟨_, .int i t⟩
  | _, _, _, .str x, r => by obtain ⟨t, rfl⟩ := r; exact ⟨_, .str x t⟩
  | _, _, _, .lst h hs, r => by
    cases r
    obtain ⟨its, rv, ⟨o, n, ho, hc, hd, hs'⟩, hz⟩ := I.list h
    obtain ⟨as, ra⟩ := HasAll.reads I hs rv
    exact ⟨_, .list ho hc hs' ra⟩
  | _, _, _, .tup h hs, r => by
    cases r
    obtain ⟨its, rv, ⟨o, ho, hc, n, hs'⟩, hz⟩ := I.tuple h
    obtain ⟨as, ra⟩ := HasAll.reads I hs rv
    exact ⟨_, .tuple ho hc hs' ra⟩
theorem HasAll.reads (I : Inv X pins σ H s) : ∀ {xs : List V} {ds : List PyData} {us : List Value}, HasAll X.K H xs ds → Vals xs us → ∃ as, ReadsAll s.heap us ds as
  | _, _, _, .nil, r => by cases r; exact ⟨_, .nil⟩
  | _, _, _, .cons h hs, .cons r rs => by
    obtain ⟨as, ra⟩ := Has.reads I h r
    obtain ⟨bs, rb⟩ := HasAll.reads I hs rs
    exact ⟨_, .cons ra rb⟩
end
end
def rEqD (K : PySem.W.Frag) : R2 := fun x y H Q => ∃ d e, Has K H x d ∧ Has K H y e ∧ SeqAt.shaped d = true ∧ SeqAt.shaped e = true ∧ Q (.bl (PyData.eqv d e)) H
def rNeD (K : PySem.W.Frag) : R2 := fun x y H Q => ∃ d e, Has K H x d ∧ Has K H y e ∧ SeqAt.shaped d = true ∧ SeqAt.shaped e = true ∧ Q (.bl (!PyData.eqv d e)) H
section
variable {X : Cx}
theorem op_eqD (hu : X.A.units + 64 < cLine) : OpR X (compareOp .Eq) (rEqD X.K) := by
  intro pins s σ H x y v u Q I rx ry h
  obtain ⟨d, e, hd, he, sd, se, q⟩ := h
  obtain ⟨as, ra⟩ := hd.reads I rx
  obtain ⟨bs, rb⟩ := he.reads I ry
  exact SeqAt.compareEq_reads ra rb (SeqAt.canLay_of_shaped sd) (SeqAt.canLay_of_shaped se) (SeqAt.room_of_shaped sd hu) ⟨.bl _, H, I, rfl, q⟩
theorem op_neD (hu : X.A.units + 64 < cLine) : OpR X (compareOp .NotEq) (rNeD X.K) := by
  intro pins s σ H x y v u Q I rx ry h
  obtain ⟨d, e, hd, he, sd, se, q⟩ := h
  obtain ⟨as, ra⟩ := hd.reads I rx
  obtain ⟨bs, rb⟩ := he.reads I ry
  exact SeqAt.compareNe_reads ra rb (SeqAt.canLay_of_shaped sd) (SeqAt.canLay_of_shaped se) (SeqAt.room_of_shaped sd hu) ⟨.bl _, H, I, rfl, q⟩
theorem vals_bl : ∀ {bs : List Bool} {us : List Value}, Vals (bs.map V.bl) us → us = bs.map Value.bool
  | [], _, r => by cases r; rfl
  | b :: bs, _, .cons r t => by
    cases r
    rw [vals_bl t]
    rfl
theorem range_all (bs : List Bool) : (List.range bs.length).all (fun i => bs.getD i false) = bs.all id := by
  rw [Bool.eq_iff_iff, List.all_eq_true, List.all_eq_true]
  constructor
  · intro h b hb
    obtain ⟨i, hi, e⟩ := List.mem_iff_getElem.mp hb
    have := h i (List.mem_range.mpr hi)
    rw [List.getD_eq_getElem?_getD, List.getElem?_eq_getElem hi] at this
    rw [← e]; exact this
  · intro h i hi
    have hi := List.mem_range.mp hi
    rw [List.getD_eq_getElem?_getD, List.getElem?_eq_getElem hi]
    exact h _ (List.getElem_mem hi)
theorem truthOf_bools (prog : Program) (w : World) (A : Around) (bs : List Bool) : TruthOf prog w A (fun i v => ((bs.map Value.bool).toArray)[i]? = some v) fun i => bs.getD i false := by
  intro i v s Q E hP hQ
  simp only [List.getElem?_toArray, List.getElem?_map] at hP
  cases e : bs[i]? with
  | none => rw [e] at hP; cases hP
  | some b =>
    rw [e] at hP
    cases hP
    dsimp only at hQ
    rw [List.getD_eq_getElem?_getD, e] at hQ
    exact wpAny_truthy_bool hQ
theorem call_all (hc : X.calm = true) : CallR X (.builtin "all") (fun xs H Q => ∃ (p : Addr) (bs : List Bool), xs = [.ref p] ∧ SqL X.K H p (bs.map V.bl) ∧ Q (.bl (bs.all id)) H) := by
  intro pins s σ H xs us Q I r h
  obtain ⟨p, bs, rfl, hq, q⟩ := h
  obtain ⟨u, rfl, rx⟩ := vals1 r
  cases rx
  obtain ⟨its, rv, pl, hz⟩ := I.list hq
  have e := vals_bl rv
  subst e
  have hne : p ≠ s.heap.objs.size := by obtain ⟨o, n, ho, _⟩ := pl; exact Nat.ne_of_lt (Heap.lt_size ho)
  refine call_all_walk (wpAny_pyIter_list pl.isList ?_)
  refine ⟨_, _, _, _, _, _, fun i => bs.getD i false, rfl, Walks.list (A := X.A.in1) (show X.A.in1.handled = none from I.ok.hd hc) s.heap.objs.size p hne (bs.map Value.bool).toArray, ⟨⟨_, Heap.get?_push_size _ rfl, rfl, rfl⟩, (pl.keeps fun b o e => Heap.get?_push_of_some _ e).isList⟩, truthOf_bools _ _ _ bs, fun h' tk hk => ?_⟩
  refine ⟨.bl (bs.all id), H, I.kept (t' := tk) fun b o e => hk b o (by simp; exact Nat.ne_of_lt (Heap.lt_size e)) (Heap.get?_push_of_some _ e), ?_, q⟩
  show Value.bool _ = Value.bool _
  rw [← range_all]
  simp
def clsV : V → Value
  | .ty n => .type n
  | .ref a => .ref a
  | _ => .none
theorem call_isinst : CallR X (.builtin "isinstance") (fun xs H Q => ∃ x c t b, xs = [x, c] ∧ (∃ n, c = .ty n) ∧ TyOf X.K H x t ∧ PySem.W.kitOne X.K t (clsV c) = some b ∧ Q (.bl b) H) := by
  intro pins s σ H xs us Q I r h
  obtain ⟨x, c, t, b, rfl, ⟨n, rfl⟩, ty, e, q⟩ := h
  obtain ⟨u, w', rfl, rx, rc⟩ := vals2 r
  cases rc
  exact isinst_ok I rx ty e fun tk => ⟨.bl b, H, I.tok _, rfl, q⟩
end
end L2
namespace L2
open PySem PySem.Spec PyProof.Rows
def Def (K : PySem.W.Frag) (mg : Str → Option Value) (x : Str) (st : Stmt) : Prop := ∃ f fd, mg x = some (.ref f) ∧ Fun K x x st f fd
def Own (P : Program) (w : World) (K : PySem.W.Frag) (mg : Str → Option Value) (base : Heap) (k : Nat) (x : Str) (ps : List Str) (sp : Sp) : Prop :=
  ∃ f fd, mg x = some (.ref f) ∧ PySem.W.keepIn K (.ref f) = true ∧ Binds K fd ps [] ∧ FnOk P w K mg base CX0 k f fd ps sp
theorem Def.own {P : Program} {w : World} {K : PySem.W.Frag} {mg : Str → Option Value} {base : Heap} {x : Str} {st : Stmt} {N ps : List Str} {k : Nat} {sp : Sp} (D : Def K mg x st) (S : FnScope N ps (defScope st))
    (hb : ∀ (kV doc pm : Value) (an : Option Addr) (cdv ct : Value) (us : List Value), us.length = ps.length → bindArgs (PySem.W.fnOf x x (defArgs st) (defBody st) (defScope st) .none kV doc pm an cdv ct) ⟨us, []⟩ = pure (ps.zip us))
    (len : ∀ vs H Q E, sp vs H Q E → vs.length = ps.length)
    (hbody : ∀ (f : Addr) (cdv : Value) (A : Around) (outer : List Env) (s : Shared) (H : Hp) (vs : List V) (Q : VK) (E : XK), Room k (A.deeper (envOfC x (defScope st) s.heap.objs.size f cdv)) → sp vs H Q E →
      ∃ t, PSs (cxOf CX0 P w K mg base N x (defScope st) f cdv A outer s H E).nox (defBody st) t ∧ t { nx := fun _ H' => Q .non H', rt := Q } (start N vs) H) : Own P w K mg base (k + 1) x ps sp := by
  obtain ⟨f, fd, hm, F⟩ := D
  exact ⟨f, fd, hm, F.kp, F.binds hb, F.ok S len (hbody f)⟩
theorem def_mk {K : PySem.W.Frag} {h : Heap} {mg : Str → Option Value} (X : K.In h) (G : h.Ns mainGlobals mg) {x : Str} {st : Stmt} {f : Addr} {oc : Value} {od an : Option Addr} {osl : Array (Option Value)} {kV doc pm cdv ct : Value}
    (a : PySem.W.nsIn K mainGlobals x = some (some (.ref f)))
    (l : K.lookup f = some ⟨oc, od, .func (PySem.W.fnOf x x (defArgs st) (defBody st) (defScope st) .none kV doc pm an cdv ct), osl⟩) (c : PySem.W.codeIn K cdv x = true) (k : PySem.W.keepIn K (.ref f) = true) : Def K mg x st :=
  ⟨f, _, PySem.W.mg_of X G a, fun_mk l c k⟩
section
variable {X : Cx} {j k : Nat} {x : Str} {ps : List Str} {sp : Sp} {p pos : Pos} {e : Expr} {es : List Expr} {t : TA}
theorem pe_fn (F : Own X.prog X.w X.K X.mg X.base j x ps sp) (hr : Room k X.A) (ha : PA X (e :: es) t) (hk : j ≤ k := by decide) (hg : Gl X x := by rfl)
    (hdb : (x == ("__debug__" : Str)) = false := by decide) (he : starEach (e :: es) X.env = (false, eval e X.env) :: starEach es X.env := by rfl) (hpl : (backTo pos (starEach es X.env)).any (·.1) = false := by rfl) :
    PE X (.Call (.Name x p) (e :: es) [] pos) (tCall sp [] E0 t) := by
  obtain ⟨f, fd, hm, kp, hb, F⟩ := F
  exact pe_call F (hr.mono hk) hg hm kp hb .nil pass0 ha hdb he hpl
end
def Blt (mg : Str → Option Value) : Prop := ∀ x : Str, x ∈ (["len", "any", "all", "max", "min", "isinstance", "list", "tuple", "int", "bool", "str", "dict", "range"] : List Str) → mg x = none
theorem blt_mk {K : PySem.W.Frag} {h : Heap} {mg : Str → Option Value} (X : K.In h) (G : h.Ns mainGlobals mg) (z0 : PySem.W.nsIn K mainGlobals "len" = some none) (z1 : PySem.W.nsIn K mainGlobals "any" = some none) (z2 : PySem.W.nsIn K mainGlobals "all" = some none) (z3 : PySem.W.nsIn K mainGlobals "max" = some none) (z4 : PySem.W.nsIn K mainGlobals "min" = some none) (z5 : PySem.W.nsIn K mainGlobals "isinstance" = some none) (z6 : PySem.W.nsIn K mainGlobals "list" = some none) (z7 : PySem.W.nsIn K mainGlobals "tuple" = some none) (z8 : PySem.W.nsIn K mainGlobals "int" = some none) (z9 : PySem.W.nsIn K mainGlobals "bool" = some none) (z10 : PySem.W.nsIn K mainGlobals "str" = some none) (z11 : PySem.W.nsIn K mainGlobals "dict" = some none) (z12 : PySem.W.nsIn K mainGlobals "range" = some none) : Blt mg := by
  intro x hx
  simp only [List.mem_cons, List.not_mem_nil, or_false] at hx
  rcases hx with rfl | rfl | rfl | rfl | rfl | rfl | rfl | rfl | rfl | rfl | rfl | rfl | rfl
  · exact PySem.W.mg_none_of X G z0
  · exact PySem.W.mg_none_of X G z1
  · exact PySem.W.mg_none_of X G z2
  · exact PySem.W.mg_none_of X G z3
  · exact PySem.W.mg_none_of X G z4
  · exact PySem.W.mg_none_of X G z5
  · exact PySem.W.mg_none_of X G z6
  · exact PySem.W.mg_none_of X G z7
  · exact PySem.W.mg_none_of X G z8
  · exact PySem.W.mg_none_of X G z9
  · exact PySem.W.mg_none_of X G z10
  · exact PySem.W.mg_none_of X G z11
  · exact PySem.W.mg_none_of X G z12
theorem bt_len : bootBuiltins "len" = some (.builtin "len") := by decide +kernel
theorem bt_all : bootBuiltins "all" = some (.builtin "all") := by decide +kernel
theorem bt_isinstance : bootBuiltins "isinstance" = some (.builtin "isinstance") := by decide +kernel
theorem bt_list : bootBuiltins "list" = some (.type "list") := by decide +kernel
theorem bt_tuple : bootBuiltins "tuple" = some (.type "tuple") := by decide +kernel
theorem bt_int : bootBuiltins "int" = some (.type "int") := by decide +kernel
theorem bt_bool : bootBuiltins "bool" = some (.type "bool") := by decide +kernel
theorem bt_str : bootBuiltins "str" = some (.type "str") := by decide +kernel
theorem bt_dict : bootBuiltins "dict" = some (.type "dict") := by decide +kernel
end L2
namespace HT
open PySem PySem.Spec PyProof.Rows
section
variable {prog : Program} {w : World} {A : Around} {E : Value → Shared → Prop} {s : Shared}
end
end HT
namespace L2
open PySem PySem.Spec PyProof.Rows
section
variable {X : Cx}
end
end L2
namespace L2
open PySem PySem.Spec PyProof.Rows
section
variable {X : Cx} (K : PySem.W.Frag)
theorem ix_listK (h : X.K = K := by rfl) : IxR X (rIxL K) := by subst h; exact ix_list
theorem ix_tupK (h : X.K = K := by rfl) : IxR X (rIxT K) := by subst h; exact ix_tup
theorem sl_listK (h : X.K = K := by rfl) : SlR X (rSlL K) := by subst h; exact sl_list
def rLen (K : PySem.W.Frag) : List V → Hp → VK → Prop := fun xs H Q => ∃ p ys, xs = [.ref p] ∧ (SqL K H p ys ∨ SqT K H p ys) ∧ Q (.int ys.length) H
theorem call_lenK (h : X.K = K := by rfl) : CallR X (.builtin "len") (rLen K) := by subst h; exact call_len_seq
def rListOf (K : PySem.W.Frag) : List V → Hp → VK → Prop := fun xs H Q => ∃ p ys, xs = [.ref p] ∧ (SqL K H p ys ∨ SqT K H p ys) ∧ ∀ l, H l = none → Q (.ref l) (upd H l (.lst ys))
def rTupOf (K : PySem.W.Frag) : List V → Hp → VK → Prop := fun xs H Q => ∃ p ys, xs = [.ref p] ∧ ((SqL K H p ys ∧ ∀ l, H l = none → Q (.ref l) (upd H l (.tup ys))) ∨ (SqT K H p ys ∧ Q (.ref p) H))
def rAny (K : PySem.W.Frag) : List V → Hp → VK → Prop := fun xs H Q => ∃ (p : Addr) (bs : List Bool), xs = [.ref p] ∧ SqL K H p (bs.map V.bl) ∧ Q (.bl (bs.any id)) H
def rAll (K : PySem.W.Frag) : List V → Hp → VK → Prop := fun xs H Q => ∃ (p : Addr) (bs : List Bool), xs = [.ref p] ∧ SqL K H p (bs.map V.bl) ∧ Q (.bl (bs.all id)) H
def rIsI (K : PySem.W.Frag) : List V → Hp → VK → Prop := fun xs H Q => ∃ x c t b, xs = [x, c] ∧ (∃ n, c = .ty n) ∧ TyOf K H x t ∧ PySem.W.kitOne K t (clsV c) = some b ∧ Q (.bl b) H
theorem pi_listK {tg l : Expr} {tl : TE} (hl : PE X l tl) (h : X.K = K := by rfl) : PI X tg l (iList K tl) := by subst h; exact pi_list hl
theorem pi_tupK {tg l : Expr} {tl : TE} (hl : PE X l tl) (h : X.K = K := by rfl) : PI X tg l (iTup K tl) := by subst h; exact pi_tup hl
def tTru (K : PySem.W.Frag) (ta : TE) : TT := fun σ H Q => ta σ H fun x H' => ∃ k, TruV K x H' k ∧ Q k H'
theorem pg_tupK {es : List Expr} {k : Nat} {t : TGs} {n : Nat} {pos : Pos} (hc : X.calm = true) (hg : PGs X es t)
    (hn : (assignEach es X.env).length = n := by rfl) (hst : (assignEach es X.env).findIdx? (·.1) = none := by rfl) (h : X.K = K := by rfl) : PG X (.Tuple es k pos) (gTup K n t) := by
  subst h; exact pg_tup hc hg hn hst
theorem pe_fldK {e : Expr} {ta : TE} {f : Str} {pos : Pos} (he : PE X e ta) (hb : attributeBase e f X.env (eval e X.env) = eval e X.env := by rfl) (h : X.K = K := by rfl) : PE X (.Attribute e f pos) (tFld K ta f) := by subst h; exact pe_fld he hb
end
end L2
namespace L2
open PySem PySem.Spec PyProof.Rows
def CompW (n : Nat) (js : List Nat) (g : TG) (tc : TT) (te : TE) (σ : St) (Q : VK) (J : It) (H1 : Hp) : Prop :=
  ∀ D, H1 D = none → ∃ W : Nat → Nat → List V → Hp → Prop, (∃ m, W 0 m [] (upd H1 D (.lst []))) ∧ ∀ i m acc H, W i m acc H →
    H D = some (.lst acc) ∧ ((J.stop i H ∧ Q (.ref D) H) ∨ (J.go i H ∧ acc.length < sizeLine ∧ ∃ Nx : List V → Hp → Prop, (∀ acc' H', Nx acc' H' → ∃ m', m' < m ∧ W (i + 1) m' acc' H') ∧
      ∀ x H', J.yld i H x H' → g x (cSt n js σ) H' fun σ2 H2 => σ2.drop n = (cSt n js σ).drop n ∧ tc σ2 H2 fun b H3 => if b = true then te σ2 H3 fun v H4 => H4 D = some (.lst acc) ∧ Nx (acc ++ [v]) (upd H4 D (.lst (acc ++ [v]))) else H3 D = some (.lst acc) ∧ Nx acc H3))
section
variable {n : Nat} {js : List Nat} {g : TG} {tc : TT} {te : TE} {σ : St} {Q : VK} {H1 : Hp}
theorem comp_list {K : PySem.W.Frag} {a : Addr} {xs : List V} (hz : xs.length ≤ sizeLine) (Pv : Addr → Nat → List V → Hp → Prop) (h0 : ∀ D, H1 D = none → Pv D 0 [] (upd H1 D (.lst [])))
    (hl : ∀ D i acc H, H1 D = none → i ≤ xs.length → Pv D i acc H → H D = some (.lst acc) ∧ SqL K H a xs ∧ acc.length ≤ i)
    (hs : ∀ D i x acc H, H1 D = none → xs[i]? = some x → Pv D i acc H → g x (cSt n js σ) H fun σ2 H2 => σ2.drop n = (cSt n js σ).drop n ∧ tc σ2 H2 fun b H3 => if b = true then te σ2 H3 fun v H4 => H4 D = some (.lst acc) ∧ Pv D (i + 1) (acc ++ [v]) (upd H4 D (.lst (acc ++ [v]))) else H3 D = some (.lst acc) ∧ Pv D (i + 1) acc H3)
    (hd : ∀ D acc H, H1 D = none → Pv D xs.length acc H → Q (.ref D) H) : CompW n js g tc te σ Q (Itl K a) H1 := by
  intro D hD
  refine ⟨fun i m acc H => m = xs.length - i ∧ i ≤ xs.length ∧ Pv D i acc H, ⟨xs.length, by simp, Nat.zero_le _, h0 D hD⟩, ?_⟩
  rintro i m acc H ⟨rfl, hi, p⟩
  obtain ⟨e1, q, e3⟩ := hl D i acc H hD hi p
  refine ⟨e1, ?_⟩
  by_cases hlt : i < xs.length
  · refine .inr ⟨⟨xs, xs[i], q, by simp [hlt]⟩, by omega, Pv D (i + 1), fun acc' H' p' => ⟨xs.length - (i + 1), by omega, rfl, hlt, p'⟩, fun x H' y => ?_⟩
    obtain ⟨e, y⟩ := y
    subst e
    exact hs D i x acc _ hD (y xs q) p
  · have e : i = xs.length := by omega
    subst e
    exact .inl ⟨⟨xs, q, Nat.le_refl _⟩, hd D acc H hD p⟩
theorem comp_range {lo : Int} {m : Nat} (hz : m ≤ sizeLine) (Pv : Addr → Nat → List V → Hp → Prop) (h0 : ∀ D, H1 D = none → Pv D 0 [] (upd H1 D (.lst [])))
    (hl : ∀ D i acc H, H1 D = none → i ≤ m → Pv D i acc H → H D = some (.lst acc) ∧ acc.length ≤ i)
    (hs : ∀ D i acc H, H1 D = none → i < m → Pv D i acc H → g (.int (lo + i)) (cSt n js σ) H fun σ2 H2 => σ2.drop n = (cSt n js σ).drop n ∧ tc σ2 H2 fun b H3 => if b = true then te σ2 H3 fun v H4 => H4 D = some (.lst acc) ∧ Pv D (i + 1) (acc ++ [v]) (upd H4 D (.lst (acc ++ [v]))) else H3 D = some (.lst acc) ∧ Pv D (i + 1) acc H3)
    (hd : ∀ D acc H, H1 D = none → Pv D m acc H → Q (.ref D) H) : CompW n js g tc te σ Q (Itr lo m) H1 := by
  intro D hD
  refine ⟨fun i k acc H => k = m - i ∧ i ≤ m ∧ Pv D i acc H, ⟨m, by simp, Nat.zero_le _, h0 D hD⟩, ?_⟩
  rintro i k acc H ⟨rfl, hi, p⟩
  obtain ⟨e1, e3⟩ := hl D i acc H hD hi p
  refine ⟨e1, ?_⟩
  by_cases hlt : i < m
  · refine .inr ⟨hlt, by omega, Pv D (i + 1), fun acc' H' p' => ⟨m - (i + 1), by omega, rfl, hlt, p'⟩, fun x H' y => ?_⟩
    obtain ⟨e, y⟩ := y
    subst e y
    exact hs D i acc _ hD hlt p
  · have e : i = m := by omega
    subst e
    exact .inl ⟨Nat.le_refl _, hd D acc H hD p⟩
theorem Same.upd_new {H : Hp} {a : Addr} {o : HO} (h : H a = none) : Same H (upd H a o) := fun b u e => by
  rw [upd_ne (ne_of_none e h)]
  exact e
theorem Same.upd {H0 H : Hp} {a : Addr} {o : HO} (e : Same H0 H) (h : H0 a = none) : Same H0 (upd H a o) := fun b u q => by
  rw [upd_ne (ne_of_none q h)]
  exact e b u q
theorem comp_pureR {lo : Int} {m : Nat} (hz : m ≤ sizeLine) (f : Int → V)
    (hs : ∀ (H : Hp) (i : Nat) (Q' : VK), i < m → Same H1 H → Q' (f (lo + i)) H → g (.int (lo + i)) (cSt n js σ) H fun σ2 H2 => σ2.drop n = (cSt n js σ).drop n ∧ te σ2 H2 Q')
    (hq : ∀ D, H1 D = none → Q (.ref D) (upd H1 D (.lst ((List.range m).map fun (i : Nat) => f (lo + i))))) (gm : ∀ x σ H P P', (∀ σ2 H2, P σ2 H2 → P' σ2 H2) → g x σ H P → g x σ H P') : CompW n js g tYes te σ Q (Itr lo m) H1 := by
  refine comp_range hz (fun D i acc H => acc = (List.range i).map (fun (i : Nat) => f (lo + i)) ∧ H = upd H1 D (.lst acc)) (fun D _ => ⟨by simp, rfl⟩) ?_ ?_ ?_
  · rintro D i acc H hD hi ⟨rfl, rfl⟩
    exact ⟨upd_same, by simp⟩
  · rintro D i acc H hD hi ⟨rfl, rfl⟩
    refine gm _ _ _ _ _ (fun σ2 H2 h => ?_) (hs _ i (fun v H4 => H4 D = some (.lst ((List.range i).map fun (i : Nat) => f (lo + i))) ∧ (((List.range i).map fun (i : Nat) => f (lo + i)) ++ [v] = (List.range (i + 1)).map (fun (i : Nat) => f (lo + i)) ∧ upd H4 D (.lst (((List.range i).map fun (i : Nat) => f (lo + i)) ++ [v])) = upd H1 D (.lst (((List.range i).map fun (i : Nat) => f (lo + i)) ++ [v])))) hi (Same.upd_new hD) ⟨upd_same, ?_, by rw [upd_upd]⟩)
    · exact ⟨h.1, h.2⟩
    · rw [List.range_succ]
      simp
  · rintro D acc H hD ⟨rfl, rfl⟩
    exact hq D hD
theorem gName_mono (i : Nat) : ∀ (x : V) (σ : St) (H : Hp) (P P' : St → Hp → Prop), (∀ σ2 H2, P σ2 H2 → P' σ2 H2) → gName i x σ H P → gName i x σ H P' := fun _ _ _ _ _ h q => h _ _ q
end
theorem cxOf_K {CX : CXT} {P : Program} {w : World} {K : PySem.W.Frag} {mg : Str → Option Value} {base : Heap} {N : List Str} {qual : Str} {scope : Scope} {f : Addr} {cd : Value} {A : Around} {outer : List Env} {s : Shared} {H : Hp} {E : XK} :
    (cxOf CX P w K mg base N qual scope f cd A outer s H E).K = K := rfl
theorem cxC_K {X : Cx} {scope : Scope} {N' : List Str} {C : Addr} {fp : List Addr} {s : Shared} {H : Hp} : (cxC X scope N' C fp s H).K = X.K := rfl
theorem upd_none {H : Hp} {p a : Addr} {o : HO} (h : upd H p o a = none) : a ≠ p ∧ H a = none := by
  unfold upd at h
  split at h
  · cases h
  · rename_i z; exact ⟨z, h⟩
section
variable {H : Hp} {Q : VK} {i j : Int} {b c : Bool} {x y : Str}
theorem rEq_ii : rEq (.int i) (.int j) H Q = Q (.bl (decide (i = j))) H := by simp [rEq, scal]
theorem rNe_ii : rNe (.int i) (.int j) H Q = Q (.bl (!decide (i = j))) H := by simp [rNe, scal]
theorem rEq_bb : rEq (.bl b) (.bl c) H Q = Q (.bl (decide (b = c))) H := by simp [rEq, scal]
theorem rNe_bb : rNe (.bl b) (.bl c) H Q = Q (.bl (!decide (b = c))) H := by simp [rNe, scal]
theorem cmul_mod {a m b : Int} (h0 : 0 < m) (h1 : m ≤ 2147483648) : CMul (a % m) b := by
  have h2 := Int.emod_nonneg a (show m ≠ 0 by omega)
  have h3 := Int.emod_lt_of_pos a h0
  exact .inl ⟨by omega, by omega⟩
theorem atI_in {α : Type} {xs : List α} {k : Int} (h0 : 0 ≤ k) (h1 : k < xs.length) : ∃ v, v ∈ xs ∧ atI xs k = some v := by
  obtain ⟨n, rfl⟩ := Int.eq_ofNat_of_zero_le h0
  have hn : n < xs.length := by omega
  exact ⟨xs[n], List.getElem_mem hn, atI_nat (List.getElem?_eq_getElem hn)⟩
end
theorem truV_bl {K : PySem.W.Frag} {H : Hp} {b k : Bool} : TruV K (.bl b) H k = (k = b) := rfl
theorem clsV_ty {n : String} : clsV (.ty n) = .type n := rfl
def ForW (g : TG) (tb : TS) (D : Ends) (σ : St) (J : It) (H1 : Hp) : Prop := ∃ W : Nat → Nat → St → Hp → Prop, (∃ m, W 0 m σ H1) ∧ ∀ i m σ H, W i m σ H →
  (J.stop i H ∧ D.nx σ H) ∨ (J.go i H ∧ ∃ N : St → Hp → Prop, (∀ σ' H', N σ' H' → ∃ m', m' < m ∧ W (i + 1) m' σ' H') ∧ ∀ x H', J.yld i H x H' → g x σ H' fun σ2 H2 => tb { D with nx := N, ct := N, bk := D.nx } σ2 H2)
theorem tFor_eq {wi : TI} {g : TG} {tb : TS} {D : Ends} {σ : St} {H : Hp} : tFor wi g tb D σ H = wi σ H fun J H1 => ForW g tb D σ J H1 := rfl
theorem tComp_eq {n : Nat} {js : List Nat} {wi : TI} {g : TG} {tc : TT} {te : TE} {σ : St} {H : Hp} {Q : VK} : tComp n js wi g tc te σ H Q = wi σ H fun J H1 => CompW n js g tc te σ Q J H1 := rfl
theorem new_same {H H' : Hp} {p : Addr} {o : HO} (h : upd H p o = H') (hp : H p = none) : Same H H' ∧ H' p = some o := by
  subst h
  exact ⟨Same.upd_new hp, upd_same⟩
end L2
namespace L2
open PySem PySem.Spec PyProof.Rows
def TupI (H : Hp) (x : V) (d : List Int) : Prop := ∃ t, x = .ref t ∧ H t = some (.tup (d.map V.int))
abbrev DeedsX (H : Hp) (xs : List V) (ds : List (List Int)) : Prop := Paired (TupI H) xs ds
def DeedsAt (H : Hp) (a : Addr) (ds : List (List Int)) : Prop := ∃ xs, H a = some (.lst xs) ∧ DeedsX H xs ds
section
variable {H H' : Hp} {x : V} {d : List Int} {xs ys : List V} {ds es : List (List Int)} {a : Addr} {o : HO}
theorem paired_take {α β : Type} {F : α → β → Prop} : ∀ {l1 : List α} {l2 : List β} (n : Nat), Paired F l1 l2 → Paired F (l1.take n) (l2.take n)
  | _, _, 0, _ => by simp only [List.take_zero]; exact .nil
  | _, _, _ + 1, .nil => .nil
  | _, _, n + 1, .cons r t => .cons r (paired_take n t)
theorem paired_drop {α β : Type} {F : α → β → Prop} : ∀ {l1 : List α} {l2 : List β} (n : Nat), Paired F l1 l2 → Paired F (l1.drop n) (l2.drop n)
  | _, _, 0, r => r
  | _, _, _ + 1, .nil => .nil
  | _, _, n + 1, .cons _ t => paired_drop n t
theorem paired_get {α β : Type} {F : α → β → Prop} : ∀ {l1 : List α} {l2 : List β} {i : Nat} {x : α}, Paired F l1 l2 → l1[i]? = some x → ∃ y, l2[i]? = some y ∧ F x y
  | _, _, _, _, .nil, e => by simp at e
  | _, _, 0, _, .cons r _, e => by simp at e; subst e; exact ⟨_, rfl, r⟩
  | _, _, i + 1, x, .cons _ t, e => by
    obtain ⟨u, h1, h2⟩ := paired_get (i := i) (x := x) t (by simpa using e)
    exact ⟨u, by simpa using h1, h2⟩
theorem cutV_take (xs : List V) {k : Int} (h : 0 ≤ k) : cutV xs none (some k) = xs.take k.toNat := by
  obtain ⟨n, rfl⟩ := Int.eq_ofNat_of_zero_le h
  unfold cutV
  rw [HT.sIx_none, HT.sIx_nat, List.drop_zero, Int.toNat_natCast, Nat.sub_zero]
  rcases Nat.le_total n xs.length with z | z
  · rw [Nat.min_eq_left z]
  · rw [Nat.min_eq_right z, List.take_of_length_le (Nat.le_refl _), List.take_of_length_le z]
theorem cutV_drop (xs : List V) {k : Int} (h : 0 ≤ k) : cutV xs (some k) none = xs.drop k.toNat := by
  obtain ⟨n, rfl⟩ := Int.eq_ofNat_of_zero_le h
  unfold cutV
  rw [HT.sIx_none, HT.sIx_nat, Int.toNat_natCast]
  rcases Nat.le_total n xs.length with z | z
  · rw [Nat.min_eq_left z, List.take_of_length_le (by rw [List.length_drop]; exact Nat.le_refl _)]
  · rw [Nat.min_eq_right z, List.drop_of_length_le (Nat.le_refl _), List.drop_of_length_le z, List.take_nil]
theorem cutV_map (d : List Int) (lo hi : Option Int) : ∃ e : List Int, cutV (d.map V.int) lo hi = e.map V.int := by
  unfold cutV
  exact ⟨(d.drop (HT.sIx (d.map V.int).length 0 lo)).take (HT.sIx (d.map V.int).length (d.map V.int).length hi - HT.sIx (d.map V.int).length 0 lo), by rw [List.map_take, List.map_drop]⟩
end
end L2
namespace L2
open PySem PySem.Spec PyProof.Rows
def DefM (K : PySem.W.Frag) (C : Addr) (m qual : Str) (st : Stmt) : Prop := ∃ f fd, Meth K C m f ∧ Fun K m qual st f fd
def DefI (K : PySem.W.Frag) (C : Addr) (qual : Str) (st : Stmt) : Prop := ∃ f fd, Mk K C f ∧ Fun K "__init__" qual st f fd
def OwnM (P : Program) (w : World) (K : PySem.W.Frag) (mg : Str → Option Value) (base : Heap) (k : Nat) (C : Addr) (m : Str) (ps : List Str) (sp : Sp) : Prop :=
  ∃ f fd, Meth K C m f ∧ Binds K fd ps [] ∧ FnOk P w K mg base CX0 k f fd ps sp
def OwnI (P : Program) (w : World) (K : PySem.W.Frag) (mg : Str → Option Value) (base : Heap) (k : Nat) (C : Addr) (ps : List Str) (sp : Sp) : Prop :=
  ∃ f fd, Mk K C f ∧ Binds K fd ps [] ∧ FnOk P w K mg base CX0 k f fd ps sp
structure ClsD (K : PySem.W.Frag) (mg : Str → Option Value) (x : Str) (C : Addr) (attrs : List Str) : Prop where
  mgC : mg x = some (.ref C)
  cl : Cls K C
  no : ∀ f ∈ attrs, NoAttr K C f
section
variable {P : Program} {w : World} {K : PySem.W.Frag} {mg : Str → Option Value} {base : Heap} {C : Addr} {m qual : Str} {st : Stmt} {N ps : List Str} {k : Nat} {sp : Sp}
theorem DefM.own (D : DefM K C m qual st) (S : FnScope N ps (defScope st))
    (hb : ∀ (kV doc pm : Value) (an : Option Addr) (cdv ct : Value) (us : List Value), us.length = ps.length → bindArgs (PySem.W.fnOf m qual (defArgs st) (defBody st) (defScope st) .none kV doc pm an cdv ct) ⟨us, []⟩ = pure (ps.zip us))
    (len : ∀ vs H Q E, sp vs H Q E → vs.length = ps.length)
    (hbody : ∀ (f : Addr) (cdv : Value) (A : Around) (outer : List Env) (s : Shared) (H : Hp) (vs : List V) (Q : VK) (E : XK), Room k (A.deeper (envOfC qual (defScope st) s.heap.objs.size f cdv)) → sp vs H Q E →
      ∃ t, PSs (cxOf CX0 P w K mg base N qual (defScope st) f cdv A outer s H E).nox (defBody st) t ∧ t { nx := fun _ H' => Q .non H', rt := Q } (start N vs) H) : OwnM P w K mg base (k + 1) C m ps sp := by
  obtain ⟨f, fd, hm, F⟩ := D
  exact ⟨f, fd, hm, F.binds hb, F.ok S len (hbody f)⟩
theorem DefI.own (D : DefI K C qual st) (S : FnScope N ps (defScope st))
    (hb : ∀ (kV doc pm : Value) (an : Option Addr) (cdv ct : Value) (us : List Value), us.length = ps.length → bindArgs (PySem.W.fnOf "__init__" qual (defArgs st) (defBody st) (defScope st) .none kV doc pm an cdv ct) ⟨us, []⟩ = pure (ps.zip us))
    (len : ∀ vs H Q E, sp vs H Q E → vs.length = ps.length)
    (hbody : ∀ (f : Addr) (cdv : Value) (A : Around) (outer : List Env) (s : Shared) (H : Hp) (vs : List V) (Q : VK) (E : XK), Room k (A.deeper (envOfC qual (defScope st) s.heap.objs.size f cdv)) → sp vs H Q E →
      ∃ t, PSs (cxOf CX0 P w K mg base N qual (defScope st) f cdv A outer s H E).nox (defBody st) t ∧ t { nx := fun _ H' => Q .non H', rt := Q } (start N vs) H) : OwnI P w K mg base (k + 1) C ps sp := by
  obtain ⟨f, fd, hm, F⟩ := D
  exact ⟨f, fd, hm, F.binds hb, F.ok S len (hbody f)⟩
theorem defM_mk {f : Addr} {oc : Value} {od an : Option Addr} {osl : Array (Option Value)} {kV doc pm cdv ct : Value} (a : PySem.W.findIn K (.ref C) m = some (some (.ref f))) (i : PySem.W.isFn K (.ref f) = true)
    (l : K.lookup f = some ⟨oc, od, .func (PySem.W.fnOf m qual (defArgs st) (defBody st) (defScope st) .none kV doc pm an cdv ct), osl⟩) (c : PySem.W.codeIn K cdv qual = true) (k : PySem.W.keepIn K (.ref f) = true) : DefM K C m qual st :=
  ⟨f, _, ⟨a, i, k⟩, fun_mk l c k⟩
theorem defI_mk {f : Addr} {oc : Value} {od an : Option Addr} {osl : Array (Option Value)} {kV doc pm cdv ct : Value} (a : PySem.W.findIn K (.ref C) "__init__" = some (some (.ref f))) (i : PySem.W.isFn K (.ref f) = true)
    (l : K.lookup f = some ⟨oc, od, .func (PySem.W.fnOf "__init__" qual (defArgs st) (defBody st) (defScope st) .none kV doc pm an cdv ct), osl⟩) (c : PySem.W.codeIn K cdv qual = true) (k : PySem.W.keepIn K (.ref f) = true)
    (mk : PySem.W.makesIn K C = true) (kc : PySem.W.keepIn K (.ref C) = true) : DefI K C qual st :=
  ⟨f, _, ⟨mk, a, i, kc⟩, fun_mk l c k⟩
end
section
variable {X : Cx} {j k : Nat} {C : Addr} {x m : Str} {ps : List Str} {sp : Sp} {p pos apos : Pos} {o e : Expr} {es : List Expr} {ta : TE} {t : TA}
theorem pe_mth {pl : Sem Bool} (M : OwnM X.prog X.w X.K X.mg X.base j C m ps sp) (c : Cls X.K C) (hr : Room k X.A) (he : PE X o ta) (ha : PA X (e :: es) t) (hk : j ≤ k := by decide)
    (hst : starEach (e :: es) X.env = (false, eval e X.env) :: starEach es X.env := by rfl) (hpl : (backTo pos (starEach es X.env)).any (·.1) = false := by rfl)
    (ht : eval (.Call (.Attribute o m apos) (e :: es) [] pos) X.env = (do
      let ov ← eval o X.env
      standAt apos.atName
      let (f, first) ← holding [ov] (getMethod ov m pl)
      callWith pos f first (backTo pos (starEach (e :: es) X.env)) (backToKw pos (keywordEach [] X.env))) := by rfl) :
    PE X (.Call (.Attribute o m apos) (e :: es) [] pos) (tMeth C m sp [] E0 ta t) := by
  obtain ⟨f, fd, hm, hb, F⟩ := M
  exact pe_meth (pl := pl) he c hm F (hr.mono hk) hb .nil pass0 ha hst hpl ht
theorem pe_mak (M : OwnI X.prog X.w X.K X.mg X.base j C ps sp) (hr : Room k X.A) (hm : X.mg x = some (.ref C)) (ha : PA X (e :: es) t) (hk : j + 1 ≤ k := by decide) (hg : Gl X x := by rfl)
    (hdb : (x == ("__debug__" : Str)) = false := by decide) (he : starEach (e :: es) X.env = (false, eval e X.env) :: starEach es X.env := by rfl) (hpl : (backTo pos (starEach es X.env)).any (·.1) = false := by rfl) :
    PE X (.Call (.Name x p) (e :: es) [] pos) (tMake C sp [] E0 t) := by
  obtain ⟨f, fd, hk', hb, F⟩ := M
  exact pe_make hk' F (hr.mono hk) hg hm hb .nil pass0 ha hdb he hpl
def rIsB : R2 := fun x y H Q => ∃ a b, x = .bl a ∧ y = .bl b ∧ Q (.bl (decide (a = b))) H
def rIsntB : R2 := fun x y H Q => ∃ a b, x = .bl a ∧ y = .bl b ∧ Q (.bl (!decide (a = b))) H
end
theorem pe_glb {X : Cx} {x : Str} {v : V} {pos : Pos} (h : ∃ u, X.mg x = some u ∧ RelV v u) (hg : Gl X x := by rfl) (hd : (x == ("__debug__" : Str)) = false := by decide) : PE X (.Name x pos) (tC v) := by
  obtain ⟨u, hm, r⟩ := h
  exact pe_glob hg hm r hd
def tDGs (td : TE) (x : Str) : TE := fun σ H Q => td σ H fun d H1 => ∃ a kvs v, d = .ref a ∧ H1 a = some (.dK kvs) ∧ valV kvs (Sum.inr x : Key) = some v ∧ Q v H1
def sDPs (td tv : TE) (x : Str) : TS := fun D σ H => tv σ H fun v H1 => td σ H1 fun d H2 => ∃ a kvs, d = .ref a ∧ H2 a = some (.dK kvs) ∧ kvs.length < sizeLine ∧ D.nx σ (upd H2 a (.dK (putK kvs (Sum.inr x : Key) v)))
section
variable {X : Cx} {o value : Expr} {td tv : TE} {x : Str} {j : Nat} {pos pos' cpos : Pos}
end
theorem glb_mk {K : PySem.W.Frag} {h : Heap} {mg : Str → Option Value} (X : K.In h) (G : h.Ns mainGlobals mg) {x : Str} {i : Int} {t : Tok} (a : PySem.W.nsIn K mainGlobals x = some (some (.int i t))) : ∃ u, mg x = some u ∧ RelV (.int i) u :=
  ⟨_, PySem.W.mg_of X G a, t, rfl⟩
end L2
namespace L2
open PySem PySem.Spec PyProof.Rows
def Ite (K : PySem.W.Frag) (a : Addr) : It :=
  ⟨fun i H => ∃ xs x, SqL K H a xs ∧ xs[i]? = some x, fun i H x H' => ∃ p, x = .ref p ∧ H p = none ∧ ∀ xs, SqL K H a xs → ∃ y, xs[i]? = some y ∧ H' = upd H p (.tup [.int i, y]), fun i H => ∃ xs, SqL K H a xs ∧ xs.length ≤ i⟩
theorem turn_enum {P : Program} {w : World} {K : PySem.W.Frag} {elts : List Expr} {x1} {tpos : Pos} (a e it : Addr) (hne : e ≠ it) :
    Turn P w K (.Tuple elts x1 tpos) (Ite K a) [e, it] e (fun i h => (∃ old, IsEnum h e it i old) ∧ h.IsListIter it a i) where
  mem := by simp
  obj := fun i h st b hb => by
    obtain ⟨⟨old, h1⟩, h2⟩ := st
    rcases List.mem_cons.mp hb with rfl | hb
    · exact ⟨_, h1, fun v z => by cases z⟩
    · have e : b = it := by simpa using hb
      subst e
      obtain ⟨o, e, c, d⟩ := h2
      exact ⟨o, e, fun v z => by rw [d] at z; cases z⟩
  keep := fun i h h' st k => by
    obtain ⟨⟨old, h1⟩, h2⟩ := st
    exact ⟨⟨old, k e (by simp) _ h1⟩, h2.at fun o q => k it (by simp) o q⟩
  item := by
    intro X hP hw hK hc i pins s σ H E I hf st hg
    subst hP hw hK
    obtain ⟨⟨old, he⟩, hit⟩ := st
    obtain ⟨xs, x, hq, hx⟩ := hg
    obtain ⟨its, rv, p, hz⟩ := I.list hq
    obtain ⟨u, hu, ru⟩ := rv.get hx
    have fe := hf e (by simp)
    have fi := hf it (by simp)
    refine wpAny_pyNext_enum_item he hit p.isList (x := u) (by simpa using hu) hne fun h' eo hit' ht hsz hk => ?_
    have hH : H s.heap.objs.size = none := I.hok.fresh (Nat.le_refl _)
    have ne : ∀ b o, s.heap.get? b = some o → b ≠ s.heap.objs.size := fun b o q => Nat.ne_of_lt (Heap.lt_size q)
    have nx : ∀ b, b ∉ [e, it] → b ≠ e ∧ b ≠ it := fun b hb => ⟨fun z => hb (by simp [z]), fun z => hb (by simp [z])⟩
    have I1 : Inv X pins σ (upd H s.heap.objs.size (.tup [.int i, x])) { s with heap := h', gens := s.gens, drawn := s.drawn, toks := s.toks + 1 } := I.call (ch := [e, it]) (h' := h') (g' := s.gens) (d' := s.drawn) (t' := s.toks + 1)
      ⟨fun b o q n hb hb2 => hk b o (nx b hb2).1 (nx b hb2).2 q, fun b o q n hb hb2 => ⟨o.slots, hk b o (nx b hb2).1 (nx b hb2).2 q⟩, fun b o q n hb2 => by rw [upd_ne (ne b o q)]; exact n, fun b o q hb2 => ⟨o, hk b o (nx b hb2).1 (nx b hb2).2 q⟩,
        fun b ys q => by rw [upd_ne (ne_of_none q hH)]; exact q, fun b o ys q => by rw [upd_ne (ne_of_none q hH)]; exact q, fun b ps q => ⟨#[], by rw [upd_ne (ne_of_none q hH), q]; simp⟩⟩
      (fun b o q => by
        by_cases hb : b = s.heap.objs.size
        · subst hb
          rw [upd_same] at q
          cases q
          exact ⟨by rw [sizeLine_eq]; show 2 ≤ 16777216; decide, [.int i s.toks, u], .cons ⟨_, rfl⟩ (.cons ru .nil), ⟨_, ht, rfl, 0, rfl⟩⟩
        · rw [upd_ne hb] at q
          refine (I.hok b o q).stay (fun c v hc r => ?_) (fun c r => by rw [upd_ne (ne_of_none r hH)]; exact r) fun c ys r => by rw [upd_ne (ne_of_none r hH)]; exact r
          have hcn : H c ≠ none := by
            rcases hc with rfl | hc
            · rw [q]; exact fun z => nomatch z
            · rw [hc]; exact fun z => nomatch z
          exact hk c v (fun z => hcn (z ▸ fe.1)) (fun z => hcn (z ▸ fi.1)) r) I.bare
      (fun b hb => by
        have F : FpOk X pins H b := hf b hb
        exact ⟨F.2.2.2.1, F.2.1, F.2.2.2.2.1, F.2.2.2.2.2⟩)
    refine ⟨_, rfl, wpAny_letOwnedTupleGo_enum (s := { s with heap := h', toks := s.toks + 1 }) eo fun h2 e2 sb => ?_⟩
    have nep : ∀ b ∈ [e, it], upd H s.heap.objs.size (.tup [.int i, x]) b = none := fun b hb => by
      have hb' : b ≠ s.heap.objs.size := by
        rcases List.mem_cons.mp hb with rfl | hb
        · exact ne _ _ he
        · have e' : b = it := by simpa using hb
          subst e'
          obtain ⟨o, q, _⟩ := hit
          exact ne _ _ q
      rw [upd_ne hb']
      exact (hf b hb).1
    have I2 : Inv X pins σ (upd H s.heap.objs.size (.tup [.int i, x])) { s with heap := h2, toks := s.toks + 1 } := I1.turned (t' := s.toks + 1) (fun b o hb q => (sb.2 b hb).trans q) (nep e (by simp)) fe.2.1 fe.2.2.2.1 fe.2.2.2.2.1 fe.2.2.2.2.2
    refine ⟨.ref s.heap.objs.size, _, I2, rfl, ⟨_, rfl, hH, fun ys hy => ⟨x, by rw [I.list_inj hy hq]; exact hx, rfl⟩⟩, ⟨⟨u, ?_⟩, ?_⟩, nep⟩
    · have : ((i + 1 : Nat) : Int) = (i : Int) + 1 := by omega
      rw [this]
      exact e2
    · exact hit'.extBut sb.extBut (Ne.symm hne)
  done := by
    intro X hP hw hK hc i pins s σ H E I hf st hg
    subst hP hw hK
    obtain ⟨⟨old, he⟩, hit⟩ := st
    obtain ⟨xs, hq, hx⟩ := hg
    obtain ⟨its, rv, p, hz⟩ := I.list hq
    obtain ⟨f0, f1, f2, f3, f4, f5⟩ := hf it (by simp)
    have hl := rv.length
    exact wpAny_pyNext_enum_end (I.ok.hd hc) he hit p.isList (by simp; omega) fun h' eb => ⟨rfl, I.turned (t' := s.toks) (fun b o hb q => eb b o hb q) f0 f1 f3 f4 f5⟩
  self := fun _ _ _ _ _ st h => by
    obtain ⟨⟨old, he⟩, _⟩ := st
    exact wpAny_pyIter_enum he h
section
variable {X : Cx}
def iEnum (K : PySem.W.Frag) (ta : TA) : TI := fun σ H R => ta σ H fun vs H1 => ∃ a, vs = [.ref a] ∧ (∃ xs, SqL K H1 a xs) ∧ R (Ite K a) H1
theorem bt_enumerate : bootBuiltins "enumerate" = some (.type "enumerate") := by decide +kernel
theorem pi_enum (K : PySem.W.Frag) {elts : List Expr} {x1} {tpos : Pos} {l : Expr} {ta : TA} {p pos : Pos} (hg : Gl X "enumerate") (hm : X.mg "enumerate" = none) (ha : PA X [l] ta) (hs : starEach [l] X.env = [(false, eval l X.env)] := by rfl) (hK : X.K = K := by rfl) :
    PI X (.Tuple elts x1 tpos) (.Call (.Name "enumerate" p) [l] [] pos) (iEnum K ta) := by
  subst hK
  intro pins s σ H R I h
  refine Call_ (ld_blt I hg hm bt_enumerate (PyProof.Rows.callWith_type1 (thn (ha pos pins s σ H _ I h) fun us s1 ⟨vs, H1, I1, r1, q1⟩ => ?_) hs rfl))
  obtain ⟨a, e, ⟨xs, hq⟩, q⟩ := q1
  subst e
  obtain ⟨u, rfl, rx⟩ := vals1 r1
  cases rx
  obtain ⟨its, rv, pl, hz⟩ := I1.list hq
  refine call_enumerate_list pl.isList fun h' he hit hsz hk => ?_
  refine wpAny_pyIter_enum (s := { s1 with heap := h' }) he ?_
  refine ⟨s1.heap.objs.size + 1, [s1.heap.objs.size + 1, s1.heap.objs.size], _, _, H1, rfl, I1.kept (t' := s1.toks) hk, turn_enum a _ _ (Nat.succ_ne_self _), ⟨⟨_, he⟩, hit⟩, fun b hb => ?_, q⟩
  rcases List.mem_cons.mp hb with rfl | hb
  · exact I1.fpOk (Nat.le_succ _) (I1.hok.fresh (Nat.le_succ _))
  · have e : b = s1.heap.objs.size := by simpa using hb
    subst e
    exact I1.fpOk (Nat.le_refl _) (I1.hok.fresh (Nat.le_refl _))
end
theorem for_enum {K : PySem.W.Frag} {a : Addr} {xs : List V} {g : TG} {tb : TS} {D : Ends} {σ : St} {H : Hp} (Pv : Nat → St → Hp → Prop) (h0 : Pv 0 σ H) (hl : ∀ i σ H, i ≤ xs.length → Pv i σ H → SqL K H a xs)
    (hs : ∀ i x p σ H, xs[i]? = some x → H p = none → Pv i σ H → g (.ref p) σ (upd H p (.tup [.int i, x])) fun σ2 H2 => tb { D with nx := Pv (i + 1), ct := Pv (i + 1), bk := D.nx } σ2 H2) (hd : ∀ σ H, Pv xs.length σ H → D.nx σ H) : ForW g tb D σ (Ite K a) H := by
  refine ⟨fun i m σ H => m = xs.length - i ∧ i ≤ xs.length ∧ Pv i σ H, ⟨xs.length, by simp, Nat.zero_le _, h0⟩, ?_⟩
  rintro i m σ H ⟨rfl, hi, p⟩
  have q := hl i σ H hi p
  by_cases hlt : i < xs.length
  · refine .inr ⟨⟨xs, xs[i], q, by simp [hlt]⟩, Pv (i + 1), fun σ' H' p' => ⟨xs.length - (i + 1), by omega, rfl, hlt, p'⟩, fun x H' y => ?_⟩
    obtain ⟨pp, rfl, hp, y⟩ := y
    obtain ⟨z, hz, rfl⟩ := y xs q
    exact hs i z pp σ H hz hp p
  · have e : i = xs.length := by omega
    subst e
    exact .inl ⟨⟨xs, q, Nat.le_refl _⟩, hd σ H p⟩
end L2
namespace L2
open PySem PySem.Spec PyProof.Rows
section
variable {prog : Program} {w : World} {A : Around} {E : Value → Shared → Prop} {s : Shared}
theorem nextT_item {j tp : Addr} {n : Nat} {its : Array Value} {u : Value} {R : Value → Shared → Prop} (hj : s.heap.IsTupleIter j tp n) (hp : s.heap.IsTuple tp its) (hu : its[n]? = some u)
    (hR : ∀ hp', hp'.IsTupleIter j tp (n + 1) → Heap.SameBut j s.heap hp' → R u { s with heap := hp' }) : wpAny (model prog w) A (Builtin.SmallTypes.nextOf (.ref j)) R E s := by
  obtain ⟨oj, goj, coj, doj⟩ := id hj
  obtain ⟨op, gop, _, np, dop⟩ := hp
  unfold Builtin.SmallTypes.nextOf
  refine wpAny_bind (wpAny_callSpecial?_slot (name := Str.ofString "__next__") hj.typeIs F.slot_tuple_iterator_next (wpAny_call_entry F.slot_tuple_iterator_next hj.typeIs F.entry_tuple_iterator_next ?_ (F.args_tuple_iterator_next_1 _)))
  change wpAny _ _ (field (.ref j) 0 >>= _) _ _ s
  refine wpAny_bind (wpAny_field goj doj (x := .ref tp) rfl ?_)
  change wpAny _ _ (if (Value.ref tp == Value.none) = true then _ else _) _ _ s
  rw [if_neg (show ¬ ((Value.ref tp == Value.none) = true) from Bool.false_ne_true)]
  change wpAny _ _ (field (.ref j) 1 >>= _) _ _ s
  refine wpAny_bind (wpAny_field goj doj (x := .int n 0) rfl ?_)
  change wpAny _ _ (seqItems? (.ref tp) >>= _) _ _ s
  refine wpAny_bind (wpAny_seqItems gop dop ?_)
  simp only [Int.toNat_natCast, hu]
  refine wpAny_bind (wpAny_setField goj doj (by simp) (wpAny_pure ⟨u, rfl, wpAny_pure (hR _ ?_ (Heap.SameBut.update ..))⟩))
  exact ⟨_, Heap.get?_update_self _ goj (Obj.isFreed_of_fields (Obj.data_mapFields doj _)), (Obj.cls_mapFields ..).trans coj, by rw [Obj.data_mapFields doj]; simp [rawInt]⟩
theorem zipT_item {z ti to j1 j2 l1 l2 : Addr} {n1 n2 : Nat} {xs ys : Array Value} {x y a b : Value} {R : Value → Shared → Prop} (D : ZipApart z ti to j1 j2 l1 l2)
    (gz : IsZip s.heap z ti to .none) (gti : IsPair s.heap ti (.ref j1) (.ref j2)) (gto : IsPair s.heap to a b)
    (g1 : s.heap.IsListIter j1 l1 n1) (g2 : s.heap.IsTupleIter j2 l2 n2) (gl1 : s.heap.IsList l1 xs) (gl2 : s.heap.IsTuple l2 ys) (hx : xs[n1]? = some x) (hy : ys[n2]? = some y)
    (hR : ∀ hp, IsZip hp z ti to (rawInt s.heap.objs.size) → IsPair hp to x y → hp.IsListIter j1 l1 (n1 + 1) → hp.IsTupleIter j2 l2 (n2 + 1) → IsPair hp s.heap.objs.size x y → hp.objs.size = s.heap.objs.size + 1 →
      (∀ c o, c ≠ z → c ≠ to → c ≠ j1 → c ≠ j2 → s.heap.get? c = some o → hp.get? c = some o) → R (.ref s.heap.objs.size) { s with heap := hp }) :
    wpAny (model prog w) A (Builtin.«zip.__next__» ⟨[.ref z], []⟩) (fun fin s' => ∃ v, fin = .done (.ret v) ∧ R v s') E s := by
  change wpAny _ _ (field (.ref z) 2 >>= _) _ _ _
  refine wpAny_bind (wpAny_field gz rfl (x := .bool false) rfl ?_)
  change wpAny _ _ (field (.ref z) 3 >>= _) _ _ _
  refine wpAny_bind (wpAny_field gz rfl (x := .ref ti) rfl ?_)
  refine wpAny_bind (wpAny_seqItems gti rfl ?_)
  change wpAny _ _ (Builtin.SmallTypes.ownedTupleIsFree (.ref z) >>= _) _ _ _
  refine wpAny_bind ?_
  unfold Builtin.SmallTypes.ownedTupleIsFree
  refine wpAny_bind (wpAny_field gz rfl (x := .none) rfl (wpAny_pure ?_))
  simp only [if_true]
  refine wpAny_bind (wpAny_rule ?_)
  refine wpAny_bind (wpAny_field gz rfl (x := .ref to) rfl ?_)
  refine wpAny_bind (wpAny_setField_rec gz (by simp) fun k1 gz1 m1 => ?_)
  replace gz1 : IsZip k1 z ti to .ellipsis := gz1
  refine wpAny_bind ?_
  simp only [List.zipIdx_cons, List.zipIdx_nil, List.forIn_cons, List.forIn_nil]
  refine wpAny_bind (wpAny_bind (wpAny_onRaise ?_))
  change wpAny _ _ (Builtin.SmallTypes.nextOf (.ref j1) >>= _) _ _ _
  refine wpAny_bind (wpAny_nextOf_list_item (g1.extBut m1.extBut D.i1z) (gl1.extBut m1.extBut D.l1z) hx fun k2 g1b m2 => wpAny_pure ?_)
  have gto2 : IsPair k2 to a b := m2.extBut _ _ D.TOi1 (m1.extBut _ _ D.TOz gto)
  refine wpAny_bind (wpAny_seqItems gto2 rfl ?_)
  refine wpAny_bind (wpAny_updateSeq_pair gto2 fun k3 gto3 m3 => ?_)
  replace gto3 : IsPair k3 to x b := gto3
  refine wpAny_bind (wpAny_letGo (wpAny_pure ?_))
  refine wpAny_bind (wpAny_bind (wpAny_onRaise ?_))
  change wpAny _ _ (Builtin.SmallTypes.nextOf (.ref j2) >>= _) _ _ _
  refine wpAny_bind (nextT_item (((g2.extBut m1.extBut D.i2z).extBut m2.extBut D.i12.symm).extBut m3.extBut D.TOi2.symm) (((gl2.extBut m1.extBut D.l2z).extBut m2.extBut D.l2i1).extBut m3.extBut D.l2TO) hy fun k4 g2b m4 => wpAny_pure ?_)
  have gto4 : IsPair k4 to x b := m4.extBut _ _ D.TOi2 gto3
  refine wpAny_bind (wpAny_seqItems gto4 rfl ?_)
  refine wpAny_bind (wpAny_updateSeq_pair gto4 fun k5 gto5 m5 => ?_)
  replace gto5 : IsPair k5 to x y := gto5
  refine wpAny_bind (wpAny_letGo (wpAny_pure (wpAny_pure ?_)))
  refine wpAny_bind (wpAny_seqItems gto5 rfl ?_)
  refine wpAny_bind (wpAny_newTuple ?_)
  have esz : k5.objs.size = s.heap.objs.size := by rw [m5.1, m4.1, m3.1, m2.1, m1.1]
  have gz5 : IsZip k5 z ti to .ellipsis := m5.extBut _ _ D.TOz.symm (m4.extBut _ _ D.i2z.symm (m3.extBut _ _ D.TOz.symm (m2.extBut _ _ D.i1z.symm gz1)))
  have kp5 : ∀ c o, c ≠ z → c ≠ to → c ≠ j1 → c ≠ j2 → s.heap.get? c = some o → k5.get? c = some o := fun c o c1 c2 c3 c4 e => m5.extBut _ _ c2 (m4.extBut _ _ c4 (m3.extBut _ _ c2 (m2.extBut _ _ c3 (m1.extBut _ _ c1 e))))
  have g1c : k5.IsListIter j1 l1 (n1 + 1) := ((g1b.extBut m3.extBut D.TOi1.symm).extBut m4.extBut D.i12).extBut m5.extBut D.TOi1.symm
  have g2c : k5.IsTupleIter j2 l2 (n2 + 1) := g2b.extBut m5.extBut D.TOi2.symm
  have ltz : z < k5.objs.size := Heap.lt_size gz5
  change wpAny _ _ (Builtin.SmallTypes.ownedTupleHandOut (.ref z) (.ref k5.objs.size) >>= _) _ _ _
  refine wpAny_bind ?_
  unfold Builtin.SmallTypes.ownedTupleHandOut
  have gz6 : IsZip (k5.push { cls := .type "tuple", data := .seq #[x, y] }) z ti to .ellipsis := Heap.get?_push_of_some _ gz5
  refine wpAny_bind (wpAny_setField_rec gz6 (by simp) fun k7 gz7 m7 => ?_)
  replace gz7 : IsZip k7 z ti to (rawInt k5.objs.size) := gz7
  refine wpAny_setField_rec gz7 (by simp) fun k8 gz8 m8 => ?_
  replace gz8 : IsZip k8 z ti to (rawInt k5.objs.size) := gz8
  have upw : ∀ c o, c ≠ z → k5.get? c = some o → k8.get? c = some o := fun c o c1 e => m8.extBut _ _ c1 (m7.extBut _ _ c1 (Heap.get?_push_of_some _ e))
  have gt8 : IsPair k8 k5.objs.size x y := m8.extBut _ _ (Nat.ne_of_gt ltz) (m7.extBut _ _ (Nat.ne_of_gt ltz) (Heap.get?_push_size _ rfl))
  have es8 : k8.objs.size = k5.objs.size + 1 := by rw [m8.1, m7.1, Heap.size_push]
  rw [esz] at gz8 gt8 es8
  refine wpAny_pure ⟨_, rfl, ?_⟩
  change R (.ref k5.objs.size) _
  rw [esz]
  exact hR k8 gz8 (upw _ _ D.TOz gto5) (g1c.at fun o e => upw _ o D.i1z e) (g2c.at fun o e => upw _ o D.i2z e) gt8 es8 fun c o c1 c2 c3 c4 e => upw c o c1 (kp5 c o c1 c2 c3 c4 e)
theorem zipT_end {z ti to j1 j2 l1 l2 : Addr} {n1 : Nat} {xs : Array Value} {R : Fin → Shared → Prop} (hh : A.handled = none) (D : ZipApart z ti to j1 j2 l1 l2)
    (gz : IsZip s.heap z ti to .none) (gti : IsPair s.heap ti (.ref j1) (.ref j2)) (g1 : s.heap.IsListIter j1 l1 n1) (gl1 : s.heap.IsList l1 xs) (hend : xs[n1]? = none)
    (hE : ∀ hp e, (∀ c o, c ≠ z → c ≠ to → c ≠ j1 → c ≠ j2 → s.heap.get? c = some o → hp.get? c = some o) → (∃ o, hp.get? e = some o ∧ o.cls = .type "StopIteration") → E (.ref e) { s with heap := hp }) :
    wpAny (model prog w) A (Builtin.«zip.__next__» ⟨[.ref z], []⟩) R E s := by
  change wpAny _ _ (field (.ref z) 2 >>= _) _ _ _
  refine wpAny_bind (wpAny_field gz rfl (x := .bool false) rfl ?_)
  change wpAny _ _ (field (.ref z) 3 >>= _) _ _ _
  refine wpAny_bind (wpAny_field gz rfl (x := .ref ti) rfl ?_)
  refine wpAny_bind (wpAny_seqItems gti rfl ?_)
  change wpAny _ _ (Builtin.SmallTypes.ownedTupleIsFree (.ref z) >>= _) _ _ _
  refine wpAny_bind ?_
  unfold Builtin.SmallTypes.ownedTupleIsFree
  refine wpAny_bind (wpAny_field gz rfl (x := .none) rfl (wpAny_pure ?_))
  simp only [if_true]
  refine wpAny_bind (wpAny_rule ?_)
  refine wpAny_bind (wpAny_field gz rfl (x := .ref to) rfl ?_)
  refine wpAny_bind (wpAny_setField_rec gz (by simp) fun k1 gz1 m1 => ?_)
  replace gz1 : IsZip k1 z ti to .ellipsis := gz1
  refine wpAny_bind ?_
  simp only [List.zipIdx_cons, List.zipIdx_nil, List.forIn_cons, List.forIn_nil]
  refine wpAny_bind (wpAny_bind (wpAny_onRaise ?_))
  change wpAny _ _ (Builtin.SmallTypes.nextOf (.ref j1) >>= _) _ _ _
  refine wpAny_bind (wpAny_nextOf_list_end hh (g1.extBut m1.extBut D.i1z) (gl1.extBut m1.extBut D.l1z) hend fun k2 e m2 ⟨oe, goe, ce⟩ => ?_)
  have gz2 : IsZip k2 z ti to .ellipsis := m2 _ _ D.i1z.symm gz1
  have nez : e ≠ z := fun q => by subst q; rw [gz2] at goe; cases goe; simp at ce
  exact wpAny_setField_rec gz2 (by simp) fun k3 _ m3 => hE k3 e (fun c o c1 _ c3 _ q => m3.extBut _ _ c1 (m2 _ _ c3 (m1.extBut _ _ c1 q))) ⟨oe, m3.extBut _ _ nez goe, ce⟩
theorem pyNext_zipT {z ti to j1 j2 l1 l2 : Addr} {n1 n2 : Nat} {xs ys : Array Value} {x y a b : Value} {R : Option Value → Shared → Prop} (D : ZipApart z ti to j1 j2 l1 l2)
    (gz : IsZip s.heap z ti to .none) (gti : IsPair s.heap ti (.ref j1) (.ref j2)) (gto : IsPair s.heap to a b)
    (g1 : s.heap.IsListIter j1 l1 n1) (g2 : s.heap.IsTupleIter j2 l2 n2) (gl1 : s.heap.IsList l1 xs) (gl2 : s.heap.IsTuple l2 ys) (hx : xs[n1]? = some x) (hy : ys[n2]? = some y)
    (hR : ∀ hp, IsZip hp z ti to (rawInt s.heap.objs.size) → IsPair hp to x y → hp.IsListIter j1 l1 (n1 + 1) → hp.IsTupleIter j2 l2 (n2 + 1) → IsPair hp s.heap.objs.size x y → hp.objs.size = s.heap.objs.size + 1 →
      (∀ c o, c ≠ z → c ≠ to → c ≠ j1 → c ≠ j2 → s.heap.get? c = some o → hp.get? c = some o) → R (some (.ref s.heap.objs.size)) { s with heap := hp }) : wpAny (model prog w) A (pyNext (.ref z)) R E s := by
  have ht : s.TypeIs (.ref z) "zip" := ⟨_, gz, rfl⟩
  unfold pyNext
  exact wpAny_bind (wpAny_attempt (wpAny_callSpecial?_slot (name := Str.ofString "__next__") ht F.slot_zip_next (wpAny_call_entry F.slot_zip_next ht F.entry_zip_next (zipT_item D gz gti gto g1 g2 gl1 gl2 hx hy fun hp a1 a2 a3 a4 a5 a6 a7 => wpAny_pure (hR hp a1 a2 a3 a4 a5 a6 a7)) (F.args_zip_next_1 _))))
theorem pyNext_zipE {z ti to j1 j2 l1 l2 : Addr} {n1 : Nat} {xs : Array Value} {R : Option Value → Shared → Prop} (hh : A.handled = none) (D : ZipApart z ti to j1 j2 l1 l2)
    (gz : IsZip s.heap z ti to .none) (gti : IsPair s.heap ti (.ref j1) (.ref j2)) (g1 : s.heap.IsListIter j1 l1 n1) (gl1 : s.heap.IsList l1 xs) (hend : xs[n1]? = none)
    (hR : ∀ hp, (∀ c o, c ≠ z → c ≠ to → c ≠ j1 → c ≠ j2 → s.heap.get? c = some o → hp.get? c = some o) → R none { s with heap := hp }) : wpAny (model prog w) A (pyNext (.ref z)) R E s := by
  have ht : s.TypeIs (.ref z) "zip" := ⟨_, gz, rfl⟩
  unfold pyNext
  refine wpAny_bind (wpAny_attempt (wpAny_callSpecial?_slot (name := Str.ofString "__next__") ht F.slot_zip_next (wpAny_call_entry F.slot_zip_next ht F.entry_zip_next (zipT_end hh D gz gti g1 gl1 hend fun hp e hk ⟨o, ho, hc⟩ => ?_) (F.args_zip_next_1 _))))
  refine wpAny_bind (wpAny_isInstance (T := "StopIteration") (b := true) ⟨o, ho, hc⟩ isSubtype_stop ?_)
  exact wpAny_pure (hR _ hk)
abbrev zh1 (h : Heap) (a : Addr) : Heap := h.push { cls := .type "list_iterator", data := .fields #[.ref a, .int 0 0] }
abbrev zh2 (h : Heap) (a b : Addr) : Heap := (zh1 h a).push { cls := .type "tuple_iterator", data := .fields #[.ref b, .int 0 0] }
abbrev zh3 (h : Heap) (a b : Addr) : Heap := (zh2 h a b).push { cls := .type "tuple", data := .seq #[.ref h.objs.size, .ref (zh1 h a).objs.size] }
abbrev zh4 (h : Heap) (a b : Addr) : Heap := (zh3 h a b).push { cls := .type "tuple", data := .seq #[.none, .none] }
abbrev zh5 (h : Heap) (a b : Addr) : Heap := (zh4 h a b).push { cls := .type "zip", data := .fields #[.none, .bool false, .bool false, .ref (zh2 h a b).objs.size, .ref (zh3 h a b).objs.size] }
theorem meets_zipT (a b : Addr) (xs ys : Array Value) : Meets (Builtin.«zip.__new__» ⟨[.type "zip", .ref a, .ref b], []⟩) (fun _ R s => s.heap.IsList a xs ∧ s.heap.IsTuple b ys ∧ R (.ok (.ret (.ref (zh4 s.heap a b).objs.size))) { s with heap := zh5 s.heap a b }) :=
  .of_wp fun prog w A R s h => by
    obtain ⟨hp, gs, dr, tk, os⟩ := s
    obtain ⟨ha, hb, h⟩ := h
    have hsub := sub_zip
    have hA : Heap.IsList (Shared.heap ⟨hp, gs, dr, tk, os⟩) a xs := ha
    have hB : Heap.IsTuple (Shared.heap ⟨hp.push { cls := .type "list_iterator", data := .fields #[.ref a, .int 0 0] }, gs, dr, tk, os⟩) b ys := Heap.IsTuple.push hb _
    wp_walk using wpAny_pyIter_list hA, wpAny_pyIter_tuple hB
    exact ⟨_, rfl, h⟩
theorem call_zipT {a b : Addr} {xs ys : Array Value} {R : Value → Shared → Prop} (ha : s.heap.IsList a xs) (hb : s.heap.IsTuple b ys)
    (h : ∀ hp, IsZip hp (s.heap.objs.size + 4) (s.heap.objs.size + 2) (s.heap.objs.size + 3) .none → IsPair hp (s.heap.objs.size + 2) (.ref s.heap.objs.size) (.ref (s.heap.objs.size + 1)) → IsPair hp (s.heap.objs.size + 3) .none .none → hp.IsListIter s.heap.objs.size a 0 → hp.IsTupleIter (s.heap.objs.size + 1) b 0 →
      (∀ c o, s.heap.get? c = some o → hp.get? c = some o) → R (.ref (s.heap.objs.size + 4)) { s with heap := hp }) : wpAny (model prog w) A (call (.type "zip") [.ref a, .ref b]) R E s := by
  refine callType_new F.called_zip (by decide) (F.typeCall_zip_2 _ _) (F.newCall_zip_2 _ _) (fun obj => F.args_object_init_3 obj _ _) F.entry_zip_new (meets_zipT a b xs ys) ⟨ha, hb, ?_⟩
  have z1 : (zh1 s.heap a).objs.size = s.heap.objs.size + 1 := Heap.size_push ..
  have z2 : (zh2 s.heap a b).objs.size = s.heap.objs.size + 2 := by rw [Heap.size_push, z1]
  have z3 : (zh3 s.heap a b).objs.size = s.heap.objs.size + 3 := by rw [Heap.size_push, z2]
  have z4 : (zh4 s.heap a b).objs.size = s.heap.objs.size + 4 := by rw [Heap.size_push, z3]
  have q5 : (zh5 s.heap a b).get? (zh4 s.heap a b).objs.size = some _ := Heap.get?_push_size _ rfl
  have q4 : (zh5 s.heap a b).get? (zh3 s.heap a b).objs.size = some _ := Heap.get?_push_of_some _ (Heap.get?_push_size _ rfl)
  have q3 : (zh5 s.heap a b).get? (zh2 s.heap a b).objs.size = some _ := Heap.get?_push_of_some _ (Heap.get?_push_of_some _ (Heap.get?_push_size _ rfl))
  have q2 : (zh5 s.heap a b).get? (zh1 s.heap a).objs.size = some _ := Heap.get?_push_of_some _ (Heap.get?_push_of_some _ (Heap.get?_push_of_some _ (Heap.get?_push_size _ rfl)))
  have q1 : (zh5 s.heap a b).get? s.heap.objs.size = some _ := Heap.get?_push_of_some _ (Heap.get?_push_of_some _ (Heap.get?_push_of_some _ (Heap.get?_push_of_some _ (Heap.get?_push_size _ rfl))))
  change _ ∧ _
  rw [z2, z3, z4] at q5
  rw [z1, z2] at q3
  rw [z3] at q4
  rw [z1] at q2
  rw [z4]
  exact ⟨⟨_, q5, rfl⟩, h _ q5 q3 q4 ⟨_, q1, rfl, rfl⟩ ⟨_, q2, rfl, rfl⟩ fun c o q => Heap.get?_push_of_some _ (Heap.get?_push_of_some _ (Heap.get?_push_of_some _ (Heap.get?_push_of_some _ (Heap.get?_push_of_some _ q))))⟩
end
def Itz (K : PySem.W.Frag) (a b : Addr) : It :=
  ⟨fun i H => ∃ xs ys x y, SqL K H a xs ∧ SqT K H b ys ∧ xs[i]? = some x ∧ ys[i]? = some y, fun i H v H' => ∃ p, v = .ref p ∧ H p = none ∧ ∀ xs ys, SqL K H a xs → SqT K H b ys → ∃ x y, xs[i]? = some x ∧ ys[i]? = some y ∧ H' = upd H p (.tup [x, y]), fun i H => ∃ xs, SqL K H a xs ∧ xs.length ≤ i⟩
theorem turn_zip {P : Program} {w : World} {K : PySem.W.Frag} {elts : List Expr} {x1} {tpos : Pos} (a b z ti to j1 j2 : Addr) (D : ZipApart z ti to j1 j2 a b) :
    Turn P w K (.Tuple elts x1 tpos) (Itz K a b) [z, ti, to, j1, j2] z (fun i h => IsZip h z ti to .none ∧ IsPair h ti (.ref j1) (.ref j2) ∧ (∃ u v, IsPair h to u v) ∧ h.IsListIter j1 a i ∧ h.IsTupleIter j2 b i) where
  mem := by simp
  obj := fun i h st c hc => by
    obtain ⟨gz, gti, ⟨u, v, gto⟩, ⟨o1, e1, _, d1⟩, o2, e2, _, d2⟩ := st
    simp only [List.mem_cons, List.not_mem_nil, or_false] at hc
    rcases hc with rfl | rfl | rfl | rfl | rfl
    · exact ⟨_, gz, fun v q => by cases q⟩
    · exact ⟨_, gti, fun v q => by cases q⟩
    · exact ⟨_, gto, fun v q => by cases q⟩
    · exact ⟨o1, e1, fun v q => by rw [d1] at q; cases q⟩
    · exact ⟨o2, e2, fun v q => by rw [d2] at q; cases q⟩
  keep := fun i h h' st k => by
    obtain ⟨gz, gti, ⟨u, v, gto⟩, g1, g2⟩ := st
    exact ⟨k z (by simp) _ gz, k ti (by simp) _ gti, ⟨u, v, k to (by simp) _ gto⟩, g1.at fun o q => k j1 (by simp) o q, g2.at fun o q => k j2 (by simp) o q⟩
  item := by
    intro X hP hw hK hc i pins s σ H E I hf st hg
    subst hP hw hK
    obtain ⟨gz, gti, ⟨u, v, gto⟩, g1, g2⟩ := st
    obtain ⟨xs, ys, x, y, hqa, hqb, hx, hy⟩ := hg
    obtain ⟨ia, ra, pa, _⟩ := I.list hqa
    obtain ⟨ib, rb, pb, _⟩ := I.tuple hqb
    obtain ⟨ux, hux, rux⟩ := ra.get hx
    obtain ⟨uy, huy, ruy⟩ := rb.get hy
    refine pyNext_zipT D gz gti gto g1 g2 pa.isList (show s.heap.IsTuple b ib.toArray from pb) (x := ux) (y := uy) (by simpa using hux) (by simpa using huy) fun hp gz' gto' g1' g2' gt esz hk => ?_
    have hH : H s.heap.objs.size = none := I.hok.fresh (Nat.le_refl _)
    have ne : ∀ c o, s.heap.get? c = some o → c ≠ s.heap.objs.size := fun c o q => Nat.ne_of_lt (Heap.lt_size q)
    have nx : ∀ c, c ∉ [z, ti, to, j1, j2] → c ≠ z ∧ c ≠ to ∧ c ≠ j1 ∧ c ≠ j2 := fun c hc => by
      simp only [List.mem_cons, List.not_mem_nil, or_false, not_or] at hc
      exact ⟨hc.1, hc.2.2.1, hc.2.2.2.1, hc.2.2.2.2⟩
    have kx : ∀ c o, c ∉ [z, ti, to, j1, j2] → s.heap.get? c = some o → hp.get? c = some o := fun c o hc q => hk c o (nx c hc).1 (nx c hc).2.1 (nx c hc).2.2.1 (nx c hc).2.2.2 q
    have I1 : Inv X pins σ (upd H s.heap.objs.size (.tup [x, y])) { s with heap := hp, gens := s.gens, drawn := s.drawn, toks := s.toks } := I.call (ch := [z, ti, to, j1, j2]) (h' := hp) (g' := s.gens) (d' := s.drawn) (t' := s.toks)
      ⟨fun c o q n hc hc2 => kx c o hc2 q, fun c o q n hc hc2 => ⟨o.slots, kx c o hc2 q⟩, fun c o q n hc2 => by rw [upd_ne (ne c o q)]; exact n, fun c o q hc2 => ⟨o, kx c o hc2 q⟩,
        fun c ys q => by rw [upd_ne (ne_of_none q hH)]; exact q, fun c o ys q => by rw [upd_ne (ne_of_none q hH)]; exact q, fun c ps q => ⟨#[], by rw [upd_ne (ne_of_none q hH), q]; simp⟩⟩
      (fun c o q => by
        by_cases hcs : c = s.heap.objs.size
        · subst hcs
          rw [upd_same] at q
          cases q
          exact ⟨by rw [sizeLine_eq]; show 2 ≤ 16777216; decide, [ux, uy], .cons rux (.cons ruy .nil), ⟨_, gt, rfl, 0, rfl⟩⟩
        · rw [upd_ne hcs] at q
          refine (I.hok c o q).stay (fun d v hd r => ?_) (fun d r => by rw [upd_ne (ne_of_none r hH)]; exact r) fun d ys r => by rw [upd_ne (ne_of_none r hH)]; exact r
          have hdn : H d ≠ none := by
            rcases hd with rfl | hd
            · rw [q]; exact fun z => nomatch z
            · rw [hd]; exact fun z => nomatch z
          exact kx d v (fun z => hdn (hf d z).1) r) I.bare
      (fun c hc => by
        have F : FpOk X pins H c := hf c hc
        exact ⟨F.2.2.2.1, F.2.1, F.2.2.2.2.1, F.2.2.2.2.2⟩)
    refine ⟨_, rfl, wpAny_letOwnedTupleGo_zip (s := { s with heap := hp }) gz' fun h2 e2 sb => ?_⟩
    have isSome : ∀ c ∈ [z, ti, to, j1, j2], ∃ o, s.heap.get? c = some o := fun c hc => by
      simp only [List.mem_cons, List.not_mem_nil, or_false] at hc
      rcases hc with rfl | rfl | rfl | rfl | rfl
      · exact ⟨_, gz⟩
      · exact ⟨_, gti⟩
      · exact ⟨_, gto⟩
      · obtain ⟨o, e, _⟩ := g1; exact ⟨o, e⟩
      · obtain ⟨o, e, _⟩ := g2; exact ⟨o, e⟩
    have nep : ∀ c ∈ [z, ti, to, j1, j2], upd H s.heap.objs.size (.tup [x, y]) c = none := fun c hc => by
      obtain ⟨o, q⟩ := isSome c hc
      rw [upd_ne (ne _ _ q)]
      exact (hf c hc).1
    have fz := hf z (by simp)
    have I2 : Inv X pins σ (upd H s.heap.objs.size (.tup [x, y])) { s with heap := h2, toks := s.toks } := I1.turned (t' := s.toks) (fun c o hc q => (sb.2 c hc).trans q) (nep z (by simp)) fz.2.1 fz.2.2.2.1 fz.2.2.2.2.1 fz.2.2.2.2.2
    refine ⟨.ref s.heap.objs.size, _, I2, rfl, ⟨_, rfl, hH, fun xs' ys' h1 h2 => ⟨x, y, by rw [I.list_inj h1 hqa]; exact hx, by rw [I.tuple_inj h2 hqb]; exact hy, rfl⟩⟩, ⟨e2, sb.extBut _ _ D.TIz (hk _ _ D.TIz D.TITO D.TIi1 D.TIi2 gti), ⟨_, _, sb.extBut _ _ D.TOz gto'⟩, g1'.extBut sb.extBut D.i1z, g2'.extBut sb.extBut D.i2z⟩, nep⟩
  done := by
    intro X hP hw hK hc i pins s σ H E I hf st hg
    subst hP hw hK
    obtain ⟨gz, gti, ⟨u, v, gto⟩, g1, g2⟩ := st
    obtain ⟨xs, hq, hx⟩ := hg
    obtain ⟨its, rv, p, hz⟩ := I.list hq
    have hl := rv.length
    refine pyNext_zipE (I.ok.hd hc) D gz gti g1 p.isList (by simp; omega) fun hp hk => ⟨rfl, ?_⟩
    have kx : ∀ c o, c ∉ [z, ti, to, j1, j2] → s.heap.get? c = some o → hp.get? c = some o := fun c o hc q => by
      simp only [List.mem_cons, List.not_mem_nil, or_false, not_or] at hc
      exact hk c o hc.1 hc.2.2.1 hc.2.2.2.1 hc.2.2.2.2 q
    exact I.call (ch := [z, ti, to, j1, j2]) (h' := hp) (g' := s.gens) (d' := s.drawn) (t' := s.toks)
      ⟨fun c o q n hc hc2 => kx c o hc2 q, fun c o q n hc hc2 => ⟨o.slots, kx c o hc2 q⟩, fun c o q n hc2 => n, fun c o q hc2 => ⟨o, kx c o hc2 q⟩, fun c ys q => q, fun c o ys q => q, fun c ps q => ⟨#[], by rw [q]; simp⟩⟩
      (fun c o q => (I.hok c o q).stay (fun d v hd r => kx d v (fun z => by
          have hdn : H d ≠ none := by
            rcases hd with rfl | hd
            · rw [q]; exact fun z => nomatch z
            · rw [hd]; exact fun z => nomatch z
          exact hdn (hf d z).1) r) (fun d r => r) fun d ys r => r) I.bare
      (fun c hc => by
        have F : FpOk X pins H c := hf c hc
        exact ⟨F.2.2.2.1, F.2.1, F.2.2.2.2.1, F.2.2.2.2.2⟩)
  self := fun _ _ _ _ _ st h => wpAny_pyIter_zip st.1 h
section
variable {X : Cx}
def iZip (K : PySem.W.Frag) (ta : TA) : TI := fun σ H R => ta σ H fun vs H1 => ∃ a b, vs = [.ref a, .ref b] ∧ (∃ xs, SqL K H1 a xs) ∧ (∃ ys, SqT K H1 b ys) ∧ R (Itz K a b) H1
theorem bt_zip : bootBuiltins "zip" = some (.type "zip") := by decide +kernel
theorem pi_zip (K : PySem.W.Frag) {elts : List Expr} {x1} {tpos : Pos} {l m : Expr} {ta : TA} {p pos : Pos} (hg : Gl X "zip") (hm : X.mg "zip" = none) (ha : PA X [l, m] ta) (he : starEach [l, m] X.env = (false, eval l X.env) :: starEach [m] X.env := by rfl) (hpl : (backTo pos (starEach [m] X.env)).any (·.1) = false := by rfl) (hK : X.K = K := by rfl) :
    PI X (.Tuple elts x1 tpos) (.Call (.Name "zip" p) [l, m] [] pos) (iZip K ta) := by
  subst hK
  intro pins s σ H R I h
  refine Call_ (ld_blt I hg hm bt_zip (PyProof.Rows.callWith_type1 (thn (ha pos pins s σ H _ I h) fun us s1 ⟨vs, H1, I1, r1, q1⟩ => ?_) he hpl))
  obtain ⟨a, b, e, ⟨xs, hqa⟩, ⟨ys, hqb⟩, q⟩ := q1
  subst e
  obtain ⟨u, v, rfl, ru, rv⟩ := vals2 r1
  cases ru
  cases rv
  obtain ⟨ia, ra, pa, _⟩ := I1.list hqa
  obtain ⟨ib, rb, pb, _⟩ := I1.tuple hqb
  have pb' : s1.heap.IsTuple b ib.toArray := pb
  have la : a < s1.heap.objs.size := by obtain ⟨_, e, _⟩ := pa.isList; exact Heap.lt_size e
  have lb : b < s1.heap.objs.size := by obtain ⟨_, e, _⟩ := pb'; exact Heap.lt_size e
  refine call_zipT pa.isList pb' fun h' hz hti hto h1 h2 hk => ?_
  refine wpAny_pyIter_zip (s := { s1 with heap := h' }) hz ?_
  refine ⟨s1.heap.objs.size + 4, [s1.heap.objs.size + 4, s1.heap.objs.size + 2, s1.heap.objs.size + 3, s1.heap.objs.size, s1.heap.objs.size + 1], _, _, H1, rfl, I1.kept (t' := s1.toks) hk, turn_zip a b _ _ _ _ _ (zipApart_new la lb), ⟨hz, hti, ⟨_, _, hto⟩, h1, h2⟩, fun c hc => ?_, q⟩
  have hc' : s1.heap.objs.size ≤ c := by
    simp only [List.mem_cons, List.not_mem_nil, or_false] at hc
    rcases hc with rfl | rfl | rfl | rfl | rfl <;> omega
  exact I1.fpOk hc' (I1.hok.fresh hc')
end
theorem for_zip {K : PySem.W.Frag} {a b : Addr} {xs ys : List V} {g : TG} {tb : TS} {D : Ends} {σ : St} {H : Hp} (hn : xs.length ≤ ys.length) (Pv : Nat → St → Hp → Prop) (h0 : Pv 0 σ H) (hl : ∀ i σ H, i ≤ xs.length → Pv i σ H → SqL K H a xs ∧ SqT K H b ys)
    (hs : ∀ i x y p σ H, xs[i]? = some x → ys[i]? = some y → H p = none → Pv i σ H → g (.ref p) σ (upd H p (.tup [x, y])) fun σ2 H2 => tb { D with nx := Pv (i + 1), ct := Pv (i + 1), bk := D.nx } σ2 H2) (hd : ∀ σ H, Pv xs.length σ H → D.nx σ H) : ForW g tb D σ (Itz K a b) H := by
  refine ⟨fun i m σ H => m = xs.length - i ∧ i ≤ xs.length ∧ Pv i σ H, ⟨xs.length, by simp, Nat.zero_le _, h0⟩, ?_⟩
  rintro i m σ H ⟨rfl, hi, p⟩
  obtain ⟨qa, qb⟩ := hl i σ H hi p
  by_cases hlt : i < xs.length
  · refine .inr ⟨⟨xs, ys, xs[i], ys[i], qa, qb, by simp [hlt], by simp⟩, Pv (i + 1), fun σ' H' p' => ⟨xs.length - (i + 1), by omega, rfl, hlt, p'⟩, fun x H' y => ?_⟩
    obtain ⟨pp, rfl, hp, y⟩ := y
    obtain ⟨z1, z2, hz1, hz2, rfl⟩ := y xs ys qa qb
    exact hs i z1 z2 pp σ H hz1 hz2 hp p
  · have e : i = xs.length := by omega
    subst e
    exact .inl ⟨⟨xs, qa, Nat.le_refl _⟩, hd σ H p⟩
end L2
namespace L2
open PySem PySem.Spec PyProof.Rows
section
variable {X : Cx}
end
end L2
namespace K04
end K04
namespace L2
open PySem PySem.Spec PyProof.Rows
def optV : Option Int → V
  | some n => .int n
  | none => .non
def Keep (S : List Addr) (H H' : Hp) : Prop := ∀ b o, H b = some o → b ∉ S → H' b = some o
section
variable {S T : List Addr} {H H1 H2 : Hp} {a b : Addr} {o : HO}
theorem Keep.refl : Keep S H H := fun _ _ h _ => h
theorem Keep.trans (k : Keep S H H1) (j : Keep S H1 H2) : Keep S H H2 := fun b o h n => j b o (k b o h n) n
theorem Same.keep (s : Same H H1) : Keep S H H1 := fun b o h _ => s b o h
theorem Keep.same (k : Keep S H H1) (s : Same H1 H2) : Keep S H H2 := fun b o h n => s b o (k b o h n)
theorem Keep.upd (k : Keep S H H1) (h : a ∈ S ∨ H a = none) : Keep S H (upd H1 a o) := fun b u e n => by
  rw [upd_ne]
  · exact k b u e n
  · rintro rfl
    rcases h with z | z
    · exact n z
    · rw [z] at e; cases e
end
inductive LetV (H : Hp) : V → PyData → Prop
  | str {t : Str} (ok : PyData.strOk t = true) : LetV H (.str t) (.str t)
  | int (n : Int) : LetV H (.int n) (.int n)
  | lst {p : Addr} {n : Int} : H p = some (.lst [.int n]) → LetV H (.ref p) (.list [.int n])
  | tup {p : Addr} {t : Str} {n : Int} (ok : PyData.strOk t = true) : H p = some (.tup [.str t, .int n]) → LetV H (.ref p) (.tuple [.str t, .int n])
section
variable {S : List Addr} {H H' : Hp} {x : V} {d : PyData} {b : Addr}
end
section
variable {S : List Addr} {H H' : Hp}
end
def PairV (H : Hp) (x : V) (p : Int × PyData) : Prop := ∃ t y, x = .ref t ∧ H t = some (.tup [.int p.1, y]) ∧ LetV H y p.2
def PairsX (H : Hp) (xs : List V) (us : List (Int × PyData)) : Prop := Paired (PairV H) xs us
section
variable {S : List Addr} {H H' : Hp} {xs : List V} {us : List (Int × PyData)} {b : Addr}
end
def del (ds : List (List Int)) (z : Int) : List Int := if ds = [] then [1] else ds.getD (z.toNat % ds.length) []
def rf (l : Addr) (ls la : Option Int) (u : Addr) : List (Str × V) := [("deeds", .ref l), ("last_sent", optV ls), ("last_asked", optV la), ("underway", .ref u)]
section
variable {l u : Addr} {ls la : Option Int}
end
structure RoadAt (C : Addr) (H : Hp) (x dx l u : Addr) (ds : List (List Int)) (ls la : Option Int) (us : List (Int × PyData)) : Prop where
  ins : H x = some (.ins C dx (rf l ls la u))
  deeds : DeedsAt H l ds
  und : ∃ xs, H u = some (.lst xs) ∧ PairsX H xs us
  ne : l ≠ u
section
variable {S : List Addr} {C : Addr} {H H' : Hp} {x dx l u : Addr} {ds : List (List Int)} {ls la : Option Int} {us : List (Int × PyData)}
end
end L2
namespace L2
open PySem PySem.Spec PyProof.Rows
theorem Same.seqT {K : PySem.W.Frag} {H H' : Hp} {a : Addr} {xs : List V} (e : Same H H') (h : SqT K H a xs) : SqT K H' a xs := by
  rcases h with h | h
  · rcases h with h | ⟨o, h⟩
    · exact .inl (.inl (e _ _ h))
    · exact .inl (.inr ⟨o, e _ _ h⟩)
  · exact .inr h
end L2
namespace L2
open PySem PySem.Spec PyProof.Rows
mutual
inductive Im (H : Hp) : V → PyData → Prop
  | non : Im H .non .none
  | bl (b : Bool) : Im H (.bl b) (.bool b)
  | int (n : Int) : Im H (.int n) (.int n)
  | str {t : Str} (ok : PyData.strOk t = true) : Im H (.str t) (.str t)
  | tup {p : Addr} {xs : List V} {ds : List PyData} : H p = some (.tup xs) → Ims H xs ds → xs.length ≤ 1000 → Im H (.ref p) (.tuple ds)
inductive Ims (H : Hp) : List V → List PyData → Prop
  | nil : Ims H [] []
  | cons {x : V} {xs : List V} {d : PyData} {ds : List PyData} : Im H x d → Ims H xs ds → Ims H (x :: xs) (d :: ds)
end
def NoT (H : Hp) (b : Addr) : Prop := ∀ xs, H b ≠ some (.tup xs)
section
variable {S : List Addr} {H H' : Hp} {b : Addr}
mutual
theorem Im.keep (k : Keep S H H') (hs : ∀ b ∈ S, NoT H b) : ∀ {x : V} {d : PyData}, Im H x d → Im H' x d
  | _, _, .non => .non
  | _, _, .bl b => .bl b
  | _, _, .int n => .int n
  | _, _, .str ok => .str ok
  | _, _, .tup h hx hl => .tup (k _ _ h fun z => hs _ z _ h) (Ims.keep k hs hx) hl
theorem Ims.keep (k : Keep S H H') (hs : ∀ b ∈ S, NoT H b) : ∀ {xs : List V} {ds : List PyData}, Ims H xs ds → Ims H' xs ds
  | _, _, .nil => .nil
  | _, _, .cons r t => .cons (Im.keep k hs r) (Ims.keep k hs t)
end
mutual
theorem Im.has {K : PySem.W.Frag} : ∀ {x : V} {d : PyData}, Im H x d → Has K H x d
  | _, _, .non => .non
  | _, _, .bl b => .bl b
  | _, _, .int n => .int n
  | _, _, .str _ => .str _
  | _, _, .tup h hx _ => .tup (SqT.of h) (Ims.has hx)
theorem Ims.has {K : PySem.W.Frag} : ∀ {xs : List V} {ds : List PyData}, Ims H xs ds → HasAll K H xs ds
  | _, _, .nil => .nil
  | _, _, .cons r t => .cons (Im.has r) (Ims.has t)
end
mutual
theorem Im.refl : ∀ {x : V} {d : PyData}, Im H x d → PyData.eqv d d = true
  | _, _, .non => by simp [PyData.eqv]
  | _, _, .bl b => by simp [PyData.eqv]
  | _, _, .int n => by simp [PyData.eqv]
  | _, _, .str _ => by simp [PyData.eqv]
  | _, _, .tup _ hx _ => by rw [PyData.eqv]; exact Ims.refl hx
theorem Ims.refl : ∀ {xs : List V} {ds : List PyData}, Ims H xs ds → PyData.eqvAll ds ds = true
  | _, _, .nil => by simp [PyData.eqvAll]
  | _, _, .cons r t => by rw [PyData.eqvAll, Im.refl r, Ims.refl t]; rfl
end
mutual
theorem Im.lay : ∀ {x : V} {d : PyData}, Im H x d → PyData.canLay0 d = true
  | _, _, .non => by simp [PyData.canLay0]
  | _, _, .bl b => by simp [PyData.canLay0]
  | _, _, .int n => by simp [PyData.canLay0]
  | _, _, .str ok => by simp [PyData.canLay0, ok]
  | _, _, .tup _ hx _ => by rw [PyData.canLay0]; exact Ims.lay hx
theorem Ims.lay : ∀ {xs : List V} {ds : List PyData}, Ims H xs ds → PyData.canLayAll0 ds = true
  | _, _, .nil => by simp [PyData.canLayAll0]
  | _, _, .cons r t => by rw [PyData.canLayAll0, Im.lay r, Ims.lay t]; rfl
end
theorem shaped_of {d : PyData} (h : PyData.canLay0 d = true) (hd : d.depth ≤ 64) : SeqAt.shaped d = true := by
  unfold SeqAt.shaped
  rw [h, decide_eq_true hd]; rfl
end
section
variable {X : Cx}
end
section
variable {X : Cx} {j k : Nat} {C : Addr} {x m : Str} {ps : List Str} {sp : Sp} {p pos apos : Pos} {o : Expr} {ta : TE}
theorem pe_mth0 {pl : Sem Bool} (M : OwnM X.prog X.w X.K X.mg X.base j C m ps sp) (c : Cls X.K C) (hr : Room k X.A) (he : PE X o ta) (hk : j ≤ k := by decide)
    (ht : eval (.Call (.Attribute o m apos) [] [] pos) X.env = (do
      let ov ← eval o X.env
      standAt apos.atName
      let (f, first) ← holding [ov] (getMethod ov m pl)
      callWith pos f first (backTo pos (starEach [] X.env)) (backToKw pos (keywordEach [] X.env))) := by rfl) :
    PE X (.Call (.Attribute o m apos) [] [] pos) (tMeth C m sp [] E0 ta tNil) := by
  obtain ⟨f, fd, hm, hb, F⟩ := M
  exact pe_meth0 (pl := pl) he c hm F (hr.mono hk) hb .nil pass0 ht
theorem pe_mak0 (M : OwnI X.prog X.w X.K X.mg X.base j C ps sp) (hr : Room k X.A) (hm : X.mg x = some (.ref C)) (hk : j + 1 ≤ k := by decide) (hg : Gl X x := by rfl) (hdb : (x == ("__debug__" : Str)) = false := by decide) :
    PE X (.Call (.Name x p) [] [] pos) (tMake C sp [] E0 tNil) := by
  obtain ⟨f, fd, hk', hb, F⟩ := M
  exact pe_make0 hk' F (hr.mono hk) hg hm hb .nil pass0 hdb
end
def pd (p : Int × PyData) : PyData := .tuple [.int p.1, p.2]
section
variable {S : List Addr} {H H' : Hp}
end
def tk (s : Int × List PyData) (p : Int × PyData) : Int × List PyData := if p.1 = s.1 then (s.1 + 1, s.2 ++ [p.2]) else s
end L2
namespace L2
open PySem PySem.Spec PyProof.Rows
section
variable {X : Cx}
theorem OpR.weak {f : Value → Value → Sem Value} {r r' : R2} (h : OpR X f r) (w : ∀ x y H Q, r' x y H Q → r x y H Q) : OpR X f r' :=
  fun pins s σ H x y v u Q I rx ry q => h pins s σ H x y v u Q I rx ry (w _ _ _ _ q)
theorem CallR.weak {f : Value} {r r' : List V → Hp → VK → Prop} (h : CallR X f r) (w : ∀ xs H Q, r' xs H Q → r xs H Q) : CallR X f r' :=
  fun pins s σ H xs us Q I rs q => h pins s σ H xs us Q I rs (w _ _ _ q)
theorem SlR.weak {r r' : V → Option Int → Option Int → Hp → VK → Prop} (h : SlR X r) (w : ∀ x l u H Q, r' x l u H Q → r x l u H Q) : SlR X r' :=
  fun pins s σ H x v vl vu lo hi sl Q I rx hs pl pu q => h pins s σ H x v vl vu lo hi sl Q I rx hs pl pu (w _ _ _ _ _ q)
def getO : HO → V → Option V
  | .lst xs, .int i => atI xs i
  | .tup xs, .int i => atI xs i
  | .dK kvs, .int i => valV kvs (Sum.inl i)
  | .dK kvs, .str x => valV kvs (Sum.inr x)
  | _, _ => none
theorem getO_l {xs : List V} {i : Int} : getO (.lst xs) (.int i) = atI xs i := rfl
theorem getO_t {xs : List V} {i : Int} : getO (.tup xs) (.int i) = atI xs i := rfl
def rGet : R2 := fun x y H Q => ∃ p o v, x = .ref p ∧ H p = some o ∧ getO o y = some v ∧ Q v H
theorem ix_dict (hu : X.A.units + 1 < cLine) : IxR X (fun x y H Q => ∃ a v, x = .ref a ∧ DGet H a y (some v) ∧ Q v H) := by
  intro value slice pins s σ H x y v u Q I rx ry h hs
  obtain ⟨a, z, rfl, g, q⟩ := h
  cases rx
  exact tail_any (dict_typeIs I g) PySem.F.slot_dict_getitem.lookup (d_getItem hu I g ry fun w' s3 I3 rw' => ⟨z, H, I3, rw', q⟩) hs
theorem ix_get (hu : X.A.units + 1 < cLine) : IxR X rGet := by
  intro value slice pins s σ H x y v u Q I rx ry h hs
  obtain ⟨p, o, z, rfl, e, g, q⟩ := h
  cases o with
  | lst xs => cases y <;> first | exact ix_list value slice pins s σ H _ _ v u Q I rx ry ⟨p, xs, _, z, rfl, rfl, SqL.of e, g, q⟩ hs | cases g
  | tup xs => cases y <;> first | exact ix_tup value slice pins s σ H _ _ v u Q I rx ry ⟨p, xs, _, z, rfl, rfl, SqT.of e, g, q⟩ hs | cases g
  | dK kvs =>
    cases y with
    | int i => exact ix_dict hu value slice pins s σ H _ _ v u Q I rx ry ⟨p, z, rfl, .inl ⟨kvs, Sum.inl i, .inl e, rfl, g.symm⟩, q⟩ hs
    | str x => exact ix_dict hu value slice pins s σ H _ _ v u Q I rx ry ⟨p, z, rfl, .inl ⟨kvs, Sum.inr x, .inl e, rfl, g.symm⟩, q⟩ hs
    | _ => cases g
  | _ => cases y <;> cases g
def lenO : HO → Option Nat
  | .lst xs => some xs.length
  | .tup xs => some xs.length
  | .dK kvs => some kvs.length
  | _ => none
def lenX (H : Hp) : V → Option Nat
  | .ref p => (H p).bind lenO
  | .str z => if z.length ≤ sizeLine then some z.length else none
  | _ => none
theorem lenX_r {H : Hp} {p : Addr} : lenX H (.ref p) = (H p).bind lenO := rfl
theorem lenO_l {xs : List V} : lenO (.lst xs) = some xs.length := rfl
theorem lenO_t {xs : List V} : lenO (.tup xs) = some xs.length := rfl
def rLenX : List V → Hp → VK → Prop := fun xs H Q => ∃ x n, xs = [x] ∧ lenX H x = some n ∧ Q (.int n) H
theorem call_lenX : CallR X (.builtin "len") rLenX := by
  intro pins s σ H xs us Q I r h
  obtain ⟨x, n, rfl, g, q⟩ := h
  cases x with
  | ref p =>
    cases e : H p with
    | none => rw [lenX_r, e] at g; cases g
    | some o =>
      rw [lenX_r, e] at g
      cases o with
      | lst xs => cases g; exact call_len_seq pins s σ H _ us Q I r ⟨p, xs, rfl, .inl (SqL.of e), q⟩
      | tup xs => cases g; exact call_len_seq pins s σ H _ us Q I r ⟨p, xs, rfl, .inr (SqT.of e), q⟩
      | dK kvs =>
        cases g
        obtain ⟨u, rfl, rx⟩ := vals1 r
        cases rx
        exact d_len I (.inl e) fun t s' I' => ⟨.int _, H, I', ⟨t, rfl⟩, q⟩
      | _ => cases g
  | str z =>
    have g' : (if z.length ≤ sizeLine then some z.length else none) = some n := g
    split at g'
    · cases g'
      rename_i hz
      exact call_len_str pins s σ H _ us Q I r ⟨z, rfl, hz, q⟩
    · cases g'
  | _ => cases g
def truO : HO → Option Bool
  | .lst xs => some (!xs.isEmpty)
  | .tup xs => some (!xs.isEmpty)
  | .dK kvs => some (!kvs.isEmpty)
  | _ => none
def truX (H : Hp) : V → Option Bool
  | .non => some false
  | .bl b => some b
  | .int i => some (i != 0)
  | .ref p => (H p).bind truO
  | _ => none
theorem truX_b {H : Hp} {b : Bool} : truX H (.bl b) = some b := rfl
theorem truX_r {H : Hp} {p : Addr} : truX H (.ref p) = (H p).bind truO := rfl
theorem truO_l {xs : List V} : truO (.lst xs) = some (!xs.isEmpty) := rfl
def tTruX (ta : TE) : TT := fun σ H Q => ta σ H fun x H' => ∃ k, truX H' x = some k ∧ Q k H'
theorem tru_x : TruR X (fun x H Q => ∃ k, truX H x = some k ∧ Q k H) := by
  intro pins s σ H x v Q I rx h
  obtain ⟨k, g, q⟩ := h
  refine tru_ok pins s σ H x v Q I rx ⟨k, ?_, q⟩
  cases x with
  | non => cases g; rfl
  | bl b => cases g; rfl
  | int i => cases g; rfl
  | ref p =>
    cases e : H p with
    | none => rw [truX_r, e] at g; cases g
    | some o =>
      rw [truX_r, e] at g
      cases o with
      | lst xs => cases g; exact .inl ⟨xs, SqL.of e, rfl⟩
      | tup xs => cases g; exact .inr (.inl ⟨xs, SqT.of e, rfl⟩)
      | dK kvs => cases g; exact .inr (.inr ⟨kvs, e, rfl⟩)
      | _ => cases g
  | _ => cases g
theorem pt_truX {a : Expr} {ta : TE} (ha : PE X a ta) (he : ∀ whole, isTrue a X.env whole = (do let v ← whole; standAt a.pos; holding [v] (truthy v)) := by intro _; rfl) : PT X a (tTruX ta) := by
  intro pins s σ H Q I h
  exact isTrue_plain (thn (ha pins s σ H _ I h) fun v s1 ⟨x, H1, I1, r1, q1⟩ => tru_x pins s1 σ H1 x v Q I1 r1 q1) (he _)
def inO : HO → V → Option Bool
  | .lst xs, x => if flatV x = true ∧ xs.all flatV = true then some (inV x xs) else none
  | .tup xs, x => if flatV x = true ∧ xs.all flatV = true then some (inV x xs) else none
  | .dK kvs, .int i => some (valV kvs (Sum.inl i)).isSome
  | .dK kvs, .str z => some (valV kvs (Sum.inr z)).isSome
  | _, _ => none
def rInX : R2 := fun x y H Q => ∃ p o b, y = .ref p ∧ H p = some o ∧ inO o x = some b ∧ Q (.bl b) H
def rNotInX : R2 := fun x y H Q => ∃ p o b, y = .ref p ∧ H p = some o ∧ inO o x = some b ∧ Q (.bl (!b)) H
theorem op_inX (hu : X.A.units + 1 < cLine) : OpR X (compareOp .In) rInX := by
  intro pins s σ H x y v u Q I rx ry h
  obtain ⟨p, o, b, rfl, e, g, q⟩ := h
  cases o with
  | lst xs =>
    have g' : (if flatV x = true ∧ xs.all flatV = true then some (inV x xs) else none) = some b := g
    split at g'
    · rename_i hz
      cases g'
      exact op_in_seq pins s σ H _ _ v u Q I rx ry ⟨p, xs, rfl, .inl (SqL.of e), hz.1, hz.2, q⟩
    · cases g'
  | tup xs =>
    have g' : (if flatV x = true ∧ xs.all flatV = true then some (inV x xs) else none) = some b := g
    split at g'
    · rename_i hz
      cases g'
      exact op_in_seq pins s σ H _ _ v u Q I rx ry ⟨p, xs, rfl, .inr (SqT.of e), hz.1, hz.2, q⟩
    · cases g'
  | dK kvs =>
    cases ry
    cases x with
    | int i => cases g; exact d_in hu I (.inl ⟨kvs, Sum.inl i, .inl e, rfl, rfl⟩) rx fun s' I' => ⟨.bl _, H, I', rfl, q⟩
    | str z => cases g; exact d_in hu I (.inl ⟨kvs, Sum.inr z, .inl e, rfl, rfl⟩) rx fun s' I' => ⟨.bl _, H, I', rfl, q⟩
    | _ => cases g
  | _ => cases x <;> cases g
theorem op_notinX (hu : X.A.units + 1 < cLine) : OpR X (compareOp .NotIn) rNotInX := by
  intro pins s σ H x y v u Q I rx ry h
  obtain ⟨p, o, b, rfl, e, g, q⟩ := h
  cases o with
  | lst xs =>
    have g' : (if flatV x = true ∧ xs.all flatV = true then some (inV x xs) else none) = some b := g
    split at g'
    · rename_i hz
      cases g'
      exact op_notIn_seq pins s σ H _ _ v u Q I rx ry ⟨p, xs, rfl, .inl (SqL.of e), hz.1, hz.2, q⟩
    · cases g'
  | tup xs =>
    have g' : (if flatV x = true ∧ xs.all flatV = true then some (inV x xs) else none) = some b := g
    split at g'
    · rename_i hz
      cases g'
      exact op_notIn_seq pins s σ H _ _ v u Q I rx ry ⟨p, xs, rfl, .inr (SqT.of e), hz.1, hz.2, q⟩
    · cases g'
  | dK kvs =>
    cases ry
    cases x with
    | int i => cases g; exact d_notIn hu I (.inl ⟨kvs, Sum.inl i, .inl e, rfl, rfl⟩) rx fun s' I' => ⟨.bl _, H, I', rfl, q⟩
    | str z => cases g; exact d_notIn hu I (.inl ⟨kvs, Sum.inr z, .inl e, rfl, rfl⟩) rx fun s' I' => ⟨.bl _, H, I', rfl, q⟩
    | _ => cases g
  | _ => cases x <;> cases g
def rSlX : V → Option Int → Option Int → Hp → VK → Prop := fun x lo hi H Q => ∃ a xs, x = .ref a ∧ H a = some (.lst xs) ∧ ∀ p, H p = none → Q (.ref p) (upd H p (.lst (cutV xs lo hi)))
theorem sl_X : SlR X rSlX := sl_list.weak fun _ _ _ _ _ ⟨a, xs, e, h, q⟩ => ⟨a, xs, e, SqL.of h, q⟩
def seqO : HO → Option (List V)
  | .lst xs => some xs
  | .tup xs => some xs
  | _ => none
theorem seqO_l {xs : List V} : seqO (.lst xs) = some xs := rfl
theorem seqO_t {xs : List V} : seqO (.tup xs) = some xs := rfl
theorem seqO_of {K : PySem.W.Frag} {H : Hp} {p : Addr} {o : HO} {ys : List V} (h : H p = some o) (g : seqO o = some ys) : SqL K H p ys ∨ SqT K H p ys := by
  cases o with
  | lst xs => cases g; exact .inl (SqL.of h)
  | tup xs => cases g; exact .inr (SqT.of h)
  | _ => cases g
def rListX : List V → Hp → VK → Prop := fun xs H Q => ∃ p o ys, xs = [.ref p] ∧ H p = some o ∧ seqO o = some ys ∧ ∀ l, H l = none → Q (.ref l) (upd H l (.lst ys))
theorem call_listX : CallR X (.type "list") rListX := call_list_of.weak fun _ _ _ ⟨p, o, ys, e, h, g, q⟩ => ⟨p, ys, e, seqO_of h g, q⟩
def Dt (H : Hp) (v : V) (d : PyData) : Prop := (∀ K : PySem.W.Frag, Has K H v d) ∧ PyData.canLay0 d = true ∧ PyData.eqv d d = true
def Dts (H : Hp) (xs : List V) (ds : List PyData) : Prop := (∀ K : PySem.W.Frag, HasAll K H xs ds) ∧ PyData.canLayAll0 ds = true ∧ PyData.eqvAll ds ds = true
theorem Im.dt {H : Hp} {v : V} {d : PyData} (h : Im H v d) : Dt H v d := ⟨fun _ => h.has, h.lay, h.refl⟩
theorem Ims.dts {H : Hp} {v : List V} {d : List PyData} (h : Ims H v d) : Dts H v d := ⟨fun _ => h.has, h.lay, h.refl⟩
theorem Dt.has {K : PySem.W.Frag} {H : Hp} {v : V} {d : PyData} (h : Dt H v d) : Has K H v d := h.1 K
theorem Dt.lay {H : Hp} {v : V} {d : PyData} (h : Dt H v d) : PyData.canLay0 d = true := h.2.1
theorem Dt.ls {H : Hp} {l : Addr} {xs : List V} {ds : List PyData} (e : H l = some (.lst xs)) (m : Dts H xs ds) : Dt H (.ref l) (.list ds) := ⟨fun K => .lst (SqL.of e) (m.1 K), by rw [PyData.canLay0]; exact m.2.1, by rw [PyData.eqv]; exact m.2.2⟩
theorem Dt.tp {H : Hp} {l : Addr} {xs : List V} {ds : List PyData} (e : H l = some (.tup xs)) (m : Dts H xs ds) : Dt H (.ref l) (.tuple ds) := ⟨fun K => .tup (SqT.of e) (m.1 K), by rw [PyData.canLay0]; exact m.2.1, by rw [PyData.eqv]; exact m.2.2⟩
theorem Dt.l {H : Hp} {l : Addr} {xs : List V} {ds : List PyData} (e : H l = some (.lst xs)) (m : Ims H xs ds) : Dt H (.ref l) (.list ds) := .ls e m.dts
theorem Dts.nil {H : Hp} : Dts H [] [] := ⟨fun _ => .nil, by simp [PyData.canLayAll0], by simp [PyData.eqvAll]⟩
theorem Dts.cons {H : Hp} {x : V} {xs : List V} {d : PyData} {ds : List PyData} (h : Dt H x d) (t : Dts H xs ds) : Dts H (x :: xs) (d :: ds) :=
  ⟨fun K => .cons (h.1 K) (t.1 K), by rw [PyData.canLayAll0, h.2.1, t.2.1]; rfl, by rw [PyData.eqvAll, h.2.2, t.2.2]; rfl⟩
def rEqX : R2 := fun x y H Q => ∃ d e, Dt H x d ∧ Dt H y e ∧ d.depth ≤ 60 ∧ e.depth ≤ 60 ∧ Q (.bl (PyData.eqv d e)) H
def rNeX : R2 := fun x y H Q => ∃ d e, Dt H x d ∧ Dt H y e ∧ d.depth ≤ 60 ∧ e.depth ≤ 60 ∧ Q (.bl (!PyData.eqv d e)) H
theorem op_eqX (hu : X.A.units + 64 < cLine) : OpR X (compareOp .Eq) rEqX := (op_eqD hu).weak fun _ _ _ _ ⟨d, e, h1, h2, d1, d2, q⟩ => ⟨d, e, h1.has, h2.has, shaped_of h1.lay (by omega), shaped_of h2.lay (by omega), q⟩
theorem op_neX (hu : X.A.units + 64 < cLine) : OpR X (compareOp .NotEq) rNeX := (op_neD hu).weak fun _ _ _ _ ⟨d, e, h1, h2, d1, d2, q⟩ => ⟨d, e, h1.has, h2.has, shaped_of h1.lay (by omega), shaped_of h2.lay (by omega), q⟩
def tBL (r : V → List V → Hp → VK → Prop) (to : TE) (t : TA) : TE := fun σ H Q => to σ H fun x H1 => ∃ p xs, x = .ref p ∧ H1 p = some (.lst xs) ∧ t σ H1 fun xs H2 => r x xs H2 Q
def tBL0 (r : V → List V → Hp → VK → Prop) (to : TE) : TE := fun σ H Q => to σ H fun x H1 => ∃ p xs, x = .ref p ∧ H1 p = some (.lst xs) ∧ r x [] H1 Q
theorem pe_lm {o e : Expr} {es : List Expr} {to : TE} {t : TA} {name : Str} {apos cpos : Pos} {id : String} {r : V → List V → Hp → VK → Prop}
    (slot : Slot "list" name id) (hty : typeOf (.builtin id) = pure (.type "method_descriptor")) (hm : MtR X id r) (ho : PE X o to) (ha : PA X (e :: es) t)
    (hbase : attributeBase o name X.env (eval o X.env) = eval o X.env := by rfl)
    (hfew : ((backTo cpos (starEach (e :: es) X.env)).all (fun x => !x.1) && (backToKw cpos (keywordEach [] X.env)).all (fun x => x.1.isSome)
      && decide ((e :: es).length + ([] : List Keyword).length + (if ([] : List Keyword).isEmpty then 0 else 1) < 30)) = true := by rfl)
    (hline : (apos.endLine == cpos.line) = true := by rfl) (hs : starEach (e :: es) X.env = (false, eval e X.env) :: starEach es X.env := by rfl) (hplain : (backTo cpos (starEach es X.env)).any (·.1) = false := by rfl) :
    PE X (.Call (.Attribute o name apos) (e :: es) [] cpos) (tBL r to t) := by
  intro pins s σ H Q I h
  refine wpAny_Call_method_late hbase hfew hline rfl (thn (ho pins s σ H _ I h) fun v s1 ⟨x, H1, I1, r1, p, xs, ex, ep, q1⟩ => ?_)
  subst ex
  obtain ⟨h1, h2⟩ := tyV_is I1 r1 (show tyV X.K "list" (.ref p) H1 from .inl ⟨rfl, xs, SqL.of ep⟩)
  refine ⟨"list", id, PySem.F.plainAttrs_list, slot, hty, h1, h2, ?_⟩
  have hA := ha cpos pins s1 σ H1 _ I1 q1
  rw [hs] at hA ⊢
  refine Calls.callWith_builtin (by show (false || (backTo cpos (starEach es X.env)).any (·.1)) = false; rw [hplain] <;> rfl) (Calls.evalArgs_plain ?_)
  exact thn hA fun us s2 ⟨vs, H2, I2, r2, q2⟩ => hm pins s2 σ H2 _ vs v us Q I2 r1 r2 q2
theorem pe_lm0 {o : Expr} {to : TE} {name : Str} {apos cpos : Pos} {id : String} {r : V → List V → Hp → VK → Prop} (slot : Slot "list" name id) (hty : typeOf (.builtin id) = pure (.type "method_descriptor")) (hm : MtR X id r) (ho : PE X o to)
    (hbase : attributeBase o name X.env (eval o X.env) = eval o X.env := by rfl) (hline : (apos.endLine == cpos.line) = true := by rfl) : PE X (.Call (.Attribute o name apos) [] [] cpos) (tBL0 r to) := by
  intro pins s σ H Q I h
  refine wpAny_Call_method0_late hbase hline (thn (ho pins s σ H _ I h) fun v s1 ⟨x, H1, I1, r1, p, xs, ex, ep, q1⟩ => ?_)
  subst ex
  obtain ⟨h1, h2⟩ := tyV_is I1 r1 (show tyV X.K "list" (.ref p) H1 from .inl ⟨rfl, xs, SqL.of ep⟩)
  exact ⟨"list", id, PySem.F.plainAttrs_list, slot, hty, h1, h2, Calls.callWith_builtin rfl (PySem.evalArgs_none (hm pins s1 σ H1 _ [] v [] Q I1 r1 .nil q1))⟩
theorem use1 {t1 R : TS} {D : Ends} {σ : St} {H : Hp} (Pm : St → Hp → Prop) (key : ∀ σ' H', Pm σ' H' → R D σ' H') (go : ∀ R' : TS, (∀ σ' H', Pm σ' H' → R' D σ' H') → tSeq t1 R' D σ H) : tSeq t1 R D σ H := go R key
theorem use2 {t1 t2 R : TS} {D : Ends} {σ : St} {H : Hp} (Pm : St → Hp → Prop) (key : ∀ σ' H', Pm σ' H' → R D σ' H') (go : ∀ R' : TS, (∀ σ' H', Pm σ' H' → R' D σ' H') → tSeq t1 (tSeq t2 R') D σ H) : tSeq t1 (tSeq t2 R) D σ H := go R key
theorem use3 {t1 t2 t3 R : TS} {D : Ends} {σ : St} {H : Hp} (Pm : St → Hp → Prop) (key : ∀ σ' H', Pm σ' H' → R D σ' H') (go : ∀ R' : TS, (∀ σ' H', Pm σ' H' → R' D σ' H') → tSeq t1 (tSeq t2 (tSeq t3 R')) D σ H) : tSeq t1 (tSeq t2 (tSeq t3 R)) D σ H := go R key
theorem use6 {t1 t2 t3 t4 t5 t6 R : TS} {D : Ends} {σ : St} {H : Hp} (Pm : St → Hp → Prop) (key : ∀ σ' H', Pm σ' H' → R D σ' H') (go : ∀ R' : TS, (∀ σ' H', Pm σ' H' → R' D σ' H') → tSeq t1 (tSeq t2 (tSeq t3 (tSeq t4 (tSeq t5 (tSeq t6 R'))))) D σ H) : tSeq t1 (tSeq t2 (tSeq t3 (tSeq t4 (tSeq t5 (tSeq t6 R))))) D σ H := go R key
theorem rEq_ni {i : Int} {H : Hp} {Q : VK} : rEq .non (.int i) H Q = Q (.bl false) H := by simp [rEq, scal]
theorem ims_ints {H : Hp} : ∀ ns : List Int, Ims H (ns.map V.int) (ns.map PyData.int)
  | [] => .nil
  | n :: ns => .cons (.int n) (ims_ints ns)
theorem atI_0 {α : Type} {a : α} {l : List α} : atI (a :: l) 0 = some a := by simp [atI, ixN]
theorem atI_1 {α : Type} {a b : α} {l : List α} : atI (a :: b :: l) 1 = some b := by
  simp only [atI, ixN, List.length_cons]
  rw [if_pos (by decide), if_pos (by omega)]
  rfl
theorem atI_2 {α : Type} {a b c : α} {l : List α} : atI (a :: b :: c :: l) 2 = some c := by
  simp only [atI, ixN, List.length_cons]
  rw [if_pos (by decide), if_pos (by omega)]
  rfl
theorem atI_3 {α : Type} {a b c d : α} {l : List α} : atI (a :: b :: c :: d :: l) 3 = some d := by
  simp only [atI, ixN, List.length_cons]
  rw [if_pos (by decide), if_pos (by omega)]
  rfl
theorem atI_nat' {α : Type} {l : List α} {n : Nat} : atI l (n : Int) = l[n]? := by
  unfold atI ixN
  rw [if_pos (by omega)]
  split
  · simp
  · rw [List.getElem?_eq_none (by omega)]; rfl
theorem atI_pos {α : Type} {l : List α} {k : Int} (h0 : 0 ≤ k) : atI l k = l[k.toNat]? := by
  obtain ⟨n, rfl⟩ := Int.eq_ofNat_of_zero_le h0
  exact atI_nat'
theorem neX_same {H : Hp} {x y : V} {d : PyData} {Q : VK} (h1 : Dt H x d) (h2 : Dt H y d) (hd : d.depth ≤ 60) (q : Q (.bl false) H) : rNeX x y H Q :=
  ⟨d, d, h1, h2, hd, hd, by rw [h1.2.2]; exact q⟩
theorem eqX_same {H : Hp} {x y : V} {d : PyData} {Q : VK} (h1 : Dt H x d) (h2 : Dt H y d) (hd : d.depth ≤ 60) (q : Q (.bl true) H) : rEqX x y H Q :=
  ⟨d, d, h1, h2, hd, hd, by rw [h1.2.2]; exact q⟩
def tyO : HO → Option String
  | .lst _ => some "list"
  | .tup _ => some "tuple"
  | .dK _ => some "dict"
  | _ => none
def tyX (H : Hp) : V → Option String
  | .non => some "NoneType"
  | .bl _ => some "bool"
  | .int _ => some "int"
  | .str _ => some "str"
  | .ref p => (H p).bind tyO
  | _ => none
theorem tyX_n {H : Hp} : tyX H .non = some "NoneType" := rfl
theorem tyX_b {H : Hp} {b : Bool} : tyX H (.bl b) = some "bool" := rfl
theorem tyX_i {H : Hp} {i : Int} : tyX H (.int i) = some "int" := rfl
theorem tyX_s {H : Hp} {z : Str} : tyX H (.str z) = some "str" := rfl
theorem tyX_r {H : Hp} {p : Addr} : tyX H (.ref p) = (H p).bind tyO := rfl
theorem tyO_l {xs : List V} : tyO (.lst xs) = some "list" := rfl
theorem tyO_t {xs : List V} : tyO (.tup xs) = some "tuple" := rfl
def kT : String → String → Option Bool
  | "NoneType", "int" => some false
  | "NoneType", "bool" => some false
  | "bool", "int" => some true
  | "bool", "bool" => some true
  | "int", "int" => some true
  | "int", "bool" => some false
  | "str", "int" => some false
  | "str", "bool" => some false
  | "str", "str" => some true
  | "str", "list" => some false
  | "str", "tuple" => some false
  | "str", "dict" => some false
  | "list", "list" => some true
  | "tuple", "tuple" => some true
  | _, _ => none
theorem kT_Noin : kT "NoneType" "int" = some false := rfl
theorem kT_Nobo : kT "NoneType" "bool" = some false := rfl
theorem kT_boin : kT "bool" "int" = some true := rfl
theorem kT_bobo : kT "bool" "bool" = some true := rfl
theorem kT_inin : kT "int" "int" = some true := rfl
theorem kT_inbo : kT "int" "bool" = some false := rfl
theorem kT_stin : kT "str" "int" = some false := rfl
theorem kT_stbo : kT "str" "bool" = some false := rfl
theorem kT_stst : kT "str" "str" = some true := rfl
theorem kT_stli : kT "str" "list" = some false := rfl
theorem kT_sttu : kT "str" "tuple" = some false := rfl
theorem kT_stdi : kT "str" "dict" = some false := rfl
theorem kT_lili : kT "list" "list" = some true := rfl
theorem kT_tutu : kT "tuple" "tuple" = some true := rfl
theorem kT_kit (K : PySem.W.Frag) {a b : String} {r : Bool} (h : kT a b = some r) : PySem.W.kitOne K (.type a) (.type b) = some r := by
  unfold kT at h
  split at h <;> first | (cases h; first | rfl | (with_unfolding_all rfl)) | cases h
def rIsIX : List V → Hp → VK → Prop := fun xs H Q => ∃ x n t r, xs = [x, .ty n] ∧ tyX H x = some t ∧ kT t n = some r ∧ Q (.bl r) H
theorem tyX_of {K : PySem.W.Frag} {H : Hp} {x : V} {t : String} (h : tyX H x = some t) : TyOf K H x (.type t) := by
  cases x with
  | non => cases h; exact .non
  | bl b => cases h; exact .bl b
  | int i => cases h; exact .int i
  | str z => cases h; exact .str z
  | ref p =>
    cases e : H p with
    | none => rw [tyX_r, e] at h; cases h
    | some o =>
      rw [tyX_r, e] at h
      cases o with
      | lst xs => cases h; exact .lst e
      | tup xs => cases h; exact .tup e
      | dK kvs => cases h; exact .dK e
      | _ => cases h
  | _ => cases h
theorem call_isiX : CallR X (.builtin "isinstance") rIsIX := call_isinst.weak fun _ _ _ ⟨x, n, t, r, e, h, k, q⟩ => ⟨x, .ty n, .type t, r, e, ⟨n, rfl⟩, tyX_of h, kT_kit _ k, q⟩
theorem lenX_s' {H : Hp} {z : Str} : lenX H (.str z) = if z.length ≤ sizeLine then some z.length else none := rfl
theorem inO_t' {xs : List V} {x : V} : inO (.tup xs) x = if flatV x = true ∧ xs.all flatV = true then some (inV x xs) else none := rfl
end
end L2
namespace L2
open PySem PySem.Spec PyProof.Rows
section
variable {X : Cx}
def signs (z : Str) : List V := z.cps.toList.map fun c => V.str ⟨#[c]⟩
theorem rEq_ss {a b : Str} {H : Hp} {Q : VK} : rEq (.str a) (.str b) H Q = Q (.bl (decide (a = b))) H := by simp [rEq, scal]
theorem rNe_ss {a b : Str} {H : Hp} {Q : VK} : rNe (.str a) (.str b) H Q = Q (.bl (!decide (a = b))) H := by simp [rNe, scal]
def rAllX : List V → Hp → VK → Prop := fun xs H Q => ∃ (p : Addr) (bs : List Bool), xs = [.ref p] ∧ H p = some (.lst (bs.map V.bl)) ∧ Q (.bl (bs.all id)) H
theorem call_allX (hc : X.calm = true) : CallR X (.builtin "all") rAllX := (call_all hc).weak fun _ _ _ ⟨p, bs, e, h, q⟩ => ⟨p, bs, e, SqL.of h, q⟩
theorem draw_list {prog : Program} {w : World} {A : Around} {E : Value → Shared → Prop} {it l : Addr} {items : Array Value} (hne : l ≠ it) : ∀ (n i : Nat) (s : Shared) (Q : List Value → Shared → Prop), s.heap.IsListIter it l i → s.heap.IsList l items → i + n ≤ items.size →
    (∀ h', h'.IsListIter it l (i + n) → Heap.SameBut it s.heap h' → Q ((items.toList.drop i).take n) { s with heap := h' }) → wpAny (model prog w) A (draw (.ref it) n) Q E s
  | 0, i, s, Q, hit, _, _, hQ => by
    show wpAny _ _ (pure []) Q E s
    exact wpAny_pure (by simpa using hQ s.heap hit (Heap.SameBut.refl ..))
  | n + 1, i, s, Q, hit, ht, hle, hQ => by
    have hlt : i < items.size := by omega
    show wpAny _ _ (pyNext (.ref it) >>= _) Q E s
    refine wpAny_bind (wpAny_pyNext_list_item hit ht (x := items[i]) (by simp [hlt]) fun h₁ hit₁ hs₁ => ?_)
    have ht1 : h₁.IsList l items := by
      obtain ⟨o, ho, r⟩ := ht
      exact ⟨o, hs₁.extBut _ _ hne ho, r⟩
    refine wpAny_bind (wpAny_holding (draw_list hne n (i + 1) _ _ hit₁ ht1 (by omega) fun h₂ hit₂ hs₂ => wpAny_pure ?_))
    have hd : items.toList.drop i = items[i] :: items.toList.drop (i + 1) := by simp [List.drop_eq_getElem_cons, hlt]
    have := hQ h₂ (by rw [show i + (n + 1) = i + 1 + n by omega]; exact hit₂) (hs₁.trans hs₂)
    rw [hd, List.take_succ_cons] at this
    exact this
theorem unpackItems_list {prog : Program} {w : World} {A : Around} {E : Value → Shared → Prop} {s : Shared} {t : Addr} {items : Array Value} {Q : List Value → Shared → Prop} (hh : A.handled = none) (ht : s.heap.IsList t items)
    (hQ : ∀ h', Heap.ExtBut s.heap.objs.size s.heap h' → Q items.toList { s with heap := h' }) : wpAny (model prog w) A (unpackItems (.ref t) items.size none) Q E s := by
  have hlt : t ≠ s.heap.objs.size := by obtain ⟨o, ho, _⟩ := ht; exact Nat.ne_of_lt (Heap.lt_size ho)
  unfold unpackItems
  refine wpAny_bind ?_
  · unfold notIterableAtAll
    refine wpAny_bind (wpAny_specialOf ht.typeIs PySem.F.slot_list_iter.lookup ?_)
    refine wpAny_pure ?_
    simp only [Bool.false_eq_true, if_false]
    refine wpAny_bind (wpAny_holding (wpAny_pyIter_list ht ?_))
    have ht0 : ∀ o', (s.heap.push o').IsList t items := fun o' => by
      obtain ⟨o, ho, r⟩ := ht
      exact ⟨o, Heap.get?_push_of_some _ ho, r⟩
    refine wpAny_bind (wpAny_holding (draw_list hlt items.size 0 _ _ ⟨_, Heap.get?_push_size _ rfl, rfl, rfl⟩ (ht0 _) (by omega) fun h₁ hit₁ hs₁ => ?_))
    have hall : List.take items.size (List.drop 0 items.toList) = items.toList := by
      rw [List.drop_zero]; exact List.take_of_length_le (by simp)
    rw [hall]
    rw [if_neg (by simp)]
    have ht₁ : h₁.IsList t items := by
      obtain ⟨o, ho, r⟩ := ht0 _
      exact ⟨o, hs₁.extBut _ _ hlt ho, r⟩
    refine wpAny_bind (wpAny_holding (wpAny_pyNext_list_end hh hit₁ ht₁ (by simp) fun h₂ he₂ => ?_))
    simp only [Option.isSome_none, Bool.false_eq_true, if_false]
    refine wpAny_pure (hQ h₂ fun b o hb e => he₂ b o hb (hs₁.extBut b o hb (Heap.get?_push_of_some _ e)))
theorem assign_Tuple_list {prog : Program} {w : World} {A : Around} {E : Value → Shared → Prop} {s : Shared} {env : Env} {elts : List Expr} {x1} {pos : Pos} {t : Addr} {items : Array Value} {Q : Unit → Shared → Prop} (hh : A.handled = none) (ht : s.heap.IsList t items)
    (hn : (assignEach elts env).length = items.size) (hstar : (assignEach elts env).findIdx? (·.1) = none)
    (h : ∀ h', Heap.ExtBut s.heap.objs.size s.heap h' → wpAny (model prog w) A (assignInOrder ((assignEach elts env).map (·.2)) items.toList) Q E { s with heap := h' }) :
    wpAny (model prog w) A (assign (.Tuple elts x1 pos) env (.ref t)) Q E s := by
  rw [assign_Tuple]
  refine wpAny_bind (wpAny_standAt ?_)
  unfold unpack
  rw [hn, hstar]
  exact wpAny_bind (wpAny_holding (unpackItems_list hh ht h))
def gSeqX (n : Nat) (t : TGs) : TG := fun v σ H Q => ∃ a o xs, v = .ref a ∧ H a = some o ∧ seqO o = some xs ∧ xs.length = n ∧ t xs σ H Q
theorem pg_seqX {es : List Expr} {k : Nat} {t : TGs} {n : Nat} {pos : Pos} (hc : X.calm = true) (hg : PGs X es t)
    (hn : (assignEach es X.env).length = n := by rfl) (hst : (assignEach es X.env).findIdx? (·.1) = none := by rfl) : PG X (.Tuple es k pos) (gSeqX n t) := by
  intro pins s σ H v u Q I rv q
  obtain ⟨a, o, xs, e, hx, g, hl, q⟩ := q
  cases o with
  | tup ys => cases g; exact pg_tupK (K := X.K) (k := k) (pos := pos) hc hg hn hst rfl pins s σ H v u Q I rv ⟨a, _, e, SqT.of hx, hl, q⟩
  | lst ys =>
    cases g
    subst e
    cases rv
    obtain ⟨its, r, ht, hz⟩ := I.list (SqL.of (K := X.K) hx)
    refine assign_Tuple_list (I.ok.hd hc) ht.isList (by simp [hn, ← hl, r.length]) hst fun h' hx' => ?_
    have I1 : Inv X pins σ H { s with heap := h' } := I.kept (t' := s.toks) fun b o e => hx' b o (Nat.ne_of_lt (Heap.lt_size e)) e
    exact hg pins _ σ H _ _ Q I1 (by simpa using r) q
  | _ => cases g
end
end L2
namespace L2
open PySem PySem.Spec PyProof.Rows
section
variable {X : Cx}
end
end L2
namespace L2
open PySem
def noStar : Expr → Bool
  | .Starred .. => false
  | _ => true
theorem star_cons {e : Expr} {es : List Expr} {env : Env} (h : noStar e = true) : starEach (e :: es) env = (false, eval e env) :: starEach es env := by
  cases e <;> first | rfl | cases h
section
variable {X : Cx} {e : Expr} {es : List Expr} {te : TE} {t : TA}
theorem pa_cX (ha : PE X e te) (hr : PA X es t) (h : noStar e = true := by rfl) : PA X (e :: es) (tCons te t) := pa_cons ha hr (star_cons h)
end
structure WSs (X : Cx) (sts : List Stmt) (t : TS) : Prop where
  h : PSs X sts t
structure WS (X : Cx) (st : Stmt) (t : TS) : Prop where
  h : PS X st t
section
variable {X : Cx} {st : Stmt} {rest : List Stmt} {t u : TS}
end
end L2
namespace L2
open PySem PySem.Spec PyProof.Rows
structure NoteK (fs : List Addr) (e : Addr) (Ts : List Addr) (h h' : Heap) : Prop where
  keep : ∀ b o, h.get? b = some o → b ∉ fs → b ≠ e → b ∉ Ts → h'.get? b = some o
  slot : ∀ b o, h.get? b = some o → b ∈ fs → ∃ sl, h'.get? b = some { o with slots := sl }
  exc : ∀ oe vs, h.get? e = some oe → oe.data = .fields vs → ∃ oe' vs' T, h'.get? e = some oe' ∧ oe'.cls = oe.cls ∧ oe'.dict = oe.dict ∧ oe'.data = .fields vs' ∧ vs'.size = vs.size ∧ vs'[1]? = some (.ref T) ∧
    h.objs.size ≤ T ∧ T ≠ e ∧ ∃ oT ts, h'.get? T = some oT ∧ oT.data = .fields ts ∧ ts[3]? = some .none
  tb : ∀ b ∈ Ts, ∃ o, h'.get? b = some o
theorem dict_mapF (o : Obj) (f : Array Value → Array Value) : (o.mapFields f).dict = o.dict := by
  obtain ⟨c, d, dt, sl⟩ := o
  cases dt <;> rfl
theorem note_lay {M : Model} {A : Around} {E : Value → Shared → Prop} {s : Shared} {base : Heap} {env : Env} {outer : List Env} {L e : Addr} {oe : Obj} {vs : Array Value} {head : Value} {b : Bool} {Q : Unit → Shared → Prop}
    (hfr : A.frames = some (env :: outer)) (hl : s.heap.FunFrames base (env :: outer)) (hf : env.frame = some L) (he : s.heap.get? e = some oe) (hd : oe.data = .fields vs) (hsz : 1 < vs.size)
    (h : ∀ h', NoteK ((env :: outer).filterMap (·.frame)) e [] s.heap h' → Q () { s with heap := h' }) :
    wpAny M A (do let a ← frameOf env; let pl ← entryPlaceOf L b; let x ← EntryCells.newEntry head a .none (rawInt L) .none pl; setField (.ref e) 1 x) (fun _ s' => wpAny M A (setFlight (.ref e) none) Q E s') E s := by
  have hne : e ∉ (env :: outer).filterMap (·.frame) := fun hm => by
    obtain ⟨_, o, ho, hnf⟩ := hl.mem hm
    rw [he] at ho
    cases ho
    exact hnf vs hd
  refine wpAny_bind (wpAny_frameOf_fun hfr hl hf fun h1 k1 => ?_)
  refine wpAny_bind (wpAny_entryPlaceOf fun pl hpl => ?_)
  unfold EntryCells.newEntry newFields
  refine wpAny_bind (wpAny_newObj_type ?_ (hpl.sizeOk5 _ _ _ _ _))
  generalize hTO : ({ cls := .type "traceback", dict := none, data := .fields ([head, .ref L, .none, rawInt L, .none] ++ (if pl.isEmpty then List.replicate 6 Value.none else pl)).toArray } : Obj) = TO
  have e1 : h1.get? e = some oe := (k1.2.1 e hne).trans he
  have nT : h1.objs.size ≠ e := Nat.ne_of_gt (Heap.lt_size e1)
  refine wpAny_setField (Heap.get?_push_of_some TO e1) hd hsz ?_
  have d3 := Obj.data_mapFields hd (·.setIfInBounds 1 (Value.ref h1.objs.size))
  have e3 := Heap.get?_update_self (Obj.mapFields (·.setIfInBounds 1 (Value.ref h1.objs.size))) (Heap.get?_push_of_some TO e1) (Obj.isFreed_of_fields d3)
  have dT : TO.data = .fields ([head, .ref L, .none, rawInt L, .none] ++ (if pl.isEmpty then List.replicate 6 Value.none else pl)).toArray := by rw [← hTO]
  have T3 : ((h1.push TO).update e (Obj.mapFields (·.setIfInBounds 1 (Value.ref h1.objs.size)))).get? h1.objs.size = some TO := by
    rw [Heap.get?_update_other _ _ (Ne.symm nT)]
    exact Heap.get?_push_size h1 (by rw [← hTO]; rfl)
  unfold setFlight
  refine wpAny_bind (wpAny_field e3 d3 (x := .ref h1.objs.size) (by simp [hsz]) ?_)
  rw [if_pos (by simp)]
  refine wpAny_setField T3 dT (by simp only [List.size_toArray, List.length_append, List.length_cons, List.length_nil] <;> omega) (h _ ?_)
  have kk : ∀ b o, b ≠ e → h1.get? b = some o → (((h1.push TO).update e (Obj.mapFields (·.setIfInBounds 1 (Value.ref h1.objs.size)))).update h1.objs.size (Obj.mapFields (·.setIfInBounds 3 ((none : Option Addr).elim Value.none fun f => rawInt f)))).get? b = some o := fun b o hb q => by
    rw [Heap.get?_update_other _ _ (Nat.ne_of_gt (Heap.lt_size q)), Heap.get?_update_other _ _ (Ne.symm hb)]
    exact Heap.get?_push_of_some _ q
  refine ⟨fun b o q hb hbe _ => kk b o hbe ((k1.2.1 b hb).trans q), fun b o q hb => ?_, fun oe2 vs2 q d2 => ?_, fun b hb => nomatch hb⟩
  · obtain ⟨sl, q2⟩ := k1.2.2 b o q
    exact ⟨sl, kk b _ (fun z => hne (z ▸ hb)) q2⟩
  · rw [he] at q
    cases q
    rw [hd] at d2
    cases d2
    have d5 := Obj.data_mapFields dT (·.setIfInBounds 3 ((none : Option Addr).elim Value.none fun f => rawInt f))
    refine ⟨_, _, h1.objs.size, by rw [Heap.get?_update_other _ _ nT]; exact e3, Obj.cls_mapFields _ _, dict_mapF _ _, d3, by simp, by simp [hsz], by rw [k1.1]; exact Nat.le_refl _, nT, _, _, Heap.get?_update_self _ T3 (Obj.isFreed_of_fields d5), d5, ?_⟩
    rcases hpl with rfl | ⟨_, _, _, _, _, _, _, rfl⟩ <;> simp
def XO (e C : Addr) (od : Option Addr) : HO := .ext fun h => ∃ oe vs, h.get? e = some oe ∧ oe.cls = .ref C ∧ oe.dict = od ∧ oe.data = .fields vs ∧ 6 ≤ vs.size
theorem XO.mk {P : Program} {w : World} {H : Hp} {h : Heap} {e C : Addr} {od : Option Addr} {oe : Obj} {vs : Array Value} (h1 : h.get? e = some oe) (h2 : oe.cls = .ref C) (h3 : oe.dict = od) (h4 : oe.data = .fields vs) (h5 : 6 ≤ vs.size) :
    ObjOk P w H h e (XO e C od) := ⟨⟨oe, vs, h1, h2, h3, h4, h5⟩, ⟨oe, h1⟩, fun _ _ ⟨oe, vs, q, r⟩ k => ⟨oe, vs, k _ q, r⟩⟩
structure Apart (X : Cx) (pins : List (Addr × Obj)) (H : Hp) (b : Addr) : Prop where
  un : H b = none
  up : X.s₀.heap.objs.size ≤ b
  loc : b ≠ X.env.locals
  cel : ∀ x c, X.env.cells.lookup x = some c → c ≠ b
  pin : ∀ p ∈ X.pn ++ pins, p.1 ≠ b
def Tb (X : Cx) (pins : List (Addr × Obj)) (H : Hp) (h : Heap) (e : Addr) : Prop := ∃ oe vs, h.get? e = some oe ∧ oe.data = .fields vs ∧
  (vs[1]? = some .none ∨ ∃ T oT ts, vs[1]? = some (.ref T) ∧ h.get? T = some oT ∧ oT.data = .fields ts ∧ ts[3]? = some .none ∧ T ≠ e ∧ Apart X pins H T)
section
variable {X : Cx} {pins : List (Addr × Obj)} {σ : St} {H : Hp} {s : Shared} {e C : Addr} {od : Option Addr}
theorem Apart.fresh {b : Addr} (I : Inv X pins σ H s) (h : s.heap.objs.size ≤ b) : Apart X pins H b where
  un := I.hok.fresh h
  up := Nat.le_trans I.sz h
  loc := fun z => absurd (Nat.lt_of_lt_of_le I.lt h) (by rw [z]; exact Nat.lt_irrefl _)
  cel := fun x c q z => by
    obtain ⟨v, o, ho, _⟩ := I.cell x c q
    exact absurd (Nat.lt_of_lt_of_le (Heap.lt_size ho) h) (by rw [z]; exact Nat.lt_irrefl _)
  pin := fun p hp z => by
    obtain ⟨ho, _⟩ := I.pin p hp
    exact absurd (Nat.lt_of_lt_of_le (Heap.lt_size ho) h) (by rw [z]; exact Nat.lt_irrefl _)
theorem Inv.xo (I : Inv X pins σ H s) (he : H e = some (XO e C od)) : ∃ oe vs, s.heap.get? e = some oe ∧ oe.cls = .ref C ∧ oe.dict = od ∧ oe.data = .fields vs ∧ 6 ≤ vs.size := by
  obtain ⟨q, _⟩ := I.hok e _ he
  exact q
theorem Inv.noted {h' : Heap} {Ts : List Addr} (I : Inv X pins σ H s) (he : H e = some (XO e C od)) (N : NoteK (frs X.stack) e Ts s.heap h') (hT : ∀ b ∈ Ts, Apart X pins H b) :
    Inv X pins σ H { s with heap := h' } ∧ Tb X pins H h' e := by
  obtain ⟨oe, vs, ge, c1, c2, c3, c4⟩ := I.xo he
  obtain ⟨oe', vs', T, ge', e1, e2, e3, e4, e5, e6, e7, oT, ts, t1, t2, t3⟩ := N.exc oe vs ge c3
  have nfr : ∀ b o, H b = some o → b ∉ frs X.stack := fun b o q hb => by rw [I.stkFree b hb] at q; cases q
  have nts : ∀ b o, H b = some o → b ∉ Ts := fun b o q hb => by rw [(hT b hb).un] at q; cases q
  have hok : HOk X.prog X.w H h' := fun a o q => by
    by_cases ha : a = e
    · subst ha
      rw [he] at q
      cases q
      exact XO.mk ge' (e1.trans c1) (e2.trans c2) e3 (by rw [e4]; exact c4)
    · refine (I.hok a o q).stay (fun b u hb r => ?_) (fun _ r => r) fun _ _ r => r
      rcases hb with rfl | hb
      · exact N.keep b u r (nfr b o q) ha (nts b o q)
      · exact N.keep b u r (nfr b _ hb) (fun z => by rw [z, he] at hb; cases hb) (nts b _ hb)
  have J : Inv X pins σ H { s with heap := h', gens := s.gens, drawn := s.drawn, toks := s.toks } := I.call (ch := Ts) (h' := h') (g' := s.gens) (d' := s.drawn) (t' := s.toks)
    ⟨fun b o q n hb hx => N.keep b o q hb (fun z => by rw [z, he] at n; cases n) hx, fun b o q n hb hx => N.slot b o q hb, fun _ _ _ n _ => n, fun b o q hx => by
      by_cases hb : b ∈ frs X.stack
      · obtain ⟨sl, r⟩ := N.slot b o q hb
        exact ⟨_, r⟩
      · by_cases hbe : b = e
        · exact ⟨_, by rw [hbe]; exact ge'⟩
        · exact ⟨o, N.keep b o q hb hbe hx⟩, fun _ _ q => q, fun _ _ _ q => q, fun _ ps q => ⟨#[], by rw [q]; simp⟩⟩ hok I.bare fun b hb => ⟨.inr (hT b hb).up, (hT b hb).loc, (hT b hb).cel, (hT b hb).pin⟩
  exact ⟨J, oe', vs', ge', e3, .inr ⟨T, oT, ts, e5, t1, t2, t3, e7, Apart.fresh I e6⟩⟩
theorem note_ok {M : Model} {Q : Unit → Shared → Prop} {E : Value → Shared → Prop} (I : Inv X pins σ H s) (he : H e = some (XO e C od)) (tb : Tb X pins H s.heap e) (hst : X.stack = X.env :: X.outer) (hf : X.env.frame = some X.env.locals)
    (h : ∀ s', Inv X pins σ H s' → Tb X pins H s'.heap e → Q () s') : wpAny M X.A (noteFrame (.ref e) X.env) (fun _ s' => wpAny M X.A (setFlight (.ref e) none) Q E s') E s := by
  have hfr : X.A.frames = some (X.env :: X.outer) := by rw [← hst]; exact I.ok.frames
  have hl : s.heap.FunFrames X.base (X.env :: X.outer) := by rw [← hst]; exact I.stack
  obtain ⟨oe, vs, ge, hd, tb⟩ := tb
  obtain ⟨oe', vs', ge', c1, c2, c3, c4⟩ := I.xo he
  rw [ge] at ge'
  cases ge'
  rw [hd] at c3
  cases c3
  have hsz : 1 < vs.size := by omega
  unfold noteFrame
  simp only [hf]
  rcases tb with tb | ⟨T, oT, ts, tb, gT, dT, t3, nT, aT⟩
  · refine wpAny_bind (wpAny_field ge hd tb ?_)
    rw [if_neg (by decide)]
    refine note_lay hfr hl hf ge hd hsz fun h' N => ?_
    obtain ⟨J, T⟩ := I.noted (h' := h') (Ts := []) he (by rw [hst]; exact N) (fun b hb => nomatch hb)
    exact h _ J T
  · refine wpAny_bind (wpAny_field ge hd tb ?_)
    rw [if_pos (show (Value.ref T != Value.none) = true from by simp)]
    refine wpAny_bind (wpAny_field gT dT t3 ?_)
    rw [if_neg (show ¬ ((Value.none == rawInt X.env.locals) = true) from by simp [rawInt])]
    refine wpAny_bind (wpAny_setField gT dT (Array.getElem?_eq_some_iff.mp t3).1 ?_)
    have ot : ∀ b, b ≠ T → (s.heap.update T (Obj.mapFields (·.setIfInBounds 3 Value.none))).get? b = s.heap.get? b := fun b hb => Heap.get?_update_other _ _ (Ne.symm hb)
    have dT' := Obj.data_mapFields dT (·.setIfInBounds 3 Value.none)
    have gT' := Heap.get?_update_self (Obj.mapFields (·.setIfInBounds 3 Value.none)) gT (Obj.isFreed_of_fields dT')
    have nfr : T ∉ (X.env :: X.outer).filterMap (·.frame) := fun hm => by
      obtain ⟨_, o, ho, hnf⟩ := hl.mem hm
      rw [gT] at ho
      cases ho
      exact hnf ts dT
    refine note_lay hfr (hl.of_keeps fun b o hb hnf => ⟨o, (ot b fun z => by rw [z, gT] at hb; cases hb; exact hnf ts dT).trans hb, rfl⟩) hf ((ot e (Ne.symm nT)).trans ge) hd hsz fun h' N => ?_
    have N2 : NoteK (frs X.stack) e [T] s.heap h' := by
      rw [hst]
      refine ⟨fun b o q hb hbe hx => N.keep b o ((ot b fun z => hx (by rw [z]; exact .head _)).trans q) hb hbe (fun z => nomatch z), fun b o q hb => N.slot b o ((ot b fun z => nfr (by rw [← z]; exact hb)).trans q) hb, fun oe2 vs2 q d2 => ?_, fun b hb => ?_⟩
      · obtain ⟨oe', vs', T', r1, r2, r3, r4, r5, r6, r7, r8⟩ := N.exc oe2 vs2 ((ot e (Ne.symm nT)).trans q) d2
        exact ⟨oe', vs', T', r1, r2, r3, r4, r5, r6, by rw [Heap.size_update] at r7; exact r7, r8⟩
      · rw [List.mem_singleton] at hb
        subst hb
        exact ⟨_, N.keep b _ gT' nfr nT (fun z => nomatch z)⟩
    obtain ⟨J, T'⟩ := I.noted (h' := h') (Ts := [T]) he N2 (fun b hb => by rw [List.mem_singleton] at hb; subst hb; exact aT)
    exact h _ J T'
end
abbrev XS := St → Addr → Hp → Prop
def XP (X : Cx) (pins : List (Addr × Obj)) (E : XS) (v : Value) (s' : Shared) : Prop := ∃ e σ' H', v = .ref e ∧ Inv X pins σ' H' s' ∧ (∃ C od, H' e = some (XO e C od)) ∧ Tb X pins H' s'.heap e ∧ E σ' e H'
abbrev TSx := Ends → XS → St → Hp → Prop
abbrev TEx := St → Hp → VK → (Addr → Hp → Prop) → Prop
def PSx (X : Cx) (st : Stmt) (t : TSx) : Prop :=
  ∀ (pins : List (Addr × Obj)) (s : Shared) (σ : St) (H : Hp) (D : Ends) (E : XS), Inv X pins σ H s → t D E σ H → wpAny (model X.prog X.w) X.A (exec st X.env) (SP X pins D) (XP X pins E) s
def PSsx (X : Cx) (sts : List Stmt) (t : TSx) : Prop :=
  ∀ (pins : List (Addr × Obj)) (s : Shared) (σ : St) (H : Hp) (D : Ends) (E : XS), Inv X pins σ H s → t D E σ H → wpAny (model X.prog X.w) X.A (execs sts X.env) (SP X pins D) (XP X pins E) s
def PEx (X : Cx) (e : Expr) (t : TEx) : Prop :=
  ∀ (pins : List (Addr × Obj)) (s : Shared) (σ : St) (H : Hp) (Q : VK) (E : Addr → Hp → Prop), Inv X pins σ H s → t σ H Q E → wpAny (model X.prog X.w) X.A (eval e X.env) (EP X pins σ Q) (XP X pins fun σ' e H' => σ' = σ ∧ E e H') s
section
variable {X : Cx} {st : Stmt} {sts rest : List Stmt} {t : TS} {tx ux : TSx} {e : Expr} {tex : TEx} {pos : Pos}
theorem pssx_one (h1 : PSx X st tx) : PSsx X [st] tx := by
  intro pins s σ H D E I h
  refine wpAny_execs_cons (wpAny_mono (h1 pins s σ H D E I h) (fun f s1 q => ?_) fun _ _ z => z)
  cases f with
  | next => exact wpAny_execs_nil q
  | ret v => exact q
  | brk => exact q
  | cont => exact q
def tDropx (t : TEx) : TSx := fun D E σ H => t σ H (fun _ H' => D.nx σ H') (E σ)
theorem psx_expr (he : PEx X e tex) (hs : swapsWith e none pos.line X.env = pure false := by rfl) : PSx X (.Expr e pos) (tDropx tex) := by
  intro pins s σ H D E I h
  exact wpAny_Expr_any (wpAny_mono (he pins s σ H _ _ I h) (fun u s1 ⟨v, H', I', r, q⟩ => ⟨σ, H', I', q⟩) fun u s1 ⟨e, σ', H', h1, h2, h3, h4, h5, h6⟩ => ⟨e, σ', H', h1, h2, h3, h4, h5 ▸ h6⟩) I.quiet hs
theorem xp_at {pins : List (Addr × Obj)} {σ : St} {E : XS} {v : Value} {s' : Shared} (h : XP X pins (fun σ' e H' => σ' = σ ∧ E σ e H') v s') : XP X pins E v s' := by
  obtain ⟨e, σ', H', h1, h2, h3, h4, h5, h6⟩ := h
  exact ⟨e, σ', H', h1, h2, h3, h4, h5 ▸ h6⟩
end
def TbF (n0 : Nat) (H : Hp) (h : Heap) (e : Addr) : Prop := ∃ oe vs, h.get? e = some oe ∧ oe.data = .fields vs ∧
  (vs[1]? = some .none ∨ ∃ T oT ts, vs[1]? = some (.ref T) ∧ h.get? T = some oT ∧ oT.data = .fields ts ∧ ts[3]? = some .none ∧ T ≠ e ∧ H T = none ∧ n0 ≤ T)
def CXx (P : Program) (w : World) : CXT := fun outer H s E v s' => ∃ e H', v = .ref e ∧ s'.os = s.os ∧ AllBare s'.gens ∧ Un (frs outer) [] H H' s.heap s'.heap ∧ HOk P w H' s'.heap ∧ (∃ C od, H' e = some (XO e C od)) ∧ TbF s.heap.objs.size H' s'.heap e ∧ E (.ref e) none H'
def xk (E : Addr → Hp → Prop) : XK := fun v _ H' => match v with
  | .ref e => E e H'
  | _ => False
section
variable {X : Cx} {k : Nat} {f C : Addr} {fd : FuncData} {ps : List Str} {sp : Sp} {x m : Str} {p pos apos : Pos} {e o : Expr} {es : List Expr} {ta : TE} {t : TA}
theorem xp_of {pins : List (Addr × Obj)} {σ : St} {H : Hp} {s s' : Shared} {E : Addr → Hp → Prop} {v : Value} (I : Inv X pins σ H s) (h : CXx X.prog X.w X.stack H s (xk E) v s') : XP X pins (fun σ' e H' => σ' = σ ∧ E e H') v s' := by
  obtain ⟨e, H', rfl, os, bare, un, hok, he, tb, q⟩ := h
  refine ⟨e, σ, H', rfl, I.call' (ch := []) os un hok bare (fun b z => nomatch z), he, ?_, rfl, q⟩
  obtain ⟨oe, vs, g1, d1, tb⟩ := tb
  refine ⟨oe, vs, g1, d1, tb.imp id fun ⟨T, oT, ts, a1, a2, a3, a4, a5, a6, a7⟩ => ⟨T, oT, ts, a1, a2, a3, a4, a5, ?_⟩⟩
  have A := Apart.fresh I a7
  exact ⟨a6, A.up, A.loc, A.cel, A.pin⟩
theorem run_fnx {pins : List (Addr × Obj)} {σ : St} {H : Hp} {s : Shared} {Q : VK} {E : Addr → Hp → Prop} {us : List Value} {vs : List V} (F : FnOk X.prog X.w X.K X.mg X.base (CXx X.prog X.w) k f fd ps sp) (hr : Room k X.A) (hb : Binds X.K fd ps [])
    (I : Inv X pins σ H s) (r : Vals vs us) (h : sp vs H Q (xk E)) : wpAny (model X.prog X.w) X.A (call (.ref f) us) (EP X pins σ Q) (XP X pins fun σ' e H' => σ' = σ ∧ E e H') s := by
  have hl : us.length = ps.length := by rw [← r.length]; exact F.len _ _ _ _ h
  have hb' := hb s us I.kIn (by rw [List.append_nil]; exact hl)
  rw [List.append_nil] at hb'
  refine wpAny_call (codeAny_mono (F.run X.A X.stack s H ⟨us, []⟩ us vs Q (xk E) hr I.env0 hb' r h) fun r s' hq => ?_)
  cases r with
  | error v => exact xp_of I hq
  | ok fl =>
    cases fl with
    | ret u => exact I.after hq
    | next => exact False.elim hq
    | brk => exact False.elim hq
    | cont => exact False.elim hq
def tCallx (sp : Sp) (t : TA) : TEx := fun σ H Q E => t σ H fun vs H1 => sp vs H1 Q (xk E)
def OwnX (P : Program) (w : World) (K : PySem.W.Frag) (mg : Str → Option Value) (base : Heap) (k : Nat) (x : Str) (ps : List Str) (sp : Sp) : Prop :=
  ∃ f fd, mg x = some (.ref f) ∧ PySem.W.keepIn K (.ref f) = true ∧ Binds K fd ps [] ∧ FnOk P w K mg base (CXx P w) k f fd ps sp
def OwnMX (P : Program) (w : World) (K : PySem.W.Frag) (mg : Str → Option Value) (base : Heap) (k : Nat) (C : Addr) (m : Str) (ps : List Str) (sp : Sp) : Prop :=
  ∃ f fd, Meth K C m f ∧ Binds K fd ps [] ∧ FnOk P w K mg base (CXx P w) k f fd ps sp
def OwnIX (P : Program) (w : World) (K : PySem.W.Frag) (mg : Str → Option Value) (base : Heap) (k : Nat) (C : Addr) (ps : List Str) (sp : Sp) : Prop :=
  ∃ f fd, Mk K C f ∧ Binds K fd ps [] ∧ FnOk P w K mg base (CXx P w) k f fd ps sp
theorem pex_fn {j : Nat} (F : OwnX X.prog X.w X.K X.mg X.base j x ps sp) (hr : Room k X.A) (ha : PA X.nox (e :: es) t) (hk : j ≤ k := by decide) (hg : Gl X x := by rfl)
    (hdb : (x == ("__debug__" : Str)) = false := by decide) (he : starEach (e :: es) X.env = (false, eval e X.env) :: starEach es X.env := by rfl) (hpl : (backTo pos (starEach es X.env)).any (·.1) = false := by rfl) :
    PEx X (.Call (.Name x p) (e :: es) [] pos) (tCallx sp t) := by
  obtain ⟨f, fd, hm, kp, hb, F⟩ := F
  intro pins s σ H Q E I h
  refine wpAny_Call_Name_kw (ld_glob I hg hm ?_ hdb)
  refine PySem.W.callWith_K (h₀ := X.base) I.ok.mod.kin kp (wpAny_mono (ha pos pins s σ H _ (I.wish _) h) (fun us s1 ⟨vs, H1, I1, r, q⟩ => ⟨I1.unwish.kIn, ?_⟩) fun _ _ z => False.elim z) he hpl
  exact run_fnx F (hr.mono hk) hb I1.unwish r q
def tMethx (C : Addr) (m : Str) (sp : Sp) (ta : TE) (t : TA) : TEx := fun σ H Q E => ta σ H fun x H1 => ∃ a dx fs, x = .ref a ∧ H1 a = some (.ins C dx fs) ∧ fs.lookup m = none ∧ t σ H1 fun vs H2 => sp (x :: vs) H2 Q (xk E)
theorem pex_mth {j : Nat} {pl : Sem Bool} (M : OwnMX X.prog X.w X.K X.mg X.base j C m ps sp) (c : Cls X.K C) (hr : Room k X.A) (he : PE X.nox o ta) (ha : PA X.nox (e :: es) t) (hk : j ≤ k := by decide)
    (hst : starEach (e :: es) X.env = (false, eval e X.env) :: starEach es X.env := by rfl) (hpl : (backTo pos (starEach es X.env)).any (·.1) = false := by rfl)
    (ht : eval (.Call (.Attribute o m apos) (e :: es) [] pos) X.env = (do
      let ov ← eval o X.env
      standAt apos.atName
      let (f, first) ← holding [ov] (getMethod ov m pl)
      callWith pos f first (backTo pos (starEach (e :: es) X.env)) (backToKw pos (keywordEach [] X.env))) := by rfl) :
    PEx X (.Call (.Attribute o m apos) (e :: es) [] pos) (tMethx C m sp ta t) := by
  obtain ⟨f, fd, hm, hb, F⟩ := M
  intro pins s σ H Q E I h
  refine PySem.W.methodCall_KW (pl := pl) (wpAny_mono (he pins s σ H _ (I.wish _) h) (fun u s1 ⟨x, H1, I1, rx, a, dx, fs, ex, ea, l, q⟩ => ?_) fun _ _ z => False.elim z) ht
  subst ex
  obtain rfl : u = Value.ref a := rx
  refine getmeth_ok I1.unwish ea c hm l ?_
  refine PySem.W.callWith_K (first := [.ref a]) (h₀ := X.base) I.ok.mod.kin hm.kp (wpAny_mono (ha pos pins s1 σ H1 _ I1 q) (fun us s2 ⟨vs, H2, I2, r, q2⟩ => ⟨I2.unwish.kIn, ?_⟩) fun _ _ z => False.elim z) hst hpl
  exact run_fnx (us := .ref a :: us) (vs := .ref a :: vs) F (hr.mono hk) hb I2.unwish (.cons rfl r) q2
def tMakex (C : Addr) (sp : Sp) (t : TA) : TEx := fun σ H Q E => t σ H fun vs H1 => ∀ x dx, H1 x = none → H1 dx = none → dx ≠ x → sp (.ref x :: vs) (upd (upd H1 dx (.own x)) x (.ins C dx [])) (fun v H2 => v = .non ∧ Q (.ref x) H2) (xk E)
theorem run_makx {j : Nat} {pins : List (Addr × Obj)} {σ : St} {H : Hp} {s : Shared} {Q : VK} {E : Addr → Hp → Prop} {us : List Value} {vs : List V} (M : Mk X.K C f) (F : FnOk X.prog X.w X.K X.mg X.base (CXx X.prog X.w) j f fd ps sp) (hr : Room (j + 1) X.A) (hb : Binds X.K fd ps []) (I : Inv X pins σ H s) (r : Vals vs us)
    (h : ∀ x dx, H x = none → H dx = none → dx ≠ x → sp (.ref x :: vs) (upd (upd H dx (.own x)) x (.ins C dx [])) (fun v H2 => v = .non ∧ Q (.ref x) H2) (xk E)) :
    wpAny (model X.prog X.w) X.A (call (.ref C) us) (EP X pins σ Q) (XP X pins fun σ' e H' => σ' = σ ∧ E e H') s := by
  have hq := h (s.heap.objs.size + 1) s.heap.objs.size (I.hok.fresh (Nat.le_succ _)) (I.hok.fresh (Nat.le_refl _)) (Nat.ne_of_lt (Nat.lt_succ_self _))
  have I2 := Inv.made (C := C) I
  have r2 : Vals (V.ref (s.heap.objs.size + 1) :: vs) (Value.ref (s.heap.objs.size + 1) :: us) := .cons rfl r
  have hl : (Value.ref (s.heap.objs.size + 1) :: us).length = ps.length := by
    have e := r2.length
    rw [F.len _ _ _ _ hq] at e
    exact e.symm
  have hb' := hb _ (Value.ref (s.heap.objs.size + 1) :: us) I2.kIn (by rw [List.append_nil]; exact hl)
  rw [List.append_nil] at hb'
  refine wpAny_call (make_map (f := f) I.kIn M.makes M.init (beq_iff_eq.mp M.fn) (codeAny_mono (F.run _ X.stack _ _ ⟨Value.ref (s.heap.objs.size + 1) :: us, []⟩ (Value.ref (s.heap.objs.size + 1) :: us) _ _ (xk E) (hr.make C us [])
    (I2.env0.make C us []) hb' r2 hq) fun r s' hq' => ?_))
  cases r with
  | error v => exact xp_of I2 hq'
  | ok fl =>
    cases fl with
    | ret u =>
      obtain ⟨v, H', I3, rv, ev, q3⟩ := I2.after hq'
      subst ev
      exact ⟨rv, ⟨V.ref (s.heap.objs.size + 1), H', I3, rfl, q3⟩⟩
    | next => exact False.elim hq'
    | brk => exact False.elim hq'
    | cont => exact False.elim hq'
theorem pex_mak {j : Nat} (M : OwnIX X.prog X.w X.K X.mg X.base j C ps sp) (hr : Room k X.A) (hm : X.mg x = some (.ref C)) (ha : PA X.nox (e :: es) t) (hk : j + 1 ≤ k := by decide) (hg : Gl X x := by rfl)
    (hdb : (x == ("__debug__" : Str)) = false := by decide) (he : starEach (e :: es) X.env = (false, eval e X.env) :: starEach es X.env := by rfl) (hpl : (backTo pos (starEach es X.env)).any (·.1) = false := by rfl) :
    PEx X (.Call (.Name x p) (e :: es) [] pos) (tMakex C sp t) := by
  obtain ⟨f, fd, M, hb, F⟩ := M
  intro pins s σ H Q E I h
  refine wpAny_Call_Name_kw (ld_glob I hg hm ?_ hdb)
  refine PySem.W.callWith_K (h₀ := X.base) I.ok.mod.kin M.kp (wpAny_mono (ha pos pins s σ H _ (I.wish _) h) (fun us s1 ⟨vs, H1, I1, r, q⟩ => ⟨I1.unwish.kIn, ?_⟩) fun _ _ z => False.elim z) he hpl
  exact run_makx M F (hr.mono hk) hb I1.unwish r q
end
section
variable {P : Program} {w : World} {K : PySem.W.Frag} {mg : Str → Option Value} {base : Heap}
section
variable {x m qual : Str} {C : Addr} {st : Stmt} {N ps : List Str} {k : Nat} {sp : Sp}
end
end
end L2
namespace L2
open PySem PySem.Spec PyProof.Rows
abbrev TJ := St → Hp → (Hp → Prop) → Prop
def PJ (X : Cx) (n : Nat) (vs : List Expr) (t : TJ) : Prop := ∀ (pins : List (Addr × Obj)) (s : Shared) (σ : St) (H : Hp) (acc : Str) (Q : Hp → Prop), acc.length ≤ n → Inv X pins σ H s → t σ H Q →
  Joins (model X.prog X.w) X.A X.xe (evalEach vs X.env) acc (fun out s1 => out.length ≤ sizeLine ∧ ∃ H', Inv X pins σ H' s1 ∧ Q H') s
section
variable {X : Cx} {n : Nat} {e : Expr} {rest : List Expr} {te : TE} {t : TJ} {pos : Pos}
def tJn : TJ := fun _ H Q => Q H
theorem pj_nil (hn : n ≤ 1000000 := by decide) : PJ X n [] tJn := fun pins s σ H acc Q ha I h => ⟨by rw [sizeLine_eq]; omega, H, I, h⟩
theorem pj_str {x : Str} {j : Nat} (m : Nat) (hm : x.length = m) (h : PJ X (n + m) rest t) (hn : n + m ≤ 1000000 := by decide) : PJ X n (.Constant (.str x) j pos :: rest) t := by
  intro pins s σ H acc Q ha I hq
  have hl : (acc ++ x).length ≤ n + m := by rw [strLen_append]; omega
  show wpAny _ _ (eval (.Constant (.str x) j pos) X.env) _ _ s
  refine wpAny_mono (pe_str pins s σ H (fun v H' => v = .str x ∧ H' = H) I ⟨rfl, rfl⟩) (fun u s1 ⟨v, H', I', r, ev, eH⟩ => ?_) fun _ _ z => z
  subst ev
  subst eH
  obtain ⟨t', rfl⟩ := r
  exact ⟨x, t', rfl, by rw [sizeLine_eq]; omega, h pins s1 σ H' (acc ++ x) Q hl I' hq⟩
def tJi (te : TE) (t : TJ) : TJ := fun σ H Q => te σ H fun v H1 => ∃ i, v = .int i ∧ i.natAbs.log2 < 1920 ∧ t σ H1 Q
theorem pj_int {p2 : Pos} (he : PE X e te) (h : PJ X (n + 2000) rest t) (hn : n + 2000 ≤ 1000000 := by decide) : PJ X n (.FormattedValue e (-1) none p2 :: rest) (tJi te t) := by
  intro pins s σ H acc Q ha I hq
  show wpAny _ _ (eval (.FormattedValue e (-1) none p2) X.env) _ _ s
  refine wpAny_FormattedValue_plain (thn (he pins s σ H _ I hq) fun u s1 ⟨v, H1, I1, r, i, ev, hi, q⟩ => ?_)
  subst ev
  obtain ⟨t', rfl⟩ := r
  have hl : (Str.ofString (toString i)).length ≤ 1921 := by
    have := int_text_length_le (a := i) (k := 1920) (by decide) hi
    rw [PySem.ofString_length]
    omega
  have hl2 : (acc ++ Str.ofString (toString i)).length ≤ n + 2000 := by rw [strLen_append]; omega
  exact formatField_int_small hi ⟨_, _, rfl, by rw [sizeLine_eq]; omega, h pins _ σ H1 _ Q hl2 (I1.tok _) q⟩
def tFs (t : TJ) : TE := fun σ H Q => t σ H fun H' => ∀ x, Q (.str x) H'
theorem pe_fstr {v1 v2 : Expr} (h : PJ X 0 (v1 :: v2 :: rest) t) : PE X (.JoinedStr (v1 :: v2 :: rest) pos) (tFs t) := by
  intro pins s σ H Q I hq
  refine wpAny_JoinedStr ?_
  have := h pins s σ H Str.empty (fun H' => ∀ x, Q (.str x) H') (by decide) I hq
  have mono : ∀ (l : List (Sem Value)) (acc : Str) (A B : Str → Shared → Prop) (s : Shared), (∀ o s, A o s → B o s) → Joins (model X.prog X.w) X.A X.xe l acc A s → Joins (model X.prog X.w) X.A X.xe l acc B s := by
    intro l
    induction l with
    | nil => intro acc A B s hab h; exact hab _ _ h
    | cons x r ih =>
      intro acc A B s hab h
      exact wpAny_mono h (fun v s1 ⟨y, t, e1, e2, e3⟩ => ⟨y, t, e1, e2, ih _ _ _ _ hab e3⟩) fun _ _ z => z
  refine mono _ _ _ _ _ (fun o s1 ⟨hz, H', I', q⟩ => ⟨hz, .str o, H', I'.tok _, ⟨_, rfl⟩, q o⟩) this
end
theorem ObjOk.ex {P : Program} {w : World} {H : Hp} {h : Heap} {a : Addr} {o : HO} (x : ObjOk P w H h a o) : ∃ u, h.get? a = some u := by
  cases o with
  | lst xs => obtain ⟨_, _, _, _, e⟩ := x; exact ⟨_, e⟩
  | tup xs => obtain ⟨_, _, _, o, e, _⟩ := x; exact ⟨_, e⟩
  | dK kvs => obtain ⟨_, _, _, _, o, _, _, e, _⟩ := x; exact ⟨_, e⟩
  | dT kvs => obtain ⟨_, _, _, _, o, _, _, e, _⟩ := x; exact ⟨_, e⟩
  | set S n => obtain ⟨o, _, _, _, e, _⟩ := x; exact ⟨_, e⟩
  | ins C dx fs => obtain ⟨_, _, _, e, _⟩ := x; exact ⟨_, e⟩
  | own y => exact x
  | xd fs => obtain ⟨_, ⟨o, _, _, e, _⟩, _⟩ := x; exact ⟨_, e⟩
  | rng lo hi => obtain ⟨_, _, _, e⟩ := x; exact ⟨_, e⟩
  | frz ob u => obtain ⟨e, _⟩ := x; exact ⟨_, e⟩
  | tbl ps => exact ⟨_, x⟩
  | met f y => exact ⟨_, x⟩
  | ext φ => obtain ⟨_, e, _⟩ := x; exact e
section
variable {X : Cx} {pins : List (Addr × Obj)} {σ : St} {H : Hp} {s : Shared}
theorem Inv.none_at {a : Addr} (I : Inv X pins σ H s) (h : s.heap.get? a = none) : H a = none := by
  cases e : H a with
  | none => rfl
  | some o =>
    obtain ⟨u, q⟩ := (I.hok a o e).ex
    rw [h] at q
    cases q
theorem Inv.lay {h' : Heap} {a : Addr} {o : HO} (I : Inv X pins σ H s) (k : ∀ b u, s.heap.get? b = some u → h'.get? b = some u) (hn : s.heap.get? a = none) (new : ObjOk X.prog X.w (upd H a o) h' a o) : Inv X pins σ (upd H a o) { s with heap := h' } := by
  have hH := I.none_at hn
  have ne : ∀ b u, s.heap.get? b = some u → b ≠ a := fun b u q z => by rw [z, hn] at q; cases q
  refine I.un (t' := s.toks) ⟨fun b u q _ _ _ => k b u q, fun b u q _ _ _ => ⟨u.slots, k b u q⟩, fun b u q n _ => by rw [upd_ne (ne b u q)]; exact n, fun b u q _ => ⟨u, k b u q⟩, fun b xs q => by rw [upd_ne (ne_of_none q hH)]; exact q,
    fun b u xs q => by rw [upd_ne (ne_of_none q hH)]; exact q, fun b ps q => ⟨#[], by rw [upd_ne (ne_of_none q hH), q]; simp⟩⟩ fun b u e => ?_
  by_cases hb : b = a
  · subst hb
    rw [upd_same] at e
    cases e
    exact new
  · rw [upd_ne hb] at e
    exact (I.hok b u e).stay (fun c v _ q => k c v q) (fun c q => by rw [upd_ne (ne_of_none q hH)]; exact q) fun c xs q => by rw [upd_ne (ne_of_none q hH)]; exact q
end
abbrev bmV : List Value := [.type "ValueError", .type "Exception", .type "BaseException", .type "object"]
def Raw (h : Heap) (e C : Addr) (od : Option Addr) : Prop := ∃ t, h.get? e = some { cls := .ref C, dict := od, data := .fields #[.ref t, .none, .none, .none, .bool false, .none] }
def XN (e C : Addr) (od : Option Addr) : HO := .ext fun h => Raw h e C od
theorem Raw.okN {P : Program} {w : World} {H : Hp} {h : Heap} {e C : Addr} {od : Option Addr} (r : Raw h e C od) : ObjOk P w H h e (XN e C od) := by
  obtain ⟨t, q⟩ := id r
  exact ⟨r, ⟨_, q⟩, fun _ _ ⟨t, q⟩ k => ⟨t, k _ q⟩⟩
theorem Inv.xn {X : Cx} {pins : List (Addr × Obj)} {σ : St} {H : Hp} {s : Shared} {e C : Addr} {od : Option Addr} (I : Inv X pins σ H s) (he : H e = some (XN e C od)) : Raw s.heap e C od := (I.hok e _ he).1
theorem Inv.raised {X : Cx} {pins : List (Addr × Obj)} {σ : St} {H : Hp} {s : Shared} {e C : Addr} {od : Option Addr} (I : Inv X pins σ H s) (he : H e = some (XN e C od)) : Inv X pins σ (upd H e (XO e C od)) s := by
  have r := I.xn he
  obtain ⟨t, q⟩ := id r
  exact I.write (t' := s.toks) (x := e) (e := e) (h' := s.heap) (by rw [he]; exact True.intro) (.inl rfl) (fun b u _ z => z) ⟨_, q⟩ (XO.mk q rfl rfl rfl (Nat.le_refl 6))
theorem Raw.tb {X : Cx} {pins : List (Addr × Obj)} {H : Hp} {h : Heap} {e C : Addr} {od : Option Addr} (r : Raw h e C od) : Tb X pins H h e := by
  obtain ⟨t, q⟩ := r
  exact ⟨_, _, q, rfl, .inl rfl⟩
def XKin (K : PySem.W.Frag) (C : Addr) : Prop := ∃ nm q N bs bm hdct sn sub ab col dd k0 k1 k2 k3 k5, K.lookup C = some (excClassObj nm q C N bs bm hdct sn sub ab col dd k0 k1 k2 k3 k5 "ValueError.__new__") ∧ PySem.W.tailIn K bmV bm = true
abbrev TN := St → Hp → (Addr → Addr → Option Addr → Hp → Prop) → Prop
def PN (X : Cx) (e : Expr) (t : TN) : Prop := ∀ (pins : List (Addr × Obj)) (s : Shared) (σ : St) (H : Hp) (Q : Addr → Addr → Option Addr → Hp → Prop) (E : Value → Shared → Prop), Inv X pins σ H s → t σ H Q →
  wpAny (model X.prog X.w) X.A (eval e X.env) (fun v s' => ∃ ea C od H', v = .ref ea ∧ XKin X.K C ∧ Inv X pins σ H' s' ∧ H' ea = some (XN ea C od) ∧ Q ea C od H') E s
section
variable {X : Cx} {C : Addr} {x : Str} {p pos cpos : Pos} {e : Expr} {es : List Expr} {t : TA} {tn : TN}
def tNew0 (C : Addr) (t : TA) : TN := fun σ H Q => t σ H fun vs H1 => vs.length ≤ 100 ∧ ∀ e, H1 e = none → Q e C none (upd H1 e (XN e C none))
theorem pn_new (hq : PySem.W.excIn X.K C bmV "ValueError.__new__" = true) (kp : PySem.W.keepIn X.K (.ref C) = true) (hm : X.mg x = some (.ref C)) (ha : PA X.nox (e :: es) t) (hg : Gl X x := by rfl)
    (hdb : (x == ("__debug__" : Str)) = false := by decide) (he : starEach (e :: es) X.env = (false, eval e X.env) :: starEach es X.env := by rfl) (hpl : (backTo pos (starEach es X.env)).any (·.1) = false := by rfl) :
    PN X (.Call (.Name x p) (e :: es) [] pos) (tNew0 C t) := by
  intro pins s σ H Q E I h
  refine wpAny_Call_Name_kw (ld_glob I hg hm ?_ hdb)
  refine PySem.W.callWith_K (h₀ := X.base) I.ok.mod.kin kp (wpAny_mono (ha pos pins s σ H _ (I.wish _) h) (fun us s1 ⟨vs, H1, I1, r, hl, q⟩ => ⟨I1.unwish.kIn, ?_⟩) fun _ _ z => False.elim z) he hpl
  have I1 := I1.unwish
  have XKi := I1.kIn
  have hq' := hq
  unfold PySem.W.excIn at hq'
  split at hq'
  · rename_i dd cd sl ho
    split at hq'
    · rename_i C' bm k0 k1 k2 k3 n k5 hmr hs
      simp only [Bool.and_eq_true, beq_iff_eq, Bool.not_eq_true'] at hq'
      obtain ⟨⟨⟨⟨⟨rfl, rfl⟩, hdel⟩, ht⟩, hok⟩, hni⟩ := hq'
      obtain ⟨nm, bs, mro, ns, qn, hd, sn, sub, ab, col, del⟩ := cd
      dsimp only at hmr hdel hok hni
      subst hmr hdel
      have hsl : sl = #[k0, k1, k2, k3, some (.builtin "ValueError.__new__"), k5] := by
        obtain ⟨l⟩ := sl
        simp only at hs
        rw [hs]
      subst hsl
      obtain ⟨hp, g, d, tk, os⟩ := s1
      have hll : us.length ≤ sizeLine := by
        rw [← r.length, sizeLine_eq]
        omega
      refine wpAny_call_exc_subT (hrest := hll) PySem.F.excBase_ValueError (PySem.W.tail_of_in XKi ht) (XKi _ _ ho) (.of_isNs (PySem.W.isNs_of_in XKi hok)) (PySem.W.nsMap_none_of_in XKi hok hni) fun h' ea hm => ?_
      obtain ⟨t0, h1, h2, h3⟩ := hm.there
      have hr : Raw h' ea C' none := ⟨t0, h1⟩
      refine ⟨ea, C', none, _, rfl, ⟨nm, qn, ns, bs, bm, hd, sn, sub, ab, col, dd, k0, k1, k2, k3, k5, ho, ht⟩, I1.lay (h' := h') hm.keeps hm.new hr.okN, upd_same, q ea (I1.none_at hm.new)⟩
    · cases hq'
  · cases hq'
def tRaise (t : TN) : TSx := fun _ E σ H => t σ H fun e C od H' => E σ e (upd H' e (XO e C od))
theorem psx_raise (hn : PN X e tn) (hc : X.calm = true := by rfl) : PSx X (.Raise (some e) none pos) (tRaise tn) := by
  intro pins s σ H D E I h
  rw [arm_exec_Raise]
  show wpAny _ _ (do standAt pos; raiseStmt X.env (some (do let v ← eval e X.env; standAt pos; pure v)) none) _ _ s
  refine wpAny_bind (wpAny_standAt ?_)
  unfold raiseStmt
  refine wpAny_bind (wpAny_bind (wpAny_mono (hn pins s σ H _ _ I h) (fun v s1 hv => wpAny_bind (wpAny_standAt (wpAny_pure ?_))) fun _ _ z => z))
  obtain ⟨ea, C, od, H', rfl, ⟨nm, q, N, bs, bm, hdct, sn, sub, ab, col, dd, k0, k1, k2, k3, k5, ho, ht⟩, I1, hx, hq⟩ := hv
  obtain ⟨t0, hr⟩ := I1.xn hx
  have hE : XP X pins E (.ref ea) s1 := ⟨ea, σ, _, rfl, I1.raised hx, ⟨C, od, upd_same⟩, Raw.tb ⟨t0, hr⟩, hq⟩
  have hC := I1.kIn _ _ ho
  have T := PySem.W.tail_of_in I1.kIn ht
  have hcB : (Value.ref C :: bm).contains (.type "BaseException") = true := by rw [List.contains_cons, T.hasType (X := "BaseException") (b := true) rfl, Bool.or_true]
  obtain ⟨hp, g, d, tk, os⟩ := s1
  repeat (first | with_reducible refine wpAny_loadPart_at hr ?_ | with_reducible refine wpAny_loadPart_at hC ?_ | (with_reducible refine wpAny_isSubtype_exc hC ?_; rw [hcB]) | wp_step)
  exact wpAny_raiseNew_none (I.ok.hd hc) hE
end
end L2
namespace L2
open PySem PySem.Spec PyProof.Rows
abbrev Cx.within (X : Cx) (e : Addr) : Cx := { X with A := X.A.mark (some (.ref e)), calm := false }
section
variable {X : Cx} {pins : List (Addr × Obj)} {σ : St} {H : Hp} {s : Shared} {e C : Addr} {od : Option Addr}
theorem Inv.within (I : Inv X pins σ H s) (e : Addr) : Inv (X.within e) pins σ H s :=
  ⟨⟨I.ok.mod, I.ok.kind, I.ok.glob, I.ok.blt, I.ok.above, I.ok.inj, I.ok.has, I.ok.cab, (fun z => by cases z), I.ok.frames, I.ok.stk, I.ok.exf, I.ok.bs, I.ok.bsz, I.ok.noex, I.ok.exfs, I.ok.funs, I.ok.frf⟩, I.os, I.bare, I.base, I.loc, I.cell, I.free, I.freeC, I.pin, I.hok, I.len⟩
theorem Inv.without (ok : X.Ok) (I : Inv (X.within e) pins σ H s) : Inv X pins σ H s := ⟨ok, I.os, I.bare, I.base, I.loc, I.cell, I.free, I.freeC, I.pin, I.hok, I.len⟩
theorem flight_ok {M : Model} {A : Around} {Q : Unit → Shared → Prop} {E : Value → Shared → Prop} (I : Inv X pins σ H s) (tb : Tb X pins H s.heap e) (h : ∀ s', Inv X pins σ H s' → Q () s') : wpAny M A (setFlight (.ref e) none) Q E s := by
  obtain ⟨oe, vs, ge, hd, tb⟩ := tb
  unfold setFlight
  rcases tb with tb | ⟨T, oT, ts, tb, gT, dT, t3, nT, aT⟩
  · refine wpAny_bind (wpAny_field ge hd tb ?_)
    rw [if_neg (by decide)]
    exact wpAny_pure (h s I)
  · refine wpAny_bind (wpAny_field ge hd tb ?_)
    rw [if_pos (show (Value.ref T != Value.none) = true from by simp)]
    refine wpAny_setField gT dT (Array.getElem?_eq_some_iff.mp t3).1 (h _ ?_)
    exact I.turned (t' := s.toks) (fun b o hb q => (Heap.get?_update_other _ _ (Ne.symm hb)).trans q) aT.un aT.loc (.inr aT.up) aT.cel aT.pin
theorem gone_ok {M : Model} {A : Around} {Q : Unit → Shared → Prop} {E : Value → Shared → Prop} {i : Nat} {n : Str} {pos : Pos} (I : Inv X pins σ H s) (hN : X.N.Nodup) (hi : X.N[i]? = some n) (hl : X.env.kindOf n = some .local) (h : ∀ s', Inv X pins (σ.set i none) H s' → Q () s') :
    wpAny M A (do bindName X.env n .none; unbindBehindTheSuite X.env n pos) Q E s := by
  obtain ⟨m, hn, hlo⟩ := id I.loc
  have hcls : (X.env.scope.kind == .class || (X.env.scope.kind == .module && X.env.locals != X.env.globals)) = false := by rw [I.ok.kind]; rfl
  have hiσ : i < σ.length := by rw [I.len]; exact (List.getElem?_eq_some_iff.mp hi).1
  obtain ⟨oL, _, _, hoL, _⟩ := id hn
  refine wpAny_nameGoes_keeps hl hn hcls fun h' v hn' hs => h _ ?_
  have neL : ∀ b o, X.s₀.heap.get? b = some o → b ≠ X.env.locals := fun b o e => Nat.ne_of_lt (Nat.lt_of_lt_of_le (Heap.lt_size e) I.ok.above)
  refine ⟨I.ok, I.os, I.bare, ⟨fun b o e n hb hx => (hs.2 b (neL b o e)).trans (I.base.keep b o e n hb hx), fun b o e n hb hx => ?_, I.base.free, fun b o e hx => ?_, I.base.tups, I.base.frzs, I.base.tbls⟩, ⟨_, hn', fun j y w e1 e2 e3 => ?_⟩, fun y c e => ?_, I.free, I.freeC, fun p hp => ?_, fun b ob e => ?_, by simpa using I.len⟩
  · obtain ⟨sl, e1⟩ := I.base.slot b o e n hb hx
    exact ⟨sl, (hs.2 b (neL b o e)).trans e1⟩
  · obtain ⟨o', e1⟩ := I.base.there b o e hx
    exact ⟨o', (hs.2 b (neL b o e)).trans e1⟩
  · by_cases hj : j = i
    · subst hj
      rw [List.getElem?_set_self hiσ] at e2
      cases e2
    · rw [List.getElem?_set_ne (Ne.symm hj)] at e2
      obtain ⟨u', r', q⟩ := hlo j y w e1 e2 e3
      refine ⟨u', r', ?_⟩
      rcases q with ⟨k, e⟩ | ⟨k, c, e, z⟩
      · refine .inl ⟨k, ?_⟩
        have : y ≠ n := fun e => hj (nodup_ix hN e1 (e ▸ hi))
        simp [this, e]
      · exact .inr ⟨k, c, e, z.sameBut hs (I.cne y c e)⟩
  · obtain ⟨w', z⟩ := I.cell y c e
    exact ⟨w', z.sameBut hs (I.cne y c e)⟩
  · obtain ⟨e, n, ne, nf, d⟩ := I.pin p hp
    exact ⟨(hs.2 p.1 ne).trans e, n, ne, nf, d⟩
  · refine (I.hok b ob e).stay (fun c w' hc q => (hs.2 c ?_).trans q) (fun _ q => q) fun _ _ q => q
    rintro rfl
    rcases hc with z | hc
    · rw [← z, I.free] at e; cases e
    · rw [I.free] at hc; cases hc
end
def XSub (K : PySem.W.Frag) (C R : Addr) : Prop := ∃ nm q N bs bm hdct sn sub ab col dd k0 k1 k2 k3 k5, K.lookup C = some (excClassObj nm q C N bs bm hdct sn sub ab col dd k0 k1 k2 k3 k5 "ValueError.__new__") ∧ (Value.ref C :: bm).contains (.ref R) = true
def unD (i : Nat) (D : Ends) : Ends := { nx := fun σ H => D.nx (σ.set i none) H, rt := D.rt, bk := fun σ H => D.bk (σ.set i none) H, ct := fun σ H => D.ct (σ.set i none) H }
def tTry (K : PySem.W.Frag) (R : Addr) (i : Nat) (tb : TSx) (ts : TS) : TS := fun D σ H => tb D (fun σ' e H' => (∃ C od, H' e = some (XO e C od) ∧ XSub K C R) ∧ ts (unD i D) (σ'.set i (some (.ref e))) H') σ H
section
variable {X : Cx} {R : Addr} {i : Nat} {x n : Str} {body suite : List Stmt} {b0 : Stmt} {tb : TSx} {ts : TS} {np hpos pos : Pos}
theorem ps_try (hN : X.N.Nodup) (hi : X.N[i]? = some n) (hl : X.env.kindOf n = some .local) (hR : XKin X.K R) (hm : X.mg x = some (.ref R)) (hb : PSsx X body tb) (hs : ∀ e, PSs (X.within e).nox (b0 :: suite) ts) (hg : Gl X x := by rfl)
    (hst : X.stack = X.env :: X.outer := by rfl) (hf : X.env.frame = some X.env.locals := by rfl) (hdb : (x == ("__debug__" : Str)) = false := by decide) :
    PS X (.Try body [.ExceptHandler (some (.Name x np)) (some n) (b0 :: suite) hpos] [] [] pos) (tTry X.K R i tb ts) := by
  intro pins s σ H D I h
  refine wpAny_Try_except (wpAny_mono (hb pins s σ H D _ I h) (fun f s1 q => ?_) fun v s1 hx => ?_)
  · cases f with
    | next => exact wpAny_execs_nil q
    | ret v => exact q
    | brk => exact q
    | cont => exact q
  · obtain ⟨e, σ1, H1, rfl, I1, _, tb1, ⟨C, od, he, nm, q, N, bs, bm, hdct, sn, sub, ab, col, dd, k0, k1, k2, k3, k5, ho, hsub⟩, hts⟩ := hx
    refine note_ok I1 he tb1 hst hf fun s2 I2 tb2 => ?_
    refine wpAny_handleBy_cons (codeAny_handlers_test (ld_glob (X := X.within e) (I2.within e) hg hm ?_ hdb)) (by intro z; cases z)
    obtain ⟨oe, vs, g1, c1, c2, c3, c4⟩ := I2.xo he
    obtain ⟨nm', q', N', bs', bm', hdct', sn', sub', ab', col', dd', k0', k1', k2', k3', k5', ho', ht'⟩ := hR
    have hC := I2.kIn _ _ ho
    have hRE := I2.kIn _ _ ho'
    have T := PySem.W.tail_of_in I2.kIn ht'
    have hcB : (Value.ref R :: bm').contains (.type "BaseException") = true := by rw [List.contains_cons, T.hasType (X := "BaseException") (b := true) rfl, Bool.or_true]
    have f := tc_notTuple
    have key : ∀ s3, Inv X pins σ1 H1 s3 → Tb X pins H1 s3.heap e → wpAny (model X.prog X.w) (X.A.mark (some (.ref e))) (setFlight (.ref e) none) (fun _ s4 => wpAny (model X.prog X.w) (X.A.mark (some (.ref e))) (storeName X.env n (.ref e)) (fun _ s5 =>
        wpAny (model X.prog X.w) (X.A.mark (some (.ref e))) (execs (b0 :: suite) X.env) (fun fl s6 => wpAny (model X.prog X.w) X.A (do bindName X.env n .none; unbindBehindTheSuite X.env n hpos) (fun _ s7 => SP X pins D fl s7) X.xe s6) (fun _ _ => False) s5) (fun _ _ => False) s4) (fun _ _ => False) s3 := by
      intro s3 I3 tb3
      refine flight_ok I3 tb3 fun s4 I4 => ?_
      refine store_ok (v := V.ref e) I4 hN hi (.inl hl) rfl (fun s5 I5 => ?_) (.inr hl)
      refine wpAny_mono (hs e pins s5 _ H1 (unD i D) ((I5.within e).wish _) hts) (fun fl s6 sp => ?_) fun _ _ z => z
      cases fl with
      | next =>
        obtain ⟨σ6, H6, I6, d6⟩ := sp
        exact gone_ok (I6.unwish.without I.ok) hN hi hl fun s7 I7 => ⟨_, H6, I7, d6⟩
      | brk =>
        obtain ⟨σ6, H6, I6, d6⟩ := sp
        exact gone_ok (I6.unwish.without I.ok) hN hi hl fun s7 I7 => ⟨_, H6, I7, d6⟩
      | cont =>
        obtain ⟨σ6, H6, I6, d6⟩ := sp
        exact gone_ok (I6.unwish.without I.ok) hN hi hl fun s7 I7 => ⟨_, H6, I7, d6⟩
      | ret u =>
        obtain ⟨v6, σ6, H6, I6, r6, d6⟩ := sp
        exact gone_ok (I6.unwish.without I.ok) hN hi hl fun s7 I7 => ⟨v6, _, H6, I7, r6, d6⟩
    have K3 := key s2 I2 tb2
    obtain ⟨hp, g, d, tk, os⟩ := s2
    unfold excMatches
    repeat (first | (with_reducible refine wpAny_loadPart_at g1 ?_; rw [c1]) | with_reducible refine wpAny_loadPart_at hRE ?_ | (with_reducible refine wpAny_isSubtype_exc hRE ?_; rw [hcB]) | (with_reducible refine wpAny_isSubtype_exc hC ?_; rw [hsub]) | wp_step)
    rw [if_pos rfl]
    exact codeAny_handlers_suite_as (wpAny_mono K3 (fun _ s4 h4 => wpAny_mono h4 (fun _ s5 h5 => wpAny_mono h5 (fun fl s6 h6 => h6) fun _ _ z => False.elim z) fun _ _ z => False.elim z) fun _ _ z => False.elim z)
end
end L2
namespace L2
open PySem PySem.Spec PyProof.Rows PySem.W
structure XC (K : PySem.W.Frag) (C : Addr) : Prop where
  ga : findIn K (.ref C) "__getattribute__" = some (some (.builtin "BaseException.__getattribute__"))
  gh : findIn K (.ref C) "__getattr__" = some none
  cl : findIn K (.ref C) "__class__" = some (some (.builtin "object.__class__"))
  gs : specialIn K (.builtin "object.__class__") "__get__" = some (some (.builtin "getset_descriptor.__get__"))
  tk : takesIn K (.builtin "object.__class__") = some true
  ob : mroIn K C (.type "object") = some true
  be : mroIn K C (.type "BaseException") = some true
  hd : hasDictIn K C = true
theorem xga_kind : builtinKind "BaseException.__getattribute__" = some .slot := by decide +kernel
theorem xga_split : splitId "BaseException.__getattribute__" = some ("BaseException", "__getattribute__") := by decide +kernel
theorem xga_slot : Slot "BaseException" "__getattribute__" "BaseException.__getattribute__" :=
  .of (owner := "BaseException") (n := "__getattribute__") (by rw [typeLookup_type, builtinLookup_eq_fast]; kernel_rfl) (by decide +kernel) (by decide +kernel) (by decide +kernel)
    (by first | exact .inl (by decide +kernel) | exact .inr (by decide +kernel)) (by rw [isSubtype_type]; kernel_rfl)
section
variable {prog : Program} {w : World} {A : Around} {E : Value → Shared → Prop} {s : Shared} {K : PySem.W.Frag} {x C : Addr} {ox : Obj} {od : Option Obj} {name : Str}
theorem xga_call {tk : Tok} {r : Builtin.ObjectAttr.Found} {R : Result → Shared → Prop} (X : K.In s.heap) (I : InstAt s.heap x ox C od) (T : XC K C) (hf : findObj K C od name = some r)
    (h : match r with
      | .value v => R (.ok (.ret v)) s
      | .bind g a => wpAny (model prog w) A.in1 (call g [a, .ref x, .ref C]) (fun v s' => R (.ok (.ret v)) s') (fun _ _ => False) s
      | .missing => False) :
    codeAny (model prog w) A (.call (.builtin "BaseException.__getattribute__") ⟨[.ref x, .str name tk], []⟩) R s := by
  obtain ⟨hh, gg, d, t, os⟩ := s
  have L0 := I.type (M := model prog w)
  have L1 := looks_find (M := model prog w) X I hf
  have LB : Looks (model prog w) hh (isInstance (.ref x) (.type "BaseException")) true := L0.andThen (looks_mroIn X T.be)
  refine codeAny_call_builtin xga_slot.plain PySem.F.entry_bexc_ga ?_
  refine @check_slot (model prog w) _ _ ⟨hh, gg, d, t, os⟩ "BaseException.__getattribute__" "BaseException" "__getattribute__" (.ref x) [.str name tk] [] _ xga_kind xga_split LB (PySem.F.args_bexc_ga (.ref x) (.str name tk)) ?_
  unfold Builtin.«object.__getattribute__»
  refine wpAny_bind (wpAny_pure (wpAny_bind (wpAny_pure (wpAny_bind (L0.at (wpAny_bind (L1.at ?_)))))))
  cases r with
  | value v => exact wpAny_pure h
  | bind g a =>
    show wpAny _ _ (holding [a] (call g [a, .ref x, .ref C]) >>= ret) _ _ _
    exact wpAny_bind (wpAny_holding (wpAny_mono h (fun v s' z => wpAny_pure z) fun _ _ z => z.elim))
  | missing => exact h.elim
theorem xga_by {tk : Tok} {fill expr : Bool} {r : Builtin.ObjectAttr.Found} {Q : Value → Shared → Prop} (X : K.In s.heap) (I : InstAt s.heap x ox C od) (T : XC K C) (hf : findObj K C od name = some r)
    (h : match r with
      | .value v => handedIn v = true ∧ Q v s
      | .bind g a => wpAny (model prog w) A.in1 (call g [a, .ref x, .ref C]) (fun v s' => handedIn v = true ∧ Q v s') (fun _ _ => False) s
      | .missing => False) :
    wpAny (model prog w) A (getAttrBy (.ref x) (.str name tk) fill expr) Q E s := by
  have L0 := I.type (M := model prog w)
  unfold getAttrBy
  refine wpAny_holding (wpAny_bind (L0.here (wpAny_bind ((looks_findIn X T.ga).here ?_))))
  dsimp only
  rw [show (onTheHeap (Value.ref C) && Value.builtin "BaseException.__getattribute__" == Value.builtin "object.__getattribute__") = false from by rw [show (Value.builtin "BaseException.__getattribute__" == Value.builtin "object.__getattribute__") = false from by decide +kernel, Bool.and_false], if_neg (by decide)]
  unfold getAttrByItsOwn
  refine wpAny_bind ((looks_hook X (mc := .ref C) (r := none) (by rw [if_pos (show onTheHeap (Value.ref C) = true from rfl)]; exact T.gh)).here (wpAny_bind (wpAny_attempt (wpAny_holding ?_))))
  unfold callGetattribute
  rw [show (expr && onTheHeap (Value.builtin "BaseException.__getattribute__")) = false from Bool.and_false _, if_neg (by decide)]
  unfold boundAndCalled
  rw [xga_slot.bind]
  refine wpAny_bind (wpAny_pure ?_)
  show wpAny _ _ (call (.builtin "BaseException.__getattribute__") [.ref x, .str name tk]) _ _ _
  refine wpAny_call (xga_call X I T hf ?_)
  cases r with
  | value v =>
    show wpAny _ _ (handedOut v) _ _ _
    exact handed_on h.1 h.2
  | bind g a =>
    refine wpAny_mono h (fun v s' z => ?_) fun _ _ z => z
    show wpAny _ _ (handedOut v) _ _ _
    exact handed_on z.1 z.2
  | missing => exact h.elim
theorem xc_class {Q : Option Value → Shared → Prop} (X : K.In s.heap) (I : InstAt s.heap x ox C od) (T : XC K C) (h : Q (some (.ref C)) { s with toks := s.toks + 1 }) : wpAny (model prog w) A (getAttr? (.ref x) "__class__") Q E s := by
  have hf : findObj K C od "__class__" = some (.bind (.builtin "getset_descriptor.__get__") (.builtin "object.__class__")) := by
    obtain ⟨cd, hc, _⟩ := any_some T.hd
    unfold findObj
    rw [hc, Option.bind_some, T.cl, Option.bind_some]
    simp [T.gs, T.tk]
  unfold getAttr? getAttrBy?
  refine wpAny_bind (wpAny_mkText (wpAny_bind (wpAny_attempt (xga_by (s := { s with toks := s.toks + 1 }) X I T hf ?_))))
  exact wpAny_call (class_get (s := { s with toks := s.toks + 1 }) X I T.ob ⟨rfl, wpAny_pure h⟩)
theorem kitx_exc (T : XC K C) : KitX K (.ref x) (.ref C) (fun h => ∃ ox od, InstAt h x ox C od) where
  ty := fun _ _ _ ⟨_, _, I⟩ => I.type
  it := fun _ _ X _ => by
    obtain ⟨cdD, hcD, _⟩ := any_some T.hd
    unfold clsIn at hcD
    split at hcD
    · rename_i c' d' cd' sl' ho
      intro A' Q' E' s' k q
      unfold isType loadHead
      exact wpAny_bind (wpAny_loadPart (k _ _ (X _ _ ho)) (wpAny_pure q))
    · cases hcD
  ne := fun h tp dd its n sl X htp => by
    obtain ⟨cdD, hcD, _⟩ := any_some T.hd
    refine Bool.eq_false_iff.mpr fun q => ?_
    have e : C = tp := Value.ref.inj (beq_iff_eq.mp q)
    subst e
    unfold clsIn at hcD
    split at hcD
    · rename_i c' d' cd' sl' ho
      have z := (X _ _ ho).symm.trans htp
      cases z
    · cases hcD
  ca := fun X ⟨_, _, I⟩ k => xc_class X I T k
end
section
variable {X : Cx} {pins : List (Addr × Obj)} {σ : St} {H : Hp} {s : Shared} {e C : Addr} {od : Option Addr}
def XD (H : Hp) (od : Option Addr) : Prop := ∀ dx, od = some dx → ∃ fs, H dx = some (.xd fs)
theorem Inv.inst (I : Inv X pins σ H s) (he : H e = some (XO e C od)) (hd : XD H od) : ∃ ox o, InstAt s.heap e ox C o := by
  obtain ⟨oe, vs, ge, c1, c2, c3, c4⟩ := I.xo he
  have no : notCls oe = true := by
    obtain ⟨c, d, dt, sl⟩ := oe
    dsimp only at c3
    subst c3
    rfl
  cases od with
  | none => exact ⟨oe, none, ge, c1, no, by rw [c2]; trivial⟩
  | some dx =>
    obtain ⟨fs, hx⟩ := hd dx rfl
    obtain ⟨u, hu⟩ := (I.hok dx _ hx).ex
    exact ⟨oe, some u, ge, c1, no, by rw [c2]; exact hu⟩
end
inductive TyX (K : PySem.W.Frag) (H : Hp) : V → Value → Prop where
  | ty {x : V} {t : Value} (h : TyOf K H x t) : TyX K H x t
  | exc {e C : Addr} {od : Option Addr} (he : H e = some (XO e C od)) (hd : XD H od) (T : XC K C) : TyX K H (.ref e) (.ref C)
def rIsX (K : PySem.W.Frag) : List V → Hp → VK → Prop := fun xs H Q => ∃ x c t b, xs = [x, c] ∧ ((∃ n, c = .ty n) ∨ ∃ a, c = .ref a) ∧ TyX K H x t ∧ kitOne K t (clsV c) = some b ∧ Q (.bl b) H
theorem call_isx {X : Cx} (K : PySem.W.Frag) (h : X.K = K := by rfl) : CallR X (.builtin "isinstance") (rIsX K) := by
  subst h
  intro pins s σ H xs us Q I r h
  obtain ⟨x, c, t, b, rfl, hc, ty, e, q⟩ := h
  obtain ⟨u, w', rfl, rx, rc⟩ := vals2 r
  have hw : w' = clsV c := by
    rcases hc with ⟨n, rfl⟩ | ⟨a, rfl⟩
    · cases rc; rfl
    · cases rc; rfl
  subst hw
  cases ty with
  | ty ty => exact isinst_ok I rx ty e fun tk => ⟨.bl b, H, I.tok _, rfl, q⟩
  | exc he hd T =>
    cases rx
    exact kia_one (kitx_exc T) I.kIn (I.inst he hd) e (fun z => nomatch z) fun tk => ⟨.bl b, H, I.tok _, rfl, q⟩
def rIsXT (K : PySem.W.Frag) : List V → Hp → VK → Prop := fun xs H Q => ∃ (x : V) (p : Addr) (cs : List Addr) (t : Value) (b : Bool), xs = [x, .ref p] ∧ H p = some (.tup (cs.map V.ref)) ∧ ((x = .non ∧ t = .type "NoneType") ∨ ∃ e C od, x = .ref e ∧ t = .ref C ∧ H e = some (XO e C od) ∧ XD H od ∧ XC K C) ∧ kitAny K t (cs.map Value.ref) = some b ∧ Q (.bl b) H
theorem vals_refs : ∀ {cs : List Addr} {us : List Value}, Vals (cs.map V.ref) us → us = cs.map Value.ref
  | [], _, .nil => rfl
  | c :: cs, _, .cons r t => by
    cases r
    rw [vals_refs t]
    rfl
theorem call_isxT {X : Cx} (K : PySem.W.Frag) (h : X.K = K := by rfl) : CallR X (.builtin "isinstance") (rIsXT K) := by
  subst h
  intro pins s σ H xs us Q I r h
  obtain ⟨x, p, cs, t, b, rfl, hp, hx, e, q⟩ := h
  obtain ⟨u, w', rfl, rx, rc⟩ := vals2 r
  cases rc
  obtain ⟨_, its, rv, o, ho, hc, n, hd⟩ := (show ObjOk X.prog X.w H s.heap p (.tup (cs.map V.ref)) from I.hok p _ hp)
  have := vals_refs rv
  subst this
  obtain ⟨c, dd, dt, sl⟩ := o
  dsimp only at hc hd
  subst hc hd
  rcases hx with ⟨rfl, rfl⟩ | ⟨ex, C, od, rfl, rfl, he, hd, T⟩
  · cases rx
    exact kia_tup kitx_none I.kIn True.intro ho e (fun z => nomatch z) fun tk => ⟨.bl b, H, I.tok _, rfl, q⟩
  · cases rx
    exact kia_tup (kitx_exc T) I.kIn (I.inst he hd) ho e (fun z => nomatch z) fun tk => ⟨.bl b, H, I.tok _, rfl, q⟩
end L2
namespace L2
open PySem PySem.Spec PyProof.Rows PySem.W
section
variable {prog : Program} {w : World} {A : Around} {E : Value → Shared → Prop} {h : Heap} {g : Array GenState} {d : Drawn} {t : Nat} {os : OsState} {K : PySem.W.Frag}
variable {nm q : Str} {C N : Addr} {bs bm : List Value} {hdct : Bool} {sn : List Str} {sub : List Value} {ab : Bool} {col : Option Bool} {dd : Option Addr} {k0 k1 k2 k3 k5 : Option Value}
theorem tcall_init {rest : List Value} {fI : Addr} {oI : Obj} {Q : Fin → Shared → Prop} (X : K.In h) (T : OwnTail h bmV bm)
    (hC : h.get? C = some (excClassObj nm q C N bs bm hdct sn sub ab col dd k0 k1 k2 k3 k5 "ValueError.__new__")) (hi : findIn K (.ref C) "__init__" = some (some (.ref fI))) (hfI : h.get? fI = some oI) (hfc : oI.cls = .type "function")
    (hq : ∀ h' e, Heap.MadeExcOf h h' e (.ref C) rest → wpAny (model prog w) A (call (.ref fI) (.ref e :: rest)) (fun r s' => r = .none ∧ Q (.done (.ret (.ref e))) s') E ⟨h', g, d, t, os⟩) (hrest : rest.length ≤ sizeLine) :
    wpAny (model prog w) A (Builtin.«type.__call__» ⟨.ref C :: rest, []⟩) Q E ⟨h, g, d, t, os⟩ := by
  have F := PySem.F.excBase_ValueError
  repeat (first | with_reducible refine wpAny_loadPart_at hC ?_ | with_reducible refine wpAny_madeBy_exc hC ?_ | wp_step)
  refine codeAny_call_builtin_code (Code.quiet_builtin _ F.quiet) (wpAny_check_new_subT F T hC ?_)
  refine codeAny_exc_new_subT F T hC ?_ hrest
  show wpAny _ _ _ _ _ _
  generalize hTU : ({ cls := .type "tuple", data := .seq rest.toArray } : Obj) = TU
  generalize hEX : ({ cls := .ref C, data := .fields #[.ref h.objs.size, .none, .none, .none, .bool false, .none] } : Obj) = EX
  have kk : ∀ b o, h.get? b = some o → ((h.push TU).push EX).get? b = some o := fun b o e => Heap.get?_push_of_some _ (Heap.get?_push_of_some _ e)
  have hC1 := kk _ _ hC
  have hf1 := kk _ _ hfI
  have hget : ((h.push TU).push EX).get? (h.objs.size + 1) = some EX := by
    have := Heap.get?_push_size (h.push TU) (o := EX) (by rw [← hEX]; rfl)
    rwa [Heap.size_push] at this
  have hcl : EX.cls = .ref C := by rw [← hEX]
  have hcC : (Value.ref C :: bm).contains (.ref C) = true := by simp
  unfold isInstance
  repeat (first | (with_reducible refine wpAny_loadPart_at hget ?_; rw [hcl]) | (with_reducible refine wpAny_isSubtype_exc hC1 ?_; rw [hcC]) | wp_step)
  show wpAny _ _ (typeLookup (.ref C) _) _ _ _
  refine looks_findIn (M := model prog w) X hi _ _ _ _ kk ?_
  refine wpAny_holding (wpAny_bind ?_)
  unfold bindSpecial
  refine wpAny_bind (wpAny_typeOf (T := "function") ⟨_, hf1, hfc⟩ ?_)
  rw [if_pos (by decide)]
  refine wpAny_pure (wpAny_bind (wpAny_mono (hq _ (h.objs.size + 1) ⟨kk, Heap.get?_none_of_le (Nat.le_succ _), h.objs.size, by rw [hget, ← hEX], Heap.get?_none_of_le (Nat.le_refl _), ?_⟩) (fun r s' hr => ?_) fun _ _ x => x))
  · rw [hTU]
    exact Heap.get?_push_of_some _ (Heap.get?_push_size h (by rw [← hTU]; rfl))
  · obtain ⟨rfl, hQ⟩ := hr
    wp_walk
    exact hQ
theorem call_init {rest : List Value} {fI : Addr} {oI : Obj} {Q : Value → Shared → Prop} (X : K.In h) (T : OwnTail h bmV bm)
    (hC : h.get? C = some (excClassObj nm q C N bs bm hdct sn sub ab col dd k0 k1 k2 k3 k5 "ValueError.__new__")) (hi : findIn K (.ref C) "__init__" = some (some (.ref fI))) (hfI : h.get? fI = some oI) (hfc : oI.cls = .type "function")
    (hq : ∀ h' e, Heap.MadeExcOf h h' e (.ref C) rest → wpAny (model prog w) (A.under (.builtin "type.__call__" ⟨.ref C :: rest, []⟩)) (call (.ref fI) (.ref e :: rest)) (fun r s' => r = .none ∧ Q (.ref e) s') E ⟨h', g, d, t, os⟩) (hrest : rest.length ≤ sizeLine) :
    wpAny (model prog w) A (call (.ref C) rest) Q E ⟨h, g, d, t, os⟩ := by
  have f1 := tc_lookup
  have f2 := tc_bind (.ref C)
  have hT : (⟨h, g, d, t, os⟩ : Shared).TypeIs (.ref C) "type" := ⟨_, hC, rfl⟩
  refine wpAny_call (codeAny_of_tree ?_)
  show wpAny _ _ (callAny (.ref C) _) _ _ _
  repeat (any_goals (first | assumption | with_reducible refine wpAny_loadPart_at hC ?_ | wp_step))
  refine ⟨rfl, ?_⟩
  exact codeAny_call_builtin_at (Code.quiet_builtin _ (by decide +kernel)) entry_typeCall (wpAny_check_type_call_sub hC (tcall_init X T hC hi hfI hfc hq hrest))
end
structure XMk (K : PySem.W.Frag) (C f : Addr) : Prop where
  kin : XKin K C
  init : findIn K (.ref C) "__init__" = some (some (.ref f))
  fn : isFn K (.ref f) = true
  kp : keepIn K (.ref C) = true
def OwnE (P : Program) (w : World) (K : PySem.W.Frag) (mg : Str → Option Value) (base : Heap) (k : Nat) (C : Addr) (ps : List Str) (sp : Sp) : Prop :=
  ∃ f fd, XMk K C f ∧ Binds K fd ps [] ∧ FnOk P w K mg base CX0 k f fd ps sp
section
variable {X : Cx} {C : Addr} {x : Str} {p pos cpos apos : Pos} {e : Expr} {es : List Expr} {t : TA} {ps : List Str} {sp : Sp} {j k : Nat}
def tNewI (C : Addr) (sp : Sp) (t : TA) : TN := fun σ H Q => t σ H fun vs H1 => vs.length ≤ 100 ∧ ∀ e, H1 e = none → sp (.ref e :: vs) (upd H1 e (XN e C none)) (fun v H2 => v = .non ∧ ∃ od, H2 e = some (XN e C od) ∧ Q e C od H2) E0
theorem pn_newI (M : OwnE X.prog X.w X.K X.mg X.base j C ps sp) (hr : Room k X.A) (hm : X.mg x = some (.ref C)) (ha : PA X.nox (e :: es) t) (hk : j + 1 ≤ k := by decide) (hg : Gl X x := by rfl)
    (hdb : (x == ("__debug__" : Str)) = false := by decide) (he : starEach (e :: es) X.env = (false, eval e X.env) :: starEach es X.env := by rfl) (hpl : (backTo pos (starEach es X.env)).any (·.1) = false := by rfl) :
    PN X (.Call (.Name x p) (e :: es) [] pos) (tNewI C sp t) := by
  obtain ⟨f, fd, M, hb, F⟩ := M
  intro pins s σ H Q E I h
  refine wpAny_Call_Name_kw (ld_glob I hg hm ?_ hdb)
  refine PySem.W.callWith_K (h₀ := X.base) I.ok.mod.kin M.kp (wpAny_mono (ha pos pins s σ H _ (I.wish _) h) (fun us s1 ⟨vs, H1, I1, r, hl, q⟩ => ⟨I1.unwish.kIn, ?_⟩) fun _ _ z => False.elim z) he hpl
  have I1 := I1.unwish
  have XKi := I1.kIn
  obtain ⟨nm, qn, N, bs, bm, hdct, sn, sub, ab, col, dd, k0, k1, k2, k3, k5, ho, ht⟩ := id M.kin
  obtain ⟨oI, hoI, hcI⟩ := Option.map_eq_some_iff.mp (show (X.K.lookup f).map (·.cls) = some (.type "function") from beq_iff_eq.mp M.fn)
  obtain ⟨hp, g, d, tk, os⟩ := s1
  have hll : us.length ≤ sizeLine := by
    rw [← r.length, sizeLine_eq]
    omega
  refine call_init XKi (tail_of_in XKi ht) (XKi _ _ ho) M.init (XKi _ _ hoI) hcI (fun h' ea hm => ?_) hll
  obtain ⟨t0, h1, h2, h3⟩ := hm.there
  have hraw : Raw h' ea C none := ⟨t0, h1⟩
  have hn := I1.none_at hm.new
  have I2 := I1.lay (h' := h') (o := XN ea C none) hm.keeps hm.new hraw.okN
  have hq := q ea hn
  have r2 : Vals (V.ref ea :: vs) (Value.ref ea :: us) := .cons rfl r
  have hlen : (Value.ref ea :: us).length = ps.length := by
    have e := r2.length
    rw [F.len _ _ _ _ hq] at e
    exact e.symm
  have hb' := hb ⟨h', g, d, tk, os⟩ (Value.ref ea :: us) I2.kIn (by rw [List.append_nil]; exact hlen)
  rw [List.append_nil] at hb'
  refine wpAny_call (codeAny_mono (F.run _ X.stack _ _ ⟨Value.ref ea :: us, []⟩ (Value.ref ea :: us) _ _ E0 ((hr.mono hk).make C us []) (I2.env0.make C us []) hb' r2 hq) fun r s' hq' => ?_)
  cases r with
  | error v => exact False.elim hq'
  | ok fl =>
    cases fl with
    | ret u =>
      obtain ⟨v, H', I3, rv, ev, od, hx, q3⟩ := I2.after hq'
      subst ev
      exact ⟨rv, ea, C, od, H', rfl, M.kin, I3, hx, q3⟩
    | next => exact False.elim hq'
    | brk => exact False.elim hq'
    | cont => exact False.elim hq'
structure XB (K : PySem.W.Frag) (B : Addr) : Prop where
  sp : specialIn K (.ref B) "__getattribute__" = some (some (.builtin "type.__getattribute__"))
  rd : readsIn K B (.type "type") = true
  fd : findCls K (.ref B) (.type "type") "__init__" = some (.val (.builtin "ValueError.__init__"))
theorem upd_self {H : Hp} {a : Addr} {o : HO} (h : H a = some o) : upd H a o = H := by
  funext b
  unfold upd
  split
  · rename_i z
    rw [z, h]
  · rfl
def tXi (K : PySem.W.Frag) (t : TA) : TE := fun σ H Q => t σ H fun vs H1 => ∃ e C od y, vs = [.ref e, y] ∧ H1 e = some (XN e C od) ∧ XKin K C ∧ Q .non H1
theorem pe_xinit {B : Addr} {pl : Sem Bool} (T : XB X.K B) (hm : X.mg x = some (.ref B)) (ha : PA X (e :: es) t) (hg : Gl X x := by rfl) (hdb : (x == ("__debug__" : Str)) = false := by decide)
    (hst : starEach (e :: es) X.env = (false, eval e X.env) :: starEach es X.env := by rfl) (hpl : (backTo pos (starEach es X.env)).any (·.1) = false := by rfl)
    (ht : eval (.Call (.Attribute (.Name x p) "__init__" apos) (e :: es) [] pos) X.env = (do
      let ov ← eval (.Name x p) X.env
      standAt apos.atName
      let (f, first) ← holding [ov] (getMethod ov "__init__" pl)
      callWith pos f first (backTo pos (starEach (e :: es) X.env)) (backToKw pos (keywordEach [] X.env))) := by rfl) :
    PE X (.Call (.Attribute (.Name x p) "__init__" apos) (e :: es) [] pos) (tXi X.K t) := by
  intro pins s σ H Q I h
  refine PySem.W.methodCall_KW (pl := pl) (ld_glob I hg hm ?_ hdb) ht
  refine method_cls I.kIn T.sp (cls_value I.kIn T.rd T.fd rfl ?_)
  have I0 := I.tok (s.toks + 1)
  refine PyProof.Rows.callWith_builtin1 (thn (ha pos pins _ σ H _ I0 h) fun us s1 ⟨vs, H1, I1, r, ex, C, od, y, ev, hx, hkin, q⟩ => ?_) hst hpl
  subst ev
  obtain ⟨u1, u2, rfl, r1, r2⟩ := vals2 r
  cases r1
  obtain ⟨nm, qn, N, bs, bm, hdct, sn, sub, ab, col, dd, k0, k1, k2, k3, k5, ho, htl⟩ := hkin
  have F := PySem.F.excBase_ValueError
  have XKi := I1.kIn
  obtain ⟨t0, hr⟩ := I1.xn hx
  obtain ⟨hp, g, d, tk, os⟩ := s1
  refine wpAny_call (codeAny_call_builtin F.init.plain F.initEntry (wpAny_check_init_subT F (tail_of_in XKi htl) (XKi _ _ ho) hr rfl ?_))
  wp_walk
  show EP X pins σ Q .none _
  generalize hTU : ({ cls := .type "tuple", data := .seq #[u2] } : Obj) = TU
  have I2 : Inv X pins σ H1 ⟨hp.push TU, g, d, tk, os⟩ := I1.kept (t' := tk) fun b u z => Heap.get?_push_of_some _ z
  have hr2 : (hp.push TU).get? ex = some { cls := .ref C, dict := od, data := .fields #[.ref t0, .none, .none, .none, .bool false, .none] } := Heap.get?_push_of_some _ hr
  have hr3 : ((hp.push TU).update ex (Obj.mapFields fun x => x.setIfInBounds 0 (Value.ref hp.objs.size))).get? ex = some { cls := .ref C, dict := od, data := .fields #[.ref hp.objs.size, .none, .none, .none, .bool false, .none] } := Heap.get?_update_self _ hr2 rfl
  have I3 := I2.write (t' := tk) (x := ex) (e := ex) (o := XN ex C od) (h' := (hp.push TU).update ex (Obj.mapFields fun x => x.setIfInBounds 0 (Value.ref hp.objs.size))) (by rw [hx]; exact True.intro) (.inl rfl) (fun b u hb z => (Heap.get?_update_other _ _ (Ne.symm hb)).trans z) ⟨_, hr3⟩ (Raw.okN ⟨_, hr3⟩)
  rw [upd_self hx] at I3
  exact ⟨.non, H1, I3, rfl, q⟩
end
end L2
namespace L2
open PySem PySem.Spec PyProof.Rows PySem.W
theorem tail_passes {h : Heap} {bm : List Value} (self : Value) (T : OwnTail h bmV bm) : refuseLoop self "__setattr__" bm = pure () := by
  induction T with
  | base => exact PySem.F.store_ValueError.passes self
  | own _ _ _ _ ih => rw [refuseLoop_ref]; exact ih
section
variable {prog : Program} {w : World} {A : Around} {s : Shared} {K : PySem.W.Frag} {x C : Addr} {name : Str} {v : Value} {tk : Tok}
variable {nm q : Str} {N : Addr} {bs bm : List Value} {hdct : Bool} {sn : List Str} {sub : List Value} {ab : Bool} {col : Option Bool} {dd : Option Addr} {k0 k1 k2 k3 k5 : Option Value} {newId : String}
theorem xset_entry {R : Result → Shared → Prop} {vs : Array Value} {sl : Array (Option Value)} (X : K.In s.heap) (hx : s.heap.get? x = some ⟨.ref C, none, .fields vs, sl⟩) (T : OwnTail s.heap bmV bm)
    (hC : K.lookup C = some (excClassObj nm q C N bs bm hdct sn sub ab col dd k0 k1 k2 k3 k5 newId)) (hf : findIn K (.ref C) name = some none) (hh : hasDictIn K C = true)
    (h : ∀ h' tk', h'.Ns1 s.heap.objs.size (fun y => if y = name then some v else none) → h'.get? x = some ⟨.ref C, some s.heap.objs.size, .fields vs, sl⟩ → (∀ b o, b ≠ x → s.heap.get? b = some o → h'.get? b = some o) → R (.ok (.ret .none)) { s with heap := h', toks := tk' }) :
    codeAny (model prog w) A (.call (.builtin "object.__setattr__") ⟨[.ref x, .str name tk, v], []⟩) R s := by
  have SF := PySem.F.store_object
  have I : InstAt s.heap x ⟨.ref C, none, .fields vs, sl⟩ C none := ⟨hx, rfl, rfl, True.intro⟩
  obtain ⟨cd, hcd, hd'⟩ := any_some hh
  have hmro : cd.mro = .ref C :: bm := by
    unfold clsIn at hcd
    rw [hC] at hcd
    cases hcd
    rfl
  have hcO : (Value.ref C :: bm).contains (.type "object") = true := by rw [List.contains_cons, T.hasType (X := "object") (b := true) rfl, Bool.or_true]
  have isub : Looks (model prog w) s.heap (isInstance (.ref x) (.type "object")) true := I.type.andThen (looks_mroIn X (by unfold mroIn; rw [hcd, Option.bind_some, hmro, if_neg (show ¬ (Value.ref C :: bm).isEmpty = true from Bool.false_ne_true), hcO]))
  have hmL : Looks (model prog w) s.heap (mroOf (.ref C)) cd.mro := (looks_clsIn X hcd).andThen .now
  refine codeAny_call_builtin SF.slot.plain SF.entry (@check_slot (model prog w) _ _ s "object.__setattr__" "object" "__setattr__" (.ref x) [.str name tk, v] [] _ SF.kind SF.split isub (SF.args (.ref x) (.str name tk) v) ?_)
  rw [osa_eq, refuse_eq]
  refine wpAny_bind (wpAny_bind (I.type.here (wpAny_bind (hmL.here ?_))))
  rw [hmro, refuseLoop_ref, tail_passes _ T]
  refine wpAny_pure (wpAny_bind (I.type.here (wpAny_bind ((looks_findIn X hf).here (wpAny_bind (wpAny_pure ?_))))))
  show wpAny _ _ (Builtin.ObjectAttr.storeInOwnDict (.ref x) (.ref C) (.str name tk) name v false) _ _ _
  refine wpAny_bind (wpAny_pure (wpAny_bind (wpAny_bind (wpAny_loadPart hx (wpAny_bind ((looks_clsIn X hcd).here ?_))))))
  rw [hd']
  have hx₁ : (s.heap.push { cls := .type "dict", data := .dict #[] }).get? x = some ⟨.ref C, none, .fields vs, sl⟩ := Heap.get?_push_of_some _ hx
  have hxs : x ≠ s.heap.objs.size := Nat.ne_of_lt (Heap.lt_size hx)
  refine wpAny_bind (wpAny_alloc' ?_)
  refine wpAny_bind (wpAny_update' hx₁ ?_)
  refine wpAny_pure ?_
  have hgd : ((s.heap.push { cls := .type "dict", data := .dict #[] }).update x fun o => { cls := o.cls, dict := some s.heap.objs.size, data := o.data, slots := o.slots }).get? s.heap.objs.size
      = some { cls := .type "dict", data := .dict #[] } :=
    (Heap.get?_update_ne _ _ _ _ hxs.symm).trans (Heap.get?_push_at rfl rfl)
  have hnd : ((s.heap.push { cls := .type "dict", data := .dict #[] }).update x fun o => { cls := o.cls, dict := some s.heap.objs.size, data := o.data, slots := o.slots }).Ns s.heap.objs.size (fun _ => none) :=
    ⟨_, #[], _, hgd, rfl, fun e he => absurd he (by simp), fun _ => rfl⟩
  show wpAny _ _ (Builtin.ObjectAttr.storeInDict s.heap.objs.size (.str name tk) name v) _ _ _
  unfold Builtin.ObjectAttr.storeInDict Builtin.ObjectAttr.newKeyGuard
  refine wpAny_bind (wpAny_pure (wpAny_bind (wpAny_nsSet1 (Heap.Ns1.of_empty hnd) fun h' hn' hs => ?_)))
  obtain ⟨oD, esD, epD, hoD, hdD, hcD⟩ := hn'.count (Within.cons name v Within.nil)
  refine wpAny_bind (wpAny_lookBehind hoD (by rw [hdD]; exact pastItsLine_dict (Nat.le_trans hcD (by rw [List.length_cons, List.length_nil, sizeLine_eq]; omega))) ?_)
  refine wpAny_pure (h h' _ hn' ?_ fun b ob hbx hb => ?_)
  · exact (hs.2 x hxs).trans (Heap.get?_update_self _ hx₁ rfl)
  · exact (hs.2 b (Nat.ne_of_lt (Heap.lt_size hb))).trans ((Heap.get?_update_ne _ _ _ _ hbx).trans (Heap.get?_push_of_some _ hb))
end
structure XSt (K : PySem.W.Frag) (C : Addr) (f : Str) : Prop where
  kin : XKin K C
  sa : findIn K (.ref C) "__setattr__" = some (some (.builtin "object.__setattr__"))
  no : findIn K (.ref C) f = some none
  hd : hasDictIn K C = true
section
variable {X : Cx} {pins : List (Addr × Obj)} {σ : St} {H : Hp} {s : Shared} {a C : Addr}
theorem Inv.xfld {h' : Heap} {dx : Addr} {t' : Nat} {o1 o2 : HO} (I : Inv X pins σ H s) (he : H a = some (XN a C none)) (hk : ∀ b u, b ≠ a → s.heap.get? b = some u → h'.get? b = some u) (ha : ∃ u, h'.get? a = some u) (hn : s.heap.get? dx = none)
    (n1 : ObjOk X.prog X.w (upd (upd H dx o2) a o1) h' a o1) (n2 : ObjOk X.prog X.w (upd (upd H dx o2) a o1) h' dx o2) : Inv X pins σ (upd (upd H dx o2) a o1) { s with heap := h', toks := t' } := by
  have hH := I.none_at hn
  have na : ∀ b (o : HO), H b = some o → o ≠ XN a C none → b ≠ a := fun b o q d z => by rw [z, he] at q; cases q; exact d rfl
  have nf : ∀ b, H b = none → b ≠ a := fun b q z => by rw [z, he] at q; cases q
  have nd : ∀ b u, s.heap.get? b = some u → b ≠ dx := fun b u q z => by rw [z, hn] at q; cases q
  have st : ∀ b (o : HO), H b = some o → o ≠ XN a C none → upd (upd H dx o2) a o1 b = some o := fun b o q d => by rw [upd_ne (na b o q d), upd_ne (ne_of_none q hH)]; exact q
  refine I.un (t' := t') ⟨fun b u q n _ _ => hk b u (nf b n) q, fun b u q n _ _ => ⟨u.slots, hk b u (nf b n) q⟩, fun b u q n _ => by rw [upd_ne (nf b n), upd_ne (nd b u q)]; exact n, fun b u q _ => ?_, fun b xs q => st b _ q (by intro z; cases z),
    fun b u xs q => st b _ q (by intro z; cases z), fun b ps q => ⟨#[], by rw [st b _ q (by intro z; cases z)]; simp⟩⟩ fun b o e => ?_
  · by_cases hb : b = a
    · rw [hb]; exact ha
    · exact ⟨u, hk b u hb q⟩
  · by_cases hb : b = a
    · subst hb
      rw [upd_same] at e
      cases e
      exact n1
    · rw [upd_ne hb] at e
      by_cases hd : b = dx
      · subst hd
        rw [upd_same] at e
        cases e
        exact n2
      · rw [upd_ne hd] at e
        refine (I.hok b o e).stay (fun c v hc q => hk c v (fun z => ?_) q) (fun c q => ?_) fun c xs q => st c _ q (by intro z; cases z)
        · rcases hc with rfl | hc
          · exact hb z
          · rw [z, he] at hc; cases hc
        · exact st c _ q (by intro z; cases z)
def sXf (K : PySem.W.Frag) (ta tv : TE) (f : Str) : TS := fun D σ H => tv σ H fun y H1 => ta σ H1 fun x H2 => ∃ a C, x = .ref a ∧ H2 a = some (XN a C none) ∧ XSt K C f ∧ ∀ dx, H2 dx = none → dx ≠ a → D.nx σ (upd (upd H2 dx (.xd [(f, y)])) a (XN a C (some dx)))
theorem ps_xfld {o value : Expr} {ta tv : TE} {f : Str} {pos pos' : Pos} (ha : PE X o ta) (hv : PE X value tv) (hs : swapsWith value (some (.Attribute o f pos')) pos.line X.env = pure false) : PS X (.Assign [.Attribute o f pos'] value pos) (sXf X.K ta tv f) := by
  intro pins s σ H D I h
  refine plainObj_wpAny_Assign_Attribute (thn (hv pins s σ H _ I h) fun u s1 ⟨y, H1, I1, ry, q⟩ => thn (ha pins s1 σ H1 _ I1 q) fun ov s2 ⟨x, H2, I2, rx, a, C, ex, ea, T, q2⟩ => ?_) hs
  subst ex
  obtain rfl : ov = Value.ref a := rx
  obtain ⟨nm, qn, N, bs, bm, hdct, sn, sub, ab, col, dd, k0, k1, k2, k3, k5, ho, htl⟩ := T.kin
  obtain ⟨t0, hr⟩ := I2.xn ea
  refine PySem.W.set_plain I2.kIn (⟨hr, rfl, rfl, True.intro⟩ : InstAt s2.heap a _ C none) T.sa ?_
  refine xset_entry (s := { s2 with toks := s2.toks + 1 }) I2.kIn hr (tail_of_in I2.kIn htl) ho T.no T.hd fun h' tk' hns hx' hk => ?_
  have hlt : a ≠ s2.heap.objs.size := Nat.ne_of_lt (Heap.lt_size hr)
  refine ⟨σ, _, I2.xfld (C := C) (dx := s2.heap.objs.size) (o1 := XN a C (some s2.heap.objs.size)) (o2 := .xd [(f, y)]) ea hk ⟨_, hx'⟩ (Heap.get?_none_of_le (Nat.le_refl _)) (Raw.okN ⟨t0, hx'⟩) ⟨_, hns, fun g => ?_⟩, q2 _ (I2.hok.fresh (Nat.le_refl _)) (Ne.symm hlt)⟩
  by_cases hg : g = f
  · subst hg
    simp only [List.lookup, beq_self_eq_true, if_true]
    exact ry
  · have : (g == f) = false := by simp [hg]
    simp only [List.lookup, this, if_neg hg]
    trivial
end
structure XGt (K : PySem.W.Frag) (C : Addr) (f : Str) : Prop where
  xc : XC K C
  no : findIn K (.ref C) f = some none
theorem FnOk.drop {P : Program} {w : World} {K : PySem.W.Frag} {mg : Str → Option Value} {base : Heap} {k : Nat} {f : Addr} {fd : FuncData} {ps : List Str} {sp : Sp} (F : FnOk P w K mg base (CXx P w) k f fd ps sp) : FnOk P w K mg base CX0 k f fd ps fun vs H Q _ => sp vs H Q E0 :=
  ⟨fun vs H Q _ h => F.len vs H Q E0 h, fun A outer s H args us vs Q E hr he hb hv hs => codeAny_mono (F.run A outer s H args us vs Q E0 hr he hb hv hs) fun r s' h => by
    cases r with
    | error e =>
      obtain ⟨_, _, _, _, _, _, _, _, _, z⟩ := h
      exact False.elim z
    | ok f => cases f <;> exact h⟩
section
variable {P : Program} {w : World} {K : PySem.W.Frag} {mg : Str → Option Value} {base : Heap} {k : Nat} {x m : Str} {C : Addr} {ps : List Str} {sp : Sp}
def sp0 (sp : Sp) : Sp := fun vs H Q _ => sp vs H Q E0
theorem OwnX.drop (h : OwnX P w K mg base k x ps sp) : Own P w K mg base k x ps (sp0 sp) := let ⟨f, fd, a, b, c, F⟩ := h; ⟨f, fd, a, b, c, F.drop⟩
end
end L2
namespace L2
open PySem PySem.Spec PyProof.Rows PySem.W
def xkinB (K : PySem.W.Frag) (C : Addr) : Bool := match K.lookup C with
  | some ⟨.type "type", _, .cls cd, sl⟩ => (match cd.mro, sl.toList with
    | .ref C' :: bm, [_, _, _, _, some (.builtin n), _] => C' == C && n == "ValueError.__new__" && !cd.hasDel && tailIn K bmV bm
    | _, _ => false)
  | _ => false
theorem xkin_get {K : PySem.W.Frag} {C : Addr} (h : xkinB K C = true) : ∃ nm q N bs bm hdct sn sub ab col dd k0 k1 k2 k3 k5, K.lookup C = some (excClassObj nm q C N bs bm hdct sn sub ab col dd k0 k1 k2 k3 k5 "ValueError.__new__") ∧ PySem.W.tailIn K bmV bm = true := by
  unfold xkinB at h
  split at h
  · rename_i dd cd sl ho
    split at h
    · rename_i C' bm k0 k1 k2 k3 n k5 hmr hs
      simp only [Bool.and_eq_true, beq_iff_eq, Bool.not_eq_true'] at h
      obtain ⟨⟨⟨rfl, rfl⟩, hdel⟩, ht⟩ := h
      obtain ⟨nm, bs, mro, ns, qn, hd, sn, sub, ab, col, del⟩ := cd
      dsimp only at hmr hdel
      subst hmr hdel
      have hsl : sl = #[k0, k1, k2, k3, some (.builtin "ValueError.__new__"), k5] := by
        obtain ⟨l⟩ := sl
        simp only at hs
        rw [hs]
      subst hsl
      exact ⟨nm, qn, ns, bs, bm, hd, sn, sub, ab, col, dd, k0, k1, k2, k3, k5, ho, ht⟩
    · cases h
  · cases h
theorem xkin_of {K : PySem.W.Frag} {C : Addr} (h : xkinB K C = true) : XKin K C := xkin_get h
theorem xsub_of {K : PySem.W.Frag} {C R : Addr} (h : xkinB K C = true) (m : mroIn K C (.ref R) = some true) : XSub K C R := by
  obtain ⟨nm, q, N, bs, bm, hdct, sn, sub, ab, col, dd, k0, k1, k2, k3, k5, ho, ht⟩ := xkin_get h
  refine ⟨nm, q, N, bs, bm, hdct, sn, sub, ab, col, dd, k0, k1, k2, k3, k5, ho, ?_⟩
  unfold mroIn clsIn at m
  rw [ho] at m
  simpa using m
structure XCls (K : PySem.W.Frag) (mg : Str → Option Value) (x : Str) (C R : Addr) : Prop where
  mg : mg x = some (.ref C)
  kin : XKin K C
  sub : XSub K C R
  xc : XC K C
  kp : keepIn K (.ref C) = true
structure XPl (K : PySem.W.Frag) (C : Addr) : Prop where
  ex : excIn K C bmV "ValueError.__new__" = true
  kp : keepIn K (.ref C) = true
def xclsB (K : PySem.W.Frag) (C R : Addr) : Bool := xkinB K C && mroIn K C (.ref R) == some true && findIn K (.ref C) "__getattribute__" == some (some (.builtin "BaseException.__getattribute__")) && findIn K (.ref C) "__getattr__" == some none &&
  findIn K (.ref C) "__class__" == some (some (.builtin "object.__class__")) && specialIn K (.builtin "object.__class__") "__get__" == some (some (.builtin "getset_descriptor.__get__")) && takesIn K (.builtin "object.__class__") == some true &&
  mroIn K C (.type "object") == some true && mroIn K C (.type "BaseException") == some true && hasDictIn K C && keepIn K (.ref C)
theorem xcls_mk {K : PySem.W.Frag} {h : Heap} {mg : Str → Option Value} {x : Str} {C R : Addr} (X : K.In h) (G : h.Ns mainGlobals mg) (a : nsIn K mainGlobals x = some (some (.ref C))) (b : xclsB K C R = true) : XCls K mg x C R := by
  unfold xclsB at b
  simp only [Bool.and_eq_true, beq_iff_eq] at b
  obtain ⟨⟨⟨⟨⟨⟨⟨⟨⟨⟨b1, b2⟩, b3⟩, b4⟩, b5⟩, b6⟩, b7⟩, b8⟩, b9⟩, b10⟩, b11⟩ := b
  exact ⟨mg_of X G a, xkin_of b1, xsub_of b1 b2, ⟨b3, b4, b5, b6, b7, b8, b9, b10⟩, b11⟩
section
variable {K : PySem.W.Frag} {H : Hp} {Q : VK} {e C D : Addr} {od : Option Addr} {b : Bool}
theorem isx_exc (he : H e = some (XO e C od)) (hd : XD H od) (T : XC K C) (k : kitOne K (.ref C) (.ref D) = some b) (q : Q (.bl b) H) : rIsX K [.ref e, .ref D] H Q := ⟨_, _, _, b, rfl, .inr ⟨_, rfl⟩, .exc he hd T, k, q⟩
theorem isx_val (he : H e = some (XO e C od)) (hd : XD H od) (T : XC K C) (k : kitOne K (.ref C) (.type "ValueError") = some b) (q : Q (.bl b) H) : rIsX K [.ref e, .ty "ValueError"] H Q := ⟨_, _, _, b, rfl, .inl ⟨_, rfl⟩, .exc he hd T, k, q⟩
theorem isxT_exc {p : Addr} {cs : List Addr} (he : H e = some (XO e C od)) (hd : XD H od) (T : XC K C) (hp : H p = some (.tup (cs.map V.ref))) (k : kitAny K (.ref C) (cs.map Value.ref) = some b) (q : Q (.bl b) H) : rIsXT K [.ref e, .ref p] H Q :=
  ⟨_, _, cs, _, b, rfl, hp, .inr ⟨e, C, od, rfl, rfl, he, hd, T⟩, k, q⟩
theorem XD.none {H : Hp} : XD H none := fun _ z => nomatch z
theorem XD.some {H : Hp} {dx : Addr} {fs : List (Str × V)} (h : H dx = some (.xd fs)) : XD H (some dx) := fun _ z => by cases z; exact ⟨fs, h⟩
theorem XD.same {H H' : Hp} {od : Option Addr} (s : Same H H') (h : XD H od) : XD H' od := fun dx z => by
  obtain ⟨fs, e⟩ := h dx z
  exact ⟨fs, s _ _ e⟩
end
theorem pe_cls {X : Cx} {x : Str} {C : Addr} {pos : Pos} (hm : X.mg x = some (.ref C)) (hg : Gl X x := by rfl) (hd : (x == ("__debug__" : Str)) = false := by decide) : PE X (.Name x pos) (tC (.ref C)) := pe_glob (v := .ref C) hg hm rfl hd
theorem bt_ValueError : bootBuiltins "ValueError" = some (.type "ValueError") := by decide +kernel
inductive NoWh (H : Hp) : V → Prop
  | bl (b : Bool) : NoWh H (.bl b)
  | non : NoWh H .non
  | str (x : Str) : NoWh H (.str x)
  | tup {a : Addr} {xs : List V} (e : H a = some (.tup xs)) : NoWh H (.ref a)
  | lst {a : Addr} {xs : List V} (e : H a = some (.lst xs)) : NoWh H (.ref a)
def DefE (K : PySem.W.Frag) (C : Addr) (qual : Str) (st : Stmt) : Prop := ∃ f fd, XMk K C f ∧ Fun K "__init__" qual st f fd
section
variable {P : Program} {w : World} {K : PySem.W.Frag} {mg : Str → Option Value} {base : Heap} {C : Addr} {qual : Str} {st : Stmt} {N ps : List Str} {k : Nat} {sp : Sp}
theorem DefE.own (D : DefE K C qual st) (S : FnScope N ps (defScope st))
    (hb : ∀ (kV doc pm : Value) (an : Option Addr) (cdv ct : Value) (us : List Value), us.length = ps.length → bindArgs (PySem.W.fnOf "__init__" qual (defArgs st) (defBody st) (defScope st) .none kV doc pm an cdv ct) ⟨us, []⟩ = pure (ps.zip us))
    (len : ∀ vs H Q E, sp vs H Q E → vs.length = ps.length)
    (hbody : ∀ (f : Addr) (cdv : Value) (A : Around) (outer : List Env) (s : Shared) (H : Hp) (vs : List V) (Q : VK) (E : XK), Room k (A.deeper (envOfC qual (defScope st) s.heap.objs.size f cdv)) → sp vs H Q E →
      ∃ t, PSs (cxOf CX0 P w K mg base N qual (defScope st) f cdv A outer s H E).nox (defBody st) t ∧ t { nx := fun _ H' => Q .non H', rt := Q } (start N vs) H) : OwnE P w K mg base (k + 1) C ps sp := by
  obtain ⟨f, fd, hm, F⟩ := D
  exact ⟨f, fd, hm, F.binds hb, F.ok S len (hbody f)⟩
theorem defE_mk {f : Addr} {oc : Value} {od an : Option Addr} {osl : Array (Option Value)} {kV doc pm cdv ct : Value} (kin : XKin K C) (kc : keepIn K (.ref C) = true) (a : PySem.W.findIn K (.ref C) "__init__" = some (some (.ref f))) (i : PySem.W.isFn K (.ref f) = true)
    (l : K.lookup f = some ⟨oc, od, .func (PySem.W.fnOf "__init__" qual (defArgs st) (defBody st) (defScope st) .none kV doc pm an cdv ct), osl⟩) (c : PySem.W.codeIn K cdv qual = true) (k : PySem.W.keepIn K (.ref f) = true) : DefE K C qual st :=
  ⟨f, _, ⟨kin, a, i, kc⟩, fun_mk l c k⟩
end
structure K10 (K : PySem.W.Frag) (C : Addr) (c0 c1 c2 c3 c4 c5 c6 c7 c8 c9 : Addr) (b0 b1 b2 b3 b4 b5 b6 b7 b8 b9 : Bool) : Prop where
  k0 : kitOne K (.ref C) (.ref c0) = some b0
  k1 : kitOne K (.ref C) (.ref c1) = some b1
  k2 : kitOne K (.ref C) (.ref c2) = some b2
  k3 : kitOne K (.ref C) (.ref c3) = some b3
  k4 : kitOne K (.ref C) (.ref c4) = some b4
  k5 : kitOne K (.ref C) (.ref c5) = some b5
  k6 : kitOne K (.ref C) (.ref c6) = some b6
  k7 : kitOne K (.ref C) (.ref c7) = some b7
  k8 : kitOne K (.ref C) (.ref c8) = some b8
  k9 : kitOne K (.ref C) (.ref c9) = some b9
  kv : kitOne K (.ref C) (.type "ValueError") = some true
structure Ers (mg : Str → Option Value) (R cM cP cR cF cT cN cA cL cW cO : Addr) : Prop where
  r : mg "RoadError" = some (.ref R)
  m : mg "BadMeasures" = some (.ref cM)
  p : mg "BadPast" = some (.ref cP)
  d : mg "BadRoad" = some (.ref cR)
  f : mg "Full" = some (.ref cF)
  t : mg "BadThing" = some (.ref cT)
  n : mg "NotNow" = some (.ref cN)
  a : mg "BadName" = some (.ref cA)
  l : mg "BadLine" = some (.ref cL)
  w : mg "BadWish" = some (.ref cW)
  o : mg "NoRow" = some (.ref cO)
  v : mg "ValueError" = none
section
variable {K : PySem.W.Frag} {h : Heap} {mg : Str → Option Value}
theorem ers_mk (X : K.In h) (G : h.Ns mainGlobals mg) {R cM cP cR cF cT cN cA cL cW cO : Addr} (a0 : nsIn K mainGlobals "RoadError" = some (some (.ref R))) (a1 : nsIn K mainGlobals "BadMeasures" = some (some (.ref cM))) (a2 : nsIn K mainGlobals "BadPast" = some (some (.ref cP)))
    (a3 : nsIn K mainGlobals "BadRoad" = some (some (.ref cR))) (a4 : nsIn K mainGlobals "Full" = some (some (.ref cF))) (a5 : nsIn K mainGlobals "BadThing" = some (some (.ref cT))) (a6 : nsIn K mainGlobals "NotNow" = some (some (.ref cN))) (a7 : nsIn K mainGlobals "BadName" = some (some (.ref cA)))
    (a8 : nsIn K mainGlobals "BadLine" = some (some (.ref cL))) (a9 : nsIn K mainGlobals "BadWish" = some (some (.ref cW))) (aA : nsIn K mainGlobals "NoRow" = some (some (.ref cO))) (aB : nsIn K mainGlobals "ValueError" = some none) : Ers mg R cM cP cR cF cT cN cA cL cW cO :=
  ⟨mg_of X G a0, mg_of X G a1, mg_of X G a2, mg_of X G a3, mg_of X G a4, mg_of X G a5, mg_of X G a6, mg_of X G a7, mg_of X G a8, mg_of X G a9, mg_of X G aA, mg_none_of X G aB⟩
theorem bears_mk {C R : Addr} {x qual f : Str} {st : Stmt} {g : Addr} {oc : Value} {od an : Option Addr} {osl : Array (Option Value)} {kV doc pm cdv ct : Value} (X : K.In h) (G : h.Ns mainGlobals mg) (a : nsIn K mainGlobals x = some (some (.ref C))) (b : xclsB K C R = true)
    (n : findIn K (.ref C) f = some none) (sa : findIn K (.ref C) "__setattr__" = some (some (.builtin "object.__setattr__"))) (ai : findIn K (.ref C) "__init__" = some (some (.ref g))) (fi : isFn K (.ref g) = true)
    (l : K.lookup g = some ⟨oc, od, .func (PySem.W.fnOf "__init__" qual (defArgs st) (defBody st) (defScope st) .none kV doc pm an cdv ct), osl⟩) (c : codeIn K cdv qual = true) (kg : keepIn K (.ref g) = true) :
    XCls K mg x C R ∧ XGt K C f ∧ XSt K C f ∧ DefE K C qual st := by
  have Z := xcls_mk X G a b
  exact ⟨Z, ⟨Z.xc, n⟩, ⟨Z.kin, sa, n, Z.xc.hd⟩, defE_mk Z.kin Z.kp ai fi l c kg⟩
end
end L2
namespace L2
open PySem PySem.Spec PyProof.Rows
section
variable {X : Cx} {n : Nat} {e : Expr} {rest : List Expr} {te : TE} {t : TJ} {pos : Pos}
def tJs (te : TE) (t : TJ) : TJ := fun σ H Q => te σ H fun v H1 => ∃ x : Str, v = .str x ∧ x.length ≤ 1000 ∧ t σ H1 Q
theorem pj_txt {p2 : Pos} (he : PE X e te) (h : PJ X (n + 2000) rest t) (hn : n + 2000 ≤ 1000000 := by decide) : PJ X n (.FormattedValue e (-1) none p2 :: rest) (tJs te t) := by
  intro pins s σ H acc Q ha I hq
  show wpAny _ _ (eval (.FormattedValue e (-1) none p2) X.env) _ _ s
  refine wpAny_FormattedValue_plain (thn (he pins s σ H _ I hq) fun u s1 ⟨v, H1, I1, r, x, ev, hx, q⟩ => ?_)
  subst ev
  obtain ⟨t', rfl⟩ := r
  have hl2 : (acc ++ x).length ≤ n + 2000 := by rw [strLen_append]; omega
  exact formatField_str (fun t2 tk => ⟨_, _, rfl, by rw [sizeLine_eq]; omega, h pins _ σ H1 _ Q hl2 (I1.tok _) q⟩) (by rw [sizeLine_eq]; omega)
end
end L2
namespace L2
open PySem PySem.Spec PyProof.Rows
section
variable {X : Cx}
end
mutual
theorem Has.same {K : PySem.W.Frag} {H H' : Hp} (s : Same H H') : ∀ {x : V} {d : PyData}, Has K H x d → Has K H' x d
  | _, _, .non => .non
  | _, _, .bl b => .bl b
  | _, _, .int i => .int i
  | _, _, .str x => .str x
  | _, _, .lst h hs => .lst (s.seq h) (HasAll.same s hs)
  | _, _, .tup h hs => .tup (s.seqT h) (HasAll.same s hs)
theorem HasAll.same {K : PySem.W.Frag} {H H' : Hp} (s : Same H H') : ∀ {xs : List V} {ds : List PyData}, HasAll K H xs ds → HasAll K H' xs ds
  | _, _, .nil => .nil
  | _, _, .cons h hs => .cons (Has.same s h) (HasAll.same s hs)
end
theorem Dt.same {H H' : Hp} {x : V} {d : PyData} (h : Dt H x d) (s : Same H H') : Dt H' x d := ⟨fun K => (h.1 K).same s, h.2⟩
end L2
namespace L2
open PySem PySem.Spec PyProof.Rows
section
variable {X : Cx}
end
end L2
namespace L2
open PySem PySem.Spec PyProof.Rows
section
variable {X : Cx} {pins : List (Addr × Obj)} {σ : St} {H : Hp} {s : Shared} {d : Addr} {kvs : List (Key × V)}
end
section
variable {P : Program} {w : World} {K : PySem.W.Frag} {tg : Expr} {d it : Addr} {o : Obj} {kvs : List (Key × V)}
end
section
variable {X : Cx}
end
end L2
namespace L2
open PySem PySem.Spec PyProof.Rows
section
variable {X : Cx} {o e f : Expr} {td ty tx : TE} {apos cpos : Pos}
end
end L2
namespace L2
open PySem PySem.Spec PyProof.Rows
section
variable {X : Cx} {o e f : Expr} {td ty tx : TE} {apos cpos : Pos}
end
section
variable {X : Cx}
end
section
variable {prog : Program} {w : World} {A : Around} {E : Value → Shared → Prop} {s : Shared}
end
section
variable {X : Cx}
end
end L2
namespace L2
open PySem PySem.Spec PyProof.Rows
end L2
namespace L2
open PySem PySem.Spec PyProof.Rows
section
variable {prog : Program} {w : World} {κ : Type} [DecidableEq κ] {knd : HeapKind prog w κ} {A : Around} {E : Value → Shared → Prop} {s : Shared}
end
end L2
namespace L2
open PySem PySem.Spec PyProof.Rows
abbrev LO (its : List Value) (n : Nat) : Obj := { cls := .type "list", data := .seq its.toArray n }
section
variable {prog : Program} {w : World} {A : Around} {R : Result → Shared → Prop} {I : Addr} {fp wr : List Addr} {n : Nat} {P : Nat → Value → Prop} {St : Nat → Heap → Prop}
end
namespace SL
end SL
section
variable {prog : Program} {w : World} {A : Around} {E : Value → Shared → Prop} {s : Shared}
end
section
variable {X : Cx}
end
end L2
set_option maxHeartbeats 4000000
namespace L2
open PySem PySem.Spec PyProof.Rows PySem.W
section
variable {α β : Type}
end
section
variable {N : Nat} (hN : 0 < N)
include hN
end
section
variable {prog : Program} {w : World} {A : Around} {E : Value → Shared → Prop} {s : Shared}
end
section
variable {X : Cx}
abbrev Q4 := Int × Int × Int × Int
def q4 (t : Q4) : List V := [.int t.1, .int t.2.1, .int t.2.2.1, .int t.2.2.2]
end
end L2
namespace L2
open PySem PySem.Spec PyProof.Rows
section
variable {X : Cx} {o e : Expr} {td ty : TE} {apos cpos : Pos}
end
end L2
namespace L2
open PySem PySem.Spec PyProof.Rows PySem.W
section
variable {P : Program} {w : World} {H H' : Hp} {h h' : Heap} {f c : Addr} {fd : FuncData} {qual : Str} {v : V}
end
section
variable {X : Cx} {k : Nat}
end
structure CloScope (N ps fr : List Str) (sc : Scope) : Prop where
  kind : sc.kind = .function
  co : sc.isCoroutine = false
  gen : sc.isGenerator = false
  nd : N.Nodup
  pre : N.take ps.length = ps
  post : N.drop (N.length - fr.length) = fr
  room : ps.length + fr.length ≤ N.length
  par : ∀ x ∈ ps, sc.names.lookup x = some .local
  nocell : ∀ y ∈ sc.names, y.2 ≠ .cell
  free : ∀ y ∈ sc.names, y.2 = .free → y.1 ∈ fr
  frk : ∀ x ∈ fr, sc.names.lookup x = some .free
def er (cs : List Addr) (H : Hp) : Hp := fun b => if b ∈ cs then none else H b
def rs (cs : List Addr) (H H' : Hp) : Hp := fun b => if b ∈ cs then H b else H' b
section
variable {P : Program} {w : World} {H H' : Hp} {h h' : Heap} {cs : List Addr} {b : Addr}
end
section
variable {P : Program} {w : World} {K : PySem.W.Frag} {mg : Str → Option Value} {base : Heap} {f c' : Addr} {qual : Str} {scope : Scope} {cl : List (Str × Addr)} {N ps fr : List Str} {vs ws : List V} {H : Hp} {A : Around} {outer : List Env} {s : Shared} {us : List Value}
end
section
variable {S : List Addr} {H H' : Hp} {g qual : Str} {gp : Arguments} {gb : List Stmt} {gsc : Scope} {fr : List Str} {f : Addr} {ws : List V}
end
end L2
namespace L2
open PySem PySem.Spec PyProof.Rows PySem.W
structure TabA (X : Cx) (c P : Addr) : Prop where
  code : X.env.code = .ref c
  hd : CodeHd X.base c P
  bm : X.base.BuiltinsAt X.mg P
  ne : mainGlobals ≠ P
section
variable {X : Cx} {pins : List (Addr × Obj)} {σ : St} {H : Hp} {s : Shared}
end
section
variable {P : Program} {w : World} {fs : List Addr} {H H' : Hp} {h h' : Heap}
end
end L2
namespace L2
open PySem PySem.Spec PyProof.Rows PySem.W
section
variable {X : Cx} {pins : List (Addr × Obj)} {σ : St} {H : Hp} {s : Shared}
end
section
variable {S : List Addr} {H H' : Hp} {g qual : Str} {gp : Arguments} {gb : Expr} {gsc : Scope} {fr : List Str} {f : Addr} {ws : List V}
end
end L2
set_option maxHeartbeats 4000000
namespace L2
open PySem PySem.Spec PyProof.Rows PySem.W
section
variable {X : Cx} {pins : List (Addr × Obj)} {σ : St} {H : Hp} {k : Nat} {f l it S : Addr} {ps : List Addr} {ns : List Int} {Q : VK}
end
section
variable {X : Cx} {k : Nat}
end
end L2
namespace L2
open PySem PySem.Spec PyProof.Rows
section
variable {X : Cx} {o e : Expr} {td ty : TE} {apos cpos : Pos}
end
end L2
namespace L2
open PySem PySem.Spec PyProof.Rows
abbrev TJX := St → Hp → Str → (Str → Hp → Prop) → Prop
section
variable {X : Cx} {n : Nat} {e : Expr} {rest : List Expr} {te : TE} {t : TJX} {pos : Pos}
end
section
variable {X : Cx}
end
end L2
namespace L2
open PySem PySem.Spec PyProof.Rows
def spl (c : Nat) : Nat → List Nat → List (List Nat)
  | 0, l => [l]
  | n + 1, l => if c ∈ l then l.takeWhile (· != c) :: spl c n (l.drop ((l.takeWhile (· != c)).length + 1)) else [l]
def idxs (c : Nat) : Nat → List Nat → List Nat
  | _, [] => []
  | k, x :: r => if x = c then k :: idxs c (k + 1) r else idxs c (k + 1) r
theorem idxs_cons {c k x : Nat} {r : List Nat} : idxs c k (x :: r) = if x = c then k :: idxs c (k + 1) r else idxs c (k + 1) r := rfl
theorem idxs_none {c : Nat} : ∀ {l : List Nat} (k : Nat), c ∉ l → idxs c k l = []
  | [], _, _ => rfl
  | x :: r, k, h => by
    rw [List.mem_cons, not_or] at h
    rw [idxs_cons, if_neg (Ne.symm h.1), idxs_none (k + 1) h.2]
theorem idxs_some {c : Nat} : ∀ {l : List Nat} (k : Nat), c ∈ l → idxs c k l = (k + (l.takeWhile (· != c)).length) :: idxs c (k + (l.takeWhile (· != c)).length + 1) (l.drop ((l.takeWhile (· != c)).length + 1))
  | x :: r, k, h => by
    rw [idxs_cons]
    by_cases e : x = c
    · subst e
      rw [if_pos rfl, List.takeWhile_cons_of_neg (by simp)]
      rfl
    · rw [if_neg e]
      have hr : c ∈ r := by
        rcases List.mem_cons.mp h with z | z
        · exact absurd z.symm e
        · exact z
      rw [List.takeWhile_cons_of_pos (by simpa using e), idxs_some (k + 1) hr]
      simp only [List.length_cons, List.drop_succ_cons]
      rw [show k + 1 + (r.takeWhile (· != c)).length = k + ((r.takeWhile (· != c)).length + 1) by omega]
theorem idxs_app {c : Nat} : ∀ (l m : List Nat) (k : Nat), idxs c k (l ++ m) = idxs c k l ++ idxs c (k + l.length) m
  | [], m, k => rfl
  | x :: r, m, k => by
    rw [List.cons_append, idxs_cons, idxs_cons, idxs_app r m (k + 1), List.length_cons, show k + 1 + r.length = k + (r.length + 1) by omega]
    split <;> rfl
def partsFrom (l : List Nat) : Nat → List Nat → List (List Nat)
  | k, [] => [l.drop k]
  | k, i :: r => (l.take i).drop k :: partsFrom l (i + 1) r
theorem partsFrom_cons {l r : List Nat} {k i : Nat} : partsFrom l k (i :: r) = (l.take i).drop k :: partsFrom l (i + 1) r := rfl
theorem parts_spl {c : Nat} {l : List Nat} : ∀ (n k : Nat), partsFrom l k ((idxs c k (l.drop k)).take n) = spl c n (l.drop k)
  | 0, k => by rw [List.take_zero]; rfl
  | n + 1, k => by
    unfold spl
    by_cases h : c ∈ l.drop k
    · rw [if_pos h, idxs_some k h, List.take_succ_cons]
      unfold partsFrom
      generalize hp : ((l.drop k).takeWhile (· != c)).length = p
      rw [List.drop_drop, show k + (p + 1) = k + p + 1 by omega, parts_spl n (k + p + 1)]
      congr 1
      rw [List.drop_take, show k + p - k = p by omega, ← hp]
      exact (List.prefix_iff_eq_take.mp (List.takeWhile_prefix _)).symm
    · rw [if_neg h, idxs_none k h]
      rfl
theorem occ_one {c lim : Nat} {l : List Nat} : Builtin.Str.occurrences ⟨l.toArray⟩ ⟨#[c]⟩ 0 l.length lim = (idxs c 0 l).take lim := by
  rw [StrLaws.occ_eq]
  have key : ∀ (n j : Nat) (st : Array Nat × Nat), j + n = l.length + 1 → st.1.toList = (idxs c 0 (l.take j)).take lim → st.2 ≤ j → (forIn (List.range' j n) st (StrLaws.occBody ⟨l.toArray⟩ ⟨#[c]⟩ l.length lim)).run.fst.toList = (idxs c 0 l).take lim := by
    intro n
    induction n with
    | zero =>
      intro j st hj hs _
      change st.1.toList = _
      have e : l.take j = l := List.take_of_length_le (by omega)
      rw [hs, e]
    | succ n ih =>
      intro j st hj hs hf
      rw [List.range'_succ, List.forIn_cons]
      have hsub := StrLaws.subAt_one ⟨l.toArray⟩ c j
      have hlen : (⟨l.toArray⟩ : Str).length = l.length := by change l.toArray.size = _; simp
      rw [hlen] at hsub
      have hl1 : (⟨#[c]⟩ : Str).length = 1 := rfl
      unfold StrLaws.occBody
      split
      · rename_i hc
        refine ih (j + 1) _ (by omega) ?_ (Nat.le_refl _)
        have hx : l[j]? = some c := by have := hsub.mp ⟨hc.1.2, hc.2⟩; simpa using this
        change (st.1.push j).toList = _
        rw [Array.toList_push, hs, List.take_add_one, hx, Option.toList_some, idxs_app, Nat.zero_add]
        have hsz : ((idxs c 0 (l.take j)).take lim).length < lim := by rw [← hs, Array.length_toList]; exact hc.1.1.1
        rw [List.length_take] at hsz
        have hll : (l.take j).length = j := by rw [List.length_take]; have := (List.getElem?_eq_some_iff.mp hx).1; omega
        have e0 : (idxs c 0 (l.take j)).take lim = idxs c 0 (l.take j) := List.take_of_length_le (by omega)
        have e1 : idxs c j [c] = [j] := by rw [idxs_cons, if_pos rfl]; rfl
        rw [hll, e0, e1]
        have e2 : (idxs c 0 (l.take j) ++ [j]).take lim = idxs c 0 (l.take j) ++ [j] := List.take_of_length_le (by rw [List.length_append, List.length_singleton]; omega)
        rw [e2]
      · rename_i hc
        refine ih (j + 1) _ (by omega) ?_ (by change st.2 ≤ j + 1; omega)
        change st.1.toList = _
        rw [hs, List.take_add_one]
        cases hx : l[j]? with
        | none => rw [Option.toList_none, List.append_nil]
        | some x =>
          have hll : (l.take j).length = j := by rw [List.length_take]; have := (List.getElem?_eq_some_iff.mp hx).1; omega
          rw [Option.toList_some, idxs_app, Nat.zero_add, hll]
          by_cases e : x = c
          · subst e
            have h2 := hsub.mpr (by simpa using hx)
            have : lim ≤ ((idxs x 0 (l.take j)).take lim).length := by
              rw [← hs, Array.length_toList]
              rcases Nat.lt_or_ge st.1.size lim with z | z
              · exact absurd ⟨⟨⟨z, hf⟩, h2.1⟩, h2.2⟩ hc
              · exact z
            rw [List.length_take] at this
            rw [List.take_append_of_le_length (by omega)]
          · have e1 : idxs c j [x] = [] := by rw [idxs_cons, if_neg e]; rfl
            rw [e1, List.append_nil]
  have := key (l.length + 1 - 0) 0 (#[], 0) (by omega) (by simp [idxs]) (Nat.le_refl _)
  exact this
def Sg (l : List Nat) : Str := ⟨l.toArray⟩
theorem Sg_len {l : List Nat} : (Sg l).length = l.length := by change l.toArray.size = _; simp
theorem Sg_sub {l : List Nat} {i j : Nat} : Builtin.Str.strSub (Sg l) i j = Sg ((l.take j).drop i) := by
  unfold Builtin.Str.strSub Sg
  congr 1
  apply Array.toList_inj.mp
  rw [Array.toList_extract, List.extract_eq_drop_take, List.drop_take]
theorem parts_S {l : List Nat} : ∀ (cuts : List Nat) (k : Nat), ((k :: cuts.map (· + 1)).zip (cuts ++ [l.length])).map (fun q => Builtin.Str.strSub (Sg l) q.1 q.2) = (partsFrom l k cuts).map Sg
  | [], k => by
    change [Builtin.Str.strSub (Sg l) k l.length] = [Sg (l.drop k)]
    rw [Sg_sub, List.take_length]
  | i :: r, k => by
    rw [List.map_cons, List.cons_append, List.zip_cons_cons, List.map_cons, parts_S r (i + 1), partsFrom_cons, List.map_cons]
    dsimp only
    rw [Sg_sub]
theorem between_S {c n : Nat} {l : List Nat} : Builtin.Str.partsBetween (Sg l) (Builtin.Str.occurrences (Sg l) (Sg [c]) 0 (Sg l).length n) (Sg [c]).length = (spl c n l).map Sg := by
  have e : Builtin.Str.occurrences (Sg l) (Sg [c]) 0 (Sg l).length n = (idxs c 0 l).take n := by rw [Sg_len]; exact occ_one
  rw [e]
  have := parts_S (l := l) ((idxs c 0 l).take n) 0
  have h2 := parts_spl (c := c) (l := l) n 0
  rw [List.drop_zero] at h2
  rw [h2] at this
  unfold Builtin.Str.partsBetween
  rw [Sg_len, Sg_len]
  exact this
theorem spl_none {c : Nat} {l : List Nat} (h : c ∉ l) : ∀ n, spl c n l = [l]
  | 0 => rfl
  | n + 1 => by unfold spl; rw [if_neg h]
theorem kind_S {c : Nat} {l : List Nat} (hc : c < 256) : decide (Builtin.Str.strKind (Sg l) < Builtin.Str.strKind (Sg [c])) = false := by
  have e : Builtin.Str.strKind (Sg [c]) = 1 := by
    unfold Builtin.Str.strKind Sg
    rw [if_pos (by simp; exact hc)]
  rw [e]
  refine decide_eq_false ?_
  unfold Builtin.Str.strKind
  split
  · omega
  · split <;> omega
theorem max_S {c : Nat} {l : List Nat} (hc : c < 256) (n : Nat) : (if (decide ((Sg l).length < (Sg [c]).length) || decide (Builtin.Str.strKind (Sg l) < Builtin.Str.strKind (Sg [c]))) = true then [Sg l] else if (Builtin.Str.occurrences (Sg l) (Sg [c]) 0 (Sg l).length n).isEmpty = true then [Sg l] else Builtin.Str.partsBetween (Sg l) (Builtin.Str.occurrences (Sg l) (Sg [c]) 0 (Sg l).length n) (Sg [c]).length) = (spl c n l).map Sg := by
  rw [kind_S hc, Bool.or_false]
  split
  · rename_i h
    rw [Sg_len, Sg_len] at h
    have hl : l = [] := by
      have := of_decide_eq_true h
      exact List.length_eq_zero_iff.mp (by simp at this; simpa using this)
    subst hl
    rw [spl_none (by simp)]
    rfl
  · split
    · rename_i h
      have e : Builtin.Str.occurrences (Sg l) (Sg [c]) 0 (Sg l).length n = (idxs c 0 l).take n := by rw [Sg_len]; exact occ_one
      rw [e] at h
      by_cases hm : c ∈ l
      · cases n with
        | zero => rfl
        | succ n =>
          rw [idxs_some 0 hm] at h
          simp at h
      · rw [spl_none hm]
        rfl
    · exact between_S
end L2
namespace L2
open PySem PySem.Spec PyProof.Rows
theorem vals_from : ∀ (zs : List Str) (tk : Nat), Vals (zs.map V.str) (strsFrom tk zs)
  | [], _ => .nil
  | z :: zs, tk => .cons ⟨_, rfl⟩ (vals_from zs (tk + 1))
section
variable {X : Cx} {o e f : Expr} {td ty tx : TE} {apos cpos : Pos}
def wV (ws : List (List Nat)) : List V := ws.map fun w => V.str (Sg w)
def tSplS (td ty : TE) : TE := fun σ H Q => td σ H fun x H1 => ∃ l, x = .str (Sg l) ∧ ty σ H1 fun y H2 => ∃ c, y = .str (Sg [c]) ∧ c < 256 ∧ l.length ≤ 100000 ∧ ∀ p, H2 p = none → Q (.ref p) (upd H2 p (.lst (wV (spl c (l.length + 1) l))))
theorem spl_len {c : Nat} : ∀ (n : Nat) (l : List Nat), (spl c n l).length ≤ n + 1
  | 0, _ => Nat.le_refl _
  | n + 1, l => by
    unfold spl
    split
    · rw [List.length_cons]
      exact Nat.succ_le_succ (spl_len n _)
    · simp
theorem fin_list {pins : List (Addr × Obj)} {σ : St} {H : Hp} {s : Shared} {Q : VK} {zs : List Str} {us : List Value} {tk : Nat} (I : Inv X pins σ H s) (hz : zs.length ≤ sizeLine) (hv : Vals (zs.map V.str) us) (q : ∀ p, H p = none → Q (.ref p) (upd H p (.lst (zs.map V.str)))) :
    EP X pins σ Q (.ref s.heap.objs.size) { s with heap := s.heap.push { cls := .type "list", data := .seq us.toArray }, toks := tk } :=
  ⟨.ref s.heap.objs.size, _, I.laid (a := s.heap.objs.size) (o := .lst (zs.map V.str)) (t' := tk) (fun _ _ q => Heap.get?_push_of_some _ q) (Nat.le_refl _) ⟨by rw [List.length_map]; exact hz, us, 0, hv, Heap.get?_push_size _ rfl⟩, rfl, q _ (I.hok.fresh (Nat.le_refl _))⟩
theorem pe_splS (ho : PE X o td) (he : PE X e ty) (m : M1 X o "split" apos e cpos) : PE X (.Call (.Attribute o "split" apos) [e] [] cpos) (tSplS td ty) := by
  intro pins s σ H Q I h
  refine wpAny_Call_method m.base m.few m.line PySem.F.plainAttrs_str PySem.F.slot_str_split PySem.F.type_str_split (thn (ho pins s σ H _ I h) fun u s1 ⟨x, H1, I1, rx, l, ex, q1⟩ => ?_)
  subst ex
  obtain ⟨t, rfl⟩ := rx
  refine ⟨typeIs_str _ _ _, (fun _ e => nomatch e), ?_⟩
  rw [m.trees]
  refine Calls.callWith_builtin rfl (Calls.evalArgs_plain (Calls.spliced_cons (thn (he pins s1 σ H1 _ I1 q1) fun iv s2 ⟨y, H2, I2, ry, c, ey, hc, hl, q2⟩ => Calls.spliced_nil ?_)))
  subst ey
  obtain ⟨t2, rfl⟩ := ry
  have hsl := spl_len (c := c) (l.length + 1) l
  have hxl : (Sg l).length ≤ sizeLine := by rw [Sg_len, sizeLine_eq]; omega
  have hz : (spl c (l.length + 1) l).map (fun w => V.str (Sg w)) = ((spl c (l.length + 1) l).map Sg).map V.str := by rw [List.map_map]; rfl
  unfold wV at q2
  rw [hz] at q2
  have hM := max_S (l := l) hc ((Sg l).length + 1)
  have hK := kind_S (l := l) hc
  have hln : (Sg l).length + 1 = l.length + 1 := by rw [Sg_len]
  by_cases h1 : (decide ((Sg l).length < (Sg [c]).length) || decide (Builtin.Str.strKind (Sg l) < Builtin.Str.strKind (Sg [c]))) = true
  · rw [if_pos h1] at hM
    rw [hln] at hM
    refine call_meets PySem.F.slot_str_split (typeIs_str _ _ _) PySem.F.entry_str_split (PySem.F.args_str_split_2 _ _) (meets_str_split_cannot_occur (Sg l) (Sg [c]) t t2 h1) ?_
    rw [← hM] at q2
    exact fin_list (zs := [Sg l]) (tk := s2.toks) I2 (by simp [sizeLine_eq]) (.cons ⟨t, rfl⟩ .nil) q2
  · have h1' := Bool.eq_false_iff.mpr h1
    rw [if_neg h1] at hM
    have hy : ((Sg [c]).length == 0) = false := by rw [Sg_len]; rfl
    by_cases h2 : (Builtin.Str.occurrences (Sg l) (Sg [c]) 0 (Sg l).length ((Sg l).length + 1)).isEmpty = true
    · rw [if_pos h2, hln] at hM
      refine call_meets PySem.F.slot_str_split (typeIs_str _ _ _) PySem.F.entry_str_split (PySem.F.args_str_split_2 _ _) (meets_str_split_not_found (Sg l) (Sg [c]) t t2 h1' hy h2) ?_
      rw [← hM] at q2
      exact fin_list (zs := [Sg l]) (tk := s2.toks) I2 (by simp [sizeLine_eq]) (.cons ⟨t, rfl⟩ .nil) q2
    · rw [if_neg h2] at hM
      have hP := hM
      rw [hln] at hM
      refine call_meets PySem.F.slot_str_split (typeIs_str _ _ _) PySem.F.entry_str_split (PySem.F.args_str_split_2 _ _) (meets_str_split_sep (Sg l) (Sg [c]) t t2 h1' hy (Bool.eq_false_iff.mpr h2) hxl (by rw [hP, List.length_map, hln, sizeLine_eq]; omega)) ?_
      rw [hP, hln]
      exact fin_list (tk := _) I2 (by rw [List.length_map, sizeLine_eq]; omega) (vals_from _ _) q2
end
end L2
namespace L2
open PySem PySem.Spec PyProof.Rows
section
variable {prog : Program} {w : World} {A : Around} {E : Value → Shared → Prop} {s : Shared}
end
section
variable {X : Cx} {o e i c : Expr} {td ty tf : TE} {t : TA} {apos cpos pos p : Pos}
section
variable {pins : List (Addr × Obj)} {σ : St} {H : Hp} {s : Shared} {A : Around} {E : Value → Shared → Prop} {a : Addr} {D : List (Str × V)} {k : Str} {tk : Tok}
end
end
end L2
set_option maxHeartbeats 2000000
namespace L2
open PySem PySem.Spec PyProof.Rows
section
variable {κ : Bool} {h h' : Heap} {j a : Addr} {n : Nat} {its : Array Value}
end
section
variable {X : Cx} {pins : List (Addr × Obj)} {σ : St} {H : Hp} {s : Shared} {κ : Bool} {a : Addr} {xs ys : List V}
end
section
variable {prog : Program} {w : World} {A : Around} {E : Value → Shared → Prop} {s : Shared} {κ : Bool}
end
section
variable {X : Cx}
end
end L2
namespace L2
open PySem PySem.Spec PyProof.Rows
section
variable {X : Cx} {pins : List (Addr × Obj)} {σ : St} {H : Hp} {s : Shared} {E : XS}
theorem Inv.fewer (I : Inv X pins σ H s) : Inv X [] σ H s :=
  ⟨I.ok, I.os, I.bare, I.base, I.loc, I.cell, I.free, I.freeC, fun p hp => I.pin p (by rw [List.append_nil] at hp; exact List.mem_append_left _ hp), I.hok, I.len⟩
theorem Apart.fewer {b : Addr} (a : Apart X pins H b) : Apart X [] H b :=
  ⟨a.un, a.up, a.loc, a.cel, fun p hp => a.pin p (by rw [List.append_nil] at hp; exact List.mem_append_left _ hp)⟩
structure NoteF (L : Addr) (fs : List Addr) (e : Addr) (Ts : List Addr) (h h' : Heap) : Prop where
  keep : ∀ b o, h.get? b = some o → b ∉ fs → b ≠ e → b ∉ Ts → h'.get? b = some o
  slot : ∀ b o, h.get? b = some o → b ∈ fs → ∃ sl, h'.get? b = some { o with slots := sl }
  exc : ∀ oe vs, h.get? e = some oe → oe.data = .fields vs → ∃ oe' vs' T, h'.get? e = some oe' ∧ oe'.cls = oe.cls ∧ oe'.dict = oe.dict ∧ oe'.data = .fields vs' ∧ vs'.size = vs.size ∧ vs'[1]? = some (.ref T) ∧
    h.objs.size ≤ T ∧ T ≠ e ∧ ∃ oT ts, h'.get? T = some oT ∧ oT.data = .fields ts ∧ ts[3]? = some (rawInt L)
  tb : ∀ b ∈ Ts, ∃ o, h'.get? b = some o
theorem note_layF {M : Model} {A : Around} {E : Value → Shared → Prop} {s : Shared} {base : Heap} {env : Env} {outer : List Env} {L e : Addr} {oe : Obj} {vs : Array Value} {head : Value} {b : Bool} {Q : Unit → Shared → Prop}
    (hfr : A.frames = some (env :: outer)) (hl : s.heap.FunFrames base (env :: outer)) (hf : env.frame = some L) (he : s.heap.get? e = some oe) (hd : oe.data = .fields vs) (hsz : 1 < vs.size)
    (h : ∀ h', NoteF L ((env :: outer).filterMap (·.frame)) e [] s.heap h' → Q () { s with heap := h' }) :
    wpAny M A (do let a ← frameOf env; let pl ← entryPlaceOf L b; let x ← EntryCells.newEntry head a .none (rawInt L) .none pl; setField (.ref e) 1 x) Q E s := by
  have hne : e ∉ (env :: outer).filterMap (·.frame) := fun hm => by
    obtain ⟨_, o, ho, hnf⟩ := hl.mem hm
    rw [he] at ho
    cases ho
    exact hnf vs hd
  refine wpAny_bind (wpAny_frameOf_fun hfr hl hf fun h1 k1 => ?_)
  refine wpAny_bind (wpAny_entryPlaceOf fun pl hpl => ?_)
  unfold EntryCells.newEntry newFields
  refine wpAny_bind (wpAny_newObj_type ?_ (hpl.sizeOk5 _ _ _ _ _))
  generalize hTO : ({ cls := .type "traceback", dict := none, data := .fields ([head, .ref L, .none, rawInt L, .none] ++ (if pl.isEmpty then List.replicate 6 Value.none else pl)).toArray } : Obj) = TO
  have e1 : h1.get? e = some oe := (k1.2.1 e hne).trans he
  have nT : h1.objs.size ≠ e := Nat.ne_of_gt (Heap.lt_size e1)
  refine wpAny_setField (Heap.get?_push_of_some TO e1) hd hsz (h _ ?_)
  have d3 := Obj.data_mapFields hd (·.setIfInBounds 1 (Value.ref h1.objs.size))
  have e3 := Heap.get?_update_self (Obj.mapFields (·.setIfInBounds 1 (Value.ref h1.objs.size))) (Heap.get?_push_of_some TO e1) (Obj.isFreed_of_fields d3)
  have dT : TO.data = .fields ([head, .ref L, .none, rawInt L, .none] ++ (if pl.isEmpty then List.replicate 6 Value.none else pl)).toArray := by rw [← hTO]
  have T3 : ((h1.push TO).update e (Obj.mapFields (·.setIfInBounds 1 (Value.ref h1.objs.size)))).get? h1.objs.size = some TO := by
    rw [Heap.get?_update_other _ _ (Ne.symm nT)]
    exact Heap.get?_push_size h1 (by rw [← hTO]; rfl)
  have kk : ∀ b o, b ≠ e → h1.get? b = some o → ((h1.push TO).update e (Obj.mapFields (·.setIfInBounds 1 (Value.ref h1.objs.size)))).get? b = some o := fun b o hb q => by
    rw [Heap.get?_update_other _ _ (Ne.symm hb)]
    exact Heap.get?_push_of_some _ q
  refine ⟨fun b o q hb hbe _ => kk b o hbe ((k1.2.1 b hb).trans q), fun b o q hb => ?_, fun oe2 vs2 q d2 => ?_, fun b hb => nomatch hb⟩
  · obtain ⟨sl, q2⟩ := k1.2.2 b o q
    exact ⟨sl, kk b _ (fun z => hne (z ▸ hb)) q2⟩
  · rw [he] at q
    cases q
    rw [hd] at d2
    cases d2
    exact ⟨_, _, h1.objs.size, e3, Obj.cls_mapFields _ _, dict_mapF _ _, d3, by simp, by simp [hsz], by rw [k1.1]; exact Nat.le_refl _, nT, _, _, T3, dT, by simp⟩
def TbZ (X : Cx) (H : Hp) (h : Heap) (e : Addr) (z : Value → Prop) : Prop := ∃ oe vs T oT ts v, h.get? e = some oe ∧ oe.data = .fields vs ∧ vs[1]? = some (.ref T) ∧ h.get? T = some oT ∧ oT.data = .fields ts ∧ ts[3]? = some v ∧ z v ∧ T ≠ e ∧ Apart X [] H T
def TbL (X : Cx) (H : Hp) (h : Heap) (e : Addr) : Prop := (∃ oe vs, h.get? e = some oe ∧ oe.data = .fields vs ∧ vs[1]? = some .none) ∨ TbZ X H h e fun v => v = .none ∨ v = rawInt X.env.locals
theorem Tb.fly {e : Addr} {h : Heap} (t : Tb X pins H h e) : TbL X H h e := by
  obtain ⟨oe, vs, g, d, t | ⟨T, oT, ts, a1, a2, a3, a4, a5, a6⟩⟩ := t
  · exact .inl ⟨oe, vs, g, d, t⟩
  · exact .inr ⟨oe, vs, T, oT, ts, _, g, d, a1, a2, a3, a4, .inl rfl, a5, a6.fewer⟩
theorem Inv.touch {h' : Heap} {T : Addr} (I : Inv X pins σ H s) (hT : Apart X pins H T) (k : ∀ b o, b ≠ T → s.heap.get? b = some o → h'.get? b = some o) (ex : ∃ o, h'.get? T = some o) : Inv X pins σ H { s with heap := h' } := by
  have hok : HOk X.prog X.w H h' := fun a o q => (I.hok a o q).stay (fun b u hb r => by
      refine k b u (fun z => ?_) r
      rcases hb with rfl | hb
      · rw [z, hT.un] at q; cases q
      · rw [z, hT.un] at hb; cases hb) (fun _ r => r) fun _ _ r => r
  exact I.call (ch := [T]) (h' := h') (g' := s.gens) (d' := s.drawn) (t' := s.toks)
    ⟨fun b o q n hb hx => k b o (fun z => hx (by rw [z]; exact .head _)) q, fun b o q n hb hx => ⟨o.slots, k b o (fun z => hx (by rw [z]; exact .head _)) q⟩, fun _ _ _ n _ => n, fun b o q hx => by
      by_cases hb : b = T
      · rw [hb]; exact ex
      · exact ⟨o, k b o hb q⟩, fun _ _ q => q, fun _ _ _ q => q, fun _ ps q => ⟨#[], by rw [q]; simp⟩⟩ hok I.bare fun b hb => by
        rw [List.mem_singleton] at hb
        subst hb
        exact ⟨.inr hT.up, hT.loc, hT.cel, hT.pin⟩
theorem Inv.notedF {h' : Heap} {Ts : List Addr} {e C : Addr} {od : Option Addr} (I : Inv X [] σ H s) (he : H e = some (XO e C od)) (N : NoteF X.env.locals (frs X.stack) e Ts s.heap h') (hT : ∀ b ∈ Ts, Apart X [] H b) :
    Inv X [] σ H { s with heap := h' } ∧ TbZ X H h' e (· = rawInt X.env.locals) := by
  obtain ⟨oe, vs, ge, c1, c2, c3, c4⟩ := I.xo he
  obtain ⟨oe', vs', T, ge', e1, e2, e3, e4, e5, e6, e7, oT, ts, t1, t2, t3⟩ := N.exc oe vs ge c3
  have nfr : ∀ b o, H b = some o → b ∉ frs X.stack := fun b o q hb => by rw [I.stkFree b hb] at q; cases q
  have nts : ∀ b o, H b = some o → b ∉ Ts := fun b o q hb => by rw [(hT b hb).un] at q; cases q
  have hok : HOk X.prog X.w H h' := fun a o q => by
    by_cases ha : a = e
    · subst ha
      rw [he] at q
      cases q
      exact XO.mk ge' (e1.trans c1) (e2.trans c2) e3 (by rw [e4]; exact c4)
    · refine (I.hok a o q).stay (fun b u hb r => ?_) (fun _ r => r) fun _ _ r => r
      rcases hb with rfl | hb
      · exact N.keep b u r (nfr b o q) ha (nts b o q)
      · exact N.keep b u r (nfr b _ hb) (fun z => by rw [z, he] at hb; cases hb) (nts b _ hb)
  have J : Inv X [] σ H { s with heap := h', gens := s.gens, drawn := s.drawn, toks := s.toks } := I.call (ch := Ts) (h' := h') (g' := s.gens) (d' := s.drawn) (t' := s.toks)
    ⟨fun b o q n hb hx => N.keep b o q hb (fun z => by rw [z, he] at n; cases n) hx, fun b o q n hb hx => N.slot b o q hb, fun _ _ _ n _ => n, fun b o q hx => by
      by_cases hb : b ∈ frs X.stack
      · obtain ⟨sl, r⟩ := N.slot b o q hb
        exact ⟨_, r⟩
      · by_cases hbe : b = e
        · exact ⟨_, by rw [hbe]; exact ge'⟩
        · exact ⟨o, N.keep b o q hb hbe hx⟩, fun _ _ q => q, fun _ _ _ q => q, fun _ ps q => ⟨#[], by rw [q]; simp⟩⟩ hok I.bare fun b hb => ⟨.inr (hT b hb).up, (hT b hb).loc, (hT b hb).cel, (hT b hb).pin⟩
  exact ⟨J, oe', vs', T, oT, ts, _, ge', e3, e5, t1, t2, t3, rfl, e7, Apart.fresh I e6⟩
theorem note_own {M : Model} {Q : Unit → Shared → Prop} {W : Value → Shared → Prop} {e C : Addr} {od : Option Addr} (I : Inv X [] σ H s) (he : H e = some (XO e C od)) (tb : TbL X H s.heap e) (hst : X.stack = X.env :: X.outer) (hf : X.env.frame = some X.env.locals)
    (h : ∀ s', Inv X [] σ H s' → TbZ X H s'.heap e (· = rawInt X.env.locals) → Q () s') : wpAny M X.A (noteFrame (.ref e) X.env) Q W s := by
  have hfr : X.A.frames = some (X.env :: X.outer) := by rw [← hst]; exact I.ok.frames
  have hl : s.heap.FunFrames X.base (X.env :: X.outer) := by rw [← hst]; exact I.stack
  unfold noteFrame
  simp only [hf]
  rcases tb with ⟨oe, vs, ge, hd, tb⟩ | ⟨oe, vs, T, oT, ts, v, ge, hd, tb, gT, dT, t3, hv, nT, aT⟩
  · obtain ⟨oe', vs', ge', c1, c2, c3, c4⟩ := I.xo he
    rw [ge] at ge'
    cases ge'
    rw [hd] at c3
    cases c3
    have hsz : 1 < vs.size := by omega
    refine wpAny_bind (wpAny_field ge hd tb ?_)
    rw [if_neg (by decide)]
    refine note_layF hfr hl hf ge hd hsz fun h' N => ?_
    obtain ⟨J, T⟩ := I.notedF (h' := h') (Ts := []) he (by rw [hst]; exact N) (fun b hb => nomatch hb)
    exact h _ J T
  · obtain ⟨oe', vs', ge', c1, c2, c3, c4⟩ := I.xo he
    rw [ge] at ge'
    cases ge'
    rw [hd] at c3
    cases c3
    have hsz : 1 < vs.size := by omega
    refine wpAny_bind (wpAny_field ge hd tb ?_)
    rw [if_pos (show (Value.ref T != Value.none) = true from by simp)]
    refine wpAny_bind (wpAny_field gT dT t3 ?_)
    rcases hv with rfl | rfl
    · rw [if_neg (show ¬ ((Value.none == rawInt X.env.locals) = true) from by simp [rawInt])]
      refine wpAny_bind (wpAny_setField gT dT (Array.getElem?_eq_some_iff.mp t3).1 ?_)
      have ot : ∀ b, b ≠ T → (s.heap.update T (Obj.mapFields (·.setIfInBounds 3 Value.none))).get? b = s.heap.get? b := fun b hb => Heap.get?_update_other _ _ (Ne.symm hb)
      have dT' := Obj.data_mapFields dT (·.setIfInBounds 3 Value.none)
      have gT' := Heap.get?_update_self (Obj.mapFields (·.setIfInBounds 3 Value.none)) gT (Obj.isFreed_of_fields dT')
      have nfr : T ∉ (X.env :: X.outer).filterMap (·.frame) := fun hm => by
        obtain ⟨_, o, ho, hnf⟩ := hl.mem hm
        rw [gT] at ho
        cases ho
        exact hnf ts dT
      refine note_layF hfr (hl.of_keeps fun b o hb hnf => ⟨o, (ot b fun z => by rw [z, gT] at hb; cases hb; exact hnf ts dT).trans hb, rfl⟩) hf ((ot e (Ne.symm nT)).trans ge) hd hsz fun h' N => ?_
      have N2 : NoteF X.env.locals (frs X.stack) e [T] s.heap h' := by
        rw [hst]
        refine ⟨fun b o q hb hbe hx => N.keep b o ((ot b fun z => hx (by rw [z]; exact .head _)).trans q) hb hbe (fun z => nomatch z), fun b o q hb => N.slot b o ((ot b fun z => nfr (by rw [← z]; exact hb)).trans q) hb, fun oe2 vs2 q d2 => ?_, fun b hb => ?_⟩
        · obtain ⟨oe', vs', T', r1, r2, r3, r4, r5, r6, r7, r8⟩ := N.exc oe2 vs2 ((ot e (Ne.symm nT)).trans q) d2
          exact ⟨oe', vs', T', r1, r2, r3, r4, r5, r6, by rw [Heap.size_update] at r7; exact r7, r8⟩
        · rw [List.mem_singleton] at hb
          subst hb
          exact ⟨_, N.keep b _ gT' nfr nT (fun z => nomatch z)⟩
      obtain ⟨J, T'⟩ := I.notedF (h' := h') (Ts := [T]) he N2 (fun b hb => by rw [List.mem_singleton] at hb; subst hb; exact aT)
      exact h _ J T'
    · rw [if_pos (show ((rawInt X.env.locals == rawInt X.env.locals) = true) from by simp)]
      exact wpAny_pure (h s I ⟨oe, vs, T, oT, ts, _, ge, hd, tb, gT, dT, t3, rfl, nT, aT⟩)
theorem fly_ok {M : Model} {Q : Unit → Shared → Prop} {W : Value → Shared → Prop} {e : Addr} {z : Value → Prop} (fl : Option Addr) (I : Inv X [] σ H s) (hE : H e ≠ none) (tb : TbZ X H s.heap e z)
    (h : ∀ s', Inv X [] σ H s' → TbZ X H s'.heap e (· = fl.elim .none fun f => rawInt f) → Q () s') : wpAny M X.A (setFlight (.ref e) fl) Q W s := by
  obtain ⟨oe, vs, T, oT, ts, v, ge, hd, tb, gT, dT, t3, hv, nT, aT⟩ := tb
  unfold setFlight
  refine wpAny_bind (wpAny_field ge hd tb ?_)
  rw [if_pos (show (Value.ref T != Value.none) = true from by simp)]
  have h3 := (Array.getElem?_eq_some_iff.mp t3).1
  refine wpAny_setField gT dT h3 ?_
  have dT' := Obj.data_mapFields dT (·.setIfInBounds 3 (fl.elim .none fun f => rawInt f))
  have gT' := Heap.get?_update_self (Obj.mapFields (·.setIfInBounds 3 (fl.elim .none fun f => rawInt f))) gT (Obj.isFreed_of_fields dT')
  refine h _ (I.touch aT (fun b o hb q => (Heap.get?_update_other _ _ (Ne.symm hb)).trans q) ⟨_, gT'⟩) ⟨oe, vs, T, _, _, _, (Heap.get?_update_other _ _ nT).trans ge, hd, tb, gT', dT', by simp [h3], rfl, nT, aT⟩
def XPL (X : Cx) (E : XS) (v : Value) (s' : Shared) : Prop := ∃ e σ' H', v = .ref e ∧ Inv X [] σ' H' s' ∧ (∃ C od, H' e = some (XO e C od)) ∧ TbL X H' s'.heap e ∧ E σ' e H'
theorem XP.fly {v : Value} (h : XP X pins E v s) : XPL X E v s := by
  obtain ⟨e, σ', H', rfl, I, he, tb, q⟩ := h
  exact ⟨e, σ', H', rfl, I.fewer, he, tb.fly, q⟩
def Cx.exc (X : Cx) (E : XS) : Cx := X.wish (XPL X E)
theorem exc_K : (X.exc E).K = X.K := rfl
def tXE (E : XS) (t : TEx) : TE := fun σ H Q => t σ H Q (E σ)
def tSE (E : XS) (t : TSx) : TS := fun D σ H => t D E σ H
theorem pe_exc {e : Expr} {t : TEx} (h : PEx X e t) : PE (X.exc E) e (tXE E t) := fun pins s σ H Q I q =>
  wpAny_mono (h pins s σ H Q (E σ) I.unwish q) (fun _ _ ⟨v, H', I', r, q'⟩ => ⟨v, H', I'.wish _, r, q'⟩) fun _ _ z => (xp_at z).fly
theorem SP.wish {D : Ends} {f : Flow} {s' : Shared} {W : Value → Shared → Prop} (h : SP X pins D f s') : SP (X.wish W) pins D f s' := by
  cases f with
  | next => obtain ⟨σ', H', I, q⟩ := h; exact ⟨σ', H', I.wish _, q⟩
  | brk => obtain ⟨σ', H', I, q⟩ := h; exact ⟨σ', H', I.wish _, q⟩
  | cont => obtain ⟨σ', H', I, q⟩ := h; exact ⟨σ', H', I.wish _, q⟩
  | ret u => obtain ⟨v, σ', H', I, r, q⟩ := h; exact ⟨v, σ', H', I.wish _, r, q⟩
theorem passes_exc (hst : X.stack = X.env :: X.outer) (hf : X.env.frame = some X.env.locals) : PassesOwn (model X.prog X.w) X.A X.env (XPL X E) := by
  rintro _ s ⟨e, σ, H, rfl, I, ⟨C, od, he⟩, tb, q⟩
  unfold notedBy
  refine note_own I he tb hst hf fun s2 I2 tb2 => ?_
  unfold cameBackBy
  obtain ⟨oe, vs, T, oT, ts, v, g1, d1, a1, a2⟩ := tb2
  refine wpAny_bind (wpAny_field g1 d1 a1 ?_)
  rw [if_neg (show ¬ ((Value.ref T == Value.none) = true) from by simp)]
  rw [hf]
  refine fly_ok (z := (· = rawInt X.env.locals)) (some X.env.locals) I2 (by rw [he]; exact fun z => nomatch z) ⟨oe, vs, T, oT, ts, v, g1, d1, a1, a2⟩ fun s3 I3 tb3 => ?_
  obtain ⟨oe, vs, T, oT, ts, v, b1, b2, b3, b4, b5, b6, b7, b8⟩ := tb3
  exact ⟨e, σ, H, rfl, I3, ⟨C, od, he⟩, .inr ⟨oe, vs, T, oT, ts, v, b1, b2, b3, b4, b5, b6, .inr b7, b8⟩, q⟩
theorem passes_ex (hst : X.stack = X.env :: X.outer := by rfl) (hf : X.env.frame = some X.env.locals := by rfl) : PassesOwn (model (X.exc E).prog (X.exc E).w) (X.exc E).A (X.exc E).env (X.exc E).xe := passes_exc hst hf
theorem ps_exc {st : Stmt} {t : TSx} (h : PSx X st t) : PS (X.exc E) st (tSE E t) := fun pins s σ H D I q =>
  wpAny_mono (h pins s σ H D E I.unwish q) (fun _ _ q' => q'.wish) fun _ _ z => z.fly
end
section
variable {P : Program} {w : World} {K : PySem.W.Frag} {mg : Str → Option Value} {base : Heap}
theorem fn_ofE {k : Nat} {f : Addr} {name qual : Str} {params : Arguments} {body : List Stmt} {scope : Scope} {dV kV doc pm cdv ct oc : Value} {an od : Option Addr}
    {osl : Array (Option Value)} {N ps : List Str} {sp : Sp} (lk : K.lookup f = some ⟨oc, od, .func (PySem.W.fnOf name qual params body scope dV kV doc pm an cdv ct), osl⟩) (hcd : PySem.W.codeIn K cdv qual = true) (S : FnScope N ps scope)
    (len : ∀ vs H Q E, sp vs H Q E → vs.length = ps.length)
    (hbody : ∀ (A : Around) (outer : List Env) (s : Shared) (H : Hp) (vs : List V) (Q : VK) (E : XK), Room k (A.deeper (envOfC qual scope s.heap.objs.size f cdv)) → sp vs H Q E →
      ∃ t, PSs ((cxOf CX0 P w K mg base N qual scope f cdv A outer s H E).exc fun _ e H' => E (.ref e) none H') body t ∧ t { nx := fun _ H' => Q .non H', rt := Q } (start N vs) H) :
    FnOk P w K mg base (CXx P w) (k + 1) f (PySem.W.fnOf name qual params body scope dV kV doc pm an cdv ct) ps sp := by
  refine ⟨len, fun A outer s H args us vs Q E hr e0 hb r hsp => ?_⟩
  have hl := len _ _ _ _ hsp
  have KX : K.In s.heap := e0.mod.kin.keeps fun b o e => (e0.bs b o e).1
  have lim : s.heap.NoLimit := e0.mod.nolimit.keeps fun b o e => (e0.bs b o e).1
  have hkind : ∀ y ∈ ps.zip us, scope.names.lookup y.1 = some .local ∨ (scope.names.lookup y.1 = some .cell ∧ ((cellsFrom (s.heap.objs.size + 1) scope.names []).lookup y.1).isSome = true) := fun ⟨n, v⟩ hy => by
    rcases S.par n (List.of_mem_zip hy).1 with q | q
    · exact .inl q
    · exact .inr ⟨q, PySem.W.cellsFrom_some _ _ _ (.inl q)⟩
  refine codeAny_call_function hr.depth (KX _ _ lk) rfl S.co S.gen rfl (PySem.W.codeRec_of KX hcd) (hb _ _ _ _ ?_)
  refine wpAny_newFunctionEnv_cells S.kind hkind fun env he s1 x => ?_
  subst he
  refine ⟨lim.keeps x.toInCall.keep, codeAny_func ?_⟩
  obtain ⟨t, ht, hq⟩ := hbody A outer s H vs Q E (hr.deeper _) hsp
  have I : Inv (cxOf CX0 P w K mg base N qual scope f cdv A outer s H E) [] (start N vs) H s1 := inv_start S hr.hd e0 hl r x
  refine wpAny_mono (ht [] s1 (start N vs) H _ (I.wish _) hq) (fun fl s' hs => ?_) fun v s' hs => ?_
  · have hs := hs.unwish
    have fin : ∀ {σ' : St} {H' : Hp} {v : V} {u : Value}, Inv (cxOf CX0 P w K mg base N qual scope f cdv A outer s H E) [] σ' H' s' → RelV v u → Q v H' → CE outer P w H s Q u s' :=
      fun {σ' H' v u} J rv q => ⟨v, H', J.os, J.bare, J.base, J.hok, rv, q⟩
    cases fl with
    | ret u =>
      obtain ⟨v, σ', H', J, rv, q⟩ := hs
      exact fin J rv q
    | next =>
      obtain ⟨σ', H', J, q⟩ := hs
      exact fin (v := V.non) (u := Value.none) J rfl q
    | brk =>
      obtain ⟨_, _, _, q⟩ := hs
      exact False.elim q
    | cont =>
      obtain ⟨_, _, _, q⟩ := hs
      exact False.elim q
  · obtain ⟨e, σ', H', rfl, J, ⟨C, od, he⟩, tb, q⟩ := (hs : XPL (cxOf CX0 P w K mg base N qual scope f cdv A outer s H E) (fun _ e H' => E (.ref e) none H') v s')
    unfold leaving
    refine wpAny_bind (note_own J he tb rfl rfl fun s2 J2 tb2 => ?_)
    refine fly_ok none J2 (by rw [he]; exact fun z => nomatch z) tb2 fun s3 J3 tb3 => ?_
    obtain ⟨oe, vs, T, oT, ts, v, g1, d1, a1, a2, a3, a4, a5, a6, a7⟩ := tb3
    subst a5
    exact ⟨e, H', rfl, J3.os, J3.bare, J3.base, J3.hok, ⟨C, od, he⟩, ⟨oe, vs, g1, d1, .inr ⟨T, oT, ts, a1, a2, a3, a4, a6, a7.un, a7.up⟩⟩, q⟩
abbrev BodyE (P : Program) (w : World) (K : PySem.W.Frag) (mg : Str → Option Value) (base : Heap) (N : List Str) (qual : Str) (st : Stmt) (f : Addr) (cdv : Value) (k : Nat) (sp : Sp) : Prop :=
  ∀ (A : Around) (outer : List Env) (s : Shared) (H : Hp) (vs : List V) (Q : VK) (E : XK), Room k (A.deeper (envOfC qual (defScope st) s.heap.objs.size f cdv)) → sp vs H Q E →
    ∃ t, PSs ((cxOf CX0 P w K mg base N qual (defScope st) f cdv A outer s H E).exc fun _ e H' => E (.ref e) none H') (defBody st) t ∧ t { nx := fun _ H' => Q .non H', rt := Q } (start N vs) H
theorem Fun.okE {x qual : Str} {st : Stmt} {f : Addr} {fd : FuncData} {N ps : List Str} {k : Nat} {sp : Sp} (F : Fun K x qual st f fd) (S : FnScope N ps (defScope st)) (len : ∀ vs H Q E, sp vs H Q E → vs.length = ps.length)
    (hbody : ∀ (cdv : Value), BodyE P w K mg base N qual st f cdv k sp) : FnOk P w K mg base (CXx P w) (k + 1) f fd ps sp := by
  obtain ⟨oc, od, kV, doc, pm, an, cdv, ct, osl, rfl, lk, hcd⟩ := F.ex
  exact fn_ofE lk hcd S len fun A outer s H vs Q E hr hsp => hbody cdv A outer s H vs Q E hr hsp
section
variable {x m qual : Str} {C : Addr} {st : Stmt} {N ps : List Str} {k : Nat} {sp : Sp}
theorem Def.ownE (D : Def K mg x st) (S : FnScope N ps (defScope st))
    (hb : ∀ (kV doc pm : Value) (an : Option Addr) (cdv ct : Value) (us : List Value), us.length = ps.length → bindArgs (PySem.W.fnOf x x (defArgs st) (defBody st) (defScope st) .none kV doc pm an cdv ct) ⟨us, []⟩ = pure (ps.zip us))
    (len : ∀ vs H Q E, sp vs H Q E → vs.length = ps.length) (hbody : ∀ (f : Addr) (cdv : Value), BodyE P w K mg base N x st f cdv k sp) : OwnX P w K mg base (k + 1) x ps sp := by
  obtain ⟨f, fd, hm, F⟩ := D
  exact ⟨f, fd, hm, F.kp, F.binds hb, F.okE S len (hbody f)⟩
theorem DefM.ownE (D : DefM K C m qual st) (S : FnScope N ps (defScope st))
    (hb : ∀ (kV doc pm : Value) (an : Option Addr) (cdv ct : Value) (us : List Value), us.length = ps.length → bindArgs (PySem.W.fnOf m qual (defArgs st) (defBody st) (defScope st) .none kV doc pm an cdv ct) ⟨us, []⟩ = pure (ps.zip us))
    (len : ∀ vs H Q E, sp vs H Q E → vs.length = ps.length) (hbody : ∀ (f : Addr) (cdv : Value), BodyE P w K mg base N qual st f cdv k sp) : OwnMX P w K mg base (k + 1) C m ps sp := by
  obtain ⟨f, fd, hm, F⟩ := D
  exact ⟨f, fd, hm, F.binds hb, F.okE S len (hbody f)⟩
theorem DefI.ownE (D : DefI K C qual st) (S : FnScope N ps (defScope st))
    (hb : ∀ (kV doc pm : Value) (an : Option Addr) (cdv ct : Value) (us : List Value), us.length = ps.length → bindArgs (PySem.W.fnOf "__init__" qual (defArgs st) (defBody st) (defScope st) .none kV doc pm an cdv ct) ⟨us, []⟩ = pure (ps.zip us))
    (len : ∀ vs H Q E, sp vs H Q E → vs.length = ps.length) (hbody : ∀ (f : Addr) (cdv : Value), BodyE P w K mg base N qual st f cdv k sp) : OwnIX P w K mg base (k + 1) C ps sp := by
  obtain ⟨f, fd, hm, F⟩ := D
  exact ⟨f, fd, hm, F.binds hb, F.okE S len (hbody f)⟩
end
end
end L2
namespace K71
open PySem L2
def stm (i : Nat) : Stmt := PySem.Challenge.pw_roadnet_k71_measures_refused.main.body.getD i (.Pass ⟨0, 0, 0, 0⟩)
abbrev s_is_whole : Stmt := stm 14
theorem sc_is_whole : FnScope ["thing"] ["thing"] (defScope s_is_whole) := ⟨rfl, rfl, rfl, by decide +kernel, rfl, by decide +kernel, by decide +kernel⟩
abbrev s_is_within : Stmt := stm 15
theorem sc_is_within : FnScope ["thing", "least", "most"] ["thing", "least", "most"] (defScope s_is_within) := ⟨rfl, rfl, rfl, by decide +kernel, rfl, by decide +kernel, by decide +kernel⟩
abbrev s_refuse_bad_measures : Stmt := stm 21
theorem sc_refuse_bad_measures : FnScope ["numbers", "number", "bound", "name", "least", "most"] ["numbers"] (defScope s_refuse_bad_measures) := ⟨rfl, rfl, rfl, by decide +kernel, rfl, by decide +kernel, by decide +kernel⟩
section
variable {P : Program} {w : World} {K : PySem.W.Frag} {mg : Str → Option Value} {base : Heap} {C R cM : Addr}
inductive PlV : V → Prop
  | int (i : Int) : PlV (.int i)
  | bl (b : Bool) : PlV (.bl b)
  | non : PlV .non
  | str (x : Str) : PlV (.str x)
def isI : V → Bool
  | .int _ => true
  | _ => false
def okV : V → Int → Int → Bool
  | .int i, a, b => decide (a ≤ i) && decide (i ≤ b)
  | _, _, _ => false
def sp_wholeP : Sp := fun vs H Q _ => ∃ v, vs = [v] ∧ PlV v ∧ Q (.bl (isI v)) H
theorem own_wholeP (D : Def K mg "is_whole" s_is_whole) (hb : Blt mg) : Own P w K mg base 1 "is_whole" ["thing"] sp_wholeP := by
  refine D.own sc_is_whole (fun _ _ _ _ _ _ us hl => match us, hl with | [_], _ => rfl) (fun vs H Q E h => ?_) (fun f cdv A outer s H vs Q E hr h => ?_)
  · obtain ⟨v, rfl, _⟩ := h
    rfl
  · obtain ⟨v, rfl, hp, q⟩ := h
    refine ⟨_, (@pss_one _ _ _ (@ps_ret _ _ _ _ (@pe_and _ _ _ _ _ _ _ (@pe_callB _ _ _ _ _ _ _ _ _ call_isiX rfl (hb _ (by decide)) bt_isinstance (@pa_cX _ _ _ _ _ (@pv _ 0 _ _ (by rfl) (by first | exact Or.inl rfl | exact Or.inr (Or.inl rfl) | exact Or.inr (Or.inr rfl)) (by decide) (by decide)) (@pa_cX _ _ _ _ _ (@pe_bltn _ _ (.ty "int") _ _ rfl (hb _ (by decide)) bt_int rfl (by decide) (by decide)) (@pa_nil _) (by rfl)) (by rfl)) (by decide) (by decide) (by rfl) (by rfl)) (@pe_one _ _ _ _ _ (@pe_not _ _ _ _ (@pe_callB _ _ _ _ _ _ _ _ _ call_isiX rfl (hb _ (by decide)) bt_isinstance (@pa_cX _ _ _ _ _ (@pv _ 0 _ _ (by rfl) (by first | exact Or.inl rfl | exact Or.inr (Or.inl rfl) | exact Or.inr (Or.inr rfl)) (by decide) (by decide)) (@pa_cX _ _ _ _ _ (@pe_bltn _ _ (.ty "bool") _ _ rfl (hb _ (by decide)) bt_bool rfl (by decide) (by decide)) (@pa_nil _) (by rfl)) (by rfl)) (by decide) (by decide) (by rfl) (by rfl))))))), ?_⟩
    cases hp with
    | int i => simp (maxSteps := 1000000) only [rIsIX, tyX_i, V.ty.injEq, kT_inin, kT_inbo, Nat.reduceSub, Nat.reduceAdd, V.ty.injEq, Bool.not_false, List.cons.injEq, exists_and_left, if_true, tVar, tC, tRet, tAndV, tNotV, tCons, tNil, tCB, L2.start, List.map_cons, List.map_nil, List.length_cons, List.length_nil, List.replicate, List.getElem?_cons_zero, Option.some.injEq, exists_eq_left', V.bl.injEq, and_true, and_assoc, List.append_nil]; exact q
    | bl b => simp (maxSteps := 1000000) only [rIsIX, tyX_b, V.ty.injEq, kT_boin, kT_bobo, Nat.reduceSub, Nat.reduceAdd, V.ty.injEq, Bool.not_true, List.cons.injEq, exists_and_left, if_true, tVar, tC, tRet, tAndV, tNotV, tCons, tNil, tCB, L2.start, List.map_cons, List.map_nil, List.length_cons, List.length_nil, List.replicate, List.getElem?_cons_zero, Option.some.injEq, exists_eq_left', V.bl.injEq, and_true, and_assoc, List.append_nil]; exact q
    | non => simp (maxSteps := 1000000) only [rIsIX, tyX_n, V.ty.injEq, kT_Noin, kT_Nobo, Nat.reduceSub, Nat.reduceAdd, V.ty.injEq, Bool.not_false, List.cons.injEq, exists_and_left, if_false, Bool.false_eq_true, tVar, tC, tRet, tAndV, tNotV, tCons, tNil, tCB, L2.start, List.map_cons, List.map_nil, List.length_cons, List.length_nil, List.replicate, List.getElem?_cons_zero, Option.some.injEq, exists_eq_left', V.bl.injEq, and_true, and_assoc, List.append_nil]; exact q
    | str x => simp (maxSteps := 1000000) only [rIsIX, tyX_s, V.ty.injEq, kT_stin, kT_stbo, Nat.reduceSub, Nat.reduceAdd, V.ty.injEq, Bool.not_false, List.cons.injEq, exists_and_left, if_false, Bool.false_eq_true, tVar, tC, tRet, tAndV, tNotV, tCons, tNil, tCB, L2.start, List.map_cons, List.map_nil, List.length_cons, List.length_nil, List.replicate, List.getElem?_cons_zero, Option.some.injEq, exists_eq_left', V.bl.injEq, and_true, and_assoc, List.append_nil]; exact q
def sp_withinP : Sp := fun vs H Q _ => ∃ v, ∃ a b : Int, vs = [v, .int a, .int b] ∧ PlV v ∧ Q (.bl (okV v a b)) H
theorem own_withinP (D : Def K mg "is_within" s_is_within) (F_is_whole : Own P w K mg base 1 "is_whole" ["thing"] sp_wholeP) : Own P w K mg base 2 "is_within" ["thing", "least", "most"] sp_withinP := by
  refine D.own sc_is_within (fun _ _ _ _ _ _ us hl => match us, hl with | [_, _, _], _ => rfl) (fun vs H Q E h => ?_) (fun f cdv A outer s H vs Q E hr h => ?_)
  · obtain ⟨v, a, b, rfl, _⟩ := h
    rfl
  · obtain ⟨v, a, b, rfl, hp, q⟩ := h
    refine ⟨_, (@pss_one _ _ _ (@ps_ret _ _ _ _ (@pe_and _ _ _ _ _ _ _ (@pe_fn _ _ _ _ _ _ _ _ _ _ _ F_is_whole hr (@pa_cX _ _ _ _ _ (@pv _ 0 _ _ (by rfl) (by first | exact Or.inl rfl | exact Or.inr (Or.inl rfl) | exact Or.inr (Or.inr rfl)) (by decide) (by decide)) (@pa_nil _) (by rfl)) (by decide) (by rfl) (by decide) (by rfl) (by rfl)) (@pe_one _ _ _ _ _ (@pe_chain _ _ _ _ _ _ _ _ _ _ _ _ op_le op_le (@pv _ 1 _ _ (by rfl) (by first | exact Or.inl rfl | exact Or.inr (Or.inl rfl) | exact Or.inr (Or.inr rfl)) (by decide) (by decide)) (@pv _ 0 _ _ (by rfl) (by first | exact Or.inl rfl | exact Or.inr (Or.inl rfl) | exact Or.inr (Or.inr rfl)) (by decide) (by decide)) (@pv _ 2 _ _ (by rfl) (by first | exact Or.inl rfl | exact Or.inr (Or.inl rfl) | exact Or.inr (Or.inr rfl)) (by decide) (by decide)) (by with_unfolding_all rfl)))))), ?_⟩
    cases hp with
    | int i =>
      simp (maxSteps := 1000000) only [Nat.reduceSub, Nat.reduceAdd, List.cons.injEq, exists_and_left, if_true, tVar, rI0, tRet, tAndV, tCall, tCons, tNil, tChain, L2.start, List.map_cons, List.map_nil, List.length_cons, List.length_nil, List.replicate, List.getElem?_cons_zero, List.getElem?_cons_succ, Option.some.injEq, exists_eq_left', V.int.injEq, V.bl.injEq, and_true, List.append_nil, sp_wholeP, isI]
      refine ⟨.int i, ?_⟩
      by_cases h1 : a ≤ i
      · simp only [okV, decide_eq_true h1, Bool.true_and] at q
        rw [decide_eq_true h1]
        exact iteT q
      · simp only [okV, decide_eq_false h1, Bool.false_and] at q
        rw [decide_eq_false h1]
        exact iteF q
    | bl b' => simp (maxSteps := 1000000) only [Nat.reduceSub, Nat.reduceAdd, List.cons.injEq, exists_and_left, if_false, Bool.false_eq_true, tVar, rI0, tRet, tAndV, tCall, tCons, tNil, tChain, L2.start, List.map_cons, List.map_nil, List.length_cons, List.length_nil, List.replicate, List.getElem?_cons_zero, List.getElem?_cons_succ, Option.some.injEq, exists_eq_left', V.int.injEq, V.bl.injEq, exists_const, and_true, reduceCtorEq, false_and, List.append_nil, sp_wholeP, isI]; exact ⟨.bl b', q⟩
    | non => simp (maxSteps := 1000000) only [Nat.reduceSub, Nat.reduceAdd, List.cons.injEq, exists_and_left, if_false, Bool.false_eq_true, tVar, rI0, tRet, tAndV, tCall, tCons, tNil, tChain, L2.start, List.map_cons, List.map_nil, List.length_cons, List.length_nil, List.replicate, List.getElem?_cons_zero, List.getElem?_cons_succ, Option.some.injEq, exists_eq_left', V.int.injEq, V.bl.injEq, exists_const, and_true, reduceCtorEq, false_and, List.append_nil, sp_wholeP, isI]; exact ⟨.non, q⟩
    | str x => simp (maxSteps := 1000000) only [Nat.reduceSub, Nat.reduceAdd, List.cons.injEq, exists_and_left, if_false, Bool.false_eq_true, tVar, rI0, tRet, tAndV, tCall, tCons, tNil, tChain, L2.start, List.map_cons, List.map_nil, List.length_cons, List.length_nil, List.replicate, List.getElem?_cons_zero, List.getElem?_cons_succ, Option.some.injEq, exists_eq_left', V.int.injEq, V.bl.injEq, exists_const, and_true, reduceCtorEq, false_and, List.append_nil, sp_wholeP, isI]; exact ⟨.str x, q⟩
end
end K71
namespace K71
open PySem L2
section
variable {P : Program} {w : World} {K : PySem.W.Frag} {mg : Str → Option Value} {base : Heap} {C R cM : Addr}
def bds : List (String × Int × Int) := [("hands", 2, 12), ("lag", 1, 32), ("miss", 1, 400), ("raise", 1, 1000), ("count", 0, 60), ("room", 1, 16), ("places", 1, 16), ("window", 1, 60), ("wait", 1, 10000), ("keep", 0, 10000)]
structure BdAt (K : PySem.W.Frag) (mg : Str → Option Value) (a : Addr) (bs : List Addr) : Prop where
  g : ∃ u, mg "BOUNDS" = some u ∧ RelV (.ref a) u
  t : ∀ H, SqT K H a (bs.map V.ref)
  e : ∀ (i : Nat) b (q : String × Int × Int), bs[i]? = some b → bds[i]? = some q → ∀ H, SqT K H b [.str (Str.ofString q.1), .int q.2.1, .int q.2.2]
  l : bs.length = 10
def okAll (ws : List V) : Prop := ∀ (i : Nat) v (q : String × Int × Int), ws[i]? = some v → bds[i]? = some q → okV v q.2.1 q.2.2 = true
def sp_rbmE (cM : Addr) : Sp := fun vs H Q E => ∃ (p : Addr) (ws : List V), vs = [.ref p] ∧ H p = some (.lst ws) ∧ ws.length = 10 ∧ (∀ v ∈ ws, PlV v) ∧ (okAll ws → ∀ H', Same H H' → Q .non H') ∧ (¬ okAll ws → ∀ e H', Same H H' → H' e = some (XO e cM none) → E (.ref e) none H')
theorem bds_few : ∀ q ∈ bds, (Str.ofString q.1).length ≤ 1000 ∧ q.2.1.natAbs.log2 < 1920 ∧ q.2.2.natAbs.log2 < 1920 := by decide +kernel
def LZ (H : Hp) (p : Addr) (ws : List V) (i : Nat) (σ : St) (H' : Hp) : Prop := Same H H' ∧ (∀ j, j < i → ∀ v (q : String × Int × Int), ws[j]? = some v → bds[j]? = some q → okV v q.2.1 q.2.2 = true) ∧ ∃ v1 v2 v3 v4 v5, σ = [some (.ref p), v1, v2, v3, v4, v5]
set_option maxHeartbeats 4000000 in
theorem own_rbmE {a : Addr} {bs : List Addr} (D : Def K mg "refuse_bad_measures" s_refuse_bad_measures) (hb : Blt mg) (hzip : mg "zip" = none) (B : BdAt K mg a bs) (hc_BadMeasures : mg "BadMeasures" = some (.ref cM)) (Z_BadMeasures : XPl K cM) (F_is_within : Own P w K mg base 2 "is_within" ["thing", "least", "most"] sp_withinP) : OwnX P w K mg base 3 "refuse_bad_measures" ["numbers"] (sp_rbmE cM) := by
  have g_BOUNDS := B.g
  refine D.ownE sc_refuse_bad_measures (fun _ _ _ _ _ _ us hl => match us, hl with | [_], _ => rfl) (fun vs H Q E h => ?_) (fun f cdv A outer s H vs Q E hr h => ?_)
  · obtain ⟨p, ws, rfl, _⟩ := h
    rfl
  · obtain ⟨p, ws, rfl, ep, hl, hp, q, qe⟩ := h
    have hu := hr.units
    have hu1 : (A.deeper (PyProof.Rows.envOfC "refuse_bad_measures" (defScope s_refuse_bad_measures) s.heap.objs.size f cdv)).units + 1 < cLine := by omega
    refine ⟨_, (@pss_one _ _ _ (@ps_for _ _ _ _ _ _ _ _ (passes_ex rfl rfl) rfl (@pi_zip _ K _ _ _ _ _ _ _ _ rfl hzip (@pa_cX _ _ _ _ _ (@pv _ 0 _ _ (by rfl) (by first | exact Or.inl rfl | exact Or.inr (Or.inl rfl) | exact Or.inr (Or.inr rfl)) (by decide) (by decide)) (@pa_cX _ _ _ _ _ (@pe_glb _ _ _ _ g_BOUNDS (by rfl) (by decide)) (@pa_nil _) (by rfl)) (by rfl)) (by rfl) (by rfl) (by rfl)) (@pg_seqX _ _ _ _ 2 _ rfl (@pgs_cons _ _ _ _ _ (@pg_name _ _ 1 _ sc_refuse_bad_measures.nd rfl (by first | exact Or.inl rfl | exact Or.inr rfl) (by first | exact .inl rfl | exact .inr rfl | assumption)) (@pgs_cons _ _ _ _ _ (@pg_name _ _ 2 _ sc_refuse_bad_measures.nd rfl (by first | exact Or.inl rfl | exact Or.inr rfl) (by first | exact .inl rfl | exact .inr rfl | assumption)) (@pgs_nil _) (by rfl)) (by rfl)) (by rfl) (by rfl)) (@pss_cons _ _ _ _ _ (@ps_set _ _ 3 _ _ _ _ sc_refuse_bad_measures.nd rfl (by first | exact Or.inl rfl | exact Or.inr rfl) (@pe_ix _ _ _ _ _ _ _ (ix_tupK K) (@pv _ 2 _ _ (by rfl) (by first | exact Or.inl rfl | exact Or.inr (Or.inl rfl) | exact Or.inr (Or.inr rfl)) (by decide) (by decide)) (@pe_int _ _ _ _) (fun _ _ => rfl)) (by rfl) (by first | exact .inl rfl | exact .inr rfl | assumption)) (@pss_cons _ _ _ _ _ (@ps_set _ _ 4 _ _ _ _ sc_refuse_bad_measures.nd rfl (by first | exact Or.inl rfl | exact Or.inr rfl) (@pe_ix _ _ _ _ _ _ _ (ix_tupK K) (@pv _ 2 _ _ (by rfl) (by first | exact Or.inl rfl | exact Or.inr (Or.inl rfl) | exact Or.inr (Or.inr rfl)) (by decide) (by decide)) (@pe_int _ _ _ _) (fun _ _ => rfl)) (by rfl) (by first | exact .inl rfl | exact .inr rfl | assumption)) (@pss_cons _ _ _ _ _ (@ps_set _ _ 5 _ _ _ _ sc_refuse_bad_measures.nd rfl (by first | exact Or.inl rfl | exact Or.inr rfl) (@pe_ix _ _ _ _ _ _ _ (ix_tupK K) (@pv _ 2 _ _ (by rfl) (by first | exact Or.inl rfl | exact Or.inr (Or.inl rfl) | exact Or.inr (Or.inr rfl)) (by decide) (by decide)) (@pe_int _ _ _ _) (fun _ _ => rfl)) (by rfl) (by first | exact .inl rfl | exact .inr rfl | assumption)) (@pss_one _ _ _ (@ps_if _ _ _ _ _ _ _ _ (@pt_not _ _ _ _ (@pt_truX _ _ _ (@pe_fn _ _ _ _ _ _ _ _ _ _ _ F_is_within hr (@pa_cX _ _ _ _ _ (@pv _ 1 _ _ (by rfl) (by first | exact Or.inl rfl | exact Or.inr (Or.inl rfl) | exact Or.inr (Or.inr rfl)) (by decide) (by decide)) (@pa_cX _ _ _ _ _ (@pv _ 4 _ _ (by rfl) (by first | exact Or.inl rfl | exact Or.inr (Or.inl rfl) | exact Or.inr (Or.inr rfl)) (by decide) (by decide)) (@pa_cX _ _ _ _ _ (@pv _ 5 _ _ (by rfl) (by first | exact Or.inl rfl | exact Or.inr (Or.inl rfl) | exact Or.inr (Or.inr rfl)) (by decide) (by decide)) (@pa_nil _) (by rfl)) (by rfl)) (by rfl)) (by decide) (by rfl) (by decide) (by rfl) (by rfl)) (by intro _; rfl))) (@pss_one _ _ _ (@ps_exc _ _ _ _ (@psx_raise _ _ _ _ (@pn_new _ _ _ _ _ _ _ _ Z_BadMeasures.ex Z_BadMeasures.kp hc_BadMeasures (@pa_cX _ _ _ _ _ (@pe_fstr _ _ _ _ _ _ (@pj_txt _ _ _ _ _ _ _ (@pv _ 3 _ _ (by rfl) (by first | exact Or.inl rfl | exact Or.inr (Or.inl rfl) | exact Or.inr (Or.inr rfl)) (by decide) (by decide)) (@pj_str _ _ _ _ _ _ _ 24 (by kernel_rfl) (@pj_int _ _ _ _ _ _ _ (@pv _ 4 _ _ (by rfl) (by first | exact Or.inl rfl | exact Or.inr (Or.inl rfl) | exact Or.inr (Or.inr rfl)) (by decide) (by decide)) (@pj_str _ _ _ _ _ _ _ 4 (by kernel_rfl) (@pj_int _ _ _ _ _ _ _ (@pv _ 5 _ _ (by rfl) (by first | exact Or.inl rfl | exact Or.inr (Or.inl rfl) | exact Or.inr (Or.inr rfl)) (by decide) (by decide)) (@pj_nil _ _ (by decide)) (by decide)) (by decide)) (by decide)) (by decide)) (by decide))) (@pa_nil _) (by rfl)) (by rfl) (by decide) (by rfl) (by rfl)) (by rfl)))) (@pss_nil _)))))) (by intro _; rfl))), ?_⟩
    simp (maxSteps := 1000000) only [tFor_eq, Nat.reduceSub, Nat.reduceAdd, List.cons.injEq, exists_and_left, tVar, tC, tCons, tNil, L2.start, List.map_cons, List.map_nil, List.length_cons, List.length_nil, List.replicate, List.cons_append, List.nil_append, List.getElem?_cons_zero, Option.some.injEq, exists_eq_left', V.ref.injEq, and_true, and_assoc, iZip]
    refine ⟨⟨_, SqL.of ep⟩, ⟨_, B.t H⟩, for_zip (xs := ws) (ys := bs.map V.ref) (by rw [List.length_map, hl, B.l]; exact Nat.le_refl _) (LZ H p ws) ⟨.refl _, (fun j z => nomatch z), _, _, _, _, _, rfl⟩ ?_ ?_ ?_⟩
    · rintro i σ H' _ ⟨s', _⟩
      exact ⟨SqL.of (s' _ _ ep), B.t H'⟩
    · rintro i x y pp σ H' hx hy np ⟨s', ok', v1, v2, v3, v4, v5, rfl⟩
      rw [List.getElem?_map] at hy
      obtain ⟨b, hb', rfl⟩ := Option.map_eq_some_iff.mp hy
      have hi10 : i < bds.length := by
        have := (List.getElem?_eq_some_iff.mp hx).1
        have h10 : bds.length = 10 := rfl
        omega
      have hq : bds[i]? = some bds[i] := List.getElem?_eq_getElem hi10
      have hbt := B.e i b _ hb' hq
      have px := hp x (List.mem_of_getElem? hx)
      have epp : upd H' pp (.tup [x, .ref b]) pp = some (.tup [x, .ref b]) := upd_same
      have s2 : Same H (upd H' pp (.tup [x, .ref b])) := s'.upd (s'.free np)
      generalize upd H' pp (.tup [x, .ref b]) = H2 at epp s2 ⊢
      simp (maxSteps := 1000000) only [gSeqX, tTruX, truX_b, seqO_t, gCons, gNil, upd_upd, Nat.reduceAdd, rIxT, List.cons.injEq, tSeq, exists_and_left, tIfS, tNot, tOp, tVar, tC, tAsg, gName, tNext, tCall, tCons, tNil, List.length_cons, List.length_nil, List.getElem?_cons_zero, List.getElem?_cons_succ, List.set_cons_zero, List.set_cons_succ, Option.some.injEq, exists_eq_left', V.int.injEq, V.ref.injEq, and_true, true_and, and_assoc, List.append_nil, epp, tRaise, tNew0, tFs, tJi, tJn, tJs, sp_withinP, tSE]
      obtain ⟨z1, z2, z3⟩ := bds_few _ (List.getElem_mem hi10)
      refine ⟨_, hbt H2, _, rfl, _, hbt H2, _, rfl, _, hbt H2, _, rfl, _, rfl, _, rfl, px, ?_⟩
      cases hk : okV x bds[i].2.1 bds[i].2.2 with
      | true =>
        refine iteF ⟨s2, fun j hj v qq h1 h2 => ?_, _, _, _, _, _, rfl⟩
        by_cases hji : j = i
        · subst hji
          rw [hx] at h1
          rw [hq] at h2
          cases h1
          cases h2
          exact hk
        · exact ok' j (by omega) v qq h1 h2
      | false =>
        refine iteT ⟨_, rfl, z1, _, rfl, z2, _, rfl, z3, fun _ => ⟨by decide, fun e he => qe (fun all => ?_) e _ (s2.upd (s2.free he)) upd_same⟩⟩
        rw [all i x _ hx hq] at hk
        cases hk
    · rintro σ H' ⟨s', ok', _⟩
      refine q (fun i v qq h1 h2 => ok' i ?_ v qq h1 h2) _ s'
      exact (List.getElem?_eq_some_iff.mp h1).1
end
end K71
namespace L2
open PySem PySem.Spec PyProof.Rows
def OwnIXK (P : Program) (w : World) (K : PySem.W.Frag) (mg : Str → Option Value) (base : Heap) (k : Nat) (C : Addr) (ps ks : List Str) (g : List Value → List Value → List Value) (gV : List V → List V → List V) (sp : Sp) : Prop :=
  ∃ f fd, Mk K C f ∧ Binds K fd ps [] ∧ KBinds K fd ps ks g gV ∧ FnOk P w K mg base (CXx P w) k f fd ps sp
theorem OwnIXK.own {P : Program} {w : World} {K : PySem.W.Frag} {mg : Str → Option Value} {base : Heap} {k : Nat} {C : Addr} {ps ks : List Str} {g : List Value → List Value → List Value} {gV : List V → List V → List V} {sp : Sp} (h : OwnIXK P w K mg base k C ps ks g gV sp) : OwnIX P w K mg base k C ps sp :=
  let ⟨f, fd, a, b, _, F⟩ := h; ⟨f, fd, a, b, F⟩
def tMakexK (C : Addr) (sp : Sp) (gV : List V → List V → List V) (t : TA) : TEx := fun σ H Q E => t σ H fun zs H1 => ∀ x dx, H1 x = none → H1 dx = none → dx ≠ x → sp (gV [.ref x] zs) (upd (upd H1 dx (.own x)) x (.ins C dx [])) (fun v H2 => v = .non ∧ Q (.ref x) H2) (xk E)
section
variable {X : Cx} {k : Nat} {f C : Addr} {fd : FuncData} {ps ks : List Str} {sp : Sp} {x : Str} {p pos : Pos} {kws : List Keyword} {t : TA} {g : List Value → List Value → List Value} {gV : List V → List V → List V}
theorem run_makxK {j : Nat} {pins : List (Addr × Obj)} {σ : St} {H : Hp} {s : Shared} {Q : VK} {E : Addr → Hp → Prop} {ws : List Value} {zs : List V} (M : Mk X.K C f) (F : FnOk X.prog X.w X.K X.mg X.base (CXx X.prog X.w) j f fd ps sp) (hr : Room (j + 1) X.A) (hb : KBinds X.K fd ps ks g gV) (I : Inv X pins σ H s) (r : Vals zs ws)
    (h : ∀ x dx, H x = none → H dx = none → dx ≠ x → sp (gV [.ref x] zs) (upd (upd H dx (.own x)) x (.ins C dx [])) (fun v H2 => v = .non ∧ Q (.ref x) H2) (xk E)) :
    wpAny (model X.prog X.w) X.A (call (.ref C) [] (ks.zip ws)) (EP X pins σ Q) (XP X pins fun σ' e H' => σ' = σ ∧ E e H') s := by
  have hq := h (s.heap.objs.size + 1) s.heap.objs.size (I.hok.fresh (Nat.le_succ _)) (I.hok.fresh (Nat.le_refl _)) (Nat.ne_of_lt (Nat.lt_succ_self _))
  have I2 := Inv.made (C := C) I
  have r2 : Vals (gV [V.ref (s.heap.objs.size + 1)] zs) (g [Value.ref (s.heap.objs.size + 1)] ws) := hb.rel (.cons rfl .nil) r
  have hl : (g [Value.ref (s.heap.objs.size + 1)] ws).length = ps.length := by rw [← r2.length]; exact F.len _ _ _ _ hq
  have hb' := hb.to _ [Value.ref (s.heap.objs.size + 1)] ws I2.kIn hl
  refine wpAny_call (make_map (f := f) I.kIn M.makes M.init (beq_iff_eq.mp M.fn) (codeAny_mono (F.run _ X.stack _ _ ⟨[Value.ref (s.heap.objs.size + 1)], ks.zip ws⟩ (g [Value.ref (s.heap.objs.size + 1)] ws) _ _ (xk E) (hr.make C [] (ks.zip ws))
    (I2.env0.make C [] (ks.zip ws)) hb' r2 hq) fun r s' hq' => ?_))
  cases r with
  | error v => exact xp_of I2 hq'
  | ok fl =>
    cases fl with
    | ret u =>
      obtain ⟨v, H', I3, rv, ev, q3⟩ := I2.after hq'
      subst ev
      exact ⟨rv, ⟨V.ref (s.heap.objs.size + 1), H', I3, rfl, q3⟩⟩
    | next => exact False.elim hq'
    | brk => exact False.elim hq'
    | cont => exact False.elim hq'
theorem pex_makK {j : Nat} (M : OwnIXK X.prog X.w X.K X.mg X.base j C ps ks g gV sp) (hr : Room k X.A) (hm : X.mg x = some (.ref C)) (ha : PK X.nox kws t) (hk : j + 1 ≤ k := by decide) (hg : Gl X x := by rfl)
    (hdb : (x == ("__debug__" : Str)) = false := by decide) (hall : (backToKw pos (keywordEach kws X.env)).all (·.1.isSome) = true := by rfl) (hks : (backToKw pos (keywordEach kws X.env)).filterMap (·.1) = ks := by rfl)
    (hpl : ((backTo pos (starEach [] X.env)).any (·.1) || (backToKw pos (keywordEach kws X.env)).any (·.1.isNone)) = false := by rfl) :
    PEx X (.Call (.Name x p) [] kws pos) (tMakexK C sp gV t) := by
  obtain ⟨f, fd, M, _, hb, F⟩ := M
  intro pins s σ H Q E I h
  refine wpAny_Call_Name_kw (ld_glob I hg hm ?_ hdb)
  refine PySem.W.callWith_KW0 (h₀ := X.base) I.ok.mod.kin M.kp hall (wpAny_mono (ha pos pins s σ H _ (I.wish _) h) (fun us s1 ⟨vs, H1, I1, r, q⟩ => ⟨I1.unwish.kIn, ?_⟩) fun _ _ z => False.elim z) hpl
  rw [hks]
  exact run_makxK M F (hr.mono hk) hb I1.unwish r q
end
section
variable {P : Program} {w : World} {K : PySem.W.Frag} {mg : Str → Option Value} {base : Heap} {qual : Str} {C : Addr} {st : Stmt} {N ps ks : List Str} {k : Nat} {sp : Sp} {g : List Value → List Value → List Value} {gV : List V → List V → List V}
theorem DefI.ownEK (D : DefI K C qual st) (S : FnScope N ps (defScope st))
    (hb : ∀ (kV doc pm : Value) (an : Option Addr) (cdv ct : Value) (us : List Value), us.length = ps.length → bindArgs (PySem.W.fnOf "__init__" qual (defArgs st) (defBody st) (defScope st) .none kV doc pm an cdv ct) ⟨us, []⟩ = pure (ps.zip us))
    (hkb : ∀ (kV doc pm : Value) (an : Option Addr) (cdv ct : Value) (us ws : List Value), (g us ws).length = ps.length → bindArgs (PySem.W.fnOf "__init__" qual (defArgs st) (defBody st) (defScope st) .none kV doc pm an cdv ct) ⟨us, ks.zip ws⟩ = pure (ps.zip (g us ws)))
    (hrel : ∀ {vs : List V} {us : List Value} {zs : List V} {ws : List Value}, Vals vs us → Vals zs ws → Vals (gV vs zs) (g us ws))
    (len : ∀ vs H Q E, sp vs H Q E → vs.length = ps.length) (hbody : ∀ (f : Addr) (cdv : Value), BodyE P w K mg base N qual st f cdv k sp) : OwnIXK P w K mg base (k + 1) C ps ks g gV sp := by
  obtain ⟨f, fd, hm, F⟩ := D
  refine ⟨f, fd, hm, F.binds hb, ⟨?_, hrel⟩, F.okE S len (hbody f)⟩
  obtain ⟨oc, od, kV, doc, pm, an, cdv, ct, osl, rfl, lk, hcd⟩ := F.ex
  exact fun s us ws _ hl => .of_eq (hkb kV doc pm an cdv ct us ws hl)
end
end L2
namespace K71
open PySem L2
abbrev at_Measures : List Str := ["hands", "lag", "miss", "raise_each", "count", "room", "places", "window", "wait", "keep"]
def fs_Measures (a0 a1 a2 a3 a4 a5 a6 a7 a8 a9 : V) : List (Str × V) := [("hands", a0), ("lag", a1), ("miss", a2), ("raise_each", a3), ("count", a4), ("room", a5), ("places", a6), ("window", a7), ("wait", a8), ("keep", a9)]
section
variable {a0 a1 a2 a3 a4 a5 a6 a7 a8 a9 : V}
theorem fs_Measures_hands : (fs_Measures a0 a1 a2 a3 a4 a5 a6 a7 a8 a9).lookup ("hands" : Str) = some a0 := rfl
theorem fs_Measures_lag : (fs_Measures a0 a1 a2 a3 a4 a5 a6 a7 a8 a9).lookup ("lag" : Str) = some a1 := rfl
theorem fs_Measures_miss : (fs_Measures a0 a1 a2 a3 a4 a5 a6 a7 a8 a9).lookup ("miss" : Str) = some a2 := rfl
theorem fs_Measures_raise_each : (fs_Measures a0 a1 a2 a3 a4 a5 a6 a7 a8 a9).lookup ("raise_each" : Str) = some a3 := rfl
theorem fs_Measures_count : (fs_Measures a0 a1 a2 a3 a4 a5 a6 a7 a8 a9).lookup ("count" : Str) = some a4 := rfl
theorem fs_Measures_room : (fs_Measures a0 a1 a2 a3 a4 a5 a6 a7 a8 a9).lookup ("room" : Str) = some a5 := rfl
theorem fs_Measures_places : (fs_Measures a0 a1 a2 a3 a4 a5 a6 a7 a8 a9).lookup ("places" : Str) = some a6 := rfl
theorem fs_Measures_window : (fs_Measures a0 a1 a2 a3 a4 a5 a6 a7 a8 a9).lookup ("window" : Str) = some a7 := rfl
theorem fs_Measures_wait : (fs_Measures a0 a1 a2 a3 a4 a5 a6 a7 a8 a9).lookup ("wait" : Str) = some a8 := rfl
theorem fs_Measures_keep : (fs_Measures a0 a1 a2 a3 a4 a5 a6 a7 a8 a9).lookup ("keep" : Str) = some a9 := rfl
theorem fq_Measures_0 {v : V} : putF "hands" v ([] : List (Str × V)) = ([("hands", v)] : List (Str × V)) := by with_unfolding_all rfl
theorem fq_Measures_1 {v : V} : putF "lag" v ([("hands", a0)] : List (Str × V)) = ([("hands", a0), ("lag", v)] : List (Str × V)) := by with_unfolding_all rfl
theorem fq_Measures_2 {v : V} : putF "miss" v ([("hands", a0), ("lag", a1)] : List (Str × V)) = ([("hands", a0), ("lag", a1), ("miss", v)] : List (Str × V)) := by with_unfolding_all rfl
theorem fq_Measures_3 {v : V} : putF "raise_each" v ([("hands", a0), ("lag", a1), ("miss", a2)] : List (Str × V)) = ([("hands", a0), ("lag", a1), ("miss", a2), ("raise_each", v)] : List (Str × V)) := by with_unfolding_all rfl
theorem fq_Measures_4 {v : V} : putF "count" v ([("hands", a0), ("lag", a1), ("miss", a2), ("raise_each", a3)] : List (Str × V)) = ([("hands", a0), ("lag", a1), ("miss", a2), ("raise_each", a3), ("count", v)] : List (Str × V)) := by with_unfolding_all rfl
theorem fq_Measures_5 {v : V} : putF "room" v ([("hands", a0), ("lag", a1), ("miss", a2), ("raise_each", a3), ("count", a4)] : List (Str × V)) = ([("hands", a0), ("lag", a1), ("miss", a2), ("raise_each", a3), ("count", a4), ("room", v)] : List (Str × V)) := by with_unfolding_all rfl
theorem fq_Measures_6 {v : V} : putF "places" v ([("hands", a0), ("lag", a1), ("miss", a2), ("raise_each", a3), ("count", a4), ("room", a5)] : List (Str × V)) = ([("hands", a0), ("lag", a1), ("miss", a2), ("raise_each", a3), ("count", a4), ("room", a5), ("places", v)] : List (Str × V)) := by with_unfolding_all rfl
theorem fq_Measures_7 {v : V} : putF "window" v ([("hands", a0), ("lag", a1), ("miss", a2), ("raise_each", a3), ("count", a4), ("room", a5), ("places", a6)] : List (Str × V)) = ([("hands", a0), ("lag", a1), ("miss", a2), ("raise_each", a3), ("count", a4), ("room", a5), ("places", a6), ("window", v)] : List (Str × V)) := by with_unfolding_all rfl
theorem fq_Measures_8 {v : V} : putF "wait" v ([("hands", a0), ("lag", a1), ("miss", a2), ("raise_each", a3), ("count", a4), ("room", a5), ("places", a6), ("window", a7)] : List (Str × V)) = ([("hands", a0), ("lag", a1), ("miss", a2), ("raise_each", a3), ("count", a4), ("room", a5), ("places", a6), ("window", a7), ("wait", v)] : List (Str × V)) := by with_unfolding_all rfl
theorem fq_Measures_9 {v : V} : putF "keep" v ([("hands", a0), ("lag", a1), ("miss", a2), ("raise_each", a3), ("count", a4), ("room", a5), ("places", a6), ("window", a7), ("wait", a8)] : List (Str × V)) = fs_Measures a0 a1 a2 a3 a4 a5 a6 a7 a8 v := by with_unfolding_all rfl
end
abbrev s_Measures___init__ : Stmt := inClass (stm 22) 0
theorem sc_Measures___init__ : FnScope ["self", "hands", "lag", "miss", "raise_each", "count", "room", "places", "window", "wait", "keep"] ["self", "hands", "lag", "miss", "raise_each", "count", "room", "places", "window", "wait", "keep"] (defScope s_Measures___init__) := ⟨rfl, rfl, rfl, by decide +kernel, rfl, by decide +kernel, by decide +kernel⟩
abbrev s_Measures_numbers : Stmt := inClass (stm 22) 1
theorem sc_Measures_numbers : FnScope ["self"] ["self"] (defScope s_Measures_numbers) := ⟨rfl, rfl, rfl, by decide +kernel, rfl, by decide +kernel, by decide +kernel⟩
section
variable {P : Program} {w : World} {K : PySem.W.Frag} {mg : Str → Option Value} {base : Heap} {C R cM : Addr}
structure Mv where
  hands : V
  lag : V
  miss : V
  each : V
  count : V
  room : V
  places : V
  window : V
  wait : V
  keep : V
def Mv.l (m : Mv) : List V := [m.hands, m.lag, m.miss, m.each, m.count, m.room, m.places, m.window, m.wait, m.keep]
abbrev fsV (m : Mv) : List (Str × V) := fs_Measures m.hands m.lag m.miss m.each m.count m.room m.places m.window m.wait m.keep
def sp_minitE (C cM : Addr) : Sp := fun vs H Q E => ∃ (x dx : Addr) (m : Mv), vs = [.ref x, m.hands, m.lag, m.miss, m.each, m.count, m.room, m.places, m.window, m.wait, m.keep] ∧ H x = some (.ins C dx []) ∧ (∀ v ∈ m.l, PlV v) ∧
  (okAll m.l → ∀ H', H' x = some (.ins C dx (fsV m)) → Keep [x] H H' → Q .non H') ∧ (¬ okAll m.l → ∀ e H', Same H H' → H' e = some (XO e cM none) → E (.ref e) none H')
theorem cons_of {α : Type} {us : List α} {n : Nat} (h : us.length = n + 1) : ∃ a r, us = a :: r ∧ r.length = n := by
  cases us with
  | nil => cases h
  | cons a r => exact ⟨a, r, rfl, Nat.succ.inj h⟩
abbrev mσ (x : Addr) (a0 a1 a2 a3 a4 a5 a6 a7 a8 a9 : V) : St := [some (.ref x), some a0, some a1, some a2, some a3, some a4, some a5, some a6, some a7, some a8, some a9]
def gK : List Value → List Value → List Value
  | [u], [w0, w1, w2, w3, w4, w5, w6, w7, w8, w9] => [u, w9, w8, w7, w6, w5, w4, w3, w2, w1, w0]
  | _, _ => []
def gV : List V → List V → List V
  | [u], [w0, w1, w2, w3, w4, w5, w6, w7, w8, w9] => [u, w9, w8, w7, w6, w5, w4, w3, w2, w1, w0]
  | _, _ => []
theorem gK_or (us ws : List Value) : (∃ u w0 w1 w2 w3 w4 w5 w6 w7 w8 w9, us = [u] ∧ ws = [w0, w1, w2, w3, w4, w5, w6, w7, w8, w9]) ∨ gK us ws = [] := by
  unfold gK
  split
  · exact .inl ⟨_, _, _, _, _, _, _, _, _, _, _, rfl, rfl⟩
  · exact .inr rfl
theorem gV_or (us ws : List V) : (∃ u w0 w1 w2 w3 w4 w5 w6 w7 w8 w9, us = [u] ∧ ws = [w0, w1, w2, w3, w4, w5, w6, w7, w8, w9]) ∨ gV us ws = [] := by
  unfold gV
  split
  · exact .inl ⟨_, _, _, _, _, _, _, _, _, _, _, rfl, rfl⟩
  · exact .inr rfl
theorem vals_cons {v : V} {vs : List V} {us : List Value} (h : Vals (v :: vs) us) : ∃ u r, us = u :: r ∧ RelV v u ∧ Vals vs r := by
  cases h with | cons a b => exact ⟨_, _, rfl, a, b⟩
theorem vals_nil {us : List Value} (h : Vals [] us) : us = [] := by cases h; rfl
theorem vals_nil' {vs : List V} (h : Vals vs []) : vs = [] := by cases h; rfl
theorem vals_cons' {u : Value} {vs : List V} {us : List Value} (h : Vals vs (u :: us)) : ∃ v r, vs = v :: r ∧ RelV v u ∧ Vals r us := by
  cases h with | cons a b => exact ⟨_, _, rfl, a, b⟩
theorem gKV {vs : List V} {us : List Value} {zs : List V} {ws : List Value} (h1 : Vals vs us) (h2 : Vals zs ws) : Vals (gV vs zs) (gK us ws) := by
  rcases gK_or us ws with ⟨u, w0, w1, w2, w3, w4, w5, w6, w7, w8, w9, rfl, rfl⟩ | e
  · obtain ⟨v, r, rfl, a, b⟩ := vals_cons' h1
    obtain rfl := vals_nil' b
    obtain ⟨z0, r, rfl, a0, b⟩ := vals_cons' h2
    obtain ⟨z1, r, rfl, a1, b⟩ := vals_cons' b
    obtain ⟨z2, r, rfl, a2, b⟩ := vals_cons' b
    obtain ⟨z3, r, rfl, a3, b⟩ := vals_cons' b
    obtain ⟨z4, r, rfl, a4, b⟩ := vals_cons' b
    obtain ⟨z5, r, rfl, a5, b⟩ := vals_cons' b
    obtain ⟨z6, r, rfl, a6, b⟩ := vals_cons' b
    obtain ⟨z7, r, rfl, a7, b⟩ := vals_cons' b
    obtain ⟨z8, r, rfl, a8, b⟩ := vals_cons' b
    obtain ⟨z9, r, rfl, a9, b⟩ := vals_cons' b
    obtain rfl := vals_nil' b
    exact .cons a (.cons a9 (.cons a8 (.cons a7 (.cons a6 (.cons a5 (.cons a4 (.cons a3 (.cons a2 (.cons a1 (.cons a0 .nil))))))))))
  · rcases gV_or vs zs with ⟨u, w0, w1, w2, w3, w4, w5, w6, w7, w8, w9, rfl, rfl⟩ | e'
    · obtain ⟨v, r, rfl, a, b⟩ := vals_cons h1
      obtain rfl := vals_nil b
      obtain ⟨y0, r, rfl, a0, b⟩ := vals_cons h2
      obtain ⟨y1, r, rfl, a1, b⟩ := vals_cons b
      obtain ⟨y2, r, rfl, a2, b⟩ := vals_cons b
      obtain ⟨y3, r, rfl, a3, b⟩ := vals_cons b
      obtain ⟨y4, r, rfl, a4, b⟩ := vals_cons b
      obtain ⟨y5, r, rfl, a5, b⟩ := vals_cons b
      obtain ⟨y6, r, rfl, a6, b⟩ := vals_cons b
      obtain ⟨y7, r, rfl, a7, b⟩ := vals_cons b
      obtain ⟨y8, r, rfl, a8, b⟩ := vals_cons b
      obtain ⟨y9, r, rfl, a9, b⟩ := vals_cons b
      obtain rfl := vals_nil b
      cases e
    · rw [e, e']
      exact .nil
set_option maxHeartbeats 8000000 in
theorem own_minitE (D : DefI K C "Measures.__init__" s_Measures___init__) (T_Measures : ClsD K mg "Measures" C at_Measures) (FX_refuse_bad_measures : OwnX P w K mg base 3 "refuse_bad_measures" ["numbers"] (sp_rbmE cM)) : OwnIXK P w K mg base 4 C ["self", "hands", "lag", "miss", "raise_each", "count", "room", "places", "window", "wait", "keep"] ["keep", "wait", "window", "places", "room", "count", "raise_each", "miss", "lag", "hands"] gK gV (sp_minitE C cM) := by
  refine D.ownEK (ks := ["keep", "wait", "window", "places", "room", "count", "raise_each", "miss", "lag", "hands"]) (g := gK) (gV := gV) sc_Measures___init__ (fun _ _ _ _ _ _ us hl => by
    obtain ⟨b0, u0, rfl, h0⟩ := cons_of hl
    obtain ⟨b1, u1, rfl, h1⟩ := cons_of h0
    obtain ⟨b2, u2, rfl, h2⟩ := cons_of h1
    obtain ⟨b3, u3, rfl, h3⟩ := cons_of h2
    obtain ⟨b4, u4, rfl, h4⟩ := cons_of h3
    obtain ⟨b5, u5, rfl, h5⟩ := cons_of h4
    obtain ⟨b6, u6, rfl, h6⟩ := cons_of h5
    obtain ⟨b7, u7, rfl, h7⟩ := cons_of h6
    obtain ⟨b8, u8, rfl, h8⟩ := cons_of h7
    obtain ⟨b9, u9, rfl, h9⟩ := cons_of h8
    obtain ⟨b10, u10, rfl, h10⟩ := cons_of h9
    obtain rfl := List.length_eq_zero_iff.mp h10
    rfl) (fun _ _ _ _ _ _ us ws hl => by
    rcases gK_or us ws with ⟨u, w0, w1, w2, w3, w4, w5, w6, w7, w8, w9, rfl, rfl⟩ | e
    · rfl
    · rw [e] at hl
      cases hl) gKV (fun vs H Q E h => ?_) (fun f cdv A outer s H vs Q E hr h => ?_)
  · obtain ⟨x, dx, m, rfl, _⟩ := h
    rfl
  · obtain ⟨x, dx, m, rfl, e, hi, q, qe⟩ := h
    refine ⟨_, (@pss_cons _ _ _ _ _ (@ps_expr _ _ _ _ (@pe_exc _ _ _ _ (@pex_fn _ _ _ _ _ _ _ _ _ _ _ FX_refuse_bad_measures hr (@pa_cX _ _ _ _ _ (@pe_lst _ _ _ _ (@pa_cX _ _ _ _ _ (@pv _ 1 _ _ (by rfl) (by first | exact Or.inl rfl | exact Or.inr (Or.inl rfl) | exact Or.inr (Or.inr rfl)) (by decide) (by decide)) (@pa_cX _ _ _ _ _ (@pv _ 2 _ _ (by rfl) (by first | exact Or.inl rfl | exact Or.inr (Or.inl rfl) | exact Or.inr (Or.inr rfl)) (by decide) (by decide)) (@pa_cX _ _ _ _ _ (@pv _ 3 _ _ (by rfl) (by first | exact Or.inl rfl | exact Or.inr (Or.inl rfl) | exact Or.inr (Or.inr rfl)) (by decide) (by decide)) (@pa_cX _ _ _ _ _ (@pv _ 4 _ _ (by rfl) (by first | exact Or.inl rfl | exact Or.inr (Or.inl rfl) | exact Or.inr (Or.inr rfl)) (by decide) (by decide)) (@pa_cX _ _ _ _ _ (@pv _ 5 _ _ (by rfl) (by first | exact Or.inl rfl | exact Or.inr (Or.inl rfl) | exact Or.inr (Or.inr rfl)) (by decide) (by decide)) (@pa_cX _ _ _ _ _ (@pv _ 6 _ _ (by rfl) (by first | exact Or.inl rfl | exact Or.inr (Or.inl rfl) | exact Or.inr (Or.inr rfl)) (by decide) (by decide)) (@pa_cX _ _ _ _ _ (@pv _ 7 _ _ (by rfl) (by first | exact Or.inl rfl | exact Or.inr (Or.inl rfl) | exact Or.inr (Or.inr rfl)) (by decide) (by decide)) (@pa_cX _ _ _ _ _ (@pv _ 8 _ _ (by rfl) (by first | exact Or.inl rfl | exact Or.inr (Or.inl rfl) | exact Or.inr (Or.inr rfl)) (by decide) (by decide)) (@pa_cX _ _ _ _ _ (@pv _ 9 _ _ (by rfl) (by first | exact Or.inl rfl | exact Or.inr (Or.inl rfl) | exact Or.inr (Or.inr rfl)) (by decide) (by decide)) (@pa_cX _ _ _ _ _ (@pv _ 10 _ _ (by rfl) (by first | exact Or.inl rfl | exact Or.inr (Or.inl rfl) | exact Or.inr (Or.inr rfl)) (by decide) (by decide)) (@pa_nil _) (by rfl)) (by rfl)) (by rfl)) (by rfl)) (by rfl)) (by rfl)) (by rfl)) (by rfl)) (by rfl)) (by rfl))) (@pa_nil _) (by rfl)) (by decide) (by rfl) (by decide) (by rfl) (by rfl))) (by rfl)) (@pss_cons _ _ _ _ _ (@ps_fld _ _ _ _ _ _ _ _ (@pv _ 0 _ _ (by rfl) (by first | exact Or.inl rfl | exact Or.inr (Or.inl rfl) | exact Or.inr (Or.inr rfl)) (by decide) (by decide)) (@pv _ 1 _ _ (by rfl) (by first | exact Or.inl rfl | exact Or.inr (Or.inl rfl) | exact Or.inr (Or.inr rfl)) (by decide) (by decide)) rfl) (@pss_cons _ _ _ _ _ (@ps_fld _ _ _ _ _ _ _ _ (@pv _ 0 _ _ (by rfl) (by first | exact Or.inl rfl | exact Or.inr (Or.inl rfl) | exact Or.inr (Or.inr rfl)) (by decide) (by decide)) (@pv _ 2 _ _ (by rfl) (by first | exact Or.inl rfl | exact Or.inr (Or.inl rfl) | exact Or.inr (Or.inr rfl)) (by decide) (by decide)) rfl) (@pss_cons _ _ _ _ _ (@ps_fld _ _ _ _ _ _ _ _ (@pv _ 0 _ _ (by rfl) (by first | exact Or.inl rfl | exact Or.inr (Or.inl rfl) | exact Or.inr (Or.inr rfl)) (by decide) (by decide)) (@pv _ 3 _ _ (by rfl) (by first | exact Or.inl rfl | exact Or.inr (Or.inl rfl) | exact Or.inr (Or.inr rfl)) (by decide) (by decide)) rfl) (@pss_cons _ _ _ _ _ (@ps_fld _ _ _ _ _ _ _ _ (@pv _ 0 _ _ (by rfl) (by first | exact Or.inl rfl | exact Or.inr (Or.inl rfl) | exact Or.inr (Or.inr rfl)) (by decide) (by decide)) (@pv _ 4 _ _ (by rfl) (by first | exact Or.inl rfl | exact Or.inr (Or.inl rfl) | exact Or.inr (Or.inr rfl)) (by decide) (by decide)) rfl) (@pss_cons _ _ _ _ _ (@ps_fld _ _ _ _ _ _ _ _ (@pv _ 0 _ _ (by rfl) (by first | exact Or.inl rfl | exact Or.inr (Or.inl rfl) | exact Or.inr (Or.inr rfl)) (by decide) (by decide)) (@pv _ 5 _ _ (by rfl) (by first | exact Or.inl rfl | exact Or.inr (Or.inl rfl) | exact Or.inr (Or.inr rfl)) (by decide) (by decide)) rfl) (@pss_cons _ _ _ _ _ (@ps_fld _ _ _ _ _ _ _ _ (@pv _ 0 _ _ (by rfl) (by first | exact Or.inl rfl | exact Or.inr (Or.inl rfl) | exact Or.inr (Or.inr rfl)) (by decide) (by decide)) (@pv _ 6 _ _ (by rfl) (by first | exact Or.inl rfl | exact Or.inr (Or.inl rfl) | exact Or.inr (Or.inr rfl)) (by decide) (by decide)) rfl) (@pss_cons _ _ _ _ _ (@ps_fld _ _ _ _ _ _ _ _ (@pv _ 0 _ _ (by rfl) (by first | exact Or.inl rfl | exact Or.inr (Or.inl rfl) | exact Or.inr (Or.inr rfl)) (by decide) (by decide)) (@pv _ 7 _ _ (by rfl) (by first | exact Or.inl rfl | exact Or.inr (Or.inl rfl) | exact Or.inr (Or.inr rfl)) (by decide) (by decide)) rfl) (@pss_cons _ _ _ _ _ (@ps_fld _ _ _ _ _ _ _ _ (@pv _ 0 _ _ (by rfl) (by first | exact Or.inl rfl | exact Or.inr (Or.inl rfl) | exact Or.inr (Or.inr rfl)) (by decide) (by decide)) (@pv _ 8 _ _ (by rfl) (by first | exact Or.inl rfl | exact Or.inr (Or.inl rfl) | exact Or.inr (Or.inr rfl)) (by decide) (by decide)) rfl) (@pss_cons _ _ _ _ _ (@ps_fld _ _ _ _ _ _ _ _ (@pv _ 0 _ _ (by rfl) (by first | exact Or.inl rfl | exact Or.inr (Or.inl rfl) | exact Or.inr (Or.inr rfl)) (by decide) (by decide)) (@pv _ 9 _ _ (by rfl) (by first | exact Or.inl rfl | exact Or.inr (Or.inl rfl) | exact Or.inr (Or.inr rfl)) (by decide) (by decide)) rfl) (@pss_one _ _ _ (@ps_fld _ _ _ _ _ _ _ _ (@pv _ 0 _ _ (by rfl) (by first | exact Or.inl rfl | exact Or.inr (Or.inl rfl) | exact Or.inr (Or.inr rfl)) (by decide) (by decide)) (@pv _ 10 _ _ (by rfl) (by first | exact Or.inl rfl | exact Or.inr (Or.inl rfl) | exact Or.inr (Or.inr rfl)) (by decide) (by decide)) rfl)))))))))))), ?_⟩
    obtain ⟨a0, a1, a2, a3, a4, a5, a6, a7, a8, a9⟩ := m
    dsimp only [Mv.l, fsV] at hi q qe ⊢
    refine use1 (fun σ H' => σ = mσ x a0 a1 a2 a3 a4 a5 a6 a7 a8 a9 ∧ Same H H' ∧ okAll [a0, a1, a2, a3, a4, a5, a6, a7, a8, a9]) ?_ (fun X hX => ?_)
    rotate_left
    · simp (maxSteps := 1000000) only [Nat.reduceSub, Nat.reduceAdd, tSeq, tVar, tCons, tNil, tDrop, tLst, L2.start, List.map_cons, List.map_nil, List.length_cons, List.length_nil, List.replicate, List.getElem?_cons_zero, List.getElem?_cons_succ, Option.some.injEq, exists_eq_left', List.append_nil, tCallx, tXE]
      refine ⟨by rw [sizeLine_eq]; decide, ?_⟩
      intro p1 n1
      generalize z1 : upd H p1 _ = H1
      obtain ⟨s1, e1⟩ := new_same z1 n1
      exact ⟨p1, [a0, a1, a2, a3, a4, a5, a6, a7, a8, a9], rfl, e1, rfl, hi, fun hk H2 s2 => hX _ _ ⟨rfl, s1.trans s2, hk⟩, fun hk e H2 s2 he => qe hk e H2 (s1.trans s2) he⟩
    rintro σ H1 ⟨rfl, s1, hk⟩
    have e1 := s1 _ _ e
    have k1 : Keep [x] H H1 := s1.keep
    clear s1 e
    refine use3 (fun σ H' => σ = mσ x a0 a1 a2 a3 a4 a5 a6 a7 a8 a9 ∧ H' x = some (.ins C dx [(Str.ofString "hands", a0), (Str.ofString "lag", a1), (Str.ofString "miss", a2)]) ∧ Keep [x] H H') ?_ (fun X hX => ?_)
    rotate_left
    · simp (maxSteps := 1000000) only [upd_same, upd_upd, Nat.reduceLT, HO.ins.injEq, Nat.reduceAdd, sFld, cxOf_K, tSeq, exists_and_left, tVar, List.length_cons, List.length_nil, List.getElem?_cons_zero, List.getElem?_cons_succ, Option.some.injEq, exists_eq_left', V.ref.injEq, true_and, and_assoc, e1, exc_K, T_Measures.cl, T_Measures.no "hands" (by decide), T_Measures.no "lag" (by decide), T_Measures.no "miss" (by decide), fq_Measures_0, fq_Measures_1, fq_Measures_2, upd_same, upd_upd]
      exact hX _ _ ⟨rfl, upd_same, k1.upd (.inl (.head _))⟩
    clear e1 k1
    rintro σ H1 ⟨rfl, e1, k1⟩
    refine use3 (fun σ H' => σ = mσ x a0 a1 a2 a3 a4 a5 a6 a7 a8 a9 ∧ H' x = some (.ins C dx [(Str.ofString "hands", a0), (Str.ofString "lag", a1), (Str.ofString "miss", a2), (Str.ofString "raise_each", a3), (Str.ofString "count", a4), (Str.ofString "room", a5)]) ∧ Keep [x] H H') ?_ (fun X hX => ?_)
    rotate_left
    · simp (maxSteps := 1000000) only [upd_same, upd_upd, Nat.reduceLT, HO.ins.injEq, Nat.reduceAdd, sFld, cxOf_K, tSeq, exists_and_left, tVar, List.length_cons, List.length_nil, List.getElem?_cons_zero, List.getElem?_cons_succ, Option.some.injEq, exists_eq_left', V.ref.injEq, true_and, and_assoc, e1, exc_K, T_Measures.cl, T_Measures.no "raise_each" (by decide), T_Measures.no "count" (by decide), T_Measures.no "room" (by decide), fq_Measures_3, fq_Measures_4, fq_Measures_5, upd_same, upd_upd]
      exact hX _ _ ⟨rfl, upd_same, k1.upd (.inl (.head _))⟩
    clear e1 k1
    rintro σ H1 ⟨rfl, e1, k1⟩
    simp (maxSteps := 1000000) only [upd_same, upd_upd, Nat.reduceLT, HO.ins.injEq, Nat.reduceAdd, sFld, cxOf_K, tSeq, exists_and_left, tVar, List.length_cons, List.length_nil, List.getElem?_cons_zero, List.getElem?_cons_succ, Option.some.injEq, exists_eq_left', V.ref.injEq, true_and, and_assoc, e1, exc_K, T_Measures.cl, T_Measures.no "places" (by decide), T_Measures.no "window" (by decide), T_Measures.no "wait" (by decide), T_Measures.no "keep" (by decide), fq_Measures_6, fq_Measures_7, fq_Measures_8, fq_Measures_9, upd_same, upd_upd]
    exact q hk _ upd_same (k1.upd (.inl (.head _)))
def sp_mnum (C : Addr) : Sp := fun vs H Q _ => ∃ (x dx : Addr) (m : Mv), vs = [.ref x] ∧ H x = some (.ins C dx (fsV m)) ∧ ∀ p H', H p = none → H' p = some (.lst m.l) → Same H H' → Q (.ref p) H'
theorem own_mnum (D : DefM K C "numbers" "Measures.numbers" s_Measures_numbers) (T_Measures : ClsD K mg "Measures" C at_Measures) : OwnM P w K mg base 1 C "numbers" ["self"] (sp_mnum C) := by
  refine D.own sc_Measures_numbers (fun _ _ _ _ _ _ us hl => match us, hl with | [_], _ => rfl) (fun vs H Q E h => ?_) (fun f cdv A outer s H vs Q E hr h => ?_)
  · obtain ⟨x, dx, m, rfl, _⟩ := h
    rfl
  · obtain ⟨x, dx, m, rfl, e, q⟩ := h
    refine ⟨_, (@pss_one _ _ _ (@ps_ret _ _ _ _ (@pe_lst _ _ _ _ (@pa_cX _ _ _ _ _ (@pe_fldK _ K _ _ _ _ (@pv _ 0 _ _ (by rfl) (by first | exact Or.inl rfl | exact Or.inr (Or.inl rfl) | exact Or.inr (Or.inr rfl)) (by decide) (by decide)) (by rfl) (by rfl)) (@pa_cX _ _ _ _ _ (@pe_fldK _ K _ _ _ _ (@pv _ 0 _ _ (by rfl) (by first | exact Or.inl rfl | exact Or.inr (Or.inl rfl) | exact Or.inr (Or.inr rfl)) (by decide) (by decide)) (by rfl) (by rfl)) (@pa_cX _ _ _ _ _ (@pe_fldK _ K _ _ _ _ (@pv _ 0 _ _ (by rfl) (by first | exact Or.inl rfl | exact Or.inr (Or.inl rfl) | exact Or.inr (Or.inr rfl)) (by decide) (by decide)) (by rfl) (by rfl)) (@pa_cX _ _ _ _ _ (@pe_fldK _ K _ _ _ _ (@pv _ 0 _ _ (by rfl) (by first | exact Or.inl rfl | exact Or.inr (Or.inl rfl) | exact Or.inr (Or.inr rfl)) (by decide) (by decide)) (by rfl) (by rfl)) (@pa_cX _ _ _ _ _ (@pe_fldK _ K _ _ _ _ (@pv _ 0 _ _ (by rfl) (by first | exact Or.inl rfl | exact Or.inr (Or.inl rfl) | exact Or.inr (Or.inr rfl)) (by decide) (by decide)) (by rfl) (by rfl)) (@pa_cX _ _ _ _ _ (@pe_fldK _ K _ _ _ _ (@pv _ 0 _ _ (by rfl) (by first | exact Or.inl rfl | exact Or.inr (Or.inl rfl) | exact Or.inr (Or.inr rfl)) (by decide) (by decide)) (by rfl) (by rfl)) (@pa_cX _ _ _ _ _ (@pe_fldK _ K _ _ _ _ (@pv _ 0 _ _ (by rfl) (by first | exact Or.inl rfl | exact Or.inr (Or.inl rfl) | exact Or.inr (Or.inr rfl)) (by decide) (by decide)) (by rfl) (by rfl)) (@pa_cX _ _ _ _ _ (@pe_fldK _ K _ _ _ _ (@pv _ 0 _ _ (by rfl) (by first | exact Or.inl rfl | exact Or.inr (Or.inl rfl) | exact Or.inr (Or.inr rfl)) (by decide) (by decide)) (by rfl) (by rfl)) (@pa_cX _ _ _ _ _ (@pe_fldK _ K _ _ _ _ (@pv _ 0 _ _ (by rfl) (by first | exact Or.inl rfl | exact Or.inr (Or.inl rfl) | exact Or.inr (Or.inr rfl)) (by decide) (by decide)) (by rfl) (by rfl)) (@pa_cX _ _ _ _ _ (@pe_fldK _ K _ _ _ _ (@pv _ 0 _ _ (by rfl) (by first | exact Or.inl rfl | exact Or.inr (Or.inl rfl) | exact Or.inr (Or.inr rfl)) (by decide) (by decide)) (by rfl) (by rfl)) (@pa_nil _) (by rfl)) (by rfl)) (by rfl)) (by rfl)) (by rfl)) (by rfl)) (by rfl)) (by rfl)) (by rfl)) (by rfl))))), ?_⟩
    simp (maxSteps := 1000000) only [Nat.reduceSub, HO.ins.injEq, Nat.reduceAdd, tFld, exists_and_left, tVar, tRet, tCons, tNil, tLst, L2.start, List.map_cons, List.map_nil, List.length_cons, List.length_nil, List.replicate, List.getElem?_cons_zero, Option.some.injEq, exists_eq_left', V.ref.injEq, true_and, and_assoc, List.append_nil, e, T_Measures.cl, T_Measures.no "hands" (by decide), T_Measures.no "lag" (by decide), T_Measures.no "miss" (by decide), T_Measures.no "raise_each" (by decide), T_Measures.no "count" (by decide), T_Measures.no "room" (by decide), T_Measures.no "places" (by decide), T_Measures.no "window" (by decide), T_Measures.no "wait" (by decide), T_Measures.no "keep" (by decide), fs_Measures_hands, fs_Measures_lag, fs_Measures_miss, fs_Measures_raise_each, fs_Measures_count, fs_Measures_room, fs_Measures_places, fs_Measures_window, fs_Measures_wait, fs_Measures_keep]
    refine ⟨by rw [sizeLine_eq]; decide, fun p hp => q p _ hp ?_ (.upd_new hp)⟩
    exact upd_same
end
end K71
namespace L2
open PySem
def bI (b : Bool) : Int := if b then 1 else 0
def rEqP : R2 := fun x y H Q => match x, y with
  | .bl b, .int i => Q (.bl (decide (bI b = i))) H
  | x, y => rEq x y H Q
def rModP : R2 := fun x y H Q => match x, y with
  | .bl b, .int j => 0 < j ∧ Q (.int (bI b % j)) H
  | x, y => rI (fun _ j => 0 < j) (fun i j => .int (i % j)) x y H Q
section
variable {X : Cx}
theorem op_eqP : OpR X (compareOp .Eq) rEqP := by
  intro pins s σ H x y v u Q I rx ry h
  unfold rEqP at h
  split at h
  · rename_i b i
    cases rx
    obtain ⟨t, rfl⟩ := ry
    refine PySem.EqBoolInt.eq_bool_int (fin_bl I h ?_)
    unfold bI
    rw [Bool.eq_iff_iff]
    simp
  · exact op_eq pins s σ H _ _ v u Q I rx ry h
theorem op_modP : OpR X (binaryOp .Mod) rModP := by
  intro pins s σ H x y v u Q I rx ry h
  unfold rModP at h
  split at h
  · rename_i b j
    cases rx
    obtain ⟨t, rfl⟩ := ry
    refine PySem.IsLeap.wpAny_mod_bool (by omega) ?_
    rw [Int.fmod_eq_emod_of_nonneg _ (by omega)]
    exact ⟨.int (bI b % j), H, I.tok _, ⟨_, rfl⟩, h.2⟩
  · exact op_mod pins s σ H _ _ v u Q I rx ry h
end
theorem rEqP_bi {b : Bool} {i : Int} {H : Hp} {Q : VK} : rEqP (.bl b) (.int i) H Q = Q (.bl (decide (bI b = i))) H := rfl
theorem rEqP_ii {i j : Int} {H : Hp} {Q : VK} : rEqP (.int i) (.int j) H Q = rEq (.int i) (.int j) H Q := rfl
theorem rEqP_ni {j : Int} {H : Hp} {Q : VK} : rEqP .non (.int j) H Q = rEq .non (.int j) H Q := rfl
theorem rEqP_si {x : Str} {j : Int} {H : Hp} {Q : VK} : rEqP (.str x) (.int j) H Q = rEq (.str x) (.int j) H Q := rfl
theorem rModP_bi {b : Bool} {j : Int} {H : Hp} {Q : VK} : rModP (.bl b) (.int j) H Q = (0 < j ∧ Q (.int (bI b % j)) H) := rfl
theorem rModP_ii {i j : Int} {H : Hp} {Q : VK} : rModP (.int i) (.int j) H Q = rI (fun _ j => 0 < j) (fun i j => .int (i % j)) (.int i) (.int j) H Q := rfl
end L2
namespace K71
open PySem L2
abbrev s__law_bounds : Stmt := stm 157
theorem sc__law_bounds : FnScope ["_law_found"] [] (defScope s__law_bounds) := ⟨rfl, rfl, rfl, by decide +kernel, rfl, by decide +kernel, by decide +kernel⟩
abbrev s__law_made : Stmt := stm 159
theorem sc__law_made : FnScope ["_law_told", "_law_a", "_law_b", "_law_c", "_law_d", "_law_e", "_law_f", "_law_g", "_law_h", "_law_i", "_law_j"] ["_law_told"] (defScope s__law_made) := ⟨rfl, rfl, rfl, by decide +kernel, rfl, by decide +kernel, by decide +kernel⟩
section
variable {P : Program} {w : World} {K : PySem.W.Frag} {mg : Str → Option Value} {base : Heap} {C R cM : Addr}
abbrev s__law_mixed : Stmt := stm 155
theorem sc__law_mixed : FnScope ["_law_cell", "_law_k", "_law_number"] ["_law_cell", "_law_k"] (defScope s__law_mixed) := ⟨rfl, rfl, rfl, by decide +kernel, rfl, by decide +kernel, by decide +kernel⟩
abbrev s__law_cell_at : Stmt := stm 156
theorem sc__law_cell_at : FnScope ["_law_script", "_law_k"] ["_law_script", "_law_k"] (defScope s__law_cell_at) := ⟨rfl, rfl, rfl, by decide +kernel, rfl, by decide +kernel, by decide +kernel⟩
def sp_mixed : Sp := fun vs H Q _ => ∃ c k : Int, vs = [.int c, .int k] ∧ 0 ≤ k ∧ k ≤ 1000 ∧ ∀ r : Int, 0 ≤ r → r < 2147483648 → Q (.int r) H
theorem own_mixed (D : Def K mg "_law_mixed" s__law_mixed) : Own P w K mg base 1 "_law_mixed" ["_law_cell", "_law_k"] sp_mixed := by
  refine D.own sc__law_mixed (fun _ _ _ _ _ _ us hl => match us, hl with | [_, _], _ => rfl) (fun vs H Q E h => ?_) (fun f cdv A outer s H vs Q E hr h => ?_)
  · obtain ⟨c, k, rfl, _⟩ := h
    rfl
  · obtain ⟨c, k, rfl, hk0, hk1, q⟩ := h
    refine ⟨_, (@pss_cons _ _ _ _ _ (@ps_if _ _ _ _ _ _ _ _ (@PW.pt _ _ _ (@pw_and _ _ _ _ _ _ _ (@pt_cmpR _ _ _ _ _ _ _ _ op_ge (@pv _ 0 _ _ (by rfl) (by first | exact Or.inl rfl | exact Or.inr (Or.inl rfl) | exact Or.inr (Or.inr rfl)) (by decide) (by decide)) (@pe_op _ _ _ _ _ _ _ _ op_shl (@pe_int _ _ _ _) (@pe_int _ _ _ _)) (nomark _)) (@pw_and _ _ _ _ _ _ _ (@pt_cmpR _ _ _ _ _ _ _ _ op_eq (@pe_op _ _ _ _ _ _ _ _ op_mod (@pv _ 0 _ _ (by rfl) (by first | exact Or.inl rfl | exact Or.inr (Or.inl rfl) | exact Or.inr (Or.inr rfl)) (by decide) (by decide)) (@pe_int _ _ _ _)) (@pe_int _ _ _ _) (nomark _)) (@pw_and1 _ _ _ _ (@pt_cmpR _ _ _ _ _ _ _ _ op_gt (@pe_op _ _ _ _ _ _ _ _ op_shr (@pv _ 0 _ _ (by rfl) (by first | exact Or.inl rfl | exact Or.inr (Or.inl rfl) | exact Or.inr (Or.inr rfl)) (by decide) (by decide)) (@pe_op _ _ _ _ _ _ _ _ op_add (@pe_int _ _ _ _) (@pe_op _ _ _ _ _ _ _ _ op_mul (@pe_int _ _ _ _) (@pv _ 1 _ _ (by rfl) (by first | exact Or.inl rfl | exact Or.inr (Or.inl rfl) | exact Or.inr (Or.inr rfl)) (by decide) (by decide))))) (@pe_int _ _ _ _) (nomark _)))))) (@pss_one _ _ _ (@ps_ret _ _ _ _ (@pe_op _ _ _ _ _ _ _ _ op_mod (@pe_op _ _ _ _ _ _ _ _ op_shr (@pv _ 0 _ _ (by rfl) (by first | exact Or.inl rfl | exact Or.inr (Or.inl rfl) | exact Or.inr (Or.inr rfl)) (by decide) (by decide)) (@pe_op _ _ _ _ _ _ _ _ op_add (@pe_int _ _ _ _) (@pe_op _ _ _ _ _ _ _ _ op_mul (@pe_int _ _ _ _) (@pv _ 1 _ _ (by rfl) (by first | exact Or.inl rfl | exact Or.inr (Or.inl rfl) | exact Or.inr (Or.inr rfl)) (by decide) (by decide))))) (@pe_int _ _ _ _)))) (@pss_nil _)) (@pss_cons _ _ _ _ _ (@ps_set _ _ 2 _ _ _ _ sc__law_mixed.nd rfl (by first | exact Or.inl rfl | exact Or.inr rfl) (@pe_op _ _ _ _ _ _ _ _ op_mod (@pe_op _ _ _ _ _ _ _ _ op_mul (@pe_op _ _ _ _ _ _ _ _ op_add (@pe_op _ _ _ _ _ _ _ _ op_add (@pv _ 0 _ _ (by rfl) (by first | exact Or.inl rfl | exact Or.inr (Or.inl rfl) | exact Or.inr (Or.inr rfl)) (by decide) (by decide)) (@pe_op _ _ _ _ _ _ _ _ op_mul (@pe_int _ _ _ _) (@pv _ 1 _ _ (by rfl) (by first | exact Or.inl rfl | exact Or.inr (Or.inl rfl) | exact Or.inr (Or.inr rfl)) (by decide) (by decide)))) (@pe_int _ _ _ _)) (@pe_int _ _ _ _)) (@pe_int _ _ _ _)) (by rfl) (by first | exact .inl rfl | exact .inr rfl | assumption)) (@pss_cons _ _ _ _ _ (@ps_set _ _ 2 _ _ _ _ sc__law_mixed.nd rfl (by first | exact Or.inl rfl | exact Or.inr rfl) (@pe_op _ _ _ _ _ _ _ _ op_mod (@pe_op _ _ _ _ _ _ _ _ op_mul (@pv _ 2 _ _ (by rfl) (by first | exact Or.inl rfl | exact Or.inr (Or.inl rfl) | exact Or.inr (Or.inr rfl)) (by decide) (by decide)) (@pe_op _ _ _ _ _ _ _ _ op_add (@pe_op _ _ _ _ _ _ _ _ op_fdiv (@pv _ 2 _ _ (by rfl) (by first | exact Or.inl rfl | exact Or.inr (Or.inl rfl) | exact Or.inr (Or.inr rfl)) (by decide) (by decide)) (@pe_int _ _ _ _)) (@pe_int _ _ _ _))) (@pe_int _ _ _ _)) (by rfl) (by first | exact .inl rfl | exact .inr rfl | assumption)) (@pss_one _ _ _ (@ps_ret _ _ _ _ (@pe_op _ _ _ _ _ _ _ _ op_mod (@pe_op _ _ _ _ _ _ _ _ op_mul (@pv _ 2 _ _ (by rfl) (by first | exact Or.inl rfl | exact Or.inr (Or.inl rfl) | exact Or.inr (Or.inr rfl)) (by decide) (by decide)) (@pe_op _ _ _ _ _ _ _ _ op_add (@pe_op _ _ _ _ _ _ _ _ op_add (@pe_op _ _ _ _ _ _ _ _ op_fdiv (@pv _ 2 _ _ (by rfl) (by first | exact Or.inl rfl | exact Or.inr (Or.inl rfl) | exact Or.inr (Or.inr rfl)) (by decide) (by decide)) (@pe_int _ _ _ _)) (@pe_int _ _ _ _)) (@pv _ 1 _ _ (by rfl) (by first | exact Or.inl rfl | exact Or.inr (Or.inl rfl) | exact Or.inr (Or.inr rfl)) (by decide) (by decide)))) (@pe_int _ _ _ _))))))), ?_⟩
    have fin : ∀ a m : Int, 0 < m → m ≤ 2147483648 → Q (.int (a % m)) H := fun a m h0 h1 => q _ (Int.emod_nonneg _ (by omega)) (Int.lt_of_lt_of_le (Int.emod_lt_of_pos _ h0) h1)
    simp only [tDGs, sDPs, rIsB, rIsntB, tMeth, tMake, tDGet, sDPut, tFld, sFld, tDisp, tPairs, tNever, decide_true, decide_false, truV_bl, clsV_ty, V.ty.injEq, exists_eq', exists_eq, Bool.not_true, Bool.not_false, Bool.not_not, rLen, rListOf, rTupOf, rAny, rAll, rIsI, tTru, iRng1, iRng2, iList, tYes, cSt, List.drop_succ_cons, List.drop_zero, cxOf_K, cxC_K,  tBM, tBM0, rAppend, tSl, rSlL, tNoPart, tPart, rIxL, rIxT, rCat, List.cons.injEq, rEq_ii, rNe_ii, rEq_bb, rNe_bb, tSeq, exists_and_left, if_false, if_true, reduceIte, Bool.false_eq_true, tIfS, tAnd, tOr, tNot, tTest, tOp, tUn, tVar, tC, rI, rI0, rU, tRet, tRetN, tAsg, gName, tNext, tAndV, tOrV, tNotV, tIf, tCall, tCons, tNil, tCB, tDrop, tLst, tTup, tChain, L2.start, List.map_cons, List.map_nil, List.length_cons, List.length_nil, List.replicate, List.cons_append, List.nil_append, List.getElem?_cons_zero, List.getElem?_cons_succ, List.set_cons_zero, List.set_cons_succ, Option.some.injEq, exists_eq_left', exists_eq_left, V.int.injEq, V.bl.injEq, V.ref.injEq, V.str.injEq, exists_const, and_true, true_and, reduceCtorEq, false_and, exists_false, or_false, false_or, and_assoc, List.append_nil]
    repeat' (first | refine ⟨?_, ?_⟩ | split)
    all_goals first
      | exact fin _ _ (by decide) (by decide)
      | exact Or.inl ⟨by decide, by decide⟩
      | exact Or.inr ⟨by decide, by decide⟩
      | exact cmul_mod (by decide) (by decide)
      | decide
      | omega
def sp_cell (K : PySem.W.Frag) : Sp := fun vs H Q _ => ∃ (a : Addr) (ns : List Int) (k : Int), vs = [.ref a, .int k] ∧ 0 ≤ k ∧ SqL K H a (ns.map V.int) ∧ ∀ r : Int, Q (.int r) H
theorem own_cell (D : Def K mg "_law_cell_at" s__law_cell_at) (hb : Blt mg) : Own P w K mg base 1 "_law_cell_at" ["_law_script", "_law_k"] (sp_cell K) := by
  refine D.own sc__law_cell_at (fun _ _ _ _ _ _ us hl => match us, hl with | [_, _], _ => rfl) (fun vs H Q E h => ?_) (fun f cdv A outer s H vs Q E hr h => ?_)
  · obtain ⟨a, ns, k, rfl, _⟩ := h
    rfl
  · obtain ⟨a, ns, k, rfl, hk, hS, q⟩ := h
    refine ⟨_, (@pss_cons _ _ _ _ _ (@ps_if _ _ _ _ _ _ _ _ (@pt_cmpR _ _ _ _ _ _ _ _ op_lt (@pv _ 1 _ _ (by rfl) (by first | exact Or.inl rfl | exact Or.inr (Or.inl rfl) | exact Or.inr (Or.inr rfl)) (by decide) (by decide)) (@pe_callB _ _ _ _ _ _ _ _ _ (call_lenK K) rfl (hb _ (by decide)) bt_len (@pa_cX _ _ _ _ _ (@pv _ 0 _ _ (by rfl) (by first | exact Or.inl rfl | exact Or.inr (Or.inl rfl) | exact Or.inr (Or.inr rfl)) (by decide) (by decide)) (@pa_nil _) (by rfl)) (by decide) (by decide) (by rfl) (by rfl)) (nomark _)) (@pss_one _ _ _ (@ps_ret _ _ _ _ (@pe_ix _ _ _ _ _ _ _ (ix_listK K) (@pv _ 0 _ _ (by rfl) (by first | exact Or.inl rfl | exact Or.inr (Or.inl rfl) | exact Or.inr (Or.inr rfl)) (by decide) (by decide)) (@pv _ 1 _ _ (by rfl) (by first | exact Or.inl rfl | exact Or.inr (Or.inl rfl) | exact Or.inr (Or.inr rfl)) (by decide) (by decide)) (fun _ _ => rfl)))) (@pss_nil _)) (@pss_one _ _ _ (@ps_ret _ _ _ _ (@pe_int _ _ _ _)))), ?_⟩
    simp only [tDGs, sDPs, rIsB, rIsntB, tMeth, tMake, tDGet, sDPut, tFld, sFld, tDisp, tPairs, tNever, decide_true, decide_false, truV_bl, clsV_ty, V.ty.injEq, exists_eq', exists_eq, Bool.not_true, Bool.not_false, Bool.not_not, rLen, rListOf, rTupOf, rAny, rAll, rIsI, tTru, iRng1, iRng2, iList, tYes, cSt, List.drop_succ_cons, List.drop_zero, cxOf_K, cxC_K,  tBM, tBM0, rAppend, tSl, rSlL, tNoPart, tPart, rIxL, rIxT, rCat, List.cons.injEq, rEq_ii, rNe_ii, rEq_bb, rNe_bb, tSeq, exists_and_left, if_false, if_true, reduceIte, Bool.false_eq_true, tIfS, tAnd, tOr, tNot, tTest, tOp, tUn, tVar, tC, rI, rI0, rU, tRet, tRetN, tAsg, gName, tNext, tAndV, tOrV, tNotV, tIf, tCall, tCons, tNil, tCB, tDrop, tLst, tTup, tChain, L2.start, List.map_cons, List.map_nil, List.length_cons, List.length_nil, List.replicate, List.cons_append, List.nil_append, List.getElem?_cons_zero, List.getElem?_cons_succ, List.set_cons_zero, List.set_cons_succ, Option.some.injEq, exists_eq_left', exists_eq_left, V.int.injEq, V.bl.injEq, V.ref.injEq, V.str.injEq, exists_const, and_true, true_and, reduceCtorEq, false_and, exists_false, or_false, false_or, and_assoc, List.append_nil]
    refine ⟨_, .inl hS, ite2 (fun h => ?_) (fun _ => q 0)⟩
    have h' := of_decide_eq_true h
    obtain ⟨v, hv, ev⟩ := atI_in (xs := ns.map V.int) hk h'
    obtain ⟨z, _, rfl⟩ := List.mem_map.mp hv
    exact ⟨_, hS, _, ev, q z⟩
def sp_made (C cM : Addr) : Sp := fun vs H Q E => ∃ (a : Addr) (m : Mv), vs = [.ref a] ∧ H a = some (.lst m.l) ∧ (∀ v ∈ m.l, PlV v) ∧
  (okAll m.l → ∀ x dx H', H x = none → H' x = some (.ins C dx (fsV m)) → Same H H' → Q (.ref x) H') ∧ (¬ okAll m.l → ∀ e H', Same H H' → H' e = some (XO e cM none) → E (.ref e) none H')
set_option maxHeartbeats 8000000 in
theorem own_made (D : Def K mg "_law_made" s__law_made) (hb : Blt mg) (T_Measures : ClsD K mg "Measures" C at_Measures)
    (IXK_Measures : OwnIXK P w K mg base 4 C ["self", "hands", "lag", "miss", "raise_each", "count", "room", "places", "window", "wait", "keep"] ["keep", "wait", "window", "places", "room", "count", "raise_each", "miss", "lag", "hands"] gK gV (sp_minitE C cM)) :
    OwnX P w K mg base 6 "_law_made" ["_law_told"] (sp_made C cM) := by
  have IX_Measures := IXK_Measures.own
  refine D.ownE sc__law_made (fun _ _ _ _ _ _ us hl => match us, hl with | [_], _ => rfl) (fun vs H Q E h => ?_) (fun f cdv A outer s H vs Q E hr h => ?_)
  · obtain ⟨a, m, rfl, _⟩ := h
    rfl
  · obtain ⟨a, m, rfl, e, hp, q, qe⟩ := h
    have hu := hr.units
    have hu1 : (A.deeper (PyProof.Rows.envOfC "_law_made" (defScope s__law_made) s.heap.objs.size f cdv)).units + 1 < cLine := by omega
    refine ⟨_, (@pss_cons _ _ _ _ _ (@ps_asg _ _ _ _ _ _ (@pv _ 0 _ _ (by rfl) (by first | exact Or.inl rfl | exact Or.inr (Or.inl rfl) | exact Or.inr (Or.inr rfl)) (by decide) (by decide)) (@pg_seqX _ _ _ _ 10 _ rfl (@pgs_cons _ _ _ _ _ (@pg_name _ _ 1 _ sc__law_made.nd rfl (by first | exact Or.inl rfl | exact Or.inr rfl) (by first | exact .inl rfl | exact .inr rfl | assumption)) (@pgs_cons _ _ _ _ _ (@pg_name _ _ 2 _ sc__law_made.nd rfl (by first | exact Or.inl rfl | exact Or.inr rfl) (by first | exact .inl rfl | exact .inr rfl | assumption)) (@pgs_cons _ _ _ _ _ (@pg_name _ _ 3 _ sc__law_made.nd rfl (by first | exact Or.inl rfl | exact Or.inr rfl) (by first | exact .inl rfl | exact .inr rfl | assumption)) (@pgs_cons _ _ _ _ _ (@pg_name _ _ 4 _ sc__law_made.nd rfl (by first | exact Or.inl rfl | exact Or.inr rfl) (by first | exact .inl rfl | exact .inr rfl | assumption)) (@pgs_cons _ _ _ _ _ (@pg_name _ _ 5 _ sc__law_made.nd rfl (by first | exact Or.inl rfl | exact Or.inr rfl) (by first | exact .inl rfl | exact .inr rfl | assumption)) (@pgs_cons _ _ _ _ _ (@pg_name _ _ 6 _ sc__law_made.nd rfl (by first | exact Or.inl rfl | exact Or.inr rfl) (by first | exact .inl rfl | exact .inr rfl | assumption)) (@pgs_cons _ _ _ _ _ (@pg_name _ _ 7 _ sc__law_made.nd rfl (by first | exact Or.inl rfl | exact Or.inr rfl) (by first | exact .inl rfl | exact .inr rfl | assumption)) (@pgs_cons _ _ _ _ _ (@pg_name _ _ 8 _ sc__law_made.nd rfl (by first | exact Or.inl rfl | exact Or.inr rfl) (by first | exact .inl rfl | exact .inr rfl | assumption)) (@pgs_cons _ _ _ _ _ (@pg_name _ _ 9 _ sc__law_made.nd rfl (by first | exact Or.inl rfl | exact Or.inr rfl) (by first | exact .inl rfl | exact .inr rfl | assumption)) (@pgs_cons _ _ _ _ _ (@pg_name _ _ 10 _ sc__law_made.nd rfl (by first | exact Or.inl rfl | exact Or.inr rfl) (by first | exact .inl rfl | exact .inr rfl | assumption)) (@pgs_nil _) (by rfl)) (by rfl)) (by rfl)) (by rfl)) (by rfl)) (by rfl)) (by rfl)) (by rfl)) (by rfl)) (by rfl)) (by rfl) (by rfl)) (by rfl) (by rfl) (by rfl)) (@pss_cons _ _ _ _ _ (@ps_if _ _ _ _ _ _ _ _ (@PW.pt _ _ _ (@pw_or _ _ _ _ _ _ _ (@pt_cmpR _ _ _ _ _ _ _ _ op_eqP (@pv _ 10 _ _ (by rfl) (by first | exact Or.inl rfl | exact Or.inr (Or.inl rfl) | exact Or.inr (Or.inr rfl)) (by decide) (by decide)) (@pe_int _ _ _ _) (nomark _)) (@pw_or1 _ _ _ _ (@PW.pt _ _ _ (@pw_and _ _ _ _ _ _ _ (@pt_truX _ _ _ (@pe_callB _ _ _ _ _ _ _ _ _ call_isiX rfl (hb _ (by decide)) bt_isinstance (@pa_cX _ _ _ _ _ (@pv _ 10 _ _ (by rfl) (by first | exact Or.inl rfl | exact Or.inr (Or.inl rfl) | exact Or.inr (Or.inr rfl)) (by decide) (by decide)) (@pa_cX _ _ _ _ _ (@pe_bltn _ _ (.ty "int") _ _ rfl (hb _ (by decide)) bt_int rfl (by decide) (by decide)) (@pa_nil _) (by rfl)) (by rfl)) (by decide) (by decide) (by rfl) (by rfl)) (by intro _; rfl)) (@pw_and1 _ _ _ _ (@pt_cmpR _ _ _ _ _ _ _ _ op_eq (@pe_op _ _ _ _ _ _ _ _ op_modP (@pv _ 10 _ _ (by rfl) (by first | exact Or.inl rfl | exact Or.inr (Or.inl rfl) | exact Or.inr (Or.inr rfl)) (by decide) (by decide)) (@pe_int _ _ _ _)) (@pe_int _ _ _ _) (nomark _)))))))) (@pss_one _ _ _ (@ps_ret _ _ _ _ (@pe_exc _ _ _ _ (@pex_makK _ _ _ _ _ _ _ _ _ _ _ _ _ _ IXK_Measures hr T_Measures.mgC (@pk_cons _ _ _ _ _ _ _ (@pv _ 10 _ _ (by rfl) (by first | exact Or.inl rfl | exact Or.inr (Or.inl rfl) | exact Or.inr (Or.inr rfl)) (by decide) (by decide)) (@pk_cons _ _ _ _ _ _ _ (@pv _ 9 _ _ (by rfl) (by first | exact Or.inl rfl | exact Or.inr (Or.inl rfl) | exact Or.inr (Or.inr rfl)) (by decide) (by decide)) (@pk_cons _ _ _ _ _ _ _ (@pv _ 8 _ _ (by rfl) (by first | exact Or.inl rfl | exact Or.inr (Or.inl rfl) | exact Or.inr (Or.inr rfl)) (by decide) (by decide)) (@pk_cons _ _ _ _ _ _ _ (@pv _ 7 _ _ (by rfl) (by first | exact Or.inl rfl | exact Or.inr (Or.inl rfl) | exact Or.inr (Or.inr rfl)) (by decide) (by decide)) (@pk_cons _ _ _ _ _ _ _ (@pv _ 6 _ _ (by rfl) (by first | exact Or.inl rfl | exact Or.inr (Or.inl rfl) | exact Or.inr (Or.inr rfl)) (by decide) (by decide)) (@pk_cons _ _ _ _ _ _ _ (@pv _ 5 _ _ (by rfl) (by first | exact Or.inl rfl | exact Or.inr (Or.inl rfl) | exact Or.inr (Or.inr rfl)) (by decide) (by decide)) (@pk_cons _ _ _ _ _ _ _ (@pv _ 4 _ _ (by rfl) (by first | exact Or.inl rfl | exact Or.inr (Or.inl rfl) | exact Or.inr (Or.inr rfl)) (by decide) (by decide)) (@pk_cons _ _ _ _ _ _ _ (@pv _ 3 _ _ (by rfl) (by first | exact Or.inl rfl | exact Or.inr (Or.inl rfl) | exact Or.inr (Or.inr rfl)) (by decide) (by decide)) (@pk_cons _ _ _ _ _ _ _ (@pv _ 2 _ _ (by rfl) (by first | exact Or.inl rfl | exact Or.inr (Or.inl rfl) | exact Or.inr (Or.inr rfl)) (by decide) (by decide)) (@pk_cons _ _ _ _ _ _ _ (@pv _ 1 _ _ (by rfl) (by first | exact Or.inl rfl | exact Or.inr (Or.inl rfl) | exact Or.inr (Or.inr rfl)) (by decide) (by decide)) (@pk_nil _))))))))))) (by decide) (by rfl) (by decide) (by rfl) (by rfl) (by rfl))))) (@pss_nil _)) (@pss_one _ _ _ (@ps_ret _ _ _ _ (@pe_exc _ _ _ _ (@pex_mak _ _ _ _ _ _ _ _ _ _ _ _ IX_Measures hr T_Measures.mgC (@pa_cX _ _ _ _ _ (@pv _ 1 _ _ (by rfl) (by first | exact Or.inl rfl | exact Or.inr (Or.inl rfl) | exact Or.inr (Or.inr rfl)) (by decide) (by decide)) (@pa_cX _ _ _ _ _ (@pv _ 2 _ _ (by rfl) (by first | exact Or.inl rfl | exact Or.inr (Or.inl rfl) | exact Or.inr (Or.inr rfl)) (by decide) (by decide)) (@pa_cX _ _ _ _ _ (@pv _ 3 _ _ (by rfl) (by first | exact Or.inl rfl | exact Or.inr (Or.inl rfl) | exact Or.inr (Or.inr rfl)) (by decide) (by decide)) (@pa_cX _ _ _ _ _ (@pv _ 4 _ _ (by rfl) (by first | exact Or.inl rfl | exact Or.inr (Or.inl rfl) | exact Or.inr (Or.inr rfl)) (by decide) (by decide)) (@pa_cX _ _ _ _ _ (@pv _ 5 _ _ (by rfl) (by first | exact Or.inl rfl | exact Or.inr (Or.inl rfl) | exact Or.inr (Or.inr rfl)) (by decide) (by decide)) (@pa_cX _ _ _ _ _ (@pv _ 6 _ _ (by rfl) (by first | exact Or.inl rfl | exact Or.inr (Or.inl rfl) | exact Or.inr (Or.inr rfl)) (by decide) (by decide)) (@pa_cX _ _ _ _ _ (@pv _ 7 _ _ (by rfl) (by first | exact Or.inl rfl | exact Or.inr (Or.inl rfl) | exact Or.inr (Or.inr rfl)) (by decide) (by decide)) (@pa_cX _ _ _ _ _ (@pv _ 8 _ _ (by rfl) (by first | exact Or.inl rfl | exact Or.inr (Or.inl rfl) | exact Or.inr (Or.inr rfl)) (by decide) (by decide)) (@pa_cX _ _ _ _ _ (@pv _ 9 _ _ (by rfl) (by first | exact Or.inl rfl | exact Or.inr (Or.inl rfl) | exact Or.inr (Or.inr rfl)) (by decide) (by decide)) (@pa_cX _ _ _ _ _ (@pv _ 10 _ _ (by rfl) (by first | exact Or.inl rfl | exact Or.inr (Or.inl rfl) | exact Or.inr (Or.inr rfl)) (by decide) (by decide)) (@pa_nil _) (by rfl)) (by rfl)) (by rfl)) (by rfl)) (by rfl)) (by rfl)) (by rfl)) (by rfl)) (by rfl)) (by rfl)) (by decide) (by rfl) (by decide) (by rfl) (by rfl))))))), ?_⟩
    obtain ⟨a0, a1, a2, a3, a4, a5, a6, a7, a8, a9⟩ := m
    dsimp only [Mv.l, fsV] at e hp q qe ⊢
    have h9 : PlV a9 := hp a9 (by simp)
    refine use1 (fun σ H' => σ = [some (.ref a), some a0, some a1, some a2, some a3, some a4, some a5, some a6, some a7, some a8, some a9] ∧ H' = H) ?_ (fun X hX => ?_)
    rotate_left
    · simp (maxSteps := 1000000) only [gSeqX, seqO_l, gCons, gNil, Nat.reduceSub, Nat.reduceAdd, List.cons.injEq, tSeq, exists_and_left, tVar, tAsg, gName, L2.start, List.map_cons, List.map_nil, List.length_cons, List.length_nil, List.replicate, List.cons_append, List.nil_append, List.getElem?_cons_zero, List.set_cons_zero, List.set_cons_succ, Option.some.injEq, exists_eq_left', V.ref.injEq, true_and, and_assoc, e]
      exact hX _ _ ⟨rfl, rfl⟩
    rintro σ H1 ⟨rfl, rfl⟩
    have made : ∀ x dx, H1 x = none → H1 dx = none → ¬ dx = x → sp_minitE C cM [V.ref x, a0, a1, a2, a3, a4, a5, a6, a7, a8, a9] (upd (upd H1 dx (HO.own x)) x (HO.ins C dx [])) (fun v H2 => v = V.non ∧ Q (V.ref x) H2) (xk fun e H' => E (Value.ref e) none H') := fun x dx hx hdx hne => by
      have s1 : Same H1 (upd (upd H1 dx (HO.own x)) x (HO.ins C dx [])) := ((Same.refl H1).upd hdx).upd hx
      refine ⟨x, dx, ⟨a0, a1, a2, a3, a4, a5, a6, a7, a8, a9⟩, rfl, upd_same, hp, fun hk H' e' k' => ⟨rfl, q hk x dx H' hx e' fun b o h => k' b o (s1 b o h) fun hm => ?_⟩, fun hk e H' s' he => qe hk e H' (s1.trans s') he⟩
      rw [List.mem_singleton] at hm
      rw [hm, hx] at h
      cases h
    cases h9 with
    | int i =>
      simp (maxSteps := 1000000) only [rIsIX, tyX_i, V.ty.injEq, kT_inin, tTruX, truX_b, Int.reduceLT, ne_eq, V.ty.injEq, List.cons.injEq, rEq_ii, tSeq, exists_and_left, if_false, if_true, Bool.false_eq_true, tIfS, tAnd, tOr, tTest, tOp, tVar, tC, rI, tRet, tNext, tCons, tNil, tCB, List.getElem?_cons_zero, List.getElem?_cons_succ, Option.some.injEq, exists_eq_left', V.int.injEq, V.bl.injEq, and_true, true_and, and_assoc, tMakex, tXE, tMakexK, rEqP_ii, rModP_ii]
      exact ite2 (fun _ => made) fun _ => ite2 (fun _ => made) fun _ => made
    | bl i =>
      simp (maxSteps := 1000000) only [rIsIX, tyX_b, V.ty.injEq, kT_boin, tTruX, truX_b, Int.reduceLT, ne_eq, V.ty.injEq, List.cons.injEq, rEq_ii, tSeq, exists_and_left, if_false, if_true, Bool.false_eq_true, tIfS, tAnd, tOr, tTest, tOp, tVar, tC, tRet, tNext, tCons, tNil, tCB, List.getElem?_cons_zero, List.getElem?_cons_succ, Option.some.injEq, exists_eq_left', V.bl.injEq, and_true, true_and, and_assoc, tMakex, tXE, tMakexK, rEqP_bi, rModP_bi]
      exact ite2 (fun _ => made) fun _ => ite2 (fun _ => made) fun _ => made
    | non =>
      simp (maxSteps := 1000000) only [rEq_ni, rIsIX, tyX_n, V.ty.injEq, kT_Noin, tTruX, truX_b, ne_eq, V.ty.injEq, List.cons.injEq, tSeq, exists_and_left, if_false, if_true, Bool.false_eq_true, tIfS, tAnd, tOr, tTest, tOp, tVar, tC, tRet, tNext, tCons, tNil, tCB, List.getElem?_cons_zero, List.getElem?_cons_succ, Option.some.injEq, exists_eq_left', V.bl.injEq, and_true, and_assoc, tMakex, tXE, tMakexK, rEqP_ni]
      exact made
    | str x =>
      simp (maxSteps := 1000000) only [rIsIX, tyX_s, V.ty.injEq, kT_stin, tTruX, truX_b, ne_eq, V.ty.injEq, List.cons.injEq, tSeq, exists_and_left, if_false, if_true, Bool.false_eq_true, tIfS, tAnd, tOr, tTest, tOp, tVar, tC, tRet, tNext, tCons, tNil, tCB, List.getElem?_cons_zero, List.getElem?_cons_succ, Option.some.injEq, exists_eq_left', and_true, and_assoc, tMakex, tXE, tMakexK, rEqP_si]
      exact ⟨rfl, _, rfl, iteF made⟩
end
end K71
namespace L2
open PySem PySem.Spec PyProof.Rows
section
variable {prog : Program} {w : World} {A : Around} {E : Value → Shared → Prop} {s : Shared}
namespace F
end F
variable {κ : Type} [DecidableEq κ] {knd : KeyKind prog w κ} {R : Result → Shared → Prop}
end
section
variable {X : Cx} {pins : List (Addr × Obj)} {σ : St} {H : Hp} {s : Shared}
end
end L2
namespace L2
open PySem PySem.Spec PyProof.Rows
theorem same_upd {H H' : Hp} {D : Addr} {o : HO} (s : Same H H') : Same (upd H D o) (upd H' D o) := fun b u e => by
  by_cases h : b = D
  · subst h
    rw [upd_same] at e ⊢
    exact e
  · rw [upd_ne h] at e ⊢
    exact s b u e
theorem paired_imp {α β : Type} {R R' : α → β → Prop} (hR : ∀ a b, R a b → R' a b) : ∀ {l : List α} {m : List β}, Paired R l m → Paired R' l m
  | _, _, .nil => .nil
  | _, _, .cons h t => .cons (hR _ _ h) (paired_imp hR t)
theorem paired_app {α β : Type} {R : α → β → Prop} : ∀ {l l' : List α} {m m' : List β}, Paired R l m → Paired R l' m' → Paired R (l ++ l') (m ++ m')
  | _, _, _, _, .nil, h => h
  | _, _, _, _, .cons h t, h' => .cons h (paired_app t h')
def Gr {α : Type} (Rel : Hp → α → V → Prop) (as : List α) (H1 : Hp) (D : Addr) (i : Nat) (acc : List V) (H : Hp) : Prop := Same H1 H ∧ H D = some (.lst acc) ∧ Paired (fun a v => ∀ z, Rel (upd H D (.lst z)) a v) (as.take i) acc
section
variable {α : Type} {Rel : Hp → α → V → Prop} {as : List α} {H1 H H4 : Hp} {D : Addr} {i : Nat} {acc : List V} {a : α} {v : V}
theorem Gr.zero (hD : H1 D = none) : Gr Rel as H1 D 0 [] (upd H1 D (.lst [])) := ⟨.upd_new hD, upd_same, by rw [List.take_zero]; exact .nil⟩
theorem Gr.len (g : Gr Rel as H1 D i acc H) : acc.length ≤ i := by
  have := g.2.2.length
  rw [List.length_take] at this
  omega
theorem Gr.step (mono : ∀ H H' a v, Same H H' → Rel H a v → Rel H' a v) (g : Gr Rel as H1 D i acc H) (hD : H1 D = none) (ha : as[i]? = some a) (s : Same H H4) (r : ∀ z, Rel (upd H4 D (.lst z)) a v) : H4 D = some (.lst acc) ∧ Gr Rel as H1 D (i + 1) (acc ++ [v]) (upd H4 D (.lst (acc ++ [v]))) := by
  obtain ⟨s1, e, p⟩ := g
  refine ⟨s _ _ e, (s1.trans s).upd hD, upd_same, ?_⟩
  rw [List.take_add_one, ha, Option.toList_some]
  refine paired_app (paired_imp (fun b u h z => ?_) p) (.cons (fun z => ?_) .nil)
  · rw [upd_upd]
    exact mono _ _ _ _ (same_upd s) (h z)
  · rw [upd_upd]
    exact r z
theorem Gr.last (g : Gr Rel as H1 D i acc H) (hi : as.length ≤ i) : Same H1 H ∧ H D = some (.lst acc) ∧ Paired (Rel H) as acc := by
  obtain ⟨s, e, p⟩ := g
  rw [List.take_of_length_le hi] at p
  refine ⟨s, e, paired_imp (fun b u h => ?_) p⟩
  have := h acc
  rw [upd_self e] at this
  exact this
end
section
variable {n : Nat} {js : List Nat} {g : TG} {tc : TT} {te : TE} {σ : St} {Q : VK} {H1 : Hp} {α : Type}
theorem grow_list {K : PySem.W.Frag} {a : Addr} {xs : List V} (hx : SqL K H1 a xs) (hz : xs.length ≤ sizeLine) (as : List α) (hlen : as.length = xs.length) (Rel : Hp → α → V → Prop) (mono : ∀ H H' a v, Same H H' → Rel H a v → Rel H' a v)
    (hs : ∀ D (i : Nat) x b acc H, H1 D = none → xs[i]? = some x → as[i]? = some b → Same H1 H → H D = some (.lst acc) → ∀ (Nx : VK) (Y : Hp → Prop), (∀ v H4, Same H H4 → (∀ z, Rel (upd H4 D (.lst z)) b v) → Nx v H4) → g x (cSt n js σ) H fun σ2 H2 => σ2.drop n = (cSt n js σ).drop n ∧ tc σ2 H2 fun b H3 => if b = true then te σ2 H3 Nx else Y H3)
    (hd : ∀ D vs H, H1 D = none → Same H1 H → H D = some (.lst vs) → Paired (Rel H) as vs → Q (.ref D) H) : CompW n js g tc te σ Q (Itl K a) H1 := by
  refine comp_list (xs := xs) hz (Gr Rel as H1) (fun D hD => Gr.zero hD) (fun D i acc H hD hi p => ⟨p.2.1, p.1.seq hx, p.len⟩) (fun D i x acc H hD hxi p => ?_) (fun D acc H hD p => ?_)
  · have hlt := (List.getElem?_eq_some_iff.mp hxi).1
    exact hs D i x as[i] acc H hD hxi (List.getElem?_eq_getElem _) p.1 p.2.1 _ _ fun v H4 s r => p.step mono hD (List.getElem?_eq_getElem _) s r
  · obtain ⟨h1, h2, h3⟩ := p.last (by omega)
    exact hd D acc H hD h1 h2 h3
end
end L2
namespace K71
open PySem L2
section
variable {P : Program} {w : World} {K : PySem.W.Frag} {mg : Str → Option Value} {base : Heap} {C R cM : Addr} {H H' : Hp}
def lbs : List (Int × Int) := bds.map (·.2)
def TL (H : Hp) (l : Addr) (bs : List (Int × Int)) : Prop := ∃ ps : List Addr, H l = some (.lst (ps.map V.ref)) ∧ Paired (fun b p => H p = some (.tup [.int b.1, .int b.2])) bs ps
def LB1 (H : Hp) (σ : St) (H' : Hp) : Prop := ∃ l, σ = [some (.ref l)] ∧ TL H' l (lbs.take 5) ∧ Same H H'
def sp_bounds : Sp := fun vs H Q _ => vs = [] ∧ ∀ p H', H p = none → TL H' p lbs → Same H H' → Q (.ref p) H'
set_option maxHeartbeats 4000000 in
theorem own_bounds (D : Def K mg "_law_bounds" s__law_bounds) : Own P w K mg base 1 "_law_bounds" [] sp_bounds := by
  refine D.own sc__law_bounds (fun _ _ _ _ _ _ us hl => match us, hl with | [], _ => rfl) (fun vs H Q E h => ?_) (fun f cdv A outer s H vs Q E hr h => ?_)
  · obtain ⟨rfl, _⟩ := h
    rfl
  · obtain ⟨rfl, q⟩ := h
    have hu := hr.units
    have hu1 : (A.deeper (PyProof.Rows.envOfC "_law_bounds" (defScope s__law_bounds) s.heap.objs.size f cdv)).units + 1 < cLine := by omega
    refine ⟨_, (@pss_cons _ _ _ _ _ (@ps_set _ _ 0 _ _ _ _ sc__law_bounds.nd rfl (by first | exact Or.inl rfl | exact Or.inr rfl) (@pe_lst _ _ _ _ (@pa_cX _ _ _ _ _ (@pe_tup _ _ _ _ _ (@pa_cX _ _ _ _ _ (@pe_int _ _ _ _) (@pa_cX _ _ _ _ _ (@pe_int _ _ _ _) (@pa_nil _) (by rfl)) (by rfl))) (@pa_cX _ _ _ _ _ (@pe_tup _ _ _ _ _ (@pa_cX _ _ _ _ _ (@pe_int _ _ _ _) (@pa_cX _ _ _ _ _ (@pe_int _ _ _ _) (@pa_nil _) (by rfl)) (by rfl))) (@pa_cX _ _ _ _ _ (@pe_tup _ _ _ _ _ (@pa_cX _ _ _ _ _ (@pe_int _ _ _ _) (@pa_cX _ _ _ _ _ (@pe_int _ _ _ _) (@pa_nil _) (by rfl)) (by rfl))) (@pa_cX _ _ _ _ _ (@pe_tup _ _ _ _ _ (@pa_cX _ _ _ _ _ (@pe_int _ _ _ _) (@pa_cX _ _ _ _ _ (@pe_int _ _ _ _) (@pa_nil _) (by rfl)) (by rfl))) (@pa_cX _ _ _ _ _ (@pe_tup _ _ _ _ _ (@pa_cX _ _ _ _ _ (@pe_int _ _ _ _) (@pa_cX _ _ _ _ _ (@pe_int _ _ _ _) (@pa_nil _) (by rfl)) (by rfl))) (@pa_nil _) (by rfl)) (by rfl)) (by rfl)) (by rfl)) (by rfl))) (by rfl) (by first | exact .inl rfl | exact .inr rfl | assumption)) (@pss_one _ _ _ (@ps_ret _ _ _ _ (@pe_op _ _ _ _ _ _ _ _ op_cat (@pv _ 0 _ _ (by rfl) (by first | exact Or.inl rfl | exact Or.inr (Or.inl rfl) | exact Or.inr (Or.inr rfl)) (by decide) (by decide)) (@pe_lst _ _ _ _ (@pa_cX _ _ _ _ _ (@pe_tup _ _ _ _ _ (@pa_cX _ _ _ _ _ (@pe_int _ _ _ _) (@pa_cX _ _ _ _ _ (@pe_int _ _ _ _) (@pa_nil _) (by rfl)) (by rfl))) (@pa_cX _ _ _ _ _ (@pe_tup _ _ _ _ _ (@pa_cX _ _ _ _ _ (@pe_int _ _ _ _) (@pa_cX _ _ _ _ _ (@pe_int _ _ _ _) (@pa_nil _) (by rfl)) (by rfl))) (@pa_cX _ _ _ _ _ (@pe_tup _ _ _ _ _ (@pa_cX _ _ _ _ _ (@pe_int _ _ _ _) (@pa_cX _ _ _ _ _ (@pe_int _ _ _ _) (@pa_nil _) (by rfl)) (by rfl))) (@pa_cX _ _ _ _ _ (@pe_tup _ _ _ _ _ (@pa_cX _ _ _ _ _ (@pe_int _ _ _ _) (@pa_cX _ _ _ _ _ (@pe_int _ _ _ _) (@pa_nil _) (by rfl)) (by rfl))) (@pa_cX _ _ _ _ _ (@pe_tup _ _ _ _ _ (@pa_cX _ _ _ _ _ (@pe_int _ _ _ _) (@pa_cX _ _ _ _ _ (@pe_int _ _ _ _) (@pa_nil _) (by rfl)) (by rfl))) (@pa_nil _) (by rfl)) (by rfl)) (by rfl)) (by rfl)) (by rfl))))))), ?_⟩
    refine use1 (LB1 H) ?_ (fun X hX => ?_)
    rotate_left
    · simp (maxSteps := 1000000) only [Nat.reduceSub, Nat.reduceAdd, tSeq, tC, tAsg, gName, tCons, tNil, tLst, tTup, L2.start, List.map_nil, List.length_cons, List.length_nil, List.replicate, List.nil_append, List.set_cons_zero]
      refine ⟨by rw [sizeLine_eq]; decide, ?_⟩
      intro p1 n1
      generalize z1 : upd H p1 _ = H1
      obtain ⟨s1, e1⟩ := new_same z1 n1
      refine ⟨by rw [sizeLine_eq]; decide, ?_⟩
      intro p2 n2
      generalize z2 : upd H1 p2 _ = H2
      obtain ⟨s2, e2⟩ := new_same z2 n2
      refine ⟨by rw [sizeLine_eq]; decide, ?_⟩
      intro p3 n3
      generalize z3 : upd H2 p3 _ = H3
      obtain ⟨s3, e3⟩ := new_same z3 n3
      refine ⟨by rw [sizeLine_eq]; decide, ?_⟩
      intro p4 n4
      generalize z4 : upd H3 p4 _ = H4
      obtain ⟨s4, e4⟩ := new_same z4 n4
      refine ⟨by rw [sizeLine_eq]; decide, ?_⟩
      intro p5 n5
      generalize z5 : upd H4 p5 _ = H5
      obtain ⟨s5, e5⟩ := new_same z5 n5
      refine ⟨by rw [sizeLine_eq]; decide, ?_⟩
      intro p6 n6
      generalize z6 : upd H5 p6 _ = H6
      obtain ⟨s6, e6⟩ := new_same z6 n6
      have t5 := s6
      have t4 := s5.trans t5
      have t3 := s4.trans t4
      have t2 := s3.trans t3
      have t1 := s2.trans t2
      exact hX _ _ ⟨p6, rfl, ⟨[p1, p2, p3, p4, p5], e6, .cons (t1 _ _ e1) (.cons (t2 _ _ e2) (.cons (t3 _ _ e3) (.cons (t4 _ _ e4) (.cons (t5 _ _ e5) .nil))))⟩, s1.trans t1⟩
    rintro σ Ha ⟨la, rfl, ⟨ps, ela, pps⟩, sa⟩
    simp (maxSteps := 1000000) only [upd_same, HO.lst.injEq, Nat.reduceAdd, rCat, exists_and_left, tOp, tVar, tC, tRet, tCons, tNil, tLst, tTup, List.length_cons, List.length_nil, List.getElem?_cons_zero, Option.some.injEq, exists_eq_left', V.ref.injEq]
    refine ⟨by rw [sizeLine_eq]; decide, ?_⟩
    intro p1 n1
    generalize z1 : upd Ha p1 _ = H1
    obtain ⟨s1, e1⟩ := new_same z1 n1
    refine ⟨by rw [sizeLine_eq]; decide, ?_⟩
    intro p2 n2
    generalize z2 : upd H1 p2 _ = H2
    obtain ⟨s2, e2⟩ := new_same z2 n2
    refine ⟨by rw [sizeLine_eq]; decide, ?_⟩
    intro p3 n3
    generalize z3 : upd H2 p3 _ = H3
    obtain ⟨s3, e3⟩ := new_same z3 n3
    refine ⟨by rw [sizeLine_eq]; decide, ?_⟩
    intro p4 n4
    generalize z4 : upd H3 p4 _ = H4
    obtain ⟨s4, e4⟩ := new_same z4 n4
    refine ⟨by rw [sizeLine_eq]; decide, ?_⟩
    intro p5 n5
    generalize z5 : upd H4 p5 _ = H5
    obtain ⟨s5, e5⟩ := new_same z5 n5
    refine ⟨by rw [sizeLine_eq]; decide, ?_⟩
    intro p6 n6
    generalize z6 : upd H5 p6 _ = H6
    obtain ⟨s6, e6⟩ := new_same z6 n6
    have t5 := s6
    have t4 := s5.trans t5
    have t3 := s4.trans t4
    have t2 := s3.trans t3
    have t1 := s2.trans t2
    have sA := s1.trans t1
    have elb := sA _ _ ela
    simp (maxSteps := 1000000) only [HO.lst.injEq, Option.some.injEq, exists_eq_left', elb]
    have pl := pps.length
    refine ⟨by rw [List.length_map, sizeLine_eq, ← pl]; decide, fun p hp => q p _ ((sa.trans sA).free hp) ⟨ps ++ [p1, p2, p3, p4, p5], by rw [upd_same, List.map_append]; rfl, ?_⟩ ((sa.trans sA).trans (.upd_new hp))⟩
    have s9 : Same H6 (upd H6 p (.lst (List.map V.ref ps ++ [V.ref p1, V.ref p2, V.ref p3, V.ref p4, V.ref p5]))) := .upd_new hp
    exact paired_app (l := lbs.take 5) (l' := lbs.drop 5) (paired_imp (fun _ _ x => s9 _ _ (sA _ _ x)) pps) (.cons (s9 _ _ (t1 _ _ e1)) (.cons (s9 _ _ (t2 _ _ e2)) (.cons (s9 _ _ (t3 _ _ e3)) (.cons (s9 _ _ (t4 _ _ e4)) (.cons (s9 _ _ (t5 _ _ e5)) .nil)))))
end
end K71
namespace L2
open PySem PySem.Spec PyProof.Rows
section
variable {X : Cx} {j k : Nat} {x : Str} {ps : List Str} {sp : Sp} {p pos : Pos}
theorem pe_fn0 (F : Own X.prog X.w X.K X.mg X.base j x ps sp) (hr : Room k X.A) (hk : j ≤ k := by decide) (hg : Gl X x := by rfl)
    (hdb : (x == ("__debug__" : Str)) = false := by decide) : PE X (.Call (.Name x p) [] [] pos) (tCall sp [] E0 tNil) := by
  obtain ⟨f, fd, hm, kp, hb, F⟩ := F
  exact pe_call0 F (hr.mono hk) hg hm kp hb .nil pass0 hdb
end
end L2
namespace K71
open PySem L2
abbrev s__law_good : Stmt := stm 158
theorem sc__law_good : FnScope ["_law_cell", "_law_found", "_law_k", "_law_least", "_law_most", "_law_number"] ["_law_cell"] (defScope s__law_good) := ⟨rfl, rfl, rfl, by decide +kernel, rfl, by decide +kernel, by decide +kernel⟩
section
variable {P : Program} {w : World} {K : PySem.W.Frag} {mg : Str → Option Value} {base : Heap} {C R cM : Addr} {H H' : Hp}
def inI (ns : List Int) (bs : List (Int × Int)) : Prop := Paired (fun n b => b.1 ≤ n ∧ n ≤ b.2) ns bs
theorem inI_ok {ns : List Int} (h : inI ns lbs) : okAll (ns.map V.int) := by
  intro i v q h1 h2
  rw [List.getElem?_map] at h1
  obtain ⟨n, hn, rfl⟩ := Option.map_eq_some_iff.mp h1
  obtain ⟨b, hb, h3⟩ := paired_get h hn
  unfold lbs at hb
  rw [List.getElem?_map, h2] at hb
  cases hb
  have h4 : q.2.1 ≤ n := h3.1
  have h5 : n ≤ q.2.2 := h3.2
  change (decide (q.2.1 ≤ n) && decide (n ≤ q.2.2)) = true
  rw [decide_eq_true h4, decide_eq_true h5]
  rfl
def LG (H : Hp) (c : Int) (l : Addr) (i : Nat) (σ : St) (H' : Hp) : Prop := ∃ (v2 v3 v4 v5 : Option V) (ns : List Int), σ = [some (.int c), some (.ref l), v2, v3, v4, v5] ∧ H' l = some (.lst (ns.map V.int)) ∧ inI ns (lbs.take i) ∧ Keep [l] H H'
def sp_good : Sp := fun vs H Q _ => ∃ c : Int, vs = [.int c] ∧ ∀ (p : Addr) (ns : List Int) H', H p = none → H' p = some (.lst (ns.map V.int)) → inI ns lbs → Same H H' → Q (.ref p) H'
set_option maxHeartbeats 4000000 in
theorem own_good (D : Def K mg "_law_good" s__law_good) (hb : Blt mg) (F__law_bounds : Own P w K mg base 1 "_law_bounds" [] sp_bounds) (F__law_mixed : Own P w K mg base 1 "_law_mixed" ["_law_cell", "_law_k"] sp_mixed) : Own P w K mg base 2 "_law_good" ["_law_cell"] sp_good := by
  refine D.own sc__law_good (fun _ _ _ _ _ _ us hl => match us, hl with | [_], _ => rfl) (fun vs H Q E h => ?_) (fun f cdv A outer s H vs Q E hr h => ?_)
  · obtain ⟨c, rfl, _⟩ := h
    rfl
  · obtain ⟨c, rfl, q⟩ := h
    have hu := hr.units
    have hu1 : (A.deeper (PyProof.Rows.envOfC "_law_good" (defScope s__law_good) s.heap.objs.size f cdv)).units + 1 < cLine := by omega
    refine ⟨_, (@pss_cons _ _ _ _ _ (@ps_set _ _ 1 _ _ _ _ sc__law_good.nd rfl (by first | exact Or.inl rfl | exact Or.inr rfl) (@pe_lst _ _ _ _ (@pa_nil _)) (by rfl) (by first | exact .inl rfl | exact .inr rfl | assumption)) (@pss_cons _ _ _ _ _ (@ps_for _ _ _ _ _ _ _ _ PassesOwn.never rfl (@pi_range1 _ _ _ _ _ _ rfl (hb _ (by decide)) (@pa_cX _ _ _ _ _ (@pe_int _ _ _ _) (@pa_nil _) (by rfl)) (by rfl)) (@pg_name _ _ 2 _ sc__law_good.nd rfl (by first | exact Or.inl rfl | exact Or.inr rfl) (by first | exact .inl rfl | exact .inr rfl | assumption)) (@pss_cons _ _ _ _ _ (@ps_asg _ _ _ _ _ _ (@pe_ix _ _ _ _ _ _ _ (ix_get hu1) (@pe_fn0 _ _ _ _ _ _ _ _ F__law_bounds hr (by decide) (by rfl) (by decide)) (@pv _ 2 _ _ (by rfl) (by first | exact Or.inl rfl | exact Or.inr (Or.inl rfl) | exact Or.inr (Or.inr rfl)) (by decide) (by decide)) (fun _ _ => rfl)) (@pg_seqX _ _ _ _ 2 _ rfl (@pgs_cons _ _ _ _ _ (@pg_name _ _ 3 _ sc__law_good.nd rfl (by first | exact Or.inl rfl | exact Or.inr rfl) (by first | exact .inl rfl | exact .inr rfl | assumption)) (@pgs_cons _ _ _ _ _ (@pg_name _ _ 4 _ sc__law_good.nd rfl (by first | exact Or.inl rfl | exact Or.inr rfl) (by first | exact .inl rfl | exact .inr rfl | assumption)) (@pgs_nil _) (by rfl)) (by rfl)) (by rfl) (by rfl)) (by rfl) (by rfl) (by rfl)) (@pss_cons _ _ _ _ _ (@ps_set _ _ 5 _ _ _ _ sc__law_good.nd rfl (by first | exact Or.inl rfl | exact Or.inr rfl) (@pe_fn _ _ _ _ _ _ _ _ _ _ _ F__law_mixed hr (@pa_cX _ _ _ _ _ (@pv _ 0 _ _ (by rfl) (by first | exact Or.inl rfl | exact Or.inr (Or.inl rfl) | exact Or.inr (Or.inr rfl)) (by decide) (by decide)) (@pa_cX _ _ _ _ _ (@pv _ 2 _ _ (by rfl) (by first | exact Or.inl rfl | exact Or.inr (Or.inl rfl) | exact Or.inr (Or.inr rfl)) (by decide) (by decide)) (@pa_nil _) (by rfl)) (by rfl)) (by decide) (by rfl) (by decide) (by rfl) (by rfl)) (by rfl) (by first | exact .inl rfl | exact .inr rfl | assumption)) (@pss_one _ _ _ (@ps_expr _ _ _ _ (@pe_lm _ _ _ _ _ _ _ _ _ _ _ PySem.F.slot_list_append PySem.F.type_list_append mt_append (@pv _ 1 _ _ (by rfl) (by first | exact Or.inl rfl | exact Or.inr (Or.inl rfl) | exact Or.inr (Or.inr rfl)) (by decide) (by decide)) (@pa_cX _ _ _ _ _ (@pe_ix _ _ _ _ _ _ _ (ix_get hu1) (@pe_lst _ _ _ _ (@pa_cX _ _ _ _ _ (@pv _ 3 _ _ (by rfl) (by first | exact Or.inl rfl | exact Or.inr (Or.inl rfl) | exact Or.inr (Or.inr rfl)) (by decide) (by decide)) (@pa_cX _ _ _ _ _ (@pv _ 4 _ _ (by rfl) (by first | exact Or.inl rfl | exact Or.inr (Or.inl rfl) | exact Or.inr (Or.inr rfl)) (by decide) (by decide)) (@pa_cX _ _ _ _ _ (@pe_op _ _ _ _ _ _ _ _ op_add (@pv _ 3 _ _ (by rfl) (by first | exact Or.inl rfl | exact Or.inr (Or.inl rfl) | exact Or.inr (Or.inr rfl)) (by decide) (by decide)) (@pe_op _ _ _ _ _ _ _ _ op_mod (@pe_op _ _ _ _ _ _ _ _ op_fdiv (@pv _ 5 _ _ (by rfl) (by first | exact Or.inl rfl | exact Or.inr (Or.inl rfl) | exact Or.inr (Or.inr rfl)) (by decide) (by decide)) (@pe_int _ _ _ _)) (@pe_op _ _ _ _ _ _ _ _ op_add (@pe_op _ _ _ _ _ _ _ _ op_sub (@pv _ 4 _ _ (by rfl) (by first | exact Or.inl rfl | exact Or.inr (Or.inl rfl) | exact Or.inr (Or.inr rfl)) (by decide) (by decide)) (@pv _ 3 _ _ (by rfl) (by first | exact Or.inl rfl | exact Or.inr (Or.inl rfl) | exact Or.inr (Or.inr rfl)) (by decide) (by decide))) (@pe_int _ _ _ _)))) (@pa_cX _ _ _ _ _ (@pe_op _ _ _ _ _ _ _ _ op_add (@pv _ 3 _ _ (by rfl) (by first | exact Or.inl rfl | exact Or.inr (Or.inl rfl) | exact Or.inr (Or.inr rfl)) (by decide) (by decide)) (@pe_op _ _ _ _ _ _ _ _ op_mod (@pe_op _ _ _ _ _ _ _ _ op_fdiv (@pv _ 5 _ _ (by rfl) (by first | exact Or.inl rfl | exact Or.inr (Or.inl rfl) | exact Or.inr (Or.inr rfl)) (by decide) (by decide)) (@pe_int _ _ _ _)) (@pe_int _ _ _ _))) (@pa_nil _) (by rfl)) (by rfl)) (by rfl)) (by rfl))) (@pe_op _ _ _ _ _ _ _ _ op_mod (@pv _ 5 _ _ (by rfl) (by first | exact Or.inl rfl | exact Or.inr (Or.inl rfl) | exact Or.inr (Or.inr rfl)) (by decide) (by decide)) (@pe_int _ _ _ _)) (fun _ _ => rfl)) (@pa_nil _) (by rfl)) (by rfl) (by rfl) (by rfl) (by rfl) (by rfl)) (by rfl))))) (by intro _; rfl)) (@pss_one _ _ _ (@ps_ret _ _ _ _ (@pv _ 1 _ _ (by rfl) (by first | exact Or.inl rfl | exact Or.inr (Or.inl rfl) | exact Or.inr (Or.inr rfl)) (by decide) (by decide)))))), ?_⟩
    simp (maxSteps := 1000000) only [tFor_eq, Nat.reduceSub, Nat.reduceAdd, iRng1, List.cons.injEq, tSeq, tC, tAsg, gName, tCons, tNil, tLst, L2.start, List.map_cons, List.map_nil, List.length_cons, List.length_nil, List.replicate, List.cons_append, List.nil_append, List.set_cons_zero, List.set_cons_succ, exists_eq_left', V.int.injEq, and_true]
    refine ⟨by rw [sizeLine_eq]; decide, ?_⟩
    intro p1 n1
    generalize z1 : upd H p1 _ = H1
    obtain ⟨s1, e1⟩ := new_same z1 n1
    refine ⟨by decide, by decide, for_range (n := 10) (LG H1 c p1) ⟨none, none, none, none, [], rfl, e1, .nil, .refl⟩ ?_ ?_⟩
    · rintro i σ H2 hi ⟨v2, v3, v4, v5, ns, rfl, e2, hin, k2⟩
      simp (maxSteps := 1000000) only [gSeqX, tBL, rGet, getO_l, gCons, gNil, upd_same, Int.reduceLT, Nat.reduceAdd, rAppend, List.cons.injEq, tSeq, exists_and_left, tOp, tVar, tC, rI, rI0, tAsg, gName, tCall, tCons, tNil, tDrop, tLst, List.length_cons, List.length_nil, List.getElem?_cons_zero, List.getElem?_cons_succ, List.set_cons_zero, List.set_cons_succ, Option.some.injEq, exists_eq_left', V.int.injEq, V.ref.injEq, and_true, true_and, List.append_nil, sp_bounds]
      rintro p H3 np ⟨ps, ep, pps⟩ s3
      have hlt : i < lbs.length := hi
      have hmem : lbs[i] ∈ lbs := List.getElem_mem hlt
      have hbs : ∀ b ∈ lbs, b.1 + 1 ≤ b.2 := by decide
      have h1 := hbs _ hmem
      have eb : lbs[i]? = some lbs[i] := List.getElem?_eq_getElem hlt
      obtain ⟨t, ht, et⟩ := paired_get pps eb
      generalize lbs[i] = bd at et h1 eb hmem
      obtain ⟨lo, hi'⟩ := bd
      dsimp only at et h1
      have e3 := s3 _ _ e2
      have gt : getO (.lst (ps.map V.ref)) (V.int (0 + (i : Int))) = some (.ref t) := by
        rw [Int.zero_add]
        change atI (ps.map V.ref) (i : Int) = _
        rw [atI_nat', List.getElem?_map, ht]
        rfl
      refine ⟨_, ep, _, gt, t, rfl, _, et, _, rfl, rfl, _, _, rfl, _, _, rfl, rfl, c, _, rfl, by omega, by omega, fun r hr0 hr1 => ?_⟩
      have fin : ∀ (n : Int) (p : Addr) (o : HO), lo ≤ n → n ≤ hi' → H3 p = none → ∃ x_1, upd H3 p o p1 = some (HO.lst x_1) ∧ x_1.length < sizeLine ∧ LG H1 c p1 (i + 1) [some (V.int c), some (V.ref p1), some (V.int (0 + (i : Int))), some (V.int lo), some (V.int hi'), some (V.int r)] (upd (upd H3 p o) p1 (HO.lst (x_1 ++ [V.int n]))) := fun n p o hn1 hn2 hp => by
        have s4 : Same H3 (upd H3 p o) := .upd_new hp
        have hl := hin.length
        rw [List.length_take] at hl
        have hl10 : lbs.length = 10 := rfl
        refine ⟨_, s4 _ _ e3, by rw [List.length_map, sizeLine_eq]; omega, _, _, _, _, ns ++ [n], rfl, by rw [upd_same, List.map_append]; rfl, ?_, ?_⟩
        · unfold inI
          rw [List.take_add_one, eb, Option.toList_some]
          exact paired_app hin (.cons ⟨hn1, hn2⟩ .nil)
        · intro b o' h hb
          rw [upd_ne (fun z => hb (by rw [z]; exact .head _))]
          exact s4 _ _ (s3 _ _ (k2 _ _ h hb))
      simp (maxSteps := 1000000) only [HO.lst.injEq, Option.some.injEq, exists_eq_left', V.int.injEq, e3]
      have cd : CDiv r 4 := by first | exact ⟨by decide, by omega⟩ | exact Or.inl ⟨by decide, by decide⟩ | exact Or.inr ⟨by decide, by decide⟩
      refine ⟨cd, by omega, cd, by rw [sizeLine_eq]; decide, fun p hp => ?_⟩
      rw [atI_pos (by omega)]
      have h4 : r % 4 = 0 ∨ r % 4 = 1 ∨ r % 4 = 2 ∨ r % 4 = 3 := by omega
      have hm := Int.emod_nonneg (r / 4) (show hi' - lo + 1 ≠ 0 by omega)
      have hm2 := Int.emod_lt_of_pos (r / 4) (show 0 < hi' - lo + 1 by omega)
      rcases h4 with h | h | h | h
      · rw [h]; exact ⟨_, rfl, fin _ p _ (by omega) (by omega) hp⟩
      · rw [h]; exact ⟨_, rfl, fin _ p _ (by omega) (by omega) hp⟩
      · rw [h]; exact ⟨_, rfl, fin _ p _ (by omega) (by omega) hp⟩
      · rw [h]; exact ⟨_, rfl, fin _ p _ (by omega) (by omega) hp⟩
    · rintro σ H2 ⟨v2, v3, v4, v5, ns, rfl, e2, hin, k2⟩
      simp (maxSteps := 1000000) only [tVar, tRet, List.getElem?_cons_zero, List.getElem?_cons_succ, Option.some.injEq, exists_eq_left']
      refine q p1 ns H2 n1 e2 ?_ fun b o h => k2 b o (s1 _ _ h) ?_
      · exact hin
      · rw [List.mem_singleton]
        rintro rfl
        rw [n1] at h
        cases h
end
end K71
namespace K71
open PySem L2
abbrev s__law_right : Stmt := stm 160
theorem sc__law_right : FnScope ["_law_told", "_law_made_here", "_law_first", "_law_found"] ["_law_told"] (defScope s__law_right) := ⟨rfl, rfl, rfl, by decide +kernel, rfl, by decide +kernel, by decide +kernel⟩
section
variable {P : Program} {w : World} {K : PySem.W.Frag} {mg : Str → Option Value} {base : Heap} {C R cM : Addr} {H H' : Hp}
theorem dt_is {p : Addr} {ns : List Int} (e : H p = some (.lst (ns.map V.int))) : Dt H (.ref p) (.list (ns.map PyData.int)) := .l e (ims_ints ns)
theorem dep_is (ns : List Int) : (PyData.list (ns.map PyData.int)).depth ≤ 60 := by
  have : ∀ ds : List PyData, (∀ d ∈ ds, d.depth ≤ 1) → PyData.depthAll ds ≤ 1 := fun ds => by
    induction ds with
    | nil => intro _; simp [PyData.depthAll]
    | cons d r ih =>
      intro h
      have h1 := h d (.head _)
      have h2 := ih fun x hx => h x (.tail _ hx)
      simp only [PyData.depthAll]
      omega
  have h := this (ns.map PyData.int) fun d hd => by
    obtain ⟨i, _, rfl⟩ := List.mem_map.mp hd
    simp [PyData.depth]
  rw [PyData.depth]
  omega
def sp_right : Sp := fun vs H Q _ => ∃ (a : Addr) (ns : List Int), vs = [.ref a] ∧ H a = some (.lst (ns.map V.int)) ∧ inI ns lbs ∧ ∀ H', Same H H' → Q (.bl true) H'
set_option maxHeartbeats 4000000 in
theorem own_right (D : Def K mg "_law_right" s__law_right) (hb : Blt mg) (T_Measures : ClsD K mg "Measures" C at_Measures) (M_Measures_numbers : OwnM P w K mg base 1 C "numbers" ["self"] (sp_mnum C)) (F__law_made : Own P w K mg base 6 "_law_made" ["_law_told"] (sp0 (sp_made C cM))) :
    Own P w K mg base 7 "_law_right" ["_law_told"] sp_right := by
  refine D.own sc__law_right (fun _ _ _ _ _ _ us hl => match us, hl with | [_], _ => rfl) (fun vs H Q E h => ?_) (fun f cdv A outer s H vs Q E hr h => ?_)
  · obtain ⟨a, ns, rfl, _⟩ := h
    rfl
  · obtain ⟨a, ns, rfl, e, hin, q⟩ := h
    have hu := hr.units
    have hu1 : (A.deeper (PyProof.Rows.envOfC "_law_right" (defScope s__law_right) s.heap.objs.size f cdv)).units + 1 < cLine := by omega
    obtain ⟨m, hm, hp⟩ : ∃ m : Mv, m.l = ns.map V.int ∧ ∀ v ∈ m.l, PlV v := by
      have hl := hin.length
      have hl10 : lbs.length = 10 := rfl
      rw [hl10] at hl
      match ns, hl with
      | [a0, a1, a2, a3, a4, a5, a6, a7, a8, a9], _ =>
        refine ⟨⟨.int a0, .int a1, .int a2, .int a3, .int a4, .int a5, .int a6, .int a7, .int a8, .int a9⟩, rfl, fun v hv => ?_⟩
        obtain ⟨i, _, rfl⟩ := List.mem_map.mp (show v ∈ [a0, a1, a2, a3, a4, a5, a6, a7, a8, a9].map V.int from hv)
        exact .int i
    have ok : okAll m.l := by rw [hm]; exact inI_ok hin
    refine ⟨_, (@pss_cons _ _ _ _ _ (@ps_set _ _ 1 _ _ _ _ sc__law_right.nd rfl (by first | exact Or.inl rfl | exact Or.inr rfl) (@pe_fn _ _ _ _ _ _ _ _ _ _ _ F__law_made hr (@pa_cX _ _ _ _ _ (@pv _ 0 _ _ (by rfl) (by first | exact Or.inl rfl | exact Or.inr (Or.inl rfl) | exact Or.inr (Or.inr rfl)) (by decide) (by decide)) (@pa_nil _) (by rfl)) (by decide) (by rfl) (by decide) (by rfl) (by rfl)) (by rfl) (by first | exact .inl rfl | exact .inr rfl | assumption)) (@pss_cons _ _ _ _ _ (@ps_set _ _ 2 _ _ _ _ sc__law_right.nd rfl (by first | exact Or.inl rfl | exact Or.inr rfl) (@pe_lst _ _ _ _ (@pa_cX _ _ _ _ _ (@pe_fldK _ K _ _ _ _ (@pv _ 1 _ _ (by rfl) (by first | exact Or.inl rfl | exact Or.inr (Or.inl rfl) | exact Or.inr (Or.inr rfl)) (by decide) (by decide)) (by rfl) (by rfl)) (@pa_cX _ _ _ _ _ (@pe_fldK _ K _ _ _ _ (@pv _ 1 _ _ (by rfl) (by first | exact Or.inl rfl | exact Or.inr (Or.inl rfl) | exact Or.inr (Or.inr rfl)) (by decide) (by decide)) (by rfl) (by rfl)) (@pa_cX _ _ _ _ _ (@pe_fldK _ K _ _ _ _ (@pv _ 1 _ _ (by rfl) (by first | exact Or.inl rfl | exact Or.inr (Or.inl rfl) | exact Or.inr (Or.inr rfl)) (by decide) (by decide)) (by rfl) (by rfl)) (@pa_cX _ _ _ _ _ (@pe_fldK _ K _ _ _ _ (@pv _ 1 _ _ (by rfl) (by first | exact Or.inl rfl | exact Or.inr (Or.inl rfl) | exact Or.inr (Or.inr rfl)) (by decide) (by decide)) (by rfl) (by rfl)) (@pa_cX _ _ _ _ _ (@pe_fldK _ K _ _ _ _ (@pv _ 1 _ _ (by rfl) (by first | exact Or.inl rfl | exact Or.inr (Or.inl rfl) | exact Or.inr (Or.inr rfl)) (by decide) (by decide)) (by rfl) (by rfl)) (@pa_nil _) (by rfl)) (by rfl)) (by rfl)) (by rfl)) (by rfl))) (by rfl) (by first | exact .inl rfl | exact .inr rfl | assumption)) (@pss_cons _ _ _ _ _ (@ps_set _ _ 3 _ _ _ _ sc__law_right.nd rfl (by first | exact Or.inl rfl | exact Or.inr rfl) (@pe_mth0 _ _ _ _ _ _ _ _ _ _ _ _ M_Measures_numbers T_Measures.cl hr (@pv _ 1 _ _ (by rfl) (by first | exact Or.inl rfl | exact Or.inr (Or.inl rfl) | exact Or.inr (Or.inr rfl)) (by decide) (by decide)) (by decide) (by rfl)) (by rfl) (by first | exact .inl rfl | exact .inr rfl | assumption)) (@pss_cons _ _ _ _ _ (@ps_if _ _ _ _ _ _ _ _ (@PW.pt _ _ _ (@pw_or _ _ _ _ _ _ _ (@pt_not _ _ _ _ (@pt_truX _ _ _ (@pe_callB _ _ _ _ _ _ _ _ _ call_isiX rfl (hb _ (by decide)) bt_isinstance (@pa_cX _ _ _ _ _ (@pv _ 3 _ _ (by rfl) (by first | exact Or.inl rfl | exact Or.inr (Or.inl rfl) | exact Or.inr (Or.inr rfl)) (by decide) (by decide)) (@pa_cX _ _ _ _ _ (@pe_bltn _ _ (.ty "list") _ _ rfl (hb _ (by decide)) bt_list rfl (by decide) (by decide)) (@pa_nil _) (by rfl)) (by rfl)) (by decide) (by decide) (by rfl) (by rfl)) (by intro _; rfl))) (@pw_or1 _ _ _ _ (@pt_cmpR _ _ _ _ _ _ _ _ (op_neX hu) (@pv _ 3 _ _ (by rfl) (by first | exact Or.inl rfl | exact Or.inr (Or.inl rfl) | exact Or.inr (Or.inr rfl)) (by decide) (by decide)) (@pv _ 0 _ _ (by rfl) (by first | exact Or.inl rfl | exact Or.inr (Or.inl rfl) | exact Or.inr (Or.inr rfl)) (by decide) (by decide)) (nomark _))))) (@pss_one _ _ _ (@ps_ret _ _ _ _ (@pe_bl _ _ _ _))) (@pss_nil _)) (@pss_cons _ _ _ _ _ (@ps_if _ _ _ _ _ _ _ _ (@pt_cmpR _ _ _ _ _ _ _ _ (op_neX hu) (@pe_op _ _ _ _ _ _ _ _ op_cat (@pv _ 2 _ _ (by rfl) (by first | exact Or.inl rfl | exact Or.inr (Or.inl rfl) | exact Or.inr (Or.inr rfl)) (by decide) (by decide)) (@pe_lst _ _ _ _ (@pa_cX _ _ _ _ _ (@pe_fldK _ K _ _ _ _ (@pv _ 1 _ _ (by rfl) (by first | exact Or.inl rfl | exact Or.inr (Or.inl rfl) | exact Or.inr (Or.inr rfl)) (by decide) (by decide)) (by rfl) (by rfl)) (@pa_cX _ _ _ _ _ (@pe_fldK _ K _ _ _ _ (@pv _ 1 _ _ (by rfl) (by first | exact Or.inl rfl | exact Or.inr (Or.inl rfl) | exact Or.inr (Or.inr rfl)) (by decide) (by decide)) (by rfl) (by rfl)) (@pa_cX _ _ _ _ _ (@pe_fldK _ K _ _ _ _ (@pv _ 1 _ _ (by rfl) (by first | exact Or.inl rfl | exact Or.inr (Or.inl rfl) | exact Or.inr (Or.inr rfl)) (by decide) (by decide)) (by rfl) (by rfl)) (@pa_cX _ _ _ _ _ (@pe_fldK _ K _ _ _ _ (@pv _ 1 _ _ (by rfl) (by first | exact Or.inl rfl | exact Or.inr (Or.inl rfl) | exact Or.inr (Or.inr rfl)) (by decide) (by decide)) (by rfl) (by rfl)) (@pa_cX _ _ _ _ _ (@pe_fldK _ K _ _ _ _ (@pv _ 1 _ _ (by rfl) (by first | exact Or.inl rfl | exact Or.inr (Or.inl rfl) | exact Or.inr (Or.inr rfl)) (by decide) (by decide)) (by rfl) (by rfl)) (@pa_nil _) (by rfl)) (by rfl)) (by rfl)) (by rfl)) (by rfl)))) (@pv _ 0 _ _ (by rfl) (by first | exact Or.inl rfl | exact Or.inr (Or.inl rfl) | exact Or.inr (Or.inr rfl)) (by decide) (by decide)) (nomark _)) (@pss_one _ _ _ (@ps_ret _ _ _ _ (@pe_bl _ _ _ _))) (@pss_nil _)) (@pss_cons _ _ _ _ _ (@ps_expr _ _ _ _ (@pe_lm0 _ _ _ _ _ _ _ _ PySem.F.slot_list_clear PySem.F.type_list_clear mt_clear (@pv _ 3 _ _ (by rfl) (by first | exact Or.inl rfl | exact Or.inr (Or.inl rfl) | exact Or.inr (Or.inr rfl)) (by decide) (by decide)) (by rfl) (by rfl)) (by rfl)) (@pss_one _ _ _ (@ps_ret _ _ _ _ (@pe_cmpR _ _ _ _ _ _ _ _ (op_eqX hu) (@pe_mth0 _ _ _ _ _ _ _ _ _ _ _ _ M_Measures_numbers T_Measures.cl hr (@pv _ 1 _ _ (by rfl) (by first | exact Or.inl rfl | exact Or.inr (Or.inl rfl) | exact Or.inr (Or.inr rfl)) (by decide) (by decide)) (by decide) (by rfl)) (@pv _ 0 _ _ (by rfl) (by first | exact Or.inl rfl | exact Or.inr (Or.inl rfl) | exact Or.inr (Or.inr rfl)) (by decide) (by decide)) (nomark _)))))))))), ?_⟩
    simp (maxSteps := 1000000) only [tBL0, rClear, rIsIX, V.ty.injEq, tTruX, truX_b, Nat.reduceSub, upd_same, HO.lst.injEq, Nat.reduceAdd, tMeth, tFld, V.ty.injEq, rCat, List.cons.injEq, tSeq, exists_and_left, if_true, tIfS, tOr, tNot, tTest, tOp, tVar, tC, tRet, tAsg, gName, tNext, tCall, tCons, tNil, tCB, tDrop, tLst, L2.start, List.map_cons, List.map_nil, List.length_cons, List.length_nil, List.replicate, List.cons_append, List.nil_append, List.getElem?_cons_zero, List.getElem?_cons_succ, List.set_cons_zero, List.set_cons_succ, Option.some.injEq, exists_eq_left', V.ref.injEq, and_true, true_and, and_assoc, List.append_nil, sp0]
    refine ⟨a, m, rfl, by rw [hm]; exact e, hp, fun _ x dx H1 nx ex s1 => ?_, fun h => absurd ok h⟩
    have e1 := s1 _ _ e
    rw [← hm] at e1
    simp (maxSteps := 1000000) only [HO.ins.injEq, exists_and_left, Option.some.injEq, exists_eq_left', V.ref.injEq, true_and, and_assoc, ex, T_Measures.cl, T_Measures.no "hands" (by decide), T_Measures.no "lag" (by decide), T_Measures.no "miss" (by decide), T_Measures.no "raise_each" (by decide), T_Measures.no "count" (by decide), fs_Measures_hands, fs_Measures_lag, fs_Measures_miss, fs_Measures_raise_each, fs_Measures_count]
    refine ⟨by rw [sizeLine_eq]; decide, ?_⟩
    intro p2 n2
    generalize z2 : upd H1 p2 _ = H2
    obtain ⟨s2, e2⟩ := new_same z2 n2
    have ex2 := s2 _ _ ex
    refine ⟨_, _, ex2, rfl, x, dx, m, rfl, ex2, fun p3 H3 n3 e3 s3 => ?_⟩
    have ex3 := s3 _ _ ex2
    have ea3 := s3 _ _ (s2 _ _ e1)
    have e23 := s3 _ _ e2
    simp (maxSteps := 1000000) only [tyX_r, tyO_l, kT_lili, Option.bind_some, Bool.not_true, if_false, Bool.false_eq_true, Option.some.injEq, exists_eq_left', V.ref.injEq, e3]
    have e3' := e3
    have ea3' := ea3
    rw [hm] at e3' ea3'
    refine neX_same (dt_is e3') (dt_is ea3') (dep_is ns) ⟨_, rfl, iteF ?_⟩
    simp (maxSteps := 1000000) only [HO.ins.injEq, exists_and_left, Option.some.injEq, exists_eq_left', true_and, and_assoc, ex3, T_Measures.cl, T_Measures.no "room" (by decide), T_Measures.no "places" (by decide), T_Measures.no "window" (by decide), T_Measures.no "wait" (by decide), T_Measures.no "keep" (by decide), fs_Measures_room, fs_Measures_places, fs_Measures_window, fs_Measures_wait, fs_Measures_keep]
    refine ⟨by rw [sizeLine_eq]; decide, ?_⟩
    intro p4 n4
    generalize z4 : upd H3 p4 _ = H4
    obtain ⟨s4, e4⟩ := new_same z4 n4
    have e24 := s4 _ _ e23
    refine ⟨_, e24, by rw [sizeLine_eq]; change 5 + 5 ≤ 16777216; decide, fun p5 n5 => ?_⟩
    have s5 : Same H4 (upd H4 p5 (HO.lst ([m.hands, m.lag, m.miss, m.each, m.count] ++ [m.room, m.places, m.window, m.wait, m.keep]))) := .upd_new n5
    have e5 : upd H4 p5 (HO.lst ([m.hands, m.lag, m.miss, m.each, m.count] ++ [m.room, m.places, m.window, m.wait, m.keep])) p5 = some (.lst m.l) := upd_same
    generalize upd H4 p5 (HO.lst ([m.hands, m.lag, m.miss, m.each, m.count] ++ [m.room, m.places, m.window, m.wait, m.keep])) = H5 at s5 e5 ⊢
    have ea5 := s5 _ _ (s4 _ _ ea3')
    have e35 := s5 _ _ (s4 _ _ e3)
    have ex5 := s5 _ _ (s4 _ _ ex3)
    rw [hm] at e5
    refine neX_same (dt_is e5) (dt_is ea5) (dep_is ns) ⟨_, rfl, iteF ⟨_, e35, _, e35, ?_⟩⟩
    have hx3 : x ≠ p3 := fun h => by rw [h, n3] at ex2; cases ex2
    have ha3 : a ≠ p3 := fun h => by have := s2 _ _ e1; rw [h, n3] at this; cases this
    have ex6 : upd H5 p3 (HO.lst []) x = some (HO.ins C dx (fsV m)) := (upd_ne hx3).trans ex5
    refine ⟨_, _, ex6, rfl, x, dx, m, rfl, ex6, fun p6 H6 n6 e6 s6 => ?_⟩
    have ea6 := s6 _ _ ((upd_ne ha3).trans ea5)
    rw [hm] at e6
    refine eqX_same (dt_is e6) (dt_is ea6) (dep_is ns) (q _ fun b o h => ?_)
    have h2 := s2 _ _ (s1 _ _ h)
    have hb3 : b ≠ p3 := fun z => by rw [z, n3] at h2; cases h2
    exact s6 _ _ ((upd_ne hb3).trans (s5 _ _ (s4 _ _ (s3 _ _ h2))))
end
end K71
namespace K71
open PySem L2
abbrev s__law_refused : Stmt := stm 161
theorem sc__law_refused : FnScope ["_law_told", "_law_fault", "_law_e"] ["_law_told"] (defScope s__law_refused) := ⟨rfl, rfl, rfl, by decide +kernel, rfl, by decide +kernel, by decide +kernel⟩
section
variable {P : Program} {w : World} {K : PySem.W.Frag} {mg : Str → Option Value} {base : Heap} {C R cM cP cR cF cT cN cA cL cW cO : Addr} {H H' : Hp}
def sp_refused : Sp := fun vs H Q _ => ∃ (a : Addr) (m : Mv), vs = [.ref a] ∧ H a = some (.lst m.l) ∧ (∀ v ∈ m.l, PlV v) ∧ ¬ okAll m.l ∧ ∀ H', Same H H' → Q (.bl true) H'
set_option maxHeartbeats 4000000 in
theorem own_refused (D : Def K mg "_law_refused" s__law_refused) (hb : Blt mg) (Z : Ers mg R cM cP cR cF cT cN cA cL cW cO) (XR_RoadError : XKin K R) (XM : XCls K mg "BadMeasures" cM R)
    (kM : PySem.W.kitOne K (.ref cM) (.ref cM) = some true) (kv : PySem.W.kitOne K (.ref cM) (.type "ValueError") = some true) (kn : PySem.W.kitAny K (.ref cM) ([cL, cR, cW, cO].map Value.ref) = some false)
    (FX__law_made : OwnX P w K mg base 6 "_law_made" ["_law_told"] (sp_made C cM)) : Own P w K mg base 7 "_law_refused" ["_law_told"] sp_refused := by
  refine D.own sc__law_refused (fun _ _ _ _ _ _ us hl => match us, hl with | [_], _ => rfl) (fun vs H Q E h => ?_) (fun f cdv A outer s H vs Q E hr h => ?_)
  · obtain ⟨a, m, rfl, _⟩ := h
    rfl
  · obtain ⟨a, m, rfl, e, hp, nok, q⟩ := h
    have hu := hr.units
    have hu1 : (A.deeper (PyProof.Rows.envOfC "_law_refused" (defScope s__law_refused) s.heap.objs.size f cdv)).units + 1 < cLine := by omega
    obtain ⟨hc_RoadError, hc_BadMeasures, hc_BadPast, hc_BadRoad, hc_Full, hc_BadThing, hc_NotNow, hc_BadName, hc_BadLine, hc_BadWish, hc_NoRow, hve⟩ := Z
    refine ⟨_, (@pss_cons _ _ _ _ _ (@ps_set _ _ 1 _ _ _ _ sc__law_refused.nd rfl (by first | exact Or.inl rfl | exact Or.inr rfl) (@pe_non _ _ _) (by rfl) (by first | exact .inl rfl | exact .inr rfl | assumption)) (@pss_cons _ _ _ _ _ (@ps_try _ _ 2 _ _ _ _ _ _ _ _ _ _ sc__law_refused.nd rfl rfl XR_RoadError hc_RoadError (@pssx_one _ _ _ (@psx_expr _ _ _ _ (@pex_fn _ _ _ _ _ _ _ _ _ _ _ FX__law_made hr (@pa_cX _ _ _ _ _ (@pv _ 0 _ _ (by rfl) (by first | exact Or.inl rfl | exact Or.inr (Or.inl rfl) | exact Or.inr (Or.inr rfl)) (by decide) (by decide)) (@pa_nil _) (by rfl)) (by decide) (by rfl) (by decide) (by rfl) (by rfl)) (by rfl))) (fun _ => (@pss_one _ _ _ (@ps_set _ _ 1 _ _ _ _ sc__law_refused.nd rfl (by first | exact Or.inl rfl | exact Or.inr rfl) (@pv _ 2 _ _ (by rfl) (by first | exact Or.inl rfl | exact Or.inr (Or.inl rfl) | exact Or.inr (Or.inr rfl)) (by decide) (by decide)) (by rfl) (by first | exact .inl rfl | exact .inr rfl | assumption)))) (by rfl) (by rfl) (by rfl) (by decide)) (@pss_cons _ _ _ _ _ (@ps_if _ _ _ _ _ _ _ _ (@PW.pt _ _ _ (@pw_or _ _ _ _ _ _ _ (@pt_not _ _ _ _ (@pt_truX _ _ _ (@pe_callB _ _ _ _ _ _ _ _ _ (call_isx K) rfl (hb _ (by decide)) bt_isinstance (@pa_cX _ _ _ _ _ (@pv _ 1 _ _ (by rfl) (by first | exact Or.inl rfl | exact Or.inr (Or.inl rfl) | exact Or.inr (Or.inr rfl)) (by decide) (by decide)) (@pa_cX _ _ _ _ _ (@pe_cls _ _ _ _ hc_BadMeasures (by rfl) (by decide)) (@pa_nil _) (by rfl)) (by rfl)) (by decide) (by decide) (by rfl) (by rfl)) (by intro _; rfl))) (@pw_or1 _ _ _ _ (@pt_not _ _ _ _ (@pt_truX _ _ _ (@pe_callB _ _ _ _ _ _ _ _ _ (call_isx K) rfl (hb _ (by decide)) bt_isinstance (@pa_cX _ _ _ _ _ (@pv _ 1 _ _ (by rfl) (by first | exact Or.inl rfl | exact Or.inr (Or.inl rfl) | exact Or.inr (Or.inr rfl)) (by decide) (by decide)) (@pa_cX _ _ _ _ _ (@pe_bltn _ _ (.ty "ValueError") _ _ rfl hve bt_ValueError rfl (by decide) (by decide)) (@pa_nil _) (by rfl)) (by rfl)) (by decide) (by decide) (by rfl) (by rfl)) (by intro _; rfl)))))) (@pss_one _ _ _ (@ps_ret _ _ _ _ (@pe_bl _ _ _ _))) (@pss_nil _)) (@pss_one _ _ _ (@ps_ret _ _ _ _ (@pe_not _ _ _ _ (@pe_callB _ _ _ _ _ _ _ _ _ (call_isxT K) rfl (hb _ (by decide)) bt_isinstance (@pa_cX _ _ _ _ _ (@pv _ 1 _ _ (by rfl) (by first | exact Or.inl rfl | exact Or.inr (Or.inl rfl) | exact Or.inr (Or.inr rfl)) (by decide) (by decide)) (@pa_cX _ _ _ _ _ (@pe_tup _ _ _ _ _ (@pa_cX _ _ _ _ _ (@pe_cls _ _ _ _ hc_BadLine (by rfl) (by decide)) (@pa_cX _ _ _ _ _ (@pe_cls _ _ _ _ hc_BadRoad (by rfl) (by decide)) (@pa_cX _ _ _ _ _ (@pe_cls _ _ _ _ hc_BadWish (by rfl) (by decide)) (@pa_cX _ _ _ _ _ (@pe_cls _ _ _ _ hc_NoRow (by rfl) (by decide)) (@pa_nil _) (by rfl)) (by rfl)) (by rfl)) (by rfl))) (@pa_nil _) (by rfl)) (by rfl)) (by decide) (by decide) (by rfl) (by rfl)))))))), ?_⟩
    simp (maxSteps := 1000000) only [tTruX, Nat.reduceSub, Nat.reduceAdd, cxOf_K, tSeq, if_true, tIfS, tOr, tNot, tVar, tC, tRet, tAsg, gName, tNext, tNotV, tCons, tNil, tCB, tTup, L2.start, List.map_cons, List.map_nil, List.length_cons, List.length_nil, List.replicate, List.cons_append, List.nil_append, List.getElem?_cons_zero, List.getElem?_cons_succ, List.set_cons_zero, List.set_cons_succ, Option.some.injEq, exists_eq_left', tDropx, tCallx, tTry, unD]
    refine ⟨a, m, rfl, e, hp, fun h => absurd h nok, fun _ x H1 s1 he => ?_⟩
    refine ⟨⟨cM, none, he, XM.sub⟩, isx_exc he XD.none XM.xc kM ⟨true, rfl, iteF (isx_val he XD.none XM.xc kv ⟨true, rfl, iteF ⟨by rw [sizeLine_eq]; decide, fun p hp => ?_⟩⟩)⟩⟩
    have s2 : Same H1 (upd H1 p (HO.tup [V.ref cL, V.ref cR, V.ref cW, V.ref cO])) := .upd_new hp
    exact isxT_exc (cs := [cL, cR, cW, cO]) (s2 _ _ he) XD.none XM.xc upd_same kn ⟨_, rfl, q _ (s1.trans s2)⟩
end
end K71
namespace K71
open PySem L2
abbrev at_Road : List Str := ["deeds", "last_sent", "last_asked", "underway"]
def fs_Road (a0 a1 a2 a3 : V) : List (Str × V) := [("deeds", a0), ("last_sent", a1), ("last_asked", a2), ("underway", a3)]
section
variable {a0 a1 a2 a3 : V}
theorem fs_Road_deeds : (fs_Road a0 a1 a2 a3).lookup ("deeds" : Str) = some a0 := rfl
theorem fs_Road_last_sent : (fs_Road a0 a1 a2 a3).lookup ("last_sent" : Str) = some a1 := rfl
theorem fs_Road_underway : (fs_Road a0 a1 a2 a3).lookup ("underway" : Str) = some a3 := rfl
theorem fn_Road_deed_of : (fs_Road a0 a1 a2 a3).lookup ("deed_of" : Str) = none := rfl
theorem fn_Road_send : (fs_Road a0 a1 a2 a3).lookup ("send" : Str) = none := rfl
theorem fl_Road : ((fs_Road a0 a1 a2 a3).length < 1000) = True := by simp [fs_Road]
theorem fp_Road_last_sent {v : V} : putF "last_sent" v (fs_Road a0 a1 a2 a3) = fs_Road a0 v a2 a3 := by with_unfolding_all rfl
theorem fq_Road_0 {v : V} : putF "deeds" v ([] : List (Str × V)) = ([("deeds", v)] : List (Str × V)) := by with_unfolding_all rfl
theorem fq_Road_1 {v : V} : putF "last_sent" v ([("deeds", a0)] : List (Str × V)) = ([("deeds", a0), ("last_sent", v)] : List (Str × V)) := by with_unfolding_all rfl
theorem fq_Road_2 {v : V} : putF "last_asked" v ([("deeds", a0), ("last_sent", a1)] : List (Str × V)) = ([("deeds", a0), ("last_sent", a1), ("last_asked", v)] : List (Str × V)) := by with_unfolding_all rfl
theorem fq_Road_3 {v : V} : putF "underway" v ([("deeds", a0), ("last_sent", a1), ("last_asked", a2)] : List (Str × V)) = fs_Road a0 a1 a2 v := by with_unfolding_all rfl
end
abbrev s_refuse_bad_road : Stmt := stm 58
theorem sc_refuse_bad_road : FnScope ["deeds", "lag"] ["deeds", "lag"] (defScope s_refuse_bad_road) := ⟨rfl, rfl, rfl, by decide +kernel, rfl, by decide +kernel, by decide +kernel⟩
theorem cs_refuse_bad_road_0 : CScope ["deed"] ["lag"] { kind := .function, names := [(".0", .local), ("deed", .local), ("is_deed", .globalImplicit), ("lag", .free)], isGenerator := false, isCoroutine := false, more := [] } (defScope s_refuse_bad_road) := ⟨rfl, by decide +kernel, by decide +kernel, by decide +kernel, by decide +kernel, by decide +kernel⟩
abbrev s_is_deed : Stmt := stm 57
theorem sc_is_deed : FnScope ["thing", "lag"] ["thing", "lag"] (defScope s_is_deed) := ⟨rfl, rfl, rfl, by decide +kernel, rfl, by decide +kernel, by decide +kernel⟩
abbrev s_Road___init__ : Stmt := inClass (stm 59) 0
theorem sc_Road___init__ : FnScope ["self", "deeds", "lag"] ["self", "deeds", "lag"] (defScope s_Road___init__) := ⟨rfl, rfl, rfl, by decide +kernel, rfl, by decide +kernel, by decide +kernel⟩
section
variable {P : Program} {w : World} {K : PySem.W.Frag} {mg : Str → Option Value} {base : Heap} {C R cM cP cR cF cT cN cA cL cW cO : Addr} {H H' : Hp}
def sp_off : Sp := fun vs _ _ _ => vs.length = 2 ∧ False
theorem own_isdeed (D : Def K mg "is_deed" s_is_deed) : Own P w K mg base 3 "is_deed" ["thing", "lag"] sp_off := by
  refine D.own sc_is_deed (fun _ _ _ _ _ _ us hl => match us, hl with | [_, _], _ => rfl) (fun vs H Q E h => h.1) (fun f cdv A outer s H vs Q E hr h => h.2.elim)
def sp_rbr (cR : Addr) : Sp := fun vs H Q E => ∃ (d : Addr) (g : Int), vs = [.ref d, .int g] ∧ H d = some (.lst []) ∧ (1 ≤ g → g ≤ 32 → ∀ H', Same H H' → Q .non H') ∧ (g < 1 → ∀ e H', Same H H' → H' e = some (XO e cR none) → E (.ref e) none H') ∧ g ≤ 32
set_option maxHeartbeats 4000000 in
theorem own_rbr (D : Def K mg "refuse_bad_road" s_refuse_bad_road) (hb : Blt mg) (g_MOST_LAG : ∃ u, mg "MOST_LAG" = some u ∧ RelV (.int 32) u) (g_MOST_DEEDS : ∃ u, mg "MOST_DEEDS" = some u ∧ RelV (.int 60) u) (g_MOST_DELAYS : ∃ u, mg "MOST_DELAYS" = some u ∧ RelV (.int 3) u)
    (hc_BadRoad : mg "BadRoad" = some (.ref cR)) (Z_BadRoad : XPl K cR) (F_is_within : Own P w K mg base 2 "is_within" ["thing", "least", "most"] sp_withinP) (F_is_deed : Own P w K mg base 3 "is_deed" ["thing", "lag"] sp_off) :
    OwnX P w K mg base 4 "refuse_bad_road" ["deeds", "lag"] (sp_rbr cR) := by
  refine D.ownE sc_refuse_bad_road (fun _ _ _ _ _ _ us hl => match us, hl with | [_, _], _ => rfl) (fun vs H Q E h => ?_) (fun f cdv A outer s H vs Q E hr h => ?_)
  · obtain ⟨d, g, rfl, _⟩ := h
    rfl
  · obtain ⟨d, g, rfl, e, q, qe, hg⟩ := h
    have hu := hr.units
    have hu1 : (A.deeper (PyProof.Rows.envOfC "refuse_bad_road" (defScope s_refuse_bad_road) s.heap.objs.size f cdv)).units + 1 < cLine := by omega
    refine ⟨_, (@pss_cons _ _ _ _ _ (@ps_if _ _ _ _ _ _ _ _ (@pt_not _ _ _ _ (@pt_truX _ _ _ (@pe_fn _ _ _ _ _ _ _ _ _ _ _ F_is_within hr (@pa_cX _ _ _ _ _ (@pv _ 1 _ _ (by rfl) (by first | exact Or.inl rfl | exact Or.inr (Or.inl rfl) | exact Or.inr (Or.inr rfl)) (by decide) (by decide)) (@pa_cX _ _ _ _ _ (@pe_int _ _ _ _) (@pa_cX _ _ _ _ _ (@pe_glb _ _ _ _ g_MOST_LAG (by rfl) (by decide)) (@pa_nil _) (by rfl)) (by rfl)) (by rfl)) (by decide) (by rfl) (by decide) (by rfl) (by rfl)) (by intro _; rfl))) (@pss_one _ _ _ (@ps_exc _ _ _ _ (@psx_raise _ _ _ _ (@pn_new _ _ _ _ _ _ _ _ Z_BadRoad.ex Z_BadRoad.kp hc_BadRoad (@pa_cX _ _ _ _ _ (@pe_fstr _ _ _ _ _ _ (@pj_str _ _ _ _ _ _ _ 34 (by kernel_rfl) (@pj_int _ _ _ _ _ _ _ (@pe_glb _ _ _ _ g_MOST_LAG (by rfl) (by decide)) (@pj_nil _ _ (by decide)) (by decide)) (by decide))) (@pa_nil _) (by rfl)) (by rfl) (by decide) (by rfl) (by rfl)) (by rfl)))) (@pss_nil _)) (@pss_cons _ _ _ _ _ (@ps_if _ _ _ _ _ _ _ _ (@PW.pt _ _ _ (@pw_or _ _ _ _ _ _ _ (@pt_not _ _ _ _ (@pt_truX _ _ _ (@pe_callB _ _ _ _ _ _ _ _ _ call_isiX rfl (hb _ (by decide)) bt_isinstance (@pa_cX _ _ _ _ _ (@pv _ 0 _ _ (by rfl) (by first | exact Or.inl rfl | exact Or.inr (Or.inl rfl) | exact Or.inr (Or.inr rfl)) (by decide) (by decide)) (@pa_cX _ _ _ _ _ (@pe_bltn _ _ (.ty "list") _ _ rfl (hb _ (by decide)) bt_list rfl (by decide) (by decide)) (@pa_nil _) (by rfl)) (by rfl)) (by decide) (by decide) (by rfl) (by rfl)) (by intro _; rfl))) (@pw_or1 _ _ _ _ (@pt_cmpR _ _ _ _ _ _ _ _ op_gt (@pe_callB _ _ _ _ _ _ _ _ _ call_lenX rfl (hb _ (by decide)) bt_len (@pa_cX _ _ _ _ _ (@pv _ 0 _ _ (by rfl) (by first | exact Or.inl rfl | exact Or.inr (Or.inl rfl) | exact Or.inr (Or.inr rfl)) (by decide) (by decide)) (@pa_nil _) (by rfl)) (by decide) (by decide) (by rfl) (by rfl)) (@pe_glb _ _ _ _ g_MOST_DEEDS (by rfl) (by decide)) (nomark _))))) (@pss_one _ _ _ (@ps_exc _ _ _ _ (@psx_raise _ _ _ _ (@pn_new _ _ _ _ _ _ _ _ Z_BadRoad.ex Z_BadRoad.kp hc_BadRoad (@pa_cX _ _ _ _ _ (@pe_fstr _ _ _ _ _ _ (@pj_str _ _ _ _ _ _ _ 28 (by kernel_rfl) (@pj_int _ _ _ _ _ _ _ (@pe_glb _ _ _ _ g_MOST_DEEDS (by rfl) (by decide)) (@pj_nil _ _ (by decide)) (by decide)) (by decide))) (@pa_nil _) (by rfl)) (by rfl) (by decide) (by rfl) (by rfl)) (by rfl)))) (@pss_nil _)) (@pss_one _ _ _ (@ps_if _ _ _ _ _ _ _ _ (@pt_not _ _ _ _ (@pt_truX _ _ _ (@pe_callB _ _ _ _ _ _ _ _ _ (call_allX rfl) rfl (hb _ (by decide)) bt_all (@pa_cX _ _ _ _ _ (@pe_comp _ _ _ _ _ _ _ _ _ _ _ ["deed"] ["lag"] [1] rfl _ cs_refuse_bad_road_0 (@pi_listK _ K _ _ _ (@pv _ 0 _ _ (by rfl) (by first | exact Or.inl rfl | exact Or.inr (Or.inl rfl) | exact Or.inr (Or.inr rfl)) (by decide) (by decide)) (by rfl)) (fun _ _ _ _ => (@pg_name _ _ 0 _ cs_refuse_bad_road_0.nd rfl (by first | exact Or.inl rfl | exact Or.inr rfl) (by first | exact .inl rfl | exact .inr rfl | assumption))) (fun _ _ _ _ => (@pf_nil _)) (fun _ _ _ _ => (@pe_fn _ _ _ _ _ _ _ _ _ _ _ F_is_deed hr (@pa_cX _ _ _ _ _ (@pv _ 0 _ _ (by rfl) (by first | exact Or.inl rfl | exact Or.inr (Or.inl rfl) | exact Or.inr (Or.inr rfl)) (by decide) (by decide)) (@pa_cX _ _ _ _ _ (@pv _ 1 _ _ (by rfl) (by first | exact Or.inl rfl | exact Or.inr (Or.inl rfl) | exact Or.inr (Or.inr rfl)) (by decide) (by decide)) (@pa_nil _) (by rfl)) (by rfl)) (by decide) (by rfl) (by decide) (by rfl) (by rfl))) (by rfl) (by rfl) (by rfl) (by intro _; rfl)) (@pa_nil _) (by rfl)) (by decide) (by decide) (by rfl) (by rfl)) (by intro _; rfl))) (@pss_one _ _ _ (@ps_exc _ _ _ _ (@psx_raise _ _ _ _ (@pn_new _ _ _ _ _ _ _ _ Z_BadRoad.ex Z_BadRoad.kp hc_BadRoad (@pa_cX _ _ _ _ _ (@pe_fstr _ _ _ _ _ _ (@pj_str _ _ _ _ _ _ _ 29 (by kernel_rfl) (@pj_int _ _ _ _ _ _ _ (@pe_glb _ _ _ _ g_MOST_DELAYS (by rfl) (by decide)) (@pj_str _ _ _ _ _ _ _ 31 (by kernel_rfl) (@pj_nil _ _ (by decide)) (by decide)) (by decide)) (by decide))) (@pa_nil _) (by rfl)) (by rfl) (by decide) (by rfl) (by rfl)) (by rfl)))) (@pss_nil _))))), ?_⟩
    simp (maxSteps := 1000000) only [tComp_eq, rAllX, rIsIX, tyX_r, tyO_l, V.ty.injEq, kT_lili, rLenX, lenX_r, lenO_l, Option.bind_some, tTruX, truX_b, Nat.reduceSub, upd_upd, Nat.reduceAdd, V.ty.injEq, Bool.not_true, iList, List.cons.injEq, tSeq, exists_and_left, if_false, if_true, Bool.false_eq_true, tIfS, tOr, tNot, tTest, tOp, tVar, tC, rI0, tNext, tCall, tCons, tNil, tCB, L2.start, List.map_cons, List.map_nil, List.length_cons, List.length_nil, List.replicate, List.getElem?_cons_zero, List.getElem?_cons_succ, Option.some.injEq, exists_eq_left', V.int.injEq, V.bl.injEq, V.ref.injEq, and_true, and_assoc, List.append_nil, e, tRaise, tNew0, tFs, tJi, tJn, tSE, sp_withinP]
    refine ⟨.int g, ?_⟩
    by_cases h1 : 1 ≤ g
    · have ok : okV (.int g) 1 32 = true := by
        change (decide (1 ≤ g) && decide (g ≤ 32)) = true
        rw [decide_eq_true h1, decide_eq_true hg]
        rfl
      rw [ok]
      refine iteF ?_
      rw [if_neg (by decide)]
      refine ⟨⟨_, SqL.of e⟩, grow_list (α := Unit) (SqL.of e) (by rw [sizeLine_eq]; decide) [] rfl (fun _ _ _ => True) (fun _ _ _ _ _ _ => trivial) ?_ ?_⟩
      · rintro D i x k acc H2 hD hx
        cases hx
      · rintro D vs H2 hD s2 eD pr
        cases pr
        exact ⟨D, rfl, [], eD, iteF (q h1 hg _ s2)⟩
    · have ok : okV (.int g) 1 32 = false := by
        change (decide (1 ≤ g) && decide (g ≤ 32)) = false
        rw [decide_eq_false h1]
        rfl
      rw [ok]
      exact iteT ⟨by decide, fun _ => ⟨by decide, fun e' he => qe (by omega) e' _ (.upd_new he) upd_same⟩⟩
end
end K71
namespace K71
open PySem L2
section
variable {P : Program} {w : World} {K : PySem.W.Frag} {mg : Str → Option Value} {base : Heap} {C R cM cP cR cF cT cN cA cL cW cO : Addr} {H H' : Hp}
def sp_rinitE (C cR : Addr) : Sp := fun vs H Q E => ∃ (x dx d : Addr) (g : Int), vs = [.ref x, .ref d, .int g] ∧ H x = some (.ins C dx []) ∧ H d = some (.lst []) ∧ g ≤ 32 ∧
  (1 ≤ g → ∀ l u H', H l = none → H u = none → l ≠ u → H' x = some (.ins C dx (fs_Road (.ref l) .non .non (.ref u))) → H' l = some (.lst []) → H' u = some (.lst []) → Keep [x] H H' → Q .non H') ∧ (g < 1 → ∀ e H', Same H H' → H' e = some (XO e cR none) → E (.ref e) none H')
set_option maxHeartbeats 4000000 in
theorem own_rinitE (D : DefI K C "Road.__init__" s_Road___init__) (hb : Blt mg) (T_Road : ClsD K mg "Road" C at_Road) (FX_refuse_bad_road : OwnX P w K mg base 4 "refuse_bad_road" ["deeds", "lag"] (sp_rbr cR)) : OwnIX P w K mg base 5 C ["self", "deeds", "lag"] (sp_rinitE C cR) := by
  refine D.ownE sc_Road___init__ (fun _ _ _ _ _ _ us hl => match us, hl with | [_, _, _], _ => rfl) (fun vs H Q E h => ?_) (fun f cdv A outer s H vs Q E hr h => ?_)
  · obtain ⟨x, dx, d, g, rfl, _⟩ := h
    rfl
  · obtain ⟨x, dx, d, g, rfl, ex, ed, hg, q, qe⟩ := h
    have hu := hr.units
    have hu1 : (A.deeper (PyProof.Rows.envOfC "Road.__init__" (defScope s_Road___init__) s.heap.objs.size f cdv)).units + 1 < cLine := by omega
    refine ⟨_, (@pss_cons _ _ _ _ _ (@ps_expr _ _ _ _ (@pe_exc _ _ _ _ (@pex_fn _ _ _ _ _ _ _ _ _ _ _ FX_refuse_bad_road hr (@pa_cX _ _ _ _ _ (@pv _ 1 _ _ (by rfl) (by first | exact Or.inl rfl | exact Or.inr (Or.inl rfl) | exact Or.inr (Or.inr rfl)) (by decide) (by decide)) (@pa_cX _ _ _ _ _ (@pv _ 2 _ _ (by rfl) (by first | exact Or.inl rfl | exact Or.inr (Or.inl rfl) | exact Or.inr (Or.inr rfl)) (by decide) (by decide)) (@pa_nil _) (by rfl)) (by rfl)) (by decide) (by rfl) (by decide) (by rfl) (by rfl))) (by rfl)) (@pss_cons _ _ _ _ _ (@ps_fld _ _ _ _ _ _ _ _ (@pv _ 0 _ _ (by rfl) (by first | exact Or.inl rfl | exact Or.inr (Or.inl rfl) | exact Or.inr (Or.inr rfl)) (by decide) (by decide)) (@pe_callTy _ _ _ _ _ _ _ _ _ call_listX rfl (hb _ (by decide)) bt_list (@pa_cX _ _ _ _ _ (@pv _ 1 _ _ (by rfl) (by first | exact Or.inl rfl | exact Or.inr (Or.inl rfl) | exact Or.inr (Or.inr rfl)) (by decide) (by decide)) (@pa_nil _) (by rfl)) (by decide) (by decide) (by rfl) (by rfl)) rfl) (@pss_cons _ _ _ _ _ (@ps_fld _ _ _ _ _ _ _ _ (@pv _ 0 _ _ (by rfl) (by first | exact Or.inl rfl | exact Or.inr (Or.inl rfl) | exact Or.inr (Or.inr rfl)) (by decide) (by decide)) (@pe_non _ _ _) rfl) (@pss_cons _ _ _ _ _ (@ps_fld _ _ _ _ _ _ _ _ (@pv _ 0 _ _ (by rfl) (by first | exact Or.inl rfl | exact Or.inr (Or.inl rfl) | exact Or.inr (Or.inr rfl)) (by decide) (by decide)) (@pe_non _ _ _) rfl) (@pss_one _ _ _ (@ps_fld _ _ _ _ _ _ _ _ (@pv _ 0 _ _ (by rfl) (by first | exact Or.inl rfl | exact Or.inr (Or.inl rfl) | exact Or.inr (Or.inr rfl)) (by decide) (by decide)) (@pe_lst _ _ _ _ (@pa_nil _)) rfl)))))), ?_⟩
    refine use1 (fun σ H' => σ = [some (.ref x), some (.ref d), some (.int g)] ∧ Same H H' ∧ 1 ≤ g) ?_ (fun X hX => ?_)
    rotate_left
    · simp (maxSteps := 1000000) only [Nat.reduceSub, Nat.reduceAdd, tSeq, tVar, tCons, tNil, tDrop, L2.start, List.map_cons, List.map_nil, List.length_cons, List.length_nil, List.replicate, List.getElem?_cons_zero, List.getElem?_cons_succ, Option.some.injEq, exists_eq_left', List.append_nil, tCallx, tXE]
      exact ⟨d, g, rfl, ed, fun h1 _ H1 s1 => hX _ _ ⟨rfl, s1, h1⟩, qe, hg⟩
    rintro σ H1 ⟨rfl, s1, h1⟩
    have ex1 := s1 _ _ ex
    have ed1 := s1 _ _ ed
    simp (maxSteps := 1000000) only [rListX, seqO_l, upd_same, upd_upd, HO.ins.injEq, sFld, cxOf_K, List.cons.injEq, tSeq, exists_and_left, tVar, tC, tCons, tNil, tCB, tLst, List.length_nil, List.getElem?_cons_zero, List.getElem?_cons_succ, Option.some.injEq, exists_eq_left', V.ref.injEq, and_true, and_assoc, ed1, exc_K, upd_same, upd_upd]
    intro p2 n2
    generalize z2 : upd H1 p2 _ = H2
    obtain ⟨s2, e2⟩ := new_same z2 n2
    have ex2 := s2 _ _ ex1
    simp (maxSteps := 1000000) only [Nat.reduceLT, HO.ins.injEq, Nat.reduceAdd, exists_and_left, List.length_cons, List.length_nil, Option.some.injEq, exists_eq_left', true_and, and_assoc, ex2, T_Road.cl, T_Road.no "deeds" (by decide), T_Road.no "last_sent" (by decide), T_Road.no "last_asked" (by decide), fq_Road_0, fq_Road_1, fq_Road_2]
    refine ⟨Nat.zero_le _, fun p3 n3 => ?_⟩
    have hx3 : x ≠ p3 := fun h => by rw [← h, upd_same] at n3; cases n3
    have n3' : H2 p3 = none := by rw [upd_ne (Ne.symm hx3)] at n3; exact n3
    have h23 : p2 ≠ p3 := fun h => by rw [← h, e2] at n3'; cases n3'
    have hx2 : x ≠ p2 := fun h => by rw [h, n2] at ex1; cases ex1
    have ex3 := (upd_ne (H := upd H2 x (HO.ins C dx [(Str.ofString "deeds", V.ref p2), (Str.ofString "last_sent", V.non), (Str.ofString "last_asked", V.non)])) (o := HO.lst []) hx3).trans upd_same
    simp (maxSteps := 1000000) only [Nat.reduceLT, HO.ins.injEq, Nat.reduceAdd, exists_and_left, List.length_cons, List.length_nil, Option.some.injEq, exists_eq_left', true_and, and_assoc, ex3, T_Road.cl, T_Road.no "underway" (by decide), fq_Road_3]
    have hH : ∀ b, b ≠ x → b ≠ p3 → upd (upd (upd H2 x (HO.ins C dx [(Str.ofString "deeds", V.ref p2), (Str.ofString "last_sent", V.non), (Str.ofString "last_asked", V.non)])) p3 (HO.lst [])) x (HO.ins C dx (fs_Road (V.ref p2) V.non V.non (V.ref p3))) b = H2 b := fun b h1 h2 => by
      rw [upd_ne h1, upd_ne h2, upd_ne h1]
    refine q h1 p2 p3 _ (s1.free n2) ((s1.trans s2).free n3') h23 upd_same ((hH p2 (Ne.symm hx2) h23).trans e2) ?_ fun b o h hb => ?_
    · rw [upd_ne (Ne.symm hx3), upd_same]
    · have h2 := s2 _ _ (s1 _ _ h)
      refine (hH b (fun z => hb (by rw [z]; exact .head _)) fun z => ?_).trans h2
      rw [z, n3'] at h2
      cases h2
end
end K71
namespace K71
open PySem L2
abbrev at_Out : List Str := ["room", "given", "kept"]
def fs_Out (a0 a1 a2 : V) : List (Str × V) := [("room", a0), ("given", a1), ("kept", a2)]
section
variable {a0 a1 a2 : V}
theorem fs_Out_room : (fs_Out a0 a1 a2).lookup ("room" : Str) = some a0 := rfl
theorem fs_Out_given : (fs_Out a0 a1 a2).lookup ("given" : Str) = some a1 := rfl
theorem fs_Out_kept : (fs_Out a0 a1 a2).lookup ("kept" : Str) = some a2 := rfl
theorem fn_Out_put : (fs_Out a0 a1 a2).lookup ("put" : Str) = none := rfl
theorem fl_Out : ((fs_Out a0 a1 a2).length < 1000) = True := by simp [fs_Out]
theorem fp_Out_given {v : V} : putF "given" v (fs_Out a0 a1 a2) = fs_Out a0 v a2 := by with_unfolding_all rfl
theorem fq_Out_0 {v : V} : putF "room" v ([] : List (Str × V)) = ([("room", v)] : List (Str × V)) := by with_unfolding_all rfl
theorem fq_Out_1 {v : V} : putF "given" v ([("room", a0)] : List (Str × V)) = ([("room", a0), ("given", v)] : List (Str × V)) := by with_unfolding_all rfl
theorem fq_Out_2 {v : V} : putF "kept" v ([("room", a0), ("given", a1)] : List (Str × V)) = fs_Out a0 a1 v := by with_unfolding_all rfl
end
abbrev s_Out___init__ : Stmt := inClass (stm 33) 0
theorem sc_Out___init__ : FnScope ["self", "room"] ["self", "room"] (defScope s_Out___init__) := ⟨rfl, rfl, rfl, by decide +kernel, rfl, by decide +kernel, by decide +kernel⟩
abbrev s_Out_put : Stmt := inClass (stm 33) 2
theorem sc_Out_put : FnScope ["self", "parcel", "number"] ["self", "parcel"] (defScope s_Out_put) := ⟨rfl, rfl, rfl, by decide +kernel, rfl, by decide +kernel, by decide +kernel⟩
section
variable {P : Program} {w : World} {K : PySem.W.Frag} {mg : Str → Option Value} {base : Heap} {C R cM cP cR cF cT cN cA cL cW cO : Addr} {H H' : Hp}
def sp_oinit (C : Addr) : Sp := fun vs H Q _ => ∃ (x dx : Addr) (n : Int), vs = [.ref x, .int n] ∧ H x = some (.ins C dx []) ∧ ∀ k H', H k = none → H' x = some (.ins C dx (fs_Out (.int n) (.int 0) (.ref k))) → H' k = some (.lst []) → Keep [x] H H' → Q .non H'
set_option maxHeartbeats 4000000 in
theorem own_oinit (D : DefI K C "Out.__init__" s_Out___init__) (T_Out : ClsD K mg "Out" C at_Out) : OwnI P w K mg base 1 C ["self", "room"] (sp_oinit C) := by
  refine D.own sc_Out___init__ (fun _ _ _ _ _ _ us hl => match us, hl with | [_, _], _ => rfl) (fun vs H Q E h => ?_) (fun f cdv A outer s H vs Q E hr h => ?_)
  · obtain ⟨x, dx, n, rfl, _⟩ := h
    rfl
  · obtain ⟨x, dx, n, rfl, ex, q⟩ := h
    refine ⟨_, (@pss_cons _ _ _ _ _ (@ps_fld _ _ _ _ _ _ _ _ (@pv _ 0 _ _ (by rfl) (by first | exact Or.inl rfl | exact Or.inr (Or.inl rfl) | exact Or.inr (Or.inr rfl)) (by decide) (by decide)) (@pv _ 1 _ _ (by rfl) (by first | exact Or.inl rfl | exact Or.inr (Or.inl rfl) | exact Or.inr (Or.inr rfl)) (by decide) (by decide)) rfl) (@pss_cons _ _ _ _ _ (@ps_fld _ _ _ _ _ _ _ _ (@pv _ 0 _ _ (by rfl) (by first | exact Or.inl rfl | exact Or.inr (Or.inl rfl) | exact Or.inr (Or.inr rfl)) (by decide) (by decide)) (@pe_int _ _ _ _) rfl) (@pss_one _ _ _ (@ps_fld _ _ _ _ _ _ _ _ (@pv _ 0 _ _ (by rfl) (by first | exact Or.inl rfl | exact Or.inr (Or.inl rfl) | exact Or.inr (Or.inr rfl)) (by decide) (by decide)) (@pe_lst _ _ _ _ (@pa_nil _)) rfl)))), ?_⟩
    simp (maxSteps := 1000000) only [Nat.reduceSub, upd_same, upd_upd, Nat.reduceLT, HO.ins.injEq, Nat.reduceAdd, sFld, cxOf_K, tSeq, exists_and_left, tVar, tC, tNil, tLst, L2.start, List.map_cons, List.map_nil, List.length_cons, List.length_nil, List.replicate, List.getElem?_cons_zero, List.getElem?_cons_succ, Option.some.injEq, exists_eq_left', V.ref.injEq, true_and, and_assoc, List.append_nil, ex, T_Out.cl, T_Out.no "room" (by decide), T_Out.no "given" (by decide), fq_Out_0, fq_Out_1, upd_same, upd_upd]
    refine ⟨Nat.zero_le _, fun p3 n3 => ?_⟩
    have hx3 : x ≠ p3 := fun h => by rw [← h, upd_same] at n3; cases n3
    have n3' : H p3 = none := by rw [upd_ne (Ne.symm hx3)] at n3; exact n3
    have ex3 := (upd_ne (H := upd H x (HO.ins C dx [(Str.ofString "room", V.int n), (Str.ofString "given", V.int 0)])) (o := HO.lst []) hx3).trans upd_same
    simp (maxSteps := 1000000) only [Nat.reduceLT, HO.ins.injEq, Nat.reduceAdd, exists_and_left, List.length_cons, List.length_nil, Option.some.injEq, exists_eq_left', true_and, and_assoc, ex3, T_Out.cl, T_Out.no "kept" (by decide), fq_Out_2]
    refine q p3 _ n3' upd_same ?_ fun b o h hb => ?_
    · rw [upd_ne (Ne.symm hx3), upd_same]
    · have hbx : b ≠ x := fun z => hb (by rw [z]; exact .head _)
      have hb3 : b ≠ p3 := fun z => by rw [z, n3'] at h; cases h
      rw [upd_ne hbx, upd_ne hb3, upd_ne hbx]
      exact h
end
end K71
namespace K71
open PySem L2
abbrev at_Book : List Str := ["last_told", "deeds"]
def fs_Book (a0 a1 : V) : List (Str × V) := [("last_told", a0), ("deeds", a1)]
section
variable {a0 a1 : V}
theorem fn_Book_bind : (fs_Book a0 a1).lookup ("bind" : Str) = none := rfl
theorem fq_Book_0 {v : V} : putF "last_told" v ([] : List (Str × V)) = ([("last_told", v)] : List (Str × V)) := by with_unfolding_all rfl
theorem fq_Book_1 {v : V} : putF "deeds" v ([("last_told", a0)] : List (Str × V)) = fs_Book a0 v := by with_unfolding_all rfl
end
abbrev s_is_text_of : Stmt := stm 16
theorem sc_is_text_of : FnScope ["thing", "most", "first", "last"] ["thing", "most", "first", "last"] (defScope s_is_text_of) := ⟨rfl, rfl, rfl, by decide +kernel, rfl, by decide +kernel, by decide +kernel⟩
abbrev s_is_name : Stmt := stm 25
theorem sc_is_name : FnScope ["thing"] ["thing"] (defScope s_is_name) := ⟨rfl, rfl, rfl, by decide +kernel, rfl, by decide +kernel, by decide +kernel⟩
abbrev s_Book___init__ : Stmt := inClass (stm 26) 0
theorem sc_Book___init__ : FnScope ["self"] ["self"] (defScope s_Book___init__) := ⟨rfl, rfl, rfl, by decide +kernel, rfl, by decide +kernel, by decide +kernel⟩
abbrev s_Book_bind : Stmt := inClass (stm 26) 1
theorem sc_Book_bind : FnScope ["self", "name", "hand", "turn"] ["self", "name", "hand", "turn"] (defScope s_Book_bind) := ⟨rfl, rfl, rfl, by decide +kernel, rfl, by decide +kernel, by decide +kernel⟩
section
variable {P : Program} {w : World} {K : PySem.W.Frag} {mg : Str → Option Value} {base : Heap} {C R cM cP cR cF cT cN cA cL cW cO : Addr} {H H' : Hp}
def sp_tx0 : Sp := fun vs H Q _ => ∃ (m : Int) (a b : V), vs = [.str (Str.ofString ""), .int m, a, b] ∧ Q (.bl false) H
set_option maxHeartbeats 4000000 in
theorem own_tx0 (D : Def K mg "is_text_of" s_is_text_of) (hb : Blt mg) : Own P w K mg base 1 "is_text_of" ["thing", "most", "first", "last"] sp_tx0 := by
  refine D.own sc_is_text_of (fun _ _ _ _ _ _ us hl => match us, hl with | [_, _, _, _], _ => rfl) (fun vs H Q E h => ?_) (fun f cdv A outer s H vs Q E hr h => ?_)
  · obtain ⟨m, a, b, rfl, _⟩ := h
    rfl
  · obtain ⟨m, a, b, rfl, q⟩ := h
    refine ⟨_, (@pss_cons _ _ _ _ _ (@ps_if _ _ _ _ _ _ _ _ (@PW.pt _ _ _ (@pw_or _ _ _ _ _ _ _ (@pt_not _ _ _ _ (@pt_truX _ _ _ (@pe_callB _ _ _ _ _ _ _ _ _ call_isiX rfl (hb _ (by decide)) bt_isinstance (@pa_cX _ _ _ _ _ (@pv _ 0 _ _ (by rfl) (by first | exact Or.inl rfl | exact Or.inr (Or.inl rfl) | exact Or.inr (Or.inr rfl)) (by decide) (by decide)) (@pa_cX _ _ _ _ _ (@pe_bltn _ _ (.ty "str") _ _ rfl (hb _ (by decide)) bt_str rfl (by decide) (by decide)) (@pa_nil _) (by rfl)) (by rfl)) (by decide) (by decide) (by rfl) (by rfl)) (by intro _; rfl))) (@pw_or1 _ _ _ _ (@pt_not _ _ _ _ (@pt_chain _ _ _ _ _ _ _ _ _ _ _ _ op_le op_le (@pe_int _ _ _ _) (@pe_callB _ _ _ _ _ _ _ _ _ call_lenX rfl (hb _ (by decide)) bt_len (@pa_cX _ _ _ _ _ (@pv _ 0 _ _ (by rfl) (by first | exact Or.inl rfl | exact Or.inr (Or.inl rfl) | exact Or.inr (Or.inr rfl)) (by decide) (by decide)) (@pa_nil _) (by rfl)) (by decide) (by decide) (by rfl) (by rfl)) (@pv _ 1 _ _ (by rfl) (by first | exact Or.inl rfl | exact Or.inr (Or.inl rfl) | exact Or.inr (Or.inr rfl)) (by decide) (by decide)) (by with_unfolding_all rfl)))))) (@pss_one _ _ _ (@ps_ret _ _ _ _ (@pe_bl _ _ _ _))) (@pss_nil _)) (@pss_one _ _ _ (@ps_never _ _))), ?_⟩
    simp (maxSteps := 1000000) only [rIsIX, tyX_s, V.ty.injEq, kT_stst, rLenX, lenX_s', tTruX, truX_b, Nat.reduceSub, Nat.reduceAdd, tNever, V.ty.injEq, Bool.not_true, Bool.not_false, List.cons.injEq, tSeq, exists_and_left, if_false, if_true, Bool.false_eq_true, tIfS, tOr, tNot, tTest, tVar, tC, rI0, tRet, tNext, tCons, tNil, tCB, tChain, L2.start, List.map_cons, List.map_nil, List.length_cons, List.length_nil, List.replicate, List.getElem?_cons_zero, List.getElem?_cons_succ, Option.some.injEq, exists_eq_left', V.int.injEq, V.bl.injEq, and_true, and_assoc, List.append_nil]
    exact ⟨0, if_pos (by rw [sizeLine_eq]; decide), iteF q⟩
def sp_nm0 : Sp := fun vs H Q _ => vs = [.str (Str.ofString "")] ∧ Q (.bl false) H
theorem own_nm0 (D : Def K mg "is_name" s_is_name) (g_MOST_LETTERS : ∃ u, mg "MOST_LETTERS" = some u ∧ RelV (.int 8) u) (F_is_text_of : Own P w K mg base 1 "is_text_of" ["thing", "most", "first", "last"] sp_tx0) : Own P w K mg base 2 "is_name" ["thing"] sp_nm0 := by
  refine D.own sc_is_name (fun _ _ _ _ _ _ us hl => match us, hl with | [_], _ => rfl) (fun vs H Q E h => ?_) (fun f cdv A outer s H vs Q E hr h => ?_)
  · obtain ⟨rfl, _⟩ := h
    rfl
  · obtain ⟨rfl, q⟩ := h
    refine ⟨_, (@pss_one _ _ _ (@ps_ret _ _ _ _ (@pe_fn _ _ _ _ _ _ _ _ _ _ _ F_is_text_of hr (@pa_cX _ _ _ _ _ (@pv _ 0 _ _ (by rfl) (by first | exact Or.inl rfl | exact Or.inr (Or.inl rfl) | exact Or.inr (Or.inr rfl)) (by decide) (by decide)) (@pa_cX _ _ _ _ _ (@pe_glb _ _ _ _ g_MOST_LETTERS (by rfl) (by decide)) (@pa_cX _ _ _ _ _ (@pe_str _ _ _ _) (@pa_cX _ _ _ _ _ (@pe_str _ _ _ _) (@pa_nil _) (by rfl)) (by rfl)) (by rfl)) (by rfl)) (by decide) (by rfl) (by decide) (by rfl) (by rfl)))), ?_⟩
    simp (maxSteps := 1000000) only [Nat.reduceSub, Nat.reduceAdd, List.cons.injEq, exists_and_left, tVar, tC, tRet, tCall, tCons, tNil, L2.start, List.map_cons, List.map_nil, List.length_cons, List.length_nil, List.replicate, List.getElem?_cons_zero, Option.some.injEq, exists_eq_left', V.int.injEq, and_true, true_and, and_assoc, List.append_nil, sp_tx0]
    exact q
def sp_bind0 (C cA : Addr) : Sp := fun vs H _ E => ∃ (x dx : Addr) (fs : List (Str × V)), vs = [.ref x, .str (Str.ofString ""), .int 0, .int 0] ∧ H x = some (.ins C dx fs) ∧ ∀ e H', Same H H' → H' e = some (XO e cA none) → E (.ref e) none H'
set_option maxHeartbeats 4000000 in
theorem own_bind0 (D : DefM K C "bind" "Book.bind" s_Book_bind) (T_Book : ClsD K mg "Book" C at_Book) (g_MOST_LETTERS : ∃ u, mg "MOST_LETTERS" = some u ∧ RelV (.int 8) u) (hc_BadName : mg "BadName" = some (.ref cA)) (Z_BadName : XPl K cA) (F_is_name : Own P w K mg base 2 "is_name" ["thing"] sp_nm0) :
    OwnMX P w K mg base 3 C "bind" ["self", "name", "hand", "turn"] (sp_bind0 C cA) := by
  refine D.ownE sc_Book_bind (fun _ _ _ _ _ _ us hl => match us, hl with | [_, _, _, _], _ => rfl) (fun vs H Q E h => ?_) (fun f cdv A outer s H vs Q E hr h => ?_)
  · obtain ⟨x, dx, fs, rfl, _⟩ := h
    rfl
  · obtain ⟨x, dx, fs, rfl, ex, qe⟩ := h
    refine ⟨_, (@pss_cons _ _ _ _ _ (@ps_if _ _ _ _ _ _ _ _ (@pt_not _ _ _ _ (@pt_truX _ _ _ (@pe_fn _ _ _ _ _ _ _ _ _ _ _ F_is_name hr (@pa_cX _ _ _ _ _ (@pv _ 1 _ _ (by rfl) (by first | exact Or.inl rfl | exact Or.inr (Or.inl rfl) | exact Or.inr (Or.inr rfl)) (by decide) (by decide)) (@pa_nil _) (by rfl)) (by decide) (by rfl) (by decide) (by rfl) (by rfl)) (by intro _; rfl))) (@pss_one _ _ _ (@ps_exc _ _ _ _ (@psx_raise _ _ _ _ (@pn_new _ _ _ _ _ _ _ _ Z_BadName.ex Z_BadName.kp hc_BadName (@pa_cX _ _ _ _ _ (@pe_fstr _ _ _ _ _ _ (@pj_str _ _ _ _ _ _ _ 27 (by kernel_rfl) (@pj_int _ _ _ _ _ _ _ (@pe_glb _ _ _ _ g_MOST_LETTERS (by rfl) (by decide)) (@pj_str _ _ _ _ _ _ _ 14 (by kernel_rfl) (@pj_nil _ _ (by decide)) (by decide)) (by decide)) (by decide))) (@pa_nil _) (by rfl)) (by rfl) (by decide) (by rfl) (by rfl)) (by rfl)))) (@pss_nil _)) (@pss_cons _ _ _ _ _ (@ps_never _ _) (@pss_cons _ _ _ _ _ (@ps_never _ _) (@pss_one _ _ _ (@ps_never _ _))))), ?_⟩
    simp (maxSteps := 1000000) only [tTruX, truX_b, Nat.reduceSub, upd_upd, Nat.reduceAdd, tNever, Bool.not_false, List.cons.injEq, tSeq, if_true, tIfS, tNot, tVar, tC, tNext, tCall, tCons, tNil, L2.start, List.map_cons, List.map_nil, List.length_cons, List.length_nil, List.replicate, List.getElem?_cons_zero, List.getElem?_cons_succ, Option.some.injEq, exists_eq_left', V.int.injEq, and_true, true_and, List.append_nil, sp_nm0, tRaise, tNew0, tFs, tJi, tJn, tSE]
    exact ⟨by decide, fun _ => ⟨by decide, fun e he => qe e _ (.upd_new he) upd_same⟩⟩
end
end K71
namespace K71
open PySem L2
abbrev at_Desk : List Str := ["net", "plan"]
def fs_Desk (a0 a1 : V) : List (Str × V) := [("net", a0), ("plan", a1)]
section
variable {a0 a1 : V}
theorem fs_Desk_net : (fs_Desk a0 a1).lookup ("net" : Str) = some a0 := rfl
theorem fn_Desk_say : (fs_Desk a0 a1).lookup ("say" : Str) = none := rfl
theorem fq_Desk_0 {v : V} : putF "net" v ([] : List (Str × V)) = ([("net", v)] : List (Str × V)) := by with_unfolding_all rfl
theorem fq_Desk_1 {v : V} : putF "plan" v ([("net", a0)] : List (Str × V)) = fs_Desk a0 v := by with_unfolding_all rfl
end
abbrev s_Desk___init__ : Stmt := inClass (stm 153) 0
theorem sc_Desk___init__ : FnScope ["self"] ["self"] (defScope s_Desk___init__) := ⟨rfl, rfl, rfl, by decide +kernel, rfl, by decide +kernel, by decide +kernel⟩
section
variable {P : Program} {w : World} {K : PySem.W.Frag} {mg : Str → Option Value} {base : Heap} {C R cM cP cR cF cT cN cA cL cW cO : Addr} {H H' : Hp}
def sp_dinit (C : Addr) : Sp := fun vs H Q _ => ∃ (x dx : Addr), vs = [.ref x] ∧ H x = some (.ins C dx []) ∧ ∀ H', H' x = some (.ins C dx (fs_Desk .non .non)) → Keep [x] H H' → Q .non H'
set_option maxHeartbeats 4000000 in
theorem own_dinit (D : DefI K C "Desk.__init__" s_Desk___init__) (T_Desk : ClsD K mg "Desk" C at_Desk) : OwnI P w K mg base 1 C ["self"] (sp_dinit C) := by
  refine D.own sc_Desk___init__ (fun _ _ _ _ _ _ us hl => match us, hl with | [_], _ => rfl) (fun vs H Q E h => ?_) (fun f cdv A outer s H vs Q E hr h => ?_)
  · obtain ⟨x, dx, rfl, _⟩ := h
    rfl
  · obtain ⟨x, dx, rfl, ex, q⟩ := h
    refine ⟨_, (@pss_cons _ _ _ _ _ (@ps_fld _ _ _ _ _ _ _ _ (@pv _ 0 _ _ (by rfl) (by first | exact Or.inl rfl | exact Or.inr (Or.inl rfl) | exact Or.inr (Or.inr rfl)) (by decide) (by decide)) (@pe_non _ _ _) rfl) (@pss_one _ _ _ (@ps_fld _ _ _ _ _ _ _ _ (@pv _ 0 _ _ (by rfl) (by first | exact Or.inl rfl | exact Or.inr (Or.inl rfl) | exact Or.inr (Or.inr rfl)) (by decide) (by decide)) (@pe_non _ _ _) rfl))), ?_⟩
    simp (maxSteps := 1000000) only [Nat.reduceSub, upd_same, upd_upd, Nat.reduceLT, HO.ins.injEq, Nat.reduceAdd, sFld, cxOf_K, tSeq, exists_and_left, tVar, tC, L2.start, List.map_cons, List.map_nil, List.length_cons, List.length_nil, List.replicate, List.getElem?_cons_zero, Option.some.injEq, exists_eq_left', V.ref.injEq, true_and, and_assoc, List.append_nil, ex, T_Desk.cl, T_Desk.no "net" (by decide), T_Desk.no "plan" (by decide), fq_Desk_0, fq_Desk_1, upd_same, upd_upd]
    refine q _ upd_same fun b o h hb => ?_
    rw [upd_ne (fun z => hb (by rw [z]; exact .head _))]
    exact h
def sp_binit (C : Addr) : Sp := fun vs H Q _ => ∃ (x dx : Addr), vs = [.ref x] ∧ H x = some (.ins C dx []) ∧ ∀ d H', H' x = some (.ins C dx (fs_Book .non d)) → Keep [x] H H' → Q .non H'
set_option maxHeartbeats 4000000 in
theorem own_binit (D : DefI K C "Book.__init__" s_Book___init__) (T_Book : ClsD K mg "Book" C at_Book) : OwnI P w K mg base 1 C ["self"] (sp_binit C) := by
  refine D.own sc_Book___init__ (fun _ _ _ _ _ _ us hl => match us, hl with | [_], _ => rfl) (fun vs H Q E h => ?_) (fun f cdv A outer s H vs Q E hr h => ?_)
  · obtain ⟨x, dx, rfl, _⟩ := h
    rfl
  · obtain ⟨x, dx, rfl, ex, q⟩ := h
    have hu := hr.units
    have hu1 : (A.deeper (PyProof.Rows.envOfC "Book.__init__" (defScope s_Book___init__) s.heap.objs.size f cdv)).units + 1 < cLine := by omega
    refine ⟨_, (@pss_cons _ _ _ _ _ (@ps_fld _ _ _ _ _ _ _ _ (@pv _ 0 _ _ (by rfl) (by first | exact Or.inl rfl | exact Or.inr (Or.inl rfl) | exact Or.inr (Or.inr rfl)) (by decide) (by decide)) (@pe_non _ _ _) rfl) (@pss_one _ _ _ (@ps_fld _ _ _ _ _ _ _ _ (@pv _ 0 _ _ (by rfl) (by first | exact Or.inl rfl | exact Or.inr (Or.inl rfl) | exact Or.inr (Or.inr rfl)) (by decide) (by decide)) (@pe_dnewK _ _) rfl))), ?_⟩
    simp (maxSteps := 1000000) only [tDNewK, Nat.reduceSub, Nat.reduceLT, HO.ins.injEq, Nat.reduceAdd, sFld, cxOf_K, tSeq, exists_and_left, tVar, tC, L2.start, List.map_cons, List.map_nil, List.length_cons, List.length_nil, List.replicate, List.getElem?_cons_zero, Option.some.injEq, exists_eq_left', V.ref.injEq, true_and, and_assoc, List.append_nil, ex, T_Book.cl, T_Book.no "last_told" (by decide), fq_Book_0]
    intro p n
    have hxp : x ≠ p := fun h => by rw [← h, upd_same] at n; cases n
    have n' : H p = none := by rw [upd_ne (Ne.symm hxp)] at n; exact n
    have ex3 := (upd_ne (H := upd H x (HO.ins C dx [(Str.ofString "last_told", V.non)])) (o := HO.dK []) hxp).trans upd_same
    simp (maxSteps := 1000000) only [Nat.reduceLT, HO.ins.injEq, Nat.reduceAdd, exists_and_left, List.length_cons, List.length_nil, Option.some.injEq, exists_eq_left', true_and, and_assoc, ex3, T_Book.cl, T_Book.no "deeds" (by decide), fq_Book_1]
    refine q _ _ upd_same fun b o h hb => ?_
    have hbx : b ≠ x := fun z => hb (by rw [z]; exact .head _)
    rw [upd_ne hbx, upd_ne (fun z => by rw [z, n'] at h; cases h), upd_ne hbx]
    exact h
end
end K71
namespace K71
open PySem L2
abbrev s_BadLine___init__ : Stmt := inClass (stm 10) 0
theorem sc_BadLine___init__ : FnScope ["self", "at"] ["self", "at"] (defScope s_BadLine___init__) := ⟨rfl, rfl, rfl, by decide +kernel, rfl, by decide +kernel, by decide +kernel⟩
abbrev s_BadWish___init__ : Stmt := inClass (stm 11) 0
theorem sc_BadWish___init__ : FnScope ["self", "at"] ["self", "at"] (defScope s_BadWish___init__) := ⟨rfl, rfl, rfl, by decide +kernel, rfl, by decide +kernel, by decide +kernel⟩
abbrev s_NoRow___init__ : Stmt := inClass (stm 12) 0
theorem sc_NoRow___init__ : FnScope ["self", "at"] ["self", "at"] (defScope s_NoRow___init__) := ⟨rfl, rfl, rfl, by decide +kernel, rfl, by decide +kernel, by decide +kernel⟩
abbrev s_BadPast___init__ : Stmt := inClass (stm 4) 0
theorem sc_BadPast___init__ : FnScope ["self", "turn"] ["self", "turn"] (defScope s_BadPast___init__) := ⟨rfl, rfl, rfl, by decide +kernel, rfl, by decide +kernel, by decide +kernel⟩
section
variable {P : Program} {w : World} {K : PySem.W.Frag} {mg : Str → Option Value} {base : Heap}
def sp_xinit (C : Addr) (f : Str) : Sp := fun vs H Q _ => ∃ (e : Addr) (t : Int), vs = [.ref e, .int t] ∧ t.natAbs.log2 < 1920 ∧ H e = some (XN e C none) ∧ ∀ dx, H dx = none → dx ≠ e → Q .non (upd (upd H dx (.xd [(f, .int t)])) e (XN e C (some dx)))
theorem own_xBadLine {C R : Addr} (D : DefE K C "BadLine.__init__" s_BadLine___init__) (B_RoadError : XB K R) (hc_RoadError : mg "RoadError" = some (.ref R)) (T : XSt K C "at") : OwnE P w K mg base 1 C ["self", "at"] (sp_xinit C "at") := by
  refine D.own sc_BadLine___init__ (fun _ _ _ _ _ _ us hl => match us, hl with | [_, _], _ => rfl) (fun vs H Q E h => ?_) (fun f cdv A outer s H vs Q E hr h => ?_)
  · obtain ⟨e, t, rfl, _⟩ := h
    rfl
  · obtain ⟨e, t, rfl, ht, he, q⟩ := h
    refine ⟨_, (@pss_cons _ _ _ _ _ (@ps_expr _ _ _ _ (@pe_xinit _ _ _ _ _ _ _ _ _ _ B_RoadError hc_RoadError (@pa_cX _ _ _ _ _ (@pv _ 0 _ _ (by rfl) (by first | exact Or.inl rfl | exact Or.inr (Or.inl rfl) | exact Or.inr (Or.inr rfl)) (by decide) (by decide)) (@pa_cX _ _ _ _ _ (@pe_fstr _ _ _ _ _ _ (@pj_str _ _ _ _ _ _ _ 22 (by kernel_rfl) (@pj_int _ _ _ _ _ _ _ (@pv _ 1 _ _ (by rfl) (by first | exact Or.inl rfl | exact Or.inr (Or.inl rfl) | exact Or.inr (Or.inr rfl)) (by decide) (by decide)) (@pj_nil _ _ (by decide)) (by decide)) (by decide))) (@pa_nil _) (by rfl)) (by rfl)) (by rfl) (by decide) (by rfl) (by rfl) (by rfl)) (by rfl)) (@pss_one _ _ _ (@ps_xfld _ _ _ _ _ _ _ _ (@pv _ 0 _ _ (by rfl) (by first | exact Or.inl rfl | exact Or.inr (Or.inl rfl) | exact Or.inr (Or.inr rfl)) (by decide) (by decide)) (@pv _ 1 _ _ (by rfl) (by first | exact Or.inl rfl | exact Or.inr (Or.inl rfl) | exact Or.inr (Or.inr rfl)) (by decide) (by decide)) rfl))), ?_⟩
    simp (maxSteps := 1000000) only [Nat.reduceSub, Nat.reduceAdd, ne_eq, cxOf_K, List.cons.injEq, tSeq, exists_and_left, tVar, tCons, tNil, tDrop, L2.start, List.map_cons, List.map_nil, List.length_cons, List.length_nil, List.replicate, List.getElem?_cons_zero, List.getElem?_cons_succ, Option.some.injEq, exists_eq_left', V.int.injEq, V.ref.injEq, and_true, and_assoc, List.append_nil, tXi, sXf, tFs, tJi, tJn]
    exact ⟨ht, fun x => ⟨C, none, he, T.kin, C, he, T, q⟩⟩
theorem own_xBadWish {C R : Addr} (D : DefE K C "BadWish.__init__" s_BadWish___init__) (B_RoadError : XB K R) (hc_RoadError : mg "RoadError" = some (.ref R)) (T : XSt K C "at") : OwnE P w K mg base 1 C ["self", "at"] (sp_xinit C "at") := by
  refine D.own sc_BadWish___init__ (fun _ _ _ _ _ _ us hl => match us, hl with | [_, _], _ => rfl) (fun vs H Q E h => ?_) (fun f cdv A outer s H vs Q E hr h => ?_)
  · obtain ⟨e, t, rfl, _⟩ := h
    rfl
  · obtain ⟨e, t, rfl, ht, he, q⟩ := h
    refine ⟨_, (@pss_cons _ _ _ _ _ (@ps_expr _ _ _ _ (@pe_xinit _ _ _ _ _ _ _ _ _ _ B_RoadError hc_RoadError (@pa_cX _ _ _ _ _ (@pv _ 0 _ _ (by rfl) (by first | exact Or.inl rfl | exact Or.inr (Or.inl rfl) | exact Or.inr (Or.inr rfl)) (by decide) (by decide)) (@pa_cX _ _ _ _ _ (@pe_fstr _ _ _ _ _ _ (@pj_str _ _ _ _ _ _ _ 22 (by kernel_rfl) (@pj_int _ _ _ _ _ _ _ (@pv _ 1 _ _ (by rfl) (by first | exact Or.inl rfl | exact Or.inr (Or.inl rfl) | exact Or.inr (Or.inr rfl)) (by decide) (by decide)) (@pj_nil _ _ (by decide)) (by decide)) (by decide))) (@pa_nil _) (by rfl)) (by rfl)) (by rfl) (by decide) (by rfl) (by rfl) (by rfl)) (by rfl)) (@pss_one _ _ _ (@ps_xfld _ _ _ _ _ _ _ _ (@pv _ 0 _ _ (by rfl) (by first | exact Or.inl rfl | exact Or.inr (Or.inl rfl) | exact Or.inr (Or.inr rfl)) (by decide) (by decide)) (@pv _ 1 _ _ (by rfl) (by first | exact Or.inl rfl | exact Or.inr (Or.inl rfl) | exact Or.inr (Or.inr rfl)) (by decide) (by decide)) rfl))), ?_⟩
    simp (maxSteps := 1000000) only [Nat.reduceSub, Nat.reduceAdd, ne_eq, cxOf_K, List.cons.injEq, tSeq, exists_and_left, tVar, tCons, tNil, tDrop, L2.start, List.map_cons, List.map_nil, List.length_cons, List.length_nil, List.replicate, List.getElem?_cons_zero, List.getElem?_cons_succ, Option.some.injEq, exists_eq_left', V.int.injEq, V.ref.injEq, and_true, and_assoc, List.append_nil, tXi, sXf, tFs, tJi, tJn]
    exact ⟨ht, fun x => ⟨C, none, he, T.kin, C, he, T, q⟩⟩
theorem own_xNoRow {C R : Addr} (D : DefE K C "NoRow.__init__" s_NoRow___init__) (B_RoadError : XB K R) (hc_RoadError : mg "RoadError" = some (.ref R)) (T : XSt K C "at") : OwnE P w K mg base 1 C ["self", "at"] (sp_xinit C "at") := by
  refine D.own sc_NoRow___init__ (fun _ _ _ _ _ _ us hl => match us, hl with | [_, _], _ => rfl) (fun vs H Q E h => ?_) (fun f cdv A outer s H vs Q E hr h => ?_)
  · obtain ⟨e, t, rfl, _⟩ := h
    rfl
  · obtain ⟨e, t, rfl, ht, he, q⟩ := h
    refine ⟨_, (@pss_cons _ _ _ _ _ (@ps_expr _ _ _ _ (@pe_xinit _ _ _ _ _ _ _ _ _ _ B_RoadError hc_RoadError (@pa_cX _ _ _ _ _ (@pv _ 0 _ _ (by rfl) (by first | exact Or.inl rfl | exact Or.inr (Or.inl rfl) | exact Or.inr (Or.inr rfl)) (by decide) (by decide)) (@pa_cX _ _ _ _ _ (@pe_fstr _ _ _ _ _ _ (@pj_str _ _ _ _ _ _ _ 21 (by kernel_rfl) (@pj_int _ _ _ _ _ _ _ (@pv _ 1 _ _ (by rfl) (by first | exact Or.inl rfl | exact Or.inr (Or.inl rfl) | exact Or.inr (Or.inr rfl)) (by decide) (by decide)) (@pj_nil _ _ (by decide)) (by decide)) (by decide))) (@pa_nil _) (by rfl)) (by rfl)) (by rfl) (by decide) (by rfl) (by rfl) (by rfl)) (by rfl)) (@pss_one _ _ _ (@ps_xfld _ _ _ _ _ _ _ _ (@pv _ 0 _ _ (by rfl) (by first | exact Or.inl rfl | exact Or.inr (Or.inl rfl) | exact Or.inr (Or.inr rfl)) (by decide) (by decide)) (@pv _ 1 _ _ (by rfl) (by first | exact Or.inl rfl | exact Or.inr (Or.inl rfl) | exact Or.inr (Or.inr rfl)) (by decide) (by decide)) rfl))), ?_⟩
    simp (maxSteps := 1000000) only [Nat.reduceSub, Nat.reduceAdd, ne_eq, cxOf_K, List.cons.injEq, tSeq, exists_and_left, tVar, tCons, tNil, tDrop, L2.start, List.map_cons, List.map_nil, List.length_cons, List.length_nil, List.replicate, List.getElem?_cons_zero, List.getElem?_cons_succ, Option.some.injEq, exists_eq_left', V.int.injEq, V.ref.injEq, and_true, and_assoc, List.append_nil, tXi, sXf, tFs, tJi, tJn]
    exact ⟨ht, fun x => ⟨C, none, he, T.kin, C, he, T, q⟩⟩
theorem own_xBadPast {C R : Addr} (D : DefE K C "BadPast.__init__" s_BadPast___init__) (B_RoadError : XB K R) (hc_RoadError : mg "RoadError" = some (.ref R)) (T : XSt K C "turn") : OwnE P w K mg base 1 C ["self", "turn"] (sp_xinit C "turn") := by
  refine D.own sc_BadPast___init__ (fun _ _ _ _ _ _ us hl => match us, hl with | [_, _], _ => rfl) (fun vs H Q E h => ?_) (fun f cdv A outer s H vs Q E hr h => ?_)
  · obtain ⟨e, t, rfl, _⟩ := h
    rfl
  · obtain ⟨e, t, rfl, ht, he, q⟩ := h
    refine ⟨_, (@pss_cons _ _ _ _ _ (@ps_expr _ _ _ _ (@pe_xinit _ _ _ _ _ _ _ _ _ _ B_RoadError hc_RoadError (@pa_cX _ _ _ _ _ (@pv _ 0 _ _ (by rfl) (by first | exact Or.inl rfl | exact Or.inr (Or.inl rfl) | exact Or.inr (Or.inr rfl)) (by decide) (by decide)) (@pa_cX _ _ _ _ _ (@pe_fstr _ _ _ _ _ _ (@pj_str _ _ _ _ _ _ _ 36 (by kernel_rfl) (@pj_int _ _ _ _ _ _ _ (@pv _ 1 _ _ (by rfl) (by first | exact Or.inl rfl | exact Or.inr (Or.inl rfl) | exact Or.inr (Or.inr rfl)) (by decide) (by decide)) (@pj_nil _ _ (by decide)) (by decide)) (by decide))) (@pa_nil _) (by rfl)) (by rfl)) (by rfl) (by decide) (by rfl) (by rfl) (by rfl)) (by rfl)) (@pss_one _ _ _ (@ps_xfld _ _ _ _ _ _ _ _ (@pv _ 0 _ _ (by rfl) (by first | exact Or.inl rfl | exact Or.inr (Or.inl rfl) | exact Or.inr (Or.inr rfl)) (by decide) (by decide)) (@pv _ 1 _ _ (by rfl) (by first | exact Or.inl rfl | exact Or.inr (Or.inl rfl) | exact Or.inr (Or.inr rfl)) (by decide) (by decide)) rfl))), ?_⟩
    simp (maxSteps := 1000000) only [Nat.reduceSub, Nat.reduceAdd, ne_eq, cxOf_K, List.cons.injEq, tSeq, exists_and_left, tVar, tCons, tNil, tDrop, L2.start, List.map_cons, List.map_nil, List.length_cons, List.length_nil, List.replicate, List.getElem?_cons_zero, List.getElem?_cons_succ, Option.some.injEq, exists_eq_left', V.int.injEq, V.ref.injEq, and_true, and_assoc, List.append_nil, tXi, sXf, tFs, tJi, tJn]
    exact ⟨ht, fun x => ⟨C, none, he, T.kin, C, he, T, q⟩⟩
end
end K71
namespace K71
open PySem L2
abbrev s_own_copy : Stmt := stm 18
theorem sc_own_copy : FnScope ["thing"] ["thing"] (defScope s_own_copy) := ⟨rfl, rfl, rfl, by decide +kernel, rfl, by decide +kernel, by decide +kernel⟩
section
variable {P : Program} {w : World} {K : PySem.W.Frag} {mg : Str → Option Value} {base : Heap} {C R cM cP cR cF cT cN cA cL cW cO : Addr} {H H' : Hp}
def sp_copyT : Sp := fun vs H Q _ => ∃ x : Str, vs = [.str x] ∧ Q (.str x) H
set_option maxHeartbeats 4000000 in
theorem own_copyT (D : Def K mg "own_copy" s_own_copy) (hb : Blt mg) : Own P w K mg base 1 "own_copy" ["thing"] sp_copyT := by
  refine D.own sc_own_copy (fun _ _ _ _ _ _ us hl => match us, hl with | [_], _ => rfl) (fun vs H Q E h => ?_) (fun f cdv A outer s H vs Q E hr h => ?_)
  · obtain ⟨x, rfl, _⟩ := h
    rfl
  · obtain ⟨x, rfl, q⟩ := h
    refine ⟨_, (@pss_cons _ _ _ _ _ (@ps_if _ _ _ _ _ _ _ _ (@pt_truX _ _ _ (@pe_callB _ _ _ _ _ _ _ _ _ call_isiX rfl (hb _ (by decide)) bt_isinstance (@pa_cX _ _ _ _ _ (@pv _ 0 _ _ (by rfl) (by first | exact Or.inl rfl | exact Or.inr (Or.inl rfl) | exact Or.inr (Or.inr rfl)) (by decide) (by decide)) (@pa_cX _ _ _ _ _ (@pe_bltn _ _ (.ty "list") _ _ rfl (hb _ (by decide)) bt_list rfl (by decide) (by decide)) (@pa_nil _) (by rfl)) (by rfl)) (by decide) (by decide) (by rfl) (by rfl)) (by intro _; rfl)) (@pss_one _ _ _ (@ps_never _ _)) (@pss_nil _)) (@pss_cons _ _ _ _ _ (@ps_if _ _ _ _ _ _ _ _ (@pt_truX _ _ _ (@pe_callB _ _ _ _ _ _ _ _ _ call_isiX rfl (hb _ (by decide)) bt_isinstance (@pa_cX _ _ _ _ _ (@pv _ 0 _ _ (by rfl) (by first | exact Or.inl rfl | exact Or.inr (Or.inl rfl) | exact Or.inr (Or.inr rfl)) (by decide) (by decide)) (@pa_cX _ _ _ _ _ (@pe_bltn _ _ (.ty "tuple") _ _ rfl (hb _ (by decide)) bt_tuple rfl (by decide) (by decide)) (@pa_nil _) (by rfl)) (by rfl)) (by decide) (by decide) (by rfl) (by rfl)) (by intro _; rfl)) (@pss_one _ _ _ (@ps_never _ _)) (@pss_nil _)) (@pss_cons _ _ _ _ _ (@ps_if _ _ _ _ _ _ _ _ (@pt_truX _ _ _ (@pe_callB _ _ _ _ _ _ _ _ _ call_isiX rfl (hb _ (by decide)) bt_isinstance (@pa_cX _ _ _ _ _ (@pv _ 0 _ _ (by rfl) (by first | exact Or.inl rfl | exact Or.inr (Or.inl rfl) | exact Or.inr (Or.inr rfl)) (by decide) (by decide)) (@pa_cX _ _ _ _ _ (@pe_bltn _ _ (.ty "dict") _ _ rfl (hb _ (by decide)) bt_dict rfl (by decide) (by decide)) (@pa_nil _) (by rfl)) (by rfl)) (by decide) (by decide) (by rfl) (by rfl)) (by intro _; rfl)) (@pss_one _ _ _ (@ps_never _ _)) (@pss_nil _)) (@pss_one _ _ _ (@ps_ret _ _ _ _ (@pv _ 0 _ _ (by rfl) (by first | exact Or.inl rfl | exact Or.inr (Or.inl rfl) | exact Or.inr (Or.inr rfl)) (by decide) (by decide))))))), ?_⟩
    simp (maxSteps := 1000000) only [rIsIX, tyX_s, V.ty.injEq, kT_stli, kT_sttu, kT_stdi, tTruX, truX_b, Nat.reduceSub, Nat.reduceAdd, tNever, V.ty.injEq, List.cons.injEq, tSeq, exists_and_left, if_false, Bool.false_eq_true, tIfS, tVar, tC, tRet, tNext, tCons, tNil, tCB, L2.start, List.map_cons, List.map_nil, List.length_cons, List.length_nil, List.replicate, List.getElem?_cons_zero, Option.some.injEq, exists_eq_left', and_true, and_assoc, List.append_nil]
    exact q
def sp_oput (C cF : Addr) : Sp := fun vs H Q E => ∃ (x dx k : Addr) (n : Int) (vs' : List V) (t : Str), vs = [.ref x, .str t] ∧ H x = some (.ins C dx (fs_Out (.int 1) (.int n) (.ref k))) ∧ H k = some (.lst vs') ∧ x ≠ k ∧ vs'.length ≤ 1 ∧
  (vs' = [] → ∀ p H', H' x = some (.ins C dx (fs_Out (.int 1) (.int (n + 1)) (.ref k))) → H' k = some (.lst [p]) → Keep [x, k] H H' → Q (.int n) H') ∧ (vs'.length = 1 → ∀ e H', Same H H' → H' e = some (XO e cF none) → E (.ref e) none H')
set_option maxHeartbeats 4000000 in
theorem own_oput (D : DefM K C "put" "Out.put" s_Out_put) (hb : Blt mg) (T_Out : ClsD K mg "Out" C at_Out) (hc_Full : mg "Full" = some (.ref cF)) (Z_Full : XPl K cF) (F_own_copy : Own P w K mg base 1 "own_copy" ["thing"] sp_copyT) : OwnMX P w K mg base 2 C "put" ["self", "parcel"] (sp_oput C cF) := by
  refine D.ownE sc_Out_put (fun _ _ _ _ _ _ us hl => match us, hl with | [_, _], _ => rfl) (fun vs H Q E h => ?_) (fun f cdv A outer s H vs Q E hr h => ?_)
  · obtain ⟨x, dx, k, n, vs', t, rfl, _⟩ := h
    rfl
  · obtain ⟨x, dx, k, n, vs', t, rfl, ex, ek, hxk, hl, q, qe⟩ := h
    have hu := hr.units
    have hu1 : (A.deeper (PyProof.Rows.envOfC "Out.put" (defScope s_Out_put) s.heap.objs.size f cdv)).units + 1 < cLine := by omega
    refine ⟨_, (@pss_cons _ _ _ _ _ (@ps_if _ _ _ _ _ _ _ _ (@pt_cmpR _ _ _ _ _ _ _ _ op_ge (@pe_callB _ _ _ _ _ _ _ _ _ call_lenX rfl (hb _ (by decide)) bt_len (@pa_cX _ _ _ _ _ (@pe_fldK _ K _ _ _ _ (@pv _ 0 _ _ (by rfl) (by first | exact Or.inl rfl | exact Or.inr (Or.inl rfl) | exact Or.inr (Or.inr rfl)) (by decide) (by decide)) (by rfl) (by rfl)) (@pa_nil _) (by rfl)) (by decide) (by decide) (by rfl) (by rfl)) (@pe_fldK _ K _ _ _ _ (@pv _ 0 _ _ (by rfl) (by first | exact Or.inl rfl | exact Or.inr (Or.inl rfl) | exact Or.inr (Or.inr rfl)) (by decide) (by decide)) (by rfl) (by rfl)) (nomark _)) (@pss_one _ _ _ (@ps_exc _ _ _ _ (@psx_raise _ _ _ _ (@pn_new _ _ _ _ _ _ _ _ Z_Full.ex Z_Full.kp hc_Full (@pa_cX _ _ _ _ _ (@pe_str _ _ _ _) (@pa_nil _) (by rfl)) (by rfl) (by decide) (by rfl) (by rfl)) (by rfl)))) (@pss_nil _)) (@pss_cons _ _ _ _ _ (@ps_set _ _ 2 _ _ _ _ sc_Out_put.nd rfl (by first | exact Or.inl rfl | exact Or.inr rfl) (@pe_fldK _ K _ _ _ _ (@pv _ 0 _ _ (by rfl) (by first | exact Or.inl rfl | exact Or.inr (Or.inl rfl) | exact Or.inr (Or.inr rfl)) (by decide) (by decide)) (by rfl) (by rfl)) (by rfl) (by first | exact .inl rfl | exact .inr rfl | assumption)) (@pss_cons _ _ _ _ _ (@ps_expr _ _ _ _ (@pe_lm _ _ _ _ _ _ _ _ _ _ _ PySem.F.slot_list_append PySem.F.type_list_append mt_append (@pe_fldK _ K _ _ _ _ (@pv _ 0 _ _ (by rfl) (by first | exact Or.inl rfl | exact Or.inr (Or.inl rfl) | exact Or.inr (Or.inr rfl)) (by decide) (by decide)) (by rfl) (by rfl)) (@pa_cX _ _ _ _ _ (@pe_tup _ _ _ _ _ (@pa_cX _ _ _ _ _ (@pv _ 2 _ _ (by rfl) (by first | exact Or.inl rfl | exact Or.inr (Or.inl rfl) | exact Or.inr (Or.inr rfl)) (by decide) (by decide)) (@pa_cX _ _ _ _ _ (@pe_fn _ _ _ _ _ _ _ _ _ _ _ F_own_copy hr (@pa_cX _ _ _ _ _ (@pv _ 1 _ _ (by rfl) (by first | exact Or.inl rfl | exact Or.inr (Or.inl rfl) | exact Or.inr (Or.inr rfl)) (by decide) (by decide)) (@pa_nil _) (by rfl)) (by decide) (by rfl) (by decide) (by rfl) (by rfl)) (@pa_nil _) (by rfl)) (by rfl))) (@pa_nil _) (by rfl)) (by rfl) (by rfl) (by rfl) (by rfl) (by rfl)) (by rfl)) (@pss_cons _ _ _ _ _ (@ps_fld _ _ _ _ _ _ _ _ (@pv _ 0 _ _ (by rfl) (by first | exact Or.inl rfl | exact Or.inr (Or.inl rfl) | exact Or.inr (Or.inr rfl)) (by decide) (by decide)) (@pe_op _ _ _ _ _ _ _ _ op_add (@pv _ 2 _ _ (by rfl) (by first | exact Or.inl rfl | exact Or.inr (Or.inl rfl) | exact Or.inr (Or.inr rfl)) (by decide) (by decide)) (@pe_int _ _ _ _)) rfl) (@pss_one _ _ _ (@ps_ret _ _ _ _ (@pv _ 2 _ _ (by rfl) (by first | exact Or.inl rfl | exact Or.inr (Or.inl rfl) | exact Or.inr (Or.inr rfl)) (by decide) (by decide)))))))), ?_⟩
    simp (maxSteps := 1000000) only [tBL, rLenX, lenX_r, lenO_l, Option.bind_some, Nat.reduceSub, upd_upd, HO.lst.injEq, HO.ins.injEq, Nat.reduceAdd, tFld, sFld, cxOf_K, rAppend, List.cons.injEq, tSeq, exists_and_left, tIfS, tTest, tOp, tVar, tC, rI0, tRet, tAsg, gName, tNext, tCall, tCons, tNil, tCB, tDrop, tTup, L2.start, List.map_cons, List.map_nil, List.length_cons, List.length_nil, List.replicate, List.cons_append, List.nil_append, List.getElem?_cons_zero, List.getElem?_cons_succ, List.set_cons_zero, List.set_cons_succ, Option.some.injEq, exists_eq_left', V.int.injEq, V.bl.injEq, V.ref.injEq, V.str.injEq, and_true, true_and, and_assoc, List.append_nil, ex, ek, exc_K, T_Out.cl, T_Out.no "room" (by decide), T_Out.no "given" (by decide), T_Out.no "kept" (by decide), fs_Out_room, fs_Out_given, fs_Out_kept, upd_upd, tRaise, tNew0, tSE, sp_copyT]
    match vs', hl with
    | [], _ =>
      rw [if_neg (by decide)]
      refine ⟨by rw [sizeLine_eq]; decide, fun p hp => ?_⟩
      have hkp : k ≠ p := fun h => by rw [h, hp] at ek; cases ek
      have hxp : x ≠ p := fun h => by rw [h, hp] at ex; cases ex
      refine ⟨[], (upd_ne hkp).trans ek, by rw [sizeLine_eq]; decide, ?_⟩
      have ex3 : upd (upd H p (HO.tup [V.int n, V.str t])) k (HO.lst [V.ref p]) x = some (.ins C dx (fs_Out (.int 1) (.int n) (.ref k))) := by rw [upd_ne hxk, upd_ne hxp]; exact ex
      simp (maxSteps := 1000000) only [HO.ins.injEq, exists_and_left, List.nil_append, Option.some.injEq, exists_eq_left', true_and, and_assoc, ex3, T_Out.cl, T_Out.no "given" (by decide), fl_Out, fp_Out_given]
      refine q rfl (.ref p) _ upd_same ?_ fun b o h hb => ?_
      · rw [upd_ne (Ne.symm hxk), upd_same]
      · simp only [List.mem_cons, List.not_mem_nil, or_false, not_or] at hb
        rw [upd_ne hb.1, upd_ne hb.2, upd_ne (fun z => by rw [z, hp] at h; cases h)]
        exact h
    | [_], _ =>
      rw [if_pos (by change decide ((1 : Int) ≤ 1) = true; decide)]
      exact ⟨by decide, fun e he => qe rfl e _ (.upd_new he) upd_same⟩
end
end K71
namespace K71
open PySem L2
abbrev s_Road_deed_of : Stmt := inClass (stm 59) 1
theorem sc_Road_deed_of : FnScope ["self", "turn"] ["self", "turn"] (defScope s_Road_deed_of) := ⟨rfl, rfl, rfl, by decide +kernel, rfl, by decide +kernel, by decide +kernel⟩
abbrev s_Road_send : Stmt := inClass (stm 59) 2
theorem sc_Road_send : FnScope ["self", "turn", "letter", "delay"] ["self", "turn", "letter"] (defScope s_Road_send) := ⟨rfl, rfl, rfl, by decide +kernel, rfl, by decide +kernel, by decide +kernel⟩
section
variable {P : Program} {w : World} {K : PySem.W.Frag} {mg : Str → Option Value} {base : Heap} {C R cM cP cR cF cT cN cA cL cW cO pd : Addr} {H H' : Hp}
def sp_deedof (C pd : Addr) : Sp := fun vs H Q _ => ∃ (x dx l : Addr) (t : Int) (ls la u : V), vs = [.ref x, .int t] ∧ H x = some (.ins C dx (fs_Road (.ref l) ls la u)) ∧ H l = some (.lst []) ∧ Q (.ref pd) H
set_option maxHeartbeats 4000000 in
theorem own_deedof (D : DefM K C "deed_of" "Road.deed_of" s_Road_deed_of) (T_Road : ClsD K mg "Road" C at_Road) (g_PLAIN_DEED : ∃ u, mg "PLAIN_DEED" = some u ∧ RelV (.ref pd) u) : OwnM P w K mg base 1 C "deed_of" ["self", "turn"] (sp_deedof C pd) := by
  refine D.own sc_Road_deed_of (fun _ _ _ _ _ _ us hl => match us, hl with | [_, _], _ => rfl) (fun vs H Q E h => ?_) (fun f cdv A outer s H vs Q E hr h => ?_)
  · obtain ⟨x, dx, l, t, ls, la, u, rfl, _⟩ := h
    rfl
  · obtain ⟨x, dx, l, t, ls, la, u, rfl, ex, el, q⟩ := h
    refine ⟨_, (@pss_cons _ _ _ _ _ (@ps_if _ _ _ _ _ _ _ _ (@pt_not _ _ _ _ (@pt_truX _ _ _ (@pe_fldK _ K _ _ _ _ (@pv _ 0 _ _ (by rfl) (by first | exact Or.inl rfl | exact Or.inr (Or.inl rfl) | exact Or.inr (Or.inr rfl)) (by decide) (by decide)) (by rfl) (by rfl)) (by intro _; rfl))) (@pss_one _ _ _ (@ps_ret _ _ _ _ (@pe_glb _ _ _ _ g_PLAIN_DEED (by rfl) (by decide)))) (@pss_nil _)) (@pss_one _ _ _ (@ps_never _ _))), ?_⟩
    simp (maxSteps := 1000000) only [Option.bind_some, tTruX, truX_r, truO_l, Nat.reduceSub, HO.ins.injEq, Nat.reduceAdd, List.isEmpty_nil, tFld, tNever, Bool.not_true, Bool.not_false, tSeq, exists_and_left, if_true, tIfS, tNot, tVar, tC, tRet, tNext, L2.start, List.map_cons, List.map_nil, List.length_cons, List.length_nil, List.replicate, List.getElem?_cons_zero, Option.some.injEq, exists_eq_left', V.ref.injEq, true_and, and_assoc, List.append_nil, ex, el, T_Road.cl, T_Road.no "deeds" (by decide), fs_Road_deeds]
    exact q
def sp_send (C cP : Addr) : Sp := fun vs H Q E => ∃ (x dx l u : Addr) (ls : Option Int) (y : Str) (us : List V), vs = [.ref x, .int 3, .str y] ∧ H x = some (.ins C dx (fs_Road (.ref l) (match ls with | none => .non | some i => .int i) .non (.ref u))) ∧ H l = some (.lst []) ∧ H u = some (.lst us) ∧ us.length ≤ 10 ∧ x ≠ u ∧ l ≠ u ∧
  (ls = none → ∀ us' H', us'.length ≤ us.length + 1 → H' x = some (.ins C dx (fs_Road (.ref l) (.int 3) .non (.ref u))) → H' l = some (.lst []) → H' u = some (.lst us') → Keep [x, u] H H' → Q .non H') ∧ (ls = some 3 → ∀ e od H', Same H H' → H' e = some (XO e cP od) → (∀ d, od = some d → ∃ fs, H' d = some (.xd fs)) → E (.ref e) none H') ∧ (ls = none ∨ ls = some 3)
def LSd (H : Hp) (C dx x l u : Addr) (y : Str) (us : List V) (i : Nat) (σ : St) (H' : Hp) : Prop := ∃ (v : Option V) (us' : List V), σ = [some (.ref x), some (.int 3), some (.str y), v] ∧ us'.length ≤ us.length + i ∧ H' x = some (.ins C dx (fs_Road (.ref l) (.int 3) .non (.ref u))) ∧ H' l = some (.lst []) ∧ H' u = some (.lst us') ∧ Keep [x, u] H H'
set_option maxHeartbeats 4000000 in
theorem own_send (D : DefM K C "send" "Road.send" s_Road_send) (hb : Blt mg) (T_Road : ClsD K mg "Road" C at_Road) (hpd : ∀ H, SqT K H pd [.int 1]) (hc_BadPast : mg "BadPast" = some (.ref cP)) (E_BadPast : OwnE P w K mg base 1 cP ["self", "turn"] (sp_xinit cP "turn"))
    (M_Road_deed_of : OwnM P w K mg base 1 C "deed_of" ["self", "turn"] (sp_deedof C pd)) (F_own_copy : Own P w K mg base 1 "own_copy" ["thing"] sp_copyT) : OwnMX P w K mg base 3 C "send" ["self", "turn", "letter"] (sp_send C cP) := by
  refine D.ownE sc_Road_send (fun _ _ _ _ _ _ us hl => match us, hl with | [_, _, _], _ => rfl) (fun vs H Q E h => ?_) (fun f cdv A outer s H vs Q E hr h => ?_)
  · obtain ⟨x, dx, l, u, ls, y, us, rfl, _⟩ := h
    rfl
  · obtain ⟨x, dx, l, u, ls, y, us, rfl, ex, el, eu, hlen, hxu, hlu, q, qe, hls⟩ := h
    have hu := hr.units
    have hu1 : (A.deeper (PyProof.Rows.envOfC "Road.send" (defScope s_Road_send) s.heap.objs.size f cdv)).units + 1 < cLine := by omega
    refine ⟨_, (@pss_cons _ _ _ _ _ (@ps_if _ _ _ _ _ _ _ _ (@PW.pt _ _ _ (@pw_and _ _ _ _ _ _ _ (@pt_cmpR _ _ _ _ _ _ _ _ op_notN (@pe_fldK _ K _ _ _ _ (@pv _ 0 _ _ (by rfl) (by first | exact Or.inl rfl | exact Or.inr (Or.inl rfl) | exact Or.inr (Or.inr rfl)) (by decide) (by decide)) (by rfl) (by rfl)) (@pe_non _ _ _) (nomark _)) (@pw_and1 _ _ _ _ (@pt_cmpR _ _ _ _ _ _ _ _ op_le (@pv _ 1 _ _ (by rfl) (by first | exact Or.inl rfl | exact Or.inr (Or.inl rfl) | exact Or.inr (Or.inr rfl)) (by decide) (by decide)) (@pe_fldK _ K _ _ _ _ (@pv _ 0 _ _ (by rfl) (by first | exact Or.inl rfl | exact Or.inr (Or.inl rfl) | exact Or.inr (Or.inr rfl)) (by decide) (by decide)) (by rfl) (by rfl)) (nomark _))))) (@pss_one _ _ _ (@ps_exc _ _ _ _ (@psx_raise _ _ _ _ (@pn_newI _ _ _ _ _ _ _ _ _ _ _ _ E_BadPast hr hc_BadPast (@pa_cX _ _ _ _ _ (@pe_fldK _ K _ _ _ _ (@pv _ 0 _ _ (by rfl) (by first | exact Or.inl rfl | exact Or.inr (Or.inl rfl) | exact Or.inr (Or.inr rfl)) (by decide) (by decide)) (by rfl) (by rfl)) (@pa_nil _) (by rfl)) (by decide) (by rfl) (by decide) (by rfl) (by rfl)) (by rfl)))) (@pss_nil _)) (@pss_cons _ _ _ _ _ (@ps_fld _ _ _ _ _ _ _ _ (@pv _ 0 _ _ (by rfl) (by first | exact Or.inl rfl | exact Or.inr (Or.inl rfl) | exact Or.inr (Or.inr rfl)) (by decide) (by decide)) (@pv _ 1 _ _ (by rfl) (by first | exact Or.inl rfl | exact Or.inr (Or.inl rfl) | exact Or.inr (Or.inr rfl)) (by decide) (by decide)) rfl) (@pss_one _ _ _ (@ps_for _ _ _ _ _ _ _ _ (passes_ex rfl rfl) rfl (@pi_tupK _ K _ _ _ (@pe_mth _ _ _ _ _ _ _ _ _ _ _ _ _ _ _ M_Road_deed_of T_Road.cl hr (@pv _ 0 _ _ (by rfl) (by first | exact Or.inl rfl | exact Or.inr (Or.inl rfl) | exact Or.inr (Or.inr rfl)) (by decide) (by decide)) (@pa_cX _ _ _ _ _ (@pv _ 1 _ _ (by rfl) (by first | exact Or.inl rfl | exact Or.inr (Or.inl rfl) | exact Or.inr (Or.inr rfl)) (by decide) (by decide)) (@pa_nil _) (by rfl)) (by decide) (by rfl) (by rfl) (by rfl)) (by rfl)) (@pg_name _ _ 3 _ sc_Road_send.nd rfl (by first | exact Or.inl rfl | exact Or.inr rfl) (by first | exact .inl rfl | exact .inr rfl | assumption)) (@pss_one _ _ _ (@ps_expr _ _ _ _ (@pe_lm _ _ _ _ _ _ _ _ _ _ _ PySem.F.slot_list_append PySem.F.type_list_append mt_append (@pe_fldK _ K _ _ _ _ (@pv _ 0 _ _ (by rfl) (by first | exact Or.inl rfl | exact Or.inr (Or.inl rfl) | exact Or.inr (Or.inr rfl)) (by decide) (by decide)) (by rfl) (by rfl)) (@pa_cX _ _ _ _ _ (@pe_tup _ _ _ _ _ (@pa_cX _ _ _ _ _ (@pe_op _ _ _ _ _ _ _ _ op_add (@pv _ 1 _ _ (by rfl) (by first | exact Or.inl rfl | exact Or.inr (Or.inl rfl) | exact Or.inr (Or.inr rfl)) (by decide) (by decide)) (@pv _ 3 _ _ (by rfl) (by first | exact Or.inl rfl | exact Or.inr (Or.inl rfl) | exact Or.inr (Or.inr rfl)) (by decide) (by decide))) (@pa_cX _ _ _ _ _ (@pe_fn _ _ _ _ _ _ _ _ _ _ _ F_own_copy hr (@pa_cX _ _ _ _ _ (@pv _ 2 _ _ (by rfl) (by first | exact Or.inl rfl | exact Or.inr (Or.inl rfl) | exact Or.inr (Or.inr rfl)) (by decide) (by decide)) (@pa_nil _) (by rfl)) (by decide) (by rfl) (by decide) (by rfl) (by rfl)) (@pa_nil _) (by rfl)) (by rfl))) (@pa_nil _) (by rfl)) (by rfl) (by rfl) (by rfl) (by rfl) (by rfl)) (by rfl))) (by intro _; rfl))))), ?_⟩
    rcases hls with rfl | rfl
    · simp (maxSteps := 1000000) only [tFor_eq, Nat.reduceSub, upd_same, HO.ins.injEq, Nat.reduceAdd, tMeth, tFld, sFld, decide_true, Bool.not_true, cxOf_K, tSeq, exists_and_left, if_false, Bool.false_eq_true, tIfS, tAnd, tTest, tOp, tVar, tC, rI0, tNext, tCons, tNil, L2.start, List.map_cons, List.map_nil, List.length_cons, List.length_nil, List.replicate, List.cons_append, List.nil_append, List.getElem?_cons_zero, List.getElem?_cons_succ, Option.some.injEq, exists_eq_left', V.int.injEq, V.bl.injEq, V.ref.injEq, exists_const, true_and, reduceCtorEq, false_and, and_assoc, List.append_nil, ex, exc_K, T_Road.cl, T_Road.no "last_sent" (by decide), fs_Road_last_sent, fn_Road_deed_of, fl_Road, fp_Road_last_sent, upd_same, iTup]
      have hlx : l ≠ x := fun h => by rw [h, ex] at el; cases el
      refine ⟨x, dx, l, 3, _, _, _, rfl, upd_same, (upd_ne hlx).trans el, pd, rfl, ⟨_, hpd _⟩, ?_⟩
      have ex1 : upd H x (HO.ins C dx (fs_Road (V.ref l) (V.int 3) V.non (V.ref u))) x = some (HO.ins C dx (fs_Road (V.ref l) (V.int 3) V.non (V.ref u))) := upd_same
      have eu1 : upd H x (HO.ins C dx (fs_Road (V.ref l) (V.int 3) V.non (V.ref u))) u = some (.lst us) := (upd_ne (Ne.symm hxu)).trans eu
      have el1 : upd H x (HO.ins C dx (fs_Road (V.ref l) (V.int 3) V.non (V.ref u))) l = some (.lst []) := (upd_ne hlx).trans el
      have k1 : Keep [x, u] H (upd H x (HO.ins C dx (fs_Road (V.ref l) (V.int 3) V.non (V.ref u)))) := fun b o h hb => by rw [upd_ne (fun z => hb (by rw [z]; exact .head _))]; exact h
      generalize upd H x (HO.ins C dx (fs_Road (V.ref l) (V.int 3) V.non (V.ref u))) = H1 at ex1 eu1 el1 k1 ⊢
      refine for_tup (xs := [V.int 1]) (LSd H C dx x l u y us) ⟨none, us, rfl, by omega, ex1, el1, eu1, k1⟩ ?_ ?_ ?_
      · exact fun _ _ H2 _ _ => hpd H2
      · rintro i xv σ H2 hx ⟨v, us', rfl, hl', ex2, el2, eu2, k2⟩
        obtain rfl : xv = .int 1 := by
          have := List.mem_of_getElem? hx
          simpa using this
        have hi : i = 0 := by
          have := (List.getElem?_eq_some_iff.mp hx).1
          simp at this
          exact this
        simp (maxSteps := 1000000) only [tBL, HO.ins.injEq, Nat.reduceAdd, tFld, rAppend, List.cons.injEq, exists_and_left, tOp, tVar, rI0, gName, tCall, tCons, tNil, tDrop, tTup, List.length_cons, List.length_nil, List.getElem?_cons_zero, List.getElem?_cons_succ, List.set_cons_zero, List.set_cons_succ, Option.some.injEq, exists_eq_left', V.int.injEq, V.ref.injEq, V.str.injEq, and_true, true_and, and_assoc, List.append_nil, ex2, T_Road.cl, T_Road.no "underway" (by decide), fs_Road_underway, sp_copyT]
        refine ⟨_, eu2, by rw [sizeLine_eq]; decide, fun p hp => ?_⟩
        have hup : u ≠ p := fun h => by rw [h, hp] at eu2; cases eu2
        have hxp : x ≠ p := fun h => by rw [h, hp] at ex2; cases ex2
        have hlp : l ≠ p := fun h => by rw [h, hp] at el2; cases el2
        refine ⟨us', (upd_ne hup).trans eu2, by rw [sizeLine_eq]; omega, _, us' ++ [.ref p], rfl, by rw [List.length_append, List.length_singleton]; omega, ?_, ?_, upd_same, fun b o h hb => ?_⟩
        · rw [upd_ne hxu, upd_ne hxp]; exact ex2
        · rw [upd_ne hlu, upd_ne hlp]; exact el2
        · have h2 := k2 b o h hb
          simp only [List.mem_cons, List.not_mem_nil, or_false, not_or] at hb
          rw [upd_ne hb.2, upd_ne (fun z => by rw [z, hp] at h2; cases h2)]
          exact h2
      · rintro σ H2 ⟨v, us', rfl, hl', ex2, el2, eu2, k2⟩
        exact q rfl us' H2 hl' ex2 el2 eu2 k2
    · simp (maxSteps := 1000000) only [tFor_eq, Nat.reduceSub, upd_same, upd_upd, HO.ins.injEq, Int.reduceLE, Nat.reduceAdd, ne_eq, tFld, sFld, decide_true, decide_false, Bool.not_false, cxOf_K, List.cons.injEq, tSeq, exists_and_left, if_false, if_true, Bool.false_eq_true, tIfS, tAnd, tTest, tOp, tVar, tC, rI0, tNext, tCons, tNil, L2.start, List.map_cons, List.map_nil, List.length_cons, List.length_nil, List.replicate, List.cons_append, List.nil_append, List.getElem?_cons_zero, List.getElem?_cons_succ, Option.some.injEq, exists_eq_left', V.int.injEq, V.bl.injEq, V.ref.injEq, and_true, true_and, reduceCtorEq, and_assoc, ex, exc_K, T_Road.cl, T_Road.no "last_sent" (by decide), fs_Road_last_sent, fl_Road, fp_Road_last_sent, upd_same, upd_upd, tRaise, tNewI, tSE, sp_xinit]
      refine ⟨by decide, fun e he => ⟨by decide, fun d hd hne => ⟨_, rfl, qe rfl e (some d) _ (fun b o h => ?_) upd_same fun d' z => ?_⟩⟩⟩
      · have hbe : b ≠ e := fun z => by rw [z, he] at h; cases h
        have hd' : H d = none := by rw [upd_ne hne] at hd; exact hd
        rw [upd_ne hbe, upd_ne (fun z => by rw [z, hd'] at h; cases h), upd_ne hbe]
        exact h
      · cases z
        exact ⟨_, by rw [upd_ne hne, upd_same]⟩
end
end K71
namespace K71
open PySem L2
abbrev s_is_signs : Stmt := stm 37
theorem sc_is_signs : FnScope ["thing"] ["thing"] (defScope s_is_signs) := ⟨rfl, rfl, rfl, by decide +kernel, rfl, by decide +kernel, by decide +kernel⟩
abbrev s_is_thing : Stmt := stm 38
theorem sc_is_thing : FnScope ["thing"] ["thing"] (defScope s_is_thing) := ⟨rfl, rfl, rfl, by decide +kernel, rfl, by decide +kernel, by decide +kernel⟩
section
variable {P : Program} {w : World} {K : PySem.W.Frag} {mg : Str → Option Value} {base : Heap} {H H' : Hp}
def sp_signs1 : Sp := fun vs H Q _ => ∃ (t : Addr) (x : Str), vs = [.ref t] ∧ H t = some (.tup [.str x]) ∧ Q (.bl false) H
set_option maxHeartbeats 4000000 in
theorem own_signs1 (D : Def K mg "is_signs" s_is_signs) (hb : Blt mg) (g_MOST_SIGNS : ∃ u, mg "MOST_SIGNS" = some u ∧ RelV (.int 8) u) (F_is_text_of : Own P w K mg base 1 "is_text_of" ["thing", "most", "first", "last"] sp_tx0) : Own P w K mg base 2 "is_signs" ["thing"] sp_signs1 := by
  refine D.own sc_is_signs (fun _ _ _ _ _ _ us hl => match us, hl with | [_], _ => rfl) (fun vs H Q E h => ?_) (fun f cdv A outer s H vs Q E hr h => ?_)
  · obtain ⟨t, x, rfl, _⟩ := h
    rfl
  · obtain ⟨t, x, rfl, e, q⟩ := h
    have hu := hr.units
    have hu1 : (A.deeper (PyProof.Rows.envOfC "is_signs" (defScope s_is_signs) s.heap.objs.size f cdv)).units + 1 < cLine := by omega
    refine ⟨_, (@pss_one _ _ _ (@ps_ret _ _ _ _ (@pe_and _ _ _ _ _ _ _ (@pe_cmpR _ _ _ _ _ _ _ _ op_eq (@pe_callB _ _ _ _ _ _ _ _ _ call_lenX rfl (hb _ (by decide)) bt_len (@pa_cX _ _ _ _ _ (@pv _ 0 _ _ (by rfl) (by first | exact Or.inl rfl | exact Or.inr (Or.inl rfl) | exact Or.inr (Or.inr rfl)) (by decide) (by decide)) (@pa_nil _) (by rfl)) (by decide) (by decide) (by rfl) (by rfl)) (@pe_int _ _ _ _) (nomark _)) (@pe_and _ _ _ _ _ _ _ (@pe_cmpR _ _ _ _ _ _ _ _ op_eq (@pe_ix _ _ _ _ _ _ _ (ix_get hu1) (@pv _ 0 _ _ (by rfl) (by first | exact Or.inl rfl | exact Or.inr (Or.inl rfl) | exact Or.inr (Or.inr rfl)) (by decide) (by decide)) (@pe_int _ _ _ _) (fun _ _ => rfl)) (@pe_str _ _ _ _) (nomark _)) (@pe_one _ _ _ _ _ (@pe_fn _ _ _ _ _ _ _ _ _ _ _ F_is_text_of hr (@pa_cX _ _ _ _ _ (@pe_ix _ _ _ _ _ _ _ (ix_get hu1) (@pv _ 0 _ _ (by rfl) (by first | exact Or.inl rfl | exact Or.inr (Or.inl rfl) | exact Or.inr (Or.inr rfl)) (by decide) (by decide)) (@pe_int _ _ _ _) (fun _ _ => rfl)) (@pa_cX _ _ _ _ _ (@pe_glb _ _ _ _ g_MOST_SIGNS (by rfl) (by decide)) (@pa_cX _ _ _ _ _ (@pe_str _ _ _ _) (@pa_cX _ _ _ _ _ (@pe_str _ _ _ _) (@pa_nil _) (by rfl)) (by rfl)) (by rfl)) (by rfl)) (by decide) (by rfl) (by decide) (by rfl) (by rfl))))))), ?_⟩
    simp (maxSteps := 1000000) only [rEq_ss, rGet, getO_t, rLenX, lenX_r, lenO_t, Option.bind_some, atI_0, Nat.reduceSub, Nat.reduceAdd, List.cons.injEq, rEq_ii, exists_and_left, tOp, tVar, tC, tRet, tAndV, tCall, tCons, tNil, tCB, L2.start, List.map_cons, List.map_nil, List.length_cons, List.length_nil, List.replicate, List.getElem?_cons_zero, Option.some.injEq, exists_eq_left', V.bl.injEq, V.ref.injEq, and_true, List.append_nil, e]
    rw [if_neg (by decide)]
    exact q
theorem dt1 {H : Hp} {p : Addr} {x : Str} (e : H p = some (.tup [.str x])) (ok : PyData.strOk x = true) : Dt H (.ref p) (.tuple [.str x]) := .tp e (.cons (Im.str ok).dt .nil)
theorem dp1 {x : Str} : (PyData.tuple [.str x]).depth ≤ 60 := by simp [PyData.depth, PyData.depthAll]
def sp_thing1 : Sp := fun vs H Q _ => ∃ (t : Addr) (x : String), vs = [.ref t] ∧ H t = some (.tup [.str (Str.ofString x)]) ∧ (x = "none" ∨ x = "end") ∧ ∀ H', Same H H' → Q (.bl (x == "end")) H'
set_option maxHeartbeats 4000000 in
theorem own_thing1 (D : Def K mg "is_thing" s_is_thing) (hb : Blt mg) (F_is_signs : Own P w K mg base 2 "is_signs" ["thing"] sp_signs1) : Own P w K mg base 3 "is_thing" ["thing"] sp_thing1 := by
  refine D.own sc_is_thing (fun _ _ _ _ _ _ us hl => match us, hl with | [_], _ => rfl) (fun vs H Q E h => ?_) (fun f cdv A outer s H vs Q E hr h => ?_)
  · obtain ⟨t, x, rfl, _⟩ := h
    rfl
  · obtain ⟨t, x, rfl, e, hx, q⟩ := h
    have hu := hr.units
    have hu1 : (A.deeper (PyProof.Rows.envOfC "is_thing" (defScope s_is_thing) s.heap.objs.size f cdv)).units + 1 < cLine := by omega
    refine ⟨_, (@pss_cons _ _ _ _ _ (@ps_if _ _ _ _ _ _ _ _ (@pt_not _ _ _ _ (@pt_truX _ _ _ (@pe_callB _ _ _ _ _ _ _ _ _ call_isiX rfl (hb _ (by decide)) bt_isinstance (@pa_cX _ _ _ _ _ (@pv _ 0 _ _ (by rfl) (by first | exact Or.inl rfl | exact Or.inr (Or.inl rfl) | exact Or.inr (Or.inr rfl)) (by decide) (by decide)) (@pa_cX _ _ _ _ _ (@pe_bltn _ _ (.ty "tuple") _ _ rfl (hb _ (by decide)) bt_tuple rfl (by decide) (by decide)) (@pa_nil _) (by rfl)) (by rfl)) (by decide) (by decide) (by rfl) (by rfl)) (by intro _; rfl))) (@pss_one _ _ _ (@ps_ret _ _ _ _ (@pe_bl _ _ _ _))) (@pss_nil _)) (@pss_one _ _ _ (@ps_ret _ _ _ _ (@pe_or _ _ _ _ _ _ _ (@pe_cmpR _ _ _ _ _ _ _ _ (op_eqX hu) (@pv _ 0 _ _ (by rfl) (by first | exact Or.inl rfl | exact Or.inr (Or.inl rfl) | exact Or.inr (Or.inr rfl)) (by decide) (by decide)) (@pe_tup _ _ _ _ _ (@pa_cX _ _ _ _ _ (@pe_str _ _ _ _) (@pa_nil _) (by rfl))) (nomark _)) (@pe_or _ _ _ _ _ _ _ (@pe_cmpR _ _ _ _ _ _ _ _ (op_eqX hu) (@pv _ 0 _ _ (by rfl) (by first | exact Or.inl rfl | exact Or.inr (Or.inl rfl) | exact Or.inr (Or.inr rfl)) (by decide) (by decide)) (@pe_tup _ _ _ _ _ (@pa_cX _ _ _ _ _ (@pe_str _ _ _ _) (@pa_nil _) (by rfl))) (nomark _)) (@pe_one _ _ _ _ _ (@pe_fn _ _ _ _ _ _ _ _ _ _ _ F_is_signs hr (@pa_cX _ _ _ _ _ (@pv _ 0 _ _ (by rfl) (by first | exact Or.inl rfl | exact Or.inr (Or.inl rfl) | exact Or.inr (Or.inr rfl)) (by decide) (by decide)) (@pa_nil _) (by rfl)) (by decide) (by rfl) (by decide) (by rfl) (by rfl)))))))), ?_⟩
    simp (maxSteps := 1000000) only [rIsIX, tyX_r, tyO_t, V.ty.injEq, kT_tutu, Option.bind_some, tTruX, truX_b, Nat.reduceSub, Nat.reduceAdd, V.ty.injEq, Bool.not_true, List.cons.injEq, tSeq, exists_and_left, if_false, Bool.false_eq_true, tIfS, tNot, tOp, tVar, tC, tRet, tNext, tOrV, tCall, tCons, tNil, tCB, tTup, L2.start, List.map_cons, List.map_nil, List.length_cons, List.length_nil, List.replicate, List.getElem?_cons_zero, Option.some.injEq, exists_eq_left', and_true, and_assoc, List.append_nil, e]
    refine ⟨by rw [sizeLine_eq]; decide, fun p hp => ?_⟩
    have s1 : Same H (upd H p (HO.tup [V.str (Str.ofString "begin")])) := .upd_new hp
    have e1 : upd H p (HO.tup [V.str (Str.ofString "begin")]) p = some (HO.tup [V.str (Str.ofString "begin")]) := upd_same
    generalize upd H p (HO.tup [V.str (Str.ofString "begin")]) = H1 at s1 e1 ⊢
    have okx : PyData.strOk (Str.ofString x) = true := by rcases hx with rfl | rfl <;> decide +kernel
    have okb : PyData.strOk (Str.ofString "begin") = true := by decide +kernel
    have oke : PyData.strOk (Str.ofString "end") = true := by decide +kernel
    have eq1 : PyData.eqv (.tuple [.str (Str.ofString x)]) (.tuple [.str (Str.ofString "begin")]) = false := by rcases hx with rfl | rfl <;> decide +kernel
    refine ⟨_, _, dt1 (s1 _ _ e) okx, dt1 e1 okb, dp1, dp1, false, congrArg V.bl eq1, iteF ⟨by rw [sizeLine_eq]; decide, fun p2 hp2 => ?_⟩⟩
    have s2 : Same H1 (upd H1 p2 (HO.tup [V.str (Str.ofString "end")])) := .upd_new hp2
    have e2 : upd H1 p2 (HO.tup [V.str (Str.ofString "end")]) p2 = some (HO.tup [V.str (Str.ofString "end")]) := upd_same
    generalize upd H1 p2 (HO.tup [V.str (Str.ofString "end")]) = H2 at s2 e2 ⊢
    have et := s2 _ _ (s1 _ _ e)
    rcases hx with rfl | rfl
    · exact ⟨_, _, dt1 et okx, dt1 e2 oke, dp1, dp1, false, congrArg V.bl (by decide +kernel), iteF ⟨t, _, rfl, et, q _ (s1.trans s2)⟩⟩
    · exact ⟨_, _, dt1 et okx, dt1 e2 oke, dp1, dp1, true, congrArg V.bl (by decide +kernel), iteT (q _ (s1.trans s2))⟩
end
end K71
namespace K71
open PySem L2
abbrev at_Teller : List Str := ["window", "wait", "base", "top", "state", "things", "goings"]
def fs_Teller (a0 a1 a2 a3 a4 a5 a6 : V) : List (Str × V) := [("window", a0), ("wait", a1), ("base", a2), ("top", a3), ("state", a4), ("things", a5), ("goings", a6)]
section
variable {a0 a1 a2 a3 a4 a5 a6 : V}
theorem fs_Teller_state : (fs_Teller a0 a1 a2 a3 a4 a5 a6).lookup ("state" : Str) = some a4 := rfl
theorem fn_Teller_put : (fs_Teller a0 a1 a2 a3 a4 a5 a6).lookup ("put" : Str) = none := rfl
theorem fq_Teller_0 {v : V} : putF "window" v ([] : List (Str × V)) = ([("window", v)] : List (Str × V)) := by with_unfolding_all rfl
theorem fq_Teller_1 {v : V} : putF "wait" v ([("window", a0)] : List (Str × V)) = ([("window", a0), ("wait", v)] : List (Str × V)) := by with_unfolding_all rfl
theorem fq_Teller_2 {v : V} : putF "base" v ([("window", a0), ("wait", a1)] : List (Str × V)) = ([("window", a0), ("wait", a1), ("base", v)] : List (Str × V)) := by with_unfolding_all rfl
theorem fq_Teller_3 {v : V} : putF "top" v ([("window", a0), ("wait", a1), ("base", a2)] : List (Str × V)) = ([("window", a0), ("wait", a1), ("base", a2), ("top", v)] : List (Str × V)) := by with_unfolding_all rfl
theorem fq_Teller_4 {v : V} : putF "state" v ([("window", a0), ("wait", a1), ("base", a2), ("top", a3)] : List (Str × V)) = ([("window", a0), ("wait", a1), ("base", a2), ("top", a3), ("state", v)] : List (Str × V)) := by with_unfolding_all rfl
theorem fq_Teller_5 {v : V} : putF "things" v ([("window", a0), ("wait", a1), ("base", a2), ("top", a3), ("state", a4)] : List (Str × V)) = ([("window", a0), ("wait", a1), ("base", a2), ("top", a3), ("state", a4), ("things", v)] : List (Str × V)) := by with_unfolding_all rfl
theorem fq_Teller_6 {v : V} : putF "goings" v ([("window", a0), ("wait", a1), ("base", a2), ("top", a3), ("state", a4), ("things", a5)] : List (Str × V)) = fs_Teller a0 a1 a2 a3 a4 a5 v := by with_unfolding_all rfl
end
abbrev s_Teller___init__ : Stmt := inClass (stm 39) 0
theorem sc_Teller___init__ : FnScope ["self", "window", "wait"] ["self", "window", "wait"] (defScope s_Teller___init__) := ⟨rfl, rfl, rfl, by decide +kernel, rfl, by decide +kernel, by decide +kernel⟩
abbrev s_Teller_put : Stmt := inClass (stm 39) 2
theorem sc_Teller_put : FnScope ["self", "thing", "needed"] ["self", "thing"] (defScope s_Teller_put) := ⟨rfl, rfl, rfl, by decide +kernel, rfl, by decide +kernel, by decide +kernel⟩
abbrev s_NotNow___init__ : Stmt := inClass (stm 7) 0
theorem sc_NotNow___init__ : FnScope ["self", "state"] ["self", "state"] (defScope s_NotNow___init__) := ⟨rfl, rfl, rfl, by decide +kernel, rfl, by decide +kernel, by decide +kernel⟩
section
variable {P : Program} {w : World} {K : PySem.W.Frag} {mg : Str → Option Value} {base : Heap} {C R cM cP cR cF cT cN cA cL cW cO : Addr} {H H' : Hp}
def XAt (c e : Addr) (H : Hp) : Prop := ∃ od, H e = some (XO e c od) ∧ XD H od
def sp_ninit (C : Addr) : Sp := fun vs H Q _ => ∃ (e : Addr) (t : Str), vs = [.ref e, .str t] ∧ t.length ≤ 1000 ∧ H e = some (XN e C none) ∧ ∀ dx, H dx = none → dx ≠ e → Q .non (upd (upd H dx (.xd [("state", .str t)])) e (XN e C (some dx)))
theorem own_ninit {C R : Addr} (D : DefE K C "NotNow.__init__" s_NotNow___init__) (B_RoadError : XB K R) (hc_RoadError : mg "RoadError" = some (.ref R)) (T : XSt K C "state") : OwnE P w K mg base 1 C ["self", "state"] (sp_ninit C) := by
  refine D.own sc_NotNow___init__ (fun _ _ _ _ _ _ us hl => match us, hl with | [_, _], _ => rfl) (fun vs H Q E h => ?_) (fun f cdv A outer s H vs Q E hr h => ?_)
  · obtain ⟨e, t, rfl, _⟩ := h
    rfl
  · obtain ⟨e, t, rfl, ht, he, q⟩ := h
    refine ⟨_, (@pss_cons _ _ _ _ _ (@ps_expr _ _ _ _ (@pe_xinit _ _ _ _ _ _ _ _ _ _ B_RoadError hc_RoadError (@pa_cX _ _ _ _ _ (@pv _ 0 _ _ (by rfl) (by first | exact Or.inl rfl | exact Or.inr (Or.inl rfl) | exact Or.inr (Or.inr rfl)) (by decide) (by decide)) (@pa_cX _ _ _ _ _ (@pe_fstr _ _ _ _ _ _ (@pj_str _ _ _ _ _ _ _ 23 (by kernel_rfl) (@pj_txt _ _ _ _ _ _ _ (@pv _ 1 _ _ (by rfl) (by first | exact Or.inl rfl | exact Or.inr (Or.inl rfl) | exact Or.inr (Or.inr rfl)) (by decide) (by decide)) (@pj_nil _ _ (by decide)) (by decide)) (by decide))) (@pa_nil _) (by rfl)) (by rfl)) (by rfl) (by decide) (by rfl) (by rfl) (by rfl)) (by rfl)) (@pss_one _ _ _ (@ps_xfld _ _ _ _ _ _ _ _ (@pv _ 0 _ _ (by rfl) (by first | exact Or.inl rfl | exact Or.inr (Or.inl rfl) | exact Or.inr (Or.inr rfl)) (by decide) (by decide)) (@pv _ 1 _ _ (by rfl) (by first | exact Or.inl rfl | exact Or.inr (Or.inl rfl) | exact Or.inr (Or.inr rfl)) (by decide) (by decide)) rfl))), ?_⟩
    simp (maxSteps := 1000000) only [Nat.reduceSub, Nat.reduceAdd, ne_eq, cxOf_K, List.cons.injEq, tSeq, exists_and_left, tVar, tCons, tNil, tDrop, L2.start, List.map_cons, List.map_nil, List.length_cons, List.length_nil, List.replicate, List.getElem?_cons_zero, List.getElem?_cons_succ, Option.some.injEq, exists_eq_left', V.ref.injEq, V.str.injEq, and_true, and_assoc, List.append_nil, tXi, sXf, tFs, tJn, tJs]
    exact ⟨ht, fun x => ⟨C, none, he, T.kin, C, he, T, q⟩⟩
def sp_tinit (C : Addr) : Sp := fun vs H Q _ => ∃ (x dx : Addr) (W T : Int), vs = [.ref x, .int W, .int T] ∧ H x = some (.ins C dx []) ∧ ∀ l g H', H' x = some (.ins C dx (fs_Teller (.int W) (.int T) (.int 0) (.int 0) (.str (Str.ofString "shut")) l g)) → Keep [x] H H' → Q .non H'
set_option maxHeartbeats 4000000 in
theorem own_tinit (D : DefI K C "Teller.__init__" s_Teller___init__) (T_Teller : ClsD K mg "Teller" C at_Teller) : OwnI P w K mg base 1 C ["self", "window", "wait"] (sp_tinit C) := by
  refine D.own sc_Teller___init__ (fun _ _ _ _ _ _ us hl => match us, hl with | [_, _, _], _ => rfl) (fun vs H Q E h => ?_) (fun f cdv A outer s H vs Q E hr h => ?_)
  · obtain ⟨x, dx, W, T, rfl, _⟩ := h
    rfl
  · obtain ⟨x, dx, W, T, rfl, e, q⟩ := h
    have hu := hr.units
    have hu1 : (A.deeper (PyProof.Rows.envOfC "Teller.__init__" (defScope s_Teller___init__) s.heap.objs.size f cdv)).units + 1 < cLine := by omega
    refine ⟨_, (@pss_cons _ _ _ _ _ (@ps_fld _ _ _ _ _ _ _ _ (@pv _ 0 _ _ (by rfl) (by first | exact Or.inl rfl | exact Or.inr (Or.inl rfl) | exact Or.inr (Or.inr rfl)) (by decide) (by decide)) (@pv _ 1 _ _ (by rfl) (by first | exact Or.inl rfl | exact Or.inr (Or.inl rfl) | exact Or.inr (Or.inr rfl)) (by decide) (by decide)) rfl) (@pss_cons _ _ _ _ _ (@ps_fld _ _ _ _ _ _ _ _ (@pv _ 0 _ _ (by rfl) (by first | exact Or.inl rfl | exact Or.inr (Or.inl rfl) | exact Or.inr (Or.inr rfl)) (by decide) (by decide)) (@pv _ 2 _ _ (by rfl) (by first | exact Or.inl rfl | exact Or.inr (Or.inl rfl) | exact Or.inr (Or.inr rfl)) (by decide) (by decide)) rfl) (@pss_cons _ _ _ _ _ (@ps_fld _ _ _ _ _ _ _ _ (@pv _ 0 _ _ (by rfl) (by first | exact Or.inl rfl | exact Or.inr (Or.inl rfl) | exact Or.inr (Or.inr rfl)) (by decide) (by decide)) (@pe_int _ _ _ _) rfl) (@pss_cons _ _ _ _ _ (@ps_fld _ _ _ _ _ _ _ _ (@pv _ 0 _ _ (by rfl) (by first | exact Or.inl rfl | exact Or.inr (Or.inl rfl) | exact Or.inr (Or.inr rfl)) (by decide) (by decide)) (@pe_int _ _ _ _) rfl) (@pss_cons _ _ _ _ _ (@ps_fld _ _ _ _ _ _ _ _ (@pv _ 0 _ _ (by rfl) (by first | exact Or.inl rfl | exact Or.inr (Or.inl rfl) | exact Or.inr (Or.inr rfl)) (by decide) (by decide)) (@pe_str _ _ _ _) rfl) (@pss_cons _ _ _ _ _ (@ps_fld _ _ _ _ _ _ _ _ (@pv _ 0 _ _ (by rfl) (by first | exact Or.inl rfl | exact Or.inr (Or.inl rfl) | exact Or.inr (Or.inr rfl)) (by decide) (by decide)) (@pe_lst _ _ _ _ (@pa_nil _)) rfl) (@pss_one _ _ _ (@ps_fld _ _ _ _ _ _ _ _ (@pv _ 0 _ _ (by rfl) (by first | exact Or.inl rfl | exact Or.inr (Or.inl rfl) | exact Or.inr (Or.inr rfl)) (by decide) (by decide)) (@pe_dnewK _ _) rfl)))))))), ?_⟩
    simp (maxSteps := 1000000) only [tDNewK, Nat.reduceSub, upd_same, upd_upd, Nat.reduceLT, HO.ins.injEq, Nat.reduceAdd, sFld, cxOf_K, tSeq, exists_and_left, tVar, tC, tNil, tLst, L2.start, List.map_cons, List.map_nil, List.length_cons, List.length_nil, List.replicate, List.getElem?_cons_zero, List.getElem?_cons_succ, Option.some.injEq, exists_eq_left', V.ref.injEq, true_and, and_assoc, List.append_nil, e, T_Teller.cl, T_Teller.no "window" (by decide), T_Teller.no "wait" (by decide), T_Teller.no "base" (by decide), T_Teller.no "top" (by decide), T_Teller.no "state" (by decide), fq_Teller_0, fq_Teller_1, fq_Teller_2, fq_Teller_3, fq_Teller_4]
    generalize z0 : upd H x _ = H0
    have e0 := (congrFun z0.symm x).trans upd_same
    have k0 : Keep [x] H H0 := by rw [← z0]; exact Keep.refl.upd (.inl (.head _))
    refine ⟨Nat.zero_le _, ?_⟩
    intro p1 n1
    generalize z1 : upd H0 p1 _ = H1
    obtain ⟨s1, e1⟩ := new_same z1 n1
    have ex1 := s1 _ _ e0
    simp (maxSteps := 1000000) only [Nat.reduceLT, HO.ins.injEq, Nat.reduceAdd, exists_and_left, List.length_cons, List.length_nil, Option.some.injEq, exists_eq_left', true_and, and_assoc, ex1, T_Teller.cl, T_Teller.no "things" (by decide), fq_Teller_5]
    generalize z2 : upd H1 x _ = H2
    have e2 := (congrFun z2.symm x).trans upd_same
    have k2 : Keep [x] H1 H2 := by rw [← z2]; exact Keep.refl.upd (.inl (.head _))
    intro p3 n3
    generalize z3 : upd H2 p3 _ = H3
    obtain ⟨s3, e3⟩ := new_same z3 n3
    have ex3 := s3 _ _ e2
    simp (maxSteps := 1000000) only [Nat.reduceLT, HO.ins.injEq, Nat.reduceAdd, exists_and_left, List.length_cons, List.length_nil, Option.some.injEq, exists_eq_left', true_and, and_assoc, ex3, T_Teller.cl, T_Teller.no "goings" (by decide), fq_Teller_6]
    exact q _ _ _ upd_same ((((k0.same s1).trans k2).same s3).upd (.inl (.head _)))
def sp_tput1 (C cT cN : Addr) : Sp := fun vs H _ E => ∃ (x dx t : Addr) (a0 a1 a2 a3 l g : V) (z : String), vs = [.ref x, .ref t] ∧ H x = some (.ins C dx (fs_Teller a0 a1 a2 a3 (.str (Str.ofString "shut")) l g)) ∧ H t = some (.tup [.str (Str.ofString z)]) ∧ (z = "none" ∨ z = "end") ∧ ∀ e H', Same H H' → XAt (if z = "end" then cN else cT) e H' → E (.ref e) none H'
set_option maxHeartbeats 4000000 in
theorem own_tput1 (D : DefM K C "put" "Teller.put" s_Teller_put) (hb : Blt mg) (T_Teller : ClsD K mg "Teller" C at_Teller) (hc_BadThing : mg "BadThing" = some (.ref cT)) (Z_BadThing : XPl K cT) (hc_NotNow : mg "NotNow" = some (.ref cN)) (E_NotNow : OwnE P w K mg base 1 cN ["self", "state"] (sp_ninit cN)) (g_MOST_SIGNS : ∃ u, mg "MOST_SIGNS" = some u ∧ RelV (.int 8) u)
    (F_is_thing : Own P w K mg base 3 "is_thing" ["thing"] sp_thing1) : OwnMX P w K mg base 4 C "put" ["self", "thing"] (sp_tput1 C cT cN) := by
  refine D.ownE sc_Teller_put (fun _ _ _ _ _ _ us hl => match us, hl with | [_, _], _ => rfl) (fun vs H Q E h => ?_) (fun f cdv A outer s H vs Q E hr h => ?_)
  · obtain ⟨x, dx, t, a0, a1, a2, a3, l, g, z, rfl, _⟩ := h
    rfl
  · obtain ⟨x, dx, t, a0, a1, a2, a3, l, g, z, rfl, ex, et, hz, qe⟩ := h
    have hu := hr.units
    have hu1 : (A.deeper (PyProof.Rows.envOfC "Teller.put" (defScope s_Teller_put) s.heap.objs.size f cdv)).units + 1 < cLine := by omega
    refine ⟨_, (@pss_cons _ _ _ _ _ (@ps_if _ _ _ _ _ _ _ _ (@pt_not _ _ _ _ (@pt_truX _ _ _ (@pe_fn _ _ _ _ _ _ _ _ _ _ _ F_is_thing hr (@pa_cX _ _ _ _ _ (@pv _ 1 _ _ (by rfl) (by first | exact Or.inl rfl | exact Or.inr (Or.inl rfl) | exact Or.inr (Or.inr rfl)) (by decide) (by decide)) (@pa_nil _) (by rfl)) (by decide) (by rfl) (by decide) (by rfl) (by rfl)) (by intro _; rfl))) (@pss_one _ _ _ (@ps_exc _ _ _ _ (@psx_raise _ _ _ _ (@pn_new _ _ _ _ _ _ _ _ Z_BadThing.ex Z_BadThing.kp hc_BadThing (@pa_cX _ _ _ _ _ (@pe_fstr _ _ _ _ _ _ (@pj_str _ _ _ _ _ _ _ 27 (by kernel_rfl) (@pj_int _ _ _ _ _ _ _ (@pe_glb _ _ _ _ g_MOST_SIGNS (by rfl) (by decide)) (@pj_str _ _ _ _ _ _ _ 37 (by kernel_rfl) (@pj_nil _ _ (by decide)) (by decide)) (by decide)) (by decide))) (@pa_nil _) (by rfl)) (by rfl) (by decide) (by rfl) (by rfl)) (by rfl)))) (@pss_nil _)) (@pss_cons _ _ _ _ _ (@ps_set _ _ 2 _ _ _ _ sc_Teller_put.nd rfl (by first | exact Or.inl rfl | exact Or.inr rfl) (@pe_ifExp _ _ _ _ _ _ _ _ (@pt_cmpR _ _ _ _ _ _ _ _ op_eq (@pe_ix _ _ _ _ _ _ _ (ix_get hu1) (@pv _ 1 _ _ (by rfl) (by first | exact Or.inl rfl | exact Or.inr (Or.inl rfl) | exact Or.inr (Or.inr rfl)) (by decide) (by decide)) (@pe_int _ _ _ _) (fun _ _ => rfl)) (@pe_str _ _ _ _) (nomark _)) (@pe_str _ _ _ _) (@pe_str _ _ _ _)) (by rfl) (by first | exact .inl rfl | exact .inr rfl | assumption)) (@pss_cons _ _ _ _ _ (@ps_if _ _ _ _ _ _ _ _ (@pt_cmpR _ _ _ _ _ _ _ _ op_ne (@pe_fldK _ K _ _ _ _ (@pv _ 0 _ _ (by rfl) (by first | exact Or.inl rfl | exact Or.inr (Or.inl rfl) | exact Or.inr (Or.inr rfl)) (by decide) (by decide)) (by rfl) (by rfl)) (@pv _ 2 _ _ (by rfl) (by first | exact Or.inl rfl | exact Or.inr (Or.inl rfl) | exact Or.inr (Or.inr rfl)) (by decide) (by decide)) (nomark _)) (@pss_one _ _ _ (@ps_exc _ _ _ _ (@psx_raise _ _ _ _ (@pn_newI _ _ _ _ _ _ _ _ _ _ _ _ E_NotNow hr hc_NotNow (@pa_cX _ _ _ _ _ (@pe_fldK _ K _ _ _ _ (@pv _ 0 _ _ (by rfl) (by first | exact Or.inl rfl | exact Or.inr (Or.inl rfl) | exact Or.inr (Or.inr rfl)) (by decide) (by decide)) (by rfl) (by rfl)) (@pa_nil _) (by rfl)) (by decide) (by rfl) (by decide) (by rfl) (by rfl)) (by rfl)))) (@pss_nil _)) (@pss_cons _ _ _ _ _ (@ps_never _ _) (@pss_cons _ _ _ _ _ (@ps_never _ _) (@pss_one _ _ _ (@ps_never _ _))))))), ?_⟩
    simp (maxSteps := 1000000) only [rGet, tTruX, truX_b, Nat.reduceSub, upd_upd, Nat.reduceAdd, tFld, tNever, List.cons.injEq, tSeq, exists_and_left, tIfS, tNot, tTest, tOp, tVar, tC, tAsg, gName, tNext, tIf, tCall, tCons, tNil, L2.start, List.map_cons, List.map_nil, List.length_cons, List.length_nil, List.replicate, List.cons_append, List.nil_append, List.getElem?_cons_zero, List.getElem?_cons_succ, List.set_cons_zero, List.set_cons_succ, Option.some.injEq, exists_eq_left', V.int.injEq, V.ref.injEq, and_true, List.append_nil, tRaise, tNew0, tNewI, tFs, tJi, tJn, tSE, sp_thing1]
    refine ⟨z, et, hz, fun H1 s1 => ?_⟩
    have ex1 := s1 _ _ ex
    have et1 := s1 _ _ et
    rcases hz with rfl | rfl
    · refine iteT ?_
      exact ⟨by decide, fun _ => ⟨by decide, fun e he => qe e _ (s1.trans (.upd_new he)) ⟨none, upd_same, XD.none⟩⟩⟩
    · have w1 : (Str.ofString "end" = Str.ofString "begin") = False := eq_false (by decide)
      have w2 : (Str.ofString "shut" = Str.ofString "open") = False := eq_false (by decide)
      simp (maxSteps := 1000000) only [rEq_ss, rNe_ss, getO_t, atI_0, HO.ins.injEq, decide_true, decide_false, Bool.not_true, Bool.not_false, exists_and_left, if_false, if_true, Bool.false_eq_true, Option.some.injEq, exists_eq_left', V.bl.injEq, true_and, and_assoc, ex1, et1, T_Teller.cl, T_Teller.no "state" (by decide), fs_Teller_state, w1, w2]
      refine iteF ⟨by decide, fun e he => ⟨e, _, rfl, by decide, upd_same, fun dx' hdx hn' => ⟨rfl, _, upd_same, ?_⟩⟩⟩
      obtain ⟨h1, h2⟩ := upd_none hdx
      refine qe e _ (s1.trans ((((Same.upd_new he).upd h2).upd he).upd he)) ⟨some dx', upd_same, XD.some (fs := [("state", .str (Str.ofString "shut"))]) ?_⟩
      rw [upd_ne hn', upd_ne hn', upd_same]
end
end K71
namespace K71
open PySem L2
abbrev s_is_row : Stmt := stm 66
theorem sc_is_row : FnScope ["thing", "many"] ["thing", "many"] (defScope s_is_row) := ⟨rfl, rfl, rfl, by decide +kernel, rfl, by decide +kernel, by decide +kernel⟩
abbrev s_is_hand : Stmt := stm 69
theorem sc_is_hand : FnScope ["thing", "hands"] ["thing", "hands"] (defScope s_is_hand) := ⟨rfl, rfl, rfl, by decide +kernel, rfl, by decide +kernel, by decide +kernel⟩
abbrev s_is_turn : Stmt := stm 67
theorem sc_is_turn : FnScope ["thing"] ["thing"] (defScope s_is_turn) := ⟨rfl, rfl, rfl, by decide +kernel, rfl, by decide +kernel, by decide +kernel⟩
abbrev s_is_price : Stmt := stm 68
theorem sc_is_price : FnScope ["thing"] ["thing"] (defScope s_is_price) := ⟨rfl, rfl, rfl, by decide +kernel, rfl, by decide +kernel, by decide +kernel⟩
abbrev s_is_line : Stmt := stm 70
theorem sc_is_line : FnScope ["thing", "hands"] ["thing", "hands"] (defScope s_is_line) := ⟨rfl, rfl, rfl, by decide +kernel, rfl, by decide +kernel, by decide +kernel⟩
abbrev s_is_wish : Stmt := stm 74
theorem sc_is_wish : FnScope ["thing", "hands", "word", "what"] ["thing", "hands"] (defScope s_is_wish) := ⟨rfl, rfl, rfl, by decide +kernel, rfl, by decide +kernel, by decide +kernel⟩
abbrev s_good_pairs : Stmt := stm 76
theorem sc_good_pairs : FnScope ["lines", "hands", "pairs", "at", "line"] ["lines", "hands"] (defScope s_good_pairs) := ⟨rfl, rfl, rfl, by decide +kernel, rfl, by decide +kernel, by decide +kernel⟩
abbrev s_refuse_bad_changes : Stmt := stm 77
theorem sc_refuse_bad_changes : FnScope ["changes", "pairs", "at", "change"] ["changes", "pairs"] (defScope s_refuse_bad_changes) := ⟨rfl, rfl, rfl, by decide +kernel, rfl, by decide +kernel, by decide +kernel⟩
abbrev s_refuse_bad_roads : Stmt := stm 78
theorem sc_refuse_bad_roads : FnScope ["roads", "pairs", "lag", "told", "at", "road"] ["roads", "pairs", "lag"] (defScope s_refuse_bad_roads) := ⟨rfl, rfl, rfl, by decide +kernel, rfl, by decide +kernel, by decide +kernel⟩
abbrev s_refuse_bad_wishes : Stmt := stm 79
theorem sc_refuse_bad_wishes : FnScope ["wishes", "hands", "at", "wish"] ["wishes", "hands"] (defScope s_refuse_bad_wishes) := ⟨rfl, rfl, rfl, by decide +kernel, rfl, by decide +kernel, by decide +kernel⟩
section
variable {P : Program} {w : World} {K : PySem.W.Frag} {mg : Str → Option Value} {base : Heap} {C R cM cP cR cF cT cN cA cL cW cO : Addr} {H H' : Hp}
theorem xi_fall {E : XK} {H H3 : Hp} {c : Addr} {f : Str} {t : Int} (ht : t.natAbs.log2 < 1920) (s : Same H H3) (qe : ∀ e H', Same H H' → XAt c e H' → E (.ref e) none H') :
    1 ≤ 100 ∧ ∀ e, H3 e = none → t.natAbs.log2 < 1920 ∧ ∀ dx, upd H3 e (XN e c none) dx = none → ¬ dx = e → ∃ od, XN e c (some dx) = XN e c od ∧ E (.ref e) none (upd (upd (upd H3 e (XN e c none)) dx (.xd [(f, .int t)])) e (XO e c od)) := by
  refine ⟨by decide, fun e he => ⟨ht, fun dx hdx hn => ⟨_, rfl, ?_⟩⟩⟩
  obtain ⟨h1, h2⟩ := upd_none hdx
  refine qe e _ (s.trans (((Same.upd_new he).upd h2).upd he)) ⟨some dx, upd_same, XD.some (fs := [(f, .int t)]) ?_⟩
  rw [upd_ne hn, upd_same]
def sp_row : Sp := fun vs H Q _ => ∃ (t : Addr) (xs : List V) (n : Int), vs = [.ref t, .int n] ∧ H t = some (.tup xs) ∧ Q (.bl (decide ((xs.length : Int) = n))) H
theorem own_row (D : Def K mg "is_row" s_is_row) (hb : Blt mg) : Own P w K mg base 1 "is_row" ["thing", "many"] sp_row := by
  refine D.own sc_is_row (fun _ _ _ _ _ _ us hl => match us, hl with | [_, _], _ => rfl) (fun vs H Q E h => ?_) (fun f cdv A outer s H vs Q E hr h => ?_)
  · obtain ⟨t, xs, n, rfl, _⟩ := h
    rfl
  · obtain ⟨t, xs, n, rfl, e, q⟩ := h
    refine ⟨_, (@pss_one _ _ _ (@ps_ret _ _ _ _ (@pe_and _ _ _ _ _ _ _ (@pe_callB _ _ _ _ _ _ _ _ _ call_isiX rfl (hb _ (by decide)) bt_isinstance (@pa_cX _ _ _ _ _ (@pv _ 0 _ _ (by rfl) (by first | exact Or.inl rfl | exact Or.inr (Or.inl rfl) | exact Or.inr (Or.inr rfl)) (by decide) (by decide)) (@pa_cX _ _ _ _ _ (@pe_bltn _ _ (.ty "tuple") _ _ rfl (hb _ (by decide)) bt_tuple rfl (by decide) (by decide)) (@pa_nil _) (by rfl)) (by rfl)) (by decide) (by decide) (by rfl) (by rfl)) (@pe_one _ _ _ _ _ (@pe_cmpR _ _ _ _ _ _ _ _ op_eq (@pe_callB _ _ _ _ _ _ _ _ _ call_lenX rfl (hb _ (by decide)) bt_len (@pa_cX _ _ _ _ _ (@pv _ 0 _ _ (by rfl) (by first | exact Or.inl rfl | exact Or.inr (Or.inl rfl) | exact Or.inr (Or.inr rfl)) (by decide) (by decide)) (@pa_nil _) (by rfl)) (by decide) (by decide) (by rfl) (by rfl)) (@pv _ 1 _ _ (by rfl) (by first | exact Or.inl rfl | exact Or.inr (Or.inl rfl) | exact Or.inr (Or.inr rfl)) (by decide) (by decide)) (nomark _)))))), ?_⟩
    simp (maxSteps := 1000000) only [rIsIX, tyX_r, tyO_t, V.ty.injEq, kT_tutu, rLenX, lenX_r, lenO_t, Option.bind_some, Nat.reduceSub, Nat.reduceAdd, V.ty.injEq, List.cons.injEq, rEq_ii, exists_and_left, if_true, tOp, tVar, tC, tRet, tAndV, tCons, tNil, tCB, L2.start, List.map_cons, List.map_nil, List.length_cons, List.length_nil, List.replicate, List.getElem?_cons_zero, List.getElem?_cons_succ, Option.some.injEq, exists_eq_left', V.bl.injEq, and_true, and_assoc, List.append_nil, e]
    exact q
def sp_hand : Sp := fun vs H Q _ => ∃ (v : V) (n : Int), vs = [v, .int n] ∧ PlV v ∧ Q (.bl (okV v 0 (n - 1))) H
theorem own_hand (D : Def K mg "is_hand" s_is_hand) (F_is_within : Own P w K mg base 2 "is_within" ["thing", "least", "most"] sp_withinP) : Own P w K mg base 3 "is_hand" ["thing", "hands"] sp_hand := by
  refine D.own sc_is_hand (fun _ _ _ _ _ _ us hl => match us, hl with | [_, _], _ => rfl) (fun vs H Q E h => ?_) (fun f cdv A outer s H vs Q E hr h => ?_)
  · obtain ⟨v, n, rfl, _⟩ := h
    rfl
  · obtain ⟨v, n, rfl, hp, q⟩ := h
    refine ⟨_, (@pss_one _ _ _ (@ps_ret _ _ _ _ (@pe_fn _ _ _ _ _ _ _ _ _ _ _ F_is_within hr (@pa_cX _ _ _ _ _ (@pv _ 0 _ _ (by rfl) (by first | exact Or.inl rfl | exact Or.inr (Or.inl rfl) | exact Or.inr (Or.inr rfl)) (by decide) (by decide)) (@pa_cX _ _ _ _ _ (@pe_int _ _ _ _) (@pa_cX _ _ _ _ _ (@pe_op _ _ _ _ _ _ _ _ op_sub (@pv _ 1 _ _ (by rfl) (by first | exact Or.inl rfl | exact Or.inr (Or.inl rfl) | exact Or.inr (Or.inr rfl)) (by decide) (by decide)) (@pe_int _ _ _ _)) (@pa_nil _) (by rfl)) (by rfl)) (by rfl)) (by decide) (by rfl) (by decide) (by rfl) (by rfl)))), ?_⟩
    simp (maxSteps := 1000000) only [Nat.reduceSub, Nat.reduceAdd, List.cons.injEq, exists_and_left, tOp, tVar, tC, rI0, tRet, tCall, tCons, tNil, L2.start, List.map_cons, List.map_nil, List.length_cons, List.length_nil, List.replicate, List.getElem?_cons_zero, List.getElem?_cons_succ, Option.some.injEq, exists_eq_left', V.int.injEq, and_true, and_assoc, List.append_nil, sp_withinP]
    exact ⟨hp, q⟩
def sp_turn : Sp := fun vs H Q _ => ∃ (v : V), vs = [v] ∧ PlV v ∧ Q (.bl (okV v 0 10000)) H
theorem own_turn (D : Def K mg "is_turn" s_is_turn) (g_MOST_TURN : ∃ u, mg "MOST_TURN" = some u ∧ RelV (.int 10000) u) (F_is_within : Own P w K mg base 2 "is_within" ["thing", "least", "most"] sp_withinP) : Own P w K mg base 3 "is_turn" ["thing"] sp_turn := by
  refine D.own sc_is_turn (fun _ _ _ _ _ _ us hl => match us, hl with | [_], _ => rfl) (fun vs H Q E h => ?_) (fun f cdv A outer s H vs Q E hr h => ?_)
  · obtain ⟨v, rfl, _⟩ := h
    rfl
  · obtain ⟨v, rfl, hp, q⟩ := h
    refine ⟨_, (@pss_one _ _ _ (@ps_ret _ _ _ _ (@pe_fn _ _ _ _ _ _ _ _ _ _ _ F_is_within hr (@pa_cX _ _ _ _ _ (@pv _ 0 _ _ (by rfl) (by first | exact Or.inl rfl | exact Or.inr (Or.inl rfl) | exact Or.inr (Or.inr rfl)) (by decide) (by decide)) (@pa_cX _ _ _ _ _ (@pe_int _ _ _ _) (@pa_cX _ _ _ _ _ (@pe_glb _ _ _ _ g_MOST_TURN (by rfl) (by decide)) (@pa_nil _) (by rfl)) (by rfl)) (by rfl)) (by decide) (by rfl) (by decide) (by rfl) (by rfl)))), ?_⟩
    simp (maxSteps := 1000000) only [Nat.reduceSub, Nat.reduceAdd, List.cons.injEq, exists_and_left, tVar, tC, tRet, tCall, tCons, tNil, L2.start, List.map_cons, List.map_nil, List.length_cons, List.length_nil, List.replicate, List.getElem?_cons_zero, Option.some.injEq, exists_eq_left', V.int.injEq, and_true, and_assoc, List.append_nil, sp_withinP]
    exact ⟨hp, q⟩
def sp_off1 : Sp := fun vs _ _ _ => vs.length = 1 ∧ False
theorem own_price (D : Def K mg "is_price" s_is_price) : Own P w K mg base 3 "is_price" ["thing"] sp_off1 := by
  refine D.own sc_is_price (fun _ _ _ _ _ _ us hl => match us, hl with | [_], _ => rfl) (fun vs H Q E h => h.1) (fun f cdv A outer s H vs Q E hr h => h.2.elim)
abbrev l001 : List V := [.int 0, .int 0, .int 1]
def sp_line0 : Sp := fun vs H Q _ => ∃ (t : Addr), vs = [.ref t, .int 2] ∧ H t = some (.tup l001) ∧ Q (.bl false) H
set_option maxHeartbeats 4000000 in
theorem own_line0 (D : Def K mg "is_line" s_is_line) (F_is_row : Own P w K mg base 1 "is_row" ["thing", "many"] sp_row) (F_is_hand : Own P w K mg base 3 "is_hand" ["thing", "hands"] sp_hand) (F_is_price : Own P w K mg base 3 "is_price" ["thing"] sp_off1) : Own P w K mg base 4 "is_line" ["thing", "hands"] sp_line0 := by
  refine D.own sc_is_line (fun _ _ _ _ _ _ us hl => match us, hl with | [_, _], _ => rfl) (fun vs H Q E h => ?_) (fun f cdv A outer s H vs Q E hr h => ?_)
  · obtain ⟨t, rfl, _⟩ := h
    rfl
  · obtain ⟨t, rfl, e, q⟩ := h
    have hu := hr.units
    have hu1 : (A.deeper (PyProof.Rows.envOfC "is_line" (defScope s_is_line) s.heap.objs.size f cdv)).units + 1 < cLine := by omega
    refine ⟨_, (@pss_cons _ _ _ _ _ (@ps_if _ _ _ _ _ _ _ _ (@PW.pt _ _ _ (@pw_or _ _ _ _ _ _ _ (@pt_not _ _ _ _ (@pt_truX _ _ _ (@pe_fn _ _ _ _ _ _ _ _ _ _ _ F_is_row hr (@pa_cX _ _ _ _ _ (@pv _ 0 _ _ (by rfl) (by first | exact Or.inl rfl | exact Or.inr (Or.inl rfl) | exact Or.inr (Or.inr rfl)) (by decide) (by decide)) (@pa_cX _ _ _ _ _ (@pe_int _ _ _ _) (@pa_nil _) (by rfl)) (by rfl)) (by decide) (by rfl) (by decide) (by rfl) (by rfl)) (by intro _; rfl))) (@pw_or _ _ _ _ _ _ _ (@pt_not _ _ _ _ (@pt_truX _ _ _ (@pe_fn _ _ _ _ _ _ _ _ _ _ _ F_is_hand hr (@pa_cX _ _ _ _ _ (@pe_ix _ _ _ _ _ _ _ (ix_get hu1) (@pv _ 0 _ _ (by rfl) (by first | exact Or.inl rfl | exact Or.inr (Or.inl rfl) | exact Or.inr (Or.inr rfl)) (by decide) (by decide)) (@pe_int _ _ _ _) (fun _ _ => rfl)) (@pa_cX _ _ _ _ _ (@pv _ 1 _ _ (by rfl) (by first | exact Or.inl rfl | exact Or.inr (Or.inl rfl) | exact Or.inr (Or.inr rfl)) (by decide) (by decide)) (@pa_nil _) (by rfl)) (by rfl)) (by decide) (by rfl) (by decide) (by rfl) (by rfl)) (by intro _; rfl))) (@pw_or1 _ _ _ _ (@pt_not _ _ _ _ (@pt_truX _ _ _ (@pe_fn _ _ _ _ _ _ _ _ _ _ _ F_is_hand hr (@pa_cX _ _ _ _ _ (@pe_ix _ _ _ _ _ _ _ (ix_get hu1) (@pv _ 0 _ _ (by rfl) (by first | exact Or.inl rfl | exact Or.inr (Or.inl rfl) | exact Or.inr (Or.inr rfl)) (by decide) (by decide)) (@pe_int _ _ _ _) (fun _ _ => rfl)) (@pa_cX _ _ _ _ _ (@pv _ 1 _ _ (by rfl) (by first | exact Or.inl rfl | exact Or.inr (Or.inl rfl) | exact Or.inr (Or.inr rfl)) (by decide) (by decide)) (@pa_nil _) (by rfl)) (by rfl)) (by decide) (by rfl) (by decide) (by rfl) (by rfl)) (by intro _; rfl))))))) (@pss_one _ _ _ (@ps_ret _ _ _ _ (@pe_bl _ _ _ _))) (@pss_nil _)) (@pss_one _ _ _ (@ps_ret _ _ _ _ (@pe_and _ _ _ _ _ _ _ (@pe_cmpR _ _ _ _ _ _ _ _ op_lt (@pe_ix _ _ _ _ _ _ _ (ix_get hu1) (@pv _ 0 _ _ (by rfl) (by first | exact Or.inl rfl | exact Or.inr (Or.inl rfl) | exact Or.inr (Or.inr rfl)) (by decide) (by decide)) (@pe_int _ _ _ _) (fun _ _ => rfl)) (@pe_ix _ _ _ _ _ _ _ (ix_get hu1) (@pv _ 0 _ _ (by rfl) (by first | exact Or.inl rfl | exact Or.inr (Or.inl rfl) | exact Or.inr (Or.inr rfl)) (by decide) (by decide)) (@pe_int _ _ _ _) (fun _ _ => rfl)) (nomark _)) (@pe_one _ _ _ _ _ (@pe_fn _ _ _ _ _ _ _ _ _ _ _ F_is_price hr (@pa_cX _ _ _ _ _ (@pe_ix _ _ _ _ _ _ _ (ix_get hu1) (@pv _ 0 _ _ (by rfl) (by first | exact Or.inl rfl | exact Or.inr (Or.inl rfl) | exact Or.inr (Or.inr rfl)) (by decide) (by decide)) (@pe_int _ _ _ _) (fun _ _ => rfl)) (@pa_nil _) (by rfl)) (by decide) (by rfl) (by decide) (by rfl) (by rfl))))))), ?_⟩
    simp (maxSteps := 1000000) only [rGet, getO_t, tTruX, truX_b, atI_0, atI_1, atI_2, Nat.reduceSub, HO.tup.injEq, Int.reduceLT, Nat.reduceAdd, decide_false, List.cons.injEq, tSeq, exists_and_left, if_false, if_true, Bool.false_eq_true, tIfS, tOr, tNot, tOp, tVar, tC, rI0, tRet, tNext, tAndV, tCall, tCons, tNil, L2.start, List.map_cons, List.map_nil, List.length_cons, List.length_nil, List.replicate, List.getElem?_cons_zero, List.getElem?_cons_succ, Option.some.injEq, exists_eq_left', V.int.injEq, V.bl.injEq, V.ref.injEq, and_true, and_assoc, List.append_nil, e, sp_row, sp_hand]
    refine ⟨.int 0, ?_⟩
    rw [if_neg (by decide)]
    refine ⟨.int 0, ?_⟩
    rw [if_neg (by decide)]
    exact q
def sp_gp (cL : Addr) : Sp := fun vs H Q E => ∃ (l : Addr), vs = [.ref l, .int 2] ∧ ((H l = some (.lst []) ∧ ∀ p H', Same H H' → Q (.ref p) H') ∨ (∃ t, H l = some (.lst [.ref t]) ∧ H t = some (.tup l001) ∧ ∀ e H', Same H H' → XAt cL e H' → E (.ref e) none H'))
set_option maxHeartbeats 4000000 in
theorem own_gp (D : Def K mg "good_pairs" s_good_pairs) (hb : Blt mg) (hen : mg "enumerate" = none) (hc_BadLine : mg "BadLine" = some (.ref cL)) (E_BadLine : OwnE P w K mg base 1 cL ["self", "at"] (sp_xinit cL "at")) (F_is_line : Own P w K mg base 4 "is_line" ["thing", "hands"] sp_line0) :
    OwnX P w K mg base 5 "good_pairs" ["lines", "hands"] (sp_gp cL) := by
  refine D.ownE sc_good_pairs (fun _ _ _ _ _ _ us hl => match us, hl with | [_, _], _ => rfl) (fun vs H Q E h => ?_) (fun f cdv A outer s H vs Q E hr h => ?_)
  · obtain ⟨l, rfl, _⟩ := h
    rfl
  · obtain ⟨l, rfl, h⟩ := h
    have hu := hr.units
    have hu1 : (A.deeper (PyProof.Rows.envOfC "good_pairs" (defScope s_good_pairs) s.heap.objs.size f cdv)).units + 1 < cLine := by omega
    refine ⟨_, (@pss_cons _ _ _ _ _ (@ps_set _ _ 2 _ _ _ _ sc_good_pairs.nd rfl (by first | exact Or.inl rfl | exact Or.inr rfl) (@pe_dnewK _ _) (by rfl) (by first | exact .inl rfl | exact .inr rfl | assumption)) (@pss_cons _ _ _ _ _ (@ps_for _ _ _ _ _ _ _ _ (passes_ex rfl rfl) rfl (@pi_enum _ K _ _ _ _ _ _ _ rfl hen (@pa_cX _ _ _ _ _ (@pv _ 0 _ _ (by rfl) (by first | exact Or.inl rfl | exact Or.inr (Or.inl rfl) | exact Or.inr (Or.inr rfl)) (by decide) (by decide)) (@pa_nil _) (by rfl)) (by rfl) (by rfl)) (@pg_seqX _ _ _ _ 2 _ rfl (@pgs_cons _ _ _ _ _ (@pg_name _ _ 3 _ sc_good_pairs.nd rfl (by first | exact Or.inl rfl | exact Or.inr rfl) (by first | exact .inl rfl | exact .inr rfl | assumption)) (@pgs_cons _ _ _ _ _ (@pg_name _ _ 4 _ sc_good_pairs.nd rfl (by first | exact Or.inl rfl | exact Or.inr rfl) (by first | exact .inl rfl | exact .inr rfl | assumption)) (@pgs_nil _) (by rfl)) (by rfl)) (by rfl) (by rfl)) (@pss_cons _ _ _ _ _ (@ps_if _ _ _ _ _ _ _ _ (@PW.pt _ _ _ (@pw_or _ _ _ _ _ _ _ (@pt_not _ _ _ _ (@pt_truX _ _ _ (@pe_fn _ _ _ _ _ _ _ _ _ _ _ F_is_line hr (@pa_cX _ _ _ _ _ (@pv _ 4 _ _ (by rfl) (by first | exact Or.inl rfl | exact Or.inr (Or.inl rfl) | exact Or.inr (Or.inr rfl)) (by decide) (by decide)) (@pa_cX _ _ _ _ _ (@pv _ 1 _ _ (by rfl) (by first | exact Or.inl rfl | exact Or.inr (Or.inl rfl) | exact Or.inr (Or.inr rfl)) (by decide) (by decide)) (@pa_nil _) (by rfl)) (by rfl)) (by decide) (by rfl) (by decide) (by rfl) (by rfl)) (by intro _; rfl))) (@pw_or1 _ _ _ _ (@pt_cmpR _ _ _ _ _ _ _ _ (op_inX hu1) (@pe_tup _ _ _ _ _ (@pa_cX _ _ _ _ _ (@pe_ix _ _ _ _ _ _ _ (ix_get hu1) (@pv _ 4 _ _ (by rfl) (by first | exact Or.inl rfl | exact Or.inr (Or.inl rfl) | exact Or.inr (Or.inr rfl)) (by decide) (by decide)) (@pe_int _ _ _ _) (fun _ _ => rfl)) (@pa_cX _ _ _ _ _ (@pe_ix _ _ _ _ _ _ _ (ix_get hu1) (@pv _ 4 _ _ (by rfl) (by first | exact Or.inl rfl | exact Or.inr (Or.inl rfl) | exact Or.inr (Or.inr rfl)) (by decide) (by decide)) (@pe_int _ _ _ _) (fun _ _ => rfl)) (@pa_nil _) (by rfl)) (by rfl))) (@pv _ 2 _ _ (by rfl) (by first | exact Or.inl rfl | exact Or.inr (Or.inl rfl) | exact Or.inr (Or.inr rfl)) (by decide) (by decide)) rfl)))) (@pss_one _ _ _ (@ps_exc _ _ _ _ (@psx_raise _ _ _ _ (@pn_newI _ _ _ _ _ _ _ _ _ _ _ _ E_BadLine hr hc_BadLine (@pa_cX _ _ _ _ _ (@pv _ 3 _ _ (by rfl) (by first | exact Or.inl rfl | exact Or.inr (Or.inl rfl) | exact Or.inr (Or.inr rfl)) (by decide) (by decide)) (@pa_nil _) (by rfl)) (by decide) (by rfl) (by decide) (by rfl) (by rfl)) (by rfl)))) (@pss_nil _)) (@pss_one _ _ _ (@ps_never _ _))) (by intro _; rfl)) (@pss_one _ _ _ (@ps_ret _ _ _ _ (@pv _ 2 _ _ (by rfl) (by first | exact Or.inl rfl | exact Or.inr (Or.inl rfl) | exact Or.inr (Or.inr rfl)) (by decide) (by decide)))))), ?_⟩
    simp (maxSteps := 1000000) only [tFor_eq, tDNewK, Nat.reduceSub, Nat.reduceAdd, List.cons.injEq, tSeq, tVar, tAsg, gName, tCons, tNil, L2.start, List.map_cons, List.map_nil, List.length_cons, List.length_nil, List.replicate, List.cons_append, List.nil_append, List.getElem?_cons_zero, List.set_cons_zero, List.set_cons_succ, Option.some.injEq, exists_eq_left', V.ref.injEq, and_true, iEnum]
    intro p1 n1
    generalize z1 : upd H p1 _ = H1
    obtain ⟨s1, e1⟩ := new_same z1 n1
    rcases h with ⟨el, q⟩ | ⟨t, el, et, qe⟩
    · have el1 := s1 _ _ el
      refine ⟨⟨_, SqL.of el1⟩, for_enum (K := K) (xs := []) (fun _ σ H2 => σ = [some (.ref l), some (.int 2), some (.ref p1), none, none] ∧ H2 = H1) ⟨rfl, rfl⟩ ?_ ?_ ?_⟩
      · rintro i σ H2 _ ⟨rfl, rfl⟩
        exact SqL.of el1
      · rintro i x p σ H2 hx
        cases hx
      · rintro σ H2 ⟨rfl, rfl⟩
        simp (maxSteps := 1000000) only [tVar, tRet, List.getElem?_cons_zero, List.getElem?_cons_succ, Option.some.injEq, exists_eq_left']
        exact q _ _ s1
    · have el1 := s1 _ _ el
      have et1 := s1 _ _ et
      refine ⟨⟨_, SqL.of el1⟩, for_enum (K := K) (xs := [V.ref t]) (fun i σ H2 => i = 0 ∧ σ = [some (.ref l), some (.int 2), some (.ref p1), none, none] ∧ H2 = H1) ⟨rfl, rfl, rfl⟩ ?_ ?_ ?_⟩
      · rintro i σ H2 _ ⟨_, rfl, rfl⟩
        exact SqL.of el1
      · rintro i x p σ H2 hx hp ⟨rfl, rfl, rfl⟩
        obtain rfl : V.ref t = x := Option.some.inj hx
        have s2 : Same H2 (upd H2 p (.tup [.int ((0 : Nat) : Int), .ref t])) := .upd_new hp
        have e2 : upd H2 p (.tup [.int ((0 : Nat) : Int), .ref t]) p = some (.tup [.int ((0 : Nat) : Int), .ref t]) := upd_same
        generalize upd H2 p (.tup [.int ((0 : Nat) : Int), .ref t]) = H3 at s2 e2 ⊢
        have et3 := s2 _ _ et1
        simp (maxSteps := 1000000) only [gSeqX, rGet, tTruX, truX_b, rInX, seqO_t, gCons, gNil, upd_same, upd_upd, Nat.reduceAdd, ne_eq, tNever, Bool.not_false, List.cons.injEq, tSeq, exists_and_left, if_true, tIfS, tOr, tNot, tTest, tOp, tVar, tC, gName, tNext, tCall, tCons, tNil, tTup, List.length_cons, List.length_nil, List.getElem?_cons_zero, List.getElem?_cons_succ, List.set_cons_zero, List.set_cons_succ, Option.some.injEq, exists_eq_left', V.int.injEq, V.bl.injEq, V.ref.injEq, and_true, true_and, and_assoc, List.append_nil, e2, et3, tRaise, tNewI, tSE, sp_line0, sp_xinit]
        exact xi_fall (by decide) (s1.trans s2) qe
      · rintro σ H2 ⟨h, _⟩
        cases h
def sp_rbc : Sp := fun vs H Q _ => ∃ (l : Addr) (v : V), vs = [.ref l, v] ∧ H l = some (.lst []) ∧ ∀ H', Same H H' → Q .non H'
set_option maxHeartbeats 4000000 in
theorem own_rbc (D : Def K mg "refuse_bad_changes" s_refuse_bad_changes) (hb : Blt mg) (hen : mg "enumerate" = none) : Own P w K mg base 1 "refuse_bad_changes" ["changes", "pairs"] sp_rbc := by
  refine D.own sc_refuse_bad_changes (fun _ _ _ _ _ _ us hl => match us, hl with | [_, _], _ => rfl) (fun vs H Q E h => ?_) (fun f cdv A outer s H vs Q E hr h => ?_)
  · obtain ⟨l, v, rfl, _⟩ := h
    rfl
  · obtain ⟨l, v, rfl, el, q⟩ := h
    refine ⟨_, (@pss_one _ _ _ (@ps_for _ _ _ _ _ _ _ _ PassesOwn.never rfl (@pi_enum _ K _ _ _ _ _ _ _ rfl hen (@pa_cX _ _ _ _ _ (@pv _ 0 _ _ (by rfl) (by first | exact Or.inl rfl | exact Or.inr (Or.inl rfl) | exact Or.inr (Or.inr rfl)) (by decide) (by decide)) (@pa_nil _) (by rfl)) (by rfl) (by rfl)) (@pg_seqX _ _ _ _ 2 _ rfl (@pgs_cons _ _ _ _ _ (@pg_name _ _ 2 _ sc_refuse_bad_changes.nd rfl (by first | exact Or.inl rfl | exact Or.inr rfl) (by first | exact .inl rfl | exact .inr rfl | assumption)) (@pgs_cons _ _ _ _ _ (@pg_name _ _ 3 _ sc_refuse_bad_changes.nd rfl (by first | exact Or.inl rfl | exact Or.inr rfl) (by first | exact .inl rfl | exact .inr rfl | assumption)) (@pgs_nil _) (by rfl)) (by rfl)) (by rfl) (by rfl)) (@pss_one _ _ _ (@ps_never _ _)) (by intro _; rfl))), ?_⟩
    simp (maxSteps := 1000000) only [tFor_eq, Nat.reduceSub, Nat.reduceAdd, List.cons.injEq, tVar, tCons, tNil, L2.start, List.map_cons, List.map_nil, List.length_cons, List.length_nil, List.replicate, List.cons_append, List.nil_append, List.getElem?_cons_zero, Option.some.injEq, exists_eq_left', V.ref.injEq, and_true, iEnum]
    refine ⟨⟨_, SqL.of el⟩, for_enum (K := K) (xs := []) (fun _ σ H2 => H2 = H) rfl ?_ ?_ ?_⟩
    · rintro i σ H2 _ rfl
      exact SqL.of el
    · rintro i x p σ H2 hx
      cases hx
    · rintro σ H2 rfl
      exact q _ (.refl _)
def sp_rbrs : Sp := fun vs H Q _ => ∃ (l : Addr) (v u : V), vs = [.ref l, v, u] ∧ H l = some (.lst []) ∧ ∀ H', Same H H' → Q .non H'
set_option maxHeartbeats 4000000 in
theorem own_rbrs (D : Def K mg "refuse_bad_roads" s_refuse_bad_roads) (hb : Blt mg) (hen : mg "enumerate" = none) : Own P w K mg base 1 "refuse_bad_roads" ["roads", "pairs", "lag"] sp_rbrs := by
  refine D.own sc_refuse_bad_roads (fun _ _ _ _ _ _ us hl => match us, hl with | [_, _, _], _ => rfl) (fun vs H Q E h => ?_) (fun f cdv A outer s H vs Q E hr h => ?_)
  · obtain ⟨l, v, u, rfl, _⟩ := h
    rfl
  · obtain ⟨l, v, u, rfl, el, q⟩ := h
    have hu := hr.units
    have hu1 : (A.deeper (PyProof.Rows.envOfC "refuse_bad_roads" (defScope s_refuse_bad_roads) s.heap.objs.size f cdv)).units + 1 < cLine := by omega
    refine ⟨_, (@pss_cons _ _ _ _ _ (@ps_set _ _ 3 _ _ _ _ sc_refuse_bad_roads.nd rfl (by first | exact Or.inl rfl | exact Or.inr rfl) (@pe_dnewK _ _) (by rfl) (by first | exact .inl rfl | exact .inr rfl | assumption)) (@pss_one _ _ _ (@ps_for _ _ _ _ _ _ _ _ PassesOwn.never rfl (@pi_enum _ K _ _ _ _ _ _ _ rfl hen (@pa_cX _ _ _ _ _ (@pv _ 0 _ _ (by rfl) (by first | exact Or.inl rfl | exact Or.inr (Or.inl rfl) | exact Or.inr (Or.inr rfl)) (by decide) (by decide)) (@pa_nil _) (by rfl)) (by rfl) (by rfl)) (@pg_seqX _ _ _ _ 2 _ rfl (@pgs_cons _ _ _ _ _ (@pg_name _ _ 4 _ sc_refuse_bad_roads.nd rfl (by first | exact Or.inl rfl | exact Or.inr rfl) (by first | exact .inl rfl | exact .inr rfl | assumption)) (@pgs_cons _ _ _ _ _ (@pg_name _ _ 5 _ sc_refuse_bad_roads.nd rfl (by first | exact Or.inl rfl | exact Or.inr rfl) (by first | exact .inl rfl | exact .inr rfl | assumption)) (@pgs_nil _) (by rfl)) (by rfl)) (by rfl) (by rfl)) (@pss_cons _ _ _ _ _ (@ps_never _ _) (@pss_cons _ _ _ _ _ (@ps_never _ _) (@pss_one _ _ _ (@ps_never _ _)))) (by intro _; rfl)))), ?_⟩
    simp (maxSteps := 1000000) only [tFor_eq, tDNewK, Nat.reduceSub, Nat.reduceAdd, List.cons.injEq, tSeq, tVar, tAsg, gName, tCons, tNil, L2.start, List.map_cons, List.map_nil, List.length_cons, List.length_nil, List.replicate, List.cons_append, List.nil_append, List.getElem?_cons_zero, List.set_cons_zero, List.set_cons_succ, Option.some.injEq, exists_eq_left', V.ref.injEq, and_true, iEnum]
    intro p1 n1
    generalize z1 : upd H p1 _ = H1
    obtain ⟨s1, e1⟩ := new_same z1 n1
    have el1 := s1 _ _ el
    refine ⟨⟨_, SqL.of el1⟩, for_enum (K := K) (xs := []) (fun _ σ H2 => H2 = H1) rfl ?_ ?_ ?_⟩
    · rintro i σ H2 _ rfl
      exact SqL.of el1
    · rintro i x p σ H2 hx
      cases hx
    · rintro σ H2 rfl
      exact q _ s1
abbrev w001 : List V := [.int 0, .int 0, .str (Str.ofString "say"), .int 1]
def sp_wish0 : Sp := fun vs H Q _ => ∃ (t : Addr), vs = [.ref t, .int 2] ∧ H t = some (.tup w001) ∧ ∀ H', Same H H' → Q (.bl false) H'
set_option maxHeartbeats 4000000 in
theorem own_wish0 (D : Def K mg "is_wish" s_is_wish) (F_is_row : Own P w K mg base 1 "is_row" ["thing", "many"] sp_row) (F_is_hand : Own P w K mg base 3 "is_hand" ["thing", "hands"] sp_hand) (F_is_turn : Own P w K mg base 3 "is_turn" ["thing"] sp_turn) (F_is_name : Own P w K mg base 2 "is_name" ["thing"] sp_nm0) : Own P w K mg base 4 "is_wish" ["thing", "hands"] sp_wish0 := by
  refine D.own sc_is_wish (fun _ _ _ _ _ _ us hl => match us, hl with | [_, _], _ => rfl) (fun vs H Q E h => ?_) (fun f cdv A outer s H vs Q E hr h => ?_)
  · obtain ⟨t, rfl, _⟩ := h
    rfl
  · obtain ⟨t, rfl, e, q⟩ := h
    have hu := hr.units
    have hu1 : (A.deeper (PyProof.Rows.envOfC "is_wish" (defScope s_is_wish) s.heap.objs.size f cdv)).units + 1 < cLine := by omega
    refine ⟨_, (@pss_cons _ _ _ _ _ (@ps_if _ _ _ _ _ _ _ _ (@PW.pt _ _ _ (@pw_or _ _ _ _ _ _ _ (@pt_not _ _ _ _ (@pt_truX _ _ _ (@pe_fn _ _ _ _ _ _ _ _ _ _ _ F_is_row hr (@pa_cX _ _ _ _ _ (@pv _ 0 _ _ (by rfl) (by first | exact Or.inl rfl | exact Or.inr (Or.inl rfl) | exact Or.inr (Or.inr rfl)) (by decide) (by decide)) (@pa_cX _ _ _ _ _ (@pe_int _ _ _ _) (@pa_nil _) (by rfl)) (by rfl)) (by decide) (by rfl) (by decide) (by rfl) (by rfl)) (by intro _; rfl))) (@pw_or _ _ _ _ _ _ _ (@pt_not _ _ _ _ (@pt_truX _ _ _ (@pe_fn _ _ _ _ _ _ _ _ _ _ _ F_is_turn hr (@pa_cX _ _ _ _ _ (@pe_ix _ _ _ _ _ _ _ (ix_get hu1) (@pv _ 0 _ _ (by rfl) (by first | exact Or.inl rfl | exact Or.inr (Or.inl rfl) | exact Or.inr (Or.inr rfl)) (by decide) (by decide)) (@pe_int _ _ _ _) (fun _ _ => rfl)) (@pa_nil _) (by rfl)) (by decide) (by rfl) (by decide) (by rfl) (by rfl)) (by intro _; rfl))) (@pw_or1 _ _ _ _ (@pt_not _ _ _ _ (@pt_truX _ _ _ (@pe_fn _ _ _ _ _ _ _ _ _ _ _ F_is_hand hr (@pa_cX _ _ _ _ _ (@pe_ix _ _ _ _ _ _ _ (ix_get hu1) (@pv _ 0 _ _ (by rfl) (by first | exact Or.inl rfl | exact Or.inr (Or.inl rfl) | exact Or.inr (Or.inr rfl)) (by decide) (by decide)) (@pe_int _ _ _ _) (fun _ _ => rfl)) (@pa_cX _ _ _ _ _ (@pv _ 1 _ _ (by rfl) (by first | exact Or.inl rfl | exact Or.inr (Or.inl rfl) | exact Or.inr (Or.inr rfl)) (by decide) (by decide)) (@pa_nil _) (by rfl)) (by rfl)) (by decide) (by rfl) (by decide) (by rfl) (by rfl)) (by intro _; rfl))))))) (@pss_one _ _ _ (@ps_ret _ _ _ _ (@pe_bl _ _ _ _))) (@pss_nil _)) (@pss_cons _ _ _ _ _ (@ps_set _ _ 2 _ _ _ _ sc_is_wish.nd rfl (by first | exact Or.inl rfl | exact Or.inr rfl) (@pe_ix _ _ _ _ _ _ _ (ix_get hu1) (@pv _ 0 _ _ (by rfl) (by first | exact Or.inl rfl | exact Or.inr (Or.inl rfl) | exact Or.inr (Or.inr rfl)) (by decide) (by decide)) (@pe_int _ _ _ _) (fun _ _ => rfl)) (by rfl) (by first | exact .inl rfl | exact .inr rfl | assumption)) (@pss_cons _ _ _ _ _ (@ps_set _ _ 3 _ _ _ _ sc_is_wish.nd rfl (by first | exact Or.inl rfl | exact Or.inr rfl) (@pe_ix _ _ _ _ _ _ _ (ix_get hu1) (@pv _ 0 _ _ (by rfl) (by first | exact Or.inl rfl | exact Or.inr (Or.inl rfl) | exact Or.inr (Or.inr rfl)) (by decide) (by decide)) (@pe_int _ _ _ _) (fun _ _ => rfl)) (by rfl) (by first | exact .inl rfl | exact .inr rfl | assumption)) (@pss_cons _ _ _ _ _ (@ps_if _ _ _ _ _ _ _ _ (@pt_cmpR _ _ _ _ _ _ _ _ (op_inX hu1) (@pv _ 2 _ _ (by rfl) (by first | exact Or.inl rfl | exact Or.inr (Or.inl rfl) | exact Or.inr (Or.inr rfl)) (by decide) (by decide)) (@pe_tup _ _ _ _ _ (@pa_cX _ _ _ _ _ (@pe_str _ _ _ _) (@pa_cX _ _ _ _ _ (@pe_str _ _ _ _) (@pa_nil _) (by rfl)) (by rfl))) rfl) (@pss_one _ _ _ (@ps_never _ _)) (@pss_nil _)) (@pss_cons _ _ _ _ _ (@ps_if _ _ _ _ _ _ _ _ (@pt_cmpR _ _ _ _ _ _ _ _ op_eq (@pv _ 2 _ _ (by rfl) (by first | exact Or.inl rfl | exact Or.inr (Or.inl rfl) | exact Or.inr (Or.inr rfl)) (by decide) (by decide)) (@pe_str _ _ _ _) (nomark _)) (@pss_one _ _ _ (@ps_never _ _)) (@pss_nil _)) (@pss_one _ _ _ (@ps_ret _ _ _ _ (@pe_and _ _ _ _ _ _ _ (@pe_cmpR _ _ _ _ _ _ _ _ (op_inX hu1) (@pv _ 2 _ _ (by rfl) (by first | exact Or.inl rfl | exact Or.inr (Or.inl rfl) | exact Or.inr (Or.inr rfl)) (by decide) (by decide)) (@pe_tup _ _ _ _ _ (@pa_cX _ _ _ _ _ (@pe_str _ _ _ _) (@pa_cX _ _ _ _ _ (@pe_str _ _ _ _) (@pa_cX _ _ _ _ _ (@pe_str _ _ _ _) (@pa_nil _) (by rfl)) (by rfl)) (by rfl))) rfl) (@pe_one _ _ _ _ _ (@pe_fn _ _ _ _ _ _ _ _ _ _ _ F_is_name hr (@pa_cX _ _ _ _ _ (@pv _ 3 _ _ (by rfl) (by first | exact Or.inl rfl | exact Or.inr (Or.inl rfl) | exact Or.inr (Or.inr rfl)) (by decide) (by decide)) (@pa_nil _) (by rfl)) (by decide) (by rfl) (by decide) (by rfl) (by rfl))))))))))), ?_⟩
    simp (maxSteps := 1000000) only [rEq_ss, rGet, getO_t, tTruX, truX_b, rInX, inO_t', atI_0, atI_1, atI_2, atI_3, Nat.reduceSub, upd_same, HO.tup.injEq, Nat.reduceAdd, tNever, List.cons.injEq, tSeq, exists_and_left, if_true, tIfS, tOr, tNot, tTest, tOp, tVar, tC, tRet, tAsg, gName, tNext, tAndV, tCall, tCons, tNil, tTup, L2.start, List.map_cons, List.map_nil, List.length_cons, List.length_nil, List.replicate, List.cons_append, List.nil_append, List.getElem?_cons_zero, List.getElem?_cons_succ, List.set_cons_zero, List.set_cons_succ, Option.some.injEq, exists_eq_left', V.int.injEq, V.bl.injEq, V.ref.injEq, and_true, and_assoc, List.append_nil, e, sp_row, sp_hand, sp_turn]
    refine ⟨.int 0, ?_⟩
    rw [if_neg (by decide)]
    refine ⟨.int 0, ?_⟩
    rw [if_neg (by decide)]
    refine ⟨by rw [sizeLine_eq]; decide, fun p hp => ⟨false, by decide +kernel, iteF ?_⟩⟩
    have w1 : decide (Str.ofString "say" = Str.ofString "put") = false := by decide +kernel
    rw [w1]
    refine iteF ⟨by rw [sizeLine_eq]; decide, fun p2 hp2 => ⟨false, by decide +kernel, iteF (q _ ((Same.upd_new hp).trans (.upd_new hp2)))⟩⟩
def sp_rbw (cW : Addr) : Sp := fun vs H _ E => ∃ (l t : Addr), vs = [.ref l, .int 2] ∧ H l = some (.lst [.ref t]) ∧ H t = some (.tup w001) ∧ ∀ e H', Same H H' → XAt cW e H' → E (.ref e) none H'
set_option maxHeartbeats 4000000 in
theorem own_rbw (D : Def K mg "refuse_bad_wishes" s_refuse_bad_wishes) (hb : Blt mg) (hen : mg "enumerate" = none) (hc_BadWish : mg "BadWish" = some (.ref cW)) (E_BadWish : OwnE P w K mg base 1 cW ["self", "at"] (sp_xinit cW "at")) (F_is_wish : Own P w K mg base 4 "is_wish" ["thing", "hands"] sp_wish0) :
    OwnX P w K mg base 5 "refuse_bad_wishes" ["wishes", "hands"] (sp_rbw cW) := by
  refine D.ownE sc_refuse_bad_wishes (fun _ _ _ _ _ _ us hl => match us, hl with | [_, _], _ => rfl) (fun vs H Q E h => ?_) (fun f cdv A outer s H vs Q E hr h => ?_)
  · obtain ⟨l, t, rfl, _⟩ := h
    rfl
  · obtain ⟨l, t, rfl, el, et, qe⟩ := h
    have hu := hr.units
    have hu1 : (A.deeper (PyProof.Rows.envOfC "refuse_bad_wishes" (defScope s_refuse_bad_wishes) s.heap.objs.size f cdv)).units + 1 < cLine := by omega
    refine ⟨_, (@pss_one _ _ _ (@ps_for _ _ _ _ _ _ _ _ (passes_ex rfl rfl) rfl (@pi_enum _ K _ _ _ _ _ _ _ rfl hen (@pa_cX _ _ _ _ _ (@pv _ 0 _ _ (by rfl) (by first | exact Or.inl rfl | exact Or.inr (Or.inl rfl) | exact Or.inr (Or.inr rfl)) (by decide) (by decide)) (@pa_nil _) (by rfl)) (by rfl) (by rfl)) (@pg_seqX _ _ _ _ 2 _ rfl (@pgs_cons _ _ _ _ _ (@pg_name _ _ 2 _ sc_refuse_bad_wishes.nd rfl (by first | exact Or.inl rfl | exact Or.inr rfl) (by first | exact .inl rfl | exact .inr rfl | assumption)) (@pgs_cons _ _ _ _ _ (@pg_name _ _ 3 _ sc_refuse_bad_wishes.nd rfl (by first | exact Or.inl rfl | exact Or.inr rfl) (by first | exact .inl rfl | exact .inr rfl | assumption)) (@pgs_nil _) (by rfl)) (by rfl)) (by rfl) (by rfl)) (@pss_one _ _ _ (@ps_if _ _ _ _ _ _ _ _ (@pt_not _ _ _ _ (@pt_truX _ _ _ (@pe_fn _ _ _ _ _ _ _ _ _ _ _ F_is_wish hr (@pa_cX _ _ _ _ _ (@pv _ 3 _ _ (by rfl) (by first | exact Or.inl rfl | exact Or.inr (Or.inl rfl) | exact Or.inr (Or.inr rfl)) (by decide) (by decide)) (@pa_cX _ _ _ _ _ (@pv _ 1 _ _ (by rfl) (by first | exact Or.inl rfl | exact Or.inr (Or.inl rfl) | exact Or.inr (Or.inr rfl)) (by decide) (by decide)) (@pa_nil _) (by rfl)) (by rfl)) (by decide) (by rfl) (by decide) (by rfl) (by rfl)) (by intro _; rfl))) (@pss_one _ _ _ (@ps_exc _ _ _ _ (@psx_raise _ _ _ _ (@pn_newI _ _ _ _ _ _ _ _ _ _ _ _ E_BadWish hr hc_BadWish (@pa_cX _ _ _ _ _ (@pv _ 2 _ _ (by rfl) (by first | exact Or.inl rfl | exact Or.inr (Or.inl rfl) | exact Or.inr (Or.inr rfl)) (by decide) (by decide)) (@pa_nil _) (by rfl)) (by decide) (by rfl) (by decide) (by rfl) (by rfl)) (by rfl)))) (@pss_nil _))) (by intro _; rfl))), ?_⟩
    simp (maxSteps := 1000000) only [tFor_eq, Nat.reduceSub, Nat.reduceAdd, List.cons.injEq, tVar, tCons, tNil, L2.start, List.map_cons, List.map_nil, List.length_cons, List.length_nil, List.replicate, List.cons_append, List.nil_append, List.getElem?_cons_zero, Option.some.injEq, exists_eq_left', V.ref.injEq, and_true, iEnum]
    refine ⟨⟨_, SqL.of el⟩, for_enum (K := K) (xs := [V.ref t]) (fun i σ H2 => i = 0 ∧ σ = [some (.ref l), some (.int 2), none, none] ∧ H2 = H) ⟨rfl, rfl, rfl⟩ ?_ ?_ ?_⟩
    · rintro i σ H2 _ ⟨_, rfl, rfl⟩
      exact SqL.of el
    · rintro i x p σ H2 hx hp ⟨rfl, rfl, rfl⟩
      obtain rfl : V.ref t = x := Option.some.inj hx
      have s2 : Same H2 (upd H2 p (.tup [.int ((0 : Nat) : Int), .ref t])) := .upd_new hp
      have e2 : upd H2 p (.tup [.int ((0 : Nat) : Int), .ref t]) p = some (.tup [.int ((0 : Nat) : Int), .ref t]) := upd_same
      generalize upd H2 p (.tup [.int ((0 : Nat) : Int), .ref t]) = H3 at s2 e2 ⊢
      have et3 := s2 _ _ et
      simp (maxSteps := 1000000) only [gSeqX, tTruX, truX_b, seqO_t, gCons, gNil, upd_same, upd_upd, Nat.reduceAdd, ne_eq, Bool.not_false, List.cons.injEq, exists_and_left, if_true, tIfS, tNot, tVar, gName, tNext, tCall, tCons, tNil, List.length_cons, List.length_nil, List.getElem?_cons_zero, List.getElem?_cons_succ, List.set_cons_zero, List.set_cons_succ, Option.some.injEq, exists_eq_left', V.int.injEq, V.ref.injEq, and_true, true_and, reduceCtorEq, false_and, and_assoc, List.append_nil, e2, et3, tRaise, tNewI, tSE, sp_wish0, sp_xinit]
      exact fun H4 s4 => xi_fall (by decide) (s2.trans s4) qe
    · rintro σ H2 ⟨h, _⟩
      cases h
end
end K71
namespace L2
open PySem PySem.Spec PyProof.Rows
section
variable {X : Cx} {o e : Expr} {td ty : TE} {apos cpos : Pos}
def tSw (td ty : TE) : TE := fun σ H Q => td σ H fun x H1 => ∃ a, x = .str a ∧ ty σ H1 fun y H2 => ∃ b, y = .str b ∧ Q (.bl (PySem.Txt.startswith a b)) H2
theorem pe_sw (ho : PE X o td) (he : PE X e ty) (m : M1 X o "startswith" apos e cpos) : PE X (.Call (.Attribute o "startswith" apos) [e] [] cpos) (tSw td ty) := by
  intro pins s σ H Q I h
  refine wpAny_Call_method m.base m.few m.line PySem.F.plainAttrs_str PySem.F.slot_str_startswith PySem.F.type_str_startswith (thn (ho pins s σ H _ I h) fun u s1 ⟨x, H1, I1, rx, a, ex, q1⟩ => ?_)
  subst ex
  obtain ⟨t, rfl⟩ := rx
  refine ⟨typeIs_str _ _ _, (fun _ e => nomatch e), ?_⟩
  rw [m.trees]
  refine Calls.callWith_builtin rfl (Calls.evalArgs_plain (Calls.spliced_cons (thn (he pins s1 σ H1 _ I1 q1) fun iv s2 ⟨y, H2, I2, ry, b, ey, q2⟩ => Calls.spliced_nil ?_)))
  subst ey
  obtain ⟨t2, rfl⟩ := ry
  exact SC.startswith ⟨.bl _, H2, I2, rfl, q2⟩
end
end L2
namespace K71
open PySem L2
abbrev at_Net : List Str := ["turn", "last_prices", "lines_there", "changes", "wishes", "last_ahead", "hands", "roads", "told_rows"]
section
variable {a0 a1 a2 a3 a4 a5 a6 a7 a8 : V}
end
abbrev s_refuse_bad_plan : Stmt := stm 80
theorem sc_refuse_bad_plan : FnScope ["measures", "lines", "changes", "roads", "wishes", "pairs"] ["measures", "lines", "changes", "roads", "wishes"] (defScope s_refuse_bad_plan) := ⟨rfl, rfl, rfl, by decide +kernel, rfl, by decide +kernel, by decide +kernel⟩
abbrev s_Net___init__ : Stmt := inClass (stm 89) 0
theorem sc_Net___init__ : FnScope ["self", "measures", "lines", "changes", "roads", "wishes"] ["self", "measures", "lines", "changes", "roads", "wishes"] (defScope s_Net___init__) := ⟨rfl, rfl, rfl, by decide +kernel, rfl, by decide +kernel, by decide +kernel⟩
abbrev s_Desk_say : Stmt := inClass (stm 153) 1
theorem sc_Desk_say : FnScope ["self", "row", "words", "kinds", "answer", "hands"] ["self", "row"] (defScope s_Desk_say) := ⟨rfl, rfl, rfl, by decide +kernel, rfl, by decide +kernel, by decide +kernel⟩
section
variable {P : Program} {w : World} {K : PySem.W.Frag} {mg : Str → Option Value} {base : Heap} {C CM R cM cP cR cF cT cN cA cL cW cO pan : Addr} {H H' : Hp}
def BadP (H : Hp) (l c r s : Addr) (cL cW x : Addr) : Prop := (∃ t, H l = some (.lst [.ref t]) ∧ H t = some (.tup l001) ∧ x = cL) ∨ (∃ t, H l = some (.lst []) ∧ H c = some (.lst []) ∧ H r = some (.lst []) ∧ H s = some (.lst [.ref t]) ∧ H t = some (.tup w001) ∧ x = cW)
def sp_rbp (CM cL cW : Addr) : Sp := fun vs H _ E => ∃ (m dm l c r s x : Addr) (a1 a2 a3 a4 a5 a6 a7 a8 a9 : V), vs = [.ref m, .ref l, .ref c, .ref r, .ref s] ∧ H m = some (.ins CM dm (fs_Measures (.int 2) a1 a2 a3 a4 a5 a6 a7 a8 a9)) ∧ BadP H l c r s cL cW x ∧ ∀ e H', Same H H' → XAt x e H' → E (.ref e) none H'
set_option maxHeartbeats 4000000 in
theorem own_rbp (D : Def K mg "refuse_bad_plan" s_refuse_bad_plan) (T_Measures : ClsD K mg "Measures" CM at_Measures) (FX_good_pairs : OwnX P w K mg base 5 "good_pairs" ["lines", "hands"] (sp_gp cL)) (F_refuse_bad_changes : Own P w K mg base 1 "refuse_bad_changes" ["changes", "pairs"] sp_rbc) (F_refuse_bad_roads : Own P w K mg base 1 "refuse_bad_roads" ["roads", "pairs", "lag"] sp_rbrs) (FX_refuse_bad_wishes : OwnX P w K mg base 5 "refuse_bad_wishes" ["wishes", "hands"] (sp_rbw cW)) :
    OwnX P w K mg base 6 "refuse_bad_plan" ["measures", "lines", "changes", "roads", "wishes"] (sp_rbp CM cL cW) := by
  refine D.ownE sc_refuse_bad_plan (fun _ _ _ _ _ _ us hl => match us, hl with | [_, _, _, _, _], _ => rfl) (fun vs H Q E h => ?_) (fun f cdv A outer s H vs Q E hr h => ?_)
  · obtain ⟨m, dm, l, c, r, s', x, a1, a2, a3, a4, a5, a6, a7, a8, a9, rfl, _⟩ := h
    rfl
  · obtain ⟨m, dm, l, c, r, s', x, a1, a2, a3, a4, a5, a6, a7, a8, a9, rfl, em, hx, qe⟩ := h
    have hu := hr.units
    have hu1 : (A.deeper (PyProof.Rows.envOfC "refuse_bad_plan" (defScope s_refuse_bad_plan) s.heap.objs.size f cdv)).units + 1 < cLine := by omega
    refine ⟨_, (@pss_cons _ _ _ _ _ (@ps_set _ _ 5 _ _ _ _ sc_refuse_bad_plan.nd rfl (by first | exact Or.inl rfl | exact Or.inr rfl) (@pe_exc _ _ _ _ (@pex_fn _ _ _ _ _ _ _ _ _ _ _ FX_good_pairs hr (@pa_cX _ _ _ _ _ (@pv _ 1 _ _ (by rfl) (by first | exact Or.inl rfl | exact Or.inr (Or.inl rfl) | exact Or.inr (Or.inr rfl)) (by decide) (by decide)) (@pa_cX _ _ _ _ _ (@pe_fldK _ K _ _ _ _ (@pv _ 0 _ _ (by rfl) (by first | exact Or.inl rfl | exact Or.inr (Or.inl rfl) | exact Or.inr (Or.inr rfl)) (by decide) (by decide)) (by rfl) (by rfl)) (@pa_nil _) (by rfl)) (by rfl)) (by decide) (by rfl) (by decide) (by rfl) (by rfl))) (by rfl) (by first | exact .inl rfl | exact .inr rfl | assumption)) (@pss_cons _ _ _ _ _ (@ps_expr _ _ _ _ (@pe_fn _ _ _ _ _ _ _ _ _ _ _ F_refuse_bad_changes hr (@pa_cX _ _ _ _ _ (@pv _ 2 _ _ (by rfl) (by first | exact Or.inl rfl | exact Or.inr (Or.inl rfl) | exact Or.inr (Or.inr rfl)) (by decide) (by decide)) (@pa_cX _ _ _ _ _ (@pv _ 5 _ _ (by rfl) (by first | exact Or.inl rfl | exact Or.inr (Or.inl rfl) | exact Or.inr (Or.inr rfl)) (by decide) (by decide)) (@pa_nil _) (by rfl)) (by rfl)) (by decide) (by rfl) (by decide) (by rfl) (by rfl)) (by rfl)) (@pss_cons _ _ _ _ _ (@ps_expr _ _ _ _ (@pe_fn _ _ _ _ _ _ _ _ _ _ _ F_refuse_bad_roads hr (@pa_cX _ _ _ _ _ (@pv _ 3 _ _ (by rfl) (by first | exact Or.inl rfl | exact Or.inr (Or.inl rfl) | exact Or.inr (Or.inr rfl)) (by decide) (by decide)) (@pa_cX _ _ _ _ _ (@pv _ 5 _ _ (by rfl) (by first | exact Or.inl rfl | exact Or.inr (Or.inl rfl) | exact Or.inr (Or.inr rfl)) (by decide) (by decide)) (@pa_cX _ _ _ _ _ (@pe_fldK _ K _ _ _ _ (@pv _ 0 _ _ (by rfl) (by first | exact Or.inl rfl | exact Or.inr (Or.inl rfl) | exact Or.inr (Or.inr rfl)) (by decide) (by decide)) (by rfl) (by rfl)) (@pa_nil _) (by rfl)) (by rfl)) (by rfl)) (by decide) (by rfl) (by decide) (by rfl) (by rfl)) (by rfl)) (@pss_one _ _ _ (@ps_expr _ _ _ _ (@pe_exc _ _ _ _ (@pex_fn _ _ _ _ _ _ _ _ _ _ _ FX_refuse_bad_wishes hr (@pa_cX _ _ _ _ _ (@pv _ 4 _ _ (by rfl) (by first | exact Or.inl rfl | exact Or.inr (Or.inl rfl) | exact Or.inr (Or.inr rfl)) (by decide) (by decide)) (@pa_cX _ _ _ _ _ (@pe_fldK _ K _ _ _ _ (@pv _ 0 _ _ (by rfl) (by first | exact Or.inl rfl | exact Or.inr (Or.inl rfl) | exact Or.inr (Or.inr rfl)) (by decide) (by decide)) (by rfl) (by rfl)) (@pa_nil _) (by rfl)) (by rfl)) (by decide) (by rfl) (by decide) (by rfl) (by rfl))) (by rfl)))))), ?_⟩
    simp (maxSteps := 1000000) only [Nat.reduceSub, HO.ins.injEq, Nat.reduceAdd, tFld, tSeq, exists_and_left, tVar, tAsg, gName, tCall, tCons, tNil, tDrop, L2.start, List.map_cons, List.map_nil, List.length_cons, List.length_nil, List.replicate, List.cons_append, List.nil_append, List.getElem?_cons_zero, List.getElem?_cons_succ, List.set_cons_zero, List.set_cons_succ, Option.some.injEq, exists_eq_left', V.ref.injEq, true_and, and_assoc, List.append_nil, em, T_Measures.cl, T_Measures.no "hands" (by decide), fs_Measures_hands, tCallx, tXE]
    rcases hx with ⟨t, el, et, rfl⟩ | ⟨t, el, ec, er, es, et, rfl⟩
    · exact ⟨l, rfl, .inr ⟨t, el, et, qe⟩⟩
    · refine ⟨l, rfl, .inl ⟨el, fun p H1 s1 => ?_⟩⟩
      have em1 := s1 _ _ em
      refine ⟨c, _, rfl, s1 _ _ ec, fun H2 s2 => ?_⟩
      have t2 := s1.trans s2
      have em2 := t2 _ _ em
      simp (maxSteps := 1000000) only [HO.ins.injEq, exists_and_left, Option.some.injEq, exists_eq_left', true_and, and_assoc, em2, T_Measures.cl, T_Measures.no "lag" (by decide), fs_Measures_lag]
      refine ⟨r, _, _, rfl, t2 _ _ er, fun H3 s3 => ?_⟩
      have t3 := t2.trans s3
      have em3 := t3 _ _ em
      simp (maxSteps := 1000000) only [HO.ins.injEq, exists_and_left, Option.some.injEq, exists_eq_left', true_and, and_assoc, em3, T_Measures.cl, T_Measures.no "hands" (by decide), fs_Measures_hands]
      exact ⟨s', t, rfl, t3 _ _ es, t3 _ _ et, fun e H4 s4 => qe e H4 (t3.trans s4)⟩
def gA : List Value → List Value → List Value
  | [u], [w0, w1, w2, w3, w4] => [u, w4, w3, w2, w1, w0]
  | _, _ => []
def gAV : List V → List V → List V
  | [u], [w0, w1, w2, w3, w4] => [u, w4, w3, w2, w1, w0]
  | _, _ => []
def gB : List Value → List Value → List Value
  | [u], [w0, w1, w2, w3, w4] => [u, w2, w1, w4, w0, w3]
  | _, _ => []
def gBV : List V → List V → List V
  | [u], [w0, w1, w2, w3, w4] => [u, w2, w1, w4, w0, w3]
  | _, _ => []
theorem gA_or (us ws : List Value) : (∃ u w0 w1 w2 w3 w4, us = [u] ∧ ws = [w0, w1, w2, w3, w4]) ∨ gA us ws = [] := by
  unfold gA
  split
  · exact .inl ⟨_, _, _, _, _, _, rfl, rfl⟩
  · exact .inr rfl
theorem gAV_or (us ws : List V) : (∃ u w0 w1 w2 w3 w4, us = [u] ∧ ws = [w0, w1, w2, w3, w4]) ∨ gAV us ws = [] := by
  unfold gAV
  split
  · exact .inl ⟨_, _, _, _, _, _, rfl, rfl⟩
  · exact .inr rfl
theorem gB_or (us ws : List Value) : (∃ u w0 w1 w2 w3 w4, us = [u] ∧ ws = [w0, w1, w2, w3, w4]) ∨ gB us ws = [] := by
  unfold gB
  split
  · exact .inl ⟨_, _, _, _, _, _, rfl, rfl⟩
  · exact .inr rfl
theorem gBV_or (us ws : List V) : (∃ u w0 w1 w2 w3 w4, us = [u] ∧ ws = [w0, w1, w2, w3, w4]) ∨ gBV us ws = [] := by
  unfold gBV
  split
  · exact .inl ⟨_, _, _, _, _, _, rfl, rfl⟩
  · exact .inr rfl
theorem gAKV {vs : List V} {us : List Value} {zs : List V} {ws : List Value} (h1 : Vals vs us) (h2 : Vals zs ws) : Vals (gAV vs zs) (gA us ws) := by
  rcases gA_or us ws with ⟨u, w0, w1, w2, w3, w4, rfl, rfl⟩ | e
  · obtain ⟨v, r, rfl, a, b⟩ := vals_cons' h1
    obtain rfl := vals_nil' b
    obtain ⟨z0, r, rfl, a0, b⟩ := vals_cons' h2
    obtain ⟨z1, r, rfl, a1, b⟩ := vals_cons' b
    obtain ⟨z2, r, rfl, a2, b⟩ := vals_cons' b
    obtain ⟨z3, r, rfl, a3, b⟩ := vals_cons' b
    obtain ⟨z4, r, rfl, a4, b⟩ := vals_cons' b
    obtain rfl := vals_nil' b
    exact .cons a (.cons a4 (.cons a3 (.cons a2 (.cons a1 (.cons a0 .nil)))))
  · rcases gAV_or vs zs with ⟨u, w0, w1, w2, w3, w4, rfl, rfl⟩ | e'
    · obtain ⟨v, r, rfl, a, b⟩ := vals_cons h1
      obtain rfl := vals_nil b
      obtain ⟨y0, r, rfl, a0, b⟩ := vals_cons h2
      obtain ⟨y1, r, rfl, a1, b⟩ := vals_cons b
      obtain ⟨y2, r, rfl, a2, b⟩ := vals_cons b
      obtain ⟨y3, r, rfl, a3, b⟩ := vals_cons b
      obtain ⟨y4, r, rfl, a4, b⟩ := vals_cons b
      obtain rfl := vals_nil b
      cases e
    · rw [e, e']
      exact .nil
theorem gBKV {vs : List V} {us : List Value} {zs : List V} {ws : List Value} (h1 : Vals vs us) (h2 : Vals zs ws) : Vals (gBV vs zs) (gB us ws) := by
  rcases gB_or us ws with ⟨u, w0, w1, w2, w3, w4, rfl, rfl⟩ | e
  · obtain ⟨v, r, rfl, a, b⟩ := vals_cons' h1
    obtain rfl := vals_nil' b
    obtain ⟨z0, r, rfl, a0, b⟩ := vals_cons' h2
    obtain ⟨z1, r, rfl, a1, b⟩ := vals_cons' b
    obtain ⟨z2, r, rfl, a2, b⟩ := vals_cons' b
    obtain ⟨z3, r, rfl, a3, b⟩ := vals_cons' b
    obtain ⟨z4, r, rfl, a4, b⟩ := vals_cons' b
    obtain rfl := vals_nil' b
    exact .cons a (.cons a2 (.cons a1 (.cons a4 (.cons a0 (.cons a3 .nil)))))
  · rcases gBV_or vs zs with ⟨u, w0, w1, w2, w3, w4, rfl, rfl⟩ | e'
    · obtain ⟨v, r, rfl, a, b⟩ := vals_cons h1
      obtain rfl := vals_nil b
      obtain ⟨y0, r, rfl, a0, b⟩ := vals_cons h2
      obtain ⟨y1, r, rfl, a1, b⟩ := vals_cons b
      obtain ⟨y2, r, rfl, a2, b⟩ := vals_cons b
      obtain ⟨y3, r, rfl, a3, b⟩ := vals_cons b
      obtain ⟨y4, r, rfl, a4, b⟩ := vals_cons b
      obtain rfl := vals_nil b
      cases e
    · rw [e, e']
      exact .nil
def sp_netE (CM cL cW : Addr) : Sp := fun vs H _ E => ∃ (n m dm l c r s x : Addr) (a1 a2 a3 a4 a5 a6 a7 a8 a9 : V), vs = [.ref n, .ref m, .ref l, .ref c, .ref r, .ref s] ∧ H m = some (.ins CM dm (fs_Measures (.int 2) a1 a2 a3 a4 a5 a6 a7 a8 a9)) ∧ BadP H l c r s cL cW x ∧ ∀ e H', Same H H' → XAt x e H' → E (.ref e) none H'
theorem net_body (FX_refuse_bad_plan : OwnX P w K mg base 6 "refuse_bad_plan" ["measures", "lines", "changes", "roads", "wishes"] (sp_rbp CM cL cW)) (f : Addr) (cdv : Value) : BodyE P w K mg base ["self", "measures", "lines", "changes", "roads", "wishes"] "Net.__init__" s_Net___init__ f cdv 6 (sp_netE CM cL cW) := by
  intro A outer s H vs Q E hr h
  obtain ⟨n, m, dm, l, c, r, s', x, a1, a2, a3, a4, a5, a6, a7, a8, a9, rfl, em, hx, qe⟩ := h
  refine ⟨_, (@pss_cons _ _ _ _ _ (@ps_expr _ _ _ _ (@pe_exc _ _ _ _ (@pex_fn _ _ _ _ _ _ _ _ _ _ _ FX_refuse_bad_plan hr (@pa_cX _ _ _ _ _ (@pv _ 1 _ _ (by rfl) (by first | exact Or.inl rfl | exact Or.inr (Or.inl rfl) | exact Or.inr (Or.inr rfl)) (by decide) (by decide)) (@pa_cX _ _ _ _ _ (@pv _ 2 _ _ (by rfl) (by first | exact Or.inl rfl | exact Or.inr (Or.inl rfl) | exact Or.inr (Or.inr rfl)) (by decide) (by decide)) (@pa_cX _ _ _ _ _ (@pv _ 3 _ _ (by rfl) (by first | exact Or.inl rfl | exact Or.inr (Or.inl rfl) | exact Or.inr (Or.inr rfl)) (by decide) (by decide)) (@pa_cX _ _ _ _ _ (@pv _ 4 _ _ (by rfl) (by first | exact Or.inl rfl | exact Or.inr (Or.inl rfl) | exact Or.inr (Or.inr rfl)) (by decide) (by decide)) (@pa_cX _ _ _ _ _ (@pv _ 5 _ _ (by rfl) (by first | exact Or.inl rfl | exact Or.inr (Or.inl rfl) | exact Or.inr (Or.inr rfl)) (by decide) (by decide)) (@pa_nil _) (by rfl)) (by rfl)) (by rfl)) (by rfl)) (by rfl)) (by decide) (by rfl) (by decide) (by rfl) (by rfl))) (by rfl)) (@pss_cons _ _ _ _ _ (@ps_never _ _) (@pss_cons _ _ _ _ _ (@ps_never _ _) (@pss_cons _ _ _ _ _ (@ps_never _ _) (@pss_cons _ _ _ _ _ (@ps_never _ _) (@pss_cons _ _ _ _ _ (@ps_never _ _) (@pss_cons _ _ _ _ _ (@ps_never _ _) (@pss_cons _ _ _ _ _ (@ps_never _ _) (@pss_cons _ _ _ _ _ (@ps_never _ _) (@pss_one _ _ _ (@ps_never _ _))))))))))), ?_⟩
  simp (maxSteps := 1000000) only [Nat.reduceSub, Nat.reduceAdd, tNever, tSeq, tVar, tCons, tNil, tDrop, L2.start, List.map_cons, List.map_nil, List.length_cons, List.length_nil, List.replicate, List.getElem?_cons_zero, List.getElem?_cons_succ, Option.some.injEq, exists_eq_left', List.append_nil, tCallx, tXE]
  exact ⟨m, dm, l, c, r, s', x, a1, a2, a3, a4, a5, a6, a7, a8, a9, rfl, em, hx, qe⟩
theorem own_netA (D : DefI K C "Net.__init__" s_Net___init__) (FX_refuse_bad_plan : OwnX P w K mg base 6 "refuse_bad_plan" ["measures", "lines", "changes", "roads", "wishes"] (sp_rbp CM cL cW)) : OwnIXK P w K mg base 7 C ["self", "measures", "lines", "changes", "roads", "wishes"] ["wishes", "roads", "changes", "lines", "measures"] gA gAV (sp_netE CM cL cW) := by
  refine D.ownEK (ks := ["wishes", "roads", "changes", "lines", "measures"]) (g := gA) (gV := gAV) sc_Net___init__ (fun _ _ _ _ _ _ us hl => match us, hl with | [_, _, _, _, _, _], _ => rfl) (fun _ _ _ _ _ _ us ws hl => by
    rcases gA_or us ws with ⟨u, w0, w1, w2, w3, w4, rfl, rfl⟩ | e
    · rfl
    · rw [e] at hl
      cases hl) gAKV (fun vs H Q E h => ?_) (fun f cdv => net_body FX_refuse_bad_plan f cdv)
  obtain ⟨n, m, dm, l, c, r, s', x, a1, a2, a3, a4, a5, a6, a7, a8, a9, rfl, _⟩ := h
  rfl
theorem own_netB (D : DefI K C "Net.__init__" s_Net___init__) (FX_refuse_bad_plan : OwnX P w K mg base 6 "refuse_bad_plan" ["measures", "lines", "changes", "roads", "wishes"] (sp_rbp CM cL cW)) : OwnIXK P w K mg base 7 C ["self", "measures", "lines", "changes", "roads", "wishes"] ["roads", "lines", "measures", "wishes", "changes"] gB gBV (sp_netE CM cL cW) := by
  refine D.ownEK (ks := ["roads", "lines", "measures", "wishes", "changes"]) (g := gB) (gV := gBV) sc_Net___init__ (fun _ _ _ _ _ _ us hl => match us, hl with | [_, _, _, _, _, _], _ => rfl) (fun _ _ _ _ _ _ us ws hl => by
    rcases gB_or us ws with ⟨u, w0, w1, w2, w3, w4, rfl, rfl⟩ | e
    · rfl
    · rw [e] at hl
      cases hl) gBKV (fun vs H Q E h => ?_) (fun f cdv => net_body FX_refuse_bad_plan f cdv)
  obtain ⟨n, m, dm, l, c, r, s', x, a1, a2, a3, a4, a5, a6, a7, a8, a9, rfl, _⟩ := h
  rfl
def sp_say0 (C cO : Addr) : Sp := fun vs H _ E => ∃ (x dx : Addr) (pl : V), vs = [.ref x, .str (Str.ofString "")] ∧ H x = some (.ins C dx (fs_Desk .non pl)) ∧ ∀ e H', Same H H' → XAt cO e H' → E (.ref e) none H'
set_option maxHeartbeats 4000000 in
theorem own_say0 (D : DefM K C "say" "Desk.say" s_Desk_say) (hb : Blt mg) (T_Desk : ClsD K mg "Desk" C at_Desk) (g_NET_WORD : ∃ u, mg "NET_WORD" = some u ∧ RelV (.str (Str.ofString "net\n")) u) (g_ANSWERS : ∃ u, mg "ANSWERS" = some u ∧ RelV (.ref pan) u) (hc_NoRow : mg "NoRow" = some (.ref cO)) (E_NoRow : OwnE P w K mg base 1 cO ["self", "at"] (sp_xinit cO "at")) :
    OwnMX P w K mg base 3 C "say" ["self", "row"] (sp_say0 C cO) := by
  refine D.ownE sc_Desk_say (fun _ _ _ _ _ _ us hl => match us, hl with | [_, _], _ => rfl) (fun vs H Q E h => ?_) (fun f cdv A outer s H vs Q E hr h => ?_)
  · obtain ⟨x, dx, pl, rfl, _⟩ := h
    rfl
  · obtain ⟨x, dx, pl, rfl, ex, qe⟩ := h
    have hu := hr.units
    have hu1 : (A.deeper (PyProof.Rows.envOfC "Desk.say" (defScope s_Desk_say) s.heap.objs.size f cdv)).units + 1 < cLine := by omega
    refine ⟨_, (@pss_cons _ _ _ _ _ (@ps_if _ _ _ _ _ _ _ _ (@pt_not _ _ _ _ (@pt_truX _ _ _ (@pe_callB _ _ _ _ _ _ _ _ _ call_isiX rfl (hb _ (by decide)) bt_isinstance (@pa_cX _ _ _ _ _ (@pv _ 1 _ _ (by rfl) (by first | exact Or.inl rfl | exact Or.inr (Or.inl rfl) | exact Or.inr (Or.inr rfl)) (by decide) (by decide)) (@pa_cX _ _ _ _ _ (@pe_bltn _ _ (.ty "str") _ _ rfl (hb _ (by decide)) bt_str rfl (by decide) (by decide)) (@pa_nil _) (by rfl)) (by rfl)) (by decide) (by decide) (by rfl) (by rfl)) (by intro _; rfl))) (@pss_one _ _ _ (@ps_exc _ _ _ _ (@psx_raise _ _ _ _ (@pn_newI _ _ _ _ _ _ _ _ _ _ _ _ E_NoRow hr hc_NoRow (@pa_cX _ _ _ _ _ (@pe_int _ _ _ _) (@pa_nil _) (by rfl)) (by decide) (by rfl) (by decide) (by rfl) (by rfl)) (by rfl)))) (@pss_nil _)) (@pss_cons _ _ _ _ _ (@ps_if _ _ _ _ _ _ _ _ (@pt_truX _ _ _ (@pe_sw _ _ _ _ _ _ _ (@pv _ 1 _ _ (by rfl) (by first | exact Or.inl rfl | exact Or.inr (Or.inl rfl) | exact Or.inr (Or.inr rfl)) (by decide) (by decide)) (@pe_glb _ _ _ _ g_NET_WORD (by rfl) (by decide)) (by constructor <;> rfl)) (by intro _; rfl)) (@pss_one _ _ _ (@ps_never _ _)) (@pss_nil _)) (@pss_cons _ _ _ _ _ (@ps_set _ _ 2 _ _ _ _ sc_Desk_say.nd rfl (by first | exact Or.inl rfl | exact Or.inr rfl) (@pe_splS _ _ _ _ _ _ _ (@pv _ 1 _ _ (by rfl) (by first | exact Or.inl rfl | exact Or.inr (Or.inl rfl) | exact Or.inr (Or.inr rfl)) (by decide) (by decide)) (@pe_str _ _ _ _) (by constructor <;> rfl)) (by rfl) (by first | exact .inl rfl | exact .inr rfl | assumption)) (@pss_cons _ _ _ _ _ (@ps_if _ _ _ _ _ _ _ _ (@PW.pt _ _ _ (@pw_or _ _ _ _ _ _ _ (@pt_cmpR _ _ _ _ _ _ _ _ op_isN (@pe_fldK _ K _ _ _ _ (@pv _ 0 _ _ (by rfl) (by first | exact Or.inl rfl | exact Or.inr (Or.inl rfl) | exact Or.inr (Or.inr rfl)) (by decide) (by decide)) (by rfl) (by rfl)) (@pe_non _ _ _) (nomark _)) (@pw_or1 _ _ _ _ (@pt_cmpR _ _ _ _ _ _ _ _ (op_notinX hu1) (@pe_ix _ _ _ _ _ _ _ (ix_get hu1) (@pv _ 2 _ _ (by rfl) (by first | exact Or.inl rfl | exact Or.inr (Or.inl rfl) | exact Or.inr (Or.inr rfl)) (by decide) (by decide)) (@pe_int _ _ _ _) (fun _ _ => rfl)) (@pe_glb _ _ _ _ g_ANSWERS (by rfl) (by decide)) rfl)))) (@pss_one _ _ _ (@ps_exc _ _ _ _ (@psx_raise _ _ _ _ (@pn_newI _ _ _ _ _ _ _ _ _ _ _ _ E_NoRow hr hc_NoRow (@pa_cX _ _ _ _ _ (@pe_int _ _ _ _) (@pa_nil _) (by rfl)) (by decide) (by rfl) (by decide) (by rfl) (by rfl)) (by rfl)))) (@pss_nil _)) (@pss_cons _ _ _ _ _ (@ps_never _ _) (@pss_cons _ _ _ _ _ (@ps_never _ _) (@pss_cons _ _ _ _ _ (@ps_never _ _) (@pss_cons _ _ _ _ _ (@ps_never _ _) (@pss_one _ _ _ (@ps_never _ _)))))))))), ?_⟩
    simp (maxSteps := 1000000) only [rIsIX, tyX_s, V.ty.injEq, kT_stst, rGet, getO_l, tTruX, truX_b, rNotInX, Nat.reduceSub, upd_same, upd_upd, Nat.reduceAdd, ne_eq, tFld, tNever, V.ty.injEq, Bool.not_true, List.cons.injEq, tSeq, exists_and_left, if_false, if_true, Bool.false_eq_true, tIfS, tOr, tNot, tTest, tOp, tVar, tC, tAsg, gName, tNext, tCons, tNil, tCB, L2.start, List.map_cons, List.map_nil, List.length_cons, List.length_nil, List.replicate, List.cons_append, List.nil_append, List.getElem?_cons_zero, List.getElem?_cons_succ, List.set_cons_zero, List.set_cons_succ, Option.some.injEq, exists_eq_left', V.int.injEq, V.bl.injEq, V.ref.injEq, V.str.injEq, and_true, true_and, and_assoc, tRaise, tNewI, tSE, tSw, tSplS, sp_xinit]
    have w1 : Txt.startswith (Str.ofString "") (Str.ofString "net\n") = false := by decide +kernel
    rw [w1]
    refine iteF ⟨[], by decide +kernel, 32, by decide +kernel, by decide, by decide, fun p hp => ?_⟩
    have s1 : Same H (upd H p (HO.lst (wV (spl 32 (([] : List Nat).length + 1) [])))) := .upd_new hp
    have ex1 := s1 _ _ ex
    generalize upd H p (HO.lst (wV (spl 32 (([] : List Nat).length + 1) []))) = H1 at s1 ex1 ⊢
    simp (maxSteps := 1000000) only [HO.ins.injEq, Nat.reduceAdd, decide_true, exists_and_left, if_true, List.length_nil, Option.some.injEq, exists_eq_left', true_and, and_assoc, ex1, T_Desk.cl, T_Desk.no "net" (by decide), fs_Desk_net]
    exact xi_fall (t := 0) (by decide) s1 qe
end
end K71
namespace K71
open PySem L2
abbrev s__law_falls : Stmt := stm 162
theorem sc__law_falls : FnScope ["_law_way", "_law_good_here", "_law_road", "_law_out"] ["_law_way"] (defScope s__law_falls) := ⟨rfl, rfl, rfl, by decide +kernel, rfl, by decide +kernel, by decide +kernel⟩
section
variable {P : Program} {w : World} {K : PySem.W.Frag} {mg : Str → Option Value} {base : Heap} {CM CR CT CB CN CD CO pd R cM cP cR cF cT cN cA cL cW cO : Addr} {H H' : Hp}
def sp_falls (cs : List Addr) : Sp := fun vs H _ E => ∃ (n : Nat) (c : Addr), vs = [.int (n : Int)] ∧ cs[n]? = some c ∧ ∀ e H', Same H H' → XAt c e H' → E (.ref e) none H'
theorem ok2 : okAll [.int 2, .int 1, .int 1, .int 1, .int 1, .int 1, .int 1, .int 1, .int 1, .int 1] := inI_ok (ns := [2, 1, 1, 1, 1, 1, 1, 1, 1, 1]) (by unfold inI lbs bds; repeat first | exact .nil | refine .cons ⟨by decide, by decide⟩ ?_)
theorem bad0 : ¬ okAll [.int 0, .int 1, .int 1, .int 1, .int 1, .int 1, .int 1, .int 1, .int 1, .int 1] := fun h => by
  have := h 0 _ _ rfl rfl
  revert this
  decide
theorem pl_ints {l : List Int} : ∀ v ∈ l.map V.int, PlV v := fun v hv => by
  obtain ⟨i, _, rfl⟩ := List.mem_map.mp hv
  exact .int i
theorem no_ref {H H' : Hp} {x dx : Addr} {C : Addr} (s1 : Same H H') (hx : H x = none) {H2 : Hp} (k : Keep [x] H' H2) : Same H H2 := fun b o h => k b o (s1 b o h) fun hm => by
  rw [List.mem_singleton] at hm
  rw [hm, hx] at h
  cases h
theorem same_keep {S : List Addr} {H H1 H2 : Hp} (s : Same H H1) (k : Keep S H1 H2) (n : ∀ a ∈ S, H a = none) : Same H H2 := fun b o h => k b o (s b o h) fun hb => by
  have := n b hb
  rw [h] at this
  cases this
theorem mk_same {H : Hp} {x dx C : Addr} (hx : H x = none) (hdx : H dx = none) : Same H (upd (upd H dx (.own x)) x (.ins C dx [])) := ((Same.refl H).upd hdx).upd hx
def LR (H : Hp) (CR : Addr) (n : Nat) (g : Addr) (σ : St) (H' : Hp) : Prop := ∃ x dx l u us, σ = [some (.int (n : Int)), some (.ref g), some (.ref x), none] ∧ H' x = some (.ins CR dx (fs_Road (.ref l) (.int 3) .non (.ref u))) ∧ H' l = some (.lst []) ∧ H' u = some (.lst us) ∧ us.length ≤ 1 ∧ x ≠ u ∧ l ≠ u ∧ Same H H'
def LO (H : Hp) (CR CO : Addr) (n : Nat) (g : Addr) (σ : St) (H' : Hp) : Prop := ∃ x dx l u us y dy k p, σ = [some (.int (n : Int)), some (.ref g), some (.ref x), some (.ref y)] ∧ H' x = some (.ins CR dx (fs_Road (.ref l) (.int 3) .non (.ref u))) ∧ H' l = some (.lst []) ∧ H' u = some (.lst us) ∧ us.length ≤ 1 ∧ x ≠ u ∧ l ≠ u ∧
  H' y = some (.ins CO dy (fs_Out (.int 1) (.int 1) (.ref k))) ∧ H' k = some (.lst [p]) ∧ y ≠ k ∧ Same H H'
abbrev fσ (n : Nat) (g : Addr) : St := [some (.int (n : Int)), some (.ref g), none, none]
abbrev mfs : List (Str × V) := fs_Measures (.int 2) (.int 1) (.int 1) (.int 1) (.int 1) (.int 1) (.int 1) (.int 1) (.int 1) (.int 1)
def LF (H : Hp) (CM : Addr) (n k : Nat) (σ : St) (H' : Hp) : Prop := ∃ g dg, σ = fσ n g ∧ H' g = some (.ins CM dg mfs) ∧ Same H H' ∧ k ≤ n
set_option maxHeartbeats 8000000 in
theorem own_falls (D : Def K mg "_law_falls" s__law_falls) (hb : Blt mg)
    (T_Measures : ClsD K mg "Measures" CM at_Measures) (T_Road : ClsD K mg "Road" CR at_Road) (T_Teller : ClsD K mg "Teller" CT at_Teller) (T_Book : ClsD K mg "Book" CB at_Book) (T_Net : ClsD K mg "Net" CN at_Net) (T_Desk : ClsD K mg "Desk" CD at_Desk) (T_Out : ClsD K mg "Out" CO at_Out)
    (IX_Measures : OwnIX P w K mg base 4 CM ["self", "hands", "lag", "miss", "raise_each", "count", "room", "places", "window", "wait", "keep"] (sp_minitE CM cM))
    (IX_Road : OwnIX P w K mg base 5 CR ["self", "deeds", "lag"] (sp_rinitE CR cR)) (I_Teller : OwnI P w K mg base 1 CT ["self", "window", "wait"] (sp_tinit CT)) (I_Book : OwnI P w K mg base 1 CB ["self"] (sp_binit CB)) (I_Desk : OwnI P w K mg base 1 CD ["self"] (sp_dinit CD)) (I_Out : OwnI P w K mg base 1 CO ["self", "room"] (sp_oinit CO))
    (MX_Teller_put : OwnMX P w K mg base 4 CT "put" ["self", "thing"] (sp_tput1 CT cT cN)) (MX_Book_bind : OwnMX P w K mg base 3 CB "bind" ["self", "name", "hand", "turn"] (sp_bind0 CB cA))
    (IXA_Net : OwnIXK P w K mg base 7 CN ["self", "measures", "lines", "changes", "roads", "wishes"] ["wishes", "roads", "changes", "lines", "measures"] gA gAV (sp_netE CM cL cW))
    (IXB_Net : OwnIXK P w K mg base 7 CN ["self", "measures", "lines", "changes", "roads", "wishes"] ["roads", "lines", "measures", "wishes", "changes"] gB gBV (sp_netE CM cL cW))
    (MX_Desk_say : OwnMX P w K mg base 3 CD "say" ["self", "row"] (sp_say0 CD cO)) (MX_Road_send : OwnMX P w K mg base 3 CR "send" ["self", "turn", "letter"] (sp_send CR cP)) (MX_Out_put : OwnMX P w K mg base 2 CO "put" ["self", "parcel"] (sp_oput CO cF)) :
    OwnX P w K mg base 9 "_law_falls" ["_law_way"] (sp_falls [cR, cT, cN, cA, cL, cW, cO, cM, cP, cF]) := by
  refine D.ownE sc__law_falls (fun _ _ _ _ _ _ us hl => match us, hl with | [_], _ => rfl) (fun vs H Q E h => ?_) (fun f cdv A outer s H vs Q E hr h => ?_)
  · obtain ⟨n, c, rfl, _⟩ := h
    rfl
  · obtain ⟨n, c, rfl, hc, qe⟩ := h
    have hu := hr.units
    have hu1 : (A.deeper (PyProof.Rows.envOfC "_law_falls" (defScope s__law_falls) s.heap.objs.size f cdv)).units + 1 < cLine := by omega
    refine ⟨_, (@pss_cons _ _ _ _ _ (@ps_set _ _ 1 _ _ _ _ sc__law_falls.nd rfl (by first | exact Or.inl rfl | exact Or.inr rfl) (@pe_exc _ _ _ _ (@pex_mak _ _ _ _ _ _ _ _ _ _ _ _ IX_Measures hr T_Measures.mgC (@pa_cX _ _ _ _ _ (@pe_int _ _ _ _) (@pa_cX _ _ _ _ _ (@pe_int _ _ _ _) (@pa_cX _ _ _ _ _ (@pe_int _ _ _ _) (@pa_cX _ _ _ _ _ (@pe_int _ _ _ _) (@pa_cX _ _ _ _ _ (@pe_int _ _ _ _) (@pa_cX _ _ _ _ _ (@pe_int _ _ _ _) (@pa_cX _ _ _ _ _ (@pe_int _ _ _ _) (@pa_cX _ _ _ _ _ (@pe_int _ _ _ _) (@pa_cX _ _ _ _ _ (@pe_int _ _ _ _) (@pa_cX _ _ _ _ _ (@pe_int _ _ _ _) (@pa_nil _) (by rfl)) (by rfl)) (by rfl)) (by rfl)) (by rfl)) (by rfl)) (by rfl)) (by rfl)) (by rfl)) (by rfl)) (by decide) (by rfl) (by decide) (by rfl) (by rfl))) (by rfl) (by first | exact .inl rfl | exact .inr rfl | assumption)) (@pss_cons _ _ _ _ _ (@ps_if _ _ _ _ _ _ _ _ (@pt_cmpR _ _ _ _ _ _ _ _ op_eq (@pv _ 0 _ _ (by rfl) (by first | exact Or.inl rfl | exact Or.inr (Or.inl rfl) | exact Or.inr (Or.inr rfl)) (by decide) (by decide)) (@pe_int _ _ _ _) (nomark _)) (@pss_one _ _ _ (@ps_expr _ _ _ _ (@pe_exc _ _ _ _ (@pex_mak _ _ _ _ _ _ _ _ _ _ _ _ IX_Road hr T_Road.mgC (@pa_cX _ _ _ _ _ (@pe_lst _ _ _ _ (@pa_nil _)) (@pa_cX _ _ _ _ _ (@pe_int _ _ _ _) (@pa_nil _) (by rfl)) (by rfl)) (by decide) (by rfl) (by decide) (by rfl) (by rfl))) (by rfl))) (@pss_nil _)) (@pss_cons _ _ _ _ _ (@ps_if _ _ _ _ _ _ _ _ (@pt_cmpR _ _ _ _ _ _ _ _ op_eq (@pv _ 0 _ _ (by rfl) (by first | exact Or.inl rfl | exact Or.inr (Or.inl rfl) | exact Or.inr (Or.inr rfl)) (by decide) (by decide)) (@pe_int _ _ _ _) (nomark _)) (@pss_one _ _ _ (@ps_expr _ _ _ _ (@pe_exc _ _ _ _ (@pex_mth _ _ _ _ _ _ _ _ _ _ _ _ _ _ _ MX_Teller_put T_Teller.cl hr (@pe_mak _ _ _ _ _ _ _ _ _ _ _ _ I_Teller hr T_Teller.mgC (@pa_cX _ _ _ _ _ (@pe_int _ _ _ _) (@pa_cX _ _ _ _ _ (@pe_int _ _ _ _) (@pa_nil _) (by rfl)) (by rfl)) (by decide) (by rfl) (by decide) (by rfl) (by rfl)) (@pa_cX _ _ _ _ _ (@pe_tup _ _ _ _ _ (@pa_cX _ _ _ _ _ (@pe_str _ _ _ _) (@pa_nil _) (by rfl))) (@pa_nil _) (by rfl)) (by decide) (by rfl) (by rfl) (by rfl))) (by rfl))) (@pss_nil _)) (@pss_cons _ _ _ _ _ (@ps_if _ _ _ _ _ _ _ _ (@pt_cmpR _ _ _ _ _ _ _ _ op_eq (@pv _ 0 _ _ (by rfl) (by first | exact Or.inl rfl | exact Or.inr (Or.inl rfl) | exact Or.inr (Or.inr rfl)) (by decide) (by decide)) (@pe_int _ _ _ _) (nomark _)) (@pss_one _ _ _ (@ps_expr _ _ _ _ (@pe_exc _ _ _ _ (@pex_mth _ _ _ _ _ _ _ _ _ _ _ _ _ _ _ MX_Teller_put T_Teller.cl hr (@pe_mak _ _ _ _ _ _ _ _ _ _ _ _ I_Teller hr T_Teller.mgC (@pa_cX _ _ _ _ _ (@pe_int _ _ _ _) (@pa_cX _ _ _ _ _ (@pe_int _ _ _ _) (@pa_nil _) (by rfl)) (by rfl)) (by decide) (by rfl) (by decide) (by rfl) (by rfl)) (@pa_cX _ _ _ _ _ (@pe_tup _ _ _ _ _ (@pa_cX _ _ _ _ _ (@pe_str _ _ _ _) (@pa_nil _) (by rfl))) (@pa_nil _) (by rfl)) (by decide) (by rfl) (by rfl) (by rfl))) (by rfl))) (@pss_nil _)) (@pss_cons _ _ _ _ _ (@ps_if _ _ _ _ _ _ _ _ (@pt_cmpR _ _ _ _ _ _ _ _ op_eq (@pv _ 0 _ _ (by rfl) (by first | exact Or.inl rfl | exact Or.inr (Or.inl rfl) | exact Or.inr (Or.inr rfl)) (by decide) (by decide)) (@pe_int _ _ _ _) (nomark _)) (@pss_one _ _ _ (@ps_expr _ _ _ _ (@pe_exc _ _ _ _ (@pex_mth _ _ _ _ _ _ _ _ _ _ _ _ _ _ _ MX_Book_bind T_Book.cl hr (@pe_mak0 _ _ _ _ _ _ _ _ _ I_Book hr T_Book.mgC (by decide) (by rfl) (by decide)) (@pa_cX _ _ _ _ _ (@pe_str _ _ _ _) (@pa_cX _ _ _ _ _ (@pe_int _ _ _ _) (@pa_cX _ _ _ _ _ (@pe_int _ _ _ _) (@pa_nil _) (by rfl)) (by rfl)) (by rfl)) (by decide) (by rfl) (by rfl) (by rfl))) (by rfl))) (@pss_nil _)) (@pss_cons _ _ _ _ _ (@ps_if _ _ _ _ _ _ _ _ (@pt_cmpR _ _ _ _ _ _ _ _ op_eq (@pv _ 0 _ _ (by rfl) (by first | exact Or.inl rfl | exact Or.inr (Or.inl rfl) | exact Or.inr (Or.inr rfl)) (by decide) (by decide)) (@pe_int _ _ _ _) (nomark _)) (@pss_one _ _ _ (@ps_expr _ _ _ _ (@pe_exc _ _ _ _ (@pex_makK _ _ _ _ _ _ _ _ _ _ _ _ _ _ IXA_Net hr T_Net.mgC (@pk_cons _ _ _ _ _ _ _ (@pe_lst _ _ _ _ (@pa_nil _)) (@pk_cons _ _ _ _ _ _ _ (@pe_lst _ _ _ _ (@pa_nil _)) (@pk_cons _ _ _ _ _ _ _ (@pe_lst _ _ _ _ (@pa_nil _)) (@pk_cons _ _ _ _ _ _ _ (@pe_lst _ _ _ _ (@pa_cX _ _ _ _ _ (@pe_tup _ _ _ _ _ (@pa_cX _ _ _ _ _ (@pe_int _ _ _ _) (@pa_cX _ _ _ _ _ (@pe_int _ _ _ _) (@pa_cX _ _ _ _ _ (@pe_int _ _ _ _) (@pa_nil _) (by rfl)) (by rfl)) (by rfl))) (@pa_nil _) (by rfl))) (@pk_cons _ _ _ _ _ _ _ (@pv _ 1 _ _ (by rfl) (by first | exact Or.inl rfl | exact Or.inr (Or.inl rfl) | exact Or.inr (Or.inr rfl)) (by decide) (by decide)) (@pk_nil _)))))) (by decide) (by rfl) (by decide) (by rfl) (by rfl) (by rfl))) (by rfl))) (@pss_nil _)) (@pss_cons _ _ _ _ _ (@ps_if _ _ _ _ _ _ _ _ (@pt_cmpR _ _ _ _ _ _ _ _ op_eq (@pv _ 0 _ _ (by rfl) (by first | exact Or.inl rfl | exact Or.inr (Or.inl rfl) | exact Or.inr (Or.inr rfl)) (by decide) (by decide)) (@pe_int _ _ _ _) (nomark _)) (@pss_one _ _ _ (@ps_expr _ _ _ _ (@pe_exc _ _ _ _ (@pex_makK _ _ _ _ _ _ _ _ _ _ _ _ _ _ IXB_Net hr T_Net.mgC (@pk_cons _ _ _ _ _ _ _ (@pe_lst _ _ _ _ (@pa_nil _)) (@pk_cons _ _ _ _ _ _ _ (@pe_lst _ _ _ _ (@pa_nil _)) (@pk_cons _ _ _ _ _ _ _ (@pv _ 1 _ _ (by rfl) (by first | exact Or.inl rfl | exact Or.inr (Or.inl rfl) | exact Or.inr (Or.inr rfl)) (by decide) (by decide)) (@pk_cons _ _ _ _ _ _ _ (@pe_lst _ _ _ _ (@pa_cX _ _ _ _ _ (@pe_tup _ _ _ _ _ (@pa_cX _ _ _ _ _ (@pe_int _ _ _ _) (@pa_cX _ _ _ _ _ (@pe_int _ _ _ _) (@pa_cX _ _ _ _ _ (@pe_str _ _ _ _) (@pa_cX _ _ _ _ _ (@pe_int _ _ _ _) (@pa_nil _) (by rfl)) (by rfl)) (by rfl)) (by rfl))) (@pa_nil _) (by rfl))) (@pk_cons _ _ _ _ _ _ _ (@pe_lst _ _ _ _ (@pa_nil _)) (@pk_nil _)))))) (by decide) (by rfl) (by decide) (by rfl) (by rfl) (by rfl))) (by rfl))) (@pss_nil _)) (@pss_cons _ _ _ _ _ (@ps_if _ _ _ _ _ _ _ _ (@pt_cmpR _ _ _ _ _ _ _ _ op_eq (@pv _ 0 _ _ (by rfl) (by first | exact Or.inl rfl | exact Or.inr (Or.inl rfl) | exact Or.inr (Or.inr rfl)) (by decide) (by decide)) (@pe_int _ _ _ _) (nomark _)) (@pss_one _ _ _ (@ps_expr _ _ _ _ (@pe_exc _ _ _ _ (@pex_mth _ _ _ _ _ _ _ _ _ _ _ _ _ _ _ MX_Desk_say T_Desk.cl hr (@pe_mak0 _ _ _ _ _ _ _ _ _ I_Desk hr T_Desk.mgC (by decide) (by rfl) (by decide)) (@pa_cX _ _ _ _ _ (@pe_str _ _ _ _) (@pa_nil _) (by rfl)) (by decide) (by rfl) (by rfl) (by rfl))) (by rfl))) (@pss_nil _)) (@pss_cons _ _ _ _ _ (@ps_if _ _ _ _ _ _ _ _ (@pt_cmpR _ _ _ _ _ _ _ _ op_eq (@pv _ 0 _ _ (by rfl) (by first | exact Or.inl rfl | exact Or.inr (Or.inl rfl) | exact Or.inr (Or.inr rfl)) (by decide) (by decide)) (@pe_int _ _ _ _) (nomark _)) (@pss_one _ _ _ (@ps_expr _ _ _ _ (@pe_exc _ _ _ _ (@pex_mak _ _ _ _ _ _ _ _ _ _ _ _ IX_Measures hr T_Measures.mgC (@pa_cX _ _ _ _ _ (@pe_int _ _ _ _) (@pa_cX _ _ _ _ _ (@pe_int _ _ _ _) (@pa_cX _ _ _ _ _ (@pe_int _ _ _ _) (@pa_cX _ _ _ _ _ (@pe_int _ _ _ _) (@pa_cX _ _ _ _ _ (@pe_int _ _ _ _) (@pa_cX _ _ _ _ _ (@pe_int _ _ _ _) (@pa_cX _ _ _ _ _ (@pe_int _ _ _ _) (@pa_cX _ _ _ _ _ (@pe_int _ _ _ _) (@pa_cX _ _ _ _ _ (@pe_int _ _ _ _) (@pa_cX _ _ _ _ _ (@pe_int _ _ _ _) (@pa_nil _) (by rfl)) (by rfl)) (by rfl)) (by rfl)) (by rfl)) (by rfl)) (by rfl)) (by rfl)) (by rfl)) (by rfl)) (by decide) (by rfl) (by decide) (by rfl) (by rfl))) (by rfl))) (@pss_nil _)) (@pss_cons _ _ _ _ _ (@ps_set _ _ 2 _ _ _ _ sc__law_falls.nd rfl (by first | exact Or.inl rfl | exact Or.inr rfl) (@pe_exc _ _ _ _ (@pex_mak _ _ _ _ _ _ _ _ _ _ _ _ IX_Road hr T_Road.mgC (@pa_cX _ _ _ _ _ (@pe_lst _ _ _ _ (@pa_nil _)) (@pa_cX _ _ _ _ _ (@pe_int _ _ _ _) (@pa_nil _) (by rfl)) (by rfl)) (by decide) (by rfl) (by decide) (by rfl) (by rfl))) (by rfl) (by first | exact .inl rfl | exact .inr rfl | assumption)) (@pss_cons _ _ _ _ _ (@ps_expr _ _ _ _ (@pe_exc _ _ _ _ (@pex_mth _ _ _ _ _ _ _ _ _ _ _ _ _ _ _ MX_Road_send T_Road.cl hr (@pv _ 2 _ _ (by rfl) (by first | exact Or.inl rfl | exact Or.inr (Or.inl rfl) | exact Or.inr (Or.inr rfl)) (by decide) (by decide)) (@pa_cX _ _ _ _ _ (@pe_int _ _ _ _) (@pa_cX _ _ _ _ _ (@pe_str _ _ _ _) (@pa_nil _) (by rfl)) (by rfl)) (by decide) (by rfl) (by rfl) (by rfl))) (by rfl)) (@pss_cons _ _ _ _ _ (@ps_set _ _ 3 _ _ _ _ sc__law_falls.nd rfl (by first | exact Or.inl rfl | exact Or.inr rfl) (@pe_mak _ _ _ _ _ _ _ _ _ _ _ _ I_Out hr T_Out.mgC (@pa_cX _ _ _ _ _ (@pe_int _ _ _ _) (@pa_nil _) (by rfl)) (by decide) (by rfl) (by decide) (by rfl) (by rfl)) (by rfl) (by first | exact .inl rfl | exact .inr rfl | assumption)) (@pss_cons _ _ _ _ _ (@ps_expr _ _ _ _ (@pe_exc _ _ _ _ (@pex_mth _ _ _ _ _ _ _ _ _ _ _ _ _ _ _ MX_Out_put T_Out.cl hr (@pv _ 3 _ _ (by rfl) (by first | exact Or.inl rfl | exact Or.inr (Or.inl rfl) | exact Or.inr (Or.inr rfl)) (by decide) (by decide)) (@pa_cX _ _ _ _ _ (@pe_str _ _ _ _) (@pa_nil _) (by rfl)) (by decide) (by rfl) (by rfl) (by rfl))) (by rfl)) (@pss_cons _ _ _ _ _ (@ps_if _ _ _ _ _ _ _ _ (@pt_cmpR _ _ _ _ _ _ _ _ op_eq (@pv _ 0 _ _ (by rfl) (by first | exact Or.inl rfl | exact Or.inr (Or.inl rfl) | exact Or.inr (Or.inr rfl)) (by decide) (by decide)) (@pe_int _ _ _ _) (nomark _)) (@pss_one _ _ _ (@ps_expr _ _ _ _ (@pe_exc _ _ _ _ (@pex_mth _ _ _ _ _ _ _ _ _ _ _ _ _ _ _ MX_Road_send T_Road.cl hr (@pv _ 2 _ _ (by rfl) (by first | exact Or.inl rfl | exact Or.inr (Or.inl rfl) | exact Or.inr (Or.inr rfl)) (by decide) (by decide)) (@pa_cX _ _ _ _ _ (@pe_int _ _ _ _) (@pa_cX _ _ _ _ _ (@pe_str _ _ _ _) (@pa_nil _) (by rfl)) (by rfl)) (by decide) (by rfl) (by rfl) (by rfl))) (by rfl))) (@pss_nil _)) (@pss_one _ _ _ (@ps_expr _ _ _ _ (@pe_exc _ _ _ _ (@pex_mth _ _ _ _ _ _ _ _ _ _ _ _ _ _ _ MX_Out_put T_Out.cl hr (@pv _ 3 _ _ (by rfl) (by first | exact Or.inl rfl | exact Or.inr (Or.inl rfl) | exact Or.inr (Or.inr rfl)) (by decide) (by decide)) (@pa_cX _ _ _ _ _ (@pe_str _ _ _ _) (@pa_nil _) (by rfl)) (by decide) (by rfl) (by rfl) (by rfl))) (by rfl))))))))))))))))), ?_⟩
    refine use1 (LF H CM n 0) ?_ (fun X hX => ?_)
    rotate_left
    · simp (maxSteps := 1000000) only [Nat.reduceSub, Nat.reduceAdd, ne_eq, tSeq, tC, tAsg, gName, tCons, tNil, L2.start, List.map_cons, List.map_nil, List.length_cons, List.length_nil, List.replicate, List.cons_append, List.nil_append, List.set_cons_zero, List.set_cons_succ, tMakex, tXE]
      intro x dx hx hdx hne
      have s1 : Same H (upd (upd H dx (HO.own x)) x (HO.ins CM dx [])) := ((Same.refl H).upd hdx).upd hx
      exact ⟨x, dx, ⟨.int 2, .int 1, .int 1, .int 1, .int 1, .int 1, .int 1, .int 1, .int 1, .int 1⟩, rfl, upd_same, pl_ints (l := [2, 1, 1, 1, 1, 1, 1, 1, 1, 1]), fun _ H' e' k' => ⟨rfl, hX _ _ ⟨x, dx, rfl, e', no_ref (x := x) (dx := dx) (C := CM) s1 hx k', Nat.zero_le _⟩⟩, fun h => absurd ok2 h⟩
    rintro σ H1 ⟨g, dg, rfl, eg, s1, hn⟩
    refine use1 (LF H CM n 1) ?_ (fun X hX => ?_)
    rotate_left
    · by_cases hk : n = 0
      · subst hk
        obtain rfl := Option.some.inj hc
        simp (maxSteps := 1000000) only [ne_eq, rEq_ii, tSeq, tIfS, tTest, tOp, tVar, tC, tNext, tCons, tNil, tDrop, tLst, List.length_nil, List.getElem?_cons_zero, Option.some.injEq, exists_eq_left', V.bl.injEq, tMakex, tXE]
        rw [if_pos (by decide)]
        refine ⟨Nat.zero_le _, fun p hp x dx hx hdx hne => ?_⟩
        have sa : Same H1 (upd H1 p (HO.lst [])) := .upd_new hp
        have sb := mk_same (C := CR) hx hdx
        exact ⟨x, dx, p, 0, rfl, upd_same, sb _ _ upd_same, by decide, fun h => absurd h (by decide), fun _ e H2 s3 he => qe e H2 (s1.trans (sa.trans (sb.trans s3))) ⟨none, he, XD.none⟩⟩
      · have hk1 : decide ((n : Int) = 0) = false := decide_eq_false (by omega)
        simp (maxSteps := 1000000) only [ne_eq, rEq_ii, tSeq, if_false, Bool.false_eq_true, tIfS, tTest, tOp, tVar, tC, tNext, tCons, tNil, tDrop, tLst, List.length_nil, List.getElem?_cons_zero, Option.some.injEq, exists_eq_left', V.bl.injEq, hk1, tMakex, tXE]
        exact hX _ _ ⟨g, dg, rfl, eg, s1, by omega⟩
    clear hn s1 eg
    rintro σ H1 ⟨g, dg, rfl, eg, s1, hn⟩
    refine use1 (LF H CM n 2) ?_ (fun X hX => ?_)
    rotate_left
    · by_cases hk : n = 1
      · subst hk
        obtain rfl := Option.some.inj hc
        simp (maxSteps := 1000000) only [Nat.reduceAdd, ne_eq, tMake, rEq_ii, tSeq, exists_and_left, tIfS, tTest, tOp, tVar, tC, tNext, tCons, tNil, tDrop, tTup, List.length_cons, List.length_nil, List.getElem?_cons_zero, Option.some.injEq, exists_eq_left', V.bl.injEq, V.ref.injEq, List.append_nil, tMethx, tXE]
        rw [if_pos (by decide)]
        intro x dx hx hdx hne
        have sb := mk_same (C := CT) hx hdx
        refine ⟨x, dx, 1, 1, rfl, upd_same, fun l g' H2 e2 k2 => ⟨rfl, dx, _, e2, fn_Teller_put, by rw [sizeLine_eq]; decide, fun p hp => ?_⟩⟩
        have s2 := s1.trans (no_ref (dx := dx) (C := CT) sb hx k2)
        have sp : Same H2 (upd H2 p (HO.tup [V.str (Str.ofString "none")])) := .upd_new hp
        exact ⟨x, dx, p, _, _, _, _, l, g', "none", rfl, sp _ _ e2, upd_same, .inl rfl, fun e H3 s3 he => qe e H3 (s2.trans (sp.trans s3)) he⟩
      · have hk1 : decide ((n : Int) = 1) = false := decide_eq_false (by omega)
        simp (maxSteps := 1000000) only [Nat.reduceAdd, ne_eq, tMake, rEq_ii, tSeq, exists_and_left, if_false, Bool.false_eq_true, tIfS, tTest, tOp, tVar, tC, tNext, tCons, tNil, tDrop, tTup, List.length_cons, List.length_nil, List.getElem?_cons_zero, Option.some.injEq, exists_eq_left', V.bl.injEq, V.ref.injEq, List.append_nil, hk1, tMethx, tXE]
        exact hX _ _ ⟨g, dg, rfl, eg, s1, by omega⟩
    clear hn s1 eg
    rintro σ H1 ⟨g, dg, rfl, eg, s1, hn⟩
    refine use1 (LF H CM n 3) ?_ (fun X hX => ?_)
    rotate_left
    · by_cases hk : n = 2
      · subst hk
        obtain rfl := Option.some.inj hc
        simp (maxSteps := 1000000) only [Nat.reduceAdd, ne_eq, tMake, rEq_ii, tSeq, exists_and_left, tIfS, tTest, tOp, tVar, tC, tNext, tCons, tNil, tDrop, tTup, List.length_cons, List.length_nil, List.getElem?_cons_zero, Option.some.injEq, exists_eq_left', V.bl.injEq, V.ref.injEq, List.append_nil, tMethx, tXE]
        rw [if_pos (by decide)]
        intro x dx hx hdx hne
        have sb := mk_same (C := CT) hx hdx
        refine ⟨x, dx, 1, 1, rfl, upd_same, fun l g' H2 e2 k2 => ⟨rfl, dx, _, e2, fn_Teller_put, by rw [sizeLine_eq]; decide, fun p hp => ?_⟩⟩
        have s2 := s1.trans (no_ref (dx := dx) (C := CT) sb hx k2)
        have sp : Same H2 (upd H2 p (HO.tup [V.str (Str.ofString "end")])) := .upd_new hp
        exact ⟨x, dx, p, _, _, _, _, l, g', "end", rfl, sp _ _ e2, upd_same, .inr rfl, fun e H3 s3 he => qe e H3 (s2.trans (sp.trans s3)) he⟩
      · have hk1 : decide ((n : Int) = 2) = false := decide_eq_false (by omega)
        simp (maxSteps := 1000000) only [Nat.reduceAdd, ne_eq, tMake, rEq_ii, tSeq, exists_and_left, if_false, Bool.false_eq_true, tIfS, tTest, tOp, tVar, tC, tNext, tCons, tNil, tDrop, tTup, List.length_cons, List.length_nil, List.getElem?_cons_zero, Option.some.injEq, exists_eq_left', V.bl.injEq, V.ref.injEq, List.append_nil, hk1, tMethx, tXE]
        exact hX _ _ ⟨g, dg, rfl, eg, s1, by omega⟩
    clear hn s1 eg
    rintro σ H1 ⟨g, dg, rfl, eg, s1, hn⟩
    refine use1 (LF H CM n 4) ?_ (fun X hX => ?_)
    rotate_left
    · by_cases hk : n = 3
      · subst hk
        obtain rfl := Option.some.inj hc
        simp (maxSteps := 1000000) only [ne_eq, tMake, rEq_ii, tSeq, exists_and_left, tIfS, tTest, tOp, tVar, tC, tNext, tCons, tNil, tDrop, List.getElem?_cons_zero, Option.some.injEq, exists_eq_left', V.bl.injEq, V.ref.injEq, List.append_nil, tMethx, tXE]
        rw [if_pos (by decide)]
        intro x dx hx hdx hne
        have sb := mk_same (C := CB) hx hdx
        refine ⟨x, dx, rfl, upd_same, fun d H2 e2 k2 => ⟨rfl, dx, _, e2, fn_Book_bind, ?_⟩⟩
        have s2 := s1.trans (no_ref (dx := dx) (C := CB) sb hx k2)
        exact ⟨x, dx, _, rfl, e2, fun e H3 s3 he => qe e H3 (s2.trans s3) ⟨none, he, XD.none⟩⟩
      · have hk1 : decide ((n : Int) = 3) = false := decide_eq_false (by omega)
        simp (maxSteps := 1000000) only [ne_eq, tMake, rEq_ii, tSeq, exists_and_left, if_false, Bool.false_eq_true, tIfS, tTest, tOp, tVar, tC, tNext, tCons, tNil, tDrop, List.getElem?_cons_zero, Option.some.injEq, exists_eq_left', V.bl.injEq, V.ref.injEq, List.append_nil, hk1, tMethx, tXE]
        exact hX _ _ ⟨g, dg, rfl, eg, s1, by omega⟩
    clear hn s1 eg
    rintro σ H1 ⟨g, dg, rfl, eg, s1, hn⟩
    refine use1 (LF H CM n 5) ?_ (fun X hX => ?_)
    rotate_left
    · by_cases hk : n = 4
      · subst hk
        obtain rfl := Option.some.inj hc
        simp (maxSteps := 1000000) only [Nat.reduceAdd, ne_eq, rEq_ii, tSeq, tIfS, tTest, tOp, tVar, tC, tNext, tCons, tNil, tDrop, tLst, tTup, List.length_cons, List.length_nil, List.getElem?_cons_zero, List.getElem?_cons_succ, Option.some.injEq, exists_eq_left', V.bl.injEq, tXE, tMakexK]
        rw [if_pos (by decide)]
        refine ⟨Nat.zero_le _, ?_⟩
        intro p2 n2
        generalize z2 : upd H1 p2 _ = H2
        obtain ⟨s2, e2⟩ := new_same z2 n2
        refine ⟨Nat.zero_le _, ?_⟩
        intro p3 n3
        generalize z3 : upd H2 p3 _ = H3
        obtain ⟨s3, e3⟩ := new_same z3 n3
        refine ⟨Nat.zero_le _, ?_⟩
        intro p4 n4
        generalize z4 : upd H3 p4 _ = H4
        obtain ⟨s4, e4⟩ := new_same z4 n4
        refine ⟨by rw [sizeLine_eq]; decide, ?_⟩
        intro p5 n5
        generalize z5 : upd H4 p5 _ = H5
        obtain ⟨s5, e5⟩ := new_same z5 n5
        refine ⟨by rw [sizeLine_eq]; decide, ?_⟩
        intro p6 n6
        generalize z6 : upd H5 p6 _ = H6
        obtain ⟨s6, e6⟩ := new_same z6 n6
        intro x dx hx hdx hne
        have f6 := mk_same (C := CN) hx hdx
        have f5 := s6.trans f6
        have f4 := s5.trans f5
        have f3 := s4.trans f4
        have f2 := s3.trans f3
        have f1 := s2.trans f2
        exact ⟨x, g, dg, p6, p4, p3, p2, cL, _, _, _, _, _, _, _, _, _, rfl, f1 _ _ eg, .inl ⟨p5, f6 _ _ e6, f5 _ _ e5, rfl⟩, fun e H' s' he => qe e H' (s1.trans (f1.trans s')) he⟩
      · have hk1 : decide ((n : Int) = 4) = false := decide_eq_false (by omega)
        simp (maxSteps := 1000000) only [Nat.reduceAdd, ne_eq, rEq_ii, tSeq, if_false, Bool.false_eq_true, tIfS, tTest, tOp, tVar, tC, tNext, tCons, tNil, tDrop, tLst, tTup, List.length_cons, List.length_nil, List.getElem?_cons_zero, List.getElem?_cons_succ, Option.some.injEq, exists_eq_left', V.bl.injEq, hk1, tXE, tMakexK]
        exact hX _ _ ⟨g, dg, rfl, eg, s1, by omega⟩
    clear hn s1 eg
    rintro σ H1 ⟨g, dg, rfl, eg, s1, hn⟩
    refine use1 (LF H CM n 6) ?_ (fun X hX => ?_)
    rotate_left
    · by_cases hk : n = 5
      · subst hk
        obtain rfl := Option.some.inj hc
        simp (maxSteps := 1000000) only [Nat.reduceAdd, ne_eq, rEq_ii, tSeq, tIfS, tTest, tOp, tVar, tC, tNext, tCons, tNil, tDrop, tLst, tTup, List.length_cons, List.length_nil, List.getElem?_cons_zero, List.getElem?_cons_succ, Option.some.injEq, exists_eq_left', V.bl.injEq, tXE, tMakexK]
        rw [if_pos (by decide)]
        refine ⟨Nat.zero_le _, ?_⟩
        intro p2 n2
        generalize z2 : upd H1 p2 _ = H2
        obtain ⟨s2, e2⟩ := new_same z2 n2
        refine ⟨Nat.zero_le _, ?_⟩
        intro p3 n3
        generalize z3 : upd H2 p3 _ = H3
        obtain ⟨s3, e3⟩ := new_same z3 n3
        refine ⟨by rw [sizeLine_eq]; decide, ?_⟩
        intro p4 n4
        generalize z4 : upd H3 p4 _ = H4
        obtain ⟨s4, e4⟩ := new_same z4 n4
        refine ⟨by rw [sizeLine_eq]; decide, ?_⟩
        intro p5 n5
        generalize z5 : upd H4 p5 _ = H5
        obtain ⟨s5, e5⟩ := new_same z5 n5
        refine ⟨Nat.zero_le _, ?_⟩
        intro p6 n6
        generalize z6 : upd H5 p6 _ = H6
        obtain ⟨s6, e6⟩ := new_same z6 n6
        intro x dx hx hdx hne
        have f6 := mk_same (C := CN) hx hdx
        have f5 := s6.trans f6
        have f4 := s5.trans f5
        have f3 := s4.trans f4
        have f2 := s3.trans f3
        have f1 := s2.trans f2
        exact ⟨x, g, dg, p3, p6, p2, p5, cW, _, _, _, _, _, _, _, _, _, rfl, f1 _ _ eg, .inr ⟨p4, f3 _ _ e3, f6 _ _ e6, f2 _ _ e2, f5 _ _ e5, f4 _ _ e4, rfl⟩, fun e H' s' he => qe e H' (s1.trans (f1.trans s')) he⟩
      · have hk1 : decide ((n : Int) = 5) = false := decide_eq_false (by omega)
        simp (maxSteps := 1000000) only [Nat.reduceAdd, ne_eq, rEq_ii, tSeq, if_false, Bool.false_eq_true, tIfS, tTest, tOp, tVar, tC, tNext, tCons, tNil, tDrop, tLst, tTup, List.length_cons, List.length_nil, List.getElem?_cons_zero, List.getElem?_cons_succ, Option.some.injEq, exists_eq_left', V.bl.injEq, hk1, tXE, tMakexK]
        exact hX _ _ ⟨g, dg, rfl, eg, s1, by omega⟩
    clear hn s1 eg
    rintro σ H1 ⟨g, dg, rfl, eg, s1, hn⟩
    refine use1 (LF H CM n 7) ?_ (fun X hX => ?_)
    rotate_left
    · by_cases hk : n = 6
      · subst hk
        obtain rfl := Option.some.inj hc
        simp (maxSteps := 1000000) only [ne_eq, tMake, rEq_ii, tSeq, exists_and_left, tIfS, tTest, tOp, tVar, tC, tNext, tCons, tNil, tDrop, List.getElem?_cons_zero, Option.some.injEq, exists_eq_left', V.bl.injEq, V.ref.injEq, List.append_nil, tMethx, tXE]
        rw [if_pos (by decide)]
        intro x dx hx hdx hne
        have sb := mk_same (C := CD) hx hdx
        refine ⟨x, dx, rfl, upd_same, fun H2 e2 k2 => ⟨rfl, dx, _, e2, fn_Desk_say, ?_⟩⟩
        have s2 := s1.trans (no_ref (dx := dx) (C := CD) sb hx k2)
        exact ⟨x, dx, _, rfl, e2, fun e H3 s3 he => qe e H3 (s2.trans s3) he⟩
      · have hk1 : decide ((n : Int) = 6) = false := decide_eq_false (by omega)
        simp (maxSteps := 1000000) only [ne_eq, tMake, rEq_ii, tSeq, exists_and_left, if_false, Bool.false_eq_true, tIfS, tTest, tOp, tVar, tC, tNext, tCons, tNil, tDrop, List.getElem?_cons_zero, Option.some.injEq, exists_eq_left', V.bl.injEq, V.ref.injEq, List.append_nil, hk1, tMethx, tXE]
        exact hX _ _ ⟨g, dg, rfl, eg, s1, by omega⟩
    clear hn s1 eg
    rintro σ H1 ⟨g, dg, rfl, eg, s1, hn⟩
    refine use1 (LF H CM n 8) ?_ (fun X hX => ?_)
    rotate_left
    · by_cases hk : n = 7
      · subst hk
        obtain rfl := Option.some.inj hc
        simp (maxSteps := 1000000) only [ne_eq, rEq_ii, tSeq, tIfS, tTest, tOp, tVar, tC, tNext, tCons, tNil, tDrop, List.getElem?_cons_zero, Option.some.injEq, exists_eq_left', V.bl.injEq, tMakex, tXE]
        rw [if_pos (by decide)]
        intro x dx hx hdx hne
        have sb := mk_same (C := CM) hx hdx
        exact ⟨x, dx, ⟨.int 0, .int 1, .int 1, .int 1, .int 1, .int 1, .int 1, .int 1, .int 1, .int 1⟩, rfl, upd_same, pl_ints (l := [0, 1, 1, 1, 1, 1, 1, 1, 1, 1]), fun h => absurd h bad0, fun _ e H2 s3 he => qe e H2 (s1.trans (sb.trans s3)) ⟨none, he, XD.none⟩⟩
      · have hk1 : decide ((n : Int) = 7) = false := decide_eq_false (by omega)
        simp (maxSteps := 1000000) only [ne_eq, rEq_ii, tSeq, if_false, Bool.false_eq_true, tIfS, tTest, tOp, tVar, tC, tNext, tCons, tNil, tDrop, List.getElem?_cons_zero, Option.some.injEq, exists_eq_left', V.bl.injEq, hk1, tMakex, tXE]
        exact hX _ _ ⟨g, dg, rfl, eg, s1, by omega⟩
    clear hn s1 eg
    rintro σ H1 ⟨g, dg, rfl, eg, s1, hn⟩
    clear eg
    refine use2 (LR H CR n g) ?_ (fun X hX => ?_)
    rotate_left
    · simp (maxSteps := 1000000) only [ne_eq, tSeq, exists_and_left, tVar, tC, tAsg, gName, tCons, tNil, tDrop, tLst, List.length_nil, List.getElem?_cons_zero, List.getElem?_cons_succ, List.set_cons_zero, List.set_cons_succ, Option.some.injEq, exists_eq_left', V.ref.injEq, tMethx, tMakex, tXE]
      refine ⟨Nat.zero_le _, ?_⟩
      intro p2 n2
      generalize z2 : upd H1 p2 _ = H2
      obtain ⟨s2, e2⟩ := new_same z2 n2
      intro x dx hx hdx hne
      have sb := mk_same (C := CR) hx hdx
      have sc := (s1.trans s2).trans sb
      have nx : H x = none := (s1.trans s2).free hx
      refine ⟨x, dx, p2, 1, rfl, upd_same, sb _ _ e2, by decide, fun _ l u H3 nl nu hlu ex el eu k3 => ⟨rfl, ?_⟩, fun h => absurd h (by decide)⟩
      have t3 := no_ref (dx := dx) (C := CR) sc nx k3
      have hxu : x ≠ u := fun h => by rw [← h, upd_same] at nu; cases nu
      refine ⟨dx, _, ex, fn_Road_send, x, dx, l, u, none, Str.ofString "a", [], rfl, ex, el, eu, by decide, hxu, hlu, fun _ us' H4 hl4 ex4 el4 eu4 k4 => hX _ _ ⟨x, dx, l, u, us', rfl, ex4, el4, eu4, hl4, hxu, hlu, same_keep t3 k4 fun a ha => ?_⟩, fun h => (nomatch h), .inl rfl⟩
      simp only [List.mem_cons, List.not_mem_nil, or_false] at ha
      rcases ha with rfl | rfl
      · exact nx
      · exact sc.free nu
    clear s1
    rintro σ H5 ⟨x, dx, l, u, us, rfl, ex, el, eu, hus, hxu, hlu, s5⟩
    refine use2 (LO H CR CO n g) ?_ (fun X hX => ?_)
    rotate_left
    · simp (maxSteps := 1000000) only [ne_eq, tMake, tSeq, exists_and_left, tVar, tC, tAsg, gName, tCons, tNil, tDrop, List.getElem?_cons_zero, List.getElem?_cons_succ, List.set_cons_zero, List.set_cons_succ, Option.some.injEq, exists_eq_left', V.ref.injEq, List.append_nil, tMethx, tXE]
      intro y dy hy hdy hne
      have sb := mk_same (C := CO) hy hdy
      refine ⟨y, dy, 1, rfl, upd_same, fun k H6 nk ey ek k6 => ⟨rfl, dy, _, ey, fn_Out_put, ?_⟩⟩
      have t6 := no_ref (dx := dy) (C := CO) sb hy k6
      have hyk : y ≠ k := fun h => by rw [← h, upd_same] at nk; cases nk
      refine ⟨y, dy, k, 0, [], Str.ofString "a", rfl, ey, ek, hyk, by decide, fun _ p H7 ey7 ek7 k7 => ?_, fun h => (nomatch h)⟩
      have t7 : Same H5 H7 := same_keep t6 k7 fun a ha => by
        simp only [List.mem_cons, List.not_mem_nil, or_false] at ha
        rcases ha with rfl | rfl
        · exact hy
        · exact sb.free nk
      exact hX _ _ ⟨x, dx, l, u, us, y, dy, k, p, rfl, t7 _ _ ex, t7 _ _ el, t7 _ _ eu, hus, hxu, hlu, ey7, ek7, hyk, s5.trans t7⟩
    clear ex el eu hus hxu hlu s5
    rintro σ H7 ⟨x, dx, l, u, us, y, dy, k, p, rfl, ex, el, eu, hus, hxu, hlu, ey, ek, hyk, s7⟩
    by_cases hk : n = 8
    · subst hk
      obtain rfl := Option.some.inj hc
      simp (maxSteps := 1000000) only [rEq_ii, tSeq, exists_and_left, tIfS, tTest, tOp, tVar, tC, tNext, tCons, tNil, tDrop, List.getElem?_cons_zero, List.getElem?_cons_succ, Option.some.injEq, exists_eq_left', V.bl.injEq, V.ref.injEq, tMethx, tXE]
      rw [if_pos (by decide)]
      exact ⟨dx, _, ex, fn_Road_send, x, dx, l, u, some 3, Str.ofString "b", us, rfl, ex, el, eu, by omega, hxu, hlu, fun h => (nomatch h), fun _ e od H8 s8 he hd => qe e H8 (s7.trans s8) ⟨od, he, hd⟩, .inr rfl⟩
    · have hlt : n < 10 := (List.getElem?_eq_some_iff.mp hc).1
      obtain rfl : n = 9 := by omega
      obtain rfl := Option.some.inj hc
      simp (maxSteps := 1000000) only [rEq_ii, tSeq, exists_and_left, tIfS, tTest, tOp, tVar, tC, tNext, tCons, tNil, tDrop, List.getElem?_cons_zero, List.getElem?_cons_succ, Option.some.injEq, exists_eq_left', V.bl.injEq, V.ref.injEq, tMethx, tXE]
      rw [if_neg (by decide)]
      exact ⟨dy, _, ey, fn_Out_put, y, dy, k, 1, [p], Str.ofString "b", rfl, ey, ek, hyk, Nat.le_refl _, fun h => (nomatch h), fun _ e H8 s8 he => qe e H8 (s7.trans s8) ⟨none, he, XD.none⟩⟩
end
end K71
namespace K71
open PySem L2
abbrev s__law_sorts : Stmt := stm 163
theorem sc__law_sorts : FnScope ["_law_found", "_law_way", "_law_fault", "_law_e", "_law_marks"] [] (defScope s__law_sorts) := ⟨rfl, rfl, rfl, by decide +kernel, rfl, by decide +kernel, by decide +kernel⟩
section
variable {P : Program} {w : World} {K : PySem.W.Frag} {mg : Str → Option Value} {base : Heap} {R cM cP cR cF cT cN cA cL cW cO : Addr} {H H' : Hp}
structure XFam (K : PySem.W.Frag) (R : Addr) (cs : List Addr) : Prop where
  sub : ∀ c ∈ cs, XSub K c R
  xc : ∀ c ∈ cs, XC K c
  kit : ∀ (i j : Nat) c d, cs[i]? = some c → cs[j]? = some d → PySem.W.kitOne K (.ref c) (.ref d) = some (decide (j = i))
def rowV (i : Nat) : List V := [.bl (decide (0 = i)), .bl (decide (1 = i)), .bl (decide (2 = i)), .bl (decide (3 = i)), .bl (decide (4 = i)), .bl (decide (5 = i)), .bl (decide (6 = i)), .bl (decide (7 = i)), .bl (decide (8 = i)), .bl (decide (9 = i))]
def RwP (H : Hp) (l : Addr) (i : Nat) (q : Addr) : Prop := q ≠ l ∧ H q = some (.lst (rowV i))
def Rws (H : Hp) (l : Addr) (n : Nat) : Prop := ∃ ps : List Addr, H l = some (.lst (ps.map V.ref)) ∧ Paired (RwP H l) (List.range n) ps
def sp_sorts : Sp := fun vs H Q _ => vs = [] ∧ ∀ p H', H p = none → Rws H' p 10 → Same H H' → Q (.ref p) H'
def LSo (H : Hp) (l : Addr) (i : Nat) (σ : St) (H' : Hp) : Prop := ∃ (v1 v2 v3 v4 : Option V), σ = [some (.ref l), v1, v2, v3, v4] ∧ Rws H' l i ∧ Keep [l] H H'
set_option maxHeartbeats 4000000 in
theorem own_sorts (D : Def K mg "_law_sorts" s__law_sorts) (hb : Blt mg) (Z : Ers mg R cM cP cR cF cT cN cA cL cW cO) (XR_RoadError : XKin K R) (F : XFam K R [cR, cT, cN, cA, cL, cW, cO, cM, cP, cF])
    (FX__law_falls : OwnX P w K mg base 9 "_law_falls" ["_law_way"] (sp_falls [cR, cT, cN, cA, cL, cW, cO, cM, cP, cF])) : Own P w K mg base 10 "_law_sorts" [] sp_sorts := by
  refine D.own sc__law_sorts (fun _ _ _ _ _ _ us hl => match us, hl with | [], _ => rfl) (fun vs H Q E h => ?_) (fun f cdv A outer s H vs Q E hr h => ?_)
  · obtain ⟨rfl, _⟩ := h
    rfl
  · obtain ⟨rfl, q⟩ := h
    have hu := hr.units
    have hu1 : (A.deeper (PyProof.Rows.envOfC "_law_sorts" (defScope s__law_sorts) s.heap.objs.size f cdv)).units + 1 < cLine := by omega
    obtain ⟨hc_RoadError, hc_BadMeasures, hc_BadPast, hc_BadRoad, hc_Full, hc_BadThing, hc_NotNow, hc_BadName, hc_BadLine, hc_BadWish, hc_NoRow, hve⟩ := Z
    refine ⟨_, (@pss_cons _ _ _ _ _ (@ps_set _ _ 0 _ _ _ _ sc__law_sorts.nd rfl (by first | exact Or.inl rfl | exact Or.inr rfl) (@pe_lst _ _ _ _ (@pa_nil _)) (by rfl) (by first | exact .inl rfl | exact .inr rfl | assumption)) (@pss_cons _ _ _ _ _ (@ps_for _ _ _ _ _ _ _ _ PassesOwn.never rfl (@pi_range1 _ _ _ _ _ _ rfl (hb _ (by decide)) (@pa_cX _ _ _ _ _ (@pe_int _ _ _ _) (@pa_nil _) (by rfl)) (by rfl)) (@pg_name _ _ 1 _ sc__law_sorts.nd rfl (by first | exact Or.inl rfl | exact Or.inr rfl) (by first | exact .inl rfl | exact .inr rfl | assumption)) (@pss_cons _ _ _ _ _ (@ps_set _ _ 2 _ _ _ _ sc__law_sorts.nd rfl (by first | exact Or.inl rfl | exact Or.inr rfl) (@pe_non _ _ _) (by rfl) (by first | exact .inl rfl | exact .inr rfl | assumption)) (@pss_cons _ _ _ _ _ (@ps_try _ _ 3 _ _ _ _ _ _ _ _ _ _ sc__law_sorts.nd rfl rfl XR_RoadError hc_RoadError (@pssx_one _ _ _ (@psx_expr _ _ _ _ (@pex_fn _ _ _ _ _ _ _ _ _ _ _ FX__law_falls hr (@pa_cX _ _ _ _ _ (@pv _ 1 _ _ (by rfl) (by first | exact Or.inl rfl | exact Or.inr (Or.inl rfl) | exact Or.inr (Or.inr rfl)) (by decide) (by decide)) (@pa_nil _) (by rfl)) (by decide) (by rfl) (by decide) (by rfl) (by rfl)) (by rfl))) (fun _ => (@pss_one _ _ _ (@ps_set _ _ 2 _ _ _ _ sc__law_sorts.nd rfl (by first | exact Or.inl rfl | exact Or.inr rfl) (@pv _ 3 _ _ (by rfl) (by first | exact Or.inl rfl | exact Or.inr (Or.inl rfl) | exact Or.inr (Or.inr rfl)) (by decide) (by decide)) (by rfl) (by first | exact .inl rfl | exact .inr rfl | assumption)))) (by rfl) (by rfl) (by rfl) (by decide)) (@pss_cons _ _ _ _ _ (@ps_set _ _ 4 _ _ _ _ sc__law_sorts.nd rfl (by first | exact Or.inl rfl | exact Or.inr rfl) (@pe_lst _ _ _ _ (@pa_cX _ _ _ _ _ (@pe_callB _ _ _ _ _ _ _ _ _ (call_isx K) rfl (hb _ (by decide)) bt_isinstance (@pa_cX _ _ _ _ _ (@pv _ 2 _ _ (by rfl) (by first | exact Or.inl rfl | exact Or.inr (Or.inl rfl) | exact Or.inr (Or.inr rfl)) (by decide) (by decide)) (@pa_cX _ _ _ _ _ (@pe_cls _ _ _ _ hc_BadRoad (by rfl) (by decide)) (@pa_nil _) (by rfl)) (by rfl)) (by decide) (by decide) (by rfl) (by rfl)) (@pa_cX _ _ _ _ _ (@pe_callB _ _ _ _ _ _ _ _ _ (call_isx K) rfl (hb _ (by decide)) bt_isinstance (@pa_cX _ _ _ _ _ (@pv _ 2 _ _ (by rfl) (by first | exact Or.inl rfl | exact Or.inr (Or.inl rfl) | exact Or.inr (Or.inr rfl)) (by decide) (by decide)) (@pa_cX _ _ _ _ _ (@pe_cls _ _ _ _ hc_BadThing (by rfl) (by decide)) (@pa_nil _) (by rfl)) (by rfl)) (by decide) (by decide) (by rfl) (by rfl)) (@pa_cX _ _ _ _ _ (@pe_callB _ _ _ _ _ _ _ _ _ (call_isx K) rfl (hb _ (by decide)) bt_isinstance (@pa_cX _ _ _ _ _ (@pv _ 2 _ _ (by rfl) (by first | exact Or.inl rfl | exact Or.inr (Or.inl rfl) | exact Or.inr (Or.inr rfl)) (by decide) (by decide)) (@pa_cX _ _ _ _ _ (@pe_cls _ _ _ _ hc_NotNow (by rfl) (by decide)) (@pa_nil _) (by rfl)) (by rfl)) (by decide) (by decide) (by rfl) (by rfl)) (@pa_nil _) (by rfl)) (by rfl)) (by rfl))) (by rfl) (by first | exact .inl rfl | exact .inr rfl | assumption)) (@pss_cons _ _ _ _ _ (@ps_set _ _ 4 _ _ _ _ sc__law_sorts.nd rfl (by first | exact Or.inl rfl | exact Or.inr rfl) (@pe_op _ _ _ _ _ _ _ _ op_cat (@pv _ 4 _ _ (by rfl) (by first | exact Or.inl rfl | exact Or.inr (Or.inl rfl) | exact Or.inr (Or.inr rfl)) (by decide) (by decide)) (@pe_lst _ _ _ _ (@pa_cX _ _ _ _ _ (@pe_callB _ _ _ _ _ _ _ _ _ (call_isx K) rfl (hb _ (by decide)) bt_isinstance (@pa_cX _ _ _ _ _ (@pv _ 2 _ _ (by rfl) (by first | exact Or.inl rfl | exact Or.inr (Or.inl rfl) | exact Or.inr (Or.inr rfl)) (by decide) (by decide)) (@pa_cX _ _ _ _ _ (@pe_cls _ _ _ _ hc_BadName (by rfl) (by decide)) (@pa_nil _) (by rfl)) (by rfl)) (by decide) (by decide) (by rfl) (by rfl)) (@pa_cX _ _ _ _ _ (@pe_callB _ _ _ _ _ _ _ _ _ (call_isx K) rfl (hb _ (by decide)) bt_isinstance (@pa_cX _ _ _ _ _ (@pv _ 2 _ _ (by rfl) (by first | exact Or.inl rfl | exact Or.inr (Or.inl rfl) | exact Or.inr (Or.inr rfl)) (by decide) (by decide)) (@pa_cX _ _ _ _ _ (@pe_cls _ _ _ _ hc_BadLine (by rfl) (by decide)) (@pa_nil _) (by rfl)) (by rfl)) (by decide) (by decide) (by rfl) (by rfl)) (@pa_cX _ _ _ _ _ (@pe_callB _ _ _ _ _ _ _ _ _ (call_isx K) rfl (hb _ (by decide)) bt_isinstance (@pa_cX _ _ _ _ _ (@pv _ 2 _ _ (by rfl) (by first | exact Or.inl rfl | exact Or.inr (Or.inl rfl) | exact Or.inr (Or.inr rfl)) (by decide) (by decide)) (@pa_cX _ _ _ _ _ (@pe_cls _ _ _ _ hc_BadWish (by rfl) (by decide)) (@pa_nil _) (by rfl)) (by rfl)) (by decide) (by decide) (by rfl) (by rfl)) (@pa_nil _) (by rfl)) (by rfl)) (by rfl)))) (by rfl) (by first | exact .inl rfl | exact .inr rfl | assumption)) (@pss_cons _ _ _ _ _ (@ps_set _ _ 4 _ _ _ _ sc__law_sorts.nd rfl (by first | exact Or.inl rfl | exact Or.inr rfl) (@pe_op _ _ _ _ _ _ _ _ op_cat (@pv _ 4 _ _ (by rfl) (by first | exact Or.inl rfl | exact Or.inr (Or.inl rfl) | exact Or.inr (Or.inr rfl)) (by decide) (by decide)) (@pe_lst _ _ _ _ (@pa_cX _ _ _ _ _ (@pe_callB _ _ _ _ _ _ _ _ _ (call_isx K) rfl (hb _ (by decide)) bt_isinstance (@pa_cX _ _ _ _ _ (@pv _ 2 _ _ (by rfl) (by first | exact Or.inl rfl | exact Or.inr (Or.inl rfl) | exact Or.inr (Or.inr rfl)) (by decide) (by decide)) (@pa_cX _ _ _ _ _ (@pe_cls _ _ _ _ hc_NoRow (by rfl) (by decide)) (@pa_nil _) (by rfl)) (by rfl)) (by decide) (by decide) (by rfl) (by rfl)) (@pa_cX _ _ _ _ _ (@pe_callB _ _ _ _ _ _ _ _ _ (call_isx K) rfl (hb _ (by decide)) bt_isinstance (@pa_cX _ _ _ _ _ (@pv _ 2 _ _ (by rfl) (by first | exact Or.inl rfl | exact Or.inr (Or.inl rfl) | exact Or.inr (Or.inr rfl)) (by decide) (by decide)) (@pa_cX _ _ _ _ _ (@pe_cls _ _ _ _ hc_BadMeasures (by rfl) (by decide)) (@pa_nil _) (by rfl)) (by rfl)) (by decide) (by decide) (by rfl) (by rfl)) (@pa_cX _ _ _ _ _ (@pe_callB _ _ _ _ _ _ _ _ _ (call_isx K) rfl (hb _ (by decide)) bt_isinstance (@pa_cX _ _ _ _ _ (@pv _ 2 _ _ (by rfl) (by first | exact Or.inl rfl | exact Or.inr (Or.inl rfl) | exact Or.inr (Or.inr rfl)) (by decide) (by decide)) (@pa_cX _ _ _ _ _ (@pe_cls _ _ _ _ hc_BadPast (by rfl) (by decide)) (@pa_nil _) (by rfl)) (by rfl)) (by decide) (by decide) (by rfl) (by rfl)) (@pa_nil _) (by rfl)) (by rfl)) (by rfl)))) (by rfl) (by first | exact .inl rfl | exact .inr rfl | assumption)) (@pss_one _ _ _ (@ps_expr _ _ _ _ (@pe_lm _ _ _ _ _ _ _ _ _ _ _ PySem.F.slot_list_append PySem.F.type_list_append mt_append (@pv _ 0 _ _ (by rfl) (by first | exact Or.inl rfl | exact Or.inr (Or.inl rfl) | exact Or.inr (Or.inr rfl)) (by decide) (by decide)) (@pa_cX _ _ _ _ _ (@pe_op _ _ _ _ _ _ _ _ op_cat (@pv _ 4 _ _ (by rfl) (by first | exact Or.inl rfl | exact Or.inr (Or.inl rfl) | exact Or.inr (Or.inr rfl)) (by decide) (by decide)) (@pe_lst _ _ _ _ (@pa_cX _ _ _ _ _ (@pe_callB _ _ _ _ _ _ _ _ _ (call_isx K) rfl (hb _ (by decide)) bt_isinstance (@pa_cX _ _ _ _ _ (@pv _ 2 _ _ (by rfl) (by first | exact Or.inl rfl | exact Or.inr (Or.inl rfl) | exact Or.inr (Or.inr rfl)) (by decide) (by decide)) (@pa_cX _ _ _ _ _ (@pe_cls _ _ _ _ hc_Full (by rfl) (by decide)) (@pa_nil _) (by rfl)) (by rfl)) (by decide) (by decide) (by rfl) (by rfl)) (@pa_nil _) (by rfl)))) (@pa_nil _) (by rfl)) (by rfl) (by rfl) (by rfl) (by rfl) (by rfl)) (by rfl)))))))) (by intro _; rfl)) (@pss_one _ _ _ (@ps_ret _ _ _ _ (@pv _ 0 _ _ (by rfl) (by first | exact Or.inl rfl | exact Or.inr (Or.inl rfl) | exact Or.inr (Or.inr rfl)) (by decide) (by decide)))))), ?_⟩
    simp (maxSteps := 1000000) only [tFor_eq, Nat.reduceSub, Nat.reduceAdd, iRng1, cxOf_K, List.cons.injEq, tSeq, tC, tAsg, gName, tCons, tNil, tLst, L2.start, List.map_nil, List.length_cons, List.length_nil, List.replicate, List.nil_append, List.set_cons_zero, exists_eq_left', V.int.injEq, and_true]
    refine ⟨by rw [sizeLine_eq]; decide, ?_⟩
    intro p1 n1
    generalize z1 : upd H p1 _ = H1
    obtain ⟨s1, e1⟩ := new_same z1 n1
    refine ⟨by decide, by decide, for_range (n := 10) (LSo H1 p1) ⟨none, none, none, none, rfl, ⟨[], e1, .nil⟩, .refl⟩ ?_ ?_⟩
    · rintro i σ H2 hi ⟨v1, v2, v3, v4, rfl, hrw, k2⟩
      simp (maxSteps := 1000000) only [tBL, upd_same, HO.lst.injEq, Nat.reduceAdd, rAppend, rCat, List.cons.injEq, tSeq, exists_and_left, tOp, tVar, tC, tRet, tAsg, gName, tCons, tNil, tCB, tDrop, tLst, List.length_cons, List.length_nil, List.getElem?_cons_zero, List.getElem?_cons_succ, List.set_cons_zero, List.set_cons_succ, Option.some.injEq, exists_eq_left', V.ref.injEq, and_true, tDropx, tCallx, tTry, unD]
      obtain ⟨c, hci⟩ : ∃ c, [cR, cT, cN, cA, cL, cW, cO, cM, cP, cF][i]? = some c := ⟨_, List.getElem?_eq_getElem (show i < [cR, cT, cN, cA, cL, cW, cO, cM, cP, cF].length from hi)⟩
      have hm := List.mem_of_getElem? hci
      have hx := F.xc c hm
      refine ⟨i, c, by rw [Int.zero_add], hci, fun e H3 s3 he => ?_⟩
      obtain ⟨od, he, hd⟩ := he
      refine ⟨⟨c, od, he, F.sub c hm⟩, isx_exc he hd hx (F.kit i 0 c _ hci rfl) (isx_exc he hd hx (F.kit i 1 c _ hci rfl) (isx_exc he hd hx (F.kit i 2 c _ hci rfl) ⟨by rw [sizeLine_eq]; decide, ?_⟩))⟩
      intro p4 n4
      generalize z4 : upd H3 p4 _ = H4
      obtain ⟨s4, e4⟩ := new_same z4 n4
      have he4 := s4 _ _ he
      have hd4 := hd.same s4
      refine isx_exc he4 hd4 hx (F.kit i 3 c _ hci rfl) (isx_exc he4 hd4 hx (F.kit i 4 c _ hci rfl) (isx_exc he4 hd4 hx (F.kit i 5 c _ hci rfl) ⟨by rw [sizeLine_eq]; decide, ?_⟩))
      intro p5 n5
      generalize z5 : upd H4 p5 _ = H5
      obtain ⟨s5, e5⟩ := new_same z5 n5
      refine ⟨_, s5 _ _ e4, by rw [sizeLine_eq]; change 3 + 3 ≤ 16777216; decide, ?_⟩
      intro p6 n6
      generalize z6 : upd H5 p6 _ = H6
      obtain ⟨s6, e6⟩ := new_same z6 n6
      have t6 := s5.trans s6
      have he6 := t6 _ _ he4
      have hd6 := hd4.same t6
      refine isx_exc he6 hd6 hx (F.kit i 6 c _ hci rfl) (isx_exc he6 hd6 hx (F.kit i 7 c _ hci rfl) (isx_exc he6 hd6 hx (F.kit i 8 c _ hci rfl) ⟨by rw [sizeLine_eq]; decide, ?_⟩))
      intro p7 n7
      generalize z7 : upd H6 p7 _ = H7
      obtain ⟨s7, e7⟩ := new_same z7 n7
      refine ⟨_, s7 _ _ e6, by rw [sizeLine_eq]; change 6 + 3 ≤ 16777216; decide, ?_⟩
      intro p8 n8
      generalize z8 : upd H7 p8 _ = H8
      obtain ⟨s8, e8⟩ := new_same z8 n8
      have t8 := s7.trans s8
      have he8 := t8 _ _ he6
      have hd8 := hd6.same t8
      have f8 := s3.trans (s4.trans (t6.trans t8))
      obtain ⟨ps, el, pps⟩ := hrw
      refine ⟨_, f8 _ _ el, isx_exc he8 hd8 hx (F.kit i 9 c _ hci rfl) ⟨by rw [sizeLine_eq]; decide, ?_⟩⟩
      intro p9 n9
      generalize z9 : upd H8 p9 _ = H9
      obtain ⟨s9, e9⟩ := new_same z9 n9
      refine ⟨_, s9 _ _ e8, by rw [sizeLine_eq]; change 9 + 1 ≤ 16777216; decide, ?_⟩
      intro p10 n10
      generalize z10 : upd H9 p10 _ = H10
      obtain ⟨s10, e10⟩ := new_same z10 n10
      have f10 := f8.trans (s9.trans s10)
      have hl := pps.length
      rw [List.length_range] at hl
      have hp10 : H2 p10 = none := (f8.trans s9).free n10
      have hne : p10 ≠ p1 := fun h => by rw [h, el] at hp10; cases hp10
      refine ⟨_, f10 _ _ el, by rw [List.length_map, sizeLine_eq]; omega, _, _, _, _, rfl, ⟨ps ++ [p10], by rw [upd_same, List.map_append]; rfl, ?_⟩, ?_⟩
      · rw [List.range_succ]
        exact paired_app (paired_imp (fun a b h => ⟨h.1, (upd_ne h.1).trans (f10 _ _ h.2)⟩) pps) (.cons ⟨hne, (upd_ne hne).trans e10⟩ .nil)
      · intro b o h hb
        rw [upd_ne (fun z => hb (by rw [z]; exact .head _))]
        exact f10 _ _ (k2 _ _ h hb)
    · rintro σ H2 ⟨v1, v2, v3, v4, rfl, hrw, k2⟩
      simp (maxSteps := 1000000) only [tVar, tRet, List.getElem?_cons_zero, Option.some.injEq, exists_eq_left']
      exact q p1 H2 n1 hrw (no_ref (dx := p1) (C := p1) (s1) n1 k2)
end
end K71
namespace L2
open PySem PySem.Spec PyProof.Rows
structure CScopeC (own : List Str) (scope : Scope) : Prop where
  kind : scope.kind = .function
  nofree : ∀ y ∈ scope.names, y.2 ≠ .free
  loc : ∀ y ∈ scope.names, y.2 = .local → scope.names.lookup y.1 = some .local
  nd : own.Nodup
theorem clOf_nofree {cells : List (Str × Addr)} : ∀ (names : List (Str × NameKind)) (acc : List (Str × Addr)), (∀ y ∈ names, y.2 ≠ .free) → clOf cells names acc = acc
  | [], _, _ => rfl
  | (n, k) :: r, acc, h => by
    have hk : ¬ (k == NameKind.free) = true := by simpa using h (n, k) List.mem_cons_self
    unfold clOf
    rw [if_neg hk]
    exact clOf_nofree r acc fun y hy => h y (List.mem_cons_of_mem _ hy)
section
variable {M : Model} {A : Around} {E : Value → Shared → Prop} {s : Shared}
theorem wpAny_newEnvD {scope : Scope} {globals : Addr} {qual : Str} {outer : Env} {bns : Addr} {Q : Env → Shared → Prop}
    (hQ : ∀ h', pushCells (s.heap.push { cls := .type "dict", data := .dict #[] }) scope.names = h' → Q (newEnv scope s.heap.objs.size globals (cellsFrom (s.heap.objs.size + 1) scope.names []) qual none .none (some outer) bns) { s with heap := h', toks := s.toks }) :
    wpAny M A (newFunctionEnv scope globals [] [] qual none .none (some outer) bns) Q E s := by
  simp only [newFunctionEnv, Option.isSome_some, if_true]
  refine wpAny_bind (wpAny_alloc ?_)
  refine wpAny_bind (wpAny_layCells _ (fun name kind cells => by cases hkc : kind == NameKind.cell <;> simp [hkc]) _ _ _ _ ?_)
  rw [show ({ s with heap := s.heap.push { cls := .type "dict", data := .dict #[] } } : Shared).heap.objs.size = s.heap.objs.size + 1 from Heap.size_push ..]
  rw [List.forIn_nil]
  exact wpAny_bind (wpAny_pure (wpAny_pure (hQ _ rfl)))
end
def cxD (X : Cx) (scope : Scope) (N' : List Str) (C : Addr) (fp : List Addr) (s : Shared) (H : Hp) : Cx where
  prog := X.prog
  w := X.w
  K := X.K
  mg := X.mg
  base := X.base
  A := X.A
  N := N'
  s₀ := s
  H₀ := H
  env := compEnvC scope (cellsFrom (C + 1) scope.names []) C X.env
  outer := X.stack
  stack := X.stack
  ex := fp
  fn := fun _ => true
  calm := X.calm
  pn := X.pn
  xe := fun _ _ => False
section
variable {X : Cx} {pins : List (Addr × Obj)} {σ : St} {H : Hp} {s : Shared}
theorem Inv.blockD {scope : Scope} {own : List Str} {fp : List Addr} {h' : Heap} (I : Inv X pins σ H s) (S : CScopeC own scope)
    (hf : ∀ b ∈ fp, FpOk X pins H b) (hfo : ∀ b ∈ fp, ∃ o, s.heap.get? b = some o) (hh : pushCells (s.heap.push { cls := .type "dict", data := .dict #[] }) scope.names = h') :
    Inv (cxD X scope own s.heap.objs.size fp s H) pins (cSt own.length [] σ) H { s with heap := h', toks := s.toks } := by
  have ok := cellsFrom_ok scope.names (s.heap.push { cls := .type "dict", data := .dict #[] }) (s.heap.objs.size + 1) [] ⟨fun _ _ hm => (nomatch hm), List.Pairwise.nil⟩ (by rw [Heap.size_push]; exact Nat.le_refl _)
  rw [Heap.size_push, hh] at ok
  have hk : ∀ b o, s.heap.get? b = some o → h'.get? b = some o := fun b o e => by rw [← hh]; exact pushCells_keeps _ _ b o (Heap.get?_push_of_some _ e)
  have hn : h'.Ns s.heap.objs.size (fun _ => none) := by
    rw [← hh]
    exact (Heap.Ns.new s.heap (.type "dict")).keeps (pushCells_keeps _ _)
  have hcl : ∀ x c, (cellsFrom (s.heap.objs.size + 1) scope.names []).lookup x = some c → h'.IsCell c none ∧ s.heap.objs.size + 1 ≤ c := fun x c e => ok.empty x c (PySem.mem_of_lookup e)
  have hlt : ∀ b o, s.heap.get? b = some o → b ≠ s.heap.objs.size := fun b o e => Nat.ne_of_lt (Heap.lt_size e)
  have nstk : ∀ b, b ≠ X.env.locals → b ∉ X.fs → b ∉ frs X.stack := fun b h1 h2 hb => (List.mem_cons.mp (I.stkSub b hb)).elim h1 h2
  have hrl : ∀ x, (relabel scope X.env).names.lookup x = (scope.names.lookup x).map fun k => if (k == NameKind.free && X.env.scope.kind == .function && X.env.kindOf x == some .cell) then NameKind.cell else k := fun x => relab_lookup x scope.names
  refine ⟨⟨I.ok.mod, S.kind, I.ok.glob, I.ok.blt, Nat.le_refl _, fun x y c h1 h2 => name_of_addr ok.apart (PySem.mem_of_lookup h1) (PySem.mem_of_lookup h2), fun x hx => ?_, fun x c _ h => Nat.le_of_succ_le (hcl x c h).2, I.ok.hd, I.ok.frames, .inl rfl, fun b hb => ?_, I.bs, Nat.le_trans I.ok.bsz I.sz, fun b o e hb => ?_, fun b hb => ?_, I.stack, I.stkFree⟩,
    rfl, I.bare, Un.kept hk, ⟨fun _ => none, hn, fun i x v h1 h2 h3 => ?_⟩, fun x c e => ⟨none, (hcl x c e).1⟩, I.hok.fresh (Nat.le_refl _), fun x c e => I.hok.fresh (Nat.le_of_succ_le (hcl x c e).2), fun p hp => ?_, I.hok.kept hk, ?_⟩
  · have hx' : (relabel scope X.env).names.lookup x = some .cell ∨ (relabel scope X.env).names.lookup x = some .free := hx
    rw [hrl] at hx'
    cases e : scope.names.lookup x with
    | none => rw [e] at hx'; rcases hx' with z | z <;> cases z
    | some k =>
      have hm : (x, k) ∈ scope.names := PySem.mem_of_lookup e
      have hkf : k = .cell := by
        rw [e] at hx'
        cases k with
        | cell => rfl
        | free => exact absurd rfl (S.nofree _ hm)
        | _ => exfalso; revert hx'; simp
      subst hkf
      exact cell_has e
  · obtain ⟨o, e⟩ := hfo b hb
    refine ⟨hlt b o e, fun x c z h => ?_⟩
    have h1 := (hcl x c z).2
    have h2 := Heap.lt_size e
    rw [h] at h1
    exact Nat.lt_irrefl _ (Nat.lt_of_lt_of_le h2 (Nat.le_of_succ_le h1))
  · obtain ⟨_, _, _, f3, _⟩ := hf b hb
    rcases f3 with z | z
    · exact I.ok.noex b o e z
    · exact absurd (Nat.lt_of_lt_of_le (Heap.lt_size (I.ok.bs b o e).1) z) (Nat.lt_irrefl _)
  · obtain ⟨_, f1, f2, _⟩ := hf b hb
    exact nstk b f1 f2
  · exfalso
    unfold cSt at h2
    rw [List.map_nil, List.append_nil, List.getElem?_replicate] at h2
    split at h2 <;> cases h2
  · obtain ⟨e, n, ne, nf, d⟩ := I.pin p hp
    exact ⟨hk _ _ e, n, hlt _ _ e, nstk p.1 ne nf, d⟩
  · unfold cSt
    simp [cxD]
theorem Inv.unblockD {scope : Scope} {N' : List Str} {fp : List Addr} {σb : St} {H' : Hp} {s' : Shared} {h' : Heap} (I : Inv X pins σ H s) (hf : ∀ b ∈ fp, FpOk X pins H b)
    (B : Inv (cxD X scope N' s.heap.objs.size fp s H) pins σb H' s') (hs : Heap.SameBut s.heap.objs.size s'.heap h') : Inv X pins σ H' { s' with heap := h' } := by
  have hlt : ∀ b o, s.heap.get? b = some o → b ≠ s.heap.objs.size := fun b o e => Nat.ne_of_lt (Heap.lt_size e)
  have hu : Un (frs X.stack) fp H H' s.heap s'.heap := B.base
  have hfree : H' s.heap.objs.size = none := B.free
  refine I.call' (s' := { s' with heap := h' }) (ch := fp) B.os ⟨fun b o e n hb hx => ?_, fun b o e n hb hx => ?_, hu.free, fun b o e hx => ?_, hu.tups, hu.frzs, hu.tbls⟩ (fun b u e => ?_) B.bare fun b hb => ?_
  · exact (hs.2 b (hlt b o e)).trans (hu.keep b o e n hb hx)
  · obtain ⟨sl, z⟩ := hu.slot b o e n hb hx
    exact ⟨sl, (hs.2 b (hlt b o e)).trans z⟩
  · obtain ⟨o', z⟩ := hu.there b o e hx
    exact ⟨o', (hs.2 b (hlt b o e)).trans z⟩
  · refine (B.hok b u e).stay (fun c v hc q => (hs.2 c ?_).trans q) (fun _ q => q) fun _ _ q => q
    rintro rfl
    rcases hc with z | z
    · rw [← z, hfree] at e; cases e
    · rw [hfree] at z; cases z
  · obtain ⟨_, f1, f2, f3, f4, f5⟩ := hf b hb
    exact ⟨f3, f1, f4, f5⟩
end
section
variable {X : Cx} {elt tg iter : Expr} {ifs : List Expr} {scope : Scope} {pos : Pos} {own : List Str} {wi : TI} {g : TG} {tc : TT} {te : TE}
theorem comp_coreD (hc : X.calm = true) (S : CScopeC own scope) (hi : PI X tg iter wi)
    (hg : ∀ C fp s H, PG (cxD X scope own C fp s H) tg g) (ht : ∀ C fp s H, PF (cxD X scope own C fp s H) ifs tc) (he : ∀ C fp s H, PE (cxD X scope own C fp s H) elt te)
    {pins : List (Addr × Obj)} {σ : St} {H : Hp} {s : Shared} {Q : VK} (I : Inv X pins σ H s) (h : tComp own.length [] wi g tc te σ H Q) {RR : Value → Addr → Result → Shared → Prop}
    (hRR : ∀ D C s' m H', s'.heap.Ns C m → H' C = none → C ≠ X.env.locals → C ∉ X.fs → (∀ x c, X.env.cells.lookup x = some c → c ≠ C) → X.s₀.heap.objs.size ≤ C → (∀ p ∈ X.pn ++ pins, p.1 ≠ C) → (∀ h', Heap.SameBut C s'.heap h' → Inv X pins σ H' { s' with heap := h' }) → Q (.ref D) H' → RR (.ref D) C (.ok .next) s') :
    wpAny (model X.prog X.w) X.A (eval iter X.env) (fun x s1 => wpAny (model X.prog X.w) X.A (pyIter x) (fun it s2 => wpAny (model X.prog X.w) X.A (newList []) (fun acc s3 =>
      wpAny (model X.prog X.w) X.A (newFunctionEnv scope X.env.globals [] [] X.env.qual none .none (some X.env)) (fun cenv s4 =>
        codeAny (model X.prog X.w) X.A (.compStart (.ListComp elt [⟨tg, iter, ifs, 0⟩] scope pos) 0 it acc { cenv with scope := relabel scope X.env }) (RR acc cenv.locals) s4) X.xe s3) X.xe s2) X.xe s1) X.xe s := by
  refine thn (hi pins s σ H _ I h) fun v s1 h1 => thn h1 fun itv s2 h2 => ?_
  obtain ⟨it, fp, tn, J, H2, e, I2, T, st2, f2, hq⟩ := h2
  subst e
  refine wpAny_newList ?_ (by simp)
  have I3 := I2.lnew (t' := s2.toks) (ys := []) (its := []) .nil (by simp)
  have hDn : H2 s2.heap.objs.size = none := I2.fresh
  generalize hD : s2.heap.objs.size = D at I3 hDn ⊢
  generalize hH3 : upd H2 D (.lst []) = H3 at I3
  generalize hs3 : ({ s2 with heap := s2.heap.push { cls := .type "list", data := .seq ([] : List Value).toArray }, toks := s2.toks } : Shared) = s3 at I3
  have k3 : ∀ b o, s2.heap.get? b = some o → s3.heap.get? b = some o := fun b o e => by rw [← hs3]; exact Heap.get?_push_of_some _ e
  have st3 : tn 0 s3.heap := T.keep _ _ _ st2 fun b _ o e => k3 b o e
  have fo2 : ∀ b ∈ fp, ∃ o, s2.heap.get? b = some o := fun b hb => (T.obj _ _ st2 b hb).imp fun _ z => z.1
  have neD : ∀ b ∈ fp, b ≠ D := fun b hb => by
    obtain ⟨o, e⟩ := fo2 b hb
    rw [← hD]
    exact Nat.ne_of_lt (Heap.lt_size e)
  have f3 : ∀ b ∈ fp, FpOk X pins H3 b := fun b hb => by
    obtain ⟨a0, a1⟩ := f2 b hb
    exact ⟨by rw [← hH3, upd_ne (neD b hb)]; exact a0, a1⟩
  have fo3 : ∀ b ∈ fp, ∃ o, s3.heap.get? b = some o := fun b hb => (fo2 b hb).imp fun o e => k3 b o e
  obtain ⟨W, ⟨m0, w0⟩, turn⟩ := hq D hDn
  rw [hH3] at w0
  refine wpAny_newEnvD (fun h4 hh4 => ?_)
  have k4 : ∀ b o, s3.heap.get? b = some o → h4.get? b = some o := fun b o e => by rw [← hh4]; exact pushCells_keeps _ _ b o (Heap.get?_push_of_some _ e)
  have B4 := I3.blockD S f3 fo3 hh4
  have st4 : tn 0 h4 := T.keep _ _ _ st3 fun b _ o e => k4 b o e
  have f4 : ∀ b ∈ fp, FpOk (cxD X scope own s3.heap.objs.size fp s3 H3) pins H3 b := fun b hb => by
    obtain ⟨a0, a1, a2, a3, a4, a5⟩ := f3 b hb
    obtain ⟨o, e⟩ := fo3 b hb
    exact ⟨a0, (B4.ok.exf b hb).1, B4.ok.exfs b hb, .inl hb, (B4.ok.exf b hb).2, a5⟩
  have nL : s3.heap.objs.size ≠ X.env.locals := Nat.ne_of_gt I3.lt
  have nF : s3.heap.objs.size ∉ X.fs := I3.nofs (Nat.le_refl _)
  have nC : ∀ x c, X.env.cells.lookup x = some c → c ≠ s3.heap.objs.size := fun x c e => by
    obtain ⟨_, o, ho, _⟩ := I3.cell x c e
    exact Nat.ne_of_lt (Heap.lt_size ho)
  have loop : ∀ s5 : Shared, s5 = { s3 with heap := h4, toks := s3.toks } →
      codeAny (model X.prog X.w) X.A (.compLoop (.ListComp elt [⟨tg, iter, ifs, 0⟩] scope pos) 0 (.ref it) (.ref D) (compEnvC scope (cellsFrom (s3.heap.objs.size + 1) scope.names []) s3.heap.objs.size X.env)) (RR (.ref D) s3.heap.objs.size) s5 := by
    rintro s5 rfl
    have stat : ∀ {H' : Hp}, (∀ b ∈ fp, H' b = none) → ∀ b ∈ fp, FpOk (cxD X scope own s3.heap.objs.size fp s3 H3) pins H' b := fun hn b hb => ⟨hn b hb, (f4 b hb).2⟩
    refine compLoop_gen rfl (fun n s' => ∃ i acc H', Inv (cxD X scope own s3.heap.objs.size fp s3 H3) pins (cSt own.length [] σ) H' s' ∧ tn i s'.heap ∧ (∀ b ∈ fp, H' b = none) ∧ W i n acc H') ?_ m0
      ⟨0, [], H3, B4, st4, fun b hb => (f3 b hb).1, w0⟩
    rintro n s6 ⟨i, acc, H6, B6, st6, fr6, w6⟩
    obtain ⟨hacc, way⟩ := turn i n acc H6 w6
    rcases way with ⟨stop, q⟩ | ⟨go, hz, Nx, hN, step⟩
    · refine thn (T.done (cxD X scope own s3.heap.objs.size fp s3 H3) rfl rfl rfl hc i pins s6 _ H6 _ B6 (stat fr6) st6 stop) fun r s7 ⟨hr, B7⟩ => ?_
      subst hr
      obtain ⟨m, hm, _⟩ := B7.loc
      exact hRR D _ s7 m H6 hm B7.free nL nF nC I3.sz (fun p hp => Nat.ne_of_lt (Heap.lt_size (I3.pin p hp).1)) (fun h' hs => I3.unblockD f3 B7 hs) q
    · refine thn (T.item (cxD X scope own s3.heap.objs.size fp s3 H3) rfl rfl rfl hc i pins s6 _ H6 _ B6 (stat fr6) st6 go) fun r s7 ⟨u, hr, h7⟩ => ?_
      subst hr
      refine thn h7 fun _ s8 ⟨x, H8, B8, r8, y8, st8, fr8⟩ => ?_
      have B8' := B8.pinned (stat fr8) (T.obj _ _ st8)
      have away : ∀ {s9 : Shared} {σ9 : St} {H9 : Hp} {acc' : List V}, Inv (cxD X scope own s3.heap.objs.size fp s3 H3) (pins ++ pinsAt fp s8.heap) σ9 H9 s9 → σ9.drop own.length = (cSt own.length [] σ).drop own.length → Nx acc' H9 →
          ∃ m', m' < n ∧ ∃ i acc H', Inv (cxD X scope own s3.heap.objs.size fp s3 H3) pins (cSt own.length [] σ) H' s9 ∧ tn i s9.heap ∧ (∀ b ∈ fp, H' b = none) ∧ W i m' acc H' := fun {s9 σ9 H9 acc'} B9 hd nx => by
        obtain ⟨m', hm, w9⟩ := hN acc' H9 nx
        refine ⟨m', hm, i + 1, acc', H9, B9.unpinned.weak ?_ ?_, T.keep _ _ _ st8 fun b hb o e => (B9.pin (b, o) (List.mem_append_right _ (List.mem_append_right _ (mem_pinsAt hb e)))).1, fun b hb => ?_, w9⟩
        · rw [B9.len, B6.len]
        · intro k v hv
          unfold cSt at hv
          have hk : own.length ≤ k := by
            rcases Nat.lt_or_ge k own.length with z | z
            · exfalso
              rw [List.getElem?_append_left (by simpa using z), List.getElem?_replicate] at hv
              split at hv <;> cases hv
            · exact z
          have e1 : σ9[k]? = (σ9.drop own.length)[k - own.length]? := by rw [List.getElem?_drop]; congr 1; omega
          rw [e1, hd, List.getElem?_drop]
          have e2 : own.length + (k - own.length) = k := by omega
          rw [e2]
          exact hv
        · obtain ⟨o, e, d⟩ := T.obj _ _ st8 b hb
          exact (B9.pin (b, o) (List.mem_append_right _ (List.mem_append_right _ (mem_pinsAt hb e)))).2.1
      refine wpAny_mono (hg _ _ _ _ _ s8 _ H8 x u _ B8' r8 (step x H8 y8)) (fun _ s9 ⟨σ9, H9, B9, hd9, q9⟩ => ?_) fun _ _ f => f.elim
      refine wpAny_mono (ht _ _ _ _ _ s9 σ9 H9 _ B9 q9) (fun b s10 ⟨H10, B10, q10⟩ => ?_) fun _ _ f => f.elim
      cases b with
      | false =>
        rw [if_neg Bool.false_ne_true] at q10 ⊢
        exact away B10 hd9 q10.2
      | true =>
        rw [if_pos rfl] at q10 ⊢
        refine wpAny_mono (he _ _ _ _ _ s10 σ9 H10 _ B10 q10) (fun y s11 ⟨z, H11, B11, r11, q11⟩ => ?_) fun _ _ f => f.elim
        obtain ⟨hl11, nx⟩ := q11
        refine wpAny_mono (mt_append (X := cxD X scope own s3.heap.objs.size fp s3 H3) _ s11 σ9 H11 (.ref D) [z] (.ref D) [y] (fun _ H12 => Nx (acc ++ [z]) H12) B11 rfl (.cons r11 .nil) ⟨D, acc, z, rfl, rfl, hl11, hz, nx⟩) (fun _ s12 ⟨_, H12, B12, _, q12⟩ => ?_) fun _ _ f => f.elim
        exact away B12 hd9 q12
  exact codeAny_compStart_list (loop _ rfl) (T.self X.A 0 _ _ _ st4 (loop _ rfl))
theorem pe_compD (own : List Str) (hc : X.calm = true) (S : CScopeC own scope) (hi : PI X tg iter wi)
    (hg : ∀ C fp s H, PG (cxD X scope own C fp s H) tg g) (ht : ∀ C fp s H, PF (cxD X scope own C fp s H) ifs tc) (he : ∀ C fp s H, PE (cxD X scope own C fp s H) elt te)
    (hs : ∀ x, foldedSetIterable iter X.env x = pure x := by intro _; rfl) : PE X (.ListComp elt [⟨tg, iter, ifs, 0⟩] scope pos) (tComp own.length [] wi g tc te) := by
  intro pins s σ H Q I h
  have hfr : ∀ y ∈ scope.names, y.2 = .free → ∃ c, X.env.cells.lookup y.1 = some c := fun y hy e => absurd e (S.nofree y hy)
  rw [eval_ListComp]
  refine wpAny_comprehension_free (use := none) rfl hs ((closureFor_eq hfr).trans (by rw [clOf_nofree _ _ S.nofree])) S.kind S.loc ?_
  refine comp_coreD hc S hi hg ht he I h (RR := fun acc C => compPost (model X.prog X.w) X.A X.xe none (EP X pins σ Q) acc C) ?_
  intro D C s' m H' hn hf h1 h2 h3 h4 h5 hI hq
  exact ⟨m, hn, fun h' hs' => ⟨.ref D, H', hI h' hs', rfl, hq⟩⟩
end
end L2
namespace K71
open PySem L2
abbrev s_law : Stmt := stm 164
theorem sc_law : FnScope ["_law_script", "_law_told", "_law_cell", "_law_at", "_law_number", "_law_least", "_law_most", "_law_way", "_law_far", "_law_thing", "_law_row"] ["_law_script"] (defScope s_law) := ⟨rfl, rfl, rfl, by decide +kernel, rfl, by decide +kernel, by decide +kernel⟩
theorem cs_law_0 : CScopeC ["_law_way"] { kind := .function, names := [(".0", .local), ("_law_way", .cell), ("range", .globalImplicit)], isGenerator := false, isCoroutine := false, more := [] } := ⟨rfl, by decide +kernel, by decide +kernel, by decide +kernel⟩
theorem cs_law_1 : CScope ["_law_at"] ["_law_way"] { kind := .function, names := [(".0", .local), ("_law_at", .local), ("_law_way", .free)], isGenerator := false, isCoroutine := false, more := [] } { kind := .function, names := [(".0", .local), ("_law_way", .cell), ("range", .globalImplicit)], isGenerator := false, isCoroutine := false, more := [] } := ⟨rfl, by decide +kernel, by decide +kernel, by decide +kernel, by decide +kernel, by decide +kernel⟩
section
variable {P : Program} {w : World} {K : PySem.W.Frag} {mg : Str → Option Value} {base : Heap} {C R cM cP cR cF cT cN cA cL cW cO : Addr} {H H' : Hp}
def sp_law (K : PySem.W.Frag) : Sp := fun vs H Q _ => ∃ (a : Addr) (ns : List Int), vs = [.ref a] ∧ SqL K H a (ns.map V.int) ∧ ns.length ≤ 63 ∧ ∀ H', Q (.bl true) H'
def LA (H : Hp) (K : PySem.W.Frag) (sc : Addr) (ns : List Int) (σ : St) (H' : Hp) : Prop := ∃ (t : Addr) (ms : List Int), σ = [some (.ref sc), some (.ref t), none, none, none, none, none, none, none, none, none] ∧ H' t = some (.lst (ms.map V.int)) ∧ inI ms lbs ∧ SqL K H' sc (ns.map V.int)
theorem mv_of {vs : List V} (h : vs.length = 10) : ∃ m : Mv, m.l = vs := by
  match vs, h with
  | [a0, a1, a2, a3, a4, a5, a6, a7, a8, a9], _ => exact ⟨⟨a0, a1, a2, a3, a4, a5, a6, a7, a8, a9⟩, rfl⟩
def put1 (ms : List Int) (k : Nat) (v : V) : List V := (ms.map V.int).take k ++ [v] ++ (ms.map V.int).drop (k + 1)
theorem put1_len {ms : List Int} {k : Nat} {v : V} (h : ms.length = 10) (hk : k < 10) : (put1 ms k v).length = 10 := by
  unfold put1
  simp only [List.length_append, List.length_take, List.length_drop, List.length_map, List.length_singleton]
  omega
theorem put1_at {ms : List Int} {k : Nat} {v : V} (h : ms.length = 10) (hk : k < 10) : (put1 ms k v)[k]? = some v := by
  unfold put1
  rw [List.append_assoc, List.getElem?_append_right (by rw [List.length_take, List.length_map]; omega), List.length_take, List.length_map, Nat.min_eq_left (by omega), Nat.sub_self]
  rfl
theorem put1_pl {ms : List Int} {k : Nat} {v : V} (hv : PlV v) : ∀ x ∈ put1 ms k v, PlV x := fun x hx => by
  unfold put1 at hx
  simp only [List.mem_append, List.mem_singleton] at hx
  rcases hx with (h | rfl) | h
  · exact pl_ints x (List.mem_of_mem_take h)
  · exact hv
  · exact pl_ints x (List.mem_of_mem_drop h)
theorem put1_int {ms : List Int} {k : Nat} {n : Int} : put1 ms k (.int n) = (ms.take k ++ [n] ++ ms.drop (k + 1)).map V.int := by
  unfold put1
  simp [List.map_append, List.map_take, List.map_drop]
theorem paired_take {α β : Type} {R : α → β → Prop} : ∀ {l : List α} {m : List β} (k : Nat), Paired R l m → Paired R (l.take k) (m.take k)
  | _, _, 0, _ => by simp only [List.take_zero]; exact .nil
  | _, _, k + 1, .nil => .nil
  | _, _, k + 1, .cons h t => .cons h (paired_take k t)
theorem paired_drop {α β : Type} {R : α → β → Prop} : ∀ {l : List α} {m : List β} (k : Nat), Paired R l m → Paired R (l.drop k) (m.drop k)
  | _, _, 0, h => h
  | _, _, k + 1, .nil => .nil
  | _, _, k + 1, .cons h t => paired_drop k t
theorem put1_in {ms : List Int} {k : Nat} {n : Int} {b : Int × Int} (h : inI ms lbs) (hb : lbs[k]? = some b) (h1 : b.1 ≤ n) (h2 : n ≤ b.2) : inI (ms.take k ++ [n] ++ ms.drop (k + 1)) lbs := by
  have e : lbs = lbs.take k ++ [b] ++ lbs.drop (k + 1) := by
    obtain ⟨hk, rfl⟩ := List.getElem?_eq_some_iff.mp hb
    rw [List.append_assoc, List.singleton_append, List.getElem_cons_drop, List.take_append_drop]
  unfold inI
  rw [e]
  exact paired_app (paired_app (paired_take k h) (.cons ⟨h1, h2⟩ .nil)) (paired_drop (k + 1) h)
theorem put1_bad {ms : List Int} {k : Nat} {v : V} {b : Int × Int} (h : ms.length = 10) (hb : lbs[k]? = some b) (hv : okV v b.1 b.2 = false) : ¬ okAll (put1 ms k v) := fun ok => by
  have hk : k < 10 := (List.getElem?_eq_some_iff.mp hb).1
  unfold lbs at hb
  rw [List.getElem?_map] at hb
  obtain ⟨q, hq, rfl⟩ := Option.map_eq_some_iff.mp hb
  have := ok k v q (put1_at h hk) hq
  rw [this] at hv
  cases hv
def rowD (i : Nat) : List PyData := [.bool (decide (0 = i)), .bool (decide (1 = i)), .bool (decide (2 = i)), .bool (decide (3 = i)), .bool (decide (4 = i)), .bool (decide (5 = i)), .bool (decide (6 = i)), .bool (decide (7 = i)), .bool (decide (8 = i)), .bool (decide (9 = i))]
theorem dt_row {q : Addr} {i : Nat} (e : H q = some (.lst (rowV i))) : Dt H (.ref q) (.list (rowD i)) :=
  .l e (.cons (.bl _) (.cons (.bl _) (.cons (.bl _) (.cons (.bl _) (.cons (.bl _) (.cons (.bl _) (.cons (.bl _) (.cons (.bl _) (.cons (.bl _) (.cons (.bl _) .nil))))))))))
def srtD : PyData := .list ((List.range 10).map fun i => .list (rowD i))
theorem dts_rows {l : Addr} : ∀ {is : List Nat} {ps : List Addr}, Paired (RwP H l) is ps → Dts H (ps.map V.ref) (is.map fun i => PyData.list (rowD i))
  | [], [], _ => .nil
  | i :: is, p :: ps, .cons h t => .cons (dt_row h.2) (dts_rows t)
theorem dt_srt {l : Addr} (h : Rws H l 10) : Dt H (.ref l) srtD := by
  obtain ⟨ps, e, p⟩ := h
  exact .ls e (dts_rows p)
theorem dep_srt : srtD.depth ≤ 60 := by decide +kernel
theorem row_eq {i : Nat} : ((List.range 10).map fun (j : Nat) => V.bl (decide ((0 : Int) + (j : Int) = 0 + (i : Int)))) = rowV i := by
  have : ∀ j : Nat, decide ((0 : Int) + (j : Int) = 0 + (i : Int)) = decide (j = i) := fun j => by
    rw [decide_eq_decide]
    omega
  simp only [this]
  rfl
def LK (sc t : Addr) (H : Hp) (σ : St) (H' : Hp) : Prop := ∃ v2 v3 v4 v5 v6 v7 v8 v9 v10, σ = [some (.ref sc), some (.ref t), v2, v3, v4, v5, v6, v7, v8, v9, v10] ∧ Same H H'
structure Thg (b : Int × Int) (way : Int) (th : V) : Prop where
  pl : PlV th
  good : way ≤ 1 → ∃ n, th = .int n ∧ b.1 ≤ n ∧ n ≤ b.2
  bad : 1 < way → okV th b.1 b.2 = false
  nb : ∀ z, th ≠ .bl z
def L6 (sc t : Addr) (H : Hp) (σ : St) (H' : Hp) : Prop := ∃ (v2 v8 v10 : Option V) (k : Nat) (num : Int) (b : Int × Int) (th : V), σ = [some (.ref sc), some (.ref t), v2, some (.int k), some (.int num), some (.int b.1), some (.int b.2), some (.int (num % 8)), v8, some th, v10] ∧ lbs[k]? = some b ∧ 0 ≤ num ∧ Thg b (num % 8) th ∧ Same H H'
def L7 (sc t : Addr) (H : Hp) (σ : St) (H' : Hp) : Prop := ∃ (v2 v8 v10 : Option V) (k : Nat) (num : Int) (b : Int × Int) (th : V), σ = [some (.ref sc), some (.ref t), v2, some (.int k), some (.int num), some (.int b.1), some (.int b.2), some (.int (num % 8)), v8, some th, v10] ∧ lbs[k]? = some b ∧ (Thg b (num % 8) th ∨ th = .bl true) ∧ Same H H'
def L8 (sc t : Addr) (ms : List Int) (H : Hp) (σ : St) (H' : Hp) : Prop := ∃ (v2 v8 : Option V) (k : Nat) (num : Int) (b : Int × Int) (th : V) (pr : Addr), σ = [some (.ref sc), some (.ref t), v2, some (.int k), some (.int num), some (.int b.1), some (.int b.2), some (.int (num % 8)), v8, some th, some (.ref pr)] ∧ lbs[k]? = some b ∧ (Thg b (num % 8) th ∨ th = .bl true) ∧ H' pr = some (.lst (put1 ms k th)) ∧ Same H H'
def LC (H : Hp) (D : Addr) (i : Nat) (acc : List V) (H' : Hp) : Prop := ∃ ps : List Addr, acc = ps.map V.ref ∧ Paired (RwP H' D) (List.range i) ps ∧ Same H H' ∧ H' D = some (.lst (ps.map V.ref))
set_option maxHeartbeats 4000000 in
theorem law_fn {f : Addr} {fd : FuncData} (F : Fun K "law" "law" s_law f fd) (hb : Blt mg) (F__law_sorts : Own P w K mg base 10 "_law_sorts" [] sp_sorts) (F__law_good : Own P w K mg base 2 "_law_good" ["_law_cell"] sp_good) (F__law_right : Own P w K mg base 7 "_law_right" ["_law_told"] sp_right) (F__law_refused : Own P w K mg base 7 "_law_refused" ["_law_told"] sp_refused)
    (F__law_bounds : Own P w K mg base 1 "_law_bounds" [] sp_bounds) (F__law_mixed : Own P w K mg base 1 "_law_mixed" ["_law_cell", "_law_k"] sp_mixed) (F__law_cell_at : Own P w K mg base 1 "_law_cell_at" ["_law_script", "_law_k"] (sp_cell K)) : FnOk P w K mg base CX0 11 f fd ["_law_script"] (sp_law K) := by
  refine F.ok sc_law (fun vs H Q E h => ?_) (fun cdv A outer s H vs Q E hr h => ?_)
  · obtain ⟨a, ns, rfl, _⟩ := h
    rfl
  · obtain ⟨sc, ns, rfl, hS, h63, q⟩ := h
    have hu := hr.units
    have hu1 : (A.deeper (PyProof.Rows.envOfC "law" (defScope s_law) s.heap.objs.size f cdv)).units + 1 < cLine := by omega
    refine ⟨_, (@pss_cons _ _ _ _ _ (@ps_if _ _ _ _ _ _ _ _ (@pt_cmpR _ _ _ _ _ _ _ _ (op_neX hu) (@pe_fn0 _ _ _ _ _ _ _ _ F__law_sorts hr (by decide) (by rfl) (by decide)) (@pe_compD _ _ _ _ _ _ _ _ _ _ _ ["_law_way"] rfl cs_law_0 (@pi_range1 _ _ _ _ _ _ rfl (hb _ (by decide)) (@pa_cX _ _ _ _ _ (@pe_int _ _ _ _) (@pa_nil _) (by rfl)) (by rfl)) (fun _ _ _ _ => (@pg_name _ _ 0 _ cs_law_0.nd rfl (by first | exact Or.inl rfl | exact Or.inr rfl) (by first | exact .inl rfl | exact .inr rfl | assumption))) (fun _ _ _ _ => (@pf_nil _)) (fun _ _ _ _ => (@pe_comp _ _ _ _ _ _ _ _ _ _ _ ["_law_at"] ["_law_way"] [0] rfl _ cs_law_1 (@pi_range1 _ _ _ _ _ _ rfl (hb _ (by decide)) (@pa_cX _ _ _ _ _ (@pe_int _ _ _ _) (@pa_nil _) (by rfl)) (by rfl)) (fun _ _ _ _ => (@pg_name _ _ 0 _ cs_law_1.nd rfl (by first | exact Or.inl rfl | exact Or.inr rfl) (by first | exact .inl rfl | exact .inr rfl | assumption))) (fun _ _ _ _ => (@pf_nil _)) (fun _ _ _ _ => (@pe_cmpR _ _ _ _ _ _ _ _ op_eq (@pv _ 0 _ _ (by rfl) (by first | exact Or.inl rfl | exact Or.inr (Or.inl rfl) | exact Or.inr (Or.inr rfl)) (by decide) (by decide)) (@pv _ 1 _ _ (by rfl) (by first | exact Or.inl rfl | exact Or.inr (Or.inl rfl) | exact Or.inr (Or.inr rfl)) (by decide) (by decide)) (nomark _))) (by rfl) (by rfl) (by rfl) (by intro _; rfl))) (by intro _; rfl)) (nomark _)) (@pss_one _ _ _ (@ps_ret _ _ _ _ (@pe_bl _ _ _ _))) (@pss_nil _)) (@pss_cons _ _ _ _ _ (@ps_set _ _ 1 _ _ _ _ sc_law.nd rfl (by first | exact Or.inl rfl | exact Or.inr rfl) (@pe_fn _ _ _ _ _ _ _ _ _ _ _ F__law_good hr (@pa_cX _ _ _ _ _ (@pe_fn _ _ _ _ _ _ _ _ _ _ _ F__law_cell_at hr (@pa_cX _ _ _ _ _ (@pv _ 0 _ _ (by rfl) (by first | exact Or.inl rfl | exact Or.inr (Or.inl rfl) | exact Or.inr (Or.inr rfl)) (by decide) (by decide)) (@pa_cX _ _ _ _ _ (@pe_int _ _ _ _) (@pa_nil _) (by rfl)) (by rfl)) (by decide) (by rfl) (by decide) (by rfl) (by rfl)) (@pa_nil _) (by rfl)) (by decide) (by rfl) (by decide) (by rfl) (by rfl)) (by rfl) (by first | exact .inl rfl | exact .inr rfl | assumption)) (@pss_cons _ _ _ _ _ (@ps_if _ _ _ _ _ _ _ _ (@pt_not _ _ _ _ (@pt_truX _ _ _ (@pe_fn _ _ _ _ _ _ _ _ _ _ _ F__law_right hr (@pa_cX _ _ _ _ _ (@pv _ 1 _ _ (by rfl) (by first | exact Or.inl rfl | exact Or.inr (Or.inl rfl) | exact Or.inr (Or.inr rfl)) (by decide) (by decide)) (@pa_nil _) (by rfl)) (by decide) (by rfl) (by decide) (by rfl) (by rfl)) (by intro _; rfl))) (@pss_one _ _ _ (@ps_ret _ _ _ _ (@pe_bl _ _ _ _))) (@pss_nil _)) (@pss_cons _ _ _ _ _ (@ps_for _ _ _ _ _ _ _ _ PassesOwn.never rfl (@pi_listK _ K _ _ _ (@pe_slice _ _ _ _ _ _ _ _ _ _ (sl_listK K) (@pv _ 0 _ _ (by rfl) (by first | exact Or.inl rfl | exact Or.inr (Or.inl rfl) | exact Or.inr (Or.inr rfl)) (by decide) (by decide)) (@po_some _ _ _ (@pe_int _ _ _ _)) (@po_some _ _ _ (@pe_int _ _ _ _))) (by rfl)) (@pg_name _ _ 2 _ sc_law.nd rfl (by first | exact Or.inl rfl | exact Or.inr rfl) (by first | exact .inl rfl | exact .inr rfl | assumption)) (@pss_cons _ _ _ _ _ (@ps_set _ _ 3 _ _ _ _ sc_law.nd rfl (by first | exact Or.inl rfl | exact Or.inr rfl) (@pe_op _ _ _ _ _ _ _ _ op_mod (@pe_fn _ _ _ _ _ _ _ _ _ _ _ F__law_mixed hr (@pa_cX _ _ _ _ _ (@pv _ 2 _ _ (by rfl) (by first | exact Or.inl rfl | exact Or.inr (Or.inl rfl) | exact Or.inr (Or.inr rfl)) (by decide) (by decide)) (@pa_cX _ _ _ _ _ (@pe_int _ _ _ _) (@pa_nil _) (by rfl)) (by rfl)) (by decide) (by rfl) (by decide) (by rfl) (by rfl)) (@pe_int _ _ _ _)) (by rfl) (by first | exact .inl rfl | exact .inr rfl | assumption)) (@pss_cons _ _ _ _ _ (@ps_set _ _ 4 _ _ _ _ sc_law.nd rfl (by first | exact Or.inl rfl | exact Or.inr rfl) (@pe_fn _ _ _ _ _ _ _ _ _ _ _ F__law_mixed hr (@pa_cX _ _ _ _ _ (@pv _ 2 _ _ (by rfl) (by first | exact Or.inl rfl | exact Or.inr (Or.inl rfl) | exact Or.inr (Or.inr rfl)) (by decide) (by decide)) (@pa_cX _ _ _ _ _ (@pe_int _ _ _ _) (@pa_nil _) (by rfl)) (by rfl)) (by decide) (by rfl) (by decide) (by rfl) (by rfl)) (by rfl) (by first | exact .inl rfl | exact .inr rfl | assumption)) (@pss_cons _ _ _ _ _ (@ps_asg _ _ _ _ _ _ (@pe_ix _ _ _ _ _ _ _ (ix_get hu1) (@pe_fn0 _ _ _ _ _ _ _ _ F__law_bounds hr (by decide) (by rfl) (by decide)) (@pv _ 3 _ _ (by rfl) (by first | exact Or.inl rfl | exact Or.inr (Or.inl rfl) | exact Or.inr (Or.inr rfl)) (by decide) (by decide)) (fun _ _ => rfl)) (@pg_seqX _ _ _ _ 2 _ rfl (@pgs_cons _ _ _ _ _ (@pg_name _ _ 5 _ sc_law.nd rfl (by first | exact Or.inl rfl | exact Or.inr rfl) (by first | exact .inl rfl | exact .inr rfl | assumption)) (@pgs_cons _ _ _ _ _ (@pg_name _ _ 6 _ sc_law.nd rfl (by first | exact Or.inl rfl | exact Or.inr rfl) (by first | exact .inl rfl | exact .inr rfl | assumption)) (@pgs_nil _) (by rfl)) (by rfl)) (by rfl) (by rfl)) (by rfl) (by rfl) (by rfl)) (@pss_cons _ _ _ _ _ (@ps_set _ _ 7 _ _ _ _ sc_law.nd rfl (by first | exact Or.inl rfl | exact Or.inr rfl) (@pe_op _ _ _ _ _ _ _ _ op_mod (@pv _ 4 _ _ (by rfl) (by first | exact Or.inl rfl | exact Or.inr (Or.inl rfl) | exact Or.inr (Or.inr rfl)) (by decide) (by decide)) (@pe_int _ _ _ _)) (by rfl) (by first | exact .inl rfl | exact .inr rfl | assumption)) (@pss_cons _ _ _ _ _ (@ps_set _ _ 8 _ _ _ _ sc_law.nd rfl (by first | exact Or.inl rfl | exact Or.inr rfl) (@pe_op _ _ _ _ _ _ _ _ op_mod (@pe_op _ _ _ _ _ _ _ _ op_mul (@pe_op _ _ _ _ _ _ _ _ op_fdiv (@pv _ 4 _ _ (by rfl) (by first | exact Or.inl rfl | exact Or.inr (Or.inl rfl) | exact Or.inr (Or.inr rfl)) (by decide) (by decide)) (@pe_int _ _ _ _)) (@pe_int _ _ _ _)) (@pe_op _ _ _ _ _ _ _ _ op_pow (@pe_int _ _ _ _) (@pe_int _ _ _ _))) (by rfl) (by first | exact .inl rfl | exact .inr rfl | assumption)) (@pss_cons _ _ _ _ _ (@ps_set _ _ 9 _ _ _ _ sc_law.nd rfl (by first | exact Or.inl rfl | exact Or.inr rfl) (@pe_ix _ _ _ _ _ _ _ (ix_get hu1) (@pe_lst _ _ _ _ (@pa_cX _ _ _ _ _ (@pv _ 5 _ _ (by rfl) (by first | exact Or.inl rfl | exact Or.inr (Or.inl rfl) | exact Or.inr (Or.inr rfl)) (by decide) (by decide)) (@pa_cX _ _ _ _ _ (@pv _ 6 _ _ (by rfl) (by first | exact Or.inl rfl | exact Or.inr (Or.inl rfl) | exact Or.inr (Or.inr rfl)) (by decide) (by decide)) (@pa_cX _ _ _ _ _ (@pe_op _ _ _ _ _ _ _ _ op_sub (@pv _ 5 _ _ (by rfl) (by first | exact Or.inl rfl | exact Or.inr (Or.inl rfl) | exact Or.inr (Or.inr rfl)) (by decide) (by decide)) (@pe_int _ _ _ _)) (@pa_cX _ _ _ _ _ (@pe_op _ _ _ _ _ _ _ _ op_add (@pv _ 6 _ _ (by rfl) (by first | exact Or.inl rfl | exact Or.inr (Or.inl rfl) | exact Or.inr (Or.inr rfl)) (by decide) (by decide)) (@pe_int _ _ _ _)) (@pa_cX _ _ _ _ _ (@pe_op _ _ _ _ _ _ _ _ op_sub (@pe_op _ _ _ _ _ _ _ _ op_sub (@pv _ 5 _ _ (by rfl) (by first | exact Or.inl rfl | exact Or.inr (Or.inl rfl) | exact Or.inr (Or.inr rfl)) (by decide) (by decide)) (@pe_int _ _ _ _)) (@pv _ 8 _ _ (by rfl) (by first | exact Or.inl rfl | exact Or.inr (Or.inl rfl) | exact Or.inr (Or.inr rfl)) (by decide) (by decide))) (@pa_cX _ _ _ _ _ (@pe_op _ _ _ _ _ _ _ _ op_add (@pe_op _ _ _ _ _ _ _ _ op_add (@pv _ 6 _ _ (by rfl) (by first | exact Or.inl rfl | exact Or.inr (Or.inl rfl) | exact Or.inr (Or.inr rfl)) (by decide) (by decide)) (@pe_int _ _ _ _)) (@pv _ 8 _ _ (by rfl) (by first | exact Or.inl rfl | exact Or.inr (Or.inl rfl) | exact Or.inr (Or.inr rfl)) (by decide) (by decide))) (@pa_cX _ _ _ _ _ (@pe_non _ _ _) (@pa_cX _ _ _ _ _ (@pe_str _ _ _ _) (@pa_nil _) (by rfl)) (by rfl)) (by rfl)) (by rfl)) (by rfl)) (by rfl)) (by rfl)) (by rfl))) (@pv _ 7 _ _ (by rfl) (by first | exact Or.inl rfl | exact Or.inr (Or.inl rfl) | exact Or.inr (Or.inr rfl)) (by decide) (by decide)) (fun _ _ => rfl)) (by rfl) (by first | exact .inl rfl | exact .inr rfl | assumption)) (@pss_cons _ _ _ _ _ (@ps_if _ _ _ _ _ _ _ _ (@pt_cmpR _ _ _ _ _ _ _ _ op_eq (@pe_op _ _ _ _ _ _ _ _ op_mod (@pe_op _ _ _ _ _ _ _ _ op_fdiv (@pv _ 4 _ _ (by rfl) (by first | exact Or.inl rfl | exact Or.inr (Or.inl rfl) | exact Or.inr (Or.inr rfl)) (by decide) (by decide)) (@pe_int _ _ _ _)) (@pe_int _ _ _ _)) (@pe_int _ _ _ _) (nomark _)) (@pss_one _ _ _ (@ps_set _ _ 9 _ _ _ _ sc_law.nd rfl (by first | exact Or.inl rfl | exact Or.inr rfl) (@pe_bl _ _ _ _) (by rfl) (by first | exact .inl rfl | exact .inr rfl | assumption))) (@pss_nil _)) (@pss_cons _ _ _ _ _ (@ps_set _ _ 10 _ _ _ _ sc_law.nd rfl (by first | exact Or.inl rfl | exact Or.inr rfl) (@pe_op _ _ _ _ _ _ _ _ op_cat (@pe_op _ _ _ _ _ _ _ _ op_cat (@pe_slice _ _ _ _ _ _ _ _ _ _ sl_X (@pv _ 1 _ _ (by rfl) (by first | exact Or.inl rfl | exact Or.inr (Or.inl rfl) | exact Or.inr (Or.inr rfl)) (by decide) (by decide)) (@po_none _) (@po_some _ _ _ (@pv _ 3 _ _ (by rfl) (by first | exact Or.inl rfl | exact Or.inr (Or.inl rfl) | exact Or.inr (Or.inr rfl)) (by decide) (by decide)))) (@pe_lst _ _ _ _ (@pa_cX _ _ _ _ _ (@pv _ 9 _ _ (by rfl) (by first | exact Or.inl rfl | exact Or.inr (Or.inl rfl) | exact Or.inr (Or.inr rfl)) (by decide) (by decide)) (@pa_nil _) (by rfl)))) (@pe_slice _ _ _ _ _ _ _ _ _ _ sl_X (@pv _ 1 _ _ (by rfl) (by first | exact Or.inl rfl | exact Or.inr (Or.inl rfl) | exact Or.inr (Or.inr rfl)) (by decide) (by decide)) (@po_some _ _ _ (@pe_op _ _ _ _ _ _ _ _ op_add (@pv _ 3 _ _ (by rfl) (by first | exact Or.inl rfl | exact Or.inr (Or.inl rfl) | exact Or.inr (Or.inr rfl)) (by decide) (by decide)) (@pe_int _ _ _ _))) (@po_none _))) (by rfl) (by first | exact .inl rfl | exact .inr rfl | assumption)) (@pss_one _ _ _ (@ps_if _ _ _ _ _ _ _ _ (@PW.pt _ _ _ (@pw_or _ _ _ _ _ _ _ (@pt_truX _ _ _ (@pe_callB _ _ _ _ _ _ _ _ _ call_isiX rfl (hb _ (by decide)) bt_isinstance (@pa_cX _ _ _ _ _ (@pv _ 9 _ _ (by rfl) (by first | exact Or.inl rfl | exact Or.inr (Or.inl rfl) | exact Or.inr (Or.inr rfl)) (by decide) (by decide)) (@pa_cX _ _ _ _ _ (@pe_bltn _ _ (.ty "bool") _ _ rfl (hb _ (by decide)) bt_bool rfl (by decide) (by decide)) (@pa_nil _) (by rfl)) (by rfl)) (by decide) (by decide) (by rfl) (by rfl)) (by intro _; rfl)) (@pw_or1 _ _ _ _ (@pt_cmpR _ _ _ _ _ _ _ _ op_gt (@pv _ 7 _ _ (by rfl) (by first | exact Or.inl rfl | exact Or.inr (Or.inl rfl) | exact Or.inr (Or.inr rfl)) (by decide) (by decide)) (@pe_int _ _ _ _) (nomark _))))) (@pss_one _ _ _ (@ps_if _ _ _ _ _ _ _ _ (@pt_not _ _ _ _ (@pt_truX _ _ _ (@pe_fn _ _ _ _ _ _ _ _ _ _ _ F__law_refused hr (@pa_cX _ _ _ _ _ (@pv _ 10 _ _ (by rfl) (by first | exact Or.inl rfl | exact Or.inr (Or.inl rfl) | exact Or.inr (Or.inr rfl)) (by decide) (by decide)) (@pa_nil _) (by rfl)) (by decide) (by rfl) (by decide) (by rfl) (by rfl)) (by intro _; rfl))) (@pss_one _ _ _ (@ps_ret _ _ _ _ (@pe_bl _ _ _ _))) (@pss_nil _))) (@pss_one _ _ _ (@ps_if _ _ _ _ _ _ _ _ (@pt_not _ _ _ _ (@pt_truX _ _ _ (@pe_fn _ _ _ _ _ _ _ _ _ _ _ F__law_right hr (@pa_cX _ _ _ _ _ (@pv _ 10 _ _ (by rfl) (by first | exact Or.inl rfl | exact Or.inr (Or.inl rfl) | exact Or.inr (Or.inr rfl)) (by decide) (by decide)) (@pa_nil _) (by rfl)) (by decide) (by rfl) (by decide) (by rfl) (by rfl)) (by intro _; rfl))) (@pss_one _ _ _ (@ps_ret _ _ _ _ (@pe_bl _ _ _ _))) (@pss_nil _))))))))))))) (by intro _; rfl)) (@pss_one _ _ _ (@ps_ret _ _ _ _ (@pe_bl _ _ _ _))))))), ?_⟩
    refine use3 (LA H K sc ns) ?key ?go
    case go =>
      intro R' hR
      simp (maxSteps := 1000000) only [tComp_eq, tTruX, Nat.reduceSub, Nat.reduceAdd, iRng1, List.cons.injEq, tSeq, tIfS, tNot, tTest, tOp, tVar, tC, tRet, tAsg, gName, tNext, tCall, tCons, tNil, L2.start, List.map_cons, List.map_nil, List.length_cons, List.length_nil, List.replicate, List.cons_append, List.nil_append, List.getElem?_cons_zero, List.getElem?_cons_succ, List.set_cons_zero, List.set_cons_succ, Option.some.injEq, exists_eq_left', V.int.injEq, and_true, true_and, List.append_nil, sp_sorts]
      intro p1 H1 n1 hrw s1
      refine ⟨by decide, by decide, comp_range (m := 10) (by rw [sizeLine_eq]; decide) (LC H1) (fun D hD => ⟨[], rfl, .nil, .upd_new hD, upd_same⟩) ?_ ?_ ?_⟩
      · rintro D i acc H2 hD hi ⟨ps, rfl, pps, s2, eD⟩
        have := pps.length
        rw [List.length_range] at this
        exact ⟨eD, by rw [List.length_map]; omega⟩
      · rintro D i acc H2 hD hi ⟨ps, rfl, pps, s2, eD⟩
        simp (maxSteps := 1000000) only [tComp_eq, iRng1, tYes, cSt, List.drop_succ_cons, List.drop_zero, List.cons.injEq, if_true, tC, gName, tCons, tNil, List.map_nil, List.replicate, List.set_cons_zero, exists_eq_left', V.int.injEq, and_true, true_and, List.append_nil, List.map_nil]
        refine ⟨by decide, by decide, comp_pureR (lo := 0) (m := 10) (by rw [sizeLine_eq]; decide) (fun j => .bl (decide (j = 0 + (i : Int)))) (fun H4 j Q' hj s4 hq => ⟨rfl, by simp (maxSteps := 1000000) only [cSt, rEq_ii, tOp, tVar, List.map_cons, List.map_nil, List.replicate, List.cons_append, List.nil_append, List.getElem?_cons_zero, List.getElem?_cons_succ, List.set_cons_zero, Option.some.injEq, exists_eq_left', List.map_cons, List.map_nil, Option.join_some]; exact hq⟩) (fun D2 hD2 => ?_) (gName_mono 0)⟩
        rw [row_eq]
        have s3 : Same H2 (upd H2 D2 (.lst (rowV i))) := .upd_new hD2
        have hne : D2 ≠ D := fun h => by rw [h, eD] at hD2; cases hD2
        refine ⟨s3 _ _ eD, ps ++ [D2], by rw [List.map_append]; rfl, ?_, ?_, by rw [upd_same, List.map_append]; rfl⟩
        · rw [List.range_succ]
          exact paired_app (paired_imp (fun a b h => ⟨h.1, (upd_ne h.1).trans (s3 _ _ h.2)⟩) pps) (.cons ⟨hne, (upd_ne hne).trans upd_same⟩ .nil)
        · exact (s2.trans s3).upd hD
      · rintro D acc H2 hD ⟨ps, rfl, pps, s2, eD⟩
        have d1 := (dt_srt hrw).same s2
        have d2 := dt_srt (H := H2) (l := D) ⟨ps, eD, pps⟩
        refine neX_same d1 d2 dep_srt ⟨_, rfl, iteF ?_⟩
        have hS2 := s2.seq (s1.seq hS)
        simp (maxSteps := 1000000) only [Int.reduceLE, List.cons.injEq, exists_and_left, exists_eq_left', V.int.injEq, V.ref.injEq, and_true, true_and, and_assoc, sp_cell]
        exact ⟨ns, hS2, fun r => ⟨r, rfl, fun p4 ms H3 n3 e3 hin s3 => ⟨p4, ms, rfl, e3, hin, fun H4 s4 => ⟨true, rfl, iteF (hR _ _ ⟨p4, ms, rfl, s4 _ _ e3, hin, (s3.trans s4).seq hS2⟩)⟩⟩⟩⟩
    case key =>
      rintro σ H1 ⟨t, ms, rfl, et, hin, hS1⟩
      obtain ⟨cs, hcs⟩ := cutV_map ns (some 1) (some 31)
      have hml : ms.length = 10 := hin.length
      simp (maxSteps := 1000000) only [tFor_eq, iList, tSl, rSlL, tPart, tSeq, exists_and_left, tVar, tC, List.getElem?_cons_zero, Option.some.injEq, exists_eq_left', V.int.injEq, V.ref.injEq]
      refine ⟨_, hS1, ?_⟩
      rw [hcs]
      intro p2 n2
      generalize z2 : upd H1 p2 _ = H2
      obtain ⟨s2, e2⟩ := new_same z2 n2
      have et2 := s2 _ _ et
      refine ⟨⟨_, SqL.of e2⟩, for_list (xs := cs.map V.int) (fun _ => LK sc t H2) ⟨_, _, _, _, _, _, _, _, _, rfl, .refl _⟩ ?_ ?_ ?_⟩
      · rintro i σ H3 _ ⟨v2, v3, v4, v5, v6, v7, v8, v9, v10, rfl, s3⟩
        exact SqL.of (s3 _ _ e2)
      · rintro i cv σ H3 hcv ⟨v2, v3, v4, v5, v6, v7, v8, v9, v10, rfl, s3⟩
        rw [List.getElem?_map] at hcv
        obtain ⟨c, hc, rfl⟩ := Option.map_eq_some_iff.mp hcv
        have et3 := s3 _ _ et2
        dsimp only [gName]
        refine use6 (L6 sc t H3) ?key6 ?go6
        case go6 =>
          intro R' hR
          simp (maxSteps := 1000000) only [gSeqX, rGet, getO_l, gCons, gNil, upd_same, Int.reduceLT, Int.reduceLE, Nat.reduceAdd, List.cons.injEq, tSeq, exists_and_left, tOp, tVar, tC, rI, rI0, tAsg, gName, tCall, tCons, tNil, tLst, List.length_cons, List.length_nil, List.getElem?_cons_zero, List.getElem?_cons_succ, List.set_cons_zero, List.set_cons_succ, Option.some.injEq, exists_eq_left', V.int.injEq, V.ref.injEq, and_true, true_and, and_assoc, List.append_nil, sp_mixed, sp_bounds]
          rintro r r0 r1 num n0 n1 pb Hb nb ⟨ps, epb, pps⟩ sb
          have hk : (r % 10).toNat < lbs.length := by
            change (r % 10).toNat < 10
            omega
          have eb : lbs[(r % 10).toNat]? = some lbs[(r % 10).toNat] := List.getElem?_eq_getElem hk
          obtain ⟨tt, htt, ett⟩ := paired_get pps eb
          have hbs : ∀ b ∈ lbs, b.1 + 1 ≤ b.2 := by decide
          have hb1 := hbs _ (List.getElem_mem hk)
          generalize lbs[(r % 10).toNat] = bd at ett eb hb1
          obtain ⟨lo, hi⟩ := bd
          dsimp only at ett hb1
          have hkk : (((r % 10).toNat : Nat) : Int) = r % 10 := Int.toNat_of_nonneg (by omega)
          rw [← hkk]
          have gt : getO (.lst (ps.map V.ref)) (V.int (((r % 10).toNat : Nat) : Int)) = some (.ref tt) := by
            change atI (ps.map V.ref) (((r % 10).toNat : Nat) : Int) = _
            rw [atI_nat', List.getElem?_map, htt]
            rfl
          generalize (r % 10).toNat = k at gt eb
          refine ⟨_, epb, _, gt, tt, rfl, _, ett, _, rfl, rfl, _, _, rfl, _, _, rfl, rfl, ?_⟩
          simp (maxSteps := 1000000) only [exists_eq_left', V.int.injEq]
          have hfar : 0 ≤ num / 8 * 1000003 % 10 ^ Int.toNat 15 := Int.emod_nonneg _ (by decide)
          generalize num / 8 * 1000003 % 10 ^ Int.toNat 15 = far at hfar
          refine ⟨⟨by decide, by decide⟩, .inr ⟨by decide, by decide⟩, ⟨by decide, by decide, by decide⟩, by decide, by rw [sizeLine_eq]; decide, fun p hp => ?_⟩
          rw [atI_pos (by omega)]
          have h8 : num % 8 = 0 ∨ num % 8 = 1 ∨ num % 8 = 2 ∨ num % 8 = 3 ∨ num % 8 = 4 ∨ num % 8 = 5 ∨ num % 8 = 6 ∨ num % 8 = 7 := by omega
          rcases h8 with h | h | h | h | h | h | h | h
          · exact ⟨.int (lo), by rw [h]; rfl, hR _ _ ⟨_, _, _, k, num, (lo, hi), _, rfl, eb, n0, ⟨.int _, fun _ => ⟨lo, rfl, show lo ≤ lo by omega, show lo ≤ hi by omega⟩, fun z => absurd z (by omega), fun z e => nomatch e⟩, sb.trans (.upd_new hp)⟩⟩
          · exact ⟨.int (hi), by rw [h]; rfl, hR _ _ ⟨_, _, _, k, num, (lo, hi), _, rfl, eb, n0, ⟨.int _, fun _ => ⟨hi, rfl, show lo ≤ hi by omega, show hi ≤ hi by omega⟩, fun z => absurd z (by omega), fun z e => nomatch e⟩, sb.trans (.upd_new hp)⟩⟩
          · exact ⟨.int (lo - 1), by rw [h]; rfl, hR _ _ ⟨_, _, _, k, num, (lo, hi), _, rfl, eb, n0, ⟨.int _, fun z => absurd z (by omega), fun _ => by change (decide (lo ≤ lo - 1) && decide (lo - 1 ≤ hi)) = false; rw [decide_eq_false (show ¬ lo ≤ lo - 1 by omega)]; rfl, fun z e => nomatch e⟩, sb.trans (.upd_new hp)⟩⟩
          · exact ⟨.int (hi + 1), by rw [h]; rfl, hR _ _ ⟨_, _, _, k, num, (lo, hi), _, rfl, eb, n0, ⟨.int _, fun z => absurd z (by omega), fun _ => by change (decide (lo ≤ hi + 1) && decide (hi + 1 ≤ hi)) = false; rw [decide_eq_false (show ¬ hi + 1 ≤ hi by omega), Bool.and_false], fun z e => nomatch e⟩, sb.trans (.upd_new hp)⟩⟩
          · exact ⟨.int (lo - 2 - far), by rw [h]; rfl, hR _ _ ⟨_, _, _, k, num, (lo, hi), _, rfl, eb, n0, ⟨.int _, fun z => absurd z (by omega), fun _ => by change (decide (lo ≤ lo - 2 - far) && decide (lo - 2 - far ≤ hi)) = false; rw [decide_eq_false (show ¬ lo ≤ lo - 2 - far by omega)]; rfl, fun z e => nomatch e⟩, sb.trans (.upd_new hp)⟩⟩
          · exact ⟨.int (hi + 2 + far), by rw [h]; rfl, hR _ _ ⟨_, _, _, k, num, (lo, hi), _, rfl, eb, n0, ⟨.int _, fun z => absurd z (by omega), fun _ => by change (decide (lo ≤ hi + 2 + far) && decide (hi + 2 + far ≤ hi)) = false; rw [decide_eq_false (show ¬ hi + 2 + far ≤ hi by omega), Bool.and_false], fun z e => nomatch e⟩, sb.trans (.upd_new hp)⟩⟩
          · exact ⟨.non, by rw [h]; rfl, hR _ _ ⟨_, _, _, k, num, (lo, hi), _, rfl, eb, n0, ⟨.non, fun z => absurd z (by omega), fun _ => rfl, fun z e => nomatch e⟩, sb.trans (.upd_new hp)⟩⟩
          · exact ⟨.str (Str.ofString "3"), by rw [h]; rfl, hR _ _ ⟨_, _, _, k, num, (lo, hi), _, rfl, eb, n0, ⟨.str _, fun z => absurd z (by omega), fun _ => rfl, fun z e => nomatch e⟩, sb.trans (.upd_new hp)⟩⟩
        case key6 =>
          rintro σ H4 ⟨v2, v8, v10, k, num, b, th, rfl, hbk, hnum, T, s4⟩
          have et4 := s4 _ _ et3
          refine use1 (L7 sc t H4) ?key7 ?go7
          case go7 =>
            intro R' hR
            simp (maxSteps := 1000000) only [Int.reduceLT, rEq_ii, tSeq, exists_and_left, tIfS, tTest, tOp, tVar, tC, rI, tAsg, gName, tNext, List.getElem?_cons_zero, List.getElem?_cons_succ, List.set_cons_zero, List.set_cons_succ, Option.some.injEq, exists_eq_left', V.int.injEq, V.bl.injEq, true_and]
            refine ⟨⟨by decide, by decide⟩, ite2 (fun _ => ?_) fun _ => ?_⟩
            · exact hR _ _ ⟨_, _, _, k, num, b, _, rfl, hbk, .inr rfl, .refl _⟩
            · exact hR _ _ ⟨_, _, _, k, num, b, th, rfl, hbk, .inl T, .refl _⟩
          case key7 =>
          clear hbk T
          rintro σ H5 ⟨v2, v8, v10, k, num, b, th, rfl, hbk, T, s5⟩
          have et5 := s5 _ _ et4
          have hk10 : k < 10 := (List.getElem?_eq_some_iff.mp hbk).1
          refine use1 (L8 sc t ms H5) ?key8 ?go8
          case go8 =>
            intro R' hR
            simp (maxSteps := 1000000) only [rSlX, upd_same, HO.lst.injEq, Nat.reduceAdd, tSl, tNoPart, tPart, rCat, tSeq, exists_and_left, tOp, tVar, tC, rI0, tAsg, gName, tCons, tNil, tLst, List.length_cons, List.length_nil, List.getElem?_cons_zero, List.getElem?_cons_succ, List.set_cons_zero, List.set_cons_succ, Option.some.injEq, exists_eq_left', V.int.injEq, V.ref.injEq, et5]
            rw [cutV_take _ (by omega), Int.toNat_natCast]
            intro p6 n6
            generalize z6 : upd H5 p6 _ = H6
            obtain ⟨s6, e6⟩ := new_same z6 n6
            refine ⟨by rw [sizeLine_eq]; decide, ?_⟩
            intro p7 n7
            generalize z7 : upd H6 p7 _ = H7
            obtain ⟨s7, e7⟩ := new_same z7 n7
            refine ⟨_, s7 _ _ e6, by rw [List.length_take, List.length_map, sizeLine_eq]; omega, ?_⟩
            intro p8 n8
            generalize z8 : upd H7 p8 _ = H8
            obtain ⟨s8, e8⟩ := new_same z8 n8
            have et8 := (s6.trans (s7.trans s8)) _ _ et5
            refine ⟨_, et8, ?_⟩
            rw [cutV_drop _ (by omega), show ((k : Int) + 1).toNat = k + 1 by omega]
            intro p9 n9
            generalize z9 : upd H8 p9 _ = H9
            obtain ⟨s9, e9⟩ := new_same z9 n9
            refine ⟨_, s9 _ _ e8, by simp only [List.length_append, List.length_take, List.length_drop, List.length_map, List.length_singleton, sizeLine_eq]; omega, ?_⟩
            intro p10 n10
            generalize z10 : upd H9 p10 _ = H10
            obtain ⟨s10, e10⟩ := new_same z10 n10
            exact hR _ _ ⟨_, _, k, num, b, th, p10, rfl, hbk, T, e10, s6.trans (s7.trans (s8.trans (s9.trans s10)))⟩
          case key8 =>
          clear hbk T hk10
          rintro σ H6 ⟨v2, v8, k, num, b, th, pr, rfl, hbk, T, er, s6⟩
          have hk10 : k < 10 := (List.getElem?_eq_some_iff.mp hbk).1
          obtain ⟨m, hm⟩ := mv_of (put1_len (v := th) hml hk10)
          have fall : ∀ D : Hp → Prop, okV th b.1 b.2 = false → PlV th → (∀ H7, Same H6 H7 → D H7) → ∃ (a : Addr) (m : Mv), [V.ref pr] = [.ref a] ∧ H6 a = some (.lst m.l) ∧ (∀ v ∈ m.l, PlV v) ∧ ¬ okAll m.l ∧ ∀ H', Same H6 H' → D H' := fun D h1 h2 h3 =>
            ⟨pr, m, rfl, by rw [hm]; exact er, by rw [hm]; exact put1_pl h2, by rw [hm]; exact put1_bad hml hbk h1, h3⟩
          rcases T with T | rfl
          · by_cases hw : num % 8 ≤ 1
            · obtain ⟨n, rfl, g1, g2⟩ := T.good hw
              have hw1 : decide (1 < num % 8) = false := decide_eq_false (by omega)
              simp (maxSteps := 1000000) only [rIsIX, tyX_i, V.ty.injEq, kT_inbo, tTruX, truX_b, V.ty.injEq, List.cons.injEq, exists_and_left, if_false, if_true, Bool.false_eq_true, tIfS, tOr, tNot, tTest, tOp, tVar, tC, rI0, tRet, tNext, tCall, tCons, tNil, tCB, List.getElem?_cons_zero, List.getElem?_cons_succ, Option.some.injEq, exists_eq_left', V.int.injEq, V.bl.injEq, and_true, and_assoc, List.append_nil, hw1]
              exact ⟨pr, _, rfl, by rw [← put1_int]; exact er, put1_in hin hbk g1 g2, fun H7 s7 => ⟨true, rfl, iteF ⟨_, _, _, _, _, _, _, _, _, rfl, s3.trans (s4.trans (s5.trans (s6.trans s7)))⟩⟩⟩
            · have hw1 : decide (1 < num % 8) = true := decide_eq_true (by omega)
              have bd := T.bad (by omega)
              have nb := T.nb
              have pl := T.pl
              clear T
              cases pl with
              | bl z => exact absurd rfl (nb z)
              | int z => simp (maxSteps := 1000000) only [rIsIX, tyX_i, V.ty.injEq, kT_inbo, tTruX, truX_b, V.ty.injEq, List.cons.injEq, exists_and_left, if_false, if_true, Bool.false_eq_true, tIfS, tOr, tNot, tTest, tOp, tVar, tC, rI0, tRet, tNext, tCall, tCons, tNil, tCB, List.getElem?_cons_zero, List.getElem?_cons_succ, Option.some.injEq, exists_eq_left', V.int.injEq, V.bl.injEq, and_true, and_assoc, List.append_nil, hw1]; exact fall _ bd (.int _) fun H7 s7 => ⟨true, rfl, iteF ⟨_, _, _, _, _, _, _, _, _, rfl, s3.trans (s4.trans (s5.trans (s6.trans s7)))⟩⟩
              | non => simp (maxSteps := 1000000) only [rIsIX, tyX_n, V.ty.injEq, kT_Nobo, tTruX, truX_b, V.ty.injEq, List.cons.injEq, exists_and_left, if_false, if_true, Bool.false_eq_true, tIfS, tOr, tNot, tTest, tOp, tVar, tC, rI0, tRet, tNext, tCall, tCons, tNil, tCB, List.getElem?_cons_zero, List.getElem?_cons_succ, Option.some.injEq, exists_eq_left', V.int.injEq, V.bl.injEq, and_true, and_assoc, List.append_nil, hw1]; exact fall _ bd .non fun H7 s7 => ⟨true, rfl, iteF ⟨_, _, _, _, _, _, _, _, _, rfl, s3.trans (s4.trans (s5.trans (s6.trans s7)))⟩⟩
              | str z => simp (maxSteps := 1000000) only [rIsIX, tyX_s, V.ty.injEq, kT_stbo, tTruX, truX_b, V.ty.injEq, List.cons.injEq, exists_and_left, if_false, if_true, Bool.false_eq_true, tIfS, tOr, tNot, tTest, tOp, tVar, tC, rI0, tRet, tNext, tCall, tCons, tNil, tCB, List.getElem?_cons_zero, List.getElem?_cons_succ, Option.some.injEq, exists_eq_left', V.int.injEq, V.bl.injEq, and_true, and_assoc, List.append_nil, hw1]; exact fall _ bd (.str _) fun H7 s7 => ⟨true, rfl, iteF ⟨_, _, _, _, _, _, _, _, _, rfl, s3.trans (s4.trans (s5.trans (s6.trans s7)))⟩⟩
          · simp (maxSteps := 1000000) only [rIsIX, tyX_b, V.ty.injEq, kT_bobo, tTruX, truX_b, V.ty.injEq, List.cons.injEq, exists_and_left, if_true, tIfS, tOr, tNot, tTest, tOp, tVar, tC, rI0, tRet, tNext, tCall, tCons, tNil, tCB, List.getElem?_cons_zero, List.getElem?_cons_succ, Option.some.injEq, exists_eq_left', V.int.injEq, V.bl.injEq, and_true, and_assoc, List.append_nil]
            exact fall _ rfl (.bl _) fun H7 s7 => ⟨true, rfl, iteF ⟨_, _, _, _, _, _, _, _, _, rfl, s3.trans (s4.trans (s5.trans (s6.trans s7)))⟩⟩
      · rintro σ H3 ⟨v2, v3, v4, v5, v6, v7, v8, v9, v10, rfl, s3⟩
        simp (maxSteps := 1000000) only [tC, tRet]
        exact q _
end
end K71
namespace K71
open PySem L2
section
variable {P : Program} {w : World} {K : PySem.W.Frag} {mg : Str → Option Value} {C : Addr}
theorem mk_Measures {h : Heap} (X : K.In h) (G : h.Ns mainGlobals mg) {C f0 f1 : Addr} {od0 an0 od1 an1 : Option Addr} {sl0 sl1 : Array (Option Value)} {oc0 kV0 dc0 pm0 cd0 ct0 oc1 kV1 dc1 pm1 cd1 ct1 : Value}
    (aC : PySem.W.nsIn K mainGlobals "Measures" = some (some (.ref C))) (pg : PySem.W.plainGet K C Str.empty = true) (hd : PySem.W.hasDictIn K C = true) (po : PySem.W.plainOver K C = true) (sa : PySem.W.findIn K (.ref C) "__setattr__" = some (some (.builtin "object.__setattr__")))
    (n0 : PySem.W.findIn K (.ref C) "hands" = some none) (n1 : PySem.W.findIn K (.ref C) "lag" = some none) (n2 : PySem.W.findIn K (.ref C) "miss" = some none) (n3 : PySem.W.findIn K (.ref C) "raise_each" = some none) (n4 : PySem.W.findIn K (.ref C) "count" = some none) (n5 : PySem.W.findIn K (.ref C) "room" = some none) (n6 : PySem.W.findIn K (.ref C) "places" = some none) (n7 : PySem.W.findIn K (.ref C) "window" = some none) (n8 : PySem.W.findIn K (.ref C) "wait" = some none) (n9 : PySem.W.findIn K (.ref C) "keep" = some none) (mk : PySem.W.makesIn K C = true) (kc : PySem.W.keepIn K (.ref C) = true)
    (a0 : PySem.W.findIn K (.ref C) "__init__" = some (some (.ref f0))) (i0 : PySem.W.isFn K (.ref f0) = true) (l0 : K.lookup f0 = some ⟨oc0, od0, .func (PySem.W.fnOf "__init__" "Measures.__init__" (defArgs s_Measures___init__) (defBody s_Measures___init__) (defScope s_Measures___init__) .none kV0 dc0 pm0 an0 cd0 ct0), sl0⟩) (c0 : PySem.W.codeIn K cd0 "Measures.__init__" = true) (k0 : PySem.W.keepIn K (.ref f0) = true)
    (a1 : PySem.W.findIn K (.ref C) "numbers" = some (some (.ref f1))) (i1 : PySem.W.isFn K (.ref f1) = true) (l1 : K.lookup f1 = some ⟨oc1, od1, .func (PySem.W.fnOf "numbers" "Measures.numbers" (defArgs s_Measures_numbers) (defBody s_Measures_numbers) (defScope s_Measures_numbers) .none kV1 dc1 pm1 an1 cd1 ct1), sl1⟩) (c1 : PySem.W.codeIn K cd1 "Measures.numbers" = true) (k1 : PySem.W.keepIn K (.ref f1) = true)
    : ∃ C, ClsD K mg "Measures" C at_Measures ∧ DefI K C "Measures.__init__" s_Measures___init__ ∧ DefM K C "numbers" "Measures.numbers" s_Measures_numbers := by
  refine ⟨C, ⟨PySem.W.mg_of X G aC, ⟨pg, hd, po, sa⟩, fun f hf => ?_⟩, defI_mk a0 i0 l0 c0 k0 mk kc, defM_mk a1 i1 l1 c1 k1⟩
  simp only [List.mem_cons, List.not_mem_nil, or_false] at hf
  rcases hf with rfl | rfl | rfl | rfl | rfl | rfl | rfl | rfl | rfl | rfl
  · exact n0
  · exact n1
  · exact n2
  · exact n3
  · exact n4
  · exact n5
  · exact n6
  · exact n7
  · exact n8
  · exact n9
theorem mk_Road {h : Heap} (X : K.In h) (G : h.Ns mainGlobals mg) {C f0 f1 f2 : Addr} {od0 an0 od1 an1 od2 an2 : Option Addr} {sl0 sl1 sl2 : Array (Option Value)} {oc0 kV0 dc0 pm0 cd0 ct0 oc1 kV1 dc1 pm1 cd1 ct1 oc2 kV2 dc2 pm2 cd2 ct2 : Value}
    (aC : PySem.W.nsIn K mainGlobals "Road" = some (some (.ref C))) (pg : PySem.W.plainGet K C Str.empty = true) (hd : PySem.W.hasDictIn K C = true) (po : PySem.W.plainOver K C = true) (sa : PySem.W.findIn K (.ref C) "__setattr__" = some (some (.builtin "object.__setattr__")))
    (n0 : PySem.W.findIn K (.ref C) "deeds" = some none) (n1 : PySem.W.findIn K (.ref C) "last_sent" = some none) (n2 : PySem.W.findIn K (.ref C) "last_asked" = some none) (n3 : PySem.W.findIn K (.ref C) "underway" = some none) (mk : PySem.W.makesIn K C = true) (kc : PySem.W.keepIn K (.ref C) = true)
    (a0 : PySem.W.findIn K (.ref C) "__init__" = some (some (.ref f0))) (i0 : PySem.W.isFn K (.ref f0) = true) (l0 : K.lookup f0 = some ⟨oc0, od0, .func (PySem.W.fnOf "__init__" "Road.__init__" (defArgs s_Road___init__) (defBody s_Road___init__) (defScope s_Road___init__) .none kV0 dc0 pm0 an0 cd0 ct0), sl0⟩) (c0 : PySem.W.codeIn K cd0 "Road.__init__" = true) (k0 : PySem.W.keepIn K (.ref f0) = true)
    (a1 : PySem.W.findIn K (.ref C) "deed_of" = some (some (.ref f1))) (i1 : PySem.W.isFn K (.ref f1) = true) (l1 : K.lookup f1 = some ⟨oc1, od1, .func (PySem.W.fnOf "deed_of" "Road.deed_of" (defArgs s_Road_deed_of) (defBody s_Road_deed_of) (defScope s_Road_deed_of) .none kV1 dc1 pm1 an1 cd1 ct1), sl1⟩) (c1 : PySem.W.codeIn K cd1 "Road.deed_of" = true) (k1 : PySem.W.keepIn K (.ref f1) = true)
    (a2 : PySem.W.findIn K (.ref C) "send" = some (some (.ref f2))) (i2 : PySem.W.isFn K (.ref f2) = true) (l2 : K.lookup f2 = some ⟨oc2, od2, .func (PySem.W.fnOf "send" "Road.send" (defArgs s_Road_send) (defBody s_Road_send) (defScope s_Road_send) .none kV2 dc2 pm2 an2 cd2 ct2), sl2⟩) (c2 : PySem.W.codeIn K cd2 "Road.send" = true) (k2 : PySem.W.keepIn K (.ref f2) = true)
    : ∃ C, ClsD K mg "Road" C at_Road ∧ DefI K C "Road.__init__" s_Road___init__ ∧ DefM K C "deed_of" "Road.deed_of" s_Road_deed_of ∧ DefM K C "send" "Road.send" s_Road_send := by
  refine ⟨C, ⟨PySem.W.mg_of X G aC, ⟨pg, hd, po, sa⟩, fun f hf => ?_⟩, defI_mk a0 i0 l0 c0 k0 mk kc, defM_mk a1 i1 l1 c1 k1, defM_mk a2 i2 l2 c2 k2⟩
  simp only [List.mem_cons, List.not_mem_nil, or_false] at hf
  rcases hf with rfl | rfl | rfl | rfl
  · exact n0
  · exact n1
  · exact n2
  · exact n3
theorem mk_Teller {h : Heap} (X : K.In h) (G : h.Ns mainGlobals mg) {C f0 f1 : Addr} {od0 an0 od1 an1 : Option Addr} {sl0 sl1 : Array (Option Value)} {oc0 kV0 dc0 pm0 cd0 ct0 oc1 kV1 dc1 pm1 cd1 ct1 : Value}
    (aC : PySem.W.nsIn K mainGlobals "Teller" = some (some (.ref C))) (pg : PySem.W.plainGet K C Str.empty = true) (hd : PySem.W.hasDictIn K C = true) (po : PySem.W.plainOver K C = true) (sa : PySem.W.findIn K (.ref C) "__setattr__" = some (some (.builtin "object.__setattr__")))
    (n0 : PySem.W.findIn K (.ref C) "window" = some none) (n1 : PySem.W.findIn K (.ref C) "wait" = some none) (n2 : PySem.W.findIn K (.ref C) "base" = some none) (n3 : PySem.W.findIn K (.ref C) "top" = some none) (n4 : PySem.W.findIn K (.ref C) "state" = some none) (n5 : PySem.W.findIn K (.ref C) "things" = some none) (n6 : PySem.W.findIn K (.ref C) "goings" = some none) (mk : PySem.W.makesIn K C = true) (kc : PySem.W.keepIn K (.ref C) = true)
    (a0 : PySem.W.findIn K (.ref C) "__init__" = some (some (.ref f0))) (i0 : PySem.W.isFn K (.ref f0) = true) (l0 : K.lookup f0 = some ⟨oc0, od0, .func (PySem.W.fnOf "__init__" "Teller.__init__" (defArgs s_Teller___init__) (defBody s_Teller___init__) (defScope s_Teller___init__) .none kV0 dc0 pm0 an0 cd0 ct0), sl0⟩) (c0 : PySem.W.codeIn K cd0 "Teller.__init__" = true) (k0 : PySem.W.keepIn K (.ref f0) = true)
    (a1 : PySem.W.findIn K (.ref C) "put" = some (some (.ref f1))) (i1 : PySem.W.isFn K (.ref f1) = true) (l1 : K.lookup f1 = some ⟨oc1, od1, .func (PySem.W.fnOf "put" "Teller.put" (defArgs s_Teller_put) (defBody s_Teller_put) (defScope s_Teller_put) .none kV1 dc1 pm1 an1 cd1 ct1), sl1⟩) (c1 : PySem.W.codeIn K cd1 "Teller.put" = true) (k1 : PySem.W.keepIn K (.ref f1) = true)
    : ∃ C, ClsD K mg "Teller" C at_Teller ∧ DefI K C "Teller.__init__" s_Teller___init__ ∧ DefM K C "put" "Teller.put" s_Teller_put := by
  refine ⟨C, ⟨PySem.W.mg_of X G aC, ⟨pg, hd, po, sa⟩, fun f hf => ?_⟩, defI_mk a0 i0 l0 c0 k0 mk kc, defM_mk a1 i1 l1 c1 k1⟩
  simp only [List.mem_cons, List.not_mem_nil, or_false] at hf
  rcases hf with rfl | rfl | rfl | rfl | rfl | rfl | rfl
  · exact n0
  · exact n1
  · exact n2
  · exact n3
  · exact n4
  · exact n5
  · exact n6
theorem mk_Book {h : Heap} (X : K.In h) (G : h.Ns mainGlobals mg) {C f0 f1 : Addr} {od0 an0 od1 an1 : Option Addr} {sl0 sl1 : Array (Option Value)} {oc0 kV0 dc0 pm0 cd0 ct0 oc1 kV1 dc1 pm1 cd1 ct1 : Value}
    (aC : PySem.W.nsIn K mainGlobals "Book" = some (some (.ref C))) (pg : PySem.W.plainGet K C Str.empty = true) (hd : PySem.W.hasDictIn K C = true) (po : PySem.W.plainOver K C = true) (sa : PySem.W.findIn K (.ref C) "__setattr__" = some (some (.builtin "object.__setattr__")))
    (n0 : PySem.W.findIn K (.ref C) "last_told" = some none) (n1 : PySem.W.findIn K (.ref C) "deeds" = some none) (mk : PySem.W.makesIn K C = true) (kc : PySem.W.keepIn K (.ref C) = true)
    (a0 : PySem.W.findIn K (.ref C) "__init__" = some (some (.ref f0))) (i0 : PySem.W.isFn K (.ref f0) = true) (l0 : K.lookup f0 = some ⟨oc0, od0, .func (PySem.W.fnOf "__init__" "Book.__init__" (defArgs s_Book___init__) (defBody s_Book___init__) (defScope s_Book___init__) .none kV0 dc0 pm0 an0 cd0 ct0), sl0⟩) (c0 : PySem.W.codeIn K cd0 "Book.__init__" = true) (k0 : PySem.W.keepIn K (.ref f0) = true)
    (a1 : PySem.W.findIn K (.ref C) "bind" = some (some (.ref f1))) (i1 : PySem.W.isFn K (.ref f1) = true) (l1 : K.lookup f1 = some ⟨oc1, od1, .func (PySem.W.fnOf "bind" "Book.bind" (defArgs s_Book_bind) (defBody s_Book_bind) (defScope s_Book_bind) .none kV1 dc1 pm1 an1 cd1 ct1), sl1⟩) (c1 : PySem.W.codeIn K cd1 "Book.bind" = true) (k1 : PySem.W.keepIn K (.ref f1) = true)
    : ∃ C, ClsD K mg "Book" C at_Book ∧ DefI K C "Book.__init__" s_Book___init__ ∧ DefM K C "bind" "Book.bind" s_Book_bind := by
  refine ⟨C, ⟨PySem.W.mg_of X G aC, ⟨pg, hd, po, sa⟩, fun f hf => ?_⟩, defI_mk a0 i0 l0 c0 k0 mk kc, defM_mk a1 i1 l1 c1 k1⟩
  simp only [List.mem_cons, List.not_mem_nil, or_false] at hf
  rcases hf with rfl | rfl
  · exact n0
  · exact n1
theorem mk_Net {h : Heap} (X : K.In h) (G : h.Ns mainGlobals mg) {C f0 : Addr} {od0 an0 : Option Addr} {sl0 : Array (Option Value)} {oc0 kV0 dc0 pm0 cd0 ct0 : Value}
    (aC : PySem.W.nsIn K mainGlobals "Net" = some (some (.ref C))) (pg : PySem.W.plainGet K C Str.empty = true) (hd : PySem.W.hasDictIn K C = true) (po : PySem.W.plainOver K C = true) (sa : PySem.W.findIn K (.ref C) "__setattr__" = some (some (.builtin "object.__setattr__")))
    (n0 : PySem.W.findIn K (.ref C) "turn" = some none) (n1 : PySem.W.findIn K (.ref C) "last_prices" = some none) (n2 : PySem.W.findIn K (.ref C) "lines_there" = some none) (n3 : PySem.W.findIn K (.ref C) "changes" = some none) (n4 : PySem.W.findIn K (.ref C) "wishes" = some none) (n5 : PySem.W.findIn K (.ref C) "last_ahead" = some none) (n6 : PySem.W.findIn K (.ref C) "hands" = some none) (n7 : PySem.W.findIn K (.ref C) "roads" = some none) (n8 : PySem.W.findIn K (.ref C) "told_rows" = some none) (mk : PySem.W.makesIn K C = true) (kc : PySem.W.keepIn K (.ref C) = true)
    (a0 : PySem.W.findIn K (.ref C) "__init__" = some (some (.ref f0))) (i0 : PySem.W.isFn K (.ref f0) = true) (l0 : K.lookup f0 = some ⟨oc0, od0, .func (PySem.W.fnOf "__init__" "Net.__init__" (defArgs s_Net___init__) (defBody s_Net___init__) (defScope s_Net___init__) .none kV0 dc0 pm0 an0 cd0 ct0), sl0⟩) (c0 : PySem.W.codeIn K cd0 "Net.__init__" = true) (k0 : PySem.W.keepIn K (.ref f0) = true)
    : ∃ C, ClsD K mg "Net" C at_Net ∧ DefI K C "Net.__init__" s_Net___init__ := by
  refine ⟨C, ⟨PySem.W.mg_of X G aC, ⟨pg, hd, po, sa⟩, fun f hf => ?_⟩, defI_mk a0 i0 l0 c0 k0 mk kc⟩
  simp only [List.mem_cons, List.not_mem_nil, or_false] at hf
  rcases hf with rfl | rfl | rfl | rfl | rfl | rfl | rfl | rfl | rfl
  · exact n0
  · exact n1
  · exact n2
  · exact n3
  · exact n4
  · exact n5
  · exact n6
  · exact n7
  · exact n8
theorem mk_Desk {h : Heap} (X : K.In h) (G : h.Ns mainGlobals mg) {C f0 f1 : Addr} {od0 an0 od1 an1 : Option Addr} {sl0 sl1 : Array (Option Value)} {oc0 kV0 dc0 pm0 cd0 ct0 oc1 kV1 dc1 pm1 cd1 ct1 : Value}
    (aC : PySem.W.nsIn K mainGlobals "Desk" = some (some (.ref C))) (pg : PySem.W.plainGet K C Str.empty = true) (hd : PySem.W.hasDictIn K C = true) (po : PySem.W.plainOver K C = true) (sa : PySem.W.findIn K (.ref C) "__setattr__" = some (some (.builtin "object.__setattr__")))
    (n0 : PySem.W.findIn K (.ref C) "net" = some none) (n1 : PySem.W.findIn K (.ref C) "plan" = some none) (mk : PySem.W.makesIn K C = true) (kc : PySem.W.keepIn K (.ref C) = true)
    (a0 : PySem.W.findIn K (.ref C) "__init__" = some (some (.ref f0))) (i0 : PySem.W.isFn K (.ref f0) = true) (l0 : K.lookup f0 = some ⟨oc0, od0, .func (PySem.W.fnOf "__init__" "Desk.__init__" (defArgs s_Desk___init__) (defBody s_Desk___init__) (defScope s_Desk___init__) .none kV0 dc0 pm0 an0 cd0 ct0), sl0⟩) (c0 : PySem.W.codeIn K cd0 "Desk.__init__" = true) (k0 : PySem.W.keepIn K (.ref f0) = true)
    (a1 : PySem.W.findIn K (.ref C) "say" = some (some (.ref f1))) (i1 : PySem.W.isFn K (.ref f1) = true) (l1 : K.lookup f1 = some ⟨oc1, od1, .func (PySem.W.fnOf "say" "Desk.say" (defArgs s_Desk_say) (defBody s_Desk_say) (defScope s_Desk_say) .none kV1 dc1 pm1 an1 cd1 ct1), sl1⟩) (c1 : PySem.W.codeIn K cd1 "Desk.say" = true) (k1 : PySem.W.keepIn K (.ref f1) = true)
    : ∃ C, ClsD K mg "Desk" C at_Desk ∧ DefI K C "Desk.__init__" s_Desk___init__ ∧ DefM K C "say" "Desk.say" s_Desk_say := by
  refine ⟨C, ⟨PySem.W.mg_of X G aC, ⟨pg, hd, po, sa⟩, fun f hf => ?_⟩, defI_mk a0 i0 l0 c0 k0 mk kc, defM_mk a1 i1 l1 c1 k1⟩
  simp only [List.mem_cons, List.not_mem_nil, or_false] at hf
  rcases hf with rfl | rfl
  · exact n0
  · exact n1
theorem mk_Out {h : Heap} (X : K.In h) (G : h.Ns mainGlobals mg) {C f0 f1 : Addr} {od0 an0 od1 an1 : Option Addr} {sl0 sl1 : Array (Option Value)} {oc0 kV0 dc0 pm0 cd0 ct0 oc1 kV1 dc1 pm1 cd1 ct1 : Value}
    (aC : PySem.W.nsIn K mainGlobals "Out" = some (some (.ref C))) (pg : PySem.W.plainGet K C Str.empty = true) (hd : PySem.W.hasDictIn K C = true) (po : PySem.W.plainOver K C = true) (sa : PySem.W.findIn K (.ref C) "__setattr__" = some (some (.builtin "object.__setattr__")))
    (n0 : PySem.W.findIn K (.ref C) "room" = some none) (n1 : PySem.W.findIn K (.ref C) "given" = some none) (n2 : PySem.W.findIn K (.ref C) "kept" = some none) (mk : PySem.W.makesIn K C = true) (kc : PySem.W.keepIn K (.ref C) = true)
    (a0 : PySem.W.findIn K (.ref C) "__init__" = some (some (.ref f0))) (i0 : PySem.W.isFn K (.ref f0) = true) (l0 : K.lookup f0 = some ⟨oc0, od0, .func (PySem.W.fnOf "__init__" "Out.__init__" (defArgs s_Out___init__) (defBody s_Out___init__) (defScope s_Out___init__) .none kV0 dc0 pm0 an0 cd0 ct0), sl0⟩) (c0 : PySem.W.codeIn K cd0 "Out.__init__" = true) (k0 : PySem.W.keepIn K (.ref f0) = true)
    (a1 : PySem.W.findIn K (.ref C) "put" = some (some (.ref f1))) (i1 : PySem.W.isFn K (.ref f1) = true) (l1 : K.lookup f1 = some ⟨oc1, od1, .func (PySem.W.fnOf "put" "Out.put" (defArgs s_Out_put) (defBody s_Out_put) (defScope s_Out_put) .none kV1 dc1 pm1 an1 cd1 ct1), sl1⟩) (c1 : PySem.W.codeIn K cd1 "Out.put" = true) (k1 : PySem.W.keepIn K (.ref f1) = true)
    : ∃ C, ClsD K mg "Out" C at_Out ∧ DefI K C "Out.__init__" s_Out___init__ ∧ DefM K C "put" "Out.put" s_Out_put := by
  refine ⟨C, ⟨PySem.W.mg_of X G aC, ⟨pg, hd, po, sa⟩, fun f hf => ?_⟩, defI_mk a0 i0 l0 c0 k0 mk kc, defM_mk a1 i1 l1 c1 k1⟩
  simp only [List.mem_cons, List.not_mem_nil, or_false] at hf
  rcases hf with rfl | rfl | rfl
  · exact n0
  · exact n1
  · exact n2
theorem glb_str {h : Heap} (X : K.In h) (G : h.Ns mainGlobals mg) {x z : Str} {t : PySem.Tok} (a : PySem.W.nsIn K mainGlobals x = some (some (.str z t))) : ∃ u, mg x = some u ∧ RelV (.str z) u :=
  ⟨_, PySem.W.mg_of X G a, t, rfl⟩
theorem tup3 {b : Addr} {od : Option Addr} {n : Nat} {sl : Array (Option Value)} {x : Str} {i j : Int} {t0 t1 t2 : Tok} (l : K.lookup b = some ⟨.type "tuple", od, .seq #[.str x t0, .int i t1, .int j t2] n, sl⟩) : ∀ H, SqT K H b [.str x, .int i, .int j] :=
  fun H => .inr ⟨_, _, n, l, rfl, rfl, by rw [sizeLine_eq]; change 3 ≤ 16777216; decide, .cons ⟨t0, rfl⟩ (.cons ⟨t1, rfl⟩ (.cons ⟨t2, rfl⟩ .nil))⟩
theorem bdAt_mk {h : Heap} (X : K.In h) (G : h.Ns mainGlobals mg) {a b0 b1 b2 b3 b4 b5 b6 b7 b8 b9 : Addr} {od : Option Addr} {n : Nat} {sl : Array (Option Value)} (e : PySem.W.nsIn K mainGlobals "BOUNDS" = some (some (.ref a)))
    (l : K.lookup a = some ⟨.type "tuple", od, .seq #[.ref b0, .ref b1, .ref b2, .ref b3, .ref b4, .ref b5, .ref b6, .ref b7, .ref b8, .ref b9] n, sl⟩)
    (t0 : ∀ H, SqT K H b0 [.str (Str.ofString "hands"), .int 2, .int 12]) (t1 : ∀ H, SqT K H b1 [.str (Str.ofString "lag"), .int 1, .int 32]) (t2 : ∀ H, SqT K H b2 [.str (Str.ofString "miss"), .int 1, .int 400]) (t3 : ∀ H, SqT K H b3 [.str (Str.ofString "raise"), .int 1, .int 1000]) (t4 : ∀ H, SqT K H b4 [.str (Str.ofString "count"), .int 0, .int 60])
    (t5 : ∀ H, SqT K H b5 [.str (Str.ofString "room"), .int 1, .int 16]) (t6 : ∀ H, SqT K H b6 [.str (Str.ofString "places"), .int 1, .int 16]) (t7 : ∀ H, SqT K H b7 [.str (Str.ofString "window"), .int 1, .int 60]) (t8 : ∀ H, SqT K H b8 [.str (Str.ofString "wait"), .int 1, .int 10000]) (t9 : ∀ H, SqT K H b9 [.str (Str.ofString "keep"), .int 0, .int 10000]) : ∃ a bs, BdAt K mg a bs := by
  refine ⟨a, [b0, b1, b2, b3, b4, b5, b6, b7, b8, b9], ⟨_, PySem.W.mg_of X G e, rfl⟩, fun H => .inr ⟨_, _, n, l, rfl, rfl, by rw [sizeLine_eq]; change 10 ≤ 16777216; decide, .cons rfl (.cons rfl (.cons rfl (.cons rfl (.cons rfl (.cons rfl (.cons rfl (.cons rfl (.cons rfl (.cons rfl .nil)))))))))⟩, ?_, rfl⟩
  intro i b q h1 h2 H
  match i with
  | 0 => cases h1; cases h2; exact t0 H
  | 1 => cases h1; cases h2; exact t1 H
  | 2 => cases h1; cases h2; exact t2 H
  | 3 => cases h1; cases h2; exact t3 H
  | 4 => cases h1; cases h2; exact t4 H
  | 5 => cases h1; cases h2; exact t5 H
  | 6 => cases h1; cases h2; exact t6 H
  | 7 => cases h1; cases h2; exact t7 H
  | 8 => cases h1; cases h2; exact t8 H
  | 9 => cases h1; cases h2; exact t9 H
  | k + 10 => cases h1
theorem tup1i {b : Addr} {od : Option Addr} {n : Nat} {sl : Array (Option Value)} {i : Int} {t0 : Tok} (l : K.lookup b = some ⟨.type "tuple", od, .seq #[.int i t0] n, sl⟩) : ∀ H, SqT K H b [.int i] :=
  fun H => .inr ⟨_, _, n, l, rfl, rfl, by rw [sizeLine_eq]; change 1 ≤ 16777216; decide, .cons ⟨t0, rfl⟩ .nil⟩
theorem plain_mk {h : Heap} (X : K.In h) (G : h.Ns mainGlobals mg) {b : Addr} {od : Option Addr} {n : Nat} {sl : Array (Option Value)} {t0 : Tok} (e : PySem.W.nsIn K mainGlobals "PLAIN_DEED" = some (some (.ref b))) (l : K.lookup b = some ⟨.type "tuple", od, .seq #[.int 1 t0] n, sl⟩) :
    ∃ pd, (∃ u, mg "PLAIN_DEED" = some u ∧ RelV (.ref pd) u) ∧ ∀ H, SqT K H pd [.int 1] := ⟨b, ⟨_, PySem.W.mg_of X G e, rfl⟩, tup1i l⟩
theorem answers_mk {h : Heap} (X : K.In h) (G : h.Ns mainGlobals mg) {b : Addr} (e : PySem.W.nsIn K mainGlobals "ANSWERS" = some (some (.ref b))) : ∃ pan, ∃ u, mg "ANSWERS" = some u ∧ RelV (.ref pan) u := ⟨b, _, PySem.W.mg_of X G e, rfl⟩
def famB (K : PySem.W.Frag) (cs : List Addr) : Bool := cs.zipIdx.all fun p => cs.zipIdx.all fun q => PySem.W.kitOne K (.ref p.1) (.ref q.1) == some (decide (q.2 = p.2))
theorem fam_of {cs : List Addr} (h : famB K cs = true) : ∀ (i j : Nat) c d, cs[i]? = some c → cs[j]? = some d → PySem.W.kitOne K (.ref c) (.ref d) = some (decide (j = i)) := fun i j c d h1 h2 => by
  have a := List.all_eq_true.mp (List.all_eq_true.mp h (c, i) (List.mk_mem_zipIdx_iff_getElem?.mpr h1)) (d, j) (List.mk_mem_zipIdx_iff_getElem?.mpr h2)
  exact beq_iff_eq.mp a
def Brs (K : PySem.W.Frag) (mg : Str → Option Value) (x qual f : Str) (st : Stmt) (c R : Addr) : Prop := XCls K mg x c R ∧ XGt K c f ∧ XSt K c f ∧ DefE K c qual st
def Pls (K : PySem.W.Frag) (mg : Str → Option Value) (x : Str) (c R : Addr) : Prop := XCls K mg x c R ∧ XPl K c
theorem pls_mk {h : Heap} {x : Str} {c R : Addr} (X : K.In h) (G : h.Ns mainGlobals mg) (a : PySem.W.nsIn K mainGlobals x = some (some (.ref c))) (b : xclsB K c R = true) (p : XPl K c) : Pls K mg x c R := ⟨xcls_mk X G a b, p⟩
structure Ex (K : PySem.W.Frag) (mg : Str → Option Value) (R cM cP cR cF cT cN cA cL cW cO : Addr) : Prop where
  e : Ers mg R cM cP cR cF cT cN cA cL cW cO
  xr : XKin K R
  xb : XB K R
  m : Pls K mg "BadMeasures" cM R
  r : Pls K mg "BadRoad" cR R
  t : Pls K mg "BadThing" cT R
  a : Pls K mg "BadName" cA R
  f : Pls K mg "Full" cF R
  n : Brs K mg "NotNow" "NotNow.__init__" "state" s_NotNow___init__ cN R
  l : Brs K mg "BadLine" "BadLine.__init__" "at" s_BadLine___init__ cL R
  w : Brs K mg "BadWish" "BadWish.__init__" "at" s_BadWish___init__ cW R
  o : Brs K mg "NoRow" "NoRow.__init__" "at" s_NoRow___init__ cO R
  p : Brs K mg "BadPast" "BadPast.__init__" "turn" s_BadPast___init__ cP R
  kit : famB K [cR, cT, cN, cA, cL, cW, cO, cM, cP, cF] = true
  kv : PySem.W.kitOne K (.ref cM) (.type "ValueError") = some true
  kn : PySem.W.kitAny K (.ref cM) ([cL, cR, cW, cO].map Value.ref) = some false
variable {R cM cP cR cF cT cN cA cL cW cO : Addr}
theorem Ex.fam (Z : Ex K mg R cM cP cR cF cT cN cA cL cW cO) : XFam K R [cR, cT, cN, cA, cL, cW, cO, cM, cP, cF] := by
  have h : ∀ c ∈ [cR, cT, cN, cA, cL, cW, cO, cM, cP, cF], ∃ x, XCls K mg x c R := fun c hc => by
    simp only [List.mem_cons, List.not_mem_nil, or_false] at hc
    rcases hc with rfl | rfl | rfl | rfl | rfl | rfl | rfl | rfl | rfl | rfl
    · exact ⟨_, Z.r.1⟩
    · exact ⟨_, Z.t.1⟩
    · exact ⟨_, Z.n.1⟩
    · exact ⟨_, Z.a.1⟩
    · exact ⟨_, Z.l.1⟩
    · exact ⟨_, Z.w.1⟩
    · exact ⟨_, Z.o.1⟩
    · exact ⟨_, Z.m.1⟩
    · exact ⟨_, Z.p.1⟩
    · exact ⟨_, Z.f.1⟩
  exact ⟨fun c hc => (h c hc).elim fun _ z => z.sub, fun c hc => (h c hc).elim fun _ z => z.xc, fam_of Z.kit⟩
structure Dfs (K : PySem.W.Frag) (mg : Str → Option Value) : Prop where
  d_is_whole : Def K mg "is_whole" s_is_whole
  d_is_within : Def K mg "is_within" s_is_within
  d_refuse_bad_measures : Def K mg "refuse_bad_measures" s_refuse_bad_measures
  d_is_deed : Def K mg "is_deed" s_is_deed
  d_refuse_bad_road : Def K mg "refuse_bad_road" s_refuse_bad_road
  d_is_text_of : Def K mg "is_text_of" s_is_text_of
  d_is_name : Def K mg "is_name" s_is_name
  d_own_copy : Def K mg "own_copy" s_own_copy
  d_is_signs : Def K mg "is_signs" s_is_signs
  d_is_thing : Def K mg "is_thing" s_is_thing
  d_is_row : Def K mg "is_row" s_is_row
  d_is_hand : Def K mg "is_hand" s_is_hand
  d_is_turn : Def K mg "is_turn" s_is_turn
  d_is_price : Def K mg "is_price" s_is_price
  d_is_line : Def K mg "is_line" s_is_line
  d_good_pairs : Def K mg "good_pairs" s_good_pairs
  d_refuse_bad_changes : Def K mg "refuse_bad_changes" s_refuse_bad_changes
  d_refuse_bad_roads : Def K mg "refuse_bad_roads" s_refuse_bad_roads
  d_is_wish : Def K mg "is_wish" s_is_wish
  d_refuse_bad_wishes : Def K mg "refuse_bad_wishes" s_refuse_bad_wishes
  d_refuse_bad_plan : Def K mg "refuse_bad_plan" s_refuse_bad_plan
  d__law_mixed : Def K mg "_law_mixed" s__law_mixed
  d__law_cell_at : Def K mg "_law_cell_at" s__law_cell_at
  d__law_bounds : Def K mg "_law_bounds" s__law_bounds
  d__law_good : Def K mg "_law_good" s__law_good
  d__law_made : Def K mg "_law_made" s__law_made
  d__law_right : Def K mg "_law_right" s__law_right
  d__law_refused : Def K mg "_law_refused" s__law_refused
  d__law_falls : Def K mg "_law_falls" s__law_falls
  d__law_sorts : Def K mg "_law_sorts" s__law_sorts
structure Dcs (K : PySem.W.Frag) (mg : Str → Option Value) (CM CR CT CB CN CD CO : Addr) : Prop where
  t_Measures : ClsD K mg "Measures" CM at_Measures
  i_Measures : DefI K CM "Measures.__init__" s_Measures___init__
  m_Measures_numbers : DefM K CM "numbers" "Measures.numbers" s_Measures_numbers
  t_Road : ClsD K mg "Road" CR at_Road
  i_Road : DefI K CR "Road.__init__" s_Road___init__
  m_Road_deed_of : DefM K CR "deed_of" "Road.deed_of" s_Road_deed_of
  m_Road_send : DefM K CR "send" "Road.send" s_Road_send
  t_Teller : ClsD K mg "Teller" CT at_Teller
  i_Teller : DefI K CT "Teller.__init__" s_Teller___init__
  m_Teller_put : DefM K CT "put" "Teller.put" s_Teller_put
  t_Book : ClsD K mg "Book" CB at_Book
  i_Book : DefI K CB "Book.__init__" s_Book___init__
  m_Book_bind : DefM K CB "bind" "Book.bind" s_Book_bind
  t_Net : ClsD K mg "Net" CN at_Net
  i_Net : DefI K CN "Net.__init__" s_Net___init__
  t_Desk : ClsD K mg "Desk" CD at_Desk
  i_Desk : DefI K CD "Desk.__init__" s_Desk___init__
  m_Desk_say : DefM K CD "say" "Desk.say" s_Desk_say
  t_Out : ClsD K mg "Out" CO at_Out
  i_Out : DefI K CO "Out.__init__" s_Out___init__
  m_Out_put : DefM K CO "put" "Out.put" s_Out_put
structure Gls (mg : Str → Option Value) : Prop where
  lag : ∃ u, mg "MOST_LAG" = some u ∧ RelV (.int 32) u
  deeds : ∃ u, mg "MOST_DEEDS" = some u ∧ RelV (.int 60) u
  delays : ∃ u, mg "MOST_DELAYS" = some u ∧ RelV (.int 3) u
  letters : ∃ u, mg "MOST_LETTERS" = some u ∧ RelV (.int 8) u
  signs : ∃ u, mg "MOST_SIGNS" = some u ∧ RelV (.int 8) u
  turn : ∃ u, mg "MOST_TURN" = some u ∧ RelV (.int 10000) u
  word : ∃ u, mg "NET_WORD" = some u ∧ RelV (.str (Str.ofString "net\n")) u
theorem last {fa pa pd pan CM CR CT CB CN CD CO : Addr} {bs : List Addr} (D : Dfs K mg) (DC : Dcs K mg CM CR CT CB CN CD CO) (DE : Def K mg "law" s_law) (Z : Ex K mg R cM cP cR cF cT cN cA cL cW cO) (B : BdAt K mg pa bs) (G : Gls mg) (gp : ∃ u, mg "PLAIN_DEED" = some u ∧ RelV (.ref pd) u) (hpd : ∀ H, SqT K H pd [.int 1]) (ga : ∃ u, mg "ANSWERS" = some u ∧ RelV (.ref pan) u)
    (hb : Blt mg) (hzip : mg "zip" = none) (hen : mg "enumerate" = none) (hmg : mg "law" = some (.ref fa)) :
    ∃ fd : FuncData, (∀ (s : Shared) (u : Value), BindsTo s fd ⟨[u], []⟩ [("_law_script", u)]) ∧ ∀ base : Heap, K.In base → base.Ns mainGlobals mg → FnOk P w K mg base CX0 11 fa fd ["_law_script"] (sp_law K) := by
  obtain ⟨f, fd, hm, F⟩ := DE
  have e := hmg.symm.trans hm
  cases e
  refine ⟨fd, ?_, fun base _ _ => ?_⟩
  · obtain ⟨oc, od, kV, doc, pm, an, cdv, ct, osl, rfl, lk, hcd⟩ := F.ex
    exact fun s u => .of_eq rfl
  · have fam := Z.fam
    have wi : Own P w K mg base 2 "is_within" ["thing", "least", "most"] sp_withinP := own_withinP D.d_is_within (own_wholeP D.d_is_whole hb)
    have mk := own_minitE (P := P) (w := w) (base := base) DC.i_Measures DC.t_Measures (own_rbmE D.d_refuse_bad_measures hb hzip B Z.e.m Z.m.2 wi)
    have made := own_made D.d__law_made hb DC.t_Measures mk
    have mix : Own P w K mg base 1 "_law_mixed" ["_law_cell", "_law_k"] sp_mixed := own_mixed D.d__law_mixed
    have bo : Own P w K mg base 1 "_law_bounds" [] sp_bounds := own_bounds D.d__law_bounds
    have cp : Own P w K mg base 1 "own_copy" ["thing"] sp_copyT := own_copyT D.d_own_copy hb
    have tx : Own P w K mg base 1 "is_text_of" ["thing", "most", "first", "last"] sp_tx0 := own_tx0 D.d_is_text_of hb
    have nm : Own P w K mg base 2 "is_name" ["thing"] sp_nm0 := own_nm0 D.d_is_name G.letters tx
    have row : Own P w K mg base 1 "is_row" ["thing", "many"] sp_row := own_row D.d_is_row hb
    have hand : Own P w K mg base 3 "is_hand" ["thing", "hands"] sp_hand := own_hand D.d_is_hand wi
    have xl := own_xBadLine (P := P) (w := w) (base := base) Z.l.2.2.2 Z.xb Z.e.r Z.l.2.2.1
    have xw := own_xBadWish (P := P) (w := w) (base := base) Z.w.2.2.2 Z.xb Z.e.r Z.w.2.2.1
    have xo := own_xNoRow (P := P) (w := w) (base := base) Z.o.2.2.2 Z.xb Z.e.r Z.o.2.2.1
    have xp := own_xBadPast (P := P) (w := w) (base := base) Z.p.2.2.2 Z.xb Z.e.r Z.p.2.2.1
    have xn := own_ninit (P := P) (w := w) (base := base) Z.n.2.2.2 Z.xb Z.e.r Z.n.2.2.1
    have plan := own_rbp D.d_refuse_bad_plan DC.t_Measures (own_gp D.d_good_pairs hb hen Z.e.l xl (own_line0 D.d_is_line row hand (own_price D.d_is_price))) (own_rbc D.d_refuse_bad_changes hb hen) (own_rbrs D.d_refuse_bad_roads hb hen) (own_rbw D.d_refuse_bad_wishes hb hen Z.e.w xw (own_wish0 D.d_is_wish row hand (own_turn D.d_is_turn G.turn wi) nm))
    have road := own_rinitE DC.i_Road hb DC.t_Road (own_rbr D.d_refuse_bad_road hb G.lag G.deeds G.delays Z.e.d Z.r.2 wi (own_isdeed D.d_is_deed))
    have falls := own_falls D.d__law_falls hb DC.t_Measures DC.t_Road DC.t_Teller DC.t_Book DC.t_Net DC.t_Desk DC.t_Out mk.own road (own_tinit DC.i_Teller DC.t_Teller) (own_binit DC.i_Book DC.t_Book) (own_dinit DC.i_Desk DC.t_Desk) (own_oinit DC.i_Out DC.t_Out)
      (own_tput1 DC.m_Teller_put hb DC.t_Teller Z.e.t Z.t.2 Z.e.n xn G.signs (own_thing1 D.d_is_thing hb (own_signs1 D.d_is_signs hb G.signs tx))) (own_bind0 DC.m_Book_bind DC.t_Book G.letters Z.e.a Z.a.2 nm) (own_netA DC.i_Net plan) (own_netB DC.i_Net plan) (own_say0 DC.m_Desk_say hb DC.t_Desk G.word ga Z.e.o xo)
      (own_send DC.m_Road_send hb DC.t_Road hpd Z.e.p xp (own_deedof DC.m_Road_deed_of DC.t_Road gp) cp) (own_oput DC.m_Out_put hb DC.t_Out Z.e.f Z.f.2 cp)
    exact law_fn F hb (own_sorts D.d__law_sorts hb Z.e Z.xr fam falls) (own_good D.d__law_good hb bo mix) (own_right D.d__law_right hb DC.t_Measures (own_mnum DC.m_Measures_numbers DC.t_Measures) made.drop)
      (own_refused D.d__law_refused hb Z.e Z.xr Z.m.1 (fam.kit 7 7 _ _ rfl rfl) Z.kv Z.kn made) bo mix (own_cell D.d__law_cell_at hb)
end
end K71
namespace K71
end K71
open PySem PySem.W PyProof.Rows
set_option maxHeartbeats 0 in
theorem PySem.Challenge.cw_roadnet_k71_measures_refused_holds : PySem.Challenge.rw_roadnet_k71_measures_refused.Holds := by
  refine K71.top ?_
  k_fill
  refine L2.walk_ofK (l := PySem.Challenge.rw_roadnet_k71_measures_refused) (n := 63) (k := 11) (x := "_law_script") (CX := L2.CX0) (sp := K71.sp_law) rfl (by decide) rfl ⟨rfl, by decide, by decide⟩ (fun w h Y => L2.f_in_of Y) ?F (fun _ _ a ns hl _ hS => ⟨a, ns, rfl, hS, hl, fun _ => rfl⟩) fun _ _ _ _ z => z
  case F =>
    intro w mg fa h KX G hmg
    have D_is_whole : L2.Def (L2.KOf KX) mg "is_whole" K71.s_is_whole := by
      dsimp only [L2.KOf]
      refine' L2.def_mk KX G ?a ?l ?c ?k
      (case a => k_is); (case l => k_is); (case c => k_is); (case k => k_is)
    have D_is_within : L2.Def (L2.KOf KX) mg "is_within" K71.s_is_within := by
      dsimp only [L2.KOf]
      refine' L2.def_mk KX G ?a ?l ?c ?k
      (case a => k_is); (case l => k_is); (case c => k_is); (case k => k_is)
    have D_refuse_bad_measures : L2.Def (L2.KOf KX) mg "refuse_bad_measures" K71.s_refuse_bad_measures := by
      dsimp only [L2.KOf]
      refine' L2.def_mk KX G ?a ?l ?c ?k
      (case a => k_is); (case l => k_is); (case c => k_is); (case k => k_is)
    have D_is_deed : L2.Def (L2.KOf KX) mg "is_deed" K71.s_is_deed := by
      dsimp only [L2.KOf]
      refine' L2.def_mk KX G ?a ?l ?c ?k
      (case a => k_is); (case l => k_is); (case c => k_is); (case k => k_is)
    have D_refuse_bad_road : L2.Def (L2.KOf KX) mg "refuse_bad_road" K71.s_refuse_bad_road := by
      dsimp only [L2.KOf]
      refine' L2.def_mk KX G ?a ?l ?c ?k
      (case a => k_is); (case l => k_is); (case c => k_is); (case k => k_is)
    have D_is_text_of : L2.Def (L2.KOf KX) mg "is_text_of" K71.s_is_text_of := by
      dsimp only [L2.KOf]
      refine' L2.def_mk KX G ?a ?l ?c ?k
      (case a => k_is); (case l => k_is); (case c => k_is); (case k => k_is)
    have D_is_name : L2.Def (L2.KOf KX) mg "is_name" K71.s_is_name := by
      dsimp only [L2.KOf]
      refine' L2.def_mk KX G ?a ?l ?c ?k
      (case a => k_is); (case l => k_is); (case c => k_is); (case k => k_is)
    have D_own_copy : L2.Def (L2.KOf KX) mg "own_copy" K71.s_own_copy := by
      dsimp only [L2.KOf]
      refine' L2.def_mk KX G ?a ?l ?c ?k
      (case a => k_is); (case l => k_is); (case c => k_is); (case k => k_is)
    have D_is_signs : L2.Def (L2.KOf KX) mg "is_signs" K71.s_is_signs := by
      dsimp only [L2.KOf]
      refine' L2.def_mk KX G ?a ?l ?c ?k
      (case a => k_is); (case l => k_is); (case c => k_is); (case k => k_is)
    have D_is_thing : L2.Def (L2.KOf KX) mg "is_thing" K71.s_is_thing := by
      dsimp only [L2.KOf]
      refine' L2.def_mk KX G ?a ?l ?c ?k
      (case a => k_is); (case l => k_is); (case c => k_is); (case k => k_is)
    have D_is_row : L2.Def (L2.KOf KX) mg "is_row" K71.s_is_row := by
      dsimp only [L2.KOf]
      refine' L2.def_mk KX G ?a ?l ?c ?k
      (case a => k_is); (case l => k_is); (case c => k_is); (case k => k_is)
    have D_is_hand : L2.Def (L2.KOf KX) mg "is_hand" K71.s_is_hand := by
      dsimp only [L2.KOf]
      refine' L2.def_mk KX G ?a ?l ?c ?k
      (case a => k_is); (case l => k_is); (case c => k_is); (case k => k_is)
    have D_is_turn : L2.Def (L2.KOf KX) mg "is_turn" K71.s_is_turn := by
      dsimp only [L2.KOf]
      refine' L2.def_mk KX G ?a ?l ?c ?k
      (case a => k_is); (case l => k_is); (case c => k_is); (case k => k_is)
    have D_is_price : L2.Def (L2.KOf KX) mg "is_price" K71.s_is_price := by
      dsimp only [L2.KOf]
      refine' L2.def_mk KX G ?a ?l ?c ?k
      (case a => k_is); (case l => k_is); (case c => k_is); (case k => k_is)
    have D_is_line : L2.Def (L2.KOf KX) mg "is_line" K71.s_is_line := by
      dsimp only [L2.KOf]
      refine' L2.def_mk KX G ?a ?l ?c ?k
      (case a => k_is); (case l => k_is); (case c => k_is); (case k => k_is)
    have D_good_pairs : L2.Def (L2.KOf KX) mg "good_pairs" K71.s_good_pairs := by
      dsimp only [L2.KOf]
      refine' L2.def_mk KX G ?a ?l ?c ?k
      (case a => k_is); (case l => k_is); (case c => k_is); (case k => k_is)
    have D_refuse_bad_changes : L2.Def (L2.KOf KX) mg "refuse_bad_changes" K71.s_refuse_bad_changes := by
      dsimp only [L2.KOf]
      refine' L2.def_mk KX G ?a ?l ?c ?k
      (case a => k_is); (case l => k_is); (case c => k_is); (case k => k_is)
    have D_refuse_bad_roads : L2.Def (L2.KOf KX) mg "refuse_bad_roads" K71.s_refuse_bad_roads := by
      dsimp only [L2.KOf]
      refine' L2.def_mk KX G ?a ?l ?c ?k
      (case a => k_is); (case l => k_is); (case c => k_is); (case k => k_is)
    have D_is_wish : L2.Def (L2.KOf KX) mg "is_wish" K71.s_is_wish := by
      dsimp only [L2.KOf]
      refine' L2.def_mk KX G ?a ?l ?c ?k
      (case a => k_is); (case l => k_is); (case c => k_is); (case k => k_is)
    have D_refuse_bad_wishes : L2.Def (L2.KOf KX) mg "refuse_bad_wishes" K71.s_refuse_bad_wishes := by
      dsimp only [L2.KOf]
      refine' L2.def_mk KX G ?a ?l ?c ?k
      (case a => k_is); (case l => k_is); (case c => k_is); (case k => k_is)
    have D_refuse_bad_plan : L2.Def (L2.KOf KX) mg "refuse_bad_plan" K71.s_refuse_bad_plan := by
      dsimp only [L2.KOf]
      refine' L2.def_mk KX G ?a ?l ?c ?k
      (case a => k_is); (case l => k_is); (case c => k_is); (case k => k_is)
    have D__law_mixed : L2.Def (L2.KOf KX) mg "_law_mixed" K71.s__law_mixed := by
      dsimp only [L2.KOf]
      refine' L2.def_mk KX G ?a ?l ?c ?k
      (case a => k_is); (case l => k_is); (case c => k_is); (case k => k_is)
    have D__law_cell_at : L2.Def (L2.KOf KX) mg "_law_cell_at" K71.s__law_cell_at := by
      dsimp only [L2.KOf]
      refine' L2.def_mk KX G ?a ?l ?c ?k
      (case a => k_is); (case l => k_is); (case c => k_is); (case k => k_is)
    have D__law_bounds : L2.Def (L2.KOf KX) mg "_law_bounds" K71.s__law_bounds := by
      dsimp only [L2.KOf]
      refine' L2.def_mk KX G ?a ?l ?c ?k
      (case a => k_is); (case l => k_is); (case c => k_is); (case k => k_is)
    have D__law_good : L2.Def (L2.KOf KX) mg "_law_good" K71.s__law_good := by
      dsimp only [L2.KOf]
      refine' L2.def_mk KX G ?a ?l ?c ?k
      (case a => k_is); (case l => k_is); (case c => k_is); (case k => k_is)
    have D__law_made : L2.Def (L2.KOf KX) mg "_law_made" K71.s__law_made := by
      dsimp only [L2.KOf]
      refine' L2.def_mk KX G ?a ?l ?c ?k
      (case a => k_is); (case l => k_is); (case c => k_is); (case k => k_is)
    have D__law_right : L2.Def (L2.KOf KX) mg "_law_right" K71.s__law_right := by
      dsimp only [L2.KOf]
      refine' L2.def_mk KX G ?a ?l ?c ?k
      (case a => k_is); (case l => k_is); (case c => k_is); (case k => k_is)
    have D__law_refused : L2.Def (L2.KOf KX) mg "_law_refused" K71.s__law_refused := by
      dsimp only [L2.KOf]
      refine' L2.def_mk KX G ?a ?l ?c ?k
      (case a => k_is); (case l => k_is); (case c => k_is); (case k => k_is)
    have D__law_falls : L2.Def (L2.KOf KX) mg "_law_falls" K71.s__law_falls := by
      dsimp only [L2.KOf]
      refine' L2.def_mk KX G ?a ?l ?c ?k
      (case a => k_is); (case l => k_is); (case c => k_is); (case k => k_is)
    have D__law_sorts : L2.Def (L2.KOf KX) mg "_law_sorts" K71.s__law_sorts := by
      dsimp only [L2.KOf]
      refine' L2.def_mk KX G ?a ?l ?c ?k
      (case a => k_is); (case l => k_is); (case c => k_is); (case k => k_is)
    have D_law : L2.Def (L2.KOf KX) mg "law" K71.s_law := by
      dsimp only [L2.KOf]
      refine' L2.def_mk KX G ?a ?l ?c ?k
      (case a => k_is); (case l => k_is); (case c => k_is); (case k => k_is)
    have Z_Measures : ∃ C, L2.ClsD (L2.KOf KX) mg "Measures" C K71.at_Measures ∧ L2.DefI (L2.KOf KX) C "Measures.__init__" K71.s_Measures___init__ ∧ L2.DefM (L2.KOf KX) C "numbers" "Measures.numbers" K71.s_Measures_numbers := by
      dsimp only [L2.KOf]
      refine' K71.mk_Measures KX G ?aC ?pg ?hd ?po ?sa ?n0 ?n1 ?n2 ?n3 ?n4 ?n5 ?n6 ?n7 ?n8 ?n9 ?mk ?kc ?a0 ?i0 ?l0 ?c0 ?k0 ?a1 ?i1 ?l1 ?c1 ?k1
      (case aC => k_is)
      (case pg => k_is)
      (case hd => k_is)
      (case po => k_is)
      (case sa => k_is)
      (case n0 => k_is)
      (case n1 => k_is)
      (case n2 => k_is)
      (case n3 => k_is)
      (case n4 => k_is)
      (case n5 => k_is)
      (case n6 => k_is)
      (case n7 => k_is)
      (case n8 => k_is)
      (case n9 => k_is)
      (case mk => k_is)
      (case kc => k_is)
      (case a0 => k_is)
      (case i0 => k_is)
      (case l0 => k_is)
      (case c0 => k_is)
      (case k0 => k_is)
      (case a1 => k_is)
      (case i1 => k_is)
      (case l1 => k_is)
      (case c1 => k_is)
      (case k1 => k_is)
    obtain ⟨C_Measures, T_Measures, DI_Measures, DM_Measures_numbers⟩ := Z_Measures
    have Z_Road : ∃ C, L2.ClsD (L2.KOf KX) mg "Road" C K71.at_Road ∧ L2.DefI (L2.KOf KX) C "Road.__init__" K71.s_Road___init__ ∧ L2.DefM (L2.KOf KX) C "deed_of" "Road.deed_of" K71.s_Road_deed_of ∧ L2.DefM (L2.KOf KX) C "send" "Road.send" K71.s_Road_send := by
      dsimp only [L2.KOf]
      refine' K71.mk_Road KX G ?aC ?pg ?hd ?po ?sa ?n0 ?n1 ?n2 ?n3 ?mk ?kc ?a0 ?i0 ?l0 ?c0 ?k0 ?a1 ?i1 ?l1 ?c1 ?k1 ?a2 ?i2 ?l2 ?c2 ?k2
      (case aC => k_is)
      (case pg => k_is)
      (case hd => k_is)
      (case po => k_is)
      (case sa => k_is)
      (case n0 => k_is)
      (case n1 => k_is)
      (case n2 => k_is)
      (case n3 => k_is)
      (case mk => k_is)
      (case kc => k_is)
      (case a0 => k_is)
      (case i0 => k_is)
      (case l0 => k_is)
      (case c0 => k_is)
      (case k0 => k_is)
      (case a1 => k_is)
      (case i1 => k_is)
      (case l1 => k_is)
      (case c1 => k_is)
      (case k1 => k_is)
      (case a2 => k_is)
      (case i2 => k_is)
      (case l2 => k_is)
      (case c2 => k_is)
      (case k2 => k_is)
    obtain ⟨C_Road, T_Road, DI_Road, DM_Road_deed_of, DM_Road_send⟩ := Z_Road
    have Z_Teller : ∃ C, L2.ClsD (L2.KOf KX) mg "Teller" C K71.at_Teller ∧ L2.DefI (L2.KOf KX) C "Teller.__init__" K71.s_Teller___init__ ∧ L2.DefM (L2.KOf KX) C "put" "Teller.put" K71.s_Teller_put := by
      dsimp only [L2.KOf]
      refine' K71.mk_Teller KX G ?aC ?pg ?hd ?po ?sa ?n0 ?n1 ?n2 ?n3 ?n4 ?n5 ?n6 ?mk ?kc ?a0 ?i0 ?l0 ?c0 ?k0 ?a1 ?i1 ?l1 ?c1 ?k1
      (case aC => k_is)
      (case pg => k_is)
      (case hd => k_is)
      (case po => k_is)
      (case sa => k_is)
      (case n0 => k_is)
      (case n1 => k_is)
      (case n2 => k_is)
      (case n3 => k_is)
      (case n4 => k_is)
      (case n5 => k_is)
      (case n6 => k_is)
      (case mk => k_is)
      (case kc => k_is)
      (case a0 => k_is)
      (case i0 => k_is)
      (case l0 => k_is)
      (case c0 => k_is)
      (case k0 => k_is)
      (case a1 => k_is)
      (case i1 => k_is)
      (case l1 => k_is)
      (case c1 => k_is)
      (case k1 => k_is)
    obtain ⟨C_Teller, T_Teller, DI_Teller, DM_Teller_put⟩ := Z_Teller
    have Z_Book : ∃ C, L2.ClsD (L2.KOf KX) mg "Book" C K71.at_Book ∧ L2.DefI (L2.KOf KX) C "Book.__init__" K71.s_Book___init__ ∧ L2.DefM (L2.KOf KX) C "bind" "Book.bind" K71.s_Book_bind := by
      dsimp only [L2.KOf]
      refine' K71.mk_Book KX G ?aC ?pg ?hd ?po ?sa ?n0 ?n1 ?mk ?kc ?a0 ?i0 ?l0 ?c0 ?k0 ?a1 ?i1 ?l1 ?c1 ?k1
      (case aC => k_is)
      (case pg => k_is)
      (case hd => k_is)
      (case po => k_is)
      (case sa => k_is)
      (case n0 => k_is)
      (case n1 => k_is)
      (case mk => k_is)
      (case kc => k_is)
      (case a0 => k_is)
      (case i0 => k_is)
      (case l0 => k_is)
      (case c0 => k_is)
      (case k0 => k_is)
      (case a1 => k_is)
      (case i1 => k_is)
      (case l1 => k_is)
      (case c1 => k_is)
      (case k1 => k_is)
    obtain ⟨C_Book, T_Book, DI_Book, DM_Book_bind⟩ := Z_Book
    have Z_Net : ∃ C, L2.ClsD (L2.KOf KX) mg "Net" C K71.at_Net ∧ L2.DefI (L2.KOf KX) C "Net.__init__" K71.s_Net___init__ := by
      dsimp only [L2.KOf]
      refine' K71.mk_Net KX G ?aC ?pg ?hd ?po ?sa ?n0 ?n1 ?n2 ?n3 ?n4 ?n5 ?n6 ?n7 ?n8 ?mk ?kc ?a0 ?i0 ?l0 ?c0 ?k0
      (case aC => k_is)
      (case pg => k_is)
      (case hd => k_is)
      (case po => k_is)
      (case sa => k_is)
      (case n0 => k_is)
      (case n1 => k_is)
      (case n2 => k_is)
      (case n3 => k_is)
      (case n4 => k_is)
      (case n5 => k_is)
      (case n6 => k_is)
      (case n7 => k_is)
      (case n8 => k_is)
      (case mk => k_is)
      (case kc => k_is)
      (case a0 => k_is)
      (case i0 => k_is)
      (case l0 => k_is)
      (case c0 => k_is)
      (case k0 => k_is)
    obtain ⟨C_Net, T_Net, DI_Net⟩ := Z_Net
    have Z_Desk : ∃ C, L2.ClsD (L2.KOf KX) mg "Desk" C K71.at_Desk ∧ L2.DefI (L2.KOf KX) C "Desk.__init__" K71.s_Desk___init__ ∧ L2.DefM (L2.KOf KX) C "say" "Desk.say" K71.s_Desk_say := by
      dsimp only [L2.KOf]
      refine' K71.mk_Desk KX G ?aC ?pg ?hd ?po ?sa ?n0 ?n1 ?mk ?kc ?a0 ?i0 ?l0 ?c0 ?k0 ?a1 ?i1 ?l1 ?c1 ?k1
      (case aC => k_is)
      (case pg => k_is)
      (case hd => k_is)
      (case po => k_is)
      (case sa => k_is)
      (case n0 => k_is)
      (case n1 => k_is)
      (case mk => k_is)
      (case kc => k_is)
      (case a0 => k_is)
      (case i0 => k_is)
      (case l0 => k_is)
      (case c0 => k_is)
      (case k0 => k_is)
      (case a1 => k_is)
      (case i1 => k_is)
      (case l1 => k_is)
      (case c1 => k_is)
      (case k1 => k_is)
    obtain ⟨C_Desk, T_Desk, DI_Desk, DM_Desk_say⟩ := Z_Desk
    have Z_Out : ∃ C, L2.ClsD (L2.KOf KX) mg "Out" C K71.at_Out ∧ L2.DefI (L2.KOf KX) C "Out.__init__" K71.s_Out___init__ ∧ L2.DefM (L2.KOf KX) C "put" "Out.put" K71.s_Out_put := by
      dsimp only [L2.KOf]
      refine' K71.mk_Out KX G ?aC ?pg ?hd ?po ?sa ?n0 ?n1 ?n2 ?mk ?kc ?a0 ?i0 ?l0 ?c0 ?k0 ?a1 ?i1 ?l1 ?c1 ?k1
      (case aC => k_is)
      (case pg => k_is)
      (case hd => k_is)
      (case po => k_is)
      (case sa => k_is)
      (case n0 => k_is)
      (case n1 => k_is)
      (case n2 => k_is)
      (case mk => k_is)
      (case kc => k_is)
      (case a0 => k_is)
      (case i0 => k_is)
      (case l0 => k_is)
      (case c0 => k_is)
      (case k0 => k_is)
      (case a1 => k_is)
      (case i1 => k_is)
      (case l1 => k_is)
      (case c1 => k_is)
      (case k1 => k_is)
    obtain ⟨C_Out, T_Out, DI_Out, DM_Out_put⟩ := Z_Out
    have hb : L2.Blt mg := by
      refine' L2.blt_mk (K := L2.KOf KX) KX G ?b1 ?b2 ?b3 ?b4 ?b5 ?b6 ?b7 ?b8 ?b9 ?b10 ?b11 ?b12 ?b13
      all_goals (dsimp only [L2.KOf]; k_is)
    have hzip : mg "zip" = none := by
      have z : PySem.W.nsIn (L2.KOf KX) mainGlobals "zip" = some none := by
        dsimp only [L2.KOf]
        k_is
      exact PySem.W.mg_none_of KX G z
    have hen : mg "enumerate" = none := by
      have z : PySem.W.nsIn (L2.KOf KX) mainGlobals "enumerate" = some none := by
        dsimp only [L2.KOf]
        k_is
      exact PySem.W.mg_none_of KX G z
    have g1 : ∃ u, mg "MOST_LAG" = some u ∧ L2.RelV (.int 32) u := by
      refine' L2.glb_mk KX G ?a
      (case a => k_is)
    have g2 : ∃ u, mg "MOST_DEEDS" = some u ∧ L2.RelV (.int 60) u := by
      refine' L2.glb_mk KX G ?a
      (case a => k_is)
    have g3 : ∃ u, mg "MOST_DELAYS" = some u ∧ L2.RelV (.int 3) u := by
      refine' L2.glb_mk KX G ?a
      (case a => k_is)
    have g4 : ∃ u, mg "MOST_LETTERS" = some u ∧ L2.RelV (.int 8) u := by
      refine' L2.glb_mk KX G ?a
      (case a => k_is)
    have g5 : ∃ u, mg "MOST_SIGNS" = some u ∧ L2.RelV (.int 8) u := by
      refine' L2.glb_mk KX G ?a
      (case a => k_is)
    have g6 : ∃ u, mg "MOST_TURN" = some u ∧ L2.RelV (.int 10000) u := by
      refine' L2.glb_mk KX G ?a
      (case a => k_is)
    have g7 : ∃ u, mg "NET_WORD" = some u ∧ L2.RelV (.str (Str.ofString "net\n")) u := by
      refine' K71.glb_str KX G ?a
      (case a => k_is)
    have gB : ∃ a bs, K71.BdAt (L2.KOf KX) mg a bs := by
      dsimp only [L2.KOf]
      refine' K71.bdAt_mk KX G ?e ?l (K71.tup3 ?l0) (K71.tup3 ?l1) (K71.tup3 ?l2) (K71.tup3 ?l3) (K71.tup3 ?l4) (K71.tup3 ?l5) (K71.tup3 ?l6) (K71.tup3 ?l7) (K71.tup3 ?l8) (K71.tup3 ?l9)
      (case e => k_is)
      (case l => k_is)
      (case l0 => k_is)
      (case l1 => k_is)
      (case l2 => k_is)
      (case l3 => k_is)
      (case l4 => k_is)
      (case l5 => k_is)
      (case l6 => k_is)
      (case l7 => k_is)
      (case l8 => k_is)
      (case l9 => k_is)
    obtain ⟨pa, bs, gB⟩ := gB
    have gP : ∃ pd, (∃ u, mg "PLAIN_DEED" = some u ∧ L2.RelV (.ref pd) u) ∧ ∀ H, L2.SqT (L2.KOf KX) H pd [.int 1] := by
      dsimp only [L2.KOf]
      refine' K71.plain_mk KX G ?e ?l
      (case e => k_is)
      (case l => k_is)
    obtain ⟨pd, gP, hpd⟩ := gP
    have gA : ∃ pan, ∃ u, mg "ANSWERS" = some u ∧ L2.RelV (.ref pan) u := by
      refine' K71.answers_mk KX G ?e
      (case e => k_is)
    obtain ⟨pan, gA⟩ := gA
    have Z : ∃ R cM cP cR cF cT cN cA cL cW cO, K71.Ex (L2.KOf KX) mg R cM cP cR cF cT cN cA cL cW cO := by
      dsimp only [L2.KOf]
      refine' ⟨_, _, _, _, _, _, _, _, _, _, _, L2.ers_mk KX G ?a0 ?a1 ?a2 ?a3 ?a4 ?a5 ?a6 ?a7 ?a8 ?a9 ?aA ?aB, L2.xkin_of ?r, ⟨?y1, ?y2, ?y3⟩, K71.pls_mk KX G ?m1 ?m2 ⟨?m3, ?m4⟩, K71.pls_mk KX G ?r1 ?r2 ⟨?r3, ?r4⟩, K71.pls_mk KX G ?t1 ?t2 ⟨?t3, ?t4⟩, K71.pls_mk KX G ?n1 ?n2 ⟨?n3, ?n4⟩, K71.pls_mk KX G ?f1 ?f2 ⟨?f3, ?f4⟩,
        L2.bears_mk KX G ?u1 ?u2 ?u3 ?u4 ?u5 ?u6 ?u7 ?u8 ?u9, L2.bears_mk KX G ?v1 ?v2 ?v3 ?v4 ?v5 ?v6 ?v7 ?v8 ?v9, L2.bears_mk KX G ?w1 ?w2 ?w3 ?w4 ?w5 ?w6 ?w7 ?w8 ?w9, L2.bears_mk KX G ?x1 ?x2 ?x3 ?x4 ?x5 ?x6 ?x7 ?x8 ?x9, L2.bears_mk KX G ?z1 ?z2 ?z3 ?z4 ?z5 ?z6 ?z7 ?z8 ?z9, ?q1, ?q2, ?q3⟩
      (case a0 => k_is)
      (case a1 => k_is)
      (case a2 => k_is)
      (case a3 => k_is)
      (case a4 => k_is)
      (case a5 => k_is)
      (case a6 => k_is)
      (case a7 => k_is)
      (case a8 => k_is)
      (case a9 => k_is)
      (case aA => k_is)
      (case aB => k_is)
      (case r => kernel_rfl)
      (case y1 => k_is)
      (case y2 => k_is)
      (case y3 => k_is)
      (case m1 => k_is); (case m2 => kernel_rfl); (case m3 => kernel_rfl); (case m4 => kernel_rfl)
      (case r1 => k_is); (case r2 => kernel_rfl); (case r3 => kernel_rfl); (case r4 => kernel_rfl)
      (case t1 => k_is); (case t2 => kernel_rfl); (case t3 => kernel_rfl); (case t4 => kernel_rfl)
      (case n1 => k_is); (case n2 => kernel_rfl); (case n3 => kernel_rfl); (case n4 => kernel_rfl)
      (case f1 => k_is); (case f2 => kernel_rfl); (case f3 => kernel_rfl); (case f4 => kernel_rfl)
      (case u1 => k_is); (case u2 => kernel_rfl); (case u3 => k_is); (case u4 => k_is); (case u5 => k_is); (case u6 => k_is); (case u7 => k_is); (case u8 => k_is); (case u9 => k_is)
      (case v1 => k_is); (case v2 => kernel_rfl); (case v3 => k_is); (case v4 => k_is); (case v5 => k_is); (case v6 => k_is); (case v7 => k_is); (case v8 => k_is); (case v9 => k_is)
      (case w1 => k_is); (case w2 => kernel_rfl); (case w3 => k_is); (case w4 => k_is); (case w5 => k_is); (case w6 => k_is); (case w7 => k_is); (case w8 => k_is); (case w9 => k_is)
      (case x1 => k_is); (case x2 => kernel_rfl); (case x3 => k_is); (case x4 => k_is); (case x5 => k_is); (case x6 => k_is); (case x7 => k_is); (case x8 => k_is); (case x9 => k_is)
      (case z1 => k_is); (case z2 => kernel_rfl); (case z3 => k_is); (case z4 => k_is); (case z5 => k_is); (case z6 => k_is); (case z7 => k_is); (case z8 => k_is); (case z9 => k_is)
      (case q1 => kernel_rfl); (case q2 => kernel_rfl); (case q3 => kernel_rfl)
    obtain ⟨R, cM, cP, cR, cF, cT, cN, cA, cL, cW, cO, Z⟩ := Z
    exact K71.last ⟨D_is_whole, D_is_within, D_refuse_bad_measures, D_is_deed, D_refuse_bad_road, D_is_text_of, D_is_name, D_own_copy, D_is_signs, D_is_thing, D_is_row, D_is_hand, D_is_turn, D_is_price, D_is_line, D_good_pairs, D_refuse_bad_changes, D_refuse_bad_roads, D_is_wish, D_refuse_bad_wishes, D_refuse_bad_plan, D__law_mixed, D__law_cell_at, D__law_bounds, D__law_good, D__law_made, D__law_right, D__law_refused, D__law_falls, D__law_sorts⟩ ⟨T_Measures, DI_Measures, DM_Measures_numbers, T_Road, DI_Road, DM_Road_deed_of, DM_Road_send, T_Teller, DI_Teller, DM_Teller_put, T_Book, DI_Book, DM_Book_bind, T_Net, DI_Net, T_Desk, DI_Desk, DM_Desk_say, T_Out, DI_Out, DM_Out_put⟩ D_law Z gB ⟨g1, g2, g3, g4, g5, g6, g7⟩ gP hpd gA hb hzip hen hmg
#print axioms PySem.Challenge.cw_roadnet_k71_measures_refused_holds
