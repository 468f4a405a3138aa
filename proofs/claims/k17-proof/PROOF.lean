import PyProof.Rows.All
import HandS.Defaults
import HandS.Head0
import HandS.Head1
import HandS.Head2
import HandS.HeadEnd
import HandS.Head3
import HandS.HeadHook1
import HandS.HeadHook2
import HandS.HeadHook3
import HandS.HeadHook4
import HandS.EndTab
import HandS.HeadWalk
import KE.KStateDown
import Lean
import Wide.All
import OpenK.AllK
import Wide.FinOn
import HandS.ForMost
import HandS.ForExc
import HandS.AnyAll
import HandS.Deep
import HandS.IsInst
import HandS.Zip
import HandS.Style
import HandS.TupAny
import HandS.Lambda
import HandS.TupLe
import HandS.Replace
import HandS.Conv
import HandS.TryMany
import HandS.GenOver
import KE.GoesNew
import KE.GoesMore
import HandS.Iter
import HandS.TryOnly
import HandS.ExcOwn
import HandS.WordsExc
import HandS.TupSets
import KE.KeyNested
import KE.GoesEnum
import HandS.Gcd
import HandS.Dict
import HandS.TupLen
import HandS.WordsDict
import HandS.TupMul
import HandS.Set
import HandS.Strs
import HandS.RevRange
import HandS.DictComp
import PyProof.Rows.RuleN_abs
import KE.KDflt
import HandS.SetKeys
import PyProof.StrOps2
import KE.GoesSet
import KE.SortKeyHeap
import HandS.SortKw
import KE.KDictList
import KE.DataMinMax
import KE.KEqDict
import KE.KRevSl
import KE.KTupSum
import KE.KSortTupG
import HandS.FStr
import HandS.Text
import KE.KAssignIn
import PyProof.Rows.RegReprOcc
import PySem.Challenge.RW_meetfolk_k17_whole_desks
set_option Elab.async false
set_option linter.all false
namespace Pd
open PySem PySem.Spec PyProof.Rows L2
end Pd

namespace Pd
end Pd
set_option Elab.async false
set_option linter.all false
set_option maxRecDepth 100000
set_option maxHeartbeats 4000000
namespace KK
open PySem PySem.Spec PyProof.Rows L2 Pd
/-! ### the text -/
def topS (i : Nat) : Stmt := PySem.Challenge.pw_meetfolk_k17_whole_desks.main.body.getD i (.Pass ⟨0, 0, 0, 0⟩)
abbrev s_is_pair : Stmt := topS 16
abbrev s_are_moods : Stmt := topS 17
abbrev s_are_two : Stmt := topS 19
abbrev s_is_rule : Stmt := topS 20
abbrev s_are_rules : Stmt := topS 21
abbrev s_is_folk : Stmt := topS 22
abbrev s_demand_folk : Stmt := topS 24
abbrev s_is_integer : Stmt := topS 15
abbrev s_is_crowd : Stmt := topS 23
abbrev s_demand_crowd : Stmt := topS 25
abbrev s_Desk___init__ : Stmt := inClass (topS 51) 0
abbrev s_demand_room : Stmt := topS 27
abbrev s_numbers_of : Stmt := topS 28
abbrev s_can_be_used : Stmt := topS 29
abbrev s_behind_rule : Stmt := topS 30
abbrev s_met : Stmt := topS 32
abbrev s_Desk__turn : Stmt := inClass (topS 51) 1
abbrev s_Desk_meet : Stmt := inClass (topS 51) 2
abbrev s_with_more : Stmt := topS 49
abbrev s_Desk_join : Stmt := inClass (topS 51) 3
abbrev s_is_mood : Stmt := topS 18
abbrev s_demand_mood : Stmt := topS 26
abbrev s_Desk_leave : Stmt := inClass (topS 51) 4
abbrev s_Desk_undo : Stmt := inClass (topS 51) 5
abbrev s_Desk_crowd : Stmt := inClass (topS 51) 6
abbrev s_Desk_row : Stmt := inClass (topS 51) 7
abbrev s_meetings : Stmt := topS 31
abbrev s_Desk_is_at_rest : Stmt := inClass (topS 51) 8
abbrev s_Desk_text : Stmt := inClass (topS 51) 9
abbrev s_demand_text : Stmt := topS 34
abbrev s_words_behind : Stmt := topS 43
abbrev s_moods_from : Stmt := topS 44
abbrev s_folk_from : Stmt := topS 45
abbrev s_kind_of : Stmt := topS 35
abbrev s_is_number : Stmt := topS 36
abbrev s_crowd_from : Stmt := topS 46
abbrev s_demand_no_more : Stmt := topS 47
abbrev s_desk_of : Stmt := topS 52
abbrev s__law_taken : Stmt := topS 54
abbrev s__law_pick : Stmt := topS 55
abbrev s__law_alike : Stmt := topS 56
abbrev s__law_two : Stmt := topS 57
abbrev s__law_moods : Stmt := topS 58
abbrev s__law_weight : Stmt := topS 60
abbrev s__law_folk : Stmt := topS 59
abbrev s__law_counts : Stmt := topS 61
abbrev s__law_usable : Stmt := topS 62
abbrev s__law_behind : Stmt := topS 63
abbrev s__law_crowd : Stmt := topS 64
abbrev s_law : Stmt := topS 65
end KK

set_option Elab.async false
set_option linter.all false
set_option maxRecDepth 100000
set_option maxHeartbeats 0
namespace KK
open PySem PySem.Spec PyProof.Rows L2 Pd
def d_is_pair : He.DefD := ⟨("is_pair", none), "is_pair", "is_pair", defArgs s_is_pair, defBody s_is_pair, defScope s_is_pair, [], []⟩
def d_are_moods : He.DefD := ⟨("are_moods", none), "are_moods", "are_moods", defArgs s_are_moods, defBody s_are_moods, defScope s_are_moods, [], []⟩
def d_are_two : He.DefD := ⟨("are_two", none), "are_two", "are_two", defArgs s_are_two, defBody s_are_two, defScope s_are_two, [], []⟩
def d_is_rule : He.DefD := ⟨("is_rule", none), "is_rule", "is_rule", defArgs s_is_rule, defBody s_is_rule, defScope s_is_rule, [], []⟩
def d_are_rules : He.DefD := ⟨("are_rules", none), "are_rules", "are_rules", defArgs s_are_rules, defBody s_are_rules, defScope s_are_rules, [], []⟩
def d_is_folk : He.DefD := ⟨("is_folk", none), "is_folk", "is_folk", defArgs s_is_folk, defBody s_is_folk, defScope s_is_folk, [], []⟩
def d_demand_folk : He.DefD := ⟨("demand_folk", none), "demand_folk", "demand_folk", defArgs s_demand_folk, defBody s_demand_folk, defScope s_demand_folk, [], []⟩
def d_is_integer : He.DefD := ⟨("is_integer", none), "is_integer", "is_integer", defArgs s_is_integer, defBody s_is_integer, defScope s_is_integer, [], []⟩
def d_is_crowd : He.DefD := ⟨("is_crowd", none), "is_crowd", "is_crowd", defArgs s_is_crowd, defBody s_is_crowd, defScope s_is_crowd, [], []⟩
def d_demand_crowd : He.DefD := ⟨("demand_crowd", none), "demand_crowd", "demand_crowd", defArgs s_demand_crowd, defBody s_demand_crowd, defScope s_demand_crowd, [], []⟩
def d_Desk___init__ : He.DefD := ⟨("Desk", some "__init__"), "__init__", "Desk.__init__", defArgs s_Desk___init__, defBody s_Desk___init__, defScope s_Desk___init__, [], []⟩
def d_demand_room : He.DefD := ⟨("demand_room", none), "demand_room", "demand_room", defArgs s_demand_room, defBody s_demand_room, defScope s_demand_room, [], []⟩
def d_numbers_of : He.DefD := ⟨("numbers_of", none), "numbers_of", "numbers_of", defArgs s_numbers_of, defBody s_numbers_of, defScope s_numbers_of, [], []⟩
def d_can_be_used : He.DefD := ⟨("can_be_used", none), "can_be_used", "can_be_used", defArgs s_can_be_used, defBody s_can_be_used, defScope s_can_be_used, [], []⟩
def d_behind_rule : He.DefD := ⟨("behind_rule", none), "behind_rule", "behind_rule", defArgs s_behind_rule, defBody s_behind_rule, defScope s_behind_rule, [], []⟩
def d_met : He.DefD := ⟨("met", none), "met", "met", defArgs s_met, defBody s_met, defScope s_met, [], []⟩
def d_Desk__turn : He.DefD := ⟨("Desk", some "_turn"), "_turn", "Desk._turn", defArgs s_Desk__turn, defBody s_Desk__turn, defScope s_Desk__turn, [], []⟩
def d_Desk_meet : He.DefD := ⟨("Desk", some "meet"), "meet", "Desk.meet", defArgs s_Desk_meet, defBody s_Desk_meet, defScope s_Desk_meet, [], []⟩
def d_with_more : He.DefD := ⟨("with_more", none), "with_more", "with_more", defArgs s_with_more, defBody s_with_more, defScope s_with_more, [], []⟩
def d_Desk_join : He.DefD := ⟨("Desk", some "join"), "join", "Desk.join", defArgs s_Desk_join, defBody s_Desk_join, defScope s_Desk_join, [], []⟩
def d_is_mood : He.DefD := ⟨("is_mood", none), "is_mood", "is_mood", defArgs s_is_mood, defBody s_is_mood, defScope s_is_mood, [], []⟩
def d_demand_mood : He.DefD := ⟨("demand_mood", none), "demand_mood", "demand_mood", defArgs s_demand_mood, defBody s_demand_mood, defScope s_demand_mood, [], []⟩
def d_Desk_leave : He.DefD := ⟨("Desk", some "leave"), "leave", "Desk.leave", defArgs s_Desk_leave, defBody s_Desk_leave, defScope s_Desk_leave, [], []⟩
def d_Desk_undo : He.DefD := ⟨("Desk", some "undo"), "undo", "Desk.undo", defArgs s_Desk_undo, defBody s_Desk_undo, defScope s_Desk_undo, [], []⟩
def d_Desk_crowd : He.DefD := ⟨("Desk", some "crowd"), "crowd", "Desk.crowd", defArgs s_Desk_crowd, defBody s_Desk_crowd, defScope s_Desk_crowd, [], []⟩
def d_Desk_row : He.DefD := ⟨("Desk", some "row"), "row", "Desk.row", defArgs s_Desk_row, defBody s_Desk_row, defScope s_Desk_row, [], []⟩
def d_meetings : He.DefD := ⟨("meetings", none), "meetings", "meetings", defArgs s_meetings, defBody s_meetings, defScope s_meetings, [], []⟩
def d_Desk_is_at_rest : He.DefD := ⟨("Desk", some "is_at_rest"), "is_at_rest", "Desk.is_at_rest", defArgs s_Desk_is_at_rest, defBody s_Desk_is_at_rest, defScope s_Desk_is_at_rest, [], []⟩
def d_Desk_text : He.DefD := ⟨("Desk", some "text"), "text", "Desk.text", defArgs s_Desk_text, defBody s_Desk_text, defScope s_Desk_text, [], []⟩
def d_demand_text : He.DefD := ⟨("demand_text", none), "demand_text", "demand_text", defArgs s_demand_text, defBody s_demand_text, defScope s_demand_text, [], []⟩
def d_words_behind : He.DefD := ⟨("words_behind", none), "words_behind", "words_behind", defArgs s_words_behind, defBody s_words_behind, defScope s_words_behind, [], []⟩
def d_moods_from : He.DefD := ⟨("moods_from", none), "moods_from", "moods_from", defArgs s_moods_from, defBody s_moods_from, defScope s_moods_from, [], []⟩
def d_folk_from : He.DefD := ⟨("folk_from", none), "folk_from", "folk_from", defArgs s_folk_from, defBody s_folk_from, defScope s_folk_from, [], []⟩
def d_kind_of : He.DefD := ⟨("kind_of", none), "kind_of", "kind_of", defArgs s_kind_of, defBody s_kind_of, defScope s_kind_of, [], []⟩
def d_is_number : He.DefD := ⟨("is_number", none), "is_number", "is_number", defArgs s_is_number, defBody s_is_number, defScope s_is_number, [], []⟩
def d_crowd_from : He.DefD := ⟨("crowd_from", none), "crowd_from", "crowd_from", defArgs s_crowd_from, defBody s_crowd_from, defScope s_crowd_from, [], []⟩
def d_demand_no_more : He.DefD := ⟨("demand_no_more", none), "demand_no_more", "demand_no_more", defArgs s_demand_no_more, defBody s_demand_no_more, defScope s_demand_no_more, [], []⟩
def d_desk_of : He.DefD := ⟨("desk_of", none), "desk_of", "desk_of", defArgs s_desk_of, defBody s_desk_of, defScope s_desk_of, [], []⟩
def d__law_taken : He.DefD := ⟨("_law_taken", none), "_law_taken", "_law_taken", defArgs s__law_taken, defBody s__law_taken, defScope s__law_taken, [], []⟩
def d__law_pick : He.DefD := ⟨("_law_pick", none), "_law_pick", "_law_pick", defArgs s__law_pick, defBody s__law_pick, defScope s__law_pick, [], []⟩
def d__law_alike : He.DefD := ⟨("_law_alike", none), "_law_alike", "_law_alike", defArgs s__law_alike, defBody s__law_alike, defScope s__law_alike, [], []⟩
def d__law_two : He.DefD := ⟨("_law_two", none), "_law_two", "_law_two", defArgs s__law_two, defBody s__law_two, defScope s__law_two, [], []⟩
def d__law_moods : He.DefD := ⟨("_law_moods", none), "_law_moods", "_law_moods", defArgs s__law_moods, defBody s__law_moods, defScope s__law_moods, [], []⟩
def d__law_weight : He.DefD := ⟨("_law_weight", none), "_law_weight", "_law_weight", defArgs s__law_weight, defBody s__law_weight, defScope s__law_weight, [], []⟩
def d__law_folk : He.DefD := ⟨("_law_folk", none), "_law_folk", "_law_folk", defArgs s__law_folk, defBody s__law_folk, defScope s__law_folk, [], []⟩
def d__law_counts : He.DefD := ⟨("_law_counts", none), "_law_counts", "_law_counts", defArgs s__law_counts, defBody s__law_counts, defScope s__law_counts, [], []⟩
def d__law_usable : He.DefD := ⟨("_law_usable", none), "_law_usable", "_law_usable", defArgs s__law_usable, defBody s__law_usable, defScope s__law_usable, [], []⟩
def d__law_behind : He.DefD := ⟨("_law_behind", none), "_law_behind", "_law_behind", defArgs s__law_behind, defBody s__law_behind, defScope s__law_behind, [], []⟩
def d__law_crowd : He.DefD := ⟨("_law_crowd", none), "_law_crowd", "_law_crowd", defArgs s__law_crowd, defBody s__law_crowd, defScope s__law_crowd, [], []⟩
def d_law : He.DefD := ⟨("law", none), "law", "law", defArgs s_law, defBody s_law, defScope s_law, [], []⟩
def fnL : List He.DefD := [d_is_pair, d_are_moods, d_are_two, d_is_rule, d_are_rules, d_is_folk, d_demand_folk, d_is_integer, d_is_crowd, d_demand_crowd, d_Desk___init__, d_demand_room, d_numbers_of, d_can_be_used, d_behind_rule, d_met, d_Desk__turn, d_Desk_meet, d_with_more, d_Desk_join, d_is_mood, d_demand_mood, d_Desk_leave, d_Desk_undo, d_Desk_crowd, d_Desk_row, d_meetings, d_Desk_is_at_rest, d_Desk_text, d_demand_text, d_words_behind, d_moods_from, d_folk_from, d_kind_of, d_is_number, d_crowd_from, d_demand_no_more, d_desk_of, d__law_taken, d__law_pick, d__law_alike, d__law_two, d__law_moods, d__law_weight, d__law_folk, d__law_counts, d__law_usable, d__law_behind, d__law_crowd, d_law]
def faL : List He.Fa := ([.glo "is_pair", .glo "are_moods", .glo "are_two", .glo "is_rule", .glo "are_rules", .glo "is_folk", .glo "demand_folk", .glo "is_integer", .glo "is_crowd", .glo "demand_crowd", .glo "demand_room", .glo "numbers_of", .glo "can_be_used", .glo "behind_rule", .glo "met", .glo "with_more", .glo "is_mood", .glo "demand_mood", .glo "meetings", .glo "demand_text", .glo "words_behind", .glo "moods_from", .glo "folk_from", .glo "kind_of", .glo "is_number", .glo "crowd_from", .glo "demand_no_more", .glo "desk_of", .glo "_law_taken", .glo "_law_pick"] : List He.Fa)
  ++ ([.glo "_law_alike", .glo "_law_two", .glo "_law_moods", .glo "_law_weight", .glo "_law_folk", .glo "_law_counts", .glo "_law_usable", .glo "_law_behind", .glo "_law_crowd", .glo "law", .glo "Desk", .cls "Desk", .mkr "Desk", .noat "Desk" "folk", .noat "Desk" "here", .noat "Desk" "done", .meth "Desk" "_turn", .meth "Desk" "meet", .meth "Desk" "join", .meth "Desk" "leave", .meth "Desk" "undo", .meth "Desk" "crowd", .meth "Desk" "row", .meth "Desk" "is_at_rest", .meth "Desk" "text", .free "all", .free "any", .free "bool", .free "dict", .free "int"] : List He.Fa)
  ++ ([.free "isinstance", .free "len", .free "list", .free "min", .free "range", .free "set", .free "sorted", .free "str", .free "sum", .free "tuple", .free "zip", .int "CROWD_AT" (2), .int "LAST_AT" (3), .int "MOODS_AT" (0), .int "MOST_FIGURES" (41), .int "MOST_IN_A_MOOD" (10000000000000000000000000000000000000000), .int "MOST_MOODS" (6), .int "MOST_RULES" (12), .int "RULES_AT" (1), .glo "BadCrowd", .glo "BadFolk", .glo "BadRule", .glo "NoMood", .glo "Nobody", .glo "NotText", .glo "NothingDone", .glo "TooGreat", .keep "BadCrowd", .keep "BadFolk", .keep "BadRule"] : List He.Fa)
  ++ ([.keep "NoMood", .keep "Nobody", .keep "NotText", .keep "NothingDone", .keep "TooGreat", .exm "BadCrowd" "BadCrowd" true, .exm "BadFolk" "BadFolk" true, .exm "BadRule" "BadRule" true, .exm "NoMood" "NoMood" true, .exm "Nobody" "Nobody" true, .exm "NotText" "NotText" true, .exm "NothingDone" "NothingDone" true, .exm "TooGreat" "TooGreat" true] : List He.Fa)
def tgL : List He.Defn := [("are_moods", none), ("are_rules", none), ("is_crowd", none), ("demand_room", none), ("can_be_used", none), ("folk_from", none), ("is_number", none), ("crowd_from", none)]
def tfL : List He.Defn := [("are_moods", none), ("are_rules", none), ("is_crowd", none), ("demand_room", none), ("can_be_used", none), ("folk_from", none), ("is_number", none), ("crowd_from", none)]
/-- an own error: its chain -/
def bsX (K : PySem.W.Frag) : List Value := He.veBase
def exX (x : Str) (K : PySem.W.Frag) : Bool := PySem.W.excIn K (He.ga K x) (bsX K) "ValueError.__new__" && (decide (PySem.W.subIn K (.ref (He.ga K x)) (.type "BaseException") = some true) && decide (PySem.W.typeIn K (.ref (He.ga K x)) = some (.type "type")))
def exL : List Str := ["BadCrowd", "BadFolk", "BadRule", "NoMood", "Nobody", "NotText", "NothingDone", "TooGreat"]
def exG (K : PySem.W.Frag) : Bool := true
def ldL : List He.Defn := []
def exT (K : PySem.W.Frag) : Bool := true
def exS (K : PySem.W.Frag) : Bool := exT K && ((ldL.all fun p => !(tgL.any fun q => decide ((He.cT K q).2 = (He.cT K p).2))) && (ldL.all fun p => ldL.all fun q => decide (p = q) || !decide ((He.cT K p).2 = (He.cT K q).2)))
def exB (K : PySem.W.Frag) : Bool := (exL.all fun x => exX x K) && (exG K && exS K)
abbrev Rr : PySem.W.OpenRow := PySem.W.OpenLaw.row PySem.Challenge.rw_meetfolk_k17_whole_desks
/-! a smaller view of the heap: the module's values, what they name, the methods -/
def refsL (g : Addr → Option Obj) (as : List Addr) : List Addr := as.flatMap fun a => match g a with
  | some o => He.refsD o
  | none => []
def dictB (g : Addr → Option Obj) (a : Addr) : Bool := match g a with
  | some ⟨_, _, .dict _ _, _⟩ => true
  | _ => false
def asZ2 (g : Addr → Option Obj) (l1 l2 : List Addr) : List Addr := let l3 := refsL g (l2.filter (dictB g)); mainGlobals :: (l1 ++ (l2 ++ (l3 ++ refsL g l3)))
def asZ1 (g : Addr → Option Obj) (l1 : List Addr) : List Addr := asZ2 g l1 (refsL g l1)
def asZ (g : Addr → Option Obj) : List Addr := asZ1 g (refsL g [mainGlobals])
def obsZ (g : Addr → Option Obj) (K : PySem.W.Frag) : He.AlX := (He.obsT faL fnL [] K, exB K && He.tabsB g tfL K)
theorem saysZ {w : World} {h : Heap} {as : List Addr} (e : obsZ h.get? (He.frT h.get? as) = He.valX fnL [] w) : He.SaysX faL fnL [] tfL exB w h (He.frT h.get? as) := by
  have e1 : He.obsT faL fnL [] (He.frT h.get? as) = He.valT fnL [] w := congrArg (fun z : He.AlX => z.1) e
  have e2 : (exB (He.frT h.get? as) && He.tabsB h.get? tfL (He.frT h.get? as)) = true := congrArg (fun z : He.AlX => z.2) e
  obtain ⟨h1, h2⟩ := He.ba e2
  have key : ∀ p ∈ tfL, PySem.W.codeHdIn (He.frT h.get? as) (He.cT (He.frT h.get? as) p).1 (He.cT (He.frT h.get? as) p).2 = true ∧ ∃ o, h.get? (He.cT (He.frT h.get? as) p).2 = some o ∧ He.emptyTab o = true := fun p hp => by
    obtain ⟨h3, h4⟩ := He.ba (List.all_eq_true.mp h2 p hp)
    refine ⟨h3, ?_⟩
    cases q : h.get? (He.cT (He.frT h.get? as) p).2 with
    | none => rw [q] at h4; cases h4
    | some o => rw [q] at h4; exact ⟨o, rfl, h4⟩
  exact ⟨e1, h1, fun p hp => (key p hp).1, fun p hp => by
    obtain ⟨_, o, q, z⟩ := key p hp
    exact He.frT_none q z, fun p hp => by
    obtain ⟨_, o, q, z⟩ := key p hp
    rw [q, He.emptyTab_eq z]⟩
def hkX : PySem.W.Hook where
  α := He.AlX
  obs := fun s => obsZ s.heap.get? (He.frT s.heap.get? (asZ s.heap.get?))
  val := fun w => He.valX fnL [] w
  says := fun w h => ∃ K : PySem.W.Frag, K.In h ∧ He.SaysX faL fnL [] tfL exB w h K
  of := fun _ _ e => ⟨_, He.frT_in, saysZ e⟩
  keeps := fun _ _ _ ⟨K, hK, c⟩ k => ⟨K, PySem.W.Frag.In.keeps hK k, ⟨c.t, c.more, c.hd, c.out, fun p hp => k _ _ (c.empty p hp)⟩⟩
def obF (s : PySem.W.SharedT) : He.AlX := obsZ (HandSHeadRun.getT s) (He.frT (HandSHeadRun.getT s) (asZ (HandSHeadRun.getT s)))
theorem obF_eq (s : PySem.W.SharedT) : obF s = hkX.obs s.abs := by
  have e : HandSHeadRun.getT s = s.abs.heap.get? := funext (HandSHeadRun.getT_eq s)
  show obsZ (HandSHeadRun.getT s) (He.frT (HandSHeadRun.getT s) (asZ (HandSHeadRun.getT s))) = obsZ s.abs.heap.get? (He.frT s.abs.heap.get? (asZ s.abs.heap.get?))
  rw [e]
def looseL : List PySem.Str := (["FolkError", "BadFolk", "BadCrowd", "BadRule", "TooGreat", "NoMood", "NotText", "Nobody", "NothingDone", "InvalidDesk", "MOST_MOODS", "MOST_RULES", "MOST_IN_A_MOOD", "is_integer", "is_pair", "are_moods", "is_mood", "are_two", "is_rule", "are_rules"] : List PySem.Str)
  ++ (["is_folk", "is_crowd", "demand_folk", "demand_crowd", "demand_mood", "demand_room", "numbers_of", "can_be_used", "behind_rule", "meetings", "met", "demand_text", "kind_of", "is_number", "MOST_FIGURES", "MOODS_AT", "RULES_AT", "CROWD_AT", "LAST_AT", "words_behind"] : List PySem.Str)
  ++ (["moods_from", "folk_from", "crowd_from", "demand_no_more", "with_more", "Desk", "desk_of", "_law_taken", "_law_pick", "_law_alike", "_law_two", "_law_moods", "_law_folk", "_law_weight", "_law_counts", "_law_usable", "_law_behind", "_law_crowd"] : List PySem.Str)
theorem runF (w : World) : HandSHeadRun.RunEq Rr (PySem.W.view Rr.prog [65]) hkX obF 20000 looseL w := by
  intro os
  kernel_rfl
end KK

set_option Elab.async false
set_option linter.all false
set_option maxRecDepth 100000
set_option maxHeartbeats 1000000
namespace Pd
open PySem PySem.Spec PyProof.Rows L2
abbrev St := L2.St

/-! ### values: data that never changes; a thing that may (by its number in the store); a closure (by its number) -/
inductive W where
  | d (x : PyData)
  | loc (n : Nat)
  | clo (j : Nat)
/-- what a changing thing holds: a list; a dict (tuple keys?, locked?, its pairs); an instance of a class of the program -/
inductive Cell where
  | lst (ws : List W)
  | dct (t lk : Bool) (kvs : List (PyData × W))
  | ins (c : Str) (fs : List (Str × W))
abbrev Sto := List Cell
abbrev Env := List (Option W)
/-- an exception: of a class; with a field -/
inductive Exn where
  | p (x : Str)
  | f (x g : Str) (d : PyData)
abbrev Exn.nm : Exn → Str
  | .p x => x
  | .f x _ _ => x
inductive R (α : Type) where
  | ok (a : α) (m : Sto)
  | exc (x : Exn) (m : Sto)
  | bad
@[simp] def R.bind {α β : Type} : R α → (α → Sto → R β) → R β
  | .ok a m, f => f a m
  | .exc x m, _ => .exc x m
  | .bad, _ => .bad

structure Ct where
  K : PySem.W.Frag
  T : List Addr
  xa : Str → Addr
  clo : Nat → Addr → HO
  L : List (Addr × Str)
  sp : ∀ p ∈ L, p.1 ∉ T

/-! ### what stands for what -/
/-- the changing things' addresses, by number; and addresses that are being filled, which no value is to lean on -/
structure Ad where
  loc : List Addr
  hid : List Addr
def Ad.free (M : Ad) (a : Addr) : Prop := a ∉ M.loc ∧ a ∉ M.hid
def FzL (K : PySem.W.Frag) (H : Hp) (M : Ad) (a : Addr) (xs : List V) : Prop :=
  (Rd H a (.lst xs) ∧ M.free a) ∨ ∃ (o : Obj) (its : Array Value) (n : Nat), K.lookup a = some o ∧ o.cls = .type "list" ∧ o.dict = none ∧ o.data = .seq its n ∧ its.size ≤ sizeLine ∧ Vals xs its.toList
def FzT (H : Hp) (M : Ad) (a : Addr) (xs : List V) : Prop := H a = some (.tup xs) ∧ M.free a
/-- a dict, locked or not -/
def FzD (H : Hp) (M : Ad) (a : Addr) (u : HO) : Prop := Rd H a u ∧ M.free a
theorem FzL.sq {K : PySem.W.Frag} {H : Hp} {M : Ad} {a : Addr} {xs : List V} (h : FzL K H M a xs) : SqL K H a xs := h.imp (·.1) id
theorem FzT.sq {K : PySem.W.Frag} {H : Hp} {M : Ad} {a : Addr} {xs : List V} (h : FzT H M a xs) : SqT K H a xs := .inl (.inl h.1)
/-- a dict's key as data -/
def keyD : Key → PyData
  | .inl i => .int i
  | .inr x => .str x
def keyT (ks : List Key) : PyData := .tuple (ks.map keyD)
/-- a dict's pairs, the keys as data -/
def kvD (kvs : List (Key × V)) : List (PyData × V) := kvs.map fun p => (keyD p.1, p.2)
def kvT (kvs : List (List Key × V)) : List (PyData × V) := kvs.map fun p => (keyT p.1, p.2)
mutual
inductive Rp (K : PySem.W.Frag) (H : Hp) (M : Ad) : V → PyData → Prop
  | non : Rp K H M .non .none
  | bl (b : Bool) : Rp K H M (.bl b) (.bool b)
  | int (i : Int) : Rp K H M (.int i) (.int i)
  | str (x : Str) : Rp K H M (.str x) (.str x)
  | lst {a : Addr} {xs : List V} {ds : List PyData} : FzL K H M a xs → RpA K H M xs ds → Rp K H M (.ref a) (.list ds)
  | tup {a : Addr} {xs : List V} {ds : List PyData} : FzT H M a xs → RpA K H M xs ds → Rp K H M (.ref a) (.tuple ds)
  | dK {a : Addr} {kvs : List (Key × V)} {ds : List (PyData × PyData)} : FzD H M a (.dK kvs) → RpP K H M (kvD kvs) ds → Rp K H M (.ref a) (.dict ds)
  | dT {a : Addr} {kvs : List (List Key × V)} {ds : List (PyData × PyData)} : FzD H M a (.dT kvs) → RpP K H M (kvT kvs) ds → Rp K H M (.ref a) (.dict ds)
inductive RpA (K : PySem.W.Frag) (H : Hp) (M : Ad) : List V → List PyData → Prop
  | nil : RpA K H M [] []
  | cons {v : V} {vs : List V} {d : PyData} {ds : List PyData} : Rp K H M v d → RpA K H M vs ds → RpA K H M (v :: vs) (d :: ds)
inductive RpP (K : PySem.W.Frag) (H : Hp) (M : Ad) : List (PyData × V) → List (PyData × PyData) → Prop
  | nil : RpP K H M [] []
  | cons {k : PyData} {v : V} {vs : List (PyData × V)} {d : PyData} {ds : List (PyData × PyData)} : Rp K H M v d → RpP K H M vs ds → RpP K H M ((k, v) :: vs) ((k, d) :: ds)
end
/-- carried over, once for all -/
structure Car (K : PySem.W.Frag) (H : Hp) (M : Ad) (H' : Hp) (M' : Ad) : Prop where
  l : ∀ a xs, FzL K H M a xs → FzL K H' M' a xs
  t : ∀ a xs, FzT H M a xs → FzT H' M' a xs
  dk : ∀ a kvs, FzD H M a (.dK kvs) → FzD H' M' a (.dK kvs)
  dt : ∀ a kvs, FzD H M a (.dT kvs) → FzD H' M' a (.dT kvs)
section
variable {K : PySem.W.Frag} {H H' : Hp} {M M' : Ad}
mutual
theorem Rp.car (c : Car K H M H' M') : ∀ {v : V} {d : PyData}, Rp K H M v d → Rp K H' M' v d
  | _, _, .non => .non
  | _, _, .bl b => .bl b
  | _, _, .int i => .int i
  | _, _, .str x => .str x
  | _, _, .lst a b => .lst (c.l _ _ a) (RpA.car c b)
  | _, _, .tup a b => .tup (c.t _ _ a) (RpA.car c b)
  | _, _, .dK a b => .dK (c.dk _ _ a) (RpP.car c b)
  | _, _, .dT a b => .dT (c.dt _ _ a) (RpP.car c b)
theorem RpA.car (c : Car K H M H' M') : ∀ {vs : List V} {ds : List PyData}, RpA K H M vs ds → RpA K H' M' vs ds
  | _, _, .nil => .nil
  | _, _, .cons a b => .cons (Rp.car c a) (RpA.car c b)
theorem RpP.car (c : Car K H M H' M') : ∀ {vs : List (PyData × V)} {ds : List (PyData × PyData)}, RpP K H M vs ds → RpP K H' M' vs ds
  | _, _, .nil => .nil
  | _, _, .cons a b => .cons (Rp.car c a) (RpP.car c b)
end
end
mutual
theorem Rp.dp {K : PySem.W.Frag} {H : Hp} {M : Ad} : ∀ {d : PyData} {v : V}, d.canLay0 = true → Rp K H M v d → Dp K H v d
  | .none, _, _, h => by cases h; exact .non
  | .bool _, _, _, h => by cases h; exact .bl _
  | .int _, _, _, h => by cases h; exact .int _
  | .str _, _, _, h => by cases h; exact .str _
  | .list ds, _, l, h => by cases h with | lst a b => exact .lst a.sq (RpA.dp (by unfold PyData.canLay0 at l; exact l) b)
  | .tuple ds, _, l, h => by cases h with | tup a b => exact .tup a.sq (RpA.dp (by unfold PyData.canLay0 at l; exact l) b)
  | .dict _, _, l, h => by unfold PyData.canLay0 at l; cases l
theorem RpA.dp {K : PySem.W.Frag} {H : Hp} {M : Ad} : ∀ {ds : List PyData} {vs : List V}, PyData.canLayAll0 ds = true → RpA K H M vs ds → DpAll K H vs ds
  | [], _, _, h => by cases h; exact .nil
  | _ :: _, _, l, h => by
    unfold PyData.canLayAll0 at l
    rw [Bool.and_eq_true] at l
    cases h with | cons a b => exact .cons (Rp.dp l.1 a) (RpA.dp l.2 b)
end
theorem lay_of {d : PyData} (h : SeqAt.shaped d = true) : d.canLay0 = true := by
  unfold SeqAt.shaped at h
  rw [Bool.and_eq_true] at h
  exact h.1
theorem Rp.sdp {K : PySem.W.Frag} {H : Hp} {M : Ad} {d : PyData} {v : V} (h : Rp K H M v d) (s : SeqAt.shaped d = true) : Dp K H v d := h.dp (lay_of s)
theorem RpA.len {K : PySem.W.Frag} {H : Hp} {M : Ad} : ∀ {ds : List PyData} {vs : List V}, RpA K H M vs ds → vs.length = ds.length
  | [], _, h => by cases h; rfl
  | _ :: _, _, h => by cases h with | cons a b => simp [RpA.len b]
theorem RpA.get {K : PySem.W.Frag} {H : Hp} {M : Ad} : ∀ {ds : List PyData} {vs : List V} {i : Nat} {d : PyData}, RpA K H M vs ds → ds[i]? = some d → ∃ v, vs[i]? = some v ∧ Rp K H M v d
  | [], _, _, _, h, e => by simp at e
  | _ :: _, _, 0, _, h, e => by cases h with | cons a b => simp at e; subst e; exact ⟨_, rfl, a⟩
  | _ :: _, _, i + 1, _, h, e => by cases h with | cons a b => obtain ⟨v, e1, e2⟩ := RpA.get (i := i) b (by simpa using e); exact ⟨v, by simpa using e1, e2⟩
theorem RpA.app {K : PySem.W.Frag} {H : Hp} {M : Ad} : ∀ {ds es : List PyData} {vs ws : List V}, RpA K H M vs ds → RpA K H M ws es → RpA K H M (vs ++ ws) (ds ++ es)
  | [], _, _, _, h, g => by cases h; exact g
  | _ :: _, _, _, _, h, g => by cases h with | cons a b => exact .cons a (RpA.app b g)
theorem RpA.take {K : PySem.W.Frag} {H : Hp} {M : Ad} : ∀ {ds : List PyData} {vs : List V} (n : Nat), RpA K H M vs ds → RpA K H M (vs.take n) (ds.take n)
  | _, _, 0, _ => .nil
  | [], _, n + 1, h => by cases h; exact .nil
  | _ :: _, _, n + 1, h => by cases h with | cons a b => exact .cons a (RpA.take n b)
theorem RpA.drop {K : PySem.W.Frag} {H : Hp} {M : Ad} : ∀ {ds : List PyData} {vs : List V} (n : Nat), RpA K H M vs ds → RpA K H M (vs.drop n) (ds.drop n)
  | _, _, 0, h => h
  | [], _, n + 1, h => by cases h; exact .nil
  | _ :: _, _, n + 1, h => by cases h with | cons a b => exact RpA.drop n b
def RW (C : Ct) (H : Hp) (M : Ad) (v : V) : W → Prop
  | .d x => Rp C.K H M v x
  | .loc n => ∃ a, v = .ref a ∧ M.loc[n]? = some a
  | .clo j => ∃ f, v = .ref f ∧ H f = some (C.clo j f) ∧ (∀ u, C.clo j f ≠ .dK u) ∧ (∀ u, C.clo j f ≠ .dT u) ∧ (∀ o u, C.clo j f ≠ .frz o u) ∧ (∀ u, C.clo j f ≠ .tbl u) ∧ M.free f
inductive RWs (C : Ct) (H : Hp) (M : Ad) : List V → List W → Prop
  | nil : RWs C H M [] []
  | cons {v : V} {vs : List V} {w : W} {ws : List W} : RW C H M v w → RWs C H M vs ws → RWs C H M (v :: vs) (w :: ws)
/-- named things: the same names -/
inductive RWp (C : Ct) (H : Hp) (M : Ad) {κ : Type} : List (κ × V) → List (κ × W) → Prop
  | nil : RWp C H M [] []
  | cons {k : κ} {v : V} {vs : List (κ × V)} {w : W} {ws : List (κ × W)} : RW C H M v w → RWp C H M vs ws → RWp C H M ((k, v) :: vs) ((k, w) :: ws)
/-- what stands at a dict's address: locked or not -/
def Lk (H : Hp) (a : Addr) (lk : Bool) (u : HO) : Prop := if lk then ∃ o, H a = some (.frz o u) else H a = some u
def CellOk (C : Ct) (H : Hp) (M : Ad) (a : Addr) : Cell → Prop
  | .lst ws => ∃ vs, H a = some (.lst vs) ∧ RWs C H M vs ws
  | .dct false lk kvs => ∃ vs, Lk H a lk (.dK vs) ∧ RWp C H M (kvD vs) kvs
  | .dct true lk kvs => ∃ vs, Lk H a lk (.dT vs) ∧ RWp C H M (kvT vs) kvs
  | .ins c fs => ∃ dx vs, H a = some (.ins (C.xa c) dx vs) ∧ RWp C H M vs fs
/-- what may be being filled -/
def Busy (o : HO) : Prop := (∀ xs, o ≠ .tup xs) ∧ (∀ ps, o ≠ .tbl ps) ∧ ∀ φ, o ≠ .ext φ
/-- the tables of code objects: of generators in any order; of lambdas, whose names are known -/
def TabsOk (C : Ct) (H : Hp) : Prop := (∀ P ∈ C.T, GxR.TabG H P) ∧ ∀ p ∈ C.L, LamX.TabS H p.1 p.2
theorem tabS_step {H H' : Hp} {P : Addr} {q : Str} (t : LamX.TabS H P q) (k1 : ∀ ps, H P = some (.tbl ps) → H' P = some (.tbl ps)) (k2 : ∀ a φ, H a = some (.ext φ) → H' a = some (.ext φ)) : LamX.TabS H' P q := by
  obtain ⟨ps, h1, h2, h3⟩ := t
  exact ⟨ps, k1 _ h1, h2, fun pos cv hc => let ⟨c, e1, e2⟩ := h3 pos cv hc; ⟨c, e1, k2 _ _ e2⟩⟩
theorem TabsOk.step {C : Ct} {H H' : Hp} (t : TabsOk C H) (k1 : ∀ a ps, H a = some (.tbl ps) → H' a = some (.tbl ps)) (k2 : ∀ a φ, H a = some (.ext φ) → H' a = some (.ext φ)) : TabsOk C H' :=
  ⟨fun P hP => let ⟨ps, e, z⟩ := t.1 P hP; ⟨ps, k1 _ _ e, z⟩, fun p hp => tabS_step (t.2 p hp) (fun ps => k1 _ ps) k2⟩
structure Ok (C : Ct) (M : Ad) (m : Sto) (H : Hp) : Prop where
  tab : TabsOk C H
  len : M.loc.length = m.length
  cell : ∀ (n : Nat) (a : Addr) (c : Cell), M.loc[n]? = some a → m[n]? = some c → CellOk C H M a c
  nd : M.loc.Nodup
  hid : ∀ a ∈ M.hid, ∃ o, H a = some o ∧ Busy o
  sep : ∀ a ∈ M.loc, a ∉ M.hid
structure RS (C : Ct) (H : Hp) (M : Ad) (σ : St) (e : Env) : Prop where
  len : σ.length = e.length
  at_ : ∀ (i : Nat) (w : W), e[i]? = some (some w) → ∃ v, σ[i]? = some (some v) ∧ RW C H M v w

/-! ### how the heap goes on -/
/-- a dict under a lock is the same dict -/
def nf : HO → HO
  | .frz _ (.dK k) => .dK k
  | .frz _ (.dT k) => .dT k
  | o => o
structure Go (M : Ad) (H : Hp) (M' : Ad) (H' : Hp) : Prop where
  ext : ∃ nw, M'.loc = M.loc ++ nw ∧ ∀ a ∈ nw, H a = none
  hid : M'.hid = M.hid
  st : ∀ a o, H a = some o → a ∉ M.loc → (∀ ps, o ≠ .tbl ps) → ∃ o', H' a = some o' ∧ nf o' = nf o
  dom : ∀ a, H' a = none → H a = none
  lk : ∀ a b u, H a = some (.frz b u) → H' a = some (.frz b u)
  hd : ∀ a ∈ M.hid, ∀ o, H a = some o → (∀ ps, o ≠ .tbl ps) → H' a = some o
/-- what no lock changes -/
def Plain (o : HO) : Prop := (∀ u, o ≠ .dK u) ∧ (∀ u, o ≠ .dT u) ∧ (∀ b u, o ≠ .frz b (.dK u)) ∧ (∀ b u, o ≠ .frz b (.dT u)) ∧ ∀ u, o ≠ .tbl u
theorem nf_plain {o o' : HO} (p : Plain o) (h : nf o' = nf o) : o' = o := by
  have e : nf o = o := by
    unfold nf
    split
    · rename_i b k; exact absurd rfl (p.2.2.1 b k)
    · rename_i b k; exact absurd rfl (p.2.2.2.1 b k)
    · rfl
  rw [e] at h
  unfold nf at h
  split at h
  · rename_i b k; exact absurd h.symm (p.1 k)
  · rename_i b k; exact absurd h.symm (p.2.1 k)
  · exact h
theorem plain_lst (xs : List V) : Plain (.lst xs) := by
  refine ⟨?_, ?_, ?_, ?_, ?_⟩ <;> intros <;> intro z <;> cases z
theorem plain_tup (xs : List V) : Plain (.tup xs) := by
  refine ⟨?_, ?_, ?_, ?_, ?_⟩ <;> intros <;> intro z <;> cases z
theorem plain_frzL (o : Obj) (xs : List V) : Plain (.frz o (.lst xs)) := by
  refine ⟨?_, ?_, ?_, ?_, ?_⟩ <;> intros <;> intro z <;> cases z
theorem plain_ext (φ : Heap → Prop) : Plain (.ext φ) := by
  refine ⟨?_, ?_, ?_, ?_, ?_⟩ <;> intros <;> intro z <;> cases z
theorem nf_rdK {H' : Hp} {a : Addr} {k : List (Key × V)} {o' : HO} (e : H' a = some o') (h : nf o' = .dK k) : Rd H' a (.dK k) := by
  unfold nf at h
  split at h
  · cases h; exact .inr ⟨_, e⟩
  · cases h
  · rw [h] at e; exact .inl e
theorem nf_rdT {H' : Hp} {a : Addr} {k : List (List Key × V)} {o' : HO} (e : H' a = some o') (h : nf o' = .dT k) : Rd H' a (.dT k) := by
  unfold nf at h
  split at h
  · cases h
  · cases h; exact .inr ⟨_, e⟩
  · rw [h] at e; exact .inl e
section
variable {K : PySem.W.Frag} {C : Ct} {M M' M2 : Ad} {H H' H2 : Hp} {m m' : Sto} {σ : St} {e : Env} {v : V} {w : W} {a : Addr} {o : HO} {xs : List V}
theorem Go.refl : Go M H M H := ⟨⟨[], by simp, by simp⟩, rfl, fun _ o h _ _ => ⟨o, h, rfl⟩, fun _ h => h, fun _ _ _ h => h, fun _ _ _ h _ => h⟩
theorem Go.plain (g : Go M H M' H') (h : H a = some o) (n : a ∉ M.loc) (p : Plain o) : H' a = some o := by
  obtain ⟨o', e, q⟩ := g.st a o h n p.2.2.2.2
  rw [nf_plain p q] at e
  exact e
theorem Go.busy (g : Go M H M' H') (h : H a = some o) (n : a ∉ M.loc) (b : Busy o) : ∃ o', H' a = some o' ∧ Busy o' := by
  obtain ⟨o', e, q⟩ := g.st a o h n b.2.1
  refine ⟨o', e, fun xs z => ?_, fun ps z => ?_, fun φ z => ?_⟩
  · subst z
    have q : HO.tup xs = nf o := q
    unfold nf at q
    split at q
    · cases q
    · cases q
    · exact b.1 xs q.symm
  · subst z
    have q : HO.tbl ps = nf o := q
    unfold nf at q
    split at q
    · cases q
    · cases q
    · exact b.2.1 ps q.symm
  · subst z
    have q : HO.ext φ = nf o := q
    unfold nf at q
    split at q
    · cases q
    · cases q
    · exact b.2.2 φ q.symm
theorem Go.notin (g : Go M H M' H') (h : H a = some o) (n : a ∉ M.loc) : a ∉ M'.loc := by
  obtain ⟨nw, e, hn⟩ := g.ext
  rw [e]
  intro z
  rcases List.mem_append.mp z with z | z
  · exact n z
  · rw [hn a z] at h; cases h
theorem Go.free (g : Go M H M' H') (h : H a = some o) (n : M.free a) : M'.free a := ⟨g.notin h n.1, by rw [g.hid]; exact n.2⟩
theorem Go.trans (g : Go M H M' H') (k : Go M' H' M2 H2) : Go M H M2 H2 := by
  refine ⟨?_, k.hid.trans g.hid, fun a o h n t => ?_, fun a h => g.dom a (k.dom a h), fun a b u h => k.lk a b u (g.lk a b u h), fun a ha o h t => k.hd a (by rw [g.hid]; exact ha) o (g.hd a ha o h t) t⟩
  · obtain ⟨nw, e1, hn⟩ := id g.ext
    obtain ⟨nw2, e2, hn2⟩ := k.ext
    refine ⟨nw ++ nw2, by rw [e2, e1, List.append_assoc], fun a ha => ?_⟩
    rcases List.mem_append.mp ha with z | z
    · exact hn a z
    · exact g.dom a (hn2 a z)
  · obtain ⟨o1, e1, q1⟩ := g.st a o h n t
    have t1 : ∀ ps, o1 ≠ .tbl ps := fun ps z => by
      subst z
      have h2 : (HO.tbl ps) = nf o := q1
      unfold nf at h2
      split at h2
      · cases h2
      · cases h2
      · exact t ps h2.symm
    obtain ⟨o2, e2, q2⟩ := k.st a o1 e1 (g.notin h n) t1
    exact ⟨o2, e2, q2.trans q1⟩
theorem Go.at_ (g : Go M H M' H') {n : Nat} (h : M.loc[n]? = some a) : M'.loc[n]? = some a := by
  obtain ⟨nw, e, _⟩ := g.ext
  rw [e, List.getElem?_append_left (List.getElem?_eq_some_iff.mp h).1]; exact h
theorem Go.rdl (g : Go M H M' H') (h : Rd H a (.lst xs)) (n : M.free a) : Rd H' a (.lst xs) ∧ M'.free a := by
  rcases h with h | ⟨o, h⟩
  · exact ⟨.inl (g.plain h n.1 (plain_lst xs)), g.free h n⟩
  · exact ⟨.inr ⟨o, g.plain h n.1 (plain_frzL o xs)⟩, g.free h n⟩
theorem FzL.go (h : FzL K H M a xs) (g : Go M H M' H') : FzL K H' M' a xs := h.imp (fun z => g.rdl z.1 z.2) id
theorem FzT.go (h : FzT H M a xs) (g : Go M H M' H') : FzT H' M' a xs := ⟨g.plain h.1 h.2.1 (plain_tup xs), g.free h.1 h.2⟩
theorem Go.rdK {k : List (Key × V)} (g : Go M H M' H') (h : FzD H M a (.dK k)) : FzD H' M' a (.dK k) := by
  obtain ⟨h, n⟩ := h
  rcases h with h | ⟨o, h⟩
  · obtain ⟨o', e, q⟩ := g.st a _ h n.1 (fun _ z => (by cases z))
    exact ⟨nf_rdK e q, g.free h n⟩
  · obtain ⟨o', e, q⟩ := g.st a _ h n.1 (fun _ z => (by cases z))
    exact ⟨nf_rdK e q, g.free h n⟩
theorem Go.rdT {k : List (List Key × V)} (g : Go M H M' H') (h : FzD H M a (.dT k)) : FzD H' M' a (.dT k) := by
  obtain ⟨h, n⟩ := h
  rcases h with h | ⟨o, h⟩
  · obtain ⟨o', e, q⟩ := g.st a _ h n.1 (fun _ z => (by cases z))
    exact ⟨nf_rdT e q, g.free h n⟩
  · obtain ⟨o', e, q⟩ := g.st a _ h n.1 (fun _ z => (by cases z))
    exact ⟨nf_rdT e q, g.free h n⟩
theorem Go.car (g : Go M H M' H') : Car K H M H' M' := ⟨fun _ _ h => h.go g, fun _ _ h => h.go g, fun _ _ h => g.rdK h, fun _ _ h => g.rdT h⟩
theorem Rp.go (g : Go M H M' H') {d : PyData} {v : V} (h : Rp K H M v d) : Rp K H' M' v d := h.car g.car
theorem RpA.go (g : Go M H M' H') {ds : List PyData} {vs : List V} (h : RpA K H M vs ds) : RpA K H' M' vs ds := h.car g.car
theorem RpP.go (g : Go M H M' H') {ds : List (PyData × PyData)} {vs : List (PyData × V)} (h : RpP K H M vs ds) : RpP K H' M' vs ds := h.car g.car
theorem RW.go (g : Go M H M' H') (h : RW C H M v w) : RW C H' M' v w := by
  cases w with
  | d x => exact Rp.go g h
  | loc n => obtain ⟨a, e, h⟩ := h; exact ⟨a, e, g.at_ h⟩
  | clo j =>
    obtain ⟨f, e, h, h1, h2, h3, h4, n⟩ := h
    exact ⟨f, e, g.plain h n.1 ⟨h1, h2, fun b u => h3 b _, fun b u => h3 b _, h4⟩, h1, h2, h3, h4, g.free h n⟩
theorem RWs.go (g : Go M H M' H') {vs : List V} {ws : List W} (h : RWs C H M vs ws) : RWs C H' M' vs ws := by
  induction h with
  | nil => exact .nil
  | cons a _ ih => exact .cons (a.go g) ih
theorem RWp.go {κ : Type} (g : Go M H M' H') {vs : List (κ × V)} {ws : List (κ × W)} (h : RWp C H M vs ws) : RWp C H' M' vs ws := by
  induction h with
  | nil => exact .nil
  | cons a _ ih => exact .cons (a.go g) ih
theorem RWs.len {vs : List V} {ws : List W} (h : RWs C H M vs ws) : vs.length = ws.length := by
  induction h with
  | nil => rfl
  | cons _ _ ih => simp [ih]
theorem RWp.len {κ : Type} {vs : List (κ × V)} {ws : List (κ × W)} (h : RWp C H M vs ws) : vs.length = ws.length := by
  induction h with
  | nil => rfl
  | cons _ _ ih => simp [ih]
theorem RWs.get {vs : List V} {ws : List W} (h : RWs C H M vs ws) : ∀ {i : Nat} {w : W}, ws[i]? = some w → ∃ v, vs[i]? = some v ∧ RW C H M v w := by
  induction h with
  | nil => intro i w e; simp at e
  | cons a _ ih =>
    intro i w e
    cases i with
    | zero => simp at e; subst e; exact ⟨_, rfl, a⟩
    | succ i => obtain ⟨v, e1, e2⟩ := ih (i := i) (by simpa using e); exact ⟨v, by simpa using e1, e2⟩
theorem RWs.app {vs us : List V} {ws zs : List W} (h : RWs C H M vs ws) (k : RWs C H M us zs) : RWs C H M (vs ++ us) (ws ++ zs) := by
  induction h with
  | nil => exact k
  | cons a _ ih => exact .cons a ih
theorem RWp.app {κ : Type} {vs us : List (κ × V)} {ws zs : List (κ × W)} (h : RWp C H M vs ws) (k : RWp C H M us zs) : RWp C H M (vs ++ us) (ws ++ zs) := by
  induction h with
  | nil => exact k
  | cons a _ ih => exact .cons a ih
theorem RWs.set {vs : List V} {ws : List W} {v : V} {w : W} (h : RWs C H M vs ws) (r : RW C H M v w) : ∀ (i : Nat), RWs C H M (vs.set i v) (ws.set i w) := by
  induction h with
  | nil => intro i; exact .nil
  | cons a t ih =>
    intro i
    cases i with
    | zero => exact .cons r t
    | succ i => exact .cons a (ih i)
theorem RS.go (g : Go M H M' H') (h : RS C H M σ e) : RS C H' M' σ e := ⟨h.len, fun i w q => let ⟨v, e, r⟩ := h.at_ i w q; ⟨v, e, r.go g⟩⟩
theorem RS.set (h : RS C H M σ e) (r : RW C H M v w) (i : Nat) : RS C H M (σ.set i (some v)) (e.set i (some w)) := by
  refine ⟨by simp [h.len], fun j w' q => ?_⟩
  by_cases hj : i = j
  · subst hj
    by_cases hl : i < e.length
    · rw [List.getElem?_set_self hl] at q
      cases q
      exact ⟨v, by rw [List.getElem?_set_self (by rw [h.len]; exact hl)], r⟩
    · rw [List.getElem?_eq_none (by simpa using hl)] at q; cases q
  · rw [List.getElem?_set_ne hj] at q ⊢
    exact h.at_ j w' q
/-- a cell, by what its things say -/
theorem CellOk.map {M M' : Ad} {H H' : Hp} {c : Cell} (hc : CellOk C H M a c) (hs : H' a = H a) (k : ∀ v w, RW C H M v w → RW C H' M' v w) : CellOk C H' M' a c := by
  have ks : ∀ {vs : List V} {ws : List W}, RWs C H M vs ws → RWs C H' M' vs ws := fun {vs ws} h => by
    induction h with
    | nil => exact .nil
    | cons a _ ih => exact .cons (k _ _ a) ih
  have kp : ∀ {κ : Type} {vs : List (κ × V)} {ws : List (κ × W)}, RWp C H M vs ws → RWp C H' M' vs ws := fun {κ vs ws} h => by
    induction h with
    | nil => exact .nil
    | cons a _ ih => exact .cons (k _ _ a) ih
  have kl : ∀ {lk : Bool} {u : HO}, Lk H a lk u → Lk H' a lk u := fun {lk u} h => by unfold Lk at h ⊢; rw [hs]; exact h
  cases c with
  | lst ws => obtain ⟨vs, h1, h2⟩ := hc; exact ⟨vs, by rw [hs]; exact h1, ks h2⟩
  | dct t lk kvs =>
    cases t with
    | false => obtain ⟨vs, h1, h2⟩ := hc; exact ⟨vs, kl h1, kp h2⟩
    | true => obtain ⟨vs, h1, h2⟩ := hc; exact ⟨vs, kl h1, kp h2⟩
  | ins c fs => obtain ⟨dx, vs, h1, h2⟩ := hc; exact ⟨dx, vs, by rw [hs]; exact h1, kp h2⟩
theorem CellOk.go (g : Go M H M' H') {c : Cell} (hc : CellOk C H M a c) (hs : H' a = H a) : CellOk C H' M' a c := hc.map hs fun _ _ r => r.go g
theorem CellOk.any {c : Cell} (hc : CellOk C H M a c) : H a ≠ none := by
  have kl : ∀ {lk : Bool} {u : HO}, Lk H a lk u → H a ≠ none := fun {lk u} h => by
    unfold Lk at h
    split at h
    · obtain ⟨o, h⟩ := h; rw [h]; simp
    · rw [h]; simp
  cases c with
  | lst ws => obtain ⟨vs, h1, _⟩ := hc; rw [h1]; simp
  | dct t lk kvs =>
    cases t with
    | false => obtain ⟨vs, h1, _⟩ := hc; exact kl h1
    | true => obtain ⟨vs, h1, _⟩ := hc; exact kl h1
  | ins c fs => obtain ⟨dx, vs, h1, _⟩ := hc; rw [h1]; simp

theorem CellOk.ntbl {c : Cell} (hc : CellOk C H M a c) (ps : Array Value) : H a ≠ some (.tbl ps) := by
  have kl : ∀ {lk : Bool} {u : HO}, u ≠ .tbl ps → Lk H a lk u → H a ≠ some (.tbl ps) := fun {lk u} n h z => by
    unfold Lk at h
    split at h
    · obtain ⟨o, h⟩ := h; rw [h] at z; cases z
    · rw [h] at z; exact n (Option.some.inj z)
  cases c with
  | lst ws => obtain ⟨vs, h1, _⟩ := hc; rw [h1]; intro z; cases z
  | dct t lk kvs =>
    cases t with
    | false => obtain ⟨vs, h1, _⟩ := hc; exact kl (by intro z; cases z) h1
    | true => obtain ⟨vs, h1, _⟩ := hc; exact kl (by intro z; cases z) h1
  | ins c fs => obtain ⟨dx, vs, h1, _⟩ := hc; rw [h1]; intro z; cases z
theorem CellOk.next {c : Cell} (hc : CellOk C H M a c) (φ : Heap → Prop) : H a ≠ some (.ext φ) := by
  have kl : ∀ {lk : Bool} {u : HO}, u ≠ .ext φ → Lk H a lk u → H a ≠ some (.ext φ) := fun {lk u} n h z => by
    unfold Lk at h
    split at h
    · obtain ⟨o, h⟩ := h; rw [h] at z; cases z
    · rw [h] at z; exact n (Option.some.inj z)
  cases c with
  | lst ws => obtain ⟨vs, h1, _⟩ := hc; rw [h1]; intro z; cases z
  | dct t lk kvs =>
    cases t with
    | false => obtain ⟨vs, h1, _⟩ := hc; exact kl (by intro z; cases z) h1
    | true => obtain ⟨vs, h1, _⟩ := hc; exact kl (by intro z; cases z) h1
  | ins c fs => obtain ⟨dx, vs, h1, _⟩ := hc; rw [h1]; intro z; cases z
/-! ### the ends of a computation -/
def Post {α : Type} (C : Ct) (Ex : Exn → Sto → Ad → Hp → Prop) (M : Ad) (H : Hp) (r : R α) (Kk : α → Ad → Sto → Hp → Prop) : Prop :=
  match r with
  | .ok x m => ∀ M' H', Go M H M' H' → Ok C M' m H' → Kk x M' m H'
  | .exc x m => ∀ M' H', Go M H M' H' → Ok C M' m H' → Ex x m M' H'
  | .bad => False
theorem Post.go {α : Type} {Ex : Exn → Sto → Ad → Hp → Prop} {r : R α} {Kk : α → Ad → Sto → Hp → Prop} (g : Go M H M' H') (h : Post C Ex M H r Kk) : Post C Ex M' H' r Kk := by
  cases r with
  | ok x m => exact fun M2 H2 k o => h M2 H2 (g.trans k) o
  | exc x m => exact fun M2 H2 k o => h M2 H2 (g.trans k) o
  | bad => exact h
theorem Post.bind {α β : Type} {Ex : Exn → Sto → Ad → Hp → Prop} {r : R α} {f : α → Sto → R β} {Kk : β → Ad → Sto → Hp → Prop} (h : Post C Ex M H (r.bind f) Kk) :
    Post C Ex M H r fun x M1 m1 H1 => Post C Ex M1 H1 (f x m1) Kk := by
  cases r with
  | ok x m => exact fun M1 H1 g _ => Post.go g h
  | exc x m => exact h
  | bad => exact h
theorem Post.mono {α : Type} {Ex : Exn → Sto → Ad → Hp → Prop} {r : R α} {Kk Kk' : α → Ad → Sto → Hp → Prop} (h : Post C Ex M H r Kk) (k : ∀ x M1 m1 H1, Go M H M1 H1 → Ok C M1 m1 H1 → Kk x M1 m1 H1 → Kk' x M1 m1 H1) : Post C Ex M H r Kk' := by
  cases r with
  | ok x m => exact fun M1 H1 g o => k _ _ _ _ g o (h M1 H1 g o)
  | exc x m => exact h
  | bad => exact h
end
/-- what an exception wishes, from a context's wish -/
abbrev ExW (C : Ct) (Wx : WX) (σ : St) : Exn → Sto → Ad → Hp → Prop := fun x _ M' H' => match x with
  | .p n => Wx (.ref (C.xa n)) none σ H'
  | .f n g d => ∀ p v, H' p = some (.xd [(g, v)]) → M'.free p → Rp C.K H' M' v d → Wx (.ref (C.xa n)) (some p) σ H'
/-- an expression, a test, an argument list -/
abbrev FE := Env → Sto → R W
abbrev FT := Env → Sto → R Bool
abbrev FA := Env → Sto → R (List W)
def tE (C : Ct) (Wx : WX) (f : FE) : TE := fun σ H Q => ∃ M m e, Ok C M m H ∧ RS C H M σ e ∧ Post C (ExW C Wx σ) M H (f e m) fun w M' m' H' => ∀ v, RW C H' M' v w → Q v H'
def tT (C : Ct) (Wx : WX) (f : FT) : TT := fun σ H Q => ∃ M m e, Ok C M m H ∧ RS C H M σ e ∧ Post C (ExW C Wx σ) M H (f e m) fun b M' m' H' => Q b H'
def tA (C : Ct) (Wx : WX) (f : FA) : TA := fun σ H Q => ∃ M m e, Ok C M m H ∧ RS C H M σ e ∧ Post C (ExW C Wx σ) M H (f e m) fun ws M' m' H' => ∀ vs, RWs C H' M' vs ws → Q vs H'
structure DE (X : Cx) (C : Ct) (Wx : WX) (e : Expr) (f : FE) : Prop where
  pe : PE X e (tE C Wx f)
structure DT (X : Cx) (C : Ct) (Wx : WX) (e : Expr) (f : FT) : Prop where
  pt : PT X e (tT C Wx f)
structure DW (X : Cx) (C : Ct) (Wx : WX) (e : Expr) (f : FT) : Prop where
  pw : PW X e (tT C Wx f)
structure DA (X : Cx) (C : Ct) (Wx : WX) (es : List Expr) (f : FA) : Prop where
  pa : PA X es (tA C Wx f)
theorem PE_imp {X : Cx} {e : Expr} {t t' : TE} (h : PE X e t) (i : ∀ σ H Q, t' σ H Q → t σ H Q) : PE X e t' := ⟨fun pins s σ H Q I q => h.run pins s σ H Q I (i _ _ _ q)⟩
theorem PT_imp {X : Cx} {e : Expr} {t t' : TT} (h : PT X e t) (i : ∀ σ H Q, t' σ H Q → t σ H Q) : PT X e t' := ⟨fun pins s σ H Q I q => h.run pins s σ H Q I (i _ _ _ q)⟩
theorem PW_imp {X : Cx} {e : Expr} {t t' : TT} (h : PW X e t) (i : ∀ σ H Q, t' σ H Q → t σ H Q) : PW X e t' := ⟨fun wh pins s σ H Q I q => h.run wh pins s σ H Q I (i _ _ _ q)⟩
theorem PA_imp {X : Cx} {es : List Expr} {t t' : TA} (h : PA X es t) (i : ∀ σ H Q, t' σ H Q → t σ H Q) : PA X es t' := ⟨fun pos pins s σ H Q I q => h.run pos pins s σ H Q I (i _ _ _ q)⟩
theorem PS_imp {X : Cx} {st : Stmt} {t t' : TS} (h : PS X st t) (i : ∀ D σ H, t' D σ H → t D σ H) : PS X st t' := ⟨fun pins s σ H D I q => h.run pins s σ H D I (i _ _ _ q)⟩
theorem PSs_imp {X : Cx} {st : List Stmt} {t t' : TS} (h : PSs X st t) (i : ∀ D σ H, t' D σ H → t D σ H) : PSs X st t' := ⟨fun pins s σ H D I q => h.run pins s σ H D I (i _ _ _ q)⟩
/-- from a reading on, at a later heap -/
theorem tE_at {C : Ct} {Wx : WX} {f : FE} {σ : St} {H : Hp} {Q : VK} {M : Ad} {m : Sto} {e : Env} (o : Ok C M m H) (r : RS C H M σ e)
    (h : Post C (ExW C Wx σ) M H (f e m) fun w M' m' H' => ∀ v, RW C H' M' v w → Q v H') : tE C Wx f σ H Q := ⟨M, m, e, o, r, h⟩
theorem tT_at {C : Ct} {Wx : WX} {f : FT} {σ : St} {H : Hp} {Q : Bool → Hp → Prop} {M : Ad} {m : Sto} {e : Env} (o : Ok C M m H) (r : RS C H M σ e)
    (h : Post C (ExW C Wx σ) M H (f e m) fun b M' m' H' => Q b H') : tT C Wx f σ H Q := ⟨M, m, e, o, r, h⟩
theorem tA_at {C : Ct} {Wx : WX} {f : FA} {σ : St} {H : Hp} {Q : List V → Hp → Prop} {M : Ad} {m : Sto} {e : Env} (o : Ok C M m H) (r : RS C H M σ e)
    (h : Post C (ExW C Wx σ) M H (f e m) fun ws M' m' H' => ∀ vs, RWs C H' M' vs ws → Q vs H') : tA C Wx f σ H Q := ⟨M, m, e, o, r, h⟩
/-- the common step: a sub-expression's result, then the rest -/
theorem tE_bind {C : Ct} {Wx : WX} {f : FE} {σ : St} {H : Hp} {M : Ad} {m : Sto} {e : Env} {β : Type} {g : W → Sto → R β} {Kk : β → Ad → Sto → Hp → Prop} {Q : VK} (o : Ok C M m H) (r : RS C H M σ e)
    (h : Post C (ExW C Wx σ) M H ((f e m).bind g) Kk) (k : ∀ v w M' m' H', Go M H M' H' → Ok C M' m' H' → RS C H' M' σ e → RW C H' M' v w → Post C (ExW C Wx σ) M' H' (g w m') Kk → Q v H') : tE C Wx f σ H Q :=
  tE_at o r (Post.mono h.bind fun w M1 m1 H1 gg oo q v rv => k v w M1 m1 H1 gg oo (r.go gg) rv q)
theorem tT_bind {C : Ct} {Wx : WX} {f : FT} {σ : St} {H : Hp} {M : Ad} {m : Sto} {e : Env} {β : Type} {g : Bool → Sto → R β} {Kk : β → Ad → Sto → Hp → Prop} {Q : Bool → Hp → Prop} (o : Ok C M m H) (r : RS C H M σ e)
    (h : Post C (ExW C Wx σ) M H ((f e m).bind g) Kk) (k : ∀ b M' m' H', Go M H M' H' → Ok C M' m' H' → RS C H' M' σ e → Post C (ExW C Wx σ) M' H' (g b m') Kk → Q b H') : tT C Wx f σ H Q :=
  tT_at o r (Post.mono h.bind fun b M1 m1 H1 gg oo q => k b M1 m1 H1 gg oo (r.go gg) q)
theorem tA_bind {C : Ct} {Wx : WX} {f : FA} {σ : St} {H : Hp} {M : Ad} {m : Sto} {e : Env} {β : Type} {g : List W → Sto → R β} {Kk : β → Ad → Sto → Hp → Prop} {Q : List V → Hp → Prop} (o : Ok C M m H) (r : RS C H M σ e)
    (h : Post C (ExW C Wx σ) M H ((f e m).bind g) Kk) (k : ∀ vs ws M' m' H', Go M H M' H' → Ok C M' m' H' → RS C H' M' σ e → RWs C H' M' vs ws → Post C (ExW C Wx σ) M' H' (g ws m') Kk → Q vs H') : tA C Wx f σ H Q :=
  tA_at o r (Post.mono h.bind fun w M1 m1 H1 gg oo q v rv => k v w M1 m1 H1 gg oo (r.go gg) rv q)
/-- an immediate end -/
theorem Post.now {α : Type} {C : Ct} {Ex : Exn → Sto → Ad → Hp → Prop} {M : Ad} {H : Hp} {x : α} {m : Sto} {Kk : α → Ad → Sto → Hp → Prop} (h : Post C Ex M H (.ok x m) Kk) (o : Ok C M m H) : Kk x M m H := h M H Go.refl o
theorem Ok.mo {C : Ct} {M : Ad} {m : Sto} {H H' : Hp} (o : Ok C M m H) (g : Go M H M H') (k : ∀ a ∈ M.loc, H' a = H a) (t : TabsOk C H') : Ok C M m H' :=
  ⟨t, o.len, fun n a c e1 e2 => CellOk.go g (o.cell n a c e1 e2) (k a (List.mem_of_getElem? e1)), o.nd, fun a ha => let ⟨u, e, b⟩ := o.hid a ha; g.busy e (fun z => o.sep a z ha) b, o.sep⟩
/-- a cell's address is tracked -/
theorem Ok.there {C : Ct} {M : Ad} {m : Sto} {H : Hp} (o : Ok C M m H) {a : Addr} (h : a ∈ M.loc) : H a ≠ none := by
  obtain ⟨n, hn, e⟩ := List.getElem_of_mem h
  have e1 : M.loc[n]? = some a := by rw [List.getElem?_eq_getElem hn, e]
  have hm : n < m.length := by rw [← o.len]; exact hn
  exact (o.cell n a _ e1 (List.getElem?_eq_getElem hm)).any
/-- a new object laid that is no changing one -/
theorem Go.new {M : Ad} {H : Hp} {p : Addr} {o : HO} (h : H p = none) : Go M H M (upd H p o) :=
  ⟨⟨[], by simp, by simp⟩, rfl, fun a u e _ _ => ⟨u, by rw [upd_ne (ne_of_none e h)]; exact e, rfl⟩, fun a e => by
    by_cases z : a = p
    · subst z; exact h
    · rw [upd_ne z] at e; exact e, fun a b u e => by rw [upd_ne (ne_of_none e h)]; exact e, fun a _ u e _ => by rw [upd_ne (ne_of_none e h)]; exact e⟩
theorem Ok.new {C : Ct} {M : Ad} {m : Sto} {H : Hp} (o : Ok C M m H) {p : Addr} {u : HO} (h : H p = none) : Ok C M m (upd H p u) :=
  o.mo (Go.new h) (fun a ha => upd_ne fun z => o.there ha (by rw [z]; exact h)) (o.tab.step (fun a ps e => by rw [upd_ne (ne_of_none e h)]; exact e) fun a φ e => by rw [upd_ne (ne_of_none e h)]; exact e)
theorem Ok.hidden {C : Ct} {M : Ad} {m : Sto} {H : Hp} (o : Ok C M m H) {a : Addr} (h : a ∈ M.hid) : H a ≠ none := by
  obtain ⟨u, e, _⟩ := o.hid a h
  rw [e]
  simp
theorem Ok.free {C : Ct} {M : Ad} {m : Sto} {H : Hp} (o : Ok C M m H) {p : Addr} (h : H p = none) : M.free p := ⟨fun z => o.there z h, fun z => o.hidden z h⟩
end Pd

set_option Elab.async false
set_option linter.all false
set_option maxRecDepth 100000
set_option maxHeartbeats 1000000
namespace Pd
open PySem PySem.Spec PyProof.Rows L2
section
variable {X : Cx} {C : Ct} {Wx : WX} {a b c : Expr} {f g h : FE} {t u : FT} {pos : Pos}
/-! ### names, constants -/
def eVar (i : Nat) : FE := fun e m => match e[i]? with
  | some (some w) => .ok w m
  | _ => .bad
def eC (d : PyData) : FE := fun _ m => .ok (.d d) m
theorem de_var (i : Nat) {x : Str} (hN : X.N[i]? = some x := by rfl) (hv : Vis X.env.scope x := by first | exact Or.inl rfl | exact Or.inr (Or.inl rfl) | exact Or.inr (Or.inr rfl)) (hd : (x == ("__debug__" : Str)) = false := by decide)
    (hcd : (x == ("__classdict__" : Str)) = false := by decide) : DE X C Wx (.Name x pos) (eVar i) := ⟨PE_imp (pv i hN hv hd hcd) fun σ H Q ⟨M, m, e, o, r, q⟩ => by
  unfold eVar at q
  cases hx : e[i]? with
  | none => rw [hx] at q; exact q.elim
  | some ow =>
    cases ow with
    | none => rw [hx] at q; exact q.elim
    | some w =>
      rw [hx] at q
      obtain ⟨v, e1, e2⟩ := r.at_ i w hx
      exact ⟨v, e1, q.now o v e2⟩⟩
theorem de_c {d : PyData} {v : V} {e : Expr} (hp : PE X e (tC v)) (r : ∀ H M, Rp C.K H M v d) : DE X C Wx e (eC d) := ⟨PE_imp hp fun σ H Q ⟨M, m, e, o, _, q⟩ => q.now o v (r H M)⟩
theorem de_int {i : Int} {j : Nat} : DE X C Wx (.Constant (.int i) j pos) (eC (.int i)) := de_c pe_int fun _ _ => .int i
theorem de_bl {k : Bool} {j : Nat} : DE X C Wx (.Constant (.bool k) j pos) (eC (.bool k)) := de_c pe_bl fun _ _ => .bl k
theorem de_non {j : Nat} : DE X C Wx (.Constant .none j pos) (eC .none) := de_c pe_non fun _ _ => .non
theorem de_str {x : Str} {j : Nat} : DE X C Wx (.Constant (.str x) j pos) (eC (.str x)) := de_c pe_str fun _ _ => .str x
theorem de_globI {x : Str} {i : Int} {tk : Tok} (hm : X.mg x = some (.int i tk)) (hg : Gl X x := by rfl) (hd : (x == ("__debug__" : Str)) = false := by decide) : DE X C Wx (.Name x pos) (eC (.int i)) :=
  de_c (pe_glob hg hm (v := .int i) ⟨tk, rfl⟩ hd) fun _ _ => .int i
/-! ### two-place operations -/
def OpD (C : Ct) (Wx : WX) (r : R2) (p : W → W → Sto → R W) : Prop := ∀ {σ : St} {M : Ad} {m : Sto} {H : Hp} {x y : V} {w z : W} {Q : VK}, Ok C M m H → RW C H M x w → RW C H M y z →
  Post C (ExW C Wx σ) M H (p w z m) (fun w' M' m' H' => ∀ v, RW C H' M' v w' → Q v H') → r x y H Q
def eBin (p : W → W → Sto → R W) (f g : FE) : FE := fun e m => (f e m).bind fun x m1 => (g e m1).bind fun y m2 => p x y m2
theorem tOp_of {r : R2} {p : W → W → Sto → R W} (hd : OpD C Wx r p) : ∀ σ H Q, tE C Wx (eBin p f g) σ H Q → tOp r (tE C Wx f) (tE C Wx g) σ H Q := fun σ H Q ⟨M, m, e, o, rs, q⟩ =>
  tE_bind o rs q fun v w M1 m1 H1 g1 o1 r1 rv q1 => tE_bind o1 r1 q1 fun v2 w2 M2 m2 H2 g2 o2 r2 rv2 q2 => hd o2 (rv.go g2) rv2 q2
theorem de_bin {op : Operator} {r : R2} {p : W → W → Sto → R W} (ho : OpR X (binaryOp op) r) (hd : OpD C Wx r p) (ha : DE X C Wx a f) (hb : DE X C Wx b g) : DE X C Wx (.BinOp a op b pos) (eBin p f g) :=
  ⟨PE_imp (pe_op ho ha.pe hb.pe) (tOp_of hd)⟩
theorem de_cmp {op : CmpOp} {r : R2} {p : W → W → Sto → R W} (ho : OpR X (compareOp op) r) (hd : OpD C Wx r p) (ha : DE X C Wx a f) (hb : DE X C Wx b g) (hm : behindInMarks op b = false := by with_unfolding_all rfl) : DE X C Wx (.Compare a [op] [b] pos) (eBin p f g) :=
  ⟨PE_imp (pe_cmpR ho ha.pe hb.pe hm) (tOp_of hd)⟩
theorem de_ix {r : R2} {p : W → W → Sto → R W} (ho : IxR X r) (hd : OpD C Wx r p) (ha : DE X C Wx a f) (hb : DE X C Wx b g) (hs : PlainIx b := by exact fun _ _ => rfl) : DE X C Wx (.Subscript a b pos) (eBin p f g) :=
  ⟨PE_imp (pe_ix ho ha.pe hb.pe hs) (tOp_of hd)⟩
/-- by two rules -/
theorem OpD.or {r r' : R2} {p p' : W → W → Sto → R W} (h : OpD C Wx r p) (h' : OpD C Wx r' p') : OpD C Wx (fun x y H Q => r x y H Q ∨ r' x y H Q) (fun w z m => match p w z m with | .bad => p' w z m | z => z) := by
  intro σ M m H x y w z Q o rx ry q
  simp only at q
  cases e : p w z m with
  | bad => rw [e] at q; exact .inr (h' o rx ry q)
  | ok k m' => rw [e] at q; refine .inl (h (σ := σ) o rx ry ?_); rw [e]; exact q
  | exc k m' => rw [e] at q; refine .inl (h (σ := σ) o rx ry ?_); rw [e]; exact q
/-- ints -/
def oI (gd : Int → Int → Option PyData) : W → W → Sto → R W
  | .d (.int i), .d (.int j), m => match gd i j with
    | some d => .ok (.d d) m
    | none => .bad
  | _, _, _ => .bad
theorem opd_rI {Cn : Int → Int → Prop} {gv : Int → Int → V} {gd : Int → Int → Option PyData} (hg : ∀ i j d, gd i j = some d → Cn i j ∧ ∀ H M, Rp C.K H M (gv i j) d) : OpD C Wx (rI Cn gv) (oI gd) := by
  intro σ M m H x y w z Q o rx ry q
  unfold oI at q
  split at q
  · rename_i i j
    cases rx; cases ry
    cases e : gd i j with
    | none => rw [e] at q; exact q.elim
    | some d =>
      rw [e] at q
      obtain ⟨h1, h2⟩ := hg i j d e
      exact ⟨i, j, rfl, rfl, h1, q.now o _ (h2 H M)⟩
  · exact q.elim
theorem opd_rI0 {gv : Int → Int → V} {gd : Int → Int → Option PyData} (hg : ∀ i j d, gd i j = some d → ∀ H M, Rp C.K H M (gv i j) d) : OpD C Wx (rI0 gv) (oI gd) := by
  intro σ M m H x y w z Q o rx ry q
  obtain ⟨i, j, h1, h2, _, h3⟩ := opd_rI (C := C) (Wx := Wx) (Cn := fun _ _ => True) (gv := gv) (fun i j d e => ⟨trivial, hg i j d e⟩) o rx ry q
  exact ⟨i, j, h1, h2, h3⟩
def pAdd := oI fun i j => some (.int (i + j))
def pSub := oI fun i j => some (.int (i - j))
def pMul := oI fun i j => if (-(2 ^ 64) < i ∧ i < 2 ^ 64) ∨ (-(2 ^ 64) < j ∧ j < 2 ^ 64) then some (.int (i * j)) else none
def pDiv := oI fun i j => if 0 < j ∧ j < 1073741824 then some (.int (i / j)) else none
def pMod := oI fun i j => if 0 < j then some (.int (i % j)) else none
def pPow := oI fun i j => if 0 ≤ j ∧ j ≤ 1000000 ∧ i.natAbs < 2 ^ 64 then some (.int (i ^ j.toNat)) else none
theorem od_add : OpD C Wx (rI0 fun i j => .int (i + j)) pAdd := opd_rI0 fun i j d e H M => by cases e; exact .int _
theorem od_sub : OpD C Wx (rI0 fun i j => .int (i - j)) pSub := opd_rI0 fun i j d e H M => by cases e; exact .int _
theorem ite_some {p : Prop} [Decidable p] {α : Type} {x y : α} (e : (if p then some x else none) = some y) : p ∧ x = y := by
  by_cases h : p
  · rw [if_pos h] at e; exact ⟨h, Option.some.inj e⟩
  · rw [if_neg h] at e; cases e
theorem od_mul : OpD C Wx (rI CMul fun i j => .int (i * j)) pMul := opd_rI fun i j d e => by obtain ⟨h, rfl⟩ := ite_some e; exact ⟨h, fun _ _ => .int _⟩
theorem od_div : OpD C Wx (rI CDiv fun i j => .int (i / j)) pDiv := opd_rI fun i j d e => by obtain ⟨h, rfl⟩ := ite_some e; exact ⟨h, fun _ _ => .int _⟩
theorem od_mod : OpD C Wx (rI (fun _ j => 0 < j) fun i j => .int (i % j)) pMod := opd_rI fun i j d e => by obtain ⟨h, rfl⟩ := ite_some e; exact ⟨h, fun _ _ => .int _⟩
theorem od_pow : OpD C Wx (rI CPow fun i j => .int (i ^ j.toNat)) pPow := opd_rI fun i j d e => by obtain ⟨h, rfl⟩ := ite_some e; exact ⟨h, fun _ _ => .int _⟩
theorem de_sub (ha : DE X C Wx a f) (hb : DE X C Wx b g) : DE X C Wx (.BinOp a .Sub b pos) (eBin pSub f g) := de_bin op_sub od_sub ha hb
theorem de_mul (ha : DE X C Wx a f) (hb : DE X C Wx b g) : DE X C Wx (.BinOp a .Mult b pos) (eBin pMul f g) := de_bin op_mul od_mul ha hb
theorem de_div (ha : DE X C Wx a f) (hb : DE X C Wx b g) : DE X C Wx (.BinOp a .FloorDiv b pos) (eBin pDiv f g) := de_bin op_fdiv od_div ha hb
theorem de_mod (ha : DE X C Wx a f) (hb : DE X C Wx b g) : DE X C Wx (.BinOp a .Mod b pos) (eBin pMod f g) := de_bin op_mod od_mod ha hb
theorem de_pow (ha : DE X C Wx a f) (hb : DE X C Wx b g) : DE X C Wx (.BinOp a .Pow b pos) (eBin pPow f g) := de_bin op_pow od_pow ha hb
/-- texts, tuples, lists put together -/
def pCatS : W → W → Sto → R W
  | .d (.str x), .d (.str y), m => if x.length + y.length ≤ sizeLine then .ok (.d (.str (x ++ y))) m else .bad
  | _, _, _ => .bad
theorem od_catS : OpD C Wx (fun x y H Q => ∃ i j, x = .str i ∧ y = .str j ∧ i.length + j.length ≤ sizeLine ∧ Q (.str (i ++ j)) H) pCatS := by
  intro σ M m H x y w z Q o rx ry q
  unfold pCatS at q
  split at q
  · rename_i i j
    cases rx; cases ry
    split at q
    · rename_i h; exact ⟨_, _, rfl, rfl, h, q.now o _ (.str _)⟩
    · exact q.elim
  · exact q.elim
def pCatT : W → W → Sto → R W
  | .d (.tuple xs), .d (.tuple ys), m => if xs.length + ys.length ≤ sizeLine then .ok (.d (.tuple (xs ++ ys))) m else .bad
  | _, _, _ => .bad
theorem RpA.ne {K : PySem.W.Frag} {H : Hp} {M : Ad} {ds : List PyData} {vs : List V} (h : RpA K H M vs ds) : vs = [] ↔ ds = [] := by
  cases h <;> simp
theorem Rp.newT {C : Ct} {M : Ad} {m : Sto} {H : Hp} {p : Addr} {vs : List V} {ds : List PyData} (o : Ok C M m H) (hp : H p = none) (r : RpA C.K H M vs ds) : Rp C.K (upd H p (.tup vs)) M (.ref p) (.tuple ds) :=
  .tup ⟨upd_same, o.free hp⟩ (RpA.go (Go.new hp) r)
theorem Rp.newL {C : Ct} {M : Ad} {m : Sto} {H : Hp} {p : Addr} {vs : List V} {ds : List PyData} (o : Ok C M m H) (hp : H p = none) (r : RpA C.K H M vs ds) : Rp C.K (upd H p (.lst vs)) M (.ref p) (.list ds) :=
  .lst (.inl ⟨.inl upd_same, o.free hp⟩) (RpA.go (Go.new hp) r)
theorem od_catT : OpD C Wx (rCatA C.K) pCatT := by
  intro σ M m H x y w z Q o rx ry q
  unfold pCatT at q
  split at q
  · rename_i xs ys
    cases rx with | tup h1 h2 =>
    cases ry with | tup h3 h4 =>
    split at q
    · rename_i h
      refine ⟨_, _, _, _, rfl, rfl, h1.sq, h3.sq, by rw [h2.len, h4.len]; exact h, fun z => ?_, fun _ z => ?_, fun _ z p hp => ?_⟩
      · have e : xs = [] := h2.ne.mp z
        subst e
        rw [List.nil_append] at q
        exact q.now o _ (Rp.tup h3 h4)
      · have e : ys = [] := h4.ne.mp z
        subst e
        rw [List.append_nil] at q
        exact q.now o _ (Rp.tup h1 h2)
      · exact q _ _ (Go.new hp) (o.new hp) _ (Rp.newT o hp (h2.app h4))
    · exact q.elim
  · exact q.elim
/-- two frozen lists; the rule of the layer wants tracked ones: here any -/
def rCatL (K : PySem.W.Frag) : R2 := fun x y H Q => ∃ l b xs zs, x = .ref l ∧ y = .ref b ∧ SqL K H l xs ∧ SqL K H b zs ∧ xs.length + zs.length ≤ sizeLine ∧ ∀ p, H p = none → Q (.ref p) (upd H p (.lst (xs ++ zs)))
theorem op_catL : OpR X (binaryOp .Add) (rCatL X.K) := by
  intro pins s σ H x y v u Q I rx ry h
  obtain ⟨l, b, xs, zs, rfl, rfl, hH, hB, hz, q⟩ := h
  cases rx
  cases ry
  obtain ⟨its, r, ⟨⟨oc, od, odt, osl⟩, n, e, c1, c2, c3⟩, _⟩ := I.list hH
  obtain ⟨its2, r2, ⟨⟨oc2, od2, odt2, osl2⟩, n2, e2, d1, d2, d3⟩, _⟩ := I.list hB
  simp only at c1 c2 c3 d1 d2 d3
  subst c1 c2 c3 d1 d2 d3
  have e1l := r.length
  have e2l := r2.length
  have ea : its.toArray ++ its2.toArray = (its ++ its2).toArray := by simp
  refine concat_meets ⟨_, e, rfl⟩ ⟨_, e2, rfl⟩ noFill_list_add seq_list_add PySem.F.slot_list_add PySem.F.entry_list_add (PySem.F.args_list_add_2 _ _) (list_addW l b its.toArray its2.toArray n n2 none none osl osl2 (by rw [List.size_toArray, List.size_toArray]; omega)) ⟨e, e2, ?_⟩
  rw [ea]
  exact ⟨.ref _, _, I.lnew (t' := s.toks) (r.append r2) (by rw [List.length_append]; omega), rfl, q _ I.fresh⟩
def pCatL : W → W → Sto → R W
  | .d (.list xs), .d (.list ys), m => if xs.length + ys.length ≤ sizeLine then .ok (.d (.list (xs ++ ys))) m else .bad
  | _, _, _ => .bad
theorem od_catL : OpD C Wx (rCatL C.K) pCatL := by
  intro σ M m H x y w z Q o rx ry q
  unfold pCatL at q
  split at q
  · rename_i xs ys
    cases rx with | lst h1 h2 =>
    cases ry with | lst h3 h4 =>
    split at q
    · rename_i h
      exact ⟨_, _, _, _, rfl, rfl, h1.sq, h3.sq, by rw [h2.len, h4.len]; exact h, fun p hp => q _ _ (Go.new hp) (o.new hp) _ (Rp.newL o hp (h2.app h4))⟩
    · exact q.elim
  · exact q.elim
/-! ### comparisons -/
def pEq : W → W → Sto → R W
  | .d x, .d y, m => if SeqAt.shaped x = true ∧ SeqAt.shaped y = true then .ok (.d (.bool (PyData.eqv x y))) m else .bad
  | _, _, _ => .bad
def pNe : W → W → Sto → R W
  | .d x, .d y, m => if SeqAt.shaped x = true ∧ SeqAt.shaped y = true then .ok (.d (.bool (!PyData.eqv x y))) m else .bad
  | _, _, _ => .bad
theorem od_eq : OpD C Wx (rEqD C.K) pEq := by
  intro σ M m H x y w z Q o rx ry q
  unfold pEq at q
  split at q
  · split at q
    · rename_i h; exact ⟨_, _, rx.sdp h.1, ry.sdp h.2, h.1, h.2, q.now o _ (.bl _)⟩
    · exact q.elim
  · exact q.elim
theorem od_ne : OpD C Wx (rNeD C.K) pNe := by
  intro σ M m H x y w z Q o rx ry q
  unfold pNe at q
  split at q
  · split at q
    · rename_i h; exact ⟨_, _, rx.sdp h.1, ry.sdp h.2, h.1, h.2, q.now o _ (.bl _)⟩
    · exact q.elim
  · exact q.elim
theorem de_eq (hu : X.A.units + 65 < cLine) (ha : DE X C Wx a f) (hb : DE X C Wx b g) (hK : X.K = C.K := by rfl) : DE X C Wx (.Compare a [.Eq] [b] pos) (eBin pEq f g) := de_cmp (op_eqD (by omega)) (by rw [hK]; exact od_eq) ha hb (nomark _)
theorem de_ne (hu : X.A.units + 65 < cLine) (ha : DE X C Wx a f) (hb : DE X C Wx b g) (hK : X.K = C.K := by rfl) : DE X C Wx (.Compare a [.NotEq] [b] pos) (eBin pNe f g) := de_cmp (op_neD (by omega)) (by rw [hK]; exact od_ne) ha hb (nomark _)
/-- order: ints or texts -/
def pOrd (gi : Int → Int → Bool) (gs : Str → Str → Bool) : W → W → Sto → R W
  | .d (.int i), .d (.int j), m => .ok (.d (.bool (gi i j))) m
  | .d (.str i), .d (.str j), m => .ok (.d (.bool (gs i j))) m
  | _, _, _ => .bad
theorem od_ord {gi : Int → Int → Bool} {gs : Str → Str → Bool} : OpD C Wx (fun x y H Q => rI0 (fun i j => .bl (gi i j)) x y H Q ∨ ∃ i j, x = .str i ∧ y = .str j ∧ Q (.bl (gs i j)) H) (pOrd gi gs) := by
  intro σ M m H x y w z Q o rx ry q
  unfold pOrd at q
  split at q
  · cases rx; cases ry; exact .inl ⟨_, _, rfl, rfl, q.now o _ (.bl _)⟩
  · cases rx; cases ry; exact .inr ⟨_, _, rfl, rfl, q.now o _ (.bl _)⟩
  · exact q.elim
def sLt (i j : Str) : Bool := decide (i.cps.toList < j.cps.toList)
def pLt := pOrd (fun i j => decide (i < j)) fun i j => sLt i j
def pLe := pOrd (fun i j => decide (i ≤ j)) fun i j => !sLt j i
def pGt := pOrd (fun i j => decide (j < i)) fun i j => sLt j i
def pGe := pOrd (fun i j => decide (j ≤ i)) fun i j => !sLt i j
theorem de_lt (ha : DE X C Wx a f) (hb : DE X C Wx b g) : DE X C Wx (.Compare a [.Lt] [b] pos) (eBin pLt f g) := de_cmp (op_lt.or op_lt_str) od_ord ha hb (nomark _)
theorem de_le (ha : DE X C Wx a f) (hb : DE X C Wx b g) : DE X C Wx (.Compare a [.LtE] [b] pos) (eBin pLe f g) := de_cmp (op_le.or op_le_str) od_ord ha hb (nomark _)
theorem de_gt (ha : DE X C Wx a f) (hb : DE X C Wx b g) : DE X C Wx (.Compare a [.Gt] [b] pos) (eBin pGt f g) := de_cmp (op_gt.or op_gt_str) od_ord ha hb (nomark _)
theorem de_ge (ha : DE X C Wx a f) (hb : DE X C Wx b g) : DE X C Wx (.Compare a [.GtE] [b] pos) (eBin pGe f g) := de_cmp (op_ge.or op_ge_str) od_ord ha hb (nomark _)
/-- a <= b <= c -/
def eChain (p p' : W → W → Sto → R W) (f g h : FE) : FE := fun e m => (f e m).bind fun x m1 => (g e m1).bind fun y m2 => (p x y m2).bind fun z m3 => match z with
  | .d (.bool true) => (h e m3).bind fun w m4 => p' y w m4
  | .d (.bool false) => .ok (.d (.bool false)) m3
  | _ => .bad
theorem de_chain {op op' : CmpOp} {r r' : R2} {p p' : W → W → Sto → R W} (ho : OpR X (compareOp op) r) (ho' : OpR X (compareOp op') r') (hd : OpD C Wx r p) (hd' : OpD C Wx r' p') (ha : DE X C Wx a f) (hb : DE X C Wx b g) (hc : DE X C Wx c h)
    (hm : lastMarks [op, op'] [b, c] = false := by with_unfolding_all rfl) : DE X C Wx (.Compare a [op, op'] [b, c] pos) (eChain p p' f g h) :=
  ⟨PE_imp (pe_chain ho ho' ha.pe hb.pe hc.pe hm) fun σ H Q ⟨M, m, e, o, rs, q⟩ =>
    tE_bind o rs q fun v w M1 m1 H1 g1 o1 r1 rv q1 => tE_bind o1 r1 q1 fun v2 w2 M2 m2 H2 g2 o2 r2 rv2 q2 => hd (σ := σ) o2 (rv.go g2) rv2 (Post.mono q2.bind fun z M3 m3 H3 g3 o3 q3 v3 rv3 => by
      cases z with
      | loc n => exact q3.elim
      | clo j => exact q3.elim
      | d z =>
        cases z with
        | bool k =>
          cases rv3
          refine ⟨k, rfl, ?_⟩
          cases k with
          | true => exact tE_bind o3 (r2.go g3) q3 fun v4 w4 M4 m4 H4 g4 o4 r4 rv4 q4 => hd' o4 ((rv2.go g3).go g4) rv4 q4
          | false => exact q3.now o3 _ (Rp.bl false)
        | _ => exact q3.elim)⟩
/-- is None, is True -/
def pIs (k : Bool) : W → W → Sto → R W
  | .d .none, .d .none, m => .ok (.d (.bool k)) m
  | _, .d .none, m => .ok (.d (.bool (!k))) m
  | .d (.bool x), .d (.bool y), m => .ok (.d (.bool (decide (x = y) == k))) m
  | _, _, _ => .bad
theorem od_is : OpD C Wx (fun x y H Q => (y = .non ∧ Q (.bl (decide (x = .non))) H) ∨ rIsB x y H Q) (pIs true) := by
  intro σ M m H x y w z Q o rx ry q
  unfold pIs at q
  split at q
  · cases rx; cases ry; exact .inl ⟨rfl, q.now o _ (Rp.bl true)⟩
  · rename_i hn
    cases ry
    refine .inl ⟨rfl, ?_⟩
    have : decide (x = .non) = false := decide_eq_false fun e => by
      subst e
      cases w with
      | loc n => obtain ⟨_, e, _⟩ := rx; cases e
      | clo j => obtain ⟨_, e, _⟩ := rx; cases e
      | d x => cases rx; exact hn rfl
    rw [this]
    exact q.now o _ (Rp.bl false)
  · rename_i a b
    cases rx; cases ry
    refine .inr ⟨_, _, rfl, rfl, q.now o _ ?_⟩
    show Rp _ _ _ _ _
    rw [show (decide (a = b) == true) = decide (a = b) by cases decide (a = b) <;> rfl]
    exact Rp.bl _
  · exact q.elim
/-- in, not in: a text in a text; data in a list or a tuple -/
def rInT (K : PySem.W.Frag) (k : Bool) : R2 := fun x y H Q => ∃ d ds, Dp K H x d ∧ (Dp K H y (.list ds) ∨ Dp K H y (.tuple ds)) ∧ SeqAt.shaped d = true ∧ SeqAt.shaped (.list ds) = true ∧ Q (.bl ((ds.any fun z => PyData.eqv z d) == k)) H
theorem op_inT (hu : X.A.units + 65 < cLine) : OpR X (compareOp .In) (rInT X.K true) := by
  intro pins s σ H x y v u Q I rx ry h
  obtain ⟨d, ds, hd, he, sd, se, q⟩ := h
  obtain ⟨as, r1⟩ := Dp.reads I d x v hd rx
  rcases he with he | he
  · obtain ⟨bs, r2⟩ := Dp.reads I (.list ds) y u he ry
    exact SeqAt.in_list_reads r2 r1 (SeqAt.canLay_of_shaped se) (SeqAt.canLay_of_shaped sd) (room_in_shaped sd hu) ⟨.bl _, H, I, rfl, by simpa using q⟩
  · obtain ⟨bs, r2⟩ := Dp.reads I (.tuple ds) y u he ry
    exact SeqAt.in_tuple_reads r2 r1 (SeqAt.canLay_of_shaped se) (SeqAt.canLay_of_shaped sd) (room_in_shaped sd hu) ⟨.bl _, H, I, rfl, by simpa using q⟩
theorem op_notInT (hu : X.A.units + 65 < cLine) : OpR X (compareOp .NotIn) (rInT X.K false) := by
  intro pins s σ H x y v u Q I rx ry h
  obtain ⟨d, ds, hd, he, sd, se, q⟩ := h
  obtain ⟨as, r1⟩ := Dp.reads I d x v hd rx
  have e : (!(ds.any fun z => PyData.eqv z d)) = ((ds.any fun z => PyData.eqv z d) == false) := by cases (ds.any fun z => PyData.eqv z d) <;> rfl
  rcases he with he | he
  · obtain ⟨bs, r2⟩ := Dp.reads I (.list ds) y u he ry
    exact SeqAt.notIn_list_reads r2 r1 (SeqAt.canLay_of_shaped se) (SeqAt.canLay_of_shaped sd) (room_in_shaped sd hu) ⟨.bl _, H, I, rfl, by rw [e]; exact q⟩
  · obtain ⟨bs, r2⟩ := Dp.reads I (.tuple ds) y u he ry
    exact SeqAt.notIn_tuple_reads r2 r1 (SeqAt.canLay_of_shaped se) (SeqAt.canLay_of_shaped sd) (room_in_shaped sd hu) ⟨.bl _, H, I, rfl, by rw [e]; exact q⟩
def unW : W → Option PyData
  | .d x => some x
  | _ => none
def unWs : List W → Option (List PyData)
  | [] => some []
  | w :: ws => match unW w, unWs ws with
    | some d, some ds => some (d :: ds)
    | _, _ => none
theorem RWs.un {C : Ct} {H : Hp} {M : Ad} {vs : List V} {ws : List W} (h : RWs C H M vs ws) : ∀ {ds : List PyData}, unWs ws = some ds → RpA C.K H M vs ds := by
  induction h with
  | nil => intro ds e; cases e; exact .nil
  | @cons v vs w ws a _ ih =>
    intro ds e
    unfold unWs at e
    split at e
    · rename_i d ds' e1 e2
      cases e
      cases w with
      | d x => cases e1; exact .cons a (ih e2)
      | loc n => cases e1
      | clo j => cases e1
    · cases e
def pIn (k : Bool) : W → W → Sto → R W
  | .d (.str x), .d (.str y), m => .ok (.d (.bool ((!(Builtin.Str.occurrences y x 0 y.length 1).isEmpty) == k))) m
  | .d x, .d (.list ds), m => if SeqAt.shaped x = true ∧ SeqAt.shaped (.list ds) = true then .ok (.d (.bool ((ds.any fun z => PyData.eqv z x) == k))) m else .bad
  | .d x, .d (.tuple ds), m => if SeqAt.shaped x = true ∧ SeqAt.shaped (.list ds) = true then .ok (.d (.bool ((ds.any fun z => PyData.eqv z x) == k))) m else .bad
  | .d x, .loc n, m => match m[n]? with
    | some (.lst ws) => match unWs ws with
      | some ds => if SeqAt.shaped x = true ∧ SeqAt.shaped (.list ds) = true then .ok (.d (.bool ((ds.any fun z => PyData.eqv z x) == k))) m else .bad
      | none => .bad
    | _ => .bad
  | _, _, _ => .bad
theorem RpA.dps {K : PySem.W.Frag} {H : Hp} {M : Ad} {a : Addr} {vs : List V} {ds : List PyData} (h : H a = some (.lst vs)) (r : RpA K H M vs ds) (l : PyData.canLay0 (.list ds) = true) : Dp K H (.ref a) (.list ds) := .lst (SqL.of h) (RpA.dp (by unfold PyData.canLay0 at l; exact l) r)
theorem Ok.lst {C : Ct} {M : Ad} {m : Sto} {H : Hp} (o : Ok C M m H) {n : Nat} {a : Addr} {ws : List W} (h1 : M.loc[n]? = some a) (h2 : m[n]? = some (.lst ws)) : ∃ vs, H a = some (.lst vs) ∧ RWs C H M vs ws := o.cell n a _ h1 h2
theorem od_in (k : Bool) : OpD C Wx (fun x y H Q => (∃ i j, x = .str i ∧ y = .str j ∧ Q (.bl ((!(Builtin.Str.occurrences j i 0 j.length 1).isEmpty) == k)) H) ∨ rInT C.K k x y H Q) (pIn k) := by
  intro σ M m H x y w z Q o rx ry q
  unfold pIn at q
  split at q
  · cases rx; cases ry; exact .inl ⟨_, _, rfl, rfl, q.now o _ (Rp.bl _)⟩
  · split at q
    · rename_i h; exact .inr ⟨_, _, rx.sdp h.1, .inl (ry.sdp h.2), h.1, h.2, q.now o _ (Rp.bl _)⟩
    · exact q.elim
  · split at q
    · rename_i h; exact .inr ⟨_, _, rx.sdp h.1, .inr (ry.dp (show PyData.canLay0 (.tuple _) = true from lay_of h.2)), h.1, h.2, q.now o _ (Rp.bl _)⟩
    · exact q.elim
  · split at q
    · rename_i e
      split at q
      · rename_i ds e2
        split at q
        · rename_i h
          obtain ⟨a, rfl, hM⟩ := ry
          obtain ⟨vs, h1, h2⟩ := o.lst hM e
          exact .inr ⟨_, _, rx.sdp h.1, .inl (RpA.dps h1 (h2.un e2) (lay_of h.2)), h.1, h.2, q.now o _ (Rp.bl _)⟩
        · exact q.elim
      · exact q.elim
    · exact q.elim
  · exact q.elim
theorem op_in_str' : OpR X (compareOp .In) (fun x y H Q => ∃ i j, x = .str i ∧ y = .str j ∧ Q (.bl ((!(Builtin.Str.occurrences j i 0 j.length 1).isEmpty) == true)) H) := fun pins s σ H x y v u Q I rx ry ⟨i, j, h1, h2, q⟩ => op_in_str pins s σ H x y v u Q I rx ry ⟨i, j, h1, h2, by simpa using q⟩
theorem op_notin_str' : OpR X (compareOp .NotIn) (fun x y H Q => ∃ i j, x = .str i ∧ y = .str j ∧ Q (.bl ((!(Builtin.Str.occurrences j i 0 j.length 1).isEmpty) == false)) H) := fun pins s σ H x y v u Q I rx ry ⟨i, j, h1, h2, q⟩ => op_notin_str pins s σ H x y v u Q I rx ry ⟨i, j, h1, h2, by simpa using q⟩
theorem room_u65 {k : Nat} {A : Around} (r : Room k A) : A.units + 65 < cLine := by have := r.un; omega
theorem de_in (hu : X.A.units + 65 < cLine) (ha : DE X C Wx a f) (hb : DE X C Wx b g) (hK : X.K = C.K := by rfl) (hm : behindInMarks .In b = false := by with_unfolding_all rfl) : DE X C Wx (.Compare a [.In] [b] pos) (eBin (pIn true) f g) := de_cmp (op_in_str'.or (op_inT hu)) (by rw [hK]; exact od_in true) ha hb hm
/-! ### tests, and, or, not -/
def toB : W → Sto → R Bool
  | .d (.bool k), m => .ok k m
  | _, _ => .bad
def tV (f : FE) : FT := fun e m => (f e m).bind toB
theorem tV_of : ∀ σ H Q, tT C Wx (tV f) σ H Q → tB (tE C Wx f) σ H Q := fun σ H Q ⟨M, m, e, o, rs, q⟩ => tE_bind o rs q fun v w M1 m1 H1 g1 o1 r1 rv q1 => by
  cases w with
  | loc n => exact q1.elim
  | clo j => exact q1.elim
  | d x =>
    cases x with
    | bool k => cases rv; exact ⟨k, rfl, q1.now o1⟩
    | _ => exact q1.elim
theorem dt_val (ha : DE X C Wx a f) (he : ∀ whole, isTrue a X.env whole = (do let v ← whole; standAt a.pos; holding [v] (truthy v)) := by intro _; rfl) : DT X C Wx a (tV f) := ⟨PT_imp (pt_val ha.pe he) tV_of⟩
theorem dt_cmp1 {op : CmpOp} {r : R2} (ho : OpR X (compareOp op) r) {p : W → W → Sto → R W} (hd : OpD C Wx r p) (ha : DE X C Wx a f) (hb : DE X C Wx b g) (hm : behindInMarks op b = false) : DT X C Wx (.Compare a [op] [b] pos) (tV (eBin p f g)) :=
  ⟨PT_imp (pt_cmpR ho ha.pe hb.pe hm) fun σ H Q h => by
    obtain ⟨M, m, e, o, rs, q⟩ := h
    refine tOp_of hd σ H _ (tE_at o rs (Post.mono (Post.bind q) fun w M1 m1 H1 g1 o1 q1 v rv => ?_))
    cases w with
    | loc n => exact q1.elim
    | clo j => exact q1.elim
    | d x =>
      cases x with
      | bool k => cases rv; exact ⟨k, rfl, q1.now o1⟩
      | _ => exact q1.elim⟩
def tNot (t : FT) : FT := fun e m => (t e m).bind fun k m1 => .ok (!k) m1
def tAnd (t u : FT) : FT := fun e m => (t e m).bind fun k m1 => if k then u e m1 else .ok false m1
def tOr (t u : FT) : FT := fun e m => (t e m).bind fun k m1 => if k then .ok true m1 else u e m1
theorem dt_not (ha : DT X C Wx a t) : DT X C Wx (.UnaryOp .Not a pos) (tNot t) := ⟨PT_imp (pt_not ha.pt) fun σ H Q ⟨M, m, e, o, rs, q⟩ => tT_bind o rs q fun k M1 m1 H1 g1 o1 r1 q1 => q1.now o1⟩
theorem dw_and1 (ha : DT X C Wx a t) : DW X C Wx (.BoolOp .And [a] pos) t := ⟨pw_and1 ha.pt⟩
theorem dw_or1 (ha : DT X C Wx a t) : DW X C Wx (.BoolOp .Or [a] pos) t := ⟨pw_or1 ha.pt⟩
theorem dw_and {rest : List Expr} (ha : DT X C Wx a t) (hb : DW X C Wx (.BoolOp .And (b :: rest) pos) u) : DW X C Wx (.BoolOp .And (a :: b :: rest) pos) (tAnd t u) := ⟨PW_imp (pw_and ha.pt hb.pw) fun σ H Q ⟨M, m, e, o, rs, q⟩ => tT_bind o rs q fun k M1 m1 H1 g1 o1 r1 q1 => by
  cases k with
  | true => exact tT_at o1 r1 q1
  | false => exact q1.now o1⟩
theorem dw_or {rest : List Expr} (ha : DT X C Wx a t) (hb : DW X C Wx (.BoolOp .Or (b :: rest) pos) u) : DW X C Wx (.BoolOp .Or (a :: b :: rest) pos) (tOr t u) := ⟨PW_imp (pw_or ha.pt hb.pw) fun σ H Q ⟨M, m, e, o, rs, q⟩ => tT_bind o rs q fun k M1 m1 H1 g1 o1 r1 q1 => by
  cases k with
  | true => exact q1.now o1
  | false => exact tT_at o1 r1 q1⟩
theorem DW.dt (h : DW X C Wx a t) : DT X C Wx a t := ⟨h.pw.pt⟩
/-- as values: all but the last one bools -/
def eAnd (f g : FE) : FE := fun e m => (f e m).bind fun w m1 => (toB w m1).bind fun k m2 => if k then g e m2 else .ok (.d (.bool false)) m2
def eOr (f g : FE) : FE := fun e m => (f e m).bind fun w m1 => (toB w m1).bind fun k m2 => if k then .ok (.d (.bool true)) m2 else g e m2
def eNot (f : FE) : FE := fun e m => (f e m).bind fun w m1 => (toB w m1).bind fun k m2 => .ok (.d (.bool (!k))) m2
theorem de_one {op : BoolOp} (ha : DE X C Wx a f) : DE X C Wx (.BoolOp op [a] pos) f := ⟨pe_one ha.pe⟩
theorem toB_ok {w : W} {m : Sto} {v : V} {H : Hp} {M : Ad} {Ex : Exn → Sto → Ad → Hp → Prop} {α : Type} {k : Bool → Sto → R α} {Kk : α → Ad → Sto → Hp → Prop} (rv : RW C H M v w) (q : Post C Ex M H ((toB w m).bind k) Kk) : ∃ c, v = .bl c ∧ w = .d (.bool c) ∧ Post C Ex M H (k c m) Kk := by
  cases w with
  | loc n => exact q.elim
  | clo j => exact q.elim
  | d x =>
    cases x with
    | bool c => cases rv; exact ⟨c, rfl, rfl, q⟩
    | _ => exact q.elim
theorem de_and {rest : List Expr} (ha : DE X C Wx a f) (hb : DE X C Wx (.BoolOp .And (b :: rest) pos) g) : DE X C Wx (.BoolOp .And (a :: b :: rest) pos) (eAnd f g) := ⟨PE_imp (pe_and ha.pe hb.pe) fun σ H Q ⟨M, m, e, o, rs, q⟩ =>
  tE_bind o rs q fun v w M1 m1 H1 g1 o1 r1 rv q1 => by
    obtain ⟨c, rfl, rfl, q1⟩ := toB_ok rv q1
    refine ⟨c, rfl, ?_⟩
    cases c with
    | true => exact tE_at o1 r1 q1
    | false => exact q1.now o1 _ (Rp.bl false)⟩
theorem de_or {rest : List Expr} (ha : DE X C Wx a f) (hb : DE X C Wx (.BoolOp .Or (b :: rest) pos) g) : DE X C Wx (.BoolOp .Or (a :: b :: rest) pos) (eOr f g) := ⟨PE_imp (pe_or ha.pe hb.pe) fun σ H Q ⟨M, m, e, o, rs, q⟩ =>
  tE_bind o rs q fun v w M1 m1 H1 g1 o1 r1 rv q1 => by
    obtain ⟨c, rfl, rfl, q1⟩ := toB_ok rv q1
    refine ⟨c, rfl, ?_⟩
    cases c with
    | true => exact q1.now o1 _ (Rp.bl true)
    | false => exact tE_at o1 r1 q1⟩
theorem de_not (ha : DE X C Wx a f) : DE X C Wx (.UnaryOp .Not a pos) (eNot f) := ⟨PE_imp (pe_not ha.pe) fun σ H Q ⟨M, m, e, o, rs, q⟩ =>
  tE_bind o rs q fun v w M1 m1 H1 g1 o1 r1 rv q1 => by
    obtain ⟨c, rfl, rfl, q1⟩ := toB_ok rv q1
    exact ⟨c, rfl, q1.now o1 _ (Rp.bl _)⟩⟩
def eIf (t : FT) (f g : FE) : FE := fun e m => (t e m).bind fun k m1 => if k then f e m1 else g e m1
theorem de_if (ht : DT X C Wx c t) (ha : DE X C Wx a f) (hb : DE X C Wx b g) : DE X C Wx (.IfExp c a b pos) (eIf t f g) := ⟨PE_imp (pe_ifExp ht.pt ha.pe hb.pe) fun σ H Q ⟨M, m, e, o, rs, q⟩ =>
  tT_bind o rs q fun k M1 m1 H1 g1 o1 r1 q1 => by
    cases k with
    | true => exact tE_at o1 r1 q1
    | false => exact tE_at o1 r1 q1⟩
/-! ### argument lists, displays -/
def aNil : FA := fun _ m => .ok [] m
def aCons (f : FE) (r : FA) : FA := fun e m => (f e m).bind fun w m1 => (r e m1).bind fun ws m2 => .ok (w :: ws) m2
theorem da_nil : DA X C Wx [] aNil := ⟨PA_imp pa_nil fun σ H Q ⟨M, m, e, o, rs, q⟩ => q.now o _ .nil⟩
theorem da_cons {es : List Expr} {r : FA} (ha : DE X C Wx a f) (hr : DA X C Wx es r) (hs : starEach (a :: es) X.env = (false, eval a X.env) :: starEach es X.env := by rfl) : DA X C Wx (a :: es) (aCons f r) :=
  ⟨PA_imp (pa_cons ha.pe hr.pa hs) fun σ H Q ⟨M, m, e, o, rs, q⟩ => tE_bind o rs q fun v w M1 m1 H1 g1 o1 r1 rv q1 => tA_bind o1 r1 q1 fun vs ws M2 m2 H2 g2 o2 r2 rvs q2 => q2.now o2 _ (.cons (rv.go g2) rvs)⟩
def eTup (r : FA) : FE := fun e m => (r e m).bind fun ws m1 => match unWs ws with
  | some ds => if ds.length ≤ sizeLine then .ok (.d (.tuple ds)) m1 else .bad
  | none => .bad
def eLst (r : FA) : FE := fun e m => (r e m).bind fun ws m1 => match unWs ws with
  | some ds => if ds.length ≤ sizeLine then .ok (.d (.list ds)) m1 else .bad
  | none => .bad
/-- a list that may change: a new number in the store -/
def eLstM (r : FA) : FE := fun e m => (r e m).bind fun ws m1 => if ws.length ≤ sizeLine then .ok (.loc m1.length) (m1 ++ [.lst ws]) else .bad
theorem de_tup {es : List Expr} {r : FA} {k : Nat} (hr : DA X C Wx es r) : DE X C Wx (.Tuple es k pos) (eTup r) := ⟨PE_imp (pe_tup hr.pa) fun σ H Q ⟨M, m, e, o, rs, q⟩ =>
  tA_bind o rs q fun vs ws M1 m1 H1 g1 o1 r1 rv q1 => by
    cases e1 : unWs ws with
    | none => rw [e1] at q1; exact q1.elim
    | some ds =>
      rw [e1] at q1
      simp only at q1
      split at q1
      · rename_i hz
        have ra := rv.un e1
        exact ⟨by rw [ra.len]; exact hz, fun p hp => q1 _ _ (Go.new hp) (o1.new hp) _ (Rp.newT o1 hp ra)⟩
      · exact q1.elim⟩
theorem de_lst {es : List Expr} {r : FA} (hr : DA X C Wx es r) : DE X C Wx (.List es pos) (eLst r) := ⟨PE_imp (pe_lst hr.pa) fun σ H Q ⟨M, m, e, o, rs, q⟩ =>
  tA_bind o rs q fun vs ws M1 m1 H1 g1 o1 r1 rv q1 => by
    cases e1 : unWs ws with
    | none => rw [e1] at q1; exact q1.elim
    | some ds =>
      rw [e1] at q1
      simp only at q1
      split at q1
      · rename_i hz
        have ra := rv.un e1
        exact ⟨by rw [ra.len]; exact hz, fun p hp => q1 _ _ (Go.new hp) (o1.new hp) _ (Rp.newL o1 hp ra)⟩
      · exact q1.elim⟩
theorem RpA.rep {K : PySem.W.Frag} {H : Hp} {M : Ad} {ds : List PyData} {vs : List V} (h : RpA K H M vs ds) : ∀ k : Nat, RpA K H M (List.replicate k vs).flatten (List.replicate k ds).flatten
  | 0 => .nil
  | k + 1 => by
    rw [List.replicate_succ, List.replicate_succ, List.flatten_cons, List.flatten_cons]
    exact h.app (RpA.rep h k)
/-- [x, ..] * n, the list written there -/
def eRep (r : FA) (g : FE) : FE := fun e m => (eLst r e m).bind fun w m1 => (g e m1).bind fun z m2 => match w, z with
  | .d (.list xs), .d (.int k) => if -(2 ^ 63) ≤ k ∧ k < 2 ^ 63 ∧ xs.length * k.toNat ≤ sizeLine then .ok (.d (.list (List.replicate k.toNat xs).flatten)) m2 else .bad
  | _, _ => .bad
theorem de_rep {es : List Expr} {r : FA} {p2 : Pos} (hr : DA X C Wx es r) (hb : DE X C Wx b g) : DE X C Wx (.BinOp (.List es p2) .Mult b pos) (eRep r g) := ⟨PE_imp (pe_op op_rep (pe_lst hr.pa) hb.pe) fun σ H Q ⟨M, m, e, o, rs, q⟩ => by
  unfold eRep eLst at q
  have q' : Post C (ExW C Wx σ) M H ((r e m).bind fun ws m1 => (match unWs ws with | some ds => if ds.length ≤ sizeLine then (R.ok (W.d (.list ds)) m1) else .bad | none => .bad).bind fun w m1 => (g e m1).bind fun z m2 => match w, z with
    | .d (.list xs), .d (.int k) => if -(2 ^ 63) ≤ k ∧ k < 2 ^ 63 ∧ xs.length * k.toNat ≤ sizeLine then .ok (.d (.list (List.replicate k.toNat xs).flatten)) m2 else .bad
    | _, _ => .bad) fun w M' m' H' => ∀ v, RW C H' M' v w → Q v H' := by
    cases hr2 : r e m with
    | ok ws m1 => rw [hr2] at q; exact q
    | exc x m1 => rw [hr2] at q; exact q
    | bad => rw [hr2] at q; exact q
  exact tA_bind o rs q' fun vs ws M1 m1 H1 g1 o1 r1 rv q1 => by
    cases e1 : unWs ws with
    | none => rw [e1] at q1; exact q1.elim
    | some ds =>
      rw [e1] at q1
      simp only at q1
      split at q1
      · rename_i hz
        have ra := rv.un e1
        refine ⟨by rw [ra.len]; exact hz, fun p hp => ?_⟩
        have gp : Go M1 H1 M1 (upd H1 p (.lst vs)) := Go.new hp
        refine tE_bind (o1.new hp) (r1.go gp) (Post.go gp q1) fun v w M2 m2 H2 g2 o2 r2 rv2 q2 => ?_
        have hp2 : H2 p = some (.lst vs) := g2.plain upd_same (o1.free hp).1 (plain_lst vs)
        split at q2
        · rename_i xs k ew
          cases ew
          cases rv2
          split at q2
          · rename_i hh
            exact ⟨p, _, vs, rfl, rfl, hp2, hh.1, hh.2.1, by rw [ra.len]; exact hh.2.2, fun p2 hp2' => q2 _ _ (Go.new hp2') (o2.new hp2') _ (Rp.newL o2 hp2' (((ra.go gp).go g2).rep _))⟩
          · exact q2.elim
        · exact q2.elim
      · exact q1.elim⟩
def Ad.add (M : Ad) (p : Addr) : Ad := ⟨M.loc ++ [p], M.hid⟩
theorem Go.newM {M : Ad} {H : Hp} {p : Addr} {o : HO} (h : H p = none) : Go M H (M.add p) (upd H p o) :=
  ⟨⟨[p], rfl, fun a ha => by simp at ha; subst ha; exact h⟩, rfl, (Go.new (M := M) h).st, (Go.new (M := M) h).dom, (Go.new (M := M) h).lk, (Go.new (M := M) h).hd⟩
theorem Ok.newM {M : Ad} {m : Sto} {H : Hp} (o : Ok C M m H) {p : Addr} (h : H p = none) {vs : List V} {ws : List W} (r : RWs C H M vs ws) : Ok C (M.add p) (m ++ [.lst ws]) (upd H p (.lst vs)) := by
  have g : Go M H (M.add p) (upd H p (.lst vs)) := Go.newM h
  refine ⟨(o.new h).tab, by simp [Ad.add, o.len], fun n a c e1 e2 => ?_, ?_, fun a ha => (o.new h).hid a ha, fun a ha hh => ?_⟩
  · have e1 : (M.loc ++ [p])[n]? = some a := e1
    by_cases hn : n < M.loc.length
    · rw [List.getElem?_append_left hn] at e1
      rw [List.getElem?_append_left (by rw [← o.len]; exact hn)] at e2
      exact CellOk.go g (o.cell n a c e1 e2) (upd_ne fun z => o.there (List.mem_of_getElem? e1) (by rw [z]; exact h))
    · rw [List.getElem?_append_right (by omega)] at e1
      rw [List.getElem?_append_right (by rw [← o.len]; omega), ← o.len] at e2
      cases hk : n - M.loc.length with
      | zero =>
        rw [hk] at e1 e2
        simp at e1 e2
        subst e1 e2
        exact ⟨vs, upd_same, r.go g⟩
      | succ k => rw [hk] at e1; simp at e1
  · refine List.nodup_append.mpr ⟨o.nd, by simp, fun a ha b hb z => ?_⟩
    simp at hb
    subst hb
    subst z
    exact o.there ha h
  · rcases List.mem_append.mp ha with z | z
    · exact o.sep a z hh
    · simp at z; subst z; exact o.hidden hh h
theorem de_lstM {es : List Expr} {r : FA} (hr : DA X C Wx es r) : DE X C Wx (.List es pos) (eLstM r) := ⟨PE_imp (pe_lst hr.pa) fun σ H Q ⟨M, m, e, o, rs, q⟩ =>
  tA_bind o rs q fun vs ws M1 m1 H1 g1 o1 r1 rv q1 => by
    split at q1
    · rename_i hz
      refine ⟨by rw [rv.len]; exact hz, fun p hp => q1 _ _ (Go.newM hp) (o1.newM hp rv) _ ⟨p, rfl, ?_⟩⟩
      show (M1.loc ++ [p])[m1.length]? = some p
      rw [← o1.len]
      simp
    · exact q1.elim⟩
end
end Pd

set_option Elab.async false
set_option linter.all false
set_option maxRecDepth 100000
set_option maxHeartbeats 1000000
namespace Pd
open PySem PySem.Spec PyProof.Rows L2
section
variable {X : Cx} {C : Ct} {Wx : WX} {a b c : Expr} {es : List Expr} {f g h : FE} {r : FA} {t u : FT} {pos p : Pos}
/-! ### calls of defs -/
/-- what an exception wishes, from a def's wish -/
abbrev ExK (C : Ct) (E : XK) : Exn → Sto → Ad → Hp → Prop := fun x _ M' H' => match x with
  | .p n => E (.ref (C.xa n)) none H'
  | .f n g d => ∀ p v, H' p = some (.xd [(g, v)]) → M'.free p → Rp C.K H' M' v d → E (.ref (C.xa n)) (some p) H'
def spD (C : Ct) (n : Nat) (F : List W → Sto → R W) : Sp := fun vs H Q E => vs.length = n ∧ ∃ M m ws, Ok C M m H ∧ RWs C H M vs ws ∧
  Post C (ExK C E) M H (F ws m) fun w M' m' H' => ∀ v, RW C H' M' v w → Q v H'
def eCall (n : Nat) (F : List W → Sto → R W) (r : FA) : FE := fun e m => (r e m).bind fun ws m1 => if ws.length = n then F ws m1 else .bad
theorem de_call {k n : Nat} {fa : Addr} {fd : FuncData} {ps : List Str} {x : Str} {F : List W → Sto → R W} (Fk : FnOk X.prog X.w X.K X.mg X.base (L2.CX X.prog X.w) k fa fd ps (spD C n F)) (hr : Room k X.A) (hm : X.mg x = some (.ref fa)) (hk : PySem.W.keepIn X.K (.ref fa) = true)
    (hb : Binds X.K fd ps []) (tk : Takes X Wx) (ha : DA X C Wx (a :: es) r) (hg : Gl X x := by rfl) (hdb : (x == ("__debug__" : Str)) = false := by decide) (he : starEach (a :: es) X.env = (false, eval a X.env) :: starEach es X.env := by rfl)
    (hpl : (backTo pos (starEach es X.env)).any (·.1) = false := by rfl) : DE X C Wx (.Call (.Name x p) (a :: es) [] pos) (eCall n F r) :=
  ⟨PE_imp (pe_callS Fk hr hg hm hk hb (fun σ => passAt tk σ) ha.pa hdb he hpl) fun σ H Q ⟨M, m, e, o, rs, q⟩ => tA_bind o rs q fun vs ws M1 m1 H1 g1 o1 r1 rv q1 => by
    split at q1
    · rename_i hl
      exact ⟨by rw [rv.len]; exact hl, M1, m1, ws, o1, rv, q1⟩
    · exact q1.elim⟩
/-! ### built-ins -/
def CallD (C : Ct) (Wx : WX) (r : List V → Hp → VK → Prop) (q : List W → Sto → R W) : Prop := ∀ {σ : St} {M : Ad} {m : Sto} {H : Hp} {vs : List V} {ws : List W} {Q : VK}, Ok C M m H → RWs C H M vs ws →
  Post C (ExW C Wx σ) M H (q ws m) (fun w' M' m' H' => ∀ v, RW C H' M' v w' → Q v H') → r vs H Q
def eB (q : List W → Sto → R W) (r : FA) : FE := fun e m => (r e m).bind q
theorem tCB_of {rr : List V → Hp → VK → Prop} {q : List W → Sto → R W} (hd : CallD C Wx rr q) : ∀ σ H Q, tE C Wx (eB q r) σ H Q → tCB rr (tA C Wx r) σ H Q := fun σ H Q ⟨M, m, e, o, rs, q⟩ =>
  tA_bind o rs q fun vs ws M1 m1 H1 g1 o1 r1 rv q1 => hd o1 rv q1
theorem de_callB {id : String} {x : Str} {rr : List V → Hp → VK → Prop} {q : List W → Sto → R W} (hc : CallR X (.builtin id) rr) (hd : CallD C Wx rr q) (hm : X.mg x = none) (hv : bootBuiltins x = some (.builtin id)) (ha : DA X C Wx (a :: es) r) (hg : Gl X x := by rfl)
    (hn : x ≠ "__name__" := by decide) (hdb : (x == ("__debug__" : Str)) = false := by decide) (he : starEach (a :: es) X.env = (false, eval a X.env) :: starEach es X.env := by rfl) (hpl : (backTo pos (starEach es X.env)).any (·.1) = false := by rfl) :
    DE X C Wx (.Call (.Name x p) (a :: es) [] pos) (eB q r) := ⟨PE_imp (pe_callB hc hg hm hv ha.pa hn hdb he hpl) (tCB_of hd)⟩
theorem de_callT {id : String} {x : Str} {rr : List V → Hp → VK → Prop} {q : List W → Sto → R W} (hc : CallR X (.type id) rr) (hd : CallD C Wx rr q) (hm : X.mg x = none) (hv : bootBuiltins x = some (.type id)) (ha : DA X C Wx (a :: es) r) (hg : Gl X x := by rfl)
    (hn : x ≠ "__name__" := by decide) (hdb : (x == ("__debug__" : Str)) = false := by decide) (he : starEach (a :: es) X.env = (false, eval a X.env) :: starEach es X.env := by rfl) (hpl : (backTo pos (starEach es X.env)).any (·.1) = false := by rfl) :
    DE X C Wx (.Call (.Name x p) (a :: es) [] pos) (eB q r) := ⟨PE_imp (pe_callTy hc hg hm hv ha.pa hn hdb he hpl) (tCB_of hd)⟩
theorem RWs.one {H : Hp} {M : Ad} {vs : List V} {w : W} (h : RWs C H M vs [w]) : ∃ v, vs = [v] ∧ RW C H M v w := by
  cases h with | cons a b => cases b; exact ⟨_, rfl, a⟩
theorem RWs.two {H : Hp} {M : Ad} {vs : List V} {w z : W} (h : RWs C H M vs [w, z]) : ∃ v u, vs = [v, u] ∧ RW C H M v w ∧ RW C H M u z := by
  cases h with | cons a b => obtain ⟨u, rfl, r⟩ := RWs.one b; exact ⟨_, _, rfl, a, r⟩
theorem CallR_or {fv : Value} {r1 r2 : List V → Hp → VK → Prop} (h : CallR X fv r1) (h' : CallR X fv r2) : CallR X fv (fun xs H Q => r1 xs H Q ∨ r2 xs H Q) := h.or h'
/-- len -/
def qLen : List W → Sto → R W
  | [.d (.str s)], m => if s.length ≤ sizeLine then .ok (.d (.int s.length)) m else .bad
  | [.d (.list ds)], m => .ok (.d (.int ds.length)) m
  | [.d (.tuple ds)], m => .ok (.d (.int ds.length)) m
  | [.loc n], m => match m[n]? with
    | some (.lst ws) => .ok (.d (.int ws.length)) m
    | _ => .bad
  | _, _ => .bad
theorem cd_len : CallD C Wx (fun xs H Q => ∃ x n, xs = [x] ∧ LenV C.K x H n ∧ Q (.int n) H) qLen := by
  intro σ M m H vs ws Q o rv q
  unfold qLen at q
  split at q
  · split at q
    · rename_i hz
      obtain ⟨v, rfl, r1⟩ := rv.one
      cases r1
      exact ⟨_, _, rfl, ⟨hz, rfl⟩, q.now o _ (Rp.int _)⟩
    · exact q.elim
  · obtain ⟨v, rfl, r1⟩ := rv.one
    cases r1 with | lst h1 h2 => exact ⟨_, _, rfl, .inl ⟨_, h1.sq, rfl⟩, q.now o _ (by rw [h2.len]; exact Rp.int _)⟩
  · obtain ⟨v, rfl, r1⟩ := rv.one
    cases r1 with | tup h1 h2 => exact ⟨_, _, rfl, .inr ⟨_, h1.sq, rfl⟩, q.now o _ (by rw [h2.len]; exact Rp.int _)⟩
  · split at q
    · rename_i e
      obtain ⟨v, rfl, a, rfl, hM⟩ := rv.one
      obtain ⟨vs, h1, h2⟩ := o.lst hM e
      exact ⟨_, _, rfl, .inl ⟨_, SqL.of h1, rfl⟩, q.now o _ (by rw [h2.len]; exact Rp.int _)⟩
    · exact q.elim
  · exact q.elim
theorem de_len {x : Str} (hx : x = "len") (hm : X.mg x = none) (ha : DA X C Wx [a] r) (hg : Gl X x := by rfl) (hK : X.K = C.K := by rfl) (he : starEach [a] X.env = (false, eval a X.env) :: starEach [] X.env := by rfl) (hpl : (backTo pos (starEach [] X.env)).any (·.1) = false := by rfl) :
    DE X C Wx (.Call (.Name x p) [a] [] pos) (eB qLen r) := by
  subst hx
  exact de_callB (id := "len") (by exact call_len) (by rw [hK]; exact cd_len) hm PySem.boot_len ha hg (by decide) (by decide) he hpl
/-- int(n), int(True) -/
def qInt : List W → Sto → R W
  | [.d (.int i)], m => .ok (.d (.int i)) m
  | [.d (.bool k)], m => .ok (.d (.int (if k then 1 else 0))) m
  | _, _ => .bad
theorem cd_int : CallD C Wx (fun xs H Q => (∃ i, xs = [.int i] ∧ Q (.int i) H) ∨ ∃ k, xs = [.bl k] ∧ Q (.int (if k then 1 else 0)) H) qInt := by
  intro σ M m H vs ws Q o rv q
  unfold qInt at q
  split at q
  · obtain ⟨v, rfl, r1⟩ := rv.one; cases r1; exact .inl ⟨_, rfl, q.now o _ (Rp.int _)⟩
  · obtain ⟨v, rfl, r1⟩ := rv.one; cases r1; exact .inr ⟨_, rfl, q.now o _ (Rp.int _)⟩
  · exact q.elim
/-- tuple(xs) -/
def qTup : List W → Sto → R W
  | [.d (.list ds)], m => .ok (.d (.tuple ds)) m
  | [.d (.tuple ds)], m => .ok (.d (.tuple ds)) m
  | [.loc n], m => match m[n]? with
    | some (.lst ws) => match unWs ws with
      | some ds => .ok (.d (.tuple ds)) m
      | none => .bad
    | _ => .bad
  | _, _ => .bad
theorem cd_tup : CallD C Wx (fun xs H Q => ∃ p ys, xs = [.ref p] ∧ ((SqL C.K H p ys ∧ ∀ l, H l = none → Q (.ref l) (upd H l (.tup ys))) ∨ (SqT C.K H p ys ∧ Q (.ref p) H))) qTup := by
  intro σ M m H vs ws Q o rv q
  unfold qTup at q
  split at q
  · obtain ⟨v, rfl, r1⟩ := rv.one
    cases r1 with | lst h1 h2 => exact ⟨_, _, rfl, .inl ⟨h1.sq, fun l hl => q _ _ (Go.new hl) (o.new hl) _ (Rp.newT o hl h2)⟩⟩
  · obtain ⟨v, rfl, r1⟩ := rv.one
    cases r1 with | tup h1 h2 => exact ⟨_, _, rfl, .inr ⟨h1.sq, q.now o _ (Rp.tup h1 h2)⟩⟩
  · split at q
    · rename_i e
      split at q
      · rename_i ds e2
        obtain ⟨v, rfl, a, rfl, hM⟩ := rv.one
        obtain ⟨vs, h1, h2⟩ := o.lst hM e
        exact ⟨_, _, rfl, .inl ⟨SqL.of h1, fun l hl => q _ _ (Go.new hl) (o.new hl) _ (Rp.newT o hl (h2.un e2))⟩⟩
      · exact q.elim
    · exact q.elim
  · exact q.elim
/-- list(xs): of a list, a tuple, a text -/
def signs (s : Str) : List PyData := s.cps.toList.map fun c => .str ⟨#[c]⟩
def qList : List W → Sto → R W
  | [.d (.list ds)], m => .ok (.d (.list ds)) m
  | [.d (.tuple ds)], m => .ok (.d (.list ds)) m
  | [.d (.str s)], m => if s.cps.size ≤ sizeLine then .ok (.d (.list (signs s))) m else .bad
  | [.loc n], m => match m[n]? with
    | some (.lst ws) => match unWs ws with
      | some ds => .ok (.d (.list ds)) m
      | none => .bad
    | _ => .bad
  | _, _ => .bad
theorem RpA.signs {K : PySem.W.Frag} {H : Hp} {M : Ad} : ∀ l : List Nat, RpA K H M (l.map fun c => V.str ⟨#[c]⟩) (l.map fun c => PyData.str ⟨#[c]⟩)
  | [] => .nil
  | c :: r => .cons (.str _) (RpA.signs r)
def rListS : List V → Hp → VK → Prop := fun xs H Q => ∃ s, xs = [.str s] ∧ s.cps.size ≤ sizeLine ∧ ∀ l, H l = none → Q (.ref l) (upd H l (.lst (s.cps.toList.map fun c => V.str ⟨#[c]⟩)))
theorem vals_signs {s : Str} {acc : List Value} (h : ItemsOf (SignAt s) acc.toArray s.cps.size) : Vals (s.cps.toList.map fun c => V.str ⟨#[c]⟩) acc := by
  have hl : acc.length = s.cps.toList.length := by have := h.1; simpa using this
  have key : ∀ (l : List Nat) (acc : List Value) (hl : acc.length = l.length), (∀ (j : Nat) (v : Value), acc[j]? = some v → ∃ (c : Nat) (u : Tok), l[j]? = some c ∧ v = Value.str ⟨#[c]⟩ u) → Vals (l.map fun c => V.str ⟨#[c]⟩) acc := by
    intro l
    induction l with
    | nil => intro acc hl _; cases acc with | nil => exact .nil | cons _ _ => simp at hl
    | cons c r ih =>
      intro acc hl hh
      cases acc with
      | nil => simp at hl
      | cons v vs =>
        obtain ⟨c', u, e1, e2⟩ := hh 0 v rfl
        simp at e1
        subst e1 e2
        exact .cons ⟨u, rfl⟩ (ih vs (by simpa using hl) fun j v e => by simpa using hh (j + 1) v (by simpa using e))
  refine key _ _ hl fun j v e => ?_
  obtain ⟨c, u, e1, e2⟩ := h.2 j v (by simpa using e)
  exact ⟨c, u, by rw [Array.getElem?_toList]; exact e1, e2⟩
theorem call_listS (hc : X.calm = true) : CallR X (.type "list") rListS := by
  intro pins s σ H xs us Q I r h
  obtain ⟨z, rfl, hz, q⟩ := h
  obtain ⟨u, rfl, t, rfl⟩ := vals1 r
  refine call_list_str (I.ok.hd hc) z t (fun h' tk acc' c' kp e hi => ?_) hz
  have hv : Vals (z.cps.toList.map fun c => V.str ⟨#[c]⟩) acc'.toList := vals_signs (by simpa using hi)
  refine ⟨.ref s.heap.objs.size, _, I.laid (t' := tk) kp (Nat.le_refl _) (show ObjOk X.prog X.w _ h' _ (.lst (z.cps.toList.map fun c => V.str ⟨#[c]⟩)) from ⟨by simpa using hz, acc'.toList, c', hv, by rw [e]⟩), rfl, q _ (I.hok.fresh (Nat.le_refl _))⟩
theorem cd_list : CallD C Wx (fun xs H Q => (∃ p ys, xs = [.ref p] ∧ (SqL C.K H p ys ∨ SqT C.K H p ys) ∧ ∀ l, H l = none → Q (.ref l) (upd H l (.lst ys))) ∨ rListS xs H Q) qList := by
  intro σ M m H vs ws Q o rv q
  unfold qList at q
  split at q
  · obtain ⟨v, rfl, r1⟩ := rv.one
    cases r1 with | lst h1 h2 => exact .inl ⟨_, _, rfl, .inl h1.sq, fun l hl => q _ _ (Go.new hl) (o.new hl) _ (Rp.newL o hl h2)⟩
  · obtain ⟨v, rfl, r1⟩ := rv.one
    cases r1 with | tup h1 h2 => exact .inl ⟨_, _, rfl, .inr h1.sq, fun l hl => q _ _ (Go.new hl) (o.new hl) _ (Rp.newL o hl h2)⟩
  · split at q
    · rename_i hz
      obtain ⟨v, rfl, r1⟩ := rv.one
      cases r1
      exact .inr ⟨_, rfl, hz, fun l hl => q _ _ (Go.new hl) (o.new hl) _ (Rp.newL o hl (RpA.signs _))⟩
    · exact q.elim
  · split at q
    · rename_i e
      split at q
      · rename_i ds e2
        obtain ⟨v, rfl, a, rfl, hM⟩ := rv.one
        obtain ⟨vs, h1, h2⟩ := o.lst hM e
        exact .inl ⟨_, _, rfl, .inl (SqL.of h1), fun l hl => q _ _ (Go.new hl) (o.new hl) _ (Rp.newL o hl (h2.un e2))⟩
      · exact q.elim
    · exact q.elim
  · exact q.elim
/-- sum of ints -/
def unI : PyData → Option Int
  | .int i => some i
  | _ => none
def unIs : List PyData → Option (List Int)
  | [] => some []
  | d :: ds => match unI d, unIs ds with
    | some i, some is => some (i :: is)
    | _, _ => none
theorem RpA.ints {K : PySem.W.Frag} {H : Hp} {M : Ad} : ∀ {ds : List PyData} {vs : List V} {is : List Int}, RpA K H M vs ds → unIs ds = some is → vs = is.map V.int
  | [], _, _, h, e => by cases h; cases e; rfl
  | d :: ds, _, is, h, e => by
    cases h with | cons x y =>
    unfold unIs at e
    split at e
    · rename_i i is' e1 e2
      cases e
      cases d <;> cases e1
      cases x
      rw [RpA.ints y e2]
      rfl
    · cases e
def qSum : List W → Sto → R W
  | [.d (.list ds)], m => match unIs ds with
    | some is => .ok (.d (.int is.sum)) m
    | none => .bad
  | _, _ => .bad
theorem cd_sum : CallD C Wx (rSum C.K) qSum := by
  intro σ M m H vs ws Q o rv q
  unfold qSum at q
  split at q
  · split at q
    · rename_i is e
      obtain ⟨v, rfl, r1⟩ := rv.one
      cases r1 with | lst h1 h2 => exact ⟨_, is, rfl, by rw [← h2.ints e]; exact h1.sq, q.now o _ (Rp.int _)⟩
    · exact q.elim
  · exact q.elim
/-- sorted, of texts -/
def unS : PyData → Option Str
  | .str i => some i
  | _ => none
def unSs : List PyData → Option (List Str)
  | [] => some []
  | d :: ds => match unS d, unSs ds with
    | some i, some is => some (i :: is)
    | _, _ => none
theorem RpA.strs {K : PySem.W.Frag} {H : Hp} {M : Ad} : ∀ {ds : List PyData} {vs : List V} {is : List Str}, RpA K H M vs ds → unSs ds = some is → vs = is.map V.str
  | [], _, _, h, e => by cases h; cases e; rfl
  | d :: ds, _, is, h, e => by
    cases h with | cons x y =>
    unfold unSs at e
    split at e
    · rename_i i is' e1 e2
      cases e
      cases d <;> cases e1
      cases x
      rw [RpA.strs y e2]
      rfl
    · cases e
theorem RpA.ofS {K : PySem.W.Frag} {H : Hp} {M : Ad} : ∀ l : List Str, RpA K H M (l.map V.str) (l.map PyData.str)
  | [] => .nil
  | c :: r => .cons (.str _) (RpA.ofS r)
def sortS (xs : List Str) : List Str := xs.mergeSort fun x y => !sLt y x
theorem sLt_trans {x y z : Str} (h1 : (!sLt y x) = true) (h2 : (!sLt z y) = true) : (!sLt z x) = true := by
  unfold sLt at *
  simp only [Bool.not_eq_true', decide_eq_false_iff_not] at *
  exact List.not_lt.mpr (List.le_trans (List.not_lt.mp h1) (List.not_lt.mp h2))
theorem sLt_total (x y : Str) : ((!sLt y x) || !sLt x y) = true := by
  unfold sLt
  by_cases h : y.cps.toList < x.cps.toList
  · have : ¬ x.cps.toList < y.cps.toList := List.lt_asymm h
    simp [this]
  · simp [h]
theorem sLt_anti {x y : Str} (h1 : (!sLt y x) = true) (h2 : (!sLt x y) = true) : x = y := by
  unfold sLt at *
  simp only [Bool.not_eq_true', decide_eq_false_iff_not] at *
  have : x.cps.toList = y.cps.toList := List.le_antisymm (List.not_lt.mp h1) (List.not_lt.mp h2)
  cases x; cases y
  simpa using this
theorem pw_rising : ∀ (q : Str) (l : List Str), risingS q l = true → (q :: l).Pairwise fun x y => (!sLt y x) = true
  | q, [], _ => by simp
  | q, x :: l, h => by
    unfold risingS at h
    rw [Bool.and_eq_true, ltCps_eq] at h
    have ih := pw_rising x l h.2
    refine List.pairwise_cons.mpr ⟨fun y hy => ?_, ih⟩
    rcases List.mem_cons.mp hy with rfl | hy
    · exact h.1
    · exact sLt_trans h.1 ((List.pairwise_cons.mp ih).1 y hy)
theorem sortS_eq {xs ys : List Str} (hp : ys.Perm xs) (hs : sortedS ys = true) : ys = sortS xs := by
  refine List.Perm.eq_of_pairwise (le := fun x y => (!sLt y x) = true) (fun a b _ _ h1 h2 => sLt_anti h1 h2) ?_ ?_ (hp.trans (List.mergeSort_perm xs _).symm)
  · cases ys with
    | nil => exact .nil
    | cons y l => exact pw_rising y l hs
  · exact List.pairwise_mergeSort (le := fun x y => !sLt y x) (fun a b c h1 h2 => sLt_trans h1 h2) (fun a b => sLt_total a b) xs
def qSortS : List W → Sto → R W
  | [.d (.list ds)], m => match unSs ds with
    | some ss => if ss.length < 64 then .ok (.d (.list ((sortS ss).map .str))) m else .bad
    | none => .bad
  | _, _ => .bad
theorem cd_sortS : CallD C Wx (rSortedS C.K) qSortS := by
  intro σ M m H vs ws Q o rv q
  unfold qSortS at q
  split at q
  · split at q
    · rename_i ss e
      split at q
      · rename_i hz
        obtain ⟨v, rfl, r1⟩ := rv.one
        cases r1 with | lst h1 h2 =>
        refine ⟨_, ss, rfl, by rw [← h2.strs e]; exact h1.sq, hz, fun ys p hp hs hn => ?_⟩
        have e2 := sortS_eq hp hs
        subst e2
        exact q _ _ (Go.new hn) (o.new hn) _ (Rp.newL o hn (RpA.ofS _))
      · exact q.elim
    · exact q.elim
  · exact q.elim
/-- isinstance(x, T), isinstance(x, (T, U)) -/
def okT (T : String) : Bool := T == "int" || T == "str" || T == "bool" || T == "list" || T == "tuple" || T == "dict"
/-- kinds; a locked dict with tuple keys besides -/
inductive TyY (K : PySem.W.Frag) (H : Hp) : V → Value → Prop where
  | base {x : V} {t : Value} (h : TyX K H x t) : TyY K H x t
  | fT {a : Addr} {o : Obj} {kvs : List (List Key × V)} (e : H a = some (.frz o (.dT kvs))) : TyY K H (.ref a) (.type "dict")
theorem kitY_of {pins : List (Addr × Obj)} {σ : St} {H : Hp} {s : Shared} {x : V} {u t : Value} (I : Inv X pins σ H s) (rx : RelV x u) (ty : TyY X.K H x t) : ∃ P : Heap → Prop, PySem.W.KitX X.K u t P ∧ P s.heap ∧ u ≠ .builtin "__main__.__loader__#opaque" := by
  cases ty with
  | base h => exact kit_of I rx h
  | @fT a o kvs ea =>
    cases (show u = Value.ref a from rx)
    obtain ⟨_, _, _, xs, _, o, es, ep, h1, h2, _⟩ := (show ObjOk X.prog X.w H s.heap a (.frz o (.dT kvs)) from I.hok a _ ea)
    exact ⟨_, PySem.W.kitx_dict, ⟨o, h1, h2.1⟩, fun z => nomatch z⟩
def rIsiY (K : PySem.W.Frag) : List V → Hp → VK → Prop := fun xs H Q => ∃ (x c : V) (t u : Value) (b : Bool), xs = [x, c] ∧ ClsV c u ∧ TyY K H x t ∧ PySem.W.kitOne K t u = some b ∧ Q (.bl b) H
def rIsiYT (K : PySem.W.Frag) : List V → Hp → VK → Prop := fun xs H Q => ∃ (x : V) (tp : Addr) (cs : List V) (t : Value) (us : List Value) (b : Bool), xs = [x, .ref tp] ∧ H tp = some (.tup cs) ∧ Paired ClsV cs us ∧ TyY K H x t ∧ PySem.W.kitAny K t us = some b ∧ Q (.bl b) H
theorem call_isiY : CallR X (.builtin "isinstance") (rIsiY X.K) := by
  intro pins s σ H xs us Q I r h
  obtain ⟨x, c, t, u, b, rfl, k, ty, e, q⟩ := h
  obtain ⟨u1, u2, rfl, r1, r2⟩ := vals2 r
  have e2 := k.eq r2
  subst e2
  obtain ⟨P, Z, p, hx⟩ := kitY_of I r1 ty
  exact PySem.W.kia_one Z I.kIn p e hx fun tk => ⟨.bl b, H, I.tok tk, rfl, q⟩
theorem call_isiYT : CallR X (.builtin "isinstance") (rIsiYT X.K) := by
  intro pins s σ H xs us Q I r h
  obtain ⟨x, tp, cs, t, ws, b, rfl, hT, k, ty, e, q⟩ := h
  obtain ⟨u1, u2, rfl, r1, r2⟩ := vals2 r
  cases (show u2 = Value.ref tp from r2)
  obtain ⟨P, Z, p, hx⟩ := kitY_of I r1 ty
  obtain ⟨_, its, rv, o, h1, h2, n, h3⟩ := (show ObjOk X.prog X.w H s.heap tp (.tup cs) from I.hok tp _ hT)
  have e3 := ClsV.all k rv
  subst e3
  obtain ⟨oc, od, dt, sl⟩ := o
  simp only at h2 h3
  subst h2 h3
  exact PySem.W.kia_tup Z I.kIn p h1 e hx fun tk => ⟨.bl b, H, I.tok tk, rfl, q⟩
theorem FzL.ty {K : PySem.W.Frag} {H : Hp} {M : Ad} {a : Addr} {xs : List V} (h : FzL K H M a xs) : TyX K H (.ref a) (.type "list") := by
  rcases h with ⟨h | ⟨o, h⟩, _⟩ | ⟨o, its, n, h, hc, _⟩
  · exact .base (.lst h)
  · exact .base (.frz h)
  · exact .kList h hc
theorem FzT.ty {K : PySem.W.Frag} {H : Hp} {M : Ad} {a : Addr} {xs : List V} (h : FzT H M a xs) : TyX K H (.ref a) (.type "tuple") := .base (.tup h.1)
theorem tyK_of {K : PySem.W.Frag} {H : Hp} {a : Addr} {k : List (Key × V)} (h : Rd H a (.dK k)) : TyY K H (.ref a) (.type "dict") := by
  rcases h with h | ⟨o, h⟩
  · exact .base (.base (.dK h))
  · exact .base (.fDict h)
theorem tyT_of {K : PySem.W.Frag} {H : Hp} {a : Addr} {k : List (List Key × V)} (h : Rd H a (.dT k)) : TyY K H (.ref a) (.type "dict") := by
  rcases h with h | ⟨o, h⟩
  · exact .base (.base (.dT h))
  · exact .fT h
theorem Lk.rd {H : Hp} {a : Addr} {lk : Bool} {u : HO} (h : Lk H a lk u) : Rd H a u := by
  unfold Lk at h
  split at h
  · exact .inr h
  · exact .inl h
theorem okT_cases {T : String} (h : okT T = true) : T = "int" ∨ T = "str" ∨ T = "bool" ∨ T = "list" ∨ T = "tuple" ∨ T = "dict" := by
  unfold okT at h
  simp only [Bool.or_eq_true, beq_iff_eq] at h
  rcases h with ((((h | h) | h) | h) | h) | h <;> simp [h]
def tyD : PyData → String
  | .none => "NoneType"
  | .bool _ => "bool"
  | .int _ => "int"
  | .str _ => "str"
  | .list _ => "list"
  | .tuple _ => "tuple"
  | .dict _ => "dict"
/-- the kind of a thing, its cell looked up -/
def tyW (m : Sto) : W → Option String
  | .d x => some (tyD x)
  | .loc n => match m[n]? with
    | some (.lst _) => some "list"
    | some (.dct _ _ _) => some "dict"
    | _ => none
  | .clo _ => none
/-- is a thing of kind N one of kind T -/
def isN (N T : String) : Bool := N == T || (N == "bool" && T == "int")
theorem kit_of' {T N : String} (hT : okT T = true) (hN : okT N = true ∨ N = "NoneType") : kitB N T = some (isN N T) := by
  have hc := okT_cases hT
  have hn : N = "int" ∨ N = "str" ∨ N = "bool" ∨ N = "list" ∨ N = "tuple" ∨ N = "dict" ∨ N = "NoneType" := by
    rcases hN with h | h
    · rcases okT_cases h with h | h | h | h | h | h <;> simp [h]
    · simp [h]
  rcases hn with rfl | rfl | rfl | rfl | rfl | rfl | rfl <;> rcases hc with rfl | rfl | rfl | rfl | rfl | rfl <;> decide +kernel
theorem tyW_ok {m : Sto} {w : W} {N : String} (h : tyW m w = some N) : okT N = true ∨ N = "NoneType" := by
  cases w with
  | d x => cases h; cases x <;> simp [tyD, okT]
  | loc n =>
    unfold tyW at h
    simp only at h
    split at h
    · cases h; exact .inl rfl
    · cases h; exact .inl rfl
    · cases h
  | clo j => cases h
theorem ty_of {M : Ad} {m : Sto} {H : Hp} {v : V} {w : W} {N : String} (o : Ok C M m H) (hl : tyW m w = some N) (r : RW C H M v w) : TyY C.K H v (.type N) := by
  cases w with
  | clo j => cases hl
  | loc n =>
    obtain ⟨a, rfl, hM⟩ := r
    unfold tyW at hl
    simp only at hl
    split at hl
    · rename_i e
      cases hl
      obtain ⟨vs, h1, _⟩ := o.cell n a _ hM e
      exact .base (.base (.lst h1))
    · rename_i t lk kvs e
      cases hl
      have c := o.cell n a _ hM e
      cases t with
      | false => obtain ⟨vs, h1, _⟩ := c; exact tyK_of h1.rd
      | true => obtain ⟨vs, h1, _⟩ := c; exact tyT_of h1.rd
    · cases hl
  | d x =>
    cases hl
    cases x with
    | none => cases r; exact .base (.base .non)
    | bool k => cases r; exact .base (.base (.bl k))
    | int k => cases r; exact .base (.base (.int k))
    | str k => cases r; exact .base (.base (.str k))
    | list k => cases r with | lst h1 h2 => exact .base h1.ty
    | tuple k => cases r with | tup h1 h2 => exact .base h1.ty
    | dict k =>
      cases r with
      | dK h1 h2 => exact tyK_of h1.1
      | dT h1 h2 => exact tyT_of h1.1
def eIsi (Ts : List String) (f : FE) : FE := fun e m => (f e m).bind fun w m1 => match tyW m1 w with
  | some N => .ok (.d (.bool (Ts.any (isN N)))) m1
  | none => .bad
theorem de_isi {x T : Str} {Tn : String} {pT : Pos} (hx : x = "isinstance") (hm : X.mg x = none) (hT : X.mg T = none) (hv : bootBuiltins T = some (.type Tn)) (ok : okT Tn = true) (ha : DE X C Wx a f) (hg : Gl X x := by rfl) (hgT : Gl X T := by rfl) (hK : X.K = C.K := by rfl)
    (hnT : T ≠ "__name__" := by decide) (hdT : (T == ("__debug__" : Str)) = false := by decide)
    (he : starEach [a, .Name T pT] X.env = (false, eval a X.env) :: starEach [.Name T pT] X.env := by rfl) (he2 : starEach [.Name T pT] X.env = (false, eval (.Name T pT) X.env) :: starEach [] X.env := by rfl) (hpl : (backTo pos (starEach [.Name T pT] X.env)).any (·.1) = false := by rfl) :
    DE X C Wx (.Call (.Name x p) [a, .Name T pT] [] pos) (eIsi [Tn] f) := by
  subst hx
  refine ⟨PE_imp (pe_callB call_isiY hg hm (by decide +kernel) (pa_cons ha.pe (pa_cons (pe_bltn (v := .ty Tn) hgT hT hv rfl hnT hdT) pa_nil he2) he) (by decide) (by decide) he hpl) fun σ H Q ⟨M, m, e, o, rs, q⟩ => ?_⟩
  refine tE_bind o rs q fun v w M1 m1 H1 g1 o1 r1 rv q1 => ?_
  split at q1
  · rename_i N hl
    have h1 := ty_of (C := C) o1 hl rv
    rw [← hK] at h1
    exact ⟨v, _, _, _, _, rfl, .ty Tn, h1, kit_ty (kit_of' ok (tyW_ok hl)), q1.now o1 _ (by simp only [List.any_cons, List.any_nil, Bool.or_false]; exact Rp.bl _)⟩
  · exact q1.elim
theorem de_isi2 {x T U : Str} {Tn Un : String} {pT pU pp : Pos} {k : Nat} (hx : x = "isinstance") (hm : X.mg x = none) (hT : X.mg T = none) (hv : bootBuiltins T = some (.type Tn)) (ok : okT Tn = true) (hU : X.mg U = none) (hvU : bootBuiltins U = some (.type Un)) (okU : okT Un = true)
    (ha : DE X C Wx a f) (hg : Gl X x := by rfl) (hgT : Gl X T := by rfl) (hgU : Gl X U := by rfl) (hK : X.K = C.K := by rfl)
    (hnT : T ≠ "__name__" := by decide) (hdT : (T == ("__debug__" : Str)) = false := by decide) (hnU : U ≠ "__name__" := by decide) (hdU : (U == ("__debug__" : Str)) = false := by decide)
    (he : starEach [a, .Tuple [.Name T pT, .Name U pU] k pp] X.env = (false, eval a X.env) :: starEach [.Tuple [.Name T pT, .Name U pU] k pp] X.env := by rfl) (he2 : starEach [.Tuple [.Name T pT, .Name U pU] k pp] X.env = (false, eval (.Tuple [.Name T pT, .Name U pU] k pp) X.env) :: starEach [] X.env := by rfl)
    (he3 : starEach [.Name T pT, .Name U pU] X.env = (false, eval (.Name T pT) X.env) :: starEach [.Name U pU] X.env := by rfl) (he4 : starEach [.Name U pU] X.env = (false, eval (.Name U pU) X.env) :: starEach [] X.env := by rfl)
    (hpl : (backTo pos (starEach [.Tuple [.Name T pT, .Name U pU] k pp] X.env)).any (·.1) = false := by rfl) :
    DE X C Wx (.Call (.Name x p) [a, .Tuple [.Name T pT, .Name U pU] k pp] [] pos) (eIsi [Tn, Un] f) := by
  subst hx
  refine ⟨PE_imp (pe_callB call_isiYT hg hm (by decide +kernel) (pa_cons ha.pe (pa_cons (pe_tup (pa_cons (pe_bltn (v := .ty Tn) hgT hT hv rfl hnT hdT) (pa_cons (pe_bltn (v := .ty Un) hgU hU hvU rfl hnU hdU) pa_nil he4) he3)) pa_nil he2) he) (by decide) (by decide) he hpl) fun σ H Q ⟨M, m, e, o, rs, q⟩ => ?_⟩
  refine tE_bind o rs q fun v w M1 m1 H1 g1 o1 r1 rv q1 => ?_
  split at q1
  · rename_i N hl
    refine ⟨by show 2 ≤ sizeLine; decide, fun tp htp => ?_⟩
    have gn : Go M1 H1 M1 (upd H1 tp (.tup [.ty Tn, .ty Un])) := Go.new htp
    have on := o1.new (u := .tup [.ty Tn, .ty Un]) htp
    have h1 := ty_of (C := C) on hl (rv.go gn)
    rw [← hK] at h1
    have h2 := kit_ty (K := X.K) (kit_of' ok (tyW_ok hl))
    have h2' := kit_ty (K := X.K) (kit_of' okU (tyW_ok hl))
    refine ⟨v, tp, _, _, [.type Tn, .type Un], isN N Tn || isN N Un, rfl, upd_same, .cons (.ty Tn) (.cons (.ty Un) .nil), h1, ?_, q1 _ _ gn on _ (by simp only [List.any_cons, List.any_nil, Bool.or_false]; exact Rp.bl _)⟩
    refine kitAny_cons h2 (fun e => ?_) (fun e => by rw [e]; rfl)
    rw [e, Bool.false_or]
    exact kitAny_cons h2' (fun e => by rw [e]; exact kitAny_nil) (fun e => e)
  · exact q1.elim
end
end Pd

set_option Elab.async false
set_option linter.all false
set_option maxRecDepth 100000
set_option maxHeartbeats 1000000
namespace Pd
open PySem PySem.Spec PyProof.Rows L2
section
variable {X : Cx} {C : Ct} {Wx : WX} {a b c o e : Expr} {es : List Expr} {f g h : FE} {r : FA} {t u : FT} {pos p apos cpos : Pos}
/-! ### methods -/
def stSet (m : Sto) (n : Nat) (ws : List W) : Sto := m.set n (.lst ws)
/-- a cell is written -/
theorem Ok.putC {M : Ad} {m : Sto} {H : Hp} (ok : Ok C M m H) {n : Nat} {l : Addr} {c c' : Cell} {u : HO} (h1 : M.loc[n]? = some l) (h2 : m[n]? = some c) (nt : ∀ ps, H l ≠ some (.tbl ps)) (k : CellOk C (upd H l u) M l c') (nz : ∀ b u', H l = some (.frz b u') → u = .frz b u' := by intro b u' z; simp_all) :
    Go M H M (upd H l u) ∧ Ok C M (m.set n c') (upd H l u) := by
  have hl : l ∈ M.loc := List.mem_of_getElem? h1
  have hv := (ok.cell n l c h1 h2).any
  have gg : Go M H M (upd H l u) := ⟨⟨[], by simp, by simp⟩, rfl, fun a o e1 e2 _ => ⟨o, by rw [upd_ne (fun z => e2 (by rw [z]; exact hl))]; exact e1, rfl⟩, fun a e1 => by
    by_cases z : a = l
    · subst z; rw [upd_same] at e1; cases e1
    · rw [upd_ne z] at e1; exact e1, fun a b u' e1 => by
    by_cases z : a = l
    · subst z; rw [upd_same, nz b u' e1]
    · rw [upd_ne z]; exact e1, fun a ha o e1 _ => by rw [upd_ne (fun z : a = l => ok.sep l hl (by rw [← z]; exact ha))]; exact e1⟩
  have nx := (ok.cell n l c h1 h2).next
  refine ⟨gg, ok.tab.step (fun a ps e => ?_) (fun a φ e => ?_), by simp [ok.len], fun k a c e1 e2 => ?_, ok.nd, fun a ha => let ⟨u, e, b⟩ := ok.hid a ha; gg.busy e (fun z => ok.sep a z ha) b, ok.sep⟩
  · rw [upd_ne (fun z => by rw [z] at e; exact nt _ e)]; exact e
  · rw [upd_ne (fun z => by rw [z] at e; exact nx _ e)]; exact e
  · by_cases hk : n = k
    · subst hk
      have e3 : a = l := Option.some.inj (e1.symm.trans h1)
      subst e3
      have hn : n < m.length := (List.getElem?_eq_some_iff.mp h2).1
      rw [List.getElem?_set_self hn] at e2
      cases e2
      exact k
    · rw [List.getElem?_set_ne hk] at e2
      have ne : a ≠ l := fun z => by
        subst z
        exact hk ((List.getElem?_inj (List.getElem?_eq_some_iff.mp h1).1 ok.nd).mp (h1.trans e1.symm))
      exact CellOk.go gg (ok.cell k a c e1 e2) (upd_ne ne)
theorem Go.put {M : Ad} {H : Hp} {l : Addr} {u : HO} (hl : l ∈ M.loc) (hs : l ∉ M.hid) (nz : ∀ b u', H l = some (.frz b u') → u = .frz b u' := by intro b u' z; simp_all) : Go M H M (upd H l u) := ⟨⟨[], by simp, by simp⟩, rfl, fun a o e1 e2 _ => ⟨o, by rw [upd_ne (fun z => e2 (by rw [z]; exact hl))]; exact e1, rfl⟩, fun a e1 => by
    by_cases z : a = l
    · subst z; rw [upd_same] at e1; cases e1
    · rw [upd_ne z] at e1; exact e1, fun a b u' e1 => by
    by_cases z : a = l
    · subst z; rw [upd_same, nz b u' e1]
    · rw [upd_ne z]; exact e1, fun a ha o e1 _ => by rw [upd_ne (fun z : a = l => hs (by rw [← z]; exact ha))]; exact e1⟩
theorem Ok.put {M : Ad} {m : Sto} {H : Hp} (ok : Ok C M m H) {n : Nat} {l : Addr} {ws ws' : List W} {vs' : List V} (h1 : M.loc[n]? = some l) (h2 : m[n]? = some (.lst ws)) (r : RWs C H M vs' ws') :
    Go M H M (upd H l (.lst vs')) ∧ Ok C M (stSet m n ws') (upd H l (.lst vs')) := by
  obtain ⟨vs, hv, _⟩ := ok.lst h1 h2
  exact ok.putC h1 h2 (fun ps z => by rw [hv] at z; cases z) ⟨vs', upd_same, r.go (Go.put (List.mem_of_getElem? h1) (ok.sep _ (List.mem_of_getElem? h1)))⟩
def MtD (C : Ct) (Wx : WX) (T : String) (rr : V → List V → Hp → VK → Prop) (q : W → List W → Sto → R W) : Prop := ∀ {σ : St} {M : Ad} {m : Sto} {H : Hp} {v : V} {w : W} {vs : List V} {ws : List W} {Q : VK}, Ok C M m H → RW C H M v w → RWs C H M vs ws →
  Post C (ExW C Wx σ) M H (q w ws m) (fun w' M' m' H' => ∀ v, RW C H' M' v w' → Q v H') → rr v vs H Q
/-- the receiver is a changing list -/
def eMl (q : W → List W → Sto → R W) (f : FE) (r : FA) : FE := fun e m => (f e m).bind fun w m1 => match w with
  | .loc n => match m1[n]? with
    | some (.lst _) => (r e m1).bind fun ws m2 => q (.loc n) ws m2
    | _ => .bad
  | _ => .bad
theorem de_ml {name : Str} {id : String} {rr : V → List V → Hp → VK → Prop} {q : W → List W → Sto → R W} (slot : Slot "list" name id) (hty : typeOf (.builtin id) = pure (.type "method_descriptor")) (hm : MtR X id rr) (hd : MtD C Wx "list" rr q) (ho : DE X C Wx o f) (ha : DA X C Wx (a :: es) r)
    (hbase : attributeBase o name X.env (eval o X.env) = eval o X.env := by rfl)
    (hfew : ((backTo cpos (starEach (a :: es) X.env)).all (fun x => !x.1) && (backToKw cpos (keywordEach [] X.env)).all (fun x => x.1.isSome)
      && decide ((a :: es).length + ([] : List Keyword).length + (if ([] : List Keyword).isEmpty then 0 else 1) < 30)) = true := by rfl)
    (hline : (apos.endLine == cpos.line) = true := by rfl) (hs : starEach (a :: es) X.env = (false, eval a X.env) :: starEach es X.env := by rfl) (hplain : (backTo cpos (starEach es X.env)).any (·.1) = false := by rfl) :
    DE X C Wx (.Call (.Attribute o name apos) (a :: es) [] cpos) (eMl q f r) := ⟨PE_imp (pe_bm PySem.F.plainAttrs_list slot hty hm ho.pe ha.pa hbase hfew hline hs hplain) fun σ H Q ⟨M, m, e, ok, rs, q1⟩ =>
  tE_bind ok rs q1 fun v w M1 m1 H1 g1 o1 r1 rv q2 => by
    cases w with
    | d x => exact q2.elim
    | clo j => exact q2.elim
    | loc n =>
      simp only at q2
      split at q2
      · rename_i ws0 e0
        obtain ⟨l, rfl, hM⟩ := rv
        obtain ⟨vs0, hv0, _⟩ := o1.lst hM e0
        refine ⟨.inl ⟨rfl, _, SqL.of hv0⟩, tA_bind o1 r1 q2 fun vs ws M2 m2 H2 g2 o2 r2 rvs q3 => hd (σ := σ) o2 (show RW C H2 M2 (.ref l) (.loc n) from ⟨l, rfl, g2.at_ hM⟩) rvs q3⟩
      · exact q2.elim⟩
def qApp : W → List W → Sto → R W
  | .loc n, [w], m => match m[n]? with
    | some (.lst ws) => if ws.length < sizeLine then .ok (.d .none) (stSet m n (ws ++ [w])) else .bad
    | _ => .bad
  | _, _, _ => .bad
theorem md_app : MtD C Wx "list" rAppend qApp := by
  intro σ M m H v w vs ws Q ok rv rvs q
  unfold qApp at q
  split at q
  · split at q
    · rename_i ws0 e0
      split at q
      · rename_i hz
        obtain ⟨l, rfl, hM⟩ := rv
        obtain ⟨y, rfl, ry⟩ := rvs.one
        obtain ⟨vs0, hv0, rv0⟩ := ok.lst hM e0
        obtain ⟨gg, ok2⟩ := ok.put hM e0 (rv0.app (.cons ry .nil))
        exact ⟨l, vs0, y, rfl, rfl, hv0, by rw [rv0.len]; exact hz, q _ _ gg ok2 _ Rp.non⟩
      · exact q.elim
    · exact q.elim
  · exact q.elim
theorem de_append {name : Str} (hx : name = "append") (ho : DE X C Wx o f) (ha : DA X C Wx [a] r) (hbase : attributeBase o name X.env (eval o X.env) = eval o X.env := by rfl)
    (hfew : ((backTo cpos (starEach [a] X.env)).all (fun x => !x.1) && (backToKw cpos (keywordEach [] X.env)).all (fun x => x.1.isSome)
      && decide ([a].length + ([] : List Keyword).length + (if ([] : List Keyword).isEmpty then 0 else 1) < 30)) = true := by rfl)
    (hline : (apos.endLine == cpos.line) = true := by rfl) (hs : starEach [a] X.env = (false, eval a X.env) :: starEach [] X.env := by rfl) (hplain : (backTo cpos (starEach [] X.env)).any (·.1) = false := by rfl) :
    DE X C Wx (.Call (.Attribute o name apos) [a] [] cpos) (eMl qApp f r) := by
  subst hx
  exact de_ml PySem.F.slot_list_append PySem.F.type_list_append (fun pins s σ H x xs v us Q I rx rs h => mt_append pins s σ H x xs v us Q I rx rs h) md_app ho ha hbase hfew hline hs hplain
/-- the receiver is a text -/
def eMs (q : W → List W → Sto → R W) (f g : FE) : FE := fun e m => (f e m).bind fun w m1 => match w with
  | .d (.str z) => (g e m1).bind fun z2 m2 => q (.d (.str z)) [z2] m2
  | _ => .bad
theorem de_ms {name : Str} {id : String} {rr : V → List V → Hp → VK → Prop} {q : W → List W → Sto → R W} (slot : Slot "str" name id) (hty : typeOf (.builtin id) = pure (.type "method_descriptor")) (hm : MtR X id rr) (hd : MtD C Wx "str" rr q) (ho : DE X C Wx o f) (ha : DE X C Wx a g)
    (hs : starEach [a] X.env = [(false, eval a X.env)] := by rfl) (hbase : attributeBase o name X.env (eval o X.env) = eval o X.env := by rfl) (hline : (apos.endLine == cpos.line) = true := by rfl) :
    DE X C Wx (.Call (.Attribute o name apos) [a] [] cpos) (eMs q f g) := ⟨PE_imp (pe_m1 slot hty hm ho.pe ha.pe hs hbase hline) fun σ H Q ⟨M, m, e, ok, rs, q1⟩ =>
  tE_bind ok rs q1 fun v w M1 m1 H1 g1 o1 r1 rv q2 => by
    split at q2
    · cases rv
      exact ⟨⟨_, rfl⟩, tE_bind o1 r1 q2 fun v2 w2 M2 m2 H2 g2 o2 r2 rv2 q3 => hd (σ := σ) o2 (show RW C H2 M2 (.str _) (.d (.str _)) from Rp.str _) (.cons rv2 .nil) q3⟩
    · exact q2.elim⟩
def qJoin : W → List W → Sto → R W
  | .d (.str s), [.d (.list ds)], m => match unSs ds with
    | some ss => if (ss.map (·.length)).sum + ss.length * s.length ≤ 16777216 then .ok (.d (.str (Txt.join s ss))) m else .bad
    | none => .bad
  | _, _, _ => .bad
theorem md_join : MtD C Wx "str" (fun x xs H Q => ∃ a p, ∃ ys : List Str, x = .str a ∧ xs = [.ref p] ∧ (SqL C.K H p (ys.map V.str) ∨ SqT C.K H p (ys.map V.str)) ∧ (ys.map (·.length)).sum + ys.length * a.length ≤ 16777216 ∧ Q (.str (Txt.join a ys)) H) qJoin := by
  intro σ M m H v w vs ws Q ok rv rvs q
  unfold qJoin at q
  split at q
  · split at q
    · rename_i ss e
      split at q
      · rename_i hz
        cases rv
        obtain ⟨y, rfl, ry⟩ := rvs.one
        cases ry with | lst h1 h2 => exact ⟨_, _, ss, rfl, rfl, .inl (by rw [← h2.strs e]; exact h1.sq), hz, q.now ok _ (Rp.str _)⟩
      · exact q.elim
    · exact q.elim
  · exact q.elim
theorem de_join {name : Str} (hx : name = "join") (ho : DE X C Wx o f) (ha : DE X C Wx a g) (hK : X.K = C.K := by rfl) (hs : starEach [a] X.env = [(false, eval a X.env)] := by rfl) (hbase : attributeBase o name X.env (eval o X.env) = eval o X.env := by rfl) (hline : (apos.endLine == cpos.line) = true := by rfl) :
    DE X C Wx (.Call (.Attribute o name apos) [a] [] cpos) (eMs qJoin f g) := by
  subst hx
  exact de_ms F.slot_str_join F.type_str_join mt_join (by rw [hK]; exact md_join) ho ha hs hbase hline
def qCount : W → List W → Sto → R W
  | .d (.str s), [.d (.str z)], m => .ok (.d (.int (Txt.count s z))) m
  | _, _, _ => .bad
theorem md_count : MtD C Wx "str" (fun x xs H Q => ∃ a b, x = .str a ∧ xs = [.str b] ∧ Q (.int (Txt.count a b)) H) qCount := by
  intro σ M m H v w vs ws Q ok rv rvs q
  unfold qCount at q
  split at q
  · cases rv
    obtain ⟨y, rfl, ry⟩ := rvs.one
    cases ry
    exact ⟨_, _, rfl, rfl, q.now ok _ (Rp.int _)⟩
  · exact q.elim
theorem de_count {name : Str} (hx : name = "count") (ho : DE X C Wx o f) (ha : DE X C Wx a g) (hs : starEach [a] X.env = [(false, eval a X.env)] := by rfl) (hbase : attributeBase o name X.env (eval o X.env) = eval o X.env := by rfl) (hline : (apos.endLine == cpos.line) = true := by rfl) :
    DE X C Wx (.Call (.Attribute o name apos) [a] [] cpos) (eMs qCount f g) := by
  subst hx
  exact de_ms F.slot_str_count F.type_str_count mt_count md_count ho ha hs hbase hline
def qIndex : W → List W → Sto → R W
  | .d (.str s), [.d (.str z)], m => match Builtin.Str.occurrences s z 0 s.length 1 with
    | i :: _ => .ok (.d (.int (i : Nat))) m
    | [] => .bad
  | _, _, _ => .bad
theorem md_index : MtD C Wx "str" (fun x xs H Q => ∃ a b i rest, x = .str a ∧ xs = [.str b] ∧ Builtin.Str.occurrences a b 0 a.length 1 = i :: rest ∧ Q (.int (i : Nat)) H) qIndex := by
  intro σ M m H v w vs ws Q ok rv rvs q
  unfold qIndex at q
  split at q
  · split at q
    · rename_i e
      cases rv
      obtain ⟨y, rfl, ry⟩ := rvs.one
      cases ry
      exact ⟨_, _, _, _, rfl, rfl, e, q.now ok _ (Rp.int _)⟩
    · exact q.elim
  · exact q.elim
theorem de_index {name : Str} (hx : name = "index") (ho : DE X C Wx o f) (ha : DE X C Wx a g) (hs : starEach [a] X.env = [(false, eval a X.env)] := by rfl) (hbase : attributeBase o name X.env (eval o X.env) = eval o X.env := by rfl) (hline : (apos.endLine == cpos.line) = true := by rfl) :
    DE X C Wx (.Call (.Attribute o name apos) [a] [] cpos) (eMs qIndex f g) := by
  subst hx
  exact de_ms F.slot_str_index F.type_str_index mt_sindex md_index ho ha hs hbase hline
/-! ### items, slices -/
def pIx : W → W → Sto → R W
  | .d (.list ds), .d (.int i), m => match atI ds i with
    | some d => .ok (.d d) m
    | none => .bad
  | .d (.tuple ds), .d (.int i), m => match atI ds i with
    | some d => .ok (.d d) m
    | none => .bad
  | .d (.str s), .d (.int i), m => if s.length ≤ sizeLine then match atI s.cps.toList i with
      | some c => .ok (.d (.str ⟨#[c]⟩)) m
      | none => .bad
    else .bad
  | .loc n, .d (.int i), m => match m[n]? with
    | some (.lst ws) => match atI ws i with
      | some w => .ok w m
      | none => .bad
    | _ => .bad
  | _, _, _ => .bad
theorem atI_rel {α β : Type} {P : α → β → Prop} {xs : List α} {ds : List β} {i : Int} {d : β} (hl : xs.length = ds.length) (hg : ∀ (j : Nat) (d : β), ds[j]? = some d → ∃ v, xs[j]? = some v ∧ P v d) (h : atI ds i = some d) : ∃ v, atI xs i = some v ∧ P v d := by
  unfold atI at h ⊢
  rw [hl]
  cases e : ixN ds.length i with
  | none => rw [e] at h; cases h
  | some j => rw [e] at h; exact hg j d h
theorem od_ix : OpD C Wx (rIx C.K) pIx := by
  intro σ M m H x y w z Q ok rx ry q
  unfold pIx at q
  split at q
  · split at q
    · rename_i e
      cases rx with | lst h1 h2 =>
      cases ry
      obtain ⟨v, e1, r1⟩ := atI_rel (P := Rp C.K H M) h2.len (fun j d e => h2.get e) e
      exact .inl ⟨_, _, _, v, rfl, rfl, h1.sq, e1, q.now ok _ r1⟩
    · exact q.elim
  · split at q
    · rename_i e
      cases rx with | tup h1 h2 =>
      cases ry
      obtain ⟨v, e1, r1⟩ := atI_rel (P := Rp C.K H M) h2.len (fun j d e => h2.get e) e
      exact .inr (.inl ⟨_, _, _, v, rfl, rfl, h1.sq, e1, q.now ok _ r1⟩)
    · exact q.elim
  · split at q
    · rename_i hz
      split at q
      · rename_i e
        cases rx; cases ry
        exact .inr (.inr ⟨_, _, _, rfl, rfl, hz, e, q.now ok _ (Rp.str _)⟩)
      · exact q.elim
    · exact q.elim
  · split at q
    · rename_i e0
      split at q
      · rename_i e
        obtain ⟨l, rfl, hM⟩ := rx
        cases ry
        obtain ⟨vs, h1, h2⟩ := ok.lst hM e0
        obtain ⟨v, e1, r1⟩ := atI_rel (P := RW C H M) h2.len (fun j d e => h2.get e) e
        exact .inl ⟨_, _, _, v, rfl, rfl, SqL.of h1, e1, q.now ok _ r1⟩
      · exact q.elim
    · exact q.elim
  · exact q.elim
theorem de_item (ha : DE X C Wx a f) (hb : DE X C Wx b g) (hK : X.K = C.K := by rfl) (hs : PlainIx b := by exact fun _ _ => rfl) : DE X C Wx (.Subscript a b pos) (eBin pIx f g) := de_ix ix_seq (by rw [hK]; exact od_ix) ha hb hs
/-- a slice's part -/
abbrev FO := Env → Sto → R (Option Int)
def oNone : FO := fun _ m => .ok none m
def oSome (f : FE) : FO := fun e m => (f e m).bind fun w m1 => match w with
  | .d (.int i) => .ok (some i) m1
  | _ => .bad
def tO (C : Ct) (Wx : WX) (f : FO) : TO := fun σ H Q => ∃ M m e, Ok C M m H ∧ RS C H M σ e ∧ Post C (ExW C Wx σ) M H (f e m) fun oi M' m' H' => Q oi H'
structure DO (X : Cx) (C : Ct) (Wx : WX) (e : Option Expr) (f : FO) : Prop where
  po : PO X e (tO C Wx f)
theorem PO_imp {e : Option Expr} {t t' : TO} (h : PO X e t) (i : ∀ σ H Q, t' σ H Q → t σ H Q) : PO X e t' := ⟨fun pins s σ H Q I q => h.run pins s σ H Q I (i _ _ _ q)⟩
theorem do_none : DO X C Wx none oNone := ⟨PO_imp po_none fun σ H Q ⟨M, m, e, ok, rs, q⟩ => q.now ok⟩
theorem do_some (ha : DE X C Wx a f) : DO X C Wx (some a) (oSome f) := ⟨PO_imp (po_some ha.pe) fun σ H Q ⟨M, m, e, ok, rs, q⟩ => tE_bind ok rs q fun v w M1 m1 H1 g1 o1 r1 rv q1 => by
  split at q1
  · cases rv; exact ⟨_, rfl, q1.now o1⟩
  · exact q1.elim⟩
def cutD {α : Type} (xs : List α) (lo hi : Option Int) : List α := (xs.drop (HT.sIx xs.length 0 lo)).take (HT.sIx xs.length xs.length hi - HT.sIx xs.length 0 lo)
def eSl (f : FE) (lo hi : FO) : FE := fun e m => (f e m).bind fun w m1 => (lo e m1).bind fun i m2 => (hi e m2).bind fun j m3 => match w with
  | .d (.list ds) => .ok (.d (.list (cutD ds i j))) m3
  | .d (.tuple ds) => .ok (.d (.tuple (cutD ds i j))) m3
  | .d (.str s) => if s.length ≤ sizeLine then .ok (.d (.str (cutS s i j))) m3 else .bad
  | _ => .bad
theorem RpA.cut {K : PySem.W.Frag} {H : Hp} {M : Ad} {ds : List PyData} {vs : List V} (h : RpA K H M vs ds) (lo hi : Option Int) : RpA K H M (cutV vs lo hi) (cutD ds lo hi) := by
  unfold cutV cutD
  rw [h.len]
  exact (h.drop _).take _
theorem de_slice {lo hi : Option Expr} {fl fh : FO} {p2 : Pos} (ha : DE X C Wx a f) (hl : DO X C Wx lo fl) (hh : DO X C Wx hi fh) (hK : X.K = C.K := by rfl) : DE X C Wx (.Subscript a (.Slice lo hi none p2) pos) (eSl f fl fh) :=
  ⟨PE_imp (pe_slice (sl_list.or (sl_tupA.or sl_str)) ha.pe hl.po hh.po) fun σ H Q ⟨M, m, e, ok, rs, q⟩ => tE_bind ok rs q fun v w M1 m1 H1 g1 o1 r1 rv q1 => by
    refine ⟨M1, m1, e, o1, r1, Post.mono q1.bind fun i M2 m2 H2 g2 o2 q2 => ?_⟩
    refine ⟨M2, m2, e, o2, r1.go g2, Post.mono q2.bind fun j M3 m3 H3 g3 o3 q3 => ?_⟩
    have rv3 := (rv.go g2).go g3
    split at q3
    · cases rv3 with | lst h1 h2 => exact .inl ⟨_, _, rfl, by rw [hK]; exact h1.sq, fun p hp => q3 _ _ (Go.new hp) (o3.new hp) _ (Rp.newL o3 hp (h2.cut i j))⟩
    · rename_i ds
      cases rv3 with | tup h1 h2 =>
      refine .inr (.inl ⟨_, _, rfl, by rw [hK]; exact h1.sq, fun hw => ?_, fun _ p hp => q3 _ _ (Go.new hp) (o3.new hp) _ (Rp.newT o3 hp (h2.cut i j))⟩)
      rw [h2.len] at hw
      have e : cutD ds i j = ds := by unfold cutD; rw [hw.1, hw.2, List.drop_zero, Nat.sub_zero, List.take_length]
      rw [e] at q3
      exact q3.now o3 _ (Rp.tup h1 h2)
    · split at q3
      · rename_i hz
        cases rv3
        exact .inr (.inr ⟨_, rfl, hz, q3.now o3 _ (Rp.str _)⟩)
      · exact q3.elim
    · exact q3.elim⟩
/-! ### statements -/
inductive SR where
  | nx (e : Env) (m : Sto)
  | rt (w : W) (m : Sto)
  | rtt (ws : List W) (m : Sto)
  | bk (e : Env) (m : Sto)
  | ct (e : Env) (m : Sto)
  | exc (x : Exn) (e : Env) (m : Sto)
  | bad
abbrev FS := Env → Sto → SR
def SPost (C : Ct) (Wx : WX) (M : Ad) (H : Hp) (r : SR) (D : Ends) : Prop := match r with
  | .nx e m => ∀ σ' M' H', Go M H M' H' → Ok C M' m H' → RS C H' M' σ' e → D.nx σ' H'
  | .rt w m => ∀ v M' H', Go M H M' H' → Ok C M' m H' → RW C H' M' v w → D.rt v H'
  | .rtt ws m => ∀ p vs M' H', Go M H M' H' → Ok C M' m H' → FzT H' M' p vs → RWs C H' M' vs ws → D.rt (.ref p) H'
  | .bk e m => ∀ σ' M' H', Go M H M' H' → Ok C M' m H' → RS C H' M' σ' e → D.bk σ' H'
  | .ct e m => ∀ σ' M' H', Go M H M' H' → Ok C M' m H' → RS C H' M' σ' e → D.ct σ' H'
  | .exc x e m => ∀ σ' M' H', Go M H M' H' → Ok C M' m H' → RS C H' M' σ' e → ExW C Wx σ' x m M' H'
  | .bad => False
theorem SPost.go {M M' : Ad} {H H' : Hp} {r : SR} {D : Ends} (gg : Go M H M' H') (q : SPost C Wx M H r D) : SPost C Wx M' H' r D := by
  cases r with
  | nx e m => exact fun σ' M2 H2 k => q σ' M2 H2 (gg.trans k)
  | rt w m => exact fun σ' M2 H2 k => q σ' M2 H2 (gg.trans k)
  | rtt w m => exact fun p vs M2 H2 k => q p vs M2 H2 (gg.trans k)
  | bk e m => exact fun σ' M2 H2 k => q σ' M2 H2 (gg.trans k)
  | ct e m => exact fun σ' M2 H2 k => q σ' M2 H2 (gg.trans k)
  | exc x e m => exact fun σ' M2 H2 k => q σ' M2 H2 (gg.trans k)
  | bad => exact q
@[simp] def ofR {α : Type} (e : Env) : R α → (α → Sto → SR) → SR
  | .ok x m, k => k x m
  | .exc x m, _ => .exc x e m
  | .bad, _ => .bad
theorem SPost.ofR {α : Type} {M : Ad} {H : Hp} {D : Ends} {σ : St} {e : Env} {r : R α} {k : α → Sto → SR} (rs : RS C H M σ e) (q : SPost C Wx M H (ofR e r k) D) : Post C (ExW C Wx σ) M H r fun x M1 m1 H1 => SPost C Wx M1 H1 (k x m1) D := by
  cases r with
  | ok x m => exact fun M1 H1 g1 o1 => SPost.go g1 q
  | exc x m => exact fun M1 H1 g1 o1 => q σ M1 H1 g1 o1 (rs.go g1)
  | bad => exact q
def tS (C : Ct) (Wx : WX) (s : FS) : TS := fun D σ H => ∃ M m e, Ok C M m H ∧ RS C H M σ e ∧ SPost C Wx M H (s e m) D
structure DS (X : Cx) (C : Ct) (Wx : WX) (st : Stmt) (s : FS) : Prop where
  ps : PS X st (tS C Wx s)
structure DSs (X : Cx) (C : Ct) (Wx : WX) (st : List Stmt) (s : FS) : Prop where
  pss : PSs X st (tS C Wx s)
/-- an expression's end in a statement -/
theorem tE_st {σ : St} {H : Hp} {M : Ad} {m : Sto} {e : Env} {k : W → Sto → SR} {D : Ends} {Q : VK} (ok : Ok C M m H) (rs : RS C H M σ e) (q : SPost C Wx M H (ofR e (f e m) k) D)
    (hk : ∀ v w M' m' H', Go M H M' H' → Ok C M' m' H' → RS C H' M' σ e → RW C H' M' v w → SPost C Wx M' H' (k w m') D → Q v H') : tE C Wx f σ H Q :=
  tE_at ok rs (Post.mono (SPost.ofR rs q) fun w M1 m1 H1 gg oo q1 v rv => hk v w M1 m1 H1 gg oo (rs.go gg) rv q1)
theorem tT_st {σ : St} {H : Hp} {M : Ad} {m : Sto} {e : Env} {k : Bool → Sto → SR} {D : Ends} {Q : Bool → Hp → Prop} (ok : Ok C M m H) (rs : RS C H M σ e) (q : SPost C Wx M H (ofR e (t e m) k) D)
    (hk : ∀ b M' m' H', Go M H M' H' → Ok C M' m' H' → RS C H' M' σ e → SPost C Wx M' H' (k b m') D → Q b H') : tT C Wx t σ H Q :=
  tT_at ok rs (Post.mono (SPost.ofR rs q) fun w M1 m1 H1 gg oo q1 => hk w M1 m1 H1 gg oo (rs.go gg) q1)
theorem tA_st {σ : St} {H : Hp} {M : Ad} {m : Sto} {e : Env} {k : List W → Sto → SR} {D : Ends} {Q : List V → Hp → Prop} (ok : Ok C M m H) (rs : RS C H M σ e) (q : SPost C Wx M H (ofR e (r e m) k) D)
    (hk : ∀ vs ws M' m' H', Go M H M' H' → Ok C M' m' H' → RS C H' M' σ e → RWs C H' M' vs ws → SPost C Wx M' H' (k ws m') D → Q vs H') : tA C Wx r σ H Q :=
  tA_at ok rs (Post.mono (SPost.ofR rs q) fun w M1 m1 H1 gg oo q1 v rv => hk v w M1 m1 H1 gg oo (rs.go gg) rv q1)
theorem SPost.nx_now {M : Ad} {H : Hp} {D : Ends} {σ : St} {e : Env} {m : Sto} (ok : Ok C M m H) (rs : RS C H M σ e) (q : SPost C Wx M H (.nx e m) D) : D.nx σ H := q σ M H Go.refl ok rs
theorem SPost.rt_now {M : Ad} {H : Hp} {D : Ends} {v : V} {w : W} {m : Sto} (ok : Ok C M m H) (rv : RW C H M v w) (q : SPost C Wx M H (.rt w m) D) : D.rt v H := q v M H Go.refl ok rv
variable {st : Stmt} {sts : List Stmt} {s s1 s2 : FS}
def sNil : FS := fun e m => .nx e m
def sSeq (s1 s2 : FS) : FS := fun e m => match s1 e m with
  | .nx e1 m1 => s2 e1 m1
  | z => z
theorem dss_nil : DSs X C Wx [] sNil := ⟨PSs_imp pss_nil fun D σ H ⟨M, m, e, ok, rs, q⟩ => q.nx_now ok rs⟩
theorem dss_one (h : DS X C Wx st s) : DSs X C Wx [st] s := ⟨pss_one h.ps⟩
theorem dss_cons (h1 : DS X C Wx st s1) (h2 : DSs X C Wx sts s2) : DSs X C Wx (st :: sts) (sSeq s1 s2) := ⟨PSs_imp (pss_cons h1.ps h2.pss) fun D σ H ⟨M, m, e, ok, rs, q⟩ => by
  refine ⟨M, m, e, ok, rs, ?_⟩
  unfold sSeq at q
  cases hs : s1 e m with
  | nx e1 m1 => rw [hs] at q; exact fun σ' M' H' gg oo rr => ⟨M', m1, e1, oo, rr, SPost.go gg q⟩
  | rt w m1 => rw [hs] at q; exact q
  | rtt w m1 => rw [hs] at q; exact q
  | bk e1 m1 => rw [hs] at q; exact q
  | ct e1 m1 => rw [hs] at q; exact q
  | exc x e1 m1 => rw [hs] at q; exact q
  | bad => rw [hs] at q; exact q⟩
def sRet (f : FE) : FS := fun e m => ofR e (f e m) fun w m1 => .rt w m1
theorem ds_ret (ha : DE X C Wx a f) : DS X C Wx (.Return (some a) pos) (sRet f) := ⟨PS_imp (ps_ret ha.pe) fun D σ H ⟨M, m, e, ok, rs, q⟩ => tE_st ok rs q fun v w M1 m1 H1 g1 o1 r1 rv q1 => q1.rt_now o1 rv⟩
def sExpr (f : FE) : FS := fun e m => ofR e (f e m) fun _ m1 => .nx e m1
theorem ds_expr (ha : DE X C Wx a f) (hs : swapsWith a none pos.line X.env = pure false := by rfl) : DS X C Wx (.Expr a pos) (sExpr f) := ⟨PS_imp (ps_expr ha.pe hs) fun D σ H ⟨M, m, e, ok, rs, q⟩ => tE_st ok rs q fun v w M1 m1 H1 g1 o1 r1 rv q1 => q1.nx_now o1 r1⟩
def sIf (t : FT) (s1 s2 : FS) : FS := fun e m => ofR e (t e m) fun k m1 => if k then s1 e m1 else s2 e m1
theorem ds_if {sa sb : List Stmt} (ht : DT X C Wx c t) (ha : DSs X C Wx sa s1) (hb : DSs X C Wx sb s2) : DS X C Wx (.If c sa sb pos) (sIf t s1 s2) := ⟨PS_imp (ps_if ht.pt ha.pss hb.pss) fun D σ H ⟨M, m, e, ok, rs, q⟩ => tT_st ok rs q fun k M1 m1 H1 g1 o1 r1 q1 => by
  cases k with
  | true => exact ⟨M1, m1, e, o1, r1, q1⟩
  | false => exact ⟨M1, m1, e, o1, r1, q1⟩⟩
/-- name = e, of whatever rule -/
def sSet (i : Nat) (f : FE) : FS := fun e m => ofR e (f e m) fun w m1 => .nx (e.set i (some w)) m1
theorem ds_set_of {te : TE} {i : Nat} (hp : PS X st (tAsg te (gName i))) (hi : ∀ σ H Q, tE C Wx f σ H Q → te σ H Q) : DS X C Wx st (sSet i f) := ⟨PS_imp hp fun D σ H ⟨M, m, e, ok, rs, q⟩ => hi σ H _ (tE_st ok rs q fun v w M1 m1 H1 g1 o1 r1 rv q1 => q1.nx_now o1 (r1.set rv i))⟩
theorem ds_set (i : Nat) {x : Str} {p2 : Pos} (hN : X.N.Nodup) (ha : DE X C Wx a f) (hi : X.N[i]? = some x := by rfl) (hx : Loc X.env.scope x := by first | exact Or.inl rfl | exact Or.inr rfl) (hs : swapsWith a (some (.Name x p2)) pos.line X.env = pure false := by rfl)
    (hf : X.fn x = true ∨ X.env.scope.names.lookup x = some .local := by first | exact .inl rfl | exact .inr rfl) : DS X C Wx (.Assign [.Name x p2] a pos) (sSet i f) := ds_set_of (ps_set hN hi hx ha.pe hs hf) fun σ H Q h => h
/-- targets: a name, a tuple of targets -/
abbrev FG := W → Env → Option Env
def gD (C : Ct) (vs : List Nat) (t : FG) : TG := fun v σ H Q => ∃ M e w, RS C H M σ e ∧ RW C H M v w ∧ match t w e with
  | some e' => ∀ σ', RS C H M σ' e' → wipe σ' vs = wipe σ vs → Q σ' H
  | none => False
structure DG (X : Cx) (C : Ct) (vs : List Nat) (tg : Expr) (t : FG) : Prop where
  pg : PG X tg (gD C vs t)
theorem wipe_set {σ : St} {i : Nat} {x : Option V} : ∀ {vs : List Nat}, i ∈ vs → wipe (σ.set i x) vs = wipe σ vs
  | v :: vs, h => by
    unfold wipe
    by_cases hi : i ∈ vs
    · rw [wipe_set hi]
    · have e : v = i := by
        rcases List.mem_cons.mp h with z | z
        · exact z.symm
        · exact absurd z hi
      subst e
      have key : ∀ (us : List Nat), v ∉ us → wipe (σ.set v x) us = (wipe σ us).set v x := by
        intro us
        induction us with
        | nil => intro _; rfl
        | cons u us ih =>
          intro hu
          unfold wipe
          rw [ih (fun z => hu (List.mem_cons_of_mem _ z))]
          exact List.set_comm _ _ (fun z => hu (by rw [z]; exact List.mem_cons_self))
      rw [key vs hi, List.set_set]
theorem PG_imp {tg : Expr} {t t' : TG} (h : PG X tg t) (i : ∀ v σ H Q, t' v σ H Q → t v σ H Q) : PG X tg t' := ⟨fun pins s σ H v u Q I r q => h.run pins s σ H v u Q I r (i _ _ _ _ q)⟩
def gN (i : Nat) : FG := fun w e => some (e.set i (some w))
theorem dg_name (i : Nat) {vs : List Nat} {x : Str} (hN : X.N.Nodup) (hi : X.N[i]? = some x := by rfl) (hx : Loc X.env.scope x := by first | exact Or.inl rfl | exact Or.inr rfl) (hf : X.fn x = true ∨ X.env.scope.names.lookup x = some .local := by first | exact .inl rfl | exact .inr rfl)  (hv : i ∈ vs := by decide) : DG X C vs (.Name x pos) (gN i) :=
  ⟨PG_imp (pg_name hN hi hx hf) fun v σ H Q ⟨M, e, w, rs, rv, q⟩ => q _ (rs.set rv i) (wipe_set hv)⟩
abbrev FGs := List PyData → Env → Option Env
def gsD (C : Ct) (us : List Nat) (t : FGs) : TGs := fun vs σ H Q => ∃ M e ds, RS C H M σ e ∧ RpA C.K H M vs ds ∧ match t ds e with
  | some e' => ∀ σ', RS C H M σ' e' → wipe σ' us = wipe σ us → Q σ' H
  | none => False
structure DGs (X : Cx) (C : Ct) (us : List Nat) (ts : List Expr) (t : FGs) : Prop where
  pgs : PGs X ts (gsD C us t)
theorem PGs_imp {ts : List Expr} {t t' : TGs} (h : PGs X ts t) (i : ∀ v σ H Q, t' v σ H Q → t v σ H Q) : PGs X ts t' := ⟨fun pins s σ H v u Q I r q => h.run pins s σ H v u Q I r (i _ _ _ _ q)⟩
def gsNil : FGs := fun ds e => match ds with
  | [] => some e
  | _ => none
def gsCons (t : FG) (u : FGs) : FGs := fun ds e => match ds with
  | d :: r => match t (.d d) e with
    | some e' => u r e'
    | none => none
  | [] => none
theorem dgs_nil {us : List Nat} : DGs X C us [] gsNil := ⟨PGs_imp pgs_nil fun vs σ H Q ⟨M, e, ds, rs, rv, q⟩ => by
  cases rv with
  | nil => exact ⟨rfl, q σ rs rfl⟩
  | cons _ _ => exact q.elim⟩
theorem dgs_cons {us : List Nat} {es : List Expr} {t : FG} {u : FGs} (h1 : DG X C us e t) (h2 : DGs X C us es u) (hs : (assignEach (e :: es) X.env).map (·.2) = assign e X.env :: (assignEach es X.env).map (·.2) := by rfl) : DGs X C us (e :: es) (gsCons t u) :=
  ⟨PGs_imp (pgs_cons h1.pg h2.pgs hs) fun vs σ H Q ⟨M, e, ds, rs, rv, q⟩ => by
    cases rv with
    | nil => exact q.elim
    | @cons v0 vs0 d0 ds0 a b =>
      unfold gsCons at q
      simp only at q
      refine ⟨_, _, rfl, M, e, .d d0, rs, a, ?_⟩
      cases ht : t (.d d0) e with
      | none => rw [ht] at q; exact q.elim
      | some e' =>
        rw [ht] at q
        simp only at q ⊢
        refine fun σ' rs' hw => ⟨M, e', _, rs', b, ?_⟩
        split at q
        · rename_i e2 he2
          exact fun σ2 rs2 hw2 => q σ2 rs2 (hw2.trans hw)
        · exact q.elim⟩
def gT (n : Nat) (u : FGs) : FG := fun w e => match w with
  | .d (.tuple ds) => if ds.length = n then u ds e else none
  | _ => none
theorem dg_tup {us : List Nat} {es : List Expr} {k n : Nat} {u : FGs} (hc : X.calm = true) (h : DGs X C us es u) (hK : X.K = C.K := by rfl) (hn : (assignEach es X.env).length = n := by rfl) (hst : (assignEach es X.env).findIdx? (·.1) = none := by rfl) : DG X C us (.Tuple es k pos) (gT n u) :=
  ⟨PG_imp (pg_tup hc h.pgs hn hst) fun v σ H Q ⟨M, e, w, rs, rv, q⟩ => by
    unfold gT at q
    split at q
    · rename_i e' he
      split at he
      · split at he
        · rename_i ds hl
          cases rv with | tup h1 h2 => exact ⟨_, _, rfl, by rw [hK]; exact h1.sq, by rw [h2.len]; exact hl, M, e, ds, rs, h2, by rw [he]; exact q⟩
        · cases he
      · cases he
    · exact q.elim⟩
def sAsg (f : FE) (t : FG) : FS := fun e m => ofR e (f e m) fun w m1 => match t w e with
  | some e' => .nx e' m1
  | none => .bad
theorem ds_asg {us : List Nat} {tg : Expr} {tt : FG} (ha : DE X C Wx a f) (hg : DG X C us tg tt) (hs : swapsWithSole [tg] a pos.line X.env = pure false := by rfl) (hw : swappedStores [tg] a X.env = pure none := by rfl)
    (h1 : (assignEach [tg] X.env).map (·.2) = [assign tg X.env] := by rfl) : DS X C Wx (.Assign [tg] a pos) (sAsg f tt) := ⟨PS_imp (ps_asg ha.pe hg.pg hs hw h1) fun D σ H ⟨M, m, e, ok, rs, q⟩ => tE_st ok rs q fun v w M1 m1 H1 g1 o1 r1 rv q1 => by
  refine ⟨M1, e, w, r1, rv, ?_⟩
  cases he : tt w e with
  | none => rw [he] at q1; exact q1.elim
  | some e' => rw [he] at q1; exact fun σ' rs' _ => q1.nx_now o1 rs'⟩
/-- a, b = x, y -/
def sPar (i j : Nat) (r : FA) : FS := fun e m => ofR e (r e m) fun ws m1 => match ws with
  | [w, z] => .nx ((e.set i (some w)).set j (some z)) m1
  | _ => .bad
end
end Pd

set_option Elab.async false
set_option linter.all false
set_option maxRecDepth 100000
set_option maxHeartbeats 1000000
namespace Pd
open PySem PySem.Spec PyProof.Rows L2
section
variable {X : Cx} {C : Ct} {Wx : WX} {a b c o e : Expr} {es : List Expr} {f g h : FE} {r : FA} {t u : FT} {pos p apos cpos : Pos} {st : Stmt} {sts : List Stmt} {s s1 s2 : FS}
theorem ds_par (i j : Nat) {x y : Str} {px py pt : Pos} {kt k2 : Nat} {pt2 : Pos} (hc : X.calm = true) (hN : X.N.Nodup) (ha : DA X C Wx [a, b] r) (hi : X.N[i]? = some x := by rfl) (hj : X.N[j]? = some y := by rfl) (hij : i ≠ j := by decide)
    (hx : X.env.scope.names.lookup x = some .local := by rfl) (hy : X.env.scope.names.lookup y = some .local := by rfl) (hw : swappedStores [.Tuple [.Name x px, .Name y py] kt pt] (.Tuple [a, b] k2 pt2) X.env = pure (some [x, y]) := by rfl) (hs : swapsWithSole [.Tuple [.Name x px, .Name y py] kt pt] (.Tuple [a, b] k2 pt2) pos.line X.env = pure false := by rfl) :
    DS X C Wx (.Assign [.Tuple [.Name x px, .Name y py] kt pt] (.Tuple [a, b] k2 pt2) pos) (sPar i j r) := ⟨PS_imp (ps_par hc hN hi hj hij hx hy ha.pa hw hs) fun D σ H ⟨M, m, e, ok, rs, q⟩ => tA_st ok rs q fun vs ws M1 m1 H1 g1 o1 r1 rv q1 => by
  split at q1
  · obtain ⟨v, w, rfl, r2, r3⟩ := rv.two
    exact ⟨v, w, rfl, q1.nx_now o1 ((r1.set r2 i).set r3 j)⟩
  · exact q1.elim⟩
/-- o[i] = e, o a changing list -/
def sPut (fo fi fv : FE) : FS := fun e m => ofR e (fv e m) fun v m1 => ofR e (fo e m1) fun w m2 => ofR e (fi e m2) fun i m3 => match w, i with
  | .loc n, .d (.int k) => match m3[n]? with
    | some (.lst ws) => match ixN ws.length k with
      | some j => .nx e (stSet m3 n (ws.set j v))
      | none => .bad
    | _ => .bad
  | _, _ => .bad
theorem ds_put {o i : Expr} {fo fi : FE} {p2 : Pos} (ha : DE X C Wx a f) (ho : DE X C Wx o fo) (hi : DE X C Wx i fi) (hsub : ∀ v, assign (.Subscript o i p2) X.env v = (do
      let ov ← holding [v] (eval o X.env)
      let iv ← holding [v, ov] (eval i X.env)
      standAt p2
      holding [v, ov, iv] (setItem ov iv v)
      release [v, ov, iv] []) := by intro _; rfl) (hs : swapsWithSole [.Subscript o i p2] a pos.line X.env = pure false := by rfl) (hw : swappedStores [.Subscript o i p2] a X.env = pure none := by rfl)
    (h1 : (assignEach [.Subscript o i p2] X.env).map (·.2) = [assign (.Subscript o i p2) X.env] := by rfl) : DS X C Wx (.Assign [.Subscript o i p2] a pos) (sPut fo fi f) := ⟨PS_imp (ps_asg ha.pe (pg_sub ho.pe hi.pe set_list hsub) hs hw h1) fun D σ H ⟨M, m, e, ok, rs, q⟩ =>
  tE_st ok rs q fun v w M1 m1 H1 g1 o1 r1 rv q1 => tE_st o1 r1 q1 fun v2 w2 M2 m2 H2 g2 o2 r2 rv2 q2 => tE_st o2 r2 q2 fun v3 w3 M3 m3 H3 g3 o3 r3 rv3 q3 => by
    split at q3
    · split at q3
      · rename_i e0
        split at q3
        · rename_i j hj
          obtain ⟨l, rfl, hM⟩ := rv2.go g3
          cases rv3
          obtain ⟨vs0, hv0, rv0⟩ := o3.lst hM e0
          obtain ⟨gg, o4⟩ := o3.put hM e0 (rv0.set ((rv.go g2).go g3) j)
          exact ⟨l, vs0, _, j, rfl, rfl, hv0, by rw [rv0.len]; exact hj, q3 σ _ _ gg o4 (r3.go gg)⟩
        · exact q3.elim
      · exact q3.elim
    · exact q3.elim⟩
/-- x += e of ints -/
def sAug (i : Nat) (p : W → W → Sto → R W) (f : FE) : FS := fun e m => match e[i]? with
  | some (some w0) => ofR e (f e m) fun w m1 => ofR e (p w0 w m1) fun z m2 => .nx (e.set i (some z)) m2
  | _ => .bad
/-! ### what is walked -/
abbrev FI := Env → Sto → R (List W)
/-- the same changing lists; what is hidden besides was not yet there -/
def Hd (M : Ad) (H : Hp) (M0 : Ad) : Prop := M0.loc = M.loc ∧ ∀ b ∈ M0.hid, b ∈ M.hid ∨ H b = none
theorem Hd.refl {M : Ad} {H : Hp} : Hd M H M := ⟨rfl, fun _ h => .inl h⟩
theorem Hd.freeL {M M0 : Ad} {H : Hp} (h : Hd M H M0) {a : Addr} {o : HO} (e : H a = some o) (f : M.free a) : M0.free a := ⟨by rw [h.1]; exact f.1, fun z => (h.2 a z).elim f.2 fun n => by rw [n] at e; cases e⟩
theorem Hd.car {K : PySem.W.Frag} {M M0 : Ad} {H : Hp} (d : Hd M H M0) : Car K H M H M0 where
  l := fun a xs h => h.imp (fun z => ⟨z.1, by rcases z.1 with q | ⟨o, q⟩ <;> exact d.freeL q z.2⟩) id
  t := fun a xs h => ⟨h.1, d.freeL h.1 h.2⟩
  dk := fun a k h => ⟨h.1, by rcases h.1 with q | ⟨o, q⟩ <;> exact d.freeL q h.2⟩
  dt := fun a k h => ⟨h.1, by rcases h.1 with q | ⟨o, q⟩ <;> exact d.freeL q h.2⟩
theorem FzL.weak {K : PySem.W.Frag} {M M0 : Ad} {H : Hp} {a : Addr} {xs : List V} (h : FzL K H M a xs) (d : Hd M H M0) : FzL K H M0 a xs := d.car.l _ _ h
theorem FzT.weak {M M0 : Ad} {H : Hp} {a : Addr} {xs : List V} (h : FzT H M a xs) (d : Hd M H M0) : FzT H M0 a xs := ⟨h.1, d.freeL h.1 h.2⟩
theorem Rp.weak {K : PySem.W.Frag} {H : Hp} {M M0 : Ad} (hd : Hd M H M0) {d : PyData} {v : V} (h : Rp K H M v d) : Rp K H M0 v d := h.car hd.car
theorem RpA.weak {K : PySem.W.Frag} {H : Hp} {M M0 : Ad} (hd : Hd M H M0) {ds : List PyData} {vs : List V} (h : RpA K H M vs ds) : RpA K H M0 vs ds := h.car hd.car
theorem RW.weak {H : Hp} {M M0 : Ad} (hd : Hd M H M0) {v : V} {w : W} (h : RW C H M v w) : RW C H M0 v w := by
  cases w with
  | d x => exact Rp.weak hd h
  | loc n => obtain ⟨a, e, h⟩ := h; exact ⟨a, e, by rw [hd.1]; exact h⟩
  | clo j => obtain ⟨f, e, h, h1, h2, h3, h4, n⟩ := h; exact ⟨f, e, h, h1, h2, h3, h4, hd.freeL h n⟩
theorem RWs.weak {H : Hp} {M M0 : Ad} (hd : Hd M H M0) {vs : List V} {ws : List W} (h : RWs C H M vs ws) : RWs C H M0 vs ws := by
  induction h with
  | nil => exact .nil
  | cons a _ ih => exact .cons (a.weak hd) ih
theorem RS.weak {H : Hp} {M M0 : Ad} (hd : Hd M H M0) {σ : St} {e : Env} (h : RS C H M σ e) : RS C H M0 σ e := ⟨h.len, fun i w q => let ⟨v, e1, r⟩ := h.at_ i w q; ⟨v, e1, r.weak hd⟩⟩
structure Serves (C : Ct) (M : Ad) (H : Hp) (J : It) (items : List W) : Prop where
  go : ∀ M0 M' H', Hd M H M0 → Go M0 H M' H' → ∀ i, i < items.length → J.go i H'
  stop : ∀ M0 M' H', Hd M H M0 → Go M0 H M' H' → J.stop items.length H'
  yld : ∀ M0 M' H', Hd M H M0 → Go M0 H M' H' → ∀ i w, items[i]? = some w → ∀ x H'', J.yld i H' x H'' → ∀ m', Ok C M' m' H' → Go M' H' M' H'' ∧ RW C H'' M' x w ∧ Ok C M' m' H''
def tI (C : Ct) (Wx : WX) (f : FI) : TI := fun σ H Q => ∃ M m e, Ok C M m H ∧ RS C H M σ e ∧ Post C (ExW C Wx σ) M H (f e m) fun items M' m' H' => ∀ J, Serves C M' H' J items → Q J H'
structure DI (X : Cx) (C : Ct) (Wx : WX) (tg iter : Expr) (f : FI) : Prop where
  pi : PI X tg iter (tI C Wx f)
theorem PI_imp {tg iter : Expr} {t t' : TI} (h : PI X tg iter t) (i : ∀ σ H Q, t' σ H Q → t σ H Q) : PI X tg iter t' := ⟨fun pins s σ H Q I q => h.run pins s σ H Q I (i _ _ _ q)⟩
theorem PI_or {tg iter : Expr} {t t' : TI} (h : PI X tg iter t) (h' : PI X tg iter t') : PI X tg iter (fun σ H Q => t σ H Q ∨ t' σ H Q) := ⟨fun pins s σ H Q I q => q.elim (h.run pins s σ H Q I) (h'.run pins s σ H Q I)⟩
theorem get_mapW {ds : List PyData} {i : Nat} {w : W} (h : (ds.map W.d)[i]? = some w) : ∃ d, ds[i]? = some d ∧ w = .d d := by
  rw [List.getElem?_map] at h
  cases e : ds[i]? with
  | none => rw [e] at h; cases h
  | some d => rw [e] at h; cases h; exact ⟨d, rfl, rfl⟩
theorem serves_list {M : Ad} {H : Hp} {a : Addr} {vs : List V} {ds : List PyData} (h : FzL C.K H M a vs) (r : RpA C.K H M vs ds) : Serves C M H (Itl C.K a) (ds.map W.d) where
  go := fun M0 M' H' hd gg i hi => ⟨vs, vs[i]'(by rw [r.len]; simpa using hi), ((h.weak hd).go gg).sq, List.getElem?_eq_getElem _⟩
  stop := fun M0 M' H' hd gg => ⟨vs, ((h.weak hd).go gg).sq, by rw [r.len]; simp⟩
  yld := fun M0 M' H' hd gg i w hw x H'' hy m' oo => by
    obtain ⟨d, hdd, rfl⟩ := get_mapW hw
    obtain ⟨rfl, hx⟩ := hy
    obtain ⟨v, hv, rv⟩ := r.get hdd
    have := hx vs ((h.weak hd).go gg).sq
    rw [hv] at this
    cases this
    exact ⟨Go.refl, (rv.weak hd).go gg, oo⟩
theorem serves_tup {M : Ad} {H : Hp} {a : Addr} {vs : List V} {ds : List PyData} (h : FzT H M a vs) (r : RpA C.K H M vs ds) : Serves C M H (Itt C.K a) (ds.map W.d) where
  go := fun M0 M' H' hd gg i hi => ⟨vs, vs[i]'(by rw [r.len]; simpa using hi), ((h.weak hd).go gg).sq, List.getElem?_eq_getElem _⟩
  stop := fun M0 M' H' hd gg => ⟨vs, ((h.weak hd).go gg).sq, by rw [r.len]; simp⟩
  yld := fun M0 M' H' hd gg i w hw x H'' hy m' oo => by
    obtain ⟨d, hdd, rfl⟩ := get_mapW hw
    obtain ⟨rfl, hx⟩ := hy
    obtain ⟨v, hv, rv⟩ := r.get hdd
    have := hx vs ((h.weak hd).go gg).sq
    rw [hv] at this
    cases this
    exact ⟨Go.refl, (rv.weak hd).go gg, oo⟩
/-- a list, a tuple, a text -/
def iSeq (f : FE) : FI := fun e m => (f e m).bind fun w m1 => match w with
  | .d (.list ds) => .ok (ds.map W.d) m1
  | .d (.tuple ds) => .ok (ds.map W.d) m1
  | .d (.str s) => .ok ((signs s).map W.d) m1
  | _ => .bad
theorem serves_str {M : Ad} {H : Hp} {s : Str} : Serves C M H (Its s) ((signs s).map W.d) where
  go := fun M0 M' H' hd gg i hi => by
    have : i < s.cps.size := by simpa [signs] using hi
    exact this
  stop := fun M0 M' H' hd gg => by
    show s.cps.size ≤ _
    simp [signs]
  yld := fun M0 M' H' hd gg i w hw x H'' hy m' oo => by
    obtain ⟨d, hdd, rfl⟩ := get_mapW hw
    obtain ⟨rfl, c, hc, rfl⟩ := hy
    unfold signs at hdd
    rw [List.getElem?_map, Array.getElem?_toList, hc] at hdd
    cases hdd
    exact ⟨Go.refl, Rp.str _, oo⟩
theorem di_seq {tg : Expr} (ha : DE X C Wx a f) (hK : X.K = C.K := by rfl) : DI X C Wx tg a (iSeq f) := ⟨PI_imp (PI_or (pi_list ha.pe) (PI_or (pi_tup ha.pe) (pi_str ha.pe))) fun σ H Q ⟨M, m, e, ok, rs, q⟩ => by
  unfold iSeq at q
  cases hf : f e m with
  | bad => rw [hf] at q; exact q.elim
  | exc x m1 => exact .inl (tE_at ok rs (by rw [hf] at q ⊢; exact q))
  | ok w m1 =>
    rw [hf] at q
    have key : ∀ {items : List W}, Post C (ExW C Wx σ) M H (.ok items m1) (fun items M' m' H' => ∀ J, Serves C M' H' J items → Q J H') → ∀ {Q' : VK}, (∀ v M' H', Go M H M' H' → Ok C M' m1 H' → RW C H' M' v w → (∀ J, Serves C M' H' J items → Q J H') → Q' v H') → tE C Wx f σ H Q' := fun {items} q {Q'} k =>
      tE_at ok rs (by rw [hf]; exact fun M' H' gg oo v rv => k v M' H' gg oo rv (q M' H' gg oo))
    simp only [R.bind] at q
    split at q
    · exact .inl (key q fun v M' H' gg oo rv k => by
        cases rv with | lst h1 h2 => exact ⟨_, rfl, ⟨_, by rw [hK]; exact h1.sq⟩, by rw [hK]; exact k _ (serves_list h1 h2)⟩)
    · exact .inr (.inl (key q fun v M' H' gg oo rv k => by
        cases rv with | tup h1 h2 => exact ⟨_, rfl, ⟨_, by rw [hK]; exact h1.sq⟩, by rw [hK]; exact k _ (serves_tup h1 h2)⟩))
    · exact .inr (.inr (key q fun v M' H' gg oo rv k => by cases rv; exact ⟨_, rfl, k _ serves_str⟩))
    · exact q.elim⟩
/-- range(n), range(a, b) -/
def rng (lo : Int) (n : Nat) : List W := (List.range n).map fun i => W.d (.int (lo + (i : Nat)))
def iRg1 (r : FA) : FI := fun e m => (r e m).bind fun ws m1 => match ws with
  | [.d (.int j)] => if -(2 ^ 62) ≤ j ∧ j < 2 ^ 62 then .ok (rng 0 j.toNat) m1 else .bad
  | _ => .bad
def iRg2 (r : FA) : FI := fun e m => (r e m).bind fun ws m1 => match ws with
  | [.d (.int i), .d (.int j)] => if -(2 ^ 62) ≤ i ∧ i < 2 ^ 62 ∧ -(2 ^ 62) ≤ j ∧ j < 2 ^ 62 then .ok (rng i (j - i).toNat) m1 else .bad
  | _ => .bad
theorem serves_rng {M : Ad} {H : Hp} {lo : Int} {n : Nat} : Serves C M H (Itr lo n) (rng lo n) where
  go := fun M0 M' H' hd gg i hi => by
    have : i < n := by simpa [rng] using hi
    exact this
  stop := fun M0 M' H' hd gg => by
    show n ≤ _
    simp [rng]
  yld := fun M0 M' H' hd gg i w hw x H'' hy m' oo => by
    obtain ⟨rfl, rfl⟩ := hy
    unfold rng at hw
    rw [List.getElem?_map] at hw
    cases hi : (List.range n)[i]? with
    | none => rw [hi] at hw; cases hw
    | some k =>
      rw [hi] at hw
      cases hw
      obtain ⟨h1, h2⟩ := List.getElem?_eq_some_iff.mp hi
      rw [List.getElem_range] at h2
      subst h2
      exact ⟨Go.refl, Rp.int _, oo⟩
theorem di_rng1 {tg : Expr} {x : Str} (hx : x = "range") (hm : X.mg x = none) (ha : DA X C Wx [a] r) (hg : Gl X x := by rfl) (hs : starEach [a] X.env = [(false, eval a X.env)] := by rfl) : DI X C Wx tg (.Call (.Name x p) [a] [] pos) (iRg1 r) := by
  subst hx
  refine ⟨PI_imp (pi_range1 hg hm ha.pa hs) fun σ H Q ⟨M, m, e, ok, rs, q⟩ => tA_bind ok rs q fun vs ws M1 m1 H1 g1 o1 r1 rv q1 => ?_⟩
  split at q1
  · split at q1
    · rename_i hh
      obtain ⟨v, rfl, r2⟩ := rv.one
      cases r2
      exact ⟨_, rfl, hh.1, hh.2, q1.now o1 _ serves_rng⟩
    · exact q1.elim
  · exact q1.elim
/-! ### for -/
def loopF (tg : FG) (body : FS) : List W → FS
  | [], e, m => .nx e m
  | w :: ws, e, m => match tg w e with
    | none => .bad
    | some e1 => match body e1 m with
      | .nx e2 m2 => loopF tg body ws e2 m2
      | .ct e2 m2 => loopF tg body ws e2 m2
      | .bk e2 m2 => .nx e2 m2
      | z => z
def sFor (it : FI) (tg : FG) (body : FS) : FS := fun e m => ofR e (it e m) fun items m1 => loopF tg body items e m1
theorem ds_for {us : List Nat} {tg iter : Expr} {body : List Stmt} {it : FI} {gt : FG} (hp : PassesOwn (model X.prog X.w) X.A X.env X.xe) (hc : X.calm = true) (hi : DI X C Wx tg iter it) (hg : DG X C us tg gt) (hb : DSs X C Wx body s)
    (hs : ∀ x, foldedSetIterable iter X.env x = pure x := by intro _; rfl) : DS X C Wx (.For tg iter body [] pos) (sFor it gt s) := ⟨PS_imp (ps_for hp hc hi.pi hg.pg hb.pss hs) fun D σ H ⟨M, m, e, ok, rs, q⟩ => by
  refine ⟨M, m, e, ok, rs, Post.mono (SPost.ofR rs q) fun items M1 m1 H1 g1 o1 q1 J sv => ?_⟩
  refine ⟨fun i k σ' H' => k = items.length - i ∧ i ≤ items.length ∧ ∃ M' m' e', Go M1 H1 M' H' ∧ Ok C M' m' H' ∧ RS C H' M' σ' e' ∧ SPost C Wx M' H' (loopF gt s (items.drop i) e' m') D, ⟨items.length, rfl, Nat.zero_le _, M1, m1, e, Go.refl, o1, rs.go g1, q1⟩, ?_⟩
  rintro i k σ' H' ⟨rfl, hi', M', m', e', gg, oo, rr, qq⟩
  by_cases hlt : i < items.length
  · rw [List.drop_eq_getElem_cons hlt] at qq
    unfold loopF at qq
    refine .inr ⟨sv.go _ M' H' Hd.refl gg i hlt, fun σ2 H2 => ∃ M2 m2 e2, Go M1 H1 M2 H2 ∧ Ok C M2 m2 H2 ∧ RS C H2 M2 σ2 e2 ∧ SPost C Wx M2 H2 (loopF gt s (items.drop (i + 1)) e2 m2) D, ?_, ?_⟩
    · rintro σ2 H2 ⟨M2, m2, e2, h1, h2, h3, h4⟩
      exact ⟨items.length - (i + 1), by omega, rfl, hlt, M2, m2, e2, h1, h2, h3, h4⟩
    · intro x H2 hy
      obtain ⟨g2, rx, o2⟩ := sv.yld _ M' H' Hd.refl gg i _ (List.getElem?_eq_getElem hlt) x H2 hy _ oo
      refine ⟨M', e', items[i], rr.go g2, rx, ?_⟩
      cases ht : gt items[i] e' with
      | none => rw [ht] at qq; exact qq.elim
      | some e1 =>
        rw [ht] at qq
        simp only at qq ⊢
        intro σ3 r3 _
        refine ⟨M', m', e1, o2, r3, ?_⟩
        cases hb1 : s e1 m' with
        | nx e2 m2 => rw [hb1] at qq; exact fun σ4 M4 H4 g4 o4 r4 => ⟨M4, m2, e2, (gg.trans g2).trans g4, o4, r4, SPost.go (g2.trans g4) qq⟩
        | ct e2 m2 => rw [hb1] at qq; exact fun σ4 M4 H4 g4 o4 r4 => ⟨M4, m2, e2, (gg.trans g2).trans g4, o4, r4, SPost.go (g2.trans g4) qq⟩
        | bk e2 m2 => rw [hb1] at qq; exact fun σ4 M4 H4 g4 o4 r4 => qq σ4 M4 H4 (g2.trans g4) o4 r4
        | rt w m2 => rw [hb1] at qq; exact fun v4 M4 H4 g4 o4 r4 => qq v4 M4 H4 (g2.trans g4) o4 r4
        | rtt w m2 => rw [hb1] at qq; exact fun p4 v4 M4 H4 g4 o4 r4 => qq p4 v4 M4 H4 (g2.trans g4) o4 r4
        | exc x e2 m2 => rw [hb1] at qq; exact fun σ4 M4 H4 g4 o4 r4 => qq σ4 M4 H4 (g2.trans g4) o4 r4
        | bad => rw [hb1] at qq; exact qq.elim
  · have e0 : i = items.length := by omega
    subst e0
    refine .inl ⟨sv.stop _ M' H' Hd.refl gg, ?_⟩
    rw [List.drop_length] at qq
    exact qq.nx_now oo rr⟩
/-! ### list comprehensions -/
def noX {α : Type} : R α → R α
  | .ok x m => .ok x m
  | _ => .bad
abbrev W0 : WX := fun _ _ _ _ => False
theorem Post.noX {α : Type} {M : Ad} {H : Hp} {r : R α} {Ex Ex' : Exn → Sto → Ad → Hp → Prop} {Kk : α → Ad → Sto → Hp → Prop} (q : Post C Ex M H (noX r) Kk) : Post C Ex' M H r Kk := by
  cases r with
  | ok x m => exact q
  | exc x m => exact q.elim
  | bad => exact q.elim
def wipeE (e : Env) : List Nat → Env
  | [] => e
  | v :: vs => (wipeE e vs).set v none
theorem RS.wipe {H : Hp} {M : Ad} {σ : St} {e : Env} (h : RS C H M σ e) : ∀ vs : List Nat, RS C H M (L2.wipe σ vs) (wipeE e vs)
  | [] => h
  | v :: vs => by
    have ih := RS.wipe h vs
    unfold L2.wipe wipeE
    refine ⟨by simp [ih.len], fun i w q => ?_⟩
    by_cases hi : v = i
    · subst hi
      by_cases hl : v < (wipeE e vs).length
      · rw [List.getElem?_set_self hl] at q; cases q
      · rw [List.getElem?_eq_none (by simpa using hl)] at q; cases q
    · rw [List.getElem?_set_ne hi] at q ⊢
      exact ih.at_ i w q
def loopC (tg : FG) (tt : FT) (f : FE) (e : Env) : List W → List PyData → Sto → R (List PyData)
  | [], acc, m => .ok acc m
  | w :: ws, acc, m => match tg w e with
    | none => .bad
    | some e1 => (noX (tt e1 m)).bind fun k m1 => if k then (noX (f e1 m1)).bind fun z m2 => match unW z with
        | some d => if acc.length < sizeLine then loopC tg tt f e ws (acc ++ [d]) m2 else .bad
        | none => .bad
      else loopC tg tt f e ws acc m1
def eLc (vs : List Nat) (it : FI) (tg : FG) (tt : FT) (f : FE) : FE := fun e m => (it e m).bind fun items m1 => (loopC tg tt f (wipeE e vs) items [] m1).bind fun ds m2 => .ok (.d (.list ds)) m2
structure DTs (X : Cx) (C : Ct) (Wx : WX) (ifs : List Expr) (t : FT) : Prop where
  pts : PTs X ifs (tT C Wx t)
theorem PTs_imp {ifs : List Expr} {t t' : TT} (h : PTs X ifs t) (i : ∀ σ H Q, t' σ H Q → t σ H Q) : PTs X ifs t' := ⟨fun pins s σ H Q I q => h.run pins s σ H Q I (i _ _ _ q)⟩
def fYes : FT := fun _ m => .ok true m
theorem dts_nil : DTs X C Wx [] fYes := ⟨PTs_imp pts_nil fun σ H Q ⟨M, m, e, ok, rs, q⟩ => q.now ok⟩
theorem dts_one (h : DT X C Wx a t) : DTs X C Wx [a] t := ⟨pts_one h.pt⟩
def Ad.hide (M : Ad) (D : Addr) : Ad := ⟨M.loc, D :: M.hid⟩
def Ad.show' (M : Ad) : Ad := ⟨M.loc, M.hid.tail⟩
theorem Ad.free_show {M : Ad} {a : Addr} (h : M.free a) : M.show'.free a := ⟨h.1, fun z => h.2 (List.mem_of_mem_tail z)⟩
theorem Ad.showCar {K : PySem.W.Frag} {H : Hp} {M : Ad} : Car K H M H M.show' where
  l := fun a xs h => h.imp (fun z => ⟨z.1, Ad.free_show z.2⟩) id
  t := fun a xs h => ⟨h.1, Ad.free_show h.2⟩
  dk := fun a k h => ⟨h.1, Ad.free_show h.2⟩
  dt := fun a k h => ⟨h.1, Ad.free_show h.2⟩
theorem Rp.shows {K : PySem.W.Frag} {H : Hp} {M : Ad} {d : PyData} {v : V} (h : Rp K H M v d) : Rp K H M.show' v d := h.car Ad.showCar
theorem RpA.shows {K : PySem.W.Frag} {H : Hp} {M : Ad} {ds : List PyData} {vs : List V} (h : RpA K H M vs ds) : RpA K H M.show' vs ds := h.car Ad.showCar
theorem RW.shows {H : Hp} {M : Ad} {v : V} {w : W} (h : RW C H M v w) : RW C H M.show' v w := by
  cases w with
  | d x => exact Rp.shows h
  | loc n => exact h
  | clo j => obtain ⟨f, e, h, h1, h2, h3, h4, n⟩ := h; exact ⟨f, e, h, h1, h2, h3, h4, Ad.free_show n⟩
theorem RWs.shows {H : Hp} {M : Ad} {vs : List V} {ws : List W} (h : RWs C H M vs ws) : RWs C H M.show' vs ws := by
  induction h with
  | nil => exact .nil
  | cons a _ ih => exact .cons a.shows ih
theorem Ok.shows {M : Ad} {m : Sto} {H : Hp} (o : Ok C M m H) : Ok C M.show' m H := ⟨o.tab, o.len, fun n a c e1 e2 => (o.cell n a c e1 e2).map rfl fun _ _ r => r.shows, o.nd, fun a ha => o.hid a (List.mem_of_mem_tail ha), fun a ha z => o.sep a ha (List.mem_of_mem_tail z)⟩
theorem Hd.hide {M : Ad} {H : Hp} {D : Addr} (hD : H D = none) : Hd M H (M.hide D) := ⟨rfl, fun b hb => (List.mem_cons.mp hb).elim (fun z => .inr (by rw [z]; exact hD)) .inl⟩
theorem busy_lst (xs : List V) : Busy (.lst xs) := ⟨fun _ z => (by cases z), fun _ z => (by cases z), fun _ z => (by cases z)⟩
/-- from M at H to the hidden M at the heap with the new list -/
theorem Ok.hides {M : Ad} {m : Sto} {H : Hp} (o : Ok C M m H) {D : Addr} {u : HO} (hD : H D = none) (hu : Busy u) : Ok C (M.hide D) m (upd H D u) := by
  have o2 := o.new (u := u) hD
  refine ⟨o2.tab, o2.len, fun n a c e1 e2 => ?_, o2.nd, fun a ha => ?_, fun a ha z => ?_⟩
  · have k := o.cell n a c e1 e2
    exact (k.map (M' := M.hide D) rfl fun _ _ r => r.weak (Hd.hide hD)).go (Go.new hD) (upd_ne fun z => by rw [z] at k; exact k.any hD)
  · rcases List.mem_cons.mp ha with z | z
    · rw [z]; exact ⟨u, upd_same, hu⟩
    · exact o2.hid a z
  · rcases List.mem_cons.mp z with z | z
    · exact o.there ha (by rw [z]; exact hD)
    · exact o.sep a ha z
/-! a hidden object is written -/
theorem butCar {K : PySem.W.Frag} {H : Hp} {M : Ad} {D : Addr} {u : HO} (hD : D ∈ M.hid) : Car K H M (upd H D u) M where
  l := fun a xs h => h.imp (fun z => ⟨by
    unfold Rd
    rw [upd_ne (fun w => z.2.2 (by rw [w]; exact hD))]
    exact z.1, z.2⟩) id
  t := fun a xs h => ⟨by rw [upd_ne (fun w => h.2.2 (by rw [w]; exact hD))]; exact h.1, h.2⟩
  dk := fun a k h => ⟨by
    unfold Rd
    rw [upd_ne (fun w => h.2.2 (by rw [w]; exact hD))]
    exact h.1, h.2⟩
  dt := fun a k h => ⟨by
    unfold Rd
    rw [upd_ne (fun w => h.2.2 (by rw [w]; exact hD))]
    exact h.1, h.2⟩
theorem Rp.but {K : PySem.W.Frag} {H : Hp} {M : Ad} {D : Addr} {u : HO} (hD : D ∈ M.hid) {d : PyData} {v : V} (h : Rp K H M v d) : Rp K (upd H D u) M v d := h.car (butCar hD)
theorem RpA.but {K : PySem.W.Frag} {H : Hp} {M : Ad} {D : Addr} {u : HO} (hD : D ∈ M.hid) {ds : List PyData} {vs : List V} (h : RpA K H M vs ds) : RpA K (upd H D u) M vs ds := h.car (butCar hD)
theorem RW.but {H : Hp} {M : Ad} {D : Addr} {u : HO} (hD : D ∈ M.hid) {v : V} {w : W} (h : RW C H M v w) : RW C (upd H D u) M v w := by
  cases w with
  | d x => exact Rp.but hD h
  | loc n => exact h
  | clo j => obtain ⟨f, e, h, h1, h2, h3, h4, n⟩ := h; exact ⟨f, e, by rw [upd_ne (fun w => n.2 (by rw [w]; exact hD))]; exact h, h1, h2, h3, h4, n⟩
theorem RWs.but {H : Hp} {M : Ad} {D : Addr} {u : HO} (hD : D ∈ M.hid) {vs : List V} {ws : List W} (h : RWs C H M vs ws) : RWs C (upd H D u) M vs ws := by
  induction h with
  | nil => exact .nil
  | cons a _ ih => exact .cons (a.but hD) ih
theorem Ok.but {M : Ad} {m : Sto} {H : Hp} {D : Addr} {u : HO} (o : Ok C M m H) (hD : D ∈ M.hid) (nD : D ∉ M.loc) (e : ∀ ps, H D ≠ some (.tbl ps)) (hu : Busy u) : Ok C M m (upd H D u) := by
  obtain ⟨ub, eb, bb⟩ := o.hid D hD
  refine ⟨o.tab.step (fun a ps e' => by rw [upd_ne (fun z => by rw [z] at e'; exact e _ e')]; exact e') (fun a φ e' => by rw [upd_ne (fun z => by rw [z, eb] at e'; exact bb.2.2 φ (Option.some.inj e'))]; exact e'), o.len, fun n a c e1 e2 => ?_, o.nd, fun a ha => ?_, o.sep⟩
  · exact (o.cell n a c e1 e2).map (upd_ne fun z => nD (by rw [← z]; exact List.mem_of_getElem? e1)) fun _ _ r => r.but hD
  · by_cases z : a = D
    · rw [z]; exact ⟨u, upd_same, hu⟩
    · rw [upd_ne z]; exact o.hid a ha
theorem wipe_wipe {σ : St} : ∀ vs : List Nat, L2.wipe (L2.wipe σ vs) vs = L2.wipe σ vs := by
  have hl : ∀ (vs : List Nat) (τ : St), (∀ i ∈ vs, τ[i]? = some none ∨ τ[i]? = none) → L2.wipe τ vs = τ := by
    intro vs
    induction vs with
    | nil => intro τ _; rfl
    | cons v vs ih =>
      intro τ h
      unfold L2.wipe
      rw [ih τ fun i hi => h i (List.mem_cons_of_mem _ hi)]
      refine List.ext_getElem? fun j => ?_
      by_cases hj : v = j
      · subst hj
        rcases h v List.mem_cons_self with q | q
        · rw [List.getElem?_set_self (List.getElem?_eq_some_iff.mp q).1, q]
        · rw [q, List.getElem?_eq_none (by simpa using List.getElem?_eq_none_iff.mp q)]
      · rw [List.getElem?_set_ne hj]
  intro vs
  refine hl vs _ fun i hi => ?_
  cases q : (L2.wipe σ vs)[i]? with
  | none => exact .inr rfl
  | some ov =>
    cases ov with
    | none => exact .inl rfl
    | some x => exact absurd hi (wipe_some q).2
theorem tLc_of {vs : List Nat} {it : FI} {gt : FG} {tt : FT} : ∀ σ H Q, tE C Wx (eLc vs it gt tt f) σ H Q → tLc (tI C Wx it) (gD C vs gt) (tT C W0 tt) (tE C W0 f) vs σ H Q := fun σ H Q ⟨M, m, e, ok, rs, q⟩ => by
  refine ⟨M, m, e, ok, rs, Post.mono q.bind fun items M1 m1 H1 g1 o1 q1 J sv D hD => ?_⟩
  have rs1 : RS C H1 M1 σ e := rs.go g1
  have hdD : Hd M1 H1 (M1.hide D) := Hd.hide hD
  generalize hr0 : ((loopC gt tt f (wipeE e vs) items [] m1).bind fun ds m2 => R.ok (W.d (.list ds)) m2) = r0 at q1
  refine ⟨fun i k H' => k = items.length - i ∧ i ≤ items.length ∧ ∃ M' m' us acc, Go (M1.hide D) H1 M' H' ∧ Ok C M' m' H' ∧ D ∉ M'.loc ∧ H' D = some (.lst us) ∧ RpA C.K H' M' us acc ∧
    r0 = ((loopC gt tt f (wipeE e vs) (items.drop i) acc m').bind fun ds m2 => R.ok (W.d (.list ds)) m2),
    ⟨items.length, rfl, Nat.zero_le _, M1.hide D, m1, [], [], ⟨⟨[], by simp, by simp⟩, rfl, fun a u e1 _ _ => ⟨u, by rw [upd_ne (ne_of_none e1 hD)]; exact e1, rfl⟩, fun a e1 => by
      by_cases z : a = D
      · subst z; exact hD
      · rw [upd_ne z] at e1; exact e1, fun a b u e1 => by rw [upd_ne (ne_of_none e1 hD)]; exact e1, fun a _ u e1 _ => by rw [upd_ne (ne_of_none e1 hD)]; exact e1⟩, o1.hides hD (busy_lst []), (o1.free hD).1, upd_same, .nil, hr0.symm⟩, ?_⟩
  rintro i k H' ⟨rfl, hi', M', m', us, acc, gg, oo, nD, eD, ra, er⟩
  have hidD : D ∈ M'.hid := by rw [gg.hid]; exact List.mem_cons_self
  by_cases hlt : i < items.length
  · rw [List.drop_eq_getElem_cons hlt] at er
    unfold loopC at er
    refine .inr ⟨sv.go _ M' H' hdD gg i hlt, fun H2 => ∃ M' m' us acc, Go (M1.hide D) H1 M' H2 ∧ Ok C M' m' H2 ∧ D ∉ M'.loc ∧ H2 D = some (.lst us) ∧ RpA C.K H2 M' us acc ∧
      r0 = ((loopC gt tt f (wipeE e vs) (items.drop (i + 1)) acc m').bind fun ds m2 => R.ok (W.d (.list ds)) m2), fun H2 h => ⟨items.length - (i + 1), by omega, rfl, hlt, h⟩, fun x H2 hy => ?_⟩
    obtain ⟨g2, rx, o2⟩ := sv.yld _ M' H' hdD gg i _ (List.getElem?_eq_getElem hlt) x H2 hy _ oo
    have gg2 := gg.trans g2
    have rw2 : RS C H2 M' (L2.wipe σ vs) (wipeE e vs) := ((rs1.weak hdD).go gg2).wipe vs
    refine ⟨M', wipeE e vs, items[i], rw2, rx, ?_⟩
    cases ht : gt items[i] (wipeE e vs) with
    | none => rw [ht] at er; rw [er] at q1; exact q1.elim
    | some e1 =>
      rw [ht] at er
      simp only at er ⊢
      intro σ3 r3 hw
      refine ⟨hw.trans (wipe_wipe vs), M', m', e1, o2, r3, ?_⟩
      have eD2 : H2 D = some (.lst us) := g2.plain eD nD (plain_lst us)
      cases htt : tt e1 m' with
      | bad => rw [htt] at er; rw [er] at q1; exact q1.elim
      | exc y m2 => rw [htt] at er; rw [er] at q1; exact q1.elim
      | ok b m2 =>
        rw [htt] at er
        intro M3 H3 g3 o3
        have eD3 : H3 D = some (.lst us) := g3.plain eD2 nD (plain_lst us)
        have nD3 := g3.notin eD2 nD
        cases b with
        | false =>
          refine iteF ?_
          exact ⟨M3, m2, us, acc, gg2.trans g3, o3, nD3, eD3, (RpA.go g2 ra).go g3, er⟩
        | true =>
          refine iteT ?_
          simp only [noX, R.bind, if_true] at er
          refine ⟨M3, m2, e1, o3, r3.go g3, ?_⟩
          cases hf : f e1 m2 with
          | bad => rw [hf] at er; rw [er] at q1; exact q1.elim
          | exc y m3 => rw [hf] at er; rw [er] at q1; exact q1.elim
          | ok z m3 =>
            rw [hf] at er
            intro M4 H4 g4 o4 y ry
            simp only [noX, R.bind] at er
            cases hz : unW z with
            | none => rw [hz] at er; rw [er] at q1; exact q1.elim
            | some d =>
              rw [hz] at er
              simp only at er
              by_cases hs : acc.length < sizeLine
              · rw [if_pos hs] at er
                have ed : z = .d d := by
                  cases z with
                  | d x => cases hz; rfl
                  | loc n => cases hz
                  | clo j => cases hz
                subst ed
                have eD4 : H4 D = some (.lst us) := g4.plain eD3 nD3 (plain_lst us)
                have nD4 := g4.notin eD3 nD3
                have g14 := (gg2.trans g3).trans g4
                have hid4 : D ∈ M4.hid := by rw [g14.hid]; exact List.mem_cons_self
                have ra4 : RpA C.K H4 M4 us acc := ((RpA.go g2 ra).go g3).go g4
                refine ⟨us, eD4, by rw [ra4.len]; exact hs, M4, m3, us ++ [y], acc ++ [d], ⟨g14.ext, g14.hid, fun a u e1 e2 e3 => by rw [upd_ne (ne_of_none e1 hD)]; exact g14.st a u e1 e2 e3, fun a e1 => ?_, fun a b u e1 => by rw [upd_ne (ne_of_none e1 hD)]; exact g14.lk a b u e1, fun a ha u e1 t => by rw [upd_ne (ne_of_none e1 hD)]; exact g14.hd a ha u e1 t⟩, o4.but hid4 nD4 (fun ps z => by rw [eD4] at z; cases z) (busy_lst _), nD4, upd_same, ?_, er⟩
                · by_cases z : a = D
                  · subst z; exact hD
                  · rw [upd_ne z] at e1; exact g14.dom a e1
                · exact (ra4.app (.cons ry .nil)).but hid4
              · rw [if_neg hs] at er; rw [er] at q1; exact q1.elim
  · have e0 : i = items.length := by omega
    subst e0
    rw [List.drop_length] at er
    refine .inl ⟨sv.stop _ M' H' hdD gg, ?_⟩
    have er' : r0 = .ok (.d (.list acc)) m' := er
    rw [er'] at q1
    have hsh : M'.show' = ⟨M'.loc, M1.hid⟩ := by
      unfold Ad.show'
      rw [gg.hid]
      rfl
    have gs : Go M1 H1 M'.show' H' := by
      rw [hsh]
      exact ⟨gg.ext, rfl, gg.st, gg.dom, gg.lk, fun a ha => gg.hd a (List.mem_cons_of_mem _ ha)⟩
    exact q1 _ _ gs oo.shows (.ref D) (Rp.lst (.inl ⟨.inl eD, nD, by
      rw [hsh]
      exact (o1.free hD).2⟩) (RpA.shows ra))
theorem de_lc {tg elt iter : Expr} {ifs : List Expr} {scope : Scope} {own : List (Str × Nat)} {it : FI} {gt : FG} {tt : FT} (hc : X.calm = true) (hN : X.N.Nodup) (hi : DI X C Wx tg iter it) (ok : blkC X.N X.env.scope scope own = true)
    (hg : ∀ (s : Shared) (H : Hp) (Ca : Addr) (cl : List (Str × Addr)) (fp : List Addr), DG (X.blk s H scope (compEnvC scope cl Ca X.env) fp) C (own.map (·.2)) tg gt) (ht : ∀ (s : Shared) (H : Hp) (Ca : Addr) (cl : List (Str × Addr)) (fp : List Addr), DTs (X.blk s H scope (compEnvC scope cl Ca X.env) fp) C W0 ifs tt)
    (he : ∀ (s : Shared) (H : Hp) (Ca : Addr) (cl : List (Str × Addr)) (fp : List Addr), DE (X.blk s H scope (compEnvC scope cl Ca X.env) fp) C W0 elt f) (hs : ∀ x, foldedSetIterable iter X.env x = pure x := by intro _; rfl) :
    DE X C Wx (.ListComp elt [⟨tg, iter, ifs, 0⟩] scope pos) (eLc (own.map (·.2)) it gt tt f) :=
  ⟨PE_imp (pe_lc hc hN hi.pi (blkOk_by ok) (fun s H Ca cl fp => (hg s H Ca cl fp).pg) (fun s H Ca cl fp => (ht s H Ca cl fp).pts) (fun s H Ca cl fp => (he s H Ca cl fp).pe) hs) tLc_of⟩
theorem ds_lc (i : Nat) {y : Str} {py spos : Pos} {tg elt iter : Expr} {ifs : List Expr} {scope : Scope} {own : List (Str × Nat)} {it : FI} {gt : FG} {tt : FT} (hc : X.calm = true) (hN : X.N.Nodup) (hi : DI X C Wx tg iter it) (ok : blkC X.N X.env.scope scope own = true)
    (hg : ∀ (s : Shared) (H : Hp) (Ca : Addr) (cl : List (Str × Addr)) (fp : List Addr), DG (X.blk s H scope (compEnvC scope cl Ca X.env) fp) C (own.map (·.2)) tg gt) (ht : ∀ (s : Shared) (H : Hp) (Ca : Addr) (cl : List (Str × Addr)) (fp : List Addr), DTs (X.blk s H scope (compEnvC scope cl Ca X.env) fp) C W0 ifs tt)
    (he : ∀ (s : Shared) (H : Hp) (Ca : Addr) (cl : List (Str × Addr)) (fp : List Addr), DE (X.blk s H scope (compEnvC scope cl Ca X.env) fp) C W0 elt f)
    (hsw : swapsWith (.ListComp elt [⟨tg, iter, ifs, 0⟩] scope pos) (some (.Name y py)) spos.line X.env = pure true) (hy : X.N[i]? = some y := by rfl) (hyl : X.env.scope.names.lookup y = some .local := by rfl) (hs : ∀ x, foldedSetIterable iter X.env x = pure x := by intro _; rfl) :
    DS X C Wx (.Assign [.Name y py] (.ListComp elt [⟨tg, iter, ifs, 0⟩] scope pos) spos) (sSet i (eLc (own.map (·.2)) it gt tt f)) :=
  ds_set_of (ps_setLc hc hN hy hyl hsw hi.pi (blkOk_by ok) (fun s H Ca cl fp => (hg s H Ca cl fp).pg) (fun s H Ca cl fp => (ht s H Ca cl fp).pts) (fun s H Ca cl fp => (he s H Ca cl fp).pe) hs) tLc_of
end
end Pd

set_option Elab.async false
set_option linter.all false
set_option maxRecDepth 100000
set_option maxHeartbeats 2000000
namespace Pd
open PySem PySem.Spec PyProof.Rows L2
/-! ### generator expressions within any, all -/
/-- the generator's own scope -/
structure GenOk (N : List Str) (sc scope : Scope) (own : List (Str × Nat)) : Prop where
  blk : BlkOk N sc scope own
  co : scope.isCoroutine = false
  cell : ∀ y ∈ scope.names, y.2 ≠ .cell
  dot : scope.names.lookup (".0" : Str) = some NameKind.local
abbrev Cx.gen (X : Cx) (Ag : Around) (s : Shared) (H : Hp) (cenv : PySem.Env) (fp : List Addr) : Cx := { X with A := Ag, s_0 := s, H_0 := H, env := cenv, outer := X.stack, stack := cenv :: X.stack, ex := fp, fn := fun _ => false, pn := [], xe := fun _ _ => False }
theorem Inv_gens {X : Cx} {pins : List (Addr × Obj)} {σ : St} {H : Hp} {s : Shared} {g' : Array GenState} (I : Inv X pins σ H s) (hg : AllBare g') : Inv X pins σ H { s with gens := g' } :=
  ⟨I.ok, I.os, hg, I.base, I.loc, I.cell, I.free, I.freeC, I.pin, I.hok, I.len⟩
section
variable {X : Cx} {pins : List (Addr × Obj)} {σ : St} {H : Hp} {s : Shared}
theorem gen_start {scope : Scope} {own : List (Str × Nat)} {fp : List Addr} {Ag : Around} {code : Value} {h' : Heap} {it : Value} {gs : Array GenState} {tk : Nat} {og : Obj} (I : Inv X pins σ H s) (ok : GenOk X.N X.env.scope scope own) (hN : X.N.Nodup) (hfp : ∀ b ∈ fp, FpOk X pins H b ∧ b < s.heap.objs.size)
    (hA : Ag.handled = X.A.handled) (hfr : Ag.frames = some (genEnv scope (cloFrom X.env.cells scope.names []) s.heap.objs.size code builtinsNs X.env :: X.stack)) (hg : AllBare gs)
    (hn' : h'.Ns s.heap.objs.size (fun y => if y = ".0" then some it else none)) (hs' : Heap.SameBut s.heap.objs.size (s.heap.push { cls := .type "frame", data := .dict #[] }) h') (hdot : (".0" : Str) ∉ X.N) (hog : og.isFreed = false) (hdat : ∀ v, og.data ≠ .cell v) :
    Inv (Cx.gen X Ag s H (genEnv scope (cloFrom X.env.cells scope.names []) s.heap.objs.size code builtinsNs X.env) fp) [(h'.objs.size, og)] (wipe σ (own.map (·.2))) H { s with gens := gs, toks := tk, heap := h'.push og } := by
  have hfree : ∀ y ∈ scope.names, y.2 = .free → ∃ c, X.env.cells.lookup y.1 = some c := fun y hy e => by
    rcases ok.blk.free y hy e with k | k
    · exact I.ok.has _ (.inl k)
    · exact I.ok.has _ (.inr k)
  have hsz : h'.objs.size = s.heap.objs.size + 1 := by rw [hs'.1, Heap.size_push]
  have kp : ∀ b o, s.heap.get? b = some o → (h'.push og).get? b = some o := fun b o e => Heap.get?_push_of_some _ (hs'.extBut b o (Nat.ne_of_lt (Heap.lt_size e)) (Heap.get?_push_of_some _ e))
  generalize hcenv : genEnv scope (cloFrom X.env.cells scope.names []) s.heap.objs.size code builtinsNs X.env = cenv
  have hL : cenv.locals = s.heap.objs.size := by rw [← hcenv]; rfl
  have hcl : cenv.cells = cloFrom X.env.cells scope.names [] := by rw [← hcenv]; rfl
  have hsc : cenv.scope = scope := by rw [← hcenv]; rfl
  have hf0 : cenv.frame = some cenv.locals := by rw [← hcenv]; rfl
  have cm : ∀ {y c}, (y, c) ∈ cloFrom X.env.cells scope.names [] → (y, NameKind.free) ∈ scope.names ∧ X.env.cells.lookup y = some c ∧ c < s.heap.objs.size := fun {y c} hm => by
    rcases cloFrom_mem hm with hm | ⟨h1, rfl⟩
    · cases hm
    · obtain ⟨c, hc⟩ := hfree _ h1 rfl
      rw [hc]
      obtain ⟨w, z⟩ := I.cell _ _ hc
      exact ⟨h1, rfl, z.lt⟩
  have mem : ∀ {y c}, cenv.cells.lookup y = some c → (y, NameKind.free) ∈ scope.names ∧ X.env.cells.lookup y = some c ∧ c < s.heap.objs.size := fun {y c} e => by
    rw [hcl] at e
    exact cm (PySem.mem_of_lookup e)
  have look : ∀ {y}, (y, NameKind.free) ∈ scope.names → ∃ c, cenv.cells.lookup y = some c ∧ X.env.cells.lookup y = some c := fun {y} hy => by
    obtain ⟨c', e'⟩ := mem_lookup (cloFrom_has (cells := X.env.cells) (acc := []) hy)
    exact ⟨c', by rw [hcl]; exact e', (cm (PySem.mem_of_lookup e')).2.1⟩
  have okB : (Cx.gen X Ag s H cenv fp).Ok := by
    refine ⟨I.ok.mod, by show cenv.scope.kind = _; rw [hsc]; exact ok.blk.kind, by show cenv.globals = _; rw [← hcenv]; exact I.ok.glob, by show cenv.builtins = _; rw [← hcenv]; rfl, by show s.heap.objs.size ≤ cenv.locals; rw [hL]; exact Nat.le_refl _,
      fun y z c e1 e2 => I.ok.inj y z c (mem e1).2.1 (mem e2).2.1, fun y hy => ?_, fun y c z e => (by cases z), fun hc => hA.trans (I.ok.hd hc), (by rw [hcenv] at hfr; exact hfr), .inr ⟨rfl, hf0⟩, fun b hb => ⟨?_, fun y c e z => ?_⟩, I.bs, Nat.le_trans I.ok.bsz I.sz, fun b o e hb => ?_, fun b hb z => ?_, I.stack, I.stkFree⟩
    · show ∃ c, cenv.cells.lookup y = some c
      rcases hy with hy | hy
      · have hy' : scope.names.lookup y = some .cell := by
          have : cenv.scope.names.lookup y = some .cell := hy
          rw [hsc] at this; exact this
        exact absurd rfl (ok.cell _ (PySem.mem_of_lookup hy'))
      · have hy' : scope.names.lookup y = some .free := by
          have : cenv.scope.names.lookup y = some .free := hy
          rw [hsc] at this; exact this
        obtain ⟨c, h1, _⟩ := look (PySem.mem_of_lookup hy')
        exact ⟨c, h1⟩
    · show b ≠ cenv.locals
      rw [hL]; exact Nat.ne_of_lt (hfp b hb).2
    · exact (hfp b hb).1.2.2.2.2.1 y c (mem e).2.1 z
    · rcases (hfp b hb).1.2.2.2.1 with z | z
      · exact I.ok.noex b o e z
      · exact absurd (Nat.lt_of_lt_of_le (Heap.lt_size e) (Nat.le_trans I.ok.bsz z)) (Nat.lt_irrefl _)
    · rcases List.mem_cons.mp (I.stkSub b z) with z | z
      · exact (hfp b hb).1.2.1 z
      · exact (hfp b hb).1.2.2.1 z
  refine ⟨okB, rfl, hg, Un.kept kp, ⟨(fun y => if y = ".0" then some it else none), ?_, fun i y av e1 e2 e3 => ?_⟩, fun y c e => ?_, ?_, fun y c e => I.freeC y c (mem e).2.1, fun p hp => ?_, I.hok.kept kp, by rw [wipe_length]; exact I.len⟩
  · show Heap.Ns _ cenv.locals _
    rw [hL]
    exact hn'.push _
  · obtain ⟨e2, hne⟩ := wipe_some e2
    have e3 : Vis cenv.scope y := e3
    rw [hsc] at e3
    have hfr' : scope.names.lookup y = some .free := by
      have no : ∀ k, scope.names.lookup y = some k → ¬ (k = .local ∨ k = .cell) := fun k e hh => by
        rcases ok.blk.own _ (PySem.mem_of_lookup e) hh with e' | e'
        · obtain ⟨p, hp, hpy⟩ := List.mem_map.mp e'
          have e3 := ok.blk.ix p hp
          have : p.1 = y := hpy
          rw [this] at e3
          exact hne (List.mem_map.mpr ⟨p, hp, nodup_ix hN e3 e1⟩)
        · exact e' (List.mem_of_getElem? e1)
      rcases e3 with e3 | e3 | e3
      · exact absurd (.inl rfl) (no _ e3)
      · exact absurd (.inr rfl) (no _ e3)
      · exact e3
    obtain ⟨m, hn, hl⟩ := I.loc
    have hvis : Vis X.env.scope y := (ok.blk.free _ (PySem.mem_of_lookup hfr') rfl).elim (fun k => .inr (.inl k)) (fun k => .inr (.inr k))
    obtain ⟨w, r, q⟩ := hl i y av e1 e2 hvis
    refine ⟨w, r, .inr ⟨.inr (by show cenv.scope.names.lookup y = _; rw [hsc]; exact hfr'), ?_⟩⟩
    obtain ⟨c, h1, h2⟩ := look (PySem.mem_of_lookup hfr')
    rcases q with ⟨k, _⟩ | ⟨_, c', e', z⟩
    · have k : X.env.scope.names.lookup y = some .local := k
      rcases ok.blk.free _ (PySem.mem_of_lookup hfr') rfl with k' | k' <;> rw [show X.env.scope.names.lookup y = _ from k'] at k <;> cases k
    · rw [h2] at e'; cases e'
      exact ⟨c, h1, z.keeps kp⟩
  · obtain ⟨w, z⟩ := I.cell y c (mem e).2.1
    exact ⟨w, z.keeps kp⟩
  · show H cenv.locals = none
    rw [hL]; exact I.hok.fresh (Nat.le_refl _)
  · have e : p = (h'.objs.size, og) := by simpa using hp
    subst e
    refine ⟨Heap.get?_push_size _ hog, I.hok.fresh (by rw [hsz]; exact Nat.le_succ _), ?_, ?_, hdat⟩
    · show h'.objs.size ≠ cenv.locals
      rw [hL, hsz]; exact Nat.succ_ne_self _
    · intro hb
      have hb : h'.objs.size ∈ frs X.stack := hb
      obtain ⟨_, o, ho, _⟩ := I.stack.mem hb
      exact absurd (Heap.lt_size ho) (by rw [hsz]; exact Nat.not_lt.mpr (Nat.le_succ _))
end

/-- any (k0 = false), all (k0 = true): from the left, as far as needed -/
def loopQ (k0 : Bool) (tg : FG) (f : FE) (e : Env) : List W → Sto → R Bool
  | [], m => .ok k0 m
  | w :: ws, m => match tg w e with
    | none => .bad
    | some e1 => (noX (f e1 m)).bind fun z m1 => (toB z m1).bind fun k m2 => if k = k0 then loopQ k0 tg f e ws m2 else .ok k m2
def eQ (k0 : Bool) (vs : List Nat) (it : FI) (tg : FG) (f : FE) : FE := fun e m => (it e m).bind fun items m1 => (loopQ k0 tg f (wipeE e vs) items m1).bind fun b m2 => .ok (.d (.bool b)) m2
section
variable {X : Cx} {C : Ct}
/-- the generator before turn j; at an end -/
structure GM (Y : Cx) (C : Ct) (σw : St) (pins : List (Addr × Obj)) (gI : Nat) (tn : Nat → Heap → Prop) (fp : List Addr) (M1 : Ad) (H1 : Hp) (j : Nat) (rest : Sto → Prop) (s : Shared) : Prop where
  ex : ∃ H' M' m', Inv Y pins σw H' s ∧ tn j s.heap ∧ (∀ b ∈ fp, H' b = none) ∧ gI < s.gens.size ∧ Go M1 H1 M' H' ∧ Ok C M' m' H' ∧ rest m'
structure GF (Y : Cx) (C : Ct) (pins : List (Addr × Obj)) (gI : Nat) (M1 : Ad) (H1 : Hp) (fin : Sto → Prop) (s : Shared) : Prop where
  ex : ∃ H' M' m' σw, Inv Y pins σw H' s ∧ gI < s.gens.size ∧ Go M1 H1 M' H' ∧ Ok C M' m' H' ∧ fin m'
theorem gen_loop {tg elt iter : Expr} {scope : Scope} {pos : Pos} {it : Addr} {cenv : PySem.Env} {A1 : Around} {s5 : Shared} {H5 H1 : Hp} {fp : List Addr} {J : It} {tn : Nat → Heap → Prop} {gt : FG} {f : FE} {items : List W} {k0 : Bool} {r0 : R Bool} {ew : Env} {σ1 : St} {M1 : Ad} {vs : List Nat} {pins : List (Addr × Obj)} {gI : Nat}
    (hc : X.calm = true) (T : Turn X.prog X.w X.K tg J fp it tn) (hco : cenv.scope.isCoroutine = false) (sv : Serves C M1 H1 J items) (rs1 : RS C H1 M1 σ1 ew)
    (hg : DG (Cx.gen X (A1.over (.compLoop (.GeneratorExp elt [⟨tg, iter, [], 0⟩] scope pos) 0 (.ref it) .none cenv) []) s5 H5 cenv fp) C vs tg gt)
    (he : DE (Cx.gen X (A1.over (.compLoop (.GeneratorExp elt [⟨tg, iter, [], 0⟩] scope pos) 0 (.ref it) .none cenv) []) s5 H5 cenv fp) C W0 elt f) (hw : L2.wipe σ1 vs = σ1) (hpin : ∀ b ∈ fp, ∀ p ∈ pins, p.1 ≠ b) (hb : r0 ≠ .bad) (hx : ∀ x m, r0 ≠ .exc x m) :
    ∀ (k j : Nat) (s₀ s : Shared), items.length - j = k → j ≤ items.length →
      GM (Cx.gen X (A1.over (.compLoop (.GeneratorExp elt [⟨tg, iter, [], 0⟩] scope pos) 0 (.ref it) .none cenv) []) s5 H5 cenv fp) C σ1 pins gI tn fp M1 H1 j (fun m' => r0 = loopQ k0 gt f ew (items.drop j) m') s →
      Seg (model X.prog X.w) A1 (fun n s₀ r s₁ => r = .ok .next ∧ GF (Cx.gen X (A1.over (.compLoop (.GeneratorExp elt [⟨tg, iter, [], 0⟩] scope pos) 0 (.ref it) .none cenv) []) s5 H5 cenv fp) C pins gI M1 H1 (fun m' => r0 = .ok k0 m') s₁)
        (fun m s₀ v s kap => ∃ j b, j < items.length ∧ m + j = items.length ∧ v = .bool b ∧ (b ≠ k0 → GF (Cx.gen X (A1.over (.compLoop (.GeneratorExp elt [⟨tg, iter, [], 0⟩] scope pos) 0 (.ref it) .none cenv) []) s5 H5 cenv fp) C pins gI M1 H1 (fun m' => r0 = .ok b m') s) ∧
          (b = k0 → GM (Cx.gen X (A1.over (.compLoop (.GeneratorExp elt [⟨tg, iter, [], 0⟩] scope pos) 0 (.ref it) .none cenv) []) s5 H5 cenv fp) C σ1 pins gI tn fp M1 H1 (j + 1) (fun m' => r0 = loopQ k0 gt f ew (items.drop (j + 1)) m') s) ∧
          ∀ s'', GM (Cx.gen X (A1.over (.compLoop (.GeneratorExp elt [⟨tg, iter, [], 0⟩] scope pos) 0 (.ref it) .none cenv) []) s5 H5 cenv fp) C σ1 pins gI tn fp M1 H1 (j + 1) (fun m' => r0 = loopQ k0 gt f ew (items.drop (j + 1)) m') s'' → kap (.send .none) s'')
        (items.length + 1 - j) s₀ (.compLoop (.GeneratorExp elt [⟨tg, iter, [], 0⟩] scope pos) 0 (.ref it) .none cenv)
        ((model X.prog X.w).den (.compLoop (.GeneratorExp elt [⟨tg, iter, [], 0⟩] scope pos) 0 (.ref it) .none cenv)) [] s := by
  generalize hY : Cx.gen X (A1.over (.compLoop (.GeneratorExp elt [⟨tg, iter, [], 0⟩] scope pos) 0 (.ref it) .none cenv) []) s5 H5 cenv fp = Y at hg he ⊢
  have YA : Y.A = A1.over (.compLoop (.GeneratorExp elt [⟨tg, iter, [], 0⟩] scope pos) 0 (.ref it) .none cenv) [] := by rw [← hY]
  have Yp : Y.prog = X.prog := by rw [← hY]
  have Yw : Y.w = X.w := by rw [← hY]
  have YK : Y.K = X.K := by rw [← hY]
  have Yc : Y.calm = true := by rw [← hY]; exact hc
  have Ye : Y.env = cenv := by rw [← hY]
  have Yx : Y.xe = fun _ _ => False := by rw [← hY]
  have Yex : Y.ex = fp := by rw [← hY]
  have Ypn : Y.pn = [] := by rw [← hY]
  have stat : ∀ {σ' : St} {H' : Hp} {s' : Shared} {ps : List (Addr × Obj)}, Inv Y ps σ' H' s' → (∀ b ∈ fp, ∀ p ∈ ps, p.1 ≠ b) → (∀ b ∈ fp, H' b = none) → ∀ b ∈ fp, FpOk Y ps H' b := fun {σ' H' s' ps} I' hp hn b hb =>
    ⟨hn b hb, (I'.ok.exf b (by rw [Yex]; exact hb)).1, I'.ok.exfs b (by rw [Yex]; exact hb), .inl (by rw [Yex]; exact hb), fun x c e => (I'.ok.exf b (by rw [Yex]; exact hb)).2 x c e, fun p hp' => hp b hb p (by rw [Ypn] at hp'; simpa using hp')⟩
  intro k
  induction k with
  | zero =>
    intro j s₀ s hk hj hG
    have hjn : j = items.length := by omega
    subst hjn
    obtain ⟨H', M', m', I, st, nf, hgs, gg, oo, er⟩ := hG.ex
    show Seg _ A1 _ _ _ s₀ _ ((compTurn (.GeneratorExp elt [⟨tg, iter, [], 0⟩] scope pos) 0 (.ref it) .none cenv).onRaise (leaving cenv)) [] s
    rw [compTurn_gen, Sem.onRaise_eq_wrap]
    refine seg_bind_wrap (wpAny_standAt ?_)
    have td := T.done Y Yp Yw YK Yc items.length pins s σ1 H' (fun _ _ => False) I (stat I hpin nf) st (sv.stop _ M' H' Hd.refl gg)
    rw [YA] at td
    refine seg_bind_wrap (GenW.wpAny_gsz hgs (thnF td fun r s1 hr hgs1 => ?_))
    obtain ⟨rfl, I1⟩ := hr
    rw [List.drop_length] at er
    exact seg_end (.ok .next) ⟨rfl, ⟨H', M', m', σ1, I1, hgs1, gg, oo, er⟩⟩
  | succ k ih =>
    intro j s₀ s hk hj hG
    have hlt : j < items.length := by omega
    obtain ⟨H', M', m', I, st, nf, hgs, gg, oo, er⟩ := hG.ex
    have en : items.length + 1 - j = (items.length + 1 - (j + 1)) + 1 := by omega
    rw [en]
    show Seg _ A1 _ _ _ s₀ _ ((compTurn (.GeneratorExp elt [⟨tg, iter, [], 0⟩] scope pos) 0 (.ref it) .none cenv).onRaise (leaving cenv)) [] s
    rw [compTurn_gen, Sem.onRaise_eq_wrap]
    refine seg_bind_wrap (wpAny_standAt ?_)
    have ti := T.item Y Yp Yw YK Yc j pins s σ1 H' (fun _ _ => False) I (stat I hpin nf) st (sv.go _ M' H' Hd.refl gg j hlt)
    rw [YA] at ti
    refine seg_bind_wrap (GenW.wpAny_gsz hgs (thnF ti fun r s1 hr hgs1 => ?_))
    obtain ⟨u, rfl, h1⟩ := hr
    refine seg_bind_wrap (GenW.wpAny_gsz hgs1 (thnF h1 fun _ s2 h2 hgs2 => ?_))
    obtain ⟨x, H2, I2, rx, hy, st2, nf2⟩ := h2
    obtain ⟨g2, rw2, o2⟩ := sv.yld _ M' H' Hd.refl gg j _ (List.getElem?_eq_getElem hlt) x H2 hy _ oo
    have I2' := I2.pinned (stat I2 hpin nf2) (T.obj _ _ st2)
    rw [List.drop_eq_getElem_cons hlt] at er
    unfold loopQ at er
    have gg2 := gg.trans g2
    cases ht : gt items[j] ew with
    | none => rw [ht] at er; exact absurd er hb
    | some e1 =>
      rw [ht] at er
      simp only at er
      have hasg := hg.pg.run _ s2 σ1 H2 x u (fun σ3 H3 => H3 = H2 ∧ RS C H2 M' σ3 e1 ∧ L2.wipe σ3 vs = L2.wipe σ1 vs) I2' rx ⟨M', ew, items[j], rs1.go gg2, rw2, by rw [ht]; exact fun σ' r' hw' => ⟨rfl, r', hw'⟩⟩
      rw [Yp, Yw, YA, Ye, Yx] at hasg
      refine seg_bind_wrap (GenW.wpAny_gsz hgs2 (thnF hasg fun _ s3 h3 hgs3 => ?_))
      obtain ⟨σ3, H3, I3, rfl, r3, hw3⟩ := h3
      have tst : ∀ (Q : Bool → Shared → Prop) (E : Value → Shared → Prop), Q true s3 → wpAny (model X.prog X.w) (A1.over (.compLoop (.GeneratorExp elt [⟨tg, iter, [], 0⟩] scope pos) 0 (.ref it) .none cenv) []) (forIn ([] : List Expr) true fun c r => if r = true then do let ok ← isTrue c cenv (eval c cenv); pure (ForInStep.yield ok) else pure (ForInStep.yield r)) Q E s3 := fun Q E q => by
        simp only [List.forIn_nil]
        exact wpAny_pure q
      refine seg_bind_wrap (tst _ _ ?_)
      simp only [if_true]
      have hy' : ∀ v, yieldOut cenv v = yieldValue v := fun v => by simp only [yieldOut, hco, Bool.false_eq_true, if_false]
      simp only [hy']
      rw [Sem.bind_eq_wrap', Sem.bind_eq_wrap', Sem.wrap_wrap, Sem.wrap_wrap]
      cases hf : f e1 m' with
      | bad => rw [hf] at er; exact absurd er hb
      | exc y m3 => rw [hf] at er; exact absurd er hb
      | ok z m3 =>
        rw [hf] at er
        simp only [noX, R.bind] at er
        have hel := he.pe.run _ s3 σ3 H3 (fun y H4 => ∃ M4, Go M' H3 M4 H4 ∧ Ok C M4 m3 H4 ∧ RW C H4 M4 y z) I3 ⟨M', m', e1, o2, r3, by
          rw [hf]
          exact fun M4 H4 g4 o4 v rv => ⟨M4, g4, o4, rv⟩⟩
        rw [Yp, Yw, YA, Ye, Yx] at hel
        refine seg_wrap (GenW.wpAny_gsz hgs3 (thnF hel fun v s4 h4 hgs4 => ?_))
        obtain ⟨y, H4, I4, ry, M4, g4, o4, rz⟩ := h4
        cases hz : toB z m3 with
        | bad => rw [hz] at er; exact absurd er hb
        | exc y m4 => rw [hz] at er; exact absurd er (hx y m4)
        | ok b m4 =>
          rw [hz] at er
          simp only at er
          have ezb : z = .d (.bool b) ∧ m4 = m3 := by
            unfold toB at hz
            split at hz
            · cases hz; exact ⟨rfl, rfl⟩
            · cases hz
          obtain ⟨rfl, rfl⟩ := ezb
          cases rz
          cases ry
          have tn4 : tn (j + 1) s4.heap := T.keep _ _ _ st2 fun b hb o e => (I4.pin (b, o) (List.mem_append_right _ (List.mem_append_right _ (mem_pinsAt hb e)))).1
          have nf4 : ∀ b ∈ fp, H4 b = none := fun b hb => by
            obtain ⟨o, e, _⟩ := T.obj _ _ st2 b hb
            exact (I4.pin (b, o) (List.mem_append_right _ (List.mem_append_right _ (mem_pinsAt hb e)))).2.1
          have I5 : Inv Y pins σ3 H4 s4 := I4.unpinned
          have hl : σ1.length = σ3.length := by rw [← hw, ← hw3, wipe_length]
          have I6 : Inv Y pins σ1 H4 s4 := I5.weak hl fun i v e => by
            rw [← hw, ← hw3] at e
            exact (wipe_some e).1
          have nextG : b = k0 → GM Y C σ1 pins gI tn fp M1 H1 (j + 1) (fun m' => r0 = loopQ k0 gt f ew (items.drop (j + 1)) m') s4 := fun e => by
            rw [if_pos e] at er
            exact ⟨H4, M4, m4, I6, tn4, nf4, hgs4, gg2.trans g4, o4, er⟩
          refine seg_at (seg_yield rfl rfl rfl ⟨j, b, hlt, by omega, rfl, fun e => ?_, nextG, fun s'' hG' => ?_⟩)
          · rw [if_neg e] at er
            exact ⟨H4, M4, m4, σ1, I6, hgs4, gg2.trans g4, o4, er⟩
          · exact seg_again rfl (ih (j + 1) s'' s'' (by omega) hlt hG')
end
end Pd

set_option Elab.async false
set_option linter.all false
set_option maxRecDepth 100000
set_option maxHeartbeats 2000000
namespace Pd
open PySem PySem.Spec PyProof.Rows L2
theorem bare_set {gs : Array GenState} {g : Nat} {x : GenState} (h : AllBare gs) (hx : x.bare = true) : AllBare (gs.setIfInBounds g x) := fun y hy => by
  obtain ⟨i, hi, rfl⟩ := Array.mem_iff_getElem.mp hy
  have hi' : i < gs.size := by simpa using hi
  rw [Array.getElem_setIfInBounds hi']
  split
  · exact hx
  · exact h _ (Array.getElem_mem hi')
theorem Serves.later {C : Ct} {M : Ad} {H H' : Hp} {J : It} {items : List W} (sv : Serves C M H J items) (hk : ∀ a o, H a = some o → (∀ ps, o ≠ .tbl ps) → H' a = some o) (hd : ∀ a, H' a = none → H a = none) : Serves C M H' J items := by
  have key : ∀ M0, Hd M H' M0 → Hd M H M0 := fun M0 h => ⟨h.1, fun b hb => (h.2 b hb).imp id (hd b)⟩
  have gg : ∀ M0 : Ad, Go M0 H M0 H' := fun M0 => ⟨⟨[], by simp, by simp⟩, rfl, fun a o e _ t => ⟨o, hk a o e t, rfl⟩, hd, fun a b u e => hk a _ e (fun _ z => (by cases z)), fun a _ o e t => hk a o e t⟩
  exact ⟨fun M0 M' H2 h g i hi => sv.go M0 M' H2 (key M0 h) ((gg M0).trans g) i hi, fun M0 M' H2 h g => sv.stop M0 M' H2 (key M0 h) ((gg M0).trans g), fun M0 M' H2 h g i w hw x H3 hy m' oo => sv.yld M0 M' H2 (key M0 h) ((gg M0).trans g) i w hw x H3 hy m' oo⟩
theorem loopQ_noexc {k0 : Bool} {tg : FG} {f : FE} {e : Env} : ∀ {ws : List W} {m : Sto} {x : Exn} {m' : Sto}, loopQ k0 tg f e ws m ≠ .exc x m'
  | [], m, x, m' => by unfold loopQ; exact fun h => nomatch h
  | w :: ws, m, x, m' => by
    unfold loopQ
    cases tg w e with
    | none => exact fun h => nomatch h
    | some e1 =>
      simp only
      cases f e1 m with
      | bad => exact fun h => nomatch h
      | exc y m1 => exact fun h => nomatch h
      | ok z m1 =>
        simp only [noX, R.bind]
        cases hz : toB z m1 with
        | bad => exact fun h => nomatch h
        | exc y m2 =>
          unfold toB at hz
          split at hz <;> cases hz
        | ok k m2 =>
          simp only
          by_cases hk : k = k0
          · rw [if_pos hk]; exact loopQ_noexc
          · rw [if_neg hk]; exact fun h => nomatch h
section
variable {Y : Cx} {C : Ct} {σw : St} {pins : List (Addr × Obj)} {gI : Nat} {tn : Nat → Heap → Prop} {fp : List Addr} {M1 : Ad} {H1 : Hp} {j : Nat} {rest : Sto → Prop} {s : Shared}
theorem GM.gens {g' : Array GenState} (h : GM Y C σw pins gI tn fp M1 H1 j rest s) (hb : AllBare g') (hl : gI < g'.size) : GM Y C σw pins gI tn fp M1 H1 j rest { s with gens := g' } := by
  obtain ⟨H', M', m', I, a, b, _, c, d, e⟩ := h.ex
  exact ⟨H', M', m', Inv_gens I hb, a, b, hl, c, d, e⟩
theorem GM.bare (h : GM Y C σw pins gI tn fp M1 H1 j rest s) : AllBare s.gens := let ⟨_, _, _, I, _⟩ := h.ex; I.bare
theorem GM.gl (h : GM Y C σw pins gI tn fp M1 H1 j rest s) : gI < s.gens.size := let ⟨_, _, _, _, _, _, l, _⟩ := h.ex; l
theorem GF.gens {g' : Array GenState} (h : GF Y C pins gI M1 H1 rest s) (hb : AllBare g') (hl : gI < g'.size) : GF Y C pins gI M1 H1 rest { s with gens := g' } := by
  obtain ⟨H', M', m', σw, I, _, c, d, e⟩ := h.ex
  exact ⟨H', M', m', σw, Inv_gens I hb, hl, c, d, e⟩
theorem GF.bare (h : GF Y C pins gI M1 H1 rest s) : AllBare s.gens := let ⟨_, _, _, _, I, _⟩ := h.ex; I.bare
theorem GF.kept {h' : Heap} (h : GF Y C pins gI M1 H1 rest s) (k : ∀ b o, s.heap.get? b = some o → h'.get? b = some o) : GF Y C pins gI M1 H1 rest { s with heap := h' } := by
  obtain ⟨H', M', m', σw, I, l, c, d, e⟩ := h.ex
  exact ⟨H', M', m', σw, I.kept (t' := s.toks) k, l, c, d, e⟩
end
section
variable {prog : Program} {w : World} {A : Around} {Y : Cx} {C : Ct} {σw : St} {gI : Nat} {tn : Nat → Heap → Prop} {fp : List Addr} {M1 : Ad} {H1 : Hp} {a : Addr} {og : Obj} {n : Nat} {k0 : Bool} {rest : Nat → Sto → Prop} {fin : Bool → Sto → Prop}
theorem quant_step (hh : A.handled = none) (hroom : A.depth < recursionLimit) (hog : ∃ nm qn, og.cls = .type "generator" ∧ og.data = .fields #[.int gI 0, nm, qn] ∧ og.slots = #[]) {R : Result → Shared → Prop} {lid : String} (hid : lid = if k0 then "all.loop" else "any.loop")
    (hR : ∀ b s, GF Y C [(a, og)] gI M1 H1 (fin b) s → R (.ok (.ret (.bool b))) s) (j : Nat) (s : Shared) (hj : j ≤ n) (hG : GM Y C σw [(a, og)] gI tn fp M1 H1 j (rest j) s)
    (hgs : ∃ gs, s.gens[gI]? = some gs ∧ ∀ s'', GM Y C σw [(a, og)] gI tn fp M1 H1 j (rest j) s'' → gs.Goes (model prog w) A.in1.in1
        (fun n s₀ r s₁ => r = .ok .next ∧ GF Y C [(a, og)] gI M1 H1 (fin k0) s₁)
        (fun m s₀ v s kap => ∃ j b, j < n ∧ m + j = n ∧ v = .bool b ∧ (b ≠ k0 → GF Y C [(a, og)] gI M1 H1 (fin b) s) ∧ (b = k0 → GM Y C σw [(a, og)] gI tn fp M1 H1 (j + 1) (rest (j + 1)) s) ∧
          ∀ s'', GM Y C σw [(a, og)] gI tn fp M1 H1 (j + 1) (rest (j + 1)) s'' → kap (.send .none) s'') (n + 1 - j) (.send .none) s'')
    (ih : j < n → ∀ s, GM Y C σw [(a, og)] gI tn fp M1 H1 (j + 1) (rest (j + 1)) s → (∃ gs, s.gens[gI]? = some gs ∧ ∀ s'', GM Y C σw [(a, og)] gI tn fp M1 H1 (j + 1) (rest (j + 1)) s'' → gs.Goes (model prog w) A.in1.in1
        (fun n s₀ r s₁ => r = .ok .next ∧ GF Y C [(a, og)] gI M1 H1 (fin k0) s₁)
        (fun m s₀ v s kap => ∃ j b, j < n ∧ m + j = n ∧ v = .bool b ∧ (b ≠ k0 → GF Y C [(a, og)] gI M1 H1 (fin b) s) ∧ (b = k0 → GM Y C σw [(a, og)] gI tn fp M1 H1 (j + 1) (rest (j + 1)) s) ∧
          ∀ s'', GM Y C σw [(a, og)] gI tn fp M1 H1 (j + 1) (rest (j + 1)) s'' → kap (.send .none) s'') (n + 1 - (j + 1)) (.send .none) s'') →
      codeAny (model prog w) A (.builtin lid ⟨[.ref a], []⟩) R s) :
    codeAny (model prog w) A (.builtin lid ⟨[.ref a], []⟩) R s := by
    obtain ⟨gs, hg1, hgo⟩ := hgs
    have step : wpAny (model prog w) A.in1 (pyNext (.ref a)) (fun r s' => (r = none ∧ GF Y C [(a, og)] gI M1 H1 (fin k0) s') ∨ ∃ b, r = some (.bool b) ∧ (b ≠ k0 → GF Y C [(a, og)] gI M1 H1 (fin b) s') ∧ (b = k0 → codeAny (model prog w) A (.builtin lid ⟨[.ref a], []⟩) R s')) (fun e s' => R (.error e) s') s := by
      obtain ⟨H', M', m', I, _⟩ := id hG.ex
      obtain ⟨nm, qn, h1, h2, h3⟩ := hog
      have en : n + 1 - j = (n - j) + 1 := by omega
      rw [en] at hgo
      refine wpAny_pyNext_genexpQ (A := A.in1) (P := fun _ _ s₁ => GF Y C [(a, og)] gI M1 H1 (fin k0) s₁) hh I.nolimit hroom ⟨og, nm, qn, (I.pin (a, og) (by simp)).1, h1, h2, h3⟩ hg1 (hgo _ (hG.gens (bare_set hG.bare rfl) (by rw [Array.size_setIfInBounds]; exact hG.gl))) (fun v s₁ gs' hb hv => ?_) (fun s₁ hF h' hk => ?_)
      · obtain ⟨j', b, hl', e, rfl, hF, hM, hkap⟩ := hv
        have ej : j' = j := by omega
        subst ej
        refine .inr ⟨b, rfl, fun hne => ?_, fun he => ?_⟩
        · have hF := hF hne
          obtain ⟨_, _, _, _, _, hl, _⟩ := hF.ex
          exact GF.gens hF (bare_set hF.bare hb) (by rw [Array.size_setIfInBounds]; exact hl)
        · have hM := hM he
          refine ih hl' _ (hM.gens (bare_set hM.bare hb) (by rw [Array.size_setIfInBounds]; exact hM.gl)) ⟨gs', ?_, fun s'' h'' => ?_⟩
          · show (s₁.gens.setIfInBounds gI gs')[gI]? = some gs'
            simp [hM.gl]
          · have := hkap s'' h''
            rw [show n + 1 - (j' + 1) = n - j' by omega]
            exact this
      · obtain ⟨_, _, _, _, _, hl, _⟩ := hF.ex
        exact .inl ⟨rfl, (GF.gens hF (bare_set hF.bare rfl) (by rw [Array.size_setIfInBounds]; exact hl)).kept hk⟩
    cases k0 with
    | true =>
      have elid : lid = "all.loop" := by rw [hid]; rfl
      subst elid
      refine codeAny_builtin F.entry_all_loop ?_
      rw [Around.under_plainId F.plain_all_loop _]
      show wpAny _ A.in1 (pyNext (.ref a) >>= _) _ _ s
      refine wpAny_bind (wpAny_mono step (fun r s' hr => ?_) fun _ _ e => e)
      rcases hr with ⟨rfl, hF⟩ | ⟨b, rfl, hF, hM⟩
      · exact wpAny_bind (wpAny_rule (wpAny_pure (hR _ _ hF)))
      refine wpAny_bind (wpAny_holding (wpAny_truthy_bool ?_))
      refine wpAny_bind (wpAny_letGo ?_)
      cases b with
      | true =>
        simp only [if_true]
        exact wpAny_pure ⟨plainId_quiet F.plain_all_loop _, hM rfl⟩
      | false =>
        simp only [Bool.false_eq_true, if_false]
        exact wpAny_bind (wpAny_rule (wpAny_pure (hR _ _ (hF (by decide)))))
    | false =>
      have elid : lid = "any.loop" := by rw [hid]; rfl
      subst elid
      refine codeAny_builtin F.entry_any_loop ?_
      rw [Around.under_plainId F.plain_any_loop _]
      show wpAny _ A.in1 (pyNext (.ref a) >>= _) _ _ s
      refine wpAny_bind (wpAny_mono step (fun r s' hr => ?_) fun _ _ e => e)
      rcases hr with ⟨rfl, hF⟩ | ⟨b, rfl, hF, hM⟩
      · exact wpAny_bind (wpAny_rule (wpAny_pure (hR _ _ hF)))
      refine wpAny_bind (wpAny_holding (wpAny_truthy_bool ?_))
      refine wpAny_bind (wpAny_letGo ?_)
      cases b with
      | false =>
        simp only [Bool.false_eq_true, if_false]
        exact wpAny_pure ⟨plainId_quiet F.plain_any_loop _, hM rfl⟩
      | true =>
        simp only [if_true]
        exact wpAny_bind (wpAny_rule (wpAny_pure (hR _ _ (hF (by decide)))))
/-- the loop of all, any over the generator at a -/
theorem quant_loop (hh : A.handled = none) (hroom : A.depth < recursionLimit) (hog : ∃ nm qn, og.cls = .type "generator" ∧ og.data = .fields #[.int gI 0, nm, qn] ∧ og.slots = #[]) {R : Result → Shared → Prop} {lid : String} (hid : lid = if k0 then "all.loop" else "any.loop")
    (hR : ∀ b s, GF Y C [(a, og)] gI M1 H1 (fin b) s → R (.ok (.ret (.bool b))) s) :
    ∀ (k j : Nat) (s : Shared), n - j = k → j ≤ n → GM Y C σw [(a, og)] gI tn fp M1 H1 j (rest j) s →
      (∃ gs, s.gens[gI]? = some gs ∧ ∀ s'', GM Y C σw [(a, og)] gI tn fp M1 H1 j (rest j) s'' → gs.Goes (model prog w) A.in1.in1
        (fun n s₀ r s₁ => r = .ok .next ∧ GF Y C [(a, og)] gI M1 H1 (fin k0) s₁)
        (fun m s₀ v s kap => ∃ j b, j < n ∧ m + j = n ∧ v = .bool b ∧ (b ≠ k0 → GF Y C [(a, og)] gI M1 H1 (fin b) s) ∧ (b = k0 → GM Y C σw [(a, og)] gI tn fp M1 H1 (j + 1) (rest (j + 1)) s) ∧
          ∀ s'', GM Y C σw [(a, og)] gI tn fp M1 H1 (j + 1) (rest (j + 1)) s'' → kap (.send .none) s'') (n + 1 - j) (.send .none) s'') →
      codeAny (model prog w) A (.builtin lid ⟨[.ref a], []⟩) R s := by
  intro k
  induction k with
  | zero =>
    intro j s hk hj hG hgs
    have hjn : j = n := by omega
    subst hjn
    refine quant_step hh hroom hog hid hR j s (Nat.le_refl _) hG hgs fun h => absurd h (Nat.lt_irrefl _)
  | succ k ih =>
    intro j s hk hj hG hgs
    exact quant_step hh hroom hog hid hR j s hj hG hgs fun hlt s2 => ih (j + 1) s2 (by omega) hlt
end
end Pd

set_option Elab.async false
set_option linter.all false
set_option maxRecDepth 100000
set_option maxHeartbeats 2000000
namespace Pd
open PySem PySem.Spec PyProof.Rows L2
theorem Ok.tab_out {C : Ct} {M : Ad} {m : Sto} {H : Hp} (o : Ok C M m H) {P : Addr} {ps : Array Value} (hP : H P = some (.tbl ps)) : P ∉ M.loc := fun z => by
  obtain ⟨n, hn, e⟩ := List.mem_iff_getElem.mp z
  have e1 : M.loc[n]? = some P := by rw [List.getElem?_eq_getElem hn, e]
  have hm : n < m.length := by rw [← o.len]; exact hn
  exact (o.cell n P m[n] e1 (List.getElem?_eq_getElem hm)).ntbl ps hP
theorem go_tab {C : Ct} {M : Ad} {m : Sto} {H : Hp} (o : Ok C M m H) {P : Addr} {ps qs : Array Value} (hP : H P = some (.tbl ps)) : Go M H M (upd H P (.tbl qs)) :=
  ⟨⟨[], by simp, by simp⟩, rfl, fun a u e _ t => by
    have : a ≠ P := fun z => by subst z; rw [hP] at e; cases e; exact t _ rfl
    exact ⟨u, by rw [upd_ne this]; exact e, rfl⟩, fun a e => by
    by_cases z : a = P
    · subst z; rw [upd_same] at e; cases e
    · rw [upd_ne z] at e; exact e, fun a b u e => by
    have : a ≠ P := fun z => by subst z; rw [hP] at e; cases e
    rw [upd_ne this]; exact e, fun a _ u e t => by
    have : a ≠ P := fun z => by subst z; rw [hP] at e; cases e; exact t _ rfl
    rw [upd_ne this]; exact e⟩
theorem Ok.tab_in {C : Ct} {M : Ad} {m : Sto} {H : Hp} (o : Ok C M m H) {P : Addr} {ps qs : Array Value} (hP : H P = some (.tbl ps)) (hq : TriplesOk qs.toList) (hPT : P ∈ C.T) : Ok C M m (upd H P (.tbl qs)) :=
  o.mo (go_tab o hP) (fun a ha => upd_ne fun z => o.tab_out hP (z ▸ ha)) ⟨fun Q hQ => by
    by_cases z : Q = P
    · subst z; exact ⟨qs, upd_same, hq⟩
    · obtain ⟨rs, h1, h2⟩ := o.tab.1 Q hQ
      exact ⟨rs, by rw [upd_ne z]; exact h1, h2⟩, fun p hp => tabS_step (o.tab.2 p hp) (fun ps' e => by rw [upd_ne (fun z => C.sp p hp (by rw [z]; exact hPT))]; exact e) fun a φ e => by rw [upd_ne (fun z => by rw [z, hP] at e; cases e)]; exact e⟩
def genC (N : List Str) (sc scope : Scope) (own : List (Str × Nat)) : Bool :=
  blkC N sc scope own && !scope.isCoroutine && (scope.names.all fun y => match y.2 with | .cell => false | _ => true) && decide (scope.names.lookup (".0" : Str) = some NameKind.local) && decide ((".0" : Str) ∉ N)
theorem genOk_dot {N : List Str} {sc scope : Scope} {own : List (Str × Nat)} (h : genC N sc scope own = true) : (".0" : Str) ∉ N := by
  unfold genC at h
  rw [Bool.and_eq_true] at h
  exact of_decide_eq_true h.2
theorem genOk_by {N : List Str} {sc scope : Scope} {own : List (Str × Nat)} (h : genC N sc scope own = true) : GenOk N sc scope own := by
  unfold genC at h
  simp only [Bool.and_eq_true, List.all_eq_true, decide_eq_true_eq, Bool.not_eq_true'] at h
  obtain ⟨⟨⟨⟨h1, h2⟩, h3⟩, h4⟩, _⟩ := h
  exact ⟨blkOk_by h1, h2, fun y hy e => by have := h3 y hy; rw [e] at this; exact absurd this (by decide), h4⟩
theorem Room.gen {k : Nat} {A : Around} (r : Room (k + 1) A) {c : Code} (h1 : c.weight = 1) (h2 : c.cUnits ≤ 8) : Room k (A.in1.in1.over c []) :=
  ⟨r.hd, by
    have := r.dp
    show A.depth + frameCount [] + c.weight + 3 * k + 5 < _
    rw [h1, show frameCount [] = 0 from rfl]; omega, by
    have := r.un
    show A.units + 1 + 1 + unitsOf [] + c.cUnits + 16 * k + 200 < _
    rw [show unitsOf [] = 0 from rfl]; omega⟩
section
variable {X : Cx} {C : Ct} {Wx : WX} {f : FE}
theorem de_quant {nm : Str} {k0 : Bool} {c P : Addr} {tg elt iter : Expr} {scope : Scope} {own : List (Str × Nat)} {it : FI} {gt : FG} {p pos gpos : Pos} {k : Nat}
    (hc : X.calm = true) (hr : Room (k + 1) X.A) (hN : X.N.Nodup) (hnm : nm = if k0 then "all" else "any") (hg : Gl X nm) (hm : X.mg nm = none) (TB : GxR.TabB X.base X.mg c P) (hcode : X.env.code = .ref c) (hPT : P ∈ C.T)
    (hi : DI X C Wx tg iter it) (ok : genC X.N X.env.scope scope own = true)
    (hgt : ∀ (Ag : Around) (s : Shared) (H : Hp) (cl : List (Str × Addr)) (L : Addr) (code : Value) (fp : List Addr), Room k Ag → DG (Cx.gen X Ag s H (genEnv scope cl L code builtinsNs X.env) fp) C (own.map (·.2)) tg gt)
    (he : ∀ (Ag : Around) (s : Shared) (H : Hp) (cl : List (Str × Addr)) (L : Addr) (code : Value) (fp : List Addr), Room k Ag → DE (Cx.gen X Ag s H (genEnv scope cl L code builtinsNs X.env) fp) C W0 elt f)
    (hs : ∀ x, genFold iter X.env x = pure x := by intro _; rfl)
    (hst : starEach [.GeneratorExp elt [⟨tg, iter, [], 0⟩] scope gpos] X.env = (false, eval (.GeneratorExp elt [⟨tg, iter, [], 0⟩] scope gpos) X.env) :: starEach [] X.env := by rfl) :
    DE X C Wx (.Call (.Name nm p) [.GeneratorExp elt [⟨tg, iter, [], 0⟩] scope gpos] [] pos) (eQ k0 (own.map (·.2)) it gt f) := by
  have GO := genOk_by ok
  have hdot := genOk_dot ok
  refine ⟨⟨fun pins s σ H Q I ⟨M, m, e, o0, rs, q⟩ => ?_⟩⟩
  have hboot : ∃ id, bootBuiltins nm = some (.builtin id) ∧ id = if k0 then "all" else "any" := by
    cases k0 with
    | true => rw [hnm]; exact ⟨"all", boot_all, rfl⟩
    | false => rw [hnm]; exact ⟨"any", boot_any, rfl⟩
  obtain ⟨id, hb, hid⟩ := hboot
  have hn1 : nm ≠ "__name__" := by rw [hnm]; cases k0 <;> decide
  have hn2 : (nm == ("__debug__" : Str)) = false := by rw [hnm]; cases k0 <;> decide
  refine wpAny_Call_Name_kw (ld_blt I hg hm hb ?_ hn1 hn2)
  refine PyProof.Rows.callWith_builtin1 ?_ hst (by rfl)
  rw [hst]
  show wpAny _ _ (spliced ((false, eval (.GeneratorExp elt [⟨tg, iter, [], 0⟩] scope gpos) X.env) :: backTo pos (starEach [] X.env))) _ _ s
  refine Calls.spliced_cons ?_
  have hfree : ∀ y ∈ scope.names, y.2 = .free → ∃ c, X.env.cells.lookup y.1 = some c := fun y hy e => by
    rcases GO.blk.free y hy e with k | k
    · exact I.ok.has _ (.inl k)
    · exact I.ok.has _ (.inr k)
  refine wpAny_GeneratorExp_make GO.co (closure_ok hfree) GO.cell GO.dot GO.blk.kind (by have := hr.dp; omega) ?_ hs
  refine thn (hi.pi.run pins s σ H (fun J H1 => ∃ items M1 m1, Serves C M1 H1 J items ∧ Ok C M1 m1 H1 ∧ RS C H1 M1 σ e ∧
    Post C (ExW C Wx σ) M1 H1 ((loopQ k0 gt f (wipeE e (own.map (·.2))) items m1).bind fun b m2 => .ok (.d (.bool b)) m2) fun w M' m' H' => ∀ v, RW C H' M' v w → Q v H') I ⟨M, m, e, o0, rs, Post.mono q.bind fun items M1 m1 H1 g1 o1 q1 J sv => ⟨items, M1, m1, sv, o1, rs.go g1, q1⟩⟩) fun xv s1 h1 => ?_
  refine thn h1 fun itv s2 ⟨ita, fp, tn, J, H1, eit, I1, T, t0, hfp, items, M1, m1, sv, o1, rs1, q1⟩ => ?_
  subst eit
  refine ⟨I1.nolimit, ?_⟩
  obtain ⟨ps, hP, ht⟩ := o1.tab.1 P hPT
  have hPs : s2.heap.get? P = some { cls := .none, data := .fields ps } := I1.hok P _ hP
  have cd : PySem.W.CodeHd s2.heap c P := TB.code.keeps fun b u e => I1.bk b u e
  have cont : ∀ (code : Value) (h3 : Heap) (tk : Nat) (ps' : Array Value), Heap.ExtBut P s2.heap h3 → s2.heap.objs.size ≤ h3.objs.size → h3.get? P = some { cls := .none, data := .fields ps' } → (∃ more, ps' = ps ++ more) → TriplesOk ps'.toList →
      wpAny (model X.prog X.w) X.A (builtinsFor X.env.globals X.env.builtins) (fun bi s₄ => ∀ h', h'.Ns s₄.heap.objs.size (fun y => if y = ".0" then some (.ref ita) else none) → Heap.SameBut s₄.heap.objs.size (s₄.heap.push { cls := .type "frame", data := .dict #[] }) h' →
          wpAny (model X.prog X.w) X.A (spliced (backTo pos (starEach [] X.env))) (fun vs s₂ => wpAny (model X.prog X.w) X.A (call (.builtin id) (Value.ref h'.objs.size :: vs)) (EP X pins σ Q) X.xe s₂) X.xe { s₄ with
            gens := s₄.gens.push (.fresh (.compStart (.GeneratorExp elt [⟨tg, iter, [], 0⟩] scope gpos) 0 (.ref ita) .none (genEnv scope (cloFrom X.env.cells scope.names []) s₄.heap.objs.size code bi X.env))),
            toks := s₄.toks + 1 + 1 + 1,
            heap := h'.push { cls := .type "generator", data := .fields #[.int s₄.gens.size 0, .str "<genexpr>" (s₄.toks + 1), .str (X.env.qual ++ "<genexpr>") (s₄.toks + 1 + 1)] } }) X.xe { s2 with heap := h3, toks := tk } := by
    intro code h3 tk ps' hx hsz hP3 hmore ht3
    obtain ⟨more, rfl⟩ := hmore
    obtain ⟨bm, ob, e1, e2, e3, e4, e5, e6, e7, e8⟩ := TB.bm
    have keep3 : ∀ b u, b ≠ P → s2.heap.get? b = some u → h3.get? b = some u := fun b u hb e => hx b u hb e
    refine wpAny_builtinsFor (m := X.mg) (by rw [I1.ok.glob]; exact (I1.mod.glob.keeps I1.bk).extBut hx TB.gP) e1 e2 (keep3 _ _ e4 (I1.bk _ _ e5)) e6 e7 e8 ?_
    intro h' hn' hs'
    refine Calls.spliced_nil ?_
    have I2 : Inv X pins σ (upd H1 P (.tbl (ps ++ more))) { s2 with heap := h3, toks := tk } := GxR.inv_tab (more := more) (h' := h3) (g' := s2.gens) (d' := s2.drawn) (t' := tk) I1 hP keep3 hP3 I1.bare
    have o2 := o1.tab_in hP ht3 hPT
    have g2 : Go M1 H1 M1 (upd H1 P (.tbl (ps ++ more))) := go_tab o1 hP
    have sv2 := sv.later (H' := upd H1 P (.tbl (ps ++ more))) (fun a o e t => by
      have : a ≠ P := fun z => by subst z; rw [hP] at e; cases e; exact t _ rfl
      rw [upd_ne this]; exact e) g2.dom
    generalize hH2 : upd H1 P (.tbl (ps ++ more)) = H2 at I2 o2 g2 sv2
    have nfp : ∀ b ∈ fp, b ≠ P := fun b hb z => by
      have := (hfp b hb).1
      rw [z, hP] at this
      cases this
    have fp2 : ∀ b ∈ fp, FpOk X pins H2 b ∧ b < h3.objs.size := fun b hb => ⟨⟨by rw [← hH2, upd_ne (nfp b hb)]; exact (hfp b hb).1, (hfp b hb).2⟩, by
      obtain ⟨o, ho, _⟩ := T.obj _ _ t0 b hb
      exact Nat.lt_of_lt_of_le (Heap.lt_size ho) hsz⟩
    have hsz2 : h'.objs.size = h3.objs.size + 1 := by rw [hs'.1, Heap.size_push]
    have kp : ∀ b o, h3.get? b = some o → ∀ og : Obj, (h'.push og).get? b = some o := fun b o e og => Heap.get?_push_of_some _ (hs'.extBut b o (Nat.ne_of_lt (Heap.lt_size e)) (Heap.get?_push_of_some _ e))
    generalize hog : ({ cls := .type "generator", data := .fields #[.int s2.gens.size 0, .str "<genexpr>" (tk + 1), .str (X.env.qual ++ "<genexpr>") (tk + 1 + 1)] } : Obj) = og
    have hogF : og.isFreed = false := by rw [← hog]; rfl
    have hogD : ∀ v, og.data ≠ .cell v := fun v z => by rw [← hog] at z; cases z
    have hogG : ∃ nm qn, og.cls = .type "generator" ∧ og.data = .fields #[.int s2.gens.size 0, nm, qn] ∧ og.slots = #[] := by rw [← hog]; exact ⟨_, _, rfl, rfl, rfl⟩
    generalize hcenv : genEnv scope (cloFrom X.env.cells scope.names []) h3.objs.size code builtinsNs X.env = cenv
    generalize hAg : X.A.in1.in1.over (.compLoop (.GeneratorExp elt [⟨tg, iter, [], 0⟩] scope gpos) 0 (.ref ita) .none cenv) [] = Ag
    have hAgr : Room k Ag := by rw [← hAg]; exact Room.gen hr rfl (Nat.le_of_ble_eq_true rfl)
    have hAgh : Ag.handled = X.A.handled := by rw [← hAg]; rfl
    have hAgf : Ag.frames = some (cenv :: X.stack) := by
      rw [← hAg]
      show pushEnvs [cenv] (pushEnvs [] X.A.frames) = _
      rw [I.ok.frames]
      rfl
    generalize hgs : s2.gens.push (.fresh (.compStart (.GeneratorExp elt [⟨tg, iter, [], 0⟩] scope gpos) 0 (.ref ita) .none cenv)) = gs
    have gsB : AllBare gs := by rw [← hgs]; exact I1.bare.push rfl
    have gsL : s2.gens.size < gs.size := by rw [← hgs, Array.size_push]; exact Nat.lt_succ_self _
    have gsG : gs[s2.gens.size]? = some (.fresh (.compStart (.GeneratorExp elt [⟨tg, iter, [], 0⟩] scope gpos) 0 (.ref ita) .none cenv)) := by rw [← hgs]; simp
    have I3 := gen_start (own := own) (fp := fp) (Ag := Ag) (code := code) (gs := gs) (tk := tk + 1 + 1 + 1) (og := og) I2 GO hN fp2 hAgh (by rw [hcenv]; exact hAgf) gsB hn' hs' hdot hogF hogD
    rw [hcenv] at I3
    have sz5 : h3.objs.size ≠ h'.objs.size := by rw [hsz2]; omega
    have fpog : ∀ b ∈ fp, ∀ pp ∈ [(h'.objs.size, og)], pp.1 ≠ b := fun b hb pp hp z => by
      have e : pp = (h'.objs.size, og) := by simpa using hp
      rw [e] at z
      have := (fp2 b hb).2
      rw [← z, hsz2] at this
      exact absurd this (Nat.not_lt.mpr (Nat.le_succ _))
    have t5 : tn 0 (h'.push og) := T.keep _ _ _ t0 fun b hb o e => kp b o (keep3 b o (nfp b hb) e) og
    have rs3 : RS C H2 M1 (L2.wipe σ (own.map (·.2))) (wipeE e (own.map (·.2))) := (rs1.go g2).wipe _
    generalize hew : wipeE e (own.map (·.2)) = ew at q1 rs3
    generalize hr0 : loopQ k0 gt f ew items m1 = r0 at q1
    have hb0 : r0 ≠ .bad := fun z => by rw [z] at q1; exact q1
    have hx0 : ∀ x m, r0 ≠ .exc x m := fun x m z => loopQ_noexc (hr0.trans z)
    have G0 : ∀ s'', s'' = ({ s2 with gens := gs, toks := tk + 1 + 1 + 1, heap := h'.push og } : Shared) → GM (Cx.gen X Ag { s2 with heap := h3, toks := tk } H2 cenv fp) C (L2.wipe σ (own.map (·.2))) [(h'.objs.size, og)] s2.gens.size tn fp M1 H2 0 (fun m' => r0 = loopQ k0 gt f ew (items.drop 0) m') s'' := fun s'' z => by
      subst z
      exact ⟨H2, M1, m1, I3, t5, fun b hb => (fp2 b hb).1.1, gsL, Go.refl, o2, hr0.symm⟩
    have back : ∀ b s'', GF (Cx.gen X Ag { s2 with heap := h3, toks := tk } H2 cenv fp) C [(h'.objs.size, og)] s2.gens.size M1 H2 (fun m' => r0 = .ok b m') s'' → EP X pins σ Q (.bool b) s'' := fun b s'' hF => by
      obtain ⟨H', M', m', σw, J5, gl, g5, o5, er⟩ := hF.ex
      rw [er] at q1
      have J6 : Inv X pins σ H' s'' := Inv.call' (ch := fp) I2 J5.os J5.base J5.hok J5.bare fun b hb => ⟨(fp2 b hb).1.2.2.2.1, (fp2 b hb).1.2.1, (fp2 b hb).1.2.2.2.2.1, (fp2 b hb).1.2.2.2.2.2⟩
      exact ⟨.bl b, H', J6, rfl, q1 M' H' (g2.trans g5) o5 _ (Rp.bl b)⟩
    have loop : ∀ s₀ s'', GM (Cx.gen X Ag { s2 with heap := h3, toks := tk } H2 cenv fp) C (L2.wipe σ (own.map (·.2))) [(h'.objs.size, og)] s2.gens.size tn fp M1 H2 0 (fun m' => r0 = loopQ k0 gt f ew (items.drop 0) m') s'' → _ := fun s₀ s'' hG =>
      gen_loop (A1 := X.A.in1.in1) (s5 := { s2 with heap := h3, toks := tk }) (H5 := H2) (r0 := r0) (ew := ew) (σ1 := L2.wipe σ (own.map (·.2))) (gI := s2.gens.size) (k0 := k0) (f := f) (gt := gt) (pins := [(h'.objs.size, og)]) (iter := iter) (pos := gpos) (scope := scope) hc T (cenv := cenv) (by rw [← hcenv]; exact GO.co) sv2 rs3
        (by rw [hAg]; rw [← hcenv]; exact hgt _ _ _ _ _ _ _ hAgr) (by rw [hAg]; rw [← hcenv]; exact he _ _ _ _ _ _ _ hAgr) (wipe_wipe _) fpog hb0 hx0 items.length 0 s₀ s'' rfl (Nat.zero_le _) (by rw [hAg]; exact hG)
    have start : ∀ s'', GM (Cx.gen X Ag { s2 with heap := h3, toks := tk } H2 cenv fp) C (L2.wipe σ (own.map (·.2))) [(h'.objs.size, og)] s2.gens.size tn fp M1 H2 0 (fun m' => r0 = loopQ k0 gt f ew (items.drop 0) m') s'' →
        GenState.Goes (model X.prog X.w) X.A.in1.in1 (fun n s₀ r s₁ => r = .ok .next ∧ GF (Cx.gen X Ag { s2 with heap := h3, toks := tk } H2 cenv fp) C [(h'.objs.size, og)] s2.gens.size M1 H2 (fun m' => r0 = .ok k0 m') s₁)
          (fun m s₀ v s kap => ∃ j b, j < items.length ∧ m + j = items.length ∧ v = .bool b ∧ (b ≠ k0 → GF (Cx.gen X Ag { s2 with heap := h3, toks := tk } H2 cenv fp) C [(h'.objs.size, og)] s2.gens.size M1 H2 (fun m' => r0 = .ok b m') s) ∧
            (b = k0 → GM (Cx.gen X Ag { s2 with heap := h3, toks := tk } H2 cenv fp) C (L2.wipe σ (own.map (·.2))) [(h'.objs.size, og)] s2.gens.size tn fp M1 H2 (j + 1) (fun m' => r0 = loopQ k0 gt f ew (items.drop (j + 1)) m') s) ∧
            ∀ s'', GM (Cx.gen X Ag { s2 with heap := h3, toks := tk } H2 cenv fp) C (L2.wipe σ (own.map (·.2))) [(h'.objs.size, og)] s2.gens.size tn fp M1 H2 (j + 1) (fun m' => r0 = loopQ k0 gt f ew (items.drop (j + 1)) m') s'' → kap (.send .none) s'')
          (items.length + 1 - 0) (.fresh (.compStart (.GeneratorExp elt [⟨tg, iter, [], 0⟩] scope gpos) 0 (.ref ita) .none cenv)) (.send .none) s'' := fun s'' hG => by
      have L := loop s'' s'' hG
      rw [hAg] at L
      obtain ⟨_, _, _, _, t6, _⟩ := hG.ex
      refine ⟨rfl, ?_⟩
      show Seg _ X.A.in1.in1 _ _ _ s'' _ ((compStart (.GeneratorExp elt [⟨tg, iter, [], 0⟩] scope gpos) 0 (.ref ita) .none cenv).onRaise (leaving cenv)) [] s''
      unfold compStart
      rw [Sem.onRaise_eq_wrap]
      show Seg _ X.A.in1.in1 _ _ _ s'' _ ((ask >>= _).wrap _ _ _ _) [] s''
      refine seg_bind_wrap (wpAny_askSetting ?_)
      split
      · exact seg_again rfl L
      · refine seg_bind_wrap (wpAny_rule ?_)
        show Seg _ X.A.in1.in1 _ _ _ s'' _ ((standAt iter.pos >>= _).wrap _ _ _ _) [] s''
        exact seg_bind_wrap (wpAny_standAt (seg_bind_wrap (T.self _ 0 s'' _ _ t6 (seg_again rfl L))))
    have ql : ∀ lid, lid = (if k0 then "all.loop" else "any.loop") → codeAny (model X.prog X.w) X.A (.builtin lid ⟨[.ref h'.objs.size], []⟩) (fun r s' => match r with | .ok (.ret v) => EP X pins σ Q v s' | .ok _ => False | .error e => X.xe e s') { s2 with gens := gs, toks := tk + 1 + 1 + 1, heap := h'.push og } := fun lid hl =>
      quant_loop (A := X.A) (a := h'.objs.size) (og := og) (n := items.length) (k0 := k0) (rest := fun j m' => r0 = loopQ k0 gt f ew (items.drop j) m') (fin := fun b m' => r0 = .ok b m') hr.hd (by have := hr.dp; omega) hogG hl (fun b s h => back b s h) items.length 0 _ rfl (Nat.zero_le _) (G0 _ rfl) ⟨_, gsG, start⟩
    have isg : (h'.push og).IsGen h'.objs.size s2.gens.size := by
      obtain ⟨nm, qn, h1, h2, h3⟩ := hogG
      exact ⟨og, nm, qn, Heap.get?_push_size _ hogF, h1, h2, h3⟩
    cases k0 with
    | true =>
      have eid : id = "all" := by rw [hid]; rfl
      subst eid
      refine call_function_tree F.kind_all F.plain_all F.entry_all (F.args_all1 _) ?_
      unfold Builtin.«all»
      refine wpAny_bind (m := oneArg "all" _) (wpAny_pure ?_)
      refine wpAny_bind (wpAny_pyIter_gen isg ?_)
      exact wpAny_pure ⟨plainId_quiet F.plain_all_loop _, ql _ rfl⟩
    | false =>
      have eid : id = "any" := by rw [hid]; rfl
      subst eid
      refine call_function_tree F.kind_any F.plain_any F.entry_any (F.args_any1 _) ?_
      unfold Builtin.«any»
      refine wpAny_bind (m := oneArg "any" _) (wpAny_pure ?_)
      refine wpAny_bind (wpAny_pyIter_gen isg ?_)
      exact wpAny_pure ⟨plainId_quiet F.plain_any_loop _, ql _ rfl⟩
  cases hf : codeAmong gpos ps.toList with
  | none =>
    refine wpAny_genexprCodeX hcode (cd.code hPs ht) (cd.tab hPs) hf fun c' h' tk hx hge hlt hco' _ htab' _ => ?_
    obtain ⟨o1, vs, f1, tf, fl, tg, inF, tx, tt, op, _, _, _, _, _, _, _, _, _, htr, _⟩ := hco'
    exact cont _ h' tk _ hx (Nat.le_trans hge (Nat.le_of_lt hlt)) htab'.2 ⟨_, rfl⟩ htr
  | some cv =>
    refine wpAny_genexprCode_hit hcode (cd.code hPs ht) hf ?_
    exact cont cv s2.heap s2.toks ps (Heap.ExtBut.refl _ _) (Nat.le_refl _) hPs ⟨#[], by simp⟩ ht
end
end Pd

set_option Elab.async false
set_option linter.all false
set_option maxRecDepth 100000
set_option maxHeartbeats 2000000
namespace Pd
open PySem PySem.Spec PyProof.Rows L2
/-! ### zip of two, of three, lists or tuples -/
inductive Src where
  | l (a : Addr)
  | t (a : Addr)
def Src.ad : Src → Addr
  | .l a => a
  | .t a => a
def Src.sq (K : PySem.W.Frag) (H : Hp) : Src → List V → Prop
  | .l a, xs => SqL K H a xs
  | .t a, xs => SqT K H a xs
def Src.it (i : Addr) (j : Nat) (h : Heap) : Src → Prop
  | .l a => h.IsListIter i a j
  | .t a => h.IsTupleIter i a j
def Src.is (h : Heap) (its : Array Value) : Src → Prop
  | .l a => h.IsList a its
  | .t a => h.IsTuple a its
def Src.ob : Src → Obj
  | .l a => { cls := .type "list_iterator", data := .fields #[.ref a, .int 0 0] }
  | .t a => { cls := .type "tuple_iterator", data := .fields #[.ref a, .int 0 0] }
theorem Src.draws {prog : Program} {w : World} {A : Around} (hh : A.handled = none) (S : Src) (i : Addr) (hne : S.ad ≠ i) (items : Array Value) :
    Draws prog w A i [i, S.ad] items.size (fun j v => items[j]? = some v) (fun j h => S.it i j h ∧ S.is h items) := by
  cases S with
  | l a => exact Draws.list hh i a hne items
  | t a => exact Draws.tuple hh i a hne items
theorem Src.begins (S : Src) (items : Array Value) : Begins (.ref S.ad) S.ob fun h => S.is h items := by
  cases S with
  | l a => exact begins_list a items
  | t a => exact begins_tuple a items
theorem Src.it_at {S : Src} {i : Addr} {j : Nat} {h h' : Heap} (x : S.it i j h) (k : ∀ o, h.get? i = some o → h'.get? i = some o) : S.it i j h' := by
  cases S with
  | l a => obtain ⟨o, e, r⟩ := x; exact ⟨o, k o e, r⟩
  | t a => obtain ⟨o, e, r⟩ := x; exact ⟨o, k o e, r⟩
theorem Src.it_obj {S : Src} {i : Addr} {j : Nat} {h : Heap} (x : S.it i j h) : ∃ o, h.get? i = some o ∧ ∀ v, o.data ≠ .cell v := by
  cases S with
  | l a => obtain ⟨o, e, _, d⟩ := x; exact ⟨o, e, fun v q => by rw [d] at q; cases q⟩
  | t a => obtain ⟨o, e, _, d⟩ := x; exact ⟨o, e, fun v q => by rw [d] at q; cases q⟩
theorem Src.it_ob {S : Src} {i : Addr} {h : Heap} (e : h.get? i = some S.ob) : S.it i 0 h := by
  cases S with
  | l a => exact ⟨_, e, rfl, rfl⟩
  | t a => exact ⟨_, e, rfl, rfl⟩
theorem Src.lt {S : Src} {h : Heap} {items : Array Value} (x : S.is h items) : S.ad < h.objs.size := by
  cases S with
  | l a => obtain ⟨o, e, _⟩ := x; exact Heap.lt_size e
  | t a => obtain ⟨o, e, _⟩ := x; exact Heap.lt_size e
section
variable {X : Cx} {pins : List (Addr × Obj)} {σ : St} {H : Hp} {s : Shared}
theorem Src.get {S : Src} {xs : List V} (I : Inv X pins σ H s) (h : S.sq X.K H xs) : ∃ its : List Value, Vals xs its ∧ S.is s.heap its.toArray ∧ xs.length ≤ sizeLine := by
  cases S with
  | l a => obtain ⟨its, r, p, z⟩ := I.list h; exact ⟨its, r, p.isList, z⟩
  | t a => obtain ⟨its, r, p, z⟩ := I.tuple h; exact ⟨its, r, p, z⟩
theorem Src.inj {S : Src} {xs ys : List V} (I : Inv X pins σ H s) (h : S.sq X.K H xs) (h' : S.sq X.K H ys) : xs = ys := by
  cases S with
  | l a => exact I.list_inj h h'
  | t a => exact I.tuple_inj h h'
end
def Itz2 (K : PySem.W.Frag) (S1 S2 : Src) : It :=
  ⟨fun i H => ∃ xs ys : List V, S1.sq K H xs ∧ S2.sq K H ys ∧ i < min xs.length ys.length,
    fun i H v H' => ∃ T x y, v = .ref T ∧ H T = none ∧ H' = upd H T (.tup [x, y]) ∧ (∀ xs, S1.sq K H xs → xs[i]? = some x) ∧ ∀ ys, S2.sq K H ys → ys[i]? = some y,
    fun i H => ∃ xs ys : List V, S1.sq K H xs ∧ S2.sq K H ys ∧ i = min xs.length ys.length⟩
theorem two_mem {z TI TO i1 i2 c : Addr} (h : c ∈ [z, TI, TO, i1, i2]) : c = z ∨ c = TI ∨ c = TO ∨ c = i1 ∨ c = i2 := by simpa using h
theorem turn_z2 {P : Program} {w : World} {K : PySem.W.Frag} {elts : List Expr} {kk : Nat} {tpos : Pos} {S1 S2 : Src} {z TI TO i1 i2 : Addr} (n1 : S1.ad ≠ i1) (n2 : S2.ad ≠ i2) (D : ZipSep2 z TI TO i1 i2 [i1, S1.ad] [i2, S2.ad]) :
    Turn P w K (.Tuple elts kk tpos) (Itz2 K S1 S2) [z, TI, TO, i1, i2] z (fun i h => IsZip h z TI TO .none ∧ IsTupOf2 h TI (.ref i1) (.ref i2) ∧ (∃ x y, IsTupOf2 h TO x y) ∧ S1.it i1 i h ∧ S2.it i2 i h) where
  mem := by simp
  obj := fun i h st c hc => by
    obtain ⟨hz, hTI, ⟨x, y, hTO⟩, h1, h2⟩ := st
    rcases two_mem hc with q | q | q | q | q
    · rw [q]; exact ⟨_, hz, fun v q => nomatch q⟩
    · rw [q]; exact ⟨_, hTI, fun v q => nomatch q⟩
    · rw [q]; exact ⟨_, hTO, fun v q => nomatch q⟩
    · rw [q]; exact Src.it_obj h1
    · rw [q]; exact Src.it_obj h2
  keep := fun i h h' st k => by
    obtain ⟨hz, hTI, ⟨x, y, hTO⟩, h1, h2⟩ := st
    exact ⟨k z (by simp) _ hz, k TI (by simp) _ hTI, ⟨x, y, k TO (by simp) _ hTO⟩, Src.it_at h1 fun o q => k i1 (by simp) o q, Src.it_at h2 fun o q => k i2 (by simp) o q⟩
  item := by
    intro X hP hw hK hc i pins s σ H E I hf st hg
    subst hP hw hK
    obtain ⟨hz, hTI, hTO, h1, h2⟩ := st
    obtain ⟨xs, ys, hqx, hqy, hi⟩ := hg
    obtain ⟨its, rv, p, _⟩ := Src.get I hqx
    obtain ⟨its2, rv2, p2, _⟩ := Src.get I hqy
    have l1 := rv.length
    have l2 := rv2.length
    have G := GoesN.zip2 (prog := X.prog) (w := X.w) (A := X.A) (elts := elts) (x1 := kk) (pos := tpos) D (S1.draws (A := X.A.in1) (I.ok.hd hc) i1 n1 its.toArray) (S2.draws (A := X.A.in1) (I.ok.hd hc) i2 n2 its2.toArray)
    refine G.goes i s _ E (by simp; omega) ⟨hz, hTI, hTO, ⟨h1, p⟩, h2, p2⟩ fun v h' tk hy st' k ht => ?_
    obtain ⟨T, x, y, rfl, hT, hx, hy, isT⟩ := hy
    obtain ⟨hz', hTI', hTO', ⟨h1', _⟩, h2', _⟩ := st'
    have gx : ∃ a, xs[i]? = some a ∧ RelV a x := by
      have hi1 : i < xs.length := by omega
      obtain ⟨u, hu, ru⟩ := rv.get (List.getElem?_eq_getElem hi1)
      have : its.toArray[i]? = some u := by simpa using hu
      rw [this] at hx; cases hx
      exact ⟨_, List.getElem?_eq_getElem hi1, ru⟩
    have gy : ∃ a, ys[i]? = some a ∧ RelV a y := by
      have hi1 : i < ys.length := by omega
      obtain ⟨u, hu, ru⟩ := rv2.get (List.getElem?_eq_getElem hi1)
      have : its2.toArray[i]? = some u := by simpa using hu
      rw [this] at hy; cases hy
      exact ⟨_, List.getElem?_eq_getElem hi1, ru⟩
    obtain ⟨a, ha, ra⟩ := gx
    obtain ⟨b, hb, rb⟩ := gy
    have new : ObjOk X.prog X.w (upd H T (.tup [a, b])) h' T (.tup [a, b]) := ⟨by show 2 ≤ sizeLine; decide, [x, y], .cons ra (.cons rb .nil), isT⟩
    have I1 : Inv X pins σ (upd H T (.tup [a, b])) { s with heap := h', toks := tk } := I.turnedNew (t' := tk) (ch := [z, TI, TO, i1, i2]) (fun c o hb q => k c o (fun z' => hb (by
      have e' : c = z ∨ c = TO ∨ c = i1 ∨ c = i2 := by simpa using z'
      rcases e' with q | q | q | q <;> rw [q] <;> simp)) q) hf hT new
    refine ⟨.ref T, _, I1, rfl, ⟨T, a, b, rfl, I.hok.fresh hT, rfl, fun l hl => by rw [Src.inj I hl hqx]; exact ha, fun l hl => by rw [Src.inj I hl hqy]; exact hb⟩, ⟨hz', hTI', hTO', h1', h2'⟩, fun c hcm => ?_⟩
    have hlt : c < s.heap.objs.size := by
      rcases two_mem hcm with q | q | q | q | q
      · rw [q]; exact Heap.lt_size hz
      · rw [q]; exact Heap.lt_size hTI
      · rw [q]; obtain ⟨x0, y0, hTO⟩ := hTO; exact Heap.lt_size hTO
      · rw [q]; obtain ⟨_, e1, _⟩ := Src.it_obj h1; exact Heap.lt_size e1
      · rw [q]; obtain ⟨_, e2, _⟩ := Src.it_obj h2; exact Heap.lt_size e2
    rw [upd_ne (Nat.ne_of_lt (Nat.lt_of_lt_of_le hlt hT))]
    exact (hf c hcm).1
  done := by
    intro X hP hw hK hc i pins s σ H E I hf st hg
    subst hP hw hK
    obtain ⟨hz, hTI, hTO, h1, h2⟩ := st
    obtain ⟨xs, ys, hqx, hqy, hi⟩ := hg
    obtain ⟨its, rv, p, _⟩ := Src.get I hqx
    obtain ⟨its2, rv2, p2, _⟩ := Src.get I hqy
    have l1 := rv.length
    have l2 := rv2.length
    have G := GoesN.zip2 (prog := X.prog) (w := X.w) (A := X.A) (elts := elts) (x1 := kk) (pos := tpos) D (S1.draws (A := X.A.in1) (I.ok.hd hc) i1 n1 its.toArray) (S2.draws (A := X.A.in1) (I.ok.hd hc) i2 n2 its2.toArray)
    have en : i = min its.toArray.size its2.toArray.size := by simp; omega
    subst en
    refine G.stops s _ E ⟨hz, hTI, hTO, ⟨h1, p⟩, h2, p2⟩ fun h' tk k ht => I.turnedL (t' := tk) (ch := [z, TI, TO, i1, i2]) (fun c o hb q => k c o (fun z' => hb (by
      have e' : c = z ∨ c = TO ∨ c = i1 ∨ c = i2 := by simpa using z'
      rcases e' with q | q | q | q <;> rw [q] <;> simp)) q) hf
  self := fun A i s Q E st h => wpAny_pyIter_zip st.1 h
def Itz3 (K : PySem.W.Frag) (S1 S2 S3 : Src) : It :=
  ⟨fun i H => ∃ xs ys zs : List V, S1.sq K H xs ∧ S2.sq K H ys ∧ S3.sq K H zs ∧ i < min (min xs.length ys.length) zs.length,
    fun i H v H' => ∃ T x y u, v = .ref T ∧ H T = none ∧ H' = upd H T (.tup [x, y, u]) ∧ (∀ xs, S1.sq K H xs → xs[i]? = some x) ∧ (∀ ys, S2.sq K H ys → ys[i]? = some y) ∧ ∀ zs, S3.sq K H zs → zs[i]? = some u,
    fun i H => ∃ xs ys zs : List V, S1.sq K H xs ∧ S2.sq K H ys ∧ S3.sq K H zs ∧ i = min (min xs.length ys.length) zs.length⟩
theorem three_mem {z TI TO i1 i2 i3 c : Addr} (h : c ∈ [z, TI, TO, i1, i2, i3]) : c = z ∨ c = TI ∨ c = TO ∨ c = i1 ∨ c = i2 ∨ c = i3 := by simpa using h
theorem turn_z3 {P : Program} {w : World} {K : PySem.W.Frag} {elts : List Expr} {kk : Nat} {tpos : Pos} {S1 S2 S3 : Src} {z TI TO i1 i2 i3 : Addr} (n1 : S1.ad ≠ i1) (n2 : S2.ad ≠ i2) (n3 : S3.ad ≠ i3) (D : ZipSep3 z TI TO i1 i2 i3 [i1, S1.ad] [i2, S2.ad] [i3, S3.ad]) :
    Turn P w K (.Tuple elts kk tpos) (Itz3 K S1 S2 S3) [z, TI, TO, i1, i2, i3] z (fun i h => IsZip h z TI TO .none ∧ IsTupOf3 h TI (.ref i1) (.ref i2) (.ref i3) ∧ (∃ x y u, IsTupOf3 h TO x y u) ∧ S1.it i1 i h ∧ S2.it i2 i h ∧ S3.it i3 i h) where
  mem := by simp
  obj := fun i h st c hc => by
    obtain ⟨hz, hTI, ⟨x, y, u, hTO⟩, h1, h2, h3⟩ := st
    rcases three_mem hc with q | q | q | q | q | q
    · rw [q]; exact ⟨_, hz, fun v q => nomatch q⟩
    · rw [q]; exact ⟨_, hTI, fun v q => nomatch q⟩
    · rw [q]; exact ⟨_, hTO, fun v q => nomatch q⟩
    · rw [q]; exact Src.it_obj h1
    · rw [q]; exact Src.it_obj h2
    · rw [q]; exact Src.it_obj h3
  keep := fun i h h' st k => by
    obtain ⟨hz, hTI, ⟨x, y, u, hTO⟩, h1, h2, h3⟩ := st
    exact ⟨k z (by simp) _ hz, k TI (by simp) _ hTI, ⟨x, y, u, k TO (by simp) _ hTO⟩, Src.it_at h1 fun o q => k i1 (by simp) o q, Src.it_at h2 fun o q => k i2 (by simp) o q, Src.it_at h3 fun o q => k i3 (by simp) o q⟩
  item := by
    intro X hP hw hK hc i pins s σ H E I hf st hg
    subst hP hw hK
    obtain ⟨hz, hTI, hTO, h1, h2, h3⟩ := st
    obtain ⟨xs, ys, zs, hqx, hqy, hqz, hi⟩ := hg
    obtain ⟨its, rv, p, _⟩ := Src.get I hqx
    obtain ⟨its2, rv2, p2, _⟩ := Src.get I hqy
    obtain ⟨its3, rv3, p3, _⟩ := Src.get I hqz
    have l1 := rv.length
    have l2 := rv2.length
    have l3 := rv3.length
    have G := GoesN.zip3 (prog := X.prog) (w := X.w) (A := X.A) (elts := elts) (x1 := kk) (pos := tpos) D (S1.draws (A := X.A.in1) (I.ok.hd hc) i1 n1 its.toArray) (S2.draws (A := X.A.in1) (I.ok.hd hc) i2 n2 its2.toArray) (S3.draws (A := X.A.in1) (I.ok.hd hc) i3 n3 its3.toArray)
    refine G.goes i s _ E (by simp; omega) ⟨hz, hTI, hTO, ⟨h1, p⟩, ⟨h2, p2⟩, h3, p3⟩ fun v h' tk hy st' k ht => ?_
    obtain ⟨T, x, y, u, rfl, hT, hx, hy, hu, isT⟩ := hy
    obtain ⟨hz', hTI', hTO', ⟨h1', _⟩, ⟨h2', _⟩, h3', _⟩ := st'
    have gg : ∀ {qs : List V} {js : List Value} {v : Value}, Vals qs js → i < qs.length → js.toArray[i]? = some v → ∃ a, qs[i]? = some a ∧ RelV a v := fun {qs js v} r hl hv => by
      obtain ⟨u, hu, ru⟩ := r.get (List.getElem?_eq_getElem hl)
      have : js.toArray[i]? = some u := by simpa using hu
      rw [this] at hv; cases hv
      exact ⟨_, List.getElem?_eq_getElem hl, ru⟩
    obtain ⟨a, ha, ra⟩ := gg rv (by omega) hx
    obtain ⟨b, hb, rb⟩ := gg rv2 (by omega) hy
    obtain ⟨c, hc, rc⟩ := gg rv3 (by omega) hu
    have new : ObjOk X.prog X.w (upd H T (.tup [a, b, c])) h' T (.tup [a, b, c]) := ⟨by show 3 ≤ sizeLine; decide, [x, y, u], .cons ra (.cons rb (.cons rc .nil)), isT⟩
    have I1 : Inv X pins σ (upd H T (.tup [a, b, c])) { s with heap := h', toks := tk } := I.turnedNew (t' := tk) (ch := [z, TI, TO, i1, i2, i3]) (fun c o hb q => k c o (fun z' => hb (by
      have e' : c = z ∨ c = TO ∨ c = i1 ∨ c = i2 ∨ c = i3 := by simpa using z'
      rcases e' with q | q | q | q | q <;> rw [q] <;> simp)) q) hf hT new
    refine ⟨.ref T, _, I1, rfl, ⟨T, a, b, c, rfl, I.hok.fresh hT, rfl, fun l hl => by rw [Src.inj I hl hqx]; exact ha, fun l hl => by rw [Src.inj I hl hqy]; exact hb, fun l hl => by rw [Src.inj I hl hqz]; exact hc⟩, ⟨hz', hTI', hTO', h1', h2', h3'⟩, fun c hcm => ?_⟩
    have hlt : c < s.heap.objs.size := by
      rcases three_mem hcm with q | q | q | q | q | q
      · rw [q]; exact Heap.lt_size hz
      · rw [q]; exact Heap.lt_size hTI
      · rw [q]; obtain ⟨x0, y0, u0, hTO⟩ := hTO; exact Heap.lt_size hTO
      · rw [q]; obtain ⟨_, e1, _⟩ := Src.it_obj h1; exact Heap.lt_size e1
      · rw [q]; obtain ⟨_, e2, _⟩ := Src.it_obj h2; exact Heap.lt_size e2
      · rw [q]; obtain ⟨_, e3, _⟩ := Src.it_obj h3; exact Heap.lt_size e3
    rw [upd_ne (Nat.ne_of_lt (Nat.lt_of_lt_of_le hlt hT))]
    exact (hf c hcm).1
  done := by
    intro X hP hw hK hc i pins s σ H E I hf st hg
    subst hP hw hK
    obtain ⟨hz, hTI, hTO, h1, h2, h3⟩ := st
    obtain ⟨xs, ys, zs, hqx, hqy, hqz, hi⟩ := hg
    obtain ⟨its, rv, p, _⟩ := Src.get I hqx
    obtain ⟨its2, rv2, p2, _⟩ := Src.get I hqy
    obtain ⟨its3, rv3, p3, _⟩ := Src.get I hqz
    have l1 := rv.length
    have l2 := rv2.length
    have l3 := rv3.length
    have G := GoesN.zip3 (prog := X.prog) (w := X.w) (A := X.A) (elts := elts) (x1 := kk) (pos := tpos) D (S1.draws (A := X.A.in1) (I.ok.hd hc) i1 n1 its.toArray) (S2.draws (A := X.A.in1) (I.ok.hd hc) i2 n2 its2.toArray) (S3.draws (A := X.A.in1) (I.ok.hd hc) i3 n3 its3.toArray)
    have en : i = min (min its.toArray.size its2.toArray.size) its3.toArray.size := by simp; omega
    subst en
    refine G.stops s _ E ⟨hz, hTI, hTO, ⟨h1, p⟩, ⟨h2, p2⟩, h3, p3⟩ fun h' tk k ht => I.turnedL (t' := tk) (ch := [z, TI, TO, i1, i2, i3]) (fun c o hb q => k c o (fun z' => hb (by
      have e' : c = z ∨ c = TO ∨ c = i1 ∨ c = i2 ∨ c = i3 := by simpa using z'
      rcases e' with q | q | q | q | q <;> rw [q] <;> simp)) q) hf
  self := fun A i s Q E st h => wpAny_pyIter_zip st.1 h
/-! ### as data -/
def seqW : W → Option (List PyData)
  | .d (.list ds) => some ds
  | .d (.tuple ds) => some ds
  | _ => none
theorem seq_src {C : Ct} {M : Ad} {H : Hp} {v : V} {w : W} {ds : List PyData} (r : RW C H M v w) (h : seqW w = some ds) :
    ∃ (S : Src) (vs : List V), v = .ref S.ad ∧ (∀ M0 M' H', Hd M H M0 → Go M0 H M' H' → S.sq C.K H' vs ∧ RpA C.K H' M' vs ds) := by
  cases w with
  | loc n => cases h
  | clo j => cases h
  | d x =>
    cases x with
    | list es =>
      cases h
      cases r with
      | lst h1 h2 => exact ⟨.l _, _, rfl, fun M0 M' H' hd gg => ⟨((h1.weak hd).go gg).sq, RpA.go gg (RpA.weak hd h2)⟩⟩
    | tuple es =>
      cases h
      cases r with
      | tup h1 h2 => exact ⟨.t _, _, rfl, fun M0 M' H' hd gg => ⟨((h1.weak hd).go gg).sq, RpA.go gg (RpA.weak hd h2)⟩⟩
    | _ => cases h
def zip2 (ds es : List PyData) : List W := List.zipWith (fun x y => W.d (.tuple [x, y])) ds es
def zip3 (ds es fs : List PyData) : List W := List.zipWith (fun f z => f z) (List.zipWith (fun x y z => W.d (.tuple [x, y, z])) ds es) fs
def iZ2 (r : FA) : FI := fun e m => (r e m).bind fun ws m1 => match ws with
  | [a, b] => match seqW a, seqW b with
    | some ds, some es => .ok (zip2 ds es) m1
    | _, _ => .bad
  | _ => .bad
def iZ3 (r : FA) : FI := fun e m => (r e m).bind fun ws m1 => match ws with
  | [a, b, c] => match seqW a, seqW b, seqW c with
    | some ds, some es, some fs => .ok (zip3 ds es fs) m1
    | _, _, _ => .bad
  | _ => .bad
theorem RWs.three {H : Hp} {M : Ad} {vs : List V} {w z y : W} (h : RWs C H M vs [w, z, y]) : ∃ v u t, vs = [v, u, t] ∧ RW C H M v w ∧ RW C H M u z ∧ RW C H M t y := by
  cases h with | cons a b => obtain ⟨u, t, rfl, r, q⟩ := RWs.two b; exact ⟨_, _, _, rfl, a, r, q⟩
theorem zip2_get {ds es : List PyData} {i : Nat} {w : W} (h : (zip2 ds es)[i]? = some w) : ∃ x y, ds[i]? = some x ∧ es[i]? = some y ∧ w = .d (.tuple [x, y]) := by
  unfold zip2 at h
  rw [List.getElem?_zipWith] at h
  cases e1 : ds[i]? with
  | none => rw [e1] at h; cases h
  | some x =>
    cases e2 : es[i]? with
    | none => rw [e1, e2] at h; cases h
    | some y => rw [e1, e2] at h; cases h; exact ⟨x, y, rfl, rfl, rfl⟩
theorem zip3_get {ds es fs : List PyData} {i : Nat} {w : W} (h : (zip3 ds es fs)[i]? = some w) : ∃ x y z, ds[i]? = some x ∧ es[i]? = some y ∧ fs[i]? = some z ∧ w = .d (.tuple [x, y, z]) := by
  unfold zip3 at h
  rw [List.getElem?_zipWith, List.getElem?_zipWith] at h
  cases e1 : ds[i]? with
  | none => rw [e1] at h; cases h
  | some x =>
    cases e2 : es[i]? with
    | none => rw [e1, e2] at h; cases h
    | some y =>
      cases e3 : fs[i]? with
      | none => rw [e1, e2, e3] at h; cases h
      | some z => rw [e1, e2, e3] at h; cases h; exact ⟨x, y, z, rfl, rfl, rfl, rfl⟩
section
variable {X : Cx} {C : Ct} {Wx : WX} {a b c : Expr} {r : FA} {p pos : Pos}
theorem serves_z2 {M : Ad} {H : Hp} {S1 S2 : Src} {vs us : List V} {ds es : List PyData} (h1 : ∀ M0 M' H', Hd M H M0 → Go M0 H M' H' → S1.sq C.K H' vs ∧ RpA C.K H' M' vs ds) (h2 : ∀ M0 M' H', Hd M H M0 → Go M0 H M' H' → S2.sq C.K H' us ∧ RpA C.K H' M' us es) :
    Serves C M H (Itz2 C.K S1 S2) (zip2 ds es) where
  go := fun M0 M' H' hd gg i hi => by
    obtain ⟨q1, r1⟩ := h1 M0 M' H' hd gg
    obtain ⟨q2, r2⟩ := h2 M0 M' H' hd gg
    exact ⟨vs, us, q1, q2, by rw [r1.len, r2.len]; unfold zip2 at hi; rw [List.length_zipWith] at hi; exact hi⟩
  stop := fun M0 M' H' hd gg => by
    obtain ⟨q1, r1⟩ := h1 M0 M' H' hd gg
    obtain ⟨q2, r2⟩ := h2 M0 M' H' hd gg
    exact ⟨vs, us, q1, q2, by rw [r1.len, r2.len]; unfold zip2; rw [List.length_zipWith]⟩
  yld := fun M0 M' H' hd gg i w hw v H'' hy m' oo => by
    obtain ⟨q1, r1⟩ := h1 M0 M' H' hd gg
    obtain ⟨q2, r2⟩ := h2 M0 M' H' hd gg
    obtain ⟨x, y, e1, e2, rfl⟩ := zip2_get hw
    obtain ⟨T, vx, vy, rfl, nT, rfl, hx, hy⟩ := hy
    obtain ⟨a, ha, ra⟩ := r1.get e1
    obtain ⟨b, hb, rb⟩ := r2.get e2
    have ex := (hx _ q1).symm.trans ha
    have ey := (hy _ q2).symm.trans hb
    cases ex; cases ey
    exact ⟨Go.new nT, Rp.newT oo nT (.cons ra (.cons rb .nil)), oo.new nT⟩
theorem serves_z3 {M : Ad} {H : Hp} {S1 S2 S3 : Src} {vs us ts : List V} {ds es fs : List PyData} (h1 : ∀ M0 M' H', Hd M H M0 → Go M0 H M' H' → S1.sq C.K H' vs ∧ RpA C.K H' M' vs ds) (h2 : ∀ M0 M' H', Hd M H M0 → Go M0 H M' H' → S2.sq C.K H' us ∧ RpA C.K H' M' us es)
    (h3 : ∀ M0 M' H', Hd M H M0 → Go M0 H M' H' → S3.sq C.K H' ts ∧ RpA C.K H' M' ts fs) : Serves C M H (Itz3 C.K S1 S2 S3) (zip3 ds es fs) where
  go := fun M0 M' H' hd gg i hi => by
    obtain ⟨q1, r1⟩ := h1 M0 M' H' hd gg
    obtain ⟨q2, r2⟩ := h2 M0 M' H' hd gg
    obtain ⟨q3, r3⟩ := h3 M0 M' H' hd gg
    exact ⟨vs, us, ts, q1, q2, q3, by rw [r1.len, r2.len, r3.len]; unfold zip3 at hi; rw [List.length_zipWith, List.length_zipWith] at hi; exact hi⟩
  stop := fun M0 M' H' hd gg => by
    obtain ⟨q1, r1⟩ := h1 M0 M' H' hd gg
    obtain ⟨q2, r2⟩ := h2 M0 M' H' hd gg
    obtain ⟨q3, r3⟩ := h3 M0 M' H' hd gg
    exact ⟨vs, us, ts, q1, q2, q3, by rw [r1.len, r2.len, r3.len]; unfold zip3; rw [List.length_zipWith, List.length_zipWith]⟩
  yld := fun M0 M' H' hd gg i w hw v H'' hy m' oo => by
    obtain ⟨q1, r1⟩ := h1 M0 M' H' hd gg
    obtain ⟨q2, r2⟩ := h2 M0 M' H' hd gg
    obtain ⟨q3, r3⟩ := h3 M0 M' H' hd gg
    obtain ⟨x, y, z, e1, e2, e3, rfl⟩ := zip3_get hw
    obtain ⟨T, vx, vy, vz, rfl, nT, rfl, hx, hy, hz⟩ := hy
    obtain ⟨a, ha, ra⟩ := r1.get e1
    obtain ⟨b, hb, rb⟩ := r2.get e2
    obtain ⟨c, hc, rc⟩ := r3.get e3
    have ex := (hx _ q1).symm.trans ha
    have ey := (hy _ q2).symm.trans hb
    have ez := (hz _ q3).symm.trans hc
    cases ex; cases ey; cases ez
    exact ⟨Go.new nT, Rp.newT oo nT (.cons ra (.cons rb (.cons rc .nil))), oo.new nT⟩
theorem fresh_fp {pins : List (Addr × Obj)} {σ : St} {H : Hp} {s : Shared} (I : Inv X pins σ H s) {k : Nat} : FpOk X pins H (s.heap.objs.size + k) := I.fpOk (Nat.le_add_right _ _) (I.hok.fresh (Nat.le_add_right _ _))
theorem di_zip2 {elts : List Expr} {kk : Nat} {tpos : Pos} {x : Str} (hx : x = "zip") (hm : X.mg x = none) (ha : DA X C Wx [a, b] r) (hg : Gl X x := by rfl) (hK : X.K = C.K := by rfl)
    (hs : starEach [a, b] X.env = (false, eval a X.env) :: starEach [b] X.env := by rfl) (hpl : (backTo pos (starEach [b] X.env)).any (·.1) = false := by rfl) : DI X C Wx (.Tuple elts kk tpos) (.Call (.Name x p) [a, b] [] pos) (iZ2 r) := by
  subst hx
  refine ⟨⟨fun pins s σ H R I ⟨M, m, e, ok, rs, q⟩ => ?_⟩⟩
  refine Call_ (ld_blt I hg hm PyProof.Rows.boot_zip (PyProof.Rows.callWith_type1 (thn (ha.pa.run pos pins s σ H _ I (tA_bind ok rs q fun vs ws M1 m1 H1 g1 o1 r1 rv q1 =>
    (show (fun (vs : List V) (H1 : Hp) => ∃ S1 S2 : Src, ∃ us ts : List V, vs = [.ref S1.ad, .ref S2.ad] ∧ S1.sq X.K H1 us ∧ S2.sq X.K H1 ts ∧ R (Itz2 X.K S1 S2) H1) vs H1 from ?_))) fun us s1 ⟨vs, H1, I1, r1, q1⟩ => ?_) hs hpl))
  · split at q1
    · split at q1
      · rename_i e1 e2
        obtain ⟨v, u, rfl, ra, rb⟩ := rv.two
        obtain ⟨S1, us, rfl, k1⟩ := seq_src ra e1
        obtain ⟨S2, ts, rfl, k2⟩ := seq_src rb e2
        rw [hK]
        exact ⟨S1, S2, us, ts, rfl, (k1 _ _ _ Hd.refl Go.refl).1, (k2 _ _ _ Hd.refl Go.refl).1, q1.now o1 _ (serves_z2 k1 k2)⟩
      · exact q1.elim
    · exact q1.elim
  · obtain ⟨S1, S2, us, ts, ex, h1, h2, q⟩ := q1
    subst ex
    cases r1 with
    | cons r rr =>
      cases rr with
      | cons r' rr =>
        cases rr
        cases r
        cases r'
        obtain ⟨its, rv, p1, _⟩ := Src.get I1 h1
        obtain ⟨its2, rv2, p2, _⟩ := Src.get I1 h2
        have lt1 := Src.lt p1
        have lt2 := Src.lt p2
        refine zip_begins2 (S1.begins its.toArray) (S2.begins its2.toArray) p1 p2 fun h' hz hTI hTO h1 h2 hsz hk => wpAny_pyIter_zip hz ?_
        have I2 : Inv X pins σ H1 { s1 with heap := h' } := I1.kept (t' := s1.toks) hk
        refine ⟨s1.heap.objs.size + 4, [s1.heap.objs.size + 4, s1.heap.objs.size + 2, s1.heap.objs.size + 3, s1.heap.objs.size, s1.heap.objs.size + 1], _, _, H1, rfl, I2, turn_z2 (Nat.ne_of_lt lt1) (Nat.ne_of_lt (Nat.lt_succ_of_lt lt2)) (zip_sep2 (fun b hb => by rw [List.mem_singleton.mp hb]; exact lt1) (fun b hb => by rw [List.mem_singleton.mp hb]; exact lt2)), ⟨hz, hTI, ⟨_, _, hTO⟩, Src.it_ob h1, Src.it_ob h2⟩, fun c hc => ?_, q⟩
        rcases two_mem hc with z | z | z | z | z
        · rw [z]; exact fresh_fp I1
        · rw [z]; exact fresh_fp I1
        · rw [z]; exact fresh_fp I1
        · rw [z]; exact fresh_fp (k := 0) I1
        · rw [z]; exact fresh_fp I1
theorem di_zip3 {elts : List Expr} {kk : Nat} {tpos : Pos} {x : Str} (hx : x = "zip") (hm : X.mg x = none) (ha : DA X C Wx [a, b, c] r) (hg : Gl X x := by rfl) (hK : X.K = C.K := by rfl)
    (hs : starEach [a, b, c] X.env = (false, eval a X.env) :: starEach [b, c] X.env := by rfl) (hpl : (backTo pos (starEach [b, c] X.env)).any (·.1) = false := by rfl) : DI X C Wx (.Tuple elts kk tpos) (.Call (.Name x p) [a, b, c] [] pos) (iZ3 r) := by
  subst hx
  refine ⟨⟨fun pins s σ H R I ⟨M, m, e, ok, rs, q⟩ => ?_⟩⟩
  refine Call_ (ld_blt I hg hm PyProof.Rows.boot_zip (PyProof.Rows.callWith_type1 (thn (ha.pa.run pos pins s σ H _ I (tA_bind ok rs q fun vs ws M1 m1 H1 g1 o1 r1 rv q1 =>
    (show (fun (vs : List V) (H1 : Hp) => ∃ S1 S2 S3 : Src, ∃ us ts ys : List V, vs = [.ref S1.ad, .ref S2.ad, .ref S3.ad] ∧ S1.sq X.K H1 us ∧ S2.sq X.K H1 ts ∧ S3.sq X.K H1 ys ∧ R (Itz3 X.K S1 S2 S3) H1) vs H1 from ?_))) fun us s1 ⟨vs, H1, I1, r1, q1⟩ => ?_) hs hpl))
  · split at q1
    · split at q1
      · rename_i e1 e2 e3
        obtain ⟨v, u, t, rfl, ra, rb, rc⟩ := rv.three
        obtain ⟨S1, us, rfl, k1⟩ := seq_src ra e1
        obtain ⟨S2, ts, rfl, k2⟩ := seq_src rb e2
        obtain ⟨S3, ys, rfl, k3⟩ := seq_src rc e3
        rw [hK]
        exact ⟨S1, S2, S3, us, ts, ys, rfl, (k1 _ _ _ Hd.refl Go.refl).1, (k2 _ _ _ Hd.refl Go.refl).1, (k3 _ _ _ Hd.refl Go.refl).1, q1.now o1 _ (serves_z3 k1 k2 k3)⟩
      · exact q1.elim
    · exact q1.elim
  · obtain ⟨S1, S2, S3, us, ts, ys, ex, h1, h2, h3, q⟩ := q1
    subst ex
    cases r1 with
    | cons r rr =>
      cases rr with
      | cons r' rr =>
        cases rr with
        | cons r'' rr =>
          cases rr
          cases r
          cases r'
          cases r''
          obtain ⟨its, rv, p1, _⟩ := Src.get I1 h1
          obtain ⟨its2, rv2, p2, _⟩ := Src.get I1 h2
          obtain ⟨its3, rv3, p3, _⟩ := Src.get I1 h3
          have lt1 := Src.lt p1
          have lt2 := Src.lt p2
          have lt3 := Src.lt p3
          refine zip_begins3 (S1.begins its.toArray) (S2.begins its2.toArray) (S3.begins its3.toArray) p1 p2 p3 fun h' hz hTI hTO h1 h2 h3 hsz hk => wpAny_pyIter_zip hz ?_
          have I2 : Inv X pins σ H1 { s1 with heap := h' } := I1.kept (t' := s1.toks) hk
          refine ⟨s1.heap.objs.size + 5, [s1.heap.objs.size + 5, s1.heap.objs.size + 3, s1.heap.objs.size + 4, s1.heap.objs.size, s1.heap.objs.size + 1, s1.heap.objs.size + 2], _, _, H1, rfl, I2, turn_z3 (Nat.ne_of_lt lt1) (Nat.ne_of_lt (Nat.lt_succ_of_lt lt2)) (Nat.ne_of_lt (Nat.lt_succ_of_lt (Nat.lt_succ_of_lt lt3)))
            (zip_sep3 (fun b hb => by rw [List.mem_singleton.mp hb]; exact lt1) (fun b hb => by rw [List.mem_singleton.mp hb]; exact lt2) (fun b hb => by rw [List.mem_singleton.mp hb]; exact lt3)), ⟨hz, hTI, ⟨_, _, _, hTO⟩, Src.it_ob h1, Src.it_ob h2, Src.it_ob h3⟩, fun c hc => ?_, q⟩
          rcases three_mem hc with z | z | z | z | z | z
          · rw [z]; exact fresh_fp I1
          · rw [z]; exact fresh_fp I1
          · rw [z]; exact fresh_fp I1
          · rw [z]; exact fresh_fp (k := 0) I1
          · rw [z]; exact fresh_fp I1
          · rw [z]; exact fresh_fp I1
end
end Pd

set_option Elab.async false
set_option linter.all false
set_option maxRecDepth 100000
set_option maxHeartbeats 2000000
namespace Pd
open PySem PySem.Spec PyProof.Rows L2
/-! ### a def -/
def W.low (n : Nat) : W → Bool
  | .d _ => true
  | .loc j => decide (j < n)
  | .clo _ => true
def Cell.low (n : Nat) : Cell → Bool
  | .lst ws => ws.all (W.low n)
  | .dct _ _ kvs => kvs.all fun p => W.low n p.2
  | .ins _ fs => fs.all fun p => W.low n p.2
/-- things as data, the new lists and dicts among them no more to be changed -/
def unBy (f : W → Option PyData) : List W → Option (List PyData)
  | [] => some []
  | w :: ws => match f w, unBy f ws with
    | some d, some ds => some (d :: ds)
    | _, _ => none
def unByP (f : W → Option PyData) : List (PyData × W) → Option (List (PyData × PyData))
  | [] => some []
  | (k, w) :: ws => match f w, unByP f ws with
    | some d, some ds => some ((k, d) :: ds)
    | _, _ => none
def fzD : Nat → Nat → Sto → W → Option PyData
  | _, _, _, .d x => some x
  | _, _, _, .clo _ => none
  | 0, _, _, .loc _ => none
  | k + 1, n, m, .loc j => if j < n then none else match m[j]? with
    | some (.lst ws) => (unBy (fzD k n m) ws).map .list
    | some (.dct _ _ kvs) => (unByP (fzD k n m) kvs).map .dict
    | _ => none
def fzW (n : Nat) (m : Sto) : W → Option W
  | .d x => some (.d x)
  | .clo j => some (.clo j)
  | .loc j => if j < n then some (.loc j) else (fzD 3 n m (.loc j)).map .d
section
variable {C : Ct} {M M' : Ad} {m m' : Sto} {H H' : Hp}
theorem Go.cut (g : Go M H M' H') : Go M H M H' := ⟨⟨[], by simp, by simp⟩, rfl, g.st, g.dom, g.lk, g.hd⟩
theorem Go.freeSub (g : Go M H M' H') (a : Addr) (h : M'.free a) : M.free a := by
  obtain ⟨nw, e, _⟩ := g.ext
  refine ⟨fun z => h.1 (by rw [e]; exact List.mem_append_left _ z), fun z => h.2 (by rw [g.hid]; exact z)⟩
theorem subCar {K : PySem.W.Frag} {M M0 : Ad} {H : Hp} (hd : ∀ a, M.free a → M0.free a) : Car K H M H M0 where
  l := fun a xs h => h.imp (fun z => ⟨z.1, hd _ z.2⟩) id
  t := fun a xs h => ⟨h.1, hd _ h.2⟩
  dk := fun a k h => ⟨h.1, hd _ h.2⟩
  dt := fun a k h => ⟨h.1, hd _ h.2⟩
theorem Rp.sub {K : PySem.W.Frag} {H : Hp} {M M0 : Ad} (hd : ∀ a, M.free a → M0.free a) {d : PyData} {v : V} (h : Rp K H M v d) : Rp K H M0 v d := h.car (subCar hd)
theorem RpA.sub {K : PySem.W.Frag} {H : Hp} {M M0 : Ad} (hd : ∀ a, M.free a → M0.free a) {ds : List PyData} {vs : List V} (h : RpA K H M vs ds) : RpA K H M0 vs ds := h.car (subCar hd)
theorem RW.cut (g : Go M H M' H') {v : V} {w : W} (r : RW C H' M' v w) (hl : w.low M.loc.length = true) : RW C H' M v w := by
  cases w with
  | d x => exact Rp.sub g.freeSub r
  | clo j => obtain ⟨f, e, h, h1, h2, h3, h4, n⟩ := r; exact ⟨f, e, h, h1, h2, h3, h4, g.freeSub _ n⟩
  | loc j =>
    obtain ⟨a, rfl, h⟩ := r
    obtain ⟨nw, e, _⟩ := g.ext
    have hj : j < M.loc.length := of_decide_eq_true hl
    rw [e, List.getElem?_append_left hj] at h
    exact ⟨a, rfl, h⟩
theorem RWs.cut (g : Go M H M' H') {vs : List V} {ws : List W} (r : RWs C H' M' vs ws) (hl : ws.all (W.low M.loc.length) = true) : RWs C H' M vs ws := by
  induction r with
  | nil => exact .nil
  | cons a _ ih =>
    rw [List.all_cons, Bool.and_eq_true] at hl
    exact .cons (a.cut g hl.1) (ih hl.2)
theorem RWp.cut {κ : Type} (g : Go M H M' H') {vs : List (κ × V)} {ws : List (κ × W)} (r : RWp C H' M' vs ws) (hl : ws.all (fun p => W.low M.loc.length p.2) = true) : RWp C H' M vs ws := by
  induction r with
  | nil => exact .nil
  | cons a _ ih =>
    rw [List.all_cons, Bool.and_eq_true] at hl
    exact .cons (a.cut g hl.1) (ih hl.2)
theorem CellOk.cut (g : Go M H M' H') {a : Addr} {c : Cell} (k : CellOk C H' M' a c) (hl : c.low M.loc.length = true) : CellOk C H' M a c := by
  cases c with
  | lst ws => obtain ⟨vs, ea, rv⟩ := k; exact ⟨vs, ea, rv.cut g hl⟩
  | dct t lk kvs =>
    cases t with
    | false => obtain ⟨vs, ea, rv⟩ := k; exact ⟨vs, ea, rv.cut g hl⟩
    | true => obtain ⟨vs, ea, rv⟩ := k; exact ⟨vs, ea, rv.cut g hl⟩
  | ins c fs => obtain ⟨dx, vs, ea, rv⟩ := k; exact ⟨dx, vs, ea, rv.cut g hl⟩
theorem Ok.cut (g : Go M H M' H') (o : Ok C M' m' H') (hl : (m'.take M.loc.length).all (Cell.low M.loc.length) = true) : Ok C M (m'.take M.loc.length) H' := by
  obtain ⟨nw, e, _⟩ := g.ext
  have hle : M.loc.length ≤ m'.length := by rw [← o.len, e, List.length_append]; omega
  refine ⟨o.tab, by rw [List.length_take]; omega, fun n a c h1 h2 => ?_, ?_, fun a ha => o.hid a (by rw [g.hid]; exact ha), fun a ha z => o.sep a (by rw [e]; exact List.mem_append_left _ ha) (by rw [g.hid]; exact z)⟩
  · have hn : n < M.loc.length := (List.getElem?_eq_some_iff.mp h1).1
    have hm : c ∈ m'.take M.loc.length := List.mem_of_getElem? h2
    rw [List.getElem?_take_of_lt hn] at h2
    exact (o.cell n a c (by rw [e, List.getElem?_append_left hn]; exact h1) h2).cut g (List.all_eq_true.mp hl c hm)
  · have := o.nd
    rw [e] at this
    exact (List.nodup_append.mp this).1
theorem RpA.ofBy {f : W → Option PyData} (hf : ∀ v w d, f w = some d → RW C H' M' v w → Rp C.K H' M v d) {vs : List V} {ws : List W} (r : RWs C H' M' vs ws) : ∀ {ds : List PyData}, unBy f ws = some ds → RpA C.K H' M vs ds := by
  induction r with
  | nil => intro ds e; cases e; exact .nil
  | @cons v vs w ws a _ ih =>
    intro ds e
    unfold unBy at e
    split at e
    · rename_i d ds' e1 e2
      cases e
      exact .cons (hf _ _ _ e1 a) (ih e2)
    · cases e
theorem RpP.ofBy {f : W → Option PyData} (hf : ∀ v w d, f w = some d → RW C H' M' v w → Rp C.K H' M v d) {vs : List (PyData × V)} {ws : List (PyData × W)} (r : RWp C H' M' vs ws) : ∀ {ds : List (PyData × PyData)}, unByP f ws = some ds → RpP C.K H' M vs ds := by
  induction r with
  | nil => intro ds e; cases e; exact .nil
  | @cons k v vs w ws a _ ih =>
    intro ds e
    unfold unByP at e
    split at e
    · rename_i d ds' e1 e2
      cases e
      exact .cons (hf _ _ _ e1 a) (ih e2)
    · cases e
/-- a new thing as data, the def being left -/
theorem fzD_ok (g : Go M H M' H') (o : Ok C M' m' H') : ∀ (k : Nat) (v : V) (w : W) (d : PyData), fzD k M.loc.length m' w = some d → RW C H' M' v w → Rp C.K H' M v d
  | k, v, .d x, d, e, r => by
    have e : some x = some d := by cases k <;> exact e
    cases e; exact Rp.sub g.freeSub r
  | k, v, .clo j, d, e, r => by cases k <;> cases e
  | 0, v, .loc j, d, e, r => by cases e
  | k + 1, v, .loc j, d, e, r => by
    obtain ⟨a, rfl, hj⟩ := r
    obtain ⟨nw, en, _⟩ := id g.ext
    unfold fzD at e
    split at e
    · cases e
    · rename_i hn
      have hfree : M.free a := by
        refine ⟨fun z => ?_, fun z => o.sep a (List.mem_of_getElem? hj) (by rw [g.hid]; exact z)⟩
        obtain ⟨i, hi, ei⟩ := List.getElem_of_mem z
        have h1 : M'.loc[i]? = some a := by rw [en, List.getElem?_append_left hi, List.getElem?_eq_getElem hi, ei]
        have := (List.getElem?_inj (List.getElem?_eq_some_iff.mp h1).1 o.nd).mp (h1.trans hj.symm)
        omega
      split at e
      · rename_i ws em
        obtain ⟨vs, h1, h2⟩ := o.cell j a _ hj em
        cases eu : unBy (fzD k M.loc.length m') ws with
        | none => rw [eu] at e; cases e
        | some ds => rw [eu] at e; cases e; exact .lst (.inl ⟨.inl h1, hfree⟩) (RpA.ofBy (fun v w d => fzD_ok g o k v w d) h2 eu)
      · rename_i t lk kvs em
        have c := o.cell j a _ hj em
        cases eu : unByP (fzD k M.loc.length m') kvs with
        | none => rw [eu] at e; cases e
        | some ds =>
          rw [eu] at e
          cases e
          cases t with
          | false => obtain ⟨vs, h1, h2⟩ := c; exact .dK ⟨h1.rd, hfree⟩ (RpP.ofBy (fun v w d => fzD_ok g o k v w d) h2 eu)
          | true => obtain ⟨vs, h1, h2⟩ := c; exact .dT ⟨h1.rd, hfree⟩ (RpP.ofBy (fun v w d => fzD_ok g o k v w d) h2 eu)
      · cases e
theorem fzW_ok (g : Go M H M' H') (o : Ok C M' m' H') {v : V} {w w' : W} (e : fzW M.loc.length m' w = some w') (r : RW C H' M' v w) : RW C H' M v w' := by
  cases w with
  | d x => cases e; exact r.cut g rfl
  | clo j => cases e; exact r.cut g rfl
  | loc j =>
    unfold fzW at e
    simp only at e
    split at e
    · rename_i hj; cases e; exact r.cut g (decide_eq_true hj)
    · cases ed : fzD 3 M.loc.length m' (.loc j) with
      | none => rw [ed] at e; cases e
      | some d => rw [ed] at e; cases e; exact fzD_ok g o 3 v _ d ed r
end
/-- a body's end, the things that it made left behind -/
def dEnd (n : Nat) : SR → R W
  | .nx _ m => if (m.take n).all (Cell.low n) then .ok (.d .none) (m.take n) else .bad
  | .rt w m => match fzW n m w with
    | some w' => if (m.take n).all (Cell.low n) then .ok w' (m.take n) else .bad
    | none => .bad
  | .rtt ws m => match unBy (fzD 3 n m) ws with
    | some ds => if (m.take n).all (Cell.low n) then .ok (.d (.tuple ds)) (m.take n) else .bad
    | none => .bad
  | .exc x _ m => if (m.take n).all (Cell.low n) then .exc x (m.take n) else .bad
  | _ => .bad
def startE (N : Nat) (ws : List W) : Env := ws.map some ++ List.replicate (N - ws.length) none
def runD (N : Nat) (fs : FS) : List W → Sto → R W := fun ws m => dEnd m.length (fs (startE N ws) m)
theorem rs_start {C : Ct} {H : Hp} {M : Ad} {vs : List V} {ws : List W} {N : List Str} (r : RWs C H M vs ws) : RS C H M (L2.start N vs) (startE N.length ws) := by
  refine ⟨by unfold L2.start startE; simp [r.len], fun i w h => ?_⟩
  unfold startE at h
  unfold L2.start
  by_cases hi : i < ws.length
  · rw [List.getElem?_append_left (by simpa using hi), List.getElem?_map] at h
    cases e : ws[i]? with
    | none => rw [e] at h; cases h
    | some w' =>
      rw [e] at h
      cases h
      obtain ⟨v, hv, rv⟩ := r.get e
      refine ⟨v, ?_, rv⟩
      rw [List.getElem?_append_left (by simpa [r.len] using hi), List.getElem?_map, hv]
      rfl
  · rw [List.getElem?_append_right (by simpa using hi), List.getElem?_replicate] at h
    split at h <;> cases h
section
variable {P : Program} {w : World} {K : PySem.W.Frag} {mg : Str → Option Value} {base : Heap} {C : Ct}
theorem spD_len {n : Nat} {F : List W → Sto → R W} {ps : List Str} (hn : n = ps.length) : ∀ vs H Q E, spD C n F vs H Q E → vs.length = ps.length := fun vs H Q E h => h.1.trans hn
/-- a def without defaults; hcd: what is known of its code object -/
theorem def_ok {x qual : Str} {params : Arguments} {body : List Stmt} {scope : Scope} {f : Addr} {fd : FuncData} {N ps : List Str} {k n : Nat} {fs : FS} {Pc : Value → Prop} (F : FunD K x qual params body scope [] [] f fd) (S : FnScope N ps scope) (hn : n = ps.length) (hK : C.K = K) (hpc : Pc fd.code)
    (hbody : ∀ (cdv : Value) (A : Around) (outer : List PySem.Env) (s : Shared) (H : Hp) (E : XK), Pc cdv → Room k (A.deeper (envOfC qual scope s.heap.objs.size f cdv)) →
      DSs (cxOf (L2.CX P w) P w K mg base N qual scope f cdv A outer s H E) C (fun cls d _ H => E cls d H) body fs) : FnOk P w K mg base (L2.CX P w) (k + 1) f fd ps (spD C n (runD N.length fs)) := by
  obtain ⟨oc, od, dV, kV, doc, pm, an, cdv, ct, osl, rfl, lk, hcd, _, _⟩ := F.ex
  refine fn_of lk hcd S (spD_len hn) fun A outer s H vs Q E hr hsp => ⟨_, (hbody cdv A outer s H E hpc hr).pss, ?_⟩
  obtain ⟨hl, M, m, ws, ok, rv, q⟩ := hsp
  refine ⟨M, m, startE N.length ws, ok, rs_start rv, ?_⟩
  unfold runD at q
  have hlen := ok.len
  rw [← hlen] at q
  cases hr : fs (startE N.length ws) m with
  | nx e m' =>
    rw [hr] at q
    unfold dEnd at q
    simp only at q
    split at q
    · rename_i hlow
      exact fun σ' M' H' gg oo rr => q M H' gg.cut (oo.cut gg hlow) .non Rp.non
    · exact q.elim
  | rt w m' =>
    rw [hr] at q
    unfold dEnd at q
    simp only at q
    split at q
    · rename_i w' ew
      split at q
      · rename_i hlow
        exact fun v M' H' gg oo rr => q M H' gg.cut (oo.cut gg hlow) v (fzW_ok gg oo ew rr)
      · exact q.elim
    · exact q.elim
  | rtt ws m' =>
    rw [hr] at q
    unfold dEnd at q
    simp only at q
    split at q
    · rename_i ds ew
      split at q
      · rename_i hlow
        exact fun p vs M' H' gg oo hp rr => q M H' gg.cut (oo.cut gg hlow) (.ref p) (Rp.tup ⟨hp.1, gg.freeSub _ hp.2⟩ (RpA.ofBy (fun v w d => fzD_ok gg oo 3 v w d) rr ew))
      · exact q.elim
    · exact q.elim
  | exc x e m' =>
    rw [hr] at q
    unfold dEnd at q
    simp only at q
    split at q
    · rename_i hlow
      intro σ' M' H' gg oo rr
      have q' := q M H' gg.cut (oo.cut gg hlow)
      cases x with
      | p n => exact q'
      | f n g d => exact fun p v e1 e2 e3 => q' p v e1 (gg.freeSub _ e2) (Rp.sub gg.freeSub e3)
    · exact q.elim
  | bk e m' => rw [hr] at q; exact q.elim
  | ct e m' => rw [hr] at q; exact q.elim
  | bad => rw [hr] at q; exact q.elim
/-- nothing promised -/
theorem fn_bad {CX : CXT} {k n : Nat} {f : Addr} {fd : FuncData} {ps : List Str} (hn : n = ps.length) : FnOk P w K mg base CX k f fd ps (spD C n fun _ _ => .bad) :=
  ⟨spD_len hn, fun A outer s H args us vs Q E hr he hb hv hs => by
    obtain ⟨_, M, m, ws, ok, rv, q⟩ := hs
    exact q.elim⟩
end
/-! ### raise, try -/
section
variable {X : Cx} {C : Ct} {Wx : WX} {f : FE} {st : Stmt} {sts : List Stmt} {s : FS}
theorem dss_dead : DSs X C Wx sts (fun _ _ => .bad) := ⟨⟨fun pins s σ H D I ⟨M, m, e, ok, rs, q⟩ => q.elim⟩⟩
theorem pmk_own0 {x : Str} {p pos : Pos} {Cc : Addr} {bmB : List Value} {B newId initId : String} (F : ExcBaseFacts B newId initId bmB) (q : PySem.W.excIn X.K Cc bmB newId = true) (gC : X.mg x = some (.ref Cc)) (kC : PySem.W.keepIn X.K (.ref Cc) = true) (r : Raises X (.ref Cc)) (hg : Gl X x)
    (hdb : (x == ("__debug__" : Str)) = false := by decide) : PMk X (.Call (.Name x p) [] [] pos) (fun _ H Q => Q (.ref Cc) none H) := by
  intro pins s σ H Q I h
  refine wpAny_Call_Name_kw (ld_glob I hg gC ?_ hdb)
  refine PySem.W.callWith_K0 I.kIn kC ?_
  show wpAny _ _ (call (.ref Cc) []) _ _ _
  obtain ⟨bm, N, nm, qn, bs, hdct, sn, sub, ab, col, dd, k0, k1, k2, k3, k5, mN, hC, hN, hni, T⟩ := exc_obj I.kIn q
  refine wpAny_call_exc_subT F T hC hN hni (fun h' e hm => ?_) (by show 0 ≤ sizeLine; rw [sizeLine_eq]; omega)
  exact mk_of I hm r h (I.hok.gone hm.new)
/-- what is known of an exception's class -/
structure ExF (X : Cx) (C : Ct) (x : Str) : Prop where
  cl : ∃ bmB B newId initId, ExcBaseFacts B newId initId bmB ∧ PySem.W.excIn X.K (C.xa x) bmB newId = true
  gC : X.mg x = some (.ref (C.xa x))
  kC : PySem.W.keepIn X.K (.ref (C.xa x)) = true
  r : Raises X (.ref (C.xa x))
def sRaise (x : Str) : FS := fun e m => .exc (.p x) e m
theorem ds_raise0 {x : Str} {p pos pos2 : Pos} (hc : X.calm = true) (tk : Takes X Wx) (F : ExF X C x) (hg : Gl X x := by rfl) (hdb : (x == ("__debug__" : Str)) = false := by decide) : DS X C Wx (.Raise (some (.Call (.Name x p) [] [] pos)) none pos2) (sRaise x) := by
  obtain ⟨bmB, B, n, i, F1, F2⟩ := F.cl
  exact ⟨PS_imp (ps_raise hc tk (pmk_own0 F1 F2 F.gC F.kC F.r hg hdb)) fun D σ H ⟨M, m, e, ok, rs, q⟩ => q σ M H Go.refl ok rs⟩
end
end Pd

set_option Elab.async false
set_option linter.all false
set_option maxRecDepth 100000
set_option maxHeartbeats 1000000
namespace Pd
open PySem PySem.Spec PyProof.Rows L2
/-! ### short words for what a printer writes -/
section
variable {X : Cx} {C : Ct} {Wx : WX} {a b c : Expr} {f g h : FE} {r : FA} {t u : FT} {pos p : Pos}
def eNeg (f : FE) : FE := fun e m => (f e m).bind fun w m1 => match w with
  | .d (.int i) => .ok (.d (.int (-i))) m1
  | _ => .bad
theorem de_neg (ha : DE X C Wx a f) : DE X C Wx (.UnaryOp .USub a pos) (eNeg f) := ⟨PE_imp (pe_un un_neg ha.pe) fun σ H Q ⟨M, m, e, o, rs, q⟩ => tE_bind o rs q fun v w M1 m1 H1 g1 o1 r1 rv q1 => by
  split at q1
  · cases rv; exact ⟨_, rfl, q1.now o1 _ (Rp.int _)⟩
  · exact q1.elim⟩
/-- a + b of two of one kind -/
def pPlus : W → W → Sto → R W
  | .d (.int i), .d (.int j), m => .ok (.d (.int (i + j))) m
  | .d (.str i), .d (.str j), m => pCatS (.d (.str i)) (.d (.str j)) m
  | .d (.tuple i), .d (.tuple j), m => pCatT (.d (.tuple i)) (.d (.tuple j)) m
  | .d (.list i), .d (.list j), m => pCatL (.d (.list i)) (.d (.list j)) m
  | _, _, _ => .bad
theorem de_plus (ha : DE X C Wx a f) (hb : DE X C Wx b g) (hK : X.K = C.K := by rfl) : DE X C Wx (.BinOp a .Add b pos) (eBin pPlus f g) :=
  de_bin (op_add.or (op_add_str.or (op_catA.or op_catL))) (by
    rw [hK]
    intro σ M m H x y w z Q o rx ry q
    unfold pPlus at q
    split at q
    · exact .inl (od_add (Wx := Wx) (σ := σ) o rx ry q)
    · exact .inr (.inl (od_catS (Wx := Wx) (σ := σ) o rx ry q))
    · exact .inr (.inr (.inl (od_catT (Wx := Wx) (σ := σ) o rx ry q)))
    · exact .inr (.inr (.inr (od_catL (Wx := Wx) (σ := σ) o rx ry q)))
    · exact q.elim) ha hb
theorem dt_eq (hu : X.A.units + 65 < cLine) (ha : DE X C Wx a f) (hb : DE X C Wx b g) (hK : X.K = C.K := by rfl) : DT X C Wx (.Compare a [.Eq] [b] pos) (tV (eBin pEq f g)) := dt_cmp1 (op_eqD (by omega)) (by rw [hK]; exact od_eq) ha hb (nomark _)
theorem dt_ne (hu : X.A.units + 65 < cLine) (ha : DE X C Wx a f) (hb : DE X C Wx b g) (hK : X.K = C.K := by rfl) : DT X C Wx (.Compare a [.NotEq] [b] pos) (tV (eBin pNe f g)) := dt_cmp1 (op_neD (by omega)) (by rw [hK]; exact od_ne) ha hb (nomark _)
theorem dt_lt (ha : DE X C Wx a f) (hb : DE X C Wx b g) : DT X C Wx (.Compare a [.Lt] [b] pos) (tV (eBin pLt f g)) := dt_cmp1 (op_lt.or op_lt_str) od_ord ha hb (nomark _)
theorem dt_gt (ha : DE X C Wx a f) (hb : DE X C Wx b g) : DT X C Wx (.Compare a [.Gt] [b] pos) (tV (eBin pGt f g)) := dt_cmp1 (op_gt.or op_gt_str) od_ord ha hb (nomark _)
theorem dt_ge (ha : DE X C Wx a f) (hb : DE X C Wx b g) : DT X C Wx (.Compare a [.GtE] [b] pos) (tV (eBin pGe f g)) := dt_cmp1 (op_ge.or op_ge_str) od_ord ha hb (nomark _)
theorem dt_is (ha : DE X C Wx a f) (hb : DE X C Wx b g) : DT X C Wx (.Compare a [.Is] [b] pos) (tV (eBin (pIs true) f g)) := dt_cmp1 (op_isN.or op_isBl) od_is ha hb (nomark _)
theorem dt_in (hu : X.A.units + 65 < cLine) (ha : DE X C Wx a f) (hb : DE X C Wx b g) (hK : X.K = C.K := by rfl) (hm : behindInMarks .In b = false := by with_unfolding_all rfl) : DT X C Wx (.Compare a [.In] [b] pos) (tV (eBin (pIn true) f g)) := dt_cmp1 (op_in_str'.or (op_inT hu)) (by rw [hK]; exact od_in true) ha hb hm
theorem dt_notIn (hu : X.A.units + 65 < cLine) (ha : DE X C Wx a f) (hb : DE X C Wx b g) (hK : X.K = C.K := by rfl) (hm : behindInMarks .NotIn b = false := by with_unfolding_all rfl) : DT X C Wx (.Compare a [.NotIn] [b] pos) (tV (eBin (pIn false) f g)) := dt_cmp1 (op_notin_str'.or (op_notInT hu)) (by rw [hK]; exact od_in false) ha hb hm
/-- a <= b <= c: of ints or texts -/
theorem de_lele (ha : DE X C Wx a f) (hb : DE X C Wx b g) (hc : DE X C Wx c h) (hm : lastMarks [.LtE, .LtE] [b, c] = false := by with_unfolding_all rfl) : DE X C Wx (.Compare a [.LtE, .LtE] [b, c] pos) (eChain pLe pLe f g h) := de_chain (op_le.or op_le_str) (op_le.or op_le_str) od_ord od_ord ha hb hc hm
theorem bool_of {C : Ct} {H : Hp} {M : Ad} {m : Sto} {Ex : Exn → Sto → Ad → Hp → Prop} {w : W} {Kk : Bool → Ad → Sto → Hp → Prop} {v : V} (q : Post C Ex M H (toB w m) Kk) (o : Ok C M m H) (rv : RW C H M v w) : ∃ k, v = .bl k ∧ Kk k M m H := by
  cases w with
  | loc n => exact q.elim
  | clo j => exact q.elim
  | d x =>
    cases x with
    | bool k => cases rv; exact ⟨k, rfl, q.now o⟩
    | _ => exact q.elim
theorem dt_lele (ha : DE X C Wx a f) (hb : DE X C Wx b g) (hc : DE X C Wx c h) (hm : lastMarks [.LtE, .LtE] [b, c] = false := by with_unfolding_all rfl) : DT X C Wx (.Compare a [.LtE, .LtE] [b, c] pos) (tV (eChain pLe pLe f g h)) :=
  ⟨PT_imp (pt_chain (op_le.or op_le_str) (op_le.or op_le_str) ha.pe hb.pe hc.pe hm) fun σ H Q ⟨M, m, e, o, rs, q⟩ => by
    have q' := Post.bind q
    unfold eChain at q'
    refine tE_bind o rs q' fun v w M1 m1 H1 g1 o1 r1 rv q1 => tE_bind o1 r1 q1 fun v2 w2 M2 m2 H2 g2 o2 r2 rv2 q2 => od_ord (Wx := Wx) (σ := σ) o2 (rv.go g2) rv2 (Post.mono q2.bind fun z M3 m3 H3 g3 o3 q3 v3 rv3 => ?_)
    cases z with
    | loc n => exact q3.elim
    | clo j => exact q3.elim
    | d z =>
      cases z with
      | bool k =>
        cases rv3
        refine ⟨k, rfl, ?_⟩
        cases k with
        | true => exact tE_bind o3 (r2.go g3) q3 fun v4 w4 M4 m4 H4 g4 o4 r4 rv4 q4 => od_ord (Wx := Wx) (σ := σ) o4 ((rv2.go g3).go g4) rv4 (Post.mono q4 fun w5 M5 m5 H5 g5 o5 q5 v5 rv5 => bool_of q5 o5 rv5)
        | false => exact ⟨false, rfl, Post.now (show Post _ _ _ _ (.ok false m3) _ from q3.now o3) o3⟩
      | _ => exact q3.elim⟩
/-! ### built-ins by name -/
theorem de_tuple {x : Str} (hx : x = "tuple") (hm : X.mg x = none) (ha : DA X C Wx [a] r) (hg : Gl X x := by rfl) (hK : X.K = C.K := by rfl) (he : starEach [a] X.env = (false, eval a X.env) :: starEach [] X.env := by rfl) (hpl : (backTo pos (starEach [] X.env)).any (·.1) = false := by rfl) :
    DE X C Wx (.Call (.Name x p) [a] [] pos) (eB qTup r) := by
  subst hx
  exact de_callT (id := "tuple") call_tuple_of (by rw [hK]; exact cd_tup) hm PyProof.Rows.boot_tuple ha hg (by decide) (by decide) he hpl
theorem de_list {x : Str} (hx : x = "list") (hc : X.calm = true) (hm : X.mg x = none) (ha : DA X C Wx [a] r) (hg : Gl X x := by rfl) (hK : X.K = C.K := by rfl) (he : starEach [a] X.env = (false, eval a X.env) :: starEach [] X.env := by rfl) (hpl : (backTo pos (starEach [] X.env)).any (·.1) = false := by rfl) :
    DE X C Wx (.Call (.Name x p) [a] [] pos) (eB qList r) := by
  subst hx
  exact de_callT (id := "list") (CallR_or call_list_of (call_listS hc)) (by rw [hK]; exact cd_list) hm PyProof.Rows.boot_list ha hg (by decide) (by decide) he hpl
theorem de_toInt {x : Str} (hx : x = "int") (hm : X.mg x = none) (ha : DA X C Wx [a] r) (hg : Gl X x := by rfl) (he : starEach [a] X.env = (false, eval a X.env) :: starEach [] X.env := by rfl) (hpl : (backTo pos (starEach [] X.env)).any (·.1) = false := by rfl) :
    DE X C Wx (.Call (.Name x p) [a] [] pos) (eB qInt r) := by
  subst hx
  exact de_callT (id := "int") call_int1 cd_int hm PyProof.Rows.boot_int ha hg (by decide) (by decide) he hpl
theorem de_sum {x : Str} (hx : x = "sum") (hc : X.calm = true) (hm : X.mg x = none) (ha : DA X C Wx [a] r) (hg : Gl X x := by rfl) (hK : X.K = C.K := by rfl) (he : starEach [a] X.env = (false, eval a X.env) :: starEach [] X.env := by rfl) (hpl : (backTo pos (starEach [] X.env)).any (·.1) = false := by rfl) :
    DE X C Wx (.Call (.Name x p) [a] [] pos) (eB qSum r) := by
  subst hx
  exact de_callB (id := "sum") (cr_sum hc) (by rw [hK]; exact cd_sum) hm PyProof.Rows.boot_sum ha hg (by decide) (by decide) he hpl
theorem de_sortedS {x : Str} (hx : x = "sorted") (hm : X.mg x = none) (ha : DA X C Wx [a] r) (hg : Gl X x := by rfl) (hK : X.K = C.K := by rfl) (he : starEach [a] X.env = (false, eval a X.env) :: starEach [] X.env := by rfl) (hpl : (backTo pos (starEach [] X.env)).any (·.1) = false := by rfl) :
    DE X C Wx (.Call (.Name x p) [a] [] pos) (eB qSortS r) := by
  subst hx
  exact de_callB (id := "sorted") cr_sortedS (by rw [hK]; exact cd_sortS) hm PyProof.Rows.boot_sorted ha hg (by decide) (by decide) he hpl
end
end Pd

set_option Elab.async false
set_option linter.all false
set_option maxRecDepth 100000
set_option maxHeartbeats 1000000
/-! sets whose members are tuples of texts, numbers, None and such tuples -/
namespace Pd
open PySem PySem.Spec PyProof.Rows L2
abbrev Mem := Addr × NestedKey
abbrev memH (w : World) (q : Mem) : Int := q.2.hash w
def memRows (w : World) (L : List Mem) : List (Int × Value) := L.map fun q => (memH w q, Value.ref q.1)
structure KeyIn (h : Heap) (q : Mem) : Prop where
  is : NestedIs h q.2 (.ref q.1)
  dep : q.2.depth ≤ 7
theorem memRows_len (w : World) (L : List Mem) : (memRows w L).length = L.length := List.length_map ..
section
variable {P : Program} {w : World}
def Says (P : Program) (w : World) (s : Shared) (m : Sem Bool) (b : Bool → Prop) : Prop := ∀ (A : Around) (E : Value → Shared → Prop) (Q : Bool → Shared → Prop), (∀ r, b r → Q r s) → wpAny (model P w) A m Q E s
theorem says_pure {s : Shared} {r : Bool} {b : Bool → Prop} (h : b r) : Says P w s (pure r) b := fun A E Q q => wpAny_pure (q r h)
mutual
theorem stmt_key : ∀ (k : NestedKey) (v : Value) (n : Nat) (s : Shared), NestedIs s.heap k v → k.depth ≤ n → Says P w s (ofAClassStatement n v) (· = false)
  | .none, _, n, s, x, _ => by cases x; cases n <;> exact says_pure rfl
  | .num _, _, n, s, x, _ => by cases x <;> cases n <;> exact says_pure rfl
  | .text _, _, n, s, x, _ => by cases x; cases n <;> exact says_pure rfl
  | .tup ks, _, n, s, x, hn => by
    cases x with
    | @tup a o vs m _ ho hc hd hk =>
      simp only [NestedKey.depth] at hn
      cases n with
      | zero => omega
      | succ n =>
        intro A E Q q
        have hT : s.TypeIs (.ref a) "tuple" := ⟨o, ho, hc⟩
        unfold ofAClassStatement
        refine wpAny_bind (wpAny_typeOf hT ?_)
        dsimp only
        have e : (("tuple" : String) == "tuple") = true := by decide
        simp only [e, if_true, Bool.not_true, Bool.false_eq_true, if_false]
        try refine wpAny_bind (wpAny_pure ?_)
        try simp only [Bool.not_true, Bool.false_eq_true, if_false]
        refine wpAny_bind (wpAny_seqItems ho hd ?_)
        dsimp only
        refine wpAny_bind ?_
        show wpAny _ _ (forIn vs _ _) _ _ s
        rw [← Array.forIn_toList]
        refine wpAny_forIn_list _ (fun rest r z => r.1 = none ∧ z = s ∧ ∀ u ∈ rest, u ∈ vs.toList) _ ?_ ?_ _ _ ⟨rfl, rfl, fun u hu => hu⟩
        · intro u rest r z I
          obtain ⟨hr, rfl, hu⟩ := I
          refine wpAny_bind (stmt_keys ks vs.toList n z hk (by omega) u (hu u List.mem_cons_self) _ _ _ fun r2 e2 => ?_)
          subst e2
          simp only [Bool.false_eq_true, if_false]
          exact wpAny_pure ⟨rfl, rfl, fun y hy => hu y (List.mem_cons_of_mem _ hy)⟩
        · intro r z I
          obtain ⟨r1, r2⟩ := r
          obtain ⟨hr, rfl, _⟩ := I
          simp only at hr
          subst hr
          exact wpAny_pure (q _ rfl)
theorem stmt_keys : ∀ (ks : List NestedKey) (vs : List Value) (n : Nat) (s : Shared), NestedAll s.heap ks vs → NestedKey.depthAll ks ≤ n → ∀ v ∈ vs, Says P w s (ofAClassStatement n v) (· = false)
  | [], _, n, s, x, _, v, hv => by cases x; cases hv
  | k :: ks, _, n, s, x, hn, v, hv => by
    cases x with
    | cons x1 x2 =>
      simp only [NestedKey.depthAll] at hn
      rcases List.mem_cons.mp hv with e | hv
      · rw [e]; exact stmt_key k _ n s x1 (by omega)
      · exact stmt_keys ks _ n s x2 (by omega) v hv
end
mutual
/-- the hash by value: some answer, and nothing else -/
theorem byVal_key : ∀ (k : NestedKey) (v : Value) (n : Nat) (s : Shared), NestedIs s.heap k v → k.depth ≤ n → Says P w s (hashByValue n v) (fun _ => True)
  | .none, _, n, s, x, _ => by cases x; cases n <;> exact says_pure trivial
  | .num _, _, n, s, x, _ => by cases x <;> cases n <;> exact says_pure trivial
  | .text _, _, n, s, x, _ => by cases x; cases n <;> exact says_pure trivial
  | .tup ks, _, n, s, x, hn => by
    cases x with
    | @tup a o vs m _ ho hc hd hk =>
      simp only [NestedKey.depth] at hn
      cases n with
      | zero => omega
      | succ n =>
        intro A E Q q
        have hT : s.TypeIs (.ref a) "tuple" := ⟨o, ho, hc⟩
        unfold hashByValue
        refine wpAny_bind (wpAny_specialOf hT F.slot_tuple_hash.lookup ?_)
        show wpAny _ _ (seqItems? (.ref a) >>= _) _ _ s
        refine wpAny_bind (wpAny_seqItems ho hd ?_)
        refine wpAny_bind ?_
        show wpAny _ _ (forIn vs _ _) _ _ s
        rw [← Array.forIn_toList]
        refine wpAny_forIn_list _ (fun rest r z => r.1 = none ∧ z = s ∧ ∀ u ∈ rest, u ∈ vs.toList) _ ?_ ?_ _ _ ⟨rfl, rfl, fun u hu => hu⟩
        · intro u rest r z I
          obtain ⟨hr, rfl, hu⟩ := I
          refine wpAny_bind (byVal_keys ks vs.toList n z hk (by omega) u (hu u List.mem_cons_self) _ _ _ fun r2 _ => ?_)
          cases r2 with
          | true =>
            simp only [Bool.not_true, Bool.false_eq_true, if_false]
            exact wpAny_pure ⟨rfl, rfl, fun y hy => hu y (List.mem_cons_of_mem _ hy)⟩
          | false =>
            simp only [Bool.not_false, if_true]
            refine wpAny_pure ?_
            exact wpAny_pure (q _ trivial)
        · intro r z I
          obtain ⟨r1, r2⟩ := r
          obtain ⟨hr, rfl, _⟩ := I
          simp only at hr
          subst hr
          exact wpAny_pure (q _ trivial)
theorem byVal_keys : ∀ (ks : List NestedKey) (vs : List Value) (n : Nat) (s : Shared), NestedAll s.heap ks vs → NestedKey.depthAll ks ≤ n → ∀ v ∈ vs, Says P w s (hashByValue n v) (fun _ => True)
  | [], _, n, s, x, _, v, hv => by cases x; cases hv
  | k :: ks, _, n, s, x, hn, v, hv => by
    cases x with
    | cons x1 x2 =>
      simp only [NestedKey.depthAll] at hn
      rcases List.mem_cons.mp hv with e | hv
      · rw [e]; exact byVal_key k _ n s x1 (by omega)
      · exact byVal_keys ks _ n s x2 (by omega) v hv
end
/-- members ask each other nothing that is seen -/
theorem unseen {s : Shared} {q : Mem} (hq : KeyIn s.heap q) {ys : List Value} (hy : ∀ y ∈ ys, ∃ p : Mem, y = Value.ref p.1 ∧ KeyIn s.heap p) : Says P w s (searchCouldBeSeen (.ref q.1) ys) (· = false) := by
  intro A E Q h
  unfold searchCouldBeSeen
  refine wpAny_bind ?_
  refine wpAny_forIn_list _ (fun rest r z => r.1 = none ∧ z = s ∧ ∀ u ∈ rest, u ∈ ys) _ ?_ ?_ _ _ ⟨rfl, rfl, fun u hu => hu⟩
  · intro u rest r z I
    obtain ⟨hr, rfl, hu⟩ := I
    obtain ⟨p, rfl, hp⟩ := hy u (hu u List.mem_cons_self)
    have I' : ∀ y ∈ rest, y ∈ ys := fun y hy => hu y (List.mem_cons_of_mem _ hy)
    dsimp only
    by_cases same : (q.1 == p.1 || (carriedByValue (.ref q.1) && carriedByValue (.ref p.1))) = true
    · refine wp_if_pos same ?_
      exact wpAny_pure ⟨rfl, rfl, I'⟩
    · refine wp_if_neg same ?_
      refine wpAny_bind (quiet_key q.2 _ 8 z hq.is (Nat.le_succ_of_le hq.dep) _ _ _ ?_)
      simp only [Bool.not_true, Bool.false_eq_true, if_false]
      refine wpAny_bind (quiet_key p.2 _ 8 z hp.is (Nat.le_succ_of_le hp.dep) _ _ _ ?_)
      simp only [Bool.not_true, Bool.false_eq_true, if_false]
      refine wpAny_bind (stmt_key q.2 _ 8 z hq.is (Nat.le_succ_of_le hq.dep) _ _ _ fun r2 e2 => ?_)
      subst e2
      simp only [Bool.false_eq_true, if_false]
      refine wpAny_bind (stmt_key p.2 _ 8 z hp.is (Nat.le_succ_of_le hp.dep) _ _ _ fun r2 e2 => ?_)
      subst e2
      simp only [Bool.false_eq_true, if_false]
      exact wpAny_pure ⟨rfl, rfl, I'⟩
  · intro r z I
    obtain ⟨r1, r2⟩ := r
    obtain ⟨hr, rfl, _⟩ := I
    simp only at hr
    subst hr
    exact wpAny_pure (h _ rfl)
end
end Pd

set_option Elab.async false
set_option linter.all false
set_option maxRecDepth 100000
set_option maxHeartbeats 2000000
namespace Pd
open PySem PySem.Spec PyProof.Rows L2
structure MSet (w : World) (h : Heap) (a : Addr) (L : List Mem) (es : Array (Int × Value)) (ep : Nat) (t : SetTable) : Prop where
  ob : ∃ o, h.get? a = some o ∧ o.ExactSet ∧ o.data = .set es ep t
  rows : es.toList = memRows w L
  tab : TabOk t (L.map (memH w))
  nd : (L.map (·.2)).Nodup
  key : ∀ q ∈ L, KeyIn h q
  room : L.length * 5 < t.mask * 3
  few : L.length < 64
  led : w.params.followText "set-order" = true ∨ t.led = true
section
variable {P : Program} {w : World} {A : Around} {E : Value → Shared → Prop} {s : Shared} {a : Addr} {L : List Mem} {es : Array (Int × Value)} {ep : Nat} {t : SetTable}
theorem rows_size {L : List Mem} (h : es.toList = memRows w L) : es.size = L.length := by rw [← Array.length_toList, h, memRows_len]
theorem rows_at {L : List Mem} (h : es.toList = memRows w L) {i : Nat} {q : Mem} (hi : L[i]? = some q) : es[i]? = some (memH w q, Value.ref q.1) := by
  rw [← Array.getElem?_toList, h]
  unfold memRows
  rw [List.getElem?_map, hi]
  rfl
theorem fits_of {n : Nat} (hd : t.dummies = #[]) (hs : t.place.size = n) (hm : n ≤ t.mask) : t.fits n = true := by
  unfold SetTable.fits SetTable.fill
  rw [hd, Bool.and_eq_true, beq_iff_eq, decide_eq_true_eq]
  exact ⟨hs, by show t.place.size + 0 ≤ _; omega⟩
theorem MSet.placed {h : Heap} (S : MSet w h a L es ep t) : t.place.size = L.length := by have h := S.tab.sz; rwa [List.length_map] at h
theorem MSet.fit {h : Heap} (S : MSet w h a L es ep t) : t.fits es.size = true := by
  have h1 := S.room
  rw [rows_size S.rows]
  exact fits_of S.tab.dm S.placed (by omega)
theorem probe_clean (m : Nat) : ∀ (n : Nat) (q : SetTable.Probe), q.dummy = none → (nth m q n).dummy = none
  | 0, _, h => h
  | n + 1, q, h => probe_clean m n (adv m q) (by unfold adv; split <;> exact h)
abbrev walk0 (t : SetTable) (z : Int) : SetTable.Probe := runAt t.mask (SetTable.bits z % (t.mask + 1)) (SetTable.bits z)

theorem put_perm' {α : Type} (L : List α) (p : Nat) (x : α) : (L.take p ++ x :: L.drop p).Perm (x :: L) := by
  have h := List.perm_middle (a := x) (l₁ := L.take p) (l₂ := L.drop p)
  rwa [List.take_append_drop] at h
/-- the search, from the c-th place of the way on; K is the way's first empty place -/
theorem mset_search (S : MSet w s.heap a L es ep t) {x : Mem} (hx : KeyIn s.heap x) (hu : A.units + 8 < cLine) {K : Nat} (hKf : K < 10 * SetTable.turns t.mask)
    (hK : way t.mask (memH w x) K ∉ t.place.toList) (hKb : ∀ c, c < K → way t.mask (memH w x) c ∈ t.place.toList) {Q : SetFound → Shared → Prop}
    (hin : x.2 ∈ L.map (·.2) → Q (.there none) s) (hout : x.2 ∉ L.map (·.2) → Q (.free (way t.mask (memH w x) K) false) s) :
    ∀ (f c : Nat) (st : Option SetTable.Probe), st.getD (t.probeStart (memH w x)) = nth t.mask (walk0 t (memH w x)) c → c ≤ K → K - c < f →
      (∀ (i : Nat) q, L[i]? = some q → q.2 = x.2 → ∃ d, c ≤ d ∧ d < K ∧ t.place.toList[i]? = some (way t.mask (memH w x) d)) →
      wpAny (model P w) A (setSearchFrom a (.ref x.1) (memH w x) true f st) Q E s
  | 0, c, st, _, _, hf, _ => absurd hf (Nat.not_lt_zero _)
  | f + 1, c, st, hst, hc, hf, ahead => by
    obtain ⟨o, ho, hex, hd⟩ := S.ob
    have odd : ¬ t.gaveWay = true := by unfold SetTable.gaveWay; rw [mask_odd S.tab.mok]; decide
    rw [setSearchFrom_succ]
    refine wpAny_bind (wpAny_setState_of ho hd S.fit ?_)
    dsimp only
    refine wp_if_neg odd ?_
    try refine wpAny_bind (wpAny_pure ?_)
    have later : ∀ n, nth t.mask (nth t.mask (walk0 t (memH w x)) c) n = nth t.mask (walk0 t (memH w x)) (c + n) := fun n => (nth_add t.mask c _ n).symm
    have laterJ : ∀ n, (nth t.mask (nth t.mask (walk0 t (memH w x)) c) n).j = way t.mask (memH w x) (c + n) := fun n => congrArg SetTable.Probe.j (later n)
    have toK : c + (K - c) = K := by omega
    have found := go_spec t S.tab.ris S.tab.dm (fun i => (es[i]?.map (·.1)).getD 0) (memH w x) (10 * SetTable.turns t.mask) (K - c) _ (probe_clean t.mask c _ rfl) (by omega)
      (fun n hn => by rw [laterJ]; exact hKb (c + n) (by omega)) (by rw [laterJ, toK]; exact hK)
    have hashOf : ∀ (i : Nat) q, L[i]? = some q → (es[i]?.map (·.1)).getD 0 = memH w q := fun i q hq => by rw [rows_at S.rows hq]; rfl
    rcases found with ⟨n, i, hn, hi, hh, before, met⟩ | ⟨before, met⟩
    · -- somebody with this hash
      rw [laterJ] at hi
      have met' : t.probe (fun i => (es[i]?.map (·.1)).getD 0) (memH w x) (st.getD (t.probeStart (memH w x))) = some (.candidate (way t.mask (memH w x) (c + n)) i (nth t.mask (walk0 t (memH w x)) (c + (n + 1)))) := by
        rw [hst, ← laterJ, ← later]
        exact met
      rw [met']
      dsimp only
      have hil : i < L.length := by
        have h1 : i < t.place.toList.length := (List.getElem?_eq_some_iff.mp hi).1
        rwa [Array.length_toList, S.placed] at h1
      have hq : L[i]? = some L[i] := List.getElem?_eq_getElem hil
      generalize L[i] = q at hq
      have mem : q ∈ L := List.mem_of_getElem? hq
      have hqk := S.key q mem
      have go : wpAny (model P w) A (searchRest a (.ref x.1) (memH w x) true f es t (way t.mask (memH w x) (c + n)) i (nth t.mask (walk0 t (memH w x)) (c + (n + 1)))) Q E s := by
        unfold searchRest
        rw [rows_at S.rows hq]
        dsimp only
        refine wpAny_bind (wpAny_holding (eqAt_key q.2 x.2 A s _ _ hqk.is hx.is (by have := hqk.dep; omega) _ _ _ _ ?_))
        refine wpAny_bind (wpAny_setState_of ho hd S.fit ?_)
        dsimp only
        rw [← NestedKey.decide_eq]
        by_cases same : q.2 = x.2
        · refine wp_if_pos (by simp [same]) ?_
          exact wpAny_pure (hin (List.mem_map.mpr ⟨q, mem, same⟩))
        · refine wp_if_neg (by simp [same]) ?_
          try refine wpAny_bind (wpAny_pure ?_)
          rw [sameMem]
          dsimp only
          have here : t.slot (way t.mask (memH w x) (c + n)) = .live i := slot_live S.tab.ris hi
          simp only [if_true, here, rows_at S.rows hq]
          refine wpAny_bind (wpAny_isSame_ref_self (wpAny_bind (wpAny_pure ?_)))
          simp only [if_true]
          refine wp_if_neg (by simp [same]) ?_
          refine mset_search S hx hu hKf hK hKb hin hout f (c + (n + 1)) _ rfl (by omega) (by omega) fun i0 q0 h0 k0 => ?_
          obtain ⟨d, d1, d2, d3⟩ := ahead i0 q0 h0 k0
          refine ⟨d, ?_, d2, d3⟩
          rcases Nat.lt_trichotomy d (c + n) with z | z | z
          · exact (before (d - c) i0 (by omega) (by rw [laterJ, show c + (d - c) = d by omega]; exact d3) ((hashOf i0 q0 h0).trans (congrArg (NestedKey.hash w) k0))).elim
          · rw [z] at d3
            have e0 := slot_live S.tab.ris d3
            rw [here] at e0
            injection e0 with e0
            rw [← e0, hq] at h0
            exact (same ((congrArg Prod.snd (Option.some.inj h0)).trans k0)).elim
          · omega
      by_cases led : t.led = true
      · refine wp_if_neg (by simp [led]) ?_
        try refine wpAny_bind (wpAny_pure ?_)
        exact go
      · refine wp_if_pos (by simp [led]) ?_
        refine wpAny_bind (unseen hx (fun y hy => ?_) _ _ _ fun r e => ?_)
        · obtain ⟨u, hu1, hu2⟩ := List.mem_map.mp hy
          have h1 : u ∈ es.toList := by
            have : u ∈ es ∧ u.1 = memH w x := by simpa using hu1
            simpa using this.1
          rw [S.rows] at h1
          obtain ⟨p, hp, rfl⟩ := List.mem_map.mp h1
          exact ⟨p, hu2.symm, S.key p hp⟩
        · subst e
          refine wp_if_neg (by decide) ?_
          try refine wpAny_bind (wpAny_pure ?_)
          exact go
    · -- nobody
      have met' : t.probe (fun i => (es[i]?.map (·.1)).getD 0) (memH w x) (st.getD (t.probeStart (memH w x))) = some (.empty (way t.mask (memH w x) K) none) := by
        have e2 : way t.mask (memH w x) K = (nth t.mask (nth t.mask (walk0 t (memH w x)) c) (K - c)).j := by rw [laterJ, toK]
        rw [hst, e2]
        exact met
      rw [met']
      dsimp only
      refine wpAny_pure (hout fun hm => ?_)
      obtain ⟨q0, m0, k0⟩ := List.mem_map.mp hm
      obtain ⟨i0, h0⟩ := List.mem_iff_getElem?.mp m0
      obtain ⟨d, d1, d2, d3⟩ := ahead i0 q0 h0 k0
      exact before (d - c) i0 (by omega) (by rw [laterJ, show c + (d - c) = d by omega]; exact d3) ((hashOf i0 q0 h0).trans (congrArg (NestedKey.hash w) k0))
theorem mset_find (S : MSet w s.heap a L es ep t) {x : Mem} (hx : KeyIn s.heap x) (hu : A.units + 8 < cLine) {Q : SetFound → Shared → Prop}
    (hin : x.2 ∈ L.map (·.2) → Q (.there none) s)
    (hout : ∀ K, x.2 ∉ L.map (·.2) → way t.mask (memH w x) K ∉ t.place.toList → (∀ c, c < K → way t.mask (memH w x) c ∈ t.place.toList) → Q (.free (way t.mask (memH w x) K) false) s) :
    wpAny (model P w) A (setSearch a (.ref x.1) (memH w x) true) Q E s := by
  have free := S.room
  obtain ⟨K, hKf, hK, hKb⟩ := S.tab.first (by rw [List.length_map]; omega) (memH w x)
  have small : 10 * SetTable.turns t.mask ≤ 1420 := by
    unfold SetTable.turns
    rcases S.tab.mok with e | e | e <;> omega
  unfold setSearch
  refine mset_search S hx hu hKf hK hKb hin (fun no => hout K no hK hKb) 100000 0 none rfl (Nat.zero_le _) (by omega) fun i q hq hk => ?_
  have h1 : (L.map (memH w))[i]? = some (memH w x) := by
    rw [List.getElem?_map, hq]
    exact congrArg (fun z => some (NestedKey.hash w z)) hk
  have h2 : i < t.place.toList.length := by rw [Array.length_toList, S.placed]; exact (List.getElem?_eq_some_iff.mp hq).1
  have h3 := List.getElem?_eq_getElem h2
  obtain ⟨d, hd, e⟩ := S.tab.before hK h1 h3
  exact ⟨d, Nat.zero_le _, hd, by rw [h3, e]⟩

/-! ### storing -/
theorem key_same {h h' : Heap} {q : Mem} {o : Obj} (x : KeyIn h q) (ho : h.get? a = some o) (hd : o.data = .set es ep t) (hs : Heap.SameBut a h h') : KeyIn h' q :=
  ⟨NestedIs.at (fun b ob vs n hb hc => (hs.2 b fun e => by
    subst e
    rw [ho] at hb
    cases hb
    rw [hd] at hc
    cases hc).trans hb) q.2 _ x.is, x.dep⟩
theorem key_kept {h h' : Heap} {q : Mem} (x : KeyIn h q) (hk : ∀ c o, h.get? c = some o → h'.get? c = some o) : KeyIn h' q := ⟨NestedIs.at (fun b ob vs n hb _ => hk b ob hb) q.2 _ x.is, x.dep⟩
theorem put_rows (L : List Mem) (p : Nat) (x : Mem) : memRows w (L.take p ++ x :: L.drop p) = (memRows w L).take p ++ (memH w x, Value.ref x.1) :: (memRows w L).drop p := by
  unfold memRows
  rw [List.map_append, List.map_cons, List.map_take, List.map_drop]
/-- rows in another order are rows of the members in that order -/
theorem rows_order (order : List Nat) (h : es.toList = memRows w L) (hl : ∀ i ∈ order, i < L.length) :
    order.filterMap (es[·]?) = memRows w (order.filterMap (L[·]?)) ∧ (order.filterMap (L[·]?)).map (memH w) = order.map fun i => (es.map (·.1)).getD i 0 := by
  induction order with
  | nil => exact ⟨rfl, rfl⟩
  | cons i r ih =>
    have hi := hl i List.mem_cons_self
    obtain ⟨e1, e2⟩ := ih fun j hj => hl j (List.mem_cons_of_mem _ hj)
    have g := List.getElem?_eq_getElem hi
    have ge := rows_at h g
    refine ⟨?_, ?_⟩
    · rw [List.filterMap_cons_some ge, List.filterMap_cons_some g, e1]
      rfl
    · rw [List.filterMap_cons_some g, List.map_cons, List.map_cons, e2]
      have : (es.map (·.1))[i]? = some (memH w L[i]) := by rw [Array.getElem?_map, ge]; rfl
      simp [Array.getD_eq_getD_getElem?, this]
theorem all_in_order (l : List Mem) : ∀ n, n ≤ l.length → (List.range n).filterMap (fun i => l[i]?) = l.take n
  | 0, _ => rfl
  | n + 1, h => by
    have g := List.getElem?_eq_getElem (show n < l.length from h)
    rw [List.range_succ, List.filterMap_append, all_in_order l n (Nat.le_of_succ_le h), List.take_succ, g, List.filterMap_cons_some g]
    rfl
theorem mset_relay {o : Obj} (ho : s.heap.get? a = some o) (hex : o.ExactSet) (hd : o.data = .set es ep t) (hr : es.toList = memRows w L) (hp : t.place.size = L.length) (hdm : t.dummies = #[]) (hfl : L.length ≤ t.mask)
    (nd : (L.map (·.2)).Nodup) (key : ∀ q ∈ L, KeyIn s.heap q) (few : L.length < 64) {wanted M : Nat} (hw : SetTable.sizeAbove wanted - 1 = M) (hM : MaskOk M) (hw2 : SetTable.sizeAbove wanted ≤ 128) (hn : L.length * 5 < M * 3) (hl : w.params.followText "set-order" = true ∨ t.led = true) {Q : Unit → Shared → Prop}
    (q : ∀ h' L' es' ep' t', Heap.SameBut a s.heap h' → MSet w h' a L' es' ep' t' → L'.Perm L → Q () { s with heap := h' }) : wpAny (model P w) A (setRelay a wanted) Q E s := by
  have hsz := rows_size hr
  obtain ⟨t2, order, e, perm, T, em, el, _, _⟩ := relaid_ok t (hs := es.map (·.1)) (wanted := wanted) hw hM (by rw [Array.size_map, hsz]; omega)
  rw [Array.size_map, hsz] at perm
  obtain ⟨r1, r2⟩ := rows_order order.toList hr fun i hi => List.mem_range.mp (perm.mem_iff.mp hi)
  have pL : (order.toList.filterMap fun i => L[i]?).Perm L := by
    have := perm.filterMap fun i => L[i]?
    rwa [all_in_order L L.length (Nat.le_refl _), List.take_length] at this
  rw [← r2] at T
  have r3 : (order.filterMap (es[·]?)).toList = memRows w (order.toList.filterMap fun i => L[i]?) := by rw [Array.toList_filterMap]; exact r1
  have hs2 : (order.filterMap (es[·]?)).size = es.size := by rw [rows_size r3, pL.length_eq, hsz]
  rw [setRelay_eq]
  refine wpAny_bind (wpAny_setState_of ho hd (by rw [hsz]; exact fits_of hdm hp hfl) ?_)
  dsimp only
  refine wp_if_neg (by rw [sizeLine_eq]; omega) ?_
  try refine wpAny_bind (wpAny_pure ?_)
  rw [e]
  dsimp only
  refine wpAny_bind ?_
  refine wp_if_neg (by rw [hs2]; simp) ?_
  try refine wpAny_bind (wpAny_pure ?_)
  refine wpAny_pure ?_
  dsimp only
  refine wpAny_storeSet_of ho hd ?_ (by rw [hs2, hsz, sizeLine_eq]; omega)
  have sb : Heap.SameBut a s.heap (s.heap.update a (Obj.putSet (order.filterMap (es[·]?)) t2)) := Heap.SameBut.update ..
  exact q _ _ _ (ep + 1) t2 sb ⟨⟨_, store_at ho hd, ⟨hex.1, hex.2.1, hex.2.2⟩, rfl⟩, r3, T, (pL.map (·.2)).nodup_iff.mpr nd, fun z hz => key_same (key z (pL.mem_iff.mp hz)) ho hd sb, by rw [pL.length_eq, em]; exact hn, by rw [pL.length_eq]; exact few, hl.imp id fun z => by rw [el]; exact z⟩ pL
theorem TabOk.unplain {t : SetTable} {hs : List Int} (T : TabOk t hs) {b : Bool} : TabOk { t with plain := b } hs := ⟨T.ris, T.dm, T.sz, T.mok, T.bd, T.reach⟩
/-- adding a member whose hash is told -/
theorem mset_add (S : MSet w s.heap a L es ep t) {x : Mem} (hx : KeyIn s.heap x) (hu : A.units + 8 < cLine) (hfew : L.length + 1 < 64) {Q : Bool → Shared → Prop}
    (q : ∀ b h' L' es' ep' t', Heap.SameBut a s.heap h' → MSet w h' a L' es' ep' t' → (x.2 ∈ L.map (·.2) → L' = L) → (x.2 ∉ L.map (·.2) → L'.Perm (x :: L)) → Q b { s with heap := h' }) :
    wpAny (model P w) A (setAddHashed a (.ref x.1) (memH w x)) Q E s := by
  obtain ⟨o, ho, hex, hd⟩ := S.ob
  have hsz := rows_size S.rows
  have free := S.room
  unfold setAddHashed
  refine wpAny_holding ?_
  rw [show (100000 : Nat) = 99999 + 1 from rfl, setAddHashedIn_succ]
  refine wpAny_bind (wpAny_setState_of ho hd S.fit ?_)
  dsimp only
  refine wp_if_neg (by simp [byScan, Value.scannable]) ?_
  try refine wpAny_bind (wpAny_pure ?_)
  refine wpAny_bind (mset_find S hx hu (fun hm => ?_) fun K hm hK hb => ?_)
  · dsimp only
    exact wpAny_pure (q false s.heap L es ep t (Heap.SameBut.refl a s.heap) S (fun _ => rfl) fun z => absurd hm z)
  · dsimp only
    refine wpAny_bind (wpAny_setState_of ho hd S.fit ?_)
    dsimp only
    obtain ⟨q1, q2, q3, q4, q5, _, _, _, q9⟩ := S.tab.put hK hb
    generalize t.put (way t.mask (memH w x) K) = pt at q1 q3 q4 q5 q9 ⊢
    obtain ⟨t1, p⟩ := pt
    dsimp only at q1 q3 q4 q5 q9 ⊢
    subst q1
    have rows1 : (SetTable.insertAt es (SetTable.below t.place (way t.mask (memH w x) K)) (memH w x, Value.ref x.1)).toList = memRows w (L.take (SetTable.below t.place (way t.mask (memH w x) K)) ++ x :: L.drop (SetTable.below t.place (way t.mask (memH w x) K))) := by
      rw [SetTable.toList_insertAt, put_rows, S.rows]
    generalize SetTable.below t.place (way t.mask (memH w x) K) = p at q2 q3 rows1 ⊢
    have pm := put_perm' L p x
    have hs1 : (L.take p ++ x :: L.drop p).map (memH w) = (L.map (memH w)).take p ++ memH w x :: (L.map (memH w)).drop p := by
      rw [List.map_append, List.map_cons, List.map_take, List.map_drop]
    rw [← hs1] at q3
    generalize SetTable.insertAt es p (memH w x, Value.ref x.1) = es1 at rows1 ⊢
    generalize L.take p ++ x :: L.drop p = L1 at pm q3 rows1
    have len1 : L1.length = L.length + 1 := pm.length_eq
    have sz1 : es1.size = L.length + 1 := by rw [rows_size rows1, len1]
    have nd1 : (L1.map (·.2)).Nodup := (pm.map (·.2)).nodup_iff.mpr (List.nodup_cons.mpr ⟨hm, S.nd⟩)
    have mask1 : t1.mask = t.mask := q4
    -- whatever is told of the hash by value
    have rest : ∀ t2 : SetTable, TabOk t2 (L1.map (memH w)) → t2.mask = t.mask → t2.fill = L.length + 1 → t2.led = t.led →
        wpAny (model P w) A (storeSet a es1 t2) (fun _ s' => wpAny (model P w) A (do
          if !false && t2.tooFull then setRelay a (SetTable.grown (es.size + 1))
          return true) Q E s') E s := fun t2 T2 m2 f2 l2 => by
      have ld : w.params.followText "set-order" = true ∨ t2.led = true := S.led.imp id fun z => by rw [l2]; exact z
      refine wpAny_storeSet_of ho hd ?_ (by rw [sz1, sizeLine_eq]; omega)
      have sb : Heap.SameBut a s.heap (s.heap.update a (Obj.putSet es1 t2)) := Heap.SameBut.update ..
      have ho1 := store_at (es' := es1) (t' := t2) ho hd
      generalize s.heap.update a (Obj.putSet es1 t2) = h1 at sb ho1 ⊢
      have key1 : ∀ z ∈ L1, KeyIn h1 z := fun z hz => by
        rcases List.mem_cons.mp (pm.mem_iff.mp hz) with e | hz
        · rw [e]; exact key_same hx ho hd sb
        · exact key_same (S.key z hz) ho hd sb
      by_cases full : t2.tooFull = true
      · have fullN : (L.length + 1) * 5 ≥ t2.mask * 3 := by
          have h := full
          unfold SetTable.tooFull at h
          rwa [decide_eq_true_eq, f2] at h
        have which : (t.mask = 7 ∧ L.length = 4) ∨ (t.mask = 31 ∧ L.length = 18) := by
          rcases S.tab.mok with e | e | e
          · left; rw [m2, e] at fullN; rw [e] at free; exact ⟨e, by omega⟩
          · right; rw [m2, e] at fullN; rw [e] at free; exact ⟨e, by omega⟩
          · exfalso; rw [m2, e] at fullN; omega
        have go : ∀ M, SetTable.sizeAbove (SetTable.grown (L.length + 1)) - 1 = M → MaskOk M → SetTable.sizeAbove (SetTable.grown (L.length + 1)) ≤ 128 → (L.length + 1) * 5 < M * 3 →
            wpAny (model P w) A (setRelay a (SetTable.grown (L.length + 1))) (fun _ s' => wpAny (model P w) A (pure true) Q E s') E { s with heap := h1 } := fun M e1 e2 e3 e4 => by
          refine mset_relay (s := { s with heap := h1 }) ho1 ⟨hex.1, hex.2.1, hex.2.2⟩ rfl rows1 (by have := T2.sz; rwa [List.length_map] at this) T2.dm (by rw [len1, m2]; rcases which with ⟨a1, a2⟩ | ⟨a1, a2⟩ <;> omega) nd1 key1 (by omega) e1 e2 e3 (by rw [len1]; exact e4) ld ?_
          intro h2 L2 es2 ep2 t3 sb2 S2 pm2
          exact wpAny_pure (q true h2 L2 es2 ep2 t3 (sb.trans sb2) S2 (fun z => absurd z hm) fun _ => pm2.trans pm)
        rw [hsz]
        first
          | (refine wpAny_bind ?_; refine wp_if_pos (by simp [full]) ?_)
          | (refine wp_if_pos (by simp [full]) ?_; refine wpAny_bind ?_)
        rcases which with ⟨_, e2⟩ | ⟨_, e2⟩
        · exact go 31 (by rw [e2, size_20]) (.inr (.inl rfl)) (by rw [e2, size_20]; decide) (by omega)
        · exact go 127 (by rw [e2, size_76]) (.inr (.inr rfl)) (by rw [e2, size_76]; decide) (by omega)
      · first
          | refine wp_if_neg (by simp [full]) ?_
          | (refine wpAny_bind ?_; refine wp_if_neg (by simp [full]) ?_; refine wpAny_pure ?_)
        refine wpAny_pure (q true h1 L1 es1 (ep + 1) t2 sb ⟨⟨_, ho1, ⟨hex.1, hex.2.1, hex.2.2⟩, rfl⟩, rows1, T2, nd1, key1, ?_, by omega, ld⟩ (fun z => absurd z hm) fun _ => pm)
        have h := full
        unfold SetTable.tooFull at h
        rw [decide_eq_true_eq, f2] at h
        rw [len1]
        omega
    have fill1 : t1.fill = L.length + 1 := by rw [q9, List.length_map]
    have fillP : ∀ b, ({ t1 with plain := b } : SetTable).fill = L.length + 1 := fun b => fill1
    cases hpl : t1.plain with
    | true =>
      first
        | (refine wpAny_bind ?_; refine wp_if_pos rfl ?_; refine byVal_key x.2 _ 8 s hx.is (Nat.le_succ_of_le hx.dep) _ _ _ fun r _ => ?_)
        | refine wp_if_pos rfl (wpAny_bind (byVal_key x.2 _ 8 s hx.is (Nat.le_succ_of_le hx.dep) _ _ _ fun r _ => ?_))
      cases r with
      | true =>
        simp only [if_true]
        exact wpAny_bind (rest t1 q3 mask1 fill1 q5)
      | false =>
        simp only [Bool.false_eq_true, if_false]
        exact wpAny_bind (rest _ (TabOk.unplain q3) mask1 (fillP _) q5)
    | false =>
      first
        | (refine wpAny_bind ?_; refine wp_if_neg (by decide) ?_; refine wpAny_pure ?_)
        | refine wp_if_neg (by decide) (wpAny_bind (wpAny_pure ?_))
      simp only [if_true]
      exact wpAny_bind (rest t1 q3 mask1 fill1 q5)
end
end Pd

set_option Elab.async false
set_option linter.all false
set_option maxRecDepth 100000
set_option maxHeartbeats 3200000
namespace Pd
open PySem PySem.Spec PyProof.Rows L2
/-- what is in the set of the first i of ks -/
structure From (ks : List Mem) (i : Nat) (L : List Mem) : Prop where
  sub : ∀ q ∈ L, q ∈ ks.take i
  all : ∀ q ∈ ks.take i, q.2 ∈ L.map (·.2)
  len : L.length ≤ i
theorem From.none (ks : List Mem) : From ks 0 [] := ⟨fun _ h => (nomatch h), fun _ h => (by simp at h), Nat.le_refl _⟩
theorem From.next {ks L L' : List Mem} {i : Nat} {x : Mem} (g : From ks i L) (hx : ks[i]? = some x) (c1 : x.2 ∈ L.map (·.2) → L' = L) (c2 : x.2 ∉ L.map (·.2) → L'.Perm (x :: L)) : From ks (i + 1) L' := by
  have tk : ks.take (i + 1) = ks.take i ++ [x] := by rw [List.take_succ, hx]; rfl
  rcases Classical.em (x.2 ∈ L.map (·.2)) with c | c
  · rw [c1 c]
    refine ⟨fun q hq => by rw [tk]; exact List.mem_append_left _ (g.sub q hq), fun q hq => ?_, Nat.le_succ_of_le g.len⟩
    rw [tk] at hq
    rcases List.mem_append.mp hq with z | z
    · exact g.all q z
    · rw [List.mem_singleton.mp z]; exact c
  · have pm := c2 c
    refine ⟨fun q hq => ?_, fun q hq => ?_, ?_⟩
    · rw [tk]
      rcases List.mem_cons.mp (pm.mem_iff.mp hq) with e | z
      · rw [e]; exact List.mem_append_right _ (List.mem_singleton.mpr rfl)
      · exact List.mem_append_left _ (g.sub q z)
    · rw [(pm.map (·.2)).mem_iff, List.map_cons]
      rw [tk] at hq
      rcases List.mem_append.mp hq with z | z
      · exact List.mem_cons_of_mem _ (g.all q z)
      · rw [List.mem_singleton.mp z]; exact List.mem_cons_self
    · rw [pm.length_eq, List.length_cons]; exact Nat.succ_le_succ g.len
section
variable {P : Program} {w : World} {A : Around} {E : Value → Shared → Prop} {s : Shared}
theorem MSet.kept {h h' : Heap} {a : Addr} {L : List Mem} {es : Array (Int × Value)} {ep : Nat} {t : SetTable} (S : MSet w h a L es ep t) (ha : ∀ o, h.get? a = some o → h'.get? a = some o) (hk : ∀ q ∈ L, KeyIn h' q) : MSet w h' a L es ep t :=
  let ⟨o, ho, r⟩ := S.ob
  ⟨⟨o, ha o ho, r⟩, S.rows, S.tab, S.nd, hk, S.room, S.few, S.led⟩
abbrev bareSet (w : World) : Obj := { cls := .type "set", dict := none, data := .set #[] 0 (.fresh 0 0 (!w.params.followText "set-order")) }
theorem mset_bare {h : Heap} {a : Addr} (ho : h.get? a = some (bareSet w)) : MSet w h a [] #[] 0 (.fresh 0 0 (!w.params.followText "set-order")) where
  ob := ⟨_, ho, ⟨rfl, rfl, rfl⟩, rfl⟩
  rows := rfl
  tab := ⟨List.Pairwise.nil, rfl, rfl, .inl rfl, fun x hx => (nomatch hx), fun i h j hi => (by simp at hi)⟩
  nd := List.nodup_nil
  key := fun _ h => nomatch h
  room := by show 0 * 5 < 7 * 3; decide
  few := by show 0 < 64; decide
  led := by
    show w.params.followText "set-order" = true ∨ (!w.params.followText "set-order") = true
    cases w.params.followText "set-order" <;> simp
/-- the loop that fills the set -/
theorem mset_fill {I : Addr} {fp wr : List Addr} {G : Array GenState → Array GenState → Prop} {n : Nat} {Pv : Nat → Value → Prop} {St : Nat → Shared → Prop} {R : Result → Shared → Prop}
    (W : WalksS P w A.in1 I fp wr G n Pv St) (S : Addr) (out : S ∉ fp) (ks : List Mem) (hn : n = ks.length) (hfew : ks.length < 64) (item : ∀ i v, Pv i v → ∃ q, ks[i]? = some q ∧ v = .ref q.1)
    (h0 : Heap) (hk : ∀ q ∈ ks, KeyIn h0 q) (S0 : h0.get? S = none) (w0 : ∀ b ∈ wr, h0.get? b = none) (hu : A.in1.units + 8 < cLine) :
    ∀ (k i : Nat) (s : Shared), n - i = k → i ≤ n → St i s → (∀ b o, h0.get? b = some o → s.heap.get? b = some o) → (∃ L es ep t, MSet w s.heap S L es ep t ∧ From ks i L) →
      (∀ z L es ep t, Moved (S :: wr) G s z → MSet w z.heap S L es ep t → From ks n L → (∀ b o, h0.get? b = some o → z.heap.get? b = some o) → R (.ok (.ret .none)) z) →
      codeAny (model P w) A (.builtin "set.update.loop" ⟨[.ref S, .ref I], []⟩) R s := by
  have hSw : S ∉ wr := fun h => out (W.sub _ h)
  have up : ∀ b ∈ wr, b ∈ S :: wr := fun b hb => List.mem_cons_of_mem _ hb
  have stays : ∀ {s z : Shared}, Moved wr G s z → (∀ b o, h0.get? b = some o → s.heap.get? b = some o) → ∀ b o, h0.get? b = some o → z.heap.get? b = some o := fun hm hkp b o e =>
    hm.heap b o (fun hb => by rw [w0 b hb] at e; cases e) (hkp b o e)
  intro k
  induction k with
  | zero =>
    intro i s left hi hst hkp have_ hR
    obtain ⟨L, es, ep, t, hS, g⟩ := have_
    obtain rfl : i = n := by omega
    refine codeAny_builtin F.entry_set_update_loop ?_
    rw [Around.under_plainId F.plain_set_update_loop _]
    refine wpAny_bind (W.done s _ _ hst fun z hm => ?_)
    have kp := stays hm hkp
    have sub : ∀ q ∈ L, q ∈ ks := fun q hq => List.mem_of_mem_take (g.sub q hq)
    exact wpAny_pure (hR z L es ep t (hm.mono up) (hS.kept (fun o e => hm.heap S o hSw e) fun q hq => key_kept (hk q (sub q hq)) kp) g kp)
  | succ k ih =>
    intro i s left hi hst hkp have_ hR
    obtain ⟨L, es, ep, t, hS, g⟩ := have_
    have hlt : i < n := by omega
    refine codeAny_builtin F.entry_set_update_loop ?_
    rw [Around.under_plainId F.plain_set_update_loop _]
    refine wpAny_bind (W.item i s _ _ hlt hst fun v z hP hst' hm => ?_)
    obtain ⟨q, hq, rfl⟩ := item i v hP
    have kp := stays hm hkp
    have sub : ∀ q ∈ L, q ∈ ks := fun q hq => List.mem_of_mem_take (g.sub q hq)
    have hS' := hS.kept (fun o e => hm.heap S o hSw e) fun q hq => key_kept (hk q (sub q hq)) kp
    have hx : KeyIn z.heap q := key_kept (hk q (List.mem_of_getElem? hq)) kp
    show wpAny _ A.in1 (holding [Value.ref q.1] (setAdd S (.ref q.1)) >>= _) _ _ z
    refine wpAny_bind (wpAny_holding ?_)
    unfold setAdd
    refine wpAny_holding ?_
    refine wpAny_bind (pyHash_key q.2 _ _ z _ hx.is (by have := hx.dep; omega) ?_)
    refine mset_add (s := { z with toks := z.toks + q.2.draws }) hS' hx hu (by have := g.len; omega) fun b h' L' es' ep' t' same S2 c1 c2 => ?_
    have kp2 : ∀ b o, h0.get? b = some o → h'.get? b = some o := fun b o e => (same.2 b (fun y => by rw [y, S0] at e; cases e)).trans (kp b o e)
    refine wpAny_pure ⟨plainId_quiet F.plain_set_update_loop _, ih (i + 1) _ (by omega) hlt (W.frame _ z _ _ hst' (Nat.le_add_right _ _) fun b hb o e => ?_) kp2 ⟨L', es', ep', t', S2, g.next hq c1 c2⟩ fun y L2 es2 ep2 t2 hm2 S3 g3 kp3 => ?_⟩
    · rw [same.2 b fun h : b = S => out (h ▸ hb)]; exact e
    · refine hR y L2 es2 ep2 t2 (Moved.trans W.gtrans ((hm.mono up).then_heap (Nat.le_add_right _ _) fun b o hb e => ?_) hm2) S3 g3 kp3
      rw [same.2 b fun h : b = S => hb (h ▸ List.mem_cons_self)]; exact e
/-- set(t) of a tuple -/
theorem call_mset {l : Addr} {items : Array Value} (ks : List Mem) {Q : Value → Shared → Prop} (hh : A.handled = none) (hl : s.heap.IsTuple l items) (hit : items.toList = ks.map fun q => Value.ref q.1)
    (hk : ∀ q ∈ ks, KeyIn s.heap q) (hfew : ks.length < 64) (hu : A.units + 16 < cLine)
    (h : ∀ (h' : Heap) (tk : Nat) L es ep t, MSet w h' s.heap.objs.size L es ep t → From ks ks.length L → (∀ b o, s.heap.get? b = some o → h'.get? b = some o) → Q (.ref s.heap.objs.size) { s with heap := h', toks := tk }) :
    wpAny (model P w) A (call (.type "set") [.ref l]) Q E s := by
  have hisz : items.size = ks.length := by rw [← Array.length_toList, hit, List.length_map]
  obtain ⟨c, tl, hmro⟩ := F.called_set.mro
  have hmade := F.called_set.made
  have hsub := F.called_set.sub
  have h1 := F.called_set.notType
  have h2 := F.called_set.canCreate
  have hct := F.typeCall_set_1 (.ref l)
  refine wpAny_call (codeAny_of_tree ?_)
  show wpAny _ _ (callAny (.type "set") _) _ _ _
  refine wpAny_pure ⟨Code.quiet_builtin _ (by decide +kernel), codeAny_builtin F.entry_type_call ?_⟩
  rw [Around.under_plain (weight_type_call_type "set" [.ref l] []) rfl]
  repeat (any_goals (first | assumption | wp_step))
  refine codeAny_mono (code_set_led1 (.ref l) (E := E) (Q₁ := fun ob z => ob = .ref s.heap.objs.size ∧ z = { s with heap := s.heap.push (bareSet w) }) ⟨rfl, rfl⟩) fun r z hr => ?_
  cases r with
  | error e => exact hr
  | ok fl =>
    cases fl with
    | ret ob =>
      obtain ⟨rfl, rfl⟩ := hr
      have hS : (s.heap.push (bareSet w)).get? s.heap.objs.size = some (bareSet w) := Heap.get?_push_size _ rfl
      have hT : Shared.TypeIs { s with heap := s.heap.push (bareSet w) } (.ref s.heap.objs.size) "set" := ⟨_, hS, rfl⟩
      have hli := F.called_set.init.lookup
      have hbi := F.called_set.init.bind (.ref s.heap.objs.size)
      repeat (any_goals (first | assumption | wp_step))
      refine codeAny_mono (codeAny_call_builtin (R := wants (fun r z => r = .none ∧ ∃ h' tk L es ep t, z = { s with heap := h', toks := tk } ∧ MSet w h' s.heap.objs.size L es ep t ∧ From ks ks.length L ∧
          (∀ b o, s.heap.get? b = some o → h'.get? b = some o)) E) F.called_set.init.plain F.entry_set_init (check_set_init_1 hT ?_)) fun r2 z2 hr2 => ?_
      · obtain ⟨ol, hol, hcl, nl, hdl⟩ := hl
        obtain ⟨ocls, odict, odata, oslots⟩ := ol
        simp only at hcl hdl
        subst hcl; subst hdl
        have hol2 : (s.heap.push (bareSet w)).get? l = some { cls := .type "tuple", dict := odict, data := .seq items nl, slots := oslots } := Heap.get?_push_of_some _ hol
        have f1 := F.sub_tuple_set
        have f2 := F.sub_tuple_frozenset
        have f3 : (Value.type "tuple" == Value.type "dict") = false := by decide
        have hl1 : (s.heap.push (bareSet w)).IsTuple l items := ⟨_, hol2, rfl, nl, rfl⟩
        unfold Builtin.«set.__init__» noKeywords Builtin.Frozenset.updateFrom
        generalize hPI : pyIter = PI
        wp_walk
        subst hPI
        refine wpAny_pyIter_tuple hl1 ?_
        refine wpAny_bind (wpAny_runValue ?_)
        have hlS : l < s.heap.objs.size := Heap.lt_size hol
        have quiet3 : A.in1.in1.in1.handled = none := by simp [hh]
        have sz : (s.heap.push (bareSet w)).objs.size = s.heap.objs.size + 1 := Heap.size_push ..
        have hneI : l ≠ (s.heap.push (bareSet w)).objs.size := by rw [sz]; exact Nat.ne_of_lt (Nat.lt_succ_of_lt hlS)
        have out : s.heap.objs.size ∉ [(s.heap.push (bareSet w)).objs.size, l] := by
          rw [sz]; simp only [List.mem_cons, List.mem_singleton, List.not_mem_nil, or_false, not_or]
          exact ⟨Nat.ne_of_lt (Nat.lt_succ_self _), Nat.ne_of_gt hlS⟩
        have item : ∀ (i : Nat) (v : Value), items[i]? = some v → ∃ q, ks[i]? = some q ∧ v = .ref q.1 := fun i v hv => by
          rw [← Array.getElem?_toList, hit, List.getElem?_map] at hv
          obtain ⟨q, e1, e2⟩ := Option.map_eq_some_iff.mp hv
          exact ⟨q, e1, e2.symm⟩
        have none_of : ∀ b, s.heap.objs.size ≤ b → s.heap.get? b = none := fun b hb => by
          cases q : s.heap.get? b with
          | none => rfl
          | some o => exact absurd (Nat.lt_of_lt_of_le (Heap.lt_size q) hb) (Nat.lt_irrefl _)
        refine mset_fill ((Walks.tuple quiet3 _ l hneI items).toS) s.heap.objs.size
          out ks hisz hfew item s.heap hk (none_of _ (Nat.le_refl _)) (fun b hb => none_of b (by
            rw [List.mem_singleton.mp hb, sz]
            exact Nat.le_succ _)) (by simp only [Around.in1_units] at *; omega) (items.size - 0) 0 _ (by omega) (Nat.zero_le _)
          ⟨⟨_, Heap.get?_push_size _ rfl, rfl, rfl⟩, (hl1.push _)⟩ (fun b o e => Heap.get?_push_of_some _ (Heap.get?_push_of_some _ e)) ⟨[], #[], 0, _, mset_bare (Heap.get?_push_of_some _ hS), From.none ks⟩ ?hR
        case hR =>
          intro z L es ep t hm hS2 g2 hkp
          obtain ⟨h', g', d', tk', os'⟩ := z
          obtain rfl : g' = s.gens := hm.gens
          obtain rfl : d' = s.drawn := hm.drawn
          obtain rfl : os' = s.os := hm.os
          refine wpAny_pure ?_
          show wpAny _ _ (ret Value.none) _ _ _
          rw [hisz] at g2
          exact wpAny_pure ⟨rfl, h', tk', L, es, ep, t, rfl, hS2, g2, hkp⟩
      · cases r2 with
        | error e => exact hr2
        | ok fl2 =>
          cases fl2 with
          | ret r =>
            obtain ⟨rfl, h', tk, L, es, ep, t, rfl, hS2, g2, hk2⟩ := hr2
            repeat (any_goals (first | assumption | wp_step))
            exact h _ _ _ _ _ _ hS2 g2 hk2
          | _ => exact hr2.elim
    | _ => exact hr.elim
end
end Pd

set_option Elab.async false
set_option linter.all false
set_option maxRecDepth 100000
set_option maxHeartbeats 1000000
namespace Pd
open PySem PySem.Spec PyProof.Rows L2
section
variable {X : Cx} {C : Ct} {Wx : WX} {a b c : Expr} {f g h : FE} {r : FA} {t u : FT} {pos p p2 pos2 : Pos}
def pairS : PyData → Option (Str × Str)
  | .tuple [.str x, .str y] => some (x, y)
  | _ => none
def pairsS : List PyData → Option (List (Str × Str))
  | [] => some []
  | d :: ds => match pairS d, pairsS ds with
    | some p, some ps => some (p :: ps)
    | _, _ => none
/-- len(set(v)), v a tuple of pairs of texts -/
def eLenSet (f : FE) : FE := fun e m => (f e m).bind fun w m1 => match w with
  | .d (.tuple ds) => match pairsS ds with
    | some ps => if ps.length < 64 then .ok (.d (.int ps.eraseDups.length)) m1 else .bad
    | none => .bad
  | _ => .bad
def pairK (q : Str × Str) : NestedKey := .tup [.text q.1, .text q.2]
theorem pairK_inj {q z : Str × Str} (h : pairK q = pairK z) : q = z := by
  unfold pairK at h
  injection h with h
  injection h with h1 h2
  injection h1 with h1
  injection h2 with h2 _
  injection h2 with h2
  exact Prod.ext h1 h2
theorem dups_len_nd {α : Type} [BEq α] [LawfulBEq α] : ∀ (n : Nat) (l : List α), l.length ≤ n → l.eraseDups.Nodup
  | _, [], _ => by simp
  | n + 1, x :: l, h => by
    rw [List.eraseDups_cons]
    refine List.nodup_cons.mpr ⟨fun z => ?_, dups_len_nd n _ (Nat.le_trans (List.length_filter_le _ _) (Nat.le_of_succ_le_succ h))⟩
    rw [List.mem_eraseDups, List.mem_filter] at z
    simp at z
theorem from_len {ps : List (Str × Str)} {ks L : List Mem} (hk : ks.map (·.2) = ps.map pairK) (nd : (L.map (·.2)).Nodup) (g : From ks ks.length L) : L.length = ps.eraseDups.length := by
  have n2 : (ps.eraseDups.map pairK).Nodup := (List.Pairwise.map _ (fun _ _ h e => h (pairK_inj e)) (dups_len_nd _ ps (Nat.le_refl _)))
  have pm : (L.map (·.2)).Perm (ps.eraseDups.map pairK) := (List.perm_ext_iff_of_nodup nd n2).mpr fun z => by
    constructor
    · intro hz
      obtain ⟨q, hq, rfl⟩ := List.mem_map.mp hz
      have h1 : q.2 ∈ ks.map (·.2) := List.mem_map.mpr ⟨q, List.mem_of_mem_take (g.sub q hq), rfl⟩
      rw [hk] at h1
      obtain ⟨p, hp, e⟩ := List.mem_map.mp h1
      exact List.mem_map.mpr ⟨p, List.mem_eraseDups.mpr hp, e⟩
    · intro hz
      obtain ⟨p, hp, rfl⟩ := List.mem_map.mp hz
      have h1 : pairK p ∈ ks.map (·.2) := by rw [hk]; exact List.mem_map.mpr ⟨p, List.mem_eraseDups.mp hp, rfl⟩
      obtain ⟨q, hq, e⟩ := List.mem_map.mp h1
      rw [← e]
      exact g.all q (by rw [List.take_length]; exact hq)
  have := pm.length_eq
  rwa [List.length_map, List.length_map] at this
theorem pairS_of {d : PyData} {q : Str × Str} (h : pairS d = some q) : d = .tuple [.str q.1, .str q.2] := by
  unfold pairS at h
  split at h
  · cases h; rfl
  · cases h
theorem pairs_mem {pins : List (Addr × Obj)} {σ : St} {H : Hp} {M : Ad} {s : Shared} (I : Inv X pins σ H s) : ∀ {ds : List PyData} {vs : List V} {ps : List (Str × Str)}, RpA X.K H M vs ds → pairsS ds = some ps →
    ∃ ks : List Mem, vs = ks.map (fun q => V.ref q.1) ∧ ks.map (·.2) = ps.map pairK ∧ ∀ q ∈ ks, KeyIn s.heap q
  | [], _, _, rr, e => by cases rr; cases e; exact ⟨[], rfl, rfl, fun _ h => (nomatch h)⟩
  | d :: ds, _, ps, rr, e => by
    cases rr with | cons x y =>
    unfold pairsS at e
    split at e
    · rename_i q ps' e1 e2
      cases e
      have ed := pairS_of e1
      subst ed
      obtain ⟨ks, h1, h2, h3⟩ := pairs_mem I y e2
      cases x with | @tup b xs _ x1 x2 =>
      cases x2 with | cons a1 a2 =>
      cases a2 with | cons a3 a4 =>
      cases a1; cases a3; cases a4
      obtain ⟨its, rv, ⟨o, ho, hc, n, hd⟩, _⟩ := I.tuple x1.sq
      refine ⟨(b, pairK q) :: ks, by rw [h1]; rfl, by rw [List.map_cons, List.map_cons, h2], fun z hz => ?_⟩
      rcases List.mem_cons.mp hz with e | hz
      · subst e
        refine ⟨.tup ho hc hd ?_, by show (pairK q).depth ≤ 7; unfold pairK; simp [NestedKey.depth, NestedKey.depthAll]⟩
        cases rv with | cons r1 r2 =>
        cases r2 with | cons r3 r4 =>
        cases r4
        obtain ⟨t1, rfl⟩ := r1
        obtain ⟨t2, rfl⟩ := r3
        exact .cons (.text _ _) (.cons (.text _ _) .nil)
      · exact h3 z hz
    · cases e
theorem vals_mem : ∀ {ks : List Mem} {us : List Value}, Vals (ks.map fun q => V.ref q.1) us → us = ks.map fun q => Value.ref q.1
  | [], _, .nil => rfl
  | q :: ks, _, .cons r t => by cases r; rw [vals_mem t]; rfl
theorem de_lenSet {x y : Str} (hx : x = "len") (hy : y = "set") (hc : X.calm = true) (hu : X.A.units + 65 < cLine) (hm : X.mg x = none) (hm2 : X.mg y = none) (ha : DE X C Wx a f) (hg : Gl X x := by rfl) (hg2 : Gl X y := by rfl) (hK : X.K = C.K := by rfl)
    (na : starEach [a] X.env = (false, eval a X.env) :: starEach [] X.env := by rfl) : DE X C Wx (.Call (.Name x p) [.Call (.Name y p2) [a] [] pos2] [] pos) (eLenSet f) := by
  subst hx hy
  refine ⟨⟨fun pins s σ H Q I h => ?_⟩⟩
  obtain ⟨M, m, e, o, rs, q⟩ := h
  refine Call_ (ld_blt I hg hm PySem.boot_len ?_)
  refine PyProof.Rows.callWith_builtin1 (PyProof.Rows.args_cons ?_ rfl) rfl rfl
  refine Call_ (ld_blt I hg2 hm2 PyProof.Rows.boot_set ?_)
  refine PyProof.Rows.callWith_type1 (PyProof.Rows.args_cons (thn (ha.pe.run pins s σ H (fun v H1 => ∃ l M1 ds ps m1, v = .ref l ∧ Ok C M1 m1 H1 ∧ Rp C.K H1 M1 (.ref l) (.tuple ds) ∧ pairsS ds = some ps ∧ ps.length < 64 ∧ Q (.int ps.eraseDups.length) H1) I
    (tE_bind o rs q fun v w M1 m1 H1 g1 o1 r1 rv q1 => ?_)) fun v s1 ⟨x, H1, I1, r1, q1⟩ => PyProof.Rows.args_nil ?_) na) na rfl
  · split at q1
    · split at q1
      · rename_i ds _ ps e1
        split at q1
        · rename_i hl
          cases rv with | tup h1 h2 =>
          exact ⟨_, M1, ds, ps, m1, rfl, o1, .tup h1 h2, e1, hl, q1.now o1 _ (Rp.int _)⟩
        · exact q1.elim
      · exact q1.elim
    · exact q1.elim
  · obtain ⟨l, M1, ds, ps, m1, rfl, o1, rv, e1, hl, q1⟩ := q1
    obtain rfl : v = Value.ref l := r1
    rw [← hK] at rv
    cases rv with | @tup _ vs _ h1 h2 =>
    obtain ⟨its, rv, pl, _⟩ := I1.tuple h1.sq
    obtain ⟨ks, k1, k2, k3⟩ := pairs_mem I1 h2 e1
    subst k1
    have kl : ks.length = ps.length := by have := congrArg List.length k2; rwa [List.length_map, List.length_map] at this
    refine call_mset ks (I1.ok.hd hc) pl (by simpa using vals_mem rv) k3 (by omega) (by omega) fun h' tk L es ep t S fr hk => ?_
    have len := from_len k2 S.nd fr
    refine PyProof.Rows.args_nil ?_
    obtain ⟨ob, ho, hex, hd⟩ := S.ob
    have I2 : Inv X pins σ H1 { s1 with heap := h', toks := tk } := I1.kept hk
    refine call_len_set ho hex hd S.fit (by rw [rows_size S.rows]; have := S.few; omega) ⟨.int ps.eraseDups.length, H1, I2.tok _, ⟨_, congrArg (fun n : Nat => Value.int (n : Int) _) ((rows_size S.rows).trans len)⟩, q1⟩
end
end Pd

set_option Elab.async false
set_option linter.all false
set_option maxRecDepth 100000
set_option maxHeartbeats 1000000
namespace Pd
open PySem PySem.Spec PyProof.Rows L2
theorem rpA_ints {K : PySem.W.Frag} {H : Hp} {M : Ad} : ∀ ns : List Int, RpA K H M (ns.map V.int) (ns.map PyData.int)
  | [] => .nil
  | n :: ns => .cons (.int n) (rpA_ints ns)
/-- the law's def at a script -/
theorem law_spD {C : Ct} {F : List W → Sto → R W} {H : Hp} {a : Addr} {ns : List Int} {m' : Sto} (ht : ∀ P ∈ C.T, H P = some (.tbl #[])) (hl : ∀ p ∈ C.L, H p.1 = some (.tbl #[])) (hS : SqL C.K H a (ns.map V.int)) (e : F [.d (.list (ns.map PyData.int))] [] = .ok (.d (.bool true)) m') :
    spD C 1 F [.ref a] H (fun v _ => v = .bl true) fun _ _ _ => False := by
  refine ⟨rfl, ⟨[], []⟩, [], [.d (.list (ns.map PyData.int))], ⟨⟨fun P hP => ⟨#[], ht P hP, trivial⟩, fun p hp => LamX.TabS.nil (hl p hp)⟩, rfl, fun n a c h _ => (by simp at h), List.nodup_nil, fun a h => (by cases h), fun a h => (by cases h)⟩, .cons (Rp.lst ?_ (rpA_ints ns)) .nil, ?_⟩
  · exact hS.imp (fun z => ⟨z, by exact ⟨fun h => (by cases h), fun h => (by cases h)⟩⟩) id
  · rw [e]
    exact fun M' H' g o v r => by cases r; rfl
end Pd

set_option Elab.async false
set_option linter.all false
set_option maxRecDepth 100000
set_option maxHeartbeats 2000000
namespace Pd
open PySem PySem.Spec PyProof.Rows L2
open Sem (wp)
open AutoSeq1 (wpAny_loadPart')
/-! ### enumerate of a list, a tuple -/
section
variable {X : Cx} {C : Ct} {Wx : WX} {a b c : Expr} {f : FE} {r : FA} {p pos : Pos}
def enumW : Nat → List PyData → List W
  | _, [] => []
  | i, d :: ds => .d (.tuple [.int (i : Nat), d]) :: enumW (i + 1) ds
/-- enumerate(xs): a list or a tuple -/
def iEn (r : FA) : FI := fun e m => (r e m).bind fun ws m1 => match ws with
  | [a] => match seqW a with
    | some ds => .ok (enumW 0 ds) m1
    | none => .bad
  | _ => .bad
end
end Pd

set_option Elab.async false
set_option linter.all false
set_option maxRecDepth 100000
set_option maxHeartbeats 1000000
namespace Pd
open PySem PySem.Spec PyProof.Rows L2
/-! ### walks over lists that may change (and do not, meanwhile); comprehensions that give such lists -/
section
variable {X : Cx} {C : Ct} {Wx : WX} {a b c o e : Expr} {es : List Expr} {f g h : FE} {r : FA} {t u : FT} {pos p apos cpos : Pos} {st : Stmt} {sts : List Stmt} {s s1 s2 : FS}
abbrev Gd := Sto → Prop
abbrev FIG := Env → Sto → R (List W × Gd)
structure ServesG (C : Ct) (M : Ad) (H : Hp) (J : It) (items : List W) (G : Gd) : Prop where
  go : ∀ M0 M' H', Hd M H M0 → Go M0 H M' H' → ∀ m', Ok C M' m' H' → G m' → ∀ i, i < items.length → J.go i H'
  stop : ∀ M0 M' H', Hd M H M0 → Go M0 H M' H' → ∀ m', Ok C M' m' H' → G m' → J.stop items.length H'
  yld : ∀ M0 M' H', Hd M H M0 → Go M0 H M' H' → ∀ i w, items[i]? = some w → ∀ x H'', J.yld i H' x H'' → ∀ m', Ok C M' m' H' → G m' → Go M' H' M' H'' ∧ RW C H'' M' x w ∧ Ok C M' m' H''
def tIG (C : Ct) (Wx : WX) (f : FIG) : TI := fun σ H Q => ∃ M m e, Ok C M m H ∧ RS C H M σ e ∧ Post C (ExW C Wx σ) M H (f e m) fun p M' m' H' => ∀ J, ServesG C M' H' J p.1 p.2 → Q J H'
structure DIG (X : Cx) (C : Ct) (Wx : WX) (tg iter : Expr) (f : FIG) : Prop where
  pi : PI X tg iter (tIG C Wx f)
/-- whatever is walked without a guard -/
def iG (it : FI) : FIG := fun e m => (it e m).bind fun items m1 => .ok (items, fun _ => True) m1
open Classical in
noncomputable def loopFG (G : Gd) (tg : FG) (body : FS) : List W → FS
  | [], e, m => if G m then .nx e m else .bad
  | w :: ws, e, m => if G m then match tg w e with
    | none => .bad
    | some e1 => match body e1 m with
      | .nx e2 m2 => loopFG G tg body ws e2 m2
      | .ct e2 m2 => loopFG G tg body ws e2 m2
      | .bk e2 m2 => .nx e2 m2
      | z => z
    else .bad
noncomputable def sForG (it : FIG) (tg : FG) (body : FS) : FS := fun e m => ofR e (it e m) fun p m1 => loopFG p.2 tg body p.1 e m1
open Classical in
noncomputable def loopCG (G : Gd) (tg : FG) (tt : FT) (f : FE) (e : Env) : List W → List PyData → Sto → R (List PyData)
  | [], acc, m => if G m then .ok acc m else .bad
  | w :: ws, acc, m => if G m then match tg w e with
    | none => .bad
    | some e1 => (noX (tt e1 m)).bind fun k m1 => if k then (noX (f e1 m1)).bind fun z m2 => match unW z with
        | some d => if acc.length < sizeLine then loopCG G tg tt f e ws (acc ++ [d]) m2 else .bad
        | none => .bad
      else loopCG G tg tt f e ws acc m1
    else .bad
/-- the made list: data, or one that may change -/
def finD : List PyData → Sto → R W := fun ds m => .ok (.d (.list ds)) m
def finC : List PyData → Sto → R W := fun ds m => .ok (.loc m.length) (m ++ [.lst (ds.map W.d)])
noncomputable def eLcG (fin : List PyData → Sto → R W) (vs : List Nat) (it : FIG) (tg : FG) (tt : FT) (f : FE) : FE := fun e m => (it e m).bind fun p m1 => (loopCG p.2 tg tt f (wipeE e vs) p.1 [] m1).bind fun ds m2 => fin ds m2
def FinOk (C : Ct) (fin : List PyData → Sto → R W) : Prop := ∀ {Ex : Exn → Sto → Ad → Hp → Prop} {M1 M : Ad} {m : Sto} {H1 H : Hp} {D : Addr} {us : List V} {acc : List PyData} {Q : VK}, Go M1 H1 M.show' H → M.hid = D :: M1.hid → (∀ a ∈ M1.hid, a ≠ D) → Ok C M m H → H1 D = none → H D = some (.lst us) → D ∉ M.loc → RpA C.K H M us acc →
  Post C Ex M1 H1 (fin acc m) (fun w' M' m' H' => ∀ v, RW C H' M' v w' → Q v H') → Q (.ref D) H
theorem show_eq {M M1 : Ad} {D : Addr} (h : M.hid = D :: M1.hid) : M.show' = ⟨M.loc, M1.hid⟩ := by unfold Ad.show'; rw [h]; rfl
theorem finD_ok : FinOk C finD := fun {Ex M1 M m H1 H D us acc Q} gs hh hn o hD e nD r q => by
  have hs := show_eq hh
  exact q _ _ gs o.shows (.ref D) (Rp.lst (.inl ⟨.inl e, by rw [hs]; exact ⟨nD, fun z => hn D z rfl⟩⟩) (RpA.shows r))
theorem tLcG_of {fin : List PyData → Sto → R W} (hfin : FinOk C fin) {vs : List Nat} {it : FIG} {gt : FG} {tt : FT} : ∀ σ H Q, tE C Wx (eLcG fin vs it gt tt f) σ H Q → tLc (tIG C Wx it) (gD C vs gt) (tT C W0 tt) (tE C W0 f) vs σ H Q := fun σ H Q ⟨M, m, e, ok, rs, q⟩ => by
  refine ⟨M, m, e, ok, rs, Post.mono q.bind fun items0 M1 m1 H1 g1 o1 q1 J sv D hD => ?_⟩
  obtain ⟨items, G⟩ := items0
  simp only at sv q1
  have rs1 : RS C H1 M1 σ e := rs.go g1
  have hdD : Hd M1 H1 (M1.hide D) := Hd.hide hD
  generalize hr0 : ((loopCG G gt tt f (wipeE e vs) items [] m1).bind fun ds m2 => fin ds m2) = r0 at q1
  refine ⟨fun i k H' => k = items.length - i ∧ i ≤ items.length ∧ ∃ M' m' us acc, Go (M1.hide D) H1 M' H' ∧ Ok C M' m' H' ∧ D ∉ M'.loc ∧ H' D = some (.lst us) ∧ RpA C.K H' M' us acc ∧
    r0 = ((loopCG G gt tt f (wipeE e vs) (items.drop i) acc m').bind fun ds m2 => fin ds m2),
    ⟨items.length, rfl, Nat.zero_le _, M1.hide D, m1, [], [], ⟨⟨[], by simp, by simp⟩, rfl, fun a u e1 _ _ => ⟨u, by rw [upd_ne (ne_of_none e1 hD)]; exact e1, rfl⟩, fun a e1 => by
      by_cases z : a = D
      · subst z; exact hD
      · rw [upd_ne z] at e1; exact e1, fun a b u e1 => by rw [upd_ne (ne_of_none e1 hD)]; exact e1, fun a _ u e1 _ => by rw [upd_ne (ne_of_none e1 hD)]; exact e1⟩, o1.hides hD (busy_lst []), (o1.free hD).1, upd_same, .nil, hr0.symm⟩, ?_⟩
  rintro i k H' ⟨rfl, hi', M', m', us, acc, gg, oo, nD, eD, ra, er⟩
  have hidD : D ∈ M'.hid := by rw [gg.hid]; exact List.mem_cons_self
  by_cases hlt : i < items.length
  · rw [List.drop_eq_getElem_cons hlt] at er
    unfold loopCG at er
    by_cases hG : G m'
    case neg => rw [if_neg hG] at er; rw [er] at q1; exact q1.elim
    rw [if_pos hG] at er
    refine .inr ⟨sv.go _ M' H' hdD gg _ oo hG i hlt, fun H2 => ∃ M' m' us acc, Go (M1.hide D) H1 M' H2 ∧ Ok C M' m' H2 ∧ D ∉ M'.loc ∧ H2 D = some (.lst us) ∧ RpA C.K H2 M' us acc ∧
      r0 = ((loopCG G gt tt f (wipeE e vs) (items.drop (i + 1)) acc m').bind fun ds m2 => fin ds m2), fun H2 h => ⟨items.length - (i + 1), by omega, rfl, hlt, h⟩, fun x H2 hy => ?_⟩
    obtain ⟨g2, rx, o2⟩ := sv.yld _ M' H' hdD gg i _ (List.getElem?_eq_getElem hlt) x H2 hy _ oo hG
    have gg2 := gg.trans g2
    have rw2 : RS C H2 M' (L2.wipe σ vs) (wipeE e vs) := ((rs1.weak hdD).go gg2).wipe vs
    refine ⟨M', wipeE e vs, items[i], rw2, rx, ?_⟩
    cases ht : gt items[i] (wipeE e vs) with
    | none => rw [ht] at er; rw [er] at q1; exact q1.elim
    | some e1 =>
      rw [ht] at er
      simp only at er ⊢
      intro σ3 r3 hw
      refine ⟨hw.trans (wipe_wipe vs), M', m', e1, o2, r3, ?_⟩
      have eD2 : H2 D = some (.lst us) := g2.plain eD nD (plain_lst us)
      cases htt : tt e1 m' with
      | bad => rw [htt] at er; rw [er] at q1; exact q1.elim
      | exc y m2 => rw [htt] at er; rw [er] at q1; exact q1.elim
      | ok b m2 =>
        rw [htt] at er
        intro M3 H3 g3 o3
        have eD3 : H3 D = some (.lst us) := g3.plain eD2 nD (plain_lst us)
        have nD3 := g3.notin eD2 nD
        cases b with
        | false =>
          refine iteF ?_
          exact ⟨M3, m2, us, acc, gg2.trans g3, o3, nD3, eD3, (RpA.go g2 ra).go g3, er⟩
        | true =>
          refine iteT ?_
          simp only [noX, R.bind, if_true] at er
          refine ⟨M3, m2, e1, o3, r3.go g3, ?_⟩
          cases hf : f e1 m2 with
          | bad => rw [hf] at er; rw [er] at q1; exact q1.elim
          | exc y m3 => rw [hf] at er; rw [er] at q1; exact q1.elim
          | ok z m3 =>
            rw [hf] at er
            intro M4 H4 g4 o4 y ry
            simp only [noX, R.bind] at er
            cases hz : unW z with
            | none => rw [hz] at er; rw [er] at q1; exact q1.elim
            | some d =>
              rw [hz] at er
              simp only at er
              by_cases hs : acc.length < sizeLine
              · rw [if_pos hs] at er
                have ed : z = .d d := by
                  cases z with
                  | d x => cases hz; rfl
                  | loc n => cases hz
                  | clo j => cases hz
                subst ed
                have eD4 : H4 D = some (.lst us) := g4.plain eD3 nD3 (plain_lst us)
                have nD4 := g4.notin eD3 nD3
                have g14 := (gg2.trans g3).trans g4
                have hid4 : D ∈ M4.hid := by rw [g14.hid]; exact List.mem_cons_self
                have ra4 : RpA C.K H4 M4 us acc := ((RpA.go g2 ra).go g3).go g4
                refine ⟨us, eD4, by rw [ra4.len]; exact hs, M4, m3, us ++ [y], acc ++ [d], ⟨g14.ext, g14.hid, fun a u e1 e2 e3 => by rw [upd_ne (ne_of_none e1 hD)]; exact g14.st a u e1 e2 e3, fun a e1 => ?_, fun a b u e1 => by rw [upd_ne (ne_of_none e1 hD)]; exact g14.lk a b u e1, fun a ha u e1 t => by rw [upd_ne (ne_of_none e1 hD)]; exact g14.hd a ha u e1 t⟩, o4.but hid4 nD4 (fun ps z => by rw [eD4] at z; cases z) (busy_lst _), nD4, upd_same, ?_, er⟩
                · by_cases z : a = D
                  · subst z; exact hD
                  · rw [upd_ne z] at e1; exact g14.dom a e1
                · exact (ra4.app (.cons ry .nil)).but hid4
              · rw [if_neg hs] at er; rw [er] at q1; exact q1.elim
  · have e0 : i = items.length := by omega
    subst e0
    rw [List.drop_length] at er
    unfold loopCG at er
    by_cases hG : G m'
    case neg => rw [if_neg hG] at er; rw [er] at q1; exact q1.elim
    rw [if_pos hG] at er
    refine .inl ⟨sv.stop _ M' H' hdD gg _ oo hG, ?_⟩
    have er' : r0 = fin acc m' := er
    rw [er'] at q1
    have hsh : M'.show' = ⟨M'.loc, M1.hid⟩ := by
      unfold Ad.show'
      rw [gg.hid]
      rfl
    have gs : Go M1 H1 M'.show' H' := by
      rw [hsh]
      exact ⟨gg.ext, rfl, gg.st, gg.dom, gg.lk, fun a ha => gg.hd a (List.mem_cons_of_mem _ ha)⟩
    exact hfin gs gg.hid (fun a ha z => (o1.free hD).2 (z ▸ ha)) oo hD eD nD ra q1
theorem de_lcG {fin : List PyData → Sto → R W} (hfin : FinOk C fin) {tg elt iter : Expr} {ifs : List Expr} {scope : Scope} {own : List (Str × Nat)} {it : FIG} {gt : FG} {tt : FT} (hc : X.calm = true) (hN : X.N.Nodup) (hi : DIG X C Wx tg iter it) (ok : blkC X.N X.env.scope scope own = true)
    (hg : ∀ (s : Shared) (H : Hp) (Ca : Addr) (cl : List (Str × Addr)) (fp : List Addr), DG (X.blk s H scope (compEnvC scope cl Ca X.env) fp) C (own.map (·.2)) tg gt) (ht : ∀ (s : Shared) (H : Hp) (Ca : Addr) (cl : List (Str × Addr)) (fp : List Addr), DTs (X.blk s H scope (compEnvC scope cl Ca X.env) fp) C W0 ifs tt)
    (he : ∀ (s : Shared) (H : Hp) (Ca : Addr) (cl : List (Str × Addr)) (fp : List Addr), DE (X.blk s H scope (compEnvC scope cl Ca X.env) fp) C W0 elt f) (hs : ∀ x, foldedSetIterable iter X.env x = pure x := by intro _; rfl) :
    DE X C Wx (.ListComp elt [⟨tg, iter, ifs, 0⟩] scope pos) (eLcG fin (own.map (·.2)) it gt tt f) :=
  ⟨PE_imp (pe_lc hc hN hi.pi (blkOk_by ok) (fun s H Ca cl fp => (hg s H Ca cl fp).pg) (fun s H Ca cl fp => (ht s H Ca cl fp).pts) (fun s H Ca cl fp => (he s H Ca cl fp).pe) hs) (tLcG_of hfin)⟩
/-! what is walked: a list that may change -/
theorem serves_cell {M : Ad} {H : Hp} {n : Nat} {a : Addr} {ws : List W} (hM : M.loc[n]? = some a) : ServesG C M H (Itl C.K a) ws (fun m => m[n]? = some (.lst ws)) where
  go := fun M0 M' H' hd gg m' oo hG i hi => by
    obtain ⟨vs, h1, h2⟩ := oo.lst (gg.at_ (by rw [hd.1]; exact hM)) hG
    exact ⟨vs, vs[i]'(by rw [h2.len]; exact hi), SqL.of h1, List.getElem?_eq_getElem _⟩
  stop := fun M0 M' H' hd gg m' oo hG => by
    obtain ⟨vs, h1, h2⟩ := oo.lst (gg.at_ (by rw [hd.1]; exact hM)) hG
    exact ⟨vs, SqL.of h1, by rw [h2.len]; exact Nat.le_refl _⟩
  yld := fun M0 M' H' hd gg i w hw x H'' hy m' oo hG => by
    obtain ⟨vs, h1, h2⟩ := oo.lst (gg.at_ (by rw [hd.1]; exact hM)) hG
    obtain ⟨rfl, hx⟩ := hy
    obtain ⟨v, hv, rv⟩ := h2.get hw
    have := hx vs (SqL.of h1)
    rw [hv] at this
    cases this
    exact ⟨Go.refl, rv, oo⟩
def iCell (f : FE) : FIG := fun e m => (f e m).bind fun w m1 => match w with
  | .loc n => match m1[n]? with
    | some (.lst ws) => .ok (ws, fun m => m[n]? = some (.lst ws)) m1
    | _ => .bad
  | _ => .bad
theorem di_cell {tg : Expr} (ha : DE X C Wx a f) (hK : X.K = C.K := by rfl) : DIG X C Wx tg a (iCell f) := ⟨PI_imp (pi_list ha.pe) fun σ H Q ⟨M, m, e, ok, rs, q⟩ =>
  tE_bind ok rs q fun v w M1 m1 H1 g1 o1 r1 rv q1 => by
    split at q1
    · split at q1
      · rename_i n _ ws e0
        obtain ⟨l, rfl, hM⟩ := rv
        obtain ⟨vs, h1, h2⟩ := o1.lst hM e0
        exact ⟨l, rfl, ⟨vs, SqL.of h1⟩, by rw [hK]; exact q1.now o1 _ (serves_cell hM)⟩
      · exact q1.elim
    · exact q1.elim⟩
def iEnC (r : FA) : FIG := fun e m => (r e m).bind fun ws m1 => match ws with
  | [.loc n] => match m1[n]? with
    | some (.lst ws) => match unWs ws with
      | some ds => .ok (enumW 0 ds, fun m => m[n]? = some (.lst ws)) m1
      | none => .bad
    | _ => .bad
  | _ => .bad
end
end Pd

set_option Elab.async false
set_option linter.all false
set_option maxRecDepth 100000
set_option maxHeartbeats 1000000
namespace Pd
open PySem PySem.Spec PyProof.Rows L2
section
variable {X : Cx} {C : Ct} {Wx : WX} {a b c o e : Expr} {es : List Expr} {f g h : FE} {r : FA} {t u : FT} {pos p apos cpos : Pos} {st : Stmt} {sts : List Stmt} {s s1 s2 : FS}
/-! ### while -/
open Classical in
/-! ### x += e, xs[i] += e -/
def pAddI : W → W → Sto → R W
  | .d (.int i), .d (.int j), m => .ok (.d (.int (i + j))) m
  | _, _, _ => .bad
/-- xs[i] += e, xs a changing list -/
def sAugS (fo fi fv : FE) : FS := fun e m => ofR e (fo e m) fun w m1 => ofR e (fi e m1) fun i m2 => match w, i with
  | .loc n, .d (.int k) => match m2[n]? with
    | some (.lst ws) => match atI ws k with
      | some z => ofR e (fv e m2) fun y m3 => ofR e (pAddI z y m3) fun z2 m4 => match m4[n]? with
        | some (.lst ws2) => match ixN ws2.length k with
          | some j => .nx e (stSet m4 n (ws2.set j z2))
          | none => .bad
        | _ => .bad
      | none => .bad
    | _ => .bad
  | _, _ => .bad
/-! ### pop, extend -/
theorem RWs.drop1 {H : Hp} {M : Ad} {vs : List V} {ws : List W} (h : RWs C H M vs ws) : RWs C H M vs.dropLast ws.dropLast := by
  induction h with
  | nil => exact .nil
  | @cons v vs w ws a t ih =>
    cases t with
    | nil => exact .nil
    | cons b t2 => exact .cons a ih
def eMl0 (q : W → Sto → R W) (f : FE) : FE := fun e m => (f e m).bind fun w m1 => match w with
  | .loc n => q (.loc n) m1
  | _ => .bad
def qPop : W → Sto → R W
  | .loc n, m => match m[n]? with
    | some (.lst ws) => match ws.getLast? with
      | some w => .ok w (stSet m n ws.dropLast)
      | none => .bad
    | _ => .bad
  | _, _ => .bad
theorem de_pop {name : Str} (hx : name = "pop") (ho : DE X C Wx o f) (hbase : attributeBase o name X.env (eval o X.env) = eval o X.env := by rfl)
    (hline : (apos.endLine == cpos.line) = true := by rfl) :
    DE X C Wx (.Call (.Attribute o name apos) [] [] cpos) (eMl0 qPop f) := by
  subst hx
  refine ⟨PE_imp (pe_bm0 PySem.F.plainAttrs_list PySem.F.slot_list_pop PySem.F.type_list_pop (fun pins s σ H x xs v us Q I rx rs h => mt_pop pins s σ H x xs v us Q I rx rs h) ho.pe hbase hline) fun σ H Q ⟨M, m, e, ok, rs, q⟩ => tE_bind ok rs q fun v w M1 m1 H1 g1 o1 r1 rv q1 => ?_⟩
  cases w with
  | d x => exact q1.elim
  | clo j => exact q1.elim
  | loc n =>
    have q2 : Post C (ExW C Wx σ) M1 H1 (match m1[n]? with
      | some (.lst ws) => match ws.getLast? with
        | some w => .ok w (stSet m1 n ws.dropLast)
        | none => .bad
      | _ => .bad) (fun w M' m' H' => ∀ v, RW C H' M' v w → Q v H') := q1
    split at q2
    · rename_i ws e0
      split at q2
      · rename_i w' ew
        obtain ⟨l, rfl, hM⟩ := rv
        obtain ⟨vs, h1, h2⟩ := o1.lst hM e0
        obtain ⟨gg, o2⟩ := o1.put hM e0 h2.drop1
        rw [List.getLast?_eq_getElem?] at ew
        obtain ⟨y, hy1, hy2⟩ := h2.get ew
        exact ⟨.inl ⟨rfl, _, SqL.of h1⟩, l, vs, y, rfl, rfl, h1, by rw [h2.len]; exact hy1, q2 _ _ gg o2 _ (hy2.go gg)⟩
      · exact q2.elim
    · exact q2.elim
end
/-! ### comparing lists that may change -/
def asD (m : Sto) : W → Option PyData
  | .d x => some x
  | .loc n => match m[n]? with
    | some (.lst ws) => (unWs ws).map .list
    | _ => none
  | .clo _ => none
section
variable {X : Cx} {C : Ct} {Wx : WX} {a b c o e : Expr} {es : List Expr} {f g h : FE} {r : FA} {t u : FT} {pos p apos cpos : Pos}
theorem asD_dp {M : Ad} {m : Sto} {H : Hp} {v : V} {w : W} {d : PyData} (ok : Ok C M m H) (hs : SeqAt.shaped d = true) (e : asD m w = some d) (r : RW C H M v w) : Dp C.K H v d := by
  cases w with
  | d x => cases e; exact Rp.sdp r hs
  | clo j => cases e
  | loc n =>
    obtain ⟨l, rfl, hM⟩ := r
    unfold asD at e
    simp only at e
    split at e
    · rename_i ws e0
      cases eu : unWs ws with
      | none => rw [eu] at e; cases e
      | some ds =>
        rw [eu] at e
        cases e
        obtain ⟨vs, h1, h2⟩ := ok.lst hM e0
        exact RpA.dps h1 (h2.un eu) (lay_of hs)
    · cases e
def pNeM : W → W → Sto → R W := fun w z m => match asD m w, asD m z with
  | some x, some y => if SeqAt.shaped x = true ∧ SeqAt.shaped y = true then .ok (.d (.bool (!PyData.eqv x y))) m else .bad
  | _, _ => .bad
theorem od_neM : OpD C Wx (rNeD C.K) pNeM := by
  intro σ M m H x y w z Q o rx ry q
  unfold pNeM at q
  split at q
  · rename_i e1 e2
    split at q
    · rename_i h; exact ⟨_, _, asD_dp o h.1 e1 rx, asD_dp o h.2 e2 ry, h.1, h.2, q.now o _ (Rp.bl _)⟩
    · exact q.elim
  · exact q.elim
theorem dt_neM (hu : X.A.units + 65 < cLine) (ha : DE X C Wx a f) (hb : DE X C Wx b g) (hK : X.K = C.K := by rfl) : DT X C Wx (.Compare a [.NotEq] [b] pos) (tV (eBin pNeM f g)) := dt_cmp1 (op_neD (by omega)) (by rw [hK]; exact od_neM) ha hb (nomark _)
/-! ### new lists that may change: [x, ..] * n, xs + ys, list(xs) -/
theorem RpA.ws {H : Hp} {M : Ad} : ∀ {vs : List V} {ds : List PyData}, RpA C.K H M vs ds → RWs C H M vs (ds.map W.d)
  | _, _, .nil => .nil
  | _, _, .cons a b => .cons a (RpA.ws b)
def eRepC (r : FA) (g : FE) : FE := fun e m => (eRep r g e m).bind fun w m1 => match w with
  | .d (.list ds) => .ok (.loc m1.length) (m1 ++ [.lst (ds.map .d)])
  | _ => .bad
/-! ### gcd -/
end
end Pd

set_option Elab.async false
set_option linter.all false
set_option maxRecDepth 100000
set_option maxHeartbeats 1000000
namespace Pd
open PySem PySem.Spec PyProof.Rows L2
/-! ### keys -/
mutual
def kOf : PyData → Option (Sum Key (List Key))
  | .int i => some (.inl (.inl i))
  | .str s => some (.inl (.inr s))
  | .tuple ds => match ksOf ds with
    | some ks => some (.inr ks)
    | none => none
  | _ => none
def ksOf : List PyData → Option (List Key)
  | [] => some []
  | .int i :: r => match ksOf r with
    | some ks => some (.inl i :: ks)
    | none => none
  | .str s :: r => match ksOf r with
    | some ks => some (.inr s :: ks)
    | none => none
  | _ :: _ => none
end
def dPut {β : Type} (kvs : List (PyData × β)) (k : PyData) (v : β) : List (PyData × β) :=
  if (kvs.any fun p => decide (kOf p.1 = kOf k)) = true then kvs.map (fun p => if kOf p.1 = kOf k then (p.1, v) else p) else kvs ++ [(k, v)]
section
variable {C : Ct} {H : Hp} {M : Ad}
end
/-! ### an empty dict is of both kinds -/
end Pd

set_option Elab.async false
set_option linter.all false
set_option maxRecDepth 100000
set_option maxHeartbeats 1000000
namespace Pd
open PySem PySem.Spec PyProof.Rows L2
/-! ### reading dicts -/
section
variable {X : Cx} {pins : List (Addr × Obj)} {σ : St} {H : Hp} {s : Shared} {a : Addr} {y v : V} {u : Value} {o : Option V} {A : Around} {E : Value → Shared → Prop}
end
/-- the kind of a key -/
def kindK : Sum Key (List Key) → Bool
  | .inl _ => false
  | .inr _ => true
section
variable {X : Cx} {C : Ct} {Wx : WX} {a b c o e : Expr} {es : List Expr} {f g h : FE} {r : FA} {t u : FT} {pos p apos cpos : Pos}
/-! ### d[k] = v, {} -/
def sDPut' (fo fi fv : FE) : FS := fun e m => ofR e (fv e m) fun v m1 => ofR e (fo e m1) fun w m2 => ofR e (fi e m2) fun i m3 => match w, i with
  | .loc n, .d kd => match m3[n]?, kOf kd with
    | some (.dct t false kvs), some kk => if (kindK kk == t) = true ∧ kvs.length < sizeLine then .nx e (m3.set n (.dct t false (dPut kvs kd v))) else .bad
    | _, _ => .bad
  | _, _ => .bad
def eDNew (t : Bool) : FE := fun _ m => .ok (.loc m.length) (m ++ [.dct t false []])
theorem Ok.newCell {M : Ad} {m : Sto} {H : Hp} (o : Ok C M m H) {p : Addr} {u : HO} {c : Cell} (h : H p = none) (hc : CellOk C (upd H p u) (M.add p) p c) : Ok C (M.add p) (m ++ [c]) (upd H p u) := by
  have g : Go M H (M.add p) (upd H p u) := Go.newM h
  have on := o.new (u := u) h
  refine ⟨on.tab, by simp [Ad.add, o.len], fun n a c' e1 e2 => ?_, ?_, fun a ha => on.hid a ha, fun a ha hh => ?_⟩
  · have e1 : (M.loc ++ [p])[n]? = some a := e1
    by_cases hn : n < M.loc.length
    · rw [List.getElem?_append_left hn] at e1
      rw [List.getElem?_append_left (by rw [← o.len]; exact hn)] at e2
      exact CellOk.go g (o.cell n a c' e1 e2) (upd_ne fun z => o.there (List.mem_of_getElem? e1) (by rw [z]; exact h))
    · rw [List.getElem?_append_right (by omega)] at e1
      rw [List.getElem?_append_right (by rw [← o.len]; omega), ← o.len] at e2
      cases hk : n - M.loc.length with
      | zero =>
        rw [hk] at e1 e2
        simp at e1 e2
        subst e1 e2
        exact hc
      | succ k => rw [hk] at e1; simp at e1
  · refine List.nodup_append.mpr ⟨o.nd, by simp, fun a ha b hb z => ?_⟩
    simp at hb
    subst hb
    subst z
    exact o.there ha h
  · rcases List.mem_append.mp ha with z | z
    · exact o.sep a z hh
    · simp at z; subst z; exact o.hidden hh h
/-! ### truth of any value -/
def truW (m : Sto) : W → Option Bool
  | .d .none => some false
  | .d (.bool k) => some k
  | .d (.int i) => some (i != 0)
  | .d (.str s) => if s.length ≤ sizeLine then some ((s.length : Int) != 0) else none
  | .d (.list ds) => some (!ds.isEmpty)
  | .d (.tuple ds) => some (!ds.isEmpty)
  | .loc n => match m[n]? with
    | some (.lst ws) => some (!ws.isEmpty)
    | _ => none
  | _ => none
theorem RpA.emp {H : Hp} {M : Ad} {vs : List V} {ds : List PyData} (r : RpA C.K H M vs ds) : vs.isEmpty = ds.isEmpty := by cases r <;> rfl
theorem RWs.emp {H : Hp} {M : Ad} {vs : List V} {ds : List W} (r : RWs C H M vs ds) : vs.isEmpty = ds.isEmpty := by cases r <;> rfl
theorem truW_ok {M : Ad} {m : Sto} {H : Hp} {v : V} {w : W} {k : Bool} (o : Ok C M m H) (e : truW m w = some k) (r : RW C H M v w) : TruV C.K v H k := by
  cases w with
  | clo j => cases e
  | loc n =>
    obtain ⟨a, rfl, hM⟩ := r
    unfold truW at e
    simp only at e
    split at e
    · rename_i ws e0
      cases e
      obtain ⟨vs, h1, h2⟩ := o.lst hM e0
      exact .inl ⟨vs, SqL.of h1, by rw [h2.emp]⟩
    · cases e
  | d x =>
    cases x with
    | none => cases e; cases r; rfl
    | bool b => cases e; cases r; rfl
    | int i => cases e; cases r; rfl
    | str s =>
      unfold truW at e
      simp only at e
      split at e
      · rename_i hz; cases e; cases r; exact ⟨hz, rfl⟩
      · cases e
    | list ds => cases e; cases r with | lst h1 h2 => exact .inl ⟨_, h1.sq, by rw [h2.emp]⟩
    | tuple ds => cases e; cases r with | tup h1 h2 => exact .inr (.inl ⟨_, h1.sq, by rw [h2.emp]⟩)
    | dict ds => cases e
def tTru (f : FE) : FT := fun e m => (f e m).bind fun w m1 => match truW m1 w with
  | some k => .ok k m1
  | none => .bad
theorem dt_tru (ha : DE X C Wx a f) (hK : X.K = C.K := by rfl) (he : ∀ whole, isTrue a X.env whole = (do let v ← whole; standAt a.pos; holding [v] (truthy v)) := by intro _; rfl) : DT X C Wx a (tTru f) := ⟨PT_imp (pt_truth ha.pe he) fun σ H Q ⟨M, m, e, o, rs, q⟩ =>
  tE_bind o rs q fun v w M1 m1 H1 g1 o1 r1 rv q1 => by
    split at q1
    · rename_i k ek
      exact ⟨k, by rw [hK]; exact truW_ok o1 ek rv, q1.now o1⟩
    · exact q1.elim⟩
/-! ### len(d), list(d) -/
end
end Pd

set_option Elab.async false
set_option linter.all false
set_option maxRecDepth 100000
set_option maxHeartbeats 2000000
namespace Pd
open PySem PySem.Spec PyProof.Rows L2
/-! ### sum of a generator expression -/
/-- what holds the sum so far -/
abbrev sumObj (a : Int) (t : Tok) (c : Nat) : Obj := { cls := .type "list", dict := none, data := .seq #[.int a t] c, slots := #[] }
section
variable {X : Cx} {C : Ct}
structure GS (Y : Cx) (C : Ct) (σw : St) (pins : List (Addr × Obj)) (S : Addr) (gI : Nat) (tn : Nat → Heap → Prop) (fp : List Addr) (M1 : Ad) (H1 : Hp) (j : Nat) (rest : Int → Sto → Prop) (s : Shared) : Prop where
  ex : ∃ H' M' m' a t c, Inv Y (pins ++ [(S, sumObj a t c)]) σw H' s ∧ tn j s.heap ∧ (∀ b ∈ fp, H' b = none) ∧ gI < s.gens.size ∧ Go M1 H1 M' H' ∧ Ok C M' m' H' ∧ rest a m'
structure FS' (Y : Cx) (C : Ct) (pins : List (Addr × Obj)) (S : Addr) (gI : Nat) (M1 : Ad) (H1 : Hp) (fin : Int → Sto → Prop) (s : Shared) : Prop where
  ex : ∃ H' M' m' σw a t c, Inv Y (pins ++ [(S, sumObj a t c)]) σw H' s ∧ gI < s.gens.size ∧ Go M1 H1 M' H' ∧ Ok C M' m' H' ∧ fin a m'
end
section
variable {Y : Cx} {C : Ct} {σw : St} {pins : List (Addr × Obj)} {S : Addr} {gI : Nat} {tn : Nat → Heap → Prop} {fp : List Addr} {M1 : Ad} {H1 : Hp} {j : Nat} {rest : Int → Sto → Prop} {s : Shared}
theorem GS.gens {g' : Array GenState} (h : GS Y C σw pins S gI tn fp M1 H1 j rest s) (hb : AllBare g') (hl : gI < g'.size) : GS Y C σw pins S gI tn fp M1 H1 j rest { s with gens := g' } := by
  obtain ⟨H', M', m', x, t, y, I, a, b, _, c, d, e⟩ := h.ex
  exact ⟨H', M', m', x, t, y, Inv_gens I hb, a, b, hl, c, d, e⟩
theorem GS.bare (h : GS Y C σw pins S gI tn fp M1 H1 j rest s) : AllBare s.gens := let ⟨_, _, _, _, _, _, I, _⟩ := h.ex; I.bare
theorem GS.gl (h : GS Y C σw pins S gI tn fp M1 H1 j rest s) : gI < s.gens.size := let ⟨_, _, _, _, _, _, _, _, _, l, _⟩ := h.ex; l
theorem FS'.gens {g' : Array GenState} (h : FS' Y C pins S gI M1 H1 rest s) (hb : AllBare g') (hl : gI < g'.size) : FS' Y C pins S gI M1 H1 rest { s with gens := g' } := by
  obtain ⟨H', M', m', σw, x, t, y, I, _, c, d, e⟩ := h.ex
  exact ⟨H', M', m', σw, x, t, y, Inv_gens I hb, hl, c, d, e⟩
theorem FS'.bare (h : FS' Y C pins S gI M1 H1 rest s) : AllBare s.gens := let ⟨_, _, _, _, _, _, _, I, _⟩ := h.ex; I.bare
theorem FS'.gl (h : FS' Y C pins S gI M1 H1 rest s) : gI < s.gens.size := let ⟨_, _, _, _, _, _, _, _, l, _⟩ := h.ex; l
theorem FS'.kept {h' : Heap} (h : FS' Y C pins S gI M1 H1 rest s) (k : ∀ b o, s.heap.get? b = some o → h'.get? b = some o) : FS' Y C pins S gI M1 H1 rest { s with heap := h' } := by
  obtain ⟨H', M', m', σw, x, t, y, I, l, c, d, e⟩ := h.ex
  exact ⟨H', M', m', σw, x, t, y, I.kept (t' := s.toks) k, l, c, d, e⟩
/-- the sum so far is written anew -/
theorem GS.put {rest' : Int → Sto → Prop} (h : GS Y C σw pins S gI tn fp M1 H1 j rest s) (T : ∀ h' h2, tn j h' → (∀ b ∈ fp, ∀ o, h'.get? b = some o → h2.get? b = some o) → tn j h2) (hSf : S ∉ fp) (hS : ∀ H, H S = none → FpOk Y pins H S) {h' : Heap} {a2 : Int → Int} {tk : Nat}
    (k : ∀ b o, b ≠ S → s.heap.get? b = some o → h'.get? b = some o) (e : ∀ a t c, s.heap.get? S = some (sumObj a t c) → ∃ t2 c2, h'.get? S = some (sumObj (a2 a) t2 c2)) (hr : ∀ a m, rest a m → rest' (a2 a) m) : GS Y C σw pins S gI tn fp M1 H1 j rest' { s with heap := h', toks := tk } := by
  obtain ⟨H', M', m', x, t, y, I, a, b, l, c, d, e'⟩ := h.ex
  have p := I.pin (S, sumObj x t y) (List.mem_append_right _ (List.mem_append_right _ List.mem_cons_self))
  have I1 : Inv Y pins σw H' s := I.unpinned
  have f := hS H' p.2.1
  have I2 := I1.turnedL (h' := h') (t' := tk) (ch := [S]) (fun b o hb q => k b o (fun z => hb (by simp [z])) q) (fun b hb => by cases List.mem_singleton.mp hb; exact f)
  obtain ⟨t2, c2, e2⟩ := e x t y p.1
  refine ⟨H', M', m', a2 x, t2, c2, ?_, T _ _ a (fun b hb o q => k b o (fun z => hSf (by rw [← z]; exact hb)) q), b, l, c, d, hr _ _ e'⟩
  refine I2.pins_of fun p' hp' => ?_
  rcases List.mem_append.mp hp' with z | z
  · exact I2.pin p' (List.mem_append_right _ z)
  · have ep : p' = (S, sumObj (a2 x) t2 c2) := by simpa using z
    rw [ep]
    exact ⟨e2, p.2.1, p.2.2.1, p.2.2.2.1, fun v z => by cases z⟩
theorem GS.at_ (h : GS Y C σw pins S gI tn fp M1 H1 j rest s) : ∃ a t c, s.heap.get? S = some (sumObj a t c) := by
  obtain ⟨H', M', m', x, t, y, I, _⟩ := h.ex
  exact ⟨x, t, y, (I.pin (S, sumObj x t y) (List.mem_append_right _ (List.mem_append_right _ List.mem_cons_self))).1⟩
end
section
variable {prog : Program} {w : World} {A : Around} {Y : Cx} {C : Ct} {σw : St} {S : Addr} {gI : Nat} {tn : Nat → Heap → Prop} {fp : List Addr} {M1 : Ad} {H1 : Hp} {a : Addr} {og : Obj} {n : Nat} {rest : Nat → Int → Sto → Prop} {fin : Int → Sto → Prop}
end
section
variable {X : Cx} {C : Ct} {Wx : WX} {f : FE}
end
end Pd

set_option Elab.async false
set_option linter.all false
set_option maxRecDepth 100000
set_option maxHeartbeats 4000000
namespace Pd
open PySem PySem.Spec PyProof.Rows L2
section
variable {X : Cx} {C : Ct} {Wx : WX} {a b c o e : Expr} {es : List Expr} {f g h : FE} {r : FA} {t u : FT} {pos p apos cpos : Pos}
/-! ### xs.extend(ys), ys a new list of its own -/
/-! ### tuple * int, once too -/
end
end Pd

set_option Elab.async false
set_option linter.all false
set_option maxRecDepth 100000
set_option maxHeartbeats 3200000
namespace Pd
open PySem PySem.Spec PyProof.Rows L2
/-! ### sets of one kind of members: texts, whole numbers -/
inductive F2 {α β : Type} (R : α → β → Prop) : List α → List β → Prop
  | nil : F2 R [] []
  | cons {a : α} {b : β} {as : List α} {bs : List β} : R a b → F2 R as bs → F2 R (a :: as) (b :: bs)
theorem F2.len {α β : Type} {R : α → β → Prop} : ∀ {as : List α} {bs : List β}, F2 R as bs → as.length = bs.length
  | [], _, .nil => rfl
  | _ :: _, _, .cons _ r => by rw [List.length_cons, List.length_cons, r.len]
theorem F2.perm {α β : Type} {R : α → β → Prop} {as as' : List α} (p : as.Perm as') : ∀ {bs : List β}, F2 R as bs → ∃ bs', F2 R as' bs' ∧ bs'.Perm bs := by
  induction p with
  | nil => intro bs r; exact ⟨bs, r, .refl _⟩
  | cons x _ ih =>
    intro bs r
    cases r with | cons h r =>
    obtain ⟨bs', r', q⟩ := ih r
    exact ⟨_ :: bs', .cons h r', q.cons _⟩
  | swap x y l =>
    intro bs r
    cases r with | cons h r =>
    cases r with | cons h2 r =>
    exact ⟨_, .cons h2 (.cons h r), .swap _ _ _⟩
  | trans _ _ ih1 ih2 =>
    intro bs r
    obtain ⟨b1, r1, q1⟩ := ih1 r
    obtain ⟨b2, r2, q2⟩ := ih2 r1
    exact ⟨b2, r2, q2.trans q1⟩
theorem F2.map {α β γ : Type} {R : α → β → Prop} {S : γ → β → Prop} {f : α → γ} (h : ∀ a b, R a b → S (f a) b) : ∀ {as : List α} {bs : List β}, F2 R as bs → F2 S (as.map f) bs
  | [], _, .nil => .nil
  | _ :: _, _, .cons x r => .cons (h _ _ x) (r.map h)
theorem F2.get {α β : Type} {R : α → β → Prop} : ∀ {as : List α} {bs : List β} {i : Nat} {a : α}, F2 R as bs → as[i]? = some a → ∃ b, bs[i]? = some b ∧ R a b
  | [], _, _, _, .nil, e => by simp at e
  | _ :: _, _, 0, _, .cons x _, e => by simp at e; subst e; exact ⟨_, rfl, x⟩
  | _ :: _, _, i + 1, _, .cons _ r, e => by obtain ⟨b, h1, h2⟩ := r.get (i := i) (by simpa using e); exact ⟨b, by simpa using h1, h2⟩
/-- a kind of members -/
structure MK (P : Program) (w : World) (K : Type) [DecidableEq K] where
  knd : KeyKind P w K
  mkv : K → Tok → Value
  is : ∀ k t, knd.is k (mkv k t) = true
  sc : ∀ k t, (mkv k t).scannable = true
section
variable {P : Program} {w : World} {K : Type} [DecidableEq K] {G : MK P w K}
def RowG (G : MK P w K) (e : Int × Value) (k : K) : Prop := e.1 = G.knd.hash k ∧ ∃ t, e.2 = G.mkv k t
def SetG (G : MK P w K) (h : Heap) (a : Addr) (L : List K) : Prop :=
  ∃ o es ep t, h.get? a = some o ∧ o.ExactSet ∧ o.data = .set es ep t ∧ F2 (RowG G) es.toList L ∧ L.Nodup ∧ es.size < scanBound ∧ t.fits es.size = true ∧ Ris t.place.toList ∧ (w.params.followText "set-order" = true ∨ t.led = true)
theorem SetG.at {h h' : Heap} {a : Addr} {L : List K} (R : SetG G h a L) (k : ∀ o, h.get? a = some o → h'.get? a = some o) : SetG G h' a L := by
  obtain ⟨o, es, ep, t, ho, r⟩ := R
  exact ⟨o, es, ep, t, k o ho, r⟩
end
section
variable {P : Program} {w : World} {A : Around} {E : Value → Shared → Prop} {s : Shared} {a : Addr} {K : Type} [DecidableEq K] {G : MK P w K} {L : List K}
/-- what is in the set of the first i of ks -/
structure FromK (ks : List K) (i : Nat) (L : List K) : Prop where
  mem : ∀ k, k ∈ L ↔ k ∈ ks.take i
  nd : L.Nodup
  len : L.length ≤ i
theorem FromK.next {ks L L' : List K} {i : Nat} {x : K} (g : FromK ks i L) (hx : ks[i]? = some x) (c1 : x ∈ L → L' = L) (c2 : x ∉ L → L'.Perm (x :: L)) : FromK ks (i + 1) L' := by
  have tk : ks.take (i + 1) = ks.take i ++ [x] := by rw [List.take_succ, hx]; rfl
  by_cases c : x ∈ L
  · rw [c1 c]
    refine ⟨fun k => ?_, g.nd, Nat.le_succ_of_le g.len⟩
    rw [tk, List.mem_append, List.mem_singleton, g.mem]
    exact ⟨.inl, fun z => z.elim id fun e => by rw [e]; exact (g.mem x).mp c⟩
  · have pm := c2 c
    refine ⟨fun k => ?_, pm.nodup_iff.mpr (List.nodup_cons.mpr ⟨c, g.nd⟩), by rw [pm.length_eq, List.length_cons]; exact Nat.succ_le_succ g.len⟩
    rw [pm.mem_iff, tk, List.mem_append, List.mem_singleton, List.mem_cons, g.mem]
    exact Or.comm
end
end Pd

set_option Elab.async false
set_option linter.all false
set_option maxRecDepth 100000
set_option maxHeartbeats 3200000
namespace Pd
open PySem PySem.Spec PyProof.Rows L2
/-! ### sorted(set(x)) -/
section
variable {P : Program} {w : World} {A : Around} {E : Value → Shared → Prop} {s : Shared} {a : Addr}
end
section
variable {X : Cx}
end
end Pd

set_option Elab.async false
set_option linter.all false
set_option maxRecDepth 100000
set_option maxHeartbeats 2000000
namespace Pd
open PySem PySem.Spec PyProof.Rows L2
/-! ### zip of two, texts among them -/
inductive SrcV where
  | q (S : Src)
  | s (x : Str)
def SrcV.val : SrcV → V
  | .q S => .ref S.ad
  | .s x => .str x
def SrcV.more : SrcV → List Addr
  | .q S => [S.ad]
  | .s _ => []
def SrcV.sq (K : PySem.W.Frag) (H : Hp) : SrcV → List V → Prop
  | .q S, xs => S.sq K H xs
  | .s x, xs => x.length ≤ sizeLine ∧ xs = x.cps.toList.map fun c => V.str ⟨#[c]⟩
def SrcV.it (i : Addr) (j : Nat) (h : Heap) : SrcV → Prop
  | .q S => S.it i j h
  | .s x => ∃ k, h.IsStrIter i (strIterType x) x k j
def SrcV.is (h : Heap) (its : Array Value) : SrcV → Prop
  | .q S => S.is h its
  | .s x => its = (x.cps.toList.map fun c => Value.str ⟨#[c]⟩ 0).toArray
def SrcV.P (its : Array Value) (j : Nat) (v : Value) : SrcV → Prop
  | .q _ => its[j]? = some v
  | .s x => ∃ c u, x.cps[j]? = some c ∧ v = .str ⟨#[c]⟩ u
/-- the object that iter() makes -/
def SrcV.ob (u : Value) : SrcV → Obj
  | .q S => S.ob
  | .s x => { cls := .type (strIterType x), data := .fields #[u, .int 0 0] }
def SrcV.far (i : Addr) : SrcV → Prop
  | .q S => S.ad ≠ i
  | .s _ => True
def SrcV.num (its : Array Value) : SrcV → Nat
  | .q _ => its.size
  | .s x => x.cps.size
theorem SrcV.draws {prog : Program} {w : World} {A : Around} (hh : A.handled = none) (S : SrcV) (i : Addr) (hne : S.far i) (items : Array Value) (n : Nat) (hn : n = S.num items) :
    Draws prog w A i (i :: S.more) n (fun j v => S.P items j v) (fun j h => S.it i j h ∧ S.is h items) := by
  cases S with
  | q S => subst hn; exact Src.draws hh S i hne items
  | s x =>
    have hn : n = x.cps.size := hn
    subst hn
    exact {
      live := fun j h st => by obtain ⟨⟨k, st⟩, _⟩ := st; exact (Draws.text (prog := prog) (w := w) hh i x k).live j h st
      frame := fun j h h' st hk => by obtain ⟨⟨k, st⟩, e⟩ := st; exact ⟨⟨k, (Draws.text (prog := prog) (w := w) hh i x k).frame j h h' st hk⟩, e⟩
      item := fun j s Q E hi st hQ => by
        obtain ⟨⟨k, st⟩, e⟩ := st
        exact (Draws.text hh i x k).item j s Q E hi st fun v h' tk hP st' hs => hQ v h' tk hP ⟨⟨k, st'⟩, e⟩ hs
      done := fun s Q E st hE => by obtain ⟨⟨k, st⟩, _⟩ := st; exact (Draws.text hh i x k).done s Q E st hE }
theorem SrcV.it_at {S : SrcV} {i : Addr} {j : Nat} {h h' : Heap} (x : S.it i j h) (k : ∀ o, h.get? i = some o → h'.get? i = some o) : S.it i j h' := by
  cases S with
  | q S => exact Src.it_at x k
  | s y => obtain ⟨t, o, e, r⟩ := x; exact ⟨t, o, k o e, r⟩
theorem SrcV.it_obj {S : SrcV} {i : Addr} {j : Nat} {h : Heap} (x : S.it i j h) : ∃ o, h.get? i = some o ∧ ∀ v, o.data ≠ .cell v := by
  cases S with
  | q S => exact Src.it_obj x
  | s y => obtain ⟨t, o, e, _, d⟩ := x; exact ⟨o, e, fun v q => by rw [d] at q; cases q⟩
theorem SrcV.it_ob {S : SrcV} {i : Addr} {h : Heap} {u : Value} (hu : RelV S.val u) (e : h.get? i = some (S.ob u)) : S.it i 0 h := by
  cases S with
  | q S => exact Src.it_ob e
  | s y => obtain ⟨t, rfl⟩ := hu; exact ⟨t, _, e, rfl, rfl⟩
theorem SrcV.begins (S : SrcV) (items : Array Value) {u : Value} (hu : RelV S.val u) : Begins u (S.ob u) fun h => S.is h items := by
  cases S with
  | q S => cases hu; exact Src.begins S items
  | s y =>
    obtain ⟨t, rfl⟩ := hu
    have B := begins_text y t
    exact ⟨fun prog w A E s Q _ h => B.iter prog w A E s Q trivial h, fun _ _ x _ => x, B.free⟩
theorem SrcV.lt {S : SrcV} {h : Heap} {items : Array Value} (x : S.is h items) : ∀ b ∈ S.more, b < h.objs.size := by
  cases S with
  | q S => intro b hb; rw [List.mem_singleton.mp hb]; exact Src.lt x
  | s y => intro b hb; cases hb
section
variable {X : Cx} {pins : List (Addr × Obj)} {σ : St} {H : Hp} {s : Shared}
theorem SrcV.get {S : SrcV} {xs : List V} (I : Inv X pins σ H s) (h : S.sq X.K H xs) : ∃ its : List Value, S.is s.heap its.toArray ∧ xs.length = S.num its.toArray ∧
    ∀ j v, j < xs.length → S.P its.toArray j v → ∃ a, xs[j]? = some a ∧ RelV a v := by
  cases S with
  | q S =>
    obtain ⟨its, rv, p, _⟩ := Src.get I h
    refine ⟨its, p, by show _ = its.toArray.size; simpa using rv.length, fun j v hj hv => ?_⟩
    obtain ⟨u, hu, ru⟩ := rv.get (List.getElem?_eq_getElem hj)
    have e1 : its.toArray[j]? = some u := by simpa using hu
    have e2 : its.toArray[j]? = some v := hv
    rw [e1] at e2; cases e2
    exact ⟨_, List.getElem?_eq_getElem hj, ru⟩
  | s x =>
    obtain ⟨_, rfl⟩ := h
    refine ⟨_, rfl, by show _ = x.cps.size; simp, fun j v hj hv => ?_⟩
    obtain ⟨c, u, hc, rfl⟩ := hv
    refine ⟨V.str ⟨#[c]⟩, ?_, u, rfl⟩
    have : x.cps.toList[j]? = some c := by simpa using hc
    rw [List.getElem?_map, this]; rfl
theorem SrcV.inj {S : SrcV} {xs ys : List V} (I : Inv X pins σ H s) (h : S.sq X.K H xs) (h' : S.sq X.K H ys) : xs = ys := by
  cases S with
  | q S => exact Src.inj I h h'
  | s x => rw [h.2, h'.2]
end
def ItzV (K : PySem.W.Frag) (S1 S2 : SrcV) : It :=
  ⟨fun i H => ∃ xs ys : List V, S1.sq K H xs ∧ S2.sq K H ys ∧ i < min xs.length ys.length,
    fun i H v H' => ∃ T x y, v = .ref T ∧ H T = none ∧ H' = upd H T (.tup [x, y]) ∧ (∀ xs, S1.sq K H xs → xs[i]? = some x) ∧ ∀ ys, S2.sq K H ys → ys[i]? = some y,
    fun i H => ∃ xs ys : List V, S1.sq K H xs ∧ S2.sq K H ys ∧ i = min xs.length ys.length⟩
theorem turn_zV {P : Program} {w : World} {K : PySem.W.Frag} {elts : List Expr} {kk : Nat} {tpos : Pos} {S1 S2 : SrcV} {z TI TO i1 i2 : Addr} (n1 : S1.far i1) (n2 : S2.far i2) (D : ZipSep2 z TI TO i1 i2 (i1 :: S1.more) (i2 :: S2.more)) :
    Turn P w K (.Tuple elts kk tpos) (ItzV K S1 S2) [z, TI, TO, i1, i2] z (fun i h => IsZip h z TI TO .none ∧ IsTupOf2 h TI (.ref i1) (.ref i2) ∧ (∃ x y, IsTupOf2 h TO x y) ∧ S1.it i1 i h ∧ S2.it i2 i h) where
  mem := by simp
  obj := fun i h st c hc => by
    obtain ⟨hz, hTI, ⟨x, y, hTO⟩, h1, h2⟩ := st
    rcases two_mem hc with q | q | q | q | q
    · rw [q]; exact ⟨_, hz, fun v q => nomatch q⟩
    · rw [q]; exact ⟨_, hTI, fun v q => nomatch q⟩
    · rw [q]; exact ⟨_, hTO, fun v q => nomatch q⟩
    · rw [q]; exact SrcV.it_obj h1
    · rw [q]; exact SrcV.it_obj h2
  keep := fun i h h' st k => by
    obtain ⟨hz, hTI, ⟨x, y, hTO⟩, h1, h2⟩ := st
    exact ⟨k z (by simp) _ hz, k TI (by simp) _ hTI, ⟨x, y, k TO (by simp) _ hTO⟩, SrcV.it_at h1 fun o q => k i1 (by simp) o q, SrcV.it_at h2 fun o q => k i2 (by simp) o q⟩
  item := by
    intro X hP hw hK hc i pins s σ H E I hf st hg
    subst hP hw hK
    obtain ⟨hz, hTI, hTO, h1, h2⟩ := st
    obtain ⟨xs, ys, hqx, hqy, hi⟩ := hg
    obtain ⟨its, p, l1, g1⟩ := SrcV.get I hqx
    obtain ⟨its2, p2, l2, g2⟩ := SrcV.get I hqy
    have G := GoesN.zip2 (prog := X.prog) (w := X.w) (A := X.A) (elts := elts) (x1 := kk) (pos := tpos) D (S1.draws (A := X.A.in1) (I.ok.hd hc) i1 n1 its.toArray xs.length l1) (S2.draws (A := X.A.in1) (I.ok.hd hc) i2 n2 its2.toArray ys.length l2)
    refine G.goes i s _ E hi ⟨hz, hTI, hTO, ⟨h1, p⟩, h2, p2⟩ fun v h' tk hy st' k ht => ?_
    obtain ⟨T, x, y, rfl, hT, hx, hy, isT⟩ := hy
    obtain ⟨hz', hTI', hTO', ⟨h1', _⟩, h2', _⟩ := st'
    obtain ⟨a, ha, ra⟩ := g1 i x (by omega) hx
    obtain ⟨b, hb, rb⟩ := g2 i y (by omega) hy
    have new : ObjOk X.prog X.w (upd H T (.tup [a, b])) h' T (.tup [a, b]) := ⟨by show 2 ≤ sizeLine; decide, [x, y], .cons ra (.cons rb .nil), isT⟩
    have I1 : Inv X pins σ (upd H T (.tup [a, b])) { s with heap := h', toks := tk } := I.turnedNew (t' := tk) (ch := [z, TI, TO, i1, i2]) (fun c o hb q => k c o (fun z' => hb (by
      have e' : c = z ∨ c = TO ∨ c = i1 ∨ c = i2 := by simpa using z'
      rcases e' with q | q | q | q <;> rw [q] <;> simp)) q) hf hT new
    refine ⟨.ref T, _, I1, rfl, ⟨T, a, b, rfl, I.hok.fresh hT, rfl, fun l hl => by rw [SrcV.inj I hl hqx]; exact ha, fun l hl => by rw [SrcV.inj I hl hqy]; exact hb⟩, ⟨hz', hTI', hTO', h1', h2'⟩, fun c hcm => ?_⟩
    have hlt : c < s.heap.objs.size := by
      rcases two_mem hcm with q | q | q | q | q
      · rw [q]; exact Heap.lt_size hz
      · rw [q]; exact Heap.lt_size hTI
      · rw [q]; obtain ⟨x0, y0, hTO⟩ := hTO; exact Heap.lt_size hTO
      · rw [q]; obtain ⟨_, e1, _⟩ := SrcV.it_obj h1; exact Heap.lt_size e1
      · rw [q]; obtain ⟨_, e2, _⟩ := SrcV.it_obj h2; exact Heap.lt_size e2
    rw [upd_ne (Nat.ne_of_lt (Nat.lt_of_lt_of_le hlt hT))]
    exact (hf c hcm).1
  done := by
    intro X hP hw hK hc i pins s σ H E I hf st hg
    subst hP hw hK
    obtain ⟨hz, hTI, hTO, h1, h2⟩ := st
    obtain ⟨xs, ys, hqx, hqy, hi⟩ := hg
    obtain ⟨its, p, l1, g1⟩ := SrcV.get I hqx
    obtain ⟨its2, p2, l2, g2⟩ := SrcV.get I hqy
    have G := GoesN.zip2 (prog := X.prog) (w := X.w) (A := X.A) (elts := elts) (x1 := kk) (pos := tpos) D (S1.draws (A := X.A.in1) (I.ok.hd hc) i1 n1 its.toArray xs.length l1) (S2.draws (A := X.A.in1) (I.ok.hd hc) i2 n2 its2.toArray ys.length l2)
    subst hi
    refine G.stops s _ E ⟨hz, hTI, hTO, ⟨h1, p⟩, h2, p2⟩ fun h' tk k ht => I.turnedL (t' := tk) (ch := [z, TI, TO, i1, i2]) (fun c o hb q => k c o (fun z' => hb (by
      have e' : c = z ∨ c = TO ∨ c = i1 ∨ c = i2 := by simpa using z'
      rcases e' with q | q | q | q <;> rw [q] <;> simp)) q) hf
  self := fun A i s Q E st h => wpAny_pyIter_zip st.1 h
/-! as data -/
def seqV : W → Option (List PyData)
  | .d (.list ds) => some ds
  | .d (.tuple ds) => some ds
  | .d (.str x) => if x.length ≤ sizeLine then some (signs x) else none
  | _ => none
theorem seq_srcV {C : Ct} {M : Ad} {H : Hp} {v : V} {w : W} {ds : List PyData} (r : RW C H M v w) (h : seqV w = some ds) :
    ∃ (S : SrcV) (vs : List V), v = S.val ∧ (∀ M0 M' H', Hd M H M0 → Go M0 H M' H' → S.sq C.K H' vs ∧ RpA C.K H' M' vs ds) := by
  cases w with
  | loc n => cases h
  | clo j => cases h
  | d x =>
    cases x with
    | list es => obtain ⟨S, vs, e, q⟩ := seq_src r (show seqW (.d (.list es)) = some ds from h); exact ⟨.q S, vs, e, q⟩
    | tuple es => obtain ⟨S, vs, e, q⟩ := seq_src r (show seqW (.d (.tuple es)) = some ds from h); exact ⟨.q S, vs, e, q⟩
    | str y =>
      have h : (if y.length ≤ sizeLine then some (signs y) else none) = some ds := h
      by_cases hz : y.length ≤ sizeLine
      · rw [if_pos hz] at h
        cases h
        cases r
        refine ⟨.s y, _, rfl, fun M0 M' H' hd gg => ⟨⟨hz, rfl⟩, ?_⟩⟩
        have key : ∀ l : List Nat, RpA C.K H' M' (l.map fun c => V.str ⟨#[c]⟩) (l.map fun c => PyData.str ⟨#[c]⟩) := fun l => by
          induction l with
          | nil => exact .nil
          | cons a l ih => exact .cons (.str _) ih
        exact key _
      · rw [if_neg hz] at h; cases h
    | _ => cases h
def iZ2V (r : FA) : FI := fun e m => (r e m).bind fun ws m1 => match ws with
  | [a, b] => match seqV a, seqV b with
    | some ds, some es => .ok (zip2 ds es) m1
    | _, _ => .bad
  | _ => .bad
section
variable {X : Cx} {C : Ct} {Wx : WX} {a b c : Expr} {r : FA} {p pos : Pos}
theorem serves_zV {M : Ad} {H : Hp} {S1 S2 : SrcV} {vs us : List V} {ds es : List PyData} (h1 : ∀ M0 M' H', Hd M H M0 → Go M0 H M' H' → S1.sq C.K H' vs ∧ RpA C.K H' M' vs ds) (h2 : ∀ M0 M' H', Hd M H M0 → Go M0 H M' H' → S2.sq C.K H' us ∧ RpA C.K H' M' us es) :
    Serves C M H (ItzV C.K S1 S2) (zip2 ds es) where
  go := fun M0 M' H' hd gg i hi => by
    obtain ⟨q1, r1⟩ := h1 M0 M' H' hd gg
    obtain ⟨q2, r2⟩ := h2 M0 M' H' hd gg
    exact ⟨vs, us, q1, q2, by rw [r1.len, r2.len]; unfold zip2 at hi; rw [List.length_zipWith] at hi; exact hi⟩
  stop := fun M0 M' H' hd gg => by
    obtain ⟨q1, r1⟩ := h1 M0 M' H' hd gg
    obtain ⟨q2, r2⟩ := h2 M0 M' H' hd gg
    exact ⟨vs, us, q1, q2, by rw [r1.len, r2.len]; unfold zip2; rw [List.length_zipWith]⟩
  yld := fun M0 M' H' hd gg i w hw v H'' hy m' oo => by
    obtain ⟨q1, r1⟩ := h1 M0 M' H' hd gg
    obtain ⟨q2, r2⟩ := h2 M0 M' H' hd gg
    obtain ⟨x, y, e1, e2, rfl⟩ := zip2_get hw
    obtain ⟨T, vx, vy, rfl, nT, rfl, hx, hy⟩ := hy
    obtain ⟨a, ha, ra⟩ := r1.get e1
    obtain ⟨b, hb, rb⟩ := r2.get e2
    have ex := (hx _ q1).symm.trans ha
    have ey := (hy _ q2).symm.trans hb
    cases ex; cases ey
    exact ⟨Go.new nT, Rp.newT oo nT (.cons ra (.cons rb .nil)), oo.new nT⟩
theorem di_zip2V {elts : List Expr} {kk : Nat} {tpos : Pos} {x : Str} (hx : x = "zip") (hm : X.mg x = none) (ha : DA X C Wx [a, b] r) (hg : Gl X x := by rfl) (hK : X.K = C.K := by rfl)
    (hs : starEach [a, b] X.env = (false, eval a X.env) :: starEach [b] X.env := by rfl) (hpl : (backTo pos (starEach [b] X.env)).any (·.1) = false := by rfl) : DI X C Wx (.Tuple elts kk tpos) (.Call (.Name x p) [a, b] [] pos) (iZ2V r) := by
  subst hx
  refine ⟨⟨fun pins s σ H R I ⟨M, m, e, ok, rs, q⟩ => ?_⟩⟩
  refine Call_ (ld_blt I hg hm PyProof.Rows.boot_zip (PyProof.Rows.callWith_type1 (thn (ha.pa.run pos pins s σ H _ I (tA_bind ok rs q fun vs ws M1 m1 H1 g1 o1 r1 rv q1 =>
    (show (fun (vs : List V) (H1 : Hp) => ∃ S1 S2 : SrcV, ∃ us ts : List V, vs = [S1.val, S2.val] ∧ S1.sq X.K H1 us ∧ S2.sq X.K H1 ts ∧ R (ItzV X.K S1 S2) H1) vs H1 from ?_))) fun us s1 ⟨vs, H1, I1, r1, q1⟩ => ?_) hs hpl))
  · split at q1
    · split at q1
      · rename_i e1 e2
        obtain ⟨v, u, rfl, ra, rb⟩ := rv.two
        obtain ⟨S1, us, rfl, k1⟩ := seq_srcV ra e1
        obtain ⟨S2, ts, rfl, k2⟩ := seq_srcV rb e2
        rw [hK]
        exact ⟨S1, S2, us, ts, rfl, (k1 _ _ _ Hd.refl Go.refl).1, (k2 _ _ _ Hd.refl Go.refl).1, q1.now o1 _ (serves_zV k1 k2)⟩
      · exact q1.elim
    · exact q1.elim
  · obtain ⟨S1, S2, us, ts, ex, h1, h2, q⟩ := q1
    subst ex
    cases r1 with
    | cons ra rr =>
      cases rr with
      | cons rb rr =>
        cases rr
        obtain ⟨its, p1, _, _⟩ := SrcV.get I1 h1
        obtain ⟨its2, p2, _, _⟩ := SrcV.get I1 h2
        have lt1 := SrcV.lt p1
        have lt2 := SrcV.lt p2
        have far : ∀ {S : SrcV} {k : Nat}, (∀ b ∈ S.more, b < s1.heap.objs.size) → S.far (s1.heap.objs.size + k) := fun {S k} hl => by
          cases S with
          | q S => exact Nat.ne_of_lt (Nat.lt_of_lt_of_le (hl S.ad (List.mem_singleton.mpr rfl)) (Nat.le_add_right _ _))
          | s x => exact trivial
        refine zip_begins2 (S1.begins its.toArray ra) (S2.begins its2.toArray rb) p1 p2 fun h' hz hTI hTO h1 h2 hsz hk => wpAny_pyIter_zip hz ?_
        have I2 : Inv X pins σ H1 { s1 with heap := h' } := I1.kept (t' := s1.toks) hk
        refine ⟨s1.heap.objs.size + 4, [s1.heap.objs.size + 4, s1.heap.objs.size + 2, s1.heap.objs.size + 3, s1.heap.objs.size, s1.heap.objs.size + 1], _, _, H1, rfl, I2, turn_zV (far (k := 0) lt1) (far lt2) (zip_sep2 lt1 lt2), ⟨hz, hTI, ⟨_, _, hTO⟩, SrcV.it_ob ra h1, SrcV.it_ob rb h2⟩, fun c hc => ?_, q⟩
        rcases two_mem hc with z | z | z | z | z
        · rw [z]; exact fresh_fp I1
        · rw [z]; exact fresh_fp I1
        · rw [z]; exact fresh_fp I1
        · rw [z]; exact fresh_fp (k := 0) I1
        · rw [z]; exact fresh_fp I1
end
end Pd

set_option Elab.async false
set_option linter.all false
set_option maxRecDepth 100000
set_option maxHeartbeats 1000000
namespace Pd
open PySem PySem.Spec PyProof.Rows L2
section
variable {X : Cx} {C : Ct} {Wx : WX} {a b c o e : Expr} {es : List Expr} {f g h : FE} {r : FA} {t u : FT} {pos p apos cpos p2 : Pos}
/-! ### abs -/
/-! ### reversed(range(n)) -/
/-! ### the keys of a dict: the dict is locked from there on -/
end
end Pd

set_option Elab.async false
set_option linter.all false
set_option maxRecDepth 100000
set_option maxHeartbeats 1000000
namespace Pd
open PySem PySem.Spec PyProof.Rows L2
section
variable {X : Cx} {C : Ct} {Wx : WX} {a b c o e : Expr} {es : List Expr} {f g h : FE} {r : FA} {t u : FT} {pos p apos cpos p2 : Pos}
/-! ### dict comprehensions: keys ints or texts; the dict may change afterwards -/
theorem RWp.but {κ : Type} {H : Hp} {M : Ad} {D : Addr} {u : HO} (hD : D ∈ M.hid) {vs : List (κ × V)} {ws : List (κ × W)} (h : RWp C H M vs ws) : RWp C (upd H D u) M vs ws := by
  induction h with
  | nil => exact .nil
  | cons a _ ih => exact .cons (a.but hD) ih
/-! ### floor division by any number -/
end
end Pd

set_option Elab.async false
set_option linter.all false
set_option maxRecDepth 100000
set_option maxHeartbeats 1000000
namespace Pd
open PySem PySem.Spec PyProof.Rows L2
/-! ### lambdas: made, kept, called -/
/-- a lambda's text; its whole name -/
structure Lm where
  pr : Arguments
  bd : Expr
  sc : Scope
  q : Str
abbrev Lm.fn (L : Lm) (cl : List (Str × Addr)) (dV doc pm cdv ctv : Value) : FuncData := PySem.W.kdv_fn "<lambda>" L.q L.pr (.expr L.bd) L.sc cl dV doc pm cdv ctv
abbrev Lm.obj (L : Lm) (cl : List (Str × Addr)) (dV doc pm ctv : Value) (c' : Addr) : Obj := PySem.W.kdv_obj "<lambda>" L.q L.pr (.expr L.bd) L.sc cl dV doc pm c' ctv
/-- no parameter; one, which has a value of its own -/
def BindN (L : Lm) : Prop := ∀ (cl : List (Str × Addr)) (doc pm cdv ctv : Value), bindArgs (L.fn cl .none doc pm cdv ctv) ⟨[], []⟩ = pure []
def BindI (L : Lm) (y : Str) : Prop := ∀ (cl : List (Str × Addr)) (T : Addr) (doc pm cdv ctv v : Value), ∃ k, bindArgs (L.fn cl (.ref T) doc pm cdv ctv) ⟨[], []⟩ = seqItems? (.ref T) >>= k ∧ k (some [v].toArray) = pure [(y, v)]
/-- its names: captured ones, globals, and such that the def around does not have -/
structure LmS (N : List Str) (sc scope : Scope) : Prop where
  kind : scope.kind = .function
  co : scope.isCoroutine = false
  gen : scope.isGenerator = false
  own : ∀ y ∈ scope.names, y.2 ≠ .cell ∧ (y.2 = .local → y.1 ∉ N)
  free : ∀ y ∈ scope.names, y.2 = .free → sc.names.lookup y.1 = some .cell ∨ sc.names.lookup y.1 = some .free
theorem LmS.has {X : Cx} {scope : Scope} (S : LmS X.N X.env.scope scope) (ok : X.Ok) : ∀ y ∈ scope.names, y.2 = .free → ∃ c, X.env.cells.lookup y.1 = some c := fun y hy e => ok.has _ (S.free y hy e)
/-- its values of its own stand at T -/
inductive LmDf (L : Lm) (H : Hp) (M : Ad) : Value → List (Str × Value) → Prop
  | no : BindN L → LmDf L H M .none []
  | one {T : Addr} {y : Str} {v : Value} : BindI L y → L.sc.names.lookup y = some .local → H T = some (.frz (PySem.W.kdv_tup [v]) (.own T)) → M.free T → LmDf L H M (.ref T) [(y, v)]
/-- a lambda lies at f -/
def LmAt (cl : List (Str × Addr)) (L : Lm) (H : Hp) (M : Ad) (f : Addr) : Prop :=
  ∃ (c' : Addr) (dV doc pm ctv : Value) (bs : List (Str × Value)), H f = some (.frz (L.obj cl dV doc pm ctv c') (.own f)) ∧ M.free f ∧ H c' = some (LamX.CodeO c' L.q) ∧ M.free c' ∧ LmDf L H M dV bs
theorem plain_frz_own (o : Obj) (x : Addr) : Plain (.frz o (.own x)) := by
  refine ⟨?_, ?_, ?_, ?_, ?_⟩ <;> intros <;> intro z <;> cases z
theorem plain_code (c : Addr) (q : Str) : Plain (LamX.CodeO c q) := plain_ext _
section
variable {C : Ct} {M M' : Ad} {m : Sto} {H H' : Hp} {L : Lm} {cl : List (Str × Addr)} {f : Addr}
theorem LmAt.go (g : Go M H M' H') (h : LmAt cl L H M f) : LmAt cl L H' M' f := by
  obtain ⟨c', dV, doc, pm, ctv, bs, h1, h2, h3, h4, h5⟩ := h
  refine ⟨c', dV, doc, pm, ctv, bs, g.plain h1 h2.1 (plain_frz_own _ _), g.free h1 h2, g.plain h3 h4.1 (plain_code _ _), g.free h3 h4, ?_⟩
  cases h5 with
  | no z => exact .no z
  | one z z1 z2 z3 => exact .one z z1 (g.plain z2 z3.1 (plain_frz_own _ _)) (g.free z2 z3)
/-- what is no changing thing -/
theorem Ok.extFree (o : Ok C M m H) {a : Addr} {φ : Heap → Prop} (h : H a = some (.ext φ)) : M.free a := by
  refine ⟨fun z => ?_, fun z => ?_⟩
  · obtain ⟨n, hn, e⟩ := List.mem_iff_getElem.mp z
    have e1 : M.loc[n]? = some a := by rw [List.getElem?_eq_getElem hn, e]
    have hm : n < m.length := by rw [← o.len]; exact hn
    exact (o.cell n a m[n] e1 (List.getElem?_eq_getElem hm)).next φ h
  · obtain ⟨u, e, b⟩ := o.hid a z
    rw [h] at e
    cases e
    exact b.2.2 φ rfl
/-- the table, behind the making -/
def TabStep (P : Addr) (q : Str) (c' : Addr) (H H1 : Hp) : Prop :=
  (H1 = H ∧ H c' = some (LamX.CodeO c' q)) ∨ ∃ ps qs : Array Value, H P = some (.tbl ps) ∧ H c' = none ∧ H1 = upd (upd H P (.tbl qs)) c' (LamX.CodeO c' q) ∧ TriplesOk qs.toList ∧ ∀ (p' : Pos) (cv : Value), codeAmong p' qs.toList = some cv → codeAmong p' ps.toList = some cv ∨ cv = .ref c'
theorem TabStep.ok {P c' : Addr} {q : Str} (o : Ok C M m H) (hP : (P, q) ∈ C.L) (hu : ∀ p ∈ C.L, p.1 = P → p.2 = q) {H1 : Hp} (t : TabStep P q c' H H1) : Go M H M H1 ∧ Ok C M m H1 ∧ H1 c' = some (LamX.CodeO c' q) ∧ M.free c' := by
  rcases t with ⟨rfl, h⟩ | ⟨ps, qs, hp, hn, rfl, ht, hc⟩
  · exact ⟨Go.refl, o, h, o.extFree h⟩
  · have nPc : P ≠ c' := ne_of_none hp hn
    have oa := o.new (u := LamX.CodeO c' q) hn
    have hPa : upd H c' (LamX.CodeO c' q) P = some (.tbl ps) := by rw [upd_ne nPc]; exact hp
    have e : upd (upd H P (.tbl qs)) c' (LamX.CodeO c' q) = upd (upd H c' (LamX.CodeO c' q)) P (.tbl qs) := by
      funext b
      by_cases b1 : b = c'
      · rw [b1, upd_same, upd_ne (Ne.symm nPc), upd_same]
      · by_cases b2 : b = P
        · rw [upd_ne b1, b2, upd_same, upd_same]
        · rw [upd_ne b1, upd_ne b2, upd_ne b2, upd_ne b1]
    rw [e]
    have g2 := go_tab oa hPa (qs := qs)
    refine ⟨(Go.new hn).trans g2, oa.mo g2 (fun a ha => upd_ne fun z => oa.tab_out hPa (z ▸ ha)) ⟨fun Q hQ => ?_, fun p hp' => ?_⟩, by rw [upd_ne (Ne.symm nPc), upd_same], o.free hn⟩
    · obtain ⟨rs, h1, h2⟩ := oa.tab.1 Q hQ
      exact ⟨rs, by rw [upd_ne fun z => C.sp _ hP (by rw [← z]; exact hQ)]; exact h1, h2⟩
    · have kx : ∀ a φ, upd H c' (LamX.CodeO c' q) a = some (.ext φ) → upd (upd H c' (LamX.CodeO c' q)) P (.tbl qs) a = some (.ext φ) := fun a φ e => by
        rw [upd_ne fun z => by rw [z, hPa] at e; cases e]; exact e
      by_cases hb : p.1 = P
      · obtain ⟨ps', a1, a2, a3⟩ := o.tab.2 p hp'
        rw [hu p hp' hb]
        rw [hb, hp] at a1
        cases a1
        rw [hu p hp' hb] at a3
        refine ⟨qs, by rw [hb, upd_same], ht, fun p' cv hcv => ?_⟩
        rcases hc p' cv hcv with z | z
        · obtain ⟨c0, e1, e2⟩ := a3 p' cv z
          exact ⟨c0, e1, kx _ _ (by rw [upd_ne (ne_of_none e2 hn)]; exact e2)⟩
        · exact ⟨c', z, kx _ _ upd_same⟩
      · exact tabS_step (oa.tab.2 p hp') (fun ps' e => by rw [upd_ne hb]; exact e) kx
end
section
variable {X : Cx} {C : Ct} {pins : List (Addr × Obj)} {σ : L2.St} {H : Hp} {s : Shared} {L : Lm} {c P : Addr}
end
end Pd

set_option Elab.async false
set_option linter.all false
set_option maxRecDepth 100000
set_option maxHeartbeats 1000000
namespace Pd
open PySem PySem.Spec PyProof.Rows L2
/-! ### a lambda called -/
section
variable {X : Cx} {pins : List (Addr × Obj)} {σ : L2.St} {H HC HZ : Hp} {s sC s1 : Shared}
end
end Pd

set_option Elab.async false
set_option linter.all false
set_option maxRecDepth 100000
set_option maxHeartbeats 1000000
namespace Pd
open PySem PySem.Spec PyProof.Rows L2
/-! ### a def that calls what it gets and tells which error came -/
section
variable {X : Cx} {C : Ct} {pins : List (Addr × Obj)} {σ : L2.St} {H HC : Hp} {s sC : Shared} {L : Lm} {x a : Str} {g f : Addr} {fd : FuncData} {Ng : List Str} {pg : Arguments} {bg : List Stmt} {sg : Scope} {good tl : List (Str × Str)} {k : Nat} {fb : FE} {M : Ad} {m : Sto} {e : Env}
end
end Pd

set_option Elab.async false
set_option linter.all false
set_option maxRecDepth 100000
set_option maxHeartbeats 2000000
namespace Pd
open PySem PySem.Spec PyProof.Rows L2
/-! ### lambdas in a list; the comprehension that calls them all -/
def LmsAt (X : Cx) (bs : List (Lm × FE)) (fs : List Addr) (H : Hp) (M : Ad) : Prop := fs.length = bs.length ∧ ∀ (j : Nat) (p : Lm × FE) (f : Addr), bs[j]? = some p → fs[j]? = some f → LmAt (cloFrom X.env.cells p.1.sc.names []) p.1 H M f
theorem LmsAt.go {X : Cx} {bs : List (Lm × FE)} {fs : List Addr} {H H' : Hp} {M M' : Ad} (g : Go M H M' H') (h : LmsAt X bs fs H M) : LmsAt X bs fs H' M' := ⟨h.1, fun j p f a b => (h.2 j p f a b).go g⟩
theorem LmAt.weak {cl : List (Str × Addr)} {L : Lm} {H : Hp} {M M0 : Ad} {f : Addr} (hd : Hd M H M0) (h : LmAt cl L H M f) : LmAt cl L H M0 f := by
  obtain ⟨c', dV, doc, pm, ctv, bs, h1, h2, h3, h4, h5⟩ := h
  refine ⟨c', dV, doc, pm, ctv, bs, h1, hd.freeL h1 h2, h3, hd.freeL h3 h4, ?_⟩
  cases h5 with
  | no z => exact .no z
  | one z z1 z2 z3 => exact .one z z1 z2 (hd.freeL z2 z3)
section
variable {X : Cx} {C : Ct} {x a : Str} {g : Addr} {fd : FuncData} {Ng : List Str} {pg : Arguments} {bg : List Stmt} {sg : Scope} {good tl : List (Str × Str)} {k i iv : Nat} {bs : List (Lm × FE)} {lst v w : Str}
end
end Pd

set_option Elab.async false
set_option linter.all false
set_option maxRecDepth 100000
set_option maxHeartbeats 2000000
namespace Pd
open PySem PySem.Spec PyProof.Rows L2
section
variable {X : Cx} {C : Ct} {Wx : WX} {L : Lm} {fb : FE} {bs bs' : List (Lm × FE)} {es : List Expr} {c P : Addr} {i : Nat} {y : Str} {pos p1 p2 p3 p4 p5 p6 p7 p8 p9 p10 p11 p12 : Pos}
section
variable {x a lst v w : Str} {g : Addr} {fd : FuncData} {Ng : List Str} {pg : Arguments} {bg : List Stmt} {sg : Scope} {good tl : List (Str × Str)} {k iv : Nat} {body rest : List Stmt} {tb : TS} {fr : FS} {scope : Scope} {jw : Nat}
end
end
end Pd

set_option Elab.async false
set_option linter.all false
set_option maxRecDepth 100000
set_option maxHeartbeats 2000000
namespace Pd
open PySem PySem.Spec PyProof.Rows L2
/-! ### a text so many times; .upper(); d.setdefault(k, v); comprehensions of two clauses -/
section
variable {X : Cx} {C : Ct} {Wx : WX} {a b c o : Expr} {f g h : FE} {pos p apos cpos : Pos}
end
end Pd

set_option Elab.async false
set_option linter.all false
set_option maxRecDepth 100000
set_option maxHeartbeats 2000000
namespace Pd
open PySem PySem.Spec PyProof.Rows L2
/-! ### comprehensions of two clauses -/
section
variable {X : Cx} {C : Ct} {Wx : WX} {f : FE} {pos : Pos}
end
end Pd

set_option Elab.async false
set_option linter.all false
set_option maxRecDepth 100000
set_option maxHeartbeats 3200000
namespace Pd
open PySem PySem.Spec PyProof.Rows L2
/-! ### sorted({.. for ..}): texts -/
section
variable {P : Program} {w : World} {A : Around} {E : Value → Shared → Prop} {s : Shared} {a : Addr}
end
section
variable {X : Cx} {C : Ct} {Wx : WX} {f : FE} {pos : Pos}
end
end Pd

set_option Elab.async false
set_option linter.all false
set_option maxRecDepth 100000
set_option maxHeartbeats 1000000
namespace Pd
open PySem PySem.Spec PyProof.Rows L2
/-! ### sorted(xs, key=f): f a def of the program, run among all else -/
section
variable {h : Heap} {k b : Addr}
end
section
variable {X : Cx} {C : Ct} {pins : List (Addr × Obj)} {σ : St} {M : Ad} {m : Sto} {H : Hp} {s : Shared} {a kS : Addr} {ob : Obj}
/-- what is asked of an object of the sort's own -/
def Mine (X : Cx) (pins : List (Addr × Obj)) (H : Hp) (a : Addr) : Prop := X.s_0.heap.objs.size ≤ a ∧ a ≠ X.env.locals ∧ (∀ x c, X.env.cells.lookup x = some c → c ≠ a) ∧ (∀ p ∈ X.pn ++ pins, p.1 ≠ a) ∧ a ∉ X.fs ∧ H a = none
theorem Mine.new (I : Inv X pins σ H s) (ha : s.heap.objs.size ≤ a) : Mine X pins H a := by
  refine ⟨Nat.le_trans I.sz ha, fun z => ?_, fun x c e z => ?_, fun p hp z => ?_, I.nofs ha, I.hok.fresh ha⟩
  · exact absurd (Nat.lt_of_lt_of_le I.lt (z ▸ ha)) (Nat.lt_irrefl _)
  · obtain ⟨v, o, ho, _⟩ := I.cell x c e
    exact absurd (Nat.lt_of_lt_of_le (Heap.lt_size ho) (z ▸ ha)) (Nat.lt_irrefl _)
  · exact absurd (Nat.lt_of_lt_of_le (Heap.lt_size (I.pin p hp).1) (z ▸ ha)) (Nat.lt_irrefl _)
theorem Mine.pin (w : Mine X pins H a) (e : s.heap.get? a = some ob) (d : ∀ v, ob.data ≠ .cell v) : s.heap.get? (a, ob).1 = some (a, ob).2 ∧ H (a, ob).1 = none ∧ (a, ob).1 ≠ X.env.locals ∧ (a, ob).1 ∉ X.fs ∧ ∀ v, (a, ob).2.data ≠ .cell v :=
  ⟨e, w.2.2.2.2.2, w.2.1, w.2.2.2.2.1, d⟩
end
section
open PySem.W PySem.Calls
variable {X : Cx} {C : Ct} {pins : List (Addr × Obj)} {σ : St} {M : Ad} {m : Sto} {H : Hp} {s : Shared} {a kS : Addr} {e1 : Nat} {vs : List Value} {xs : List V} {ds ks : List PyData} {f : Value} {E : Value → Shared → Prop} {P : PySem.Fin → Shared → Prop}
/-- the key's call, wherever it stands in the sort -/
def Turn (X : Cx) (C : Ct) (σ : St) (M : Ad) (m : Sto) (H : Hp) (f : Value) (v : Value) (k : PyData) : Prop := ∀ (pins : List (Addr × Obj)) (s : Shared) (H' : Hp) (M' : Ad), Inv X pins σ H' s → Ok C M' m H' → Go M H M' H' →
  wpAny (model X.prog X.w) X.A.in1.in1 (call f [v]) (fun u s' => ∃ y H2 M2, Inv X pins σ H2 s' ∧ Ok C M2 m H2 ∧ Go M' H' M2 H2 ∧ RelV y u ∧ Rp C.K H2 M2 y k) (fun _ _ => False) s
end
/-! #### the key a def of the program -/
open Classical in
section
variable {X : Cx} {C : Ct} {Wx : WX} {pins : List (Addr × Obj)} {σ : L2.St} {M : Ad} {m : Sto} {H : Hp} {s : Shared} {k : Nat} {fa : Addr} {fd : FuncData} {ps : List Str} {F : List W → Sto → R W} {d kd : PyData} {y : V} {v : Value} {e : Expr} {f : FE} {x z : Str} {p pos kpos zpos : Pos}
end
end Pd

set_option Elab.async false
set_option linter.all false
set_option maxRecDepth 100000
set_option maxHeartbeats 1000000
namespace Pd
open PySem PySem.Spec PyProof.Rows L2
/-! ### a lambda with one parameter; sorted(xs, key=lambda y: ..) -/
def LmAt1 (cl : List (Str × Addr)) (L : Lm) (H : Hp) (M : Ad) (f : Addr) : Prop :=
  ∃ (c' : Addr) (doc pm ctv : Value), H f = some (.frz (L.obj cl .none doc pm ctv c') (.own f)) ∧ M.free f ∧ H c' = some (LamX.CodeO c' L.q) ∧ M.free c'
section
variable {C : Ct} {M M' : Ad} {m : Sto} {H H' : Hp} {L : Lm} {cl : List (Str × Addr)} {f : Addr}
theorem LmAt1.go (g : Go M H M' H') (h : LmAt1 cl L H M f) : LmAt1 cl L H' M' f := by
  obtain ⟨c', doc, pm, ctv, h1, h2, h3, h4⟩ := h
  exact ⟨c', doc, pm, ctv, g.plain h1 h2.1 (plain_frz_own _ _), g.free h1 h2, g.plain h3 h4.1 (plain_code _ _), g.free h3 h4⟩
end
section
variable {X : Cx} {C : Ct} {pins : List (Addr × Obj)} {σ : L2.St} {H HZ : Hp} {s s1 : Shared} {L : Lm} {c P : Addr} {y : Str} {i k : Nat} {yv : V} {v : Value} {M : Ad} {m : Sto} {e : Env} {fb : FE} {d kd : PyData}
end
section
variable {X : Cx} {C : Ct} {Wx : WX} {c P : Addr} {x y : Str} {i k : Nat} {fb : FE} {r : FA} {e : Expr} {p pos kpos lpos : Pos} {pr : Arguments} {bd : Expr} {sc : Scope}
end
end Pd

set_option Elab.async false
set_option linter.all false
set_option maxRecDepth 100000
set_option maxHeartbeats 1000000
namespace Pd
open PySem PySem.Spec PyProof.Rows L2 PySem.W
/-! ### min, max of ints: a list, a tuple; with default= -/
theorem readsAll_of_ints {h : Heap} {us : List Value} {ns : List Int} (hi : IntsAre us ns) : ∃ as, ReadsAll h us (ns.map PyData.int) as := by
  induction hi with
  | nil => exact ⟨[], .nil⟩
  | cons n t _ ih =>
    obtain ⟨as, r⟩ := ih
    exact ⟨_, .cons (.int _ _) r⟩
theorem alikeAll_ints (ns : List Int) : PySem.W.AlikeAll (ns.map PyData.int) := by
  refine ⟨fun x hx y hy => ?_, fun x hx => ?_⟩
  · obtain ⟨i, _, rfl⟩ := List.mem_map.mp hx
    obtain ⟨j, _, rfl⟩ := List.mem_map.mp hy
    rfl
  · obtain ⟨i, _, rfl⟩ := List.mem_map.mp hx
    intro z
    cases z
theorem depthAll_ints : ∀ ns : List Int, PyData.depthAll (ns.map PyData.int) = 0
  | [] => rfl
  | n :: ns => by
    have := depthAll_ints ns
    simp only [List.map_cons, PyData.depthAll, PyData.depth, this]
    all_goals rfl
section
variable {X : Cx} {C : Ct} {Wx : WX}
def rPick (K : PySem.W.Frag) (f : Int → Int → Int) : List V → Hp → VK → Prop := fun xs H Q => ∃ (p : Addr) (i : Int) (is : List Int), xs = [.ref p] ∧ (SqL K H p ((i :: is).map V.int) ∨ SqT K H p ((i :: is).map V.int)) ∧ Q (.int (is.foldl f i)) H
theorem call_minI (hc : X.calm = true) (hu : X.A.units + 64 < cLine) : CallR X (.builtin "min") (rPick X.K min) := by
  intro pins s σ H xs us Q I r h
  obtain ⟨p, i, is, rfl, hs, q⟩ := h
  obtain rfl := r.ref1
  have fin : ∀ {v : Value} {h' : Heap} {tk : Nat} {bs : List Addr}, Reads h' v (minD (.int i) (is.map .int)) bs → (∀ b o, s.heap.get? b = some o → h'.get? b = some o) → EP X pins σ Q v { s with heap := h', toks := tk } := fun {v h' tk bs} rr k => by
    rw [minD_ints] at rr
    obtain ⟨n, t, e1, rfl⟩ := reads_int_of rr rfl
    cases e1
    exact ⟨.int _, H, I.kept k, ⟨t, rfl⟩, q⟩
  have dp : X.A.units + 1 + PyData.depthAll (.int i :: is.map .int) < cLine := by
    have := depthAll_ints (i :: is)
    rw [List.map_cons] at this
    rw [this]
    omega
  rcases hs with hs | hs
  · obtain ⟨its, rv, hl, _⟩ := I.list hs
    obtain ⟨as, hr⟩ := readsAll_of_ints (h := s.heap) rv.ints
    exact min_list_data (x := .int i) (xs := is.map .int) (I.ok.hd hc) hl.isList (by rw [List.toList_toArray]; exact hr) (alikeAll_ints (i :: is)) dp fun _ v h' tk bs _ rr k => fin rr k
  · obtain ⟨its, rv, hl, _⟩ := I.tuple hs
    obtain ⟨as, hr⟩ := readsAll_of_ints (h := s.heap) rv.ints
    exact min_tuple_data (x := .int i) (xs := is.map .int) (I.ok.hd hc) hl (by rw [List.toList_toArray]; exact hr) (alikeAll_ints (i :: is)) dp fun _ v h' tk bs _ rr k => fin rr k
def pickW (f : Int → Int → Int) : List W → Sto → R W
  | [.d (.list ds)], m => match unIs ds with
    | some (i :: is) => .ok (.d (.int (is.foldl f i))) m
    | _ => .bad
  | [.d (.tuple ds)], m => match unIs ds with
    | some (i :: is) => .ok (.d (.int (is.foldl f i))) m
    | _ => .bad
  | _, _ => .bad
def qMin : List W → Sto → R W := pickW min
theorem cd_pick {f : Int → Int → Int} : CallD C Wx (rPick C.K f) (pickW f) := by
  intro σ M m H vs ws Q o rv q
  unfold pickW at q
  split at q
  · split at q
    · rename_i i is e
      obtain ⟨v, rfl, r1⟩ := rv.one
      cases r1 with | lst h1 h2 =>
      exact ⟨_, i, is, rfl, .inl (by rw [← h2.ints e]; exact h1.sq), q.now o _ (Rp.int _)⟩
    · exact q.elim
  · split at q
    · rename_i i is e
      obtain ⟨v, rfl, r1⟩ := rv.one
      cases r1 with | tup h1 h2 =>
      exact ⟨_, i, is, rfl, .inr (by rw [← h2.ints e]; exact h1.sq), q.now o _ (Rp.int _)⟩
    · exact q.elim
  · exact q.elim
variable {a : Expr} {r : FA} {p pos : Pos}
theorem de_min {x : Str} (hx : x = "min") (hc : X.calm = true) (hu : X.A.units + 65 < cLine) (hm : X.mg x = none) (ha : DA X C Wx [a] r) (hg : Gl X x := by rfl) (hK : X.K = C.K := by rfl) (he : starEach [a] X.env = (false, eval a X.env) :: starEach [] X.env := by rfl) (hpl : (backTo pos (starEach [] X.env)).any (·.1) = false := by rfl) :
    DE X C Wx (.Call (.Name x p) [a] [] pos) (eB qMin r) := by
  subst hx
  exact de_callB (id := "min") (call_minI hc (by omega)) (by rw [hK]; exact cd_pick) hm boot_min ha hg (by decide) (by decide) he hpl
/-! a < b <= c, a < b < c, a <= b < c -/
variable {b c : Expr} {f g h : FE}
end
end Pd

set_option Elab.async false
set_option linter.all false
set_option maxRecDepth 100000
set_option maxHeartbeats 2000000
namespace Pd
open PySem PySem.Spec PyProof.Rows L2
/-! ### comprehensions of two clauses, the second walk over a list -/
section
variable {X : Cx} {C : Ct} {Wx : WX} {f : FE} {pos : Pos}
end
end Pd

set_option Elab.async false
set_option linter.all false
set_option maxRecDepth 100000
set_option maxHeartbeats 1000000
namespace Pd
open PySem PySem.Spec PyProof.Rows L2
/-! ### a module's constant that is a tuple of ints: walked -/
section
variable {X : Cx} {C : Ct} {Wx : WX} {x : Str} {is : List Int} {pos : Pos}
end
end Pd

set_option Elab.async false
set_option linter.all false
set_option maxRecDepth 100000
set_option maxHeartbeats 1000000
namespace Pd
open PySem PySem.Spec PyProof.Rows L2
/-! ### range(i, j, -1) -/
section
variable {X : Cx} {C : Ct} {Wx : WX} {a b c : Expr} {r : FA} {p pos : Pos}
end
/-! ### x, y, .. = e, f, ..: through a tuple, of changing things too -/
section
variable {X : Cx} {C : Ct} {Wx : WX} {r : FA} {pos : Pos}
/-- three plain names -/
def sPar3 (i j l : Nat) (r : FA) : FS := fun e m => ofR e (r e m) fun ws m1 => match ws with
  | [w, z, y] => .nx (((e.set i (some w)).set j (some z)).set l (some y)) m1
  | _ => .bad
theorem ds_par3 (i j l : Nat) {a b c : Expr} {x y z : Str} {px py pz pt : Pos} {kt k2 : Nat} {pt2 : Pos} (hc : X.calm = true) (hN : X.N.Nodup) (ha : DA X C Wx [a, b, c] r) (hi : X.N[i]? = some x := by rfl) (hj : X.N[j]? = some y := by rfl) (hl : X.N[l]? = some z := by rfl) (hij : i ≠ j := by decide) (hil : i ≠ l := by decide) (hjl : j ≠ l := by decide)
    (hx : X.env.scope.names.lookup x = some .local := by rfl) (hy : X.env.scope.names.lookup y = some .local := by rfl) (hz : X.env.scope.names.lookup z = some .local := by rfl) (hw : swappedStores [.Tuple [.Name x px, .Name y py, .Name z pz] kt pt] (.Tuple [a, b, c] k2 pt2) X.env = pure (some [x, y, z]) := by rfl) (hs : swapsWithSole [.Tuple [.Name x px, .Name y py, .Name z pz] kt pt] (.Tuple [a, b, c] k2 pt2) pos.line X.env = pure false := by rfl) :
    DS X C Wx (.Assign [.Tuple [.Name x px, .Name y py, .Name z pz] kt pt] (.Tuple [a, b, c] k2 pt2) pos) (sPar3 i j l r) := ⟨PS_imp (ps_par3 hc hN hi hj hl hij hil hjl hx hy hz ha.pa hw hs) fun D σ H ⟨M, m, e, ok, rs, q⟩ => tA_st ok rs q fun vs ws M1 m1 H1 g1 o1 r1 rv q1 => by
  split at q1
  · obtain ⟨u, v, w, rfl, r2, r3, r4⟩ := rv.three
    exact ⟨u, v, w, rfl, q1.nx_now o1 (((r1.set r2 i).set r3 j).set r4 l)⟩
  · exact q1.elim⟩
end
end Pd

set_option Elab.async false
set_option linter.all false
set_option maxRecDepth 100000
set_option maxHeartbeats 1000000
namespace Pd
open PySem PySem.Spec PyProof.Rows L2
/-! ### d != {} -/
section
open PySem.W PySem.Calls
variable {prog : Program} {w : World} {A : Around} {E : Value → Shared → Prop} {s : Shared} {a b : Addr} {oa ob : Obj} {es : Array DictEntry} {ep ep' : Nat}
end
section
variable {X : Cx} {C : Ct} {Wx : WX}
variable {a b : Expr} {f g : FE} {pos : Pos}
end
end Pd

set_option Elab.async false
set_option linter.all false
set_option maxRecDepth 100000
set_option maxHeartbeats 1000000
namespace Pd
open PySem PySem.Spec PyProof.Rows L2
/-! ### dict comprehensions: keys tuples of ints and texts -/
section
variable {X : Cx}
end
section
variable {X : Cx} {C : Ct} {Wx : WX} {pos : Pos}
end
end Pd

set_option Elab.async false
set_option linter.all false
set_option maxRecDepth 100000
set_option maxHeartbeats 2000000
namespace Pd
open PySem PySem.Spec PyProof.Rows L2
/-! ### a text so many times, none too -/
section
variable {X : Cx} {C : Ct} {Wx : WX} {a b : Expr} {f g : FE} {pos : Pos}
end
end Pd

set_option Elab.async false
set_option linter.all false
set_option maxRecDepth 100000
set_option maxHeartbeats 2000000
namespace Pd
open PySem PySem.Spec PyProof.Rows L2
/-! ### xs[::k], k 1 or -1 -/
section
variable {X : Cx} {C : Ct} {Wx : WX} {a k : Expr} {te tk : TE} {f g : FE} {p2 pos : Pos}
end
end Pd

set_option Elab.async false
set_option linter.all false
set_option maxRecDepth 100000
set_option maxHeartbeats 2000000
namespace Pd
open PySem PySem.Spec PyProof.Rows L2
/-! ### sum of a tuple of ints -/
def rSumT (K : PySem.W.Frag) : List V → Hp → VK → Prop := fun vs H Q => ∃ (a : Addr) (ns : List Int), vs = [V.ref a] ∧ SqT K H a (ns.map V.int) ∧ Q (.int ns.sum) H
section
variable {X : Cx} {C : Ct} {Wx : WX} {a : Expr} {r : FA} {p pos : Pos}
theorem cr_sumT (hc : X.calm = true) : CallR X (.builtin "sum") (rSumT X.K) := by
  intro pins s σ H vs us Q I r h
  obtain ⟨a, ns, rfl, hs, q⟩ := h
  obtain ⟨its, rv, hl, _⟩ := I.tuple hs
  rw [Vals.ref1 r]
  have hi := rv.ints
  obtain ⟨xs, hx⟩ := hi.allInts.items
  have hn : numsOf its.toArray.toList = ns := by rw [show its.toArray.toList = its from rfl, hi.numsOf]
  rw [hx] at hl hn
  rw [nums_intItems] at hn
  refine PySem.W.ktm_sumG (I.ok.hd hc) hl fun h' tk t' hk => ?_
  rw [preSum_eq, List.take_of_length_le (by simp), hn]
  exact ⟨.int _, H, I.kept hk, ⟨_, rfl⟩, q⟩
def qSumA : List W → Sto → R W
  | [.d (.list ds)], m => match unIs ds with
    | some is => .ok (.d (.int is.sum)) m
    | none => .bad
  | [.d (.tuple ds)], m => match unIs ds with
    | some is => .ok (.d (.int is.sum)) m
    | none => .bad
  | _, _ => .bad
theorem cd_sumA : CallD C Wx (fun xs H Q => rSum C.K xs H Q ∨ rSumT C.K xs H Q) qSumA := by
  intro σ M m H vs ws Q o rv q
  unfold qSumA at q
  split at q
  · split at q
    · rename_i is e
      obtain ⟨v, rfl, r1⟩ := rv.one
      cases r1 with | lst h1 h2 => exact .inl ⟨_, is, rfl, by rw [← h2.ints e]; exact h1.sq, q.now o _ (Rp.int _)⟩
    · exact q.elim
  · split at q
    · rename_i is e
      obtain ⟨v, rfl, r1⟩ := rv.one
      cases r1 with | tup h1 h2 => exact .inr ⟨_, is, rfl, by rw [← h2.ints e]; exact h1.sq, q.now o _ (Rp.int _)⟩
    · exact q.elim
  · exact q.elim
theorem de_sumA {x : Str} (hx : x = "sum") (hc : X.calm = true) (hm : X.mg x = none) (ha : DA X C Wx [a] r) (hg : Gl X x := by rfl) (hK : X.K = C.K := by rfl) (he : starEach [a] X.env = (false, eval a X.env) :: starEach [] X.env := by rfl) (hpl : (backTo pos (starEach [] X.env)).any (·.1) = false := by rfl) :
    DE X C Wx (.Call (.Name x p) [a] [] pos) (eB qSumA r) := by
  subst hx
  exact de_callB (id := "sum") (CallR_or (cr_sum hc) (cr_sumT hc)) (by rw [hK]; exact cd_sumA) hm PyProof.Rows.boot_sum ha hg (by decide) (by decide) he hpl
end
end Pd

set_option Elab.async false
set_option linter.all false
set_option maxRecDepth 100000
set_option maxHeartbeats 3200000
namespace Pd
open PySem PySem.Spec PyProof.Rows L2
section
variable {P : Program} {w : World} {A : Around} {E : Value → Shared → Prop} {s : Shared} {a : Addr} {K : Type} [DecidableEq K] {G : MK P w K} {L : List K}
end
end Pd

set_option Elab.async false
set_option linter.all false
set_option maxRecDepth 100000
set_option maxHeartbeats 3200000
namespace Pd
open PySem PySem.Spec PyProof.Rows L2
section
variable {X : Cx} {C : Ct} {Wx : WX} {a : Expr} {f : FE} {pos p p2 pos2 : Pos}
end
end Pd

set_option Elab.async false
set_option linter.all false
set_option maxRecDepth 100000
set_option maxHeartbeats 3200000
namespace Pd
open PySem PySem.Spec PyProof.Rows L2
/-! ### sorted sets of pairs of texts -/
/-- the pair of a key -/
def unK : NestedKey → Str × Str
  | .tup [.text a, .text b] => (a, b)
  | _ => ("", "")
abbrev mo (q : Mem) : Str × Str := unK q.2
def pr (p : Str × Str) : PyData := .tuple [.str p.1, .str p.2]
section
variable {P : Program} {w : World} {A : Around} {E : Value → Shared → Prop} {s : Shared} {a : Addr}
end
section
variable {X : Cx}
end
section
variable {X : Cx} {C : Ct} {Wx : WX} {a : Expr} {f : FE} {pos p p2 pos2 : Pos}
end
end Pd

set_option Elab.async false
set_option linter.all false
set_option maxRecDepth 100000
set_option maxHeartbeats 3200000
namespace Pd
open PySem PySem.Spec PyProof.Rows L2
/-! ### sorted sets of pairs of texts, by a comprehension -/
section
variable {P : Program} {w : World} {A : Around} {E : Value → Shared → Prop} {s : Shared} {a : Addr}
end
section
variable {X : Cx} {C : Ct} {Wx : WX} {f : FE} {pos : Pos}
end
end Pd

set_option Elab.async false
set_option linter.all false
set_option maxRecDepth 100000
set_option maxHeartbeats 1600000
namespace Pd
open PySem PySem.Spec PyProof.Rows L2
section
variable {X : Cx} {C : Ct} {Wx : WX} {o : Expr} {pos p apos cpos : Pos}
end
end Pd

set_option Elab.async false
set_option linter.all false
set_option maxRecDepth 100000
set_option maxHeartbeats 3200000
namespace Pd
open PySem PySem.Spec PyProof.Rows L2
section
variable {P : Program} {w : World} {A : Around} {E : Value → Shared → Prop} {s : Shared} {a : Addr}
end
section
variable {X : Cx} {C : Ct} {Wx : WX} {a : Expr} {f : FE} {pos p p2 pos2 : Pos}
end
end Pd

set_option Elab.async false
set_option linter.all false
set_option maxRecDepth 100000
set_option maxHeartbeats 1600000
namespace Pd
open PySem PySem.Spec PyProof.Rows L2
section
variable {X : Cx} {C : Ct} {Wx : WX} {pos p2 : Pos} {r : FA}
end
end Pd

set_option Elab.async false
set_option linter.all false
set_option maxRecDepth 100000
set_option maxHeartbeats 2000000
namespace Pd
open PySem PySem.Spec PyProof.Rows L2
/-! ### enumerate of a text -/
section
variable {X : Cx} {C : Ct} {Wx : WX} {a b c : Expr} {r : FA} {p pos : Pos}
end
end Pd

set_option Elab.async false
set_option linter.all false
set_option maxRecDepth 100000
set_option maxHeartbeats 1600000
namespace Pd
open PySem PySem.Spec PyProof.Rows L2
/-! ### an instance's fields -/
section
variable {X : Cx} {C : Ct} {Wx : WX} {o v : Expr} {pos pos' : Pos} {f : Str} {fo fv : FE} {M : Ad} {H : Hp}
/-- a class of the program: plain gets and stores; these fields are no attributes of it -/
structure ClsF (K : PySem.W.Frag) (a : Addr) (fields : List Str) : Prop where
  c : Cls K a
  no : ∀ f ∈ fields, NoAttr K a f
theorem fld_rel {vs : List (Str × V)} {fs : List (Str × W)} (r : RWp C H M vs fs) {w : W} (h : fs.lookup f = some w) : ∃ v, vs.lookup f = some v ∧ RW C H M v w := by
  induction r with
  | nil => cases h
  | @cons k v vs w' ws a b ih =>
    rw [List.lookup_cons] at h ⊢
    cases hb : f == k with
    | true => rw [hb] at h; cases h; exact ⟨v, rfl, a⟩
    | false => rw [hb] at h; exact ih h
theorem fld_none {vs : List (Str × V)} {fs : List (Str × W)} (r : RWp C H M vs fs) (h : fs.lookup f = none) : vs.lookup f = none := by
  induction r with
  | nil => rfl
  | @cons k v vs w' ws a b ih =>
    rw [List.lookup_cons] at h ⊢
    cases hb : f == k with
    | true => rw [hb] at h; cases h
    | false => rw [hb] at h; exact ih h
theorem fld_len {vs : List (Str × V)} {fs : List (Str × W)} (r : RWp C H M vs fs) : vs.length = fs.length := by
  induction r with
  | nil => rfl
  | cons _ _ ih => rw [List.length_cons, List.length_cons, ih]
/-- e.f of an instance of c -/
def eFld (c f : Str) (fo : FE) : FE := fun e m => (fo e m).bind fun w m1 => match w with
  | .loc n => match m1[n]? with
    | some (.ins c' fs) => if c' = c then (match fs.lookup f with
      | some z => .ok z m1
      | none => .bad) else .bad
    | _ => .bad
  | _ => .bad
theorem de_fld {c : Str} {fields : List Str} (F : ClsF X.K (C.xa c) fields) (hf : f ∈ fields) (ho : DE X C Wx o fo) (hb : attributeBase o f X.env (eval o X.env) = eval o X.env := by rfl) : DE X C Wx (.Attribute o f pos) (eFld c f fo) :=
  ⟨PE_imp (pe_fld ho.pe hb) fun σ H Q ⟨M, m, e, ok, rs, q⟩ => tE_bind ok rs q fun v w M1 m1 H1 g1 o1 r1 rv q1 => by
    split at q1
    · rename_i n
      split at q1
      · rename_i c' fs e0
        split at q1
        · rename_i hc
          subst hc
          split at q1
          · rename_i z ez
            obtain ⟨l, rfl, hM⟩ := rv
            obtain ⟨dx, vs, h1, h2⟩ := o1.cell n l _ hM e0
            obtain ⟨u, hu, ru⟩ := fld_rel h2 ez
            exact ⟨l, _, dx, vs, u, rfl, h1, F.c, F.no f hf, hu, q1.now o1 u ru⟩
          · exact q1.elim
        · exact q1.elim
      · exact q1.elim
    · exact q1.elim⟩
def putFW (f : Str) (w : W) : List (Str × W) → List (Str × W)
  | [] => [(f, w)]
  | (k, z) :: r => if k = f then (k, w) :: r else (k, z) :: putFW f w r
theorem putF_rel {x : V} {w : W} (rx : RW C H M x w) {vs : List (Str × V)} {fs : List (Str × W)} (r : RWp C H M vs fs) : RWp C H M (putF f x vs) (putFW f w fs) := by
  induction r with
  | nil => exact .cons rx .nil
  | @cons k v vs w' ws a b ih =>
    unfold putF putFW
    by_cases e : k = f
    · rw [if_pos e, if_pos e]; exact .cons rx b
    · rw [if_neg e, if_neg e]; exact .cons a ih
/-- e.f = v -/
def sFldS (c f : Str) (fo fv : FE) : FS := fun e m => ofR e (fv e m) fun w m1 => ofR e (fo e m1) fun z m2 => match z with
  | .loc n => match m2[n]? with
    | some (.ins c' fs) => if c' = c ∧ fs.length < 1000 then .nx e (m2.set n (.ins c' (putFW f w fs))) else .bad
    | _ => .bad
  | _ => .bad
theorem ds_fld {c : Str} {fields : List Str} (F : ClsF X.K (C.xa c) fields) (hf : f ∈ fields) (ho : DE X C Wx o fo) (hv : DE X C Wx v fv) (hs : swapsWith v (some (.Attribute o f pos')) pos.line X.env = pure false := by rfl) : DS X C Wx (.Assign [.Attribute o f pos'] v pos) (sFldS c f fo fv) :=
  ⟨PS_imp (ps_fld ho.pe hv.pe hs) fun D σ H ⟨M, m, e, ok, rs, q⟩ => tE_st ok rs q fun v1 w1 M1 m1 H1 g1 o1 r1 rv1 q1 => tE_st o1 r1 q1 fun v2 w2 M2 m2 H2 g2 o2 r2 rv2 q2 => by
    split at q2
    · rename_i n
      split at q2
      · rename_i c' fs e0
        split at q2
        · rename_i hc
          obtain ⟨rfl, hl⟩ := hc
          obtain ⟨l, rfl, hM⟩ := rv2
          obtain ⟨dx, vs, h1, h2⟩ := o2.cell n l _ hM e0
          have rel := putF_rel (f := f) (rv1.go g2) h2
          have gg : Go M2 H2 M2 (upd H2 l (.ins (C.xa c') dx (putF f v1 vs))) := Go.put (List.mem_of_getElem? hM) (o2.sep _ (List.mem_of_getElem? hM))
          obtain ⟨gg, o4⟩ := o2.putC (u := .ins (C.xa c') dx (putF f v1 vs)) (c' := .ins c' (putFW f w1 fs)) hM e0 (fun ps z => by rw [h1] at z; cases z) ⟨dx, putF f v1 vs, upd_same, rel.go gg⟩
          exact ⟨l, _, dx, vs, rfl, h1, F.c, F.no f hf, by rw [fld_len h2]; exact hl, q2 σ M2 _ gg o4 (r2.go gg)⟩
        · exact q2.elim
      · exact q2.elim
    · exact q2.elim⟩
/-! ### methods called; what they raise is not asked -/
def noXR {α : Type} : R α → R α
  | .exc _ _ => .bad
  | z => z
theorem noXR_post {α : Type} {Ex Ex' : Exn → Sto → Ad → Hp → Prop} {r : R α} {Kk : α → Ad → Sto → Hp → Prop} (q : Post C Ex M H (noXR r) Kk) : Post C Ex' M H r Kk := by
  cases r with
  | exc x m => exact q.elim
  | ok w m => exact q
  | bad => exact q
def eMeth (c mt : Str) (n : Nat) (F : List W → Sto → R W) (fo : FE) (r : FA) : FE := fun e m => (fo e m).bind fun w m1 => match w with
  | .loc j => match m1[j]? with
    | some (.ins c' fs) => if c' = c ∧ fs.lookup mt = none then (r e m1).bind fun ws m2 => if ws.length + 1 = n then noXR (F (.loc j :: ws) m2) else .bad else .bad
    | _ => .bad
  | _ => .bad
theorem de_meth {k n : Nat} {c mt : Str} {fields : List Str} {fa : Addr} {fd : FuncData} {ps : List Str} {F : List W → Sto → R W} {pl : Sem Bool} {a : Expr} {es : List Expr} {r : FA} {apos : Pos} (Cf : ClsF X.K (C.xa c) fields) (hm : Meth X.K (C.xa c) mt fa) (Fk : FnOk X.prog X.w X.K X.mg X.base (L2.CX X.prog X.w) k fa fd ps (spD C n F)) (hr : Room k X.A)
    (hb : Binds X.K fd ps []) (hx : Passes (L2.CX X.prog X.w) X (fun _ _ _ => False)) (ho : DE X C Wx o fo) (ha : DA X C Wx (a :: es) r)
    (hst : starEach (a :: es) X.env = (false, eval a X.env) :: starEach es X.env := by rfl) (hpl : (backTo pos (starEach es X.env)).any (·.1) = false := by rfl)
    (ht : eval (.Call (.Attribute o mt apos) (a :: es) [] pos) X.env = (do
      let ov ← eval o X.env
      standAt apos.atName
      let (f, first) ← holding [ov] (getMethod ov mt pl)
      callWith pos f first (backTo pos (starEach (a :: es) X.env)) (backToKw pos (keywordEach [] X.env))) := by rfl) : DE X C Wx (.Call (.Attribute o mt apos) (a :: es) [] pos) (eMeth c mt n F fo r) :=
  ⟨PE_imp (pe_meth (pl := pl) ho.pe Cf.c hm Fk hr hb .nil hx ha.pa hst hpl ht) fun σ H Q ⟨M, m, e, ok, rs, q⟩ => tE_bind ok rs q fun v w M1 m1 H1 g1 o1 r1 rv q1 => by
    split at q1
    · rename_i j
      split at q1
      · rename_i c' fs e0
        split at q1
        · rename_i hc
          obtain ⟨rfl, hl⟩ := hc
          obtain ⟨l, rfl, hM⟩ := rv
          obtain ⟨dx, vs, h1, h2⟩ := o1.cell j l _ hM e0
          refine ⟨l, dx, vs, rfl, h1, fld_none h2 hl, tA_bind o1 r1 q1 fun us ws M2 m2 H2 g2 o2 r2 rv2 q2 => ?_⟩
          split at q2
          · rename_i hn
            rw [List.append_nil]
            exact ⟨by rw [List.length_cons, rv2.len]; exact hn, M2, m2, .loc j :: ws, o2, .cons ⟨l, rfl, g2.at_ hM⟩ rv2, noXR_post q2⟩
          · exact q2.elim
        · exact q1.elim
      · exact q1.elim
    · exact q1.elim⟩
theorem de_meth0 {k : Nat} {c mt : Str} {fields : List Str} {fa : Addr} {fd : FuncData} {ps : List Str} {F : List W → Sto → R W} {pl : Sem Bool} {apos : Pos} (Cf : ClsF X.K (C.xa c) fields) (hm : Meth X.K (C.xa c) mt fa) (Fk : FnOk X.prog X.w X.K X.mg X.base (L2.CX X.prog X.w) k fa fd ps (spD C 1 F)) (hr : Room k X.A)
    (hb : Binds X.K fd ps []) (hx : Passes (L2.CX X.prog X.w) X (fun _ _ _ => False)) (ho : DE X C Wx o fo)
    (ht : eval (.Call (.Attribute o mt apos) [] [] pos) X.env = (do
      let ov ← eval o X.env
      standAt apos.atName
      let (f, first) ← holding [ov] (getMethod ov mt pl)
      callWith pos f first (backTo pos (starEach [] X.env)) (backToKw pos (keywordEach [] X.env))) := by rfl) : DE X C Wx (.Call (.Attribute o mt apos) [] [] pos) (eMeth c mt 1 F fo aNil) :=
  ⟨PE_imp (pe_meth0 (pl := pl) ho.pe Cf.c hm Fk hr hb .nil hx ht) fun σ H Q ⟨M, m, e, ok, rs, q⟩ => tE_bind ok rs q fun v w M1 m1 H1 g1 o1 r1 rv q1 => by
    split at q1
    · rename_i j
      split at q1
      · rename_i c' fs e0
        split at q1
        · rename_i hc
          obtain ⟨rfl, hl⟩ := hc
          obtain ⟨l, rfl, hM⟩ := rv
          obtain ⟨dx, vs, h1, h2⟩ := o1.cell j l _ hM e0
          refine ⟨l, dx, vs, rfl, h1, fld_none h2 hl, ?_⟩
          exact ⟨rfl, M1, m1, [.loc j], o1, .cons ⟨l, rfl, hM⟩ .nil, noXR_post q1⟩
        · exact q1.elim
      · exact q1.elim
    · exact q1.elim⟩
end
end Pd

set_option Elab.async false
set_option linter.all false
set_option maxRecDepth 100000
set_option maxHeartbeats 1600000
namespace Pd
open PySem PySem.Spec PyProof.Rows L2
/-! ### a def whose things stay (an __init__); an instance made -/
def dEndK : SR → R W
  | .nx _ m => .ok (.d .none) m
  | .rt w m => .ok w m
  | _ => .bad
def runK (N : Nat) (fs : FS) : List W → Sto → R W := fun ws m => dEndK (fs (startE N ws) m)
section
variable {P : Program} {w : World} {K : PySem.W.Frag} {mg : Str → Option Value} {base : Heap} {C : Ct}
theorem def_okK {x qual : Str} {params : Arguments} {body : List Stmt} {scope : Scope} {f : Addr} {fd : FuncData} {N ps : List Str} {k n : Nat} {fs : FS} {Pc : Value → Prop} (F : FunD K x qual params body scope [] [] f fd) (S : FnScope N ps scope) (hn : n = ps.length) (hK : C.K = K) (hpc : Pc fd.code)
    (hbody : ∀ (cdv : Value) (A : Around) (outer : List PySem.Env) (s : Shared) (H : Hp) (E : XK), Pc cdv → Room k (A.deeper (envOfC qual scope s.heap.objs.size f cdv)) →
      DSs (cxOf (L2.CX P w) P w K mg base N qual scope f cdv A outer s H E) C (fun cls d _ H => E cls d H) body fs) : FnOk P w K mg base (L2.CX P w) (k + 1) f fd ps (spD C n (runK N.length fs)) := by
  obtain ⟨oc, od, dV, kV, doc, pm, an, cdv, ct, osl, rfl, lk, hcd, _, _⟩ := F.ex
  refine fn_of lk hcd S (spD_len hn) fun A outer s H vs Q E hr hsp => ⟨_, (hbody cdv A outer s H E hpc hr).pss, ?_⟩
  obtain ⟨hl, M, m, ws, ok, rv, q⟩ := hsp
  refine ⟨M, m, startE N.length ws, ok, rs_start rv, ?_⟩
  unfold runK at q
  cases hr : fs (startE N.length ws) m with
  | nx e m' =>
    rw [hr] at q
    exact fun σ' M' H' gg oo rr => q M' H' gg oo .non Rp.non
  | rt w m' =>
    rw [hr] at q
    exact fun v M' H' gg oo rr => q M' H' gg oo v rr
  | rtt ws m' => rw [hr] at q; exact q.elim
  | exc x e m' => rw [hr] at q; exact q.elim
  | bk e m' => rw [hr] at q; exact q.elim
  | ct e m' => rw [hr] at q; exact q.elim
  | bad => rw [hr] at q; exact q.elim
end
section
variable {X : Cx} {C : Ct} {Wx : WX} {pos p : Pos} {a : Expr} {es : List Expr} {r : FA}
def mkEnd (n : Nat) : R W → R W
  | .ok (.d .none) m => .ok (.loc n) m
  | _ => .bad
/-- c(..) -/
def eMake (c : Str) (n : Nat) (F : List W → Sto → R W) (r : FA) : FE := fun e m => (r e m).bind fun ws m1 => if ws.length + 1 = n then mkEnd m1.length (F (.loc m1.length :: ws) (m1 ++ [.ins c []])) else .bad
theorem de_make {k n : Nat} {c x : Str} {fa : Addr} {fd : FuncData} {ps : List Str} {F : List W → Sto → R W} (Mc : Mk X.K (C.xa c) fa) (Fk : FnOk X.prog X.w X.K X.mg X.base (L2.CX X.prog X.w) k fa fd ps (spD C n F)) (hr : Room (k + 1) X.A) (hm : X.mg x = some (.ref (C.xa c)))
    (hb : Binds X.K fd ps []) (hx : Passes (L2.CX X.prog X.w) X (fun _ _ _ => False)) (ha : DA X C Wx (a :: es) r) (hg : Gl X x := by rfl)
    (hdb : (x == ("__debug__" : Str)) = false := by decide) (he : starEach (a :: es) X.env = (false, eval a X.env) :: starEach es X.env := by rfl) (hpl : (backTo pos (starEach es X.env)).any (·.1) = false := by rfl) : DE X C Wx (.Call (.Name x p) (a :: es) [] pos) (eMake c n F r) :=
  ⟨PE_imp (pe_make Mc Fk hr hg hm hb .nil hx ha.pa hdb he hpl) fun σ H Q ⟨M, m, e, ok, rs, q⟩ => tA_bind ok rs q fun vs ws M1 m1 H1 g1 o1 r1 rv q1 => fun y dx hy hdx ne => by
    split at q1
    · rename_i hn
      have h0 : upd H1 dx (.own y) y = none := by rw [upd_ne (Ne.symm ne)]; exact hy
      have gd : Go M1 H1 M1 (upd H1 dx (.own y)) := Go.new hdx
      have od := o1.new (u := .own y) hdx
      have gn : Go M1 (upd H1 dx (.own y)) (M1.add y) (upd (upd H1 dx (.own y)) y (.ins (C.xa c) dx [])) := Go.newM h0
      have on := od.newCell (c := .ins c []) h0 ⟨dx, [], upd_same, .nil⟩
      have gg := gd.trans gn
      rw [List.append_nil]
      refine ⟨by rw [List.length_cons, rv.len]; exact hn, M1.add y, m1 ++ [.ins c []], .loc m1.length :: ws, on, .cons ⟨y, rfl, ?_⟩ (rv.go gg), ?_⟩
      · rw [← o1.len]
        show (M1.loc ++ [y])[M1.loc.length]? = some y
        simp
      · cases hF : F (.loc m1.length :: ws) (m1 ++ [.ins c []]) with
        | bad => rw [hF] at q1; exact q1.elim
        | exc z m2 => rw [hF] at q1; exact q1.elim
        | ok z m2 =>
          rw [hF] at q1
          cases z with
          | loc j => exact q1.elim
          | clo j => exact q1.elim
          | d z =>
            cases z <;> first | exact q1.elim | skip
            intro M' H' g' o' v rz
            cases (show Rp C.K H' M' v .none from rz)
            refine ⟨rfl, q1 M' H' (gg.trans g') o' (.ref y) ⟨y, rfl, ?_⟩⟩
            refine g'.at_ ?_
            rw [← o1.len]
            show (M1.loc ++ [y])[M1.loc.length]? = some y
            simp
    · exact q1.elim⟩
end
theorem passes_none {X : Cx} : Passes (L2.CX X.prog X.w) X (fun _ _ _ => False) := fun pins σ H s e s' I c => by
  unfold L2.CX at c
  obtain ⟨_, _, _, c⟩ := c
  simp_all
end Pd

set_option Elab.async false
set_option linter.all false
set_option maxRecDepth 100000
set_option maxHeartbeats 1600000
namespace Pd
open PySem PySem.Spec PyProof.Rows L2
/-! ### str(i), f'..' -/
section
variable {X : Cx} {C : Ct} {Wx : WX} {a : Expr} {f : FE} {r : FA} {pos p : Pos}
def qStr : List W → Sto → R W
  | [.d (.int i)], m => if i.natAbs.log2 < 1920 then .ok (.d (.str (toString i))) m else .bad
  | _, _ => .bad
theorem cd_str : CallD C Wx (fun xs H Q => ∃ i, xs = [.int i] ∧ i.natAbs.log2 < 1920 ∧ Q (.str (toString i)) H) qStr := by
  intro σ M m H vs ws Q o rv q
  unfold qStr at q
  split at q
  · split at q
    · rename_i hh
      obtain ⟨v, rfl, r⟩ := rv.one
      cases r
      exact ⟨_, rfl, hh, q.now o _ (Rp.str _)⟩
    · exact q.elim
  · exact q.elim
/-- {e} within f'..' -/
def eFmt (f : FE) : FE := fun e m => (f e m).bind fun w m1 => match w with
  | .d (.str y) => if y.length ≤ sizeLine then .ok (.d (.str y)) m1 else .bad
  | .d (.int i) => if i.natAbs.log2 < 1920 then .ok (.d (.str (toString i))) m1 else .bad
  | _ => .bad
theorem de_fmt (ha : DE X C Wx a f) : DE X C Wx (.FormattedValue a (-1) none pos) (eFmt f) := ⟨PE_imp (pe_fmt ha.pe) fun σ H Q ⟨M, m, e, o, rs, q⟩ => tE_bind o rs q fun v w M1 m1 H1 g1 o1 r1 rv q1 => by
  split at q1
  · split at q1
    · rename_i y hh
      cases (show Rp C.K H1 M1 v (.str y) from rv)
      exact .inl ⟨y, rfl, hh, q1.now o1 _ (Rp.str _)⟩
    · exact q1.elim
  · split at q1
    · rename_i i hh
      cases (show Rp C.K H1 M1 v (.int i) from rv)
      exact .inr ⟨i, rfl, hh, q1.now o1 _ (Rp.str _)⟩
    · exact q1.elim
  · exact q1.elim⟩
inductive DJ (X : Cx) (C : Ct) (Wx : WX) : List Expr → List FE → Prop where
  | nil : DJ X C Wx [] []
  | cons {e : Expr} {f : FE} {es : List Expr} {fs : List FE} (h : DE X C Wx e f) (r : DJ X C Wx es fs) : DJ X C Wx (e :: es) (f :: fs)
theorem DJ.pj {es : List Expr} {fs : List FE} (h : DJ X C Wx es fs) : PJ X es (fs.map (tE C Wx)) := by
  induction h with
  | nil => exact .nil
  | cons h _ ih => exact .cons h.pe ih
def eJs : List FE → Str → Env → Sto → R Str
  | [], acc, _, m => .ok acc m
  | f :: fs, acc, e, m => (f e m).bind fun w m1 => match w with
    | .d (.str y) => if (acc ++ y).length ≤ sizeLine then eJs fs (acc ++ y) e m1 else .bad
    | _ => .bad
def eFs (fs : List FE) : FE := fun e m => (eJs fs Str.empty e m).bind fun out m1 => .ok (.d (.str out)) m1
theorem js_of {σ : L2.St} {Q : VK} : ∀ {fs : List FE} {acc : Str} {M : Ad} {m : Sto} {H : Hp} {e : Env}, Ok C M m H → RS C H M σ e →
    Post C (ExW C Wx σ) M H ((eJs fs acc e m).bind fun out m1 => .ok (.d (.str out)) m1) (fun w' M' m' H' => ∀ v, RW C H' M' v w' → Q v H') → tJs (fs.map (tE C Wx)) acc σ H fun out H1 => Q (.str out) H1
  | [], acc, M, m, H, e, o, rs, q => q.now o _ (Rp.str _)
  | f :: fs, acc, M, m, H, e, o, rs, q => by
    have q' : Post C (ExW C Wx σ) M H ((f e m).bind fun w m1 => (match w with
      | .d (.str y) => if (acc ++ y).length ≤ sizeLine then eJs fs (acc ++ y) e m1 else .bad
      | _ => .bad : R Str).bind fun out m1 => .ok (.d (.str out)) m1) (fun w' M' m' H' => ∀ v, RW C H' M' v w' → Q v H') := by
      have e1 : ((f e m).bind fun w m1 => (match w with
        | .d (.str y) => if (acc ++ y).length ≤ sizeLine then eJs fs (acc ++ y) e m1 else .bad
        | _ => .bad : R Str).bind fun out m1 => (.ok (.d (.str out)) m1 : R W)) = (eJs (f :: fs) acc e m).bind fun out m1 => .ok (.d (.str out)) m1 := by
        conv => rhs; unfold eJs
        cases f e m <;> rfl
      rw [e1]
      exact q
    refine tE_bind o rs q' fun v w M1 m1 H1 g1 o1 r1 rv q1 => ?_
    split at q1
    · split at q1
      · rename_i y hh
        cases (show Rp C.K H1 M1 v (.str y) from rv)
        exact ⟨y, rfl, hh, js_of o1 r1 q1⟩
      · exact q1.elim
    · exact q1.elim
theorem de_fs {v1 v2 : Expr} {rest : List Expr} {fs : List FE} (h : DJ X C Wx (v1 :: v2 :: rest) fs) : DE X C Wx (.JoinedStr (v1 :: v2 :: rest) pos) (eFs fs) :=
  ⟨PE_imp (pe_joined h.pj) fun σ H Q ⟨M, m, e, o, rs, q⟩ => js_of o rs q⟩
theorem de_strI {x : Str} (hx : x = "str") (hm : X.mg x = none) (ha : DA X C Wx [a] r) (hg : Gl X x := by rfl) (he : starEach [a] X.env = (false, eval a X.env) :: starEach [] X.env := by rfl) (hpl : (backTo pos (starEach [] X.env)).any (·.1) = false := by rfl) :
    DE X C Wx (.Call (.Name x p) [a] [] pos) (eB qStr r) := by
  subst hx
  exact de_callT (id := "str") call_str_int cd_str hm PyProof.Rows.Boot.«str» ha hg (by decide) (by decide) he hpl
/-- x.split(y) -/
def qSplit : W → List W → Sto → R W
  | .d (.str x), [.d (.str y)], m => if (y.length == 0) = false ∧ x.length + 2 ≤ sizeLine then .ok (.d (.list ((Txt.split x y).map .str))) m else .bad
  | _, _, _ => .bad
theorem md_split : MtD C Wx "str" (fun x xs H Q => ∃ a b, x = .str a ∧ xs = [.str b] ∧ (b.length == 0) = false ∧ a.length + 2 ≤ sizeLine ∧ rNewStrs (Txt.split a b) H Q) qSplit := by
  intro σ M m H v w vs ws Q ok rv rvs q
  unfold qSplit at q
  split at q
  · split at q
    · rename_i hh
      cases rv
      obtain ⟨y, rfl, ry⟩ := rvs.one
      cases ry
      exact ⟨_, _, rfl, rfl, hh.1, hh.2, fun p hn => q _ _ (Go.new hn) (ok.new hn) _ (Rp.newL ok hn (RpA.ofS _))⟩
    · exact q.elim
  · exact q.elim
theorem de_split {b : Expr} {g : FE} {name : Str} {apos : Pos} (hx : name = "split") (ha : DE X C Wx a f) (hb : DE X C Wx b g) (hs : starEach [b] X.env = [(false, eval b X.env)] := by rfl) (hbase : attributeBase a name X.env (eval a X.env) = eval a X.env := by rfl) (hline : (apos.endLine == pos.line) = true := by rfl) :
    DE X C Wx (.Call (.Attribute a name apos) [b] [] pos) (eMs qSplit f g) := by
  subst hx
  exact de_ms F.slot_str_split F.type_str_split mt_split md_split ha hb hs hbase hline
end
end Pd

set_option Elab.async false
set_option linter.all false
set_option maxRecDepth 100000
set_option maxHeartbeats 1600000
namespace Pd
open PySem PySem.Spec PyProof.Rows L2
/-! ### int(text); x, o.f = e -/
section
variable {X : Cx} {C : Ct} {Wx : WX} {a o v : Expr} {f : FE} {r : FA} {pos p p' pt : Pos}
def qIntS : List W → Sto → R W
  | [.d (.str x)], m => match PySem.intText? x with
    | some n => if x.length ≤ 640 then .ok (.d (.int n)) m else .bad
    | none => .bad
  | _, _ => .bad
theorem cd_intS : CallD C Wx (fun xs H Q => ∃ a n, xs = [.str a] ∧ PySem.intText? a = some n ∧ a.length ≤ 640 ∧ Q (.int n) H) qIntS := by
  intro σ M m H vs ws Q o rv q
  unfold qIntS at q
  split at q
  · split at q
    · rename_i n hn
      split at q
      · rename_i hh
        obtain ⟨v, rfl, r⟩ := rv.one
        cases r
        exact ⟨_, _, rfl, hn, hh, q.now o _ (Rp.int _)⟩
      · exact q.elim
    · exact q.elim
  · exact q.elim
theorem de_toIntS {x : Str} (hx : x = "int") (hm : X.mg x = none) (ha : DA X C Wx [a] r) (hg : Gl X x := by rfl) (he : starEach [a] X.env = (false, eval a X.env) :: starEach [] X.env := by rfl) (hpl : (backTo pos (starEach [] X.env)).any (·.1) = false := by rfl) :
    DE X C Wx (.Call (.Name x p) [a] [] pos) (eB qIntS r) := by
  subst hx
  exact de_callT (id := "int") call_int_str cd_intS hm PyProof.Rows.Boot.«int» ha hg (by decide) (by decide) he hpl
/-- the target o.f -/
def gFldT (X : Cx) (to : TE) (f : Str) : TG := fun v σ H Q => to σ H fun x H1 => ∃ (a c dx : Addr) (fs : List (Str × V)), x = .ref a ∧ H1 a = some (.ins c dx fs) ∧ Cls X.K c ∧ NoAttr X.K c f ∧ fs.length < 1000 ∧ Q σ (upd H1 a (.ins c dx (putF f v fs)))
theorem pg_fld {to : TE} {fl : Str} (ho : PE X o to) : PG X (.Attribute o fl pos) (gFldT X to fl) := by
  refine ⟨fun pins s σ H v u Q I r h => ?_⟩
  refine PySem.W.kas_attr (thn (ho.run pins s σ H _ I h) fun ov s1 ⟨x, H1, I1, r1, a, c, dx, fs, ex, ea, hc, hn, hl, q⟩ => ?_)
  subst ex
  obtain rfl : ov = Value.ref a := r1
  exact setattr_ok I1 ea hc hn hl r fun s' I' => ⟨σ, _, I', q⟩
/-- x, o.f = e: o a name -/
def sUnpF (i : Nat) (c fl : Str) (k : Nat) (fv : FE) : FS := fun e m => ofR e (fv e m) fun w m1 => match w with
  | .d (.tuple [x, y]) => match (e.set i (some (.d x)))[k]? with
    | some (some (.loc n)) => match m1[n]? with
      | some (.ins c' fs) => if c' = c ∧ fs.length < 1000 then .nx (e.set i (some (.d x))) (m1.set n (.ins c' (putFW fl (.d y) fs))) else .bad
      | _ => .bad
    | _ => .bad
  | _ => .bad
theorem ds_unpF {c : Str} {fields : List Str} {x fl : Str} {i k kk : Nat} {fv : FE} (F : ClsF X.K (C.xa c) fields) (hf : fl ∈ fields) (hc : X.calm = true) (hN : X.N.Nodup) (ho : DE X C Wx o (eVar k)) (hv : DE X C Wx v fv) (hK : X.K = C.K := by rfl) (hi : X.N[i]? = some x := by rfl) (hx : Loc X.env.scope x := by first | exact Or.inl rfl | exact Or.inr rfl)
    (hfn : X.fn x = true ∨ X.env.scope.names.lookup x = some .local := by first | exact .inl rfl | exact .inr rfl)
    (hn : (assignEach [.Name x p, .Attribute o fl p'] X.env).length = 2 := by rfl) (hst : (assignEach [.Name x p, .Attribute o fl p'] X.env).findIdx? (·.1) = none := by rfl)
    (h2 : (assignEach [.Name x p, .Attribute o fl p'] X.env).map (·.2) = assign (.Name x p) X.env :: (assignEach [.Attribute o fl p'] X.env).map (·.2) := by rfl) (h3 : (assignEach [.Attribute o fl p'] X.env).map (·.2) = assign (.Attribute o fl p') X.env :: (assignEach [] X.env).map (·.2) := by rfl)
    (hs : swapsWithSole [.Tuple [.Name x p, .Attribute o fl p'] kk pt] v pos.line X.env = pure false := by rfl) (hw : swappedStores [.Tuple [.Name x p, .Attribute o fl p'] kk pt] v X.env = pure none := by rfl)
    (h1 : (assignEach [.Tuple [.Name x p, .Attribute o fl p'] kk pt] X.env).map (·.2) = [assign (.Tuple [.Name x p, .Attribute o fl p'] kk pt) X.env] := by rfl) :
    DS X C Wx (.Assign [.Tuple [.Name x p, .Attribute o fl p'] kk pt] v pos) (sUnpF i c fl k fv) :=
  ⟨PS_imp (ps_asg hv.pe (pg_tup hc (pgs_cons (pg_name hN hi hx hfn) (pgs_cons (pg_fld ho.pe) pgs_nil h3) h2) hn hst) hs hw h1) fun D σ H ⟨M, m, e, ok, rs, q⟩ => tE_st ok rs q fun v1 w1 M1 m1 H1 g1 o1 r1 rv1 q1 => by
    split at q1
    · rename_i a b
      split at q1
      · rename_i n he
        split at q1
        · rename_i c' fs e0
          split at q1
          · rename_i hcl
            obtain ⟨rfl, hl⟩ := hcl
            cases rv1 with
            | tup t1 t2 =>
              cases t2 with
              | cons ra t2 =>
                cases t2 with
                | cons rb t2 =>
                  cases t2
                  rename_i ad va vb
                  have rs1 : RS C H1 M1 (σ.set i (some va)) (e.set i (some (.d a))) := r1.set (show RW C H1 M1 va (.d a) from ra) i
                  obtain ⟨u, hu1, hu2⟩ := rs1.at_ k (.loc n) he
                  obtain ⟨l, rfl, hM⟩ := hu2
                  obtain ⟨dx, vs, hh1, hh2⟩ := o1.cell n l _ hM e0
                  have rel := putF_rel (f := fl) (show RW C H1 M1 vb (.d b) from rb) hh2
                  have gg : Go M1 H1 M1 (upd H1 l (.ins (C.xa c') dx (putF fl vb vs))) := Go.put (List.mem_of_getElem? hM) (o1.sep _ (List.mem_of_getElem? hM))
                  obtain ⟨gg, o4⟩ := o1.putC (u := .ins (C.xa c') dx (putF fl vb vs)) (c' := .ins c' (putFW fl (.d b) fs)) hM e0 (fun ps z => by rw [hh1] at z; cases z) ⟨dx, putF fl vb vs, upd_same, rel.go gg⟩
                  refine ⟨ad, [va, vb], rfl, by rw [hK]; exact t1.sq, rfl, va, [vb], rfl, vb, [], rfl, ?_⟩
                  refine ⟨M1, m1, _, o1, rs1, ?_⟩
                  have hv2 : eVar k (e.set i (some (.d a))) m1 = .ok (.loc n) m1 := by
                    unfold eVar
                    rw [he]
                  rw [hv2]
                  intro M2 H2 g2 o2 v2 rv2
                  obtain ⟨l2, rfl, hM2⟩ := rv2
                  have el : l2 = l := by
                    have := g2.at_ hM
                    rw [this] at hM2
                    exact (Option.some.inj hM2).symm
                  subst el
                  obtain ⟨dx2, vs2, k1, k2⟩ := o2.cell n l2 _ hM2 e0
                  have rel2 := putF_rel (f := fl) ((show RW C H1 M1 vb (.d b) from rb).go g2) k2
                  have gg2 : Go M2 H2 M2 (upd H2 l2 (.ins (C.xa c') dx2 (putF fl vb vs2))) := Go.put (List.mem_of_getElem? hM2) (o2.sep _ (List.mem_of_getElem? hM2))
                  obtain ⟨gg2, o5⟩ := o2.putC (u := .ins (C.xa c') dx2 (putF fl vb vs2)) (c' := .ins c' (putFW fl (.d b) fs)) hM2 e0 (fun ps z => by rw [k1] at z; cases z) ⟨dx2, putF fl vb vs2, upd_same, rel2.go gg2⟩
                  exact ⟨l2, _, dx2, vs2, rfl, k1, F.c, F.no fl hf, by rw [fld_len k2]; exact hl, rfl, q1 _ M2 _ (g2.trans gg2) o5 ((rs1.go g2).go gg2)⟩
          · exact q1.elim
        · exact q1.elim
      · exact q1.elim
    · exact q1.elim⟩
end
end Pd

set_option Elab.async false
set_option linter.all false
set_option maxRecDepth 100000
set_option maxHeartbeats 1000000
namespace Pd
open PySem PySem.Spec PyProof.Rows L2
/-! ### reckoning with what the terms mean -/
/-- no changing list holds a changing list that is not there -/
def Fl (m : Sto) : Prop := m.all (Cell.low m.length) = true
theorem dEnd_rt {m : Sto} {x : PyData} (h : Fl m) : dEnd m.length (.rt (.d x) m) = .ok (.d x) m := by
  have h' : m.all (Cell.low m.length) = true := h
  simp only [dEnd, List.take_length, h', fzW, if_true]
theorem dEnd_nx {m : Sto} {e : Env} (h : Fl m) : dEnd m.length (.nx e m) = .ok (.d .none) m := by
  have h' : m.all (Cell.low m.length) = true := h
  simp only [dEnd, List.take_length, h', W.low, Bool.and_self, if_true]
theorem dEnd_exc {m : Sto} {e : Env} {x : Exn} (h : Fl m) : dEnd m.length (.exc x e m) = .exc x m := by
  have h' : m.all (Cell.low m.length) = true := h
  simp only [dEnd, List.take_length, h', W.low, Bool.and_self, if_true]
theorem Fl.nil : Fl [] := rfl
section
variable {k0 : Bool} {tg : FG} {tt : FT} {f : FE} {e : Env} {m : Sto}
theorem loopQ_map {α : Type} {g : α → W} {p : α → Bool} : ∀ {l : List α}, (∀ a ∈ l, ∃ e1, tg (g a) e = some e1 ∧ f e1 m = .ok (.d (.bool (p a))) m) → loopQ k0 tg f e (l.map g) m = .ok (if k0 then l.all p else l.any p) m
  | [], _ => by
    unfold loopQ
    cases k0 <;> rfl
  | w :: ws, h => by
    obtain ⟨e1, h1, h2⟩ := h w List.mem_cons_self
    rw [List.map_cons]
    unfold loopQ
    rw [h1]
    simp only [h2, noX, R.bind, toB]
    have ih := loopQ_map (l := ws) (fun w hw => h w (List.mem_cons_of_mem _ hw))
    cases hp : p w <;> cases k0 <;> simp [hp] <;> exact ih
theorem loopC_map {α : Type} {g0 : α → W} {c : α → Bool} {g : α → PyData} : ∀ {l : List α} {acc : List PyData}, (∀ a ∈ l, ∃ e1, tg (g0 a) e = some e1 ∧ tt e1 m = .ok (c a) m ∧ (c a = true → f e1 m = .ok (.d (g a)) m)) → acc.length + l.length ≤ sizeLine →
    loopC tg tt f e (l.map g0) acc m = .ok (acc ++ (l.filter c).map g) m
  | [], acc, _, _ => by
    rw [List.map_nil]
    unfold loopC
    simp
  | w :: ws, acc, h, hl => by
    obtain ⟨e1, h1, h2, h3⟩ := h w List.mem_cons_self
    have hl' : acc.length + (ws.length + 1) ≤ sizeLine := hl
    rw [List.map_cons]
    unfold loopC
    rw [h1]
    simp only [h2, noX, R.bind]
    cases hc : c w with
    | true =>
      have ih := loopC_map (l := ws) (acc := acc ++ [g w]) (fun w hw => h w (List.mem_cons_of_mem _ hw)) (by simp only [List.length_append, List.length_cons, List.length_nil]; omega)
      simp only [if_true, h3 hc, noX, unW]
      rw [if_pos (by omega), ih, List.filter_cons_of_pos hc, List.map_cons, List.append_assoc]
      rfl
    | false =>
      have ih := loopC_map (l := ws) (acc := acc) (fun w hw => h w (List.mem_cons_of_mem _ hw)) (by omega)
      simp only [Bool.false_eq_true, if_false]
      rw [ih, List.filter_cons_of_neg (by rw [hc]; decide)]
end
end Pd

set_option Elab.async false
set_option linter.all false
set_option maxRecDepth 100000
namespace Pd
open PySem PySem.Spec PyProof.Rows L2
/-! ### each word of the terms, at an environment and a store -/
theorem eVar_ap (i : Nat) (e : Env) (m : Sto) : Pd.eVar i e m = (match e[i]? with
  | some (some w) => .ok w m
  | _ => .bad) := rfl
theorem eC_ap (d : PyData) (e : Env) (m : Sto) : Pd.eC d e m = (.ok (.d d) m) := rfl
theorem eBin_ap (p : W → W → Sto → R W) (f g : FE) (e : Env) (m : Sto) : Pd.eBin p f g e m = ((f e m).bind fun x m1 => (g e m1).bind fun y m2 => p x y m2) := rfl
theorem eChain_ap (p p' : W → W → Sto → R W) (f g h : FE) (e : Env) (m : Sto) : Pd.eChain p p' f g h e m = ((f e m).bind fun x m1 => (g e m1).bind fun y m2 => (p x y m2).bind fun z m3 => match z with
  | .d (.bool true) => (h e m3).bind fun w m4 => p' y w m4
  | .d (.bool false) => .ok (.d (.bool false)) m3
  | _ => .bad) := rfl
theorem tV_ap (f : FE) (e : Env) (m : Sto) : Pd.tV f e m = ((f e m).bind toB) := rfl
theorem tNot_ap (t : FT) (e : Env) (m : Sto) : Pd.tNot t e m = ((t e m).bind fun k m1 => .ok (!k) m1) := rfl
theorem tAnd_ap (t u : FT) (e : Env) (m : Sto) : Pd.tAnd t u e m = ((t e m).bind fun k m1 => if k then u e m1 else .ok false m1) := rfl
theorem tOr_ap (t u : FT) (e : Env) (m : Sto) : Pd.tOr t u e m = ((t e m).bind fun k m1 => if k then .ok true m1 else u e m1) := rfl
theorem eAnd_ap (f g : FE) (e : Env) (m : Sto) : Pd.eAnd f g e m = ((f e m).bind fun w m1 => (toB w m1).bind fun k m2 => if k then g e m2 else .ok (.d (.bool false)) m2) := rfl
theorem eOr_ap (f g : FE) (e : Env) (m : Sto) : Pd.eOr f g e m = ((f e m).bind fun w m1 => (toB w m1).bind fun k m2 => if k then .ok (.d (.bool true)) m2 else g e m2) := rfl
theorem eNot_ap (f : FE) (e : Env) (m : Sto) : Pd.eNot f e m = ((f e m).bind fun w m1 => (toB w m1).bind fun k m2 => .ok (.d (.bool (!k))) m2) := rfl
theorem eIf_ap (t : FT) (f g : FE) (e : Env) (m : Sto) : Pd.eIf t f g e m = ((t e m).bind fun k m1 => if k then f e m1 else g e m1) := rfl
theorem aNil_ap (e : Env) (m : Sto) : Pd.aNil  e m = (.ok [] m) := rfl
theorem aCons_ap (f : FE) (r : FA) (e : Env) (m : Sto) : Pd.aCons f r e m = ((f e m).bind fun w m1 => (r e m1).bind fun ws m2 => .ok (w :: ws) m2) := rfl
theorem eTup_ap (r : FA) (e : Env) (m : Sto) : Pd.eTup r e m = ((r e m).bind fun ws m1 => match unWs ws with
  | some ds => if ds.length ≤ sizeLine then .ok (.d (.tuple ds)) m1 else .bad
  | none => .bad) := rfl
theorem eLst_ap (r : FA) (e : Env) (m : Sto) : Pd.eLst r e m = ((r e m).bind fun ws m1 => match unWs ws with
  | some ds => if ds.length ≤ sizeLine then .ok (.d (.list ds)) m1 else .bad
  | none => .bad) := rfl
theorem eLstM_ap (r : FA) (e : Env) (m : Sto) : Pd.eLstM r e m = ((r e m).bind fun ws m1 => if ws.length ≤ sizeLine then .ok (.loc m1.length) (m1 ++ [.lst ws]) else .bad) := rfl
theorem eRep_ap (r : FA) (g : FE) (e : Env) (m : Sto) : Pd.eRep r g e m = ((eLst r e m).bind fun w m1 => (g e m1).bind fun z m2 => match w, z with
  | .d (.list xs), .d (.int k) => if -(2 ^ 63) ≤ k ∧ k < 2 ^ 63 ∧ xs.length * k.toNat ≤ sizeLine then .ok (.d (.list (List.replicate k.toNat xs).flatten)) m2 else .bad
  | _, _ => .bad) := rfl
theorem eCall_ap (n : Nat) (F : List W → Sto → R W) (r : FA) (e : Env) (m : Sto) : Pd.eCall n F r e m = ((r e m).bind fun ws m1 => if ws.length = n then F ws m1 else .bad) := rfl
theorem eB_ap (q : List W → Sto → R W) (r : FA) (e : Env) (m : Sto) : Pd.eB q r e m = ((r e m).bind q) := rfl
theorem eIsi_ap (Ts : List String) (f : FE) (e : Env) (m : Sto) : Pd.eIsi Ts f e m = ((f e m).bind fun w m1 => match tyW m1 w with
  | some N => .ok (.d (.bool (Ts.any (isN N)))) m1
  | none => .bad) := rfl
theorem eMl_ap (q : W → List W → Sto → R W) (f : FE) (r : FA) (e : Env) (m : Sto) : Pd.eMl q f r e m = ((f e m).bind fun w m1 => match w with
  | .loc n => match m1[n]? with
    | some (.lst _) => (r e m1).bind fun ws m2 => q (.loc n) ws m2
    | _ => .bad
  | _ => .bad) := rfl
theorem eMs_ap (q : W → List W → Sto → R W) (f g : FE) (e : Env) (m : Sto) : Pd.eMs q f g e m = ((f e m).bind fun w m1 => match w with
  | .d (.str z) => (g e m1).bind fun z2 m2 => q (.d (.str z)) [z2] m2
  | _ => .bad) := rfl
theorem oNone_ap (e : Env) (m : Sto) : Pd.oNone  e m = (.ok none m) := rfl
theorem oSome_ap (f : FE) (e : Env) (m : Sto) : Pd.oSome f e m = ((f e m).bind fun w m1 => match w with
  | .d (.int i) => .ok (some i) m1
  | _ => .bad) := rfl
theorem eSl_ap (f : FE) (lo hi : FO) (e : Env) (m : Sto) : Pd.eSl f lo hi e m = ((f e m).bind fun w m1 => (lo e m1).bind fun i m2 => (hi e m2).bind fun j m3 => match w with
  | .d (.list ds) => .ok (.d (.list (cutD ds i j))) m3
  | .d (.tuple ds) => .ok (.d (.tuple (cutD ds i j))) m3
  | .d (.str s) => if s.length ≤ sizeLine then .ok (.d (.str (cutS s i j))) m3 else .bad
  | _ => .bad) := rfl
theorem sNil_ap (e : Env) (m : Sto) : Pd.sNil  e m = (.nx e m) := rfl
theorem sSeq_ap (s1 s2 : FS) (e : Env) (m : Sto) : Pd.sSeq s1 s2 e m = (match s1 e m with
  | .nx e1 m1 => s2 e1 m1
  | z => z) := rfl
theorem sRet_ap (f : FE) (e : Env) (m : Sto) : Pd.sRet f e m = (ofR e (f e m) fun w m1 => .rt w m1) := rfl
theorem sExpr_ap (f : FE) (e : Env) (m : Sto) : Pd.sExpr f e m = (ofR e (f e m) fun _ m1 => .nx e m1) := rfl
theorem sIf_ap (t : FT) (s1 s2 : FS) (e : Env) (m : Sto) : Pd.sIf t s1 s2 e m = (ofR e (t e m) fun k m1 => if k then s1 e m1 else s2 e m1) := rfl
theorem sSet_ap (i : Nat) (f : FE) (e : Env) (m : Sto) : Pd.sSet i f e m = (ofR e (f e m) fun w m1 => .nx (e.set i (some w)) m1) := rfl
theorem sAsg_ap (f : FE) (t : FG) (e : Env) (m : Sto) : Pd.sAsg f t e m = (ofR e (f e m) fun w m1 => match t w e with
  | some e' => .nx e' m1
  | none => .bad) := rfl
theorem sPar_ap (i j : Nat) (r : FA) (e : Env) (m : Sto) : Pd.sPar i j r e m = (ofR e (r e m) fun ws m1 => match ws with
  | [w, z] => .nx ((e.set i (some w)).set j (some z)) m1
  | _ => .bad) := rfl
theorem sPut_ap (fo fi fv : FE) (e : Env) (m : Sto) : Pd.sPut fo fi fv e m = (ofR e (fv e m) fun v m1 => ofR e (fo e m1) fun w m2 => ofR e (fi e m2) fun i m3 => match w, i with
  | .loc n, .d (.int k) => match m3[n]? with
    | some (.lst ws) => match ixN ws.length k with
      | some j => .nx e (stSet m3 n (ws.set j v))
      | none => .bad
    | _ => .bad
  | _, _ => .bad) := rfl
theorem iSeq_ap (f : FE) (e : Env) (m : Sto) : Pd.iSeq f e m = ((f e m).bind fun w m1 => match w with
  | .d (.list ds) => .ok (ds.map W.d) m1
  | .d (.tuple ds) => .ok (ds.map W.d) m1
  | .d (.str s) => .ok ((signs s).map W.d) m1
  | _ => .bad) := rfl
theorem iRg1_ap (r : FA) (e : Env) (m : Sto) : Pd.iRg1 r e m = ((r e m).bind fun ws m1 => match ws with
  | [.d (.int j)] => if -(2 ^ 62) ≤ j ∧ j < 2 ^ 62 then .ok (rng 0 j.toNat) m1 else .bad
  | _ => .bad) := rfl
theorem iRg2_ap (r : FA) (e : Env) (m : Sto) : Pd.iRg2 r e m = ((r e m).bind fun ws m1 => match ws with
  | [.d (.int i), .d (.int j)] => if -(2 ^ 62) ≤ i ∧ i < 2 ^ 62 ∧ -(2 ^ 62) ≤ j ∧ j < 2 ^ 62 then .ok (rng i (j - i).toNat) m1 else .bad
  | _ => .bad) := rfl
theorem sFor_ap (it : FI) (tg : FG) (body : FS) (e : Env) (m : Sto) : Pd.sFor it tg body e m = (ofR e (it e m) fun items m1 => loopF tg body items e m1) := rfl
theorem eLc_ap (vs : List Nat) (it : FI) (tg : FG) (tt : FT) (f : FE) (e : Env) (m : Sto) : Pd.eLc vs it tg tt f e m = ((it e m).bind fun items m1 => (loopC tg tt f (wipeE e vs) items [] m1).bind fun ds m2 => .ok (.d (.list ds)) m2) := rfl
theorem fYes_ap (e : Env) (m : Sto) : Pd.fYes  e m = (.ok true m) := rfl
theorem eQ_ap (k0 : Bool) (vs : List Nat) (it : FI) (tg : FG) (f : FE) (e : Env) (m : Sto) : Pd.eQ k0 vs it tg f e m = ((it e m).bind fun items m1 => (loopQ k0 tg f (wipeE e vs) items m1).bind fun b m2 => .ok (.d (.bool b)) m2) := rfl
theorem iZ2_ap (r : FA) (e : Env) (m : Sto) : Pd.iZ2 r e m = ((r e m).bind fun ws m1 => match ws with
  | [a, b] => match seqW a, seqW b with
    | some ds, some es => .ok (zip2 ds es) m1
    | _, _ => .bad
  | _ => .bad) := rfl
theorem iZ3_ap (r : FA) (e : Env) (m : Sto) : Pd.iZ3 r e m = ((r e m).bind fun ws m1 => match ws with
  | [a, b, c] => match seqW a, seqW b, seqW c with
    | some ds, some es, some fs => .ok (zip3 ds es fs) m1
    | _, _, _ => .bad
  | _ => .bad) := rfl
theorem sRaise_ap (x : Str) (e : Env) (m : Sto) : Pd.sRaise x e m = (.exc (.p x) e m) := rfl
theorem eNeg_ap (f : FE) (e : Env) (m : Sto) : Pd.eNeg f e m = ((f e m).bind fun w m1 => match w with
  | .d (.int i) => .ok (.d (.int (-i))) m1
  | _ => .bad) := rfl
theorem eLenSet_ap (f : FE) (e : Env) (m : Sto) : Pd.eLenSet f e m = ((f e m).bind fun w m1 => match w with
  | .d (.tuple ds) => match pairsS ds with
    | some ps => if ps.length < 64 then .ok (.d (.int ps.eraseDups.length)) m1 else .bad
    | none => .bad
  | _ => .bad) := rfl
theorem runD_ap (N : Nat) (fs : FS) (ws : List W) (m : Sto) : runD N fs ws m = dEnd m.length (fs (startE N ws) m) := rfl
section
variable (i j : Int) (x y : Str) (m : Sto)
theorem pLt_i : pLt (.d (.int i)) (.d (.int j)) m = .ok (.d (.bool (decide (i < j)))) m := rfl
theorem pLe_i : pLe (.d (.int i)) (.d (.int j)) m = .ok (.d (.bool (decide (i ≤ j)))) m := rfl
theorem pGt_i : pGt (.d (.int i)) (.d (.int j)) m = .ok (.d (.bool (decide (j < i)))) m := rfl
theorem pGe_i : pGe (.d (.int i)) (.d (.int j)) m = .ok (.d (.bool (decide (j ≤ i)))) m := rfl
theorem pLt_s : pLt (.d (.str x)) (.d (.str y)) m = .ok (.d (.bool (sLt x y))) m := rfl
theorem pLe_s : pLe (.d (.str x)) (.d (.str y)) m = .ok (.d (.bool (!sLt y x))) m := rfl
theorem pGt_s : pGt (.d (.str x)) (.d (.str y)) m = .ok (.d (.bool (sLt y x))) m := rfl
theorem pGe_s : pGe (.d (.str x)) (.d (.str y)) m = .ok (.d (.bool (!sLt x y))) m := rfl
theorem pSub_i : pSub (.d (.int i)) (.d (.int j)) m = .ok (.d (.int (i - j))) m := rfl
theorem pMul_i (h : (-(2 ^ 64) < i ∧ i < 2 ^ 64) ∨ (-(2 ^ 64) < j ∧ j < 2 ^ 64)) : pMul (.d (.int i)) (.d (.int j)) m = .ok (.d (.int (i * j))) m := by
  unfold pMul oI
  simp only [if_pos h]
theorem pDiv_i (h : 0 < j ∧ j < 1073741824) : pDiv (.d (.int i)) (.d (.int j)) m = .ok (.d (.int (i / j))) m := by
  unfold pDiv oI
  simp only [if_pos h]
theorem pMod_i (h : 0 < j) : pMod (.d (.int i)) (.d (.int j)) m = .ok (.d (.int (i % j))) m := by
  unfold pMod oI
  simp only [if_pos h]
theorem pPow_i (h : 0 ≤ j ∧ j ≤ 1000000 ∧ i.natAbs < 2 ^ 64) : pPow (.d (.int i)) (.d (.int j)) m = .ok (.d (.int (i ^ j.toNat))) m := by
  unfold pPow oI
  simp only [if_pos h]
end
section
variable (x y : PyData) (ds es : List PyData) (s t : Str) (i j : Int) (n : Nat) (k b c : Bool) (m : Sto) (w : W)
theorem pEq_d : pEq (.d x) (.d y) m = if SeqAt.shaped x = true ∧ SeqAt.shaped y = true then .ok (.d (.bool (PyData.eqv x y))) m else .bad := rfl
theorem pNe_d : pNe (.d x) (.d y) m = if SeqAt.shaped x = true ∧ SeqAt.shaped y = true then .ok (.d (.bool (!PyData.eqv x y))) m else .bad := rfl
theorem pIx_l : pIx (.d (.list ds)) (.d (.int i)) m = match L2.atI ds i with | some d => .ok (.d d) m | none => .bad := rfl
theorem pIx_t : pIx (.d (.tuple ds)) (.d (.int i)) m = match L2.atI ds i with | some d => .ok (.d d) m | none => .bad := rfl
theorem pIx_s : pIx (.d (.str s)) (.d (.int i)) m = if s.length ≤ sizeLine then match L2.atI s.cps.toList i with | some c => .ok (.d (.str ⟨#[c]⟩)) m | none => .bad else .bad := rfl
theorem pIx_loc {ws : List W} (h : m[n]? = some (.lst ws)) : pIx (.loc n) (.d (.int i)) m = match L2.atI ws i with | some w => .ok w m | none => .bad := by
  unfold pIx
  simp only [h] <;> rfl
theorem pIn_s : pIn k (.d (.str s)) (.d (.str t)) m = .ok (.d (.bool ((!(Builtin.Str.occurrences t s 0 t.length 1).isEmpty) == k))) m := rfl
theorem pIn_l : pIn k (.d x) (.d (.list ds)) m = if SeqAt.shaped x = true ∧ SeqAt.shaped (.list ds) = true then .ok (.d (.bool ((ds.any fun z => PyData.eqv z x) == k))) m else .bad := by
  cases x <;> rfl
theorem pIn_t : pIn k (.d x) (.d (.tuple ds)) m = if SeqAt.shaped x = true ∧ SeqAt.shaped (.list ds) = true then .ok (.d (.bool ((ds.any fun z => PyData.eqv z x) == k))) m else .bad := by
  cases x <;> rfl
theorem pIn_loc {ws : List W} (h : m[n]? = some (.lst ws)) (h2 : unWs ws = some ds) : pIn k (.d x) (.loc n) m = if SeqAt.shaped x = true ∧ SeqAt.shaped (.list ds) = true then .ok (.d (.bool ((ds.any fun z => PyData.eqv z x) == k))) m else .bad := by
  cases x <;> (unfold pIn; simp only [h, h2])
theorem seqW_l : seqW (.d (.list ds)) = some ds := rfl
theorem seqW_t : seqW (.d (.tuple ds)) = some ds := rfl
theorem qLen_s : qLen [.d (.str s)] m = if s.length ≤ sizeLine then .ok (.d (.int s.length)) m else .bad := rfl
theorem qLen_l : qLen [.d (.list ds)] m = .ok (.d (.int ds.length)) m := rfl
theorem qLen_t : qLen [.d (.tuple ds)] m = .ok (.d (.int ds.length)) m := rfl
theorem qInt_i : qInt [.d (.int i)] m = .ok (.d (.int i)) m := rfl
theorem qInt_b : qInt [.d (.bool b)] m = .ok (.d (.int (if b then 1 else 0))) m := rfl
theorem qTup_l : qTup [.d (.list ds)] m = .ok (.d (.tuple ds)) m := rfl
theorem qTup_t : qTup [.d (.tuple ds)] m = .ok (.d (.tuple ds)) m := rfl
theorem qTup_loc {ws : List W} (h : m[n]? = some (.lst ws)) (h2 : unWs ws = some ds) : qTup [.loc n] m = .ok (.d (.tuple ds)) m := by
  unfold qTup
  simp only [h, h2]
theorem qList_l : qList [.d (.list ds)] m = .ok (.d (.list ds)) m := rfl
theorem qList_t : qList [.d (.tuple ds)] m = .ok (.d (.list ds)) m := rfl
theorem qList_s (h : s.cps.size ≤ sizeLine) : qList [.d (.str s)] m = .ok (.d (.list (signs s))) m := by
  unfold qList
  simp only [h, if_true]
theorem pPlus_i : pPlus (.d (.int i)) (.d (.int j)) m = .ok (.d (.int (i + j))) m := rfl
theorem pPlus_l : pPlus (.d (.list ds)) (.d (.list es)) m = pCatL (.d (.list ds)) (.d (.list es)) m := rfl
theorem pPlus_t : pPlus (.d (.tuple ds)) (.d (.tuple es)) m = pCatT (.d (.tuple ds)) (.d (.tuple es)) m := rfl
theorem pPlus_s : pPlus (.d (.str s)) (.d (.str t)) m = pCatS (.d (.str s)) (.d (.str t)) m := rfl
theorem pIs_n : pIs k (.d .none) (.d .none) m = .ok (.d (.bool k)) m := rfl
theorem pIs_t : pIs k (.d (.tuple ds)) (.d .none) m = .ok (.d (.bool (!k))) m := rfl
theorem pIs_l : pIs k (.d (.list ds)) (.d .none) m = .ok (.d (.bool (!k))) m := rfl
theorem pIs_s : pIs k (.d (.str s)) (.d .none) m = .ok (.d (.bool (!k))) m := rfl
theorem pIs_i : pIs k (.d (.int i)) (.d .none) m = .ok (.d (.bool (!k))) m := rfl
theorem pIs_bn : pIs k (.d (.bool b)) (.d .none) m = .ok (.d (.bool (!k))) m := rfl
theorem pIs_b : pIs k (.d (.bool b)) (.d (.bool c)) m = .ok (.d (.bool (decide (b = c) == k))) m := rfl
theorem toB_b : toB (.d (.bool b)) m = .ok b m := rfl
end
theorem atI_nat {α : Type} (xs : List α) (i : Nat) : L2.atI xs (i : Int) = xs[i]? := by
  unfold L2.atI L2.ixN
  by_cases h : i < xs.length
  · simp [h]
  · simp [h, List.getElem?_eq_none (Nat.le_of_not_lt h)]
theorem atI_nat1 {α : Type} (xs : List α) (i : Nat) : L2.atI xs ((i : Int) + 1) = xs[i + 1]? := atI_nat xs (i + 1)
section
variable {k0 : Bool} {vs : List Nat} {it : FI} {tg : FG} {tt : FT} {f : FE} {e : Env} {m m1 : Sto} {items : List W}
theorem eQ_map {α : Type} {g : α → W} {l : List α} {p : α → Bool} (hi : it e m = .ok (l.map g) m1) (h : ∀ a ∈ l, ∃ e1, tg (g a) (wipeE e vs) = some e1 ∧ f e1 m1 = .ok (.d (.bool (p a))) m1) : eQ k0 vs it tg f e m = .ok (.d (.bool (if k0 then l.all p else l.any p))) m1 := by
  rw [eQ_ap, hi]
  simp only [R.bind]
  rw [loopQ_map h]
theorem eLc_map {α : Type} {g0 : α → W} {l : List α} {c : α → Bool} {g : α → PyData} (hi : it e m = .ok (l.map g0) m1) (h : ∀ a ∈ l, ∃ e1, tg (g0 a) (wipeE e vs) = some e1 ∧ tt e1 m1 = .ok (c a) m1 ∧ (c a = true → f e1 m1 = .ok (.d (g a)) m1)) (hl : l.length ≤ sizeLine) :
    eLc vs it tg tt f e m = .ok (.d (.list ((l.filter c).map g))) m1 := by
  rw [eLc_ap, hi]
  simp only [R.bind]
  rw [loopC_map h (by simpa using hl)]
  rfl
theorem signs_items (s : Str) : (signs s).map W.d = s.cps.toList.map fun c => W.d (.str ⟨#[c]⟩) := by
  unfold signs
  rw [List.map_map]
  rfl
end
end Pd

set_option Elab.async false
set_option linter.all false
set_option maxRecDepth 100000
set_option maxHeartbeats 1000000
namespace Pd
open PySem PySem.Spec PyProof.Rows
/-! ### walking through a def's meaning: what holds behind -/
@[irreducible] def wR {α : Type} (r : R α) (Q : α → Sto → Prop) (E : Exn → Sto → Prop) : Prop := match r with
  | .ok a m => Q a m
  | .exc x m => E x m
  | .bad => False
/-- the ends of a statement but the plain one -/
structure SP where
  rt : W → Sto → Prop
  rtt : List W → Sto → Prop
  ex : Exn → Env → Sto → Prop
  bk : Env → Sto → Prop
  ct : Env → Sto → Prop
@[irreducible] def wS (r : SR) (N : Env → Sto → Prop) (P : SP) : Prop := match r with
  | .nx e m => N e m
  | .rt w m => P.rt w m
  | .rtt ws m => P.rtt ws m
  | .bk e m => P.bk e m
  | .ct e m => P.ct e m
  | .exc x e m => P.ex x e m
  | .bad => False
abbrev NoE : Exn → Sto → Prop := fun _ _ => False
def SP.loop (P : SP) (N I : Env → Sto → Prop) : SP := ⟨P.rt, P.rtt, P.ex, N, I⟩
/-- with another end by an exception -/
def SP.tr (P : SP) (X : Exn → Env → Sto → Prop) : SP := ⟨P.rt, P.rtt, X, P.bk, P.ct⟩
section
variable {α β : Type} {r : R α} {Q Q' : α → Sto → Prop} {E E' : Exn → Sto → Prop} {a : α} {m m1 : Sto} {x : Exn}
theorem wR_bind {k : α → Sto → R β} {Q : β → Sto → Prop} (h : wR r (fun a m => wR (k a m) Q E) E) : wR (r.bind k) Q E := by
  with_unfolding_all
    cases r <;> exact h
theorem wR_ok (h : r = .ok a m) (q : Q a m) : wR r Q E := by
  with_unfolding_all
    rw [h]; exact q
theorem wR_eq (h : wR r (fun b m' => b = a ∧ m' = m) NoE) : r = .ok a m := by
  with_unfolding_all
    cases r with
    | ok b m' => have h : b = a ∧ m' = m := h; obtain ⟨rfl, rfl⟩ := h; rfl
    | exc x m => exact h.elim
    | bad => exact h.elim
theorem wR_mono (h : wR r Q E) (hq : ∀ a m, Q a m → Q' a m) (he : ∀ x m, E x m → E' x m) : wR r Q' E' := by
  with_unfolding_all
    cases r with
    | ok b m' => exact hq _ _ h
    | exc x m => exact he _ _ h
    | bad => exact h
theorem wR_get (h : wR r Q NoE) : ∃ a m, r = .ok a m ∧ Q a m := by
  with_unfolding_all
    cases r with
    | ok b m' => exact ⟨b, m', rfl, h⟩
    | exc x m => exact h.elim
    | bad => exact h.elim
theorem wR_rfl (q : Q a m) : wR (.ok a m) Q E := by
  with_unfolding_all
    exact q
theorem wS_ofR {e : Env} {k : α → Sto → SR} {N : Env → Sto → Prop} {P : SP} (h : wR r (fun a m => wS (k a m) N P) (fun x m => P.ex x e m)) : wS (ofR e r k) N P := by
  with_unfolding_all
    cases r <;> exact h
end
section
variable {Q : W → Sto → Prop} {E : Exn → Sto → Prop} {f g h : FE} {r : FA} {t u : FT} {e : Env} {m : Sto} {w : W} {i : Nat} {d : PyData} {p p' : W → W → Sto → R W}
/-! #### expressions -/
theorem we_var (h : e[i]? = some (some w)) (q : Q w m) : wR (eVar i e m) Q E := by
  with_unfolding_all
    rw [eVar_ap, h]; exact q
theorem we_c (q : Q (.d d) m) : wR (eC d e m) Q E := by
  with_unfolding_all
    exact q
theorem we_bin (q : wR (f e m) (fun x m1 => wR (g e m1) (fun y m2 => wR (p x y m2) Q E) E) E) : wR (eBin p f g e m) Q E := by
  with_unfolding_all
    exact wR_bind (wR_mono q (fun _ _ q => wR_bind q) fun _ _ q => q)
theorem we_chain (q : wR (f e m) (fun x m1 => wR (g e m1) (fun y m2 => wR (p x y m2) (fun z m3 => ∃ k, z = .d (.bool k) ∧ (k = true → wR (h e m3) (fun w m4 => wR (p' y w m4) Q E) E) ∧ (k = false → Q (.d (.bool false)) m3)) E) E) E) : wR (eChain p p' f g h e m) Q E := by
  with_unfolding_all
    rw [eChain_ap]
    refine wR_bind (wR_mono q (fun x m1 q => wR_bind (wR_mono q (fun y m2 q => wR_bind (wR_mono q (fun z m3 q => ?_) fun _ _ q => q)) fun _ _ q => q)) fun _ _ q => q)
    obtain ⟨k, rfl, h1, h2⟩ := q
    cases k with
    | true => exact wR_bind (h1 rfl)
    | false => exact h2 rfl
theorem we_not (q : wR (f e m) (fun w m1 => ∃ k, w = .d (.bool k) ∧ Q (.d (.bool (!k))) m1) E) : wR (eNot f e m) Q E := by
  with_unfolding_all
    rw [eNot_ap]
    refine wR_bind (wR_mono q (fun w m1 q => ?_) fun _ _ q => q)
    obtain ⟨k, rfl, q⟩ := q
    exact q
theorem we_and (q : wR (f e m) (fun w m1 => ∃ k, w = .d (.bool k) ∧ (k = true → wR (g e m1) Q E) ∧ (k = false → Q (.d (.bool false)) m1)) E) : wR (eAnd f g e m) Q E := by
  with_unfolding_all
    rw [eAnd_ap]
    refine wR_bind (wR_mono q (fun w m1 q => ?_) fun _ _ q => q)
    obtain ⟨k, rfl, h1, h2⟩ := q
    cases k with
    | true => exact h1 rfl
    | false => exact h2 rfl
theorem we_or (q : wR (f e m) (fun w m1 => ∃ k, w = .d (.bool k) ∧ (k = true → Q (.d (.bool true)) m1) ∧ (k = false → wR (g e m1) Q E)) E) : wR (eOr f g e m) Q E := by
  with_unfolding_all
    rw [eOr_ap]
    refine wR_bind (wR_mono q (fun w m1 q => ?_) fun _ _ q => q)
    obtain ⟨k, rfl, h1, h2⟩ := q
    cases k with
    | true => exact h1 rfl
    | false => exact h2 rfl
theorem we_if (q : wR (t e m) (fun k m1 => (k = true → wR (f e m1) Q E) ∧ (k = false → wR (g e m1) Q E)) E) : wR (eIf t f g e m) Q E := by
  with_unfolding_all
    rw [eIf_ap]
    refine wR_bind (wR_mono q (fun k m1 q => ?_) fun _ _ q => q)
    cases k with
    | true => exact q.1 rfl
    | false => exact q.2 rfl
theorem we_neg (q : wR (f e m) (fun w m1 => ∃ i, w = .d (.int i) ∧ Q (.d (.int (-i))) m1) E) : wR (eNeg f e m) Q E := by
  with_unfolding_all
    rw [eNeg_ap]
    refine wR_bind (wR_mono q (fun w m1 q => ?_) fun _ _ q => q)
    obtain ⟨k, rfl, q⟩ := q
    exact q
theorem wa_nil {Q : List W → Sto → Prop} (q : Q [] m) : wR (aNil e m) Q E := by
  with_unfolding_all
    exact q
theorem wa_cons {Q : List W → Sto → Prop} (q : wR (f e m) (fun w m1 => wR (r e m1) (fun ws m2 => Q (w :: ws) m2) E) E) : wR (aCons f r e m) Q E := by
  with_unfolding_all
    exact wR_bind (wR_mono q (fun _ _ q => wR_bind q) fun _ _ q => q)
theorem we_tup (q : wR (r e m) (fun ws m1 => ∃ ds, unWs ws = some ds ∧ ds.length ≤ sizeLine ∧ Q (.d (.tuple ds)) m1) E) : wR (eTup r e m) Q E := by
  with_unfolding_all
    rw [eTup_ap]
    refine wR_bind (wR_mono q (fun w m1 q => ?_) fun _ _ q => q)
    obtain ⟨ds, h1, h2, q⟩ := q
    simp only [h1, h2, if_true]
    exact q
theorem we_lst (q : wR (r e m) (fun ws m1 => ∃ ds, unWs ws = some ds ∧ ds.length ≤ sizeLine ∧ Q (.d (.list ds)) m1) E) : wR (eLst r e m) Q E := by
  with_unfolding_all
    rw [eLst_ap]
    refine wR_bind (wR_mono q (fun w m1 q => ?_) fun _ _ q => q)
    obtain ⟨ds, h1, h2, q⟩ := q
    simp only [h1, h2, if_true]
    exact q
theorem we_lstM (q : wR (r e m) (fun ws m1 => ws.length ≤ sizeLine ∧ Q (.loc m1.length) (m1 ++ [.lst ws])) E) : wR (eLstM r e m) Q E := by
  with_unfolding_all
    rw [eLstM_ap]
    refine wR_bind (wR_mono q (fun w m1 q => ?_) fun _ _ q => q)
    rw [if_pos q.1]
    exact q.2
theorem we_dnew {b : Bool} (q : Q (.loc m.length) (m ++ [.dct b false []])) : wR (eDNew b e m) Q E := by
  with_unfolding_all
    exact q
theorem flat_rep1 {α : Type} (x : α) : ∀ n : Nat, (List.replicate n [x]).flatten = List.replicate n x
  | 0 => rfl
  | n + 1 => by rw [List.replicate_succ, List.flatten_cons, flat_rep1 x n, List.replicate_succ]; rfl
theorem we_rep (q : wR (f e m) (fun w m1 => ∃ d, w = .d d ∧ wR (g e m1) (fun z m2 => ∃ k : Int, z = .d (.int k) ∧ (-(2 ^ 63) ≤ k ∧ k ≤ 16777216) ∧ Q (.d (.list (List.replicate k.toNat d))) m2) E) E) : wR (eRep (aCons f aNil) g e m) Q E := by
  with_unfolding_all
    rw [eRep_ap]
    refine wR_bind (we_lst (wa_cons (wR_mono q (fun w m1 q => wa_nil ?_) fun _ _ q => q)))
    obtain ⟨d, rfl, q⟩ := q
    refine ⟨[d], rfl, by rw [sizeLine_eq]; exact Nat.le_of_ble_eq_true rfl, wR_bind (wR_mono q (fun z m2 q => ?_) fun _ _ q => q)⟩
    obtain ⟨k, rfl, h1, q⟩ := q
    simp only
    rw [if_pos ⟨h1.1, by omega, by rw [sizeLine_eq, List.length_cons, List.length_nil]; omega⟩, flat_rep1]
    exact q
theorem we_repC (q : wR (f e m) (fun w m1 => ∃ d, w = .d d ∧ wR (g e m1) (fun z m2 => ∃ k : Int, z = .d (.int k) ∧ (-(2 ^ 63) ≤ k ∧ k ≤ 16777216) ∧ Q (.loc m2.length) (m2 ++ [.lst ((List.replicate k.toNat d).map W.d)])) E) E) : wR (eRepC (aCons f aNil) g e m) Q E := by
  with_unfolding_all
    unfold eRepC
    refine wR_bind (we_rep (wR_mono q (fun w m1 q => ?_) fun _ _ q => q))
    obtain ⟨d, rfl, q⟩ := q
    refine ⟨d, rfl, wR_mono q (fun z m2 q => ?_) fun _ _ q => q⟩
    obtain ⟨k, rfl, h1, q⟩ := q
    exact ⟨k, rfl, h1, q⟩
theorem we_call {n : Nat} {F : List W → Sto → R W} (q : wR (r e m) (fun ws m1 => ws.length = n ∧ wR (F ws m1) Q E) E) : wR (eCall n F r e m) Q E := by
  with_unfolding_all
    rw [eCall_ap]
    refine wR_bind (wR_mono q (fun w m1 q => ?_) fun _ _ q => q)
    rw [if_pos q.1]
    exact q.2
theorem we_B {q : List W → Sto → R W} (h : wR (r e m) (fun ws m1 => wR (q ws m1) Q E) E) : wR (eB q r e m) Q E := by
  with_unfolding_all
    exact wR_bind h
theorem we_isi {Ts : List String} (q : wR (f e m) (fun w m1 => ∃ N b, tyW m1 w = some N ∧ Ts.any (isN N) = b ∧ Q (.d (.bool b)) m1) E) : wR (eIsi Ts f e m) Q E := by
  with_unfolding_all
    rw [eIsi_ap]
    refine wR_bind (wR_mono q (fun w m1 q => ?_) fun _ _ q => q)
    obtain ⟨N, b, h1, h2, q⟩ := q
    simp only [h1, h2]
    exact q
theorem we_ml {k : W → List W → Sto → R W} (q : wR (f e m) (fun w m1 => ∃ n ws, w = .loc n ∧ m1[n]? = some (.lst ws) ∧ wR (r e m1) (fun vs m2 => wR (k (.loc n) vs m2) Q E) E) E) : wR (eMl k f r e m) Q E := by
  with_unfolding_all
    rw [eMl_ap]
    refine wR_bind (wR_mono q (fun w m1 q => ?_) fun _ _ q => q)
    obtain ⟨n, ws, rfl, h1, q⟩ := q
    simp only [h1]
    exact wR_bind q
theorem we_ml0 {k : W → Sto → R W} (q : wR (f e m) (fun w m1 => ∃ n, w = .loc n ∧ wR (k (.loc n) m1) Q E) E) : wR (eMl0 k f e m) Q E := by
  with_unfolding_all
    unfold eMl0
    refine wR_bind (wR_mono q (fun w m1 q => ?_) fun _ _ q => q)
    obtain ⟨n, rfl, q⟩ := q
    exact q
theorem we_ms {k : W → List W → Sto → R W} (q : wR (f e m) (fun w m1 => ∃ z, w = .d (.str z) ∧ wR (g e m1) (fun z2 m2 => wR (k (.d (.str z)) [z2] m2) Q E) E) E) : wR (eMs k f g e m) Q E := by
  with_unfolding_all
    rw [eMs_ap]
    refine wR_bind (wR_mono q (fun w m1 q => ?_) fun _ _ q => q)
    obtain ⟨z, rfl, q⟩ := q
    exact wR_bind q
theorem wo_none {Q : Option Int → Sto → Prop} (q : Q none m) : wR (oNone e m) Q E := by
  with_unfolding_all
    exact q
theorem wo_some {Q : Option Int → Sto → Prop} (q : wR (f e m) (fun w m1 => ∃ i, w = .d (.int i) ∧ Q (some i) m1) E) : wR (oSome f e m) Q E := by
  with_unfolding_all
    rw [oSome_ap]
    refine wR_bind (wR_mono q (fun w m1 q => ?_) fun _ _ q => q)
    obtain ⟨z, rfl, q⟩ := q
    exact q
/-- a slice: of a list, a tuple, a text -/
def slW : W → Option Int → Option Int → Option W
  | .d (.list ds), i, j => some (.d (.list (cutD ds i j)))
  | .d (.tuple ds), i, j => some (.d (.tuple (cutD ds i j)))
  | .d (.str s), i, j => if s.length ≤ sizeLine then some (.d (.str (L2.cutS s i j))) else none
  | _, _, _ => none
theorem we_sl {lo hi : FO} (q : wR (f e m) (fun w m1 => wR (lo e m1) (fun i m2 => wR (hi e m2) (fun j m3 => ∃ z, slW w i j = some z ∧ Q z m3) E) E) E) : wR (eSl f lo hi e m) Q E := by
  with_unfolding_all
    rw [eSl_ap]
    refine wR_bind (wR_mono q (fun w m1 q => wR_bind (wR_mono q (fun i m2 q => wR_bind (wR_mono q (fun j m3 q => ?_) fun _ _ q => q)) fun _ _ q => q)) fun _ _ q => q)
    obtain ⟨z, h, q⟩ := q
    cases w with
    | loc n => cases h
    | clo n => cases h
    | d w => cases w with
      | list ds => cases h; exact q
      | tuple ds => cases h; exact q
      | str s =>
        simp only [slW] at h
        split at h
        · rename_i hc; cases h; simp only [if_pos hc]; exact q
        · cases h
      | _ => cases h
/-! #### operations -/
section
variable {i j : Int} {x y : Str} {a b : PyData} {ds es : List PyData} {n : Nat} {ws : List W} {k : Bool}
theorem wp_plus_i (q : Q (.d (.int (i + j))) m) : wR (pPlus (.d (.int i)) (.d (.int j)) m) Q E := by
  with_unfolding_all
    exact q
theorem wp_plus_l (h : ds.length + es.length ≤ 16777216) (q : Q (.d (.list (ds ++ es))) m) : wR (pPlus (.d (.list ds)) (.d (.list es)) m) Q E := by
  with_unfolding_all
    rw [pPlus_l]; unfold pCatL; show wR (if _ then _ else _) _ _; rw [if_pos (by rw [sizeLine_eq]; exact h)]; exact q
theorem wp_plus_s (h : x.length + y.length ≤ 16777216) (q : Q (.d (.str (x ++ y))) m) : wR (pPlus (.d (.str x)) (.d (.str y)) m) Q E := by
  with_unfolding_all
    rw [pPlus_s]; unfold pCatS; show wR (if _ then _ else _) _ _; rw [if_pos (by rw [sizeLine_eq]; exact h)]; exact q
theorem wp_sub (q : Q (.d (.int (i - j))) m) : wR (pSub (.d (.int i)) (.d (.int j)) m) Q E := by
  with_unfolding_all
    exact q
theorem wp_mul (h : (-(2 ^ 64) < i ∧ i < 2 ^ 64) ∨ (-(2 ^ 64) < j ∧ j < 2 ^ 64)) (q : Q (.d (.int (i * j))) m) : wR (pMul (.d (.int i)) (.d (.int j)) m) Q E := by
  with_unfolding_all
    exact wR_ok (pMul_i i j m h) q
theorem wp_lt_i (q : Q (.d (.bool (decide (i < j)))) m) : wR (pLt (.d (.int i)) (.d (.int j)) m) Q E := by
  with_unfolding_all
    exact q
theorem wp_le_i (q : Q (.d (.bool (decide (i ≤ j)))) m) : wR (pLe (.d (.int i)) (.d (.int j)) m) Q E := by
  with_unfolding_all
    exact q
theorem wp_gt_i (q : Q (.d (.bool (decide (j < i)))) m) : wR (pGt (.d (.int i)) (.d (.int j)) m) Q E := by
  with_unfolding_all
    exact q
theorem wp_ge_i (q : Q (.d (.bool (decide (j ≤ i)))) m) : wR (pGe (.d (.int i)) (.d (.int j)) m) Q E := by
  with_unfolding_all
    exact q
theorem wp_lt_s (q : Q (.d (.bool (sLt x y))) m) : wR (pLt (.d (.str x)) (.d (.str y)) m) Q E := by
  with_unfolding_all
    exact q
theorem wp_le_s (q : Q (.d (.bool (!sLt y x))) m) : wR (pLe (.d (.str x)) (.d (.str y)) m) Q E := by
  with_unfolding_all
    exact q
theorem wp_gt_s (q : Q (.d (.bool (sLt y x))) m) : wR (pGt (.d (.str x)) (.d (.str y)) m) Q E := by
  with_unfolding_all
    exact q
theorem wp_ge_s (q : Q (.d (.bool (!sLt x y))) m) : wR (pGe (.d (.str x)) (.d (.str y)) m) Q E := by
  with_unfolding_all
    exact q
theorem wp_eq_i (q : Q (.d (.bool (decide (i = j)))) m) : wR (pEq (.d (.int i)) (.d (.int j)) m) Q E := by
  with_unfolding_all
    rw [show decide (i = j) = PyData.eqv (.int i) (.int j) by show _ = (i == j); by_cases h : i = j <;> simp [h]] at q
    exact q
theorem wp_ne_i (q : Q (.d (.bool (!decide (i = j)))) m) : wR (pNe (.d (.int i)) (.d (.int j)) m) Q E := by
  with_unfolding_all
    rw [show decide (i = j) = PyData.eqv (.int i) (.int j) by show _ = (i == j); by_cases h : i = j <;> simp [h]] at q
    exact q
theorem wp_eq (h : SeqAt.shaped a = true ∧ SeqAt.shaped b = true) (q : Q (.d (.bool (PyData.eqv a b))) m) : wR (pEq (.d a) (.d b) m) Q E := by
  with_unfolding_all
    rw [pEq_d, if_pos h]; exact q
theorem wp_ne (h : SeqAt.shaped a = true ∧ SeqAt.shaped b = true) (q : Q (.d (.bool (!PyData.eqv a b))) m) : wR (pNe (.d a) (.d b) m) Q E := by
  with_unfolding_all
    rw [pNe_d, if_pos h]; exact q
theorem wp_neM {w z : W} (h1 : asD m w = some a) (h2 : asD m z = some b) (h : SeqAt.shaped a = true ∧ SeqAt.shaped b = true) (q : Q (.d (.bool (!PyData.eqv a b))) m) : wR (pNeM w z m) Q E := by
  with_unfolding_all
    unfold pNeM; simp only [h1, h2, if_pos h]; exact q
theorem wp_is_nn (q : Q (.d (.bool true)) m) : wR (pIs true (.d .none) (.d .none) m) Q E := by
  with_unfolding_all
    exact q
theorem wp_is_in (q : Q (.d (.bool false)) m) : wR (pIs true (.d (.int i)) (.d .none) m) Q E := by
  with_unfolding_all
    exact q
theorem wp_is_tn (q : Q (.d (.bool false)) m) : wR (pIs true (.d (.tuple ds)) (.d .none) m) Q E := by
  with_unfolding_all
    exact q
theorem wp_is_ln (q : Q (.d (.bool false)) m) : wR (pIs true (.d (.list ds)) (.d .none) m) Q E := by
  with_unfolding_all
    exact q
theorem wp_is_sn (q : Q (.d (.bool false)) m) : wR (pIs true (.d (.str x)) (.d .none) m) Q E := by
  with_unfolding_all
    exact q
theorem wp_isnt_nn (q : Q (.d (.bool false)) m) : wR (pIs false (.d .none) (.d .none) m) Q E := by
  with_unfolding_all
    exact q
theorem wp_isnt_in (q : Q (.d (.bool true)) m) : wR (pIs false (.d (.int i)) (.d .none) m) Q E := by
  with_unfolding_all
    exact q
theorem wp_isnt_tn (q : Q (.d (.bool true)) m) : wR (pIs false (.d (.tuple ds)) (.d .none) m) Q E := by
  with_unfolding_all
    exact q
theorem wp_isnt_ln (q : Q (.d (.bool true)) m) : wR (pIs false (.d (.list ds)) (.d .none) m) Q E := by
  with_unfolding_all
    exact q
theorem wp_isnt_sn (q : Q (.d (.bool true)) m) : wR (pIs false (.d (.str x)) (.d .none) m) Q E := by
  with_unfolding_all
    exact q
theorem wp_is_bb {b c : Bool} (q : Q (.d (.bool (decide (b = c)))) m) : wR (pIs true (.d (.bool b)) (.d (.bool c)) m) Q E := by
  with_unfolding_all
    rw [pIs_b, show (decide (b = c) == true) = decide (b = c) by cases decide (b = c) <;> rfl]; exact q
theorem wp_isnt_bb {b c : Bool} (q : Q (.d (.bool (!decide (b = c)))) m) : wR (pIs false (.d (.bool b)) (.d (.bool c)) m) Q E := by
  with_unfolding_all
    rw [pIs_b, show (decide (b = c) == false) = !decide (b = c) by cases decide (b = c) <;> rfl]; exact q
theorem wp_ix_l (h : L2.atI ds i = some d) (q : Q (.d d) m) : wR (pIx (.d (.list ds)) (.d (.int i)) m) Q E := by
  with_unfolding_all
    rw [pIx_l, h]; exact q
theorem wp_ix_t (h : L2.atI ds i = some d) (q : Q (.d d) m) : wR (pIx (.d (.tuple ds)) (.d (.int i)) m) Q E := by
  with_unfolding_all
    rw [pIx_t, h]; exact q
theorem wp_ix_s {c : Nat} (hx : x.length ≤ sizeLine) (h : L2.atI x.cps.toList i = some c) (q : Q (.d (.str ⟨#[c]⟩)) m) : wR (pIx (.d (.str x)) (.d (.int i)) m) Q E := by
  with_unfolding_all
    rw [pIx_s, if_pos hx, h]; exact q
/-- a text in a text -/
def isIn (x y : Str) : Bool := !(Builtin.Str.occurrences y x 0 y.length 1).isEmpty
theorem wp_in_s (q : Q (.d (.bool (isIn x y))) m) : wR (pIn true (.d (.str x)) (.d (.str y)) m) Q E := by
  with_unfolding_all
    rw [pIn_s, show ((!(Builtin.Str.occurrences y x 0 y.length 1).isEmpty) == true) = isIn x y by unfold isIn; cases (Builtin.Str.occurrences y x 0 y.length 1).isEmpty <;> rfl]; exact q
theorem wp_nin_s (q : Q (.d (.bool (!isIn x y))) m) : wR (pIn false (.d (.str x)) (.d (.str y)) m) Q E := by
  with_unfolding_all
    rw [pIn_s, show ((!(Builtin.Str.occurrences y x 0 y.length 1).isEmpty) == false) = !isIn x y by unfold isIn; cases (Builtin.Str.occurrences y x 0 y.length 1).isEmpty <;> rfl]; exact q
theorem wp_in_c (hm : m[n]? = some (.lst ws)) (hu : unWs ws = some ds) (h : SeqAt.shaped a = true ∧ SeqAt.shaped (.list ds) = true) (q : Q (.d (.bool ((ds.any fun z => PyData.eqv z a) == k))) m) : wR (pIn k (.d a) (.loc n) m) Q E := by
  with_unfolding_all
    rw [pIn_loc _ _ _ _ _ hm hu, if_pos h]; exact q
/-! #### built-ins -/
theorem wq_len_s (h : x.length ≤ 16777216) (q : Q (.d (.int x.length)) m) : wR (qLen [.d (.str x)] m) Q E := by
  with_unfolding_all
    rw [qLen_s, if_pos (by rw [sizeLine_eq]; exact h)]; exact q
theorem wq_len_l (q : Q (.d (.int ds.length)) m) : wR (qLen [.d (.list ds)] m) Q E := by
  with_unfolding_all
    exact q
theorem wq_len_t (q : Q (.d (.int ds.length)) m) : wR (qLen [.d (.tuple ds)] m) Q E := by
  with_unfolding_all
    exact q
theorem wq_int_i (q : Q (.d (.int i)) m) : wR (qInt [.d (.int i)] m) Q E := by
  with_unfolding_all
    exact q
theorem wq_int_b {b : Bool} (q : Q (.d (.int (if b then 1 else 0))) m) : wR (qInt [.d (.bool b)] m) Q E := by
  with_unfolding_all
    exact q
theorem wq_tup_l (q : Q (.d (.tuple ds)) m) : wR (qTup [.d (.list ds)] m) Q E := by
  with_unfolding_all
    exact q
theorem wq_tup_t (q : Q (.d (.tuple ds)) m) : wR (qTup [.d (.tuple ds)] m) Q E := by
  with_unfolding_all
    exact q
theorem wq_tup_c (h : m[n]? = some (.lst ws)) (hu : unWs ws = some ds) (q : Q (.d (.tuple ds)) m) : wR (qTup [.loc n] m) Q E := by
  with_unfolding_all
    rw [qTup_loc _ _ _ h hu]; exact q
theorem wq_list_l (q : Q (.d (.list ds)) m) : wR (qList [.d (.list ds)] m) Q E := by
  with_unfolding_all
    exact q
theorem wq_list_t (q : Q (.d (.list ds)) m) : wR (qList [.d (.tuple ds)] m) Q E := by
  with_unfolding_all
    exact q
theorem wq_list_s (h : x.length ≤ 16777216) (q : Q (.d (.list (signs x))) m) : wR (qList [.d (.str x)] m) Q E := by
  with_unfolding_all
    rw [qList_s _ _ (by rw [sizeLine_eq]; exact h)]; exact q
theorem unIs_map (l : List Int) : unIs (l.map PyData.int) = some l := by
  induction l with
  | nil => rfl
  | cons a l ih => rw [List.map_cons]; unfold unIs unI; rw [ih]
theorem unSs_map (l : List Str) : unSs (l.map PyData.str) = some l := by
  induction l with
  | nil => rfl
  | cons a l ih => rw [List.map_cons]; unfold unSs unS; rw [ih]
theorem unWs_map (l : List PyData) : unWs (l.map W.d) = some l := by
  induction l with
  | nil => rfl
  | cons a l ih => rw [List.map_cons]; unfold unWs; rw [ih]; rfl
theorem wq_sum {l : List Int} (h : unIs ds = some l) (q : Q (.d (.int l.sum)) m) : wR (qSum [.d (.list ds)] m) Q E := by
  with_unfolding_all
    unfold qSum; simp only [h]; exact q
theorem wq_join {l : List Str} (h : unSs ds = some l) (hl : (l.map (·.length)).sum + l.length * x.length ≤ 16777216) (q : Q (.d (.str (Txt.join x l))) m) : wR (qJoin (.d (.str x)) [.d (.list ds)] m) Q E := by
  with_unfolding_all
    unfold qJoin; simp only [h, if_pos hl]; exact q
theorem wq_count (q : Q (.d (.int (Txt.count x y))) m) : wR (qCount (.d (.str x)) [.d (.str y)] m) Q E := by
  with_unfolding_all
    exact q
theorem wq_index {l : List Nat} {k : Nat} (h : Builtin.Str.occurrences x y 0 x.length 1 = k :: l) (q : Q (.d (.int (k : Nat))) m) : wR (qIndex (.d (.str x)) [.d (.str y)] m) Q E := by
  with_unfolding_all
    unfold qIndex; simp only [h]; exact q
theorem wq_app (h : m[n]? = some (.lst ws)) (hl : ws.length < 16777216) (q : Q (.d .none) (m.set n (.lst (ws ++ [w])))) : wR (qApp (.loc n) [w] m) Q E := by
  with_unfolding_all
    unfold qApp; simp only [h]; show wR (if _ then _ else _) _ _; rw [if_pos (by rw [sizeLine_eq]; exact hl)]; exact q
theorem wq_pop (h : m[n]? = some (.lst (ws ++ [w]))) (q : Q w (m.set n (.lst ws))) : wR (qPop (.loc n) m) Q E := by
  with_unfolding_all
    unfold qPop; simp only [h, List.getLast?_concat, List.dropLast_concat]; exact q
end
/-! #### tests -/
section
variable {Q : Bool → Sto → Prop}
theorem wt_v (q : wR (f e m) (fun w m1 => ∃ k, w = .d (.bool k) ∧ Q k m1) E) : wR (tV f e m) Q E := by
  with_unfolding_all
    rw [tV_ap]
    refine wR_bind (wR_mono q (fun w m1 q => ?_) fun _ _ q => q)
    obtain ⟨k, rfl, q⟩ := q
    exact q
theorem wt_not (q : wR (t e m) (fun k m1 => Q (!k) m1) E) : wR (Pd.tNot t e m) Q E := by
  with_unfolding_all
    exact wR_bind q
theorem wt_and (q : wR (t e m) (fun k m1 => (k = true → wR (u e m1) Q E) ∧ (k = false → Q false m1)) E) : wR (Pd.tAnd t u e m) Q E := by
  with_unfolding_all
    rw [tAnd_ap]
    refine wR_bind (wR_mono q (fun k m1 q => ?_) fun _ _ q => q)
    cases k with
    | true => exact q.1 rfl
    | false => exact q.2 rfl
theorem wt_or (q : wR (t e m) (fun k m1 => (k = true → Q true m1) ∧ (k = false → wR (u e m1) Q E)) E) : wR (Pd.tOr t u e m) Q E := by
  with_unfolding_all
    rw [tOr_ap]
    refine wR_bind (wR_mono q (fun k m1 q => ?_) fun _ _ q => q)
    cases k with
    | true => exact q.1 rfl
    | false => exact q.2 rfl
theorem wt_yes (q : Q true m) : wR (fYes e m) Q E := by
  with_unfolding_all
    exact q
theorem wt_tru (q : wR (f e m) (fun w m1 => ∃ k, truW m1 w = some k ∧ Q k m1) E) : wR (tTru f e m) Q E := by
  with_unfolding_all
    unfold tTru
    refine wR_bind (wR_mono q (fun w m1 q => ?_) fun _ _ q => q)
    obtain ⟨k, h, q⟩ := q
    simp only [h]
    exact q
end
/-! #### statements -/
section
variable {N : Env → Sto → Prop} {P : SP} {s s1 s2 : FS} {fo fi fv : FE}
theorem ws_nil (q : N e m) : wS (sNil e m) N P := by
  with_unfolding_all
    exact q
theorem ws_seq (q : wS (s1 e m) (fun e1 m1 => wS (s2 e1 m1) N P) P) : wS (sSeq s1 s2 e m) N P := by
  with_unfolding_all
    rw [sSeq_ap]
    cases h : s1 e m <;> rw [h] at q <;> exact q
theorem ws_ret (q : wR (f e m) (fun w m1 => P.rt w m1) (fun x m1 => P.ex x e m1)) : wS (sRet f e m) N P := by
  with_unfolding_all
    exact wS_ofR q
theorem ws_retN (q : P.rt (.d .none) m) : wS ((fun (_ : Env) m => SR.rt (.d .none) m) e m) N P := by
  with_unfolding_all
    exact q
theorem ws_bk (q : P.bk e m) : wS ((fun (e : Env) m => SR.bk e m) e m) N P := by
  with_unfolding_all
    exact q
theorem ws_ct (q : P.ct e m) : wS ((fun (e : Env) m => SR.ct e m) e m) N P := by
  with_unfolding_all
    exact q
theorem ws_expr (q : wR (f e m) (fun _ m1 => N e m1) (fun x m1 => P.ex x e m1)) : wS (sExpr f e m) N P := by
  with_unfolding_all
    exact wS_ofR q
theorem ws_if (q : wR (t e m) (fun k m1 => (k = true → wS (s1 e m1) N P) ∧ (k = false → wS (s2 e m1) N P)) (fun x m1 => P.ex x e m1)) : wS (sIf t s1 s2 e m) N P := by
  with_unfolding_all
    rw [sIf_ap]
    refine wS_ofR (wR_mono q (fun k m1 q => ?_) fun _ _ q => q)
    cases k with
    | true => exact q.1 rfl
    | false => exact q.2 rfl
theorem ws_set (q : wR (f e m) (fun w m1 => N (e.set i (some w)) m1) (fun x m1 => P.ex x e m1)) : wS (sSet i f e m) N P := by
  with_unfolding_all
    exact wS_ofR q
theorem ws_asg {tt : FG} (q : wR (f e m) (fun w m1 => ∃ e', tt w e = some e' ∧ N e' m1) (fun x m1 => P.ex x e m1)) : wS (sAsg f tt e m) N P := by
  with_unfolding_all
    rw [sAsg_ap]
    refine wS_ofR (wR_mono q (fun k m1 q => ?_) fun _ _ q => q)
    obtain ⟨e', h, q⟩ := q
    simp only [h]
    exact q
theorem ws_par {j : Nat} (q : wR (r e m) (fun ws m1 => ∃ w z, ws = [w, z] ∧ N ((e.set i (some w)).set j (some z)) m1) (fun x m1 => P.ex x e m1)) : wS (sPar i j r e m) N P := by
  with_unfolding_all
    rw [sPar_ap]
    refine wS_ofR (wR_mono q (fun k m1 q => ?_) fun _ _ q => q)
    obtain ⟨w, z, rfl, q⟩ := q
    exact q
theorem ws_put (q : wR (fv e m) (fun v m1 => wR (fo e m1) (fun w m2 => wR (fi e m2) (fun z m3 => ∃ (n : Nat) (k : Int) (ws : List W) (j : Nat), w = .loc n ∧ z = .d (.int k) ∧ m3[n]? = some (.lst ws) ∧ L2.ixN ws.length k = some j ∧ N e (m3.set n (.lst (ws.set j v)))) (fun x m1 => P.ex x e m1)) (fun x m1 => P.ex x e m1)) (fun x m1 => P.ex x e m1)) : wS (sPut fo fi fv e m) N P := by
  with_unfolding_all
    rw [sPut_ap]
    refine wS_ofR (wR_mono q (fun v m1 q => wS_ofR (wR_mono q (fun w m2 q => wS_ofR (wR_mono q (fun z m3 q => ?_) fun _ _ q => q)) fun _ _ q => q)) fun _ _ q => q)
    obtain ⟨n, k, ws, j, rfl, rfl, h1, h2, q⟩ := q
    simp only [h1, h2]
    exact q
theorem ws_aug (q : ∃ k : Int, e[i]? = some (some (.d (.int k))) ∧ wR (f e m) (fun w m1 => ∃ j : Int, w = .d (.int j) ∧ N (e.set i (some (.d (.int (k + j))))) m1) (fun x m1 => P.ex x e m1)) : wS (sAug i pAddI f e m) N P := by
  with_unfolding_all
    unfold sAug
    obtain ⟨k, h, q⟩ := q
    simp only [h]
    refine wS_ofR (wR_mono q (fun w m1 q => ?_) fun _ _ q => q)
    obtain ⟨j, rfl, q⟩ := q
    exact q
theorem ws_augS (q : wR (fo e m) (fun w m1 => wR (fi e m1) (fun z m2 => ∃ (n : Nat) (k : Int) (ws : List W) (a : Int), w = .loc n ∧ z = .d (.int k) ∧ m2[n]? = some (.lst ws) ∧ L2.atI ws k = some (.d (.int a)) ∧
    wR (fv e m2) (fun y m3 => ∃ (b : Int) (ws2 : List W) (j : Nat), y = .d (.int b) ∧ m3[n]? = some (.lst ws2) ∧ L2.ixN ws2.length k = some j ∧ N e (m3.set n (.lst (ws2.set j (.d (.int (a + b))))))) (fun x m1 => P.ex x e m1)) (fun x m1 => P.ex x e m1)) (fun x m1 => P.ex x e m1)) : wS (sAugS fo fi fv e m) N P := by
  with_unfolding_all
    unfold sAugS
    refine wS_ofR (wR_mono q (fun w m1 q => wS_ofR (wR_mono q (fun z m2 q => ?_) fun _ _ q => q)) fun _ _ q => q)
    obtain ⟨n, k, ws, a, rfl, rfl, h1, h2, q⟩ := q
    simp only [h1, h2]
    refine wS_ofR (wR_mono q (fun y m3 q => ?_) fun _ _ q => q)
    obtain ⟨b, ws2, j, rfl, h3, h4, q⟩ := q
    simp only [pAddI, ofR, h3, h4]
    exact q
theorem ws_dput (q : wR (fv e m) (fun v m1 => wR (fo e m1) (fun w m2 => wR (fi e m2) (fun z m3 => ∃ (n : Nat) (kd : PyData) (tb : Bool) (kvs : List (PyData × W)) (kk : Sum L2.Key (List L2.Key)), w = .loc n ∧ z = .d kd ∧ m3[n]? = some (.dct tb false kvs) ∧ kOf kd = some kk ∧ (kindK kk == tb) = true ∧ kvs.length < 16777216 ∧ N e (m3.set n (.dct tb false (dPut kvs kd v)))) (fun x m1 => P.ex x e m1)) (fun x m1 => P.ex x e m1)) (fun x m1 => P.ex x e m1)) : wS (sDPut' fo fi fv e m) N P := by
  with_unfolding_all
    unfold sDPut'
    refine wS_ofR (wR_mono q (fun v m1 q => wS_ofR (wR_mono q (fun w m2 q => wS_ofR (wR_mono q (fun z m3 q => ?_) fun _ _ q => q)) fun _ _ q => q)) fun _ _ q => q)
    obtain ⟨n, kd, tb, kvs, kk, rfl, rfl, h1, h2, h3, h4, q⟩ := q
    simp only [h1, h2]
    rw [if_pos ⟨h3, by rw [sizeLine_eq]; exact h4⟩]
    exact q
theorem ws_raise {x : Str} (q : P.ex (.p x) e m) : wS (sRaise x e m) N P := by
  with_unfolding_all
    exact q
/-! #### loops -/
theorem ws_for {it : FI} {tg : FG} {body : FS} (q : wR (it e m) (fun items m1 => wS (loopF tg body items e m1) N P) (fun x m1 => P.ex x e m1)) : wS (sFor it tg body e m) N P := by
  with_unfolding_all
    rw [sFor_ap]
    exact wS_ofR q
theorem ws_forG {it : FIG} {tg : FG} {body : FS} (q : wR (it e m) (fun p m1 => wS (loopFG p.2 tg body p.1 e m1) N P) (fun x m1 => P.ex x e m1)) : wS (sForG it tg body e m) N P := by
  with_unfolding_all
    unfold sForG
    exact wS_ofR q
theorem ws_loopF {tg : FG} {body : FS} {I : Nat → Env → Sto → Prop} : ∀ {items : List W} {k0 : Nat} {e : Env} {m : Sto}, I k0 e m → (∀ k w e m, items[k]? = some w → I (k0 + k) e m → ∃ e1, tg w e = some e1 ∧ wS (body e1 m) (I (k0 + k + 1)) (P.loop N (I (k0 + k + 1)))) → (∀ e m, I (k0 + items.length) e m → N e m) → wS (loopF tg body items e m) N P
  | [], k0, e, m, h0, _, hN => by
    unfold loopF
    with_unfolding_all exact hN e m (by simpa using h0)
  | w :: items, k0, e, m, h0, hs, hN => by
    with_unfolding_all
      obtain ⟨e1, h1, h2⟩ := hs 0 w e m rfl h0
      unfold loopF
      rw [h1]
      simp only
      have rest : ∀ e2 m2, I (k0 + 1) e2 m2 → wS (loopF tg body items e2 m2) N P := fun e2 m2 hI => ws_loopF hI (fun k w e m hk hI => by
        have := hs (k + 1) w e m hk (by rw [show k0 + (k + 1) = k0 + 1 + k by omega]; exact hI)
        rw [show k0 + (k + 1) + 1 = k0 + 1 + k + 1 by omega] at this
        exact this) fun e m hI => hN e m (by rw [List.length_cons, show k0 + (items.length + 1) = k0 + 1 + items.length by omega]; exact hI)
      cases hb : body e1 m with
      | nx e2 m2 => rw [hb] at h2; exact rest e2 m2 h2
      | ct e2 m2 => rw [hb] at h2; exact rest e2 m2 h2
      | bk e2 m2 => rw [hb] at h2; exact h2
      | rt w m2 => rw [hb] at h2; exact h2
      | rtt w m2 => rw [hb] at h2; exact h2
      | exc x e2 m2 => rw [hb] at h2; exact h2
      | bad => rw [hb] at h2; exact h2
/-- with an invariant by the number of turns -/
theorem ws_loop {tg : FG} {body : FS} {items : List W} (I : Nat → Env → Sto → Prop) (h0 : I 0 e m) (hs : ∀ k w e m, items[k]? = some w → I k e m → ∃ e1, tg w e = some e1 ∧ wS (body e1 m) (I (k + 1)) (P.loop N (I (k + 1)))) (hN : ∀ e m, I items.length e m → N e m) : wS (loopF tg body items e m) N P := by
  with_unfolding_all
    exact ws_loopF (k0 := 0) h0 (fun k w e m hk hI => by
        rw [Nat.zero_add] at hI
        have := hs k w e m hk hI
        rw [Nat.zero_add]
        exact this) fun e m hI => hN e m (by rw [Nat.zero_add] at hI; exact hI)
end
/-! #### what is walked -/
section
variable {Q : List W → Sto → Prop} {QG : List W × Gd → Sto → Prop}
def seqI : W → Option (List W)
  | .d (.list ds) => some (ds.map W.d)
  | .d (.tuple ds) => some (ds.map W.d)
  | .d (.str s) => some ((signs s).map W.d)
  | _ => none
theorem wi_seq (q : wR (f e m) (fun w m1 => ∃ l, seqI w = some l ∧ Q l m1) E) : wR (iSeq f e m) Q E := by
  with_unfolding_all
    rw [iSeq_ap]
    refine wR_bind (wR_mono q (fun w m1 q => ?_) fun _ _ q => q)
    obtain ⟨l, h, q⟩ := q
    unfold seqI at h
    split at h <;> first | (cases h; exact q) | cases h
theorem wi_rg1 (q : wR (r e m) (fun ws m1 => ∃ j : Int, ws = [.d (.int j)] ∧ (-(2 ^ 62) ≤ j ∧ j < 2 ^ 62) ∧ Q (rng 0 j.toNat) m1) E) : wR (iRg1 r e m) Q E := by
  with_unfolding_all
    rw [iRg1_ap]
    refine wR_bind (wR_mono q (fun w m1 q => ?_) fun _ _ q => q)
    obtain ⟨j, rfl, h, q⟩ := q
    show wR (if _ then _ else _) Q E
    rw [if_pos h]
    exact q
theorem wi_rg2 (q : wR (r e m) (fun ws m1 => ∃ i j : Int, ws = [.d (.int i), .d (.int j)] ∧ (-(2 ^ 62) ≤ i ∧ i < 2 ^ 62 ∧ -(2 ^ 62) ≤ j ∧ j < 2 ^ 62) ∧ Q (rng i (j - i).toNat) m1) E) : wR (iRg2 r e m) Q E := by
  with_unfolding_all
    rw [iRg2_ap]
    refine wR_bind (wR_mono q (fun w m1 q => ?_) fun _ _ q => q)
    obtain ⟨i, j, rfl, h, q⟩ := q
    show wR (if _ then _ else _) Q E
    rw [if_pos h]
    exact q
theorem wi_z2 (q : wR (r e m) (fun ws m1 => ∃ a b ds es, ws = [a, b] ∧ seqW a = some ds ∧ seqW b = some es ∧ Q (zip2 ds es) m1) E) : wR (iZ2 r e m) Q E := by
  with_unfolding_all
    rw [iZ2_ap]
    refine wR_bind (wR_mono q (fun w m1 q => ?_) fun _ _ q => q)
    obtain ⟨a, b, ds, es, rfl, h1, h2, q⟩ := q
    simp only [h1, h2]
    exact q
theorem wi_z3 (q : wR (r e m) (fun ws m1 => ∃ a b c ds es fs, ws = [a, b, c] ∧ seqW a = some ds ∧ seqW b = some es ∧ seqW c = some fs ∧ Q (zip3 ds es fs) m1) E) : wR (iZ3 r e m) Q E := by
  with_unfolding_all
    rw [iZ3_ap]
    refine wR_bind (wR_mono q (fun w m1 q => ?_) fun _ _ q => q)
    obtain ⟨a, b, c, ds, es, fs, rfl, h1, h2, h3, q⟩ := q
    simp only [h1, h2, h3]
    exact q
theorem wi_en (q : wR (r e m) (fun ws m1 => ∃ a ds, ws = [a] ∧ seqW a = some ds ∧ Q (enumW 0 ds) m1) E) : wR (iEn r e m) Q E := by
  with_unfolding_all
    unfold iEn
    refine wR_bind (wR_mono q (fun w m1 q => ?_) fun _ _ q => q)
    obtain ⟨a, ds, rfl, h1, q⟩ := q
    simp only [h1]
    exact q
theorem wi_G {it : FI} (q : wR (it e m) (fun l m1 => QG (l, fun _ => True) m1) E) : wR (iG it e m) QG E := by
  with_unfolding_all
    exact wR_bind q
theorem wi_cell (q : wR (f e m) (fun w m1 => ∃ n ws, w = .loc n ∧ m1[n]? = some (.lst ws) ∧ QG (ws, fun m => m[n]? = some (.lst ws)) m1) E) : wR (iCell f e m) QG E := by
  with_unfolding_all
    unfold iCell
    refine wR_bind (wR_mono q (fun w m1 q => ?_) fun _ _ q => q)
    obtain ⟨n, ws, rfl, h1, q⟩ := q
    simp only [h1]
    exact q
theorem wi_enC (q : wR (r e m) (fun l m1 => ∃ n ws ds, l = [.loc n] ∧ m1[n]? = some (.lst ws) ∧ unWs ws = some ds ∧ QG (enumW 0 ds, fun m => m[n]? = some (.lst ws)) m1) E) : wR (iEnC r e m) QG E := by
  with_unfolding_all
    unfold iEnC
    refine wR_bind (wR_mono q (fun w m1 q => ?_) fun _ _ q => q)
    obtain ⟨n, ws, ds, rfl, h1, h2, q⟩ := q
    simp only [h1, h2]
    exact q
end
end
/-! #### comprehensions, all, any, sum -/
section
variable {α : Type} {Q : W → Sto → Prop} {E : Exn → Sto → Prop} {f : FE} {tt : FT} {e : Env} {m m1 : Sto} {vs : List Nat} {tg : FG} {it : FI} {ig : FIG} {k0 : Bool}
/-- one item's part, the store unchanged -/
def CompAt (tg : FG) (tt : FT) (f : FE) (e : Env) (m : Sto) (w : W) (c : Bool) (d : PyData) : Prop :=
  ∃ e1, tg w e = some e1 ∧ wR (tt e1 m) (fun k m2 => m2 = m ∧ k = c ∧ (c = true → wR (f e1 m) (fun z m3 => m3 = m ∧ z = .d d) NoE)) NoE
theorem loopC_of {l : List α} {g0 : α → W} {c : α → Bool} {g : α → PyData} {acc : List PyData} (h : ∀ a ∈ l, CompAt tg tt f e m (g0 a) (c a) (g a)) (hl : acc.length + l.length ≤ 16777216) : loopC tg tt f e (l.map g0) acc m = .ok (acc ++ (l.filter c).map g) m :=
  loopC_map (fun a ha => by
    obtain ⟨e1, h1, h2⟩ := h a ha
    obtain ⟨k, m2, e2, rfl, rfl, h3⟩ := wR_get h2
    refine ⟨e1, h1, e2, fun hc => ?_⟩
    obtain ⟨z, m3, e3, rfl, rfl⟩ := wR_get (h3 hc)
    exact e3) (by rw [sizeLine_eq]; exact hl)
theorem we_lc (l : List α) (g0 : α → W) (c : α → Bool) (g : α → PyData) (hi : wR (it e m) (fun items m2 => items = l.map g0 ∧ m2 = m1) NoE) (h : ∀ a ∈ l, CompAt tg tt f (wipeE e vs) m1 (g0 a) (c a) (g a)) (hl : l.length ≤ 16777216) (q : Q (.d (.list ((l.filter c).map g))) m1) : wR (eLc vs it tg tt f e m) Q E := by
  with_unfolding_all
    rw [eLc_ap, wR_eq hi]
    simp only [R.bind]
    rw [loopC_of h (by simpa using hl)]
    exact q
/-- a plain map -/
theorem we_map (l : List α) (g0 : α → W) (g : α → PyData) (hi : wR (it e m) (fun items m2 => items = l.map g0 ∧ m2 = m1) NoE) (h : ∀ a ∈ l, ∃ e1, tg (g0 a) (wipeE e vs) = some e1 ∧ wR (f e1 m1) (fun z m3 => m3 = m1 ∧ z = .d (g a)) NoE) (hl : l.length ≤ 16777216) (q : Q (.d (.list (l.map g))) m1) : wR (eLc vs it tg fYes f e m) Q E := by
  with_unfolding_all
    exact we_lc l g0 (fun _ => true) g hi (fun a ha => by
        obtain ⟨e1, h1, h2⟩ := h a ha
        exact ⟨e1, h1, rfl, rfl, fun _ => h2⟩) hl (by rw [List.filter_eq_self.mpr (fun _ _ => rfl)]; exact q)
theorem loopCG_of {G : Gd} {l : List α} {g0 : α → W} {c : α → Bool} {g : α → PyData} (hG : G m) : ∀ {acc : List PyData}, (∀ a ∈ l, CompAt tg tt f e m (g0 a) (c a) (g a)) → acc.length + l.length ≤ 16777216 → loopCG G tg tt f e (l.map g0) acc m = .ok (acc ++ (l.filter c).map g) m := by
  induction l with
  | nil =>
    intro acc _ _
    rw [List.map_nil]
    unfold loopCG
    rw [if_pos hG]
    simp
  | cons a l ih =>
    intro acc h hl
    have hl' : acc.length + (l.length + 1) ≤ 16777216 := hl
    obtain ⟨e1, h1, h2⟩ := h a List.mem_cons_self
    obtain ⟨k, m2, e2, rfl, rfl, h3⟩ := wR_get h2
    rw [List.map_cons]
    unfold loopCG
    rw [if_pos hG, h1]
    simp only [e2, noX, R.bind]
    cases hc : c a with
    | true =>
      obtain ⟨z, m3, e3, rfl, rfl⟩ := wR_get (h3 hc)
      simp only [if_true, e3, noX, unW]
      rw [if_pos (by rw [sizeLine_eq]; omega), ih (fun b hb => h b (List.mem_cons_of_mem _ hb)) (by simp only [List.length_append, List.length_cons, List.length_nil]; omega), List.filter_cons_of_pos hc, List.map_cons, List.append_assoc]
      rfl
    | false =>
      simp only [Bool.false_eq_true, if_false]
      rw [ih (fun b hb => h b (List.mem_cons_of_mem _ hb)) (by omega), List.filter_cons_of_neg (by rw [hc]; decide)]
theorem we_lcG {fin : List PyData → Sto → R W} (l : List α) (g0 : α → W) (c : α → Bool) (g : α → PyData) (hi : wR (ig e m) (fun p m2 => p.1 = l.map g0 ∧ m2 = m1 ∧ p.2 m1) NoE) (h : ∀ a ∈ l, CompAt tg tt f (wipeE e vs) m1 (g0 a) (c a) (g a)) (hl : l.length ≤ 16777216) (q : wR (fin ((l.filter c).map g) m1) Q E) : wR (eLcG fin vs ig tg tt f e m) Q E := by
  with_unfolding_all
    obtain ⟨p, m2, e1, h1, rfl, h3⟩ := wR_get hi
    unfold eLcG
    rw [e1]
    simp only [R.bind]
    rw [h1, loopCG_of h3 h (by simpa using hl)]
    exact q
theorem wf_C {ds : List PyData} (q : Q (.loc m.length) (m ++ [.lst (ds.map W.d)])) : wR (finC ds m) Q E := by
  with_unfolding_all
    exact q
theorem wf_D {ds : List PyData} (q : Q (.d (.list ds)) m) : wR (finD ds m) Q E := by
  with_unfolding_all
    exact q
theorem we_map0 (l : List α) (g0 : α → W) (g : α → PyData) (hi : wR (it e m) (fun items m2 => items = l.map g0 ∧ m2 = m) NoE) (h : ∀ a ∈ l, ∃ e1, tg (g0 a) (wipeE e vs) = some e1 ∧ wR (f e1 m) (fun z m3 => m3 = m ∧ z = .d (g a)) NoE) (hl : l.length ≤ 16777216) (q : Q (.d (.list (l.map g))) m) : wR (eLc vs it tg fYes f e m) Q E := by
  with_unfolding_all
    exact we_map l g0 g hi h hl q
theorem we_lc0 (l : List α) (g0 : α → W) (c : α → Bool) (g : α → PyData) (hi : wR (it e m) (fun items m2 => items = l.map g0 ∧ m2 = m) NoE) (h : ∀ a ∈ l, CompAt tg tt f (wipeE e vs) m (g0 a) (c a) (g a)) (hl : l.length ≤ 16777216) (q : Q (.d (.list ((l.filter c).map g))) m) : wR (eLc vs it tg tt f e m) Q E := by
  with_unfolding_all
    exact we_lc l g0 c g hi h hl q
theorem we_lcI (q : wR (it e m) (fun items m1 => wR (loopC tg tt f (wipeE e vs) items [] m1) (fun ds m2 => Q (.d (.list ds)) m2) E) E) : wR (eLc vs it tg tt f e m) Q E := by
  with_unfolding_all
    rw [eLc_ap]
    exact wR_bind (wR_mono q (fun _ _ q => wR_bind q) fun _ _ q => q)
/-- the store changes: an invariant -/
theorem wl_inv (I : Nat → List PyData → Sto → Prop) {items : List W} {Q : List PyData → Sto → Prop} (h0 : I 0 [] m1) (hl : items.length ≤ 16777216)
    (h : ∀ k w acc m, items[k]? = some w → acc.length = k → I k acc m → ∃ e1, tg w e = some e1 ∧ wR (f e1 m) (fun z m3 => ∃ d, z = .d d ∧ I (k + 1) (acc ++ [d]) m3) NoE) (q : ∀ ds m, ds.length = items.length → I items.length ds m → Q ds m) : wR (loopC tg fYes f e items [] m1) Q E := by
  with_unfolding_all
    have key : ∀ (l : List W) (k : Nat) (acc : List PyData) (m : Sto), (∀ j w, l[j]? = some w → items[k + j]? = some w) → acc.length = k → k + l.length = items.length → I k acc m → ∃ ds m', loopC tg fYes f e l acc m = .ok ds m' ∧ ds.length = items.length ∧ I items.length ds m' := by
      intro l
      induction l with
      | nil => intro k acc m _ ha hk hI; exact ⟨acc, m, rfl, by rw [ha]; simpa using hk, by rw [← hk]; simpa using hI⟩
      | cons w l ih =>
        intro k acc m hs ha hk hI
        have hk' : k + (l.length + 1) = items.length := hk
        obtain ⟨e1, h1, h2⟩ := h k w acc m (hs 0 w rfl) ha hI
        obtain ⟨z, m3, e3, d, rfl, hI3⟩ := wR_get h2
        obtain ⟨ds, m', h4, h5, h6⟩ := ih (k + 1) (acc ++ [d]) m3 (fun j w hj => by rw [show k + 1 + j = k + (j + 1) by omega]; exact hs (j + 1) w hj) (by simp [ha]) (by omega) hI3
        refine ⟨ds, m', ?_, h5, h6⟩
        unfold loopC
        rw [h1]
        simp only [fYes, noX, R.bind, if_true, e3, unW]
        rw [if_pos (by rw [sizeLine_eq, ha]; omega)]
        exact h4
    obtain ⟨ds, m', h4, h5, h6⟩ := key items 0 [] m1 (fun j w hj => by rw [Nat.zero_add]; exact hj) rfl (by simp) h0
    rw [h4]
    exact q ds m' h5 h6
theorem we_lc_inv (I : Nat → List PyData → Sto → Prop) {items : List W} (hi : wR (it e m) (fun l m2 => l = items ∧ m2 = m1) NoE) (h0 : I 0 [] m1) (hl : items.length ≤ 16777216)
    (h : ∀ k w acc m, items[k]? = some w → acc.length = k → I k acc m → ∃ e1, tg w (wipeE e vs) = some e1 ∧ wR (f e1 m) (fun z m3 => ∃ d, z = .d d ∧ I (k + 1) (acc ++ [d]) m3) NoE) (q : ∀ ds m, ds.length = items.length → I items.length ds m → Q (.d (.list ds)) m) : wR (eLc vs it tg fYes f e m) Q E := by
  with_unfolding_all
    exact we_lcI (wR_ok (wR_eq hi) (wl_inv I h0 hl h q))
theorem we_q (l : List α) (g0 : α → W) (p : α → Bool) (hi : wR (it e m) (fun items m2 => items = l.map g0 ∧ m2 = m1) NoE) (h : ∀ a ∈ l, ∃ e1, tg (g0 a) (wipeE e vs) = some e1 ∧ wR (f e1 m1) (fun z m3 => m3 = m1 ∧ z = .d (.bool (p a))) NoE) (q : Q (.d (.bool (if k0 then l.all p else l.any p))) m1) : wR (eQ k0 vs it tg f e m) Q E := by
  with_unfolding_all
    rw [eQ_map (p := p) (wR_eq hi) fun a ha => by
      obtain ⟨e1, h1, h2⟩ := h a ha
      obtain ⟨z, m3, e3, rfl, rfl⟩ := wR_get h2
      exact ⟨e1, h1, e3⟩]
    exact q
theorem we_q0 (l : List α) (g0 : α → W) (p : α → Bool) (hi : wR (it e m) (fun items m2 => items = l.map g0 ∧ m2 = m) NoE) (h : ∀ a ∈ l, ∃ e1, tg (g0 a) (wipeE e vs) = some e1 ∧ wR (f e1 m) (fun z m3 => m3 = m ∧ z = .d (.bool (p a))) NoE) (q : Q (.d (.bool (if k0 then l.all p else l.any p))) m) : wR (eQ k0 vs it tg f e m) Q E := by
  with_unfolding_all
    exact we_q l g0 p hi h q
end
/-! #### a def's end -/
section
variable {Q : W → Sto → Prop} {E : Exn → Sto → Prop} {m c : Sto} {N : Nat} {fs : FS} {ws : List W} {d : PyData}
/-- the ends of a def -/
def SP.fn (n : Nat) (Q : W → Sto → Prop) (E : Exn → Sto → Prop) : SP := ⟨fun w m' => wR (dEnd n (.rt w m')) Q E, fun w m' => wR (dEnd n (.rtt w m')) Q E, fun x e m' => wR (dEnd n (.exc x e m')) Q E, fun _ _ => False, fun _ _ => False⟩
section
variable {P : SP} {N' I' : Env → Sto → Prop} {X : Exn → Env → Sto → Prop} {w : W} {e : Env} {x : Exn}
theorem lp_rt (h : P.rt w m) : (P.loop N' I').rt w m := by
  with_unfolding_all
    exact h
theorem lp_ex (h : P.ex x e m) : (P.loop N' I').ex x e m := by
  with_unfolding_all
    exact h
theorem lp_bk (h : N' e m) : (P.loop N' I').bk e m := by
  with_unfolding_all
    exact h
theorem lp_ct (h : I' e m) : (P.loop N' I').ct e m := by
  with_unfolding_all
    exact h
theorem tr_rt (h : P.rt w m) : (P.tr X).rt w m := by
  with_unfolding_all
    exact h
theorem tr_ex (h : X x e m) : (P.tr X).ex x e m := by
  with_unfolding_all
    exact h
theorem tr_bk (h : P.bk e m) : (P.tr X).bk e m := by
  with_unfolding_all
    exact h
theorem tr_ct (h : P.ct e m) : (P.tr X).ct e m := by
  with_unfolding_all
    exact h
end
theorem fn_rt {n : Nat} {w : W} (h : wR (dEnd n (.rt w m)) Q E) : (SP.fn n Q E).rt w m := by
  with_unfolding_all
    exact h
theorem fn_ex {n : Nat} {x : Exn} {e : Env} (h : wR (dEnd n (.exc x e m)) Q E) : (SP.fn n Q E).ex x e m := by
  with_unfolding_all
    exact h
/-- a def as a walk -/
theorem wF {n : Nat} (hn : m.length = n) (h : wS (fs (startE N ws) m) (fun e m' => wR (dEnd n (.nx e m')) Q E) (SP.fn n Q E)) : wR (runD N fs ws m) Q E := by
  with_unfolding_all
    rw [runD_ap, hn]
    cases hs : fs (startE N ws) m <;> rw [hs] at h <;> first | exact h | exact h.elim
/-- the store behind: n things that lean on no others -/
def Fl2 (n : Nat) (m : Sto) : Prop := (m.take n).all (Cell.low n) = true
theorem we_end_d {n : Nat} (hf : Fl2 n m) (q : Q (.d d) (m.take n)) : wR (dEnd n (.rt (.d d) m)) Q E := by
  with_unfolding_all
    have hf : (m.take n).all (Cell.low n) = true := hf
    simp only [dEnd, fzW, hf, if_true]
    exact q
theorem we_end_n {n : Nat} {e : Env} (hf : Fl2 n m) (q : Q (.d .none) (m.take n)) : wR (dEnd n (.nx e m)) Q E := by
  with_unfolding_all
    have hf : (m.take n).all (Cell.low n) = true := hf
    simp only [dEnd, hf, if_true]
    exact q
theorem Fl2.of (h : Fl m) : Fl2 m.length m := by
  have h : m.all (Cell.low m.length) = true := h
  show (m.take m.length).all (Cell.low m.length) = true
  rw [List.take_length]; exact h
theorem Fl2.app (h : Fl m) : Fl2 m.length (m ++ c) := by
  have h : m.all (Cell.low m.length) = true := h
  show ((m ++ c).take m.length).all (Cell.low m.length) = true
  rw [List.take_left]; exact h
theorem W.low_mono {n k : Nat} (hk : n ≤ k) {w : W} (h : w.low n = true) : w.low k = true := by
  cases w with
  | loc j => exact decide_eq_true (Nat.lt_of_lt_of_le (of_decide_eq_true h) hk)
  | _ => rfl
theorem Cell.low_mono {n k : Nat} (hk : n ≤ k) {c : Cell} (h : c.low n = true) : c.low k = true := by
  cases c with
  | lst ws => exact List.all_eq_true.mpr fun w hw => W.low_mono hk (List.all_eq_true.mp h w hw)
  | dct t lk kvs => exact List.all_eq_true.mpr fun w hw => W.low_mono hk (List.all_eq_true.mp h w hw)
  | ins x fs => exact List.all_eq_true.mpr fun w hw => W.low_mono hk (List.all_eq_true.mp h w hw)
theorem Fl.snoc {c : Cell} (h : Fl m) (hc : c.low (m.length + 1) = true) : Fl (m ++ [c]) := by
  have h : m.all (Cell.low m.length) = true := h
  show (m ++ [c]).all (Cell.low (m ++ [c]).length) = true
  rw [List.length_append, List.length_cons, List.length_nil, List.all_append, List.all_cons, List.all_nil, Bool.and_true, hc, Bool.and_true]
  exact List.all_eq_true.mpr fun x hx => Cell.low_mono (Nat.le_succ _) (List.all_eq_true.mp h x hx)
theorem low_data {n : Nat} {ds : List PyData} : Cell.low n (.lst (ds.map W.d)) = true := by
  show (ds.map W.d).all (W.low n) = true
  rw [List.all_map]
  exact List.all_eq_true.mpr fun _ _ => rfl
theorem low_nil {n : Nat} : Cell.low n (.lst []) = true := rfl
theorem Fl.data {ds : List PyData} (h : Fl m) : Fl (m ++ [.lst (ds.map W.d)]) := h.snoc low_data
theorem Fl.nil1 (h : Fl m) : Fl (m ++ [.lst []]) := h.snoc low_nil
theorem Fl.set {n : Nat} {c : Cell} (h : Fl m) (hc : c.low m.length = true) : Fl (m.set n c) := by
  have h : m.all (Cell.low m.length) = true := h
  show (m.set n c).all (Cell.low (m.set n c).length) = true
  rw [List.length_set]
  exact List.all_eq_true.mpr fun x hx => by
    rcases List.mem_or_eq_of_mem_set hx with z | z
    · exact List.all_eq_true.mp h x z
    · rw [z]; exact hc
end
end Pd
namespace Pd
open PySem PySem.Spec PyProof.Rows
section
variable {Q : W → Sto → Prop} {E : Exn → Sto → Prop} {e : Env} {m : Sto} {i : Nat} {c d : Cell} {l : List Cell} {j : Nat}
theorem g_var (h : wR (eVar i e m) Q E) : wR (eVar i e m) Q E := by
  with_unfolding_all
    exact h
theorem sget1 : (m ++ [c])[m.length]? = some c := by simp
theorem sset1 : (m ++ [c]).set m.length d = m ++ [d] := by simp
theorem sget2 (h : m[j]? = some c) : (m ++ l)[j]? = some c := by
  rw [List.getElem?_append_left (List.getElem?_eq_some_iff.mp h).1]; exact h
theorem sset2 (h : m[j]? = some c) : (m ++ l).set j d = m.set j d ++ l := by
  rw [List.set_append_left _ _ (List.getElem?_eq_some_iff.mp h).1]
theorem sz_ok {n : Nat} (h : Nat.ble n 16777216 = true) : n ≤ sizeLine := by rw [sizeLine_eq]; exact Nat.le_of_ble_eq_true h
theorem if_t {A B : Prop} (h : A) : (true = true → A) ∧ (true = false → B) := ⟨fun _ => h, fun z => nomatch z⟩
theorem if_f {A B : Prop} (h : B) : (false = true → A) ∧ (false = false → B) := ⟨fun z => (nomatch z), fun _ => h⟩
theorem if_nt {A B : Prop} (h : B) : ((!true) = true → A) ∧ ((!true) = false → B) := ⟨fun z => (nomatch z), fun _ => h⟩
theorem if_nf {A B : Prop} (h : A) : ((!false) = true → A) ∧ ((!false) = false → B) := ⟨fun _ => h, fun z => (nomatch z)⟩
end
end Pd

set_option Elab.async false
set_option linter.all false
set_option maxRecDepth 100000
set_option maxHeartbeats 1000000
namespace Pd
open PySem
section
variable {Q : W → Sto → Prop} {E : Exn → Sto → Prop} {m : Sto} {i j : Int} {e : Pd.Env} {f : FE}
end
end Pd

set_option Elab.async false
set_option linter.all false
set_option maxRecDepth 100000
set_option maxHeartbeats 1000000
namespace Pd
open PySem PySem.Spec PyProof.Rows
/-! ### walks over the words that tell errors -/
section
variable {good : List (Str × Str)} {f : FE} {fs : List FE} {fr : FS} {e : Env} {m m1 : Sto} {w r x : Str} {y : Exn} {z : W} {i : Nat} {Q : W → Sto → Prop} {E : Exn → Sto → Prop} {N : Env → Sto → Prop} {P : SP}
end
end Pd

set_option Elab.async false
set_option linter.all false
set_option maxRecDepth 100000
set_option maxHeartbeats 1000000
namespace Pd
open PySem PySem.Spec PyProof.Rows
/-! ### walks: texts so many times, upper, setdefault, two clauses, sorted({..}) -/
section
variable {α : Type} {f g fo fi fv : FE} {it : FI} {it1 : FE} {tg tg1 : FG} {tt tt1 : FT} {e : Env} {m m1 : Sto} {z : Str} {i : Int} {vs vs1 : List Nat} {Q : W → Sto → Prop} {E : Exn → Sto → Prop}
end
end Pd

set_option Elab.async false
set_option linter.all false
set_option maxRecDepth 100000
set_option maxHeartbeats 1000000
namespace Pd
open PySem PySem.Spec PyProof.Rows
/-! ### walks: sorted by a key -/
section
variable {F : List W → Sto → R W} {r : FA} {fb : FE} {e : Env} {m m1 : Sto} {ds ks ks' : List PyData} {i : Nat} {Q : W → Sto → Prop} {E : Exn → Sto → Prop}
end
end Pd

set_option Elab.async false
set_option linter.all false
set_option maxRecDepth 100000
set_option maxHeartbeats 1000000
namespace Pd
open PySem PySem.Spec PyProof.Rows
/-! ### walks: min, max, constants, ranges down, unpacking, two clauses over lists, d != {} -/
section
variable {α : Type} {f : FE} {it : FI} {it1 : FE} {tg tg1 : FG} {tt tt1 : FT} {r : FA} {e : Env} {m m1 : Sto} {vs vs1 : List Nat} {ds : List PyData} {i : Int} {is : List Int} {Q : W → Sto → Prop} {E : Exn → Sto → Prop}
theorem wq_min_t (h : unIs ds = some (i :: is)) (q : Q (.d (.int (is.foldl min i))) m) : wR (qMin [.d (.tuple ds)] m) Q E := by
  refine wR_ok ?_ q
  unfold qMin pickW
  simp only [h]
theorem ws_par3 {i j l : Nat} {N : Env → Sto → Prop} {P : SP} (q : wR (r e m) (fun ws m1 => ∃ w z y, ws = [w, z, y] ∧ N (((e.set i (some w)).set j (some z)).set l (some y)) m1) (fun x m1 => P.ex x e m1)) : wS (sPar3 i j l r e m) N P := by
  unfold sPar3
  refine wS_ofR (wR_mono q (fun ws m1 q => ?_) fun _ _ q => q)
  obtain ⟨w, z, y, rfl, q⟩ := q
  with_unfolding_all
    exact q
end
end Pd

set_option Elab.async false
set_option linter.all false
set_option maxRecDepth 100000
set_option maxHeartbeats 1000000
namespace Pd
open PySem PySem.Spec PyProof.Rows
/-! ### walks: dict comprehensions with tuples for keys -/
section
variable {Q : W → Sto → Prop} {E : Exn → Sto → Prop} {m : Sto} {e : Pd.Env}
end
end Pd

set_option Elab.async false
set_option linter.all false
set_option maxRecDepth 100000
set_option maxHeartbeats 1000000
namespace Pd
open PySem PySem.Spec PyProof.Rows
section
variable {r : FA} {m : Sto} {e : Pd.Env} {z : Str} {i : Int} {Q : W → Sto → Prop} {QL : List W → Sto → Prop} {E : Exn → Sto → Prop}
end
end Pd

set_option Elab.async false
set_option linter.all false
set_option maxRecDepth 100000
set_option maxHeartbeats 1000000
namespace Pd
open PySem PySem.Spec PyProof.Rows
section
variable {f g : FE} {m : Sto} {e : Pd.Env} {Q : W → Sto → Prop} {E : Exn → Sto → Prop}
end
end Pd

set_option Elab.async false
set_option linter.all false
set_option maxRecDepth 100000
set_option maxHeartbeats 1000000
namespace Pd
open PySem PySem.Spec PyProof.Rows
section
variable {m : Sto} {ds : List PyData} {l : List Int} {Q : W → Sto → Prop} {E : Exn → Sto → Prop}
theorem wq_sumT (h : unIs ds = some l) (q : Q (.d (.int l.sum)) m) : wR (qSumA [.d (.tuple ds)] m) Q E := by
  refine wR_ok ?_ q
  unfold qSumA
  simp only [h]
end
end Pd

set_option Elab.async false
set_option linter.all false
set_option maxRecDepth 100000
set_option maxHeartbeats 1000000
namespace Pd
open PySem PySem.Spec PyProof.Rows
/-! ### walks: sorted sets of pairs, of signs; d.get; tuples given back with lists in them -/
section
variable {α : Type} {f fo fi fv : FE} {it : FI} {tg : FG} {tt : FT} {r : FA} {e : Env} {m : Sto} {vs : List Nat} {Q : W → Sto → Prop} {E : Exn → Sto → Prop} {N : Env → Sto → Prop} {P : SP}
end
end Pd

set_option Elab.async false
set_option linter.all false
set_option maxRecDepth 100000
set_option maxHeartbeats 1000000
namespace Pd
open PySem PySem.Spec PyProof.Rows
/-! ### walks: fields, methods, instances made -/
section
variable {Q : W → Sto → Prop} {E : Exn → Sto → Prop} {fo fv : FE} {r : FA} {e : Env} {m : Sto} {N : Env → Sto → Prop} {P : SP} {c f mt : Str} {n : Nat} {F : List W → Sto → R W}
theorem we_fld (q : wR (fo e m) (fun w m1 => ∃ j fs z, w = .loc j ∧ m1[j]? = some (.ins c fs) ∧ fs.lookup f = some z ∧ Q z m1) E) : wR (eFld c f fo e m) Q E := by
  unfold eFld
  refine wR_bind (wR_mono q (fun w m1 q => ?_) fun _ _ q => q)
  obtain ⟨j, fs, z, rfl, h1, h2, q⟩ := q
  refine wR_ok ?_ q
  simp only [h1, h2, if_true]
theorem ws_fldS (q : wR (fv e m) (fun w m1 => wR (fo e m1) (fun z m2 => ∃ j fs, z = .loc j ∧ m2[j]? = some (.ins c fs) ∧ fs.length < 1000 ∧ N e (m2.set j (.ins c (putFW f w fs)))) (fun x m1 => P.ex x e m1)) (fun x m1 => P.ex x e m1)) : wS (sFldS c f fo fv e m) N P := by
  unfold sFldS
  refine wS_ofR (wR_mono q (fun w m1 q => wS_ofR (wR_mono q (fun z m2 q => ?_) fun _ _ q => q)) fun _ _ q => q)
  obtain ⟨j, fs, rfl, h1, h2, q⟩ := q
  simp only [h1]
  rw [if_pos ⟨trivial, h2⟩]
  with_unfolding_all
    exact q
theorem noXR_w {α : Type} {r : R α} {Q : α → Sto → Prop} {E : Exn → Sto → Prop} (q : wR r Q NoE) : wR (noXR r) Q E := by
  obtain ⟨a, m, rfl, q'⟩ := wR_get q
  exact wR_rfl q'
theorem we_meth (q : wR (fo e m) (fun w m1 => ∃ j fs, w = .loc j ∧ m1[j]? = some (.ins c fs) ∧ fs.lookup mt = none ∧ wR (r e m1) (fun ws m2 => ws.length + 1 = n ∧ wR (F (.loc j :: ws) m2) Q NoE) E) E) : wR (eMeth c mt n F fo r e m) Q E := by
  unfold eMeth
  refine wR_bind (wR_mono q (fun w m1 q => ?_) fun _ _ q => q)
  obtain ⟨j, fs, rfl, h1, h2, q⟩ := q
  simp only [h1]
  rw [if_pos ⟨trivial, h2⟩]
  refine wR_bind (wR_mono q (fun ws m2 q => ?_) fun _ _ q => q)
  rw [if_pos q.1]
  exact noXR_w q.2
theorem we_make (q : wR (r e m) (fun ws m1 => ws.length + 1 = n ∧ wR (F (.loc m1.length :: ws) (m1 ++ [.ins c []])) (fun w m2 => w = .d .none ∧ Q (.loc m1.length) m2) NoE) E) : wR (eMake c n F r e m) Q E := by
  unfold eMake
  refine wR_bind (wR_mono q (fun ws m1 q => ?_) fun _ _ q => q)
  rw [if_pos q.1]
  obtain ⟨w, m2, e2, rfl, q⟩ := wR_get q.2
  rw [e2]
  exact wR_rfl q
end
end Pd

set_option Elab.async false
set_option linter.all false
set_option maxRecDepth 100000
set_option maxHeartbeats 1000000
namespace Pd
open PySem PySem.Spec PyProof.Rows
/-! ### walks: str(i), f'..', x.split(y) -/
section
variable {Q : W → Sto → Prop} {QS : Str → Sto → Prop} {E : Exn → Sto → Prop} {f : FE} {fs : List FE} {acc x y : Str} {e : Env} {m : Sto} {i : Int}
theorem wq_str (h : i.natAbs.log2 < 1920) (q : Q (.d (.str (toString i))) m) : wR (qStr [.d (.int i)] m) Q E := by
  refine wR_ok ?_ q
  unfold qStr
  exact if_pos h
theorem we_fmt_s (q : wR (f e m) (fun w m1 => ∃ y : Str, w = .d (.str y) ∧ y.length ≤ sizeLine ∧ Q (.d (.str y)) m1) E) : wR (eFmt f e m) Q E := by
  unfold eFmt
  refine wR_bind (wR_mono q (fun w m1 q => ?_) fun _ _ q => q)
  obtain ⟨y, rfl, h, q⟩ := q
  refine wR_ok ?_ q
  simp only [if_pos h]
theorem wj_nil (q : QS acc m) : wR (eJs [] acc e m) QS E := wR_rfl q
theorem wj_cons (q : wR (f e m) (fun w m1 => ∃ y : Str, w = .d (.str y) ∧ (acc ++ y).length ≤ sizeLine ∧ wR (eJs fs (acc ++ y) e m1) QS E) E) : wR (eJs (f :: fs) acc e m) QS E := by
  unfold eJs
  refine wR_bind (wR_mono q (fun w m1 q => ?_) fun _ _ q => q)
  obtain ⟨y, rfl, h, q⟩ := q
  simp only [if_pos h]
  exact q
theorem we_fs (q : wR (eJs fs Str.empty e m) (fun out m1 => Q (.d (.str out)) m1) E) : wR (eFs fs e m) Q E := by
  unfold eFs
  exact wR_bind (wR_mono q (fun out m1 q => wR_rfl q) fun _ _ q => q)
theorem wq_split (h : (y.length == 0) = false ∧ x.length + 2 ≤ sizeLine) (q : Q (.d (.list ((Txt.split x y).map .str))) m) : wR (qSplit (.d (.str x)) [.d (.str y)] m) Q E := by
  refine wR_ok ?_ q
  unfold qSplit
  exact if_pos h
end
end Pd

set_option Elab.async false
set_option linter.all false
set_option maxRecDepth 100000
set_option maxHeartbeats 1000000
namespace Pd
open PySem PySem.Spec PyProof.Rows
/-! ### walks: int(text); x, o.f = e -/
section
variable {Q : W → Sto → Prop} {E : Exn → Sto → Prop} {N : Env → Sto → Prop} {P : SP} {fv : FE} {e : Env} {m : Sto} {x c fl : Str} {n : Int} {i k : Nat}
theorem wq_intS (h : PySem.intText? x = some n) (h2 : x.length ≤ 640) (q : Q (.d (.int n)) m) : wR (qIntS [.d (.str x)] m) Q E := by
  refine wR_ok ?_ q
  unfold qIntS
  simp only [h, if_pos h2]
theorem ws_unpF (q : wR (fv e m) (fun w m1 => ∃ a b j fs, w = .d (.tuple [a, b]) ∧ (e.set i (some (.d a)))[k]? = some (some (.loc j)) ∧ m1[j]? = some (.ins c fs) ∧ fs.length < 1000 ∧ N (e.set i (some (.d a))) (m1.set j (.ins c (putFW fl (.d b) fs)))) (fun x m1 => P.ex x e m1)) : wS (sUnpF i c fl k fv e m) N P := by
  unfold sUnpF
  refine wS_ofR (wR_mono q (fun w m1 q => ?_) fun _ _ q => q)
  obtain ⟨a, b, j, fs, rfl, h1, h2, h3, q⟩ := q
  simp only [h1, h2]
  rw [if_pos ⟨trivial, h3⟩]
  with_unfolding_all
    exact q
end
end Pd

set_option Elab.async false
set_option linter.all false
set_option maxHeartbeats 400000
/-! ### ends of crowds: unlike ways lead to one end, if they do for all crowds of two and of three -/
namespace Ends
section
variable {α : Type} {next : α → List α} {meas : α → Nat} {a b c d x y : α} {P : α → Prop}
inductive To (next : α → List α) : α → α → Prop
  | refl (a : α) : To next a a
  | step {a b c : α} : b ∈ next a → To next b c → To next a c
def IsEnd (next : α → List α) (a x : α) : Prop := To next a x ∧ next x = []
theorem To.trans (h : To next a b) (k : To next b c) : To next a c := by
  induction h with
  | refl => exact k
  | step s _ ih => exact .step s (ih k)
theorem To.keeps (hP : ∀ a b, P a → b ∈ next a → P b) (h : To next a b) (p : P a) : P b := by
  induction h with
  | refl => exact p
  | step s _ ih => exact ih (hP _ _ p s)
end
/-! #### crowds -/
abbrev Vec := List Int
def add (c e : Vec) : Vec := List.zipWith (· + ·) c e
def sub (c e : Vec) : Vec := List.zipWith (· - ·) c e
def le (n c : Vec) : Prop := ∀ i (h : i < n.length) (k : i < c.length), n[i] ≤ c[i]
def nn (c : Vec) : Prop := ∀ x ∈ c, (0 : Int) ≤ x
section
variable {ρ : Type} {need give : ρ → Vec} {rules : List ρ} {w : Nat}
/-- a rule's use -/
def use (need give : ρ → Vec) (c : Vec) (r : ρ) : Vec := add (sub c (need r)) (give r)
structure Good (w : Nat) (need give : ρ → Vec) (rules : List ρ) : Prop where
  nl : ∀ r ∈ rules, (need r).length = w
  gl : ∀ r ∈ rules, (give r).length = w
  n0 : ∀ r ∈ rules, nn (need r)
  g0 : ∀ r ∈ rules, nn (give r)
  two : ∀ r ∈ rules, (need r).sum = 2
def Crowd (w : Nat) (c : Vec) : Prop := c.length = w ∧ nn c
theorem add_len {a b : Vec} (h : a.length = w) (k : b.length = w) : (add a b).length = w := by unfold add; rw [List.length_zipWith, h, k, Nat.min_self]
theorem sub_len {a b : Vec} (h : a.length = w) (k : b.length = w) : (sub a b).length = w := by unfold sub; rw [List.length_zipWith, h, k, Nat.min_self]
theorem use_len {c : Vec} {r : ρ} (h : c.length = w) (h1 : (need r).length = w) (h2 : (give r).length = w) : (use need give c r).length = w := add_len (sub_len h h1) h2
theorem use_at {c : Vec} {r : ρ} {i : Nat} (h : c.length = w) (h1 : (need r).length = w) (h2 : (give r).length = w) (hi : i < w) :
    (use need give c r)[i]'(by rw [use_len h h1 h2]; exact hi) = c[i]'(by omega) - (need r)[i]'(by omega) + (give r)[i]'(by omega) := by
  simp [use, add, sub]
theorem add_at {a b : Vec} {i : Nat} (h : a.length = w) (k : b.length = w) (hi : i < w) : (add a b)[i]'(by rw [add_len h k]; exact hi) = a[i]'(by omega) + b[i]'(by omega) := by
  simp [add]
theorem nn_at {c : Vec} {i : Nat} (h : nn c) (hi : i < c.length) : 0 ≤ c[i] := h _ (List.getElem_mem hi)
theorem nn_of {c : Vec} (h : ∀ i (hi : i < c.length), 0 ≤ c[i]) : nn c := fun x hx => by
  obtain ⟨i, hi, rfl⟩ := List.mem_iff_getElem.mp hx
  exact h i hi
theorem use_crowd (g : Good w need give rules) {c : Vec} {r : ρ} (hr : r ∈ rules) (hc : Crowd w c) (h : le (need r) c) : Crowd w (use need give c r) := by
  have l1 := g.nl r hr
  have l2 := g.gl r hr
  refine ⟨use_len hc.1 l1 l2, nn_of fun i hi => ?_⟩
  rw [use_len hc.1 l1 l2] at hi
  rw [use_at hc.1 l1 l2 hi]
  have h1 := h i (by omega) (by rw [hc.1]; exact hi)
  have h2 := nn_at (g.g0 r hr) (i := i) (by omega)
  omega
/-! #### all crowds from the small ones -/
variable {next : Vec → List Vec} {meas : Vec → Nat}
def Steps (w : Nat) (need give : ρ → Vec) (rules : List ρ) (next : Vec → List Vec) : Prop := ∀ c, Crowd w c → ∀ b, b ∈ next c ↔ ∃ r ∈ rules, le (need r) c ∧ b = use need give c r
theorem Steps.keeps (g : Good w need give rules) (hn : Steps w need give rules next) : ∀ a b, Crowd w a → b ∈ next a → Crowd w b := fun a b ha hb => by
  obtain ⟨r, hr, h, rfl⟩ := (hn a ha b).mp hb
  exact use_crowd g hr ha h
theorem add_crowd {c e : Vec} (hc : Crowd w c) (he : Crowd w e) : Crowd w (add c e) := by
  refine ⟨add_len hc.1 he.1, nn_of fun i hi => ?_⟩
  rw [add_len hc.1 he.1] at hi
  rw [add_at hc.1 he.1 hi]
  have h1 := nn_at hc.2 (i := i) (by rw [hc.1]; exact hi)
  have h2 := nn_at he.2 (i := i) (by rw [he.1]; exact hi)
  omega
theorem use_add {c e : Vec} {r : ρ} (hc : c.length = w) (he : e.length = w) (h1 : (need r).length = w) (h2 : (give r).length = w) : use need give (add c e) r = add (use need give c r) e := by
  have l1 : (use need give (add c e) r).length = w := use_len (add_len hc he) h1 h2
  have l2 : (add (use need give c r) e).length = w := add_len (use_len hc h1 h2) he
  refine List.ext_getElem (by rw [l1, l2]) fun i hi _ => ?_
  rw [l1] at hi
  rw [use_at (add_len hc he) h1 h2 hi, add_at (use_len hc h1 h2) he hi, add_at hc he hi, use_at hc h1 h2 hi]
  omega
theorem to_add (g : Good w need give rules) (hn : Steps w need give rules next) {c e x : Vec} (hc : Crowd w c) (he : Crowd w e) (h : To next c x) : To next (add c e) (add x e) := by
  induction h with
  | refl => exact .refl _
  | @step a b c s _ ih =>
    obtain ⟨r, hr, hl, rfl⟩ := (hn a hc b).mp s
    refine .step ((hn _ (add_crowd hc he) _).mpr ⟨r, hr, fun i h1 h2 => ?_, (use_add hc.1 he.1 (g.nl r hr) (g.gl r hr)).symm⟩) (ih (use_crowd g hr hc hl))
    rw [g.nl r hr] at h1
    rw [add_at hc.1 he.1 h1]
    have h3 := hl i (by rw [g.nl r hr]; exact h1) (by rw [hc.1]; exact h1)
    have h4 := nn_at he.2 (i := i) (by rw [he.1]; exact h1)
    omega
end
end Ends

set_option Elab.async false
set_option linter.all false
set_option maxHeartbeats 400000
/-! ### the lists of the ends, as they are found -/
namespace Ends
section
variable {α : Type} [DecidableEq α]
/-- each once, in the order in which they come first -/
def uniqA (acc l : List α) : List α := l.foldl (fun acc x => if x ∈ acc then acc else acc ++ [x]) acc
def uniq (l : List α) : List α := uniqA [] l
/-- the ends by steps of recursion -/
def enF (next : α → List α) (srt : List α → List α) : Nat → α → List α
  | 0, c => [c]
  | n + 1, c => if next c = [] then [c] else srt (uniq ((next c).flatMap (enF next srt n)))
variable {next : α → List α} {srt : List α → List α} {meas : α → Nat} {P : α → Prop} {a b c d x y : α}
def en (next : α → List α) (srt : List α → List α) (meas : α → Nat) (c : α) : List α := enF next srt (meas c + 1) c
end
end Ends

set_option Elab.async false
set_option linter.all false
set_option maxHeartbeats 400000
/-! ### two folk end alike in all crowds, if they do in all crowds of two -/
namespace Ends
section
variable {ρ : Type} {need give need' give' : ρ → Vec} {rules rules' : List ρ} {w : Nat} {next next' : Vec → List Vec} {meas meas' : Vec → Nat}
theorem IsEnd.add (g : Good w need give rules) (hn : Steps w need give rules next) {c e x : Vec} (hc : Crowd w c) (he : Crowd w e) (h : IsEnd next c x) : To next (Ends.add c e) (Ends.add x e) := to_add g hn hc he h.1
end
end Ends

set_option linter.all false
namespace Bal
/-! ### an alternating form of n vectors of n numbers, by the outer algebra; a vector: its numbers by place -/
def wed : Nat → (Nat → Int) → (List Bool → Int) → List Bool → Int
  | 0, _, _, _ => 0
  | _ + 1, _, _, [] => 0
  | n + 1, v, ω, false :: S => wed n v (fun S => ω (false :: S)) S
  | n + 1, v, ω, true :: S => v n * ω (false :: S) - wed n v (fun S => ω (true :: S)) S
theorem wed_v (x y : Int) (u v : Nat → Int) : ∀ (n : Nat) (ω : List Bool → Int) (S : List Bool), wed n (fun r => x * u r + y * v r) ω S = x * wed n u ω S + y * wed n v ω S
  | 0, _, _ => by simp [wed]
  | n + 1, ω, [] => by simp [wed]
  | n + 1, ω, false :: S => by
    simp only [wed]
    exact wed_v x y u v n _ S
  | n + 1, ω, true :: S => by
    simp only [wed]
    rw [wed_v x y u v n _ S]
    grind
theorem wed_w (x y : Int) (v : Nat → Int) : ∀ (n : Nat) (ω ρ : List Bool → Int) (S : List Bool), wed n v (fun S => x * ω S + y * ρ S) S = x * wed n v ω S + y * wed n v ρ S
  | 0, _, _, _ => by simp [wed]
  | n + 1, ω, ρ, [] => by simp [wed]
  | n + 1, ω, ρ, false :: S => by
    simp only [wed]
    exact wed_w x y v n _ _ S
  | n + 1, ω, ρ, true :: S => by
    simp only [wed]
    rw [wed_w x y v n _ _ S]
    grind
theorem wed_0 (v : Nat → Int) (n : Nat) (S : List Bool) : wed n v (fun _ => 0) S = 0 := by
  have := wed_w 0 0 v n (fun _ => 0) (fun _ => 0) S
  simpa using this
theorem anti (u v : Nat → Int) : ∀ (n : Nat) (ω : List Bool → Int) (S : List Bool), wed n u (wed n v ω) S + wed n v (wed n u ω) S = 0
  | 0, _, _ => by simp [wed]
  | n + 1, ω, [] => by simp [wed]
  | n + 1, ω, false :: S => by
    simp only [wed]
    exact anti u v n _ S
  | n + 1, ω, true :: S => by
    simp only [wed]
    have h1 := wed_w (v n) (-1) u n (fun S => ω (false :: S)) (wed n v fun S => ω (true :: S)) S
    have h2 := wed_w (u n) (-1) v n (fun S => ω (false :: S)) (wed n u fun S => ω (true :: S)) S
    have h3 := anti u v n (fun S => ω (true :: S)) S
    simp only [Int.neg_one_mul, ← Int.sub_eq_add_neg] at h1 h2
    rw [h1, h2]
    grind
theorem wed_self (v : Nat → Int) (n : Nat) (ω : List Bool → Int) (S : List Bool) : wed n v (wed n v ω) S = 0 := by
  have := anti v v n ω S
  omega
/-- g 0 first, g (k - 1) outermost -/
def W (n : Nat) (g : Nat → Nat → Int) (ω : List Bool → Int) : Nat → List Bool → Int
  | 0 => ω
  | k + 1 => wed n (g k) (W n g ω k)
def up {α : Type} (g : Nat → α) (i : Nat) (x : α) : Nat → α := fun j => if j = i then x else g j
theorem up_same {α : Type} (g : Nat → α) (i : Nat) (x : α) : up g i x i = x := by simp [up]
theorem up_ne {α : Type} (g : Nat → α) {i j : Nat} (x : α) (h : j ≠ i) : up g i x j = g j := by simp [up, h]
theorem up_up {α : Type} (g : Nat → α) (i : Nat) (x y : α) : up (up g i x) i y = up g i y := by
  funext j
  by_cases h : j = i
  · subst h; simp [up_same]
  · simp [up_ne, h]
theorem up_id {α : Type} (g : Nat → α) (i : Nat) : up g i (g i) = g := by
  funext j
  by_cases h : j = i
  · subst h; simp [up_same]
  · simp [up_ne, h]
theorem up_comm {α : Type} (g : Nat → α) {i j : Nat} (x y : α) (h : i ≠ j) : up (up g i x) j y = up (up g j y) i x := by
  funext k
  by_cases h1 : k = i
  · subst h1; rw [up_ne _ _ h, up_same, up_same]
  · by_cases h2 : k = j
    · subst h2; rw [up_same, up_ne _ _ h1, up_same]
    · rw [up_ne _ _ h2, up_ne _ _ h1, up_ne _ _ h1, up_ne _ _ h2]
section
variable {n : Nat} {g g' : Nat → Nat → Int} {ω : List Bool → Int}
theorem W_congr : ∀ {k : Nat}, (∀ i, i < k → g i = g' i) → W n g ω k = W n g' ω k
  | 0, _ => rfl
  | k + 1, h => by
    unfold W
    rw [W_congr fun i hi => h i (Nat.lt_succ_of_lt hi), h k (Nat.lt_succ_self k)]
theorem W_lin (x y : Int) (u v : Nat → Int) (i : Nat) : ∀ (k : Nat) (S : List Bool), i < k → W n (up g i fun r => x * u r + y * v r) ω k S = x * W n (up g i u) ω k S + y * W n (up g i v) ω k S
  | 0, _, h => absurd h (Nat.not_lt_zero i)
  | k + 1, S, h => by
    unfold W
    by_cases hk : i = k
    · subst hk
      have e : ∀ z : Nat → Int, W n (up g i z) ω i = W n g ω i := fun z => W_congr fun j hj => up_ne g z (Nat.ne_of_lt hj)
      rw [e, e, e, up_same, up_same, up_same]
      exact wed_v x y u v n _ S
    · have hik : i < k := by omega
      rw [up_ne _ _ (Ne.symm hk), up_ne _ _ (Ne.symm hk), up_ne _ _ (Ne.symm hk)]
      have e : W n (up g i fun r => x * u r + y * v r) ω k = fun S => x * W n (up g i u) ω k S + y * W n (up g i v) ω k S := funext fun S => W_lin x y u v i k S hik
      rw [e]
      exact wed_w x y (g k) n _ _ S
theorem W_out {v : Nat → Int} {i : Nat} (hv : g i = v) : ∀ (k : Nat) (S : List Bool), i < k → wed n v (W n g ω k) S = 0
  | 0, _, h => absurd h (Nat.not_lt_zero i)
  | k + 1, S, h => by
    show wed n v (wed n (g k) (W n g ω k)) S = 0
    by_cases hk : i = k
    · subst hk
      rw [hv]
      exact wed_self v n _ S
    · have e : wed n v (W n g ω k) = fun _ => 0 := funext fun S => W_out hv k S (by omega)
      have h2 := anti v (g k) n (W n g ω k) S
      rw [e, wed_0] at h2
      omega
theorem W_eq {i j : Nat} (hij : i < j) (he : g i = g j) : ∀ (k : Nat) (S : List Bool), j < k → W n g ω k S = 0
  | 0, _, h => absurd h (Nat.not_lt_zero j)
  | k + 1, S, h => by
    unfold W
    by_cases hk : j = k
    · subst hk
      exact W_out he j S hij
    · have e : W n g ω k = fun _ => 0 := funext fun S => W_eq hij he k S (by omega)
      rw [e, wed_0]
end
def one : List Bool → Int := fun S => if S.any id then 0 else 1
def full (n : Nat) : List Bool := List.replicate n true
/-- the form -/
def D (n : Nat) (g : Nat → Nat → Int) : Int := W n g one n (full n)
section
variable {n : Nat} {g g' : Nat → Nat → Int}
theorem D_congr (h : ∀ i, i < n → g i = g' i) : D n g = D n g' := congrFun (W_congr h) _
theorem D_lin (x y : Int) (u v : Nat → Int) {i : Nat} (h : i < n) : D n (up g i fun r => x * u r + y * v r) = x * D n (up g i u) + y * D n (up g i v) := W_lin x y u v i n _ h
theorem D_eq {i j : Nat} (hi : i < n) (hj : j < n) (hij : i ≠ j) (he : g i = g j) : D n g = 0 := by
  rcases Nat.lt_or_gt_of_ne hij with h | h
  · exact W_eq h he n _ hj
  · exact W_eq h he.symm n _ hi
theorem D_zero {i : Nat} (h : i < n) : D n (up g i fun _ => 0) = 0 := by
  have := D_lin (g := g) 0 0 (fun _ => 0) (fun _ => 0) h
  simpa using this
theorem D_add (u v : Nat → Int) {i : Nat} (h : i < n) : D n (up g i fun r => u r + v r) = D n (up g i u) + D n (up g i v) := by
  have := D_lin (g := g) 1 1 u v h
  simpa using this
theorem D_swap (u v : Nat → Int) {i j : Nat} (hi : i < n) (hj : j < n) (hij : i ≠ j) : D n (up (up g i u) j v) = - D n (up (up g i v) j u) := by
  have z : ∀ w, D n (up (up g i w) j w) = 0 := fun w => D_eq hi hj hij (by rw [up_ne _ _ hij, up_same, up_same])
  have h1 := z fun r => u r + v r
  rw [D_add (g := up g i fun r => u r + v r) u v hj] at h1
  rw [up_comm g _ u hij, up_comm g _ v hij, D_add (g := up g j u) u v hi, D_add (g := up g j v) u v hi] at h1
  rw [← up_comm g u u hij, ← up_comm g v u hij, ← up_comm g u v hij, ← up_comm g v v hij, z u, z v] at h1
  omega
end
/-- the units -/
def un (i : Nat) : Nat → Int := fun r => if r = i then 1 else 0
/-! ### sums -/
def sm : Nat → (Nat → Int) → Int
  | 0, _ => 0
  | n + 1, f => sm n f + f n
theorem sm_congr {f g : Nat → Int} : ∀ {n : Nat}, (∀ i, i < n → f i = g i) → sm n f = sm n g
  | 0, _ => rfl
  | n + 1, h => by unfold sm; rw [sm_congr fun i hi => h i (by omega), h n (by omega)]
theorem sm_zero {f : Nat → Int} {n : Nat} (h : ∀ i, i < n → f i = 0) : sm n f = 0 := by
  have e : ∀ n, sm n (fun _ => 0) = 0 := fun n => by induction n with | zero => rfl | succ n ih => simp [sm, ih]
  rw [sm_congr (g := fun _ => 0) h, e]
theorem sm_one {f : Nat → Int} {k : Nat} : ∀ {n : Nat}, k < n → (∀ i, i < n → i ≠ k → f i = 0) → sm n f = f k
  | 0, h, _ => absurd h (Nat.not_lt_zero k)
  | n + 1, h, hz => by
    unfold sm
    by_cases e : k = n
    · subst e; rw [sm_zero fun i hi => hz i (by omega) (by omega)]; omega
    · rw [sm_one (k := k) (by omega) fun i hi => hz i (by omega), hz n (by omega) (by omega)]; omega
theorem sm_lin (x y : Int) (f g : Nat → Int) : ∀ n, sm n (fun i => x * f i + y * g i) = x * sm n f + y * sm n g
  | 0 => by simp [sm]
  | n + 1 => by unfold sm; rw [sm_lin x y f g n]; grind
theorem sm_mul (x : Int) (f : Nat → Int) (n : Nat) : sm n (fun i => x * f i) = x * sm n f := by
  have := sm_lin x 0 f f n
  simpa using this
theorem sm_add (f g : Nat → Int) (n : Nat) : sm n (fun i => f i + g i) = sm n f + sm n g := by
  have := sm_lin 1 1 f g n
  simpa using this
theorem sm_two {f : Nat → Int} {k l n : Nat} (hk : k < n) (hl : l < n) (hkl : k ≠ l) (hz : ∀ i, i < n → i ≠ k → i ≠ l → f i = 0) : sm n f = f k + f l := by
  have e1 : sm n f = sm n fun i => (if i = k then f k else 0) + (if i = l then f l else 0) := sm_congr fun i hi => by
    by_cases h1 : i = k
    · subst h1; simp [hkl]
    · by_cases h2 : i = l
      · subst h2; simp [h1]
      · simp [h1, h2, hz i hi h1 h2]
  rw [e1, sm_add, sm_one (k := k) hk (fun i _ h => by simp [h]), sm_one (k := l) hl (fun i _ h => by simp [h])]
  simp
theorem sm_swap (f : Nat → Nat → Int) (n : Nat) : ∀ m, sm m (fun j => sm n fun i => f i j) = sm n fun i => sm m fun j => f i j
  | 0 => by simp [sm, sm_zero]
  | m + 1 => by
    show sm m (fun j => sm n fun i => f i j) + sm n (fun i => f i m) = sm n fun i => sm m (fun j => f i j) + f i m
    rw [sm_swap f n m, ← sm_add]
theorem sm_nonneg {f : Nat → Int} : ∀ {n : Nat}, (∀ i, i < n → 0 ≤ f i) → 0 ≤ sm n f
  | 0, _ => Int.le_refl 0
  | n + 1, h => by unfold sm; have := sm_nonneg (f := f) fun i hi => h i (Nat.lt_succ_of_lt hi); have := h n (by omega); omega
theorem sm_neg_ex {f : Nat → Int} {n : Nat} (h : sm n f < 0) : ∃ i, i < n ∧ f i < 0 := by
  refine Classical.byContradiction fun z => ?_
  have : 0 ≤ sm n f := sm_nonneg fun i hi => Int.not_lt.mp fun q => z ⟨i, hi, q⟩
  omega
/-- linear in a sum -/
theorem D_sum {n : Nat} {g : Nat → Nat → Int} {i : Nat} (hi : i < n) (a : Nat → Int) (v : Nat → Nat → Int) : ∀ m, D n (up g i fun r => sm m fun k => a k * v k r) = sm m fun k => a k * D n (up g i (v k))
  | 0 => by simp only [sm]; exact D_zero hi
  | m + 1 => by
    have h := D_lin (g := g) 1 (a m) (fun r => sm m fun k => a k * v k r) (v m) hi
    simp only [Int.one_mul] at h
    unfold sm
    rw [h, D_sum hi a v m]
/-! ### how great -/
def nrm : Nat → (List Bool → Int) → Nat
  | 0, ω => (ω []).natAbs
  | n + 1, ω => nrm n (fun S => ω (false :: S)) + nrm n (fun S => ω (true :: S))
def vn : Nat → (Nat → Int) → Nat
  | 0, _ => 0
  | n + 1, v => vn n v + (v n).natAbs
theorem nrm_sub : ∀ (n : Nat) (x : Int) (ω ρ : List Bool → Int), nrm n (fun S => x * ω S - ρ S) ≤ x.natAbs * nrm n ω + nrm n ρ
  | 0, x, ω, ρ => by
    show (x * ω [] - ρ []).natAbs ≤ x.natAbs * (ω []).natAbs + (ρ []).natAbs
    rw [← Int.natAbs_mul]
    omega
  | n + 1, x, ω, ρ => by
    show nrm n (fun S => x * ω (false :: S) - ρ (false :: S)) + nrm n (fun S => x * ω (true :: S) - ρ (true :: S)) ≤ x.natAbs * (nrm n (fun S => ω (false :: S)) + nrm n (fun S => ω (true :: S))) + (nrm n (fun S => ρ (false :: S)) + nrm n (fun S => ρ (true :: S)))
    have h1 := nrm_sub n x (fun S => ω (false :: S)) (fun S => ρ (false :: S))
    have h2 := nrm_sub n x (fun S => ω (true :: S)) (fun S => ρ (true :: S))
    rw [Nat.mul_add]
    omega
theorem nrm_wed (v : Nat → Int) : ∀ (n : Nat) (ω : List Bool → Int), nrm n (wed n v ω) ≤ vn n v * nrm n ω
  | 0, ω => by simp [nrm, wed]
  | n + 1, ω => by
    have h1 := nrm_wed v n fun S => ω (false :: S)
    have h2 := nrm_wed v n fun S => ω (true :: S)
    have h3 := nrm_sub n (v n) (fun S => ω (false :: S)) (wed n v fun S => ω (true :: S))
    show nrm n (wed n v fun S => ω (false :: S)) + nrm n (fun S => v n * ω (false :: S) - wed n v (fun S => ω (true :: S)) S) ≤ (vn n v + (v n).natAbs) * (nrm n (fun S => ω (false :: S)) + nrm n (fun S => ω (true :: S)))
    rw [Nat.add_mul, Nat.mul_add, Nat.mul_add]
    omega
theorem nrm_at : ∀ (n : Nat) (ω : List Bool → Int), (ω (full n)).natAbs ≤ nrm n ω
  | 0, ω => Nat.le_refl _
  | n + 1, ω => by
    have h := nrm_at n fun S => ω (true :: S)
    show (ω (true :: full n)).natAbs ≤ _
    unfold nrm
    omega
theorem nrm_one : ∀ n, nrm n one = 1
  | 0 => rfl
  | n + 1 => by
    have e1 : (fun S => one (false :: S)) = one := funext fun S => by simp [one]
    have e2 : (fun S => one (true :: S)) = fun _ => 0 := funext fun S => by simp [one]
    have z : ∀ n, nrm n (fun _ => 0) = 0 := fun n => by induction n with | zero => rfl | succ n ih => simp [nrm, ih]
    unfold nrm
    rw [e1, e2, nrm_one n, z]
theorem W_le (n : Nat) (g : Nat → Nat → Int) (B : Nat) (ω : List Bool → Int) : ∀ k, (∀ i, i < k → vn n (g i) ≤ B) → nrm n (W n g ω k) ≤ B ^ k * nrm n ω
  | 0, _ => by simp [W]
  | k + 1, h => by
    have h1 := W_le n g B ω k fun i hi => h i (by omega)
    have h2 := nrm_wed (g k) n (W n g ω k)
    show nrm n (wed n (g k) (W n g ω k)) ≤ _
    refine Nat.le_trans h2 (Nat.le_trans (Nat.mul_le_mul (h k (by omega)) h1) ?_)
    rw [Nat.pow_succ, Nat.mul_comm (B ^ k) B, Nat.mul_assoc]
    exact Nat.le_refl _
theorem D_le {n B : Nat} {g : Nat → Nat → Int} (h : ∀ i, i < n → vn n (g i) ≤ B) : (D n g).natAbs ≤ B ^ n := by
  have h1 := W_le n g B one n h
  rw [nrm_one, Nat.mul_one] at h1
  exact Nat.le_trans (nrm_at n _) h1
end Bal

set_option linter.all false
namespace Bal
/-- a table: its numbers by line and column, the columns that its lines are solved for, its scale -/
structure St where
  T : Nat → Nat → Int
  b : Nat → Nat
  s : Int
section
variable {w nn : Nat} {A : Nat → Nat → Int}
/-- w lines and the last one; columns 0 .. nn - 1, and nn, that of the last line's own -/
structure Good (w nn : Nat) (A : Nat → Nat → Int) (S : St) : Prop where
  det : ∀ i, i < w + 1 → ∀ c, c ≤ nn → S.T i c = D (w + 1) (up (fun j => A (S.b j)) i (A c))
  sc : S.s = D (w + 1) fun j => A (S.b j)
  pos : 0 < S.s
  cram : ∀ c, c ≤ nn → ∀ r, sm (w + 1) (fun i => S.T i c * A (S.b i) r) = S.s * A c r
  bas : ∀ i, i < w → S.b i < nn
  last : S.b w = nn
theorem Good.bas' {S : St} (G : Good w nn A S) {i : Nat} (hi : i < w + 1) : S.b i ≤ nn := by
  by_cases h : i = w
  · subst h; rw [G.last]; exact Nat.le_refl _
  · exact Nat.le_of_lt (G.bas i (by omega))
theorem Good.inj {S : St} (G : Good w nn A S) {i j : Nat} (hi : i < w + 1) (hj : j < w + 1) (h : S.b i = S.b j) : i = j := by
  refine Classical.byContradiction fun hij => ?_
  have := D_eq (g := fun j => A (S.b j)) hi hj hij (by rw [h])
  have p := G.pos
  rw [G.sc, this] at p
  omega
theorem Good.unit {S : St} (G : Good w nn A S) {i j : Nat} (hi : i < w + 1) (hj : j < w + 1) : S.T i (S.b j) = if i = j then S.s else 0 := by
  rw [G.det i hi _ (G.bas' hj)]
  by_cases h : i = j
  · subst h
    rw [if_pos rfl, G.sc]
    exact congrArg (D (w + 1)) (up_id (fun j => A (S.b j)) i)
  · rw [if_neg h]
    exact D_eq hi hj h (by rw [up_same, up_ne _ _ (Ne.symm h)])
def nxt (S : St) (l c : Nat) : St := ⟨fun i k => if i = l then S.T l k else (S.T l c * S.T i k - S.T i c * S.T l k) / S.s, up S.b l c, S.T l c⟩
theorem vecs_up (A : Nat → Nat → Int) (b : Nat → Nat) (l c : Nat) : (fun j => A (up b l c j)) = up (fun j => A (b j)) l (A c) := by
  funext j
  by_cases h : j = l
  · subst h; simp [up_same]
  · simp [up_ne, h]
theorem exact_at {S : St} (G : Good w nn A S) {l c i k : Nat} (hl : l < w + 1) (hc : c ≤ nn) (hi : i < w + 1) (hil : i ≠ l) (hk : k ≤ nn) :
    S.T l c * S.T i k - S.T i c * S.T l k = S.s * D (w + 1) (up (fun j => A (up S.b l c j)) i (A k)) := by
  rw [vecs_up]
  generalize hG : up (fun j => A (S.b j)) l (A c) = H
  have e0 := D_lin (g := H) S.s 0 (A k) (A k) hi
  simp only [Int.zero_mul, Int.add_zero] at e0
  rw [← e0]
  have ev : (fun r => S.s * A k r) = fun r => sm (w + 1) fun j => S.T j k * A (S.b j) r := funext fun r => (G.cram k hk r).symm
  rw [ev, D_sum hi (fun j => S.T j k) (fun j => A (S.b j)) (w + 1)]
  rw [sm_two (k := i) (l := l) hi hl hil fun j hj h1 h2 => ?_]
  · have ti : D (w + 1) (up H i (A (S.b i))) = S.T l c := by
      have : up H i (A (S.b i)) = H := by
        rw [← hG]
        have := up_id (up (fun j => A (S.b j)) l (A c)) i
        rw [up_ne _ _ hil] at this
        exact this
      rw [this, ← hG, G.det l hl c hc]
    have tl : D (w + 1) (up H i (A (S.b l))) = - S.T i c := by
      rw [← hG, D_swap (A c) (A (S.b l)) hl hi (Ne.symm hil)]
      have : up (fun j => A (S.b j)) l (A (S.b l)) = fun j => A (S.b j) := up_id (fun j => A (S.b j)) l
      rw [this, G.det i hi c hc]
    rw [ti, tl]
    grind
  · have : D (w + 1) (up H i (A (S.b j))) = 0 := D_eq hi hj (Ne.symm h1) (by rw [up_same, up_ne _ _ h1, ← hG, up_ne _ _ h2])
    rw [this, Int.mul_zero]
theorem nxt_det {S : St} (G : Good w nn A S) {l c : Nat} (hl : l < w) (hc : c < nn) {i k : Nat} (hi : i < w + 1) (hk : k ≤ nn) : (nxt S l c).T i k = D (w + 1) (up (fun j => A ((nxt S l c).b j)) i (A k)) := by
  show (if i = l then S.T l k else (S.T l c * S.T i k - S.T i c * S.T l k) / S.s) = D (w + 1) (up (fun j => A (up S.b l c j)) i (A k))
  by_cases h : i = l
  · subst h
    rw [if_pos rfl, vecs_up, up_up, G.det i hi k hk]
  · rw [if_neg h, exact_at G (by omega) (by omega) hi h hk, Int.mul_ediv_cancel_left _ (by have := G.pos; omega)]
theorem nxt_times {S : St} (G : Good w nn A S) {l c : Nat} (hl : l < w) (hc : c < nn) {i k : Nat} (hi : i < w + 1) (hil : i ≠ l) (hk : k ≤ nn) : S.s * (nxt S l c).T i k = S.T l c * S.T i k - S.T i c * S.T l k := by
  rw [exact_at G (by omega) (by omega) hi hil hk, nxt_det G hl hc hi hk]
  rfl
theorem Good.next {S : St} (G : Good w nn A S) {l c : Nat} (hl : l < w) (hc : c < nn) (hp : 0 < S.T l c) : Good w nn A (nxt S l c) where
  det := fun i hi k hk => nxt_det G hl hc hi hk
  sc := by
    show S.T l c = D (w + 1) fun j => A (up S.b l c j)
    rw [vecs_up, G.det l (by omega) c (by omega)]
  pos := hp
  cram := fun k hk r => by
    have hs := G.pos
    refine Int.eq_of_mul_eq_mul_left (a := S.s) (by omega) ?_
    rw [← sm_mul]
    have e : sm (w + 1) (fun i => S.s * ((nxt S l c).T i k * A ((nxt S l c).b i) r)) =
        sm (w + 1) (fun i => (S.T l c * (S.T i k * A (S.b i) r) + (- S.T l k) * (S.T i c * A (S.b i) r)) + if i = l then S.s * S.T l k * A c r else 0) := sm_congr fun i hi => by
      by_cases h : i = l
      · subst h
        rw [if_pos rfl]
        show S.s * ((if i = i then S.T i k else _) * A (up S.b i c i) r) = _
        rw [if_pos rfl, up_same]
        grind
      · rw [if_neg h]
        show S.s * ((nxt S l c).T i k * A (up S.b l c i) r) = _
        rw [up_ne _ _ h, ← Int.mul_assoc, nxt_times G hl hc hi h hk]
        grind
    rw [e, sm_add, sm_lin, G.cram k hk r, G.cram c (by omega) r, sm_one (k := l) (by omega) fun i _ h => if_neg h, if_pos rfl]
    show _ = S.s * (S.T l c * A k r)
    grind
  bas := fun i hi => by
    show up S.b l c i < nn
    by_cases h : i = l
    · subst h; rw [up_same]; exact hc
    · rw [up_ne _ _ h]; exact G.bas i hi
  last := by
    show up S.b l c w = nn
    rw [up_ne _ _ (by omega)]
    exact G.last
/-- lines by their numbers at the columns of the units -/
theorem Good.row {S : St} (G : Good w nn A S) {u : Nat → Nat} (hu : ∀ r, r < w + 1 → u r ≤ nn ∧ A (u r) = un r) (h0 : ∀ c r, w + 1 ≤ r → A c r = 0) {i c : Nat} (hi : i < w + 1) (hc : c ≤ nn) :
    S.T i c = sm (w + 1) fun r => A c r * S.T i (u r) := by
  rw [G.det i hi c hc]
  have ev : A c = fun r => sm (w + 1) fun k => A c k * un k r := funext fun r => by
    by_cases hr : r < w + 1
    · rw [sm_one (k := r) hr fun k _ h => by simp [un, Ne.symm h]]; simp [un]
    · rw [h0 c r (by omega), sm_zero fun k hk => by have : r ≠ k := by omega
                                                    simp [un, this]]
  conv => lhs; rw [ev]
  rw [D_sum hi (fun k => A c k) un (w + 1)]
  exact sm_congr fun k hk => by rw [G.det i hi _ (hu k hk).1, (hu k hk).2]
/-! ### Bland: no end of steps there is not -/
/-- the column c comes in, the line l goes out -/
structure Piv (w nn : Nat) (S : St) (l c : Nat) : Prop where
  cn : c < nn
  up : 0 < S.T w c
  fst : ∀ k, k < c → S.T w k ≤ 0
  lw : l < w
  lead : 0 < S.T l c
  least : ∀ i, i < w → 0 < S.T i c → S.b l ≤ S.b i
def Ba (w : Nat) (S : St) (c : Nat) : Prop := ∃ j, j < w ∧ S.b j = c
theorem Piv.out {S : St} {l c : Nat} (G : Good w nn A S) (P : Piv w nn S l c) : ¬ Ba w S c := fun ⟨j, hj, e⟩ => by
  have := G.unit (i := w) (j := j) (by omega) (by omega)
  rw [e, if_neg (by omega)] at this
  have := P.up
  omega
theorem ba_next {S : St} {l c k : Nat} (G : Good w nn A S) (hl : l < w) : Ba w (nxt S l c) k ↔ k = c ∨ (Ba w S k ∧ k ≠ S.b l) := by
  constructor
  · rintro ⟨j, hj, e⟩
    have e : up S.b l c j = k := e
    by_cases h : j = l
    · subst h; rw [up_same] at e; exact .inl e.symm
    · rw [up_ne _ _ h] at e
      refine .inr ⟨⟨j, hj, e⟩, fun z => h (G.inj (by omega) (by omega) (e.trans z))⟩
  · rintro (rfl | ⟨⟨j, hj, e⟩, hn⟩)
    · exact ⟨l, hl, up_same _ _ _⟩
    · have h : j ≠ l := fun z => hn (by rw [← z, e])
      exact ⟨j, hj, by show up S.b l c j = k; rw [up_ne _ _ h]; exact e⟩
/-- t can't come in at one step and go out at another one, if nothing beyond t changes between -/
theorem no_both {S S2 : St} {l c l2 t : Nat} (G : Good w nn A S) (G2 : Good w nn A S2) (P : Piv w nn S l c) (P2 : Piv w nn S2 l2 t) (ht : S.b l = t) (hct : c ≤ t) (hsame : ∀ r, t < r → (Ba w S r ↔ Ba w S2 r)) : False := by
  have hcn : c ≠ t := fun z => P.out G ⟨l, P.lw, by rw [ht, z]⟩
  have tn : t < nn := P2.cn
  -- the direction of c in S, told by the last line of S2
  have key : S.s * S2.T w c - sm w (fun i => S.T i c * S2.T w (S.b i)) = S.T w c * S2.s := by
    have e1 : (fun r => S.s * A c r) = fun r => sm (w + 1) fun i => S.T i c * A (S.b i) r := funext fun r => (G.cram c (by have := P.cn; omega) r).symm
    have e2 : D (w + 1) (up (fun j => A (S2.b j)) w fun r => S.s * A c r) = S.s * S2.T w c := by
      have := D_lin (g := fun j => A (S2.b j)) S.s 0 (A c) (A c) (show w < w + 1 by omega)
      simp only [Int.zero_mul, Int.add_zero] at this
      rw [this, G2.det w (by omega) c (by have := P.cn; omega)]
    rw [e1, D_sum (by omega) (fun i => S.T i c) (fun i => A (S.b i)) (w + 1)] at e2
    have e3 : sm (w + 1) (fun i => S.T i c * D (w + 1) (up (fun j => A (S2.b j)) w (A (S.b i)))) = sm (w + 1) fun i => S.T i c * S2.T w (S.b i) := sm_congr fun i hi => by
      rw [G2.det w (by omega) _ (G.bas' hi)]
    rw [e3] at e2
    have e4 : S2.T w (S.b w) = S2.s := by
      rw [G.last, ← G2.last, G2.unit (by omega) (by omega), if_pos rfl]
    have e5 : sm (w + 1) (fun i => S.T i c * S2.T w (S.b i)) = sm w (fun i => S.T i c * S2.T w (S.b i)) + S.T w c * S2.T w (S.b w) := rfl
    rw [e5, e4] at e2
    omega
  have h1 : 0 < S.T w c * S2.s := Int.mul_pos P.up G2.pos
  have h2 : S.s * S2.T w c ≤ 0 := Int.mul_nonpos_of_nonneg_of_nonpos (Int.le_of_lt G.pos) (P2.fst c (by omega))
  obtain ⟨i, hi, hneg⟩ := sm_neg_ex (f := fun i => S.T i c * S2.T w (S.b i)) (n := w) (by omega)
  have hneg : S.T i c * S2.T w (S.b i) < 0 := hneg
  have hne : S2.T w (S.b i) ≠ 0 := fun z => by rw [z, Int.mul_zero] at hneg; omega
  have hout : ¬ Ba w S2 (S.b i) := fun ⟨j, hj, e⟩ => by
    have := G2.unit (i := w) (j := j) (by omega) (by omega)
    rw [e, if_neg (by omega)] at this
    exact hne this
  have hle : S.b i ≤ t := Nat.le_of_not_lt fun z => hout ((hsame _ z).mp ⟨i, hi, rfl⟩)
  by_cases e : S.b i = t
  · have : i = l := G.inj (by omega) (by have := P.lw; omega) (e.trans ht.symm)
    subst this
    rw [e] at hneg
    have := Int.mul_pos P.lead P2.up
    omega
  · have hlt : S.b i < t := by omega
    have h3 := P2.fst _ hlt
    have h4 : 0 < S.T i c := by
      refine Classical.byContradiction fun z => ?_
      have := Int.mul_nonneg_of_nonpos_of_nonpos (Int.not_lt.mp z) h3
      omega
    have := P.least i hi h4
    omega
/-- a row of steps -/
structure Run (w nn : Nat) (A : Nat → Nat → Int) (S : Nat → St) (l c : Nat → Nat) (a L k : Nat) : Prop where
  good : ∀ i, a ≤ i → i ≤ a + L → Good w nn A (S i)
  piv : ∀ i, a ≤ i → i < a + L → Piv w nn (S i) (l i) (c i)
  next : ∀ i, a ≤ i → i < a + L → S (i + 1) = nxt (S i) (l i) (c i)
  below : ∀ i, a ≤ i → i < a + L → c i < k ∧ (S i).b (l i) < k
section
variable {S : Nat → St} {l c : Nat → Nat} {a L k : Nat}
theorem Run.sub (R : Run w nn A S l c a L k) {a' L' : Nat} (h1 : a ≤ a') (h2 : a' + L' ≤ a + L) : Run w nn A S l c a' L' k :=
  ⟨fun i x y => R.good i (by omega) (by omega), fun i x y => R.piv i (by omega) (by omega), fun i x y => R.next i (by omega) (by omega), fun i x y => R.below i (by omega) (by omega)⟩
theorem Run.step (R : Run w nn A S l c a L k) {i : Nat} (h1 : a ≤ i) (h2 : i < a + L) (r : Nat) : Ba w (S (i + 1)) r ↔ r = c i ∨ (Ba w (S i) r ∧ r ≠ (S i).b (l i)) := by
  rw [R.next i h1 h2]
  exact ba_next (R.good i h1 (by omega)) (R.piv i h1 h2).lw
/-- what is beyond k stays -/
theorem Run.far (R : Run w nn A S l c a L k) {r : Nat} (hr : k ≤ r) : ∀ (d i : Nat), a ≤ i → i + d ≤ a + L → (Ba w (S i) r ↔ Ba w (S (i + d)) r)
  | 0, i, _, _ => Iff.rfl
  | d + 1, i, h1, h2 => by
    have h := Run.far R hr d i h1 (by omega)
    have hs := R.step (i := i + d) (by omega) (by omega) r
    have hb := R.below (i + d) (by omega) (by omega)
    rw [h, show i + (d + 1) = i + d + 1 by omega, hs]
    constructor
    · exact fun q => .inr ⟨q, by omega⟩
    · rintro (q | q)
      · omega
      · exact q.1
theorem Run.far' (R : Run w nn A S l c a L k) {r : Nat} (hr : k ≤ r) {i j : Nat} (hi : a ≤ i) (hj : a ≤ j) (hi2 : i ≤ a + L) (hj2 : j ≤ a + L) : Ba w (S i) r ↔ Ba w (S j) r := by
  rcases Nat.le_total i j with h | h
  · have := R.far hr (j - i) i hi (by omega)
    rwa [show i + (j - i) = j by omega] at this
  · have := R.far hr (i - j) j hj (by omega)
    rw [show j + (i - j) = i by omega] at this
    exact this.symm
/-- between a place where r is in and a later one where it isn't, it goes out -/
theorem Run.goes_out (R : Run w nn A S l c a L k) {r : Nat} : ∀ (d i : Nat), a ≤ i → i + d ≤ a + L → Ba w (S i) r → ¬ Ba w (S (i + d)) r → ∃ j, i ≤ j ∧ j < i + d ∧ (S j).b (l j) = r
  | 0, i, _, _, h, hn => absurd h hn
  | d + 1, i, h1, h2, h, hn => by
    by_cases q : Ba w (S (i + d)) r
    · refine ⟨i + d, by omega, by omega, ?_⟩
      refine Classical.byContradiction fun z => hn ?_
      rw [show i + (d + 1) = i + d + 1 by omega, R.step (by omega) (by omega)]
      exact .inr ⟨q, fun e => z e.symm⟩
    · obtain ⟨j, x, y, e⟩ := Run.goes_out R d i h1 (by omega) h q
      exact ⟨j, x, by omega, e⟩
theorem Run.comes_in (R : Run w nn A S l c a L k) {r : Nat} : ∀ (d i : Nat), a ≤ i → i + d ≤ a + L → ¬ Ba w (S i) r → Ba w (S (i + d)) r → ∃ j, i ≤ j ∧ j < i + d ∧ c j = r
  | 0, i, _, _, h, hn => absurd hn h
  | d + 1, i, h1, h2, h, hn => by
    by_cases q : Ba w (S (i + d)) r
    · obtain ⟨j, x, y, e⟩ := Run.comes_in R d i h1 (by omega) h q
      exact ⟨j, x, by omega, e⟩
    · refine ⟨i + d, by omega, by omega, ?_⟩
      rw [show i + (d + 1) = i + d + 1 by omega, R.step (by omega) (by omega)] at hn
      rcases hn with e | e
      · exact e.symm
      · exact absurd e.1 q
theorem Run.not_both (R : Run w nn A S l c a L (k + 1)) {i j : Nat} (hi : a ≤ i) (hj : a ≤ j) (hi2 : i < a + L) (hj2 : j < a + L) (ho : (S i).b (l i) = k) (hin : c j = k) : False := by
  refine no_both (R.good i hi (by omega)) (R.good j hj (by omega)) (R.piv i hi hi2) (hin ▸ R.piv j hj hj2) ho (by have := (R.below i hi hi2).1; omega) fun r hr => R.far' (by omega) hi hj (by omega) (by omega)
/-- at most one step of such a row touches k -/
theorem Run.once (R : Run w nn A S l c a L (k + 1)) {i j : Nat} (hi : a ≤ i) (hij : i < j) (hj2 : j < a + L) (h1 : c i = k ∨ (S i).b (l i) = k) (h2 : c j = k ∨ (S j).b (l j) = k) : False := by
  rcases h1 with h1 | h1
  · rcases h2 with h2 | h2
    · have b1 : Ba w (S (i + 1)) k := (R.step hi (by omega) k).mpr (.inl h1.symm)
      have b2 : ¬ Ba w (S j) k := fun z => (R.piv j (by omega) hj2).out (R.good j (by omega) (by omega)) (h2 ▸ z)
      obtain ⟨m, x, y, e⟩ := R.goes_out (j - (i + 1)) (i + 1) (by omega) (by omega) b1 (by rw [show i + 1 + (j - (i + 1)) = j by omega]; exact b2)
      exact R.not_both (i := m) (j := i) (by omega) hi (by omega) (by omega) e h1
    · exact R.not_both (i := j) (j := i) (by omega) hi hj2 (by omega) h2 h1
  · rcases h2 with h2 | h2
    · exact R.not_both (i := i) (j := j) hi (by omega) (by omega) hj2 h1 h2
    · have b1 : ¬ Ba w (S (i + 1)) k := fun z => by
        rcases (R.step hi (by omega) k).mp z with e | e
        · have := (R.piv i hi (by omega)).out (R.good i hi (by omega))
          exact this ⟨l i, (R.piv i hi (by omega)).lw, by rw [h1, e]⟩
        · exact e.2 h1.symm
      have b2 : Ba w (S j) k := ⟨l j, (R.piv j (by omega) hj2).lw, h2⟩
      obtain ⟨m, x, y, e⟩ := R.comes_in (j - (i + 1)) (i + 1) (by omega) (by omega) b1 (by rw [show i + 1 + (j - (i + 1)) = j by omega]; exact b2)
      exact R.not_both (i := i) (j := m) hi (by omega) (by omega) (by omega) h1 e
end
theorem Run.few {S : Nat → St} {l c : Nat → Nat} : ∀ (k a L : Nat), Run w nn A S l c a L k → L < 2 ^ k
  | 0, a, L, R => by
    refine Classical.byContradiction fun z => ?_
    have := R.below a (Nat.le_refl _) (by omega)
    omega
  | k + 1, a, L, R => by
    by_cases h : ∃ i, a ≤ i ∧ i < a + L ∧ (c i = k ∨ (S i).b (l i) = k)
    · obtain ⟨i, h1, h2, h3⟩ := h
      have lower : ∀ a' L', a ≤ a' → a' + L' ≤ a + L → (∀ j, a' ≤ j → j < a' + L' → j ≠ i) → Run w nn A S l c a' L' k := fun a' L' x y hne => by
        have R' := R.sub x y
        refine ⟨R'.good, R'.piv, R'.next, fun j u v => ?_⟩
        have hb := R'.below j u v
        have hn := hne j u v
        have no : ¬ (c j = k ∨ (S j).b (l j) = k) := fun q => by
          rcases Nat.lt_or_gt_of_ne hn with z | z
          · exact R.once (by omega) z (by omega) q h3
          · exact R.once (by omega) z (by omega) h3 q
        refine ⟨?_, ?_⟩
        · have : c j ≠ k := fun z => no (.inl z)
          omega
        · have : (S j).b (l j) ≠ k := fun z => no (.inr z)
          omega
      have e1 := Run.few k a (i - a) (lower a (i - a) (by omega) (by omega) fun j u v => by omega)
      have e2 := Run.few k (i + 1) (a + L - (i + 1)) (lower (i + 1) (a + L - (i + 1)) (by omega) (by omega) fun j u v => by omega)
      rw [Nat.pow_succ]
      omega
    · have e := Run.few k a L ⟨R.good, R.piv, R.next, fun j u v => by
        have hb := R.below j u v
        refine ⟨?_, ?_⟩
        · have : c j ≠ k := fun z => h ⟨j, u, v, .inl z⟩
          omega
        · have : (S j).b (l j) ≠ k := fun z => h ⟨j, u, v, .inr z⟩
          omega⟩
      rw [Nat.pow_succ]
      omega
end
end Bal

set_option linter.all false
namespace Bal
/-! ### the columns of losses: L k j, what mood j loses by rule k -/
section
variable {m w : Nat} {L : Nat → Nat → Int}
/-- the columns: rules, units, the last line's own -/
def col (m w : Nat) (L : Nat → Nat → Int) (c : Nat) : Nat → Int := fun r =>
  if c < m then (if r < w then L c r else if r = w then 1 else 0) else if c ≤ m + w then un (c - m) r else 0
theorem col_unit {k : Nat} (h : k ≤ w) : col m w L (m + k) = un k := by
  funext r
  unfold col
  rw [if_neg (by omega), if_pos (by omega), Nat.add_sub_cancel_left]
theorem col_out (c r : Nat) (h : w + 1 ≤ r) : col m w L c r = 0 := by
  unfold col
  split
  · rw [if_neg (by omega), if_neg (by omega)]
  · split
    · unfold un; rw [if_neg (by omega)]
    · rfl
theorem col_rule {c r : Nat} (hc : c < m) (hr : r < w) : col m w L c r = L c r := by
  unfold col
  rw [if_pos hc, if_pos hr]
theorem col_last {c : Nat} (hc : c < m) : col m w L c w = 1 := by
  unfold col
  rw [if_pos hc, if_neg (by omega), if_pos rfl]
def init (m w : Nat) (L : Nat → Nat → Int) : St := ⟨fun i c => col m w L c i, fun i => m + i, 1⟩
theorem col_abs {c B : Nat} (hB : 1 ≤ B) (h : ∀ k, k < m → vn w (L k) + 1 ≤ B) : vn (w + 1) (col m w L c) ≤ B := by
  have vu : ∀ n k, vn n (un k) ≤ 1 := fun n k => by
    have z : ∀ n, n ≤ k → vn n (un k) = 0 := fun n => by
      induction n with
      | zero => intro _; rfl
      | succ n ih => intro hn; unfold vn; rw [ih (by omega)]; have : un k n = 0 := by simp [un]; omega
                     rw [this]; rfl
    induction n with
    | zero => exact Nat.zero_le _
    | succ n ih =>
      unfold vn
      by_cases e : n = k
      · subst e; rw [z n (Nat.le_refl _)]; simp [un]
      · have : un k n = 0 := by simp [un, e]
        rw [this]; simpa using ih
  have vc : ∀ n (u v : Nat → Int), (∀ r, r < n → u r = v r) → vn n u = vn n v := fun n u v => by
    induction n with
    | zero => intro _; rfl
    | succ n ih => intro h; unfold vn; rw [ih fun r hr => h r (by omega), h n (by omega)]
  by_cases hc : c < m
  · have h1 := h c hc
    unfold vn
    rw [vc w _ (L c) fun r hr => col_rule hc hr, col_last hc]
    exact h1
  · by_cases h2 : c ≤ m + w
    · have : col m w L c = un (c - m) := by funext r; unfold col; rw [if_neg hc, if_pos h2]
      rw [this]
      exact Nat.le_trans (vu _ _) hB
    · have : col m w L c = fun _ => 0 := by funext r; unfold col; rw [if_neg hc, if_neg h2]
      rw [this]
      have z : ∀ n, vn n (fun _ => 0) = 0 := fun n => by induction n with | zero => rfl | succ n ih => simp [vn, ih]
      rw [z]; omega
/-- no number of such tables is great -/
theorem Good.le {S : St} (G : Good w (m + w) (col m w L) S) {B : Nat} (hB : 1 ≤ B) (h : ∀ k, k < m → vn w (L k) + 1 ≤ B) {i c : Nat} (hi : i < w + 1) (hc : c ≤ m + w) : (S.T i c).natAbs ≤ B ^ (w + 1) := by
  rw [G.det i hi c hc]
  refine D_le fun j hj => ?_
  by_cases e : j = i
  · subst e; rw [up_same]; exact col_abs hB h
  · rw [up_ne _ _ e]; exact col_abs hB h
/-- no column comes in: weights -/
theorem Good.weights {S : St} (G : Good w (m + w) (col m w L) S) (h : ∀ c, c < m + w → S.T w c ≤ 0) {k : Nat} (hk : k < m) : 0 < sm w fun j => - S.T w (m + j) * L k j := by
  have e := G.row (u := fun r => m + r) (fun r hr => ⟨by omega, col_unit (by omega)⟩) (fun c r => col_out c r) (i := w) (c := k) (by omega) (by omega)
  have h1 := h k (by omega)
  have e2 : sm (w + 1) (fun r => col m w L k r * S.T w (m + r)) = sm w (fun r => col m w L k r * S.T w (m + r)) + col m w L k w * S.T w (m + w) := rfl
  have e3 : S.T w (m + w) = S.s := by
    have := G.unit (i := w) (j := w) (by omega) (by omega)
    rwa [G.last, if_pos rfl] at this
  rw [e2, col_last hk, e3] at e
  have e4 : sm w (fun j => - S.T w (m + j) * L k j) = (-1) * sm w fun r => col m w L k r * S.T w (m + r) := by
    rw [← sm_mul]
    exact sm_congr fun r hr => by rw [col_rule hk hr]; grind
  have := G.pos
  rw [e4]
  omega
end
end Bal

set_option linter.all false
namespace Bal
/-! ### the steps as they are chosen -/
def colR (w nn : Nat) (S : St) : Option Nat := (List.range nn).find? fun c => decide (0 < S.T w c)
/-- one turn of the choice of a line -/
def lineT (S : St) (c : Nat) (best : Option Nat) (i : Nat) : Option Nat := if 0 < S.T i c ∧ (∀ b, best = some b → S.b i < S.b b) then some i else best
def lineR (S : St) (c : Nat) : Nat → Option Nat
  | 0 => none
  | n + 1 => lineT S c (lineR S c n) n
/-- a step, where there is one -/
def stepS (w nn : Nat) (S : St) : Option St := match colR w nn S with
  | none => none
  | some c => match lineR S c w with
    | none => none
    | some l => some (nxt S l c)
/-- a row of steps from S on -/
def seqS (w nn : Nat) (S0 : St) : Nat → St
  | 0 => S0
  | i + 1 => match stepS w nn (seqS w nn S0 i) with
    | none => seqS w nn S0 i
    | some S2 => S2
section
variable {m w : Nat} {L : Nat → Nat → Int}
/-- where the steps end -/
def fin (m w : Nat) (L : Nat → Nat → Int) : St := seqS w (m + w) (init m w L) (2 ^ (m + w))
end
end Bal

set_option linter.all false
namespace Bal
/-! ### forms of units and differences of units are at most one: small weights -/
section
variable {n : Nat} {g g' : Nat → Nat → Int}
/-- the place a is taken -/
def hs : Nat → Nat → List Bool → Bool
  | 0, _, _ => false
  | _ + 1, _, [] => false
  | n + 1, a, b :: S => if a = n then b else hs n a S
theorem wed_row0 : ∀ (n a : Nat) (v : Nat → Int) (ω : List Bool → Int), v a = 0 → (∀ S, hs n a S = true → ω S = 0) → ∀ S, hs n a S = true → wed n v ω S = 0
  | 0, _, _, _, _, _, S, h => by cases h
  | n + 1, a, v, ω, hv, hω, [], h => by cases h
  | n + 1, a, v, ω, hv, hω, false :: S, h => by
    have h : (if a = n then false else hs n a S) = true := h
    by_cases e : a = n
    · rw [if_pos e] at h; cases h
    · rw [if_neg e] at h
      exact wed_row0 n a v _ hv (fun S' h' => hω (false :: S') (by show (if a = n then false else hs n a S') = true; rw [if_neg e]; exact h')) S h
  | n + 1, a, v, ω, hv, hω, true :: S, h => by
    have h : (if a = n then true else hs n a S) = true := h
    show v n * ω (false :: S) - wed n v (fun S => ω (true :: S)) S = 0
    by_cases e : a = n
    · subst e
      have z : (fun S => ω (true :: S)) = fun _ => 0 := funext fun S' => hω (true :: S') (by show (if a = a then true else hs a a S') = true; rw [if_pos rfl])
      rw [hv, z, wed_0]
      simp
    · rw [if_neg e] at h
      rw [hω (false :: S) (by show (if a = n then false else hs n a S) = true; rw [if_neg e]; exact h), wed_row0 n a v _ hv (fun S' h' => hω (true :: S') (by show (if a = n then true else hs n a S') = true; rw [if_neg e]; exact h')) S h]
      simp
theorem hs_any : ∀ (n a : Nat) (S : List Bool), hs n a S = true → S.any id = true
  | 0, _, _, h => by cases h
  | _ + 1, _, [], h => by cases h
  | n + 1, a, b :: S, h => by
    have h : (if a = n then b else hs n a S) = true := h
    by_cases e : a = n
    · rw [if_pos e] at h; subst h; rfl
    · rw [if_neg e] at h
      rw [List.any_cons, hs_any n a S h, Bool.or_true]
theorem hs_full : ∀ (n a : Nat), a < n → hs n a (full n) = true
  | 0, _, h => absurd h (Nat.not_lt_zero _)
  | n + 1, a, h => by
    show (if a = n then true else hs n a (full n)) = true
    by_cases e : a = n
    · rw [if_pos e]
    · rw [if_neg e]
      exact hs_full n a (by omega)
/-- a line of nothing -/
theorem D_row0 {a : Nat} (ha : a < n) (h : ∀ i, i < n → g i a = 0) : D n g = 0 := by
  have key : ∀ k, k ≤ n → ∀ S, hs n a S = true → W n g one k S = 0 := by
    intro k
    induction k with
    | zero =>
      intro _ S hS
      show one S = 0
      unfold one
      rw [if_pos (hs_any n a S hS)]
    | succ k ih =>
      intro hk S hS
      exact wed_row0 n a (g k) (W n g one k) (h k (by omega)) (ih (by omega)) S hS
  exact key n (Nat.le_refl _) _ (hs_full n a ha)
theorem D_addmul {i j : Nat} (hi : i < n) (hj : j < n) (hij : i ≠ j) (x : Int) : D n (up g j fun r => g j r + x * g i r) = D n g := by
  have h1 := D_lin (g := g) 1 x (g j) (g i) hj
  have h2 : D n (up g j (g i)) = 0 := D_eq hi hj hij (by rw [up_ne _ _ hij, up_same])
  have h3 : up g j (g j) = g := up_id g j
  rw [h2, h3] at h1
  simpa using h1
/-- a column, times numbers, to the others -/
theorem D_shift {i : Nat} (hi : i < n) (t : Nat → Int) : D n (fun j => if j = i then g i else fun r => g j r + t j * g i r) = D n g := by
  have key : ∀ k, k ≤ n → D n (fun j => if j < k ∧ j ≠ i then fun r => g j r + t j * g i r else g j) = D n g := by
    intro k
    induction k with
    | zero =>
      intro _
      exact D_congr fun j _ => by rw [if_neg (by omega)]
    | succ k ih =>
      intro hk
      rw [← ih (by omega)]
      by_cases e : k = i
      · exact D_congr fun j _ => by
          by_cases q : j < k ∧ j ≠ i
          · rw [if_pos q, if_pos ⟨by omega, q.2⟩]
          · rw [if_neg q, if_neg (by omega)]
      · have h1 := D_addmul (g := fun j => if j < k ∧ j ≠ i then fun r => g j r + t j * g i r else g j) hi (show k < n by omega) (Ne.symm e) (t k)
        rw [← h1]
        refine D_congr fun j _ => ?_
        by_cases q : j = k
        · subst q
          rw [up_same, if_pos ⟨by omega, e⟩]
          funext r
          simp
        · rw [up_ne _ _ q]
          by_cases q2 : j < k ∧ j ≠ i
          · rw [if_pos q2, if_pos ⟨by omega, q2.2⟩]
          · rw [if_neg q2, if_neg (by omega)]
  rw [← key n (Nat.le_refl _)]
  refine D_congr fun j hj => ?_
  by_cases e : j = i
  · rw [if_pos e, if_neg (by omega), e]
  · rw [if_neg e, if_pos ⟨hj, e⟩]
/-! #### units, differences -/
abbrev Cd := Nat × Option Nat
def vec (c : Cd) : Nat → Int := fun r => un c.1 r - match c.2 with
  | some b => un b r
  | none => 0
def sb (a b x : Nat) : Nat := if x = a then b else x
def sbC (a b : Nat) (c : Cd) : Cd := (sb a b c.1, c.2.map (sb a b))
def cfC (a : Nat) (c : Cd) : Int := (if c.1 = a then 1 else 0) - match c.2 with
  | some y => if y = a then 1 else 0
  | none => 0
theorem un_sb (a b x r : Nat) : un (sb a b x) r = un x r + (if x = a then 1 else 0) * -(un a r - un b r) := by
  unfold sb
  by_cases h : x = a
  · subst h
    rw [if_pos rfl, if_pos rfl]
    omega
  · rw [if_neg h, if_neg h]
    omega
theorem vec_sb (a b : Nat) (c : Cd) : vec (sbC a b c) = fun r => vec c r + -cfC a c * vec (a, some b) r := by
  funext r
  obtain ⟨x, y⟩ := c
  cases y with
  | none =>
    have h := un_sb a b x r
    simp only [vec, sbC, cfC, Option.map]
    rw [h]
    grind
  | some y =>
    have h := un_sb a b x r
    have h2 := un_sb a b y r
    simp only [vec, sbC, cfC, Option.map]
    rw [h, h2]
    grind
theorem countP_lt' {α : Type} {p q : α → Bool} : ∀ {l : List α} {x : α}, x ∈ l → (∀ a, p a = true → q a = true) → q x = true → p x = false → l.countP p < l.countP q
  | a :: l, x, hx, h, hq, hp => by
    have mono : ∀ l : List α, l.countP p ≤ l.countP q := fun l => List.countP_mono_left fun a _ => h a
    rcases List.mem_cons.mp hx with rfl | z
    · rw [List.countP_cons_of_neg (by rw [hp]; decide), List.countP_cons_of_pos hq]
      have := mono l
      omega
    · have ih := countP_lt' z h hq hp
      by_cases ha : p a = true
      · rw [List.countP_cons_of_pos ha, List.countP_cons_of_pos (h a ha)]; omega
      · rw [List.countP_cons_of_neg ha]
        have : l.countP q ≤ (a :: l).countP q := by
          rw [List.countP_cons]; omega
        omega
theorem vn_un : ∀ (n a : Nat), vn n (un a) ≤ 1 ∧ (n ≤ a → vn n (un a) = 0)
  | 0, a => ⟨by simp [vn], fun _ => rfl⟩
  | n + 1, a => by
    obtain ⟨h1, h2⟩ := vn_un n a
    have e : vn (n + 1) (un a) = vn n (un a) + (un a n).natAbs := rfl
    rw [e]
    by_cases q : n = a
    · have := h2 (by omega)
      have e2 : un a n = 1 := by simp [un, q]
      rw [this, e2]
      exact ⟨by decide, fun z => by omega⟩
    · have e2 : un a n = 0 := by simp [un, q]
      rw [e2]
      exact ⟨by simpa using h1, fun z => by simpa using h2 (by omega)⟩
theorem D_tu : ∀ (k : Nat) (c : Nat → Cd), (∀ i, i < n → (c i).1 < n ∧ ∀ b, (c i).2 = some b → b < n) → ((List.range n).countP fun i => (c i).2.isSome) ≤ k → (D n fun i => vec (c i)).natAbs ≤ 1 := by
  intro k
  induction k with
  | zero =>
    intro c hc h0
    have h : ∀ i, i < n → (c i).2 = none := fun i hi => by
      have := List.countP_eq_zero.mp (Nat.le_zero.mp h0) i (List.mem_range.mpr hi)
      simpa using this
    have := D_le (n := n) (B := 1) (g := fun i => vec (c i)) fun i hi => by
      have e : vec (c i) = un (c i).1 := by
        funext r
        unfold vec
        rw [h i hi]
        simp
      rw [e]
      exact (vn_un n _).1
    rwa [Nat.one_pow] at this
  | succ k ih =>
    intro c hc h0
    by_cases hex : ∃ i b, i < n ∧ (c i).2 = some b
    · obtain ⟨i, b, hi, hb⟩ := hex
      have ha := (hc i hi).1
      have hbn := (hc i hi).2 b hb
      have ei : c i = ((c i).1, some b) := by rw [← hb]
      generalize haa : (c i).1 = a at ha ei
      by_cases hab : a = b
      · have z : (fun j => vec (c j)) = up (fun j => vec (c j)) i fun _ => 0 := by
          funext j
          by_cases q : j = i
          · subst q
            rw [up_same, ei, hab]
            funext r
            simp [vec]
          · rw [up_ne _ _ q]
        rw [z, D_zero hi]
        decide
      · -- the others are freed of a
        have e1 := D_shift (g := fun j => vec (c j)) hi fun j => -cfC a (c j)
        rw [← e1]
        have e2 : D n (fun j => if j = i then vec (c i) else fun r => vec (c j) r + -cfC a (c j) * vec (c i) r) = D n (up (fun j => if j = i then un a else vec (sbC a b (c j))) i fun r => 1 * un a r + (-1) * un b r) := D_congr fun j _ => by
          by_cases q : j = i
          · subst q
            rw [if_pos rfl, up_same, ei]
            funext r
            simp only [vec]
            omega
          · rw [if_neg q, up_ne _ _ q, if_neg q, ei, vec_sb]
        show (D n (fun j => if j = i then vec (c i) else fun r => vec (c j) r + -cfC a (c j) * vec (c i) r)).natAbs ≤ 1
        rw [e2, D_lin 1 (-1) (un a) (un b) hi]
        have e3 : D n (up (fun j => if j = i then un a else vec (sbC a b (c j))) i (un b)) = 0 := by
          refine D_row0 ha fun j hj => ?_
          by_cases q : j = i
          · subst q
            rw [up_same]
            simp [un, hab]
          · rw [up_ne _ _ q, if_neg q]
            have sa : ∀ x, un (sb a b x) a = 0 := fun x => by
              unfold sb un
              by_cases h : x = a
              · rw [if_pos h, if_neg hab]
              · rw [if_neg h, if_neg (Ne.symm h)]
            unfold vec sbC
            cases hy : (c j).2 with
            | none => simp [sa]
            | some y => simp [sa]
        have e4 : D n (up (fun j => if j = i then un a else vec (sbC a b (c j))) i (un a)) = D n fun j => vec (if j = i then (a, none) else sbC a b (c j)) := D_congr fun j _ => by
          by_cases q : j = i
          · subst q
            rw [up_same, if_pos rfl]
            funext r
            simp [vec]
          · rw [up_ne _ _ q, if_neg q, if_neg q]
        rw [e3, e4]
        have h5 := ih (fun j => if j = i then (a, none) else sbC a b (c j)) (fun j hj => ?_) ?_
        · simpa using h5
        · by_cases q : j = i
          · simp only [if_pos q]
            exact ⟨ha, fun _ z => by cases z⟩
          · simp only [if_neg q]
            obtain ⟨h1, h2⟩ := hc j hj
            refine ⟨?_, fun y hy => ?_⟩
            · show sb a b (c j).1 < n
              unfold sb
              split <;> omega
            · obtain ⟨x, hx, rfl⟩ := Option.map_eq_some_iff.mp hy
              have := h2 x hx
              unfold sb
              split <;> omega
        · have lt := countP_lt' (l := List.range n) (x := i) (p := fun j => (if j = i then (a, none) else sbC a b (c j) : Cd).2.isSome) (q := fun j => (c j).2.isSome) (List.mem_range.mpr hi) (fun j hj => by
            by_cases q : j = i
            · simp only [if_pos q] at hj
              cases hj
            · simp only [if_neg q] at hj
              have : ((c j).2.map (sb a b)).isSome = true := hj
              simpa using this) (by simp [hb]) (by simp)
          omega
    · refine ih c hc ?_
      have : ((List.range n).countP fun i => (c i).2.isSome) = 0 := List.countP_eq_zero.mpr fun i hi => by
        cases h : (c i).2 with
        | none => simp
        | some b => exact absurd ⟨i, b, List.mem_range.mp hi, h⟩ hex
      omega
/-! #### with columns of rules: two differences and the last line's own -/
inductive C2 where
  | pl (c : Cd)
  | ru (p q : Cd)
def C2.ir : C2 → Bool
  | .pl _ => false
  | .ru _ _ => true
def vec2 (w : Nat) : C2 → Nat → Int
  | .pl c => vec c
  | .ru p q => fun r => (vec p r + vec q r) + un w r
def okC (n : Nat) (c : Cd) : Prop := c.1 < n ∧ ∀ b, c.2 = some b → b < n
def okC2 (n : Nat) : C2 → Prop
  | .pl c => okC n c
  | .ru p q => okC n p ∧ okC n q
theorem okC.mono {m : Nat} {c : Cd} (h : okC m c) (hm : m ≤ n) : okC n c := ⟨Nat.lt_of_lt_of_le h.1 hm, fun b hb => Nat.lt_of_lt_of_le (h.2 b hb) hm⟩
theorem cnt_up {c : Nat → C2} {i : Nat} {x : C2} (hi : i < n) (h1 : (c i).ir = true) (h2 : x.ir = false) : ((List.range n).countP fun j => (up c i x j).ir) < (List.range n).countP fun j => (c j).ir :=
  countP_lt' (x := i) (List.mem_range.mpr hi) (fun j hj => by
    by_cases q : j = i
    · subst q; exact h1
    · rw [up_ne _ _ q] at hj; exact hj) h1 (by rw [up_same]; exact h2)
theorem split_ru {w : Nat} {c : Nat → C2} {i : Nat} {p q : Cd} (hi : i < n) (e : c i = .ru p q) : D n (fun j => vec2 w (c j)) = D n (fun j => vec2 w (up c i (.pl p) j)) + D n (fun j => vec2 w (up c i (.pl q) j)) + D n (fun j => vec2 w (up c i (.pl (w, none)) j)) := by
  have key : ∀ x : C2, D n (fun j => vec2 w (up c i x j)) = D n (up (fun j => vec2 w (c j)) i (vec2 w x)) := fun x => D_congr fun j _ => by
    by_cases q : j = i
    · subst q; rw [up_same, up_same]
    · rw [up_ne _ _ q, up_ne _ _ q]
  rw [key, key, key]
  have e1 : (fun j => vec2 w (c j)) = up (fun j => vec2 w (c j)) i fun r => (vec p r + vec q r) + un w r := by
    funext j
    by_cases z : j = i
    · subst z; rw [up_same, e]; rfl
    · rw [up_ne _ _ z]
  conv => lhs; rw [e1]
  rw [D_add (fun r => vec p r + vec q r) (un w) hi, D_add (vec p) (vec q) hi]
  have e2 : vec2 w (.pl (w, none)) = un w := by
    funext r
    simp [vec2, vec]
  rw [e2]
  rfl
theorem no_ru {c : Nat → C2} (h : ∀ i, i < n → ok = ok ∧ okC2 n (c i)) (h0 : ((List.range n).countP fun j => (c j).ir) = 0) {w : Nat} : (D n fun j => vec2 w (c j)).natAbs ≤ 1 := by
  have hp : ∀ i, i < n → ∃ x, c i = .pl x := fun i hi => by
    have := List.countP_eq_zero.mp h0 i (List.mem_range.mpr hi)
    cases e : c i with
    | pl x => exact ⟨x, rfl⟩
    | ru p q => rw [e] at this; exact absurd rfl this
  have e : D n (fun j => vec2 w (c j)) = D n fun j => vec (match c j with | .pl x => x | .ru p _ => p) := D_congr fun j hj => by
    obtain ⟨x, hx⟩ := hp j hj
    rw [hx]
    rfl
  rw [e]
  refine D_tu n _ (fun i hi => ?_) (by
    have := List.countP_le_length (p := fun i => (match c i with | .pl x => x | .ru p _ => p).2.isSome) (l := List.range n)
    rwa [List.length_range] at this)
  obtain ⟨x, hx⟩ := hp i hi
  have := (h i hi).2
  rw [hx] at this ⊢
  exact this
/-- with the last line's own column there -/
theorem D_q {w : Nat} (hw : w < n) {i0 : Nat} (h0 : i0 < n) : ∀ (k : Nat) (c : Nat → C2), (∀ i, i < n → okC2 n (c i)) → c i0 = .pl (w, none) → ((List.range n).countP fun j => (c j).ir) ≤ k → (D n fun j => vec2 w (c j)).natAbs ≤ 2 ^ k
  | 0, c, hc, _, hk => by
    have := no_ru (ok := trivial) (n := n) (c := c) (w := w) (fun i hi => ⟨rfl, hc i hi⟩) (Nat.le_zero.mp hk)
    simpa using this
  | k + 1, c, hc, e0, hk => by
    by_cases hex : ∃ i p q, i < n ∧ c i = .ru p q
    · obtain ⟨i, p, q, hi, e⟩ := hex
      have hne : i ≠ i0 := fun z => by rw [z, e0] at e; cases e
      have ok := hc i hi
      rw [e] at ok
      have hir : (c i).ir = true := by rw [e]; rfl
      rw [split_ru (w := w) hi e]
      have z : D n (fun j => vec2 w (up c i (.pl (w, none)) j)) = 0 := D_eq hi h0 hne (by rw [up_same, up_ne _ _ (Ne.symm hne), e0])
      have h1 := D_q hw h0 k (up c i (.pl p)) (fun j hj => by
        by_cases q : j = i
        · subst q; rw [up_same]; exact ok.1
        · rw [up_ne _ _ q]; exact hc j hj) (by rw [up_ne _ _ (Ne.symm hne)]; exact e0) (by have := cnt_up (c := c) (x := .pl p) hi hir rfl; omega)
      have h2 := D_q hw h0 k (up c i (.pl q)) (fun j hj => by
        by_cases q : j = i
        · subst q; rw [up_same]; exact ok.2
        · rw [up_ne _ _ q]; exact hc j hj) (by rw [up_ne _ _ (Ne.symm hne)]; exact e0) (by have := cnt_up (c := c) (x := .pl q) hi hir rfl; omega)
      rw [z, Nat.pow_succ]
      omega
    · have : ((List.range n).countP fun j => (c j).ir) = 0 := List.countP_eq_zero.mpr fun i hi => by
        cases h : c i with
        | pl x => simp [C2.ir]
        | ru p q => exact absurd ⟨i, p, q, List.mem_range.mp hi, h⟩ hex
      have h1 := no_ru (ok := trivial) (n := n) (c := c) (w := w) (fun i hi => ⟨rfl, hc i hi⟩) this
      have := Nat.one_le_two_pow (n := k + 1)
      omega
def pb : Nat → Nat
  | 0 => 0
  | k + 1 => 2 * pb k + 2 ^ k
/-- with nothing in the last line but by rules -/
theorem D_p {w : Nat} (hn : n = w + 1) : ∀ (k : Nat) (c : Nat → C2), (∀ i, i < n → okC2 w (c i)) → ((List.range n).countP fun j => (c j).ir) ≤ k → (D n fun j => vec2 w (c j)).natAbs ≤ pb k := by
  intro k
  induction k with
  | zero =>
    intro c hc hk
    have hp : ∀ i, i < n → ∃ x, c i = .pl x := fun i hi => by
      have := List.countP_eq_zero.mp (Nat.le_zero.mp hk) i (List.mem_range.mpr hi)
      cases e : c i with
      | pl x => exact ⟨x, rfl⟩
      | ru p q => rw [e] at this; exact absurd rfl this
    rw [D_row0 (a := w) (by omega) fun i hi => by
      obtain ⟨⟨x, y⟩, hx⟩ := hp i hi
      have ok := hc i hi
      rw [hx] at ok ⊢
      obtain ⟨o1, o2⟩ := ok
      have o1 : x < w := o1
      have u1 : un x w = 0 := by simp [un]; omega
      cases y with
      | none => simp [vec2, vec, u1]
      | some y =>
        have := o2 y rfl
        have u2 : un y w = 0 := by simp [un]; omega
        simp [vec2, vec, u1, u2]]
    decide
  | succ k ih =>
    intro c hc hk
    by_cases hex : ∃ i p q, i < n ∧ c i = .ru p q
    · obtain ⟨i, p, q, hi, e⟩ := hex
      have ok := hc i hi
      rw [e] at ok
      have hir : (c i).ir = true := by rw [e]; rfl
      rw [split_ru (w := w) hi e]
      have h1 := ih (up c i (.pl p)) (fun j hj => by
        by_cases q : j = i
        · subst q; rw [up_same]; exact ok.1
        · rw [up_ne _ _ q]; exact hc j hj) (by have := cnt_up (c := c) (x := .pl p) hi hir rfl; omega)
      have h2 := ih (up c i (.pl q)) (fun j hj => by
        by_cases q : j = i
        · subst q; rw [up_same]; exact ok.2
        · rw [up_ne _ _ q]; exact hc j hj) (by have := cnt_up (c := c) (x := .pl q) hi hir rfl; omega)
      have h3 := D_q (n := n) (w := w) (by omega) hi k (up c i (.pl (w, none))) (fun j hj => by
        by_cases q : j = i
        · subst q; rw [up_same]; exact ⟨by show w < n; omega, fun _ z => by cases z⟩
        · rw [up_ne _ _ q]
          have := hc j hj
          cases h : c j with
          | pl x => rw [h] at this; exact okC.mono this (by omega)
          | ru p q => rw [h] at this; exact ⟨okC.mono this.1 (by omega), okC.mono this.2 (by omega)⟩) (up_same _ _ _) (by have := cnt_up (c := c) (x := .pl (w, none)) hi hir rfl; omega)
      show _ ≤ 2 * pb k + 2 ^ k
      omega
    · refine Nat.le_trans (ih c hc ?_) (show pb k ≤ 2 * pb k + 2 ^ k from Nat.le_trans (by omega : pb k ≤ 2 * pb k) (Nat.le_add_right _ _))
      have : ((List.range n).countP fun j => (c j).ir) = 0 := List.countP_eq_zero.mpr fun i hi => by
        cases h : c i with
        | pl x => simp [C2.ir]
        | ru p q => exact absurd ⟨i, p, q, List.mem_range.mp hi, h⟩ hex
      omega
end
/-! #### the weights of a table are small -/
section
variable {m w : Nat} {L : Nat → Nat → Int}
theorem Good.small {S : St} (G : Good w (m + w) (col m w L) S) (hw : w ≤ 6) (h0 : ∀ k, k < m → sm w (L k) = 0) (hL : ∀ k, k < m → ∃ p q : Cd, okC w p ∧ okC w q ∧ ∀ r, r < w → L k r = vec p r + vec q r) {j : Nat} (hj : j < w) : (S.T w (m + j)).natAbs ≤ 80 := by
  -- not all columns are rules
  have some_unit : ∃ i, i < w ∧ ¬ S.b i < m := by
    refine Classical.byContradiction fun hno => ?_
    have all : ∀ i, i < w → S.b i < m := fun i hi => Classical.byContradiction fun z => hno ⟨i, hi, z⟩
    have e : sm w (fun r => sm w fun i => S.T i (m + j) * col m w L (S.b i) r) = S.s * sm w (col m w L (m + j)) := by
      rw [← sm_mul]
      refine sm_congr fun r hr => ?_
      have e1 := G.cram (m + j) (by omega) r
      have e2 : sm (w + 1) (fun i => S.T i (m + j) * col m w L (S.b i) r) = sm w (fun i => S.T i (m + j) * col m w L (S.b i) r) + S.T w (m + j) * col m w L (S.b w) r := rfl
      have e3 : col m w L (S.b w) r = 0 := by rw [G.last, col_unit (Nat.le_refl w)]; simp [un]; omega
      rw [e2, e3, Int.mul_zero, Int.add_zero] at e1
      exact e1
    rw [sm_swap (fun i r => S.T i (m + j) * col m w L (S.b i) r) w w] at e
    have e2 : sm w (fun i => sm w fun r => S.T i (m + j) * col m w L (S.b i) r) = 0 := sm_zero fun i hi => by
      rw [sm_mul, sm_congr fun r hr => col_rule (all i hi) hr, h0 _ (all i hi), Int.mul_zero]
    have e3 : sm w (col m w L (m + j)) = 1 := by
      rw [col_unit (by omega), sm_one (k := j) hj fun i _ e => by simp [un, e]]
      simp [un]
    rw [e2, e3] at e
    have := G.pos
    omega
  -- the columns, told
  let c : Nat → C2 := fun i => if i = w then .pl (j, none) else if h : S.b i < m then .ru (hL _ h).choose (hL _ h).choose_spec.choose else .pl (S.b i - m, none)
  have ec : S.T w (m + j) = D (w + 1) fun i => vec2 w (c i) := by
    rw [G.det w (by omega) _ (by omega)]
    refine D_congr fun i hi => ?_
    by_cases q : i = w
    · subst q
      rw [up_same, col_unit (by omega)]
      show _ = vec2 i (if i = i then _ else _)
      rw [if_pos rfl]
      funext r
      simp [vec2, vec]
    · rw [up_ne _ _ q]
      show _ = vec2 w (if i = w then _ else _)
      rw [if_neg q]
      by_cases h : S.b i < m
      · rw [dif_pos h]
        obtain ⟨o1, o2, o3⟩ := (hL _ h).choose_spec.choose_spec
        generalize (hL _ h).choose_spec.choose = y at o1 o2 o3
        generalize (hL _ h).choose = x at o1 o2 o3
        have out : ∀ {x : Cd}, okC w x → ∀ r, w ≤ r → vec x r = 0 := fun {x} o r hr => by
          obtain ⟨x, z⟩ := x
          obtain ⟨o1, o2⟩ := o
          have o1 : x < w := o1
          have u1 : un x r = 0 := by simp [un]; omega
          cases z with
          | none => simp [vec, u1]
          | some z =>
            have := o2 z rfl
            have u2 : un z r = 0 := by simp [un]; omega
            simp [vec, u1, u2]
        funext r
        show col m w L (S.b i) r = (vec x r + vec y r) + un w r
        unfold col
        rw [if_pos h]
        by_cases hr : r < w
        · rw [if_pos hr, o3 r hr]
          have : un w r = 0 := by simp [un]; omega
          rw [this]
          omega
        · rw [if_neg hr, out o1 r (by omega), out o2 r (by omega)]
          unfold un
          simp
      · rw [dif_neg h]
        have hb := G.bas i (by omega)
        have : col m w L (S.b i) = un (S.b i - m) := by
          have := col_unit (m := m) (w := w) (L := L) (k := S.b i - m) (by omega)
          rwa [show m + (S.b i - m) = S.b i by omega] at this
        show col m w L (S.b i) = _
        rw [this]
        funext r
        simp [vec2, vec]
  have okc : ∀ i, i < w + 1 → okC2 w (c i) := fun i hi => by
    by_cases q : i = w
    · show okC2 w (if i = w then _ else _)
      rw [if_pos q]
      exact ⟨hj, fun _ z => by cases z⟩
    · show okC2 w (if i = w then _ else _)
      rw [if_neg q]
      by_cases h : S.b i < m
      · rw [dif_pos h]
        obtain ⟨o1, o2, o3⟩ := (hL _ h).choose_spec.choose_spec
        exact ⟨o1, o2⟩
      · rw [dif_neg h]
        have hb := G.bas i (by omega)
        exact ⟨by show S.b i - m < w; omega, fun _ z => by cases z⟩
  obtain ⟨i1, hi1, hu1⟩ := some_unit
  have cnt : ((List.range (w + 1)).countP fun i => (c i).ir) ≤ 5 := by
    have e1 : ((List.range (w + 1)).countP fun i => (c i).ir) = (List.range w).countP fun i => (c i).ir := by
      have : (c w).ir = false := by
        show (if w = w then C2.pl (j, none) else _).ir = false
        rw [if_pos rfl]
        rfl
      rw [List.range_succ, List.countP_append, List.countP_cons_of_neg (by rw [this]; decide)]
      simp
    have e2 := countP_lt' (l := List.range w) (x := i1) (p := fun i => (c i).ir) (q := fun _ => true) (List.mem_range.mpr hi1) (fun _ _ => rfl) rfl (by
      show (if i1 = w then C2.pl (j, none) else _).ir = false
      rw [if_neg (by omega), dif_neg hu1]
      rfl)
    have e3 := List.countP_le_length (p := fun _ => true) (l := List.range w)
    rw [List.length_range] at e3
    omega
  rw [ec]
  exact D_p rfl 5 c okc cnt
end
end Bal

set_option Elab.async false
set_option linter.all false
set_option maxRecDepth 100000
set_option maxHeartbeats 4000000
namespace KK
open PySem PySem.Spec PyProof.Rows L2 Pd
/-! ### what each def does -/
noncomputable abbrev fs_is_pair : FS := (sRet (eAnd (eIsi ["tuple"] (eVar 0)) (eBin pEq (eB qLen (aCons (eVar 0) aNil)) (eC (.int 2)))))
noncomputable def F_is_pair : List W → Sto → R W := runD 1 fs_is_pair
noncomputable abbrev be_are_moods_1 : FE := (eChain pLe pLe (eC (.str "a")) (eVar 2) (eC (.str "z")))
noncomputable abbrev be_are_moods_2 : FE := (eBin pLt (eBin pIx (eVar 0) (eVar 1)) (eBin pIx (eVar 0) (eBin pPlus (eVar 1) (eC (.int 1)))))
noncomputable abbrev bs_are_moods_3 : FS := (sRet (eQ true [1] (iRg1 (aCons (eBin pSub (eB qLen (aCons (eVar 0) aNil)) (eC (.int 1))) aNil)) (gN 1) be_are_moods_2))
noncomputable abbrev bs_are_moods_4 : FS := (sSeq (sIf (Pd.tNot (tV (eQ true [2] (iSeq (eVar 0)) (gN 2) be_are_moods_1))) (sRet (eC (.bool false))) sNil) bs_are_moods_3)
noncomputable abbrev fs_are_moods : FS := (sSeq (sIf (Pd.tOr (Pd.tNot (tV (eIsi ["str"] (eVar 0)))) (Pd.tNot (tV (eChain pLe pLe (eC (.int 1)) (eB qLen (aCons (eVar 0) aNil)) (eC (.int (6))))))) (sRet (eC (.bool false))) sNil) bs_are_moods_4)
noncomputable def F_are_moods : List W → Sto → R W := runD 3 fs_are_moods
noncomputable abbrev bs_are_two_1 : FS := (sRet (eAnd (eBin (pIn true) (eBin pIx (eVar 1) (eC (.int 0))) (eVar 0)) (eAnd (eBin (pIn true) (eBin pIx (eVar 1) (eC (.int 1))) (eVar 0)) (eBin pLe (eBin pIx (eVar 1) (eC (.int 0))) (eBin pIx (eVar 1) (eC (.int 1)))))))
noncomputable abbrev fs_are_two : FS := (sSeq (sIf (Pd.tOr (Pd.tNot (tV (eIsi ["str"] (eVar 1)))) (tV (eBin pNe (eB qLen (aCons (eVar 1) aNil)) (eC (.int 2))))) (sRet (eC (.bool false))) sNil) bs_are_two_1)
noncomputable def F_are_two : List W → Sto → R W := runD 2 fs_are_two
noncomputable abbrev bs_is_rule_1 : FS := (sRet (eAnd (eCall 2 F_are_two (aCons (eVar 0) (aCons (eBin pIx (eVar 1) (eC (.int 0))) aNil))) (eAnd (eCall 2 F_are_two (aCons (eVar 0) (aCons (eBin pIx (eVar 1) (eC (.int 1))) aNil))) (eBin pNe (eBin pIx (eVar 1) (eC (.int 0))) (eBin pIx (eVar 1) (eC (.int 1)))))))
noncomputable abbrev fs_is_rule : FS := (sSeq (sIf (Pd.tNot (tV (eCall 1 F_is_pair (aCons (eVar 1) aNil)))) (sRet (eC (.bool false))) sNil) bs_is_rule_1)
noncomputable def F_is_rule : List W → Sto → R W := runD 2 fs_is_rule
noncomputable abbrev be_are_rules_1 : FE := (eCall 2 F_is_rule (aCons (eVar 0) (aCons (eVar 2) aNil)))
noncomputable abbrev bs_are_rules_2 : FS := (sRet (eAnd (eQ true [2] (iSeq (eVar 1)) (gN 2) be_are_rules_1) (eBin pEq (eLenSet (eVar 1)) (eB qLen (aCons (eVar 1) aNil)))))
noncomputable abbrev fs_are_rules : FS := (sSeq (sIf (Pd.tOr (Pd.tNot (tV (eIsi ["tuple"] (eVar 1)))) (tV (eBin pGt (eB qLen (aCons (eVar 1) aNil)) (eC (.int (12)))))) (sRet (eC (.bool false))) sNil) bs_are_rules_2)
noncomputable def F_are_rules : List W → Sto → R W := runD 3 fs_are_rules
noncomputable abbrev fs_is_folk : FS := (sRet (eAnd (eCall 1 F_is_pair (aCons (eVar 0) aNil)) (eAnd (eCall 1 F_are_moods (aCons (eBin pIx (eVar 0) (eC (.int 0))) aNil)) (eCall 2 F_are_rules (aCons (eBin pIx (eVar 0) (eC (.int 0))) (aCons (eBin pIx (eVar 0) (eC (.int 1))) aNil))))))
noncomputable def F_is_folk : List W → Sto → R W := runD 1 fs_is_folk
noncomputable abbrev fs_demand_folk : FS := (sIf (Pd.tNot (tV (eCall 1 F_is_folk (aCons (eVar 0) aNil)))) (sRaise "BadFolk") sNil)
noncomputable def F_demand_folk : List W → Sto → R W := runD 1 fs_demand_folk
noncomputable abbrev fs_is_integer : FS := (sRet (eAnd (eIsi ["int"] (eVar 0)) (eNot (eIsi ["bool"] (eVar 0)))))
noncomputable def F_is_integer : List W → Sto → R W := runD 1 fs_is_integer
noncomputable abbrev be_is_crowd_1 : FE := (eAnd (eCall 1 F_is_integer (aCons (eVar 2) aNil)) (eChain pLe pLe (eC (.int 0)) (eVar 2) (eC (.int (10000000000000000000000000000000000000000)))))
noncomputable abbrev bs_is_crowd_2 : FS := (sRet (eQ true [2] (iSeq (eVar 1)) (gN 2) be_is_crowd_1))
noncomputable abbrev fs_is_crowd : FS := (sSeq (sIf (Pd.tOr (Pd.tNot (tV (eIsi ["tuple"] (eVar 1)))) (tV (eBin pNe (eB qLen (aCons (eVar 1) aNil)) (eB qLen (aCons (eBin pIx (eVar 0) (eC (.int 0))) aNil))))) (sRet (eC (.bool false))) sNil) bs_is_crowd_2)
noncomputable def F_is_crowd : List W → Sto → R W := runD 3 fs_is_crowd
noncomputable abbrev fs_demand_crowd : FS := (sIf (Pd.tNot (tV (eCall 2 F_is_crowd (aCons (eVar 0) (aCons (eVar 1) aNil))))) (sRaise "BadCrowd") sNil)
noncomputable def F_demand_crowd : List W → Sto → R W := runD 2 fs_demand_crowd
noncomputable abbrev bs_Desk___init___1 : FS := (sFldS "Desk" "done" (eVar 0) (eLstM aNil))
noncomputable abbrev bs_Desk___init___2 : FS := (sSeq (sFldS "Desk" "here" (eVar 0) (eVar 2)) bs_Desk___init___1)
noncomputable abbrev bs_Desk___init___3 : FS := (sSeq (sFldS "Desk" "folk" (eVar 0) (eVar 1)) bs_Desk___init___2)
noncomputable abbrev bs_Desk___init___4 : FS := (sSeq (sExpr (eCall 2 F_demand_crowd (aCons (eVar 1) (aCons (eVar 2) aNil)))) bs_Desk___init___3)
noncomputable abbrev fs_Desk___init__ : FS := (sSeq (sExpr (eCall 1 F_demand_folk (aCons (eVar 1) aNil))) bs_Desk___init___4)
noncomputable def F_Desk___init__ : List W → Sto → R W := runK 3 fs_Desk___init__
noncomputable abbrev be_demand_room_1 : FE := (eBin pGt (eVar 1) (eC (.int (10000000000000000000000000000000000000000))))
noncomputable abbrev fs_demand_room : FS := (sIf (tV (eQ false [1] (iSeq (eVar 0)) (gN 1) be_demand_room_1)) (sRaise "TooGreat") sNil)
noncomputable def F_demand_room : List W → Sto → R W := runD 2 fs_demand_room
noncomputable abbrev be_numbers_of_1 : FE := (eMs qCount (eVar 1) (eVar 2))
noncomputable abbrev fs_numbers_of : FS := (sRet (eB qTup (aCons (eLc [2] (iSeq (eVar 0)) (gN 2) fYes be_numbers_of_1) aNil)))
noncomputable def F_numbers_of : List W → Sto → R W := runD 3 fs_numbers_of
noncomputable abbrev be_can_be_used_1 : FE := (eBin pGe (eVar 4) (eVar 5))
noncomputable abbrev bs_can_be_used_2 : FS := (sRet (eQ true [4, 5] (iZ2 (aCons (eVar 1) (aCons (eVar 3) aNil))) (gT 2 (gsCons (gN 4) (gsCons (gN 5) gsNil))) be_can_be_used_1))
noncomputable abbrev bs_can_be_used_3 : FS := (sSeq (sSet 3 (eCall 2 F_numbers_of (aCons (eBin pIx (eVar 0) (eC (.int 0))) (aCons (eBin pIx (eVar 2) (eC (.int 0))) aNil)))) bs_can_be_used_2)
noncomputable abbrev fs_can_be_used : FS := (sSeq (sIf (tV (eBin (pIn false) (eVar 2) (eBin pIx (eVar 0) (eC (.int 1))))) (sRet (eC (.bool false))) sNil) bs_can_be_used_3)
noncomputable def F_can_be_used : List W → Sto → R W := runD 6 fs_can_be_used
noncomputable abbrev be_behind_rule_1 : FE := (eBin pPlus (eBin pSub (eVar 5) (eVar 6)) (eVar 7))
noncomputable abbrev bs_behind_rule_2 : FS := (sRet (eB qTup (aCons (eLc [5, 6, 7] (iZ3 (aCons (eVar 1) (aCons (eVar 3) (aCons (eVar 4) aNil)))) (gT 3 (gsCons (gN 5) (gsCons (gN 6) (gsCons (gN 7) gsNil)))) fYes be_behind_rule_1) aNil)))
noncomputable abbrev bs_behind_rule_3 : FS := (sSeq (sSet 4 (eCall 2 F_numbers_of (aCons (eBin pIx (eVar 0) (eC (.int 0))) (aCons (eBin pIx (eVar 2) (eC (.int 1))) aNil)))) bs_behind_rule_2)
noncomputable abbrev fs_behind_rule : FS := (sSeq (sSet 3 (eCall 2 F_numbers_of (aCons (eBin pIx (eVar 0) (eC (.int 0))) (aCons (eBin pIx (eVar 2) (eC (.int 0))) aNil)))) bs_behind_rule_3)
noncomputable def F_behind_rule : List W → Sto → R W := runD 8 fs_behind_rule
noncomputable abbrev bs_met_1 : FS := (sRet (eVar 3))
noncomputable abbrev bs_met_2 : FS := (sSeq (sExpr (eCall 1 F_demand_room (aCons (eVar 3) aNil))) bs_met_1)
noncomputable abbrev bs_met_3 : FS := (sSeq (sSet 3 (eCall 3 F_behind_rule (aCons (eVar 0) (aCons (eVar 1) (aCons (eVar 2) aNil))))) bs_met_2)
noncomputable abbrev bs_met_4 : FS := (sSeq (sIf (Pd.tNot (tV (eCall 3 F_can_be_used (aCons (eVar 0) (aCons (eVar 1) (aCons (eVar 2) aNil)))))) (sRaise "BadRule") sNil) bs_met_3)
noncomputable abbrev bs_met_5 : FS := (sSeq (sExpr (eCall 2 F_demand_crowd (aCons (eVar 0) (aCons (eVar 1) aNil)))) bs_met_4)
noncomputable abbrev fs_met : FS := (sSeq (sExpr (eCall 1 F_demand_folk (aCons (eVar 0) aNil))) bs_met_5)
noncomputable def F_met : List W → Sto → R W := runD 4 fs_met
noncomputable abbrev bs_Desk__turn_1 : FS := (sFldS "Desk" "here" (eVar 0) (eVar 2))
noncomputable abbrev fs_Desk__turn : FS := (sSeq (sExpr (eMl qApp (eFld "Desk" "done" (eVar 0)) (aCons (eTup (aCons (eVar 1) (aCons (eFld "Desk" "here" (eVar 0)) aNil))) aNil))) bs_Desk__turn_1)
noncomputable def F_Desk__turn : List W → Sto → R W := runD 3 fs_Desk__turn
noncomputable abbrev bs_Desk_meet_1 : FS := (sExpr (eMeth "Desk" "_turn" 3 F_Desk__turn (eVar 0) (aCons (eTup (aCons (eC (.str "meet")) (aCons (eVar 1) aNil))) (aCons (eVar 2) aNil))))
noncomputable abbrev fs_Desk_meet : FS := (sSeq (sSet 2 (eCall 3 F_met (aCons (eFld "Desk" "folk" (eVar 0)) (aCons (eFld "Desk" "here" (eVar 0)) (aCons (eVar 1) aNil))))) bs_Desk_meet_1)
noncomputable def F_Desk_meet : List W → Sto → R W := runD 3 fs_Desk_meet
noncomputable abbrev be_with_more_1 : FE := (eBin pPlus (eVar 3) (eBin pMul (eVar 2) (eVar 4)))
noncomputable abbrev fs_with_more : FS := (sRet (eB qTup (aCons (eLc [3, 4] (iZ2 (aCons (eVar 0) (aCons (eVar 1) aNil))) (gT 2 (gsCons (gN 3) (gsCons (gN 4) gsNil))) fYes be_with_more_1) aNil)))
noncomputable def F_with_more : List W → Sto → R W := runD 5 fs_with_more
noncomputable abbrev bs_Desk_join_1 : FS := (sExpr (eMeth "Desk" "_turn" 3 F_Desk__turn (eVar 0) (aCons (eTup (aCons (eC (.str "join")) (aCons (eVar 1) aNil))) (aCons (eVar 2) aNil))))
noncomputable abbrev bs_Desk_join_2 : FS := (sSeq (sExpr (eCall 1 F_demand_room (aCons (eVar 2) aNil))) bs_Desk_join_1)
noncomputable abbrev bs_Desk_join_3 : FS := (sSeq (sSet 2 (eCall 3 F_with_more (aCons (eFld "Desk" "here" (eVar 0)) (aCons (eVar 1) (aCons (eC (.int 1)) aNil))))) bs_Desk_join_2)
noncomputable abbrev fs_Desk_join : FS := (sSeq (sExpr (eCall 2 F_demand_crowd (aCons (eFld "Desk" "folk" (eVar 0)) (aCons (eVar 1) aNil)))) bs_Desk_join_3)
noncomputable def F_Desk_join : List W → Sto → R W := runD 3 fs_Desk_join
noncomputable abbrev fs_is_mood : FS := (sRet (eAnd (eIsi ["str"] (eVar 1)) (eAnd (eBin pEq (eB qLen (aCons (eVar 1) aNil)) (eC (.int 1))) (eBin (pIn true) (eVar 1) (eVar 0)))))
noncomputable def F_is_mood : List W → Sto → R W := runD 2 fs_is_mood
noncomputable abbrev fs_demand_mood : FS := (sIf (Pd.tNot (tV (eCall 2 F_is_mood (aCons (eBin pIx (eVar 0) (eC (.int 0))) (aCons (eVar 1) aNil))))) (sRaise "NoMood") sNil)
noncomputable def F_demand_mood : List W → Sto → R W := runD 2 fs_demand_mood
noncomputable abbrev be_Desk_leave_1 : FE := (eIf (tV (eBin pEq (eVar 4) (eVar 1))) (eC (.int 1)) (eC (.int 0)))
noncomputable abbrev bs_Desk_leave_2 : FS := (sExpr (eMeth "Desk" "_turn" 3 F_Desk__turn (eVar 0) (aCons (eTup (aCons (eC (.str "leave")) (aCons (eVar 1) aNil))) (aCons (eVar 3) aNil))))
noncomputable abbrev bs_Desk_leave_3 : FS := (sSeq (sIf (tV (eBin pLt (eB qMin (aCons (eVar 3) aNil)) (eC (.int 0)))) (sRaise "Nobody") sNil) bs_Desk_leave_2)
noncomputable abbrev bs_Desk_leave_4 : FS := (sSeq (sSet 3 (eCall 3 F_with_more (aCons (eFld "Desk" "here" (eVar 0)) (aCons (eVar 2) (aCons (eNeg (eC (.int 1))) aNil))))) bs_Desk_leave_3)
noncomputable abbrev bs_Desk_leave_5 : FS := (sSeq (sSet 2 (eLc [4] (iSeq (eBin pIx (eFld "Desk" "folk" (eVar 0)) (eC (.int 0)))) (gN 4) fYes be_Desk_leave_1)) bs_Desk_leave_4)
noncomputable abbrev fs_Desk_leave : FS := (sSeq (sExpr (eCall 2 F_demand_mood (aCons (eFld "Desk" "folk" (eVar 0)) (aCons (eVar 1) aNil)))) bs_Desk_leave_5)
noncomputable def F_Desk_leave : List W → Sto → R W := runD 5 fs_Desk_leave
noncomputable abbrev bs_Desk_undo_1 : FS := (sUnpF 1 "Desk" "here" 0 (eMl0 qPop (eFld "Desk" "done" (eVar 0))))
noncomputable abbrev fs_Desk_undo : FS := (sSeq (sIf (Pd.tNot (tTru (eFld "Desk" "done" (eVar 0)))) (sRaise "NothingDone") sNil) bs_Desk_undo_1)
noncomputable def F_Desk_undo : List W → Sto → R W := runD 2 fs_Desk_undo
noncomputable abbrev fs_Desk_crowd : FS := (sRet (eFld "Desk" "here" (eVar 0)))
noncomputable def F_Desk_crowd : List W → Sto → R W := runD 1 fs_Desk_crowd
noncomputable abbrev be_Desk_row_1 : FE := (eVar 1)
noncomputable abbrev fs_Desk_row : FS := (sRet (eB qTup (aCons (eLcG finD [1, 2] (iCell (eFld "Desk" "done" (eVar 0))) (gT 2 (gsCons (gN 1) (gsCons (gN 2) gsNil))) fYes be_Desk_row_1) aNil)))
noncomputable def F_Desk_row : List W → Sto → R W := runD 3 fs_Desk_row
noncomputable abbrev bt_meetings_1 : FT := (tV (eCall 3 F_can_be_used (aCons (eVar 0) (aCons (eVar 1) (aCons (eVar 2) aNil)))))
noncomputable abbrev be_meetings_2 : FE := (eVar 2)
noncomputable abbrev bs_meetings_3 : FS := (sRet (eB qTup (aCons (eLc [2] (iSeq (eBin pIx (eVar 0) (eC (.int 1)))) (gN 2) bt_meetings_1 be_meetings_2) aNil)))
noncomputable abbrev bs_meetings_4 : FS := (sSeq (sExpr (eCall 2 F_demand_crowd (aCons (eVar 0) (aCons (eVar 1) aNil)))) bs_meetings_3)
noncomputable abbrev fs_meetings : FS := (sSeq (sExpr (eCall 1 F_demand_folk (aCons (eVar 0) aNil))) bs_meetings_4)
noncomputable def F_meetings : List W → Sto → R W := runD 3 fs_meetings
noncomputable abbrev fs_Desk_is_at_rest : FS := (sRet (eBin pEq (eB qLen (aCons (eCall 2 F_meetings (aCons (eFld "Desk" "folk" (eVar 0)) (aCons (eFld "Desk" "here" (eVar 0)) aNil))) aNil)) (eC (.int 0))))
noncomputable def F_Desk_is_at_rest : List W → Sto → R W := runD 1 fs_Desk_is_at_rest
noncomputable abbrev be_Desk_text_1 : FE := (eFs [(eFmt (eVar 7)), (eC (.str ">")), (eFmt (eVar 8))])
noncomputable abbrev be_Desk_text_2 : FE := (eB qStr (aCons (eVar 5) aNil))
noncomputable abbrev be_Desk_text_3 : FE := (eBin pPlus (eMs qJoin (eC (.str " ")) (eVar 6)) (eC (.str "\n")))
noncomputable abbrev bs_Desk_text_4 : FS := (sRet (eMs qJoin (eC (.str "")) (eLc [6] (iSeq (eTup (aCons (eLst (aCons (eC (.str "moods")) (aCons (eVar 3) aNil))) (aCons (eVar 1) (aCons (eVar 2) aNil))))) (gN 6) fYes be_Desk_text_3)))
noncomputable abbrev bs_Desk_text_5 : FS := (sSeq (sSet 2 (eBin pPlus (eLst (aCons (eC (.str "crowd")) aNil)) (eLc [5] (iSeq (eFld "Desk" "here" (eVar 0))) (gN 5) fYes be_Desk_text_2))) bs_Desk_text_4)
noncomputable abbrev bs_Desk_text_6 : FS := (sSeq (sSet 1 (eBin pPlus (eLst (aCons (eC (.str "rules")) aNil)) (eLc [7, 8] (iSeq (eVar 4)) (gT 2 (gsCons (gN 7) (gsCons (gN 8) gsNil))) fYes be_Desk_text_1))) bs_Desk_text_5)
noncomputable abbrev fs_Desk_text : FS := (sSeq (sAsg (eFld "Desk" "folk" (eVar 0)) (gT 2 (gsCons (gN 3) (gsCons (gN 4) gsNil)))) bs_Desk_text_6)
noncomputable def F_Desk_text : List W → Sto → R W := runD 9 fs_Desk_text
noncomputable abbrev fs_demand_text : FS := (sIf (Pd.tNot (tV (eIsi ["str"] (eVar 0)))) (sRaise "NotText") sNil)
noncomputable def F_demand_text : List W → Sto → R W := runD 1 fs_demand_text
noncomputable abbrev bs_words_behind_1 : FS := (sRet (eSl (eVar 3) (oSome (eC (.int 1))) oNone))
noncomputable abbrev bs_words_behind_2 : FS := (sSeq (sIf (tV (eBin pNe (eBin pIx (eVar 3) (eC (.int 0))) (eVar 2))) (fun _ _ => .bad) sNil) bs_words_behind_1)
noncomputable abbrev bs_words_behind_3 : FS := (sSeq (sSet 3 (eMs qSplit (eBin pIx (eVar 0) (eVar 1)) (eC (.str " ")))) bs_words_behind_2)
noncomputable abbrev fs_words_behind : FS := (sSeq (sIf (tV (eBin pGe (eVar 1) (eBin pSub (eB qLen (aCons (eVar 0) aNil)) (eC (.int 1))))) (fun _ _ => .bad) sNil) bs_words_behind_3)
noncomputable def F_words_behind : List W → Sto → R W := runD 4 fs_words_behind
noncomputable abbrev bs_moods_from_1 : FS := (sRet (eBin pIx (eVar 1) (eC (.int 0))))
noncomputable abbrev bs_moods_from_2 : FS := (sSeq (sIf (Pd.tOr (tV (eBin pNe (eB qLen (aCons (eVar 1) aNil)) (eC (.int 1)))) (Pd.tNot (tV (eCall 1 F_are_moods (aCons (eBin pIx (eVar 1) (eC (.int 0))) aNil))))) (fun _ _ => .bad) sNil) bs_moods_from_1)
noncomputable abbrev fs_moods_from : FS := (sSeq (sSet 1 (eCall 3 F_words_behind (aCons (eVar 0) (aCons (eC (.int (0))) (aCons (eC (.str "moods")) aNil))))) bs_moods_from_2)
noncomputable def F_moods_from : List W → Sto → R W := runD 2 fs_moods_from
noncomputable abbrev be_folk_from_1 : FE := (eTup (aCons (eSl (eVar 4) oNone (oSome (eC (.int 2)))) (aCons (eSl (eVar 4) (oSome (eC (.int 3))) oNone) aNil)))
noncomputable abbrev be_folk_from_2 : FE := (eBin pEq (eSl (eVar 4) (oSome (eC (.int 2))) (oSome (eC (.int 3)))) (eC (.str ">")))
noncomputable abbrev bs_folk_from_3 : FS := (sRet (eVar 3))
noncomputable abbrev bs_folk_from_4 : FS := (sSeq (sIf (Pd.tOr (Pd.tNot (tV (eQ true [4] (iSeq (eVar 2)) (gN 4) be_folk_from_2))) (Pd.tNot (tV (eCall 1 F_is_folk (aCons (eVar 3) aNil))))) (fun _ _ => .bad) sNil) bs_folk_from_3)
noncomputable abbrev bs_folk_from_5 : FS := (sSeq (sSet 3 (eTup (aCons (eVar 1) (aCons (eB qTup (aCons (eLc [4] (iSeq (eVar 2)) (gN 4) fYes be_folk_from_1) aNil)) aNil)))) bs_folk_from_4)
noncomputable abbrev bs_folk_from_6 : FS := (sSeq (sSet 2 (eCall 3 F_words_behind (aCons (eVar 0) (aCons (eC (.int (1))) (aCons (eC (.str "rules")) aNil))))) bs_folk_from_5)
noncomputable abbrev fs_folk_from : FS := (sSeq (sSet 1 (eCall 1 F_moods_from (aCons (eVar 0) aNil))) bs_folk_from_6)
noncomputable def F_folk_from : List W → Sto → R W := runD 5 fs_folk_from
noncomputable abbrev bs_kind_of_1 : FS := (sRet (eIf (tV (eBin (pIn true) (eVar 0) (eC (.str " \n")))) (eC (.str "BLANK")) (eC (.str "SIGN"))))
noncomputable abbrev bs_kind_of_2 : FS := (sSeq (sIf (tV (eChain pLe pLe (eC (.str "0")) (eVar 0) (eC (.str "9")))) (sRet (eC (.str "NUMBER"))) sNil) bs_kind_of_1)
noncomputable abbrev bs_kind_of_3 : FS := (sSeq (sIf (tV (eChain pLe pLe (eC (.str "A")) (eVar 0) (eC (.str "Z")))) (sRet (eC (.str "NAME"))) sNil) bs_kind_of_2)
noncomputable abbrev fs_kind_of : FS := (sSeq (sIf (tV (eChain pLe pLe (eC (.str "a")) (eVar 0) (eC (.str "z")))) (sRet (eC (.str "WORD"))) sNil) bs_kind_of_3)
noncomputable def F_kind_of : List W → Sto → R W := runD 1 fs_kind_of
noncomputable abbrev be_is_number_1 : FE := (eBin pEq (eCall 1 F_kind_of (aCons (eVar 2) aNil)) (eC (.str "NUMBER")))
noncomputable abbrev bs_is_number_2 : FS := (sRet (eOr (eBin pEq (eVar 0) (eC (.str "0"))) (eBin pNe (eBin pIx (eVar 0) (eC (.int 0))) (eC (.str "0")))))
noncomputable abbrev fs_is_number : FS := (sSeq (sIf (Pd.tOr (Pd.tNot (tV (eChain pLe pLe (eC (.int 1)) (eB qLen (aCons (eVar 0) aNil)) (eVar 1)))) (Pd.tNot (tV (eQ true [2] (iSeq (eVar 0)) (gN 2) be_is_number_1)))) (sRet (eC (.bool false))) sNil) bs_is_number_2)
noncomputable def F_is_number : List W → Sto → R W := runD 3 fs_is_number
noncomputable abbrev be_crowd_from_1 : FE := (eCall 2 F_is_number (aCons (eVar 4) (aCons (eC (.int (41))) aNil)))
noncomputable abbrev be_crowd_from_2 : FE := (eB qIntS (aCons (eVar 4) aNil))
noncomputable abbrev bs_crowd_from_3 : FS := (sRet (eVar 3))
noncomputable abbrev bs_crowd_from_4 : FS := (sSeq (sIf (Pd.tNot (tV (eCall 2 F_is_crowd (aCons (eVar 0) (aCons (eVar 3) aNil))))) (fun _ _ => .bad) sNil) bs_crowd_from_3)
noncomputable abbrev bs_crowd_from_5 : FS := (sSeq (sSet 3 (eB qTup (aCons (eLc [4] (iSeq (eVar 2)) (gN 4) fYes be_crowd_from_2) aNil))) bs_crowd_from_4)
noncomputable abbrev bs_crowd_from_6 : FS := (sSeq (sIf (Pd.tNot (tV (eQ true [4] (iSeq (eVar 2)) (gN 4) be_crowd_from_1))) (fun _ _ => .bad) sNil) bs_crowd_from_5)
noncomputable abbrev fs_crowd_from : FS := (sSeq (sSet 2 (eCall 3 F_words_behind (aCons (eVar 1) (aCons (eC (.int (2))) (aCons (eC (.str "crowd")) aNil))))) bs_crowd_from_6)
noncomputable def F_crowd_from : List W → Sto → R W := runD 5 fs_crowd_from
noncomputable abbrev fs_demand_no_more : FS := (sIf (tV (eBin pNe (eSl (eVar 0) (oSome (eC (.int (3)))) oNone) (eLst (aCons (eC (.str "")) aNil)))) (fun _ _ => .bad) sNil)
noncomputable def F_demand_no_more : List W → Sto → R W := runD 1 fs_demand_no_more
noncomputable abbrev bs_desk_of_1 : FS := (sRet (eMake "Desk" 3 F_Desk___init__ (aCons (eVar 2) (aCons (eVar 3) aNil))))
noncomputable abbrev bs_desk_of_2 : FS := (sSeq (sExpr (eCall 1 F_demand_no_more (aCons (eVar 1) aNil))) bs_desk_of_1)
noncomputable abbrev bs_desk_of_3 : FS := (sSeq (sSet 3 (eCall 2 F_crowd_from (aCons (eVar 2) (aCons (eVar 1) aNil)))) bs_desk_of_2)
noncomputable abbrev bs_desk_of_4 : FS := (sSeq (sSet 2 (eCall 1 F_folk_from (aCons (eVar 1) aNil))) bs_desk_of_3)
noncomputable abbrev bs_desk_of_5 : FS := (sSeq (sSet 1 (eMs qSplit (eVar 0) (eC (.str "\n")))) bs_desk_of_4)
noncomputable abbrev fs_desk_of : FS := (sSeq (sExpr (eCall 1 F_demand_text (aCons (eVar 0) aNil))) bs_desk_of_5)
noncomputable def F_desk_of : List W → Sto → R W := runK 4 fs_desk_of
noncomputable abbrev bs__law_taken_1 : FS := (sRet (eVar 3))
noncomputable abbrev bs__law_taken_2 : FS := (sSeq (sPut (eVar 0) (eC (.int 3)) (eBin pDiv (eBin pIx (eVar 0) (eC (.int 3))) (eVar 1))) bs__law_taken_1)
noncomputable abbrev bs__law_taken_3 : FS := (sSeq (sSet 3 (eBin pMod (eB qInt (aCons (eBin pIx (eVar 0) (eC (.int 3))) aNil)) (eVar 1))) bs__law_taken_2)
noncomputable abbrev bs__law_taken_4 : FS := (sRet (eBin pMod (eB qInt (aCons (eBin pDiv (eBin pIx (eVar 0) (eC (.int 2))) (eC (.int 7))) aNil)) (eVar 1)))
noncomputable abbrev bs__law_taken_5 : FS := (sSeq (sPut (eVar 0) (eC (.int 2)) (eBin pMod (eB qInt (aCons (eBin pPlus (eBin pMul (eBin pIx (eVar 0) (eC (.int 2))) (eC (.int 48271))) (eC (.int 11))) aNil)) (eC (.int 2147483647)))) bs__law_taken_4)
noncomputable abbrev bs__law_taken_6 : FS := (sRet (eBin pMod (eB qInt (aCons (eVar 2) aNil)) (eVar 1)))
noncomputable abbrev bs__law_taken_7 : FS := (sSeq (sIf (tV (eBin pGe (eVar 2) (eBin pPow (eC (.int 10)) (eC (.int 18))))) (sPut (eVar 0) (eC (.int 3)) (eBin pDiv (eVar 2) (eVar 1))) sNil) bs__law_taken_6)
noncomputable abbrev bs__law_taken_8 : FS := (sSeq (sPut (eVar 0) (eC (.int 2)) (eBin pMod (eB qInt (aCons (eBin pPlus (eBin pPlus (eBin pMul (eBin pIx (eVar 0) (eC (.int 2))) (eC (.int 48271))) (eVar 2)) (eC (.int 11))) aNil)) (eC (.int 2147483647)))) bs__law_taken_7)
noncomputable abbrev bs__law_taken_9 : FS := (sSeq (sSet 2 (eBin pIx (eBin pIx (eVar 0) (eC (.int 0))) (eBin pSub (eBin pIx (eVar 0) (eC (.int 1))) (eC (.int 1))))) bs__law_taken_8)
noncomputable abbrev bs__law_taken_10 : FS := (sSeq (sIf (tV (eBin pGt (eBin pIx (eVar 0) (eC (.int 1))) (eB qLen (aCons (eBin pIx (eVar 0) (eC (.int 0))) aNil)))) bs__law_taken_5 sNil) bs__law_taken_9)
noncomputable abbrev bs__law_taken_11 : FS := (sSeq (sPut (eVar 0) (eC (.int 1)) (eBin pPlus (eBin pIx (eVar 0) (eC (.int 1))) (eC (.int 1)))) bs__law_taken_10)
noncomputable abbrev fs__law_taken : FS := (sSeq (sIf (tV (eBin pGt (eBin pIx (eVar 0) (eC (.int 3))) (eC (.int 0)))) bs__law_taken_3 sNil) bs__law_taken_11)
noncomputable def F__law_taken : List W → Sto → R W := runD 4 fs__law_taken
noncomputable abbrev fs__law_pick : FS := (sRet (eBin pIx (eVar 1) (eCall 2 F__law_taken (aCons (eVar 0) (aCons (eB qLen (aCons (eVar 1) aNil)) aNil)))))
noncomputable def F__law_pick : List W → Sto → R W := runD 2 fs__law_pick
noncomputable abbrev bt__law_alike_1 (F : List W → Sto → R W) : FT := (Pd.tNot (tV (eCall 2 F (aCons (eBin pIx (eVar 0) (eVar 2)) (aCons (eBin pIx (eVar 1) (eVar 2)) aNil)))))
noncomputable abbrev be__law_alike_2 (F : List W → Sto → R W) : FE := (eVar 2)
noncomputable abbrev bs__law_alike_3 (F : List W → Sto → R W) : FS := (sRet (eBin pEq (eLc [2] (iRg1 (aCons (eB qLen (aCons (eVar 1) aNil)) aNil)) (gN 2) (bt__law_alike_1 F) (be__law_alike_2 F)) (eLst aNil)))
noncomputable abbrev bs__law_alike_4 (F : List W → Sto → R W) : FS := (sSeq (sIf (tV (eBin pNe (eB qLen (aCons (eVar 0) aNil)) (eB qLen (aCons (eVar 1) aNil)))) (sRet (eC (.bool false))) sNil) (bs__law_alike_3 F))
noncomputable abbrev bs__law_alike_5 (F : List W → Sto → R W) : FS := (sSeq (sIf (Pd.tOr (Pd.tNot (tV (eIsi ["tuple", "list"] (eVar 0)))) (tV (eBin pNe (eIsi ["list"] (eVar 0)) (eIsi ["list"] (eVar 1))))) (sRet (eC (.bool false))) sNil) (bs__law_alike_4 F))
noncomputable abbrev bs__law_alike_6 (F : List W → Sto → R W) : FS := (sRet (eAnd (eBin pEq (eVar 0) (eVar 1)) (eBin pEq (eIsi ["str"] (eVar 0)) (eIsi ["str"] (eVar 1)))))
noncomputable abbrev bs__law_alike_7 (F : List W → Sto → R W) : FS := (sRet (eAnd (eIsi ["int"] (eVar 0)) (eAnd (eBin pEq (eIsi ["bool"] (eVar 0)) (eIsi ["bool"] (eVar 1))) (eBin pEq (eVar 0) (eVar 1)))))
noncomputable abbrev bs__law_alike_8 (F : List W → Sto → R W) : FS := (sSeq (sIf (Pd.tOr (tV (eBin (pIs true) (eVar 1) (eC .none))) (tV (eIsi ["str"] (eVar 1)))) (bs__law_alike_6 F) sNil) (bs__law_alike_7 F))
noncomputable abbrev bs__law_alike_9 (F : List W → Sto → R W) : FS := (sSeq (sIf (tV (eIsi ["dict"] (eVar 1))) (fun _ _ => .bad) sNil) (bs__law_alike_8 F))
noncomputable abbrev fs__law_alike (F : List W → Sto → R W) : FS := (sSeq (sIf (tV (eIsi ["tuple", "list"] (eVar 1))) (bs__law_alike_5 F) sNil) (bs__law_alike_9 F))
noncomputable def FJ__law_alike : Nat → List W → Sto → R W
  | 0 => fun _ _ => .bad
  | j + 1 => runD 4 (fs__law_alike (FJ__law_alike j))
noncomputable def F__law_alike : List W → Sto → R W := FJ__law_alike 8
noncomputable abbrev fs__law_two : FS := (sRet (eMs qJoin (eC (.str "")) (eB qSortS (aCons (eLst (aCons (eCall 2 F__law_pick (aCons (eVar 0) (aCons (eB qList (aCons (eVar 1) aNil)) aNil))) (aCons (eCall 2 F__law_pick (aCons (eVar 0) (aCons (eB qList (aCons (eVar 1) aNil)) aNil))) aNil))) aNil))))
noncomputable def F__law_two : List W → Sto → R W := runD 2 fs__law_two
noncomputable abbrev fs__law_moods : FS := (sRet (eCall 2 F__law_pick (aCons (eVar 0) (aCons (eLst (aCons (eC (.str "a")) (aCons (eC (.str "ab")) (aCons (eC (.str "ab")) (aCons (eC (.str "abc")) (aCons (eC (.str "abc")) (aCons (eC (.str "bxz")) (aCons (eC (.str "abcd")) (aCons (eC (.str "abcd")) (aCons (eC (.str "abcde")) (aCons (eC (.str "cdefgh")) aNil))))))))))) aNil))))
noncomputable def F__law_moods : List W → Sto → R W := runD 1 fs__law_moods
noncomputable abbrev be__law_weight_1 : FE := (eBin pIx (eVar 1) (eMs qIndex (eVar 0) (eVar 3)))
noncomputable abbrev fs__law_weight : FS := (sRet (eB qSum (aCons (eLc [3] (iSeq (eVar 2)) (gN 3) fYes be__law_weight_1) aNil)))
noncomputable def F__law_weight : List W → Sto → R W := runD 4 fs__law_weight
noncomputable abbrev be__law_folk_1 : FE := (eCall 2 F__law_taken (aCons (eVar 0) (aCons (eC (.int 6)) aNil)))
noncomputable abbrev bs__law_folk_2 : FS := (sExpr (eMl qApp (eVar 4) (aCons (eTup (aCons (eVar 8) (aCons (eVar 9) aNil))) aNil)))
noncomputable abbrev bs__law_folk_3 : FS := (sIf (Pd.tAnd (tV (eBin pNe (eVar 8) (eVar 9))) (Pd.tAnd (tV (eBin (pIn false) (eTup (aCons (eVar 8) (aCons (eVar 9) aNil))) (eVar 4))) (tV (eVar 7)))) bs__law_folk_2 sNil)
noncomputable abbrev bs__law_folk_4 : FS := (sSeq (sSet 7 (eOr (eBin pEq (eVar 6) (eC (.int 0))) (eBin pGt (eCall 3 F__law_weight (aCons (eVar 3) (aCons (eVar 5) (aCons (eVar 8) aNil)))) (eCall 3 F__law_weight (aCons (eVar 3) (aCons (eVar 5) (aCons (eVar 9) aNil))))))) bs__law_folk_3)
noncomputable abbrev bs__law_folk_5 : FS := (sSeq (sIf (Pd.tAnd (tV (eBin pGt (eVar 6) (eC (.int 0)))) (tV (eBin pLt (eCall 3 F__law_weight (aCons (eVar 3) (aCons (eVar 5) (aCons (eVar 8) aNil)))) (eCall 3 F__law_weight (aCons (eVar 3) (aCons (eVar 5) (aCons (eVar 9) aNil))))))) (sPar 8 9 (aCons (eVar 9) (aCons (eVar 8) aNil))) sNil) bs__law_folk_4)
noncomputable abbrev bs__law_folk_6 : FS := (sSeq (sPar 8 9 (aCons (eCall 2 F__law_two (aCons (eVar 0) (aCons (eVar 3) aNil))) (aCons (eCall 2 F__law_two (aCons (eVar 0) (aCons (eVar 3) aNil))) aNil))) bs__law_folk_5)
noncomputable abbrev bs__law_folk_7 : FS := (sRet (eTup (aCons (eVar 3) (aCons (eB qTup (aCons (eVar 4) aNil)) aNil))))
noncomputable abbrev bs__law_folk_8 : FS := (sSeq (sFor (iRg1 (aCons (eCall 2 F__law_taken (aCons (eVar 0) (aCons (eBin pPlus (eVar 1) (eC (.int 1))) aNil))) aNil)) (gN 2) bs__law_folk_6) bs__law_folk_7)
noncomputable abbrev bs__law_folk_9 : FS := (sSeq (sPar 5 6 (aCons (eLc [10] (iSeq (eVar 3)) (gN 10) fYes be__law_folk_1) (aCons (eCall 2 F__law_taken (aCons (eVar 0) (aCons (eC (.int 4)) aNil))) aNil))) bs__law_folk_8)
noncomputable abbrev fs__law_folk : FS := (sSeq (sPar 3 4 (aCons (eCall 1 F__law_moods (aCons (eVar 0) aNil)) (aCons (eLstM aNil) aNil))) bs__law_folk_9)
noncomputable def F__law_folk : List W → Sto → R W := runD 11 fs__law_folk
noncomputable abbrev bt__law_counts_1 : FT := (tV (eBin pEq (eVar 3) (eVar 2)))
noncomputable abbrev be__law_counts_2 : FE := (eC (.int 1))
noncomputable abbrev be__law_counts_3 : FE := (eB qLen (aCons (eLc [3] (iSeq (eVar 1)) (gN 3) bt__law_counts_1 be__law_counts_2) aNil))
noncomputable abbrev fs__law_counts : FS := (sRet (eB qTup (aCons (eLc [2] (iSeq (eVar 0)) (gN 2) fYes be__law_counts_3) aNil)))
noncomputable def F__law_counts : List W → Sto → R W := runD 4 fs__law_counts
noncomputable abbrev bt__law_usable_1 : FT := (tV (eBin pLt (eVar 5) (eVar 6)))
noncomputable abbrev be__law_usable_2 : FE := (eC (.int 1))
noncomputable abbrev bs__law_usable_3 : FS := (sSet 2 (eBin pPlus (eVar 2) (eRep (aCons (eVar 3) aNil) (eB qInt (aCons (eBin pEq (eLc [5, 6] (iZ2 (aCons (eVar 1) (aCons (eVar 4) aNil))) (gT 2 (gsCons (gN 5) (gsCons (gN 6) gsNil))) bt__law_usable_1 be__law_usable_2) (eLst aNil)) aNil)))))
noncomputable abbrev bs__law_usable_4 : FS := (sSeq (sSet 4 (eCall 2 F__law_counts (aCons (eBin pIx (eVar 0) (eC (.int 0))) (aCons (eBin pIx (eVar 3) (eC (.int 0))) aNil)))) bs__law_usable_3)
noncomputable abbrev bs__law_usable_5 : FS := (sRet (eVar 2))
noncomputable abbrev bs__law_usable_6 : FS := (sSeq (sFor (iSeq (eBin pIx (eVar 0) (eC (.int 1)))) (gN 3) bs__law_usable_4) bs__law_usable_5)
noncomputable abbrev fs__law_usable : FS := (sSeq (sSet 2 (eLst aNil)) bs__law_usable_6)
noncomputable def F__law_usable : List W → Sto → R W := runD 7 fs__law_usable
noncomputable abbrev be__law_behind_1 : FE := (eBin pPlus (eBin pSub (eVar 5) (eVar 6)) (eVar 7))
noncomputable abbrev bs__law_behind_2 : FS := (sRet (eB qTup (aCons (eLc [5, 6, 7] (iZ3 (aCons (eVar 1) (aCons (eVar 3) (aCons (eVar 4) aNil)))) (gT 3 (gsCons (gN 5) (gsCons (gN 6) (gsCons (gN 7) gsNil)))) fYes be__law_behind_1) aNil)))
noncomputable abbrev fs__law_behind : FS := (sSeq (sPar 3 4 (aCons (eCall 2 F__law_counts (aCons (eBin pIx (eVar 0) (eC (.int 0))) (aCons (eBin pIx (eVar 2) (eC (.int 0))) aNil))) (aCons (eCall 2 F__law_counts (aCons (eBin pIx (eVar 0) (eC (.int 0))) (aCons (eBin pIx (eVar 2) (eC (.int 1))) aNil))) aNil))) bs__law_behind_2)
noncomputable def F__law_behind : List W → Sto → R W := runD 8 fs__law_behind
noncomputable abbrev be__law_crowd_1 : FE := (eCall 2 F__law_pick (aCons (eVar 0) (aCons (eB qList (aCons (eBin pIx (eVar 1) (eC (.int 0))) aNil)) aNil)))
noncomputable abbrev fs__law_crowd : FS := (sRet (eCall 2 F__law_counts (aCons (eBin pIx (eVar 1) (eC (.int 0))) (aCons (eMs qJoin (eC (.str "")) (eLc [3] (iRg1 (aCons (eCall 2 F__law_taken (aCons (eVar 0) (aCons (eBin pPlus (eVar 2) (eC (.int 1))) aNil))) aNil)) (gN 3) fYes be__law_crowd_1)) aNil))))
noncomputable def F__law_crowd : List W → Sto → R W := runD 4 fs__law_crowd
noncomputable abbrev bs_law_1 : FS := (sSet 8 (eCall 3 F__law_behind (aCons (eVar 2) (aCons (eVar 8) (aCons (eVar 12) aNil)))))
noncomputable abbrev bs_law_2 : FS := (sSeq (sExpr (eMl qApp (eVar 9) (aCons (eTup (aCons (eTup (aCons (eC (.str "meet")) (aCons (eVar 12) aNil))) (aCons (eVar 8) aNil))) aNil))) bs_law_1)
noncomputable abbrev bs_law_3 : FS := (sSeq (sExpr (eMeth "Desk" "meet" 2 F_Desk_meet (eVar 7) (aCons (eVar 12) aNil))) bs_law_2)
noncomputable abbrev bs_law_4 : FS := (sSeq (sSet 12 (eCall 2 F__law_pick (aCons (eVar 1) (aCons (eVar 11) aNil)))) bs_law_3)
noncomputable abbrev be_law_5 : FE := (eBin pPlus (eVar 15) (eVar 16))
noncomputable abbrev bs_law_6 : FS := (sSet 8 (eB qTup (aCons (eLc [15, 16] (iZ2V (aCons (eVar 8) (aCons (eVar 13) aNil))) (gT 2 (gsCons (gN 15) (gsCons (gN 16) gsNil))) fYes be_law_5) aNil)))
noncomputable abbrev bs_law_7 : FS := (sSeq (sExpr (eMl qApp (eVar 9) (aCons (eTup (aCons (eTup (aCons (eC (.str "join")) (aCons (eVar 13) aNil))) (aCons (eVar 8) aNil))) aNil))) bs_law_6)
noncomputable abbrev bs_law_8 : FS := (sSeq (sExpr (eMeth "Desk" "join" 2 F_Desk_join (eVar 7) (aCons (eVar 13) aNil))) bs_law_7)
noncomputable abbrev bs_law_9 : FS := (sSeq (sSet 13 (eCall 3 F__law_crowd (aCons (eVar 1) (aCons (eVar 2) (aCons (eC (.int 3)) aNil))))) bs_law_8)
noncomputable abbrev bt_law_10 : FT := (tV (eBin pGt (eVar 17) (eC (.int 0))))
noncomputable abbrev be_law_11 : FE := (eVar 19)
noncomputable abbrev be_law_12 : FE := (eBin pSub (eVar 17) (eB qInt (aCons (eBin pEq (eVar 19) (eVar 14)) aNil)))
noncomputable abbrev bs_law_13 : FS := (sSet 8 (eB qTup (aCons (eLc [19, 17] (iZ2V (aCons (eBin pIx (eVar 2) (eC (.int 0))) (aCons (eVar 8) aNil))) (gT 2 (gsCons (gN 19) (gsCons (gN 17) gsNil))) fYes be_law_12) aNil)))
noncomputable abbrev bs_law_14 : FS := (sSeq (sExpr (eMl qApp (eVar 9) (aCons (eTup (aCons (eTup (aCons (eC (.str "leave")) (aCons (eVar 14) aNil))) (aCons (eVar 8) aNil))) aNil))) bs_law_13)
noncomputable abbrev bs_law_15 : FS := (sSeq (sExpr (eMeth "Desk" "leave" 2 F_Desk_leave (eVar 7) (aCons (eVar 14) aNil))) bs_law_14)
noncomputable abbrev bs_law_16 : FS := (sSeq (sSet 14 (eCall 2 F__law_pick (aCons (eVar 1) (aCons (eLc [19, 17] (iZ2V (aCons (eBin pIx (eVar 2) (eC (.int 0))) (aCons (eVar 8) aNil))) (gT 2 (gsCons (gN 19) (gsCons (gN 17) gsNil))) bt_law_10 be_law_11) aNil)))) bs_law_15)
noncomputable abbrev bs_law_17 : FS := (sSet 8 (eBin pIx (eMl0 qPop (eVar 9)) (eC (.int 1))))
noncomputable abbrev bs_law_18 : FS := (sSeq (sExpr (eMeth "Desk" "undo" 1 F_Desk_undo (eVar 7) aNil)) bs_law_17)
noncomputable abbrev bs_law_19 : FS := (sIf (Pd.tAnd (tV (eBin pEq (eVar 10) (eC (.int 3)))) (tV (eBin pGt (eB qSumA (aCons (eVar 8) aNil)) (eC (.int 0))))) bs_law_16 (sIf (tV (eBin pNeM (eVar 9) (eLst aNil))) bs_law_18 sNil))
noncomputable abbrev bs_law_20 : FS := (sIf (tV (eBin pEq (eVar 10) (eC (.int 2)))) bs_law_9 bs_law_19)
noncomputable abbrev bs_law_21 : FS := (sIf (Pd.tAnd (tV (eBin pLt (eVar 10) (eC (.int 2)))) (tV (eBin pNe (eVar 11) (eLst aNil)))) bs_law_4 bs_law_20)
noncomputable abbrev bs_law_22 : FS := (sSeq (sPar 10 11 (aCons (eCall 2 F__law_taken (aCons (eVar 1) (aCons (eC (.int 5)) aNil))) (aCons (eCall 2 F__law_usable (aCons (eVar 2) (aCons (eVar 8) aNil))) aNil))) bs_law_21)
noncomputable abbrev be_law_23 : FE := (eVar 18)
noncomputable abbrev be_law_24 : FE := (eBin pPlus (eBin pPlus (eBin pPlus (eC (.str " ")) (eVar 15)) (eC (.str ">"))) (eVar 16))
noncomputable abbrev be_law_25 : FE := (eBin pPlus (eC (.str " ")) (eB qStr (aCons (eVar 17) aNil)))
noncomputable abbrev bs_law_26 : FS := (sRet (eCall 2 F__law_alike (aCons (eLst (aCons (eMeth "Desk" "text" 1 F_Desk_text (eVar 6) aNil) (aCons (eMeth "Desk" "crowd" 1 F_Desk_crowd (eVar 6) aNil) (aCons (eMeth "Desk" "row" 1 F_Desk_row (eVar 6) aNil) aNil)))) (aCons (eLst (aCons (eVar 5) (aCons (eVar 8) (aCons (eTup aNil) aNil)))) aNil))))
noncomputable abbrev bs_law_27 : FS := (sSeq (sSet 6 (eCall 1 F_desk_of (aCons (eVar 5) aNil))) bs_law_26)
noncomputable abbrev bs_law_28 : FS := (sSeq (sIf (Pd.tNot (tV (eCall 2 F__law_alike (aCons (eLst (aCons (eMeth "Desk" "text" 1 F_Desk_text (eVar 7) aNil) (aCons (eMeth "Desk" "is_at_rest" 1 F_Desk_is_at_rest (eVar 7) aNil) aNil))) (aCons (eLst (aCons (eVar 5) (aCons (eBin pEq (eCall 2 F__law_usable (aCons (eVar 2) (aCons (eVar 8) aNil))) (eLst aNil)) aNil))) aNil))))) (sRet (eC (.bool false))) sNil) bs_law_27)
noncomputable abbrev bs_law_29 : FS := (sSeq (sSet 5 (eBin pPlus (eBin pPlus (eBin pPlus (eVar 5) (eC (.str "\ncrowd"))) (eMs qJoin (eC (.str "")) (eLc [17] (iSeq (eVar 8)) (gN 17) fYes be_law_25))) (eC (.str "\n")))) bs_law_28)
noncomputable abbrev bs_law_30 : FS := (sSeq (sSet 5 (eBin pPlus (eBin pPlus (eBin pPlus (eC (.str "moods ")) (eBin pIx (eVar 2) (eC (.int 0)))) (eC (.str "\nrules"))) (eMs qJoin (eC (.str "")) (eLc [15, 16] (iSeq (eBin pIx (eVar 2) (eC (.int 1)))) (gT 2 (gsCons (gN 15) (gsCons (gN 16) gsNil))) fYes be_law_24)))) bs_law_29)
noncomputable abbrev bs_law_31 : FS := (sSeq (sIf (Pd.tNot (tV (eCall 2 F__law_alike (aCons (eLst (aCons (eMeth "Desk" "crowd" 1 F_Desk_crowd (eVar 7) aNil) (aCons (eMeth "Desk" "row" 1 F_Desk_row (eVar 7) aNil) aNil))) (aCons (eLst (aCons (eVar 8) (aCons (eB qTup (aCons (eLcG finD [18, 15] (iCell (eVar 9)) (gT 2 (gsCons (gN 18) (gsCons (gN 15) gsNil))) fYes be_law_23) aNil)) aNil))) aNil))))) (sRet (eC (.bool false))) sNil) bs_law_30)
noncomputable abbrev bs_law_32 : FS := (sSeq (sFor (iRg1 (aCons (eCall 2 F__law_taken (aCons (eVar 1) (aCons (eC (.int 9)) aNil))) aNil)) (gN 4) bs_law_22) bs_law_31)
noncomputable abbrev bs_law_33 : FS := (sSeq (sPar3 7 8 9 (aCons (eMake "Desk" 3 F_Desk___init__ (aCons (eVar 2) (aCons (eVar 3) aNil))) (aCons (eVar 3) (aCons (eLstM aNil) aNil)))) bs_law_32)
noncomputable abbrev bs_law_34 : FS := (sSeq (sSet 3 (eCall 3 F__law_crowd (aCons (eVar 1) (aCons (eVar 2) (aCons (eC (.int 5)) aNil))))) bs_law_33)
noncomputable abbrev bs_law_35 : FS := (sSeq (sSet 2 (eCall 2 F__law_folk (aCons (eVar 1) (aCons (eC (.int 6)) aNil)))) bs_law_34)
noncomputable abbrev fs_law : FS := (sSeq (sSet 1 (eLstM (aCons (eVar 0) (aCons (eC (.int 0)) (aCons (eC (.int 7517)) (aCons (eC (.int 0)) aNil)))))) bs_law_35)
noncomputable def F_law : List W → Sto → R W := runD 20 fs_law
/-! ### scopes -/
theorem sc_is_pair : FnScope ["value"] ["value"] (defScope s_is_pair) := ⟨rfl, rfl, rfl, by decide +kernel, rfl, by decide +kernel, by decide +kernel⟩
theorem sc_are_moods : FnScope ["value", "at", "mood"] ["value"] (defScope s_are_moods) := ⟨rfl, rfl, rfl, by decide +kernel, rfl, by decide +kernel, by decide +kernel⟩
theorem sc_are_two : FnScope ["moods", "value"] ["moods", "value"] (defScope s_are_two) := ⟨rfl, rfl, rfl, by decide +kernel, rfl, by decide +kernel, by decide +kernel⟩
theorem sc_is_rule : FnScope ["moods", "value"] ["moods", "value"] (defScope s_is_rule) := ⟨rfl, rfl, rfl, by decide +kernel, rfl, by decide +kernel, by decide +kernel⟩
theorem sc_are_rules : FnScope ["moods", "value", "rule"] ["moods", "value"] (defScope s_are_rules) := ⟨rfl, rfl, rfl, by decide +kernel, rfl, by decide +kernel, by decide +kernel⟩
theorem sc_is_folk : FnScope ["value"] ["value"] (defScope s_is_folk) := ⟨rfl, rfl, rfl, by decide +kernel, rfl, by decide +kernel, by decide +kernel⟩
theorem sc_demand_folk : FnScope ["value"] ["value"] (defScope s_demand_folk) := ⟨rfl, rfl, rfl, by decide +kernel, rfl, by decide +kernel, by decide +kernel⟩
theorem sc_is_integer : FnScope ["value"] ["value"] (defScope s_is_integer) := ⟨rfl, rfl, rfl, by decide +kernel, rfl, by decide +kernel, by decide +kernel⟩
theorem sc_is_crowd : FnScope ["folk", "value", "many"] ["folk", "value"] (defScope s_is_crowd) := ⟨rfl, rfl, rfl, by decide +kernel, rfl, by decide +kernel, by decide +kernel⟩
theorem sc_demand_crowd : FnScope ["folk", "value"] ["folk", "value"] (defScope s_demand_crowd) := ⟨rfl, rfl, rfl, by decide +kernel, rfl, by decide +kernel, by decide +kernel⟩
theorem sc_Desk___init__ : FnScope ["self", "folk", "crowd"] ["self", "folk", "crowd"] (defScope s_Desk___init__) := ⟨rfl, rfl, rfl, by decide +kernel, rfl, by decide +kernel, by decide +kernel⟩
theorem sc_demand_room : FnScope ["crowd", "many"] ["crowd"] (defScope s_demand_room) := ⟨rfl, rfl, rfl, by decide +kernel, rfl, by decide +kernel, by decide +kernel⟩
theorem sc_numbers_of : FnScope ["moods", "two", "mood"] ["moods", "two"] (defScope s_numbers_of) := ⟨rfl, rfl, rfl, by decide +kernel, rfl, by decide +kernel, by decide +kernel⟩
theorem sc_can_be_used : FnScope ["folk", "crowd", "rule", "needed", "many", "need"] ["folk", "crowd", "rule"] (defScope s_can_be_used) := ⟨rfl, rfl, rfl, by decide +kernel, rfl, by decide +kernel, by decide +kernel⟩
theorem sc_behind_rule : FnScope ["folk", "crowd", "rule", "gone", "come", "many", "less", "more"] ["folk", "crowd", "rule"] (defScope s_behind_rule) := ⟨rfl, rfl, rfl, by decide +kernel, rfl, by decide +kernel, by decide +kernel⟩
theorem sc_met : FnScope ["folk", "crowd", "rule", "behind"] ["folk", "crowd", "rule"] (defScope s_met) := ⟨rfl, rfl, rfl, by decide +kernel, rfl, by decide +kernel, by decide +kernel⟩
theorem sc_Desk__turn : FnScope ["self", "deed", "behind"] ["self", "deed", "behind"] (defScope s_Desk__turn) := ⟨rfl, rfl, rfl, by decide +kernel, rfl, by decide +kernel, by decide +kernel⟩
theorem sc_Desk_meet : FnScope ["self", "rule", "behind"] ["self", "rule"] (defScope s_Desk_meet) := ⟨rfl, rfl, rfl, by decide +kernel, rfl, by decide +kernel, by decide +kernel⟩
theorem sc_with_more : FnScope ["crowd", "more", "times", "many", "come"] ["crowd", "more", "times"] (defScope s_with_more) := ⟨rfl, rfl, rfl, by decide +kernel, rfl, by decide +kernel, by decide +kernel⟩
theorem sc_Desk_join : FnScope ["self", "crowd", "behind"] ["self", "crowd"] (defScope s_Desk_join) := ⟨rfl, rfl, rfl, by decide +kernel, rfl, by decide +kernel, by decide +kernel⟩
theorem sc_is_mood : FnScope ["moods", "value"] ["moods", "value"] (defScope s_is_mood) := ⟨rfl, rfl, rfl, by decide +kernel, rfl, by decide +kernel, by decide +kernel⟩
theorem sc_demand_mood : FnScope ["folk", "value"] ["folk", "value"] (defScope s_demand_mood) := ⟨rfl, rfl, rfl, by decide +kernel, rfl, by decide +kernel, by decide +kernel⟩
theorem sc_Desk_leave : FnScope ["self", "mood", "gone", "behind", "other"] ["self", "mood"] (defScope s_Desk_leave) := ⟨rfl, rfl, rfl, by decide +kernel, rfl, by decide +kernel, by decide +kernel⟩
theorem sc_Desk_undo : FnScope ["self", "_"] ["self"] (defScope s_Desk_undo) := ⟨rfl, rfl, rfl, by decide +kernel, rfl, by decide +kernel, by decide +kernel⟩
theorem sc_Desk_crowd : FnScope ["self"] ["self"] (defScope s_Desk_crowd) := ⟨rfl, rfl, rfl, by decide +kernel, rfl, by decide +kernel, by decide +kernel⟩
theorem sc_Desk_row : FnScope ["self", "deed", "_"] ["self"] (defScope s_Desk_row) := ⟨rfl, rfl, rfl, by decide +kernel, rfl, by decide +kernel, by decide +kernel⟩
theorem sc_meetings : FnScope ["folk", "crowd", "rule"] ["folk", "crowd"] (defScope s_meetings) := ⟨rfl, rfl, rfl, by decide +kernel, rfl, by decide +kernel, by decide +kernel⟩
theorem sc_Desk_is_at_rest : FnScope ["self"] ["self"] (defScope s_Desk_is_at_rest) := ⟨rfl, rfl, rfl, by decide +kernel, rfl, by decide +kernel, by decide +kernel⟩
theorem sc_Desk_text : FnScope ["self", "told", "numbers", "moods", "rules", "many", "words", "before", "behind"] ["self"] (defScope s_Desk_text) := ⟨rfl, rfl, rfl, by decide +kernel, rfl, by decide +kernel, by decide +kernel⟩
theorem sc_demand_text : FnScope ["value"] ["value"] (defScope s_demand_text) := ⟨rfl, rfl, rfl, by decide +kernel, rfl, by decide +kernel, by decide +kernel⟩
theorem sc_words_behind : FnScope ["lines", "at", "key", "words"] ["lines", "at", "key"] (defScope s_words_behind) := ⟨rfl, rfl, rfl, by decide +kernel, rfl, by decide +kernel, by decide +kernel⟩
theorem sc_moods_from : FnScope ["lines", "words"] ["lines"] (defScope s_moods_from) := ⟨rfl, rfl, rfl, by decide +kernel, rfl, by decide +kernel, by decide +kernel⟩
theorem sc_folk_from : FnScope ["lines", "moods", "words", "folk", "word"] ["lines"] (defScope s_folk_from) := ⟨rfl, rfl, rfl, by decide +kernel, rfl, by decide +kernel, by decide +kernel⟩
theorem sc_kind_of : FnScope ["sign"] ["sign"] (defScope s_kind_of) := ⟨rfl, rfl, rfl, by decide +kernel, rfl, by decide +kernel, by decide +kernel⟩
theorem sc_is_number : FnScope ["text", "most", "sign"] ["text", "most"] (defScope s_is_number) := ⟨rfl, rfl, rfl, by decide +kernel, rfl, by decide +kernel, by decide +kernel⟩
theorem sc_crowd_from : FnScope ["folk", "lines", "words", "crowd", "word"] ["folk", "lines"] (defScope s_crowd_from) := ⟨rfl, rfl, rfl, by decide +kernel, rfl, by decide +kernel, by decide +kernel⟩
theorem sc_demand_no_more : FnScope ["lines"] ["lines"] (defScope s_demand_no_more) := ⟨rfl, rfl, rfl, by decide +kernel, rfl, by decide +kernel, by decide +kernel⟩
theorem sc_desk_of : FnScope ["text", "lines", "folk", "crowd"] ["text"] (defScope s_desk_of) := ⟨rfl, rfl, rfl, by decide +kernel, rfl, by decide +kernel, by decide +kernel⟩
theorem sc__law_taken : FnScope ["row", "many", "cell", "found"] ["row", "many"] (defScope s__law_taken) := ⟨rfl, rfl, rfl, by decide +kernel, rfl, by decide +kernel, by decide +kernel⟩
theorem sc__law_pick : FnScope ["row", "things"] ["row", "things"] (defScope s__law_pick) := ⟨rfl, rfl, rfl, by decide +kernel, rfl, by decide +kernel, by decide +kernel⟩
theorem sc__law_alike : FnScope ["found", "due", "k", "key"] ["found", "due"] (defScope s__law_alike) := ⟨rfl, rfl, rfl, by decide +kernel, rfl, by decide +kernel, by decide +kernel⟩
theorem sc__law_two : FnScope ["row", "moods"] ["row", "moods"] (defScope s__law_two) := ⟨rfl, rfl, rfl, by decide +kernel, rfl, by decide +kernel, by decide +kernel⟩
theorem sc__law_moods : FnScope ["row"] ["row"] (defScope s__law_moods) := ⟨rfl, rfl, rfl, by decide +kernel, rfl, by decide +kernel, by decide +kernel⟩
theorem sc__law_weight : FnScope ["moods", "told", "text", "mood"] ["moods", "told", "text"] (defScope s__law_weight) := ⟨rfl, rfl, rfl, by decide +kernel, rfl, by decide +kernel, by decide +kernel⟩
theorem sc__law_folk : FnScope ["row", "most", "turn", "moods", "rules", "told", "way", "is_loss", "one", "other", "mood"] ["row", "most"] (defScope s__law_folk) := ⟨rfl, rfl, rfl, by decide +kernel, rfl, by decide +kernel, by decide +kernel⟩
theorem sc__law_counts : FnScope ["moods", "text", "mood", "sign"] ["moods", "text"] (defScope s__law_counts) := ⟨rfl, rfl, rfl, by decide +kernel, rfl, by decide +kernel, by decide +kernel⟩
theorem sc__law_usable : FnScope ["folk", "crowd", "found", "rule", "need", "many", "one"] ["folk", "crowd"] (defScope s__law_usable) := ⟨rfl, rfl, rfl, by decide +kernel, rfl, by decide +kernel, by decide +kernel⟩
theorem sc__law_behind : FnScope ["folk", "crowd", "rule", "old", "new", "many", "one", "other"] ["folk", "crowd", "rule"] (defScope s__law_behind) := ⟨rfl, rfl, rfl, by decide +kernel, rfl, by decide +kernel, by decide +kernel⟩
theorem sc__law_crowd : FnScope ["row", "folk", "most", "turn"] ["row", "folk", "most"] (defScope s__law_crowd) := ⟨rfl, rfl, rfl, by decide +kernel, rfl, by decide +kernel, by decide +kernel⟩
theorem sc_law : FnScope ["script", "row", "folk", "crowd", "turn", "text", "again", "desk", "now", "past", "way", "good", "rule", "more", "mood", "one", "other", "many", "deed", "sign"] ["script"] (defScope s_law) := ⟨rfl, rfl, rfl, by decide +kernel, rfl, by decide +kernel, by decide +kernel⟩
/-! ### what is known of the module -/
structure Txt (K : PySem.W.Frag) (mg : Str → Option Value) (base : Heap) (Ts : List Addr) (xa A cA pA : Str → Addr) (Dd : Str → FuncData) (mA : Str → Addr) (mD : Str → FuncData) : Prop where
  n_all : mg "all" = none
  n_any : mg "any" = none
  n_bool : mg "bool" = none
  n_dict : mg "dict" = none
  n_int : mg "int" = none
  n_isinstance : mg "isinstance" = none
  n_len : mg "len" = none
  n_list : mg "list" = none
  n_min : mg "min" = none
  n_range : mg "range" = none
  n_set : mg "set" = none
  n_sorted : mg "sorted" = none
  n_str : mg "str" = none
  n_sum : mg "sum" = none
  n_tuple : mg "tuple" = none
  n_zip : mg "zip" = none
  c_CROWD_AT : ∃ t, mg "CROWD_AT" = some (.int (2) t)
  c_LAST_AT : ∃ t, mg "LAST_AT" = some (.int (3) t)
  c_MOODS_AT : ∃ t, mg "MOODS_AT" = some (.int (0) t)
  c_MOST_FIGURES : ∃ t, mg "MOST_FIGURES" = some (.int (41) t)
  c_MOST_IN_A_MOOD : ∃ t, mg "MOST_IN_A_MOOD" = some (.int (10000000000000000000000000000000000000000) t)
  c_MOST_MOODS : ∃ t, mg "MOST_MOODS" = some (.int (6) t)
  c_MOST_RULES : ∃ t, mg "MOST_RULES" = some (.int (12) t)
  c_RULES_AT : ∃ t, mg "RULES_AT" = some (.int (1) t)
  x_BadCrowd : (∃ bmB B newId initId, ExcBaseFacts B newId initId bmB ∧ PySem.W.excIn K (xa "BadCrowd") bmB newId = true) ∧ mg "BadCrowd" = some (.ref (xa "BadCrowd")) ∧ PySem.W.keepIn K (.ref (xa "BadCrowd")) = true ∧ PySem.W.subIn K (.ref (xa "BadCrowd")) (.type "BaseException") = some true ∧ PySem.W.typeIn K (.ref (xa "BadCrowd")) = some (.type "type") ∧ PySem.W.exmOne K (.ref (xa "BadCrowd")) (.ref (xa "BadCrowd")) = some true
  x_BadFolk : (∃ bmB B newId initId, ExcBaseFacts B newId initId bmB ∧ PySem.W.excIn K (xa "BadFolk") bmB newId = true) ∧ mg "BadFolk" = some (.ref (xa "BadFolk")) ∧ PySem.W.keepIn K (.ref (xa "BadFolk")) = true ∧ PySem.W.subIn K (.ref (xa "BadFolk")) (.type "BaseException") = some true ∧ PySem.W.typeIn K (.ref (xa "BadFolk")) = some (.type "type") ∧ PySem.W.exmOne K (.ref (xa "BadFolk")) (.ref (xa "BadFolk")) = some true
  x_BadRule : (∃ bmB B newId initId, ExcBaseFacts B newId initId bmB ∧ PySem.W.excIn K (xa "BadRule") bmB newId = true) ∧ mg "BadRule" = some (.ref (xa "BadRule")) ∧ PySem.W.keepIn K (.ref (xa "BadRule")) = true ∧ PySem.W.subIn K (.ref (xa "BadRule")) (.type "BaseException") = some true ∧ PySem.W.typeIn K (.ref (xa "BadRule")) = some (.type "type") ∧ PySem.W.exmOne K (.ref (xa "BadRule")) (.ref (xa "BadRule")) = some true
  x_NoMood : (∃ bmB B newId initId, ExcBaseFacts B newId initId bmB ∧ PySem.W.excIn K (xa "NoMood") bmB newId = true) ∧ mg "NoMood" = some (.ref (xa "NoMood")) ∧ PySem.W.keepIn K (.ref (xa "NoMood")) = true ∧ PySem.W.subIn K (.ref (xa "NoMood")) (.type "BaseException") = some true ∧ PySem.W.typeIn K (.ref (xa "NoMood")) = some (.type "type") ∧ PySem.W.exmOne K (.ref (xa "NoMood")) (.ref (xa "NoMood")) = some true
  x_Nobody : (∃ bmB B newId initId, ExcBaseFacts B newId initId bmB ∧ PySem.W.excIn K (xa "Nobody") bmB newId = true) ∧ mg "Nobody" = some (.ref (xa "Nobody")) ∧ PySem.W.keepIn K (.ref (xa "Nobody")) = true ∧ PySem.W.subIn K (.ref (xa "Nobody")) (.type "BaseException") = some true ∧ PySem.W.typeIn K (.ref (xa "Nobody")) = some (.type "type") ∧ PySem.W.exmOne K (.ref (xa "Nobody")) (.ref (xa "Nobody")) = some true
  x_NotText : (∃ bmB B newId initId, ExcBaseFacts B newId initId bmB ∧ PySem.W.excIn K (xa "NotText") bmB newId = true) ∧ mg "NotText" = some (.ref (xa "NotText")) ∧ PySem.W.keepIn K (.ref (xa "NotText")) = true ∧ PySem.W.subIn K (.ref (xa "NotText")) (.type "BaseException") = some true ∧ PySem.W.typeIn K (.ref (xa "NotText")) = some (.type "type") ∧ PySem.W.exmOne K (.ref (xa "NotText")) (.ref (xa "NotText")) = some true
  x_NothingDone : (∃ bmB B newId initId, ExcBaseFacts B newId initId bmB ∧ PySem.W.excIn K (xa "NothingDone") bmB newId = true) ∧ mg "NothingDone" = some (.ref (xa "NothingDone")) ∧ PySem.W.keepIn K (.ref (xa "NothingDone")) = true ∧ PySem.W.subIn K (.ref (xa "NothingDone")) (.type "BaseException") = some true ∧ PySem.W.typeIn K (.ref (xa "NothingDone")) = some (.type "type") ∧ PySem.W.exmOne K (.ref (xa "NothingDone")) (.ref (xa "NothingDone")) = some true
  x_TooGreat : (∃ bmB B newId initId, ExcBaseFacts B newId initId bmB ∧ PySem.W.excIn K (xa "TooGreat") bmB newId = true) ∧ mg "TooGreat" = some (.ref (xa "TooGreat")) ∧ PySem.W.keepIn K (.ref (xa "TooGreat")) = true ∧ PySem.W.subIn K (.ref (xa "TooGreat")) (.type "BaseException") = some true ∧ PySem.W.typeIn K (.ref (xa "TooGreat")) = some (.type "type") ∧ PySem.W.exmOne K (.ref (xa "TooGreat")) (.ref (xa "TooGreat")) = some true
  cl_Desk : ClsF K (xa "Desk") ["folk", "here", "done"]
  gd_Desk : mg "Desk" = some (.ref (xa "Desk"))
  mk_Desk : Mk K (xa "Desk") (mA "__init__")
  f_is_pair : FunD K "is_pair" "is_pair" (defArgs s_is_pair) (defBody s_is_pair) (defScope s_is_pair) [] [] (A "is_pair") (Dd "is_pair")
  g_is_pair : mg "is_pair" = some (.ref (A "is_pair"))
  f_are_moods : FunD K "are_moods" "are_moods" (defArgs s_are_moods) (defBody s_are_moods) (defScope s_are_moods) [] [] (A "are_moods") (Dd "are_moods")
  g_are_moods : mg "are_moods" = some (.ref (A "are_moods"))
  t_are_moods : (Dd "are_moods").code = .ref (cA "are_moods") ∧ GxR.TabB base mg (cA "are_moods") (pA "are_moods") ∧ pA "are_moods" ∈ Ts
  f_are_two : FunD K "are_two" "are_two" (defArgs s_are_two) (defBody s_are_two) (defScope s_are_two) [] [] (A "are_two") (Dd "are_two")
  g_are_two : mg "are_two" = some (.ref (A "are_two"))
  f_is_rule : FunD K "is_rule" "is_rule" (defArgs s_is_rule) (defBody s_is_rule) (defScope s_is_rule) [] [] (A "is_rule") (Dd "is_rule")
  g_is_rule : mg "is_rule" = some (.ref (A "is_rule"))
  f_are_rules : FunD K "are_rules" "are_rules" (defArgs s_are_rules) (defBody s_are_rules) (defScope s_are_rules) [] [] (A "are_rules") (Dd "are_rules")
  g_are_rules : mg "are_rules" = some (.ref (A "are_rules"))
  t_are_rules : (Dd "are_rules").code = .ref (cA "are_rules") ∧ GxR.TabB base mg (cA "are_rules") (pA "are_rules") ∧ pA "are_rules" ∈ Ts
  f_is_folk : FunD K "is_folk" "is_folk" (defArgs s_is_folk) (defBody s_is_folk) (defScope s_is_folk) [] [] (A "is_folk") (Dd "is_folk")
  g_is_folk : mg "is_folk" = some (.ref (A "is_folk"))
  f_demand_folk : FunD K "demand_folk" "demand_folk" (defArgs s_demand_folk) (defBody s_demand_folk) (defScope s_demand_folk) [] [] (A "demand_folk") (Dd "demand_folk")
  g_demand_folk : mg "demand_folk" = some (.ref (A "demand_folk"))
  f_is_integer : FunD K "is_integer" "is_integer" (defArgs s_is_integer) (defBody s_is_integer) (defScope s_is_integer) [] [] (A "is_integer") (Dd "is_integer")
  g_is_integer : mg "is_integer" = some (.ref (A "is_integer"))
  f_is_crowd : FunD K "is_crowd" "is_crowd" (defArgs s_is_crowd) (defBody s_is_crowd) (defScope s_is_crowd) [] [] (A "is_crowd") (Dd "is_crowd")
  g_is_crowd : mg "is_crowd" = some (.ref (A "is_crowd"))
  t_is_crowd : (Dd "is_crowd").code = .ref (cA "is_crowd") ∧ GxR.TabB base mg (cA "is_crowd") (pA "is_crowd") ∧ pA "is_crowd" ∈ Ts
  f_demand_crowd : FunD K "demand_crowd" "demand_crowd" (defArgs s_demand_crowd) (defBody s_demand_crowd) (defScope s_demand_crowd) [] [] (A "demand_crowd") (Dd "demand_crowd")
  g_demand_crowd : mg "demand_crowd" = some (.ref (A "demand_crowd"))
  f_Desk___init__ : FunD K "__init__" "Desk.__init__" (defArgs s_Desk___init__) (defBody s_Desk___init__) (defScope s_Desk___init__) [] [] (mA "__init__") (mD "__init__")
  f_demand_room : FunD K "demand_room" "demand_room" (defArgs s_demand_room) (defBody s_demand_room) (defScope s_demand_room) [] [] (A "demand_room") (Dd "demand_room")
  g_demand_room : mg "demand_room" = some (.ref (A "demand_room"))
  t_demand_room : (Dd "demand_room").code = .ref (cA "demand_room") ∧ GxR.TabB base mg (cA "demand_room") (pA "demand_room") ∧ pA "demand_room" ∈ Ts
  f_numbers_of : FunD K "numbers_of" "numbers_of" (defArgs s_numbers_of) (defBody s_numbers_of) (defScope s_numbers_of) [] [] (A "numbers_of") (Dd "numbers_of")
  g_numbers_of : mg "numbers_of" = some (.ref (A "numbers_of"))
  f_can_be_used : FunD K "can_be_used" "can_be_used" (defArgs s_can_be_used) (defBody s_can_be_used) (defScope s_can_be_used) [] [] (A "can_be_used") (Dd "can_be_used")
  g_can_be_used : mg "can_be_used" = some (.ref (A "can_be_used"))
  t_can_be_used : (Dd "can_be_used").code = .ref (cA "can_be_used") ∧ GxR.TabB base mg (cA "can_be_used") (pA "can_be_used") ∧ pA "can_be_used" ∈ Ts
  f_behind_rule : FunD K "behind_rule" "behind_rule" (defArgs s_behind_rule) (defBody s_behind_rule) (defScope s_behind_rule) [] [] (A "behind_rule") (Dd "behind_rule")
  g_behind_rule : mg "behind_rule" = some (.ref (A "behind_rule"))
  f_met : FunD K "met" "met" (defArgs s_met) (defBody s_met) (defScope s_met) [] [] (A "met") (Dd "met")
  g_met : mg "met" = some (.ref (A "met"))
  f_Desk__turn : FunD K "_turn" "Desk._turn" (defArgs s_Desk__turn) (defBody s_Desk__turn) (defScope s_Desk__turn) [] [] (mA "_turn") (mD "_turn")
  m_Desk__turn : Meth K (xa "Desk") "_turn" (mA "_turn")
  f_Desk_meet : FunD K "meet" "Desk.meet" (defArgs s_Desk_meet) (defBody s_Desk_meet) (defScope s_Desk_meet) [] [] (mA "meet") (mD "meet")
  m_Desk_meet : Meth K (xa "Desk") "meet" (mA "meet")
  f_with_more : FunD K "with_more" "with_more" (defArgs s_with_more) (defBody s_with_more) (defScope s_with_more) [] [] (A "with_more") (Dd "with_more")
  g_with_more : mg "with_more" = some (.ref (A "with_more"))
  f_Desk_join : FunD K "join" "Desk.join" (defArgs s_Desk_join) (defBody s_Desk_join) (defScope s_Desk_join) [] [] (mA "join") (mD "join")
  m_Desk_join : Meth K (xa "Desk") "join" (mA "join")
  f_is_mood : FunD K "is_mood" "is_mood" (defArgs s_is_mood) (defBody s_is_mood) (defScope s_is_mood) [] [] (A "is_mood") (Dd "is_mood")
  g_is_mood : mg "is_mood" = some (.ref (A "is_mood"))
  f_demand_mood : FunD K "demand_mood" "demand_mood" (defArgs s_demand_mood) (defBody s_demand_mood) (defScope s_demand_mood) [] [] (A "demand_mood") (Dd "demand_mood")
  g_demand_mood : mg "demand_mood" = some (.ref (A "demand_mood"))
  f_Desk_leave : FunD K "leave" "Desk.leave" (defArgs s_Desk_leave) (defBody s_Desk_leave) (defScope s_Desk_leave) [] [] (mA "leave") (mD "leave")
  m_Desk_leave : Meth K (xa "Desk") "leave" (mA "leave")
  f_Desk_undo : FunD K "undo" "Desk.undo" (defArgs s_Desk_undo) (defBody s_Desk_undo) (defScope s_Desk_undo) [] [] (mA "undo") (mD "undo")
  m_Desk_undo : Meth K (xa "Desk") "undo" (mA "undo")
  f_Desk_crowd : FunD K "crowd" "Desk.crowd" (defArgs s_Desk_crowd) (defBody s_Desk_crowd) (defScope s_Desk_crowd) [] [] (mA "crowd") (mD "crowd")
  m_Desk_crowd : Meth K (xa "Desk") "crowd" (mA "crowd")
  f_Desk_row : FunD K "row" "Desk.row" (defArgs s_Desk_row) (defBody s_Desk_row) (defScope s_Desk_row) [] [] (mA "row") (mD "row")
  m_Desk_row : Meth K (xa "Desk") "row" (mA "row")
  f_meetings : FunD K "meetings" "meetings" (defArgs s_meetings) (defBody s_meetings) (defScope s_meetings) [] [] (A "meetings") (Dd "meetings")
  g_meetings : mg "meetings" = some (.ref (A "meetings"))
  f_Desk_is_at_rest : FunD K "is_at_rest" "Desk.is_at_rest" (defArgs s_Desk_is_at_rest) (defBody s_Desk_is_at_rest) (defScope s_Desk_is_at_rest) [] [] (mA "is_at_rest") (mD "is_at_rest")
  m_Desk_is_at_rest : Meth K (xa "Desk") "is_at_rest" (mA "is_at_rest")
  f_Desk_text : FunD K "text" "Desk.text" (defArgs s_Desk_text) (defBody s_Desk_text) (defScope s_Desk_text) [] [] (mA "text") (mD "text")
  m_Desk_text : Meth K (xa "Desk") "text" (mA "text")
  f_demand_text : FunD K "demand_text" "demand_text" (defArgs s_demand_text) (defBody s_demand_text) (defScope s_demand_text) [] [] (A "demand_text") (Dd "demand_text")
  g_demand_text : mg "demand_text" = some (.ref (A "demand_text"))
  f_words_behind : FunD K "words_behind" "words_behind" (defArgs s_words_behind) (defBody s_words_behind) (defScope s_words_behind) [] [] (A "words_behind") (Dd "words_behind")
  g_words_behind : mg "words_behind" = some (.ref (A "words_behind"))
  f_moods_from : FunD K "moods_from" "moods_from" (defArgs s_moods_from) (defBody s_moods_from) (defScope s_moods_from) [] [] (A "moods_from") (Dd "moods_from")
  g_moods_from : mg "moods_from" = some (.ref (A "moods_from"))
  f_folk_from : FunD K "folk_from" "folk_from" (defArgs s_folk_from) (defBody s_folk_from) (defScope s_folk_from) [] [] (A "folk_from") (Dd "folk_from")
  g_folk_from : mg "folk_from" = some (.ref (A "folk_from"))
  t_folk_from : (Dd "folk_from").code = .ref (cA "folk_from") ∧ GxR.TabB base mg (cA "folk_from") (pA "folk_from") ∧ pA "folk_from" ∈ Ts
  f_kind_of : FunD K "kind_of" "kind_of" (defArgs s_kind_of) (defBody s_kind_of) (defScope s_kind_of) [] [] (A "kind_of") (Dd "kind_of")
  g_kind_of : mg "kind_of" = some (.ref (A "kind_of"))
  f_is_number : FunD K "is_number" "is_number" (defArgs s_is_number) (defBody s_is_number) (defScope s_is_number) [] [] (A "is_number") (Dd "is_number")
  g_is_number : mg "is_number" = some (.ref (A "is_number"))
  t_is_number : (Dd "is_number").code = .ref (cA "is_number") ∧ GxR.TabB base mg (cA "is_number") (pA "is_number") ∧ pA "is_number" ∈ Ts
  f_crowd_from : FunD K "crowd_from" "crowd_from" (defArgs s_crowd_from) (defBody s_crowd_from) (defScope s_crowd_from) [] [] (A "crowd_from") (Dd "crowd_from")
  g_crowd_from : mg "crowd_from" = some (.ref (A "crowd_from"))
  t_crowd_from : (Dd "crowd_from").code = .ref (cA "crowd_from") ∧ GxR.TabB base mg (cA "crowd_from") (pA "crowd_from") ∧ pA "crowd_from" ∈ Ts
  f_demand_no_more : FunD K "demand_no_more" "demand_no_more" (defArgs s_demand_no_more) (defBody s_demand_no_more) (defScope s_demand_no_more) [] [] (A "demand_no_more") (Dd "demand_no_more")
  g_demand_no_more : mg "demand_no_more" = some (.ref (A "demand_no_more"))
  f_desk_of : FunD K "desk_of" "desk_of" (defArgs s_desk_of) (defBody s_desk_of) (defScope s_desk_of) [] [] (A "desk_of") (Dd "desk_of")
  g_desk_of : mg "desk_of" = some (.ref (A "desk_of"))
  f__law_taken : FunD K "_law_taken" "_law_taken" (defArgs s__law_taken) (defBody s__law_taken) (defScope s__law_taken) [] [] (A "_law_taken") (Dd "_law_taken")
  g__law_taken : mg "_law_taken" = some (.ref (A "_law_taken"))
  f__law_pick : FunD K "_law_pick" "_law_pick" (defArgs s__law_pick) (defBody s__law_pick) (defScope s__law_pick) [] [] (A "_law_pick") (Dd "_law_pick")
  g__law_pick : mg "_law_pick" = some (.ref (A "_law_pick"))
  f__law_alike : FunD K "_law_alike" "_law_alike" (defArgs s__law_alike) (defBody s__law_alike) (defScope s__law_alike) [] [] (A "_law_alike") (Dd "_law_alike")
  g__law_alike : mg "_law_alike" = some (.ref (A "_law_alike"))
  f__law_two : FunD K "_law_two" "_law_two" (defArgs s__law_two) (defBody s__law_two) (defScope s__law_two) [] [] (A "_law_two") (Dd "_law_two")
  g__law_two : mg "_law_two" = some (.ref (A "_law_two"))
  f__law_moods : FunD K "_law_moods" "_law_moods" (defArgs s__law_moods) (defBody s__law_moods) (defScope s__law_moods) [] [] (A "_law_moods") (Dd "_law_moods")
  g__law_moods : mg "_law_moods" = some (.ref (A "_law_moods"))
  f__law_weight : FunD K "_law_weight" "_law_weight" (defArgs s__law_weight) (defBody s__law_weight) (defScope s__law_weight) [] [] (A "_law_weight") (Dd "_law_weight")
  g__law_weight : mg "_law_weight" = some (.ref (A "_law_weight"))
  f__law_folk : FunD K "_law_folk" "_law_folk" (defArgs s__law_folk) (defBody s__law_folk) (defScope s__law_folk) [] [] (A "_law_folk") (Dd "_law_folk")
  g__law_folk : mg "_law_folk" = some (.ref (A "_law_folk"))
  f__law_counts : FunD K "_law_counts" "_law_counts" (defArgs s__law_counts) (defBody s__law_counts) (defScope s__law_counts) [] [] (A "_law_counts") (Dd "_law_counts")
  g__law_counts : mg "_law_counts" = some (.ref (A "_law_counts"))
  f__law_usable : FunD K "_law_usable" "_law_usable" (defArgs s__law_usable) (defBody s__law_usable) (defScope s__law_usable) [] [] (A "_law_usable") (Dd "_law_usable")
  g__law_usable : mg "_law_usable" = some (.ref (A "_law_usable"))
  f__law_behind : FunD K "_law_behind" "_law_behind" (defArgs s__law_behind) (defBody s__law_behind) (defScope s__law_behind) [] [] (A "_law_behind") (Dd "_law_behind")
  g__law_behind : mg "_law_behind" = some (.ref (A "_law_behind"))
  f__law_crowd : FunD K "_law_crowd" "_law_crowd" (defArgs s__law_crowd) (defBody s__law_crowd) (defScope s__law_crowd) [] [] (A "_law_crowd") (Dd "_law_crowd")
  g__law_crowd : mg "_law_crowd" = some (.ref (A "_law_crowd"))
  f_law : FunD K "law" "law" (defArgs s_law) (defBody s_law) (defScope s_law) [] [] (A "law") (Dd "law")
  g_law : mg "law" = some (.ref (A "law"))
section
variable {P : Program} {w : World} {K : PySem.W.Frag} {mg : Str → Option Value} {base : Heap} {Ts : List Addr} {xa A cA pA mA : Str → Addr} {Dd mD : Str → FuncData}
theorem exf {X : Cx} {C : Ct} {x : Str} (h : (∃ bmB B newId initId, ExcBaseFacts B newId initId bmB ∧ PySem.W.excIn X.K (C.xa x) bmB newId = true) ∧ X.mg x = some (.ref (C.xa x)) ∧ PySem.W.keepIn X.K (.ref (C.xa x)) = true ∧ PySem.W.subIn X.K (.ref (C.xa x)) (.type "BaseException") = some true ∧ PySem.W.typeIn X.K (.ref (C.xa x)) = some (.type "type") ∧ PySem.W.exmOne X.K (.ref (C.xa x)) (.ref (C.xa x)) = some true) : ExF X C x := ⟨h.1, h.2.1, h.2.2.1, raises_own h.2.2.2.1 h.2.2.2.2.1⟩
abbrev TT (K : PySem.W.Frag) (Ts : List Addr) (xa : Str → Addr) : Ct := ⟨K, Ts, xa, fun _ _ => .own 0, [], fun _ h => by cases h⟩
theorem b_is_pair (T : Txt K mg base Ts xa A cA pA Dd mA mD) : Binds K (Dd "is_pair") ["value"] [] := T.f_is_pair.bindsN fun _ _ _ _ _ _ us hl => match us, hl with | [_], _ => rfl
theorem b_are_moods (T : Txt K mg base Ts xa A cA pA Dd mA mD) : Binds K (Dd "are_moods") ["value"] [] := T.f_are_moods.bindsN fun _ _ _ _ _ _ us hl => match us, hl with | [_], _ => rfl
theorem b_are_two (T : Txt K mg base Ts xa A cA pA Dd mA mD) : Binds K (Dd "are_two") ["moods", "value"] [] := T.f_are_two.bindsN fun _ _ _ _ _ _ us hl => match us, hl with | [_, _], _ => rfl
theorem b_is_rule (T : Txt K mg base Ts xa A cA pA Dd mA mD) : Binds K (Dd "is_rule") ["moods", "value"] [] := T.f_is_rule.bindsN fun _ _ _ _ _ _ us hl => match us, hl with | [_, _], _ => rfl
theorem b_are_rules (T : Txt K mg base Ts xa A cA pA Dd mA mD) : Binds K (Dd "are_rules") ["moods", "value"] [] := T.f_are_rules.bindsN fun _ _ _ _ _ _ us hl => match us, hl with | [_, _], _ => rfl
theorem b_is_folk (T : Txt K mg base Ts xa A cA pA Dd mA mD) : Binds K (Dd "is_folk") ["value"] [] := T.f_is_folk.bindsN fun _ _ _ _ _ _ us hl => match us, hl with | [_], _ => rfl
theorem b_demand_folk (T : Txt K mg base Ts xa A cA pA Dd mA mD) : Binds K (Dd "demand_folk") ["value"] [] := T.f_demand_folk.bindsN fun _ _ _ _ _ _ us hl => match us, hl with | [_], _ => rfl
theorem b_is_integer (T : Txt K mg base Ts xa A cA pA Dd mA mD) : Binds K (Dd "is_integer") ["value"] [] := T.f_is_integer.bindsN fun _ _ _ _ _ _ us hl => match us, hl with | [_], _ => rfl
theorem b_is_crowd (T : Txt K mg base Ts xa A cA pA Dd mA mD) : Binds K (Dd "is_crowd") ["folk", "value"] [] := T.f_is_crowd.bindsN fun _ _ _ _ _ _ us hl => match us, hl with | [_, _], _ => rfl
theorem b_demand_crowd (T : Txt K mg base Ts xa A cA pA Dd mA mD) : Binds K (Dd "demand_crowd") ["folk", "value"] [] := T.f_demand_crowd.bindsN fun _ _ _ _ _ _ us hl => match us, hl with | [_, _], _ => rfl
theorem b_Desk___init__ (T : Txt K mg base Ts xa A cA pA Dd mA mD) : Binds K (mD "__init__") ["self", "folk", "crowd"] [] := T.f_Desk___init__.bindsN fun _ _ _ _ _ _ us hl => match us, hl with | [_, _, _], _ => rfl
theorem b_demand_room (T : Txt K mg base Ts xa A cA pA Dd mA mD) : Binds K (Dd "demand_room") ["crowd"] [] := T.f_demand_room.bindsN fun _ _ _ _ _ _ us hl => match us, hl with | [_], _ => rfl
theorem b_numbers_of (T : Txt K mg base Ts xa A cA pA Dd mA mD) : Binds K (Dd "numbers_of") ["moods", "two"] [] := T.f_numbers_of.bindsN fun _ _ _ _ _ _ us hl => match us, hl with | [_, _], _ => rfl
theorem b_can_be_used (T : Txt K mg base Ts xa A cA pA Dd mA mD) : Binds K (Dd "can_be_used") ["folk", "crowd", "rule"] [] := T.f_can_be_used.bindsN fun _ _ _ _ _ _ us hl => match us, hl with | [_, _, _], _ => rfl
theorem b_behind_rule (T : Txt K mg base Ts xa A cA pA Dd mA mD) : Binds K (Dd "behind_rule") ["folk", "crowd", "rule"] [] := T.f_behind_rule.bindsN fun _ _ _ _ _ _ us hl => match us, hl with | [_, _, _], _ => rfl
theorem b_met (T : Txt K mg base Ts xa A cA pA Dd mA mD) : Binds K (Dd "met") ["folk", "crowd", "rule"] [] := T.f_met.bindsN fun _ _ _ _ _ _ us hl => match us, hl with | [_, _, _], _ => rfl
theorem b_Desk__turn (T : Txt K mg base Ts xa A cA pA Dd mA mD) : Binds K (mD "_turn") ["self", "deed", "behind"] [] := T.f_Desk__turn.bindsN fun _ _ _ _ _ _ us hl => match us, hl with | [_, _, _], _ => rfl
theorem b_Desk_meet (T : Txt K mg base Ts xa A cA pA Dd mA mD) : Binds K (mD "meet") ["self", "rule"] [] := T.f_Desk_meet.bindsN fun _ _ _ _ _ _ us hl => match us, hl with | [_, _], _ => rfl
theorem b_with_more (T : Txt K mg base Ts xa A cA pA Dd mA mD) : Binds K (Dd "with_more") ["crowd", "more", "times"] [] := T.f_with_more.bindsN fun _ _ _ _ _ _ us hl => match us, hl with | [_, _, _], _ => rfl
theorem b_Desk_join (T : Txt K mg base Ts xa A cA pA Dd mA mD) : Binds K (mD "join") ["self", "crowd"] [] := T.f_Desk_join.bindsN fun _ _ _ _ _ _ us hl => match us, hl with | [_, _], _ => rfl
theorem b_is_mood (T : Txt K mg base Ts xa A cA pA Dd mA mD) : Binds K (Dd "is_mood") ["moods", "value"] [] := T.f_is_mood.bindsN fun _ _ _ _ _ _ us hl => match us, hl with | [_, _], _ => rfl
theorem b_demand_mood (T : Txt K mg base Ts xa A cA pA Dd mA mD) : Binds K (Dd "demand_mood") ["folk", "value"] [] := T.f_demand_mood.bindsN fun _ _ _ _ _ _ us hl => match us, hl with | [_, _], _ => rfl
theorem b_Desk_leave (T : Txt K mg base Ts xa A cA pA Dd mA mD) : Binds K (mD "leave") ["self", "mood"] [] := T.f_Desk_leave.bindsN fun _ _ _ _ _ _ us hl => match us, hl with | [_, _], _ => rfl
theorem b_Desk_undo (T : Txt K mg base Ts xa A cA pA Dd mA mD) : Binds K (mD "undo") ["self"] [] := T.f_Desk_undo.bindsN fun _ _ _ _ _ _ us hl => match us, hl with | [_], _ => rfl
theorem b_Desk_crowd (T : Txt K mg base Ts xa A cA pA Dd mA mD) : Binds K (mD "crowd") ["self"] [] := T.f_Desk_crowd.bindsN fun _ _ _ _ _ _ us hl => match us, hl with | [_], _ => rfl
theorem b_Desk_row (T : Txt K mg base Ts xa A cA pA Dd mA mD) : Binds K (mD "row") ["self"] [] := T.f_Desk_row.bindsN fun _ _ _ _ _ _ us hl => match us, hl with | [_], _ => rfl
theorem b_meetings (T : Txt K mg base Ts xa A cA pA Dd mA mD) : Binds K (Dd "meetings") ["folk", "crowd"] [] := T.f_meetings.bindsN fun _ _ _ _ _ _ us hl => match us, hl with | [_, _], _ => rfl
theorem b_Desk_is_at_rest (T : Txt K mg base Ts xa A cA pA Dd mA mD) : Binds K (mD "is_at_rest") ["self"] [] := T.f_Desk_is_at_rest.bindsN fun _ _ _ _ _ _ us hl => match us, hl with | [_], _ => rfl
theorem b_Desk_text (T : Txt K mg base Ts xa A cA pA Dd mA mD) : Binds K (mD "text") ["self"] [] := T.f_Desk_text.bindsN fun _ _ _ _ _ _ us hl => match us, hl with | [_], _ => rfl
theorem b_demand_text (T : Txt K mg base Ts xa A cA pA Dd mA mD) : Binds K (Dd "demand_text") ["value"] [] := T.f_demand_text.bindsN fun _ _ _ _ _ _ us hl => match us, hl with | [_], _ => rfl
theorem b_words_behind (T : Txt K mg base Ts xa A cA pA Dd mA mD) : Binds K (Dd "words_behind") ["lines", "at", "key"] [] := T.f_words_behind.bindsN fun _ _ _ _ _ _ us hl => match us, hl with | [_, _, _], _ => rfl
theorem b_moods_from (T : Txt K mg base Ts xa A cA pA Dd mA mD) : Binds K (Dd "moods_from") ["lines"] [] := T.f_moods_from.bindsN fun _ _ _ _ _ _ us hl => match us, hl with | [_], _ => rfl
theorem b_folk_from (T : Txt K mg base Ts xa A cA pA Dd mA mD) : Binds K (Dd "folk_from") ["lines"] [] := T.f_folk_from.bindsN fun _ _ _ _ _ _ us hl => match us, hl with | [_], _ => rfl
theorem b_kind_of (T : Txt K mg base Ts xa A cA pA Dd mA mD) : Binds K (Dd "kind_of") ["sign"] [] := T.f_kind_of.bindsN fun _ _ _ _ _ _ us hl => match us, hl with | [_], _ => rfl
theorem b_is_number (T : Txt K mg base Ts xa A cA pA Dd mA mD) : Binds K (Dd "is_number") ["text", "most"] [] := T.f_is_number.bindsN fun _ _ _ _ _ _ us hl => match us, hl with | [_, _], _ => rfl
theorem b_crowd_from (T : Txt K mg base Ts xa A cA pA Dd mA mD) : Binds K (Dd "crowd_from") ["folk", "lines"] [] := T.f_crowd_from.bindsN fun _ _ _ _ _ _ us hl => match us, hl with | [_, _], _ => rfl
theorem b_demand_no_more (T : Txt K mg base Ts xa A cA pA Dd mA mD) : Binds K (Dd "demand_no_more") ["lines"] [] := T.f_demand_no_more.bindsN fun _ _ _ _ _ _ us hl => match us, hl with | [_], _ => rfl
theorem b_desk_of (T : Txt K mg base Ts xa A cA pA Dd mA mD) : Binds K (Dd "desk_of") ["text"] [] := T.f_desk_of.bindsN fun _ _ _ _ _ _ us hl => match us, hl with | [_], _ => rfl
theorem b__law_taken (T : Txt K mg base Ts xa A cA pA Dd mA mD) : Binds K (Dd "_law_taken") ["row", "many"] [] := T.f__law_taken.bindsN fun _ _ _ _ _ _ us hl => match us, hl with | [_, _], _ => rfl
theorem b__law_pick (T : Txt K mg base Ts xa A cA pA Dd mA mD) : Binds K (Dd "_law_pick") ["row", "things"] [] := T.f__law_pick.bindsN fun _ _ _ _ _ _ us hl => match us, hl with | [_, _], _ => rfl
theorem b__law_alike (T : Txt K mg base Ts xa A cA pA Dd mA mD) : Binds K (Dd "_law_alike") ["found", "due"] [] := T.f__law_alike.bindsN fun _ _ _ _ _ _ us hl => match us, hl with | [_, _], _ => rfl
theorem b__law_two (T : Txt K mg base Ts xa A cA pA Dd mA mD) : Binds K (Dd "_law_two") ["row", "moods"] [] := T.f__law_two.bindsN fun _ _ _ _ _ _ us hl => match us, hl with | [_, _], _ => rfl
theorem b__law_moods (T : Txt K mg base Ts xa A cA pA Dd mA mD) : Binds K (Dd "_law_moods") ["row"] [] := T.f__law_moods.bindsN fun _ _ _ _ _ _ us hl => match us, hl with | [_], _ => rfl
theorem b__law_weight (T : Txt K mg base Ts xa A cA pA Dd mA mD) : Binds K (Dd "_law_weight") ["moods", "told", "text"] [] := T.f__law_weight.bindsN fun _ _ _ _ _ _ us hl => match us, hl with | [_, _, _], _ => rfl
theorem b__law_folk (T : Txt K mg base Ts xa A cA pA Dd mA mD) : Binds K (Dd "_law_folk") ["row", "most"] [] := T.f__law_folk.bindsN fun _ _ _ _ _ _ us hl => match us, hl with | [_, _], _ => rfl
theorem b__law_counts (T : Txt K mg base Ts xa A cA pA Dd mA mD) : Binds K (Dd "_law_counts") ["moods", "text"] [] := T.f__law_counts.bindsN fun _ _ _ _ _ _ us hl => match us, hl with | [_, _], _ => rfl
theorem b__law_usable (T : Txt K mg base Ts xa A cA pA Dd mA mD) : Binds K (Dd "_law_usable") ["folk", "crowd"] [] := T.f__law_usable.bindsN fun _ _ _ _ _ _ us hl => match us, hl with | [_, _], _ => rfl
theorem b__law_behind (T : Txt K mg base Ts xa A cA pA Dd mA mD) : Binds K (Dd "_law_behind") ["folk", "crowd", "rule"] [] := T.f__law_behind.bindsN fun _ _ _ _ _ _ us hl => match us, hl with | [_, _, _], _ => rfl
theorem b__law_crowd (T : Txt K mg base Ts xa A cA pA Dd mA mD) : Binds K (Dd "_law_crowd") ["row", "folk", "most"] [] := T.f__law_crowd.bindsN fun _ _ _ _ _ _ us hl => match us, hl with | [_, _, _], _ => rfl
theorem ok_is_pair (T : Txt K mg base Ts xa A cA pA Dd mA mD) : FnOk P w K mg base (L2.CX P w) 2 (A "is_pair") (Dd "is_pair") ["value"] (spD (TT K Ts xa) 1 F_is_pair) := by
  have n_isinstance := T.n_isinstance
  have n_len := T.n_len
  have n_tuple := T.n_tuple
  refine def_ok (N := ["value"]) (k := 1) (fs := fs_is_pair) (Pc := fun c => True) T.f_is_pair sc_is_pair rfl rfl trivial fun cdv A outer s H E hc hr => ?_
  have nd := sc_is_pair.nd
  exact (dss_one (ds_ret (de_and (de_isi rfl n_isinstance n_tuple (by decide +kernel) rfl (de_var 0)) (de_one (de_eq (room_u65 hr) (de_len rfl n_len (da_cons (de_var 0) da_nil)) de_int)))))
theorem ok_are_moods (T : Txt K mg base Ts xa A cA pA Dd mA mD) : FnOk P w K mg base (L2.CX P w) 3 (A "are_moods") (Dd "are_moods") ["value"] (spD (TT K Ts xa) 1 F_are_moods) := by
  have c_MOST_MOODS := T.c_MOST_MOODS
  have n_all := T.n_all
  have n_isinstance := T.n_isinstance
  have n_len := T.n_len
  have n_range := T.n_range
  have n_str := T.n_str
  obtain ⟨hcd, TB, hP⟩ := T.t_are_moods
  refine def_ok (N := ["value", "at", "mood"]) (k := 2) (fs := fs_are_moods) (Pc := fun c => c = .ref (cA "are_moods")) T.f_are_moods sc_are_moods rfl rfl hcd fun cdv A outer s H E hc hr => ?_
  have nd := sc_are_moods.nd
  subst hc
  exact (dss_cons (ds_if (DW.dt (dw_or (dt_not (dt_val (de_isi rfl n_isinstance n_str (by decide +kernel) rfl (de_var 0)))) (dw_or1 (dt_not (dt_lele de_int (de_len rfl n_len (da_cons (de_var 0) da_nil)) (de_globI c_MOST_MOODS.choose_spec)))))) (dss_one (ds_ret de_bl)) dss_nil) (dss_cons (ds_if (dt_not (dt_val (de_quant (k := 1) (k0 := true) (own := [("mood", 2)]) rfl (hr.mono (by decide)) nd rfl rfl n_all TB rfl hP (di_seq (de_var 0)) (by kernel_rfl) (fun _ _ _ _ _ _ _ hr1 => (dg_name 2 nd)) (fun _ _ _ _ _ _ _ hr1 => (de_lele de_str (de_var 2) de_str))))) (dss_one (ds_ret de_bl)) dss_nil) (dss_one (ds_ret (de_quant (k := 1) (k0 := true) (own := [("at", 1)]) rfl (hr.mono (by decide)) nd rfl rfl n_all TB rfl hP (di_rng1 rfl n_range (da_cons (de_sub (de_len rfl n_len (da_cons (de_var 0) da_nil)) de_int) da_nil)) (by kernel_rfl) (fun _ _ _ _ _ _ _ hr2 => (dg_name 1 nd)) (fun _ _ _ _ _ _ _ hr2 => (de_lt (de_item (de_var 0) (de_var 1)) (de_item (de_var 0) (de_plus (de_var 1) de_int)))))))))
theorem ok_are_two (T : Txt K mg base Ts xa A cA pA Dd mA mD) : FnOk P w K mg base (L2.CX P w) 2 (A "are_two") (Dd "are_two") ["moods", "value"] (spD (TT K Ts xa) 2 F_are_two) := by
  have n_isinstance := T.n_isinstance
  have n_len := T.n_len
  have n_str := T.n_str
  refine def_ok (N := ["moods", "value"]) (k := 1) (fs := fs_are_two) (Pc := fun c => True) T.f_are_two sc_are_two rfl rfl trivial fun cdv A outer s H E hc hr => ?_
  have nd := sc_are_two.nd
  exact (dss_cons (ds_if (DW.dt (dw_or (dt_not (dt_val (de_isi rfl n_isinstance n_str (by decide +kernel) rfl (de_var 1)))) (dw_or1 (dt_ne (room_u65 hr) (de_len rfl n_len (da_cons (de_var 1) da_nil)) de_int)))) (dss_one (ds_ret de_bl)) dss_nil) (dss_one (ds_ret (de_and (de_in (room_u65 hr) (de_item (de_var 1) de_int) (de_var 0)) (de_and (de_in (room_u65 hr) (de_item (de_var 1) de_int) (de_var 0)) (de_one (de_le (de_item (de_var 1) de_int) (de_item (de_var 1) de_int))))))))
theorem ok_is_rule (T : Txt K mg base Ts xa A cA pA Dd mA mD) : FnOk P w K mg base (L2.CX P w) 3 (A "is_rule") (Dd "is_rule") ["moods", "value"] (spD (TT K Ts xa) 2 F_is_rule) := by
  have b_are_two := b_are_two T
  have b_is_pair := b_is_pair T
  have g_are_two := T.g_are_two
  have g_is_pair := T.g_is_pair
  have k_are_two := T.f_are_two.kp
  have k_is_pair := T.f_is_pair.kp
  refine def_ok (N := ["moods", "value"]) (k := 2) (fs := fs_is_rule) (Pc := fun c => True) T.f_is_rule sc_is_rule rfl rfl trivial fun cdv A outer s H E hc hr => ?_
  have nd := sc_is_rule.nd
  exact (dss_cons (ds_if (dt_not (dt_val (de_call (ok_is_pair T) (hr.mono (by decide)) g_is_pair k_is_pair b_is_pair (takes_of rfl rfl rfl rfl) (da_cons (de_var 1) da_nil)))) (dss_one (ds_ret de_bl)) dss_nil) (dss_one (ds_ret (de_and (de_call (ok_are_two T) (hr.mono (by decide)) g_are_two k_are_two b_are_two (takes_of rfl rfl rfl rfl) (da_cons (de_var 0) (da_cons (de_item (de_var 1) de_int) da_nil))) (de_and (de_call (ok_are_two T) (hr.mono (by decide)) g_are_two k_are_two b_are_two (takes_of rfl rfl rfl rfl) (da_cons (de_var 0) (da_cons (de_item (de_var 1) de_int) da_nil))) (de_one (de_ne (room_u65 hr) (de_item (de_var 1) de_int) (de_item (de_var 1) de_int))))))))
theorem ok_are_rules (T : Txt K mg base Ts xa A cA pA Dd mA mD) : FnOk P w K mg base (L2.CX P w) 5 (A "are_rules") (Dd "are_rules") ["moods", "value"] (spD (TT K Ts xa) 2 F_are_rules) := by
  have b_is_rule := b_is_rule T
  have c_MOST_RULES := T.c_MOST_RULES
  have g_is_rule := T.g_is_rule
  have k_is_rule := T.f_is_rule.kp
  have n_all := T.n_all
  have n_isinstance := T.n_isinstance
  have n_len := T.n_len
  have n_set := T.n_set
  have n_tuple := T.n_tuple
  obtain ⟨hcd, TB, hP⟩ := T.t_are_rules
  refine def_ok (N := ["moods", "value", "rule"]) (k := 4) (fs := fs_are_rules) (Pc := fun c => c = .ref (cA "are_rules")) T.f_are_rules sc_are_rules rfl rfl hcd fun cdv A outer s H E hc hr => ?_
  have nd := sc_are_rules.nd
  subst hc
  exact (dss_cons (ds_if (DW.dt (dw_or (dt_not (dt_val (de_isi rfl n_isinstance n_tuple (by decide +kernel) rfl (de_var 1)))) (dw_or1 (dt_gt (de_len rfl n_len (da_cons (de_var 1) da_nil)) (de_globI c_MOST_RULES.choose_spec))))) (dss_one (ds_ret de_bl)) dss_nil) (dss_one (ds_ret (de_and (de_quant (k := 3) (k0 := true) (own := [("rule", 2)]) rfl (hr.mono (by decide)) nd rfl rfl n_all TB rfl hP (di_seq (de_var 1)) (by kernel_rfl) (fun _ _ _ _ _ _ _ hr1 => (dg_name 2 nd)) (fun _ _ _ _ _ _ _ hr1 => (de_call (ok_is_rule T) (hr1.mono (by decide)) g_is_rule k_is_rule b_is_rule takes0 (da_cons (de_var 0) (da_cons (de_var 2) da_nil))))) (de_one (de_eq (room_u65 hr) (de_lenSet rfl rfl rfl (room_u65 hr) n_len n_set (de_var 1)) (de_len rfl n_len (da_cons (de_var 1) da_nil))))))))
theorem ok_is_folk (T : Txt K mg base Ts xa A cA pA Dd mA mD) : FnOk P w K mg base (L2.CX P w) 6 (A "is_folk") (Dd "is_folk") ["value"] (spD (TT K Ts xa) 1 F_is_folk) := by
  have b_are_moods := b_are_moods T
  have b_are_rules := b_are_rules T
  have b_is_pair := b_is_pair T
  have g_are_moods := T.g_are_moods
  have g_are_rules := T.g_are_rules
  have g_is_pair := T.g_is_pair
  have k_are_moods := T.f_are_moods.kp
  have k_are_rules := T.f_are_rules.kp
  have k_is_pair := T.f_is_pair.kp
  refine def_ok (N := ["value"]) (k := 5) (fs := fs_is_folk) (Pc := fun c => True) T.f_is_folk sc_is_folk rfl rfl trivial fun cdv A outer s H E hc hr => ?_
  have nd := sc_is_folk.nd
  exact (dss_one (ds_ret (de_and (de_call (ok_is_pair T) (hr.mono (by decide)) g_is_pair k_is_pair b_is_pair (takes_of rfl rfl rfl rfl) (da_cons (de_var 0) da_nil)) (de_and (de_call (ok_are_moods T) (hr.mono (by decide)) g_are_moods k_are_moods b_are_moods (takes_of rfl rfl rfl rfl) (da_cons (de_item (de_var 0) de_int) da_nil)) (de_one (de_call (ok_are_rules T) (hr.mono (by decide)) g_are_rules k_are_rules b_are_rules (takes_of rfl rfl rfl rfl) (da_cons (de_item (de_var 0) de_int) (da_cons (de_item (de_var 0) de_int) da_nil))))))))
theorem ok_demand_folk (T : Txt K mg base Ts xa A cA pA Dd mA mD) : FnOk P w K mg base (L2.CX P w) 7 (A "demand_folk") (Dd "demand_folk") ["value"] (spD (TT K Ts xa) 1 F_demand_folk) := by
  have b_is_folk := b_is_folk T
  have g_is_folk := T.g_is_folk
  have k_is_folk := T.f_is_folk.kp
  have q_x_BadFolk := T.x_BadFolk
  refine def_ok (N := ["value"]) (k := 6) (fs := fs_demand_folk) (Pc := fun c => True) T.f_demand_folk sc_demand_folk rfl rfl trivial fun cdv A outer s H E hc hr => ?_
  have nd := sc_demand_folk.nd
  exact (dss_one (ds_if (dt_not (dt_val (de_call (ok_is_folk T) (hr.mono (by decide)) g_is_folk k_is_folk b_is_folk (takes_of rfl rfl rfl rfl) (da_cons (de_var 0) da_nil)))) (dss_one (ds_raise0 rfl (takes_of rfl rfl rfl rfl) (exf q_x_BadFolk))) dss_nil))
theorem ok_is_integer (T : Txt K mg base Ts xa A cA pA Dd mA mD) : FnOk P w K mg base (L2.CX P w) 2 (A "is_integer") (Dd "is_integer") ["value"] (spD (TT K Ts xa) 1 F_is_integer) := by
  have n_bool := T.n_bool
  have n_int := T.n_int
  have n_isinstance := T.n_isinstance
  refine def_ok (N := ["value"]) (k := 1) (fs := fs_is_integer) (Pc := fun c => True) T.f_is_integer sc_is_integer rfl rfl trivial fun cdv A outer s H E hc hr => ?_
  have nd := sc_is_integer.nd
  exact (dss_one (ds_ret (de_and (de_isi rfl n_isinstance n_int (by decide +kernel) rfl (de_var 0)) (de_one (de_not (de_isi rfl n_isinstance n_bool (by decide +kernel) rfl (de_var 0)))))))
theorem ok_is_crowd (T : Txt K mg base Ts xa A cA pA Dd mA mD) : FnOk P w K mg base (L2.CX P w) 4 (A "is_crowd") (Dd "is_crowd") ["folk", "value"] (spD (TT K Ts xa) 2 F_is_crowd) := by
  have b_is_integer := b_is_integer T
  have c_MOST_IN_A_MOOD := T.c_MOST_IN_A_MOOD
  have g_is_integer := T.g_is_integer
  have k_is_integer := T.f_is_integer.kp
  have n_all := T.n_all
  have n_isinstance := T.n_isinstance
  have n_len := T.n_len
  have n_tuple := T.n_tuple
  obtain ⟨hcd, TB, hP⟩ := T.t_is_crowd
  refine def_ok (N := ["folk", "value", "many"]) (k := 3) (fs := fs_is_crowd) (Pc := fun c => c = .ref (cA "is_crowd")) T.f_is_crowd sc_is_crowd rfl rfl hcd fun cdv A outer s H E hc hr => ?_
  have nd := sc_is_crowd.nd
  subst hc
  exact (dss_cons (ds_if (DW.dt (dw_or (dt_not (dt_val (de_isi rfl n_isinstance n_tuple (by decide +kernel) rfl (de_var 1)))) (dw_or1 (dt_ne (room_u65 hr) (de_len rfl n_len (da_cons (de_var 1) da_nil)) (de_len rfl n_len (da_cons (de_item (de_var 0) de_int) da_nil)))))) (dss_one (ds_ret de_bl)) dss_nil) (dss_one (ds_ret (de_quant (k := 2) (k0 := true) (own := [("many", 2)]) rfl (hr.mono (by decide)) nd rfl rfl n_all TB rfl hP (di_seq (de_var 1)) (by kernel_rfl) (fun _ _ _ _ _ _ _ hr1 => (dg_name 2 nd)) (fun _ _ _ _ _ _ _ hr1 => (de_and (de_call (ok_is_integer T) (hr1.mono (by decide)) g_is_integer k_is_integer b_is_integer takes0 (da_cons (de_var 2) da_nil)) (de_one (de_lele de_int (de_var 2) (de_globI c_MOST_IN_A_MOOD.choose_spec)))))))))
theorem ok_demand_crowd (T : Txt K mg base Ts xa A cA pA Dd mA mD) : FnOk P w K mg base (L2.CX P w) 5 (A "demand_crowd") (Dd "demand_crowd") ["folk", "value"] (spD (TT K Ts xa) 2 F_demand_crowd) := by
  have b_is_crowd := b_is_crowd T
  have g_is_crowd := T.g_is_crowd
  have k_is_crowd := T.f_is_crowd.kp
  have q_x_BadCrowd := T.x_BadCrowd
  refine def_ok (N := ["folk", "value"]) (k := 4) (fs := fs_demand_crowd) (Pc := fun c => True) T.f_demand_crowd sc_demand_crowd rfl rfl trivial fun cdv A outer s H E hc hr => ?_
  have nd := sc_demand_crowd.nd
  exact (dss_one (ds_if (dt_not (dt_val (de_call (ok_is_crowd T) (hr.mono (by decide)) g_is_crowd k_is_crowd b_is_crowd (takes_of rfl rfl rfl rfl) (da_cons (de_var 0) (da_cons (de_var 1) da_nil))))) (dss_one (ds_raise0 rfl (takes_of rfl rfl rfl rfl) (exf q_x_BadCrowd))) dss_nil))
theorem ok_Desk___init__ (T : Txt K mg base Ts xa A cA pA Dd mA mD) : FnOk P w K mg base (L2.CX P w) 8 (mA "__init__") (mD "__init__") ["self", "folk", "crowd"] (spD (TT K Ts xa) 3 F_Desk___init__) := by
  have b_demand_crowd := b_demand_crowd T
  have b_demand_folk := b_demand_folk T
  have cl_Desk := T.cl_Desk
  have g_demand_crowd := T.g_demand_crowd
  have g_demand_folk := T.g_demand_folk
  have k_demand_crowd := T.f_demand_crowd.kp
  have k_demand_folk := T.f_demand_folk.kp
  refine def_okK (N := ["self", "folk", "crowd"]) (k := 7) (fs := fs_Desk___init__) (Pc := fun c => True) T.f_Desk___init__ sc_Desk___init__ rfl rfl trivial fun cdv A outer s H E hc hr => ?_
  have nd := sc_Desk___init__.nd
  exact (dss_cons (ds_expr (de_call (ok_demand_folk T) (hr.mono (by decide)) g_demand_folk k_demand_folk b_demand_folk (takes_of rfl rfl rfl rfl) (da_cons (de_var 1) da_nil))) (dss_cons (ds_expr (de_call (ok_demand_crowd T) (hr.mono (by decide)) g_demand_crowd k_demand_crowd b_demand_crowd (takes_of rfl rfl rfl rfl) (da_cons (de_var 1) (da_cons (de_var 2) da_nil)))) (dss_cons (ds_fld cl_Desk List.mem_cons_self (de_var 0) (de_var 1)) (dss_cons (ds_fld cl_Desk (List.mem_cons_of_mem _ List.mem_cons_self) (de_var 0) (de_var 2)) (dss_one (ds_fld cl_Desk (List.mem_cons_of_mem _ (List.mem_cons_of_mem _ List.mem_cons_self)) (de_var 0) (de_lstM da_nil)))))))
theorem ok_demand_room (T : Txt K mg base Ts xa A cA pA Dd mA mD) : FnOk P w K mg base (L2.CX P w) 3 (A "demand_room") (Dd "demand_room") ["crowd"] (spD (TT K Ts xa) 1 F_demand_room) := by
  have c_MOST_IN_A_MOOD := T.c_MOST_IN_A_MOOD
  have n_any := T.n_any
  have q_x_TooGreat := T.x_TooGreat
  obtain ⟨hcd, TB, hP⟩ := T.t_demand_room
  refine def_ok (N := ["crowd", "many"]) (k := 2) (fs := fs_demand_room) (Pc := fun c => c = .ref (cA "demand_room")) T.f_demand_room sc_demand_room rfl rfl hcd fun cdv A outer s H E hc hr => ?_
  have nd := sc_demand_room.nd
  subst hc
  exact (dss_one (ds_if (dt_val (de_quant (k := 1) (k0 := false) (own := [("many", 1)]) rfl (hr.mono (by decide)) nd rfl rfl n_any TB rfl hP (di_seq (de_var 0)) (by kernel_rfl) (fun _ _ _ _ _ _ _ hr1 => (dg_name 1 nd)) (fun _ _ _ _ _ _ _ hr1 => (de_gt (de_var 1) (de_globI c_MOST_IN_A_MOOD.choose_spec))))) (dss_one (ds_raise0 rfl (takes_of rfl rfl rfl rfl) (exf q_x_TooGreat))) dss_nil))
theorem ok_numbers_of (T : Txt K mg base Ts xa A cA pA Dd mA mD) : FnOk P w K mg base (L2.CX P w) 2 (A "numbers_of") (Dd "numbers_of") ["moods", "two"] (spD (TT K Ts xa) 2 F_numbers_of) := by
  have n_tuple := T.n_tuple
  refine def_ok (N := ["moods", "two", "mood"]) (k := 1) (fs := fs_numbers_of) (Pc := fun c => True) T.f_numbers_of sc_numbers_of rfl rfl trivial fun cdv A outer s H E hc hr => ?_
  have nd := sc_numbers_of.nd
  exact (dss_one (ds_ret (de_tuple rfl n_tuple (da_cons (de_lc (own := [("mood", 2)]) rfl nd (di_seq (de_var 0)) (by kernel_rfl) (fun _ _ _ _ _ => (dg_name 2 nd)) (fun _ _ _ _ _ => dts_nil) (fun _ _ _ _ _ => (de_count rfl (de_var 1) (de_var 2)))) da_nil))))
theorem ok_can_be_used (T : Txt K mg base Ts xa A cA pA Dd mA mD) : FnOk P w K mg base (L2.CX P w) 3 (A "can_be_used") (Dd "can_be_used") ["folk", "crowd", "rule"] (spD (TT K Ts xa) 3 F_can_be_used) := by
  have b_numbers_of := b_numbers_of T
  have g_numbers_of := T.g_numbers_of
  have k_numbers_of := T.f_numbers_of.kp
  have n_all := T.n_all
  have n_zip := T.n_zip
  obtain ⟨hcd, TB, hP⟩ := T.t_can_be_used
  refine def_ok (N := ["folk", "crowd", "rule", "needed", "many", "need"]) (k := 2) (fs := fs_can_be_used) (Pc := fun c => c = .ref (cA "can_be_used")) T.f_can_be_used sc_can_be_used rfl rfl hcd fun cdv A outer s H E hc hr => ?_
  have nd := sc_can_be_used.nd
  subst hc
  exact (dss_cons (ds_if (dt_notIn (room_u65 hr) (de_var 2) (de_item (de_var 0) de_int)) (dss_one (ds_ret de_bl)) dss_nil) (dss_cons (ds_set 3 nd (de_call (ok_numbers_of T) (hr.mono (by decide)) g_numbers_of k_numbers_of b_numbers_of (takes_of rfl rfl rfl rfl) (da_cons (de_item (de_var 0) de_int) (da_cons (de_item (de_var 2) de_int) da_nil)))) (dss_one (ds_ret (de_quant (k := 1) (k0 := true) (own := [("many", 4), ("need", 5)]) rfl (hr.mono (by decide)) nd rfl rfl n_all TB rfl hP (di_zip2 rfl n_zip (da_cons (de_var 1) (da_cons (de_var 3) da_nil))) (by kernel_rfl) (fun _ _ _ _ _ _ _ hr1 => (dg_tup rfl (dgs_cons (dg_name 4 nd) (dgs_cons (dg_name 5 nd) dgs_nil)))) (fun _ _ _ _ _ _ _ hr1 => (de_ge (de_var 4) (de_var 5))))))))
theorem ok_behind_rule (T : Txt K mg base Ts xa A cA pA Dd mA mD) : FnOk P w K mg base (L2.CX P w) 3 (A "behind_rule") (Dd "behind_rule") ["folk", "crowd", "rule"] (spD (TT K Ts xa) 3 F_behind_rule) := by
  have b_numbers_of := b_numbers_of T
  have g_numbers_of := T.g_numbers_of
  have k_numbers_of := T.f_numbers_of.kp
  have n_tuple := T.n_tuple
  have n_zip := T.n_zip
  refine def_ok (N := ["folk", "crowd", "rule", "gone", "come", "many", "less", "more"]) (k := 2) (fs := fs_behind_rule) (Pc := fun c => True) T.f_behind_rule sc_behind_rule rfl rfl trivial fun cdv A outer s H E hc hr => ?_
  have nd := sc_behind_rule.nd
  exact (dss_cons (ds_set 3 nd (de_call (ok_numbers_of T) (hr.mono (by decide)) g_numbers_of k_numbers_of b_numbers_of (takes_of rfl rfl rfl rfl) (da_cons (de_item (de_var 0) de_int) (da_cons (de_item (de_var 2) de_int) da_nil)))) (dss_cons (ds_set 4 nd (de_call (ok_numbers_of T) (hr.mono (by decide)) g_numbers_of k_numbers_of b_numbers_of (takes_of rfl rfl rfl rfl) (da_cons (de_item (de_var 0) de_int) (da_cons (de_item (de_var 2) de_int) da_nil)))) (dss_one (ds_ret (de_tuple rfl n_tuple (da_cons (de_lc (own := [("many", 5), ("less", 6), ("more", 7)]) rfl nd (di_zip3 rfl n_zip (da_cons (de_var 1) (da_cons (de_var 3) (da_cons (de_var 4) da_nil)))) (by kernel_rfl) (fun _ _ _ _ _ => (dg_tup rfl (dgs_cons (dg_name 5 nd) (dgs_cons (dg_name 6 nd) (dgs_cons (dg_name 7 nd) dgs_nil))))) (fun _ _ _ _ _ => dts_nil) (fun _ _ _ _ _ => (de_plus (de_sub (de_var 5) (de_var 6)) (de_var 7)))) da_nil))))))
theorem ok_met (T : Txt K mg base Ts xa A cA pA Dd mA mD) : FnOk P w K mg base (L2.CX P w) 8 (A "met") (Dd "met") ["folk", "crowd", "rule"] (spD (TT K Ts xa) 3 F_met) := by
  have b_behind_rule := b_behind_rule T
  have b_can_be_used := b_can_be_used T
  have b_demand_crowd := b_demand_crowd T
  have b_demand_folk := b_demand_folk T
  have b_demand_room := b_demand_room T
  have g_behind_rule := T.g_behind_rule
  have g_can_be_used := T.g_can_be_used
  have g_demand_crowd := T.g_demand_crowd
  have g_demand_folk := T.g_demand_folk
  have g_demand_room := T.g_demand_room
  have k_behind_rule := T.f_behind_rule.kp
  have k_can_be_used := T.f_can_be_used.kp
  have k_demand_crowd := T.f_demand_crowd.kp
  have k_demand_folk := T.f_demand_folk.kp
  have k_demand_room := T.f_demand_room.kp
  have q_x_BadRule := T.x_BadRule
  refine def_ok (N := ["folk", "crowd", "rule", "behind"]) (k := 7) (fs := fs_met) (Pc := fun c => True) T.f_met sc_met rfl rfl trivial fun cdv A outer s H E hc hr => ?_
  have nd := sc_met.nd
  exact (dss_cons (ds_expr (de_call (ok_demand_folk T) (hr.mono (by decide)) g_demand_folk k_demand_folk b_demand_folk (takes_of rfl rfl rfl rfl) (da_cons (de_var 0) da_nil))) (dss_cons (ds_expr (de_call (ok_demand_crowd T) (hr.mono (by decide)) g_demand_crowd k_demand_crowd b_demand_crowd (takes_of rfl rfl rfl rfl) (da_cons (de_var 0) (da_cons (de_var 1) da_nil)))) (dss_cons (ds_if (dt_not (dt_val (de_call (ok_can_be_used T) (hr.mono (by decide)) g_can_be_used k_can_be_used b_can_be_used (takes_of rfl rfl rfl rfl) (da_cons (de_var 0) (da_cons (de_var 1) (da_cons (de_var 2) da_nil)))))) (dss_one (ds_raise0 rfl (takes_of rfl rfl rfl rfl) (exf q_x_BadRule))) dss_nil) (dss_cons (ds_set 3 nd (de_call (ok_behind_rule T) (hr.mono (by decide)) g_behind_rule k_behind_rule b_behind_rule (takes_of rfl rfl rfl rfl) (da_cons (de_var 0) (da_cons (de_var 1) (da_cons (de_var 2) da_nil))))) (dss_cons (ds_expr (de_call (ok_demand_room T) (hr.mono (by decide)) g_demand_room k_demand_room b_demand_room (takes_of rfl rfl rfl rfl) (da_cons (de_var 3) da_nil))) (dss_one (ds_ret (de_var 3))))))))
theorem ok_Desk__turn (T : Txt K mg base Ts xa A cA pA Dd mA mD) : FnOk P w K mg base (L2.CX P w) 2 (mA "_turn") (mD "_turn") ["self", "deed", "behind"] (spD (TT K Ts xa) 3 F_Desk__turn) := by
  have cl_Desk := T.cl_Desk
  refine def_ok (N := ["self", "deed", "behind"]) (k := 1) (fs := fs_Desk__turn) (Pc := fun c => True) T.f_Desk__turn sc_Desk__turn rfl rfl trivial fun cdv A outer s H E hc hr => ?_
  have nd := sc_Desk__turn.nd
  exact (dss_cons (ds_expr (de_append rfl (de_fld cl_Desk (List.mem_cons_of_mem _ (List.mem_cons_of_mem _ List.mem_cons_self)) (de_var 0)) (da_cons (de_tup (da_cons (de_var 1) (da_cons (de_fld cl_Desk (List.mem_cons_of_mem _ List.mem_cons_self) (de_var 0)) da_nil))) da_nil))) (dss_one (ds_fld cl_Desk (List.mem_cons_of_mem _ List.mem_cons_self) (de_var 0) (de_var 2))))
theorem ok_Desk_meet (T : Txt K mg base Ts xa A cA pA Dd mA mD) : FnOk P w K mg base (L2.CX P w) 9 (mA "meet") (mD "meet") ["self", "rule"] (spD (TT K Ts xa) 2 F_Desk_meet) := by
  have b_Desk__turn := b_Desk__turn T
  have b_met := b_met T
  have cl_Desk := T.cl_Desk
  have g_met := T.g_met
  have k_met := T.f_met.kp
  have m_Desk__turn := T.m_Desk__turn
  refine def_ok (N := ["self", "rule", "behind"]) (k := 8) (fs := fs_Desk_meet) (Pc := fun c => True) T.f_Desk_meet sc_Desk_meet rfl rfl trivial fun cdv A outer s H E hc hr => ?_
  have nd := sc_Desk_meet.nd
  exact (dss_cons (ds_set 2 nd (de_call (ok_met T) (hr.mono (by decide)) g_met k_met b_met (takes_of rfl rfl rfl rfl) (da_cons (de_fld cl_Desk List.mem_cons_self (de_var 0)) (da_cons (de_fld cl_Desk (List.mem_cons_of_mem _ List.mem_cons_self) (de_var 0)) (da_cons (de_var 1) da_nil))))) (dss_one (ds_expr (de_meth cl_Desk m_Desk__turn (ok_Desk__turn T) (hr.mono (by decide)) b_Desk__turn passes_none (de_var 0) (da_cons (de_tup (da_cons de_str (da_cons (de_var 1) da_nil))) (da_cons (de_var 2) da_nil))))))
theorem ok_with_more (T : Txt K mg base Ts xa A cA pA Dd mA mD) : FnOk P w K mg base (L2.CX P w) 2 (A "with_more") (Dd "with_more") ["crowd", "more", "times"] (spD (TT K Ts xa) 3 F_with_more) := by
  have n_tuple := T.n_tuple
  have n_zip := T.n_zip
  refine def_ok (N := ["crowd", "more", "times", "many", "come"]) (k := 1) (fs := fs_with_more) (Pc := fun c => True) T.f_with_more sc_with_more rfl rfl trivial fun cdv A outer s H E hc hr => ?_
  have nd := sc_with_more.nd
  exact (dss_one (ds_ret (de_tuple rfl n_tuple (da_cons (de_lc (own := [("many", 3), ("come", 4)]) rfl nd (di_zip2 rfl n_zip (da_cons (de_var 0) (da_cons (de_var 1) da_nil))) (by kernel_rfl) (fun _ _ _ _ _ => (dg_tup rfl (dgs_cons (dg_name 3 nd) (dgs_cons (dg_name 4 nd) dgs_nil)))) (fun _ _ _ _ _ => dts_nil) (fun _ _ _ _ _ => (de_plus (de_var 3) (de_mul (de_var 2) (de_var 4))))) da_nil))))
theorem ok_Desk_join (T : Txt K mg base Ts xa A cA pA Dd mA mD) : FnOk P w K mg base (L2.CX P w) 6 (mA "join") (mD "join") ["self", "crowd"] (spD (TT K Ts xa) 2 F_Desk_join) := by
  have b_Desk__turn := b_Desk__turn T
  have b_demand_crowd := b_demand_crowd T
  have b_demand_room := b_demand_room T
  have b_with_more := b_with_more T
  have cl_Desk := T.cl_Desk
  have g_demand_crowd := T.g_demand_crowd
  have g_demand_room := T.g_demand_room
  have g_with_more := T.g_with_more
  have k_demand_crowd := T.f_demand_crowd.kp
  have k_demand_room := T.f_demand_room.kp
  have k_with_more := T.f_with_more.kp
  have m_Desk__turn := T.m_Desk__turn
  refine def_ok (N := ["self", "crowd", "behind"]) (k := 5) (fs := fs_Desk_join) (Pc := fun c => True) T.f_Desk_join sc_Desk_join rfl rfl trivial fun cdv A outer s H E hc hr => ?_
  have nd := sc_Desk_join.nd
  exact (dss_cons (ds_expr (de_call (ok_demand_crowd T) (hr.mono (by decide)) g_demand_crowd k_demand_crowd b_demand_crowd (takes_of rfl rfl rfl rfl) (da_cons (de_fld cl_Desk List.mem_cons_self (de_var 0)) (da_cons (de_var 1) da_nil)))) (dss_cons (ds_set 2 nd (de_call (ok_with_more T) (hr.mono (by decide)) g_with_more k_with_more b_with_more (takes_of rfl rfl rfl rfl) (da_cons (de_fld cl_Desk (List.mem_cons_of_mem _ List.mem_cons_self) (de_var 0)) (da_cons (de_var 1) (da_cons de_int da_nil))))) (dss_cons (ds_expr (de_call (ok_demand_room T) (hr.mono (by decide)) g_demand_room k_demand_room b_demand_room (takes_of rfl rfl rfl rfl) (da_cons (de_var 2) da_nil))) (dss_one (ds_expr (de_meth cl_Desk m_Desk__turn (ok_Desk__turn T) (hr.mono (by decide)) b_Desk__turn passes_none (de_var 0) (da_cons (de_tup (da_cons de_str (da_cons (de_var 1) da_nil))) (da_cons (de_var 2) da_nil))))))))
theorem ok_is_mood (T : Txt K mg base Ts xa A cA pA Dd mA mD) : FnOk P w K mg base (L2.CX P w) 2 (A "is_mood") (Dd "is_mood") ["moods", "value"] (spD (TT K Ts xa) 2 F_is_mood) := by
  have n_isinstance := T.n_isinstance
  have n_len := T.n_len
  have n_str := T.n_str
  refine def_ok (N := ["moods", "value"]) (k := 1) (fs := fs_is_mood) (Pc := fun c => True) T.f_is_mood sc_is_mood rfl rfl trivial fun cdv A outer s H E hc hr => ?_
  have nd := sc_is_mood.nd
  exact (dss_one (ds_ret (de_and (de_isi rfl n_isinstance n_str (by decide +kernel) rfl (de_var 1)) (de_and (de_eq (room_u65 hr) (de_len rfl n_len (da_cons (de_var 1) da_nil)) de_int) (de_one (de_in (room_u65 hr) (de_var 1) (de_var 0)))))))
theorem ok_demand_mood (T : Txt K mg base Ts xa A cA pA Dd mA mD) : FnOk P w K mg base (L2.CX P w) 3 (A "demand_mood") (Dd "demand_mood") ["folk", "value"] (spD (TT K Ts xa) 2 F_demand_mood) := by
  have b_is_mood := b_is_mood T
  have g_is_mood := T.g_is_mood
  have k_is_mood := T.f_is_mood.kp
  have q_x_NoMood := T.x_NoMood
  refine def_ok (N := ["folk", "value"]) (k := 2) (fs := fs_demand_mood) (Pc := fun c => True) T.f_demand_mood sc_demand_mood rfl rfl trivial fun cdv A outer s H E hc hr => ?_
  have nd := sc_demand_mood.nd
  exact (dss_one (ds_if (dt_not (dt_val (de_call (ok_is_mood T) (hr.mono (by decide)) g_is_mood k_is_mood b_is_mood (takes_of rfl rfl rfl rfl) (da_cons (de_item (de_var 0) de_int) (da_cons (de_var 1) da_nil))))) (dss_one (ds_raise0 rfl (takes_of rfl rfl rfl rfl) (exf q_x_NoMood))) dss_nil))
theorem ok_Desk_leave (T : Txt K mg base Ts xa A cA pA Dd mA mD) : FnOk P w K mg base (L2.CX P w) 4 (mA "leave") (mD "leave") ["self", "mood"] (spD (TT K Ts xa) 2 F_Desk_leave) := by
  have b_Desk__turn := b_Desk__turn T
  have b_demand_mood := b_demand_mood T
  have b_with_more := b_with_more T
  have cl_Desk := T.cl_Desk
  have g_demand_mood := T.g_demand_mood
  have g_with_more := T.g_with_more
  have k_demand_mood := T.f_demand_mood.kp
  have k_with_more := T.f_with_more.kp
  have m_Desk__turn := T.m_Desk__turn
  have n_min := T.n_min
  have q_x_Nobody := T.x_Nobody
  refine def_ok (N := ["self", "mood", "gone", "behind", "other"]) (k := 3) (fs := fs_Desk_leave) (Pc := fun c => True) T.f_Desk_leave sc_Desk_leave rfl rfl trivial fun cdv A outer s H E hc hr => ?_
  have nd := sc_Desk_leave.nd
  exact (dss_cons (ds_expr (de_call (ok_demand_mood T) (hr.mono (by decide)) g_demand_mood k_demand_mood b_demand_mood (takes_of rfl rfl rfl rfl) (da_cons (de_fld cl_Desk List.mem_cons_self (de_var 0)) (da_cons (de_var 1) da_nil)))) (dss_cons (ds_lc (i := 2) (own := [("other", 4)]) rfl nd (di_seq (de_item (de_fld cl_Desk List.mem_cons_self (de_var 0)) de_int)) (by kernel_rfl) (fun _ _ _ _ _ => (dg_name 4 nd)) (fun _ _ _ _ _ => dts_nil) (fun _ _ _ _ _ => (de_if (dt_eq (room_u65 hr) (de_var 4) (de_var 1)) de_int de_int)) (by rfl)) (dss_cons (ds_set 3 nd (de_call (ok_with_more T) (hr.mono (by decide)) g_with_more k_with_more b_with_more (takes_of rfl rfl rfl rfl) (da_cons (de_fld cl_Desk (List.mem_cons_of_mem _ List.mem_cons_self) (de_var 0)) (da_cons (de_var 2) (da_cons (de_neg de_int) da_nil))))) (dss_cons (ds_if (dt_lt (de_min rfl rfl (room_u65 hr) n_min (da_cons (de_var 3) da_nil)) de_int) (dss_one (ds_raise0 rfl (takes_of rfl rfl rfl rfl) (exf q_x_Nobody))) dss_nil) (dss_one (ds_expr (de_meth cl_Desk m_Desk__turn (ok_Desk__turn T) (hr.mono (by decide)) b_Desk__turn passes_none (de_var 0) (da_cons (de_tup (da_cons de_str (da_cons (de_var 1) da_nil))) (da_cons (de_var 3) da_nil)))))))))
theorem ok_Desk_undo (T : Txt K mg base Ts xa A cA pA Dd mA mD) : FnOk P w K mg base (L2.CX P w) 2 (mA "undo") (mD "undo") ["self"] (spD (TT K Ts xa) 1 F_Desk_undo) := by
  have cl_Desk := T.cl_Desk
  have q_x_NothingDone := T.x_NothingDone
  refine def_ok (N := ["self", "_"]) (k := 1) (fs := fs_Desk_undo) (Pc := fun c => True) T.f_Desk_undo sc_Desk_undo rfl rfl trivial fun cdv A outer s H E hc hr => ?_
  have nd := sc_Desk_undo.nd
  exact (dss_cons (ds_if (dt_not (dt_tru (de_fld cl_Desk (List.mem_cons_of_mem _ (List.mem_cons_of_mem _ List.mem_cons_self)) (de_var 0)))) (dss_one (ds_raise0 rfl (takes_of rfl rfl rfl rfl) (exf q_x_NothingDone))) dss_nil) (dss_one (ds_unpF (i := 1) (k := 0) cl_Desk (List.mem_cons_of_mem _ List.mem_cons_self) rfl nd (de_var 0) (de_pop rfl (de_fld cl_Desk (List.mem_cons_of_mem _ (List.mem_cons_of_mem _ List.mem_cons_self)) (de_var 0))))))
theorem ok_Desk_crowd (T : Txt K mg base Ts xa A cA pA Dd mA mD) : FnOk P w K mg base (L2.CX P w) 2 (mA "crowd") (mD "crowd") ["self"] (spD (TT K Ts xa) 1 F_Desk_crowd) := by
  have cl_Desk := T.cl_Desk
  refine def_ok (N := ["self"]) (k := 1) (fs := fs_Desk_crowd) (Pc := fun c => True) T.f_Desk_crowd sc_Desk_crowd rfl rfl trivial fun cdv A outer s H E hc hr => ?_
  have nd := sc_Desk_crowd.nd
  exact (dss_one (ds_ret (de_fld cl_Desk (List.mem_cons_of_mem _ List.mem_cons_self) (de_var 0))))
theorem ok_Desk_row (T : Txt K mg base Ts xa A cA pA Dd mA mD) : FnOk P w K mg base (L2.CX P w) 2 (mA "row") (mD "row") ["self"] (spD (TT K Ts xa) 1 F_Desk_row) := by
  have cl_Desk := T.cl_Desk
  have n_tuple := T.n_tuple
  refine def_ok (N := ["self", "deed", "_"]) (k := 1) (fs := fs_Desk_row) (Pc := fun c => True) T.f_Desk_row sc_Desk_row rfl rfl trivial fun cdv A outer s H E hc hr => ?_
  have nd := sc_Desk_row.nd
  exact (dss_one (ds_ret (de_tuple rfl n_tuple (da_cons (de_lcG finD_ok (own := [("deed", 1), ("_", 2)]) rfl nd (di_cell (de_fld cl_Desk (List.mem_cons_of_mem _ (List.mem_cons_of_mem _ List.mem_cons_self)) (de_var 0))) (by kernel_rfl) (fun _ _ _ _ _ => (dg_tup rfl (dgs_cons (dg_name 1 nd) (dgs_cons (dg_name 2 nd) dgs_nil)))) (fun _ _ _ _ _ => dts_nil) (fun _ _ _ _ _ => (de_var 1))) da_nil))))
theorem ok_meetings (T : Txt K mg base Ts xa A cA pA Dd mA mD) : FnOk P w K mg base (L2.CX P w) 8 (A "meetings") (Dd "meetings") ["folk", "crowd"] (spD (TT K Ts xa) 2 F_meetings) := by
  have b_can_be_used := b_can_be_used T
  have b_demand_crowd := b_demand_crowd T
  have b_demand_folk := b_demand_folk T
  have g_can_be_used := T.g_can_be_used
  have g_demand_crowd := T.g_demand_crowd
  have g_demand_folk := T.g_demand_folk
  have k_can_be_used := T.f_can_be_used.kp
  have k_demand_crowd := T.f_demand_crowd.kp
  have k_demand_folk := T.f_demand_folk.kp
  have n_tuple := T.n_tuple
  refine def_ok (N := ["folk", "crowd", "rule"]) (k := 7) (fs := fs_meetings) (Pc := fun c => True) T.f_meetings sc_meetings rfl rfl trivial fun cdv A outer s H E hc hr => ?_
  have nd := sc_meetings.nd
  exact (dss_cons (ds_expr (de_call (ok_demand_folk T) (hr.mono (by decide)) g_demand_folk k_demand_folk b_demand_folk (takes_of rfl rfl rfl rfl) (da_cons (de_var 0) da_nil))) (dss_cons (ds_expr (de_call (ok_demand_crowd T) (hr.mono (by decide)) g_demand_crowd k_demand_crowd b_demand_crowd (takes_of rfl rfl rfl rfl) (da_cons (de_var 0) (da_cons (de_var 1) da_nil)))) (dss_one (ds_ret (de_tuple rfl n_tuple (da_cons (de_lc (own := [("rule", 2)]) rfl nd (di_seq (de_item (de_var 0) de_int)) (by kernel_rfl) (fun _ _ _ _ _ => (dg_name 2 nd)) (fun _ _ _ _ _ => (dts_one (dt_val (de_call (ok_can_be_used T) (hr.mono (by decide)) g_can_be_used k_can_be_used b_can_be_used takes0 (da_cons (de_var 0) (da_cons (de_var 1) (da_cons (de_var 2) da_nil))))))) (fun _ _ _ _ _ => (de_var 2))) da_nil))))))
theorem ok_Desk_is_at_rest (T : Txt K mg base Ts xa A cA pA Dd mA mD) : FnOk P w K mg base (L2.CX P w) 9 (mA "is_at_rest") (mD "is_at_rest") ["self"] (spD (TT K Ts xa) 1 F_Desk_is_at_rest) := by
  have b_meetings := b_meetings T
  have cl_Desk := T.cl_Desk
  have g_meetings := T.g_meetings
  have k_meetings := T.f_meetings.kp
  have n_len := T.n_len
  refine def_ok (N := ["self"]) (k := 8) (fs := fs_Desk_is_at_rest) (Pc := fun c => True) T.f_Desk_is_at_rest sc_Desk_is_at_rest rfl rfl trivial fun cdv A outer s H E hc hr => ?_
  have nd := sc_Desk_is_at_rest.nd
  exact (dss_one (ds_ret (de_eq (room_u65 hr) (de_len rfl n_len (da_cons (de_call (ok_meetings T) (hr.mono (by decide)) g_meetings k_meetings b_meetings (takes_of rfl rfl rfl rfl) (da_cons (de_fld cl_Desk List.mem_cons_self (de_var 0)) (da_cons (de_fld cl_Desk (List.mem_cons_of_mem _ List.mem_cons_self) (de_var 0)) da_nil))) da_nil)) de_int)))
theorem ok_Desk_text (T : Txt K mg base Ts xa A cA pA Dd mA mD) : FnOk P w K mg base (L2.CX P w) 2 (mA "text") (mD "text") ["self"] (spD (TT K Ts xa) 1 F_Desk_text) := by
  have cl_Desk := T.cl_Desk
  have n_str := T.n_str
  refine def_ok (N := ["self", "told", "numbers", "moods", "rules", "many", "words", "before", "behind"]) (k := 1) (fs := fs_Desk_text) (Pc := fun c => True) T.f_Desk_text sc_Desk_text rfl rfl trivial fun cdv A outer s H E hc hr => ?_
  have nd := sc_Desk_text.nd
  exact (dss_cons (ds_asg (us := [3, 4]) (de_fld cl_Desk List.mem_cons_self (de_var 0)) (dg_tup rfl (dgs_cons (dg_name 3 nd) (dgs_cons (dg_name 4 nd) dgs_nil)))) (dss_cons (ds_set 1 nd (de_plus (de_lst (da_cons de_str da_nil)) (de_lc (own := [("before", 7), ("behind", 8)]) rfl nd (di_seq (de_var 4)) (by kernel_rfl) (fun _ _ _ _ _ => (dg_tup rfl (dgs_cons (dg_name 7 nd) (dgs_cons (dg_name 8 nd) dgs_nil)))) (fun _ _ _ _ _ => dts_nil) (fun _ _ _ _ _ => (de_fs (DJ.cons (de_fmt (de_var 7)) (DJ.cons de_str (DJ.cons (de_fmt (de_var 8)) DJ.nil)))))))) (dss_cons (ds_set 2 nd (de_plus (de_lst (da_cons de_str da_nil)) (de_lc (own := [("many", 5)]) rfl nd (di_seq (de_fld cl_Desk (List.mem_cons_of_mem _ List.mem_cons_self) (de_var 0))) (by kernel_rfl) (fun _ _ _ _ _ => (dg_name 5 nd)) (fun _ _ _ _ _ => dts_nil) (fun _ _ _ _ _ => (de_strI rfl n_str (da_cons (de_var 5) da_nil)))))) (dss_one (ds_ret (de_join rfl de_str (de_lc (own := [("words", 6)]) rfl nd (di_seq (de_tup (da_cons (de_lst (da_cons de_str (da_cons (de_var 3) da_nil))) (da_cons (de_var 1) (da_cons (de_var 2) da_nil))))) (by kernel_rfl) (fun _ _ _ _ _ => (dg_name 6 nd)) (fun _ _ _ _ _ => dts_nil) (fun _ _ _ _ _ => (de_plus (de_join rfl de_str (de_var 6)) de_str)))))))))
theorem ok_demand_text (T : Txt K mg base Ts xa A cA pA Dd mA mD) : FnOk P w K mg base (L2.CX P w) 2 (A "demand_text") (Dd "demand_text") ["value"] (spD (TT K Ts xa) 1 F_demand_text) := by
  have n_isinstance := T.n_isinstance
  have n_str := T.n_str
  have q_x_NotText := T.x_NotText
  refine def_ok (N := ["value"]) (k := 1) (fs := fs_demand_text) (Pc := fun c => True) T.f_demand_text sc_demand_text rfl rfl trivial fun cdv A outer s H E hc hr => ?_
  have nd := sc_demand_text.nd
  exact (dss_one (ds_if (dt_not (dt_val (de_isi rfl n_isinstance n_str (by decide +kernel) rfl (de_var 0)))) (dss_one (ds_raise0 rfl (takes_of rfl rfl rfl rfl) (exf q_x_NotText))) dss_nil))
theorem ok_words_behind (T : Txt K mg base Ts xa A cA pA Dd mA mD) : FnOk P w K mg base (L2.CX P w) 2 (A "words_behind") (Dd "words_behind") ["lines", "at", "key"] (spD (TT K Ts xa) 3 F_words_behind) := by
  have n_len := T.n_len
  refine def_ok (N := ["lines", "at", "key", "words"]) (k := 1) (fs := fs_words_behind) (Pc := fun c => True) T.f_words_behind sc_words_behind rfl rfl trivial fun cdv A outer s H E hc hr => ?_
  have nd := sc_words_behind.nd
  exact (dss_cons (ds_if (dt_ge (de_var 1) (de_sub (de_len rfl n_len (da_cons (de_var 0) da_nil)) de_int)) dss_dead dss_nil) (dss_cons (ds_set 3 nd (de_split rfl (de_item (de_var 0) (de_var 1)) de_str)) (dss_cons (ds_if (dt_ne (room_u65 hr) (de_item (de_var 3) de_int) (de_var 2)) dss_dead dss_nil) (dss_one (ds_ret (de_slice (de_var 3) (do_some de_int) do_none))))))
theorem ok_moods_from (T : Txt K mg base Ts xa A cA pA Dd mA mD) : FnOk P w K mg base (L2.CX P w) 4 (A "moods_from") (Dd "moods_from") ["lines"] (spD (TT K Ts xa) 1 F_moods_from) := by
  have b_are_moods := b_are_moods T
  have b_words_behind := b_words_behind T
  have c_MOODS_AT := T.c_MOODS_AT
  have g_are_moods := T.g_are_moods
  have g_words_behind := T.g_words_behind
  have k_are_moods := T.f_are_moods.kp
  have k_words_behind := T.f_words_behind.kp
  have n_len := T.n_len
  refine def_ok (N := ["lines", "words"]) (k := 3) (fs := fs_moods_from) (Pc := fun c => True) T.f_moods_from sc_moods_from rfl rfl trivial fun cdv A outer s H E hc hr => ?_
  have nd := sc_moods_from.nd
  exact (dss_cons (ds_set 1 nd (de_call (ok_words_behind T) (hr.mono (by decide)) g_words_behind k_words_behind b_words_behind (takes_of rfl rfl rfl rfl) (da_cons (de_var 0) (da_cons (de_globI c_MOODS_AT.choose_spec) (da_cons de_str da_nil))))) (dss_cons (ds_if (DW.dt (dw_or (dt_ne (room_u65 hr) (de_len rfl n_len (da_cons (de_var 1) da_nil)) de_int) (dw_or1 (dt_not (dt_val (de_call (ok_are_moods T) (hr.mono (by decide)) g_are_moods k_are_moods b_are_moods (takes_of rfl rfl rfl rfl) (da_cons (de_item (de_var 1) de_int) da_nil))))))) dss_dead dss_nil) (dss_one (ds_ret (de_item (de_var 1) de_int)))))
theorem ok_folk_from (T : Txt K mg base Ts xa A cA pA Dd mA mD) : FnOk P w K mg base (L2.CX P w) 7 (A "folk_from") (Dd "folk_from") ["lines"] (spD (TT K Ts xa) 1 F_folk_from) := by
  have b_is_folk := b_is_folk T
  have b_moods_from := b_moods_from T
  have b_words_behind := b_words_behind T
  have c_RULES_AT := T.c_RULES_AT
  have g_is_folk := T.g_is_folk
  have g_moods_from := T.g_moods_from
  have g_words_behind := T.g_words_behind
  have k_is_folk := T.f_is_folk.kp
  have k_moods_from := T.f_moods_from.kp
  have k_words_behind := T.f_words_behind.kp
  have n_all := T.n_all
  have n_tuple := T.n_tuple
  obtain ⟨hcd, TB, hP⟩ := T.t_folk_from
  refine def_ok (N := ["lines", "moods", "words", "folk", "word"]) (k := 6) (fs := fs_folk_from) (Pc := fun c => c = .ref (cA "folk_from")) T.f_folk_from sc_folk_from rfl rfl hcd fun cdv A outer s H E hc hr => ?_
  have nd := sc_folk_from.nd
  subst hc
  exact (dss_cons (ds_set 1 nd (de_call (ok_moods_from T) (hr.mono (by decide)) g_moods_from k_moods_from b_moods_from (takes_of rfl rfl rfl rfl) (da_cons (de_var 0) da_nil))) (dss_cons (ds_set 2 nd (de_call (ok_words_behind T) (hr.mono (by decide)) g_words_behind k_words_behind b_words_behind (takes_of rfl rfl rfl rfl) (da_cons (de_var 0) (da_cons (de_globI c_RULES_AT.choose_spec) (da_cons de_str da_nil))))) (dss_cons (ds_set 3 nd (de_tup (da_cons (de_var 1) (da_cons (de_tuple rfl n_tuple (da_cons (de_lc (own := [("word", 4)]) rfl nd (di_seq (de_var 2)) (by kernel_rfl) (fun _ _ _ _ _ => (dg_name 4 nd)) (fun _ _ _ _ _ => dts_nil) (fun _ _ _ _ _ => (de_tup (da_cons (de_slice (de_var 4) do_none (do_some de_int)) (da_cons (de_slice (de_var 4) (do_some de_int) do_none) da_nil))))) da_nil)) da_nil)))) (dss_cons (ds_if (DW.dt (dw_or (dt_not (dt_val (de_quant (k := 1) (k0 := true) (own := [("word", 4)]) rfl (hr.mono (by decide)) nd rfl rfl n_all TB rfl hP (di_seq (de_var 2)) (by kernel_rfl) (fun _ _ _ _ _ _ _ hr1 => (dg_name 4 nd)) (fun _ _ _ _ _ _ _ hr1 => (de_eq (room_u65 hr1) (de_slice (de_var 4) (do_some de_int) (do_some de_int)) de_str))))) (dw_or1 (dt_not (dt_val (de_call (ok_is_folk T) (hr.mono (by decide)) g_is_folk k_is_folk b_is_folk (takes_of rfl rfl rfl rfl) (da_cons (de_var 3) da_nil))))))) dss_dead dss_nil) (dss_one (ds_ret (de_var 3)))))))
theorem ok_kind_of (T : Txt K mg base Ts xa A cA pA Dd mA mD) : FnOk P w K mg base (L2.CX P w) 2 (A "kind_of") (Dd "kind_of") ["sign"] (spD (TT K Ts xa) 1 F_kind_of) := by
  refine def_ok (N := ["sign"]) (k := 1) (fs := fs_kind_of) (Pc := fun c => True) T.f_kind_of sc_kind_of rfl rfl trivial fun cdv A outer s H E hc hr => ?_
  have nd := sc_kind_of.nd
  exact (dss_cons (ds_if (dt_lele de_str (de_var 0) de_str) (dss_one (ds_ret de_str)) dss_nil) (dss_cons (ds_if (dt_lele de_str (de_var 0) de_str) (dss_one (ds_ret de_str)) dss_nil) (dss_cons (ds_if (dt_lele de_str (de_var 0) de_str) (dss_one (ds_ret de_str)) dss_nil) (dss_one (ds_ret (de_if (dt_in (room_u65 hr) (de_var 0) de_str) de_str de_str))))))
theorem ok_is_number (T : Txt K mg base Ts xa A cA pA Dd mA mD) : FnOk P w K mg base (L2.CX P w) 4 (A "is_number") (Dd "is_number") ["text", "most"] (spD (TT K Ts xa) 2 F_is_number) := by
  have b_kind_of := b_kind_of T
  have g_kind_of := T.g_kind_of
  have k_kind_of := T.f_kind_of.kp
  have n_all := T.n_all
  have n_len := T.n_len
  obtain ⟨hcd, TB, hP⟩ := T.t_is_number
  refine def_ok (N := ["text", "most", "sign"]) (k := 3) (fs := fs_is_number) (Pc := fun c => c = .ref (cA "is_number")) T.f_is_number sc_is_number rfl rfl hcd fun cdv A outer s H E hc hr => ?_
  have nd := sc_is_number.nd
  subst hc
  exact (dss_cons (ds_if (DW.dt (dw_or (dt_not (dt_lele de_int (de_len rfl n_len (da_cons (de_var 0) da_nil)) (de_var 1))) (dw_or1 (dt_not (dt_val (de_quant (k := 2) (k0 := true) (own := [("sign", 2)]) rfl (hr.mono (by decide)) nd rfl rfl n_all TB rfl hP (di_seq (de_var 0)) (by kernel_rfl) (fun _ _ _ _ _ _ _ hr1 => (dg_name 2 nd)) (fun _ _ _ _ _ _ _ hr1 => (de_eq (room_u65 hr1) (de_call (ok_kind_of T) (hr1.mono (by decide)) g_kind_of k_kind_of b_kind_of takes0 (da_cons (de_var 2) da_nil)) de_str)))))))) (dss_one (ds_ret de_bl)) dss_nil) (dss_one (ds_ret (de_or (de_eq (room_u65 hr) (de_var 0) de_str) (de_one (de_ne (room_u65 hr) (de_item (de_var 0) de_int) de_str))))))
theorem ok_crowd_from (T : Txt K mg base Ts xa A cA pA Dd mA mD) : FnOk P w K mg base (L2.CX P w) 6 (A "crowd_from") (Dd "crowd_from") ["folk", "lines"] (spD (TT K Ts xa) 2 F_crowd_from) := by
  have b_is_crowd := b_is_crowd T
  have b_is_number := b_is_number T
  have b_words_behind := b_words_behind T
  have c_CROWD_AT := T.c_CROWD_AT
  have c_MOST_FIGURES := T.c_MOST_FIGURES
  have g_is_crowd := T.g_is_crowd
  have g_is_number := T.g_is_number
  have g_words_behind := T.g_words_behind
  have k_is_crowd := T.f_is_crowd.kp
  have k_is_number := T.f_is_number.kp
  have k_words_behind := T.f_words_behind.kp
  have n_all := T.n_all
  have n_int := T.n_int
  have n_tuple := T.n_tuple
  obtain ⟨hcd, TB, hP⟩ := T.t_crowd_from
  refine def_ok (N := ["folk", "lines", "words", "crowd", "word"]) (k := 5) (fs := fs_crowd_from) (Pc := fun c => c = .ref (cA "crowd_from")) T.f_crowd_from sc_crowd_from rfl rfl hcd fun cdv A outer s H E hc hr => ?_
  have nd := sc_crowd_from.nd
  subst hc
  exact (dss_cons (ds_set 2 nd (de_call (ok_words_behind T) (hr.mono (by decide)) g_words_behind k_words_behind b_words_behind (takes_of rfl rfl rfl rfl) (da_cons (de_var 1) (da_cons (de_globI c_CROWD_AT.choose_spec) (da_cons de_str da_nil))))) (dss_cons (ds_if (dt_not (dt_val (de_quant (k := 4) (k0 := true) (own := [("word", 4)]) rfl (hr.mono (by decide)) nd rfl rfl n_all TB rfl hP (di_seq (de_var 2)) (by kernel_rfl) (fun _ _ _ _ _ _ _ hr1 => (dg_name 4 nd)) (fun _ _ _ _ _ _ _ hr1 => (de_call (ok_is_number T) (hr1.mono (by decide)) g_is_number k_is_number b_is_number takes0 (da_cons (de_var 4) (da_cons (de_globI c_MOST_FIGURES.choose_spec) da_nil))))))) dss_dead dss_nil) (dss_cons (ds_set 3 nd (de_tuple rfl n_tuple (da_cons (de_lc (own := [("word", 4)]) rfl nd (di_seq (de_var 2)) (by kernel_rfl) (fun _ _ _ _ _ => (dg_name 4 nd)) (fun _ _ _ _ _ => dts_nil) (fun _ _ _ _ _ => (de_toIntS rfl n_int (da_cons (de_var 4) da_nil)))) da_nil))) (dss_cons (ds_if (dt_not (dt_val (de_call (ok_is_crowd T) (hr.mono (by decide)) g_is_crowd k_is_crowd b_is_crowd (takes_of rfl rfl rfl rfl) (da_cons (de_var 0) (da_cons (de_var 3) da_nil))))) dss_dead dss_nil) (dss_one (ds_ret (de_var 3)))))))
theorem ok_demand_no_more (T : Txt K mg base Ts xa A cA pA Dd mA mD) : FnOk P w K mg base (L2.CX P w) 2 (A "demand_no_more") (Dd "demand_no_more") ["lines"] (spD (TT K Ts xa) 1 F_demand_no_more) := by
  have c_LAST_AT := T.c_LAST_AT
  refine def_ok (N := ["lines"]) (k := 1) (fs := fs_demand_no_more) (Pc := fun c => True) T.f_demand_no_more sc_demand_no_more rfl rfl trivial fun cdv A outer s H E hc hr => ?_
  have nd := sc_demand_no_more.nd
  exact (dss_one (ds_if (dt_ne (room_u65 hr) (de_slice (de_var 0) (do_some (de_globI c_LAST_AT.choose_spec)) do_none) (de_lst (da_cons de_str da_nil))) dss_dead dss_nil))
theorem ok_desk_of (T : Txt K mg base Ts xa A cA pA Dd mA mD) : FnOk P w K mg base (L2.CX P w) 10 (A "desk_of") (Dd "desk_of") ["text"] (spD (TT K Ts xa) 1 F_desk_of) := by
  have b_Desk___init__ := b_Desk___init__ T
  have b_crowd_from := b_crowd_from T
  have b_demand_no_more := b_demand_no_more T
  have b_demand_text := b_demand_text T
  have b_folk_from := b_folk_from T
  have g_crowd_from := T.g_crowd_from
  have g_demand_no_more := T.g_demand_no_more
  have g_demand_text := T.g_demand_text
  have g_folk_from := T.g_folk_from
  have gd_Desk := T.gd_Desk
  have k_crowd_from := T.f_crowd_from.kp
  have k_demand_no_more := T.f_demand_no_more.kp
  have k_demand_text := T.f_demand_text.kp
  have k_folk_from := T.f_folk_from.kp
  have mk_Desk := T.mk_Desk
  refine def_okK (N := ["text", "lines", "folk", "crowd"]) (k := 9) (fs := fs_desk_of) (Pc := fun c => True) T.f_desk_of sc_desk_of rfl rfl trivial fun cdv A outer s H E hc hr => ?_
  have nd := sc_desk_of.nd
  exact (dss_cons (ds_expr (de_call (ok_demand_text T) (hr.mono (by decide)) g_demand_text k_demand_text b_demand_text (takes_of rfl rfl rfl rfl) (da_cons (de_var 0) da_nil))) (dss_cons (ds_set 1 nd (de_split rfl (de_var 0) de_str)) (dss_cons (ds_set 2 nd (de_call (ok_folk_from T) (hr.mono (by decide)) g_folk_from k_folk_from b_folk_from (takes_of rfl rfl rfl rfl) (da_cons (de_var 1) da_nil))) (dss_cons (ds_set 3 nd (de_call (ok_crowd_from T) (hr.mono (by decide)) g_crowd_from k_crowd_from b_crowd_from (takes_of rfl rfl rfl rfl) (da_cons (de_var 2) (da_cons (de_var 1) da_nil)))) (dss_cons (ds_expr (de_call (ok_demand_no_more T) (hr.mono (by decide)) g_demand_no_more k_demand_no_more b_demand_no_more (takes_of rfl rfl rfl rfl) (da_cons (de_var 1) da_nil))) (dss_one (ds_ret (de_make mk_Desk (ok_Desk___init__ T) (hr.mono (by decide)) gd_Desk b_Desk___init__ passes_none (da_cons (de_var 2) (da_cons (de_var 3) da_nil))))))))))
theorem ok__law_taken (T : Txt K mg base Ts xa A cA pA Dd mA mD) : FnOk P w K mg base (L2.CX P w) 2 (A "_law_taken") (Dd "_law_taken") ["row", "many"] (spD (TT K Ts xa) 2 F__law_taken) := by
  have n_int := T.n_int
  have n_len := T.n_len
  refine def_ok (N := ["row", "many", "cell", "found"]) (k := 1) (fs := fs__law_taken) (Pc := fun c => True) T.f__law_taken sc__law_taken rfl rfl trivial fun cdv A outer s H E hc hr => ?_
  have nd := sc__law_taken.nd
  exact (dss_cons (ds_if (dt_gt (de_item (de_var 0) de_int) de_int) (dss_cons (ds_set 3 nd (de_mod (de_toInt rfl n_int (da_cons (de_item (de_var 0) de_int) da_nil)) (de_var 1))) (dss_cons (ds_put (de_div (de_item (de_var 0) de_int) (de_var 1)) (de_var 0) de_int) (dss_one (ds_ret (de_var 3))))) dss_nil) (dss_cons (ds_put (de_plus (de_item (de_var 0) de_int) de_int) (de_var 0) de_int) (dss_cons (ds_if (dt_gt (de_item (de_var 0) de_int) (de_len rfl n_len (da_cons (de_item (de_var 0) de_int) da_nil))) (dss_cons (ds_put (de_mod (de_toInt rfl n_int (da_cons (de_plus (de_mul (de_item (de_var 0) de_int) de_int) de_int) da_nil)) de_int) (de_var 0) de_int) (dss_one (ds_ret (de_mod (de_toInt rfl n_int (da_cons (de_div (de_item (de_var 0) de_int) de_int) da_nil)) (de_var 1))))) dss_nil) (dss_cons (ds_set 2 nd (de_item (de_item (de_var 0) de_int) (de_sub (de_item (de_var 0) de_int) de_int))) (dss_cons (ds_put (de_mod (de_toInt rfl n_int (da_cons (de_plus (de_plus (de_mul (de_item (de_var 0) de_int) de_int) (de_var 2)) de_int) da_nil)) de_int) (de_var 0) de_int) (dss_cons (ds_if (dt_ge (de_var 2) (de_pow de_int de_int)) (dss_one (ds_put (de_div (de_var 2) (de_var 1)) (de_var 0) de_int)) dss_nil) (dss_one (ds_ret (de_mod (de_toInt rfl n_int (da_cons (de_var 2) da_nil)) (de_var 1))))))))))
theorem ok__law_pick (T : Txt K mg base Ts xa A cA pA Dd mA mD) : FnOk P w K mg base (L2.CX P w) 3 (A "_law_pick") (Dd "_law_pick") ["row", "things"] (spD (TT K Ts xa) 2 F__law_pick) := by
  have b__law_taken := b__law_taken T
  have g__law_taken := T.g__law_taken
  have k__law_taken := T.f__law_taken.kp
  have n_len := T.n_len
  refine def_ok (N := ["row", "things"]) (k := 2) (fs := fs__law_pick) (Pc := fun c => True) T.f__law_pick sc__law_pick rfl rfl trivial fun cdv A outer s H E hc hr => ?_
  have nd := sc__law_pick.nd
  exact (dss_one (ds_ret (de_item (de_var 1) (de_call (ok__law_taken T) (hr.mono (by decide)) g__law_taken k__law_taken b__law_taken (takes_of rfl rfl rfl rfl) (da_cons (de_var 0) (da_cons (de_len rfl n_len (da_cons (de_var 1) da_nil)) da_nil))))))
theorem okS__law_alike (T : Txt K mg base Ts xa A cA pA Dd mA mD) {F : List W → Sto → R W} {j k : Nat} (hj : j ≤ k) (h0 : 1 ≤ k) (IH : FnOk P w K mg base (L2.CX P w) j (A "_law_alike") (Dd "_law_alike") ["found", "due"] (spD (TT K Ts xa) 2 F)) : FnOk P w K mg base (L2.CX P w) (k + 1) (A "_law_alike") (Dd "_law_alike") ["found", "due"] (spD (TT K Ts xa) 2 (runD 4 (fs__law_alike F))) := by
  have b__law_alike := b__law_alike T
  have g__law_alike := T.g__law_alike
  have k__law_alike := T.f__law_alike.kp
  have n_bool := T.n_bool
  have n_dict := T.n_dict
  have n_int := T.n_int
  have n_isinstance := T.n_isinstance
  have n_len := T.n_len
  have n_list := T.n_list
  have n_range := T.n_range
  have n_str := T.n_str
  have n_tuple := T.n_tuple
  refine def_ok (N := ["found", "due", "k", "key"]) (k := k) (fs := (fs__law_alike F)) (Pc := fun c => True) T.f__law_alike sc__law_alike rfl rfl trivial fun cdv A outer s H E hc hr => ?_
  have nd := sc__law_alike.nd
  have hrec := hr.mono hj
  exact (dss_cons (ds_if (dt_val (de_isi2 rfl n_isinstance n_tuple (by decide +kernel) rfl n_list (by decide +kernel) rfl (de_var 1))) (dss_cons (ds_if (DW.dt (dw_or (dt_not (dt_val (de_isi2 rfl n_isinstance n_tuple (by decide +kernel) rfl n_list (by decide +kernel) rfl (de_var 0)))) (dw_or1 (dt_ne (room_u65 hr) (de_isi rfl n_isinstance n_list (by decide +kernel) rfl (de_var 0)) (de_isi rfl n_isinstance n_list (by decide +kernel) rfl (de_var 1)))))) (dss_one (ds_ret de_bl)) dss_nil) (dss_cons (ds_if (dt_ne (room_u65 hr) (de_len rfl n_len (da_cons (de_var 0) da_nil)) (de_len rfl n_len (da_cons (de_var 1) da_nil))) (dss_one (ds_ret de_bl)) dss_nil) (dss_one (ds_ret (de_eq (room_u65 hr) (de_lc (own := [("k", 2)]) rfl nd (di_rng1 rfl n_range (da_cons (de_len rfl n_len (da_cons (de_var 1) da_nil)) da_nil)) (by kernel_rfl) (fun _ _ _ _ _ => (dg_name 2 nd)) (fun _ _ _ _ _ => (dts_one (dt_not (dt_val (de_call IH hrec g__law_alike k__law_alike b__law_alike takes0 (da_cons (de_item (de_var 0) (de_var 2)) (da_cons (de_item (de_var 1) (de_var 2)) da_nil))))))) (fun _ _ _ _ _ => (de_var 2))) (de_lst da_nil)))))) dss_nil) (dss_cons (ds_if (dt_val (de_isi rfl n_isinstance n_dict (by decide +kernel) rfl (de_var 1))) dss_dead dss_nil) (dss_cons (ds_if (DW.dt (dw_or (dt_is (de_var 1) de_non) (dw_or1 (dt_val (de_isi rfl n_isinstance n_str (by decide +kernel) rfl (de_var 1)))))) (dss_one (ds_ret (de_and (de_eq (room_u65 hr) (de_var 0) (de_var 1)) (de_one (de_eq (room_u65 hr) (de_isi rfl n_isinstance n_str (by decide +kernel) rfl (de_var 0)) (de_isi rfl n_isinstance n_str (by decide +kernel) rfl (de_var 1))))))) dss_nil) (dss_one (ds_ret (de_and (de_isi rfl n_isinstance n_int (by decide +kernel) rfl (de_var 0)) (de_and (de_eq (room_u65 hr) (de_isi rfl n_isinstance n_bool (by decide +kernel) rfl (de_var 0)) (de_isi rfl n_isinstance n_bool (by decide +kernel) rfl (de_var 1))) (de_one (de_eq (room_u65 hr) (de_var 0) (de_var 1))))))))))
theorem okJ__law_alike (T : Txt K mg base Ts xa A cA pA Dd mA mD) : ∀ j, FnOk P w K mg base (L2.CX P w) (2 + j) (A "_law_alike") (Dd "_law_alike") ["found", "due"] (spD (TT K Ts xa) 2 (FJ__law_alike j))
  | 0 => fn_bad rfl
  | j + 1 => okS__law_alike T (Nat.le_refl _) (Nat.le_trans (Nat.le_succ _) (Nat.le_add_right _ _)) (okJ__law_alike T j)
theorem ok__law_alike (T : Txt K mg base Ts xa A cA pA Dd mA mD) : FnOk P w K mg base (L2.CX P w) 10 (A "_law_alike") (Dd "_law_alike") ["found", "due"] (spD (TT K Ts xa) 2 F__law_alike) := okJ__law_alike T 8
theorem ok__law_two (T : Txt K mg base Ts xa A cA pA Dd mA mD) : FnOk P w K mg base (L2.CX P w) 4 (A "_law_two") (Dd "_law_two") ["row", "moods"] (spD (TT K Ts xa) 2 F__law_two) := by
  have b__law_pick := b__law_pick T
  have g__law_pick := T.g__law_pick
  have k__law_pick := T.f__law_pick.kp
  have n_list := T.n_list
  have n_sorted := T.n_sorted
  refine def_ok (N := ["row", "moods"]) (k := 3) (fs := fs__law_two) (Pc := fun c => True) T.f__law_two sc__law_two rfl rfl trivial fun cdv A outer s H E hc hr => ?_
  have nd := sc__law_two.nd
  exact (dss_one (ds_ret (de_join rfl de_str (de_sortedS rfl n_sorted (da_cons (de_lst (da_cons (de_call (ok__law_pick T) (hr.mono (by decide)) g__law_pick k__law_pick b__law_pick (takes_of rfl rfl rfl rfl) (da_cons (de_var 0) (da_cons (de_list rfl rfl n_list (da_cons (de_var 1) da_nil)) da_nil))) (da_cons (de_call (ok__law_pick T) (hr.mono (by decide)) g__law_pick k__law_pick b__law_pick (takes_of rfl rfl rfl rfl) (da_cons (de_var 0) (da_cons (de_list rfl rfl n_list (da_cons (de_var 1) da_nil)) da_nil))) da_nil))) da_nil)))))
theorem ok__law_moods (T : Txt K mg base Ts xa A cA pA Dd mA mD) : FnOk P w K mg base (L2.CX P w) 4 (A "_law_moods") (Dd "_law_moods") ["row"] (spD (TT K Ts xa) 1 F__law_moods) := by
  have b__law_pick := b__law_pick T
  have g__law_pick := T.g__law_pick
  have k__law_pick := T.f__law_pick.kp
  refine def_ok (N := ["row"]) (k := 3) (fs := fs__law_moods) (Pc := fun c => True) T.f__law_moods sc__law_moods rfl rfl trivial fun cdv A outer s H E hc hr => ?_
  have nd := sc__law_moods.nd
  exact (dss_one (ds_ret (de_call (ok__law_pick T) (hr.mono (by decide)) g__law_pick k__law_pick b__law_pick (takes_of rfl rfl rfl rfl) (da_cons (de_var 0) (da_cons (de_lst (da_cons de_str (da_cons de_str (da_cons de_str (da_cons de_str (da_cons de_str (da_cons de_str (da_cons de_str (da_cons de_str (da_cons de_str (da_cons de_str da_nil))))))))))) da_nil)))))
theorem ok__law_weight (T : Txt K mg base Ts xa A cA pA Dd mA mD) : FnOk P w K mg base (L2.CX P w) 2 (A "_law_weight") (Dd "_law_weight") ["moods", "told", "text"] (spD (TT K Ts xa) 3 F__law_weight) := by
  have n_sum := T.n_sum
  refine def_ok (N := ["moods", "told", "text", "mood"]) (k := 1) (fs := fs__law_weight) (Pc := fun c => True) T.f__law_weight sc__law_weight rfl rfl trivial fun cdv A outer s H E hc hr => ?_
  have nd := sc__law_weight.nd
  exact (dss_one (ds_ret (de_sum rfl rfl n_sum (da_cons (de_lc (own := [("mood", 3)]) rfl nd (di_seq (de_var 2)) (by kernel_rfl) (fun _ _ _ _ _ => (dg_name 3 nd)) (fun _ _ _ _ _ => dts_nil) (fun _ _ _ _ _ => (de_item (de_var 1) (de_index rfl (de_var 0) (de_var 3))))) da_nil))))
theorem ok__law_folk (T : Txt K mg base Ts xa A cA pA Dd mA mD) : FnOk P w K mg base (L2.CX P w) 5 (A "_law_folk") (Dd "_law_folk") ["row", "most"] (spD (TT K Ts xa) 2 F__law_folk) := by
  have b__law_moods := b__law_moods T
  have b__law_taken := b__law_taken T
  have b__law_two := b__law_two T
  have b__law_weight := b__law_weight T
  have g__law_moods := T.g__law_moods
  have g__law_taken := T.g__law_taken
  have g__law_two := T.g__law_two
  have g__law_weight := T.g__law_weight
  have k__law_moods := T.f__law_moods.kp
  have k__law_taken := T.f__law_taken.kp
  have k__law_two := T.f__law_two.kp
  have k__law_weight := T.f__law_weight.kp
  have n_range := T.n_range
  have n_tuple := T.n_tuple
  refine def_ok (N := ["row", "most", "turn", "moods", "rules", "told", "way", "is_loss", "one", "other", "mood"]) (k := 4) (fs := fs__law_folk) (Pc := fun c => True) T.f__law_folk sc__law_folk rfl rfl trivial fun cdv A outer s H E hc hr => ?_
  have nd := sc__law_folk.nd
  exact (dss_cons (ds_par 3 4 rfl nd (da_cons (de_call (ok__law_moods T) (hr.mono (by decide)) g__law_moods k__law_moods b__law_moods (takes_of rfl rfl rfl rfl) (da_cons (de_var 0) da_nil)) (da_cons (de_lstM da_nil) da_nil))) (dss_cons (ds_par 5 6 rfl nd (da_cons (de_lc (own := [("mood", 10)]) rfl nd (di_seq (de_var 3)) (by kernel_rfl) (fun _ _ _ _ _ => (dg_name 10 nd)) (fun _ _ _ _ _ => dts_nil) (fun _ _ _ _ _ => (de_call (ok__law_taken T) (hr.mono (by decide)) g__law_taken k__law_taken b__law_taken takes0 (da_cons (de_var 0) (da_cons de_int da_nil))))) (da_cons (de_call (ok__law_taken T) (hr.mono (by decide)) g__law_taken k__law_taken b__law_taken (takes_of rfl rfl rfl rfl) (da_cons (de_var 0) (da_cons de_int da_nil))) da_nil))) (dss_cons (ds_for (us := [2]) (passes_of rfl) rfl (di_rng1 rfl n_range (da_cons (de_call (ok__law_taken T) (hr.mono (by decide)) g__law_taken k__law_taken b__law_taken (takes_of rfl rfl rfl rfl) (da_cons (de_var 0) (da_cons (de_plus (de_var 1) de_int) da_nil))) da_nil)) (dg_name 2 nd) (dss_cons (ds_par 8 9 rfl nd (da_cons (de_call (ok__law_two T) (hr.mono (by decide)) g__law_two k__law_two b__law_two (takes_of rfl rfl rfl rfl) (da_cons (de_var 0) (da_cons (de_var 3) da_nil))) (da_cons (de_call (ok__law_two T) (hr.mono (by decide)) g__law_two k__law_two b__law_two (takes_of rfl rfl rfl rfl) (da_cons (de_var 0) (da_cons (de_var 3) da_nil))) da_nil))) (dss_cons (ds_if (DW.dt (dw_and (dt_gt (de_var 6) de_int) (dw_and1 (dt_lt (de_call (ok__law_weight T) (hr.mono (by decide)) g__law_weight k__law_weight b__law_weight (takes_of rfl rfl rfl rfl) (da_cons (de_var 3) (da_cons (de_var 5) (da_cons (de_var 8) da_nil)))) (de_call (ok__law_weight T) (hr.mono (by decide)) g__law_weight k__law_weight b__law_weight (takes_of rfl rfl rfl rfl) (da_cons (de_var 3) (da_cons (de_var 5) (da_cons (de_var 9) da_nil)))))))) (dss_one (ds_par 8 9 rfl nd (da_cons (de_var 9) (da_cons (de_var 8) da_nil)))) dss_nil) (dss_cons (ds_set 7 nd (de_or (de_eq (room_u65 hr) (de_var 6) de_int) (de_one (de_gt (de_call (ok__law_weight T) (hr.mono (by decide)) g__law_weight k__law_weight b__law_weight (takes_of rfl rfl rfl rfl) (da_cons (de_var 3) (da_cons (de_var 5) (da_cons (de_var 8) da_nil)))) (de_call (ok__law_weight T) (hr.mono (by decide)) g__law_weight k__law_weight b__law_weight (takes_of rfl rfl rfl rfl) (da_cons (de_var 3) (da_cons (de_var 5) (da_cons (de_var 9) da_nil)))))))) (dss_one (ds_if (DW.dt (dw_and (dt_ne (room_u65 hr) (de_var 8) (de_var 9)) (dw_and (dt_notIn (room_u65 hr) (de_tup (da_cons (de_var 8) (da_cons (de_var 9) da_nil))) (de_var 4)) (dw_and1 (dt_val (de_var 7)))))) (dss_one (ds_expr (de_append rfl (de_var 4) (da_cons (de_tup (da_cons (de_var 8) (da_cons (de_var 9) da_nil))) da_nil)))) dss_nil)))))) (dss_one (ds_ret (de_tup (da_cons (de_var 3) (da_cons (de_tuple rfl n_tuple (da_cons (de_var 4) da_nil)) da_nil))))))))
theorem ok__law_counts (T : Txt K mg base Ts xa A cA pA Dd mA mD) : FnOk P w K mg base (L2.CX P w) 2 (A "_law_counts") (Dd "_law_counts") ["moods", "text"] (spD (TT K Ts xa) 2 F__law_counts) := by
  have n_len := T.n_len
  have n_tuple := T.n_tuple
  refine def_ok (N := ["moods", "text", "mood", "sign"]) (k := 1) (fs := fs__law_counts) (Pc := fun c => True) T.f__law_counts sc__law_counts rfl rfl trivial fun cdv A outer s H E hc hr => ?_
  have nd := sc__law_counts.nd
  exact (dss_one (ds_ret (de_tuple rfl n_tuple (da_cons (de_lc (own := [("mood", 2)]) rfl nd (di_seq (de_var 0)) (by kernel_rfl) (fun _ _ _ _ _ => (dg_name 2 nd)) (fun _ _ _ _ _ => dts_nil) (fun _ _ _ _ _ => (de_len rfl n_len (da_cons (de_lc (own := [("sign", 3)]) rfl nd (di_seq (de_var 1)) (by kernel_rfl) (fun _ _ _ _ _ => (dg_name 3 nd)) (fun _ _ _ _ _ => (dts_one (dt_eq (room_u65 hr) (de_var 3) (de_var 2)))) (fun _ _ _ _ _ => de_int)) da_nil)))) da_nil))))
theorem ok__law_usable (T : Txt K mg base Ts xa A cA pA Dd mA mD) : FnOk P w K mg base (L2.CX P w) 3 (A "_law_usable") (Dd "_law_usable") ["folk", "crowd"] (spD (TT K Ts xa) 2 F__law_usable) := by
  have b__law_counts := b__law_counts T
  have g__law_counts := T.g__law_counts
  have k__law_counts := T.f__law_counts.kp
  have n_int := T.n_int
  have n_zip := T.n_zip
  refine def_ok (N := ["folk", "crowd", "found", "rule", "need", "many", "one"]) (k := 2) (fs := fs__law_usable) (Pc := fun c => True) T.f__law_usable sc__law_usable rfl rfl trivial fun cdv A outer s H E hc hr => ?_
  have nd := sc__law_usable.nd
  exact (dss_cons (ds_set 2 nd (de_lst da_nil)) (dss_cons (ds_for (us := [3]) (passes_of rfl) rfl (di_seq (de_item (de_var 0) de_int)) (dg_name 3 nd) (dss_cons (ds_set 4 nd (de_call (ok__law_counts T) (hr.mono (by decide)) g__law_counts k__law_counts b__law_counts (takes_of rfl rfl rfl rfl) (da_cons (de_item (de_var 0) de_int) (da_cons (de_item (de_var 3) de_int) da_nil)))) (dss_one (ds_set 2 nd (de_plus (de_var 2) (de_rep (da_cons (de_var 3) da_nil) (de_toInt rfl n_int (da_cons (de_eq (room_u65 hr) (de_lc (own := [("many", 5), ("one", 6)]) rfl nd (di_zip2 rfl n_zip (da_cons (de_var 1) (da_cons (de_var 4) da_nil))) (by kernel_rfl) (fun _ _ _ _ _ => (dg_tup rfl (dgs_cons (dg_name 5 nd) (dgs_cons (dg_name 6 nd) dgs_nil)))) (fun _ _ _ _ _ => (dts_one (dt_lt (de_var 5) (de_var 6)))) (fun _ _ _ _ _ => de_int)) (de_lst da_nil)) da_nil)))))))) (dss_one (ds_ret (de_var 2)))))
theorem ok__law_behind (T : Txt K mg base Ts xa A cA pA Dd mA mD) : FnOk P w K mg base (L2.CX P w) 3 (A "_law_behind") (Dd "_law_behind") ["folk", "crowd", "rule"] (spD (TT K Ts xa) 3 F__law_behind) := by
  have b__law_counts := b__law_counts T
  have g__law_counts := T.g__law_counts
  have k__law_counts := T.f__law_counts.kp
  have n_tuple := T.n_tuple
  have n_zip := T.n_zip
  refine def_ok (N := ["folk", "crowd", "rule", "old", "new", "many", "one", "other"]) (k := 2) (fs := fs__law_behind) (Pc := fun c => True) T.f__law_behind sc__law_behind rfl rfl trivial fun cdv A outer s H E hc hr => ?_
  have nd := sc__law_behind.nd
  exact (dss_cons (ds_par 3 4 rfl nd (da_cons (de_call (ok__law_counts T) (hr.mono (by decide)) g__law_counts k__law_counts b__law_counts (takes_of rfl rfl rfl rfl) (da_cons (de_item (de_var 0) de_int) (da_cons (de_item (de_var 2) de_int) da_nil))) (da_cons (de_call (ok__law_counts T) (hr.mono (by decide)) g__law_counts k__law_counts b__law_counts (takes_of rfl rfl rfl rfl) (da_cons (de_item (de_var 0) de_int) (da_cons (de_item (de_var 2) de_int) da_nil))) da_nil))) (dss_one (ds_ret (de_tuple rfl n_tuple (da_cons (de_lc (own := [("many", 5), ("one", 6), ("other", 7)]) rfl nd (di_zip3 rfl n_zip (da_cons (de_var 1) (da_cons (de_var 3) (da_cons (de_var 4) da_nil)))) (by kernel_rfl) (fun _ _ _ _ _ => (dg_tup rfl (dgs_cons (dg_name 5 nd) (dgs_cons (dg_name 6 nd) (dgs_cons (dg_name 7 nd) dgs_nil))))) (fun _ _ _ _ _ => dts_nil) (fun _ _ _ _ _ => (de_plus (de_sub (de_var 5) (de_var 6)) (de_var 7)))) da_nil)))))
theorem ok__law_crowd (T : Txt K mg base Ts xa A cA pA Dd mA mD) : FnOk P w K mg base (L2.CX P w) 4 (A "_law_crowd") (Dd "_law_crowd") ["row", "folk", "most"] (spD (TT K Ts xa) 3 F__law_crowd) := by
  have b__law_counts := b__law_counts T
  have b__law_pick := b__law_pick T
  have b__law_taken := b__law_taken T
  have g__law_counts := T.g__law_counts
  have g__law_pick := T.g__law_pick
  have g__law_taken := T.g__law_taken
  have k__law_counts := T.f__law_counts.kp
  have k__law_pick := T.f__law_pick.kp
  have k__law_taken := T.f__law_taken.kp
  have n_list := T.n_list
  have n_range := T.n_range
  refine def_ok (N := ["row", "folk", "most", "turn"]) (k := 3) (fs := fs__law_crowd) (Pc := fun c => True) T.f__law_crowd sc__law_crowd rfl rfl trivial fun cdv A outer s H E hc hr => ?_
  have nd := sc__law_crowd.nd
  exact (dss_one (ds_ret (de_call (ok__law_counts T) (hr.mono (by decide)) g__law_counts k__law_counts b__law_counts (takes_of rfl rfl rfl rfl) (da_cons (de_item (de_var 1) de_int) (da_cons (de_join rfl de_str (de_lc (own := [("turn", 3)]) rfl nd (di_rng1 rfl n_range (da_cons (de_call (ok__law_taken T) (hr.mono (by decide)) g__law_taken k__law_taken b__law_taken (takes_of rfl rfl rfl rfl) (da_cons (de_var 0) (da_cons (de_plus (de_var 2) de_int) da_nil))) da_nil)) (by kernel_rfl) (fun _ _ _ _ _ => (dg_name 3 nd)) (fun _ _ _ _ _ => dts_nil) (fun _ _ _ _ _ => (de_call (ok__law_pick T) (hr.mono (by decide)) g__law_pick k__law_pick b__law_pick takes0 (da_cons (de_var 0) (da_cons (de_list rfl rfl n_list (da_cons (de_item (de_var 1) de_int) da_nil)) da_nil)))))) da_nil)))))
theorem ok_law (T : Txt K mg base Ts xa A cA pA Dd mA mD) : FnOk P w K mg base (L2.CX P w) 11 (A "law") (Dd "law") ["script"] (spD (TT K Ts xa) 1 F_law) := by
  have b_Desk___init__ := b_Desk___init__ T
  have b_Desk_crowd := b_Desk_crowd T
  have b_Desk_is_at_rest := b_Desk_is_at_rest T
  have b_Desk_join := b_Desk_join T
  have b_Desk_leave := b_Desk_leave T
  have b_Desk_meet := b_Desk_meet T
  have b_Desk_row := b_Desk_row T
  have b_Desk_text := b_Desk_text T
  have b_Desk_undo := b_Desk_undo T
  have b__law_alike := b__law_alike T
  have b__law_behind := b__law_behind T
  have b__law_crowd := b__law_crowd T
  have b__law_folk := b__law_folk T
  have b__law_pick := b__law_pick T
  have b__law_taken := b__law_taken T
  have b__law_usable := b__law_usable T
  have b_desk_of := b_desk_of T
  have cl_Desk := T.cl_Desk
  have g__law_alike := T.g__law_alike
  have g__law_behind := T.g__law_behind
  have g__law_crowd := T.g__law_crowd
  have g__law_folk := T.g__law_folk
  have g__law_pick := T.g__law_pick
  have g__law_taken := T.g__law_taken
  have g__law_usable := T.g__law_usable
  have g_desk_of := T.g_desk_of
  have gd_Desk := T.gd_Desk
  have k__law_alike := T.f__law_alike.kp
  have k__law_behind := T.f__law_behind.kp
  have k__law_crowd := T.f__law_crowd.kp
  have k__law_folk := T.f__law_folk.kp
  have k__law_pick := T.f__law_pick.kp
  have k__law_taken := T.f__law_taken.kp
  have k__law_usable := T.f__law_usable.kp
  have k_desk_of := T.f_desk_of.kp
  have m_Desk_crowd := T.m_Desk_crowd
  have m_Desk_is_at_rest := T.m_Desk_is_at_rest
  have m_Desk_join := T.m_Desk_join
  have m_Desk_leave := T.m_Desk_leave
  have m_Desk_meet := T.m_Desk_meet
  have m_Desk_row := T.m_Desk_row
  have m_Desk_text := T.m_Desk_text
  have m_Desk_undo := T.m_Desk_undo
  have mk_Desk := T.mk_Desk
  have n_int := T.n_int
  have n_range := T.n_range
  have n_str := T.n_str
  have n_sum := T.n_sum
  have n_tuple := T.n_tuple
  have n_zip := T.n_zip
  refine def_ok (N := ["script", "row", "folk", "crowd", "turn", "text", "again", "desk", "now", "past", "way", "good", "rule", "more", "mood", "one", "other", "many", "deed", "sign"]) (k := 10) (fs := fs_law) (Pc := fun c => True) T.f_law sc_law rfl rfl trivial fun cdv A outer s H E hc hr => ?_
  have nd := sc_law.nd
  exact (dss_cons (ds_set 1 nd (de_lstM (da_cons (de_var 0) (da_cons de_int (da_cons de_int (da_cons de_int da_nil)))))) (dss_cons (ds_set 2 nd (de_call (ok__law_folk T) (hr.mono (by decide)) g__law_folk k__law_folk b__law_folk (takes_of rfl rfl rfl rfl) (da_cons (de_var 1) (da_cons de_int da_nil)))) (dss_cons (ds_set 3 nd (de_call (ok__law_crowd T) (hr.mono (by decide)) g__law_crowd k__law_crowd b__law_crowd (takes_of rfl rfl rfl rfl) (da_cons (de_var 1) (da_cons (de_var 2) (da_cons de_int da_nil))))) (dss_cons (ds_par3 7 8 9 rfl nd (da_cons (de_make mk_Desk (ok_Desk___init__ T) (hr.mono (by decide)) gd_Desk b_Desk___init__ passes_none (da_cons (de_var 2) (da_cons (de_var 3) da_nil))) (da_cons (de_var 3) (da_cons (de_lstM da_nil) da_nil)))) (dss_cons (ds_for (us := [4]) (passes_of rfl) rfl (di_rng1 rfl n_range (da_cons (de_call (ok__law_taken T) (hr.mono (by decide)) g__law_taken k__law_taken b__law_taken (takes_of rfl rfl rfl rfl) (da_cons (de_var 1) (da_cons de_int da_nil))) da_nil)) (dg_name 4 nd) (dss_cons (ds_par 10 11 rfl nd (da_cons (de_call (ok__law_taken T) (hr.mono (by decide)) g__law_taken k__law_taken b__law_taken (takes_of rfl rfl rfl rfl) (da_cons (de_var 1) (da_cons de_int da_nil))) (da_cons (de_call (ok__law_usable T) (hr.mono (by decide)) g__law_usable k__law_usable b__law_usable (takes_of rfl rfl rfl rfl) (da_cons (de_var 2) (da_cons (de_var 8) da_nil))) da_nil))) (dss_one (ds_if (DW.dt (dw_and (dt_lt (de_var 10) de_int) (dw_and1 (dt_ne (room_u65 hr) (de_var 11) (de_lst da_nil))))) (dss_cons (ds_set 12 nd (de_call (ok__law_pick T) (hr.mono (by decide)) g__law_pick k__law_pick b__law_pick (takes_of rfl rfl rfl rfl) (da_cons (de_var 1) (da_cons (de_var 11) da_nil)))) (dss_cons (ds_expr (de_meth cl_Desk m_Desk_meet (ok_Desk_meet T) (hr.mono (by decide)) b_Desk_meet passes_none (de_var 7) (da_cons (de_var 12) da_nil))) (dss_cons (ds_expr (de_append rfl (de_var 9) (da_cons (de_tup (da_cons (de_tup (da_cons de_str (da_cons (de_var 12) da_nil))) (da_cons (de_var 8) da_nil))) da_nil))) (dss_one (ds_set 8 nd (de_call (ok__law_behind T) (hr.mono (by decide)) g__law_behind k__law_behind b__law_behind (takes_of rfl rfl rfl rfl) (da_cons (de_var 2) (da_cons (de_var 8) (da_cons (de_var 12) da_nil))))))))) (dss_one (ds_if (dt_eq (room_u65 hr) (de_var 10) de_int) (dss_cons (ds_set 13 nd (de_call (ok__law_crowd T) (hr.mono (by decide)) g__law_crowd k__law_crowd b__law_crowd (takes_of rfl rfl rfl rfl) (da_cons (de_var 1) (da_cons (de_var 2) (da_cons de_int da_nil))))) (dss_cons (ds_expr (de_meth cl_Desk m_Desk_join (ok_Desk_join T) (hr.mono (by decide)) b_Desk_join passes_none (de_var 7) (da_cons (de_var 13) da_nil))) (dss_cons (ds_expr (de_append rfl (de_var 9) (da_cons (de_tup (da_cons (de_tup (da_cons de_str (da_cons (de_var 13) da_nil))) (da_cons (de_var 8) da_nil))) da_nil))) (dss_one (ds_set 8 nd (de_tuple rfl n_tuple (da_cons (de_lc (own := [("one", 15), ("other", 16)]) rfl nd (di_zip2V rfl n_zip (da_cons (de_var 8) (da_cons (de_var 13) da_nil))) (by kernel_rfl) (fun _ _ _ _ _ => (dg_tup rfl (dgs_cons (dg_name 15 nd) (dgs_cons (dg_name 16 nd) dgs_nil)))) (fun _ _ _ _ _ => dts_nil) (fun _ _ _ _ _ => (de_plus (de_var 15) (de_var 16)))) da_nil))))))) (dss_one (ds_if (DW.dt (dw_and (dt_eq (room_u65 hr) (de_var 10) de_int) (dw_and1 (dt_gt (de_sumA rfl rfl n_sum (da_cons (de_var 8) da_nil)) de_int)))) (dss_cons (ds_set 14 nd (de_call (ok__law_pick T) (hr.mono (by decide)) g__law_pick k__law_pick b__law_pick (takes_of rfl rfl rfl rfl) (da_cons (de_var 1) (da_cons (de_lc (own := [("sign", 19), ("many", 17)]) rfl nd (di_zip2V rfl n_zip (da_cons (de_item (de_var 2) de_int) (da_cons (de_var 8) da_nil))) (by kernel_rfl) (fun _ _ _ _ _ => (dg_tup rfl (dgs_cons (dg_name 19 nd) (dgs_cons (dg_name 17 nd) dgs_nil)))) (fun _ _ _ _ _ => (dts_one (dt_gt (de_var 17) de_int))) (fun _ _ _ _ _ => (de_var 19))) da_nil)))) (dss_cons (ds_expr (de_meth cl_Desk m_Desk_leave (ok_Desk_leave T) (hr.mono (by decide)) b_Desk_leave passes_none (de_var 7) (da_cons (de_var 14) da_nil))) (dss_cons (ds_expr (de_append rfl (de_var 9) (da_cons (de_tup (da_cons (de_tup (da_cons de_str (da_cons (de_var 14) da_nil))) (da_cons (de_var 8) da_nil))) da_nil))) (dss_one (ds_set 8 nd (de_tuple rfl n_tuple (da_cons (de_lc (own := [("sign", 19), ("many", 17)]) rfl nd (di_zip2V rfl n_zip (da_cons (de_item (de_var 2) de_int) (da_cons (de_var 8) da_nil))) (by kernel_rfl) (fun _ _ _ _ _ => (dg_tup rfl (dgs_cons (dg_name 19 nd) (dgs_cons (dg_name 17 nd) dgs_nil)))) (fun _ _ _ _ _ => dts_nil) (fun _ _ _ _ _ => (de_sub (de_var 17) (de_toInt rfl n_int (da_cons (de_eq (room_u65 hr) (de_var 19) (de_var 14)) da_nil))))) da_nil))))))) (dss_one (ds_if (dt_neM (room_u65 hr) (de_var 9) (de_lst da_nil)) (dss_cons (ds_expr (de_meth0 cl_Desk m_Desk_undo (ok_Desk_undo T) (hr.mono (by decide)) b_Desk_undo passes_none (de_var 7))) (dss_one (ds_set 8 nd (de_item (de_pop rfl (de_var 9)) de_int)))) dss_nil)))))))))) (dss_cons (ds_if (dt_not (dt_val (de_call (ok__law_alike T) (hr.mono (by decide)) g__law_alike k__law_alike b__law_alike (takes_of rfl rfl rfl rfl) (da_cons (de_lst (da_cons (de_meth0 cl_Desk m_Desk_crowd (ok_Desk_crowd T) (hr.mono (by decide)) b_Desk_crowd passes_none (de_var 7)) (da_cons (de_meth0 cl_Desk m_Desk_row (ok_Desk_row T) (hr.mono (by decide)) b_Desk_row passes_none (de_var 7)) da_nil))) (da_cons (de_lst (da_cons (de_var 8) (da_cons (de_tuple rfl n_tuple (da_cons (de_lcG finD_ok (own := [("deed", 18), ("one", 15)]) rfl nd (di_cell (de_var 9)) (by kernel_rfl) (fun _ _ _ _ _ => (dg_tup rfl (dgs_cons (dg_name 18 nd) (dgs_cons (dg_name 15 nd) dgs_nil)))) (fun _ _ _ _ _ => dts_nil) (fun _ _ _ _ _ => (de_var 18))) da_nil)) da_nil))) da_nil))))) (dss_one (ds_ret de_bl)) dss_nil) (dss_cons (ds_set 5 nd (de_plus (de_plus (de_plus de_str (de_item (de_var 2) de_int)) de_str) (de_join rfl de_str (de_lc (own := [("one", 15), ("other", 16)]) rfl nd (di_seq (de_item (de_var 2) de_int)) (by kernel_rfl) (fun _ _ _ _ _ => (dg_tup rfl (dgs_cons (dg_name 15 nd) (dgs_cons (dg_name 16 nd) dgs_nil)))) (fun _ _ _ _ _ => dts_nil) (fun _ _ _ _ _ => (de_plus (de_plus (de_plus de_str (de_var 15)) de_str) (de_var 16))))))) (dss_cons (ds_set 5 nd (de_plus (de_plus (de_plus (de_var 5) de_str) (de_join rfl de_str (de_lc (own := [("many", 17)]) rfl nd (di_seq (de_var 8)) (by kernel_rfl) (fun _ _ _ _ _ => (dg_name 17 nd)) (fun _ _ _ _ _ => dts_nil) (fun _ _ _ _ _ => (de_plus de_str (de_strI rfl n_str (da_cons (de_var 17) da_nil))))))) de_str)) (dss_cons (ds_if (dt_not (dt_val (de_call (ok__law_alike T) (hr.mono (by decide)) g__law_alike k__law_alike b__law_alike (takes_of rfl rfl rfl rfl) (da_cons (de_lst (da_cons (de_meth0 cl_Desk m_Desk_text (ok_Desk_text T) (hr.mono (by decide)) b_Desk_text passes_none (de_var 7)) (da_cons (de_meth0 cl_Desk m_Desk_is_at_rest (ok_Desk_is_at_rest T) (hr.mono (by decide)) b_Desk_is_at_rest passes_none (de_var 7)) da_nil))) (da_cons (de_lst (da_cons (de_var 5) (da_cons (de_eq (room_u65 hr) (de_call (ok__law_usable T) (hr.mono (by decide)) g__law_usable k__law_usable b__law_usable (takes_of rfl rfl rfl rfl) (da_cons (de_var 2) (da_cons (de_var 8) da_nil))) (de_lst da_nil)) da_nil))) da_nil))))) (dss_one (ds_ret de_bl)) dss_nil) (dss_cons (ds_set 6 nd (de_call (ok_desk_of T) (hr.mono (by decide)) g_desk_of k_desk_of b_desk_of (takes_of rfl rfl rfl rfl) (da_cons (de_var 5) da_nil))) (dss_one (ds_ret (de_call (ok__law_alike T) (hr.mono (by decide)) g__law_alike k__law_alike b__law_alike (takes_of rfl rfl rfl rfl) (da_cons (de_lst (da_cons (de_meth0 cl_Desk m_Desk_text (ok_Desk_text T) (hr.mono (by decide)) b_Desk_text passes_none (de_var 6)) (da_cons (de_meth0 cl_Desk m_Desk_crowd (ok_Desk_crowd T) (hr.mono (by decide)) b_Desk_crowd passes_none (de_var 6)) (da_cons (de_meth0 cl_Desk m_Desk_row (ok_Desk_row T) (hr.mono (by decide)) b_Desk_row passes_none (de_var 6)) da_nil)))) (da_cons (de_lst (da_cons (de_var 5) (da_cons (de_var 8) (da_cons (de_tup da_nil) da_nil)))) da_nil)))))))))))))))
end
end KK

set_option Elab.async false
set_option linter.all false
set_option maxRecDepth 100000
namespace KK
open PySem Pd
local macro_rules | `(tactic| subst_eqs) => `(tactic| repeat (first
  | ((with_reducible refine g_var ?_); refine we_var rfl ?_)
  | with_reducible refine we_c ?_
  | with_reducible refine we_bin ?_
  | with_reducible refine wa_cons ?_
  | with_reducible refine wa_nil ?_
  | ((with_reducible refine we_call ?_))
  | with_reducible refine ws_seq ?_
  | with_reducible refine ws_set ?_
  | with_reducible refine ws_ret ?_
  | with_reducible refine ws_if ?_
  | with_reducible refine ws_nil ?_
  | with_reducible refine wt_v ?_
  | with_reducible refine wt_not ?_
  | with_reducible refine wt_and ?_
  | with_reducible refine wt_or ?_
  | with_reducible refine wp_plus_i ?_
  | with_reducible refine wp_sub ?_
  | with_reducible refine wp_lt_i ?_
  | with_reducible refine wp_le_i ?_
  | with_reducible refine wp_gt_i ?_
  | with_reducible refine wp_ge_i ?_
  | with_reducible refine wp_eq_i ?_
  | with_reducible refine wp_ne_i ?_
  | with_reducible refine wp_lt_s ?_
  | with_reducible refine wp_le_s ?_
  | with_reducible refine wp_gt_s ?_
  | with_reducible refine wp_ge_s ?_
  | with_reducible refine wp_is_nn ?_
  | with_reducible refine wp_is_in ?_
  | with_reducible refine wp_is_tn ?_
  | with_reducible refine wp_is_ln ?_
  | with_reducible refine wp_is_sn ?_
  | with_reducible refine wp_is_bb ?_
  | with_reducible refine wp_isnt_nn ?_
  | with_reducible refine wp_isnt_in ?_
  | with_reducible refine wp_isnt_tn ?_
  | with_reducible refine wp_isnt_ln ?_
  | with_reducible refine wp_isnt_sn ?_
  | with_reducible refine wp_isnt_bb ?_
  | with_reducible refine wp_in_s ?_
  | with_reducible refine wp_nin_s ?_
  | with_reducible refine we_B ?_
  | with_reducible refine we_tup ?_
  | with_reducible refine we_lst ?_
  | with_reducible refine we_not ?_
  | with_reducible refine we_and ?_
  | with_reducible refine we_or ?_
  | with_reducible refine we_if ?_
  | with_reducible refine we_neg ?_
  | with_reducible refine we_chain ?_
  | with_reducible refine we_isi ?_
  | with_reducible refine we_ms ?_
  | with_reducible refine we_ml ?_
  | with_reducible refine we_ml0 ?_
  | with_reducible refine we_sl ?_
  | with_reducible refine wo_none ?_
  | with_reducible refine wo_some ?_
  | with_reducible refine we_rep ?_
  | with_reducible refine we_repC ?_
  | with_reducible refine we_lstM ?_
  | with_reducible refine we_dnew ?_
  | with_reducible refine wq_int_i ?_
  | with_reducible refine wq_int_b ?_
  | with_reducible refine wq_len_l ?_
  | with_reducible refine wq_len_t ?_
  | with_reducible refine wq_tup_l ?_
  | with_reducible refine wq_tup_t ?_
  | with_reducible refine wq_list_l ?_
  | with_reducible refine wq_list_t ?_
  | with_reducible refine wq_count ?_
  | with_reducible refine wf_C ?_
  | with_reducible refine wf_D ?_
  | with_reducible refine wt_yes ?_
  | with_reducible refine wt_tru ?_
  | with_reducible refine ws_retN ?_
  | with_reducible refine ws_bk ?_
  | with_reducible refine ws_ct ?_
  | with_reducible refine ws_expr ?_
  | with_reducible refine ws_asg ?_
  | with_reducible refine ws_par ?_
  | with_reducible refine ws_put ?_
  | with_reducible refine ws_augS ?_
  | with_reducible refine ws_aug ?_
  | with_reducible refine ws_dput ?_
  | with_reducible refine ws_raise ?_
  | with_reducible refine ws_for ?_
  | with_reducible refine ws_forG ?_
  | with_reducible refine wi_seq ?_
  | with_reducible refine wi_rg1 ?_
  | with_reducible refine wi_rg2 ?_
  | with_reducible refine wi_z2 ?_
  | with_reducible refine wi_z3 ?_
  | with_reducible refine wi_en ?_
  | with_reducible refine wi_G ?_
  | with_reducible refine wi_cell ?_
  | with_reducible refine wi_enC ?_
  | with_reducible refine fn_rt ?_
  | with_reducible refine fn_ex ?_
  | with_reducible refine lp_rt ?_
  | with_reducible refine lp_ex ?_
  | with_reducible refine lp_bk ?_
  | with_reducible refine lp_ct ?_
  | with_reducible refine tr_rt ?_
  | with_reducible refine tr_ex ?_
  | with_reducible refine tr_bk ?_
  | with_reducible refine tr_ct ?_
  | with_reducible refine if_t ?_
  | with_reducible refine if_f ?_
  | with_reducible refine if_nt ?_
  | with_reducible refine if_nf ?_
  | (refine ⟨"tuple", true, rfl, by decide, ?_⟩)
  | (refine ⟨"tuple", false, rfl, by decide, ?_⟩)
  | (refine ⟨"int", true, rfl, by decide, ?_⟩)
  | (refine ⟨"int", false, rfl, by decide, ?_⟩)
  | (refine ⟨"str", true, rfl, by decide, ?_⟩)
  | (refine ⟨"str", false, rfl, by decide, ?_⟩)
  | (refine ⟨"list", true, rfl, by decide, ?_⟩)
  | (refine ⟨"list", false, rfl, by decide, ?_⟩)
  | (refine ⟨"NoneType", true, rfl, by decide, ?_⟩)
  | (refine ⟨"NoneType", false, rfl, by decide, ?_⟩)
  | (refine ⟨"bool", true, rfl, by decide, ?_⟩)
  | (refine ⟨"bool", false, rfl, by decide, ?_⟩)
  | (refine ⟨"dict", true, rfl, by decide, ?_⟩)
  | (refine ⟨"dict", false, rfl, by decide, ?_⟩)
  | refine ⟨_, rfl, ?_⟩
  | refine ⟨sz_ok rfl, ?_⟩
  | refine ⟨_, _, rfl, rfl, ?_⟩
  | refine ⟨_, _, _, _, rfl, rfl, rfl, ?_⟩
  | refine ⟨_, _, _, _, _, _, rfl, rfl, rfl, rfl, ?_⟩
  | refine ⟨_, _, rfl, ?_⟩
  | refine ⟨rfl, ?_⟩
  | (with_reducible refine wR_ok (by with_reducible assumption) ?_)))
local macro_rules | `(tactic| injections) => `(tactic| repeat (first
  | ((with_reducible refine g_var ?_); refine we_var rfl ?_)
  | with_reducible refine we_c ?_
  | with_reducible refine we_bin ?_
  | with_reducible refine wa_cons ?_
  | with_reducible refine wa_nil ?_
  | ((with_reducible refine we_call ?_))
  | with_reducible refine ws_nil ?_
  | with_reducible refine wt_v ?_
  | with_reducible refine wt_not ?_
  | with_reducible refine wt_and ?_
  | with_reducible refine wt_or ?_
  | with_reducible refine wp_plus_i ?_
  | with_reducible refine wp_sub ?_
  | with_reducible refine wp_lt_i ?_
  | with_reducible refine wp_le_i ?_
  | with_reducible refine wp_gt_i ?_
  | with_reducible refine wp_ge_i ?_
  | with_reducible refine wp_eq_i ?_
  | with_reducible refine wp_ne_i ?_
  | with_reducible refine wp_lt_s ?_
  | with_reducible refine wp_le_s ?_
  | with_reducible refine wp_gt_s ?_
  | with_reducible refine wp_ge_s ?_
  | with_reducible refine wp_is_nn ?_
  | with_reducible refine wp_is_in ?_
  | with_reducible refine wp_is_tn ?_
  | with_reducible refine wp_is_ln ?_
  | with_reducible refine wp_is_sn ?_
  | with_reducible refine wp_is_bb ?_
  | with_reducible refine wp_isnt_nn ?_
  | with_reducible refine wp_isnt_in ?_
  | with_reducible refine wp_isnt_tn ?_
  | with_reducible refine wp_isnt_ln ?_
  | with_reducible refine wp_isnt_sn ?_
  | with_reducible refine wp_isnt_bb ?_
  | with_reducible refine wp_in_s ?_
  | with_reducible refine wp_nin_s ?_
  | with_reducible refine we_B ?_
  | with_reducible refine we_tup ?_
  | with_reducible refine we_lst ?_
  | with_reducible refine we_not ?_
  | with_reducible refine we_and ?_
  | with_reducible refine we_or ?_
  | with_reducible refine we_if ?_
  | with_reducible refine we_neg ?_
  | with_reducible refine we_chain ?_
  | with_reducible refine we_isi ?_
  | with_reducible refine we_ms ?_
  | with_reducible refine we_ml ?_
  | with_reducible refine we_ml0 ?_
  | with_reducible refine we_sl ?_
  | with_reducible refine wo_none ?_
  | with_reducible refine wo_some ?_
  | with_reducible refine we_rep ?_
  | with_reducible refine we_repC ?_
  | with_reducible refine we_lstM ?_
  | with_reducible refine we_dnew ?_
  | with_reducible refine wq_int_i ?_
  | with_reducible refine wq_int_b ?_
  | with_reducible refine wq_len_l ?_
  | with_reducible refine wq_len_t ?_
  | with_reducible refine wq_tup_l ?_
  | with_reducible refine wq_tup_t ?_
  | with_reducible refine wq_list_l ?_
  | with_reducible refine wq_list_t ?_
  | with_reducible refine wq_count ?_
  | with_reducible refine wf_C ?_
  | with_reducible refine wf_D ?_
  | with_reducible refine wt_yes ?_
  | with_reducible refine wt_tru ?_
  | with_reducible refine wi_seq ?_
  | with_reducible refine wi_rg1 ?_
  | with_reducible refine wi_rg2 ?_
  | with_reducible refine wi_z2 ?_
  | with_reducible refine wi_z3 ?_
  | with_reducible refine wi_en ?_
  | with_reducible refine wi_G ?_
  | with_reducible refine wi_cell ?_
  | with_reducible refine wi_enC ?_
  | with_reducible refine fn_rt ?_
  | with_reducible refine fn_ex ?_
  | with_reducible refine lp_rt ?_
  | with_reducible refine lp_ex ?_
  | with_reducible refine lp_bk ?_
  | with_reducible refine lp_ct ?_
  | with_reducible refine tr_rt ?_
  | with_reducible refine tr_ex ?_
  | with_reducible refine tr_bk ?_
  | with_reducible refine tr_ct ?_
  | with_reducible refine if_t ?_
  | with_reducible refine if_f ?_
  | with_reducible refine if_nt ?_
  | with_reducible refine if_nf ?_
  | (refine ⟨"tuple", true, rfl, by decide, ?_⟩)
  | (refine ⟨"tuple", false, rfl, by decide, ?_⟩)
  | (refine ⟨"int", true, rfl, by decide, ?_⟩)
  | (refine ⟨"int", false, rfl, by decide, ?_⟩)
  | (refine ⟨"str", true, rfl, by decide, ?_⟩)
  | (refine ⟨"str", false, rfl, by decide, ?_⟩)
  | (refine ⟨"list", true, rfl, by decide, ?_⟩)
  | (refine ⟨"list", false, rfl, by decide, ?_⟩)
  | (refine ⟨"NoneType", true, rfl, by decide, ?_⟩)
  | (refine ⟨"NoneType", false, rfl, by decide, ?_⟩)
  | (refine ⟨"bool", true, rfl, by decide, ?_⟩)
  | (refine ⟨"bool", false, rfl, by decide, ?_⟩)
  | (refine ⟨"dict", true, rfl, by decide, ?_⟩)
  | (refine ⟨"dict", false, rfl, by decide, ?_⟩)
  | refine ⟨_, rfl, ?_⟩
  | refine ⟨sz_ok rfl, ?_⟩
  | refine ⟨_, _, rfl, rfl, ?_⟩
  | refine ⟨_, _, _, _, rfl, rfl, rfl, ?_⟩
  | refine ⟨_, _, _, _, _, _, rfl, rfl, rfl, rfl, ?_⟩
  | refine ⟨_, _, rfl, ?_⟩
  | refine ⟨rfl, ?_⟩
  | (with_reducible refine wR_ok (by with_reducible assumption) ?_)))
set_option maxHeartbeats 1000000
open PySem Pd
theorem sh_int (i : Int) : SeqAt.shaped (.int i) = true := rfl
theorem sh_bool (i : Bool) : SeqAt.shaped (.bool i) = true := rfl
theorem sh_non : SeqAt.shaped .none = true := rfl
theorem ev_int (i j : Int) : PyData.eqv (.int i) (.int j) = (i == j) := rfl
theorem ev_str (i j : Str) : PyData.eqv (.str i) (.str j) = (i == j) := rfl
theorem ev_bool (i j : Bool) : PyData.eqv (.bool i) (.bool j) = (i == j) := rfl
def isPair : PyData → Bool
  | .tuple [_, _] => true
  | _ => false
theorem r_pair {m : Sto} (h : Fl m) (x : PyData) : F_is_pair [.d x] m = .ok (.d (.bool (isPair x))) m := by
  cases x with
  | tuple ds =>
    simp [F_is_pair, fs_is_pair, runD_ap, startE, eVar_ap, eC_ap, eBin_ap, eChain_ap, tV_ap, tNot_ap, tAnd_ap, tOr_ap, eAnd_ap, eOr_ap, eNot_ap, eIf_ap, aNil_ap, aCons_ap, eTup_ap, eLst_ap, eLstM_ap, eRep_ap, eCall_ap, eB_ap, eIsi_ap, eMl_ap, eMs_ap, oNone_ap, oSome_ap, eSl_ap, sNil_ap, sSeq_ap, sRet_ap, sExpr_ap, sIf_ap, sSet_ap, sAsg_ap, sPar_ap, sPut_ap, iSeq_ap, iRg1_ap, iRg2_ap, fYes_ap, iZ2_ap, iZ3_ap, sRaise_ap, eNeg_ap, ofR, R.bind, toB_b, gN, gT, gsCons, gsNil, wipeE, pPlus_i, pPlus_l, pPlus_t, pPlus_s, pSub_i, pMul_i, pDiv_i, pMod_i, pPow_i, pEq_d, pNe_d, pLt_i, pLe_i, pGt_i, pGe_i, pLt_s, pLe_s, pGt_s, pGe_s, pIs_n, pIs_t, pIs_l, pIs_s, pIs_i, pIs_bn, pIs_b, pIn_s, pIn_l, pIn_t, pIx_l, pIx_t, pIx_s, qLen_s, qLen_l, qLen_t, qInt_i, qInt_b, qTup_l, qTup_t, qList_l, qList_t, qSum, qJoin, qCount, qIndex, tyW, tyD, isN, unW, unWs, noX, seqW_l, seqW_t, sizeLine_eq, L2.atI, L2.ixN, dEnd_rt h, sh_int, ev_int]
    match ds with
    | [] => rfl
    | [_] => rfl
    | [_, _] => rfl
    | _ :: _ :: _ :: _ =>
      simp [isPair]
      omega
  | _ => simp [F_is_pair, fs_is_pair, runD_ap, startE, eVar_ap, eC_ap, eBin_ap, eChain_ap, tV_ap, tNot_ap, tAnd_ap, tOr_ap, eAnd_ap, eOr_ap, eNot_ap, eIf_ap, aNil_ap, aCons_ap, eTup_ap, eLst_ap, eLstM_ap, eRep_ap, eCall_ap, eB_ap, eIsi_ap, eMl_ap, eMs_ap, oNone_ap, oSome_ap, eSl_ap, sNil_ap, sSeq_ap, sRet_ap, sExpr_ap, sIf_ap, sSet_ap, sAsg_ap, sPar_ap, sPut_ap, iSeq_ap, iRg1_ap, iRg2_ap, fYes_ap, iZ2_ap, iZ3_ap, sRaise_ap, eNeg_ap, ofR, R.bind, toB_b, gN, gT, gsCons, gsNil, wipeE, pPlus_i, pPlus_l, pPlus_t, pPlus_s, pSub_i, pMul_i, pDiv_i, pMod_i, pPow_i, pEq_d, pNe_d, pLt_i, pLe_i, pGt_i, pGe_i, pLt_s, pLe_s, pGt_s, pGe_s, pIs_n, pIs_t, pIs_l, pIs_s, pIs_i, pIs_bn, pIs_b, pIn_s, pIn_l, pIn_t, pIx_l, pIx_t, pIx_s, qLen_s, qLen_l, qLen_t, qInt_i, qInt_b, qTup_l, qTup_t, qList_l, qList_t, qSum, qJoin, qCount, qIndex, tyW, tyD, isN, unW, unWs, noX, seqW_l, seqW_t, sizeLine_eq, L2.atI, L2.ixN, dEnd_rt h, isPair]
def isInt : PyData → Bool
  | .int _ => true
  | _ => false
theorem r_integer {m : Sto} (h : Fl m) (x : PyData) : F_is_integer [.d x] m = .ok (.d (.bool (isInt x))) m := by
  cases x <;> simp [F_is_integer, fs_is_integer, runD_ap, startE, eVar_ap, eC_ap, eBin_ap, eChain_ap, tV_ap, tNot_ap, tAnd_ap, tOr_ap, eAnd_ap, eOr_ap, eNot_ap, eIf_ap, aNil_ap, aCons_ap, eTup_ap, eLst_ap, eLstM_ap, eRep_ap, eCall_ap, eB_ap, eIsi_ap, eMl_ap, eMs_ap, oNone_ap, oSome_ap, eSl_ap, sNil_ap, sSeq_ap, sRet_ap, sExpr_ap, sIf_ap, sSet_ap, sAsg_ap, sPar_ap, sPut_ap, iSeq_ap, iRg1_ap, iRg2_ap, fYes_ap, iZ2_ap, iZ3_ap, sRaise_ap, eNeg_ap, ofR, R.bind, toB_b, gN, gT, gsCons, gsNil, wipeE, pPlus_i, pPlus_l, pPlus_t, pPlus_s, pSub_i, pMul_i, pDiv_i, pMod_i, pPow_i, pEq_d, pNe_d, pLt_i, pLe_i, pGt_i, pGe_i, pLt_s, pLe_s, pGt_s, pGe_s, pIs_n, pIs_t, pIs_l, pIs_s, pIs_i, pIs_bn, pIs_b, pIn_s, pIn_l, pIn_t, pIx_l, pIx_t, pIx_s, qLen_s, qLen_l, qLen_t, qInt_i, qInt_b, qTup_l, qTup_t, qList_l, qList_t, qSum, qJoin, qCount, qIndex, tyW, tyD, isN, unW, unWs, noX, seqW_l, seqW_t, sizeLine_eq, L2.atI, L2.ixN, dEnd_rt h, isInt]
/-- a text in a text -/
def isIn (x y : Str) : Bool := !(Builtin.Str.occurrences y x 0 y.length 1).isEmpty
def areTwo (M : Str) : PyData → Bool
  | .str t => match t.cps.toList with
    | [a, b] => isIn ⟨#[a]⟩ M && isIn ⟨#[b]⟩ M && !sLt ⟨#[b]⟩ ⟨#[a]⟩
    | _ => false
  | _ => false
theorem r_two {m : Sto} (h : Fl m) (M : Str) (x : PyData) (hz : ∀ t, x = .str t → t.length ≤ sizeLine) : F_are_two [.d (.str M), .d x] m = .ok (.d (.bool (areTwo M x))) m := by
  cases x with
  | str t =>
    have ht := hz t rfl
    obtain ⟨⟨l⟩⟩ := t
    have e2 : (⟨⟨l⟩⟩ : Str).length = l.length := rfl
    rw [e2, sizeLine_eq] at ht
    match l, ht with
    | [], ht => simp [F_are_two, fs_are_two, runD_ap, startE, eVar_ap, eC_ap, eBin_ap, eChain_ap, tV_ap, tNot_ap, tAnd_ap, tOr_ap, eAnd_ap, eOr_ap, eNot_ap, eIf_ap, aNil_ap, aCons_ap, eTup_ap, eLst_ap, eLstM_ap, eRep_ap, eCall_ap, eB_ap, eIsi_ap, eMl_ap, eMs_ap, oNone_ap, oSome_ap, eSl_ap, sNil_ap, sSeq_ap, sRet_ap, sExpr_ap, sIf_ap, sSet_ap, sAsg_ap, sPar_ap, sPut_ap, iSeq_ap, iRg1_ap, iRg2_ap, fYes_ap, iZ2_ap, iZ3_ap, sRaise_ap, eNeg_ap, ofR, R.bind, toB_b, gN, gT, gsCons, gsNil, wipeE, pPlus_i, pPlus_l, pPlus_t, pPlus_s, pSub_i, pMul_i, pDiv_i, pMod_i, pPow_i, pEq_d, pNe_d, pLt_i, pLe_i, pGt_i, pGe_i, pLt_s, pLe_s, pGt_s, pGe_s, pIs_n, pIs_t, pIs_l, pIs_s, pIs_i, pIs_bn, pIs_b, pIn_s, pIn_l, pIn_t, pIx_l, pIx_t, pIx_s, qLen_s, qLen_l, qLen_t, qInt_i, qInt_b, qTup_l, qTup_t, qList_l, qList_t, qSum, qJoin, qCount, qIndex, tyW, tyD, isN, unW, unWs, noX, seqW_l, seqW_t, sizeLine_eq, L2.atI, L2.ixN, dEnd_rt h, areTwo, sh_int, ev_int, e2]
    | [_], ht => simp [F_are_two, fs_are_two, runD_ap, startE, eVar_ap, eC_ap, eBin_ap, eChain_ap, tV_ap, tNot_ap, tAnd_ap, tOr_ap, eAnd_ap, eOr_ap, eNot_ap, eIf_ap, aNil_ap, aCons_ap, eTup_ap, eLst_ap, eLstM_ap, eRep_ap, eCall_ap, eB_ap, eIsi_ap, eMl_ap, eMs_ap, oNone_ap, oSome_ap, eSl_ap, sNil_ap, sSeq_ap, sRet_ap, sExpr_ap, sIf_ap, sSet_ap, sAsg_ap, sPar_ap, sPut_ap, iSeq_ap, iRg1_ap, iRg2_ap, fYes_ap, iZ2_ap, iZ3_ap, sRaise_ap, eNeg_ap, ofR, R.bind, toB_b, gN, gT, gsCons, gsNil, wipeE, pPlus_i, pPlus_l, pPlus_t, pPlus_s, pSub_i, pMul_i, pDiv_i, pMod_i, pPow_i, pEq_d, pNe_d, pLt_i, pLe_i, pGt_i, pGe_i, pLt_s, pLe_s, pGt_s, pGe_s, pIs_n, pIs_t, pIs_l, pIs_s, pIs_i, pIs_bn, pIs_b, pIn_s, pIn_l, pIn_t, pIx_l, pIx_t, pIx_s, qLen_s, qLen_l, qLen_t, qInt_i, qInt_b, qTup_l, qTup_t, qList_l, qList_t, qSum, qJoin, qCount, qIndex, tyW, tyD, isN, unW, unWs, noX, seqW_l, seqW_t, sizeLine_eq, L2.atI, L2.ixN, dEnd_rt h, areTwo, sh_int, ev_int, e2]
    | [a, b], ht =>
      simp [F_are_two, fs_are_two, runD_ap, startE, eVar_ap, eC_ap, eBin_ap, eChain_ap, tV_ap, tNot_ap, tAnd_ap, tOr_ap, eAnd_ap, eOr_ap, eNot_ap, eIf_ap, aNil_ap, aCons_ap, eTup_ap, eLst_ap, eLstM_ap, eRep_ap, eCall_ap, eB_ap, eIsi_ap, eMl_ap, eMs_ap, oNone_ap, oSome_ap, eSl_ap, sNil_ap, sSeq_ap, sRet_ap, sExpr_ap, sIf_ap, sSet_ap, sAsg_ap, sPar_ap, sPut_ap, iSeq_ap, iRg1_ap, iRg2_ap, fYes_ap, iZ2_ap, iZ3_ap, sRaise_ap, eNeg_ap, ofR, R.bind, toB_b, gN, gT, gsCons, gsNil, wipeE, pPlus_i, pPlus_l, pPlus_t, pPlus_s, pSub_i, pMul_i, pDiv_i, pMod_i, pPow_i, pEq_d, pNe_d, pLt_i, pLe_i, pGt_i, pGe_i, pLt_s, pLe_s, pGt_s, pGe_s, pIs_n, pIs_t, pIs_l, pIs_s, pIs_i, pIs_bn, pIs_b, pIn_s, pIn_l, pIn_t, pIx_l, pIx_t, pIx_s, qLen_s, qLen_l, qLen_t, qInt_i, qInt_b, qTup_l, qTup_t, qList_l, qList_t, qSum, qJoin, qCount, qIndex, tyW, tyD, isN, unW, unWs, noX, seqW_l, seqW_t, sizeLine_eq, L2.atI, L2.ixN, dEnd_rt h, areTwo, sh_int, ev_int, e2]
      cases h1 : Builtin.Str.occurrences M ⟨#[a]⟩ 0 M.length 1 <;> cases h2 : Builtin.Str.occurrences M ⟨#[b]⟩ 0 M.length 1 <;> simp [isIn, h1, h2, dEnd_rt h]
    | _ :: _ :: _ :: r, ht =>
      have hr : r.length ≤ 16777213 := by simp only [List.length_cons] at ht; omega
      have hn : ((r.length : Int) + 1 + 1 + 1 == 2) = false := by rw [beq_eq_false_iff_ne]; omega
      simp [F_are_two, fs_are_two, runD_ap, startE, eVar_ap, eC_ap, eBin_ap, eChain_ap, tV_ap, tNot_ap, tAnd_ap, tOr_ap, eAnd_ap, eOr_ap, eNot_ap, eIf_ap, aNil_ap, aCons_ap, eTup_ap, eLst_ap, eLstM_ap, eRep_ap, eCall_ap, eB_ap, eIsi_ap, eMl_ap, eMs_ap, oNone_ap, oSome_ap, eSl_ap, sNil_ap, sSeq_ap, sRet_ap, sExpr_ap, sIf_ap, sSet_ap, sAsg_ap, sPar_ap, sPut_ap, iSeq_ap, iRg1_ap, iRg2_ap, fYes_ap, iZ2_ap, iZ3_ap, sRaise_ap, eNeg_ap, ofR, R.bind, toB_b, gN, gT, gsCons, gsNil, wipeE, pPlus_i, pPlus_l, pPlus_t, pPlus_s, pSub_i, pMul_i, pDiv_i, pMod_i, pPow_i, pEq_d, pNe_d, pLt_i, pLe_i, pGt_i, pGe_i, pLt_s, pLe_s, pGt_s, pGe_s, pIs_n, pIs_t, pIs_l, pIs_s, pIs_i, pIs_bn, pIs_b, pIn_s, pIn_l, pIn_t, pIx_l, pIx_t, pIx_s, qLen_s, qLen_l, qLen_t, qInt_i, qInt_b, qTup_l, qTup_t, qList_l, qList_t, qSum, qJoin, qCount, qIndex, tyW, tyD, isN, unW, unWs, noX, seqW_l, seqW_t, sizeLine_eq, L2.atI, L2.ixN, dEnd_rt h, areTwo, sh_int, ev_int, e2, hr, hn]
  | _ => simp [F_are_two, fs_are_two, runD_ap, startE, eVar_ap, eC_ap, eBin_ap, eChain_ap, tV_ap, tNot_ap, tAnd_ap, tOr_ap, eAnd_ap, eOr_ap, eNot_ap, eIf_ap, aNil_ap, aCons_ap, eTup_ap, eLst_ap, eLstM_ap, eRep_ap, eCall_ap, eB_ap, eIsi_ap, eMl_ap, eMs_ap, oNone_ap, oSome_ap, eSl_ap, sNil_ap, sSeq_ap, sRet_ap, sExpr_ap, sIf_ap, sSet_ap, sAsg_ap, sPar_ap, sPut_ap, iSeq_ap, iRg1_ap, iRg2_ap, fYes_ap, iZ2_ap, iZ3_ap, sRaise_ap, eNeg_ap, ofR, R.bind, toB_b, gN, gT, gsCons, gsNil, wipeE, pPlus_i, pPlus_l, pPlus_t, pPlus_s, pSub_i, pMul_i, pDiv_i, pMod_i, pPow_i, pEq_d, pNe_d, pLt_i, pLe_i, pGt_i, pGe_i, pLt_s, pLe_s, pGt_s, pGe_s, pIs_n, pIs_t, pIs_l, pIs_s, pIs_i, pIs_bn, pIs_b, pIn_s, pIn_l, pIn_t, pIx_l, pIx_t, pIx_s, qLen_s, qLen_l, qLen_t, qInt_i, qInt_b, qTup_l, qTup_t, qList_l, qList_t, qSum, qJoin, qCount, qIndex, tyW, tyD, isN, unW, unWs, noX, seqW_l, seqW_t, sizeLine_eq, L2.atI, L2.ixN, dEnd_rt h, areTwo]
def isRule (M : Str) : PyData → Bool
  | .tuple [a, b] => areTwo M a && areTwo M b && !PyData.eqv a b
  | _ => false
theorem areTwo_str {M : Str} {x : PyData} (h : areTwo M x = true) : ∃ a b, x = .str ⟨#[a, b]⟩ := by
  unfold areTwo at h
  split at h
  · rename_i t
    split at h
    · rename_i a b e
      refine ⟨a, b, ?_⟩
      obtain ⟨⟨l⟩⟩ := t
      have e' : l = [a, b] := e
      rw [e']
    · cases h
  · cases h
/-- what is asked of any value that is looked at: its texts are not too long -/
def TxD : PyData → Prop
  | .str t => t.length ≤ sizeLine ∧ SeqAt.shaped (.str t) = true
  | _ => True
def TxR : PyData → Prop
  | .tuple ds => ∀ d ∈ ds, TxD d
  | _ => True
theorem r_rule {m : Sto} (h : Fl m) (M : Str) (x : PyData) (hx : TxR x) : F_is_rule [.d (.str M), .d x] m = .ok (.d (.bool (isRule M x))) m := by
  cases x with
  | tuple ds =>
    match ds, hx with
    | [a, b], hx =>
      have ha : ∀ t, a = .str t → t.length ≤ sizeLine := fun t e => by have := hx a (by simp); rw [e] at this; exact this.1
      have hb : ∀ t, b = .str t → t.length ≤ sizeLine := fun t e => by have := hx b (by simp); rw [e] at this; exact this.1
      have e1 := r_two h M a ha
      have e2 := r_two h M b hb
      have e0 := r_pair h (.tuple [a, b])
      have e3 : isPair (.tuple [a, b]) = true := rfl
      simp [F_is_rule, fs_is_rule, runD_ap, startE, eVar_ap, eC_ap, eBin_ap, eChain_ap, tV_ap, tNot_ap, tAnd_ap, tOr_ap, eAnd_ap, eOr_ap, eNot_ap, eIf_ap, aNil_ap, aCons_ap, eTup_ap, eLst_ap, eLstM_ap, eRep_ap, eCall_ap, eB_ap, eIsi_ap, eMl_ap, eMs_ap, oNone_ap, oSome_ap, eSl_ap, sNil_ap, sSeq_ap, sRet_ap, sExpr_ap, sIf_ap, sSet_ap, sAsg_ap, sPar_ap, sPut_ap, iSeq_ap, iRg1_ap, iRg2_ap, fYes_ap, iZ2_ap, iZ3_ap, sRaise_ap, eNeg_ap, ofR, R.bind, toB_b, gN, gT, gsCons, gsNil, wipeE, pPlus_i, pPlus_l, pPlus_t, pPlus_s, pSub_i, pMul_i, pDiv_i, pMod_i, pPow_i, pEq_d, pNe_d, pLt_i, pLe_i, pGt_i, pGe_i, pLt_s, pLe_s, pGt_s, pGe_s, pIs_n, pIs_t, pIs_l, pIs_s, pIs_i, pIs_bn, pIs_b, pIn_s, pIn_l, pIn_t, pIx_l, pIx_t, pIx_s, qLen_s, qLen_l, qLen_t, qInt_i, qInt_b, qTup_l, qTup_t, qList_l, qList_t, qSum, qJoin, qCount, qIndex, tyW, tyD, isN, unW, unWs, noX, seqW_l, seqW_t, sizeLine_eq, L2.atI, L2.ixN, e0, e3, e1, e2]
      cases h1 : areTwo M a with
      | false => simp [isRule, h1, dEnd_rt h]
      | true =>
        cases h2 : areTwo M b with
        | false => simp [isRule, h1, h2, dEnd_rt h]
        | true =>
          obtain ⟨a1, a2, rfl⟩ := areTwo_str h1
          obtain ⟨b1, b2, rfl⟩ := areTwo_str h2
          have s1 := (hx _ List.mem_cons_self : TxD (.str ⟨#[a1, a2]⟩)).2
          have s2 := (hx _ (List.mem_cons_of_mem _ List.mem_cons_self) : TxD (.str ⟨#[b1, b2]⟩)).2
          simp [isRule, h1, h2, s1, s2, dEnd_rt h]
    | [], _ => simp [F_is_rule, fs_is_rule, runD_ap, startE, eVar_ap, eC_ap, eBin_ap, eChain_ap, tV_ap, tNot_ap, tAnd_ap, tOr_ap, eAnd_ap, eOr_ap, eNot_ap, eIf_ap, aNil_ap, aCons_ap, eTup_ap, eLst_ap, eLstM_ap, eRep_ap, eCall_ap, eB_ap, eIsi_ap, eMl_ap, eMs_ap, oNone_ap, oSome_ap, eSl_ap, sNil_ap, sSeq_ap, sRet_ap, sExpr_ap, sIf_ap, sSet_ap, sAsg_ap, sPar_ap, sPut_ap, iSeq_ap, iRg1_ap, iRg2_ap, fYes_ap, iZ2_ap, iZ3_ap, sRaise_ap, eNeg_ap, ofR, R.bind, toB_b, gN, gT, gsCons, gsNil, wipeE, pPlus_i, pPlus_l, pPlus_t, pPlus_s, pSub_i, pMul_i, pDiv_i, pMod_i, pPow_i, pEq_d, pNe_d, pLt_i, pLe_i, pGt_i, pGe_i, pLt_s, pLe_s, pGt_s, pGe_s, pIs_n, pIs_t, pIs_l, pIs_s, pIs_i, pIs_bn, pIs_b, pIn_s, pIn_l, pIn_t, pIx_l, pIx_t, pIx_s, qLen_s, qLen_l, qLen_t, qInt_i, qInt_b, qTup_l, qTup_t, qList_l, qList_t, qSum, qJoin, qCount, qIndex, tyW, tyD, isN, unW, unWs, noX, seqW_l, seqW_t, sizeLine_eq, L2.atI, L2.ixN, r_pair h, isPair, isRule, dEnd_rt h]
    | [_], _ => simp [F_is_rule, fs_is_rule, runD_ap, startE, eVar_ap, eC_ap, eBin_ap, eChain_ap, tV_ap, tNot_ap, tAnd_ap, tOr_ap, eAnd_ap, eOr_ap, eNot_ap, eIf_ap, aNil_ap, aCons_ap, eTup_ap, eLst_ap, eLstM_ap, eRep_ap, eCall_ap, eB_ap, eIsi_ap, eMl_ap, eMs_ap, oNone_ap, oSome_ap, eSl_ap, sNil_ap, sSeq_ap, sRet_ap, sExpr_ap, sIf_ap, sSet_ap, sAsg_ap, sPar_ap, sPut_ap, iSeq_ap, iRg1_ap, iRg2_ap, fYes_ap, iZ2_ap, iZ3_ap, sRaise_ap, eNeg_ap, ofR, R.bind, toB_b, gN, gT, gsCons, gsNil, wipeE, pPlus_i, pPlus_l, pPlus_t, pPlus_s, pSub_i, pMul_i, pDiv_i, pMod_i, pPow_i, pEq_d, pNe_d, pLt_i, pLe_i, pGt_i, pGe_i, pLt_s, pLe_s, pGt_s, pGe_s, pIs_n, pIs_t, pIs_l, pIs_s, pIs_i, pIs_bn, pIs_b, pIn_s, pIn_l, pIn_t, pIx_l, pIx_t, pIx_s, qLen_s, qLen_l, qLen_t, qInt_i, qInt_b, qTup_l, qTup_t, qList_l, qList_t, qSum, qJoin, qCount, qIndex, tyW, tyD, isN, unW, unWs, noX, seqW_l, seqW_t, sizeLine_eq, L2.atI, L2.ixN, r_pair h, isPair, isRule, dEnd_rt h]
    | _ :: _ :: _ :: _, _ => simp [F_is_rule, fs_is_rule, runD_ap, startE, eVar_ap, eC_ap, eBin_ap, eChain_ap, tV_ap, tNot_ap, tAnd_ap, tOr_ap, eAnd_ap, eOr_ap, eNot_ap, eIf_ap, aNil_ap, aCons_ap, eTup_ap, eLst_ap, eLstM_ap, eRep_ap, eCall_ap, eB_ap, eIsi_ap, eMl_ap, eMs_ap, oNone_ap, oSome_ap, eSl_ap, sNil_ap, sSeq_ap, sRet_ap, sExpr_ap, sIf_ap, sSet_ap, sAsg_ap, sPar_ap, sPut_ap, iSeq_ap, iRg1_ap, iRg2_ap, fYes_ap, iZ2_ap, iZ3_ap, sRaise_ap, eNeg_ap, ofR, R.bind, toB_b, gN, gT, gsCons, gsNil, wipeE, pPlus_i, pPlus_l, pPlus_t, pPlus_s, pSub_i, pMul_i, pDiv_i, pMod_i, pPow_i, pEq_d, pNe_d, pLt_i, pLe_i, pGt_i, pGe_i, pLt_s, pLe_s, pGt_s, pGe_s, pIs_n, pIs_t, pIs_l, pIs_s, pIs_i, pIs_bn, pIs_b, pIn_s, pIn_l, pIn_t, pIx_l, pIx_t, pIx_s, qLen_s, qLen_l, qLen_t, qInt_i, qInt_b, qTup_l, qTup_t, qList_l, qList_t, qSum, qJoin, qCount, qIndex, tyW, tyD, isN, unW, unWs, noX, seqW_l, seqW_t, sizeLine_eq, L2.atI, L2.ixN, r_pair h, isPair, isRule, dEnd_rt h]
  | _ => simp [F_is_rule, fs_is_rule, runD_ap, startE, eVar_ap, eC_ap, eBin_ap, eChain_ap, tV_ap, tNot_ap, tAnd_ap, tOr_ap, eAnd_ap, eOr_ap, eNot_ap, eIf_ap, aNil_ap, aCons_ap, eTup_ap, eLst_ap, eLstM_ap, eRep_ap, eCall_ap, eB_ap, eIsi_ap, eMl_ap, eMs_ap, oNone_ap, oSome_ap, eSl_ap, sNil_ap, sSeq_ap, sRet_ap, sExpr_ap, sIf_ap, sSet_ap, sAsg_ap, sPar_ap, sPut_ap, iSeq_ap, iRg1_ap, iRg2_ap, fYes_ap, iZ2_ap, iZ3_ap, sRaise_ap, eNeg_ap, ofR, R.bind, toB_b, gN, gT, gsCons, gsNil, wipeE, pPlus_i, pPlus_l, pPlus_t, pPlus_s, pSub_i, pMul_i, pDiv_i, pMod_i, pPow_i, pEq_d, pNe_d, pLt_i, pLe_i, pGt_i, pGe_i, pLt_s, pLe_s, pGt_s, pGe_s, pIs_n, pIs_t, pIs_l, pIs_s, pIs_i, pIs_bn, pIs_b, pIn_s, pIn_l, pIn_t, pIx_l, pIx_t, pIx_s, qLen_s, qLen_l, qLen_t, qInt_i, qInt_b, qTup_l, qTup_t, qList_l, qList_t, qSum, qJoin, qCount, qIndex, tyW, tyD, isN, unW, unWs, noX, seqW_l, seqW_t, sizeLine_eq, L2.atI, L2.ixN, r_pair h, isPair, isRule, dEnd_rt h]
def areMoods : PyData → Bool
  | .str s => decide (1 ≤ s.length) && decide (s.length ≤ 6) && (s.cps.toList.all fun c => !sLt ⟨#[c]⟩ "a" && !sLt "z" ⟨#[c]⟩) && (List.range (s.length - 1)).all fun i => sLt ⟨#[s.cps.toList.getD i 0]⟩ ⟨#[s.cps.toList.getD (i + 1) 0]⟩
  | _ => false
theorem r_moods {m : Sto} (h : Fl m) (x : PyData) (hx : TxD x) : F_are_moods [.d x] m = .ok (.d (.bool (areMoods x))) m := by
  cases x with
  | str s =>
    have hs : s.length ≤ 16777216 := by have := hx.1; rw [sizeLine_eq] at this; exact this
    have q1 : eQ true [2] (iSeq (eVar 0)) (gN 2) (eChain pLe pLe (eC (.str "a")) (eVar 2) (eC (.str "z"))) [some (.d (.str s)), none, none] m = .ok (.d (.bool (s.cps.toList.all fun c => !sLt ⟨#[c]⟩ "a" && !sLt "z" ⟨#[c]⟩))) m := by
      rw [eQ_map (g := fun c => W.d (.str ⟨#[c]⟩)) (l := s.cps.toList) (m1 := m) (p := fun c => !sLt ⟨#[c]⟩ "a" && !sLt "z" ⟨#[c]⟩) (by simp [runD_ap, startE, eVar_ap, eC_ap, eBin_ap, eChain_ap, tV_ap, tNot_ap, tAnd_ap, tOr_ap, eAnd_ap, eOr_ap, eNot_ap, eIf_ap, aNil_ap, aCons_ap, eTup_ap, eLst_ap, eLstM_ap, eRep_ap, eCall_ap, eB_ap, eIsi_ap, eMl_ap, eMs_ap, oNone_ap, oSome_ap, eSl_ap, sNil_ap, sSeq_ap, sRet_ap, sExpr_ap, sIf_ap, sSet_ap, sAsg_ap, sPar_ap, sPut_ap, iSeq_ap, iRg1_ap, iRg2_ap, fYes_ap, iZ2_ap, iZ3_ap, sRaise_ap, eNeg_ap, ofR, R.bind, toB_b, gN, gT, gsCons, gsNil, wipeE, pPlus_i, pPlus_l, pPlus_t, pPlus_s, pSub_i, pMul_i, pDiv_i, pMod_i, pPow_i, pEq_d, pNe_d, pLt_i, pLe_i, pGt_i, pGe_i, pLt_s, pLe_s, pGt_s, pGe_s, pIs_n, pIs_t, pIs_l, pIs_s, pIs_i, pIs_bn, pIs_b, pIn_s, pIn_l, pIn_t, pIx_l, pIx_t, pIx_s, qLen_s, qLen_l, qLen_t, qInt_i, qInt_b, qTup_l, qTup_t, qList_l, qList_t, qSum, qJoin, qCount, qIndex, tyW, tyD, isN, unW, unWs, noX, seqW_l, seqW_t, sizeLine_eq, L2.atI, L2.ixN, signs_items]) (fun c hc => ?_)]
      · rfl
      · refine ⟨_, rfl, ?_⟩
        cases h1 : sLt ⟨#[c]⟩ "a" <;> simp [runD_ap, startE, eVar_ap, eC_ap, eBin_ap, eChain_ap, tV_ap, tNot_ap, tAnd_ap, tOr_ap, eAnd_ap, eOr_ap, eNot_ap, eIf_ap, aNil_ap, aCons_ap, eTup_ap, eLst_ap, eLstM_ap, eRep_ap, eCall_ap, eB_ap, eIsi_ap, eMl_ap, eMs_ap, oNone_ap, oSome_ap, eSl_ap, sNil_ap, sSeq_ap, sRet_ap, sExpr_ap, sIf_ap, sSet_ap, sAsg_ap, sPar_ap, sPut_ap, iSeq_ap, iRg1_ap, iRg2_ap, fYes_ap, iZ2_ap, iZ3_ap, sRaise_ap, eNeg_ap, ofR, R.bind, toB_b, gN, gT, gsCons, gsNil, wipeE, pPlus_i, pPlus_l, pPlus_t, pPlus_s, pSub_i, pMul_i, pDiv_i, pMod_i, pPow_i, pEq_d, pNe_d, pLt_i, pLe_i, pGt_i, pGe_i, pLt_s, pLe_s, pGt_s, pGe_s, pIs_n, pIs_t, pIs_l, pIs_s, pIs_i, pIs_bn, pIs_b, pIn_s, pIn_l, pIn_t, pIx_l, pIx_t, pIx_s, qLen_s, qLen_l, qLen_t, qInt_i, qInt_b, qTup_l, qTup_t, qList_l, qList_t, qSum, qJoin, qCount, qIndex, tyW, tyD, isN, unW, unWs, noX, seqW_l, seqW_t, sizeLine_eq, L2.atI, L2.ixN, h1]
    have q2 : ∀ w2, 1 ≤ s.length → eQ true [1] (iRg1 (aCons (eBin pSub (eB qLen (aCons (eVar 0) aNil)) (eC (.int 1))) aNil)) (gN 1) (eBin pLt (eBin pIx (eVar 0) (eVar 1)) (eBin pIx (eVar 0) (eBin pPlus (eVar 1) (eC (.int 1))))) [some (.d (.str s)), none, w2] m =
        .ok (.d (.bool ((List.range (s.length - 1)).all fun i => sLt ⟨#[s.cps.toList.getD i 0]⟩ ⟨#[s.cps.toList.getD (i + 1) 0]⟩))) m := fun w2 h1 => by
      rw [eQ_map (g := fun i => W.d (.int (0 + (i : Nat)))) (l := List.range (s.length - 1)) (m1 := m) (p := fun i => sLt ⟨#[s.cps.toList.getD i 0]⟩ ⟨#[s.cps.toList.getD (i + 1) 0]⟩) ?_ (fun i hi => ?_)]
      · rfl
      · have e1 : -4611686018427387904 ≤ (s.length : Int) - 1 ∧ (s.length : Int) - 1 < 4611686018427387904 := by omega
        simp [runD_ap, startE, eVar_ap, eC_ap, eBin_ap, eChain_ap, tV_ap, tNot_ap, tAnd_ap, tOr_ap, eAnd_ap, eOr_ap, eNot_ap, eIf_ap, aNil_ap, aCons_ap, eTup_ap, eLst_ap, eLstM_ap, eRep_ap, eCall_ap, eB_ap, eIsi_ap, eMl_ap, eMs_ap, oNone_ap, oSome_ap, eSl_ap, sNil_ap, sSeq_ap, sRet_ap, sExpr_ap, sIf_ap, sSet_ap, sAsg_ap, sPar_ap, sPut_ap, iSeq_ap, iRg1_ap, iRg2_ap, fYes_ap, iZ2_ap, iZ3_ap, sRaise_ap, eNeg_ap, ofR, R.bind, toB_b, gN, gT, gsCons, gsNil, wipeE, pPlus_i, pPlus_l, pPlus_t, pPlus_s, pSub_i, pMul_i, pDiv_i, pMod_i, pPow_i, pEq_d, pNe_d, pLt_i, pLe_i, pGt_i, pGe_i, pLt_s, pLe_s, pGt_s, pGe_s, pIs_n, pIs_t, pIs_l, pIs_s, pIs_i, pIs_bn, pIs_b, pIn_s, pIn_l, pIn_t, pIx_l, pIx_t, pIx_s, qLen_s, qLen_l, qLen_t, qInt_i, qInt_b, qTup_l, qTup_t, qList_l, qList_t, qSum, qJoin, qCount, qIndex, tyW, tyD, isN, unW, unWs, noX, seqW_l, seqW_t, sizeLine_eq, L2.atI, L2.ixN, hs, e1, rng]
      · have hi' : i + 1 < s.length := by have := List.mem_range.mp hi; omega
        have g1 : s.cps[i]? = some (s.cps[i]'(Nat.lt_of_succ_lt hi')) := Array.getElem?_eq_getElem (Nat.lt_of_succ_lt hi')
        have g2 : s.cps[i + 1]? = some (s.cps[i + 1]'hi') := Array.getElem?_eq_getElem hi'
        refine ⟨_, rfl, ?_⟩
        simp [runD_ap, startE, eVar_ap, eC_ap, eBin_ap, eChain_ap, tV_ap, tNot_ap, tAnd_ap, tOr_ap, eAnd_ap, eOr_ap, eNot_ap, eIf_ap, aNil_ap, aCons_ap, eTup_ap, eLst_ap, eLstM_ap, eRep_ap, eCall_ap, eB_ap, eIsi_ap, eMl_ap, eMs_ap, oNone_ap, oSome_ap, eSl_ap, sNil_ap, sSeq_ap, sRet_ap, sExpr_ap, sIf_ap, sSet_ap, sAsg_ap, sPar_ap, sPut_ap, iSeq_ap, iRg1_ap, iRg2_ap, fYes_ap, iZ2_ap, iZ3_ap, sRaise_ap, eNeg_ap, ofR, R.bind, toB_b, gN, gT, gsCons, gsNil, wipeE, pPlus_i, pPlus_l, pPlus_t, pPlus_s, pSub_i, pMul_i, pDiv_i, pMod_i, pPow_i, pEq_d, pNe_d, pLt_i, pLe_i, pGt_i, pGe_i, pLt_s, pLe_s, pGt_s, pGe_s, pIs_n, pIs_t, pIs_l, pIs_s, pIs_i, pIs_bn, pIs_b, pIn_s, pIn_l, pIn_t, pIx_l, pIx_t, pIx_s, qLen_s, qLen_l, qLen_t, qInt_i, qInt_b, qTup_l, qTup_t, qList_l, qList_t, qSum, qJoin, qCount, qIndex, tyW, tyD, isN, unW, unWs, noX, seqW_l, seqW_t, sizeLine_eq, atI_nat, atI_nat1, hs, g1, g2]
    have am : areMoods (.str s) = (decide (1 ≤ s.length) && decide (s.length ≤ 6) && (s.cps.toList.all fun c => !sLt ⟨#[c]⟩ "a" && !sLt "z" ⟨#[c]⟩) && (List.range (s.length - 1)).all fun i => sLt ⟨#[s.cps.toList.getD i 0]⟩ ⟨#[s.cps.toList.getD (i + 1) 0]⟩) := rfl
    rw [am]
    clear am
    generalize (s.cps.toList.all fun c => !sLt ⟨#[c]⟩ "a" && !sLt "z" ⟨#[c]⟩) = b1 at q1
    generalize ((List.range (s.length - 1)).all fun i => sLt ⟨#[s.cps.toList.getD i 0]⟩ ⟨#[s.cps.toList.getD (i + 1) 0]⟩) = b2 at q2
    by_cases h1 : 1 ≤ s.length
    · by_cases h6 : s.length ≤ 6
      · have h6' : (s.length : Int) ≤ 6 := by omega
        have h1' : (1 : Int) ≤ s.length := by omega
        simp [F_are_moods, fs_are_moods, runD_ap, startE, eVar_ap, eC_ap, eBin_ap, eChain_ap, tV_ap, tNot_ap, tAnd_ap, tOr_ap, eAnd_ap, eOr_ap, eNot_ap, eIf_ap, aNil_ap, aCons_ap, eTup_ap, eLst_ap, eLstM_ap, eRep_ap, eCall_ap, eB_ap, eIsi_ap, eMl_ap, eMs_ap, oNone_ap, oSome_ap, eSl_ap, sNil_ap, sSeq_ap, sRet_ap, sExpr_ap, sIf_ap, sSet_ap, sAsg_ap, sPar_ap, sPut_ap, iSeq_ap, iRg1_ap, iRg2_ap, fYes_ap, iZ2_ap, iZ3_ap, sRaise_ap, eNeg_ap, ofR, R.bind, toB_b, gN, gT, gsCons, gsNil, wipeE, pPlus_i, pPlus_l, pPlus_t, pPlus_s, pSub_i, pMul_i, pDiv_i, pMod_i, pPow_i, pEq_d, pNe_d, pLt_i, pLe_i, pGt_i, pGe_i, pLt_s, pLe_s, pGt_s, pGe_s, pIs_n, pIs_t, pIs_l, pIs_s, pIs_i, pIs_bn, pIs_b, pIn_s, pIn_l, pIn_t, pIx_l, pIx_t, pIx_s, qLen_s, qLen_l, qLen_t, qInt_i, qInt_b, qTup_l, qTup_t, qList_l, qList_t, qSum, qJoin, qCount, qIndex, tyW, tyD, isN, unW, unWs, noX, seqW_l, seqW_t, sizeLine_eq, L2.atI, L2.ixN, hs, h1', h6', q1]
        cases b1 with
        | false => simp [dEnd_rt h]
        | true =>
          have q3 := q2 none h1
          simp [q3, h1, h6, dEnd_rt h]
      · have h6' : ¬ (s.length : Int) ≤ 6 := by omega
        have h1' : (1 : Int) ≤ s.length := by omega
        simp [F_are_moods, fs_are_moods, runD_ap, startE, eVar_ap, eC_ap, eBin_ap, eChain_ap, tV_ap, tNot_ap, tAnd_ap, tOr_ap, eAnd_ap, eOr_ap, eNot_ap, eIf_ap, aNil_ap, aCons_ap, eTup_ap, eLst_ap, eLstM_ap, eRep_ap, eCall_ap, eB_ap, eIsi_ap, eMl_ap, eMs_ap, oNone_ap, oSome_ap, eSl_ap, sNil_ap, sSeq_ap, sRet_ap, sExpr_ap, sIf_ap, sSet_ap, sAsg_ap, sPar_ap, sPut_ap, iSeq_ap, iRg1_ap, iRg2_ap, fYes_ap, iZ2_ap, iZ3_ap, sRaise_ap, eNeg_ap, ofR, R.bind, toB_b, gN, gT, gsCons, gsNil, wipeE, pPlus_i, pPlus_l, pPlus_t, pPlus_s, pSub_i, pMul_i, pDiv_i, pMod_i, pPow_i, pEq_d, pNe_d, pLt_i, pLe_i, pGt_i, pGe_i, pLt_s, pLe_s, pGt_s, pGe_s, pIs_n, pIs_t, pIs_l, pIs_s, pIs_i, pIs_bn, pIs_b, pIn_s, pIn_l, pIn_t, pIx_l, pIx_t, pIx_s, qLen_s, qLen_l, qLen_t, qInt_i, qInt_b, qTup_l, qTup_t, qList_l, qList_t, qSum, qJoin, qCount, qIndex, tyW, tyD, isN, unW, unWs, noX, seqW_l, seqW_t, sizeLine_eq, L2.atI, L2.ixN, hs, h1', h6', h6, dEnd_rt h]
    · have h1' : ¬ (1 : Int) ≤ s.length := by omega
      simp [F_are_moods, fs_are_moods, runD_ap, startE, eVar_ap, eC_ap, eBin_ap, eChain_ap, tV_ap, tNot_ap, tAnd_ap, tOr_ap, eAnd_ap, eOr_ap, eNot_ap, eIf_ap, aNil_ap, aCons_ap, eTup_ap, eLst_ap, eLstM_ap, eRep_ap, eCall_ap, eB_ap, eIsi_ap, eMl_ap, eMs_ap, oNone_ap, oSome_ap, eSl_ap, sNil_ap, sSeq_ap, sRet_ap, sExpr_ap, sIf_ap, sSet_ap, sAsg_ap, sPar_ap, sPut_ap, iSeq_ap, iRg1_ap, iRg2_ap, fYes_ap, iZ2_ap, iZ3_ap, sRaise_ap, eNeg_ap, ofR, R.bind, toB_b, gN, gT, gsCons, gsNil, wipeE, pPlus_i, pPlus_l, pPlus_t, pPlus_s, pSub_i, pMul_i, pDiv_i, pMod_i, pPow_i, pEq_d, pNe_d, pLt_i, pLe_i, pGt_i, pGe_i, pLt_s, pLe_s, pGt_s, pGe_s, pIs_n, pIs_t, pIs_l, pIs_s, pIs_i, pIs_bn, pIs_b, pIn_s, pIn_l, pIn_t, pIx_l, pIx_t, pIx_s, qLen_s, qLen_l, qLen_t, qInt_i, qInt_b, qTup_l, qTup_t, qList_l, qList_t, qSum, qJoin, qCount, qIndex, tyW, tyD, isN, unW, unWs, noX, seqW_l, seqW_t, sizeLine_eq, L2.atI, L2.ixN, hs, h1', h1, dEnd_rt h]
  | _ => simp [F_are_moods, fs_are_moods, runD_ap, startE, eVar_ap, eC_ap, eBin_ap, eChain_ap, tV_ap, tNot_ap, tAnd_ap, tOr_ap, eAnd_ap, eOr_ap, eNot_ap, eIf_ap, aNil_ap, aCons_ap, eTup_ap, eLst_ap, eLstM_ap, eRep_ap, eCall_ap, eB_ap, eIsi_ap, eMl_ap, eMs_ap, oNone_ap, oSome_ap, eSl_ap, sNil_ap, sSeq_ap, sRet_ap, sExpr_ap, sIf_ap, sSet_ap, sAsg_ap, sPar_ap, sPut_ap, iSeq_ap, iRg1_ap, iRg2_ap, fYes_ap, iZ2_ap, iZ3_ap, sRaise_ap, eNeg_ap, ofR, R.bind, toB_b, gN, gT, gsCons, gsNil, wipeE, pPlus_i, pPlus_l, pPlus_t, pPlus_s, pSub_i, pMul_i, pDiv_i, pMod_i, pPow_i, pEq_d, pNe_d, pLt_i, pLe_i, pGt_i, pGe_i, pLt_s, pLe_s, pGt_s, pGe_s, pIs_n, pIs_t, pIs_l, pIs_s, pIs_i, pIs_bn, pIs_b, pIn_s, pIn_l, pIn_t, pIx_l, pIx_t, pIx_s, qLen_s, qLen_l, qLen_t, qInt_i, qInt_b, qTup_l, qTup_t, qList_l, qList_t, qSum, qJoin, qCount, qIndex, tyW, tyD, isN, unW, unWs, noX, seqW_l, seqW_t, sizeLine_eq, L2.atI, L2.ixN, dEnd_rt h, areMoods]
/-! ### rules, folk -/
mutual
/-- its texts are small and of signs -/
def TxT : PyData → Bool
  | .str t => decide (t.length ≤ sizeLine) && SeqAt.shaped (.str t)
  | .list ds => TxTs ds
  | .tuple ds => TxTs ds
  | _ => true
def TxTs : List PyData → Bool
  | [] => true
  | d :: ds => TxT d && TxTs ds
end
theorem TxTs_mem : ∀ {ds : List PyData} {d : PyData}, TxTs ds = true → d ∈ ds → TxT d = true
  | x :: xs, d, h, hd => by
    unfold TxTs at h
    rw [Bool.and_eq_true] at h
    rcases List.mem_cons.mp hd with rfl | hd
    · exact h.1
    · exact TxTs_mem h.2 hd
theorem TxT.d {x : PyData} (h : TxT x = true) : TxD x := by
  cases x with
  | str t =>
    unfold TxT at h
    rw [Bool.and_eq_true] at h
    exact ⟨of_decide_eq_true h.1, h.2⟩
  | _ => trivial
theorem TxT.r {x : PyData} (h : TxT x = true) : TxR x := by
  cases x with
  | tuple ds => exact fun d hd => TxT.d (TxTs_mem (by unfold TxT at h; exact h) hd)
  | _ => trivial
/-- as many as their set -/
def unlike (ds : List PyData) : Bool := match pairsS ds with
  | some ps => decide (ps.eraseDups.length = ps.length)
  | none => false
def areRules (M : Str) : PyData → Bool
  | .tuple ds => decide (ds.length ≤ 12) && ds.all (isRule M) && unlike ds
  | _ => false
theorem isRule_pair {M : Str} {x : PyData} (h : isRule M x = true) : ∃ a b c d, x = .tuple [.str ⟨#[a, b]⟩, .str ⟨#[c, d]⟩] := by
  unfold isRule at h
  split at h
  · rename_i p q
    simp only [Bool.and_eq_true] at h
    obtain ⟨⟨h1, h2⟩, _⟩ := h
    obtain ⟨a, b, rfl⟩ := areTwo_str h1
    obtain ⟨c, d, rfl⟩ := areTwo_str h2
    exact ⟨a, b, c, d, rfl⟩
  · cases h
theorem pairs_of {M : Str} : ∀ {ds : List PyData}, ds.all (isRule M) = true → ∃ ps, pairsS ds = some ps ∧ ps.length = ds.length
  | [], _ => ⟨[], rfl, rfl⟩
  | x :: xs, h => by
    rw [List.all_cons, Bool.and_eq_true] at h
    obtain ⟨a, b, c, d, rfl⟩ := isRule_pair h.1
    obtain ⟨ps, e, l⟩ := pairs_of h.2
    exact ⟨(⟨#[a, b]⟩, ⟨#[c, d]⟩) :: ps, by unfold pairsS pairS; rw [e], by simp [l]⟩
theorem r_rules {m : Sto} (h : Fl m) (M : Str) (x : PyData) (hx : TxT x = true) : F_are_rules [.d (.str M), .d x] m = .ok (.d (.bool (areRules M x))) m := by
  cases x with
  | tuple ds =>
    have q1 : eQ true [2] (iSeq (eVar 1)) (gN 2) (eCall 2 F_is_rule (aCons (eVar 0) (aCons (eVar 2) aNil))) [some (.d (.str M)), some (.d (.tuple ds)), none] m = .ok (.d (.bool (ds.all (isRule M)))) m := by
      rw [eQ_map (g := W.d) (l := ds) (m1 := m) (p := isRule M) (by simp [runD_ap, startE, eVar_ap, eC_ap, eBin_ap, eChain_ap, tV_ap, tNot_ap, tAnd_ap, tOr_ap, eAnd_ap, eOr_ap, eNot_ap, eIf_ap, aNil_ap, aCons_ap, eTup_ap, eLst_ap, eLstM_ap, eRep_ap, eCall_ap, eB_ap, eIsi_ap, eMl_ap, eMs_ap, oNone_ap, oSome_ap, eSl_ap, sNil_ap, sSeq_ap, sRet_ap, sExpr_ap, sIf_ap, sSet_ap, sAsg_ap, sPar_ap, sPut_ap, iSeq_ap, iRg1_ap, iRg2_ap, fYes_ap, iZ2_ap, iZ3_ap, sRaise_ap, eNeg_ap, ofR, R.bind, toB_b, gN, gT, gsCons, gsNil, wipeE, pPlus_i, pPlus_l, pPlus_t, pPlus_s, pSub_i, pMul_i, pDiv_i, pMod_i, pPow_i, pEq_d, pNe_d, pLt_i, pLe_i, pGt_i, pGe_i, pLt_s, pLe_s, pGt_s, pGe_s, pIs_n, pIs_t, pIs_l, pIs_s, pIs_i, pIs_bn, pIs_b, pIn_s, pIn_l, pIn_t, pIx_l, pIx_t, pIx_s, qLen_s, qLen_l, qLen_t, qInt_i, qInt_b, qTup_l, qTup_t, qList_l, qList_t, qSum, qJoin, qCount, qIndex, tyW, tyD, isN, unW, unWs, noX, seqW_l, seqW_t, sizeLine_eq, L2.atI, L2.ixN]) (fun d hd => ?_)]
      · rfl
      · exact ⟨_, rfl, by simp [runD_ap, startE, eVar_ap, eC_ap, eBin_ap, eChain_ap, tV_ap, tNot_ap, tAnd_ap, tOr_ap, eAnd_ap, eOr_ap, eNot_ap, eIf_ap, aNil_ap, aCons_ap, eTup_ap, eLst_ap, eLstM_ap, eRep_ap, eCall_ap, eB_ap, eIsi_ap, eMl_ap, eMs_ap, oNone_ap, oSome_ap, eSl_ap, sNil_ap, sSeq_ap, sRet_ap, sExpr_ap, sIf_ap, sSet_ap, sAsg_ap, sPar_ap, sPut_ap, iSeq_ap, iRg1_ap, iRg2_ap, fYes_ap, iZ2_ap, iZ3_ap, sRaise_ap, eNeg_ap, ofR, R.bind, toB_b, gN, gT, gsCons, gsNil, wipeE, pPlus_i, pPlus_l, pPlus_t, pPlus_s, pSub_i, pMul_i, pDiv_i, pMod_i, pPow_i, pEq_d, pNe_d, pLt_i, pLe_i, pGt_i, pGe_i, pLt_s, pLe_s, pGt_s, pGe_s, pIs_n, pIs_t, pIs_l, pIs_s, pIs_i, pIs_bn, pIs_b, pIn_s, pIn_l, pIn_t, pIx_l, pIx_t, pIx_s, qLen_s, qLen_l, qLen_t, qInt_i, qInt_b, qTup_l, qTup_t, qList_l, qList_t, qSum, qJoin, qCount, qIndex, tyW, tyD, isN, unW, unWs, noX, seqW_l, seqW_t, sizeLine_eq, L2.atI, L2.ixN, r_rule h M d (TxT.r (TxTs_mem (by unfold TxT at hx; exact hx) hd))]⟩
    have am : areRules M (.tuple ds) = (decide (ds.length ≤ 12) && ds.all (isRule M) && unlike ds) := rfl
    rw [am]
    by_cases h12 : ds.length ≤ 12
    · have h12' : ¬ (12 : Int) < ds.length := by omega
      cases hb : ds.all (isRule M) with
      | false =>
        rw [hb] at q1
        simp [F_are_rules, fs_are_rules, runD_ap, startE, eVar_ap, eC_ap, eBin_ap, eChain_ap, tV_ap, tNot_ap, tAnd_ap, tOr_ap, eAnd_ap, eOr_ap, eNot_ap, eIf_ap, aNil_ap, aCons_ap, eTup_ap, eLst_ap, eLstM_ap, eRep_ap, eCall_ap, eB_ap, eIsi_ap, eMl_ap, eMs_ap, oNone_ap, oSome_ap, eSl_ap, sNil_ap, sSeq_ap, sRet_ap, sExpr_ap, sIf_ap, sSet_ap, sAsg_ap, sPar_ap, sPut_ap, iSeq_ap, iRg1_ap, iRg2_ap, fYes_ap, iZ2_ap, iZ3_ap, sRaise_ap, eNeg_ap, ofR, R.bind, toB_b, gN, gT, gsCons, gsNil, wipeE, pPlus_i, pPlus_l, pPlus_t, pPlus_s, pSub_i, pMul_i, pDiv_i, pMod_i, pPow_i, pEq_d, pNe_d, pLt_i, pLe_i, pGt_i, pGe_i, pLt_s, pLe_s, pGt_s, pGe_s, pIs_n, pIs_t, pIs_l, pIs_s, pIs_i, pIs_bn, pIs_b, pIn_s, pIn_l, pIn_t, pIx_l, pIx_t, pIx_s, qLen_s, qLen_l, qLen_t, qInt_i, qInt_b, qTup_l, qTup_t, qList_l, qList_t, qSum, qJoin, qCount, qIndex, tyW, tyD, isN, unW, unWs, noX, seqW_l, seqW_t, sizeLine_eq, L2.atI, L2.ixN, h12', q1, dEnd_rt h]
      | true =>
        rw [hb] at q1
        obtain ⟨ps, e, l⟩ := pairs_of hb
        have h64 : ps.length < 64 := by omega
        have q2 : eLenSet (eVar 1) [some (.d (.str M)), some (.d (.tuple ds)), none] m = .ok (.d (.int ps.eraseDups.length)) m := by
          rw [eLenSet_ap]
          simp [runD_ap, startE, eVar_ap, eC_ap, eBin_ap, eChain_ap, tV_ap, tNot_ap, tAnd_ap, tOr_ap, eAnd_ap, eOr_ap, eNot_ap, eIf_ap, aNil_ap, aCons_ap, eTup_ap, eLst_ap, eLstM_ap, eRep_ap, eCall_ap, eB_ap, eIsi_ap, eMl_ap, eMs_ap, oNone_ap, oSome_ap, eSl_ap, sNil_ap, sSeq_ap, sRet_ap, sExpr_ap, sIf_ap, sSet_ap, sAsg_ap, sPar_ap, sPut_ap, iSeq_ap, iRg1_ap, iRg2_ap, fYes_ap, iZ2_ap, iZ3_ap, sRaise_ap, eNeg_ap, ofR, R.bind, toB_b, gN, gT, gsCons, gsNil, wipeE, pPlus_i, pPlus_l, pPlus_t, pPlus_s, pSub_i, pMul_i, pDiv_i, pMod_i, pPow_i, pEq_d, pNe_d, pLt_i, pLe_i, pGt_i, pGe_i, pLt_s, pLe_s, pGt_s, pGe_s, pIs_n, pIs_t, pIs_l, pIs_s, pIs_i, pIs_bn, pIs_b, pIn_s, pIn_l, pIn_t, pIx_l, pIx_t, pIx_s, qLen_s, qLen_l, qLen_t, qInt_i, qInt_b, qTup_l, qTup_t, qList_l, qList_t, qSum, qJoin, qCount, qIndex, tyW, tyD, isN, unW, unWs, noX, seqW_l, seqW_t, sizeLine_eq, L2.atI, L2.ixN, e, h64]
        have q3 : unlike ds = decide (ps.eraseDups.length = ps.length) := by unfold unlike; rw [e]
        have q4 : ((ps.eraseDups.length : Int) == (ds.length : Int)) = decide (ps.eraseDups.length = ps.length) := by
          rw [l]
          by_cases z : ps.eraseDups.length = ds.length
          · simp [z]
          · have z' : ¬ (ps.eraseDups.length : Int) = ds.length := by omega
            simp [z, z']
        rw [q3, ← q4]
        simp [F_are_rules, fs_are_rules, runD_ap, startE, eVar_ap, eC_ap, eBin_ap, eChain_ap, tV_ap, tNot_ap, tAnd_ap, tOr_ap, eAnd_ap, eOr_ap, eNot_ap, eIf_ap, aNil_ap, aCons_ap, eTup_ap, eLst_ap, eLstM_ap, eRep_ap, eCall_ap, eB_ap, eIsi_ap, eMl_ap, eMs_ap, oNone_ap, oSome_ap, eSl_ap, sNil_ap, sSeq_ap, sRet_ap, sExpr_ap, sIf_ap, sSet_ap, sAsg_ap, sPar_ap, sPut_ap, iSeq_ap, iRg1_ap, iRg2_ap, fYes_ap, iZ2_ap, iZ3_ap, sRaise_ap, eNeg_ap, ofR, R.bind, toB_b, gN, gT, gsCons, gsNil, wipeE, pPlus_i, pPlus_l, pPlus_t, pPlus_s, pSub_i, pMul_i, pDiv_i, pMod_i, pPow_i, pEq_d, pNe_d, pLt_i, pLe_i, pGt_i, pGe_i, pLt_s, pLe_s, pGt_s, pGe_s, pIs_n, pIs_t, pIs_l, pIs_s, pIs_i, pIs_bn, pIs_b, pIn_s, pIn_l, pIn_t, pIx_l, pIx_t, pIx_s, qLen_s, qLen_l, qLen_t, qInt_i, qInt_b, qTup_l, qTup_t, qList_l, qList_t, qSum, qJoin, qCount, qIndex, tyW, tyD, isN, unW, unWs, noX, seqW_l, seqW_t, sizeLine_eq, L2.atI, L2.ixN, h12', h12, q1, q2, sh_int, ev_int, dEnd_rt h]
    · have h12' : (12 : Int) < ds.length := by omega
      simp [F_are_rules, fs_are_rules, runD_ap, startE, eVar_ap, eC_ap, eBin_ap, eChain_ap, tV_ap, tNot_ap, tAnd_ap, tOr_ap, eAnd_ap, eOr_ap, eNot_ap, eIf_ap, aNil_ap, aCons_ap, eTup_ap, eLst_ap, eLstM_ap, eRep_ap, eCall_ap, eB_ap, eIsi_ap, eMl_ap, eMs_ap, oNone_ap, oSome_ap, eSl_ap, sNil_ap, sSeq_ap, sRet_ap, sExpr_ap, sIf_ap, sSet_ap, sAsg_ap, sPar_ap, sPut_ap, iSeq_ap, iRg1_ap, iRg2_ap, fYes_ap, iZ2_ap, iZ3_ap, sRaise_ap, eNeg_ap, ofR, R.bind, toB_b, gN, gT, gsCons, gsNil, wipeE, pPlus_i, pPlus_l, pPlus_t, pPlus_s, pSub_i, pMul_i, pDiv_i, pMod_i, pPow_i, pEq_d, pNe_d, pLt_i, pLe_i, pGt_i, pGe_i, pLt_s, pLe_s, pGt_s, pGe_s, pIs_n, pIs_t, pIs_l, pIs_s, pIs_i, pIs_bn, pIs_b, pIn_s, pIn_l, pIn_t, pIx_l, pIx_t, pIx_s, qLen_s, qLen_l, qLen_t, qInt_i, qInt_b, qTup_l, qTup_t, qList_l, qList_t, qSum, qJoin, qCount, qIndex, tyW, tyD, isN, unW, unWs, noX, seqW_l, seqW_t, sizeLine_eq, L2.atI, L2.ixN, h12', h12, dEnd_rt h]
  | _ => simp [F_are_rules, fs_are_rules, runD_ap, startE, eVar_ap, eC_ap, eBin_ap, eChain_ap, tV_ap, tNot_ap, tAnd_ap, tOr_ap, eAnd_ap, eOr_ap, eNot_ap, eIf_ap, aNil_ap, aCons_ap, eTup_ap, eLst_ap, eLstM_ap, eRep_ap, eCall_ap, eB_ap, eIsi_ap, eMl_ap, eMs_ap, oNone_ap, oSome_ap, eSl_ap, sNil_ap, sSeq_ap, sRet_ap, sExpr_ap, sIf_ap, sSet_ap, sAsg_ap, sPar_ap, sPut_ap, iSeq_ap, iRg1_ap, iRg2_ap, fYes_ap, iZ2_ap, iZ3_ap, sRaise_ap, eNeg_ap, ofR, R.bind, toB_b, gN, gT, gsCons, gsNil, wipeE, pPlus_i, pPlus_l, pPlus_t, pPlus_s, pSub_i, pMul_i, pDiv_i, pMod_i, pPow_i, pEq_d, pNe_d, pLt_i, pLe_i, pGt_i, pGe_i, pLt_s, pLe_s, pGt_s, pGe_s, pIs_n, pIs_t, pIs_l, pIs_s, pIs_i, pIs_bn, pIs_b, pIn_s, pIn_l, pIn_t, pIx_l, pIx_t, pIx_s, qLen_s, qLen_l, qLen_t, qInt_i, qInt_b, qTup_l, qTup_t, qList_l, qList_t, qSum, qJoin, qCount, qIndex, tyW, tyD, isN, unW, unWs, noX, seqW_l, seqW_t, sizeLine_eq, L2.atI, L2.ixN, dEnd_rt h, areRules]
def isFolk : PyData → Bool
  | .tuple [a, b] => areMoods a && match a with
    | .str M => areRules M b
    | _ => false
  | _ => false
theorem r_folk {m : Sto} (h : Fl m) (x : PyData) (hx : TxT x = true) : F_is_folk [.d x] m = .ok (.d (.bool (isFolk x))) m := by
  cases x with
  | tuple ds =>
    match ds, hx with
    | [a, b], hx =>
      have ha : TxT a = true := TxTs_mem (ds := [a, b]) (by unfold TxT at hx; exact hx) (by simp)
      have hb : TxT b = true := TxTs_mem (ds := [a, b]) (by unfold TxT at hx; exact hx) (by simp)
      have e1 := r_moods h a (TxT.d ha)
      have e0 := r_pair h (.tuple [a, b])
      have e3 : isPair (.tuple [a, b]) = true := rfl
      cases h1 : areMoods a with
      | false => simp [F_is_folk, fs_is_folk, runD_ap, startE, eVar_ap, eC_ap, eBin_ap, eChain_ap, tV_ap, tNot_ap, tAnd_ap, tOr_ap, eAnd_ap, eOr_ap, eNot_ap, eIf_ap, aNil_ap, aCons_ap, eTup_ap, eLst_ap, eLstM_ap, eRep_ap, eCall_ap, eB_ap, eIsi_ap, eMl_ap, eMs_ap, oNone_ap, oSome_ap, eSl_ap, sNil_ap, sSeq_ap, sRet_ap, sExpr_ap, sIf_ap, sSet_ap, sAsg_ap, sPar_ap, sPut_ap, iSeq_ap, iRg1_ap, iRg2_ap, fYes_ap, iZ2_ap, iZ3_ap, sRaise_ap, eNeg_ap, ofR, R.bind, toB_b, gN, gT, gsCons, gsNil, wipeE, pPlus_i, pPlus_l, pPlus_t, pPlus_s, pSub_i, pMul_i, pDiv_i, pMod_i, pPow_i, pEq_d, pNe_d, pLt_i, pLe_i, pGt_i, pGe_i, pLt_s, pLe_s, pGt_s, pGe_s, pIs_n, pIs_t, pIs_l, pIs_s, pIs_i, pIs_bn, pIs_b, pIn_s, pIn_l, pIn_t, pIx_l, pIx_t, pIx_s, qLen_s, qLen_l, qLen_t, qInt_i, qInt_b, qTup_l, qTup_t, qList_l, qList_t, qSum, qJoin, qCount, qIndex, tyW, tyD, isN, unW, unWs, noX, seqW_l, seqW_t, sizeLine_eq, L2.atI, L2.ixN, e0, e3, e1, h1, isFolk, dEnd_rt h]
      | true =>
        cases a with
        | str M =>
          have e2 := r_rules h M b hb
          simp [F_is_folk, fs_is_folk, runD_ap, startE, eVar_ap, eC_ap, eBin_ap, eChain_ap, tV_ap, tNot_ap, tAnd_ap, tOr_ap, eAnd_ap, eOr_ap, eNot_ap, eIf_ap, aNil_ap, aCons_ap, eTup_ap, eLst_ap, eLstM_ap, eRep_ap, eCall_ap, eB_ap, eIsi_ap, eMl_ap, eMs_ap, oNone_ap, oSome_ap, eSl_ap, sNil_ap, sSeq_ap, sRet_ap, sExpr_ap, sIf_ap, sSet_ap, sAsg_ap, sPar_ap, sPut_ap, iSeq_ap, iRg1_ap, iRg2_ap, fYes_ap, iZ2_ap, iZ3_ap, sRaise_ap, eNeg_ap, ofR, R.bind, toB_b, gN, gT, gsCons, gsNil, wipeE, pPlus_i, pPlus_l, pPlus_t, pPlus_s, pSub_i, pMul_i, pDiv_i, pMod_i, pPow_i, pEq_d, pNe_d, pLt_i, pLe_i, pGt_i, pGe_i, pLt_s, pLe_s, pGt_s, pGe_s, pIs_n, pIs_t, pIs_l, pIs_s, pIs_i, pIs_bn, pIs_b, pIn_s, pIn_l, pIn_t, pIx_l, pIx_t, pIx_s, qLen_s, qLen_l, qLen_t, qInt_i, qInt_b, qTup_l, qTup_t, qList_l, qList_t, qSum, qJoin, qCount, qIndex, tyW, tyD, isN, unW, unWs, noX, seqW_l, seqW_t, sizeLine_eq, L2.atI, L2.ixN, e0, e3, e1, e2, h1, isFolk, dEnd_rt h]
        | _ => exact absurd h1 (by simp [areMoods])
    | [], _ => simp [F_is_folk, fs_is_folk, runD_ap, startE, eVar_ap, eC_ap, eBin_ap, eChain_ap, tV_ap, tNot_ap, tAnd_ap, tOr_ap, eAnd_ap, eOr_ap, eNot_ap, eIf_ap, aNil_ap, aCons_ap, eTup_ap, eLst_ap, eLstM_ap, eRep_ap, eCall_ap, eB_ap, eIsi_ap, eMl_ap, eMs_ap, oNone_ap, oSome_ap, eSl_ap, sNil_ap, sSeq_ap, sRet_ap, sExpr_ap, sIf_ap, sSet_ap, sAsg_ap, sPar_ap, sPut_ap, iSeq_ap, iRg1_ap, iRg2_ap, fYes_ap, iZ2_ap, iZ3_ap, sRaise_ap, eNeg_ap, ofR, R.bind, toB_b, gN, gT, gsCons, gsNil, wipeE, pPlus_i, pPlus_l, pPlus_t, pPlus_s, pSub_i, pMul_i, pDiv_i, pMod_i, pPow_i, pEq_d, pNe_d, pLt_i, pLe_i, pGt_i, pGe_i, pLt_s, pLe_s, pGt_s, pGe_s, pIs_n, pIs_t, pIs_l, pIs_s, pIs_i, pIs_bn, pIs_b, pIn_s, pIn_l, pIn_t, pIx_l, pIx_t, pIx_s, qLen_s, qLen_l, qLen_t, qInt_i, qInt_b, qTup_l, qTup_t, qList_l, qList_t, qSum, qJoin, qCount, qIndex, tyW, tyD, isN, unW, unWs, noX, seqW_l, seqW_t, sizeLine_eq, L2.atI, L2.ixN, r_pair h, isPair, isFolk, dEnd_rt h]
    | [_], _ => simp [F_is_folk, fs_is_folk, runD_ap, startE, eVar_ap, eC_ap, eBin_ap, eChain_ap, tV_ap, tNot_ap, tAnd_ap, tOr_ap, eAnd_ap, eOr_ap, eNot_ap, eIf_ap, aNil_ap, aCons_ap, eTup_ap, eLst_ap, eLstM_ap, eRep_ap, eCall_ap, eB_ap, eIsi_ap, eMl_ap, eMs_ap, oNone_ap, oSome_ap, eSl_ap, sNil_ap, sSeq_ap, sRet_ap, sExpr_ap, sIf_ap, sSet_ap, sAsg_ap, sPar_ap, sPut_ap, iSeq_ap, iRg1_ap, iRg2_ap, fYes_ap, iZ2_ap, iZ3_ap, sRaise_ap, eNeg_ap, ofR, R.bind, toB_b, gN, gT, gsCons, gsNil, wipeE, pPlus_i, pPlus_l, pPlus_t, pPlus_s, pSub_i, pMul_i, pDiv_i, pMod_i, pPow_i, pEq_d, pNe_d, pLt_i, pLe_i, pGt_i, pGe_i, pLt_s, pLe_s, pGt_s, pGe_s, pIs_n, pIs_t, pIs_l, pIs_s, pIs_i, pIs_bn, pIs_b, pIn_s, pIn_l, pIn_t, pIx_l, pIx_t, pIx_s, qLen_s, qLen_l, qLen_t, qInt_i, qInt_b, qTup_l, qTup_t, qList_l, qList_t, qSum, qJoin, qCount, qIndex, tyW, tyD, isN, unW, unWs, noX, seqW_l, seqW_t, sizeLine_eq, L2.atI, L2.ixN, r_pair h, isPair, isFolk, dEnd_rt h]
    | _ :: _ :: _ :: _, _ => simp [F_is_folk, fs_is_folk, runD_ap, startE, eVar_ap, eC_ap, eBin_ap, eChain_ap, tV_ap, tNot_ap, tAnd_ap, tOr_ap, eAnd_ap, eOr_ap, eNot_ap, eIf_ap, aNil_ap, aCons_ap, eTup_ap, eLst_ap, eLstM_ap, eRep_ap, eCall_ap, eB_ap, eIsi_ap, eMl_ap, eMs_ap, oNone_ap, oSome_ap, eSl_ap, sNil_ap, sSeq_ap, sRet_ap, sExpr_ap, sIf_ap, sSet_ap, sAsg_ap, sPar_ap, sPut_ap, iSeq_ap, iRg1_ap, iRg2_ap, fYes_ap, iZ2_ap, iZ3_ap, sRaise_ap, eNeg_ap, ofR, R.bind, toB_b, gN, gT, gsCons, gsNil, wipeE, pPlus_i, pPlus_l, pPlus_t, pPlus_s, pSub_i, pMul_i, pDiv_i, pMod_i, pPow_i, pEq_d, pNe_d, pLt_i, pLe_i, pGt_i, pGe_i, pLt_s, pLe_s, pGt_s, pGe_s, pIs_n, pIs_t, pIs_l, pIs_s, pIs_i, pIs_bn, pIs_b, pIn_s, pIn_l, pIn_t, pIx_l, pIx_t, pIx_s, qLen_s, qLen_l, qLen_t, qInt_i, qInt_b, qTup_l, qTup_t, qList_l, qList_t, qSum, qJoin, qCount, qIndex, tyW, tyD, isN, unW, unWs, noX, seqW_l, seqW_t, sizeLine_eq, L2.atI, L2.ixN, r_pair h, isPair, isFolk, dEnd_rt h]
  | _ => simp [F_is_folk, fs_is_folk, runD_ap, startE, eVar_ap, eC_ap, eBin_ap, eChain_ap, tV_ap, tNot_ap, tAnd_ap, tOr_ap, eAnd_ap, eOr_ap, eNot_ap, eIf_ap, aNil_ap, aCons_ap, eTup_ap, eLst_ap, eLstM_ap, eRep_ap, eCall_ap, eB_ap, eIsi_ap, eMl_ap, eMs_ap, oNone_ap, oSome_ap, eSl_ap, sNil_ap, sSeq_ap, sRet_ap, sExpr_ap, sIf_ap, sSet_ap, sAsg_ap, sPar_ap, sPut_ap, iSeq_ap, iRg1_ap, iRg2_ap, fYes_ap, iZ2_ap, iZ3_ap, sRaise_ap, eNeg_ap, ofR, R.bind, toB_b, gN, gT, gsCons, gsNil, wipeE, pPlus_i, pPlus_l, pPlus_t, pPlus_s, pSub_i, pMul_i, pDiv_i, pMod_i, pPow_i, pEq_d, pNe_d, pLt_i, pLe_i, pGt_i, pGe_i, pLt_s, pLe_s, pGt_s, pGe_s, pIs_n, pIs_t, pIs_l, pIs_s, pIs_i, pIs_bn, pIs_b, pIn_s, pIn_l, pIn_t, pIx_l, pIx_t, pIx_s, qLen_s, qLen_l, qLen_t, qInt_i, qInt_b, qTup_l, qTup_t, qList_l, qList_t, qSum, qJoin, qCount, qIndex, tyW, tyD, isN, unW, unWs, noX, seqW_l, seqW_t, sizeLine_eq, L2.atI, L2.ixN, r_pair h, isPair, isFolk, dEnd_rt h]
/-! ### crowds -/
abbrev TOP : Int := 10000000000000000000000000000000000000000
def isMany : PyData → Bool
  | .int i => decide (0 ≤ i) && decide (i ≤ TOP)
  | _ => false
def isCrowd (n : Nat) : PyData → Bool
  | .tuple ds => decide (ds.length = n) && ds.all isMany
  | _ => false
theorem r_crowd {m : Sto} (h : Fl m) (M : Str) (r x : PyData) (hM : M.length ≤ 16777216) : F_is_crowd [.d (.tuple [.str M, r]), .d x] m = .ok (.d (.bool (isCrowd M.length x))) m := by
  cases x with
  | tuple ds =>
    have q1 : eQ true [2] (iSeq (eVar 1)) (gN 2) (eAnd (eCall 1 F_is_integer (aCons (eVar 2) aNil)) (eChain pLe pLe (eC (.int 0)) (eVar 2) (eC (.int (10000000000000000000000000000000000000000))))) [some (.d (.tuple [.str M, r])), some (.d (.tuple ds)), none] m = .ok (.d (.bool (ds.all isMany))) m := by
      rw [eQ_map (g := W.d) (l := ds) (m1 := m) (p := isMany) (by simp [runD_ap, startE, eVar_ap, eC_ap, eBin_ap, eChain_ap, tV_ap, tNot_ap, tAnd_ap, tOr_ap, eAnd_ap, eOr_ap, eNot_ap, eIf_ap, aNil_ap, aCons_ap, eTup_ap, eLst_ap, eLstM_ap, eRep_ap, eCall_ap, eB_ap, eIsi_ap, eMl_ap, eMs_ap, oNone_ap, oSome_ap, eSl_ap, sNil_ap, sSeq_ap, sRet_ap, sExpr_ap, sIf_ap, sSet_ap, sAsg_ap, sPar_ap, sPut_ap, iSeq_ap, iRg1_ap, iRg2_ap, fYes_ap, iZ2_ap, iZ3_ap, sRaise_ap, eNeg_ap, ofR, R.bind, toB_b, gN, gT, gsCons, gsNil, wipeE, pPlus_i, pPlus_l, pPlus_t, pPlus_s, pSub_i, pMul_i, pDiv_i, pMod_i, pPow_i, pEq_d, pNe_d, pLt_i, pLe_i, pGt_i, pGe_i, pLt_s, pLe_s, pGt_s, pGe_s, pIs_n, pIs_t, pIs_l, pIs_s, pIs_i, pIs_bn, pIs_b, pIn_s, pIn_l, pIn_t, pIx_l, pIx_t, pIx_s, qLen_s, qLen_l, qLen_t, qInt_i, qInt_b, qTup_l, qTup_t, qList_l, qList_t, qSum, qJoin, qCount, qIndex, tyW, tyD, isN, unW, unWs, noX, seqW_l, seqW_t, sizeLine_eq, L2.atI, L2.ixN]) (fun d hd => ?_)]
      · rfl
      · refine ⟨_, rfl, ?_⟩
        have e := r_integer h d
        cases d with
        | int i =>
          by_cases h0 : 0 ≤ i
          · by_cases h1 : i ≤ TOP
            · simp [runD_ap, startE, eVar_ap, eC_ap, eBin_ap, eChain_ap, tV_ap, tNot_ap, tAnd_ap, tOr_ap, eAnd_ap, eOr_ap, eNot_ap, eIf_ap, aNil_ap, aCons_ap, eTup_ap, eLst_ap, eLstM_ap, eRep_ap, eCall_ap, eB_ap, eIsi_ap, eMl_ap, eMs_ap, oNone_ap, oSome_ap, eSl_ap, sNil_ap, sSeq_ap, sRet_ap, sExpr_ap, sIf_ap, sSet_ap, sAsg_ap, sPar_ap, sPut_ap, iSeq_ap, iRg1_ap, iRg2_ap, fYes_ap, iZ2_ap, iZ3_ap, sRaise_ap, eNeg_ap, ofR, R.bind, toB_b, gN, gT, gsCons, gsNil, wipeE, pPlus_i, pPlus_l, pPlus_t, pPlus_s, pSub_i, pMul_i, pDiv_i, pMod_i, pPow_i, pEq_d, pNe_d, pLt_i, pLe_i, pGt_i, pGe_i, pLt_s, pLe_s, pGt_s, pGe_s, pIs_n, pIs_t, pIs_l, pIs_s, pIs_i, pIs_bn, pIs_b, pIn_s, pIn_l, pIn_t, pIx_l, pIx_t, pIx_s, qLen_s, qLen_l, qLen_t, qInt_i, qInt_b, qTup_l, qTup_t, qList_l, qList_t, qSum, qJoin, qCount, qIndex, tyW, tyD, isN, unW, unWs, noX, seqW_l, seqW_t, sizeLine_eq, L2.atI, L2.ixN, e, isInt, isMany, h0, h1]
            · simp [runD_ap, startE, eVar_ap, eC_ap, eBin_ap, eChain_ap, tV_ap, tNot_ap, tAnd_ap, tOr_ap, eAnd_ap, eOr_ap, eNot_ap, eIf_ap, aNil_ap, aCons_ap, eTup_ap, eLst_ap, eLstM_ap, eRep_ap, eCall_ap, eB_ap, eIsi_ap, eMl_ap, eMs_ap, oNone_ap, oSome_ap, eSl_ap, sNil_ap, sSeq_ap, sRet_ap, sExpr_ap, sIf_ap, sSet_ap, sAsg_ap, sPar_ap, sPut_ap, iSeq_ap, iRg1_ap, iRg2_ap, fYes_ap, iZ2_ap, iZ3_ap, sRaise_ap, eNeg_ap, ofR, R.bind, toB_b, gN, gT, gsCons, gsNil, wipeE, pPlus_i, pPlus_l, pPlus_t, pPlus_s, pSub_i, pMul_i, pDiv_i, pMod_i, pPow_i, pEq_d, pNe_d, pLt_i, pLe_i, pGt_i, pGe_i, pLt_s, pLe_s, pGt_s, pGe_s, pIs_n, pIs_t, pIs_l, pIs_s, pIs_i, pIs_bn, pIs_b, pIn_s, pIn_l, pIn_t, pIx_l, pIx_t, pIx_s, qLen_s, qLen_l, qLen_t, qInt_i, qInt_b, qTup_l, qTup_t, qList_l, qList_t, qSum, qJoin, qCount, qIndex, tyW, tyD, isN, unW, unWs, noX, seqW_l, seqW_t, sizeLine_eq, L2.atI, L2.ixN, e, isInt, isMany, h0, h1]
          · simp [runD_ap, startE, eVar_ap, eC_ap, eBin_ap, eChain_ap, tV_ap, tNot_ap, tAnd_ap, tOr_ap, eAnd_ap, eOr_ap, eNot_ap, eIf_ap, aNil_ap, aCons_ap, eTup_ap, eLst_ap, eLstM_ap, eRep_ap, eCall_ap, eB_ap, eIsi_ap, eMl_ap, eMs_ap, oNone_ap, oSome_ap, eSl_ap, sNil_ap, sSeq_ap, sRet_ap, sExpr_ap, sIf_ap, sSet_ap, sAsg_ap, sPar_ap, sPut_ap, iSeq_ap, iRg1_ap, iRg2_ap, fYes_ap, iZ2_ap, iZ3_ap, sRaise_ap, eNeg_ap, ofR, R.bind, toB_b, gN, gT, gsCons, gsNil, wipeE, pPlus_i, pPlus_l, pPlus_t, pPlus_s, pSub_i, pMul_i, pDiv_i, pMod_i, pPow_i, pEq_d, pNe_d, pLt_i, pLe_i, pGt_i, pGe_i, pLt_s, pLe_s, pGt_s, pGe_s, pIs_n, pIs_t, pIs_l, pIs_s, pIs_i, pIs_bn, pIs_b, pIn_s, pIn_l, pIn_t, pIx_l, pIx_t, pIx_s, qLen_s, qLen_l, qLen_t, qInt_i, qInt_b, qTup_l, qTup_t, qList_l, qList_t, qSum, qJoin, qCount, qIndex, tyW, tyD, isN, unW, unWs, noX, seqW_l, seqW_t, sizeLine_eq, L2.atI, L2.ixN, e, isInt, isMany, h0]
        | _ => simp [runD_ap, startE, eVar_ap, eC_ap, eBin_ap, eChain_ap, tV_ap, tNot_ap, tAnd_ap, tOr_ap, eAnd_ap, eOr_ap, eNot_ap, eIf_ap, aNil_ap, aCons_ap, eTup_ap, eLst_ap, eLstM_ap, eRep_ap, eCall_ap, eB_ap, eIsi_ap, eMl_ap, eMs_ap, oNone_ap, oSome_ap, eSl_ap, sNil_ap, sSeq_ap, sRet_ap, sExpr_ap, sIf_ap, sSet_ap, sAsg_ap, sPar_ap, sPut_ap, iSeq_ap, iRg1_ap, iRg2_ap, fYes_ap, iZ2_ap, iZ3_ap, sRaise_ap, eNeg_ap, ofR, R.bind, toB_b, gN, gT, gsCons, gsNil, wipeE, pPlus_i, pPlus_l, pPlus_t, pPlus_s, pSub_i, pMul_i, pDiv_i, pMod_i, pPow_i, pEq_d, pNe_d, pLt_i, pLe_i, pGt_i, pGe_i, pLt_s, pLe_s, pGt_s, pGe_s, pIs_n, pIs_t, pIs_l, pIs_s, pIs_i, pIs_bn, pIs_b, pIn_s, pIn_l, pIn_t, pIx_l, pIx_t, pIx_s, qLen_s, qLen_l, qLen_t, qInt_i, qInt_b, qTup_l, qTup_t, qList_l, qList_t, qSum, qJoin, qCount, qIndex, tyW, tyD, isN, unW, unWs, noX, seqW_l, seqW_t, sizeLine_eq, L2.atI, L2.ixN, e, isInt, isMany]
    have am : isCrowd M.length (.tuple ds) = (decide (ds.length = M.length) && ds.all isMany) := rfl
    rw [am]
    by_cases hl : ds.length = M.length
    · simp [F_is_crowd, fs_is_crowd, runD_ap, startE, eVar_ap, eC_ap, eBin_ap, eChain_ap, tV_ap, tNot_ap, tAnd_ap, tOr_ap, eAnd_ap, eOr_ap, eNot_ap, eIf_ap, aNil_ap, aCons_ap, eTup_ap, eLst_ap, eLstM_ap, eRep_ap, eCall_ap, eB_ap, eIsi_ap, eMl_ap, eMs_ap, oNone_ap, oSome_ap, eSl_ap, sNil_ap, sSeq_ap, sRet_ap, sExpr_ap, sIf_ap, sSet_ap, sAsg_ap, sPar_ap, sPut_ap, iSeq_ap, iRg1_ap, iRg2_ap, fYes_ap, iZ2_ap, iZ3_ap, sRaise_ap, eNeg_ap, ofR, R.bind, toB_b, gN, gT, gsCons, gsNil, wipeE, pPlus_i, pPlus_l, pPlus_t, pPlus_s, pSub_i, pMul_i, pDiv_i, pMod_i, pPow_i, pEq_d, pNe_d, pLt_i, pLe_i, pGt_i, pGe_i, pLt_s, pLe_s, pGt_s, pGe_s, pIs_n, pIs_t, pIs_l, pIs_s, pIs_i, pIs_bn, pIs_b, pIn_s, pIn_l, pIn_t, pIx_l, pIx_t, pIx_s, qLen_s, qLen_l, qLen_t, qInt_i, qInt_b, qTup_l, qTup_t, qList_l, qList_t, qSum, qJoin, qCount, qIndex, tyW, tyD, isN, unW, unWs, noX, seqW_l, seqW_t, sizeLine_eq, L2.atI, L2.ixN, hM, hl, q1, sh_int, ev_int, dEnd_rt h]
    · have hl' : ¬ (ds.length : Int) = M.length := by omega
      simp [F_is_crowd, fs_is_crowd, runD_ap, startE, eVar_ap, eC_ap, eBin_ap, eChain_ap, tV_ap, tNot_ap, tAnd_ap, tOr_ap, eAnd_ap, eOr_ap, eNot_ap, eIf_ap, aNil_ap, aCons_ap, eTup_ap, eLst_ap, eLstM_ap, eRep_ap, eCall_ap, eB_ap, eIsi_ap, eMl_ap, eMs_ap, oNone_ap, oSome_ap, eSl_ap, sNil_ap, sSeq_ap, sRet_ap, sExpr_ap, sIf_ap, sSet_ap, sAsg_ap, sPar_ap, sPut_ap, iSeq_ap, iRg1_ap, iRg2_ap, fYes_ap, iZ2_ap, iZ3_ap, sRaise_ap, eNeg_ap, ofR, R.bind, toB_b, gN, gT, gsCons, gsNil, wipeE, pPlus_i, pPlus_l, pPlus_t, pPlus_s, pSub_i, pMul_i, pDiv_i, pMod_i, pPow_i, pEq_d, pNe_d, pLt_i, pLe_i, pGt_i, pGe_i, pLt_s, pLe_s, pGt_s, pGe_s, pIs_n, pIs_t, pIs_l, pIs_s, pIs_i, pIs_bn, pIs_b, pIn_s, pIn_l, pIn_t, pIx_l, pIx_t, pIx_s, qLen_s, qLen_l, qLen_t, qInt_i, qInt_b, qTup_l, qTup_t, qList_l, qList_t, qSum, qJoin, qCount, qIndex, tyW, tyD, isN, unW, unWs, noX, seqW_l, seqW_t, sizeLine_eq, L2.atI, L2.ixN, hM, hl, hl', sh_int, ev_int, dEnd_rt h]
  | _ => simp [F_is_crowd, fs_is_crowd, runD_ap, startE, eVar_ap, eC_ap, eBin_ap, eChain_ap, tV_ap, tNot_ap, tAnd_ap, tOr_ap, eAnd_ap, eOr_ap, eNot_ap, eIf_ap, aNil_ap, aCons_ap, eTup_ap, eLst_ap, eLstM_ap, eRep_ap, eCall_ap, eB_ap, eIsi_ap, eMl_ap, eMs_ap, oNone_ap, oSome_ap, eSl_ap, sNil_ap, sSeq_ap, sRet_ap, sExpr_ap, sIf_ap, sSet_ap, sAsg_ap, sPar_ap, sPut_ap, iSeq_ap, iRg1_ap, iRg2_ap, fYes_ap, iZ2_ap, iZ3_ap, sRaise_ap, eNeg_ap, ofR, R.bind, toB_b, gN, gT, gsCons, gsNil, wipeE, pPlus_i, pPlus_l, pPlus_t, pPlus_s, pSub_i, pMul_i, pDiv_i, pMod_i, pPow_i, pEq_d, pNe_d, pLt_i, pLe_i, pGt_i, pGe_i, pLt_s, pLe_s, pGt_s, pGe_s, pIs_n, pIs_t, pIs_l, pIs_s, pIs_i, pIs_bn, pIs_b, pIn_s, pIn_l, pIn_t, pIx_l, pIx_t, pIx_s, qLen_s, qLen_l, qLen_t, qInt_i, qInt_b, qTup_l, qTup_t, qList_l, qList_t, qSum, qJoin, qCount, qIndex, tyW, tyD, isN, unW, unWs, noX, seqW_l, seqW_t, sizeLine_eq, L2.atI, L2.ixN, dEnd_rt h, isCrowd]
theorem r_dfolk {m : Sto} (h : Fl m) (x : PyData) (hx : TxT x = true) : F_demand_folk [.d x] m = if isFolk x then .ok (.d .none) m else .exc (.p "BadFolk") m := by
  have e := r_folk h x hx
  cases hb : isFolk x with
  | true => simp [F_demand_folk, fs_demand_folk, runD_ap, startE, eVar_ap, eC_ap, eBin_ap, eChain_ap, tV_ap, tNot_ap, tAnd_ap, tOr_ap, eAnd_ap, eOr_ap, eNot_ap, eIf_ap, aNil_ap, aCons_ap, eTup_ap, eLst_ap, eLstM_ap, eRep_ap, eCall_ap, eB_ap, eIsi_ap, eMl_ap, eMs_ap, oNone_ap, oSome_ap, eSl_ap, sNil_ap, sSeq_ap, sRet_ap, sExpr_ap, sIf_ap, sSet_ap, sAsg_ap, sPar_ap, sPut_ap, iSeq_ap, iRg1_ap, iRg2_ap, fYes_ap, iZ2_ap, iZ3_ap, sRaise_ap, eNeg_ap, ofR, R.bind, toB_b, gN, gT, gsCons, gsNil, wipeE, pPlus_i, pPlus_l, pPlus_t, pPlus_s, pSub_i, pMul_i, pDiv_i, pMod_i, pPow_i, pEq_d, pNe_d, pLt_i, pLe_i, pGt_i, pGe_i, pLt_s, pLe_s, pGt_s, pGe_s, pIs_n, pIs_t, pIs_l, pIs_s, pIs_i, pIs_bn, pIs_b, pIn_s, pIn_l, pIn_t, pIx_l, pIx_t, pIx_s, qLen_s, qLen_l, qLen_t, qInt_i, qInt_b, qTup_l, qTup_t, qList_l, qList_t, qSum, qJoin, qCount, qIndex, tyW, tyD, isN, unW, unWs, noX, seqW_l, seqW_t, sizeLine_eq, L2.atI, L2.ixN, e, hb, dEnd_nx h]
  | false => simp [F_demand_folk, fs_demand_folk, runD_ap, startE, eVar_ap, eC_ap, eBin_ap, eChain_ap, tV_ap, tNot_ap, tAnd_ap, tOr_ap, eAnd_ap, eOr_ap, eNot_ap, eIf_ap, aNil_ap, aCons_ap, eTup_ap, eLst_ap, eLstM_ap, eRep_ap, eCall_ap, eB_ap, eIsi_ap, eMl_ap, eMs_ap, oNone_ap, oSome_ap, eSl_ap, sNil_ap, sSeq_ap, sRet_ap, sExpr_ap, sIf_ap, sSet_ap, sAsg_ap, sPar_ap, sPut_ap, iSeq_ap, iRg1_ap, iRg2_ap, fYes_ap, iZ2_ap, iZ3_ap, sRaise_ap, eNeg_ap, ofR, R.bind, toB_b, gN, gT, gsCons, gsNil, wipeE, pPlus_i, pPlus_l, pPlus_t, pPlus_s, pSub_i, pMul_i, pDiv_i, pMod_i, pPow_i, pEq_d, pNe_d, pLt_i, pLe_i, pGt_i, pGe_i, pLt_s, pLe_s, pGt_s, pGe_s, pIs_n, pIs_t, pIs_l, pIs_s, pIs_i, pIs_bn, pIs_b, pIn_s, pIn_l, pIn_t, pIx_l, pIx_t, pIx_s, qLen_s, qLen_l, qLen_t, qInt_i, qInt_b, qTup_l, qTup_t, qList_l, qList_t, qSum, qJoin, qCount, qIndex, tyW, tyD, isN, unW, unWs, noX, seqW_l, seqW_t, sizeLine_eq, L2.atI, L2.ixN, e, hb, dEnd_exc h]
theorem r_dcrowd {m : Sto} (h : Fl m) (M : Str) (r x : PyData) (hM : M.length ≤ 16777216) : F_demand_crowd [.d (.tuple [.str M, r]), .d x] m = if isCrowd M.length x then .ok (.d .none) m else .exc (.p "BadCrowd") m := by
  have e := r_crowd h M r x hM
  cases hb : isCrowd M.length x with
  | true => simp [F_demand_crowd, fs_demand_crowd, runD_ap, startE, eVar_ap, eC_ap, eBin_ap, eChain_ap, tV_ap, tNot_ap, tAnd_ap, tOr_ap, eAnd_ap, eOr_ap, eNot_ap, eIf_ap, aNil_ap, aCons_ap, eTup_ap, eLst_ap, eLstM_ap, eRep_ap, eCall_ap, eB_ap, eIsi_ap, eMl_ap, eMs_ap, oNone_ap, oSome_ap, eSl_ap, sNil_ap, sSeq_ap, sRet_ap, sExpr_ap, sIf_ap, sSet_ap, sAsg_ap, sPar_ap, sPut_ap, iSeq_ap, iRg1_ap, iRg2_ap, fYes_ap, iZ2_ap, iZ3_ap, sRaise_ap, eNeg_ap, ofR, R.bind, toB_b, gN, gT, gsCons, gsNil, wipeE, pPlus_i, pPlus_l, pPlus_t, pPlus_s, pSub_i, pMul_i, pDiv_i, pMod_i, pPow_i, pEq_d, pNe_d, pLt_i, pLe_i, pGt_i, pGe_i, pLt_s, pLe_s, pGt_s, pGe_s, pIs_n, pIs_t, pIs_l, pIs_s, pIs_i, pIs_bn, pIs_b, pIn_s, pIn_l, pIn_t, pIx_l, pIx_t, pIx_s, qLen_s, qLen_l, qLen_t, qInt_i, qInt_b, qTup_l, qTup_t, qList_l, qList_t, qSum, qJoin, qCount, qIndex, tyW, tyD, isN, unW, unWs, noX, seqW_l, seqW_t, sizeLine_eq, L2.atI, L2.ixN, e, hb, dEnd_nx h]
  | false => simp [F_demand_crowd, fs_demand_crowd, runD_ap, startE, eVar_ap, eC_ap, eBin_ap, eChain_ap, tV_ap, tNot_ap, tAnd_ap, tOr_ap, eAnd_ap, eOr_ap, eNot_ap, eIf_ap, aNil_ap, aCons_ap, eTup_ap, eLst_ap, eLstM_ap, eRep_ap, eCall_ap, eB_ap, eIsi_ap, eMl_ap, eMs_ap, oNone_ap, oSome_ap, eSl_ap, sNil_ap, sSeq_ap, sRet_ap, sExpr_ap, sIf_ap, sSet_ap, sAsg_ap, sPar_ap, sPut_ap, iSeq_ap, iRg1_ap, iRg2_ap, fYes_ap, iZ2_ap, iZ3_ap, sRaise_ap, eNeg_ap, ofR, R.bind, toB_b, gN, gT, gsCons, gsNil, wipeE, pPlus_i, pPlus_l, pPlus_t, pPlus_s, pSub_i, pMul_i, pDiv_i, pMod_i, pPow_i, pEq_d, pNe_d, pLt_i, pLe_i, pGt_i, pGe_i, pLt_s, pLe_s, pGt_s, pGe_s, pIs_n, pIs_t, pIs_l, pIs_s, pIs_i, pIs_bn, pIs_b, pIn_s, pIn_l, pIn_t, pIx_l, pIx_t, pIx_s, qLen_s, qLen_l, qLen_t, qInt_i, qInt_b, qTup_l, qTup_t, qList_l, qList_t, qSum, qJoin, qCount, qIndex, tyW, tyD, isN, unW, unWs, noX, seqW_l, seqW_t, sizeLine_eq, L2.atI, L2.ixN, e, hb, dEnd_exc h]
/-- a crowd of ints -/
def cw (cs : List Int) : PyData := .tuple (cs.map .int)
theorem r_room {m : Sto} (h : Fl m) (cs : List Int) : F_demand_room [.d (cw cs)] m = if cs.any (fun i => decide (TOP < i)) then .exc (.p "TooGreat") m else .ok (.d .none) m := by
  have q1 : eQ false [1] (iSeq (eVar 0)) (gN 1) (eBin pGt (eVar 1) (eC (.int (10000000000000000000000000000000000000000)))) [some (.d (cw cs)), none] m = .ok (.d (.bool (cs.any fun i => decide (TOP < i)))) m := by
    rw [eQ_map (g := fun i => W.d (.int i)) (l := cs) (m1 := m) (p := fun i => decide (TOP < i)) (by simp [runD_ap, startE, eVar_ap, eC_ap, eBin_ap, eChain_ap, tV_ap, tNot_ap, tAnd_ap, tOr_ap, eAnd_ap, eOr_ap, eNot_ap, eIf_ap, aNil_ap, aCons_ap, eTup_ap, eLst_ap, eLstM_ap, eRep_ap, eCall_ap, eB_ap, eIsi_ap, eMl_ap, eMs_ap, oNone_ap, oSome_ap, eSl_ap, sNil_ap, sSeq_ap, sRet_ap, sExpr_ap, sIf_ap, sSet_ap, sAsg_ap, sPar_ap, sPut_ap, iSeq_ap, iRg1_ap, iRg2_ap, fYes_ap, iZ2_ap, iZ3_ap, sRaise_ap, eNeg_ap, ofR, R.bind, toB_b, gN, gT, gsCons, gsNil, wipeE, pPlus_i, pPlus_l, pPlus_t, pPlus_s, pSub_i, pMul_i, pDiv_i, pMod_i, pPow_i, pEq_d, pNe_d, pLt_i, pLe_i, pGt_i, pGe_i, pLt_s, pLe_s, pGt_s, pGe_s, pIs_n, pIs_t, pIs_l, pIs_s, pIs_i, pIs_bn, pIs_b, pIn_s, pIn_l, pIn_t, pIx_l, pIx_t, pIx_s, qLen_s, qLen_l, qLen_t, qInt_i, qInt_b, qTup_l, qTup_t, qList_l, qList_t, qSum, qJoin, qCount, qIndex, tyW, tyD, isN, unW, unWs, noX, seqW_l, seqW_t, sizeLine_eq, L2.atI, L2.ixN, cw, Function.comp_def]) (fun i hi => ?_)]
    · rfl
    · exact ⟨_, rfl, by simp [runD_ap, startE, eVar_ap, eC_ap, eBin_ap, eChain_ap, tV_ap, tNot_ap, tAnd_ap, tOr_ap, eAnd_ap, eOr_ap, eNot_ap, eIf_ap, aNil_ap, aCons_ap, eTup_ap, eLst_ap, eLstM_ap, eRep_ap, eCall_ap, eB_ap, eIsi_ap, eMl_ap, eMs_ap, oNone_ap, oSome_ap, eSl_ap, sNil_ap, sSeq_ap, sRet_ap, sExpr_ap, sIf_ap, sSet_ap, sAsg_ap, sPar_ap, sPut_ap, iSeq_ap, iRg1_ap, iRg2_ap, fYes_ap, iZ2_ap, iZ3_ap, sRaise_ap, eNeg_ap, ofR, R.bind, toB_b, gN, gT, gsCons, gsNil, wipeE, pPlus_i, pPlus_l, pPlus_t, pPlus_s, pSub_i, pMul_i, pDiv_i, pMod_i, pPow_i, pEq_d, pNe_d, pLt_i, pLe_i, pGt_i, pGe_i, pLt_s, pLe_s, pGt_s, pGe_s, pIs_n, pIs_t, pIs_l, pIs_s, pIs_i, pIs_bn, pIs_b, pIn_s, pIn_l, pIn_t, pIx_l, pIx_t, pIx_s, qLen_s, qLen_l, qLen_t, qInt_i, qInt_b, qTup_l, qTup_t, qList_l, qList_t, qSum, qJoin, qCount, qIndex, tyW, tyD, isN, unW, unWs, noX, seqW_l, seqW_t, sizeLine_eq, L2.atI, L2.ixN]⟩
  generalize (cs.any fun i => decide (TOP < i)) = b at q1
  cases b with
  | true => simp [F_demand_room, fs_demand_room, runD_ap, startE, eVar_ap, eC_ap, eBin_ap, eChain_ap, tV_ap, tNot_ap, tAnd_ap, tOr_ap, eAnd_ap, eOr_ap, eNot_ap, eIf_ap, aNil_ap, aCons_ap, eTup_ap, eLst_ap, eLstM_ap, eRep_ap, eCall_ap, eB_ap, eIsi_ap, eMl_ap, eMs_ap, oNone_ap, oSome_ap, eSl_ap, sNil_ap, sSeq_ap, sRet_ap, sExpr_ap, sIf_ap, sSet_ap, sAsg_ap, sPar_ap, sPut_ap, iSeq_ap, iRg1_ap, iRg2_ap, fYes_ap, iZ2_ap, iZ3_ap, sRaise_ap, eNeg_ap, ofR, R.bind, toB_b, gN, gT, gsCons, gsNil, wipeE, pPlus_i, pPlus_l, pPlus_t, pPlus_s, pSub_i, pMul_i, pDiv_i, pMod_i, pPow_i, pEq_d, pNe_d, pLt_i, pLe_i, pGt_i, pGe_i, pLt_s, pLe_s, pGt_s, pGe_s, pIs_n, pIs_t, pIs_l, pIs_s, pIs_i, pIs_bn, pIs_b, pIn_s, pIn_l, pIn_t, pIx_l, pIx_t, pIx_s, qLen_s, qLen_l, qLen_t, qInt_i, qInt_b, qTup_l, qTup_t, qList_l, qList_t, qSum, qJoin, qCount, qIndex, tyW, tyD, isN, unW, unWs, noX, seqW_l, seqW_t, sizeLine_eq, L2.atI, L2.ixN, q1, dEnd_exc h]
  | false => simp [F_demand_room, fs_demand_room, runD_ap, startE, eVar_ap, eC_ap, eBin_ap, eChain_ap, tV_ap, tNot_ap, tAnd_ap, tOr_ap, eAnd_ap, eOr_ap, eNot_ap, eIf_ap, aNil_ap, aCons_ap, eTup_ap, eLst_ap, eLstM_ap, eRep_ap, eCall_ap, eB_ap, eIsi_ap, eMl_ap, eMs_ap, oNone_ap, oSome_ap, eSl_ap, sNil_ap, sSeq_ap, sRet_ap, sExpr_ap, sIf_ap, sSet_ap, sAsg_ap, sPar_ap, sPut_ap, iSeq_ap, iRg1_ap, iRg2_ap, fYes_ap, iZ2_ap, iZ3_ap, sRaise_ap, eNeg_ap, ofR, R.bind, toB_b, gN, gT, gsCons, gsNil, wipeE, pPlus_i, pPlus_l, pPlus_t, pPlus_s, pSub_i, pMul_i, pDiv_i, pMod_i, pPow_i, pEq_d, pNe_d, pLt_i, pLe_i, pGt_i, pGe_i, pLt_s, pLe_s, pGt_s, pGe_s, pIs_n, pIs_t, pIs_l, pIs_s, pIs_i, pIs_bn, pIs_b, pIn_s, pIn_l, pIn_t, pIx_l, pIx_t, pIx_s, qLen_s, qLen_l, qLen_t, qInt_i, qInt_b, qTup_l, qTup_t, qList_l, qList_t, qSum, qJoin, qCount, qIndex, tyW, tyD, isN, unW, unWs, noX, seqW_l, seqW_t, sizeLine_eq, L2.atI, L2.ixN, q1, dEnd_nx h]
theorem filt_true {α : Type} (l : List α) : l.filter (fun _ => true) = l := List.filter_eq_self.mpr fun _ _ => rfl
/-- how many of each mood are in a text -/
def nums (M t : Str) : List Int := M.cps.toList.map fun c => Txt.count t ⟨#[c]⟩
theorem r_numbers {m : Sto} (h : Fl m) (M t : Str) (hM : M.length ≤ 16777216) : F_numbers_of [.d (.str M), .d (.str t)] m = .ok (.d (cw (nums M t))) m := by
  have q1 : eLc [2] (iSeq (eVar 0)) (gN 2) fYes (eMs qCount (eVar 1) (eVar 2)) [some (.d (.str M)), some (.d (.str t)), none] m = .ok (.d (.list ((nums M t).map .int))) m := by
    rw [eLc_map (g0 := fun c => W.d (.str ⟨#[c]⟩)) (l := M.cps.toList) (m1 := m) (c := fun _ => true) (g := fun c => .int (Txt.count t ⟨#[c]⟩)) (by simp [runD_ap, startE, eVar_ap, eC_ap, eBin_ap, eChain_ap, tV_ap, tNot_ap, tAnd_ap, tOr_ap, eAnd_ap, eOr_ap, eNot_ap, eIf_ap, aNil_ap, aCons_ap, eTup_ap, eLst_ap, eLstM_ap, eRep_ap, eCall_ap, eB_ap, eIsi_ap, eMl_ap, eMs_ap, oNone_ap, oSome_ap, eSl_ap, sNil_ap, sSeq_ap, sRet_ap, sExpr_ap, sIf_ap, sSet_ap, sAsg_ap, sPar_ap, sPut_ap, iSeq_ap, iRg1_ap, iRg2_ap, fYes_ap, iZ2_ap, iZ3_ap, sRaise_ap, eNeg_ap, ofR, R.bind, toB_b, gN, gT, gsCons, gsNil, wipeE, pPlus_i, pPlus_l, pPlus_t, pPlus_s, pSub_i, pMul_i, pDiv_i, pMod_i, pPow_i, pEq_d, pNe_d, pLt_i, pLe_i, pGt_i, pGe_i, pLt_s, pLe_s, pGt_s, pGe_s, pIs_n, pIs_t, pIs_l, pIs_s, pIs_i, pIs_bn, pIs_b, pIn_s, pIn_l, pIn_t, pIx_l, pIx_t, pIx_s, qLen_s, qLen_l, qLen_t, qInt_i, qInt_b, qTup_l, qTup_t, qList_l, qList_t, qSum, qJoin, qCount, qIndex, tyW, tyD, isN, unW, unWs, noX, seqW_l, seqW_t, sizeLine_eq, L2.atI, L2.ixN, signs_items]) (fun c hc => ⟨_, rfl, rfl, fun _ => by simp [runD_ap, startE, eVar_ap, eC_ap, eBin_ap, eChain_ap, tV_ap, tNot_ap, tAnd_ap, tOr_ap, eAnd_ap, eOr_ap, eNot_ap, eIf_ap, aNil_ap, aCons_ap, eTup_ap, eLst_ap, eLstM_ap, eRep_ap, eCall_ap, eB_ap, eIsi_ap, eMl_ap, eMs_ap, oNone_ap, oSome_ap, eSl_ap, sNil_ap, sSeq_ap, sRet_ap, sExpr_ap, sIf_ap, sSet_ap, sAsg_ap, sPar_ap, sPut_ap, iSeq_ap, iRg1_ap, iRg2_ap, fYes_ap, iZ2_ap, iZ3_ap, sRaise_ap, eNeg_ap, ofR, R.bind, toB_b, gN, gT, gsCons, gsNil, wipeE, pPlus_i, pPlus_l, pPlus_t, pPlus_s, pSub_i, pMul_i, pDiv_i, pMod_i, pPow_i, pEq_d, pNe_d, pLt_i, pLe_i, pGt_i, pGe_i, pLt_s, pLe_s, pGt_s, pGe_s, pIs_n, pIs_t, pIs_l, pIs_s, pIs_i, pIs_bn, pIs_b, pIn_s, pIn_l, pIn_t, pIx_l, pIx_t, pIx_s, qLen_s, qLen_l, qLen_t, qInt_i, qInt_b, qTup_l, qTup_t, qList_l, qList_t, qSum, qJoin, qCount, qIndex, tyW, tyD, isN, unW, unWs, noX, seqW_l, seqW_t, sizeLine_eq, L2.atI, L2.ixN]⟩) (by rw [sizeLine_eq]; exact hM)]
    simp [nums, Function.comp_def, filt_true]
  simp [F_numbers_of, fs_numbers_of, runD_ap, startE, eVar_ap, eC_ap, eBin_ap, eChain_ap, tV_ap, tNot_ap, tAnd_ap, tOr_ap, eAnd_ap, eOr_ap, eNot_ap, eIf_ap, aNil_ap, aCons_ap, eTup_ap, eLst_ap, eLstM_ap, eRep_ap, eCall_ap, eB_ap, eIsi_ap, eMl_ap, eMs_ap, oNone_ap, oSome_ap, eSl_ap, sNil_ap, sSeq_ap, sRet_ap, sExpr_ap, sIf_ap, sSet_ap, sAsg_ap, sPar_ap, sPut_ap, iSeq_ap, iRg1_ap, iRg2_ap, fYes_ap, iZ2_ap, iZ3_ap, sRaise_ap, eNeg_ap, ofR, R.bind, toB_b, gN, gT, gsCons, gsNil, wipeE, pPlus_i, pPlus_l, pPlus_t, pPlus_s, pSub_i, pMul_i, pDiv_i, pMod_i, pPow_i, pEq_d, pNe_d, pLt_i, pLe_i, pGt_i, pGe_i, pLt_s, pLe_s, pGt_s, pGe_s, pIs_n, pIs_t, pIs_l, pIs_s, pIs_i, pIs_bn, pIs_b, pIn_s, pIn_l, pIn_t, pIx_l, pIx_t, pIx_s, qLen_s, qLen_l, qLen_t, qInt_i, qInt_b, qTup_l, qTup_t, qList_l, qList_t, qSum, qJoin, qCount, qIndex, tyW, tyD, isN, unW, unWs, noX, seqW_l, seqW_t, sizeLine_eq, L2.atI, L2.ixN, q1, cw, dEnd_rt h]

set_option maxHeartbeats 1000000
open PySem Pd
/-! ### meetings -/
/-- folk as data: moods, rules (each two texts) -/
def rl (p : Str × Str) : PyData := .tuple [.str p.1, .str p.2]
def fk (M : Str) (rs : List (Str × Str)) : PyData := .tuple [.str M, .tuple (rs.map rl)]
/-- shaped: that a thing may be held against others -/
def Shp (x : PyData) : Prop := SeqAt.shaped x = true
def enough (cs ns : List Int) : Bool := (List.zip cs ns).all fun p => decide (p.2 ≤ p.1)
theorem zip2_map (cs ns : List Int) : zip2 (cs.map .int) (ns.map .int) = (List.zip cs ns).map fun p => W.d (.tuple [.int p.1, .int p.2]) := by
  unfold zip2
  induction cs generalizing ns with
  | nil => rfl
  | cons c cs ih =>
    cases ns with
    | nil => rfl
    | cons n ns => simp [ih]
theorem zip3_map (cs ns ks : List Int) : zip3 (cs.map .int) (ns.map .int) (ks.map .int) = (List.zip cs (List.zip ns ks)).map fun p => W.d (.tuple [.int p.1, .int p.2.1, .int p.2.2]) := by
  unfold zip3
  induction cs generalizing ns ks with
  | nil => rfl
  | cons c cs ih =>
    cases ns with
    | nil => rfl
    | cons n ns =>
      cases ks with
      | nil => rfl
      | cons k ks => simp at ih; simp [ih]
mutual
theorem eqv_refl : ∀ x : PyData, x.canLay0 = true → PyData.eqv x x = true
  | .none, _ => rfl
  | .bool b, _ => by simp [PyData.eqv]
  | .int i, _ => by simp [PyData.eqv]
  | .str s, _ => by simp [PyData.eqv]
  | .list ds, h => by unfold PyData.eqv; exact eqvs_refl ds (by unfold PyData.canLay0 at h; exact h)
  | .tuple ds, h => by unfold PyData.eqv; exact eqvs_refl ds (by unfold PyData.canLay0 at h; exact h)
  | .dict _, h => by unfold PyData.canLay0 at h; cases h
theorem eqvs_refl : ∀ ds : List PyData, PyData.canLayAll0 ds = true → PyData.eqvAll ds ds = true
  | [], _ => rfl
  | d :: ds, h => by
    unfold PyData.canLayAll0 at h
    rw [Bool.and_eq_true] at h
    unfold PyData.eqvAll
    rw [eqv_refl d h.1, eqvs_refl ds h.2]
    rfl
end
theorem eqv_rl {p q : Str × Str} : PyData.eqv (rl p) (rl q) = decide (p = q) := by
  obtain ⟨a, b⟩ := p
  obtain ⟨c, d⟩ := q
  simp only [rl, PyData.eqv, PyData.eqvAll, Bool.and_true, Prod.mk.injEq]
  by_cases h1 : a = c <;> by_cases h2 : b = d <;> simp [h1, h2]
theorem any_rl (rs : List (Str × Str)) (p : Str × Str) : (rs.any ((fun z => PyData.eqv z (rl p)) ∘ rl)) = decide (p ∈ rs) := by
  induction rs with
  | nil => simp
  | cons r rs ih =>
    rw [List.any_cons, ih, Function.comp_apply, eqv_rl]
    by_cases h1 : r = p
    · simp [h1]
    · have h2 : ¬ p = r := fun e => h1 e.symm
      simp [h1, h2]
/-- what is asked of folk here -/
structure Fk (M : Str) (rs : List (Str × Str)) : Prop where
  len : M.length ≤ 16777216
  sh : ∀ p ∈ rs, Shp (rl p)
  shs : Shp (.list (rs.map rl))
section
variable {m : Sto} {M t : Str} {rs : List (Str × Str)} {cs : List Int}
def canB (M : Str) (rs : List (Str × Str)) (cs : List Int) (p : Str × Str) : Bool := decide (p ∈ rs) && enough cs (nums M p.1)
theorem ix_rl0 {p : Str × Str} {m : Sto} : pIx (.d (rl p)) (.d (.int 0)) m = .ok (.d (.str p.1)) m := rfl
theorem ix_rl1 {p : Str × Str} {m : Sto} : pIx (.d (rl p)) (.d (.int 1)) m = .ok (.d (.str p.2)) m := rfl
theorem ix_fk0 {m : Sto} : pIx (.d (fk M rs)) (.d (.int 0)) m = .ok (.d (.str M)) m := rfl
theorem ix_fk1 {m : Sto} : pIx (.d (fk M rs)) (.d (.int 1)) m = .ok (.d (.tuple (rs.map rl))) m := rfl
theorem cw_fold (l : List Int) : PyData.tuple (l.map .int) = cw l := rfl
theorem sq_cw : seqW (.d (cw cs)) = some (cs.map .int) := rfl
theorem r_can (h : Fl m) (F : Fk M rs) (p : Str × Str) (hp : Shp (rl p)) : F_can_be_used [.d (fk M rs), .d (cw cs), .d (rl p)] m = .ok (.d (.bool (canB M rs cs p))) m := by
  have e1 := r_numbers h M p.1 F.len
  have s1 : SeqAt.shaped (rl p) = true := hp
  have s2 : SeqAt.shaped (.list (rs.map rl)) = true := F.shs
  have q1 : ∀ e0 e2 e4 e5, eQ true [4, 5] (iZ2 (aCons (eVar 1) (aCons (eVar 3) aNil))) (gT 2 (gsCons (gN 4) (gsCons (gN 5) gsNil))) (eBin pGe (eVar 4) (eVar 5)) [e0, some (.d (cw cs)), e2, some (.d (cw (nums M p.1))), e4, e5] m = .ok (.d (.bool (enough cs (nums M p.1)))) m := fun e0 e2 e4 e5 => by
    rw [eQ_map (g := fun p : Int × Int => W.d (.tuple [.int p.1, .int p.2])) (l := List.zip cs (nums M p.1)) (m1 := m) (p := fun p => decide (p.2 ≤ p.1)) (by simp [runD_ap, startE, eVar_ap, eC_ap, eBin_ap, eChain_ap, tV_ap, tNot_ap, tAnd_ap, tOr_ap, eAnd_ap, eOr_ap, eNot_ap, eIf_ap, aNil_ap, aCons_ap, eTup_ap, eLst_ap, eLstM_ap, eRep_ap, eCall_ap, eB_ap, eIsi_ap, eMl_ap, eMs_ap, oNone_ap, oSome_ap, eSl_ap, sNil_ap, sSeq_ap, sRet_ap, sExpr_ap, sIf_ap, sSet_ap, sAsg_ap, sPar_ap, sPut_ap, iSeq_ap, iRg1_ap, iRg2_ap, fYes_ap, iZ2_ap, iZ3_ap, sRaise_ap, eNeg_ap, ofR, R.bind, toB_b, gN, gT, gsCons, gsNil, wipeE, pPlus_i, pPlus_l, pPlus_t, pPlus_s, pSub_i, pMul_i, pDiv_i, pMod_i, pPow_i, pEq_d, pNe_d, pLt_i, pLe_i, pGt_i, pGe_i, pLt_s, pLe_s, pGt_s, pGe_s, pIs_n, pIs_t, pIs_l, pIs_s, pIs_i, pIs_bn, pIs_b, pIn_s, pIn_l, pIn_t, pIx_l, pIx_t, pIx_s, qLen_s, qLen_l, qLen_t, qInt_i, qInt_b, qTup_l, qTup_t, qList_l, qList_t, qSum, qJoin, qCount, qIndex, tyW, tyD, isN, unW, unWs, noX, seqW_l, seqW_t, sizeLine_eq, L2.atI, L2.ixN, ix_rl0, ix_rl1, ix_fk0, ix_fk1, sq_cw, zip2_map]) (fun i hi => ?_)]
    · rfl
    · exact ⟨_, rfl, by simp [runD_ap, startE, eVar_ap, eC_ap, eBin_ap, eChain_ap, tV_ap, tNot_ap, tAnd_ap, tOr_ap, eAnd_ap, eOr_ap, eNot_ap, eIf_ap, aNil_ap, aCons_ap, eTup_ap, eLst_ap, eLstM_ap, eRep_ap, eCall_ap, eB_ap, eIsi_ap, eMl_ap, eMs_ap, oNone_ap, oSome_ap, eSl_ap, sNil_ap, sSeq_ap, sRet_ap, sExpr_ap, sIf_ap, sSet_ap, sAsg_ap, sPar_ap, sPut_ap, iSeq_ap, iRg1_ap, iRg2_ap, fYes_ap, iZ2_ap, iZ3_ap, sRaise_ap, eNeg_ap, ofR, R.bind, toB_b, gN, gT, gsCons, gsNil, wipeE, pPlus_i, pPlus_l, pPlus_t, pPlus_s, pSub_i, pMul_i, pDiv_i, pMod_i, pPow_i, pEq_d, pNe_d, pLt_i, pLe_i, pGt_i, pGe_i, pLt_s, pLe_s, pGt_s, pGe_s, pIs_n, pIs_t, pIs_l, pIs_s, pIs_i, pIs_bn, pIs_b, pIn_s, pIn_l, pIn_t, pIx_l, pIx_t, pIx_s, qLen_s, qLen_l, qLen_t, qInt_i, qInt_b, qTup_l, qTup_t, qList_l, qList_t, qSum, qJoin, qCount, qIndex, tyW, tyD, isN, unW, unWs, noX, seqW_l, seqW_t, sizeLine_eq, L2.atI, L2.ixN]⟩
  have a1 := any_rl rs p
  by_cases hm : p ∈ rs
  · simp [F_can_be_used, fs_can_be_used, runD_ap, startE, eVar_ap, eC_ap, eBin_ap, eChain_ap, tV_ap, tNot_ap, tAnd_ap, tOr_ap, eAnd_ap, eOr_ap, eNot_ap, eIf_ap, aNil_ap, aCons_ap, eTup_ap, eLst_ap, eLstM_ap, eRep_ap, eCall_ap, eB_ap, eIsi_ap, eMl_ap, eMs_ap, oNone_ap, oSome_ap, eSl_ap, sNil_ap, sSeq_ap, sRet_ap, sExpr_ap, sIf_ap, sSet_ap, sAsg_ap, sPar_ap, sPut_ap, iSeq_ap, iRg1_ap, iRg2_ap, fYes_ap, iZ2_ap, iZ3_ap, sRaise_ap, eNeg_ap, ofR, R.bind, toB_b, gN, gT, gsCons, gsNil, wipeE, pPlus_i, pPlus_l, pPlus_t, pPlus_s, pSub_i, pMul_i, pDiv_i, pMod_i, pPow_i, pEq_d, pNe_d, pLt_i, pLe_i, pGt_i, pGe_i, pLt_s, pLe_s, pGt_s, pGe_s, pIs_n, pIs_t, pIs_l, pIs_s, pIs_i, pIs_bn, pIs_b, pIn_s, pIn_l, pIn_t, pIx_l, pIx_t, pIx_s, qLen_s, qLen_l, qLen_t, qInt_i, qInt_b, qTup_l, qTup_t, qList_l, qList_t, qSum, qJoin, qCount, qIndex, tyW, tyD, isN, unW, unWs, noX, seqW_l, seqW_t, sizeLine_eq, L2.atI, L2.ixN, ix_rl0, ix_rl1, ix_fk0, ix_fk1, sq_cw, s1, s2, a1, hm, e1, q1, canB, dEnd_rt h]
  · simp [F_can_be_used, fs_can_be_used, runD_ap, startE, eVar_ap, eC_ap, eBin_ap, eChain_ap, tV_ap, tNot_ap, tAnd_ap, tOr_ap, eAnd_ap, eOr_ap, eNot_ap, eIf_ap, aNil_ap, aCons_ap, eTup_ap, eLst_ap, eLstM_ap, eRep_ap, eCall_ap, eB_ap, eIsi_ap, eMl_ap, eMs_ap, oNone_ap, oSome_ap, eSl_ap, sNil_ap, sSeq_ap, sRet_ap, sExpr_ap, sIf_ap, sSet_ap, sAsg_ap, sPar_ap, sPut_ap, iSeq_ap, iRg1_ap, iRg2_ap, fYes_ap, iZ2_ap, iZ3_ap, sRaise_ap, eNeg_ap, ofR, R.bind, toB_b, gN, gT, gsCons, gsNil, wipeE, pPlus_i, pPlus_l, pPlus_t, pPlus_s, pSub_i, pMul_i, pDiv_i, pMod_i, pPow_i, pEq_d, pNe_d, pLt_i, pLe_i, pGt_i, pGe_i, pLt_s, pLe_s, pGt_s, pGe_s, pIs_n, pIs_t, pIs_l, pIs_s, pIs_i, pIs_bn, pIs_b, pIn_s, pIn_l, pIn_t, pIx_l, pIx_t, pIx_s, qLen_s, qLen_l, qLen_t, qInt_i, qInt_b, qTup_l, qTup_t, qList_l, qList_t, qSum, qJoin, qCount, qIndex, tyW, tyD, isN, unW, unWs, noX, seqW_l, seqW_t, sizeLine_eq, L2.atI, L2.ixN, ix_rl0, ix_rl1, ix_fk0, ix_fk1, sq_cw, s1, s2, a1, hm, canB, dEnd_rt h]
/-- good folk, a good crowd of theirs -/
structure Gd (M : Str) (rs : List (Str × Str)) : Prop where
  ok : Fk M rs
  tx : TxT (fk M rs) = true
  good : isFolk (fk M rs) = true
def Cd (M : Str) (cs : List Int) : Prop := isCrowd M.length (cw cs) = true
theorem r_meetings (h : Fl m) (G : Gd M rs) (hc : Cd M cs) (hz : rs.length ≤ 16777216) : F_meetings [.d (fk M rs), .d (cw cs)] m = .ok (.d (.tuple ((rs.filter (canB M rs cs)).map rl))) m := by
  have e1 := r_dfolk h (fk M rs) G.tx
  rw [G.good, if_pos rfl] at e1
  have e2 : F_demand_crowd [.d (fk M rs), .d (cw cs)] m = if isCrowd M.length (cw cs) then .ok (.d .none) m else .exc (.p "BadCrowd") m := r_dcrowd h M (.tuple (rs.map rl)) (cw cs) G.ok.len
  rw [if_pos (show isCrowd M.length (cw cs) = true from hc)] at e2
  have q1 : ∀ e2, eLc [2] (iSeq (eBin pIx (eVar 0) (eC (.int 1)))) (gN 2) (tV (eCall 3 F_can_be_used (aCons (eVar 0) (aCons (eVar 1) (aCons (eVar 2) aNil))))) (eVar 2) [some (.d (fk M rs)), some (.d (cw cs)), e2] m = .ok (.d (.list ((rs.filter (canB M rs cs)).map rl))) m := fun e2 => by
    rw [eLc_map (g0 := fun p => W.d (rl p)) (l := rs) (m1 := m) (c := canB M rs cs) (g := rl) (by simp [runD_ap, startE, eVar_ap, eC_ap, eBin_ap, eChain_ap, tV_ap, tNot_ap, tAnd_ap, tOr_ap, eAnd_ap, eOr_ap, eNot_ap, eIf_ap, aNil_ap, aCons_ap, eTup_ap, eLst_ap, eLstM_ap, eRep_ap, eCall_ap, eB_ap, eIsi_ap, eMl_ap, eMs_ap, oNone_ap, oSome_ap, eSl_ap, sNil_ap, sSeq_ap, sRet_ap, sExpr_ap, sIf_ap, sSet_ap, sAsg_ap, sPar_ap, sPut_ap, iSeq_ap, iRg1_ap, iRg2_ap, fYes_ap, iZ2_ap, iZ3_ap, sRaise_ap, eNeg_ap, ofR, R.bind, toB_b, gN, gT, gsCons, gsNil, wipeE, pPlus_i, pPlus_l, pPlus_t, pPlus_s, pSub_i, pMul_i, pDiv_i, pMod_i, pPow_i, pEq_d, pNe_d, pLt_i, pLe_i, pGt_i, pGe_i, pLt_s, pLe_s, pGt_s, pGe_s, pIs_n, pIs_t, pIs_l, pIs_s, pIs_i, pIs_bn, pIs_b, pIn_s, pIn_l, pIn_t, pIx_l, pIx_t, pIx_s, qLen_s, qLen_l, qLen_t, qInt_i, qInt_b, qTup_l, qTup_t, qList_l, qList_t, qSum, qJoin, qCount, qIndex, tyW, tyD, isN, unW, unWs, noX, seqW_l, seqW_t, sizeLine_eq, L2.atI, L2.ixN, ix_rl0, ix_rl1, ix_fk0, ix_fk1, sq_cw, Function.comp_def]) (fun p hp => ⟨_, rfl, ?_, fun _ => by simp [runD_ap, startE, eVar_ap, eC_ap, eBin_ap, eChain_ap, tV_ap, tNot_ap, tAnd_ap, tOr_ap, eAnd_ap, eOr_ap, eNot_ap, eIf_ap, aNil_ap, aCons_ap, eTup_ap, eLst_ap, eLstM_ap, eRep_ap, eCall_ap, eB_ap, eIsi_ap, eMl_ap, eMs_ap, oNone_ap, oSome_ap, eSl_ap, sNil_ap, sSeq_ap, sRet_ap, sExpr_ap, sIf_ap, sSet_ap, sAsg_ap, sPar_ap, sPut_ap, iSeq_ap, iRg1_ap, iRg2_ap, fYes_ap, iZ2_ap, iZ3_ap, sRaise_ap, eNeg_ap, ofR, R.bind, toB_b, gN, gT, gsCons, gsNil, wipeE, pPlus_i, pPlus_l, pPlus_t, pPlus_s, pSub_i, pMul_i, pDiv_i, pMod_i, pPow_i, pEq_d, pNe_d, pLt_i, pLe_i, pGt_i, pGe_i, pLt_s, pLe_s, pGt_s, pGe_s, pIs_n, pIs_t, pIs_l, pIs_s, pIs_i, pIs_bn, pIs_b, pIn_s, pIn_l, pIn_t, pIx_l, pIx_t, pIx_s, qLen_s, qLen_l, qLen_t, qInt_i, qInt_b, qTup_l, qTup_t, qList_l, qList_t, qSum, qJoin, qCount, qIndex, tyW, tyD, isN, unW, unWs, noX, seqW_l, seqW_t, sizeLine_eq, L2.atI, L2.ixN, ix_rl0, ix_rl1, ix_fk0, ix_fk1, sq_cw]⟩) (by rw [sizeLine_eq]; exact hz)]
    simp [runD_ap, startE, eVar_ap, eC_ap, eBin_ap, eChain_ap, tV_ap, tNot_ap, tAnd_ap, tOr_ap, eAnd_ap, eOr_ap, eNot_ap, eIf_ap, aNil_ap, aCons_ap, eTup_ap, eLst_ap, eLstM_ap, eRep_ap, eCall_ap, eB_ap, eIsi_ap, eMl_ap, eMs_ap, oNone_ap, oSome_ap, eSl_ap, sNil_ap, sSeq_ap, sRet_ap, sExpr_ap, sIf_ap, sSet_ap, sAsg_ap, sPar_ap, sPut_ap, iSeq_ap, iRg1_ap, iRg2_ap, fYes_ap, iZ2_ap, iZ3_ap, sRaise_ap, eNeg_ap, ofR, R.bind, toB_b, gN, gT, gsCons, gsNil, wipeE, pPlus_i, pPlus_l, pPlus_t, pPlus_s, pSub_i, pMul_i, pDiv_i, pMod_i, pPow_i, pEq_d, pNe_d, pLt_i, pLe_i, pGt_i, pGe_i, pLt_s, pLe_s, pGt_s, pGe_s, pIs_n, pIs_t, pIs_l, pIs_s, pIs_i, pIs_bn, pIs_b, pIn_s, pIn_l, pIn_t, pIx_l, pIx_t, pIx_s, qLen_s, qLen_l, qLen_t, qInt_i, qInt_b, qTup_l, qTup_t, qList_l, qList_t, qSum, qJoin, qCount, qIndex, tyW, tyD, isN, unW, unWs, noX, seqW_l, seqW_t, sizeLine_eq, L2.atI, L2.ixN, ix_rl0, ix_rl1, ix_fk0, ix_fk1, sq_cw, r_can h G.ok p (G.ok.sh p hp)]
  simp [F_meetings, fs_meetings, runD_ap, startE, eVar_ap, eC_ap, eBin_ap, eChain_ap, tV_ap, tNot_ap, tAnd_ap, tOr_ap, eAnd_ap, eOr_ap, eNot_ap, eIf_ap, aNil_ap, aCons_ap, eTup_ap, eLst_ap, eLstM_ap, eRep_ap, eCall_ap, eB_ap, eIsi_ap, eMl_ap, eMs_ap, oNone_ap, oSome_ap, eSl_ap, sNil_ap, sSeq_ap, sRet_ap, sExpr_ap, sIf_ap, sSet_ap, sAsg_ap, sPar_ap, sPut_ap, iSeq_ap, iRg1_ap, iRg2_ap, fYes_ap, iZ2_ap, iZ3_ap, sRaise_ap, eNeg_ap, ofR, R.bind, toB_b, gN, gT, gsCons, gsNil, wipeE, pPlus_i, pPlus_l, pPlus_t, pPlus_s, pSub_i, pMul_i, pDiv_i, pMod_i, pPow_i, pEq_d, pNe_d, pLt_i, pLe_i, pGt_i, pGe_i, pLt_s, pLe_s, pGt_s, pGe_s, pIs_n, pIs_t, pIs_l, pIs_s, pIs_i, pIs_bn, pIs_b, pIn_s, pIn_l, pIn_t, pIx_l, pIx_t, pIx_s, qLen_s, qLen_l, qLen_t, qInt_i, qInt_b, qTup_l, qTup_t, qList_l, qList_t, qSum, qJoin, qCount, qIndex, tyW, tyD, isN, unW, unWs, noX, seqW_l, seqW_t, sizeLine_eq, L2.atI, L2.ixN, ix_rl0, ix_rl1, ix_fk0, ix_fk1, sq_cw, e1, e2, q1, dEnd_rt h]
/-- the crowd behind a rule -/
def bh (M : Str) (cs : List Int) (p : Str × Str) : List Int := (List.zip cs (List.zip (nums M p.1) (nums M p.2))).map fun q => q.1 - q.2.1 + q.2.2
theorem nums_len : (nums M t).length = M.length := by simp [nums]; rfl
theorem r_behind (h : Fl m) (F : Fk M rs) (p : Str × Str) : F_behind_rule [.d (fk M rs), .d (cw cs), .d (rl p)] m = .ok (.d (cw (bh M cs p))) m := by
  have e1 := r_numbers h M p.1 F.len
  have e2 := r_numbers h M p.2 F.len
  have q1 : ∀ e0 e2 e5 e6 e7, eLc [5, 6, 7] (iZ3 (aCons (eVar 1) (aCons (eVar 3) (aCons (eVar 4) aNil)))) (gT 3 (gsCons (gN 5) (gsCons (gN 6) (gsCons (gN 7) gsNil)))) fYes (eBin pPlus (eBin pSub (eVar 5) (eVar 6)) (eVar 7)) [e0, some (.d (cw cs)), e2, some (.d (cw (nums M p.1))), some (.d (cw (nums M p.2))), e5, e6, e7] m = .ok (.d (.list ((bh M cs p).map .int))) m := fun e0 e2 e5 e6 e7 => by
    rw [eLc_map (g0 := fun q : Int × Int × Int => W.d (.tuple [.int q.1, .int q.2.1, .int q.2.2])) (l := List.zip cs (List.zip (nums M p.1) (nums M p.2))) (m1 := m) (c := fun _ => true) (g := fun q => .int (q.1 - q.2.1 + q.2.2)) (by simp [runD_ap, startE, eVar_ap, eC_ap, eBin_ap, eChain_ap, tV_ap, tNot_ap, tAnd_ap, tOr_ap, eAnd_ap, eOr_ap, eNot_ap, eIf_ap, aNil_ap, aCons_ap, eTup_ap, eLst_ap, eLstM_ap, eRep_ap, eCall_ap, eB_ap, eIsi_ap, eMl_ap, eMs_ap, oNone_ap, oSome_ap, eSl_ap, sNil_ap, sSeq_ap, sRet_ap, sExpr_ap, sIf_ap, sSet_ap, sAsg_ap, sPar_ap, sPut_ap, iSeq_ap, iRg1_ap, iRg2_ap, fYes_ap, iZ2_ap, iZ3_ap, sRaise_ap, eNeg_ap, ofR, R.bind, toB_b, gN, gT, gsCons, gsNil, wipeE, pPlus_i, pPlus_l, pPlus_t, pPlus_s, pSub_i, pMul_i, pDiv_i, pMod_i, pPow_i, pEq_d, pNe_d, pLt_i, pLe_i, pGt_i, pGe_i, pLt_s, pLe_s, pGt_s, pGe_s, pIs_n, pIs_t, pIs_l, pIs_s, pIs_i, pIs_bn, pIs_b, pIn_s, pIn_l, pIn_t, pIx_l, pIx_t, pIx_s, qLen_s, qLen_l, qLen_t, qInt_i, qInt_b, qTup_l, qTup_t, qList_l, qList_t, qSum, qJoin, qCount, qIndex, tyW, tyD, isN, unW, unWs, noX, seqW_l, seqW_t, sizeLine_eq, L2.atI, L2.ixN, ix_rl0, ix_rl1, ix_fk0, ix_fk1, sq_cw, zip3_map]) (fun i hi => ⟨_, rfl, rfl, fun _ => by simp [runD_ap, startE, eVar_ap, eC_ap, eBin_ap, eChain_ap, tV_ap, tNot_ap, tAnd_ap, tOr_ap, eAnd_ap, eOr_ap, eNot_ap, eIf_ap, aNil_ap, aCons_ap, eTup_ap, eLst_ap, eLstM_ap, eRep_ap, eCall_ap, eB_ap, eIsi_ap, eMl_ap, eMs_ap, oNone_ap, oSome_ap, eSl_ap, sNil_ap, sSeq_ap, sRet_ap, sExpr_ap, sIf_ap, sSet_ap, sAsg_ap, sPar_ap, sPut_ap, iSeq_ap, iRg1_ap, iRg2_ap, fYes_ap, iZ2_ap, iZ3_ap, sRaise_ap, eNeg_ap, ofR, R.bind, toB_b, gN, gT, gsCons, gsNil, wipeE, pPlus_i, pPlus_l, pPlus_t, pPlus_s, pSub_i, pMul_i, pDiv_i, pMod_i, pPow_i, pEq_d, pNe_d, pLt_i, pLe_i, pGt_i, pGe_i, pLt_s, pLe_s, pGt_s, pGe_s, pIs_n, pIs_t, pIs_l, pIs_s, pIs_i, pIs_bn, pIs_b, pIn_s, pIn_l, pIn_t, pIx_l, pIx_t, pIx_s, qLen_s, qLen_l, qLen_t, qInt_i, qInt_b, qTup_l, qTup_t, qList_l, qList_t, qSum, qJoin, qCount, qIndex, tyW, tyD, isN, unW, unWs, noX, seqW_l, seqW_t, sizeLine_eq, L2.atI, L2.ixN]⟩) (by
      rw [sizeLine_eq, List.length_zip, List.length_zip, nums_len, nums_len, Nat.min_self]
      exact Nat.le_trans (Nat.min_le_right _ _) F.len)]
    simp [bh, filt_true, Function.comp_def]
  simp [F_behind_rule, fs_behind_rule, runD_ap, startE, eVar_ap, eC_ap, eBin_ap, eChain_ap, tV_ap, tNot_ap, tAnd_ap, tOr_ap, eAnd_ap, eOr_ap, eNot_ap, eIf_ap, aNil_ap, aCons_ap, eTup_ap, eLst_ap, eLstM_ap, eRep_ap, eCall_ap, eB_ap, eIsi_ap, eMl_ap, eMs_ap, oNone_ap, oSome_ap, eSl_ap, sNil_ap, sSeq_ap, sRet_ap, sExpr_ap, sIf_ap, sSet_ap, sAsg_ap, sPar_ap, sPut_ap, iSeq_ap, iRg1_ap, iRg2_ap, fYes_ap, iZ2_ap, iZ3_ap, sRaise_ap, eNeg_ap, ofR, R.bind, toB_b, gN, gT, gsCons, gsNil, wipeE, pPlus_i, pPlus_l, pPlus_t, pPlus_s, pSub_i, pMul_i, pDiv_i, pMod_i, pPow_i, pEq_d, pNe_d, pLt_i, pLe_i, pGt_i, pGe_i, pLt_s, pLe_s, pGt_s, pGe_s, pIs_n, pIs_t, pIs_l, pIs_s, pIs_i, pIs_bn, pIs_b, pIn_s, pIn_l, pIn_t, pIx_l, pIx_t, pIx_s, qLen_s, qLen_l, qLen_t, qInt_i, qInt_b, qTup_l, qTup_t, qList_l, qList_t, qSum, qJoin, qCount, qIndex, tyW, tyD, isN, unW, unWs, noX, seqW_l, seqW_t, sizeLine_eq, L2.atI, L2.ixN, ix_rl0, ix_rl1, ix_fk0, ix_fk1, sq_cw, e1, e2, q1, cw_fold, dEnd_rt h]
def small (cs : List Int) : Bool := !cs.any fun i => decide (TOP < i)
theorem r_met (h : Fl m) (G : Gd M rs) (hc : Cd M cs) (p : Str × Str) (hp : p ∈ rs) (hu : canB M rs cs p = true) (hs : small (bh M cs p) = true) : F_met [.d (fk M rs), .d (cw cs), .d (rl p)] m = .ok (.d (cw (bh M cs p))) m := by
  have e1 := r_dfolk h (fk M rs) G.tx
  rw [G.good, if_pos rfl] at e1
  have e2 : F_demand_crowd [.d (fk M rs), .d (cw cs)] m = if isCrowd M.length (cw cs) then .ok (.d .none) m else .exc (.p "BadCrowd") m := r_dcrowd h M (.tuple (rs.map rl)) (cw cs) G.ok.len
  rw [if_pos (show isCrowd M.length (cw cs) = true from hc)] at e2
  have e3 := r_can (cs := cs) h G.ok p (G.ok.sh p hp)
  rw [hu] at e3
  have e4 := r_behind (cs := cs) h G.ok p
  have e5 := r_room h (bh M cs p)
  unfold small at hs
  rw [Bool.not_eq_true'] at hs
  rw [hs, if_neg (by decide)] at e5
  simp [F_met, fs_met, runD_ap, startE, eVar_ap, eC_ap, eBin_ap, eChain_ap, tV_ap, tNot_ap, tAnd_ap, tOr_ap, eAnd_ap, eOr_ap, eNot_ap, eIf_ap, aNil_ap, aCons_ap, eTup_ap, eLst_ap, eLstM_ap, eRep_ap, eCall_ap, eB_ap, eIsi_ap, eMl_ap, eMs_ap, oNone_ap, oSome_ap, eSl_ap, sNil_ap, sSeq_ap, sRet_ap, sExpr_ap, sIf_ap, sSet_ap, sAsg_ap, sPar_ap, sPut_ap, iSeq_ap, iRg1_ap, iRg2_ap, fYes_ap, iZ2_ap, iZ3_ap, sRaise_ap, eNeg_ap, ofR, R.bind, toB_b, gN, gT, gsCons, gsNil, wipeE, pPlus_i, pPlus_l, pPlus_t, pPlus_s, pSub_i, pMul_i, pDiv_i, pMod_i, pPow_i, pEq_d, pNe_d, pLt_i, pLe_i, pGt_i, pGe_i, pLt_s, pLe_s, pGt_s, pGe_s, pIs_n, pIs_t, pIs_l, pIs_s, pIs_i, pIs_bn, pIs_b, pIn_s, pIn_l, pIn_t, pIx_l, pIx_t, pIx_s, qLen_s, qLen_l, qLen_t, qInt_i, qInt_b, qTup_l, qTup_t, qList_l, qList_t, qSum, qJoin, qCount, qIndex, tyW, tyD, isN, unW, unWs, noX, seqW_l, seqW_t, sizeLine_eq, L2.atI, L2.ixN, ix_rl0, ix_rl1, ix_fk0, ix_fk1, sq_cw, e1, e2, e3, e4, e5, dEnd_rt h]
/-- behind a row of rules -/
def rowB (M : Str) (rs : List (Str × Str)) : List Int → List (Str × Str) → Option (List Int)
  | cs, [] => some cs
  | cs, p :: ps => if canB M rs cs p then rowB M rs (bh M cs p) ps else none
end

set_option maxHeartbeats 1000000
open PySem Pd
section
variable {m : Sto} {M t : Str} {p : Str × Str} {rs : List (Str × Str)} {cs : List Int}
/-! ### the law's own reckoning -/
def cntL (M t : Str) : List Int := M.cps.toList.map fun c => ((t.cps.toList.filter fun s => decide (s = c)).length : Int)
theorem eq_ch (a b : Nat) : ((⟨#[a]⟩ : Str) == ⟨#[b]⟩) = decide (a = b) := by
  by_cases h : a = b
  · simp [h]
  · have : ¬ (⟨#[a]⟩ : Str) = ⟨#[b]⟩ := fun e => h (by injection e with e; simpa using e)
    simp [h, this]
/-- the signs of a text may be held against others -/
def Sg (t : Str) : Prop := ∀ c ∈ t.cps.toList, Shp (.str ⟨#[c]⟩)
theorem q_counts (h : Fl m) (hM : M.length ≤ 16777216) (ht : t.length ≤ 16777216) (sM : Sg M) (st : Sg t) : F__law_counts [.d (.str M), .d (.str t)] m = .ok (.d (cw (cntL M t))) m := by
  have q1 : ∀ c ∈ M.cps.toList, ∀ e0 e3, eLc [3] (iSeq (eVar 1)) (gN 3) (tV (eBin pEq (eVar 3) (eVar 2))) (eC (.int 1)) [e0, some (.d (.str t)), some (.d (.str ⟨#[c]⟩)), e3] m = .ok (.d (.list ((t.cps.toList.filter fun s => decide (s = c)).map fun _ => .int 1))) m := fun c hc e0 e3 => by
    have s1 : SeqAt.shaped (.str ⟨#[c]⟩) = true := sM c hc
    exact eLc_map (g0 := fun c => W.d (.str ⟨#[c]⟩)) (l := t.cps.toList) (m1 := m) (c := fun s => decide (s = c)) (g := fun _ => .int 1) (by simp [runD_ap, startE, eVar_ap, eC_ap, eBin_ap, eChain_ap, tV_ap, tNot_ap, tAnd_ap, tOr_ap, eAnd_ap, eOr_ap, eNot_ap, eIf_ap, aNil_ap, aCons_ap, eTup_ap, eLst_ap, eLstM_ap, eRep_ap, eCall_ap, eB_ap, eIsi_ap, eMl_ap, eMs_ap, oNone_ap, oSome_ap, eSl_ap, sNil_ap, sSeq_ap, sRet_ap, sExpr_ap, sIf_ap, sSet_ap, sAsg_ap, sPar_ap, sPut_ap, iSeq_ap, iRg1_ap, iRg2_ap, fYes_ap, iZ2_ap, iZ3_ap, sRaise_ap, eNeg_ap, ofR, R.bind, toB_b, gN, gT, gsCons, gsNil, wipeE, pPlus_i, pPlus_l, pPlus_t, pPlus_s, pSub_i, pMul_i, pDiv_i, pMod_i, pPow_i, pEq_d, pNe_d, pLt_i, pLe_i, pGt_i, pGe_i, pLt_s, pLe_s, pGt_s, pGe_s, pIs_n, pIs_t, pIs_l, pIs_s, pIs_i, pIs_bn, pIs_b, pIn_s, pIn_l, pIn_t, pIx_l, pIx_t, pIx_s, qLen_s, qLen_l, qLen_t, qInt_i, qInt_b, qTup_l, qTup_t, qList_l, qList_t, qSum, qJoin, qCount, qIndex, tyW, tyD, isN, unW, unWs, noX, seqW_l, seqW_t, sizeLine_eq, L2.atI, L2.ixN, signs_items]) (fun a ha => ⟨_, rfl, by
      have s2 : SeqAt.shaped (.str ⟨#[a]⟩) = true := st a ha
      simp [runD_ap, startE, eVar_ap, eC_ap, eBin_ap, eChain_ap, tV_ap, tNot_ap, tAnd_ap, tOr_ap, eAnd_ap, eOr_ap, eNot_ap, eIf_ap, aNil_ap, aCons_ap, eTup_ap, eLst_ap, eLstM_ap, eRep_ap, eCall_ap, eB_ap, eIsi_ap, eMl_ap, eMs_ap, oNone_ap, oSome_ap, eSl_ap, sNil_ap, sSeq_ap, sRet_ap, sExpr_ap, sIf_ap, sSet_ap, sAsg_ap, sPar_ap, sPut_ap, iSeq_ap, iRg1_ap, iRg2_ap, fYes_ap, iZ2_ap, iZ3_ap, sRaise_ap, eNeg_ap, ofR, R.bind, toB_b, gN, gT, gsCons, gsNil, wipeE, pPlus_i, pPlus_l, pPlus_t, pPlus_s, pSub_i, pMul_i, pDiv_i, pMod_i, pPow_i, pEq_d, pNe_d, pLt_i, pLe_i, pGt_i, pGe_i, pLt_s, pLe_s, pGt_s, pGe_s, pIs_n, pIs_t, pIs_l, pIs_s, pIs_i, pIs_bn, pIs_b, pIn_s, pIn_l, pIn_t, pIx_l, pIx_t, pIx_s, qLen_s, qLen_l, qLen_t, qInt_i, qInt_b, qTup_l, qTup_t, qList_l, qList_t, qSum, qJoin, qCount, qIndex, tyW, tyD, isN, unW, unWs, noX, seqW_l, seqW_t, sizeLine_eq, L2.atI, L2.ixN, s1, s2, ev_str, eq_ch], fun _ => by simp [runD_ap, startE, eVar_ap, eC_ap, eBin_ap, eChain_ap, tV_ap, tNot_ap, tAnd_ap, tOr_ap, eAnd_ap, eOr_ap, eNot_ap, eIf_ap, aNil_ap, aCons_ap, eTup_ap, eLst_ap, eLstM_ap, eRep_ap, eCall_ap, eB_ap, eIsi_ap, eMl_ap, eMs_ap, oNone_ap, oSome_ap, eSl_ap, sNil_ap, sSeq_ap, sRet_ap, sExpr_ap, sIf_ap, sSet_ap, sAsg_ap, sPar_ap, sPut_ap, iSeq_ap, iRg1_ap, iRg2_ap, fYes_ap, iZ2_ap, iZ3_ap, sRaise_ap, eNeg_ap, ofR, R.bind, toB_b, gN, gT, gsCons, gsNil, wipeE, pPlus_i, pPlus_l, pPlus_t, pPlus_s, pSub_i, pMul_i, pDiv_i, pMod_i, pPow_i, pEq_d, pNe_d, pLt_i, pLe_i, pGt_i, pGe_i, pLt_s, pLe_s, pGt_s, pGe_s, pIs_n, pIs_t, pIs_l, pIs_s, pIs_i, pIs_bn, pIs_b, pIn_s, pIn_l, pIn_t, pIx_l, pIx_t, pIx_s, qLen_s, qLen_l, qLen_t, qInt_i, qInt_b, qTup_l, qTup_t, qList_l, qList_t, qSum, qJoin, qCount, qIndex, tyW, tyD, isN, unW, unWs, noX, seqW_l, seqW_t, sizeLine_eq, L2.atI, L2.ixN]⟩) (by rw [sizeLine_eq]; exact ht)
  have q2 : ∀ e2 e3, eLc [2] (iSeq (eVar 0)) (gN 2) fYes (eB qLen (aCons (eLc [3] (iSeq (eVar 1)) (gN 3) (tV (eBin pEq (eVar 3) (eVar 2))) (eC (.int 1))) aNil)) [some (.d (.str M)), some (.d (.str t)), e2, e3] m = .ok (.d (.list ((cntL M t).map .int))) m := fun e2 e3 => by
    rw [eLc_map (g0 := fun c => W.d (.str ⟨#[c]⟩)) (l := M.cps.toList) (m1 := m) (c := fun _ => true) (g := fun c => .int ((t.cps.toList.filter fun s => decide (s = c)).length : Int)) (by simp [runD_ap, startE, eVar_ap, eC_ap, eBin_ap, eChain_ap, tV_ap, tNot_ap, tAnd_ap, tOr_ap, eAnd_ap, eOr_ap, eNot_ap, eIf_ap, aNil_ap, aCons_ap, eTup_ap, eLst_ap, eLstM_ap, eRep_ap, eCall_ap, eB_ap, eIsi_ap, eMl_ap, eMs_ap, oNone_ap, oSome_ap, eSl_ap, sNil_ap, sSeq_ap, sRet_ap, sExpr_ap, sIf_ap, sSet_ap, sAsg_ap, sPar_ap, sPut_ap, iSeq_ap, iRg1_ap, iRg2_ap, fYes_ap, iZ2_ap, iZ3_ap, sRaise_ap, eNeg_ap, ofR, R.bind, toB_b, gN, gT, gsCons, gsNil, wipeE, pPlus_i, pPlus_l, pPlus_t, pPlus_s, pSub_i, pMul_i, pDiv_i, pMod_i, pPow_i, pEq_d, pNe_d, pLt_i, pLe_i, pGt_i, pGe_i, pLt_s, pLe_s, pGt_s, pGe_s, pIs_n, pIs_t, pIs_l, pIs_s, pIs_i, pIs_bn, pIs_b, pIn_s, pIn_l, pIn_t, pIx_l, pIx_t, pIx_s, qLen_s, qLen_l, qLen_t, qInt_i, qInt_b, qTup_l, qTup_t, qList_l, qList_t, qSum, qJoin, qCount, qIndex, tyW, tyD, isN, unW, unWs, noX, seqW_l, seqW_t, sizeLine_eq, L2.atI, L2.ixN, signs_items]) (fun c hc => ⟨_, rfl, rfl, fun _ => by
      have e := q1 c hc
      simp [runD_ap, startE, eVar_ap, eC_ap, eBin_ap, eChain_ap, tV_ap, tNot_ap, tAnd_ap, tOr_ap, eAnd_ap, eOr_ap, eNot_ap, eIf_ap, aNil_ap, aCons_ap, eTup_ap, eLst_ap, eLstM_ap, eRep_ap, eCall_ap, eB_ap, eIsi_ap, eMl_ap, eMs_ap, oNone_ap, oSome_ap, eSl_ap, sNil_ap, sSeq_ap, sRet_ap, sExpr_ap, sIf_ap, sSet_ap, sAsg_ap, sPar_ap, sPut_ap, iSeq_ap, iRg1_ap, iRg2_ap, fYes_ap, iZ2_ap, iZ3_ap, sRaise_ap, eNeg_ap, ofR, R.bind, toB_b, gN, gT, gsCons, gsNil, wipeE, pPlus_i, pPlus_l, pPlus_t, pPlus_s, pSub_i, pMul_i, pDiv_i, pMod_i, pPow_i, pEq_d, pNe_d, pLt_i, pLe_i, pGt_i, pGe_i, pLt_s, pLe_s, pGt_s, pGe_s, pIs_n, pIs_t, pIs_l, pIs_s, pIs_i, pIs_bn, pIs_b, pIn_s, pIn_l, pIn_t, pIx_l, pIx_t, pIx_s, qLen_s, qLen_l, qLen_t, qInt_i, qInt_b, qTup_l, qTup_t, qList_l, qList_t, qSum, qJoin, qCount, qIndex, tyW, tyD, isN, unW, unWs, noX, seqW_l, seqW_t, sizeLine_eq, L2.atI, L2.ixN, e]⟩) (by rw [sizeLine_eq]; exact hM)]
    simp [cntL, filt_true, Function.comp_def]
  simp [F__law_counts, fs__law_counts, runD_ap, startE, eVar_ap, eC_ap, eBin_ap, eChain_ap, tV_ap, tNot_ap, tAnd_ap, tOr_ap, eAnd_ap, eOr_ap, eNot_ap, eIf_ap, aNil_ap, aCons_ap, eTup_ap, eLst_ap, eLstM_ap, eRep_ap, eCall_ap, eB_ap, eIsi_ap, eMl_ap, eMs_ap, oNone_ap, oSome_ap, eSl_ap, sNil_ap, sSeq_ap, sRet_ap, sExpr_ap, sIf_ap, sSet_ap, sAsg_ap, sPar_ap, sPut_ap, iSeq_ap, iRg1_ap, iRg2_ap, fYes_ap, iZ2_ap, iZ3_ap, sRaise_ap, eNeg_ap, ofR, R.bind, toB_b, gN, gT, gsCons, gsNil, wipeE, pPlus_i, pPlus_l, pPlus_t, pPlus_s, pSub_i, pMul_i, pDiv_i, pMod_i, pPow_i, pEq_d, pNe_d, pLt_i, pLe_i, pGt_i, pGe_i, pLt_s, pLe_s, pGt_s, pGe_s, pIs_n, pIs_t, pIs_l, pIs_s, pIs_i, pIs_bn, pIs_b, pIn_s, pIn_l, pIn_t, pIx_l, pIx_t, pIx_s, qLen_s, qLen_l, qLen_t, qInt_i, qInt_b, qTup_l, qTup_t, qList_l, qList_t, qSum, qJoin, qCount, qIndex, tyW, tyD, isN, unW, unWs, noX, seqW_l, seqW_t, sizeLine_eq, L2.atI, L2.ixN, q2, cw_fold, dEnd_rt h]
theorem cnt_fil (c : Nat) : ∀ l : List Nat, PyProof.Rows.cnt c l = ((l.filter fun s => decide (s = c)).length : Int)
  | [] => rfl
  | n :: r => by
    rw [PyProof.Rows.cnt_cons, cnt_fil c r]
    by_cases h : n = c
    · simp [h]; omega
    · simp [h]
theorem cntL_nums : cntL M t = nums M t := by
  unfold cntL nums
  refine List.map_congr_left fun c _ => ?_
  rw [PyProof.Rows.count_cnt, cnt_fil]
theorem sh_ones {α : Type} (l : List α) : SeqAt.shaped (.list (l.map fun _ => PyData.int 1)) = true := by
  have h1 : PyData.canLayAll0 (l.map fun _ => PyData.int 1) = true := by
    induction l with
    | nil => rfl
    | cons a l ih => rw [List.map_cons]; unfold PyData.canLayAll0; rw [ih]; rfl
  have h2 : PyData.depthAll (l.map fun _ => PyData.int 1) = 0 := by
    induction l with
    | nil => rfl
    | cons a l ih =>
      have h1' : PyData.canLayAll0 (l.map fun _ => PyData.int 1) = true := by
        rw [List.map_cons] at h1
        unfold PyData.canLayAll0 at h1
        rw [Bool.and_eq_true] at h1
        exact h1.2
      rw [List.map_cons]; unfold PyData.depthAll; rw [ih h1']; rfl
  have h3 : PyData.canLay0 (.list (l.map fun _ => PyData.int 1)) = true := h1
  have h4 : PyData.depth (.list (l.map fun _ => PyData.int 1)) = 1 := by unfold PyData.depth; rw [h2]
  unfold SeqAt.shaped
  rw [h3, h4]
  rfl
theorem ev_nil (l : List PyData) : PyData.eqv (.list l) (.list []) = l.isEmpty := by
  cases l <;> rfl
theorem sh_nil : SeqAt.shaped (.list []) = true := rfl
theorem enough_fil (cs ns : List Int) : (((List.zip cs ns).filter fun p => decide (p.1 < p.2)).map fun _ => PyData.int 1).isEmpty = enough cs ns := by
  unfold enough
  generalize List.zip cs ns = l
  induction l with
  | nil => rfl
  | cons p l ih =>
    by_cases h : p.1 < p.2
    · have h' : ¬ p.2 ≤ p.1 := by omega
      simp [h, h']
    · have h' : p.2 ≤ p.1 := by omega
      simp only [h, decide_false, Bool.false_eq_true, not_false_eq_true, List.filter_cons_of_neg, List.all_cons, h', decide_true, Bool.true_and]
      exact ih
def usable (M : Str) (rs : List (Str × Str)) (cs : List Int) : List (Str × Str) := rs.filter fun p => enough cs (cntL M p.1)
/-- the texts of rules are small and of signs -/
structure Rs (M : Str) (rs : List (Str × Str)) : Prop where
  len : M.length ≤ 16777216
  sg : Sg M
  l1 : ∀ p ∈ rs, p.1.length ≤ 16777216 ∧ Sg p.1 ∧ p.2.length ≤ 16777216 ∧ Sg p.2
  few : rs.length ≤ 1000
  sh : ∀ p ∈ rs, Shp (rl p)
theorem q_usloop (h : Fl m) (Z : Rs M rs) : ∀ (ps acc : List (Str × Str)) (e3 e4 e5 e6 : Option W), (∀ p ∈ ps, p ∈ rs) → acc.length + ps.length ≤ 1000 →
    ∃ e3' e4', loopF (gN 3) (sSeq (sSet 4 (eCall 2 F__law_counts (aCons (eBin pIx (eVar 0) (eC (.int 0))) (aCons (eBin pIx (eVar 3) (eC (.int 0))) aNil)))) (sSet 2 (eBin pPlus (eVar 2) (eRep (aCons (eVar 3) aNil) (eB qInt (aCons (eBin pEq (eLc [5, 6] (iZ2 (aCons (eVar 1) (aCons (eVar 4) aNil))) (gT 2 (gsCons (gN 5) (gsCons (gN 6) gsNil))) (tV (eBin pLt (eVar 5) (eVar 6))) (eC (.int 1))) (eLst aNil)) aNil))))))
      (ps.map fun p => W.d (rl p)) [some (.d (fk M rs)), some (.d (cw cs)), some (.d (.list (acc.map rl))), e3, e4, e5, e6] m =
      .nx [some (.d (fk M rs)), some (.d (cw cs)), some (.d (.list ((acc ++ ps.filter fun p => enough cs (cntL M p.1)).map rl))), e3', e4', e5, e6] m
  | [], acc, e3, e4, e5, e6, _, _ => ⟨e3, e4, by simp [loopF]⟩
  | p :: ps, acc, e3, e4, e5, e6, hp, hl => by
    have hp1 := Z.l1 p (hp p List.mem_cons_self)
    have e1 := q_counts h Z.len hp1.1 Z.sg hp1.2.1
    have hl' : acc.length + (ps.length + 1) ≤ 1000 := hl
    have q1 : ∀ e2 e3, eLc [5, 6] (iZ2 (aCons (eVar 1) (aCons (eVar 4) aNil))) (gT 2 (gsCons (gN 5) (gsCons (gN 6) gsNil))) (tV (eBin pLt (eVar 5) (eVar 6))) (eC (.int 1)) [some (.d (fk M rs)), some (.d (cw cs)), e2, e3, some (.d (cw (cntL M p.1))), e5, e6] m =
        .ok (.d (.list (((List.zip cs (cntL M p.1)).filter fun p => decide (p.1 < p.2)).map fun _ => .int 1))) m := fun e2 e3 =>
      eLc_map (g0 := fun p : Int × Int => W.d (.tuple [.int p.1, .int p.2])) (l := List.zip cs (cntL M p.1)) (m1 := m) (c := fun p => decide (p.1 < p.2)) (g := fun _ => .int 1) (by simp [runD_ap, startE, eVar_ap, eC_ap, eBin_ap, eChain_ap, tV_ap, tNot_ap, tAnd_ap, tOr_ap, eAnd_ap, eOr_ap, eNot_ap, eIf_ap, aNil_ap, aCons_ap, eTup_ap, eLst_ap, eLstM_ap, eRep_ap, eCall_ap, eB_ap, eIsi_ap, eMl_ap, eMs_ap, oNone_ap, oSome_ap, eSl_ap, sNil_ap, sSeq_ap, sRet_ap, sExpr_ap, sIf_ap, sSet_ap, sAsg_ap, sPar_ap, sPut_ap, iSeq_ap, iRg1_ap, iRg2_ap, fYes_ap, iZ2_ap, iZ3_ap, sRaise_ap, eNeg_ap, ofR, R.bind, toB_b, gN, gT, gsCons, gsNil, wipeE, pPlus_i, pPlus_l, pPlus_t, pPlus_s, pSub_i, pMul_i, pDiv_i, pMod_i, pPow_i, pEq_d, pNe_d, pLt_i, pLe_i, pGt_i, pGe_i, pLt_s, pLe_s, pGt_s, pGe_s, pIs_n, pIs_t, pIs_l, pIs_s, pIs_i, pIs_bn, pIs_b, pIn_s, pIn_l, pIn_t, pIx_l, pIx_t, pIx_s, qLen_s, qLen_l, qLen_t, qInt_i, qInt_b, qTup_l, qTup_t, qList_l, qList_t, qSum, qJoin, qCount, qIndex, tyW, tyD, isN, unW, unWs, noX, seqW_l, seqW_t, sizeLine_eq, L2.atI, L2.ixN, ix_rl0, ix_rl1, ix_fk0, ix_fk1, sq_cw, zip2_map]) (fun a ha => ⟨_, rfl, by simp [runD_ap, startE, eVar_ap, eC_ap, eBin_ap, eChain_ap, tV_ap, tNot_ap, tAnd_ap, tOr_ap, eAnd_ap, eOr_ap, eNot_ap, eIf_ap, aNil_ap, aCons_ap, eTup_ap, eLst_ap, eLstM_ap, eRep_ap, eCall_ap, eB_ap, eIsi_ap, eMl_ap, eMs_ap, oNone_ap, oSome_ap, eSl_ap, sNil_ap, sSeq_ap, sRet_ap, sExpr_ap, sIf_ap, sSet_ap, sAsg_ap, sPar_ap, sPut_ap, iSeq_ap, iRg1_ap, iRg2_ap, fYes_ap, iZ2_ap, iZ3_ap, sRaise_ap, eNeg_ap, ofR, R.bind, toB_b, gN, gT, gsCons, gsNil, wipeE, pPlus_i, pPlus_l, pPlus_t, pPlus_s, pSub_i, pMul_i, pDiv_i, pMod_i, pPow_i, pEq_d, pNe_d, pLt_i, pLe_i, pGt_i, pGe_i, pLt_s, pLe_s, pGt_s, pGe_s, pIs_n, pIs_t, pIs_l, pIs_s, pIs_i, pIs_bn, pIs_b, pIn_s, pIn_l, pIn_t, pIx_l, pIx_t, pIx_s, qLen_s, qLen_l, qLen_t, qInt_i, qInt_b, qTup_l, qTup_t, qList_l, qList_t, qSum, qJoin, qCount, qIndex, tyW, tyD, isN, unW, unWs, noX, seqW_l, seqW_t, sizeLine_eq, L2.atI, L2.ixN], fun _ => by simp [runD_ap, startE, eVar_ap, eC_ap, eBin_ap, eChain_ap, tV_ap, tNot_ap, tAnd_ap, tOr_ap, eAnd_ap, eOr_ap, eNot_ap, eIf_ap, aNil_ap, aCons_ap, eTup_ap, eLst_ap, eLstM_ap, eRep_ap, eCall_ap, eB_ap, eIsi_ap, eMl_ap, eMs_ap, oNone_ap, oSome_ap, eSl_ap, sNil_ap, sSeq_ap, sRet_ap, sExpr_ap, sIf_ap, sSet_ap, sAsg_ap, sPar_ap, sPut_ap, iSeq_ap, iRg1_ap, iRg2_ap, fYes_ap, iZ2_ap, iZ3_ap, sRaise_ap, eNeg_ap, ofR, R.bind, toB_b, gN, gT, gsCons, gsNil, wipeE, pPlus_i, pPlus_l, pPlus_t, pPlus_s, pSub_i, pMul_i, pDiv_i, pMod_i, pPow_i, pEq_d, pNe_d, pLt_i, pLe_i, pGt_i, pGe_i, pLt_s, pLe_s, pGt_s, pGe_s, pIs_n, pIs_t, pIs_l, pIs_s, pIs_i, pIs_bn, pIs_b, pIn_s, pIn_l, pIn_t, pIx_l, pIx_t, pIx_s, qLen_s, qLen_l, qLen_t, qInt_i, qInt_b, qTup_l, qTup_t, qList_l, qList_t, qSum, qJoin, qCount, qIndex, tyW, tyD, isN, unW, unWs, noX, seqW_l, seqW_t, sizeLine_eq, L2.atI, L2.ixN]⟩) (by
        rw [sizeLine_eq, List.length_zip]
        have : (cntL M p.1).length = M.length := by simp [cntL]; rfl
        rw [this]
        exact Nat.le_trans (Nat.min_le_right _ _) Z.len)
    have s1 := sh_ones ((List.zip cs (cntL M p.1)).filter fun p => decide (p.1 < p.2))
    have e2 := enough_fil cs (cntL M p.1)
    rw [List.map_cons]
    unfold loopF
    cases hb : enough cs (cntL M p.1) with
    | true =>
      obtain ⟨e3', e4', ih⟩ := q_usloop h Z ps (acc ++ [p]) (some (.d (rl p))) (some (.d (cw (cntL M p.1)))) e5 e6 (fun q hq => hp q (List.mem_cons_of_mem _ hq)) (by simp only [List.length_append, List.length_cons, List.length_nil]; omega)
      refine ⟨e3', e4', ?_⟩
      rw [hb] at e2
      have h1 : acc.length ≤ 16777215 := by omega
      simp [runD_ap, startE, eVar_ap, eC_ap, eBin_ap, eChain_ap, tV_ap, tNot_ap, tAnd_ap, tOr_ap, eAnd_ap, eOr_ap, eNot_ap, eIf_ap, aNil_ap, aCons_ap, eTup_ap, eLst_ap, eLstM_ap, eRep_ap, eCall_ap, eB_ap, eIsi_ap, eMl_ap, eMs_ap, oNone_ap, oSome_ap, eSl_ap, sNil_ap, sSeq_ap, sRet_ap, sExpr_ap, sIf_ap, sSet_ap, sAsg_ap, sPar_ap, sPut_ap, iSeq_ap, iRg1_ap, iRg2_ap, fYes_ap, iZ2_ap, iZ3_ap, sRaise_ap, eNeg_ap, ofR, R.bind, toB_b, gN, gT, gsCons, gsNil, wipeE, pPlus_i, pPlus_l, pPlus_t, pPlus_s, pSub_i, pMul_i, pDiv_i, pMod_i, pPow_i, pEq_d, pNe_d, pLt_i, pLe_i, pGt_i, pGe_i, pLt_s, pLe_s, pGt_s, pGe_s, pIs_n, pIs_t, pIs_l, pIs_s, pIs_i, pIs_bn, pIs_b, pIn_s, pIn_l, pIn_t, pIx_l, pIx_t, pIx_s, qLen_s, qLen_l, qLen_t, qInt_i, qInt_b, qTup_l, qTup_t, qList_l, qList_t, qSum, qJoin, qCount, qIndex, tyW, tyD, isN, unW, unWs, noX, seqW_l, seqW_t, sizeLine_eq, L2.atI, L2.ixN, ix_rl0, ix_rl1, ix_fk0, ix_fk1, sq_cw, e1, q1, s1, sh_nil, ev_nil, e2, pCatL, h1, hb] at ih ⊢
      exact ih
    | false =>
      obtain ⟨e3', e4', ih⟩ := q_usloop h Z ps acc (some (.d (rl p))) (some (.d (cw (cntL M p.1)))) e5 e6 (fun q hq => hp q (List.mem_cons_of_mem _ hq)) (by omega)
      refine ⟨e3', e4', ?_⟩
      rw [hb] at e2
      have h1 : acc.length ≤ 16777216 := by omega
      simp [runD_ap, startE, eVar_ap, eC_ap, eBin_ap, eChain_ap, tV_ap, tNot_ap, tAnd_ap, tOr_ap, eAnd_ap, eOr_ap, eNot_ap, eIf_ap, aNil_ap, aCons_ap, eTup_ap, eLst_ap, eLstM_ap, eRep_ap, eCall_ap, eB_ap, eIsi_ap, eMl_ap, eMs_ap, oNone_ap, oSome_ap, eSl_ap, sNil_ap, sSeq_ap, sRet_ap, sExpr_ap, sIf_ap, sSet_ap, sAsg_ap, sPar_ap, sPut_ap, iSeq_ap, iRg1_ap, iRg2_ap, fYes_ap, iZ2_ap, iZ3_ap, sRaise_ap, eNeg_ap, ofR, R.bind, toB_b, gN, gT, gsCons, gsNil, wipeE, pPlus_i, pPlus_l, pPlus_t, pPlus_s, pSub_i, pMul_i, pDiv_i, pMod_i, pPow_i, pEq_d, pNe_d, pLt_i, pLe_i, pGt_i, pGe_i, pLt_s, pLe_s, pGt_s, pGe_s, pIs_n, pIs_t, pIs_l, pIs_s, pIs_i, pIs_bn, pIs_b, pIn_s, pIn_l, pIn_t, pIx_l, pIx_t, pIx_s, qLen_s, qLen_l, qLen_t, qInt_i, qInt_b, qTup_l, qTup_t, qList_l, qList_t, qSum, qJoin, qCount, qIndex, tyW, tyD, isN, unW, unWs, noX, seqW_l, seqW_t, sizeLine_eq, L2.atI, L2.ixN, ix_rl0, ix_rl1, ix_fk0, ix_fk1, sq_cw, e1, q1, s1, sh_nil, ev_nil, e2, pCatL, h1, hb] at ih ⊢
      exact ih
theorem q_usable (h : Fl m) (Z : Rs M rs) : F__law_usable [.d (fk M rs), .d (cw cs)] m = .ok (.d (.list ((usable M rs cs).map rl))) m := by
  obtain ⟨e3', e4', e⟩ := q_usloop (cs := cs) h Z rs [] none none none none (fun p hp => hp) (by simpa using Z.few)
  simp [F__law_usable, fs__law_usable, runD_ap, startE, eVar_ap, eC_ap, eBin_ap, eChain_ap, tV_ap, tNot_ap, tAnd_ap, tOr_ap, eAnd_ap, eOr_ap, eNot_ap, eIf_ap, aNil_ap, aCons_ap, eTup_ap, eLst_ap, eLstM_ap, eRep_ap, eCall_ap, eB_ap, eIsi_ap, eMl_ap, eMs_ap, oNone_ap, oSome_ap, eSl_ap, sNil_ap, sSeq_ap, sRet_ap, sExpr_ap, sIf_ap, sSet_ap, sAsg_ap, sPar_ap, sPut_ap, iSeq_ap, iRg1_ap, iRg2_ap, fYes_ap, iZ2_ap, iZ3_ap, sRaise_ap, eNeg_ap, ofR, R.bind, toB_b, gN, gT, gsCons, gsNil, wipeE, pPlus_i, pPlus_l, pPlus_t, pPlus_s, pSub_i, pMul_i, pDiv_i, pMod_i, pPow_i, pEq_d, pNe_d, pLt_i, pLe_i, pGt_i, pGe_i, pLt_s, pLe_s, pGt_s, pGe_s, pIs_n, pIs_t, pIs_l, pIs_s, pIs_i, pIs_bn, pIs_b, pIn_s, pIn_l, pIn_t, pIx_l, pIx_t, pIx_s, qLen_s, qLen_l, qLen_t, qInt_i, qInt_b, qTup_l, qTup_t, qList_l, qList_t, qSum, qJoin, qCount, qIndex, tyW, tyD, isN, unW, unWs, noX, seqW_l, seqW_t, sizeLine_eq, L2.atI, L2.ixN, ix_rl0, ix_rl1, ix_fk0, ix_fk1, sq_cw, sFor_ap, Function.comp_def, usable] at e ⊢
  simp [e, dEnd_rt h]
theorem q_behind (h : Fl m) (Z : Rs M rs) (p : Str × Str) (hp : p ∈ rs) : F__law_behind [.d (fk M rs), .d (cw cs), .d (rl p)] m = .ok (.d (cw (bh M cs p))) m := by
  have hp1 := Z.l1 p hp
  have e1 := q_counts h Z.len hp1.1 Z.sg hp1.2.1
  have e2 := q_counts h Z.len hp1.2.2.1 Z.sg hp1.2.2.2
  rw [cntL_nums] at e1 e2
  have q1 : ∀ e0 e2 e5 e6 e7, eLc [5, 6, 7] (iZ3 (aCons (eVar 1) (aCons (eVar 3) (aCons (eVar 4) aNil)))) (gT 3 (gsCons (gN 5) (gsCons (gN 6) (gsCons (gN 7) gsNil)))) fYes (eBin pPlus (eBin pSub (eVar 5) (eVar 6)) (eVar 7)) [e0, some (.d (cw cs)), e2, some (.d (cw (nums M p.1))), some (.d (cw (nums M p.2))), e5, e6, e7] m = .ok (.d (.list ((bh M cs p).map .int))) m := fun e0 e2 e5 e6 e7 => by
    rw [eLc_map (g0 := fun q : Int × Int × Int => W.d (.tuple [.int q.1, .int q.2.1, .int q.2.2])) (l := List.zip cs (List.zip (nums M p.1) (nums M p.2))) (m1 := m) (c := fun _ => true) (g := fun q => .int (q.1 - q.2.1 + q.2.2)) (by simp [runD_ap, startE, eVar_ap, eC_ap, eBin_ap, eChain_ap, tV_ap, tNot_ap, tAnd_ap, tOr_ap, eAnd_ap, eOr_ap, eNot_ap, eIf_ap, aNil_ap, aCons_ap, eTup_ap, eLst_ap, eLstM_ap, eRep_ap, eCall_ap, eB_ap, eIsi_ap, eMl_ap, eMs_ap, oNone_ap, oSome_ap, eSl_ap, sNil_ap, sSeq_ap, sRet_ap, sExpr_ap, sIf_ap, sSet_ap, sAsg_ap, sPar_ap, sPut_ap, iSeq_ap, iRg1_ap, iRg2_ap, fYes_ap, iZ2_ap, iZ3_ap, sRaise_ap, eNeg_ap, ofR, R.bind, toB_b, gN, gT, gsCons, gsNil, wipeE, pPlus_i, pPlus_l, pPlus_t, pPlus_s, pSub_i, pMul_i, pDiv_i, pMod_i, pPow_i, pEq_d, pNe_d, pLt_i, pLe_i, pGt_i, pGe_i, pLt_s, pLe_s, pGt_s, pGe_s, pIs_n, pIs_t, pIs_l, pIs_s, pIs_i, pIs_bn, pIs_b, pIn_s, pIn_l, pIn_t, pIx_l, pIx_t, pIx_s, qLen_s, qLen_l, qLen_t, qInt_i, qInt_b, qTup_l, qTup_t, qList_l, qList_t, qSum, qJoin, qCount, qIndex, tyW, tyD, isN, unW, unWs, noX, seqW_l, seqW_t, sizeLine_eq, L2.atI, L2.ixN, ix_rl0, ix_rl1, ix_fk0, ix_fk1, sq_cw, zip3_map]) (fun i hi => ⟨_, rfl, rfl, fun _ => by simp [runD_ap, startE, eVar_ap, eC_ap, eBin_ap, eChain_ap, tV_ap, tNot_ap, tAnd_ap, tOr_ap, eAnd_ap, eOr_ap, eNot_ap, eIf_ap, aNil_ap, aCons_ap, eTup_ap, eLst_ap, eLstM_ap, eRep_ap, eCall_ap, eB_ap, eIsi_ap, eMl_ap, eMs_ap, oNone_ap, oSome_ap, eSl_ap, sNil_ap, sSeq_ap, sRet_ap, sExpr_ap, sIf_ap, sSet_ap, sAsg_ap, sPar_ap, sPut_ap, iSeq_ap, iRg1_ap, iRg2_ap, fYes_ap, iZ2_ap, iZ3_ap, sRaise_ap, eNeg_ap, ofR, R.bind, toB_b, gN, gT, gsCons, gsNil, wipeE, pPlus_i, pPlus_l, pPlus_t, pPlus_s, pSub_i, pMul_i, pDiv_i, pMod_i, pPow_i, pEq_d, pNe_d, pLt_i, pLe_i, pGt_i, pGe_i, pLt_s, pLe_s, pGt_s, pGe_s, pIs_n, pIs_t, pIs_l, pIs_s, pIs_i, pIs_bn, pIs_b, pIn_s, pIn_l, pIn_t, pIx_l, pIx_t, pIx_s, qLen_s, qLen_l, qLen_t, qInt_i, qInt_b, qTup_l, qTup_t, qList_l, qList_t, qSum, qJoin, qCount, qIndex, tyW, tyD, isN, unW, unWs, noX, seqW_l, seqW_t, sizeLine_eq, L2.atI, L2.ixN]⟩) (by
      rw [sizeLine_eq, List.length_zip, List.length_zip, nums_len, nums_len, Nat.min_self]
      exact Nat.le_trans (Nat.min_le_right _ _) Z.len)]
    simp [bh, filt_true, Function.comp_def]
  simp [F__law_behind, fs__law_behind, runD_ap, startE, eVar_ap, eC_ap, eBin_ap, eChain_ap, tV_ap, tNot_ap, tAnd_ap, tOr_ap, eAnd_ap, eOr_ap, eNot_ap, eIf_ap, aNil_ap, aCons_ap, eTup_ap, eLst_ap, eLstM_ap, eRep_ap, eCall_ap, eB_ap, eIsi_ap, eMl_ap, eMs_ap, oNone_ap, oSome_ap, eSl_ap, sNil_ap, sSeq_ap, sRet_ap, sExpr_ap, sIf_ap, sSet_ap, sAsg_ap, sPar_ap, sPut_ap, iSeq_ap, iRg1_ap, iRg2_ap, fYes_ap, iZ2_ap, iZ3_ap, sRaise_ap, eNeg_ap, ofR, R.bind, toB_b, gN, gT, gsCons, gsNil, wipeE, pPlus_i, pPlus_l, pPlus_t, pPlus_s, pSub_i, pMul_i, pDiv_i, pMod_i, pPow_i, pEq_d, pNe_d, pLt_i, pLe_i, pGt_i, pGe_i, pLt_s, pLe_s, pGt_s, pGe_s, pIs_n, pIs_t, pIs_l, pIs_s, pIs_i, pIs_bn, pIs_b, pIn_s, pIn_l, pIn_t, pIx_l, pIx_t, pIx_s, qLen_s, qLen_l, qLen_t, qInt_i, qInt_b, qTup_l, qTup_t, qList_l, qList_t, qSum, qJoin, qCount, qIndex, tyW, tyD, isN, unW, unWs, noX, seqW_l, seqW_t, sizeLine_eq, L2.atI, L2.ixN, ix_rl0, ix_rl1, ix_fk0, ix_fk1, sq_cw, e1, e2, q1, cw_fold, dEnd_rt h]
theorem usable_can : (usable M rs cs).contains p = canB M rs cs p := by
  rw [Bool.eq_iff_iff, List.contains_iff_mem]
  unfold usable canB
  rw [List.mem_filter, Bool.and_eq_true, decide_eq_true_eq, cntL_nums]
theorem usable_filter : usable M rs cs = rs.filter (canB M rs cs) := by
  unfold usable
  refine List.filter_congr fun p hp => ?_
  unfold canB
  rw [cntL_nums, decide_eq_true hp, Bool.true_and]
end

set_option maxHeartbeats 1000000
open PySem Pd
/-! ### a thing is alike with itself -/
mutual
def Al : Nat → PyData → Bool
  | 0, _ => false
  | n + 1, .list ds => decide (ds.length ≤ 1000) && Als n ds
  | n + 1, .tuple ds => decide (ds.length ≤ 1000) && Als n ds
  | _ + 1, .dict _ => false
  | _ + 1, .str s => SeqAt.shaped (.str s)
  | _ + 1, _ => true
def Als : Nat → List PyData → Bool
  | _, [] => true
  | n, d :: ds => Al n d && Als n ds
end
theorem Als_mem {n : Nat} : ∀ {ds : List PyData} {d : PyData}, Als n ds = true → d ∈ ds → Al n d = true
  | x :: xs, d, h, hd => by
    unfold Als at h
    rw [Bool.and_eq_true] at h
    rcases List.mem_cons.mp hd with rfl | hd
    · exact h.1
    · exact Als_mem h.2 hd
theorem iRg1_i (j : Int) (r : FA) (e : Pd.Env) (m m1 : Sto) (e4 : r e m = .ok [.d (.int j)] m1) (hj : -(2 ^ 62) ≤ j ∧ j < 2 ^ 62) : iRg1 r e m = .ok (rng 0 j.toNat) m1 := by
  rw [iRg1_ap, e4]
  exact if_pos hj
theorem in_62 (n : Nat) (hl : n ≤ 1000) : -(2 ^ 62) ≤ (n : Int) ∧ (n : Int) < 2 ^ 62 := by omega
theorem iRg1_n (n : Nat) (hl : n ≤ 1000) (r : FA) (e : Pd.Env) (m m1 : Sto) (e4 : r e m = .ok [.d (.int n)] m1) : iRg1 r e m = .ok ((List.range n).map fun i => W.d (.int (0 + (i : Nat)))) m1 := by
  have := iRg1_i _ r e m m1 e4 (in_62 n hl)
  rw [Int.toNat_natCast] at this
  exact this
theorem iRg_len {x : PyData} {ds : List PyData} (hx : x = .list ds ∨ x = .tuple ds) (hl : ds.length ≤ 1000) (m : Sto) (e : Pd.Env) (h1 : e[1]? = some (some (W.d x))) : iRg1 (aCons (eB qLen (aCons (eVar 1) aNil)) aNil) e m = .ok ((List.range ds.length).map fun i => W.d (.int (0 + (i : Nat)))) m := by
  have e2 : qLen [.d x] m = .ok (.d (.int ds.length)) m := by rcases hx with rfl | rfl <;> rfl
  have e3 : eVar 1 e m = .ok (.d x) m := by rw [eVar_ap, h1]
  have e4 : aCons (eB qLen (aCons (eVar 1) aNil)) aNil e m = .ok [.d (.int ds.length)] m := by
    simp only [aCons_ap, eB_ap, aNil_ap, e3, R.bind, e2]
  exact iRg1_n _ hl _ e m m e4
theorem al_item {x : PyData} {ds : List PyData} (hx : x = .list ds ∨ x = .tuple ds) {i : Nat} (hi : i < ds.length) (m : Sto) : pIx (.d x) (.d (.int (0 + (i : Nat)))) m = .ok (.d ds[i]) m := by
  have g1 : ds[i]? = some ds[i] := List.getElem?_eq_getElem hi
  rw [Int.zero_add]
  rcases hx with rfl | rfl
  · rw [pIx_l, atI_nat, g1]
  · rw [pIx_t, atI_nat, g1]
theorem al_q {m : Sto} {F : List W → Sto → R W} {x : PyData} {ds : List PyData} (hx : x = .list ds ∨ x = .tuple ds) (hl : ds.length ≤ 1000) (hF : ∀ d ∈ ds, F [.d d, .d d] m = .ok (.d (.bool true)) m) (e2 e3 : Option W) :
    eLc [2] (iRg1 (aCons (eB qLen (aCons (eVar 1) aNil)) aNil)) (gN 2) (Pd.tNot (tV (eCall 2 F (aCons (eBin pIx (eVar 0) (eVar 2)) (aCons (eBin pIx (eVar 1) (eVar 2)) aNil))))) (eVar 2) [some (.d x), some (.d x), e2, e3] m = .ok (.d (.list [])) m := by
  rw [eLc_map (g0 := fun i => W.d (.int (0 + (i : Nat)))) (l := List.range ds.length) (m1 := m) (c := fun _ => false) (g := fun _ => .none) (iRg_len hx hl m _ rfl) (fun i hi => ⟨_, rfl, ?_, fun z => by cases z⟩) (by rw [sizeLine_eq, List.length_range]; omega)]
  · simp
  · have hi' : i < ds.length := List.mem_range.mp hi
    have g2 := hF ds[i] (List.getElem_mem hi')
    have g3 := al_item hx hi' m
    simp only [tNot_ap, tV_ap, eCall_ap, aCons_ap, aNil_ap, eBin_ap, eVar_ap, wipeE, gN, List.set_cons_succ, List.set_cons_zero, List.getElem?_cons_zero, List.getElem?_cons_succ, R.bind, g3, List.length_cons, List.length_nil, if_true, g2, toB_b, Bool.not_true]
theorem al_t1 {x : PyData} {ds : List PyData} (hx : x = .list ds ∨ x = .tuple ds) (e : Pd.Env) (m : Sto) (i : Nat) (h1 : e[i]? = some (some (W.d x))) : eIsi ["tuple", "list"] (eVar i) e m = .ok (.d (.bool true)) m := by
  rw [eIsi_ap, eVar_ap, h1]
  rcases hx with rfl | rfl <;> rfl
theorem al_t2 {x : PyData} (e : Pd.Env) (m : Sto) (i : Nat) (h1 : e[i]? = some (some (W.d x))) : eIsi ["list"] (eVar i) e m = .ok (.d (.bool (["list"].any (isN (tyD x))))) m := by
  rw [eIsi_ap, eVar_ap, h1]
  rfl
theorem al_t3 {x : PyData} {ds : List PyData} (hx : x = .list ds ∨ x = .tuple ds) (e : Pd.Env) (m : Sto) (i : Nat) (h1 : e[i]? = some (some (W.d x))) : eB qLen (aCons (eVar i) aNil) e m = .ok (.d (.int ds.length)) m := by
  have e2 : qLen [.d x] m = .ok (.d (.int ds.length)) m := by rcases hx with rfl | rfl <;> rfl
  have e3 : eVar i e m = .ok (.d x) m := by rw [eVar_ap, h1]
  simp only [aCons_ap, eB_ap, aNil_ap, e3, R.bind, e2]
theorem alike_seq {m : Sto} {F : List W → Sto → R W} {x : PyData} {ds : List PyData} (h : Fl m) (hx : x = .list ds ∨ x = .tuple ds) (hl : ds.length ≤ 1000) (hF : ∀ d ∈ ds, F [.d d, .d d] m = .ok (.d (.bool true)) m) :
    runD 4 (fs__law_alike F) [.d x, .d x] m = .ok (.d (.bool true)) m := by
  have q1 := al_q hx hl hF none none
  have a0 := al_t1 hx [some (.d x), some (.d x), none, none] m 0 rfl
  have a1 := al_t1 hx [some (.d x), some (.d x), none, none] m 1 rfl
  have b0 := al_t2 (x := x) [some (.d x), some (.d x), none, none] m 0 rfl
  have b1 := al_t2 (x := x) [some (.d x), some (.d x), none, none] m 1 rfl
  have c0 := al_t3 hx [some (.d x), some (.d x), none, none] m 0 rfl
  have c1 := al_t3 hx [some (.d x), some (.d x), none, none] m 1 rfl
  have n1 : ((ds.length : Int) == ds.length) = true := by rw [beq_iff_eq]
  simp only [runD_ap, startE, List.map_cons, List.map_nil, List.length_cons, List.length_nil, Nat.reduceAdd, Nat.reduceSub, List.replicate_succ, List.replicate_zero, List.cons_append, List.nil_append, fs__law_alike, sSeq_ap, sIf_ap, tV_ap, tOr_ap, tNot_ap, eBin_ap, a0, a1, b0, b1, c0, c1, q1, R.bind, toB_b, ofR, if_true, pNe_d, pEq_d, sh_bool, sh_int, ev_bool, ev_int, n1, BEq.rfl, and_self, Bool.not_true, Bool.false_eq_true, if_false, sNil_ap, sRet_ap, eLst_ap, aNil_ap, unWs, sh_nil, ev_nil, List.isEmpty_nil, Nat.zero_le, dEnd_rt h]
theorem alike_refl {m : Sto} (h : Fl m) : ∀ (n : Nat) (x : PyData), Al n x = true → FJ__law_alike n [.d x, .d x] m = .ok (.d (.bool true)) m
  | 0, x, hx => by
    unfold Al at hx
    cases hx
  | n + 1, x, hx => by
    show runD 4 (fs__law_alike (FJ__law_alike n)) [.d x, .d x] m = _
    cases x with
    | list ds =>
      unfold Al at hx
      rw [Bool.and_eq_true] at hx
      exact alike_seq h (.inl rfl) (of_decide_eq_true hx.1) fun d hd => alike_refl h n d (Als_mem hx.2 hd)
    | tuple ds =>
      unfold Al at hx
      rw [Bool.and_eq_true] at hx
      exact alike_seq h (.inr rfl) (of_decide_eq_true hx.1) fun d hd => alike_refl h n d (Als_mem hx.2 hd)
    | dict ds =>
      unfold Al at hx
      cases hx
    | str s =>
      have s1 : SeqAt.shaped (.str s) = true := by unfold Al at hx; exact hx
      simp [fs__law_alike, runD_ap, startE, eVar_ap, eC_ap, eBin_ap, eChain_ap, tV_ap, tNot_ap, tAnd_ap, tOr_ap, eAnd_ap, eOr_ap, eNot_ap, eIf_ap, aNil_ap, aCons_ap, eTup_ap, eLst_ap, eLstM_ap, eRep_ap, eCall_ap, eB_ap, eIsi_ap, eMl_ap, eMs_ap, oNone_ap, oSome_ap, eSl_ap, sNil_ap, sSeq_ap, sRet_ap, sExpr_ap, sIf_ap, sSet_ap, sAsg_ap, sPar_ap, sPut_ap, iSeq_ap, iRg1_ap, iRg2_ap, fYes_ap, iZ2_ap, iZ3_ap, sRaise_ap, eNeg_ap, ofR, R.bind, toB_b, gN, gT, gsCons, gsNil, wipeE, pPlus_i, pPlus_l, pPlus_t, pPlus_s, pSub_i, pMul_i, pDiv_i, pMod_i, pPow_i, pEq_d, pNe_d, pLt_i, pLe_i, pGt_i, pGe_i, pLt_s, pLe_s, pGt_s, pGe_s, pIs_n, pIs_t, pIs_l, pIs_s, pIs_i, pIs_bn, pIs_b, pIn_s, pIn_l, pIn_t, pIx_l, pIx_t, pIx_s, qLen_s, qLen_l, qLen_t, qInt_i, qInt_b, qTup_l, qTup_t, qList_l, qList_t, qSum, qJoin, qCount, qIndex, tyW, tyD, isN, unW, unWs, noX, seqW_l, seqW_t, sizeLine_eq, L2.atI, L2.ixN, sh_bool, ev_bool, s1, ev_str, dEnd_rt h]
    | none => simp [fs__law_alike, runD_ap, startE, eVar_ap, eC_ap, eBin_ap, eChain_ap, tV_ap, tNot_ap, tAnd_ap, tOr_ap, eAnd_ap, eOr_ap, eNot_ap, eIf_ap, aNil_ap, aCons_ap, eTup_ap, eLst_ap, eLstM_ap, eRep_ap, eCall_ap, eB_ap, eIsi_ap, eMl_ap, eMs_ap, oNone_ap, oSome_ap, eSl_ap, sNil_ap, sSeq_ap, sRet_ap, sExpr_ap, sIf_ap, sSet_ap, sAsg_ap, sPar_ap, sPut_ap, iSeq_ap, iRg1_ap, iRg2_ap, fYes_ap, iZ2_ap, iZ3_ap, sRaise_ap, eNeg_ap, ofR, R.bind, toB_b, gN, gT, gsCons, gsNil, wipeE, pPlus_i, pPlus_l, pPlus_t, pPlus_s, pSub_i, pMul_i, pDiv_i, pMod_i, pPow_i, pEq_d, pNe_d, pLt_i, pLe_i, pGt_i, pGe_i, pLt_s, pLe_s, pGt_s, pGe_s, pIs_n, pIs_t, pIs_l, pIs_s, pIs_i, pIs_bn, pIs_b, pIn_s, pIn_l, pIn_t, pIx_l, pIx_t, pIx_s, qLen_s, qLen_l, qLen_t, qInt_i, qInt_b, qTup_l, qTup_t, qList_l, qList_t, qSum, qJoin, qCount, qIndex, tyW, tyD, isN, unW, unWs, noX, seqW_l, seqW_t, sizeLine_eq, L2.atI, L2.ixN, sh_bool, ev_bool, sh_non, PyData.eqv, dEnd_rt h]
    | bool b => simp [fs__law_alike, runD_ap, startE, eVar_ap, eC_ap, eBin_ap, eChain_ap, tV_ap, tNot_ap, tAnd_ap, tOr_ap, eAnd_ap, eOr_ap, eNot_ap, eIf_ap, aNil_ap, aCons_ap, eTup_ap, eLst_ap, eLstM_ap, eRep_ap, eCall_ap, eB_ap, eIsi_ap, eMl_ap, eMs_ap, oNone_ap, oSome_ap, eSl_ap, sNil_ap, sSeq_ap, sRet_ap, sExpr_ap, sIf_ap, sSet_ap, sAsg_ap, sPar_ap, sPut_ap, iSeq_ap, iRg1_ap, iRg2_ap, fYes_ap, iZ2_ap, iZ3_ap, sRaise_ap, eNeg_ap, ofR, R.bind, toB_b, gN, gT, gsCons, gsNil, wipeE, pPlus_i, pPlus_l, pPlus_t, pPlus_s, pSub_i, pMul_i, pDiv_i, pMod_i, pPow_i, pEq_d, pNe_d, pLt_i, pLe_i, pGt_i, pGe_i, pLt_s, pLe_s, pGt_s, pGe_s, pIs_n, pIs_t, pIs_l, pIs_s, pIs_i, pIs_bn, pIs_b, pIn_s, pIn_l, pIn_t, pIx_l, pIx_t, pIx_s, qLen_s, qLen_l, qLen_t, qInt_i, qInt_b, qTup_l, qTup_t, qList_l, qList_t, qSum, qJoin, qCount, qIndex, tyW, tyD, isN, unW, unWs, noX, seqW_l, seqW_t, sizeLine_eq, L2.atI, L2.ixN, sh_bool, ev_bool, dEnd_rt h]
    | int i => simp [fs__law_alike, runD_ap, startE, eVar_ap, eC_ap, eBin_ap, eChain_ap, tV_ap, tNot_ap, tAnd_ap, tOr_ap, eAnd_ap, eOr_ap, eNot_ap, eIf_ap, aNil_ap, aCons_ap, eTup_ap, eLst_ap, eLstM_ap, eRep_ap, eCall_ap, eB_ap, eIsi_ap, eMl_ap, eMs_ap, oNone_ap, oSome_ap, eSl_ap, sNil_ap, sSeq_ap, sRet_ap, sExpr_ap, sIf_ap, sSet_ap, sAsg_ap, sPar_ap, sPut_ap, iSeq_ap, iRg1_ap, iRg2_ap, fYes_ap, iZ2_ap, iZ3_ap, sRaise_ap, eNeg_ap, ofR, R.bind, toB_b, gN, gT, gsCons, gsNil, wipeE, pPlus_i, pPlus_l, pPlus_t, pPlus_s, pSub_i, pMul_i, pDiv_i, pMod_i, pPow_i, pEq_d, pNe_d, pLt_i, pLe_i, pGt_i, pGe_i, pLt_s, pLe_s, pGt_s, pGe_s, pIs_n, pIs_t, pIs_l, pIs_s, pIs_i, pIs_bn, pIs_b, pIn_s, pIn_l, pIn_t, pIx_l, pIx_t, pIx_s, qLen_s, qLen_l, qLen_t, qInt_i, qInt_b, qTup_l, qTup_t, qList_l, qList_t, qSum, qJoin, qCount, qIndex, tyW, tyD, isN, unW, unWs, noX, seqW_l, seqW_t, sizeLine_eq, L2.atI, L2.ixN, sh_bool, ev_bool, sh_int, ev_int, dEnd_rt h]

set_option maxHeartbeats 1000000
open PySem Pd
/-! ### what the script gives -/
/-- the script's numbers, how many are read, the state, what is left of a great one -/
def rc (ns : List Int) (k : Nat) (s b : Int) : Cell := .lst [.d (.list (ns.map .int)), .d (.int k), .d (.int s), .d (.int b)]
theorem Fl_rc {ns ns' : List Int} {k k' : Nat} {s s' b b' : Int} {mt : Sto} (h : Fl (rc ns k s b :: mt)) : Fl (rc ns' k' s' b' :: mt) := h
theorem dEnd_to {m m' : Sto} {x : PyData} (h : Fl m') (hl : m'.length = m.length) : dEnd m.length (.rt (.d x) m') = .ok (.d x) m' := by
  rw [← hl]
  exact dEnd_rt h
section
variable {α : Type} (xs : List α)
theorem at_0 : L2.atI xs 0 = xs[0]? := atI_nat xs 0
theorem at_1 : L2.atI xs 1 = xs[1]? := atI_nat xs 1
theorem at_2 : L2.atI xs 2 = xs[2]? := atI_nat xs 2
theorem at_3 : L2.atI xs 3 = xs[3]? := atI_nat xs 3
end
theorem ix41 : L2.ixN 4 1 = some 1 := rfl
theorem ix42 : L2.ixN 4 2 = some 2 := rfl
theorem ix43 : L2.ixN 4 3 = some 3 := rfl
theorem md_in (i n : Int) (hn : 0 < n) : 0 ≤ i % n ∧ i % n < n := ⟨Int.emod_nonneg _ (by omega), Int.emod_lt_of_pos _ hn⟩
theorem q_taken {ns : List Int} {k : Nat} {s b : Int} {mt : Sto} (h : Fl (rc ns k s b :: mt)) (hs : 0 ≤ s ∧ s < 2147483647) (hb : 0 ≤ b) (n : Int) (hn : 0 < n ∧ n < 1073741824) :
    ∃ x k' s' b', F__law_taken [.loc 0, .d (.int n)] (rc ns k s b :: mt) = .ok (.d (.int x)) (rc ns k' s' b' :: mt) ∧ 0 ≤ x ∧ x < n ∧ 0 ≤ s' ∧ s' < 2147483647 ∧ 0 ≤ b' := by
  have hn1 := hn.1
  by_cases h1 : 0 < b
  · have e := dEnd_to (m := rc ns k s b :: mt) (x := .int (b % n)) (Fl_rc (ns' := ns) (k' := k) (s' := s) (b' := b / n) h) rfl
    refine ⟨b % n, k, s, b / n, ?_, (md_in b n hn1).1, (md_in b n hn1).2, hs.1, hs.2, Int.ediv_nonneg hb (by omega)⟩
    simp [F__law_taken, fs__law_taken, runD_ap, startE, eVar_ap, eC_ap, eBin_ap, eChain_ap, tV_ap, tNot_ap, tAnd_ap, tOr_ap, eAnd_ap, eOr_ap, eNot_ap, eIf_ap, aNil_ap, aCons_ap, eTup_ap, eLst_ap, eLstM_ap, eRep_ap, eCall_ap, eB_ap, eIsi_ap, eMl_ap, eMs_ap, oNone_ap, oSome_ap, eSl_ap, sNil_ap, sSeq_ap, sRet_ap, sExpr_ap, sIf_ap, sSet_ap, sAsg_ap, sPar_ap, sPut_ap, iSeq_ap, iRg1_ap, iRg2_ap, fYes_ap, iZ2_ap, iZ3_ap, sRaise_ap, eNeg_ap, ofR, R.bind, toB_b, gN, gT, gsCons, gsNil, wipeE, pPlus_i, pPlus_l, pPlus_t, pPlus_s, pSub_i, pMul_i, pDiv_i, pMod_i, pPow_i, pEq_d, pNe_d, pLt_i, pLe_i, pGt_i, pGe_i, pLt_s, pLe_s, pGt_s, pGe_s, pIs_n, pIs_t, pIs_l, pIs_s, pIs_i, pIs_bn, pIs_b, pIn_s, pIn_l, pIn_t, pIx_l, pIx_t, pIx_s, qLen_s, qLen_l, qLen_t, qInt_i, qInt_b, qTup_l, qTup_t, qList_l, qList_t, qSum, qJoin, qCount, qIndex, tyW, tyD, isN, unW, unWs, noX, seqW_l, seqW_t, sizeLine_eq, L2.atI, L2.ixN, pIx_loc, rc, h1, hn, stSet] at e ⊢
    exact e
  · by_cases h2 : (ns.length : Int) < k + 1
    · have e := dEnd_to (m := rc ns k s b :: mt) (x := .int (((s * 48271 + 11) % 2147483647 / 7) % n)) (Fl_rc (ns' := ns) (k' := k + 1) (s' := (s * 48271 + 11) % 2147483647) (b' := b) h) rfl
      have m1 := md_in (s * 48271 + 11) 2147483647 (by decide)
      refine ⟨_, k + 1, (s * 48271 + 11) % 2147483647, b, ?_, (md_in ((s * 48271 + 11) % 2147483647 / 7) n hn1).1, (md_in ((s * 48271 + 11) % 2147483647 / 7) n hn1).2, m1.1, m1.2, hb⟩
      simp [F__law_taken, fs__law_taken, runD_ap, startE, eVar_ap, eC_ap, eBin_ap, eChain_ap, tV_ap, tNot_ap, tAnd_ap, tOr_ap, eAnd_ap, eOr_ap, eNot_ap, eIf_ap, aNil_ap, aCons_ap, eTup_ap, eLst_ap, eLstM_ap, eRep_ap, eCall_ap, eB_ap, eIsi_ap, eMl_ap, eMs_ap, oNone_ap, oSome_ap, eSl_ap, sNil_ap, sSeq_ap, sRet_ap, sExpr_ap, sIf_ap, sSet_ap, sAsg_ap, sPar_ap, sPut_ap, iSeq_ap, iRg1_ap, iRg2_ap, fYes_ap, iZ2_ap, iZ3_ap, sRaise_ap, eNeg_ap, ofR, R.bind, toB_b, gN, gT, gsCons, gsNil, wipeE, pPlus_i, pPlus_l, pPlus_t, pPlus_s, pSub_i, pMul_i, pDiv_i, pMod_i, pPow_i, pEq_d, pNe_d, pLt_i, pLe_i, pGt_i, pGe_i, pLt_s, pLe_s, pGt_s, pGe_s, pIs_n, pIs_t, pIs_l, pIs_s, pIs_i, pIs_bn, pIs_b, pIn_s, pIn_l, pIn_t, pIx_l, pIx_t, pIx_s, qLen_s, qLen_l, qLen_t, qInt_i, qInt_b, qTup_l, qTup_t, qList_l, qList_t, qSum, qJoin, qCount, qIndex, tyW, tyD, isN, unW, unWs, noX, seqW_l, seqW_t, sizeLine_eq, L2.atI, L2.ixN, pIx_loc, rc, h1, h2, hn, stSet] at e ⊢
      exact e
    · have hk : k < ns.length := by omega
      have g1 : ns[k]? = some ns[k] := List.getElem?_eq_getElem hk
      generalize ns[k] = c at g1
      have m1 := md_in (s * 48271 + c + 11) 2147483647 (by decide)
      have m2 := md_in c n hn1
      by_cases h3 : 1000000000000000000 ≤ c
      · have e := dEnd_to (m := rc ns k s b :: mt) (x := .int (c % n)) (Fl_rc (ns' := ns) (k' := k + 1) (s' := (s * 48271 + c + 11) % 2147483647) (b' := c / n) h) rfl
        refine ⟨c % n, k + 1, (s * 48271 + c + 11) % 2147483647, c / n, ?_, m2.1, m2.2, m1.1, m1.2, Int.ediv_nonneg (by omega) (by omega)⟩
        simp [F__law_taken, fs__law_taken, runD_ap, startE, eVar_ap, eC_ap, eBin_ap, eChain_ap, tV_ap, tNot_ap, tAnd_ap, tOr_ap, eAnd_ap, eOr_ap, eNot_ap, eIf_ap, aNil_ap, aCons_ap, eTup_ap, eLst_ap, eLstM_ap, eRep_ap, eCall_ap, eB_ap, eIsi_ap, eMl_ap, eMs_ap, oNone_ap, oSome_ap, eSl_ap, sNil_ap, sSeq_ap, sRet_ap, sExpr_ap, sIf_ap, sSet_ap, sAsg_ap, sPar_ap, sPut_ap, iSeq_ap, iRg1_ap, iRg2_ap, fYes_ap, iZ2_ap, iZ3_ap, sRaise_ap, eNeg_ap, ofR, R.bind, toB_b, gN, gT, gsCons, gsNil, wipeE, pPlus_i, pPlus_l, pPlus_t, pPlus_s, pSub_i, pMul_i, pDiv_i, pMod_i, pPow_i, pEq_d, pNe_d, pLt_i, pLe_i, pGt_i, pGe_i, pLt_s, pLe_s, pGt_s, pGe_s, pIs_n, pIs_t, pIs_l, pIs_s, pIs_i, pIs_bn, pIs_b, pIn_s, pIn_l, pIn_t, pIx_l, pIx_t, pIx_s, qLen_s, qLen_l, qLen_t, qInt_i, qInt_b, qTup_l, qTup_t, qList_l, qList_t, qSum, qJoin, qCount, qIndex, tyW, tyD, isN, unW, unWs, noX, seqW_l, seqW_t, sizeLine_eq, atI_nat, atI_nat1, at_0, at_1, at_2, at_3, ix41, ix42, ix43, g1, pIx_loc, rc, h1, h2, h3, hn, stSet] at e ⊢
        exact e
      · have e := dEnd_to (m := rc ns k s b :: mt) (x := .int (c % n)) (Fl_rc (ns' := ns) (k' := k + 1) (s' := (s * 48271 + c + 11) % 2147483647) (b' := b) h) rfl
        refine ⟨c % n, k + 1, (s * 48271 + c + 11) % 2147483647, b, ?_, m2.1, m2.2, m1.1, m1.2, hb⟩
        simp [F__law_taken, fs__law_taken, runD_ap, startE, eVar_ap, eC_ap, eBin_ap, eChain_ap, tV_ap, tNot_ap, tAnd_ap, tOr_ap, eAnd_ap, eOr_ap, eNot_ap, eIf_ap, aNil_ap, aCons_ap, eTup_ap, eLst_ap, eLstM_ap, eRep_ap, eCall_ap, eB_ap, eIsi_ap, eMl_ap, eMs_ap, oNone_ap, oSome_ap, eSl_ap, sNil_ap, sSeq_ap, sRet_ap, sExpr_ap, sIf_ap, sSet_ap, sAsg_ap, sPar_ap, sPut_ap, iSeq_ap, iRg1_ap, iRg2_ap, fYes_ap, iZ2_ap, iZ3_ap, sRaise_ap, eNeg_ap, ofR, R.bind, toB_b, gN, gT, gsCons, gsNil, wipeE, pPlus_i, pPlus_l, pPlus_t, pPlus_s, pSub_i, pMul_i, pDiv_i, pMod_i, pPow_i, pEq_d, pNe_d, pLt_i, pLe_i, pGt_i, pGe_i, pLt_s, pLe_s, pGt_s, pGe_s, pIs_n, pIs_t, pIs_l, pIs_s, pIs_i, pIs_bn, pIs_b, pIn_s, pIn_l, pIn_t, pIx_l, pIx_t, pIx_s, qLen_s, qLen_l, qLen_t, qInt_i, qInt_b, qTup_l, qTup_t, qList_l, qList_t, qSum, qJoin, qCount, qIndex, tyW, tyD, isN, unW, unWs, noX, seqW_l, seqW_t, sizeLine_eq, atI_nat, atI_nat1, at_0, at_1, at_2, at_3, ix41, ix42, ix43, g1, pIx_loc, rc, h1, h2, h3, hn, stSet] at e ⊢
        exact e
/-- the store: the script's row first, then these -/
def Rw (ns : List Int) (mt m : Sto) : Prop := ∃ k s b, m = rc ns k s b :: mt ∧ (0 ≤ s ∧ s < 2147483647) ∧ 0 ≤ b
theorem Rw.fl {ns : List Int} {mt m m' : Sto} (r : Rw ns mt m) (r' : Rw ns mt m') (h : Fl m) : Fl m' := by
  obtain ⟨k, s, b, rfl, _⟩ := r
  obtain ⟨k', s', b', rfl, _⟩ := r'
  exact Fl_rc h
theorem Rw.len {ns : List Int} {mt m m' : Sto} (r : Rw ns mt m) (r' : Rw ns mt m') : m'.length = m.length := by
  obtain ⟨k, s, b, rfl, _⟩ := r
  obtain ⟨k', s', b', rfl, _⟩ := r'
  rfl
theorem g_taken {ns : List Int} {mt m : Sto} (r : Rw ns mt m) (h : Fl m) (n : Int) (hn : 0 < n ∧ n < 1073741824) : ∃ (x : Nat) (m' : Sto), F__law_taken [.loc 0, .d (.int n)] m = .ok (.d (.int x)) m' ∧ Rw ns mt m' ∧ Fl m' ∧ (x : Int) < n := by
  obtain ⟨k, s, b, rfl, hs, hb⟩ := r
  obtain ⟨x, k', s', b', e, h0, h1, h2, h3, h4⟩ := q_taken h hs hb n hn
  refine ⟨x.toNat, rc ns k' s' b' :: mt, ?_, ⟨k', s', b', rfl, ⟨h2, h3⟩, h4⟩, Fl_rc h, by omega⟩
  rw [e, Int.toNat_of_nonneg h0]
theorem g_pick {ns : List Int} {mt m : Sto} (r : Rw ns mt m) (h : Fl m) (ds : List PyData) (w : PyData) (hw : w = .list ds ∨ w = .tuple ds) (h0 : 0 < ds.length) (h1 : ds.length < 1000) : ∃ (d : PyData) (m' : Sto), F__law_pick [.loc 0, .d w] m = .ok (.d d) m' ∧ Rw ns mt m' ∧ Fl m' ∧ d ∈ ds := by
  obtain ⟨x, m', e, r', h', hx⟩ := g_taken r h ds.length (by omega)
  have hx' : x < ds.length := by omega
  have g1 : ds[x]? = some ds[x] := List.getElem?_eq_getElem hx'
  refine ⟨ds[x], m', ?_, r', h', List.getElem_mem hx'⟩
  have e2 := dEnd_to (m := m) (m' := m') (x := ds[x]) h' (r.len r')
  rcases hw with rfl | rfl
  · simp [F__law_pick, fs__law_pick, runD_ap, startE, eVar_ap, eC_ap, eBin_ap, eChain_ap, tV_ap, tNot_ap, tAnd_ap, tOr_ap, eAnd_ap, eOr_ap, eNot_ap, eIf_ap, aNil_ap, aCons_ap, eTup_ap, eLst_ap, eLstM_ap, eRep_ap, eCall_ap, eB_ap, eIsi_ap, eMl_ap, eMs_ap, oNone_ap, oSome_ap, eSl_ap, sNil_ap, sSeq_ap, sRet_ap, sExpr_ap, sIf_ap, sSet_ap, sAsg_ap, sPar_ap, sPut_ap, iSeq_ap, iRg1_ap, iRg2_ap, fYes_ap, iZ2_ap, iZ3_ap, sRaise_ap, eNeg_ap, ofR, R.bind, toB_b, gN, gT, gsCons, gsNil, wipeE, pPlus_i, pPlus_l, pPlus_t, pPlus_s, pSub_i, pMul_i, pDiv_i, pMod_i, pPow_i, pEq_d, pNe_d, pLt_i, pLe_i, pGt_i, pGe_i, pLt_s, pLe_s, pGt_s, pGe_s, pIs_n, pIs_t, pIs_l, pIs_s, pIs_i, pIs_bn, pIs_b, pIn_s, pIn_l, pIn_t, pIx_l, pIx_t, pIx_s, qLen_s, qLen_l, qLen_t, qInt_i, qInt_b, qTup_l, qTup_t, qList_l, qList_t, qSum, qJoin, qCount, qIndex, tyW, tyD, isN, unW, unWs, noX, seqW_l, seqW_t, sizeLine_eq, atI_nat, atI_nat1, e, g1, e2]
  · simp [F__law_pick, fs__law_pick, runD_ap, startE, eVar_ap, eC_ap, eBin_ap, eChain_ap, tV_ap, tNot_ap, tAnd_ap, tOr_ap, eAnd_ap, eOr_ap, eNot_ap, eIf_ap, aNil_ap, aCons_ap, eTup_ap, eLst_ap, eLstM_ap, eRep_ap, eCall_ap, eB_ap, eIsi_ap, eMl_ap, eMs_ap, oNone_ap, oSome_ap, eSl_ap, sNil_ap, sSeq_ap, sRet_ap, sExpr_ap, sIf_ap, sSet_ap, sAsg_ap, sPar_ap, sPut_ap, iSeq_ap, iRg1_ap, iRg2_ap, fYes_ap, iZ2_ap, iZ3_ap, sRaise_ap, eNeg_ap, ofR, R.bind, toB_b, gN, gT, gsCons, gsNil, wipeE, pPlus_i, pPlus_l, pPlus_t, pPlus_s, pSub_i, pMul_i, pDiv_i, pMod_i, pPow_i, pEq_d, pNe_d, pLt_i, pLe_i, pGt_i, pGe_i, pLt_s, pLe_s, pGt_s, pGe_s, pIs_n, pIs_t, pIs_l, pIs_s, pIs_i, pIs_bn, pIs_b, pIn_s, pIn_l, pIn_t, pIx_l, pIx_t, pIx_s, qLen_s, qLen_l, qLen_t, qInt_i, qInt_b, qTup_l, qTup_t, qList_l, qList_t, qSum, qJoin, qCount, qIndex, tyW, tyD, isN, unW, unWs, noX, seqW_l, seqW_t, sizeLine_eq, atI_nat, atI_nat1, e, g1, e2]
/-- two signs of M, ascending or alike -/
def TwoOf (M : Str) (t : Str) : Prop := ∃ a b, t = ⟨#[a, b]⟩ ∧ a ∈ M.cps.toList ∧ b ∈ M.cps.toList ∧ a ≤ b
theorem sLt_ch (a b : Nat) : sLt ⟨#[a]⟩ ⟨#[b]⟩ = decide (a < b) := by
  unfold sLt
  by_cases h : a < b <;> simp [List.cons_lt_cons_iff, h]
theorem sort_two (a b : Nat) : sortS [⟨#[a]⟩, ⟨#[b]⟩] = if a ≤ b then [⟨#[a]⟩, ⟨#[b]⟩] else [⟨#[b]⟩, ⟨#[a]⟩] := by
  unfold sortS
  by_cases h : a ≤ b
  · have h' : ¬ b < a := by omega
    simp [List.mergeSort, List.MergeSort.Internal.splitInTwo, List.merge, sLt_ch, h, h']
  · have h' : b < a := by omega
    simp [List.mergeSort, List.MergeSort.Internal.splitInTwo, List.merge, sLt_ch, h, h']
theorem join_two (a b : Nat) : Txt.join "" [⟨#[a]⟩, ⟨#[b]⟩] = ⟨#[a, b]⟩ := rfl
theorem g_two {ns : List Int} {mt m : Sto} (r : Rw ns mt m) (h : Fl m) (M : Str) (h0 : 0 < M.length) (h1 : M.length < 1000) : ∃ (t : Str) (m' : Sto), F__law_two [.loc 0, .d (.str M)] m = .ok (.d (.str t)) m' ∧ Rw ns mt m' ∧ Fl m' ∧ TwoOf M t := by
  have hl : (signs M).length = M.length := by simp [signs]; rfl
  have hq : ∀ m, qList [.d (.str M)] m = .ok (.d (.list (signs M))) m := fun m => qList_s M m (by rw [sizeLine_eq]; exact Nat.le_of_lt (Nat.lt_trans h1 (by decide)))
  obtain ⟨d1, m1, e1, r1, f1, i1⟩ := g_pick r h (signs M) (.list (signs M)) (.inl rfl) (by omega) (by omega)
  obtain ⟨d2, m2, e2, r2, f2, i2⟩ := g_pick r1 f1 (signs M) (.list (signs M)) (.inl rfl) (by omega) (by omega)
  obtain ⟨a, ha, rfl⟩ : ∃ c, c ∈ M.cps.toList ∧ PyData.str ⟨#[c]⟩ = d1 := by simpa [signs] using i1
  obtain ⟨b, hb, rfl⟩ : ∃ c, c ∈ M.cps.toList ∧ PyData.str ⟨#[c]⟩ = d2 := by simpa [signs] using i2
  have l2 := (r.len r1 ▸ r1.len r2 : m2.length = m.length)
  have c1 : (⟨#[a]⟩ : Str).length + (⟨#[b]⟩ : Str).length + 2 * (Str.ofString "").length ≤ 16777216 := by show 1 + 1 + 2 * 0 ≤ 16777216; decide
  have c2 : (⟨#[b]⟩ : Str).length + (⟨#[a]⟩ : Str).length + 2 * (Str.ofString "").length ≤ 16777216 := c1
  by_cases hab : a ≤ b
  · refine ⟨⟨#[a, b]⟩, m2, ?_, r2, f2, a, b, rfl, ha, hb, hab⟩
    have e3 := dEnd_to (m := m) (m' := m2) (x := .str ⟨#[a, b]⟩) f2 l2
    have s2 := sort_two a b
    rw [if_pos hab] at s2
    have j2 := join_two a b
    simp [F__law_two, fs__law_two, runD_ap, startE, eVar_ap, eC_ap, eBin_ap, eChain_ap, tV_ap, tNot_ap, tAnd_ap, tOr_ap, eAnd_ap, eOr_ap, eNot_ap, eIf_ap, aNil_ap, aCons_ap, eTup_ap, eLst_ap, eLstM_ap, eRep_ap, eCall_ap, eB_ap, eIsi_ap, eMl_ap, eMs_ap, oNone_ap, oSome_ap, eSl_ap, sNil_ap, sSeq_ap, sRet_ap, sExpr_ap, sIf_ap, sSet_ap, sAsg_ap, sPar_ap, sPut_ap, iSeq_ap, iRg1_ap, iRg2_ap, fYes_ap, iZ2_ap, iZ3_ap, sRaise_ap, eNeg_ap, ofR, R.bind, toB_b, gN, gT, gsCons, gsNil, wipeE, pPlus_i, pPlus_l, pPlus_t, pPlus_s, pSub_i, pMul_i, pDiv_i, pMod_i, pPow_i, pEq_d, pNe_d, pLt_i, pLe_i, pGt_i, pGe_i, pLt_s, pLe_s, pGt_s, pGe_s, pIs_n, pIs_t, pIs_l, pIs_s, pIs_i, pIs_bn, pIs_b, pIn_s, pIn_l, pIn_t, pIx_l, pIx_t, pIx_s, qLen_s, qLen_l, qLen_t, qInt_i, qInt_b, qTup_l, qTup_t, qList_l, qList_t, qSum, qJoin, qCount, qIndex, tyW, tyD, isN, unW, unWs, noX, seqW_l, seqW_t, sizeLine_eq, L2.atI, L2.ixN, hq, e1, e2, qSortS, unSs, unS, s2, c1, j2, e3]
  · have hba : b ≤ a := by omega
    refine ⟨⟨#[b, a]⟩, m2, ?_, r2, f2, b, a, rfl, hb, ha, hba⟩
    have e3 := dEnd_to (m := m) (m' := m2) (x := .str ⟨#[b, a]⟩) f2 l2
    have s2 := sort_two a b
    rw [if_neg hab] at s2
    have j2 := join_two b a
    simp [F__law_two, fs__law_two, runD_ap, startE, eVar_ap, eC_ap, eBin_ap, eChain_ap, tV_ap, tNot_ap, tAnd_ap, tOr_ap, eAnd_ap, eOr_ap, eNot_ap, eIf_ap, aNil_ap, aCons_ap, eTup_ap, eLst_ap, eLstM_ap, eRep_ap, eCall_ap, eB_ap, eIsi_ap, eMl_ap, eMs_ap, oNone_ap, oSome_ap, eSl_ap, sNil_ap, sSeq_ap, sRet_ap, sExpr_ap, sIf_ap, sSet_ap, sAsg_ap, sPar_ap, sPut_ap, iSeq_ap, iRg1_ap, iRg2_ap, fYes_ap, iZ2_ap, iZ3_ap, sRaise_ap, eNeg_ap, ofR, R.bind, toB_b, gN, gT, gsCons, gsNil, wipeE, pPlus_i, pPlus_l, pPlus_t, pPlus_s, pSub_i, pMul_i, pDiv_i, pMod_i, pPow_i, pEq_d, pNe_d, pLt_i, pLe_i, pGt_i, pGe_i, pLt_s, pLe_s, pGt_s, pGe_s, pIs_n, pIs_t, pIs_l, pIs_s, pIs_i, pIs_bn, pIs_b, pIn_s, pIn_l, pIn_t, pIx_l, pIx_t, pIx_s, qLen_s, qLen_l, qLen_t, qInt_i, qInt_b, qTup_l, qTup_t, qList_l, qList_t, qSum, qJoin, qCount, qIndex, tyW, tyD, isN, unW, unWs, noX, seqW_l, seqW_t, sizeLine_eq, L2.atI, L2.ixN, hq, e1, e2, qSortS, unSs, unS, s2, c2, j2, e3]
def MOODS : List Str := ["a", "ab", "ab", "abc", "abc", "bxz", "abcd", "abcd", "abcde", "cdefgh"]
theorem g_moods {ns : List Int} {mt m : Sto} (r : Rw ns mt m) (h : Fl m) : ∃ (M : Str) (m' : Sto), F__law_moods [.loc 0] m = .ok (.d (.str M)) m' ∧ Rw ns mt m' ∧ Fl m' ∧ M ∈ MOODS := by
  obtain ⟨d, m1, e1, r1, f1, i1⟩ := g_pick r h (MOODS.map .str) (.list (MOODS.map .str)) (.inl rfl) (by decide) (by decide)
  obtain ⟨M, hM, rfl⟩ := List.mem_map.mp i1
  refine ⟨M, m1, ?_, r1, f1, hM⟩
  have e3 := dEnd_to (m := m) (m' := m1) (x := .str M) f1 (r.len r1)
  simp only [MOODS, List.map_cons, List.map_nil] at e1
  simp [F__law_moods, fs__law_moods, runD_ap, startE, eVar_ap, eC_ap, eBin_ap, eChain_ap, tV_ap, tNot_ap, tAnd_ap, tOr_ap, eAnd_ap, eOr_ap, eNot_ap, eIf_ap, aNil_ap, aCons_ap, eTup_ap, eLst_ap, eLstM_ap, eRep_ap, eCall_ap, eB_ap, eIsi_ap, eMl_ap, eMs_ap, oNone_ap, oSome_ap, eSl_ap, sNil_ap, sSeq_ap, sRet_ap, sExpr_ap, sIf_ap, sSet_ap, sAsg_ap, sPar_ap, sPut_ap, iSeq_ap, iRg1_ap, iRg2_ap, fYes_ap, iZ2_ap, iZ3_ap, sRaise_ap, eNeg_ap, ofR, R.bind, toB_b, gN, gT, gsCons, gsNil, wipeE, pPlus_i, pPlus_l, pPlus_t, pPlus_s, pSub_i, pMul_i, pDiv_i, pMod_i, pPow_i, pEq_d, pNe_d, pLt_i, pLe_i, pGt_i, pGe_i, pLt_s, pLe_s, pGt_s, pGe_s, pIs_n, pIs_t, pIs_l, pIs_s, pIs_i, pIs_bn, pIs_b, pIn_s, pIn_l, pIn_t, pIx_l, pIx_t, pIx_s, qLen_s, qLen_l, qLen_t, qInt_i, qInt_b, qTup_l, qTup_t, qList_l, qList_t, qSum, qJoin, qCount, qIndex, tyW, tyD, isN, unW, unWs, noX, seqW_l, seqW_t, sizeLine_eq, L2.atI, L2.ixN, e1, e3]
set_option maxHeartbeats 1000000
open PySem Pd
section
variable {tg : FG} {tt : FT} {f : FE} {e : Pd.Env}
end
/-! ### the moods' texts -/
theorem moods_sg : ∀ M ∈ MOODS, (∀ c ∈ M.cps.toList, c < 1114112) ∧ 0 < M.length ∧ M.length ≤ 6 := by
  have key : (MOODS.all fun M => (M.cps.toList.all fun c => decide (c < 1114112)) && decide (0 < M.length) && decide (M.length ≤ 6)) = true := by decide +kernel
  intro M hM
  have h1 := List.all_eq_true.mp key M hM
  simp only [Bool.and_eq_true, List.all_eq_true, decide_eq_true_eq] at h1
  exact ⟨h1.1.1, h1.1.2, h1.2⟩
theorem sh_str {t : Str} (h : ∀ c ∈ t.cps.toList, c < 1114112) : SeqAt.shaped (.str t) = true := by
  have h1 : (t.cps.all fun c => decide (c < 1114112)) = true := by
    rw [← Array.all_toList]
    exact List.all_eq_true.mpr fun c hc => decide_eq_true (h c hc)
  show ((t.cps.all fun c => decide (c < 1114112)) && _) = true
  rw [h1]
  rfl
theorem two_sg {M t : Str} (hM : M ∈ MOODS) (h : TwoOf M t) : (∀ c ∈ t.cps.toList, c < 1114112) ∧ t.length = 2 := by
  obtain ⟨a, b, rfl, ha, hb, _⟩ := h
  refine ⟨fun c hc => ?_, rfl⟩
  have hc' : c = a ∨ c = b := by simpa using hc
  rcases hc' with rfl | rfl
  · exact (moods_sg M hM).1 _ ha
  · exact (moods_sg M hM).1 _ hb
theorem two_sh {M t : Str} (hM : M ∈ MOODS) (h : TwoOf M t) : SeqAt.shaped (.str t) = true := sh_str (two_sg hM h).1
/-- rules as the law draws them -/
structure GR (M : Str) (rs : List (Str × Str)) : Prop where
  two : ∀ p ∈ rs, TwoOf M p.1 ∧ TwoOf M p.2 ∧ p.1 ≠ p.2
  nd : rs.Nodup
theorem lay_str {t : Str} (h : SeqAt.shaped (.str t) = true) : (PyData.str t).canLay0 = true := SeqAt.canLay_of_shaped h
theorem rl_sh {p : Str × Str} (h1 : SeqAt.shaped (.str p.1) = true) (h2 : SeqAt.shaped (.str p.2) = true) : SeqAt.shaped (rl p) = true ∧ (rl p).canLay0 = true ∧ (rl p).depth = 1 := by
  have l1 := lay_str h1
  have l2 := lay_str h2
  have l3 : (rl p).canLay0 = true := by
    unfold rl PyData.canLay0 PyData.canLayAll0
    rw [l1]
    unfold PyData.canLayAll0
    rw [l2]
    rfl
  have d3 : (rl p).depth = 1 := rfl
  refine ⟨?_, l3, d3⟩
  unfold SeqAt.shaped
  rw [l3, d3]
  rfl
theorem rls_sh {rs : List (Str × Str)} (h : ∀ p ∈ rs, SeqAt.shaped (.str p.1) = true ∧ SeqAt.shaped (.str p.2) = true) : SeqAt.shaped (.list (rs.map rl)) = true := by
  have l : PyData.canLayAll0 (rs.map rl) = true := by
    induction rs with
    | nil => rfl
    | cons p rs ih =>
      rw [List.map_cons]
      unfold PyData.canLayAll0
      rw [(rl_sh (h p List.mem_cons_self).1 (h p List.mem_cons_self).2).2.1, ih fun q hq => h q (List.mem_cons_of_mem _ hq)]
      rfl
  have d : PyData.depthAll (rs.map rl) ≤ 1 := by
    induction rs with
    | nil => exact Nat.zero_le _
    | cons p rs ih =>
      have l' : PyData.canLayAll0 (rs.map rl) = true := by
        rw [List.map_cons] at l
        unfold PyData.canLayAll0 at l
        rw [Bool.and_eq_true] at l
        exact l.2
      rw [List.map_cons]
      unfold PyData.depthAll
      rw [(rl_sh (h p List.mem_cons_self).1 (h p List.mem_cons_self).2).2.2]
      exact Nat.max_le.mpr ⟨Nat.le_refl _, ih (fun q hq => h q (List.mem_cons_of_mem _ hq)) l'⟩
  have l3 : (PyData.list (rs.map rl)).canLay0 = true := l
  have d3 : (PyData.list (rs.map rl)).depth ≤ 64 := by
    unfold PyData.depth
    omega
  unfold SeqAt.shaped
  rw [l3, decide_eq_true d3]
  rfl
theorem GR.shs {M : Str} {rs : List (Str × Str)} (hM : M ∈ MOODS) (g : GR M rs) : ∀ p ∈ rs, SeqAt.shaped (.str p.1) = true ∧ SeqAt.shaped (.str p.2) = true := fun p hp => ⟨two_sh hM (g.two p hp).1, two_sh hM (g.two p hp).2.1⟩
theorem un_rl (rs : List (Str × Str)) : unWs (rs.map fun p => W.d (rl p)) = some (rs.map rl) := by
  induction rs with
  | nil => rfl
  | cons p rs ih =>
    rw [List.map_cons]
    unfold unWs
    rw [ih]
    rfl

set_option maxHeartbeats 2000000
open PySem Pd
/-! ### the drawn folk are good -/
theorem isIn_ch (c : Nat) (M : Str) : isIn ⟨#[c]⟩ M = decide (c ∈ M.cps.toList) := PySem.StrLaws.found_one M c
theorem areTwo_of {M t : Str} (h : TwoOf M t) : areTwo M (.str t) = true := by
  obtain ⟨a, b, rfl, ha, hb, hab⟩ := h
  have h1 : ¬ b < a := by omega
  show (isIn ⟨#[a]⟩ M && isIn ⟨#[b]⟩ M && !sLt ⟨#[b]⟩ ⟨#[a]⟩) = true
  rw [isIn_ch, isIn_ch, sLt_ch, decide_eq_true ha, decide_eq_true hb, decide_eq_false h1]
  rfl
theorem isRule_of {M : Str} {p : Str × Str} (h1 : TwoOf M p.1) (h2 : TwoOf M p.2) (h3 : p.1 ≠ p.2) : isRule M (rl p) = true := by
  show (areTwo M (.str p.1) && areTwo M (.str p.2) && !PyData.eqv (.str p.1) (.str p.2)) = true
  rw [areTwo_of h1, areTwo_of h2, ev_str, beq_eq_false_iff_ne.mpr h3]
  rfl
theorem pairs_rl : ∀ rs : List (Str × Str), pairsS (rs.map rl) = some rs
  | [] => rfl
  | p :: rs => by
    rw [List.map_cons]
    unfold pairsS
    rw [pairs_rl rs]
    rfl
theorem dups_nodup {α : Type} [BEq α] [LawfulBEq α] : ∀ (n : Nat) (l : List α), l.length ≤ n → l.Nodup → l.eraseDups = l
  | 0, l, h, _ => by
    have : l = [] := List.length_eq_zero_iff.mp (by omega)
    rw [this]
    rfl
  | n + 1, [], _, _ => rfl
  | n + 1, a :: l, h, hd => by
    rw [List.eraseDups_cons]
    have hn := List.nodup_cons.mp hd
    have e : l.filter (fun b => !b == a) = l := List.filter_eq_self.mpr fun b hb => by
      have : b ≠ a := fun z => hn.1 (z ▸ hb)
      simp [this]
    rw [e, dups_nodup n l (by simpa using h) hn.2]
theorem moods_ok : ∀ M ∈ MOODS, areMoods (.str M) = true := by
  have key : (MOODS.all fun M => areMoods (.str M)) = true := by decide +kernel
  exact fun M hM => List.all_eq_true.mp key M hM
section
variable {M : Str} {rs : List (Str × Str)}
theorem fk_good (hM : M ∈ MOODS) (g : GR M rs) (hl : rs.length ≤ 12) : isFolk (fk M rs) = true := by
  have h1 : ((rs.map rl).all (isRule M)) = true := by
    rw [List.all_map]
    exact List.all_eq_true.mpr fun p hp => isRule_of (g.two p hp).1 (g.two p hp).2.1 (g.two p hp).2.2
  have h2 : unlike (rs.map rl) = true := by
    unfold unlike
    rw [pairs_rl]
    exact decide_eq_true (by rw [dups_nodup _ rs (Nat.le_refl _) g.nd])
  show (areMoods (.str M) && (decide ((rs.map rl).length ≤ 12) && (rs.map rl).all (isRule M) && unlike (rs.map rl))) = true
  rw [moods_ok M hM, h1, h2, List.length_map, decide_eq_true (by omega : rs.length ≤ 12)]
  rfl
theorem txt_ok {t : Str} (h1 : t.length ≤ 16777216) (h2 : SeqAt.shaped (.str t) = true) : TxT (.str t) = true := by
  unfold TxT
  rw [h2, sizeLine_eq, decide_eq_true h1]
  rfl
theorem txs_rl (h : ∀ p ∈ rs, TxT (.str p.1) = true ∧ TxT (.str p.2) = true) : TxTs (rs.map rl) = true := by
  induction rs with
  | nil => rfl
  | cons p rs ih =>
    rw [List.map_cons]
    have hp := h p List.mem_cons_self
    have e : TxT (rl p) = true := by
      show TxTs [.str p.1, .str p.2] = true
      unfold TxTs
      rw [hp.1]
      unfold TxTs
      rw [hp.2]
      rfl
    unfold TxTs
    rw [e, ih fun q hq => h q (List.mem_cons_of_mem _ hq)]
    rfl
theorem fk_gd (hM : M ∈ MOODS) (g : GR M rs) (hl : rs.length ≤ 12) : Gd M rs := by
  have b0 := moods_sg M hM
  have sm : SeqAt.shaped (.str M) = true := sh_str b0.1
  have st := g.shs hM
  refine ⟨⟨by omega, fun p hp => (rl_sh (st p hp).1 (st p hp).2).1, rls_sh st⟩, ?_, fk_good hM g hl⟩
  have e2 := txs_rl (rs := rs) fun p hp => ⟨txt_ok (by have := (two_sg hM (g.two p hp).1).2; omega) (st p hp).1, txt_ok (by have := (two_sg hM (g.two p hp).2.1).2; omega) (st p hp).2⟩
  show TxTs [.str M, .tuple (rs.map rl)] = true
  unfold TxTs
  rw [txt_ok (by omega) sm]
  unfold TxTs
  rw [show TxT (.tuple (rs.map rl)) = true from e2]
  rfl
theorem sg_of {t : Str} (h : ∀ c ∈ t.cps.toList, c < 1114112) : Sg t := fun c hc => sh_str fun x hx => by
  have : x = c := by simpa using hx
  rw [this]; exact h c hc
theorem fk_rs (hM : M ∈ MOODS) (g : GR M rs) (hl : rs.length ≤ 12) : Rs M rs := by
  have b0 := moods_sg M hM
  have st := g.shs hM
  refine ⟨by omega, sg_of b0.1, fun p hp => ?_, by omega, fun p hp => (rl_sh (st p hp).1 (st p hp).2).1⟩
  have h1 := two_sg hM (g.two p hp).1
  have h2 := two_sg hM (g.two p hp).2.1
  exact ⟨by omega, sg_of h1.1, by omega, sg_of h2.1⟩
theorem fk_us (hM : M ∈ MOODS) (g : GR M rs) (cs : List Int) : Shp (.list ((usable M rs cs).map rl)) := rls_sh fun p hp => g.shs hM p (List.mem_filter.mp hp).1
/-! ### crowds stay small -/
structure Bd (M : Str) (k : Int) (cs : List Int) : Prop where
  len : cs.length = M.length
  bd : ∀ i ∈ cs, 0 ≤ i ∧ i ≤ k
theorem nums_bd {t : Str} : ∀ i ∈ nums M t, 0 ≤ i ∧ i ≤ t.length := by
  rw [← cntL_nums]
  intro i hi
  obtain ⟨c, hc, rfl⟩ := List.mem_map.mp hi
  have h1 : (t.cps.toList.filter fun s => decide (s = c)).length ≤ t.cps.toList.length := List.length_filter_le _ _
  have h2 : t.cps.toList.length = t.length := by simp; rfl
  omega
theorem Bd.mono {k k' : Int} {cs : List Int} (b : Bd M k cs) (h : k ≤ k') : Bd M k' cs := ⟨b.len, fun i hi => ⟨(b.bd i hi).1, Int.le_trans (b.bd i hi).2 h⟩⟩
theorem Bd.cd {k : Int} {cs : List Int} (b : Bd M k cs) (h : k ≤ 1000) : Cd M cs := by
  show (decide ((cs.map PyData.int).length = M.length) && (cs.map PyData.int).all isMany) = true
  rw [List.length_map, decide_eq_true b.len, List.all_map]
  refine List.all_eq_true.mpr fun i hi => ?_
  have := b.bd i hi
  show (decide (0 ≤ i) && decide (i ≤ TOP)) = true
  rw [decide_eq_true this.1, decide_eq_true (by show i ≤ 10000000000000000000000000000000000000000; omega)]
  rfl
theorem Bd.small {k : Int} {cs : List Int} (b : Bd M k cs) (h : k ≤ 1000) : KK.small cs = true := by
  unfold KK.small
  rw [Bool.not_eq_true', List.any_eq_false]
  intro i hi
  have := b.bd i hi
  simp only [decide_eq_true_eq]
  show ¬ (10000000000000000000000000000000000000000 : Int) < i
  omega
theorem Bd.step {k : Int} {cs : List Int} (b : Bd M k cs) {p : Str × Str} (hu : canB M rs cs p = true) (h2 : p.2.length ≤ 2) : Bd M (k + 2) (bh M cs p) := by
  have hn : ∀ t, (nums M t).length = M.length := fun t => nums_len
  refine ⟨by simp [bh, b.len, hn], fun i hi => ?_⟩
  obtain ⟨q, hq, rfl⟩ := List.mem_map.mp hi
  obtain ⟨j, hj, rfl⟩ := List.mem_iff_getElem.mp hq
  have hj' : j < M.length := by
    simp only [List.length_zip, b.len, hn] at hj
    omega
  have c1 : j < cs.length := by rw [b.len]; exact hj'
  have c2 : j < (nums M p.1).length := by rw [hn]; exact hj'
  have c3 : j < (nums M p.2).length := by rw [hn]; exact hj'
  simp only [List.getElem_zip]
  have b1 := b.bd cs[j] (List.getElem_mem c1)
  have b2 := nums_bd (M := M) (t := p.1) (nums M p.1)[j] (List.getElem_mem c2)
  have b3 := nums_bd (M := M) (t := p.2) (nums M p.2)[j] (List.getElem_mem c3)
  have en : enough cs (nums M p.1) = true := by
    unfold canB at hu
    rw [Bool.and_eq_true] at hu
    exact hu.2
  unfold enough at en
  have c4 : j < (List.zip cs (nums M p.1)).length := by rw [List.length_zip, b.len, hn]; omega
  have h3 := List.all_eq_true.mp en _ (List.getElem_mem c4)
  simp only [List.getElem_zip, decide_eq_true_eq] at h3
  omega
theorem Bd.row {k : Int} : ∀ (ps : List (Str × Str)) (cs : List Int), Bd M k cs → (∀ p ∈ ps, p.2.length ≤ 2) → ∀ c, rowB M rs cs ps = some c → Bd M (k + 2 * ps.length) c
  | [], cs, b, _, c, h => by
    cases h
    exact b.mono (by simp)
  | p :: ps, cs, b, hp, c, h => by
    unfold rowB at h
    cases hb : canB M rs cs p with
    | false => rw [hb] at h; cases h
    | true =>
      rw [hb] at h
      have := Bd.row (k := k + 2) ps (bh M cs p) (b.step hb (hp p List.mem_cons_self)) (fun q hq => hp q (List.mem_cons_of_mem _ hq)) c h
      refine this.mono ?_
      rw [List.length_cons]
      omega
end

set_option maxHeartbeats 1000000
open PySem Pd
/-! ### draws, as walks -/
section
variable {ns : List Int} {mt m : Sto} {Q : W → Sto → Prop} {E : Exn → Sto → Prop}
theorem k_taken (r : Rw ns mt m) (h : Fl m) (n : Nat) (hn : 0 < n ∧ n < 1073741824) (q : ∀ (x : Nat) m', Rw ns mt m' → Fl m' → x < n → Q (.d (.int x)) m') : wR (F__law_taken [.loc 0, .d (.int n)] m) Q E := by
  obtain ⟨x, m', e, r', h', hx⟩ := g_taken r h n (by omega)
  exact wR_ok e (q x m' r' h' (by omega))
theorem k_pick (r : Rw ns mt m) (h : Fl m) (ds : List PyData) {w : PyData} (hw : w = .list ds ∨ w = .tuple ds) (h0 : 0 < ds.length) (h1 : ds.length < 1000) (q : ∀ d m', Rw ns mt m' → Fl m' → d ∈ ds → Q (.d d) m') : wR (F__law_pick [.loc 0, .d w] m) Q E := by
  obtain ⟨x, m', e, r', h', hx⟩ := g_pick r h ds w hw h0 h1
  exact wR_ok e (q x m' r' h' hx)
theorem k_two (r : Rw ns mt m) (h : Fl m) (M : Str) (h0 : 0 < M.length) (h1 : M.length < 1000) (q : ∀ t m', Rw ns mt m' → Fl m' → TwoOf M t → Q (.d (.str t)) m') : wR (F__law_two [.loc 0, .d (.str M)] m) Q E := by
  obtain ⟨t, m', e, r', h', hx⟩ := g_two r h M h0 h1
  exact wR_ok e (q t m' r' h' hx)
theorem k_moods (r : Rw ns mt m) (h : Fl m) (q : ∀ M m', Rw ns mt m' → Fl m' → M ∈ MOODS → Q (.d (.str M)) m') : wR (F__law_moods [.loc 0] m) Q E := by
  obtain ⟨t, m', e, r', h', hx⟩ := g_moods r h
  exact wR_ok e (q t m' r' h' hx)
end
/-- where a mood stands -/
def ixM (M : Str) (c : Nat) : Nat := match Builtin.Str.occurrences M ⟨#[c]⟩ 0 M.length 1 with
  | i :: _ => i
  | [] => 0
theorem ixM_at : ∀ M ∈ MOODS, ∀ c ∈ M.cps.toList, M.cps.toList[ixM M c]? = some c ∧ Builtin.Str.occurrences M ⟨#[c]⟩ 0 M.length 1 ≠ [] ∧ ixM M c < M.length := by
  have key : (MOODS.all fun M => M.cps.toList.all fun c => decide (M.cps.toList[ixM M c]? = some c) && !(Builtin.Str.occurrences M ⟨#[c]⟩ 0 M.length 1).isEmpty && decide (ixM M c < M.length)) = true := by decide +kernel
  intro M hM c hc
  have h1 := List.all_eq_true.mp (List.all_eq_true.mp key M hM) c hc
  simp only [Bool.and_eq_true, decide_eq_true_eq, Bool.not_eq_true'] at h1
  exact ⟨h1.1.1, fun z => by rw [z] at h1; exact absurd h1.1.2 (by decide), h1.2⟩
theorem occ_ix {M : Str} (hM : M ∈ MOODS) {c : Nat} (hc : c ∈ M.cps.toList) : ∃ l, Builtin.Str.occurrences M ⟨#[c]⟩ 0 M.length 1 = ixM M c :: l := by
  have h := (ixM_at M hM c hc).2.1
  unfold ixM
  cases e : Builtin.Str.occurrences M ⟨#[c]⟩ 0 M.length 1 with
  | nil => exact absurd e h
  | cons i l => exact ⟨l, rfl⟩
/-- the weight of a text -/
def wgt (M : Str) (ws : List Int) (t : Str) : Int := (t.cps.toList.map fun c => ws.getD (ixM M c) 0).sum
theorem q_weight {m : Sto} (h : Fl m) {M : Str} (hM : M ∈ MOODS) (ws : List Int) (hw : ws.length = M.length) {t : Str} (ht : ∀ c ∈ t.cps.toList, c ∈ M.cps.toList) (hl : t.length ≤ 16777216) {w : PyData} (e : w = .list (ws.map .int) ∨ w = .tuple (ws.map .int)) :
    F__law_weight [.d (.str M), .d w, .d (.str t)] m = .ok (.d (.int (wgt M ws t))) m := by
  refine wR_eq (wF rfl ?_)
  subst_eqs
  refine we_map t.cps.toList (fun c => W.d (.str ⟨#[c]⟩)) (fun c => .int (ws.getD (ixM M c) 0)) (m1 := m) ?_ (fun c hc => ⟨_, rfl, ?_⟩) hl ?_
  · subst_eqs
    exact ⟨signs_items t, rfl⟩
  · obtain ⟨l, ho⟩ := occ_ix hM (ht c hc)
    have hi := (ixM_at M hM c (ht c hc)).2.2
    have g : L2.atI (ws.map PyData.int) (ixM M c : Int) = some (.int (ws.getD (ixM M c) 0)) := by
      rw [atI_nat, List.getElem?_map, List.getD_eq_getElem?_getD, List.getElem?_eq_getElem (by omega)]
      rfl
    rcases e with rfl | rfl
    · subst_eqs
      refine wq_index ho (wp_ix_l g ?_)
      exact ⟨rfl, rfl⟩
    · subst_eqs
      refine wq_index ho (wp_ix_t g ?_)
      exact ⟨rfl, rfl⟩
  · subst_eqs
    refine wq_sum (l := t.cps.toList.map fun c => ws.getD (ixM M c) 0) (by rw [← unIs_map (t.cps.toList.map fun c => ws.getD (ixM M c) 0), List.map_map]; rfl) ?_
    exact we_end_d (.of h) ⟨rfl, by rw [List.take_length]⟩

set_option maxHeartbeats 2000000
open PySem Pd
/-- the store with the rules found so far -/
def lR (rs : List (Str × Str)) : Cell := .lst (rs.map fun p => W.d (rl p))
theorem low_lR (rs : List (Str × Str)) (n : Nat) : Cell.low n (lR rs) = true := by
  show (rs.map fun p => W.d (rl p)).all (W.low n) = true
  rw [List.all_map]
  exact List.all_eq_true.mpr fun _ _ => rfl
theorem Rw.snoc {ns : List Int} {mt m : Sto} {c : Cell} (r : Rw ns mt m) : Rw ns (mt ++ [c]) (m ++ [c]) := by
  obtain ⟨k, s, b, rfl, h⟩ := r
  exact ⟨k, s, b, rfl, h⟩
theorem Rw.length {ns : List Int} {mt m : Sto} (r : Rw ns mt m) : m.length = mt.length + 1 := by
  obtain ⟨k, s, b, rfl, h⟩ := r
  rfl
theorem Rw.getL {ns : List Int} {mt m : Sto} {c : Cell} (r : Rw ns (mt ++ [c]) m) : m[mt.length + 1]? = some c := by
  obtain ⟨k, s, b, rfl, h⟩ := r
  rw [List.getElem?_cons_succ]
  simp
theorem Rw.setL {ns : List Int} {mt m : Sto} {c d : Cell} (r : Rw ns (mt ++ [c]) m) : Rw ns (mt ++ [d]) (m.set (mt.length + 1) d) := by
  obtain ⟨k, s, b, rfl, h⟩ := r
  refine ⟨k, s, b, ?_, h⟩
  rw [List.set_cons_succ]
  simp
/-- the last thing cut off -/
theorem Rw.cut {ns : List Int} {mt m : Sto} {c : Cell} (r : Rw ns (mt ++ [c]) m) (h : Fl (rc ns 0 0 0 :: mt)) : Rw ns mt (m.take (mt.length + 1)) ∧ Fl2 (mt.length + 1) m ∧ Fl (m.take (mt.length + 1)) := by
  obtain ⟨k, s, b, rfl, h'⟩ := r
  have e : (rc ns k s b :: (mt ++ [c])).take (mt.length + 1) = rc ns k s b :: mt := by rw [List.take_succ_cons, List.take_left]
  refine ⟨⟨k, s, b, e, h'⟩, ?_, ?_⟩
  · have h2 : Fl (rc ns k s b :: mt) := Fl_rc h
    show ((rc ns k s b :: (mt ++ [c])).take (mt.length + 1)).all (Cell.low (mt.length + 1)) = true
    rw [e]
    exact h2
  · rw [e]
    exact Fl_rc h
theorem Rw.fl0 {ns : List Int} {mt m : Sto} (r : Rw ns mt m) (h : Fl m) : Fl (rc ns 0 0 0 :: mt) := by
  obtain ⟨k, s, b, rfl, h'⟩ := r
  exact Fl_rc h
/-! ### the folk that the law draws -/
structure InvF (ns : List Int) (mt : Sto) (M : Str) (ws : List Int) (way most : Int) (k : Nat) (e : Pd.Env) (m : Sto) : Prop where
  ex : ∃ w2 w7 w8 w9 w10 rs, e = [some (.loc 0), some (.d (.int most)), w2, some (.d (.str M)), some (.loc (mt.length + 1)), some (.d (.list (ws.map .int))), some (.d (.int way)), w7, w8, w9, w10] ∧ Rw ns (mt ++ [lR rs]) m ∧ Fl m ∧ GR M rs ∧ rs.length ≤ k
theorem two_mem {M t : Str} (h : TwoOf M t) : ∀ c ∈ t.cps.toList, c ∈ M.cps.toList := by
  obtain ⟨a, b, rfl, ha, hb, _⟩ := h
  intro c hc
  have hc' : c = a ∨ c = b := by simpa using hc
  rcases hc' with rfl | rfl
  · exact ha
  · exact hb
theorem f_tail {ns : List Int} {mt : Sto} {M : Str} (hM : M ∈ MOODS) {ws : List Int} (hw : ws.length = M.length) {way most : Int} {w2 w7 w10 : Option W} {rs : List (Str × Str)} {m : Sto} (r : Rw ns (mt ++ [lR rs]) m) (h : Fl m) (g : GR M rs) {k : Nat} (hk : rs.length ≤ k) (hk8 : k < 1000) {t u : Str} (ht : TwoOf M t) (hu : TwoOf M u) {P : SP} :
    wS (bs__law_folk_4 [some (.loc 0), some (.d (.int most)), w2, some (.d (.str M)), some (.loc (mt.length + 1)), some (.d (.list (ws.map .int))), some (.d (.int way)), w7, some (.d (.str t)), some (.d (.str u)), w10] m) (InvF ns mt M ws way most (k + 1)) P := by
  have st := two_sh hM ht
  have su := two_sh hM hu
  have wt := q_weight h hM ws hw (two_mem ht) (by rw [(two_sg hM ht).2]; decide) (.inl rfl)
  have wu := q_weight h hM ws hw (two_mem hu) (by rw [(two_sg hM hu).2]; decide) (.inl rfl)
  have hg := r.getL
  have stay : ∀ w7, InvF ns mt M ws way most (k + 1) [some (.loc 0), some (.d (.int most)), w2, some (.d (.str M)), some (.loc (mt.length + 1)), some (.d (.list (ws.map .int))), some (.d (.int way)), w7, some (.d (.str t)), some (.d (.str u)), w10] m := fun w7 =>
    ⟨⟨w2, w7, _, _, w10, rs, rfl, r, h, g, by omega⟩⟩
  have tail : ∀ b : Bool, wS (bs__law_folk_3 [some (.loc 0), some (.d (.int most)), w2, some (.d (.str M)), some (.loc (mt.length + 1)), some (.d (.list (ws.map .int))), some (.d (.int way)), some (.d (.bool b)), some (.d (.str t)), some (.d (.str u)), w10] m) (InvF ns mt M ws way most (k + 1)) P := fun b => by
    subst_eqs
    refine wp_ne ⟨st, su⟩ ?_
    subst_eqs
    refine ⟨fun hne => ?_, fun _ => ?_⟩
    · subst_eqs
      refine wp_in_c hg (un_rl rs) ⟨(rl_sh (p := (t, u)) st su).1, rls_sh (g.shs hM)⟩ ?_
      subst_eqs
      refine ⟨fun hin => ?_, fun _ => ?_⟩
      · subst_eqs
        refine ⟨fun hb => ?_, fun _ => ?_⟩
        · subst_eqs
          refine ⟨_, _, rfl, hg, ?_⟩
          subst_eqs
          refine wq_app hg (by rw [List.length_map]; omega) ?_
          have hin2 : ((rs.map rl).any (fun z => PyData.eqv z (rl (t, u))) == false) = true := hin
          rw [List.any_map, any_rl] at hin2
          have hin' : (t, u) ∉ rs := by simpa using hin2
          have htu : t ≠ u := by simpa [ev_str] using hne
          refine ⟨⟨w2, _, _, _, w10, rs ++ [(t, u)], rfl, ?_, h.set ?_, ⟨fun p hp => ?_, ?_⟩, by simp; omega⟩⟩
          · have := r.setL (d := lR (rs ++ [(t, u)]))
            have e : Cell.lst (rs.map (fun p => W.d (rl p)) ++ [W.d (.tuple [.str t, .str u])]) = lR (rs ++ [(t, u)]) := by unfold lR; rw [List.map_append]; rfl
            rw [e]
            exact this
          · have := low_lR (rs ++ [(t, u)]) m.length
            have e : Cell.lst (rs.map (fun p => W.d (rl p)) ++ [W.d (.tuple [.str t, .str u])]) = lR (rs ++ [(t, u)]) := by unfold lR; rw [List.map_append]; rfl
            rw [e]
            exact this
          · rcases List.mem_append.mp hp with z | z
            · exact g.two p z
            · have : p = (t, u) := by simpa using z
              subst this
              exact ⟨ht, hu, htu⟩
          · rw [List.nodup_append]
            exact ⟨g.nd, by simp, fun a ha b hb z => by
              have : b = (t, u) := by simpa using hb
              rw [z, this] at ha
              exact hin' ha⟩
        · subst_eqs
          exact stay _
      · subst_eqs
        exact stay _
    · subst_eqs
      exact stay _
  refine ws_seq (ws_set (we_or ?_))
  injections
  refine ⟨fun _ => ?_, fun _ => ?_⟩
  · exact tail true
  · injections
    exact tail _
theorem f_turn {ns : List Int} {mt : Sto} {M : Str} (hM : M ∈ MOODS) {ws : List Int} (hw : ws.length = M.length) {way most : Int} {k : Nat} (hk : k < 1000) {e : Pd.Env} {m : Sto} (i : InvF ns mt M ws way most k e m) (w : W) {P : SP} : wS (bs__law_folk_6 (e.set 2 (some w)) m) (InvF ns mt M ws way most (k + 1)) P := by
  obtain ⟨w2, w7, w8, w9, w10, rs, rfl, r, h, g, hl⟩ := i
  have b0 := (moods_sg M hM).2
  refine ws_seq (ws_par ?_)
  injections
  refine k_two r h M b0.1 (by omega) fun t m1 r1 h1 ht => ?_
  injections
  refine k_two r1 h1 M b0.1 (by omega) fun u m2 r2 h2 hu => ?_
  injections
  have wt := q_weight h2 hM ws hw (two_mem ht) (by rw [(two_sg hM ht).2]; decide) (.inl rfl)
  have wu := q_weight h2 hM ws hw (two_mem hu) (by rw [(two_sg hM hu).2]; decide) (.inl rfl)
  refine ws_seq (ws_if (wt_and ?_))
  injections
  refine ⟨fun _ => ?_, fun _ => ?_⟩
  · injections
    refine ⟨fun _ => ?_, fun _ => ?_⟩
    · refine ws_par ?_
      injections
      exact f_tail hM hw r2 h2 g hl hk hu ht
    · injections
      exact f_tail hM hw r2 h2 g hl hk ht hu
  · injections
    exact f_tail hM hw r2 h2 g hl hk ht hu
theorem k_folk {ns : List Int} {mt m : Sto} {Q : W → Sto → Prop} {E : Exn → Sto → Prop} (r : Rw ns mt m) (h : Fl m) (most : Nat) (hmost : most < 900) (q : ∀ M rs m', Rw ns mt m' → Fl m' → M ∈ MOODS → GR M rs → rs.length ≤ most → Q (.d (fk M rs)) m') : wR (F__law_folk [.loc 0, .d (.int most)] m) Q E := by
  refine wF r.length ?_
  subst_eqs
  refine k_moods r h fun M m1 r1 h1 hM => ?_
  injections
  have b0 := (moods_sg M hM).2
  rw [r1.length]
  refine ws_seq (ws_par (wa_cons ?_))
  refine we_lc_inv (items := (signs M).map W.d) (fun k acc m => ∃ ws : List Int, acc = ws.map .int ∧ Rw ns (mt ++ [lR []]) m ∧ Fl m) (m1 := m1 ++ [lR []]) ?_ ⟨[], rfl, r1.snoc, h1.nil1⟩ ?_ ?_ ?_
  · subst_eqs
    rfl
  · have : M.cps.size = M.length := rfl
    simp [signs]
    omega
  · rintro k w acc m' hk hl ⟨ws, rfl, r', h'⟩
    refine ⟨_, rfl, ?_⟩
    subst_eqs
    refine k_taken r' h' 6 (by decide) fun x m2 r2 h2 hx => ?_
    exact ⟨_, rfl, ws ++ [(x : Int)], by simp, r2, h2⟩
  rintro ds m2 hl ⟨ws, rfl, r2, h2⟩
  have hw : ws.length = M.length := by
    have : M.cps.size = M.length := rfl
    rw [← this]
    simpa [signs] using hl
  subst_eqs
  refine k_taken r2 h2 4 (by decide) fun way m3 r3 h3 hway => ?_
  subst_eqs
  refine k_taken r3 h3 (most + 1) (by omega) fun n m4 r4 h4 hn => ?_
  subst_eqs
  refine ⟨by omega, ?_⟩
  rw [show ((n : Int)).toNat = n by omega]
  refine ws_loop (InvF ns mt M ws way most) ⟨⟨none, none, none, none, none, [], rfl, r4, h4, ⟨fun p hp => (by cases hp), List.nodup_nil⟩, Nat.le_refl _⟩⟩ (fun k w e m hk i => ⟨_, rfl, ?_⟩) fun e m i => ?_
  · have : k < n := by
      have := (List.getElem?_eq_some_iff.mp hk).1
      simpa [rng] using this
    exact f_turn hM hw (by omega) i w
  · obtain ⟨w2, w7, w8, w9, w10, rs, rfl, r5, h5, g, hl⟩ := i
    subst_eqs
    refine wq_tup_c r5.getL (un_rl rs) ?_
    subst_eqs
    obtain ⟨c1, c2, c3⟩ := r5.cut (r.fl0 h)
    refine we_end_d c2 (q M rs _ c1 c3 hM g ?_)
    have : (rng 0 n).length = n := by simp [rng]
    omega

set_option maxHeartbeats 2000000
open PySem Pd
/-! ### texts out of signs; the drawn crowd -/
theorem join_ch : ∀ l : List Nat, (Txt.join "" (l.map fun c => (⟨#[c]⟩ : Str))).cps.toList = l := by
  intro l
  rw [show Txt.join "" (l.map fun c => (⟨#[c]⟩ : Str)) = Str.join "" (l.map fun c => (⟨#[c]⟩ : Str)) from PySem.StrLaws.glued_eq_join _ _]
  induction l with
  | nil => rfl
  | cons a l ih =>
    cases l with
    | nil => rfl
    | cons b l =>
      show (Str.join "" (⟨#[a]⟩ :: (b :: l).map fun c => (⟨#[c]⟩ : Str))).cps.toList = _
      have e : Str.join "" (⟨#[a]⟩ :: (b :: l).map fun c => (⟨#[c]⟩ : Str)) = (⟨#[a]⟩ : Str) ++ "" ++ Str.join "" ((b :: l).map fun c => (⟨#[c]⟩ : Str)) := rfl
      rw [e]
      show ((#[a] ++ (Str.ofString "").cps) ++ (Str.join "" ((b :: l).map fun c => (⟨#[c]⟩ : Str))).cps).toList = _
      rw [Array.toList_append, ih]
      rfl
theorem unS_ch : ∀ l : List Nat, unSs (l.map fun c => PyData.str ⟨#[c]⟩) = some (l.map fun c => (⟨#[c]⟩ : Str))
  | [] => rfl
  | c :: l => by
    rw [List.map_cons]
    unfold unSs unS
    rw [unS_ch l]
    rfl
theorem sum_ch : ∀ l : List Nat, ((l.map fun c => (⟨#[c]⟩ : Str)).map (·.length)).sum = l.length
  | [] => rfl
  | c :: l => by
    rw [List.map_cons, List.map_cons, List.sum_cons, sum_ch l, List.length_cons, Nat.add_comm]
    rfl
/-- a text of these signs -/
def tx (l : List Nat) : Str := ⟨⟨l⟩⟩
theorem tx_join (l : List Nat) : Txt.join "" (l.map fun c => (⟨#[c]⟩ : Str)) = tx l := by
  have h := join_ch l
  generalize Txt.join "" (l.map fun c => (⟨#[c]⟩ : Str)) = t at h
  obtain ⟨⟨t⟩⟩ := t
  have h : t = l := h
  rw [h]; rfl
theorem tx_len (l : List Nat) : (tx l).length = l.length := rfl
theorem moods_sh {M : Str} (hM : M ∈ MOODS) {c : Nat} (hc : c ∈ M.cps.toList) : Shp (.str ⟨#[c]⟩) := sh_str (fun x hx => by
  have : x = c := by simpa using hx
  rw [this]; exact (moods_sg M hM).1 c hc)
theorem q_cnt {m : Sto} (h : Fl m) {M : Str} (hM : M ∈ MOODS) {t : Str} (ht : ∀ c ∈ t.cps.toList, c ∈ M.cps.toList) (hl : t.length ≤ 16777216) : F__law_counts [.d (.str M), .d (.str t)] m = .ok (.d (cw (cntL M t))) m :=
  q_counts h (by have := (moods_sg M hM).2; omega) hl (fun c hc => moods_sh hM hc) fun c hc => moods_sh hM (ht c hc)
theorem k_crowd {ns : List Int} {mt m : Sto} {Q : W → Sto → Prop} {E : Exn → Sto → Prop} (r : Rw ns mt m) (h : Fl m) {M : Str} (hM : M ∈ MOODS) (rs : List (Str × Str)) (most : Nat) (hmost : most < 900)
    (q : ∀ l m', Rw ns mt m' → Fl m' → (∀ c ∈ l, c ∈ M.cps.toList) → l.length ≤ most → Q (.d (cw (cntL M (tx l)))) m') : wR (F__law_crowd [.loc 0, .d (fk M rs), .d (.int most)] m) Q E := by
  have b0 := (moods_sg M hM).2
  refine wF r.length ?_
  subst_eqs
  refine wp_ix_t (show L2.atI [PyData.str M, .tuple (rs.map rl)] 0 = some (.str M) from rfl) ?_
  subst_eqs
  refine we_lcI ?_
  subst_eqs
  refine k_taken r h (most + 1) (by omega) fun n m1 r1 h1 hn => ?_
  subst_eqs
  refine ⟨by omega, ?_⟩
  have ln : (rng 0 (n : Int).toNat).length = n := by simp [rng]
  refine wl_inv (fun k acc m => ∃ l : List Nat, acc = l.map (fun c => PyData.str ⟨#[c]⟩) ∧ (∀ c ∈ l, c ∈ M.cps.toList) ∧ Rw ns mt m ∧ Fl m) ⟨[], rfl, fun c h => (by cases h), r1, h1⟩ (by omega) ?_ ?_
  · rintro k w acc m' hk hl ⟨l, rfl, hml, r', h'⟩
    refine ⟨_, rfl, ?_⟩
    subst_eqs
    refine wp_ix_t (show L2.atI [PyData.str M, .tuple (rs.map rl)] 0 = some (.str M) from rfl) ?_
    subst_eqs
    refine wq_list_s (by omega) ?_
    subst_eqs
    have ls : (signs M).length = M.length := by simp [signs]; rfl
    refine k_pick r' h' (signs M) (.inl rfl) (by omega) (by omega) fun d m2 r2 h2 hd => ?_
    obtain ⟨c, hc, rfl⟩ : ∃ c, c ∈ M.cps.toList ∧ PyData.str ⟨#[c]⟩ = d := by simpa [signs] using hd
    exact ⟨_, rfl, l ++ [c], by simp, fun x hx => by
      rcases List.mem_append.mp hx with z | z
      · exact hml x z
      · rw [List.mem_singleton.mp z]; exact hc, r2, h2⟩
  · rintro ds m2 hl ⟨l, rfl, hml, r2, h2⟩
    have ll : l.length = n := by rw [← ln, ← hl, List.length_map]
    refine wq_join (l := l.map fun c => (⟨#[c]⟩ : Str)) (unS_ch l) (by rw [sum_ch]; show l.length + _ * 0 ≤ _; omega) ?_
    subst_eqs
    rw [tx_join]
    refine wR_ok (q_cnt h2 hM hml (by rw [tx_len]; omega)) ?_
    refine we_end_d ?_ ?_
    · have := Fl2.of h2
      rw [r2.length] at this
      exact this
    · have e2 : m2.take (mt.length + 1) = m2 := by rw [← r2.length, List.take_length]
      rw [e2]
      exact q l m2 r2 h2 hml (by omega)

set_option maxHeartbeats 1000000
open PySem Pd
theorem rng_map (n : Nat) : rng 0 n = (List.range n).map fun i => W.d (.int (i : Nat)) := by
  unfold rng
  exact List.map_congr_left fun i _ => by rw [Int.zero_add]
theorem rng_at {n k : Nat} {w : W} (h : (rng 0 n)[k]? = some w) : k < n ∧ w = .d (.int (k : Nat)) := by
  rw [rng_map, List.getElem?_map] at h
  obtain ⟨a, ha, rfl⟩ := Option.map_eq_some_iff.mp h
  obtain ⟨h1, h2⟩ := List.getElem?_eq_some_iff.mp ha
  rw [List.getElem_range] at h2
  subst h2
  exact ⟨by simpa using h1, rfl⟩
theorem rng_len (n : Nat) : (rng 0 n).length = n := by simp [rng]
theorem moods_nodup : ∀ M ∈ MOODS, M.cps.toList.Nodup := by
  have key : (MOODS.all fun M => decide M.cps.toList.Nodup) = true := by decide +kernel
  exact fun M hM => of_decide_eq_true (List.all_eq_true.mp key M hM)

set_option maxHeartbeats 2000000
open PySem Pd
/-! ### so many times more -/
theorem set_ne {m : Sto} {i j : Nat} {c : Cell} (h : i ≠ j) : (m.set i c)[j]? = m[j]? := by simp [h]
section
variable {m : Sto}
theorem zip2_ii : ∀ c l : List Int, zip2 (c.map PyData.int) (l.map PyData.int) = (List.zip c l).map fun q => W.d (.tuple [.int q.1, .int q.2])
  | [], _ => rfl
  | _ :: _, [] => rfl
  | x :: c, y :: l => by
    have := zip2_ii c l
    unfold zip2 at this ⊢
    simp only [List.map_cons, List.zip_cons_cons, List.zipWith_cons_cons]
    rw [this]
def plusL (k : Int) (c l : List Int) : List Int := (List.zip c l).map fun q => q.1 + k * q.2
theorem plusL_len {k : Int} {a l : List Int} (h : a.length = l.length) : (plusL k a l).length = a.length := by unfold plusL; rw [List.length_map, List.length_zip, h, Nat.min_self]
theorem q_moreW (h : Fl m) (k : Int) (c : List Int) {l : List Int} {w : W} (hw : w = .d (cw l) ∨ w = .d (.list (l.map .int))) (hb : ∀ x ∈ l, -100 < x ∧ x < 100) (hl : l.length ≤ 1000) : F_with_more [.d (cw c), w, .d (.int k)] m = .ok (.d (cw (plusL k c l))) m := by
  refine wR_eq (wF rfl ?_)
  subst_eqs
  refine we_map0 (List.zip c l) (fun q => W.d (.tuple [.int q.1, .int q.2])) (fun q => .int (q.1 + k * q.2)) ?_ (fun q hq => ⟨_, rfl, ?_⟩) (by rw [List.length_zip]; omega) ?_
  · rcases hw with rfl | rfl
    · injections
      exact ⟨zip2_ii c l, rfl⟩
    · injections
      exact ⟨zip2_ii c l, rfl⟩
  · have := hb _ (List.of_mem_zip hq).2
    injections
    refine wp_mul (.inr ⟨by omega, by omega⟩) ?_
    injections
    rfl
  · injections
    refine we_end_d (.of h) ⟨?_, by rw [List.take_length]⟩
    unfold plusL cw
    rw [List.map_map]
    rfl
theorem q_moreL (h : Fl m) (k : Int) (c : List Int) {l : List Int} (hb : ∀ x ∈ l, -100 < x ∧ x < 100) (hl : l.length ≤ 1000) : F_with_more [.d (cw c), .d (cw l), .d (.int k)] m = .ok (.d (cw (plusL k c l))) m := q_moreW h k c (.inl rfl) hb hl
end

set_option maxHeartbeats 2000000
open PySem Pd
/-! ### the desk: its methods -/
section
variable {m : Sto} {M : Str} {rs : List (Str × Str)} {c c' : List Int} {j k : Nat} {ws : List W}
abbrev dkFs (M : Str) (rs : List (Str × Str)) (c : List Int) (k : Nat) : List (Str × W) := [("folk", .d (fk M rs)), ("here", .d (cw c)), ("done", .loc k)]
def dkC (M : Str) (rs : List (Str × Str)) (c : List Int) (k : Nat) : Cell := .ins "Desk" (dkFs M rs c k)
theorem low_dk {n : Nat} (h : k < n) : Cell.low n (dkC M rs c k) = true := by
  show ((true && (true && (decide (k < n) && true))) = true)
  rw [decide_eq_true h]
  rfl
theorem dk_folk : (dkFs M rs c k).lookup ("folk" : Str) = some (.d (fk M rs)) := by rfl
theorem dk_here : (dkFs M rs c k).lookup ("here" : Str) = some (.d (cw c)) := by rfl
theorem dk_done : (dkFs M rs c k).lookup ("done" : Str) = some (.loc k) := by rfl
theorem dk_put : putFW "here" (.d (cw c')) (dkFs M rs c k) = dkFs M rs c' k := by rfl
theorem q_dkCrowd (h : Fl m) (hj : m[j]? = some (dkC M rs c k)) : F_Desk_crowd [.loc j] m = .ok (.d (cw c)) m := by
  refine wR_eq (wF rfl ?_)
  refine ws_ret (we_fld ?_)
  injections
  refine ⟨j, _, _, rfl, hj, dk_here, ?_⟩
  exact we_end_d (.of h) ⟨rfl, by rw [List.take_length]⟩
theorem q_dkRest (h : Fl m) (G : Gd M rs) (hc : Cd M c) (hz : rs.length ≤ 16777216) (hj : m[j]? = some (dkC M rs c k)) : F_Desk_is_at_rest [.loc j] m = .ok (.d (.bool (decide ((rs.filter (canB M rs c)).length = 0)))) m := by
  have e1 := r_meetings h G hc hz
  refine wR_eq (wF rfl ?_)
  refine ws_ret (we_bin (we_B (wa_cons (we_call (wa_cons (we_fld ?_))))))
  injections
  refine ⟨j, _, _, rfl, hj, dk_folk, wa_cons (we_fld ?_)⟩
  injections
  refine ⟨j, _, _, rfl, hj, dk_here, ?_⟩
  injections
  rw [List.length_map]
  refine we_end_d (.of h) ⟨?_, by rw [List.take_length]⟩
  have : decide (((rs.filter (canB M rs c)).length : Int) = 0) = decide ((rs.filter (canB M rs c)).length = 0) := decide_eq_decide.mpr (by omega)
  rw [this]
/-- what a turn leaves -/
def turnS (m : Sto) (M : Str) (rs : List (Str × Str)) (j k : Nat) (ws : List W) (deed : PyData) (c c' : List Int) : Sto := (m.set k (.lst (ws ++ [.d (.tuple [deed, cw c])]))).set j (dkC M rs c' k)
theorem turn_fl (h : Fl m) (hj : m[j]? = some (dkC M rs c k)) (hk : m[k]? = some (.lst ws)) {deed : PyData} : Fl (turnS m M rs j k ws deed c c') := by
  have lk : k < m.length := (List.getElem?_eq_some_iff.mp hk).1
  have w0 : Cell.low m.length (.lst ws) = true := by
    have h' : m.all (Cell.low m.length) = true := h
    exact List.all_eq_true.mp h' _ (List.mem_of_getElem? hk)
  have w1 : Cell.low m.length (.lst (ws ++ [.d (.tuple [deed, cw c])])) = true := by
    show (ws ++ [W.d (.tuple [deed, cw c])]).all (W.low m.length) = true
    rw [List.all_append]
    rw [show ws.all (W.low m.length) = true from w0]
    rfl
  have f1 : Fl (m.set k (.lst (ws ++ [.d (.tuple [deed, cw c])]))) := h.set w1
  exact f1.set (by rw [List.length_set]; exact low_dk lk)
theorem q_dkTurn (h : Fl m) (hj : m[j]? = some (dkC M rs c k)) (hk : m[k]? = some (.lst ws)) (hl : ws.length < 1000) (deed : PyData) : F_Desk__turn [.loc j, .d deed, .d (cw c')] m = .ok (.d .none) (turnS m M rs j k ws deed c c') := by
  have lj : j < m.length := (List.getElem?_eq_some_iff.mp hj).1
  have ne : k ≠ j := fun e => by subst e; rw [hj] at hk; cases hk
  suffices hh : wR (F_Desk__turn [.loc j, .d deed, .d (cw c')] m) (fun w m' => w = .d .none ∧ m' = turnS m M rs j k ws deed c c') NoE by
    obtain ⟨a, m', e, rfl, rfl⟩ := wR_get hh
    exact e
  refine wF rfl ?_
  refine ws_seq (ws_expr (we_ml (we_fld ?_)))
  injections
  refine ⟨j, _, _, rfl, hj, dk_done, k, ws, rfl, hk, wa_cons (we_tup (wa_cons ?_))⟩
  injections
  refine we_fld ?_
  injections
  refine ⟨j, _, _, rfl, hj, dk_here, ?_⟩
  injections
  refine wq_app hk (by omega) ?_
  refine ws_fldS ?_
  injections
  refine ⟨j, _, rfl, (by rw [set_ne ne]; exact hj), (by show (3 : Nat) < 1000; decide), ?_⟩
  rw [dk_put]
  refine we_end_n ?_ ⟨rfl, ?_⟩
  · have := turn_fl (c' := c') (deed := deed) h hj hk
    have e : (turnS m M rs j k ws deed c c').length = m.length := by unfold turnS; rw [List.length_set, List.length_set]
    have z := Fl2.of this
    rw [e] at z
    exact z
  · have e : ((m.set k (.lst (ws ++ [.d (.tuple [deed, cw c])]))).set j (dkC M rs c' k)).length = m.length := by rw [List.length_set, List.length_set]
    show ((m.set k (.lst (ws ++ [.d (.tuple [deed, cw c])]))).set j (dkC M rs c' k)).take m.length = _
    rw [← e, List.take_length]
    rfl
theorem turn_len {deed : PyData} : (turnS m M rs j k ws deed c c').length = m.length := by unfold turnS; rw [List.length_set, List.length_set]
theorem turn_end (h : Fl m) (hj : m[j]? = some (dkC M rs c k)) (hk : m[k]? = some (.lst ws)) {deed : PyData} {e : Pd.Env} : wR (dEnd m.length (.nx e (turnS m M rs j k ws deed c c'))) (fun w m' => w = .d .none ∧ m' = turnS m M rs j k ws deed c c') NoE := by
  have z := Fl2.of (turn_fl (c' := c') (deed := deed) h hj hk)
  rw [turn_len] at z
  refine we_end_n z ⟨rfl, ?_⟩
  rw [← turn_len (M := M) (rs := rs) (j := j) (k := k) (ws := ws) (deed := deed) (c := c) (c' := c'), List.take_length]
theorem q_dkMeet (h : Fl m) (G : Gd M rs) (hc : Cd M c) (p : Str × Str) (hp : p ∈ rs) (hu : canB M rs c p = true) (hs : small (bh M c p) = true) (hj : m[j]? = some (dkC M rs c k)) (hk : m[k]? = some (.lst ws)) (hl : ws.length < 1000) :
    F_Desk_meet [.loc j, .d (rl p)] m = .ok (.d .none) (turnS m M rs j k ws (.tuple [.str "meet", rl p]) c (bh M c p)) := by
  have e1 := r_met h G hc p hp hu hs
  have e2 := q_dkTurn (c' := bh M c p) h hj hk hl (.tuple [.str "meet", rl p])
  suffices hh : wR (F_Desk_meet [.loc j, .d (rl p)] m) (fun w m' => w = .d .none ∧ m' = turnS m M rs j k ws (.tuple [.str "meet", rl p]) c (bh M c p)) NoE by
    obtain ⟨a, m', e, rfl, rfl⟩ := wR_get hh
    exact e
  refine wF rfl ?_
  refine ws_seq (ws_set (we_call (wa_cons (we_fld ?_))))
  injections
  refine ⟨j, _, _, rfl, hj, dk_folk, wa_cons (we_fld ?_)⟩
  injections
  refine ⟨j, _, _, rfl, hj, dk_here, ?_⟩
  injections
  refine ws_expr (we_meth ?_)
  injections
  refine ⟨j, _, rfl, hj, by rfl, ?_⟩
  injections
  exact turn_end h hj hk
theorem q_dkJoin (h : Fl m) (hM : M.length ≤ 16777216) (hj : m[j]? = some (dkC M rs c k)) (hk : m[k]? = some (.lst ws)) (hl : ws.length < 1000) {d : List Int} (hd : Cd M d) (hb : ∀ x ∈ d, -100 < x ∧ x < 100) (dl : d.length ≤ 1000) (hr : small (plusL 1 c d) = true) :
    F_Desk_join [.loc j, .d (cw d)] m = .ok (.d .none) (turnS m M rs j k ws (.tuple [.str "join", cw d]) c (plusL 1 c d)) := by
  have e1 : F_demand_crowd [.d (fk M rs), .d (cw d)] m = if isCrowd M.length (cw d) then .ok (.d .none) m else .exc (.p "BadCrowd") m := r_dcrowd h M (.tuple (rs.map rl)) (cw d) hM
  rw [if_pos (show isCrowd M.length (cw d) = true from hd)] at e1
  have e2 := q_moreL h 1 c hb dl
  have e3 := r_room h (plusL 1 c d)
  unfold small at hr
  rw [Bool.not_eq_true'] at hr
  rw [hr, if_neg (by decide)] at e3
  have e4 := q_dkTurn (c' := plusL 1 c d) h hj hk hl (.tuple [.str "join", cw d])
  suffices hh : wR (F_Desk_join [.loc j, .d (cw d)] m) (fun w m' => w = .d .none ∧ m' = turnS m M rs j k ws (.tuple [.str "join", cw d]) c (plusL 1 c d)) NoE by
    obtain ⟨a, m', e, rfl, rfl⟩ := wR_get hh
    exact e
  refine wF rfl ?_
  refine ws_seq (ws_expr (we_call (wa_cons (we_fld ?_))))
  injections
  refine ⟨j, _, _, rfl, hj, dk_folk, ?_⟩
  injections
  refine ws_seq (ws_set (we_call (wa_cons (we_fld ?_))))
  injections
  refine ⟨j, _, _, rfl, hj, dk_here, ?_⟩
  injections
  refine ws_seq (ws_expr ?_)
  injections
  refine ws_expr (we_meth ?_)
  injections
  refine ⟨j, _, rfl, hj, by rfl, ?_⟩
  injections
  exact turn_end h hj hk
theorem wFK {N : Nat} {fs : FS} {us : List W} {Q : W → Sto → Prop} (h : wS (fs (startE N us) m) (fun _ m' => Q (.d .none) m') ⟨fun w m' => Q w m', fun _ _ => False, fun _ _ _ => False, fun _ _ => False, fun _ _ => False⟩) : wR (runK N fs us m) Q NoE := by
  unfold runK
  cases e : fs (startE N us) m with
  | nx e' m' => rw [e] at h; with_unfolding_all exact h
  | rt w m' => rw [e] at h; with_unfolding_all exact h
  | rtt w m' => rw [e] at h; with_unfolding_all exact h
  | exc x e' m' => rw [e] at h; with_unfolding_all exact h
  | bk e' m' => rw [e] at h; with_unfolding_all exact h
  | ct e' m' => rw [e] at h; with_unfolding_all exact h
  | bad => rw [e] at h; with_unfolding_all exact h
/-- a desk made -/
def deskS (m : Sto) (M : Str) (rs : List (Str × Str)) (c : List Int) : Sto := m ++ [dkC M rs c (m.length + 1), .lst []]
theorem q_dkMake (h : Fl m) (G : Gd M rs) (hc : Cd M c) : F_Desk___init__ [.loc m.length, .d (fk M rs), .d (cw c)] (m ++ [.ins "Desk" []]) = .ok (.d .none) (deskS m M rs c) := by
  have h' : Fl (m ++ [Cell.ins "Desk" []]) := h.snoc rfl
  have e1 := r_dfolk h' (fk M rs) G.tx
  rw [G.good, if_pos rfl] at e1
  have e2 : F_demand_crowd [.d (fk M rs), .d (cw c)] (m ++ [Cell.ins "Desk" []]) = if isCrowd M.length (cw c) then .ok (.d .none) (m ++ [Cell.ins "Desk" []]) else .exc (.p "BadCrowd") (m ++ [Cell.ins "Desk" []]) := r_dcrowd h' M (.tuple (rs.map rl)) (cw c) G.ok.len
  rw [if_pos (show isCrowd M.length (cw c) = true from hc)] at e2
  suffices hh : wR (F_Desk___init__ [.loc m.length, .d (fk M rs), .d (cw c)] (m ++ [.ins "Desk" []])) (fun w m' => w = .d .none ∧ m' = deskS m M rs c) NoE by
    obtain ⟨a, m', e, rfl, rfl⟩ := wR_get hh
    exact e
  refine wFK ?_
  refine ws_seq (ws_expr ?_)
  injections
  refine ws_seq (ws_expr ?_)
  injections
  refine ws_seq (ws_fldS ?_)
  injections
  refine ⟨m.length, _, rfl, sget1, (by show (0 : Nat) < 1000; decide), ?_⟩
  rw [sset1]
  refine ws_seq (ws_fldS ?_)
  injections
  refine ⟨m.length, _, rfl, sget1, (by show (1 : Nat) < 1000; decide), ?_⟩
  rw [sset1]
  refine ws_fldS ?_
  injections
  refine ⟨m.length, _, rfl, sget2 sget1, (by show (2 : Nat) < 1000; decide), rfl, ?_⟩
  rw [sset2 sget1, sset1, List.length_append]
  unfold deskS
  rw [List.append_assoc]
  rfl
end

set_option maxHeartbeats 2000000
open PySem Pd
/-! ### the desk: one goes, what was done is taken back, what was done -/
section
variable {m : Sto} {M : Str} {rs : List (Str × Str)} {c c' : List Int} {j k : Nat} {ws : List W} {a : Nat}
theorem isIn_chP (c : Nat) (M : Str) : Pd.isIn ⟨#[c]⟩ M = decide (c ∈ M.cps.toList) := PySem.StrLaws.found_one M c
theorem q_dmood (h : Fl m) (ha : a ∈ M.cps.toList) : F_demand_mood [.d (fk M rs), .d (.str ⟨#[a]⟩)] m = .ok (.d .none) m := by
  have e1 : F_is_mood [.d (.str M), .d (.str ⟨#[a]⟩)] m = .ok (.d (.bool true)) m := by
    refine wR_eq (wF rfl ?_)
    refine ws_ret (we_and ?_)
    injections
    refine wq_len_s (by show 1 ≤ 16777216; decide) ?_
    injections
    refine ⟨fun _ => ?_, fun z => (by cases z)⟩
    injections
    rw [isIn_chP, decide_eq_true ha]
    exact we_end_d (.of h) ⟨rfl, by rw [List.take_length]⟩
  refine wR_eq (wF rfl ?_)
  refine ws_if (wt_not (wt_v ?_))
  injections
  refine wp_ix_t (show L2.atI [PyData.str M, .tuple (rs.map rl)] 0 = some (.str M) from rfl) ?_
  injections
  exact we_end_n (.of h) ⟨rfl, by rw [List.take_length]⟩
def oneAt (M : Str) (a : Nat) : List Int := M.cps.toList.map fun x => if x = a then 1 else 0
theorem foldl_min_nn : ∀ (l : List Int) (x : Int), 0 ≤ x → (∀ y ∈ l, 0 ≤ y) → 0 ≤ l.foldl min x
  | [], x, h, _ => h
  | y :: l, x, h, h2 => by
    rw [List.foldl_cons]
    exact foldl_min_nn l _ (by have := h2 y List.mem_cons_self; omega) fun z hz => h2 z (List.mem_cons_of_mem _ hz)
theorem ev_ch (a b : Nat) : PyData.eqv (.str ⟨#[a]⟩) (.str ⟨#[b]⟩) = decide (a = b) := by rw [ev_str, eq_ch]
theorem q_dkLeave (h : Fl m) (hM : M ∈ MOODS) (ha : a ∈ M.cps.toList) (hj : m[j]? = some (dkC M rs c k)) (hk : m[k]? = some (.lst ws)) (hl : ws.length < 1000) (hc : c.length = M.length) (hn : ∀ x ∈ plusL (-1) c (oneAt M a), 0 ≤ x) :
    F_Desk_leave [.loc j, .d (.str ⟨#[a]⟩)] m = .ok (.d .none) (turnS m M rs j k ws (.tuple [.str "leave", .str ⟨#[a]⟩]) c (plusL (-1) c (oneAt M a))) := by
  have b0 := (moods_sg M hM).2
  have el : M.cps.toList.length = M.length := Array.length_toList
  have ol : (oneAt M a).length = M.length := by unfold oneAt; rw [List.length_map, el]
  have e1 := q_dmood (rs := rs) h ha
  have e2 := q_moreW h (-1) c (l := oneAt M a) (.inr rfl) (fun x hx => by
    unfold oneAt at hx
    obtain ⟨y, _, rfl⟩ := List.mem_map.mp hx
    split <;> omega) (by omega)
  have e3 := q_dkTurn (c' := plusL (-1) c (oneAt M a)) h hj hk hl (.tuple [.str "leave", .str ⟨#[a]⟩])
  suffices hh : wR (F_Desk_leave [.loc j, .d (.str ⟨#[a]⟩)] m) (fun w m' => w = .d .none ∧ m' = turnS m M rs j k ws (.tuple [.str "leave", .str ⟨#[a]⟩]) c (plusL (-1) c (oneAt M a))) NoE by
    obtain ⟨a, m', e, rfl, rfl⟩ := wR_get hh
    exact e
  refine wF rfl ?_
  refine ws_seq (ws_expr (we_call (wa_cons (we_fld ?_))))
  injections
  refine ⟨j, _, _, rfl, hj, dk_folk, ?_⟩
  injections
  refine ws_seq (ws_set ?_)
  refine we_map0 M.cps.toList (fun x => W.d (.str ⟨#[x]⟩)) (fun x => .int (if x = a then 1 else 0)) ?_ (fun x hx => ⟨_, rfl, ?_⟩) (by omega) ?_
  · refine wi_seq (we_bin (we_fld ?_))
    injections
    refine ⟨j, _, _, rfl, hj, dk_folk, ?_⟩
    injections
    refine wp_ix_t (show L2.atI [PyData.str M, .tuple (rs.map rl)] 0 = some (.str M) from rfl) ?_
    injections
    exact ⟨signs_items M, rfl⟩
  · refine we_if (wt_v ?_)
    injections
    refine wp_eq ⟨moods_sh hM hx, moods_sh hM ha⟩ ?_
    rw [ev_ch]
    refine ⟨_, rfl, fun z => ?_, fun z => ?_⟩
    · rw [if_pos (of_decide_eq_true z)]
      injections
      first | exact ⟨rfl, rfl⟩ | rfl
    · rw [if_neg (of_decide_eq_false z)]
      injections
      first | exact ⟨rfl, rfl⟩ | rfl
  have eo : (M.cps.toList.map fun x => PyData.int (if x = a then 1 else 0)) = (oneAt M a).map .int := by unfold oneAt; rw [List.map_map]; rfl
  rw [eo]
  refine ws_seq (ws_set (we_call (wa_cons (we_fld ?_))))
  injections
  refine ⟨j, _, _, rfl, hj, dk_here, ?_⟩
  injections
  have pl : (plusL (-1) c (oneAt M a)).length = M.length := by rw [plusL_len (by rw [hc, ol]), hc]
  obtain ⟨x, l, ex⟩ : ∃ x l, plusL (-1) c (oneAt M a) = x :: l := by
    cases e : plusL (-1) c (oneAt M a) with
    | nil => rw [e] at pl; simp at pl; omega
    | cons x l => exact ⟨x, l, rfl⟩
  refine ws_seq (ws_if (wt_v (we_bin (we_B ?_))))
  injections
  refine wq_min_t (i := x) (is := l) (by rw [ex]; exact unIs_map (x :: l)) ?_
  injections
  have := foldl_min_nn l x (hn x (by rw [ex]; exact List.mem_cons_self)) (fun y hy => hn y (by rw [ex]; exact List.mem_cons_of_mem _ hy))
  rw [decide_eq_false (by omega)]
  refine ⟨fun z => (by cases z), fun _ => ws_nil ?_⟩
  refine ws_expr (we_meth ?_)
  injections
  refine ⟨j, _, rfl, hj, by rfl, ?_⟩
  injections
  exact turn_end h hj hk
/-- what is left where the last deed is taken back -/
def backS (m : Sto) (M : Str) (rs : List (Str × Str)) (j k : Nat) (ws : List W) (c : List Int) : Sto := (m.set k (.lst ws)).set j (dkC M rs c k)
theorem back_fl (h : Fl m) (hj : m[j]? = some (dkC M rs c k)) {d : PyData} (hk : m[k]? = some (.lst (ws ++ [.d d]))) : Fl (backS m M rs j k ws c') := by
  have lk : k < m.length := (List.getElem?_eq_some_iff.mp hk).1
  have w0 : Cell.low m.length (.lst (ws ++ [.d d])) = true := by
    have h' : m.all (Cell.low m.length) = true := h
    exact List.all_eq_true.mp h' _ (List.mem_of_getElem? hk)
  have w1 : Cell.low m.length (.lst ws) = true := by
    have : (ws ++ [W.d d]).all (W.low m.length) = true := w0
    rw [List.all_append, Bool.and_eq_true] at this
    exact this.1
  have f1 : Fl (m.set k (.lst ws)) := h.set w1
  exact f1.set (by rw [List.length_set]; exact low_dk lk)
theorem back_len : (backS m M rs j k ws c').length = m.length := by unfold backS; rw [List.length_set, List.length_set]
theorem q_dkUndo (h : Fl m) (hj : m[j]? = some (dkC M rs c k)) {deed : PyData} (hk : m[k]? = some (.lst (ws ++ [.d (.tuple [deed, cw c'])]))) : F_Desk_undo [.loc j] m = .ok (.d .none) (backS m M rs j k ws c') := by
  have ne : k ≠ j := fun e => by subst e; rw [hj] at hk; cases hk
  suffices hh : wR (F_Desk_undo [.loc j] m) (fun w m' => w = .d .none ∧ m' = backS m M rs j k ws c') NoE by
    obtain ⟨a, m', e, rfl, rfl⟩ := wR_get hh
    exact e
  refine wF rfl ?_
  refine ws_seq (ws_if (wt_not (wt_tru (we_fld ?_))))
  injections
  refine ⟨j, _, _, rfl, hj, dk_done, true, ?_, ?_⟩
  · unfold truW
    simp only [hk]
    simp
  refine ⟨fun z => (by cases z), fun _ => ws_nil ?_⟩
  refine ws_unpF (we_ml0 (we_fld ?_))
  injections
  refine ⟨j, _, _, rfl, hj, dk_done, k, rfl, ?_⟩
  refine wq_pop hk ?_
  refine ⟨deed, cw c', j, _, rfl, rfl, (by rw [set_ne ne]; exact hj), (by show (3 : Nat) < 1000; decide), ?_⟩
  rw [dk_put]
  have z := Fl2.of (back_fl (c' := c') h hj hk)
  rw [back_len] at z
  refine we_end_n z ⟨rfl, ?_⟩
  show (backS m M rs j k ws c').take m.length = _
  rw [← back_len (M := M) (rs := rs) (j := j) (k := k) (ws := ws) (c' := c'), List.take_length]
/-- what was done -/
abbrev pastW (ds : List (PyData × List Int)) : List W := ds.map fun q => W.d (.tuple [q.1, cw q.2])
theorem q_dkRow (h : Fl m) (hj : m[j]? = some (dkC M rs c k)) {ds : List (PyData × List Int)} (hk : m[k]? = some (.lst (pastW ds))) (hl : ds.length ≤ 1000) : F_Desk_row [.loc j] m = .ok (.d (.tuple (ds.map (·.1)))) m := by
  refine wR_eq (wF rfl ?_)
  refine ws_ret (we_B (wa_cons ?_))
  refine we_lcG (m1 := m) ds (fun q => W.d (.tuple [q.1, cw q.2])) (fun _ => true) (fun q => q.1) ?_ (fun q hq => ⟨_, rfl, ?_⟩) (by omega) ?_
  · refine wi_cell (we_fld ?_)
    injections
    exact ⟨j, _, _, rfl, hj, dk_done, k, _, rfl, hk, rfl, rfl, hk⟩
  · injections
    intro _
    injections
    first | exact ⟨rfl, rfl⟩ | rfl
  · rw [List.filter_eq_self.mpr fun _ _ => rfl]
    injections
    exact we_end_d (.of h) ⟨rfl, by rw [List.take_length]⟩
end

set_option maxHeartbeats 2000000
open PySem Pd
/-! ### the desk's text -/
section
variable {m : Sto} {M : Str} {rs : List (Str × Str)} {c : List Int} {j k : Nat}
abbrev tlS (x : Str) : List Nat := x.cps.toList
theorem str_ext {x y : Str} (h : tlS x = tlS y) : x = y := by
  obtain ⟨a⟩ := x
  obtain ⟨b⟩ := y
  have : a = b := Array.toList_inj.mp h
  rw [this]
theorem tl_app (x y : Str) : tlS (x ++ y) = tlS x ++ tlS y := by
  show (x.cps ++ y.cps).toList = _
  rw [Array.toList_append]
theorem tl_len (x : Str) : x.length = (tlS x).length := Array.length_toList.symm
theorem tl_join0 : ∀ l : List Str, tlS (Txt.join "" l) = l.flatMap tlS
  | [] => by rw [show Txt.join "" [] = Str.join "" [] from StrLaws.glued_eq_join _ _]; rfl
  | [x] => by
    rw [show Txt.join "" [x] = Str.join "" [x] from StrLaws.glued_eq_join _ _]
    show tlS x = _
    simp
  | x :: y :: r => by
    have ih := tl_join0 (y :: r)
    rw [show Txt.join "" (y :: r) = Str.join "" (y :: r) from StrLaws.glued_eq_join _ _] at ih
    rw [show Txt.join "" (x :: y :: r) = Str.join "" (x :: y :: r) from StrLaws.glued_eq_join _ _]
    show tlS (x ++ "" ++ Str.join "" (y :: r)) = _
    rw [tl_app, tl_app, ih, show tlS "" = [] from rfl, List.append_nil]
    simp
theorem tl_joinS (sep : Str) : ∀ (x : Str) (l : List Str), tlS (Txt.join sep (x :: l)) = tlS x ++ l.flatMap fun w => tlS sep ++ tlS w
  | x, [] => by
    rw [show Txt.join sep [x] = Str.join sep [x] from StrLaws.glued_eq_join _ _]
    show tlS x = _
    simp
  | x, y :: r => by
    have ih := tl_joinS sep y r
    rw [show Txt.join sep (y :: r) = Str.join sep (y :: r) from StrLaws.glued_eq_join _ _] at ih
    rw [show Txt.join sep (x :: y :: r) = Str.join sep (x :: y :: r) from StrLaws.glued_eq_join _ _]
    show tlS (x ++ sep ++ Str.join sep (y :: r)) = _
    rw [tl_app, tl_app, ih, List.flatMap_cons]
    simp
def wordR (p : Str × Str) : Str := p.1 ++ ">" ++ p.2
def numS (i : Int) : Str := toString i
def line0 (M : Str) : Str := Txt.join " " ["moods", M]
def line1 (rs : List (Str × Str)) : Str := Txt.join " " ("rules" :: rs.map wordR)
def line2 (c : List Int) : Str := Txt.join " " ("crowd" :: c.map numS)
/-- the document's text -/
def deskT (M : Str) (rs : List (Str × Str)) (c : List Int) : Str := Txt.join "\n" [line0 M, line1 rs, line2 c, ""]
theorem progT : Txt.join "" [line0 M ++ "\n", line1 rs ++ "\n", line2 c ++ "\n"] = deskT M rs c := by
  refine str_ext ?_
  unfold deskT
  rw [tl_join0, tl_joinS]
  simp only [List.flatMap_cons, List.flatMap_nil, tl_app, List.append_nil, List.append_assoc]
  rfl
theorem lawT : (("moods " : Str) ++ M ++ "\nrules" ++ Txt.join "" (rs.map fun p => (" " : Str) ++ p.1 ++ ">" ++ p.2)) ++ "\ncrowd" ++ Txt.join "" (c.map fun i => (" " : Str) ++ numS i) ++ "\n" = deskT M rs c := by
  refine str_ext ?_
  unfold deskT
  rw [tl_joinS]
  unfold line0 line1 line2
  simp only [tl_app, tl_join0, tl_joinS, List.flatMap_cons, List.flatMap_nil, List.flatMap_map, List.append_nil, List.append_assoc]
  have e1 : ∀ p : Str × Str, tlS (wordR p) = tlS p.1 ++ (tlS ">" ++ tlS p.2) := fun p => by unfold wordR; rw [tl_app, tl_app, List.append_assoc]
  simp only [e1, List.append_assoc]
  rfl
/-- sizes -/
theorem numS_len : ∀ i : Int, 0 ≤ i → i < 100 → (numS i).length ≤ 2 := by
  have key : ((List.range 100).all fun n => decide ((numS (n : Nat)).length ≤ 2)) = true := by decide +kernel
  intro i h0 h1
  have := of_decide_eq_true (List.all_eq_true.mp key i.toNat (List.mem_range.mpr (by omega)))
  rw [Int.toNat_of_nonneg h0] at this
  exact this
theorem wordR_len {p : Str × Str} (h : TwoOf M p.1 ∧ TwoOf M p.2) : (wordR p).length = 5 := by
  obtain ⟨a, b, e, _⟩ := h.1
  obtain ⟨a', b', e', _⟩ := h.2
  unfold wordR
  rw [e, e']
  rfl
theorem sum_le {l : List Nat} {n : Nat} (h : ∀ x ∈ l, x ≤ n) : l.sum ≤ l.length * n := by
  induction l with
  | nil => simp
  | cons a l ih =>
    have h1 := h a List.mem_cons_self
    have h2 := ih fun x hx => h x (List.mem_cons_of_mem _ hx)
    rw [List.sum_cons, List.length_cons, Nat.succ_mul]
    omega
theorem join_le (sep : Str) (l : List Str) : (Txt.join sep l).length ≤ (l.map (·.length)).sum + l.length * sep.length := by
  rw [show Txt.join sep l = Str.join sep l from StrLaws.glued_eq_join _ _]
  exact StrLaws.join_length_le sep l
/-- all of a desk's words are short -/
structure Dt (M : Str) (rs : List (Str × Str)) (c : List Int) : Prop where
  mM : M ∈ MOODS
  two : ∀ p ∈ rs, TwoOf M p.1 ∧ TwoOf M p.2
  l12 : rs.length ≤ 12
  len : c.length = M.length
  bd : ∀ i ∈ c, 0 ≤ i ∧ i < 100
theorem Dt.l0 (D : Dt M rs c) : (([("moods" : Str), M].map (·.length)).sum + 2 * (" " : Str).length) ≤ 20 := by
  have b0 := (moods_sg M D.mM).2
  show (5 + (M.length + 0)) + 2 * 1 ≤ 20
  omega
theorem Dt.l1 (D : Dt M rs c) : ((((("rules" : Str) :: rs.map wordR).map (·.length)).sum) + (rs.length + 1) * (" " : Str).length) ≤ 100 := by
  have : ((rs.map wordR).map (·.length)).sum ≤ ((rs.map wordR).map (·.length)).length * 5 := sum_le fun x hx => by
    obtain ⟨y, hy, rfl⟩ := List.mem_map.mp hx
    obtain ⟨p, hp, rfl⟩ := List.mem_map.mp hy
    exact Nat.le_of_eq (wordR_len (D.two p hp))
  rw [List.length_map, List.length_map] at this
  have := D.l12
  show (5 + ((rs.map wordR).map (·.length)).sum) + (rs.length + 1) * 1 ≤ 100
  omega
theorem Dt.l2 (D : Dt M rs c) : ((((("crowd" : Str) :: c.map numS).map (·.length)).sum) + (c.length + 1) * (" " : Str).length) ≤ 100 := by
  have b0 := (moods_sg M D.mM).2
  have : ((c.map numS).map (·.length)).sum ≤ ((c.map numS).map (·.length)).length * 2 := sum_le fun x hx => by
    obtain ⟨y, hy, rfl⟩ := List.mem_map.mp hx
    obtain ⟨i, hi, rfl⟩ := List.mem_map.mp hy
    exact numS_len i (D.bd i hi).1 (D.bd i hi).2
  rw [List.length_map, List.length_map] at this
  have := D.len
  show (5 + ((c.map numS).map (·.length)).sum) + (c.length + 1) * 1 ≤ 100
  omega
theorem Dt.s0 (D : Dt M rs c) : (line0 M).length ≤ 20 := Nat.le_trans (join_le _ _) D.l0
theorem Dt.s1 (D : Dt M rs c) : (line1 rs).length ≤ 100 := by
  have := join_le " " (("rules" : Str) :: rs.map wordR)
  rw [List.length_cons, List.length_map] at this
  exact Nat.le_trans this D.l1
theorem Dt.s2 (D : Dt M rs c) : (line2 c).length ≤ 100 := by
  have := join_le " " (("crowd" : Str) :: c.map numS)
  rw [List.length_cons, List.length_map] at this
  exact Nat.le_trans this D.l2
theorem app_len (x y : Str) : (x ++ y).length = x.length + y.length := Str.length_append x y
theorem wordFs (p : Str × Str) : ((Str.empty ++ p.1) ++ ">") ++ p.2 = wordR p := by
  refine str_ext ?_
  unfold wordR
  rw [tl_app, tl_app, tl_app, tl_app, tl_app]
  rfl
theorem q_dkText (h : Fl m) (D : Dt M rs c) (hj : m[j]? = some (dkC M rs c k)) : F_Desk_text [.loc j] m = .ok (.d (.str (deskT M rs c))) m := by
  have b0 := (moods_sg M D.mM).2
  have hl12 := D.l12
  have hlen := D.len
  refine wR_eq (wF rfl ?_)
  refine ws_seq (ws_asg (we_fld ?_))
  injections
  refine ⟨j, _, _, rfl, hj, dk_folk, _, rfl, ?_⟩
  refine ws_seq (ws_set (we_bin ?_))
  injections
  refine we_map0 rs (fun p => W.d (rl p)) (fun p => .str (wordR p)) ?_ (fun p hp => ⟨_, rfl, ?_⟩) (by omega) ?_
  · injections
    exact ⟨by rw [List.map_map]; rfl, rfl⟩
  · obtain ⟨p1, p2⟩ := p
    have w5 := D.two _ hp
    have l1 : p1.length = 2 := by obtain ⟨a, b, e, _⟩ := w5.1; have e : p1 = ⟨#[a, b]⟩ := e; rw [e]; rfl
    have l2 : p2.length = 2 := by obtain ⟨a, b, e, _⟩ := w5.2; have e : p2 = ⟨#[a, b]⟩ := e; rw [e]; rfl
    have z0 : (Str.empty : Str).length = 0 := rfl
    have z1 : (">" : Str).length = 1 := rfl
    have l1 : (p1, p2).fst.length = 2 := l1
    have l2 : (p1, p2).snd.length = 2 := l2
    refine we_fs (wj_cons (we_fmt_s ?_))
    injections
    refine ⟨by rw [sizeLine_eq]; omega, (p1, p2).fst, rfl, by rw [sizeLine_eq, app_len]; omega, wj_cons ?_⟩
    injections
    refine ⟨by rw [sizeLine_eq, app_len, app_len]; omega, wj_cons (we_fmt_s ?_)⟩
    injections
    refine ⟨by rw [sizeLine_eq]; omega, (p1, p2).snd, rfl, by rw [sizeLine_eq, app_len, app_len, app_len]; omega, wj_nil ?_⟩
    exact ⟨rfl, by rw [wordFs (p1, p2)]⟩
  refine wp_plus_l (by rw [List.length_map]; show 1 + rs.length ≤ 16777216; omega) ?_
  refine ws_seq (ws_set (we_bin ?_))
  injections
  refine we_map0 c (fun i => W.d (.int i)) (fun i => .str (numS i)) ?_ (fun i hi => ⟨_, rfl, ?_⟩) (by omega) ?_
  · refine wi_seq (we_fld ?_)
    injections
    refine ⟨j, _, _, rfl, hj, dk_here, _, rfl, ?_⟩
    exact ⟨by rw [List.map_map]; rfl, rfl⟩
  · have hb := D.bd i hi
    injections
    refine wq_str (by
      have : i.natAbs < 2 ^ 7 := by omega
      by_cases z : i.natAbs = 0
      · rw [z]; decide
      · exact Nat.lt_of_lt_of_le ((Nat.log2_lt z).mpr this) (by decide)) ?_
    exact ⟨rfl, rfl⟩
  refine wp_plus_l (by rw [List.length_map]; show 1 + c.length ≤ 16777216; omega) ?_
  refine ws_ret (we_ms ?_)
  injections
  have tt : ∀ l : List Str, (l.map (·.length)).sum + l.length * (" " : Str).length ≤ 100 → ∀ {e : Pd.Env} {m0 : Sto}, e[6]? = some (some (.d (.list (l.map .str)))) → wR (be_Desk_text_3 e m0) (fun z m3 => m3 = m0 ∧ z = .d (.str (Txt.join " " l ++ "\n"))) NoE := fun l hl e m0 he => by
    have h2 := join_le " " l
    refine we_bin (we_ms ?_)
    injections
    refine we_var he ?_
    refine wq_join (l := l) (unSs_map l) (by omega) ?_
    injections
    refine wp_plus_s (by show (Txt.join " " l).length + 1 ≤ 16777216; omega) ?_
    exact ⟨rfl, rfl⟩
  refine we_map0 [[("moods" : Str), M], "rules" :: rs.map wordR, "crowd" :: c.map numS] (fun l => W.d (.list (l.map .str))) (fun l => .str (Txt.join " " l ++ "\n")) ?_ (fun l hl => ⟨_, rfl, ?_⟩) (Nat.le_of_ble_eq_true rfl) ?_
  · injections
    refine ⟨?_, rfl⟩
    simp only [List.map_cons, List.map_nil, List.map_map]
    rfl
  · refine tt l ?_ ?_
    · simp only [List.mem_cons, List.not_mem_nil, or_false] at hl
      rcases hl with rfl | rfl | rfl
      · exact Nat.le_trans D.l0 (by decide)
      · rw [List.length_cons, List.length_map]; exact D.l1
      · rw [List.length_cons, List.length_map]; exact D.l2
    · rfl
  have s0 := D.s0
  have s1 := D.s1
  have s2 := D.s2
  refine wq_join (l := [line0 M ++ "\n", line1 rs ++ "\n", line2 c ++ "\n"]) rfl ?_ ?_
  · simp only [List.map_cons, List.map_nil, List.sum_cons, List.sum_nil, app_len, List.length_cons, List.length_nil]
    have : ("\n" : Str).length = 1 := rfl
    have : ("" : Str).length = 0 := rfl
    omega
  rw [progT]
  exact we_end_d (.of h) ⟨rfl, by rw [List.take_length]⟩
end

set_option maxHeartbeats 2000000
open PySem Pd
/-! ### the desk's text read -/
section
variable {m : Sto} {M : Str} {rs : List (Str × Str)} {c : List Int} {j k : Nat}
theorem cut_tl {α : Type} (x : α) (l : List α) : cutD (x :: l) (some 1) none = l := by
  unfold cutD
  rw [show (some (1 : Int)) = some ((1 : Nat) : Int) from rfl, HT.sIx_nat, HT.sIx_none, List.length_cons, Nat.min_eq_left (by omega), List.drop_succ_cons, List.drop_zero, List.take_of_length_le (by omega)]
/-- no blank, no line end -/
def Dense (x : Str) : Prop := ∀ c ∈ tlS x, 33 ≤ c ∧ c < 1114112
theorem moods_dense : ∀ M ∈ MOODS, ∀ c ∈ M.cps.toList, 33 ≤ c ∧ c < 1114112 := by
  have key : (MOODS.all fun M => M.cps.toList.all fun c => decide (33 ≤ c) && decide (c < 1114112)) = true := by decide +kernel
  intro M hM c hc
  have := List.all_eq_true.mp (List.all_eq_true.mp key M hM) c hc
  rw [Bool.and_eq_true] at this
  exact ⟨of_decide_eq_true this.1, of_decide_eq_true this.2⟩
theorem numS_tl : ∀ i : Int, 0 ≤ i → i < 100 → tlS (numS i) = if i < 10 then [48 + i.toNat] else [48 + i.toNat / 10, 48 + i.toNat % 10] := by
  have key : ((List.range 100).all fun n => decide (tlS (numS (n : Nat)) = if ((n : Nat) : Int) < 10 then [48 + n] else [48 + n / 10, 48 + n % 10])) = true := by decide +kernel
  intro i h0 h1
  have := of_decide_eq_true (List.all_eq_true.mp key i.toNat (List.mem_range.mpr (by omega)))
  rw [Int.toNat_of_nonneg h0] at this
  exact this
theorem numS_dig {i : Int} (h0 : 0 ≤ i) (h1 : i < 100) : ∀ x ∈ tlS (numS i), 48 ≤ x ∧ x < 58 := by
  rw [numS_tl i h0 h1]
  intro x hx
  split at hx
  · have : x = 48 + i.toNat := by simpa using hx
    omega
  · simp only [List.mem_cons, List.not_mem_nil, or_false] at hx
    rcases hx with rfl | rfl <;> omega
theorem two_dense (hM : M ∈ MOODS) {t : Str} (h : TwoOf M t) : Dense t := by
  obtain ⟨a, b, e, ha, hb, _⟩ := h
  rw [e]
  intro c hc
  have : c = a ∨ c = b := by simpa using hc
  rcases this with rfl | rfl
  · exact moods_dense M hM _ ha
  · exact moods_dense M hM _ hb
theorem word_dense (hM : M ∈ MOODS) {p : Str × Str} (h : TwoOf M p.1 ∧ TwoOf M p.2) : Dense (wordR p) := by
  intro c hc
  unfold wordR at hc
  rw [tl_app, tl_app, List.mem_append, List.mem_append] at hc
  rcases hc with (hc | hc) | hc
  · exact two_dense hM h.1 c hc
  · have : c = 62 := by simpa using (show c ∈ [62] from hc)
    omega
  · exact two_dense hM h.2 c hc
theorem num_dense {i : Int} (h0 : 0 ≤ i) (h1 : i < 100) : Dense (numS i) := fun c hc => by
  have := numS_dig h0 h1 c hc
  omega
theorem Dense.sh {x : Str} (h : Dense x) : SeqAt.shaped (.str x) = true := sh_str fun c hc => (h c hc).2
theorem split_line {key : Str} {words : List Str} (hk : Dense key) (hw : ∀ w ∈ words, Dense w) : Txt.split (Txt.join " " (key :: words)) " " = key :: words :=
  TL.split_join (s := 32) (S := []) rfl (by decide +kernel) (by simp) fun p hp z => by
    have : Dense p := by
      rcases List.mem_cons.mp hp with rfl | hp
      · exact hk
      · exact hw p hp
    have := (this 32 z).1
    omega
theorem line_no {key : Str} {words : List Str} (hk : Dense key) (hw : ∀ w ∈ words, Dense w) : 10 ∉ tlS (Txt.join " " (key :: words)) := fun z => by
  rw [tl_joinS, List.mem_append] at z
  rcases z with z | z
  · have := (hk 10 z).1; omega
  · obtain ⟨w, hw', z⟩ := List.mem_flatMap.mp z
    rcases List.mem_append.mp z with z | z
    · have : (10 : Nat) = 32 := by simpa using (show (10 : Nat) ∈ [32] from z)
      omega
    · have := (hw w hw' 10 z).1; omega
theorem den_moods : Dense "moods" := by
  have key : ((tlS "moods").all fun c => decide (33 ≤ c) && decide (c < 1114112)) = true := by decide +kernel
  intro c hc
  have := List.all_eq_true.mp key c hc
  rw [Bool.and_eq_true] at this
  exact ⟨of_decide_eq_true this.1, of_decide_eq_true this.2⟩
theorem den_rules : Dense "rules" := by
  have key : ((tlS "rules").all fun c => decide (33 ≤ c) && decide (c < 1114112)) = true := by decide +kernel
  intro c hc
  have := List.all_eq_true.mp key c hc
  rw [Bool.and_eq_true] at this
  exact ⟨of_decide_eq_true this.1, of_decide_eq_true this.2⟩
theorem den_crowd : Dense "crowd" := by
  have key : ((tlS "crowd").all fun c => decide (33 ≤ c) && decide (c < 1114112)) = true := by decide +kernel
  intro c hc
  have := List.all_eq_true.mp key c hc
  rw [Bool.and_eq_true] at this
  exact ⟨of_decide_eq_true this.1, of_decide_eq_true this.2⟩
def linesT (M : Str) (rs : List (Str × Str)) (c : List Int) : List Str := [line0 M, line1 rs, line2 c, ""]
theorem split_desk (D : Dt M rs c) : Txt.split (deskT M rs c) "\n" = linesT M rs c :=
  TL.split_join (s := 10) (S := []) rfl (by decide +kernel) (by simp) fun p hp => by
    simp only [List.mem_cons, List.not_mem_nil, or_false] at hp
    rcases hp with rfl | rfl | rfl | rfl
    · exact line_no den_moods fun w hw => by rw [List.mem_singleton.mp hw]; exact moods_dense M D.mM
    · exact line_no den_rules fun w hw => by
        obtain ⟨p, hp, rfl⟩ := List.mem_map.mp hw
        exact word_dense D.mM (D.two p hp)
    · exact line_no den_crowd fun w hw => by
        obtain ⟨i, hi, rfl⟩ := List.mem_map.mp hw
        exact num_dense (D.bd i hi).1 (D.bd i hi).2
    · decide
theorem q_words (h : Fl m) (D : Dt M rs c) {n : Nat} {key : Str} {words : List Str} (hn : n < 3) (hl : (linesT M rs c)[n]? = some (Txt.join " " (key :: words))) (hk : Dense key) (hw : ∀ w ∈ words, Dense w) (h5 : (Txt.join " " (key :: words)).length ≤ 100) :
    F_words_behind [.d (.list ((linesT M rs c).map .str)), .d (.int (n : Nat)), .d (.str key)] m = .ok (.d (.list (words.map .str))) m := by
  refine wR_eq (wF rfl ?_)
  refine ws_seq (ws_if (wt_v ?_))
  injections
  rw [List.length_map, decide_eq_false (by show ¬ ((4 : Nat) : Int) - 1 ≤ (n : Int); omega)]
  refine ⟨fun z => (by cases z), fun _ => ws_nil ?_⟩
  refine ws_seq (ws_set (we_ms (we_bin ?_)))
  injections
  refine wp_ix_l (d := .str (Txt.join " " (key :: words))) (by rw [atI_nat, List.getElem?_map, hl]; rfl) ?_
  refine ⟨_, rfl, ?_⟩
  injections
  refine wq_split ⟨by decide, by rw [sizeLine_eq]; omega⟩ ?_
  rw [split_line hk hw]
  refine ws_seq (ws_if (wt_v (we_bin (we_bin ?_))))
  injections
  refine wp_ix_l (d := .str key) (by show L2.atI (PyData.str key :: words.map .str) ((0 : Nat) : Int) = _; rw [atI_nat]; rfl) ?_
  injections
  refine wp_ne ⟨hk.sh, hk.sh⟩ ?_
  rw [eqv_refl _ (SeqAt.canLay_of_shaped hk.sh)]
  refine ⟨_, rfl, fun z => (by cases z), fun _ => ws_nil ?_⟩
  refine ws_ret (we_sl ?_)
  injections
  rw [List.map_cons, cut_tl]
  exact we_end_d (.of h) ⟨rfl, by rw [List.take_length]⟩
theorem good_moods (G : Gd M rs) : areMoods (.str M) = true := by
  have h : (areMoods (.str M) && areRules M (.tuple (rs.map rl))) = true := G.good
  rw [Bool.and_eq_true] at h
  exact h.1
theorem q_moodsF (h : Fl m) (D : Dt M rs c) (G : Gd M rs) : F_moods_from [.d (.list ((linesT M rs c).map .str))] m = .ok (.d (.str M)) m := by
  have b0 := (moods_sg M D.mM).2
  have dM : Dense M := moods_dense M D.mM
  have e1 := q_words (n := 0) (key := "moods") (words := [M]) h D (by decide) rfl den_moods (fun w hw => by rw [List.mem_singleton.mp hw]; exact dM) (Nat.le_trans D.s0 (by decide))
  have e2 := r_moods h (.str M) (show M.length ≤ sizeLine ∧ SeqAt.shaped (.str M) = true from ⟨by rw [sizeLine_eq]; omega, dM.sh⟩)
  rw [good_moods G] at e2
  refine wR_eq (wF rfl ?_)
  refine ws_seq (ws_set (we_call ?_))
  injections
  refine wR_ok e1 ?_
  refine ws_seq (ws_if (wt_or (wt_v (we_bin ?_))))
  injections
  rw [show (([M].map PyData.str).length : Int) = 1 from rfl, decide_eq_true rfl]
  refine ⟨fun z => (by cases z), fun _ => ?_⟩
  refine wt_not (wt_v (we_call (wa_cons (we_bin ?_))))
  injections
  refine wp_ix_l (d := .str M) rfl ?_
  injections
  refine ws_ret (we_bin ?_)
  injections
  refine wp_ix_l (d := .str M) rfl ?_
  exact we_end_d (.of h) ⟨rfl, by rw [List.take_length]⟩
theorem slS {s : Str} {i j : Option Int} (h : s.length ≤ 16777216) : slW (.d (.str s)) i j = some (.d (.str (L2.cutS s i j))) := by
  show (if s.length ≤ sizeLine then some (W.d (.str (L2.cutS s i j))) else none) = _
  rw [if_pos (by rw [sizeLine_eq]; exact h)]
theorem cut_word {p : Str × Str} (h : TwoOf M p.1 ∧ TwoOf M p.2) : L2.cutS (wordR p) none (some 2) = p.1 ∧ L2.cutS (wordR p) (some 3) none = p.2 ∧ L2.cutS (wordR p) (some 2) (some 3) = ">" := by
  obtain ⟨p1, p2⟩ := p
  obtain ⟨a, b, e, _⟩ := h.1
  obtain ⟨a', b', e', _⟩ := h.2
  have e : p1 = ⟨#[a, b]⟩ := e
  have e' : p2 = ⟨#[a', b']⟩ := e'
  subst e e'
  exact ⟨rfl, rfl, rfl⟩
theorem q_folkF (h : Fl m) (D : Dt M rs c) (G : Gd M rs) : F_folk_from [.d (.list ((linesT M rs c).map .str))] m = .ok (.d (fk M rs)) m := by
  have hl12 := D.l12
  have e1 := q_moodsF h D G
  have e2 := q_words (n := 1) (key := "rules") (words := rs.map wordR) h D (by decide) rfl den_rules (fun w hw => by
    obtain ⟨p, hp, rfl⟩ := List.mem_map.mp hw
    exact word_dense D.mM (D.two p hp)) D.s1
  have e3 := r_folk h (fk M rs) G.tx
  rw [G.good] at e3
  refine wR_eq (wF rfl ?_)
  refine ws_seq (ws_set (we_call ?_))
  injections
  refine ws_seq (ws_set (we_call ?_))
  injections
  refine wR_ok e2 ?_
  refine ws_seq (ws_set (we_tup (wa_cons ?_)))
  injections
  refine we_map0 rs (fun p => W.d (.str (wordR p))) (fun p => rl p) ?_ (fun p hp => ⟨_, rfl, ?_⟩) (by omega) ?_
  · injections
    exact ⟨by rw [List.map_map, List.map_map]; rfl, rfl⟩
  · obtain ⟨k1, k2, _⟩ := cut_word (D.two p hp)
    have w5 := wordR_len (D.two p hp)
    refine we_tup (wa_cons (we_sl ?_))
    injections
    refine ⟨.d (.str p.1), by rw [slS (by rw [w5]; decide), k1], wa_cons (we_sl ?_)⟩
    injections
    refine ⟨.d (.str p.2), by rw [slS (by rw [w5]; decide), k2], ?_⟩
    injections
    first | exact ⟨rfl, rfl⟩ | rfl
  injections
  refine ws_seq (ws_if (wt_or (wt_not (wt_v ?_))))
  refine we_q0 rs (fun p => W.d (.str (wordR p))) (fun _ => true) ?_ (fun p hp => ⟨_, rfl, ?_⟩) ?_
  · injections
    exact ⟨by rw [List.map_map, List.map_map]; rfl, rfl⟩
  · obtain ⟨_, _, k3⟩ := cut_word (D.two p hp)
    have w5 := wordR_len (D.two p hp)
    refine we_bin (we_sl ?_)
    injections
    refine ⟨.d (.str ">"), by rw [slS (by rw [w5]; decide), k3], ?_⟩
    injections
    refine wp_eq ⟨by decide +kernel, by decide +kernel⟩ ?_
    rw [show PyData.eqv (.str ">") (.str ">") = true from by decide +kernel]
    exact ⟨rfl, rfl⟩
  have : (if (true : Bool) then rs.all fun _ => true else rs.any fun _ => true) = true := by simp
  rw [this]
  refine ⟨_, rfl, fun z => (by cases z), fun _ => ?_⟩
  have e3' : F_is_folk [.d (.tuple [.str M, .tuple (rs.map fun p => rl p)])] m = .ok (.d (.bool true)) m := e3
  refine wt_not (wt_v ?_)
  injections
  refine ws_ret ?_
  injections
  exact we_end_d (.of h) ⟨rfl, by rw [List.take_length]⟩
theorem q_kind (h : Fl m) {d : Nat} (h0 : 48 ≤ d) (h1 : d < 58) : F_kind_of [.d (.str ⟨#[d]⟩)] m = .ok (.d (.str "NUMBER")) m := by
  have key : ((List.range 10).all fun i => sLt ⟨#[48 + i]⟩ "a" && (sLt ⟨#[48 + i]⟩ "A" && (!sLt ⟨#[48 + i]⟩ "0" && !sLt "9" ⟨#[48 + i]⟩))) = true := by decide +kernel
  have k := List.all_eq_true.mp key (d - 48) (List.mem_range.mpr (by omega))
  rw [show 48 + (d - 48) = d by omega] at k
  simp only [Bool.and_eq_true, Bool.not_eq_true'] at k
  obtain ⟨k1, k2, k3, k4⟩ := k
  refine wR_eq (wF rfl ?_)
  refine ws_seq (ws_if (wt_v (we_chain ?_)))
  injections
  rw [k1]
  refine ⟨fun z => (by cases z), fun _ => ?_⟩
  refine ⟨_, rfl, fun z => (by cases z), fun _ => ws_nil ?_⟩
  refine ws_seq (ws_if (wt_v (we_chain ?_)))
  injections
  rw [k2]
  refine ⟨fun z => (by cases z), fun _ => ?_⟩
  refine ⟨_, rfl, fun z => (by cases z), fun _ => ws_nil ?_⟩
  refine ws_seq (ws_if (wt_v (we_chain ?_)))
  injections
  rw [k3]
  refine ⟨fun _ => ?_, fun z => (by cases z)⟩
  injections
  rw [k4]
  refine ⟨fun _ => ?_, fun z => (by cases z)⟩
  refine ws_ret ?_
  injections
  exact we_end_d (.of h) ⟨rfl, by rw [List.take_length]⟩
theorem q_isNum (h : Fl m) {i : Int} (h0 : 0 ≤ i) (h1 : i < 100) : F_is_number [.d (.str (numS i)), .d (.int 41)] m = .ok (.d (.bool true)) m := by
  have t := numS_tl i h0 h1
  have dg := numS_dig h0 h1
  have n2 := numS_len i h0 h1
  have n1 : 1 ≤ (numS i).length := by
    rw [tl_len, t]
    split <;> simp
  have dn := num_dense h0 h1
  refine wR_eq (wF rfl ?_)
  refine ws_seq (ws_if (wt_or (wt_not (wt_v (we_chain ?_)))))
  injections
  refine wq_len_s (by omega) ?_
  injections
  rw [decide_eq_true (show (1 : Int) ≤ ((numS i).length : Int) by omega)]
  refine ⟨fun _ => ?_, fun z => (by cases z)⟩
  injections
  rw [decide_eq_true (show ((numS i).length : Int) ≤ 41 by omega)]
  refine ⟨fun z => (by cases z), fun _ => ?_⟩
  refine wt_not (wt_v ?_)
  refine we_q0 (tlS (numS i)) (fun x => W.d (.str ⟨#[x]⟩)) (fun _ => true) ?_ (fun x hx => ⟨_, rfl, ?_⟩) ?_
  · injections
    exact ⟨signs_items (numS i), rfl⟩
  · have e := q_kind (m := m) h (dg x hx).1 (dg x hx).2
    refine we_bin ?_
    injections
    refine wp_eq ⟨by decide +kernel, by decide +kernel⟩ ?_
    rw [show PyData.eqv (.str "NUMBER") (.str "NUMBER") = true from by decide +kernel]
    exact ⟨rfl, rfl⟩
  have : (if (true : Bool) then (tlS (numS i)).all fun _ => true else (tlS (numS i)).any fun _ => true) = true := by simp
  rw [this]
  refine ⟨_, rfl, fun z => (by cases z), fun _ => ws_nil ?_⟩
  refine ws_ret (we_or ?_)
  injections
  have s0 : SeqAt.shaped (.str "0") = true := by decide +kernel
  refine wp_eq ⟨dn.sh, s0⟩ ?_
  refine ⟨_, rfl, fun _ => ?_, fun z => ?_⟩
  · exact we_end_d (.of h) ⟨rfl, by rw [List.take_length]⟩
  · obtain ⟨x, l, ex⟩ : ∃ x l, tlS (numS i) = x :: l := by
      rw [t]
      split
      · exact ⟨_, _, rfl⟩
      · exact ⟨_, _, rfl⟩
    have xn : x ≠ 48 := fun hx => by
      subst hx
      rw [t] at ex
      split at ex
      · rename_i hi
        have e := (List.cons.inj ex).1
        have : i = 0 := by omega
        subst this
        have : PyData.eqv (.str (numS 0)) (.str "0") = true := by decide +kernel
        rw [this] at z
        cases z
      · have e := (List.cons.inj ex).1
        omega
    have hx := dg x (by rw [ex]; exact List.mem_cons_self)
    refine we_bin (we_bin ?_)
    injections
    refine wp_ix_s (c := x) (by rw [sizeLine_eq]; omega) (by
      show L2.atI (tlS (numS i)) ((0 : Nat) : Int) = some x
      rw [atI_nat, ex]
      rfl) ?_
    injections
    refine wp_ne ⟨sh_str (fun y hy => by have : y = x := by simpa using hy
                                         omega), s0⟩ ?_
    rw [show ("0" : Str) = ⟨#[48]⟩ from rfl, ev_ch, decide_eq_false xn]
    exact we_end_d (.of h) ⟨rfl, by rw [List.take_length]⟩
theorem dt_cd (D : Dt M rs c) : isCrowd M.length (cw c) = true := by
  show (decide ((c.map PyData.int).length = M.length) && (c.map PyData.int).all isMany) = true
  rw [List.length_map, decide_eq_true D.len, List.all_map]
  refine List.all_eq_true.mpr fun i hi => ?_
  have := D.bd i hi
  show (decide (0 ≤ i) && decide (i ≤ TOP)) = true
  rw [decide_eq_true this.1, decide_eq_true (by show i ≤ 10000000000000000000000000000000000000000; omega)]
  rfl
theorem q_crowdF (h : Fl m) (D : Dt M rs c) : F_crowd_from [.d (fk M rs), .d (.list ((linesT M rs c).map .str))] m = .ok (.d (cw c)) m := by
  have b0 := (moods_sg M D.mM).2
  have hlen := D.len
  have e1 := q_words (n := 2) (key := "crowd") (words := c.map numS) h D (by decide) rfl den_crowd (fun w hw => by
    obtain ⟨i, hi, rfl⟩ := List.mem_map.mp hw
    exact num_dense (D.bd i hi).1 (D.bd i hi).2) D.s2
  have e2 : F_is_crowd [.d (fk M rs), .d (cw c)] m = _ := r_crowd h M (.tuple (rs.map rl)) (cw c) (by omega)
  rw [dt_cd D] at e2
  refine wR_eq (wF rfl ?_)
  refine ws_seq (ws_set (we_call ?_))
  injections
  refine wR_ok e1 ?_
  refine ws_seq (ws_if (wt_not (wt_v ?_)))
  refine we_q0 c (fun i => W.d (.str (numS i))) (fun _ => true) ?_ (fun i hi => ⟨_, rfl, ?_⟩) ?_
  · injections
    exact ⟨by rw [List.map_map, List.map_map]; rfl, rfl⟩
  · have e := q_isNum (m := m) h (D.bd i hi).1 (D.bd i hi).2
    injections
    first | exact ⟨rfl, rfl⟩ | rfl
  have : (if (true : Bool) then c.all fun _ => true else c.any fun _ => true) = true := by simp
  rw [this]
  refine ⟨_, rfl, fun z => (by cases z), fun _ => ws_nil ?_⟩
  refine ws_seq (ws_set (we_B (wa_cons ?_)))
  refine we_map0 c (fun i => W.d (.str (numS i))) (fun i => .int i) ?_ (fun i hi => ⟨_, rfl, ?_⟩) (by omega) ?_
  · injections
    exact ⟨by rw [List.map_map, List.map_map]; rfl, rfl⟩
  · have hb := D.bd i hi
    have n2 := numS_len i hb.1 hb.2
    refine we_B ?_
    injections
    refine wq_intS (n := i) ?_ (by omega) ?_
    · obtain ⟨n, rfl⟩ := Int.eq_ofNat_of_zero_le hb.1
      refine TL.int_num ?_
      have e : (numS (n : Int)).length = (TL.numL n).length := by
        rw [tl_len]
        exact congrArg List.length (TL.tl_num n)
      have n2 : (numS (n : Int)).length ≤ 2 := n2
      omega
    · exact ⟨rfl, rfl⟩
  injections
  refine ws_seq (ws_if (wt_not (wt_v ?_)))
  have e2 : F_is_crowd [.d (fk M rs), .d (.tuple (c.map fun i => PyData.int i))] m = .ok (.d (.bool true)) m := e2
  injections
  refine ws_ret ?_
  injections
  exact we_end_d (.of h) ⟨rfl, by rw [List.take_length]⟩
theorem q_noMore (h : Fl m) : F_demand_no_more [.d (.list ((linesT M rs c).map .str))] m = .ok (.d .none) m := by
  refine wR_eq (wF rfl ?_)
  refine ws_if (wt_v (we_bin (we_sl ?_)))
  injections
  rw [show cutD ((linesT M rs c).map PyData.str) (some 3) none = [.str ""] from rfl]
  refine wp_ne ⟨by decide +kernel, by decide +kernel⟩ ?_
  rw [show PyData.eqv (.list [.str ""]) (.list [.str ""]) = true from by decide +kernel]
  refine ⟨_, rfl, fun z => (by cases z), fun _ => ws_nil ?_⟩
  exact we_end_n (.of h) ⟨rfl, by rw [List.take_length]⟩
theorem q_dtext (h : Fl m) (x : Str) : F_demand_text [.d (.str x)] m = .ok (.d .none) m := by
  refine wR_eq (wF rfl ?_)
  refine ws_if (wt_not (wt_v ?_))
  injections
  exact we_end_n (.of h) ⟨rfl, by rw [List.take_length]⟩
theorem Dt.sT (D : Dt M rs c) : (deskT M rs c).length ≤ 300 := by
  have := join_le "\n" [line0 M, line1 rs, line2 c, ""]
  simp only [List.map_cons, List.map_nil, List.sum_cons, List.sum_nil, List.length_cons, List.length_nil] at this
  have s0 := D.s0
  have s1 := D.s1
  have s2 := D.s2
  have z1 : ("\n" : Str).length = 1 := rfl
  have z0 : ("" : Str).length = 0 := rfl
  show (Txt.join "\n" [line0 M, line1 rs, line2 c, ""]).length ≤ 300
  omega
theorem q_deskOf (h : Fl m) (D : Dt M rs c) (G : Gd M rs) : F_desk_of [.d (.str (deskT M rs c))] m = .ok (.loc m.length) (deskS m M rs c) := by
  have e0 := q_dtext h (deskT M rs c)
  have e1 := q_folkF h D G
  have e2 := q_crowdF h D
  have e3 := q_noMore (M := M) (rs := rs) (c := c) h
  have e4 := q_dkMake h G (show Cd M c from dt_cd D)
  suffices hh : wR (F_desk_of [.d (.str (deskT M rs c))] m) (fun w m' => w = .loc m.length ∧ m' = deskS m M rs c) NoE by
    obtain ⟨a, m', e, rfl, rfl⟩ := wR_get hh
    exact e
  refine wFK ?_
  refine ws_seq (ws_expr ?_)
  injections
  refine ws_seq (ws_set (we_ms ?_))
  injections
  refine wq_split ⟨by decide, by rw [sizeLine_eq]; have := D.sT; omega⟩ ?_
  rw [split_desk D]
  refine ws_seq (ws_set ?_)
  injections
  refine ws_seq (ws_set ?_)
  injections
  refine ws_seq (ws_expr ?_)
  injections
  refine ws_ret (we_make ?_)
  injections
  first | exact ⟨rfl, rfl⟩ | trivial
end

set_option maxHeartbeats 4000000
open PySem Pd
/-! ### the law of desks -/
section
variable {Q : W → Sto → Prop} {QL : List W → Sto → Prop} {E : Exn → Sto → Prop} {f : FE} {r : FA} {e : Pd.Env} {m : Sto}
theorem wi_z2V (q : wR (r e m) (fun ws m1 => ∃ a b ds es, ws = [a, b] ∧ seqV a = some ds ∧ seqV b = some es ∧ QL (zip2 ds es) m1) E) : wR (iZ2V r e m) QL E := by
  unfold iZ2V
  refine wR_bind (wR_mono q (fun w m1 q => ?_) fun _ _ q => q)
  obtain ⟨a, b, ds, es, rfl, h1, h2, q⟩ := q
  simp only [h1, h2]
  exact wR_rfl q
end
mutual
theorem Al_lay : ∀ (n : Nat) (x : PyData), Al n x = true → PyData.canLay0 x = true ∧ PyData.depth x ≤ n
  | 0, x, h => by unfold Al at h; cases h
  | n + 1, .list ds, h => by
    unfold Al at h
    rw [Bool.and_eq_true] at h
    obtain ⟨h1, h2⟩ := Als_lay n ds h.2
    exact ⟨by unfold PyData.canLay0; exact h1, by unfold PyData.depth; omega⟩
  | n + 1, .tuple ds, h => by
    unfold Al at h
    rw [Bool.and_eq_true] at h
    obtain ⟨h1, h2⟩ := Als_lay n ds h.2
    exact ⟨by unfold PyData.canLay0; exact h1, by unfold PyData.depth; omega⟩
  | n + 1, .dict ds, h => by unfold Al at h; cases h
  | n + 1, .str s, h => by
    unfold Al at h
    exact ⟨SeqAt.canLay_of_shaped h, by unfold PyData.depth; omega⟩
  | n + 1, .none, h => ⟨rfl, by unfold PyData.depth; omega⟩
  | n + 1, .bool _, h => ⟨rfl, by unfold PyData.depth; omega⟩
  | n + 1, .int _, h => ⟨rfl, by unfold PyData.depth; omega⟩
theorem Als_lay : ∀ (n : Nat) (ds : List PyData), Als n ds = true → PyData.canLayAll0 ds = true ∧ PyData.depthAll ds ≤ n
  | n, [], h => ⟨rfl, by unfold PyData.depthAll; omega⟩
  | n, d :: ds, h => by
    unfold Als at h
    rw [Bool.and_eq_true] at h
    obtain ⟨h1, h2⟩ := Al_lay n d h.1
    obtain ⟨h3, h4⟩ := Als_lay n ds h.2
    unfold PyData.canLayAll0 PyData.depthAll
    rw [h1, h3]
    exact ⟨rfl, Nat.max_le.mpr ⟨h2, h4⟩⟩
end
theorem Al_sh {n : Nat} {x : PyData} (hn : n ≤ 64) (h : Al n x = true) : SeqAt.shaped x = true := by
  obtain ⟨h1, h2⟩ := Al_lay n x h
  unfold SeqAt.shaped
  rw [h1, decide_eq_true (by omega)]
  rfl
theorem Als_of {n : Nat} : ∀ {l : List PyData}, (∀ d ∈ l, Al n d = true) → Als n l = true
  | [], _ => by unfold Als; rfl
  | d :: l, h => by
    unfold Als
    rw [h d List.mem_cons_self, Als_of fun x hx => h x (List.mem_cons_of_mem _ hx)]
    rfl
theorem Al_cwK (n : Nat) {c : List Int} (h : c.length ≤ 1000) : Al (n + 2) (cw c) = true := by
  unfold cw
  unfold Al
  rw [List.length_map, decide_eq_true h, Als_of fun d hd => by obtain ⟨i, _, rfl⟩ := List.mem_map.mp hd; rfl]
  rfl
section
variable {ns : List Int} {m : Sto} {M : Str} {rs : List (Str × Str)} {c now : List Int} {ds : List (PyData × List Int)} {N : Pd.Env → Sto → Prop} {P : SP} {k : Nat}
theorem zip_sc : ∀ (l : List Nat) (c : List Int), zip2 (l.map fun x => PyData.str ⟨#[x]⟩) (c.map .int) = (List.zip l c).map fun q => W.d (.tuple [.str ⟨#[q.1]⟩, .int q.2])
  | [], _ => rfl
  | _ :: _, [] => rfl
  | x :: l, y :: c => by
    have := zip_sc l c
    unfold zip2 at this ⊢
    simp only [List.map_cons, List.zip_cons_cons, List.zipWith_cons_cons]
    rw [this]
theorem leave_eq {a : Nat} : ∀ (l : List Nat) (c : List Int), ((List.zip l c).map fun q => q.2 - if q.1 = a then (1 : Int) else 0) = plusL (-1) c (l.map fun x => if x = a then 1 else 0)
  | [], c => by simp [plusL]
  | _ :: _, [] => rfl
  | x :: l, y :: c => by
    have := leave_eq (a := a) l c
    unfold plusL at this ⊢
    simp only [List.zip_cons_cons, List.map_cons, this]
    congr 1
    split <;> omega
theorem leave_nn {a : Nat} : ∀ (l : List Nat) (c : List Int), l.Nodup → (∀ i ∈ c, 0 ≤ i) → (∀ q ∈ List.zip l c, q.1 = a → 0 < q.2) → ∀ x ∈ (List.zip l c).map (fun q => q.2 - if q.1 = a then (1 : Int) else 0), 0 ≤ x := by
  intro l c _ h0 h1 x hx
  obtain ⟨q, hq, rfl⟩ := List.mem_map.mp hx
  have h2 := h0 _ (List.of_mem_zip hq).2
  by_cases e : q.1 = a
  · have := h1 q hq e
    rw [if_pos e]
    omega
  · rw [if_neg e]
    omega
theorem zip_fun : ∀ (l : List Nat) (c : List Int), l.Nodup → ∀ q ∈ List.zip l c, ∀ q' ∈ List.zip l c, q.1 = q'.1 → q = q'
  | [], _, _, q, hq, _, _, _ => by simp at hq
  | _ :: _, [], _, q, hq, _, _, _ => by simp at hq
  | x :: l, y :: c, nd, q, hq, q', hq', e => by
    rw [List.zip_cons_cons] at hq hq'
    obtain ⟨n1, n2⟩ := List.nodup_cons.mp nd
    rcases List.mem_cons.mp hq with rfl | hq
    · rcases List.mem_cons.mp hq' with rfl | hq'
      · rfl
      · exact absurd ((List.of_mem_zip hq').1) (by rw [← e]; exact n1)
    · rcases List.mem_cons.mp hq' with rfl | hq'
      · exact absurd ((List.of_mem_zip hq).1) (by rw [e]; exact n1)
      · exact zip_fun l c n2 q hq q' hq' e
theorem sum_pos_some : ∀ (l : List Nat) (c : List Int), c.length = l.length → 0 < c.sum → ((List.zip l c).filter fun q => decide (0 < q.2)) ≠ []
  | [], [], _, h => by simp at h
  | [], _ :: _, h, _ => by simp at h
  | _ :: _, [], h, _ => by simp at h
  | x :: l, y :: c, h, hs => by
    rw [List.zip_cons_cons, List.filter_cons]
    by_cases e : 0 < y
    · rw [if_pos (decide_eq_true e)]
      simp
    · rw [if_neg (by simpa using e)]
      refine sum_pos_some l c (by simpa using h) ?_
      rw [List.sum_cons] at hs
      omega
theorem bd_plus {b b' : Int} {d : List Int} (h : Bd M b c) (h' : Bd M b' d) : Bd M (b + b') (plusL 1 c d) := by
  refine ⟨by rw [plusL_len (by rw [h.len, h'.len]), h.len], fun i hi => ?_⟩
  unfold plusL at hi
  obtain ⟨q, hq, rfl⟩ := List.mem_map.mp hi
  have h1 := h.bd _ (List.of_mem_zip hq).1
  have h2 := h'.bd _ (List.of_mem_zip hq).2
  omega
theorem cnt_bdK {t : Str} (n : Int) (h : (t.length : Int) ≤ n) : Bd M n (cntL M t) := by
  refine ⟨by unfold cntL; rw [List.length_map]; exact Array.length_toList, fun i hi => ?_⟩
  obtain ⟨c, hc, rfl⟩ := List.mem_map.mp hi
  have h1 : (t.cps.toList.filter fun s => decide (s = c)).length ≤ t.cps.toList.length := List.length_filter_le _ _
  have h2 : t.cps.toList.length = t.length := Array.length_toList
  omega
/-- what holds ahead of the k-th turn -/
structure DI (ns : List Int) (M : Str) (rs : List (Str × Str)) (k : Nat) (now : List Int) (ds : List (PyData × List Int)) (m : Sto) : Prop where
  r : Rw ns [dkC M rs now 2, .lst (pastW ds), .lst (pastW ds)] m
  h : Fl m
  hd : ds.length ≤ k
  bd : Bd M (5 + 3 * k) now
  past : ∀ q ∈ ds, Bd M (5 + 3 * k) q.2 ∧ Al 5 q.1 = true
theorem DI.mono (D : DI ns M rs k now ds m) : DI ns M rs (k + 1) now ds m := ⟨D.r, D.h, by have := D.hd; omega, D.bd.mono (by omega), fun q hq => ⟨((D.past q hq).1).mono (by omega), (D.past q hq).2⟩⟩
theorem DI.g1 (D : DI ns M rs k now ds m) : m[1]? = some (dkC M rs now 2) := by obtain ⟨_, _, _, e, _⟩ := D.r; rw [e]; rfl
theorem DI.g2 (D : DI ns M rs k now ds m) : m[2]? = some (.lst (pastW ds)) := by obtain ⟨_, _, _, e, _⟩ := D.r; rw [e]; rfl
theorem DI.g3 (D : DI ns M rs k now ds m) : m[3]? = some (.lst (pastW ds)) := by obtain ⟨_, _, _, e, _⟩ := D.r; rw [e]; rfl
theorem pastW_snoc (ds : List (PyData × List Int)) (deed : PyData) (c : List Int) : pastW ds ++ [W.d (.tuple [deed, cw c])] = pastW (ds ++ [(deed, c)]) := by unfold pastW; rw [List.map_append]; rfl
theorem low_past {n : Nat} (ds : List (PyData × List Int)) : Cell.low n (.lst (pastW ds)) = true := by
  show (pastW ds).all (W.low n) = true
  unfold pastW
  rw [List.all_map]
  exact List.all_eq_true.mpr fun _ _ => rfl
def doneS (m : Sto) (M : Str) (rs : List (Str × Str)) (ds : List (PyData × List Int)) (deed : PyData) (c c' : List Int) : Sto := (turnS m M rs 1 2 (pastW ds) deed c c').set 3 (.lst (pastW ds ++ [W.d (.tuple [deed, cw c])]))
theorem turn_g3 (D : DI ns M rs k now ds m) {deed : PyData} {c' : List Int} : (turnS m M rs 1 2 (pastW ds) deed now c')[3]? = some (.lst (pastW ds)) := by
  obtain ⟨_, _, _, e, _⟩ := D.r
  rw [e]
  rfl
theorem DI.done (D : DI ns M rs k now ds m) {deed : PyData} {c' : List Int} (hd : Al 5 deed = true) (hb : Bd M (5 + 3 * (k + 1 : Nat)) c') : DI ns M rs (k + 1) c' (ds ++ [(deed, now)]) (doneS m M rs ds deed now c') := by
  refine ⟨?_, ?_, by rw [List.length_append, List.length_singleton]; have := D.hd; omega, hb, fun q hq => ?_⟩
  · obtain ⟨a, b, s, e, z⟩ := D.r
    rw [← pastW_snoc]
    exact ⟨a, b, s, by rw [e]; rfl, z⟩
  · unfold doneS
    refine (turn_fl D.h D.g1 D.g2).set ?_
    rw [pastW_snoc]
    exact low_past _
  · rcases List.mem_append.mp hq with hq | hq
    · exact D.mono.past q hq
    · rw [List.mem_singleton.mp hq]
      exact ⟨D.mono.bd, hd⟩
theorem al_past (D : DI ns M rs k now ds m) (hM : M ∈ MOODS) (hk : k ≤ 100) : Al 7 (.list (ds.map fun q => .tuple [q.1, cw q.2])) = true := by
  have b0 := (moods_sg M hM).2
  unfold Al
  rw [List.length_map, decide_eq_true (by have := D.hd; omega), Als_of fun d hd => ?_]
  · rfl
  · obtain ⟨q, hq, rfl⟩ := List.mem_map.mp hd
    obtain ⟨h1, h2⟩ := D.past q hq
    unfold Al
    rw [decide_eq_true (by simp), Als_of fun d hd => ?_]
    · rfl
    · simp only [List.mem_cons, List.not_mem_nil, or_false] at hd
      rcases hd with rfl | rfl
      · exact h2
      · exact Al_cwK 3 (by rw [h1.len]; omega)
abbrev tw (ns : List Int) (M : Str) (rs : List (Str × Str)) (now : List Int) (w3 w4 w5 w6 w10 w11 w12 w13 w14 w15 w16 w17 w18 w19 : Option W) : Pd.Env :=
  [some (.d (.list (ns.map PyData.int))), some (.loc 0), some (.d (fk M rs)), w3, w4, w5, w6, some (.loc 1), some (.d (cw now)), some (.loc 3), w10, w11, w12, w13, w14, w15, w16, w17, w18, w19]
theorem l_turn (hM : M ∈ MOODS) (g : GR M rs) (l6 : rs.length ≤ 6) (hk : k < 9) (D : DI ns M rs k now ds m) {w3 w4 w5 w6 w10 w11 w12 w13 w14 w15 w16 w17 w18 w19 : Option W} {N1 : Pd.Env → Sto → Prop} {P1 : SP}
    (q : ∀ now' ds' m' x10 x11 x12 x13 x14, DI ns M rs (k + 1) now' ds' m' → N1 (tw ns M rs now' w3 w4 w5 w6 x10 x11 x12 x13 x14 w15 w16 w17 w18 w19) m') :
    wS (bs_law_22 (tw ns M rs now w3 w4 w5 w6 w10 w11 w12 w13 w14 w15 w16 w17 w18 w19) m) N1 P1 := by
  have b0 := (moods_sg M hM).2
  have el : M.cps.toList.length = M.length := Array.length_toList
  have G := fk_gd hM g (by omega)
  have Z := fk_rs hM g (by omega)
  have hkk : ((k : Nat) : Int) < 9 := by omega
  refine ws_seq (ws_par ?_)
  injections
  refine k_taken D.r D.h 5 (by decide) fun x m2 r2 h2 hx => ?_
  have D2 : DI ns M rs k now ds m2 := ⟨r2, h2, D.hd, D.bd, D.past⟩
  have hbd := D2.bd
  have e1 := q_usable (cs := now) h2 Z
  have stay : ∀ {x10 x11 x12 x13 x14}, N1 (tw ns M rs now w3 w4 w5 w6 x10 x11 x12 x13 x14 w15 w16 w17 w18 w19) m2 := fun {_ _ _ _ _} => q now ds m2 _ _ _ _ _ D2.mono
  have ul : (usable M rs now).length ≤ rs.length := List.length_filter_le _ _
  injections
  -- the last two ways
  have back : wS (sIf (tV (eBin pNeM (eVar 9) (eLst aNil))) bs_law_18 sNil (tw ns M rs now w3 w4 w5 w6 (some (.d (.int (x : Nat)))) (some (.d (.list ((usable M rs now).map rl)))) w12 w13 w14 w15 w16 w17 w18 w19) m2) N1 P1 := by
    have al := Al_sh (by decide) (al_past D2 hM (by omega))
    refine ws_if (wt_v (we_bin ?_))
    injections
    refine wp_neM (a := .list (ds.map fun q => .tuple [q.1, cw q.2])) (b := .list []) ?_ rfl ⟨al, rfl⟩ ?_
    · unfold asD
      simp only [D2.g3]
      rw [show pastW ds = (ds.map fun q : PyData × List Int => PyData.tuple [q.1, cw q.2]).map W.d by rw [List.map_map]; rfl, unWs_map]
      rfl
    rw [ev_nil]
    refine ⟨_, rfl, fun z => ?_, fun _ => ws_nil stay⟩
    rcases List.eq_nil_or_concat ds with hds | ⟨ds0, ⟨deed, c0⟩, hds⟩
    · rw [hds] at z
      cases z
    · rw [List.concat_eq_append] at hds
      subst hds
      have u1 := q_dkUndo (ws := pastW ds0) (c' := c0) (deed := deed) h2 D2.g1 (by rw [D2.g2, pastW_snoc])
      refine ws_seq (ws_expr (we_meth ?_))
      injections
      refine ⟨1, _, rfl, D2.g1, by rfl, ?_⟩
      injections
      have g3 : (backS m2 M rs 1 2 (pastW ds0) c0)[3]? = some (.lst (pastW ds0 ++ [W.d (.tuple [deed, cw c0])])) := by
        rw [pastW_snoc]
        obtain ⟨_, _, _, e, _⟩ := D2.r
        rw [e]
        rfl
      have f3 := back_fl (c' := c0) h2 D2.g1 (d := .tuple [deed, cw c0]) (ws := pastW ds0) (by rw [D2.g2, pastW_snoc])
      have r3 : Rw ns [dkC M rs c0 2, .lst (pastW ds0), .lst (pastW ds0)] ((backS m2 M rs 1 2 (pastW ds0) c0).set 3 (.lst (pastW ds0))) := by
        obtain ⟨a, b, s, e, z⟩ := D2.r
        exact ⟨a, b, s, by rw [e]; rfl, z⟩
      refine ws_set (we_bin (we_ml0 ?_))
      injections
      refine wq_pop g3 ?_
      injections
      refine wp_ix_t (show L2.atI [deed, cw c0] 1 = some (cw c0) from rfl) ?_
      have hp := D2.past (deed, c0) (by simp)
      refine q c0 ds0 _ _ _ _ _ _ ⟨r3, f3.set ?_, ?_, hp.1.mono (by omega), fun x hx => D2.mono.past x (List.mem_append_left _ hx)⟩
      · exact low_past _
      · have := D2.hd
        rw [List.length_append, List.length_singleton] at this
        omega
  have rest : wS (bs_law_20 (tw ns M rs now w3 w4 w5 w6 (some (.d (.int (x : Nat)))) (some (.d (.list ((usable M rs now).map rl)))) w12 w13 w14 w15 w16 w17 w18 w19) m2) N1 P1 := by
    refine ws_if (wt_v ?_)
    injections
    refine ⟨fun _ => ?_, fun _ => ?_⟩
    · refine ws_seq (ws_set ?_)
      injections
      refine k_crowd r2 h2 hM rs 3 (by omega) fun t m3 r3 h3 ht hl => ?_
      have D3 : DI ns M rs k now ds m3 := ⟨r3, h3, D2.hd, D2.bd, D2.past⟩
      have b3 : Bd M 3 (cntL M (tx t)) := cnt_bdK 3 (by rw [tx_len]; omega)
      generalize cntL M (tx t) = d at b3
      have bp := bd_plus hbd b3
      have u1 := q_dkJoin h3 (by omega) D3.g1 D3.g2 (by have := D3.hd; unfold pastW; rw [List.length_map]; omega) (b3.cd (by decide)) (fun x hx => by have := b3.bd x hx; omega) (by rw [b3.len]; omega) (bp.small (by omega))
      refine ws_seq (ws_expr (we_meth ?_))
      injections
      refine ⟨1, _, rfl, D3.g1, by rfl, ?_⟩
      injections
      refine ws_seq (ws_expr (we_ml ?_))
      injections
      refine ⟨3, _, rfl, turn_g3 D3, ?_⟩
      injections
      refine wq_app (turn_g3 D3) (by have := D3.hd; unfold pastW; rw [List.length_map]; omega) ?_
      refine ws_set (we_B (wa_cons ?_))
      refine we_map0 (List.zip now d) (fun q => W.d (.tuple [.int q.1, .int q.2])) (fun q => .int (q.1 + q.2)) ?_ (fun q hq => ⟨_, rfl, ?_⟩) (by rw [List.length_zip, hbd.len]; omega) ?_
      · refine wi_z2V ?_
        injections
        exact ⟨zip2_ii now d, rfl⟩
      · injections
        first | exact ⟨rfl, rfl⟩ | rfl
      injections
      have ed : ((List.zip now d).map fun q => PyData.int (q.1 + q.2)) = (plusL 1 now d).map .int := by
        unfold plusL
        rw [List.map_map]
        refine List.map_congr_left fun q _ => ?_
        show PyData.int (q.1 + q.2) = PyData.int (q.1 + 1 * q.2)
        rw [Int.one_mul]
      rw [ed]
      exact q (plusL 1 now d) _ _ _ _ _ _ _ (D3.done (deed := .tuple [.str "join", cw d]) (by
        unfold Al
        rw [decide_eq_true (by simp), Als_of fun y hy => ?_]
        · rfl
        · simp only [List.mem_cons, List.not_mem_nil, or_false] at hy
          rcases hy with rfl | rfl
          · show SeqAt.shaped (.str "join") = true
            decide +kernel
          · exact Al_cwK 2 (by rw [b3.len]; omega)) (bp.mono (by omega)))
    · refine ws_if (wt_and (wt_v (we_bin ?_)))
      injections
      refine ⟨fun _ => ?_, fun _ => ?_⟩
      · refine wt_v (we_bin (we_B ?_))
        injections
        refine wq_sumT (unIs_map now) ?_
        injections
        refine ⟨fun z => ?_, fun _ => back⟩
        have hs := of_decide_eq_true z
        refine ws_seq (ws_set (we_call (wa_cons ?_)))
        injections
        refine we_lc0 (List.zip M.cps.toList now) (fun q => W.d (.tuple [.str ⟨#[q.1]⟩, .int q.2])) (fun q => decide (0 < q.2)) (fun q => .str ⟨#[q.1]⟩) ?_ (fun q hq => ⟨_, rfl, ?_⟩) (by rw [List.length_zip, hbd.len]; omega) ?_
        · refine wi_z2V ?_
          injections
          refine wp_ix_t (show L2.atI [PyData.str M, .tuple (rs.map rl)] 0 = some (.str M) from rfl) ?_
          injections
          exact ⟨_, _, _, _, rfl, (show seqV (.d (.str M)) = some (signs M) from if_pos (by rw [sizeLine_eq]; omega)), (show seqV (.d (cw now)) = some (now.map .int) from rfl), zip_sc M.cps.toList now, rfl⟩
        · injections
          intro _
          injections
          first | exact ⟨rfl, rfl⟩ | rfl
        have ne := sum_pos_some M.cps.toList now (by rw [hbd.len, el]) hs
        have lz : ((List.zip M.cps.toList now).filter fun q => decide (0 < q.2)).length ≤ 6 := Nat.le_trans (List.length_filter_le _ _) (by rw [List.length_zip, hbd.len]; omega)
        injections
        refine k_pick r2 h2 (((List.zip M.cps.toList now).filter fun q => decide (0 < q.2)).map fun q => PyData.str ⟨#[q.1]⟩) (.inl rfl) (by rw [List.length_map]; exact List.length_pos_iff.mpr ne) (by rw [List.length_map]; omega) fun dd m3 r3 h3 hd3 => ?_
        obtain ⟨⟨a, v⟩, hq, rfl⟩ := List.mem_map.mp hd3
        obtain ⟨hq1, hq2⟩ := List.mem_filter.mp hq
        have hq2 : 0 < v := of_decide_eq_true hq2
        have ha : a ∈ M.cps.toList := (List.of_mem_zip hq1).1
        have D3 : DI ns M rs k now ds m3 := ⟨r3, h3, D2.hd, D2.bd, D2.past⟩
        have nn := leave_nn (a := a) M.cps.toList now (moods_nodup M hM) (fun i hi => (hbd.bd i hi).1) (fun q' hq' e => by
          have := zip_fun M.cps.toList now (moods_nodup M hM) q' hq' (a, v) hq1 e
          rw [this]
          exact hq2)
        rw [leave_eq] at nn
        have u1 := q_dkLeave h3 hM ha D3.g1 D3.g2 (by have := D3.hd; unfold pastW; rw [List.length_map]; omega) hbd.len nn
        have ol : (oneAt M a).length = M.length := by unfold oneAt; rw [List.length_map, el]
        have bl : Bd M (5 + 3 * ((k + 1 : Nat) : Int)) (plusL (-1) now (oneAt M a)) := by
          refine ⟨by rw [plusL_len (by rw [hbd.len, ol]), hbd.len], fun i hi => ⟨nn i hi, ?_⟩⟩
          unfold plusL at hi
          obtain ⟨q, hq, rfl⟩ := List.mem_map.mp hi
          have z1 := hbd.bd _ (List.of_mem_zip hq).1
          have z2 : 0 ≤ q.2 := by
            have := (List.of_mem_zip hq).2
            unfold oneAt at this
            obtain ⟨y, _, e⟩ := List.mem_map.mp this
            rw [← e]
            split <;> omega
          omega
        refine ws_seq (ws_expr (we_meth ?_))
        injections
        refine ⟨1, _, rfl, D3.g1, by rfl, ?_⟩
        injections
        refine ws_seq (ws_expr (we_ml ?_))
        injections
        refine ⟨3, _, rfl, turn_g3 D3, ?_⟩
        injections
        refine wq_app (turn_g3 D3) (by have := D3.hd; unfold pastW; rw [List.length_map]; omega) ?_
        refine ws_set (we_B (wa_cons ?_))
        refine we_map0 (List.zip M.cps.toList now) (fun q => W.d (.tuple [.str ⟨#[q.1]⟩, .int q.2])) (fun q => .int (q.2 - if q.1 = a then 1 else 0)) ?_ (fun q hq => ⟨_, rfl, ?_⟩) (by rw [List.length_zip, hbd.len]; omega) ?_
        · refine wi_z2V ?_
          injections
          refine wp_ix_t (show L2.atI [PyData.str M, .tuple (rs.map rl)] 0 = some (.str M) from rfl) ?_
          injections
          exact ⟨_, _, _, _, rfl, (show seqV (.d (.str M)) = some (signs M) from if_pos (by rw [sizeLine_eq]; omega)), (show seqV (.d (cw now)) = some (now.map .int) from rfl), zip_sc M.cps.toList now, rfl⟩
        · refine we_bin ?_
          injections
          refine wp_eq ⟨moods_sh hM (List.of_mem_zip hq).1, moods_sh hM ha⟩ ?_
          rw [ev_ch]
          injections
          by_cases e : q.1 = a
          · rw [decide_eq_true e, if_pos e]
            first | exact ⟨rfl, rfl⟩ | rfl
          · rw [decide_eq_false e, if_neg e]
            first | exact ⟨rfl, rfl⟩ | rfl
        injections
        have ed : ((List.zip M.cps.toList now).map fun q => PyData.int (q.2 - if q.1 = a then 1 else 0)) = (plusL (-1) now (oneAt M a)).map .int := by
          unfold oneAt
          rw [← leave_eq, List.map_map]
          rfl
        rw [ed]
        exact q (plusL (-1) now (oneAt M a)) _ _ _ _ _ _ _ (D3.done (deed := .tuple [.str "leave", .str ⟨#[a]⟩]) (by
          unfold Al
          rw [decide_eq_true (by simp), Als_of fun y hy => ?_]
          · rfl
          · simp only [List.mem_cons, List.not_mem_nil, or_false] at hy
            rcases hy with rfl | rfl
            · show SeqAt.shaped (.str "leave") = true
              decide +kernel
            · exact moods_sh hM ha) bl)
      · refine ⟨fun z => (by cases z), fun _ => back⟩
  refine ws_if (wt_and (wt_v (we_bin ?_)))
  injections
  refine ⟨fun _ => ?_, fun _ => ?_⟩
  · refine wt_v (we_bin ?_)
    injections
    refine wp_ne ⟨fk_us hM g now, rfl⟩ ?_
    rw [ev_nil]
    refine ⟨_, rfl, fun z => ?_, fun _ => rest⟩
    refine ws_seq (ws_set ?_)
    injections
    refine k_pick r2 h2 ((usable M rs now).map rl) (.inl rfl) (by
      cases e : usable M rs now with
      | nil => rw [e] at z; cases z
      | cons _ _ => simp) (by rw [List.length_map]; omega) fun dd m3 r3 h3 hd3 => ?_
    obtain ⟨p, hp, rfl⟩ := List.mem_map.mp hd3
    have D3 : DI ns M rs k now ds m3 := ⟨r3, h3, D2.hd, D2.bd, D2.past⟩
    have hpr : p ∈ rs := (List.mem_filter.mp hp).1
    have hcan : canB M rs now p = true := by rw [← usable_can]; exact List.contains_iff_mem.mpr hp
    have p2 : p.2.length ≤ 2 := by obtain ⟨a, b, e, _⟩ := (g.two p hpr).2.1; rw [e]; exact Nat.le_refl 2
    have bs := hbd.step hcan p2
    have u1 := q_dkMeet h3 G (hbd.cd (by omega)) p hpr hcan (bs.small (by omega)) D3.g1 D3.g2 (by have := D3.hd; unfold pastW; rw [List.length_map]; omega)
    have sp := g.shs hM p hpr
    refine ws_seq (ws_expr (we_meth ?_))
    injections
    refine ⟨1, _, rfl, D3.g1, by rfl, ?_⟩
    injections
    refine ws_seq (ws_expr (we_ml ?_))
    injections
    refine ⟨3, _, rfl, turn_g3 D3, ?_⟩
    injections
    refine wq_app (turn_g3 D3) (by have := D3.hd; unfold pastW; rw [List.length_map]; omega) ?_
    have D4 := D3.done (deed := .tuple [.str "meet", rl p]) (c' := bh M now p) (by
      unfold Al
      rw [decide_eq_true (by simp), Als_of fun y hy => ?_]
      · rfl
      · simp only [List.mem_cons, List.not_mem_nil, or_false] at hy
        rcases hy with rfl | rfl
        · show SeqAt.shaped (.str "meet") = true
          decide +kernel
        · show (decide (2 ≤ 1000) && Als 3 [.str p.1, .str p.2]) = true
          rw [Als_of fun y hy => ?_]
          · rfl
          · simp only [List.mem_cons, List.not_mem_nil, or_false] at hy
            rcases hy with rfl | rfl
            · exact sp.1
            · exact sp.2) (bs.mono (by omega))
    have e2 := q_behind (cs := now) D4.h Z p hpr
    refine ws_set ?_
    injections
    refine wR_ok e2 ?_
    exact q (bh M now p) _ _ _ _ _ _ _ D4
  · exact ⟨fun z => (by cases z), fun _ => rest⟩
end

set_option maxHeartbeats 4000000
open PySem Pd
section
variable {ns : List Int} {m : Sto} {M : Str} {rs : List (Str × Str)} {c now : List Int} {ds : List (PyData × List Int)} {N : Pd.Env → Sto → Prop} {P : SP} {k : Nat}
abbrev wordL (p : Str × Str) : Str := (" " : Str) ++ p.1 ++ ">" ++ p.2
abbrev numL' (i : Int) : Str := (" " : Str) ++ numS i
theorem wordL_len {p : Str × Str} (h : TwoOf M p.1 ∧ TwoOf M p.2) : (wordL p).length = 6 := by
  obtain ⟨a, b, e, _⟩ := h.1
  obtain ⟨a', b', e', _⟩ := h.2
  unfold wordL
  rw [e, e']
  rfl
theorem numL_len' {i : Int} (h0 : 0 ≤ i) (h1 : i < 100) : (numL' i).length ≤ 3 := by
  have := numS_len i h0 h1
  unfold numL'
  rw [app_len]
  have : (" " : Str).length = 1 := rfl
  omega
theorem Dt.jr (D : Dt M rs c) : (((rs.map wordL).map (·.length)).sum + (rs.map wordL).length * ("" : Str).length) ≤ 100 := by
  have : ((rs.map wordL).map (·.length)).sum ≤ ((rs.map wordL).map (·.length)).length * 6 := sum_le fun x hx => by
    obtain ⟨y, hy, rfl⟩ := List.mem_map.mp hx
    obtain ⟨p, hp, rfl⟩ := List.mem_map.mp hy
    exact Nat.le_of_eq (wordL_len (D.two p hp))
  rw [List.length_map, List.length_map] at this
  have := D.l12
  show ((rs.map wordL).map (·.length)).sum + (rs.map wordL).length * 0 ≤ 100
  omega
theorem Dt.jc (D : Dt M rs c) : (((c.map numL').map (·.length)).sum + (c.map numL').length * ("" : Str).length) ≤ 100 := by
  have b0 := (moods_sg M D.mM).2
  have : ((c.map numL').map (·.length)).sum ≤ ((c.map numL').map (·.length)).length * 3 := sum_le fun x hx => by
    obtain ⟨y, hy, rfl⟩ := List.mem_map.mp hx
    obtain ⟨i, hi, rfl⟩ := List.mem_map.mp hy
    exact numL_len' (D.bd i hi).1 (D.bd i hi).2
  rw [List.length_map, List.length_map] at this
  have := D.len
  show ((c.map numL').map (·.length)).sum + (c.map numL').length * 0 ≤ 100
  omega
theorem DI.dt (hM : M ∈ MOODS) (g : GR M rs) (l6 : rs.length ≤ 6) (hk : k < 9) (D : DI ns M rs k now ds m) : Dt M rs now :=
  ⟨hM, fun p hp => ⟨(g.two p hp).1, (g.two p hp).2.1⟩, by omega, D.bd.len, fun i hi => ⟨(D.bd.bd i hi).1, by have := (D.bd.bd i hi).2; omega⟩⟩
theorem wp_cat {x y : Str} {Q : W → Sto → Prop} {E : Exn → Sto → Prop} (n k : Nat) (hx : x.length ≤ n) (hy : y.length ≤ k) (hn : n + k ≤ 16777216) (q : Q (.d (.str (x ++ y))) m) : wR (pPlus (.d (.str x)) (.d (.str y)) m) Q E := wp_plus_s (by omega) q
theorem l_text (hM : M ∈ MOODS) (g : GR M rs) (D : Dt M rs now) {w3 w4 w5 w6 w10 w11 w12 w13 w14 w15 w16 w17 w18 w19 : Option W}
    (q : wS (bs_law_28 (tw ns M rs now w3 w4 (some (.d (.str (deskT M rs now)))) w6 w10 w11 w12 w13 w14 w15 w16 w17 w18 w19) m) N P) :
    wS (bs_law_30 (tw ns M rs now w3 w4 w5 w6 w10 w11 w12 w13 w14 w15 w16 w17 w18 w19) m) N P := by
  have b0 := (moods_sg M hM).2
  have hl12 := D.l12
  have hlen := D.len
  have jr := D.jr
  have jc := D.jc
  have jr2 := Nat.le_trans (join_le "" (rs.map wordL)) jr
  have jc2 := Nat.le_trans (join_le "" (now.map numL')) jc
  refine ws_seq (ws_set (we_bin (we_bin (we_bin ?_))))
  injections
  refine wp_ix_t (show L2.atI [PyData.str M, .tuple (rs.map rl)] 0 = some (.str M) from rfl) ?_
  refine wp_cat 6 6 (by decide) (by omega) (by decide) ?_
  injections
  refine wp_cat 12 6 (by rw [app_len]; have : ("moods " : Str).length = 6 := rfl; omega) (by decide) (by decide) ?_
  refine we_ms ?_
  injections
  refine we_map0 rs (fun p => W.d (rl p)) (fun p => .str (wordL p)) ?_ (fun p hp => ⟨_, rfl, ?_⟩) (by omega) ?_
  · refine wi_seq (we_bin ?_)
    injections
    refine wp_ix_t (show L2.atI [PyData.str M, .tuple (rs.map rl)] 1 = some (.tuple (rs.map rl)) from rfl) ?_
    exact ⟨_, rfl, by rw [List.map_map]; rfl, rfl⟩
  · obtain ⟨p1, p2⟩ := p
    have w5 := D.two _ hp
    have l1 : (p1, p2).fst.length = 2 := by obtain ⟨a, b, e, _⟩ := w5.1; have e : p1 = ⟨#[a, b]⟩ := e; show p1.length = 2; rw [e]; rfl
    have l2 : (p1, p2).snd.length = 2 := by obtain ⟨a, b, e, _⟩ := w5.2; have e : p2 = ⟨#[a, b]⟩ := e; show p2.length = 2; rw [e]; rfl
    refine we_bin (we_bin (we_bin ?_))
    injections
    refine wp_cat 1 2 (by decide) (by omega) (by decide) ?_
    injections
    refine wp_cat 3 1 (by rw [app_len]; have : (" " : Str).length = 1 := rfl; omega) (by decide) (by decide) ?_
    injections
    refine wp_cat 4 2 (by rw [app_len, app_len]; have : (" " : Str).length = 1 := rfl; have : (">" : Str).length = 1 := rfl; omega) (by omega) (by decide) ?_
    exact ⟨rfl, rfl⟩
  refine wq_join (l := rs.map wordL) (by rw [← unSs_map (rs.map wordL), List.map_map]; rfl) (by omega) ?_
  refine wp_cat 18 100 (by rw [app_len, app_len]; have : ("moods " : Str).length = 6 := rfl; have : ("\nrules" : Str).length = 6 := rfl; omega) jr2 (by decide) ?_
  have t1 : ((("moods " : Str) ++ M ++ "\nrules") ++ Txt.join "" (rs.map wordL)).length ≤ 118 := by
    rw [app_len, app_len, app_len]
    have : ("moods " : Str).length = 6 := rfl
    have : ("\nrules" : Str).length = 6 := rfl
    omega
  refine ws_seq (ws_set (we_bin (we_bin (we_bin ?_))))
  injections
  refine wp_cat 118 6 t1 (by decide) (by decide) ?_
  refine we_ms ?_
  injections
  refine we_map0 now (fun i => W.d (.int i)) (fun i => .str (numL' i)) ?_ (fun i hi => ⟨_, rfl, ?_⟩) (by omega) ?_
  · injections
    exact ⟨by rw [List.map_map]; rfl, rfl⟩
  · have hb := D.bd i hi
    have n2 := numS_len i hb.1 hb.2
    refine we_bin ?_
    injections
    refine wq_str (by
      have : i.natAbs < 2 ^ 7 := by omega
      by_cases z : i.natAbs = 0
      · rw [z]; decide
      · exact Nat.lt_of_lt_of_le ((Nat.log2_lt z).mpr this) (by decide)) ?_
    refine wp_cat 1 2 (by decide) n2 (by decide) ?_
    exact ⟨rfl, rfl⟩
  refine wq_join (l := now.map numL') (by rw [← unSs_map (now.map numL'), List.map_map]; rfl) (by omega) ?_
  refine wp_cat 124 100 (by rw [app_len]; have : ("\ncrowd" : Str).length = 6 := rfl; omega) jc2 (by decide) ?_
  injections
  refine wp_cat 224 1 (by rw [app_len, app_len]; have : ("\ncrowd" : Str).length = 6 := rfl; omega) (by decide) (by decide) ?_
  have e := lawT (M := M) (rs := rs) (c := now)
  have e : ((((("moods " : Str) ++ M ++ "\nrules") ++ Txt.join "" (rs.map wordL)) ++ "\ncrowd") ++ Txt.join "" (now.map numL')) ++ "\n" = deskT M rs now := e
  rw [e]
  exact q
mutual
theorem Al_mono : ∀ {n : Nat} {x : PyData}, Al n x = true → Al (n + 1) x = true
  | 0, x, h => by unfold Al at h; cases h
  | n + 1, .list ds, h => by
    unfold Al at h ⊢
    rw [Bool.and_eq_true] at h ⊢
    exact ⟨h.1, Als_mono h.2⟩
  | n + 1, .tuple ds, h => by
    unfold Al at h ⊢
    rw [Bool.and_eq_true] at h ⊢
    exact ⟨h.1, Als_mono h.2⟩
  | n + 1, .dict ds, h => by unfold Al at h; cases h
  | n + 1, .str s, h => by unfold Al at h ⊢; exact h
  | n + 1, .none, h => rfl
  | n + 1, .bool _, h => rfl
  | n + 1, .int _, h => rfl
theorem Als_mono : ∀ {n : Nat} {ds : List PyData}, Als n ds = true → Als (n + 1) ds = true
  | n, [], h => rfl
  | n, d :: ds, h => by
    unfold Als at h ⊢
    rw [Bool.and_eq_true] at h ⊢
    exact ⟨Al_mono h.1, Als_mono h.2⟩
end
theorem Al_deskT (n : Nat) (D : Dt M rs c) : Al (n + 1) (.str (deskT M rs c)) = true := by
  show SeqAt.shaped (.str (deskT M rs c)) = true
  refine sh_str fun x hx => ?_
  have hx : x ∈ tlS (deskT M rs c) := hx
  have dense : ∀ {key : Str} {words : List Str}, Dense key → (∀ w ∈ words, Dense w) → ∀ x ∈ tlS (Txt.join " " (key :: words)), x < 1114112 := fun {key words} hk hw x hx => by
    rw [tl_joinS] at hx
    rcases List.mem_append.mp hx with hx | hx
    · exact (hk x hx).2
    · obtain ⟨w, hw', hx⟩ := List.mem_flatMap.mp hx
      rcases List.mem_append.mp hx with hx | hx
      · have : x = 32 := by simpa using (show x ∈ [32] from hx)
        omega
      · exact (hw w hw' x hx).2
  have d0 := dense den_moods (words := [M]) (fun w hw => by rw [List.mem_singleton.mp hw]; exact moods_dense M D.mM)
  have d1 := dense den_rules (words := rs.map wordR) (fun w hw => by
    obtain ⟨p, hp, rfl⟩ := List.mem_map.mp hw
    exact word_dense D.mM (D.two p hp))
  have d2 := dense den_crowd (words := c.map numS) (fun w hw => by
    obtain ⟨i, hi, rfl⟩ := List.mem_map.mp hw
    exact num_dense (D.bd i hi).1 (D.bd i hi).2)
  unfold deskT at hx
  rw [tl_joinS] at hx
  have nl : ∀ x ∈ tlS "\n", x < 1114112 := fun x hx => by
    have : x = 10 := by simpa using (show x ∈ [10] from hx)
    omega
  rcases List.mem_append.mp hx with hx | hx
  · exact d0 x hx
  · obtain ⟨w, hw, hx⟩ := List.mem_flatMap.mp hx
    rcases List.mem_append.mp hx with hx | hx
    · exact nl x hx
    · simp only [List.mem_cons, List.not_mem_nil, or_false] at hw
      rcases hw with rfl | rfl | rfl
      · exact d1 x hx
      · exact d2 x hx
      · simp at hx
        exact absurd hx (by simp [tlS, show ("" : Str).cps = #[] from rfl])
theorem l_end (hM : M ∈ MOODS) (g : GR M rs) (l6 : rs.length ≤ 6) (hk : k < 9) (D : DI ns M rs k now ds m) (hP : ∀ m', P.rt (.d (.bool true)) m') {w3 w4 w5 w6 w10 w11 w12 w13 w14 w15 w16 w17 w18 w19 : Option W} :
    wS (bs_law_31 (tw ns M rs now w3 w4 w5 w6 w10 w11 w12 w13 w14 w15 w16 w17 w18 w19) m) N P := by
  have b0 := (moods_sg M hM).2
  have T := D.dt hM g l6 hk
  have G := fk_gd hM g (by omega)
  have Z := fk_rs hM g (by omega)
  have hd := D.hd
  have hlen := T.len
  have e1 := q_dkCrowd D.h D.g1
  have e2 := q_dkRow D.h D.g1 D.g2 (by omega)
  have e3 := q_dkText D.h T D.g1
  have e4 := q_dkRest D.h G (show Cd M now from dt_cd T) (by omega) D.g1
  have e5 := q_usable (cs := now) D.h Z
  have e6 := q_deskOf D.h T G
  have alD : ∀ q ∈ ds.map (·.1), Al 5 q = true := fun x hx => by
    obtain ⟨q, hq, rfl⟩ := List.mem_map.mp hx
    exact (D.past q hq).2
  have alT : Al 6 (.tuple (ds.map (·.1))) = true := by
    unfold Al
    rw [List.length_map, decide_eq_true (by omega), Als_of alD]
    rfl
  have al2 : ∀ {a b : PyData}, Al 7 a = true → Al 7 b = true → F__law_alike [.d (.list [a, b]), .d (.list [a, b])] m = .ok (.d (.bool true)) m := fun {a b} ha hb => alike_refl D.h 8 _ (by
    unfold Al
    rw [decide_eq_true (by simp), Als_of fun y hy => ?_]
    · rfl
    · simp only [List.mem_cons, List.not_mem_nil, or_false] at hy
      rcases hy with rfl | rfl
      · exact ha
      · exact hb)
  have alT7 : Al 7 (.tuple (ds.map (·.1))) = true := by
    unfold Al
    rw [List.length_map, decide_eq_true (by omega), Als_of fun d hd => by
      have h1 := alD d hd
      exact Al_mono h1]
    rfl
  have a1 := al2 (Al_cwK 5 (c := now) (by omega)) alT7
  refine ws_seq (ws_if (wt_not (wt_v (we_call (wa_cons (we_lst (wa_cons (we_meth ?_))))))))
  injections
  refine ⟨1, _, rfl, D.g1, by rfl, ?_⟩
  injections
  refine we_meth ?_
  injections
  refine ⟨1, _, rfl, D.g1, by rfl, ?_⟩
  injections
  refine we_lcG (m1 := m) ds (fun q => W.d (.tuple [q.1, cw q.2])) (fun _ => true) (fun q => q.1) ?_ (fun q hq => ⟨_, rfl, ?_⟩) (by omega) ?_
  · refine wi_cell ?_
    injections
    exact ⟨3, _, rfl, D.g3, rfl, rfl, D.g3⟩
  · injections
    intro _
    injections
    first | exact ⟨rfl, rfl⟩ | rfl
  rw [List.filter_eq_self.mpr fun _ _ => rfl]
  injections
  refine l_text hM g T ?_
  have er : decide ((rs.filter (canB M rs now)).length = 0) = ((usable M rs now).map rl).isEmpty := by
    rw [← usable_filter, List.isEmpty_map]
    cases usable M rs now <;> simp
  rw [er] at e4
  have a2 := al2 (Al_deskT 6 T) (show Al 7 (.bool ((usable M rs now).map rl).isEmpty) = true from rfl)
  refine ws_seq (ws_if (wt_not (wt_v (we_call (wa_cons (we_lst (wa_cons (we_meth ?_))))))))
  injections
  refine ⟨1, _, rfl, D.g1, by rfl, ?_⟩
  injections
  refine we_meth ?_
  injections
  refine ⟨1, _, rfl, D.g1, by rfl, ?_⟩
  injections
  refine wp_eq ⟨fk_us hM g now, rfl⟩ ?_
  rw [ev_nil]
  injections
  refine ws_seq (ws_set ?_)
  injections
  have n1 : (deskS m M rs now)[m.length]? = some (dkC M rs now (m.length + 1)) := by unfold deskS; simp
  have n2 : (deskS m M rs now)[m.length + 1]? = some (.lst (pastW [])) := by unfold deskS; simp [pastW]
  have n3 : Fl (deskS m M rs now) := by
    have f1 : Fl (m ++ [Cell.ins "Desk" []]) := D.h.snoc rfl
    have f2 := f1.nil1
    have f3 := f2.set (n := m.length) (c := dkC M rs now (m.length + 1)) (low_dk (by simp))
    rw [sset2 sget1, sset1, List.append_assoc] at f3
    exact f3
  have e7 := q_dkText n3 T n1
  have e8 := q_dkCrowd n3 n1
  have e9 := q_dkRow (ds := []) n3 n1 n2 (by simp)
  have a3 : F__law_alike [.d (.list [.str (deskT M rs now), cw now, .tuple []]), .d (.list [.str (deskT M rs now), cw now, .tuple []])] (deskS m M rs now) = .ok (.d (.bool true)) (deskS m M rs now) := alike_refl n3 8 _ (by
    unfold Al
    rw [decide_eq_true (by simp), Als_of fun y hy => ?_]
    · rfl
    · simp only [List.mem_cons, List.not_mem_nil, or_false] at hy
      rcases hy with rfl | rfl | rfl
      · exact Al_deskT 6 T
      · exact Al_cwK 5 (by omega)
      · rfl)
  refine ws_ret (we_call (wa_cons (we_lst (wa_cons (we_meth ?_)))))
  injections
  refine ⟨m.length, _, rfl, n1, by rfl, ?_⟩
  injections
  refine we_meth ?_
  injections
  refine ⟨m.length, _, rfl, n1, by rfl, ?_⟩
  injections
  refine we_meth ?_
  injections
  refine ⟨m.length, _, rfl, n1, by rfl, ?_⟩
  injections
  exact wR_ok a3 (hP _)
end
theorem law_true (ns : List Int) (hl : ns.length ≤ 63) (hb : ∀ z ∈ ns, Builtin.Int.intBits z ≤ 1048576) : ∃ m', F_law [.d (.list (ns.map PyData.int))] [] = .ok (.d (.bool true)) m' := by
  suffices h : wR (F_law [.d (.list (ns.map .int))] []) (fun w _ => w = .d (.bool true)) NoE by
    obtain ⟨a, m, e, rfl⟩ := wR_get h
    exact ⟨m, e⟩
  refine wF rfl ?_
  refine ws_seq (ws_set ?_)
  injections
  have r0 : Rw ns [] [rc ns 0 7517 0] := ⟨0, 7517, 0, rfl, by decide, by decide⟩
  have h0 : Fl [rc ns 0 7517 0] := rfl
  have hP : ∀ m' : Sto, (SP.fn 0 (fun w _ => w = W.d (.bool true)) NoE).rt (.d (.bool true)) m' := fun m' => fn_rt (we_end_d (n := 0) rfl rfl)
  refine ws_seq (ws_set ?_)
  injections
  refine k_folk r0 h0 6 (by omega) fun M rs m1 r1 h1 hM g l6 => ?_
  refine ws_seq (ws_set ?_)
  injections
  refine k_crowd r1 h1 hM rs 5 (by omega) fun t m2 r2 h2 ht hl2 => ?_
  have b0 := (moods_sg M hM).2
  have bc : Bd M 5 (cntL M (tx t)) := cnt_bdK 5 (by rw [tx_len]; omega)
  generalize cntL M (tx t) = c at bc
  have G := fk_gd hM g (by omega)
  have e6 := q_dkMake h2 G (bc.cd (by decide))
  refine ws_seq (ws_par3 ?_)
  injections
  refine we_make ?_
  injections
  have l1 : m2.length = 1 := by obtain ⟨_, _, _, rfl, _⟩ := r2; rfl
  have r3 : Rw ns [dkC M rs c 2, .lst (pastW []), .lst (pastW [])] (deskS m2 M rs c ++ [.lst []]) := by
    obtain ⟨k, s, b, rfl, hh⟩ := r2
    exact ⟨k, s, b, rfl, hh⟩
  have h3 : Fl (deskS m2 M rs c ++ [.lst []]) := by
    have f1 : Fl (m2 ++ [Cell.ins "Desk" []]) := h2.snoc rfl
    have f2 := f1.nil1
    have f3 := f2.set (n := m2.length) (c := dkC M rs c (m2.length + 1)) (low_dk (by simp))
    rw [sset2 sget1, sset1, List.append_assoc] at f3
    exact Fl.nil1 f3
  have l3 : (deskS m2 M rs c).length = 3 := by unfold deskS; rw [List.length_append, l1]; rfl
  have D0 : DI ns M rs 0 c [] (deskS m2 M rs c ++ [.lst []]) := ⟨r3, h3, Nat.le_refl _, bc, fun q hq => by cases hq⟩
  refine ⟨_, _, _, rfl, ?_⟩
  rw [l1, l3]
  generalize deskS m2 M rs c ++ [.lst []] = m3 at D0
  refine ws_seq (ws_for (wi_rg1 (wa_cons ?_)))
  injections
  refine k_taken D0.r D0.h 9 (by decide) fun x m4 r4 h4 hx => ?_
  injections
  refine ⟨⟨by omega, by omega⟩, ?_⟩
  have D4 : DI ns M rs 0 c [] m4 := ⟨r4, h4, Nat.le_refl _, D0.bd, D0.past⟩
  rw [Int.toNat_natCast]
  refine ws_loop (fun k e m' => ∃ now ds w4 w10 w11 w12 w13 w14, DI ns M rs k now ds m' ∧ e = tw ns M rs now (some (.d (cw c))) w4 none none w10 w11 w12 w13 w14 none none none none none) ⟨c, [], _, _, _, _, _, _, D4, rfl⟩ ?_ ?_
  · rintro k v e m' hk ⟨now, ds, w4, w10, w11, w12, w13, w14, D, rfl⟩
    obtain ⟨hk8, rfl⟩ := rng_at hk
    refine ⟨_, rfl, ?_⟩
    exact l_turn hM g l6 (by omega) D fun now' ds' m'' x10 x11 x12 x13 x14 D' => ⟨now', ds', _, x10, x11, x12, x13, x14, D', rfl⟩
  · rintro e m' ⟨now, ds, w4, w10, w11, w12, w13, w14, D, rfl⟩
    rw [rng_len] at D
    exact l_end hM g l6 hx D hP

end KK

set_option Elab.async false
set_option linter.all false
set_option maxRecDepth 100000
set_option maxHeartbeats 0
namespace KK
open PySem PySem.Spec PyProof.Rows L2 Pd
section
variable {w : World} {K : PySem.W.Frag} {h : Heap} {mg : Str → Option Value} {base : Heap}
def DdK (K : PySem.W.Frag) (fd0 : FuncData) (x : Str) : FuncData := match K.lookup (He.fAd K (x, none)) with
  | some ⟨_, _, .func fd, _⟩ => fd
  | _ => fd0
theorem ddK {fd0 fd : FuncData} {x qual : Str} {params : Arguments} {body : List Stmt} {scope : Scope} {dvs : List V} {kws : List (Str × V)} (F : FunD K x qual params body scope dvs kws (He.fAd K (x, none)) fd) : DdK K fd0 x = fd := by
  obtain ⟨oc, od, dV, kV, doc, pm, an, cdv, ct, osl, rfl, lk, _⟩ := F.ex
  unfold DdK
  rw [lk]
theorem codeK {fd : FuncData} {x qual : Str} {params : Arguments} {body : List Stmt} {scope : Scope} {dvs : List V} {kws : List (Str × V)} (F : FunD K x qual params body scope dvs kws (He.fAd K (x, none)) fd) : fd.code = .ref (He.cT K (x, none)).1 := by
  obtain ⟨oc, od, dV, kV, doc, pm, an, cdv, ct, osl, rfl, lk, hcd, _⟩ := F.ex
  obtain ⟨c, rfl⟩ := He.codeIn_ref hcd
  have := He.codeOf_eq (p := (x, none)) lk (c := c) rfl
  show Value.ref c = .ref (He.codeOf K (x, none))
  rw [this]
theorem excK {x : Str} (c : He.SaysX faL fnL [] tfL exB w h K) (hx : x ∈ exL) : exX x K = true := by
  have := c.more
  unfold exB at this
  rw [Bool.and_eq_true] at this
  exact List.all_eq_true.mp this.1 x hx
theorem excP {x : Str} (c : exX x K = true) : (∃ bmB B newId initId, ExcBaseFacts B newId initId bmB ∧ PySem.W.excIn K (He.ga K x) bmB newId = true) ∧ PySem.W.subIn K (.ref (He.ga K x)) (.type "BaseException") = some true ∧ PySem.W.typeIn K (.ref (He.ga K x)) = some (.type "type") := by
  unfold exX at c
  rw [Bool.and_eq_true, Bool.and_eq_true] at c
  obtain ⟨c1, c2, c3⟩ := c
  have F := PySem.F.excBase_ValueError
  exact ⟨⟨_, _, _, _, F, c1⟩, of_decide_eq_true c2, of_decide_eq_true c3⟩
def DdM (K : PySem.W.Frag) (fd0 : FuncData) (x : Str) : FuncData := match K.lookup (He.fAd K ("Desk", some x)) with
  | some ⟨_, _, .func fd, _⟩ => fd
  | _ => fd0
theorem ddM {fd0 fd : FuncData} {y x qual : Str} {params : Arguments} {body : List Stmt} {scope : Scope} {dvs : List V} {kws : List (Str × V)} (F : FunD K x qual params body scope dvs kws (He.fAd K ("Desk", some y)) fd) : DdM K fd0 y = fd := by
  obtain ⟨oc, od, dV, kV, doc, pm, an, cdv, ct, osl, rfl, lk, _⟩ := F.ex
  unfold DdM
  rw [lk]
theorem txt (X : K.In h) (G : h.Ns mainGlobals mg) (c : He.SaysX faL fnL [] tfL exB w h K) (TB : ∀ p ∈ tfL, GxR.TabB base mg (He.cT K p).1 (He.cT K p).2) : ∃ fd0, Txt K mg base (tgL.map fun p => (He.cT K p).2) (He.ga K) (fun x => He.fAd K (x, none)) (fun x => (He.cT K (x, none)).1) (fun x => (He.cT K (x, none)).2) (DdK K fd0) (fun m => He.ma K (He.ga K "Desk") m) (DdM K fd0) := by
  obtain ⟨e_is_pair, D_is_pair⟩ := c.t.d.def_ 0 (d := d_is_pair) rfl
  obtain ⟨e_are_moods, D_are_moods⟩ := c.t.d.def_ 1 (d := d_are_moods) rfl
  obtain ⟨e_are_two, D_are_two⟩ := c.t.d.def_ 2 (d := d_are_two) rfl
  obtain ⟨e_is_rule, D_is_rule⟩ := c.t.d.def_ 3 (d := d_is_rule) rfl
  obtain ⟨e_are_rules, D_are_rules⟩ := c.t.d.def_ 4 (d := d_are_rules) rfl
  obtain ⟨e_is_folk, D_is_folk⟩ := c.t.d.def_ 5 (d := d_is_folk) rfl
  obtain ⟨e_demand_folk, D_demand_folk⟩ := c.t.d.def_ 6 (d := d_demand_folk) rfl
  obtain ⟨e_is_integer, D_is_integer⟩ := c.t.d.def_ 7 (d := d_is_integer) rfl
  obtain ⟨e_is_crowd, D_is_crowd⟩ := c.t.d.def_ 8 (d := d_is_crowd) rfl
  obtain ⟨e_demand_crowd, D_demand_crowd⟩ := c.t.d.def_ 9 (d := d_demand_crowd) rfl
  obtain ⟨e_Desk___init__, D_Desk___init__⟩ := c.t.d.def_ 10 (d := d_Desk___init__) rfl
  obtain ⟨e_demand_room, D_demand_room⟩ := c.t.d.def_ 11 (d := d_demand_room) rfl
  obtain ⟨e_numbers_of, D_numbers_of⟩ := c.t.d.def_ 12 (d := d_numbers_of) rfl
  obtain ⟨e_can_be_used, D_can_be_used⟩ := c.t.d.def_ 13 (d := d_can_be_used) rfl
  obtain ⟨e_behind_rule, D_behind_rule⟩ := c.t.d.def_ 14 (d := d_behind_rule) rfl
  obtain ⟨e_met, D_met⟩ := c.t.d.def_ 15 (d := d_met) rfl
  obtain ⟨e_Desk__turn, D_Desk__turn⟩ := c.t.d.def_ 16 (d := d_Desk__turn) rfl
  obtain ⟨e_Desk_meet, D_Desk_meet⟩ := c.t.d.def_ 17 (d := d_Desk_meet) rfl
  obtain ⟨e_with_more, D_with_more⟩ := c.t.d.def_ 18 (d := d_with_more) rfl
  obtain ⟨e_Desk_join, D_Desk_join⟩ := c.t.d.def_ 19 (d := d_Desk_join) rfl
  obtain ⟨e_is_mood, D_is_mood⟩ := c.t.d.def_ 20 (d := d_is_mood) rfl
  obtain ⟨e_demand_mood, D_demand_mood⟩ := c.t.d.def_ 21 (d := d_demand_mood) rfl
  obtain ⟨e_Desk_leave, D_Desk_leave⟩ := c.t.d.def_ 22 (d := d_Desk_leave) rfl
  obtain ⟨e_Desk_undo, D_Desk_undo⟩ := c.t.d.def_ 23 (d := d_Desk_undo) rfl
  obtain ⟨e_Desk_crowd, D_Desk_crowd⟩ := c.t.d.def_ 24 (d := d_Desk_crowd) rfl
  obtain ⟨e_Desk_row, D_Desk_row⟩ := c.t.d.def_ 25 (d := d_Desk_row) rfl
  obtain ⟨e_meetings, D_meetings⟩ := c.t.d.def_ 26 (d := d_meetings) rfl
  obtain ⟨e_Desk_is_at_rest, D_Desk_is_at_rest⟩ := c.t.d.def_ 27 (d := d_Desk_is_at_rest) rfl
  obtain ⟨e_Desk_text, D_Desk_text⟩ := c.t.d.def_ 28 (d := d_Desk_text) rfl
  obtain ⟨e_demand_text, D_demand_text⟩ := c.t.d.def_ 29 (d := d_demand_text) rfl
  obtain ⟨e_words_behind, D_words_behind⟩ := c.t.d.def_ 30 (d := d_words_behind) rfl
  obtain ⟨e_moods_from, D_moods_from⟩ := c.t.d.def_ 31 (d := d_moods_from) rfl
  obtain ⟨e_folk_from, D_folk_from⟩ := c.t.d.def_ 32 (d := d_folk_from) rfl
  obtain ⟨e_kind_of, D_kind_of⟩ := c.t.d.def_ 33 (d := d_kind_of) rfl
  obtain ⟨e_is_number, D_is_number⟩ := c.t.d.def_ 34 (d := d_is_number) rfl
  obtain ⟨e_crowd_from, D_crowd_from⟩ := c.t.d.def_ 35 (d := d_crowd_from) rfl
  obtain ⟨e_demand_no_more, D_demand_no_more⟩ := c.t.d.def_ 36 (d := d_demand_no_more) rfl
  obtain ⟨e_desk_of, D_desk_of⟩ := c.t.d.def_ 37 (d := d_desk_of) rfl
  obtain ⟨e__law_taken, D__law_taken⟩ := c.t.d.def_ 38 (d := d__law_taken) rfl
  obtain ⟨e__law_pick, D__law_pick⟩ := c.t.d.def_ 39 (d := d__law_pick) rfl
  obtain ⟨e__law_alike, D__law_alike⟩ := c.t.d.def_ 40 (d := d__law_alike) rfl
  obtain ⟨e__law_two, D__law_two⟩ := c.t.d.def_ 41 (d := d__law_two) rfl
  obtain ⟨e__law_moods, D__law_moods⟩ := c.t.d.def_ 42 (d := d__law_moods) rfl
  obtain ⟨e__law_weight, D__law_weight⟩ := c.t.d.def_ 43 (d := d__law_weight) rfl
  obtain ⟨e__law_folk, D__law_folk⟩ := c.t.d.def_ 44 (d := d__law_folk) rfl
  obtain ⟨e__law_counts, D__law_counts⟩ := c.t.d.def_ 45 (d := d__law_counts) rfl
  obtain ⟨e__law_usable, D__law_usable⟩ := c.t.d.def_ 46 (d := d__law_usable) rfl
  obtain ⟨e__law_behind, D__law_behind⟩ := c.t.d.def_ 47 (d := d__law_behind) rfl
  obtain ⟨e__law_crowd, D__law_crowd⟩ := c.t.d.def_ 48 (d := d__law_crowd) rfl
  obtain ⟨e_law, D_law⟩ := c.t.d.def_ 49 (d := d_law) rfl
  refine ⟨e_law, ?_⟩
  have q_is_pair : DdK K e_law "is_pair" = e_is_pair := ddK D_is_pair
  have q_are_moods : DdK K e_law "are_moods" = e_are_moods := ddK D_are_moods
  have q_are_two : DdK K e_law "are_two" = e_are_two := ddK D_are_two
  have q_is_rule : DdK K e_law "is_rule" = e_is_rule := ddK D_is_rule
  have q_are_rules : DdK K e_law "are_rules" = e_are_rules := ddK D_are_rules
  have q_is_folk : DdK K e_law "is_folk" = e_is_folk := ddK D_is_folk
  have q_demand_folk : DdK K e_law "demand_folk" = e_demand_folk := ddK D_demand_folk
  have q_is_integer : DdK K e_law "is_integer" = e_is_integer := ddK D_is_integer
  have q_is_crowd : DdK K e_law "is_crowd" = e_is_crowd := ddK D_is_crowd
  have q_demand_crowd : DdK K e_law "demand_crowd" = e_demand_crowd := ddK D_demand_crowd
  have q_Desk___init__ : DdM K e_law "__init__" = e_Desk___init__ := ddM D_Desk___init__
  have q_demand_room : DdK K e_law "demand_room" = e_demand_room := ddK D_demand_room
  have q_numbers_of : DdK K e_law "numbers_of" = e_numbers_of := ddK D_numbers_of
  have q_can_be_used : DdK K e_law "can_be_used" = e_can_be_used := ddK D_can_be_used
  have q_behind_rule : DdK K e_law "behind_rule" = e_behind_rule := ddK D_behind_rule
  have q_met : DdK K e_law "met" = e_met := ddK D_met
  have q_Desk__turn : DdM K e_law "_turn" = e_Desk__turn := ddM D_Desk__turn
  have q_Desk_meet : DdM K e_law "meet" = e_Desk_meet := ddM D_Desk_meet
  have q_with_more : DdK K e_law "with_more" = e_with_more := ddK D_with_more
  have q_Desk_join : DdM K e_law "join" = e_Desk_join := ddM D_Desk_join
  have q_is_mood : DdK K e_law "is_mood" = e_is_mood := ddK D_is_mood
  have q_demand_mood : DdK K e_law "demand_mood" = e_demand_mood := ddK D_demand_mood
  have q_Desk_leave : DdM K e_law "leave" = e_Desk_leave := ddM D_Desk_leave
  have q_Desk_undo : DdM K e_law "undo" = e_Desk_undo := ddM D_Desk_undo
  have q_Desk_crowd : DdM K e_law "crowd" = e_Desk_crowd := ddM D_Desk_crowd
  have q_Desk_row : DdM K e_law "row" = e_Desk_row := ddM D_Desk_row
  have q_meetings : DdK K e_law "meetings" = e_meetings := ddK D_meetings
  have q_Desk_is_at_rest : DdM K e_law "is_at_rest" = e_Desk_is_at_rest := ddM D_Desk_is_at_rest
  have q_Desk_text : DdM K e_law "text" = e_Desk_text := ddM D_Desk_text
  have q_demand_text : DdK K e_law "demand_text" = e_demand_text := ddK D_demand_text
  have q_words_behind : DdK K e_law "words_behind" = e_words_behind := ddK D_words_behind
  have q_moods_from : DdK K e_law "moods_from" = e_moods_from := ddK D_moods_from
  have q_folk_from : DdK K e_law "folk_from" = e_folk_from := ddK D_folk_from
  have q_kind_of : DdK K e_law "kind_of" = e_kind_of := ddK D_kind_of
  have q_is_number : DdK K e_law "is_number" = e_is_number := ddK D_is_number
  have q_crowd_from : DdK K e_law "crowd_from" = e_crowd_from := ddK D_crowd_from
  have q_demand_no_more : DdK K e_law "demand_no_more" = e_demand_no_more := ddK D_demand_no_more
  have q_desk_of : DdK K e_law "desk_of" = e_desk_of := ddK D_desk_of
  have q__law_taken : DdK K e_law "_law_taken" = e__law_taken := ddK D__law_taken
  have q__law_pick : DdK K e_law "_law_pick" = e__law_pick := ddK D__law_pick
  have q__law_alike : DdK K e_law "_law_alike" = e__law_alike := ddK D__law_alike
  have q__law_two : DdK K e_law "_law_two" = e__law_two := ddK D__law_two
  have q__law_moods : DdK K e_law "_law_moods" = e__law_moods := ddK D__law_moods
  have q__law_weight : DdK K e_law "_law_weight" = e__law_weight := ddK D__law_weight
  have q__law_folk : DdK K e_law "_law_folk" = e__law_folk := ddK D__law_folk
  have q__law_counts : DdK K e_law "_law_counts" = e__law_counts := ddK D__law_counts
  have q__law_usable : DdK K e_law "_law_usable" = e__law_usable := ddK D__law_usable
  have q__law_behind : DdK K e_law "_law_behind" = e__law_behind := ddK D__law_behind
  have q__law_crowd : DdK K e_law "_law_crowd" = e__law_crowd := ddK D__law_crowd
  have q_law : DdK K e_law "law" = e_law := ddK D_law
  constructor
  · exact He.free_ok X G (c.t.d.fact 55 (f := .free "all") rfl)
  · exact He.free_ok X G (c.t.d.fact 56 (f := .free "any") rfl)
  · exact He.free_ok X G (c.t.d.fact 57 (f := .free "bool") rfl)
  · exact He.free_ok X G (c.t.d.fact 58 (f := .free "dict") rfl)
  · exact He.free_ok X G (c.t.d.fact 59 (f := .free "int") rfl)
  · exact He.free_ok X G (c.t.d.fact 60 (f := .free "isinstance") rfl)
  · exact He.free_ok X G (c.t.d.fact 61 (f := .free "len") rfl)
  · exact He.free_ok X G (c.t.d.fact 62 (f := .free "list") rfl)
  · exact He.free_ok X G (c.t.d.fact 63 (f := .free "min") rfl)
  · exact He.free_ok X G (c.t.d.fact 64 (f := .free "range") rfl)
  · exact He.free_ok X G (c.t.d.fact 65 (f := .free "set") rfl)
  · exact He.free_ok X G (c.t.d.fact 66 (f := .free "sorted") rfl)
  · exact He.free_ok X G (c.t.d.fact 67 (f := .free "str") rfl)
  · exact He.free_ok X G (c.t.d.fact 68 (f := .free "sum") rfl)
  · exact He.free_ok X G (c.t.d.fact 69 (f := .free "tuple") rfl)
  · exact He.free_ok X G (c.t.d.fact 70 (f := .free "zip") rfl)
  · exact He.int_ok X G (c.t.d.fact 71 (f := .int "CROWD_AT" (2)) rfl)
  · exact He.int_ok X G (c.t.d.fact 72 (f := .int "LAST_AT" (3)) rfl)
  · exact He.int_ok X G (c.t.d.fact 73 (f := .int "MOODS_AT" (0)) rfl)
  · exact He.int_ok X G (c.t.d.fact 74 (f := .int "MOST_FIGURES" (41)) rfl)
  · exact He.int_ok X G (c.t.d.fact 75 (f := .int "MOST_IN_A_MOOD" (10000000000000000000000000000000000000000)) rfl)
  · exact He.int_ok X G (c.t.d.fact 76 (f := .int "MOST_MOODS" (6)) rfl)
  · exact He.int_ok X G (c.t.d.fact 77 (f := .int "MOST_RULES" (12)) rfl)
  · exact He.int_ok X G (c.t.d.fact 78 (f := .int "RULES_AT" (1)) rfl)
  · have z := excP (excK (x := "BadCrowd") c (by decide))
    exact ⟨z.1, He.glo_ok X G (c.t.d.fact 79 (f := .glo "BadCrowd") rfl), He.keep_ok (c.t.d.fact 87 (f := .keep "BadCrowd") rfl), z.2.1, z.2.2, He.exm_ok (c.t.d.fact 95 (f := .exm "BadCrowd" "BadCrowd" true) rfl)⟩
  · have z := excP (excK (x := "BadFolk") c (by decide))
    exact ⟨z.1, He.glo_ok X G (c.t.d.fact 80 (f := .glo "BadFolk") rfl), He.keep_ok (c.t.d.fact 88 (f := .keep "BadFolk") rfl), z.2.1, z.2.2, He.exm_ok (c.t.d.fact 96 (f := .exm "BadFolk" "BadFolk" true) rfl)⟩
  · have z := excP (excK (x := "BadRule") c (by decide))
    exact ⟨z.1, He.glo_ok X G (c.t.d.fact 81 (f := .glo "BadRule") rfl), He.keep_ok (c.t.d.fact 89 (f := .keep "BadRule") rfl), z.2.1, z.2.2, He.exm_ok (c.t.d.fact 97 (f := .exm "BadRule" "BadRule" true) rfl)⟩
  · have z := excP (excK (x := "NoMood") c (by decide))
    exact ⟨z.1, He.glo_ok X G (c.t.d.fact 82 (f := .glo "NoMood") rfl), He.keep_ok (c.t.d.fact 90 (f := .keep "NoMood") rfl), z.2.1, z.2.2, He.exm_ok (c.t.d.fact 98 (f := .exm "NoMood" "NoMood" true) rfl)⟩
  · have z := excP (excK (x := "Nobody") c (by decide))
    exact ⟨z.1, He.glo_ok X G (c.t.d.fact 83 (f := .glo "Nobody") rfl), He.keep_ok (c.t.d.fact 91 (f := .keep "Nobody") rfl), z.2.1, z.2.2, He.exm_ok (c.t.d.fact 99 (f := .exm "Nobody" "Nobody" true) rfl)⟩
  · have z := excP (excK (x := "NotText") c (by decide))
    exact ⟨z.1, He.glo_ok X G (c.t.d.fact 84 (f := .glo "NotText") rfl), He.keep_ok (c.t.d.fact 92 (f := .keep "NotText") rfl), z.2.1, z.2.2, He.exm_ok (c.t.d.fact 100 (f := .exm "NotText" "NotText" true) rfl)⟩
  · have z := excP (excK (x := "NothingDone") c (by decide))
    exact ⟨z.1, He.glo_ok X G (c.t.d.fact 85 (f := .glo "NothingDone") rfl), He.keep_ok (c.t.d.fact 93 (f := .keep "NothingDone") rfl), z.2.1, z.2.2, He.exm_ok (c.t.d.fact 101 (f := .exm "NothingDone" "NothingDone" true) rfl)⟩
  · have z := excP (excK (x := "TooGreat") c (by decide))
    exact ⟨z.1, He.glo_ok X G (c.t.d.fact 86 (f := .glo "TooGreat") rfl), He.keep_ok (c.t.d.fact 94 (f := .keep "TooGreat") rfl), z.2.1, z.2.2, He.exm_ok (c.t.d.fact 102 (f := .exm "TooGreat" "TooGreat" true) rfl)⟩
  · refine ⟨He.cls_ok (c.t.d.fact 41 (f := .cls "Desk") rfl), fun f hf => ?_⟩
    simp only [List.mem_cons, List.not_mem_nil, or_false] at hf
    rcases hf with rfl | rfl | rfl
    · exact He.noat_ok (c.t.d.fact 43 (f := .noat "Desk" "folk") rfl)
    · exact He.noat_ok (c.t.d.fact 44 (f := .noat "Desk" "here") rfl)
    · exact He.noat_ok (c.t.d.fact 45 (f := .noat "Desk" "done") rfl)
  · exact He.glo_ok X G (c.t.d.fact 40 (f := .glo "Desk") rfl)
  · exact He.mkr_ok (c.t.d.fact 42 (f := .mkr "Desk") rfl)
  · show FunD K _ _ _ _ _ [] [] _ (DdK K e_law "is_pair")
    rw [q_is_pair]
    exact D_is_pair
  · exact He.glo_ok X G (c.t.d.fact 0 (f := .glo "is_pair") rfl)
  · show FunD K _ _ _ _ _ [] [] _ (DdK K e_law "are_moods")
    rw [q_are_moods]
    exact D_are_moods
  · exact He.glo_ok X G (c.t.d.fact 1 (f := .glo "are_moods") rfl)
  · refine ⟨?_, TB ("are_moods", none) (by decide), List.mem_map.mpr ⟨("are_moods", none), by decide, rfl⟩⟩
    show (DdK K e_law "are_moods").code = _
    rw [q_are_moods]
    exact codeK D_are_moods
  · show FunD K _ _ _ _ _ [] [] _ (DdK K e_law "are_two")
    rw [q_are_two]
    exact D_are_two
  · exact He.glo_ok X G (c.t.d.fact 2 (f := .glo "are_two") rfl)
  · show FunD K _ _ _ _ _ [] [] _ (DdK K e_law "is_rule")
    rw [q_is_rule]
    exact D_is_rule
  · exact He.glo_ok X G (c.t.d.fact 3 (f := .glo "is_rule") rfl)
  · show FunD K _ _ _ _ _ [] [] _ (DdK K e_law "are_rules")
    rw [q_are_rules]
    exact D_are_rules
  · exact He.glo_ok X G (c.t.d.fact 4 (f := .glo "are_rules") rfl)
  · refine ⟨?_, TB ("are_rules", none) (by decide), List.mem_map.mpr ⟨("are_rules", none), by decide, rfl⟩⟩
    show (DdK K e_law "are_rules").code = _
    rw [q_are_rules]
    exact codeK D_are_rules
  · show FunD K _ _ _ _ _ [] [] _ (DdK K e_law "is_folk")
    rw [q_is_folk]
    exact D_is_folk
  · exact He.glo_ok X G (c.t.d.fact 5 (f := .glo "is_folk") rfl)
  · show FunD K _ _ _ _ _ [] [] _ (DdK K e_law "demand_folk")
    rw [q_demand_folk]
    exact D_demand_folk
  · exact He.glo_ok X G (c.t.d.fact 6 (f := .glo "demand_folk") rfl)
  · show FunD K _ _ _ _ _ [] [] _ (DdK K e_law "is_integer")
    rw [q_is_integer]
    exact D_is_integer
  · exact He.glo_ok X G (c.t.d.fact 7 (f := .glo "is_integer") rfl)
  · show FunD K _ _ _ _ _ [] [] _ (DdK K e_law "is_crowd")
    rw [q_is_crowd]
    exact D_is_crowd
  · exact He.glo_ok X G (c.t.d.fact 8 (f := .glo "is_crowd") rfl)
  · refine ⟨?_, TB ("is_crowd", none) (by decide), List.mem_map.mpr ⟨("is_crowd", none), by decide, rfl⟩⟩
    show (DdK K e_law "is_crowd").code = _
    rw [q_is_crowd]
    exact codeK D_is_crowd
  · show FunD K _ _ _ _ _ [] [] _ (DdK K e_law "demand_crowd")
    rw [q_demand_crowd]
    exact D_demand_crowd
  · exact He.glo_ok X G (c.t.d.fact 9 (f := .glo "demand_crowd") rfl)
  · show FunD K _ _ _ _ _ [] [] _ (DdM K e_law "__init__")
    rw [q_Desk___init__]
    exact D_Desk___init__
  · show FunD K _ _ _ _ _ [] [] _ (DdK K e_law "demand_room")
    rw [q_demand_room]
    exact D_demand_room
  · exact He.glo_ok X G (c.t.d.fact 10 (f := .glo "demand_room") rfl)
  · refine ⟨?_, TB ("demand_room", none) (by decide), List.mem_map.mpr ⟨("demand_room", none), by decide, rfl⟩⟩
    show (DdK K e_law "demand_room").code = _
    rw [q_demand_room]
    exact codeK D_demand_room
  · show FunD K _ _ _ _ _ [] [] _ (DdK K e_law "numbers_of")
    rw [q_numbers_of]
    exact D_numbers_of
  · exact He.glo_ok X G (c.t.d.fact 11 (f := .glo "numbers_of") rfl)
  · show FunD K _ _ _ _ _ [] [] _ (DdK K e_law "can_be_used")
    rw [q_can_be_used]
    exact D_can_be_used
  · exact He.glo_ok X G (c.t.d.fact 12 (f := .glo "can_be_used") rfl)
  · refine ⟨?_, TB ("can_be_used", none) (by decide), List.mem_map.mpr ⟨("can_be_used", none), by decide, rfl⟩⟩
    show (DdK K e_law "can_be_used").code = _
    rw [q_can_be_used]
    exact codeK D_can_be_used
  · show FunD K _ _ _ _ _ [] [] _ (DdK K e_law "behind_rule")
    rw [q_behind_rule]
    exact D_behind_rule
  · exact He.glo_ok X G (c.t.d.fact 13 (f := .glo "behind_rule") rfl)
  · show FunD K _ _ _ _ _ [] [] _ (DdK K e_law "met")
    rw [q_met]
    exact D_met
  · exact He.glo_ok X G (c.t.d.fact 14 (f := .glo "met") rfl)
  · show FunD K _ _ _ _ _ [] [] _ (DdM K e_law "_turn")
    rw [q_Desk__turn]
    exact D_Desk__turn
  · exact He.meth_ok (c.t.d.fact 46 (f := .meth "Desk" "_turn") rfl)
  · show FunD K _ _ _ _ _ [] [] _ (DdM K e_law "meet")
    rw [q_Desk_meet]
    exact D_Desk_meet
  · exact He.meth_ok (c.t.d.fact 47 (f := .meth "Desk" "meet") rfl)
  · show FunD K _ _ _ _ _ [] [] _ (DdK K e_law "with_more")
    rw [q_with_more]
    exact D_with_more
  · exact He.glo_ok X G (c.t.d.fact 15 (f := .glo "with_more") rfl)
  · show FunD K _ _ _ _ _ [] [] _ (DdM K e_law "join")
    rw [q_Desk_join]
    exact D_Desk_join
  · exact He.meth_ok (c.t.d.fact 48 (f := .meth "Desk" "join") rfl)
  · show FunD K _ _ _ _ _ [] [] _ (DdK K e_law "is_mood")
    rw [q_is_mood]
    exact D_is_mood
  · exact He.glo_ok X G (c.t.d.fact 16 (f := .glo "is_mood") rfl)
  · show FunD K _ _ _ _ _ [] [] _ (DdK K e_law "demand_mood")
    rw [q_demand_mood]
    exact D_demand_mood
  · exact He.glo_ok X G (c.t.d.fact 17 (f := .glo "demand_mood") rfl)
  · show FunD K _ _ _ _ _ [] [] _ (DdM K e_law "leave")
    rw [q_Desk_leave]
    exact D_Desk_leave
  · exact He.meth_ok (c.t.d.fact 49 (f := .meth "Desk" "leave") rfl)
  · show FunD K _ _ _ _ _ [] [] _ (DdM K e_law "undo")
    rw [q_Desk_undo]
    exact D_Desk_undo
  · exact He.meth_ok (c.t.d.fact 50 (f := .meth "Desk" "undo") rfl)
  · show FunD K _ _ _ _ _ [] [] _ (DdM K e_law "crowd")
    rw [q_Desk_crowd]
    exact D_Desk_crowd
  · exact He.meth_ok (c.t.d.fact 51 (f := .meth "Desk" "crowd") rfl)
  · show FunD K _ _ _ _ _ [] [] _ (DdM K e_law "row")
    rw [q_Desk_row]
    exact D_Desk_row
  · exact He.meth_ok (c.t.d.fact 52 (f := .meth "Desk" "row") rfl)
  · show FunD K _ _ _ _ _ [] [] _ (DdK K e_law "meetings")
    rw [q_meetings]
    exact D_meetings
  · exact He.glo_ok X G (c.t.d.fact 18 (f := .glo "meetings") rfl)
  · show FunD K _ _ _ _ _ [] [] _ (DdM K e_law "is_at_rest")
    rw [q_Desk_is_at_rest]
    exact D_Desk_is_at_rest
  · exact He.meth_ok (c.t.d.fact 53 (f := .meth "Desk" "is_at_rest") rfl)
  · show FunD K _ _ _ _ _ [] [] _ (DdM K e_law "text")
    rw [q_Desk_text]
    exact D_Desk_text
  · exact He.meth_ok (c.t.d.fact 54 (f := .meth "Desk" "text") rfl)
  · show FunD K _ _ _ _ _ [] [] _ (DdK K e_law "demand_text")
    rw [q_demand_text]
    exact D_demand_text
  · exact He.glo_ok X G (c.t.d.fact 19 (f := .glo "demand_text") rfl)
  · show FunD K _ _ _ _ _ [] [] _ (DdK K e_law "words_behind")
    rw [q_words_behind]
    exact D_words_behind
  · exact He.glo_ok X G (c.t.d.fact 20 (f := .glo "words_behind") rfl)
  · show FunD K _ _ _ _ _ [] [] _ (DdK K e_law "moods_from")
    rw [q_moods_from]
    exact D_moods_from
  · exact He.glo_ok X G (c.t.d.fact 21 (f := .glo "moods_from") rfl)
  · show FunD K _ _ _ _ _ [] [] _ (DdK K e_law "folk_from")
    rw [q_folk_from]
    exact D_folk_from
  · exact He.glo_ok X G (c.t.d.fact 22 (f := .glo "folk_from") rfl)
  · refine ⟨?_, TB ("folk_from", none) (by decide), List.mem_map.mpr ⟨("folk_from", none), by decide, rfl⟩⟩
    show (DdK K e_law "folk_from").code = _
    rw [q_folk_from]
    exact codeK D_folk_from
  · show FunD K _ _ _ _ _ [] [] _ (DdK K e_law "kind_of")
    rw [q_kind_of]
    exact D_kind_of
  · exact He.glo_ok X G (c.t.d.fact 23 (f := .glo "kind_of") rfl)
  · show FunD K _ _ _ _ _ [] [] _ (DdK K e_law "is_number")
    rw [q_is_number]
    exact D_is_number
  · exact He.glo_ok X G (c.t.d.fact 24 (f := .glo "is_number") rfl)
  · refine ⟨?_, TB ("is_number", none) (by decide), List.mem_map.mpr ⟨("is_number", none), by decide, rfl⟩⟩
    show (DdK K e_law "is_number").code = _
    rw [q_is_number]
    exact codeK D_is_number
  · show FunD K _ _ _ _ _ [] [] _ (DdK K e_law "crowd_from")
    rw [q_crowd_from]
    exact D_crowd_from
  · exact He.glo_ok X G (c.t.d.fact 25 (f := .glo "crowd_from") rfl)
  · refine ⟨?_, TB ("crowd_from", none) (by decide), List.mem_map.mpr ⟨("crowd_from", none), by decide, rfl⟩⟩
    show (DdK K e_law "crowd_from").code = _
    rw [q_crowd_from]
    exact codeK D_crowd_from
  · show FunD K _ _ _ _ _ [] [] _ (DdK K e_law "demand_no_more")
    rw [q_demand_no_more]
    exact D_demand_no_more
  · exact He.glo_ok X G (c.t.d.fact 26 (f := .glo "demand_no_more") rfl)
  · show FunD K _ _ _ _ _ [] [] _ (DdK K e_law "desk_of")
    rw [q_desk_of]
    exact D_desk_of
  · exact He.glo_ok X G (c.t.d.fact 27 (f := .glo "desk_of") rfl)
  · show FunD K _ _ _ _ _ [] [] _ (DdK K e_law "_law_taken")
    rw [q__law_taken]
    exact D__law_taken
  · exact He.glo_ok X G (c.t.d.fact 28 (f := .glo "_law_taken") rfl)
  · show FunD K _ _ _ _ _ [] [] _ (DdK K e_law "_law_pick")
    rw [q__law_pick]
    exact D__law_pick
  · exact He.glo_ok X G (c.t.d.fact 29 (f := .glo "_law_pick") rfl)
  · show FunD K _ _ _ _ _ [] [] _ (DdK K e_law "_law_alike")
    rw [q__law_alike]
    exact D__law_alike
  · exact He.glo_ok X G (c.t.d.fact 30 (f := .glo "_law_alike") rfl)
  · show FunD K _ _ _ _ _ [] [] _ (DdK K e_law "_law_two")
    rw [q__law_two]
    exact D__law_two
  · exact He.glo_ok X G (c.t.d.fact 31 (f := .glo "_law_two") rfl)
  · show FunD K _ _ _ _ _ [] [] _ (DdK K e_law "_law_moods")
    rw [q__law_moods]
    exact D__law_moods
  · exact He.glo_ok X G (c.t.d.fact 32 (f := .glo "_law_moods") rfl)
  · show FunD K _ _ _ _ _ [] [] _ (DdK K e_law "_law_weight")
    rw [q__law_weight]
    exact D__law_weight
  · exact He.glo_ok X G (c.t.d.fact 33 (f := .glo "_law_weight") rfl)
  · show FunD K _ _ _ _ _ [] [] _ (DdK K e_law "_law_folk")
    rw [q__law_folk]
    exact D__law_folk
  · exact He.glo_ok X G (c.t.d.fact 34 (f := .glo "_law_folk") rfl)
  · show FunD K _ _ _ _ _ [] [] _ (DdK K e_law "_law_counts")
    rw [q__law_counts]
    exact D__law_counts
  · exact He.glo_ok X G (c.t.d.fact 35 (f := .glo "_law_counts") rfl)
  · show FunD K _ _ _ _ _ [] [] _ (DdK K e_law "_law_usable")
    rw [q__law_usable]
    exact D__law_usable
  · exact He.glo_ok X G (c.t.d.fact 36 (f := .glo "_law_usable") rfl)
  · show FunD K _ _ _ _ _ [] [] _ (DdK K e_law "_law_behind")
    rw [q__law_behind]
    exact D__law_behind
  · exact He.glo_ok X G (c.t.d.fact 37 (f := .glo "_law_behind") rfl)
  · show FunD K _ _ _ _ _ [] [] _ (DdK K e_law "_law_crowd")
    rw [q__law_crowd]
    exact D__law_crowd
  · exact He.glo_ok X G (c.t.d.fact 38 (f := .glo "_law_crowd") rfl)
  · show FunD K _ _ _ _ _ [] [] _ (DdK K e_law "law")
    rw [q_law]
    exact D_law
  · exact He.glo_ok X G (c.t.d.fact 39 (f := .glo "law") rfl)
end
end KK
open PySem PySem.W PySem.Calls PyProof.Rows
theorem PySem.Challenge.cw_meetfolk_k17_whole_desks_holds : PySem.Challenge.rw_meetfolk_k17_whole_desks.Holds := by
  w_on; o_law
  refine HandSHeadRun.head_any (r := OpenLaw.row PySem.Challenge.rw_meetfolk_k17_whole_desks) (q := view (OpenLaw.row PySem.Challenge.rw_meetfolk_k17_whole_desks).prog [65]) (H := KK.hkX) (ob := KK.obF) (M := 20000) (loose := KK.looseL) (d := HandSHeadRun.topDef (OpenLaw.row PySem.Challenge.rw_meetfolk_k17_whole_desks).prog 65) (kwd := []) KK.obF_eq
    (by kernel_rfl) (fun s => by kernel_rfl) KK.runF (by kernel_rfl) (by kernel_rfl) (by kernel_rfl) (by rfl) (by first | assumption | decide +kernel) (by decide +kernel) ⟨rfl, rfl, rfl, rfl, rfl, by decide +kernel⟩ ?hw ?hc
  case hw => w_witness2
  case hc =>
    refine LamX.walk_ofTsE (l := PySem.Challenge.rw_meetfolk_k17_whole_desks) (n := 63) (k := 11) (x := "script") (CX := fun w => L2.CX (OpenLaw.row PySem.Challenge.rw_meetfolk_k17_whole_desks).prog w) rfl (by decide) (by kernel_rfl) ⟨rfl, by decide, by decide⟩ ?F (fun w H s e s' z => ?_)
    · intro w mg fa h Y G hmg0
      obtain ⟨K, KX, c⟩ := Y
      have hmg : mg ("law" : PySem.Str) = some (.ref fa) := by
        have e : (HandSHeadRun.topDef (OpenLaw.row PySem.Challenge.rw_meetfolk_k17_whole_desks).prog 65).name = ("law" : PySem.Str) := by kernel_rfl
        rw [← e]
        exact hmg0
      have e := hmg.symm.trans (He.glo_ok KX G (c.t.d.fact 39 (f := .glo "law") rfl))
      cases e
      obtain ⟨fd, D⟩ := c.t.d.def_ 49 (d := KK.d_law) rfl
      refine ⟨K, KX, fd, KK.tfL.map (He.cT K), Pd.spD (KK.TT K (KK.tgL.map fun p => (He.cT K p).2) (He.ga K)) 1 KK.F_law, fun p hp => ?_, fun p hp => ?_, fun p hp => ?_, fun s u => ?_, fun H a ns hl hb ht hS => ?_, fun base KB GB TB => ?_⟩
      · obtain ⟨q, hq, rfl⟩ := List.mem_map.mp hp
        exact c.empty q hq
      · obtain ⟨q, hq, rfl⟩ := List.mem_map.mp hp
        exact c.out q hq
      · obtain ⟨q, hq, rfl⟩ := List.mem_map.mp hp
        exact PySem.W.codeHd_of_K KX (c.hd q hq)
      · have b := L2.FunD.bindsA (ps := ["script"]) D fun _ _ _ _ _ _ us hl => match us, hl with | [_], _ => rfl
        exact b s [u] rfl
      · obtain ⟨m', e⟩ := KK.law_true ns hl hb
        exact Pd.law_spD (by intro P hP; obtain ⟨q, hq, rfl⟩ := List.mem_map.mp hP; exact ht _ (List.mem_map.mpr ⟨q, hq, rfl⟩)) (by intro p hp; cases hp) hS e
      · obtain ⟨fd0, T⟩ := KK.txt (base := base) KX G c fun p hp => let t := TB (He.cT K p) (List.mem_map.mpr ⟨p, hp, rfl⟩); ⟨t.code, t.bm, t.gP⟩
        have F := KK.ok_law (P := (OpenLaw.row PySem.Challenge.rw_meetfolk_k17_whole_desks).prog) (w := w) T
        have e2 : KK.DdK K fd0 "law" = fd := KK.ddK D
        rw [e2] at F
        exact F
    · obtain ⟨_, _, _, _, _, _, _, _, _, _, _, _, z⟩ := z
      exact z.elim

