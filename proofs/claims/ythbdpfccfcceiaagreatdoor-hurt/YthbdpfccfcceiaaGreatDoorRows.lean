/-
  NARROWER THAN 'FOR EVERY INPUT', by the rows' own cells (each row's printed sentence says how): Txs: laid · Past: laid · Logs: laid · Fallen: laid · All: laid · Rebuilt: laid · Hurt: laid.
  DERIVED. THE GIVEN ROWS OF THIS SEAT. 7 by the template 'for every input the law returns true; each argument reads behind the call as it read before'; 0 by the template 'total and deterministic' (their statements: YthbdpfccfcceiaaGreatDoorTotals.lean).
  GIVEN WITH THE SEED: the statements are not yours to turn. If you find one false, say at which input.
  Laid BY PROGRAM, IN A SANDBOX (cutbox-rows.mjs): the forced cells as the released guide's own fill.sh prints them over the translation faf90abffab10ae1… (all of the seat's roots in one cut). By AI agents, Wed Nov 11 2026. No macro, syntax, notation, axiom, sorry.
-/
import Derived.Test.YthbdpfccfcceiaaGreatDoorChecked
import GoSem.Claim
import GoSem.ClaimJoined
import GoSem.ClaimMapViews
import Derived.JoinedTies
import Derived.KernelRfl
namespace Go.Proofs.YthbdpfccfcceiaaGreatDoor
/- THE CELL 'sum', in the pinned program and in every row, IS THE sha256 OF THE DUMP (.gsa) THAT YthbdpfccfcceiaaGreatDoorProg.lean LOADS. Nothing in Lean hashes anything: it is a label: what it is worth is what the hold of that sum in a sandbox is worth. -/
noncomputable def Tryz.pinned : Pinned := { name := "ythbdpfccfcceiaagreatdoor", sum := "faf90abffab10ae1f45cac725a9fefbf3590125e8e2b04dca3811b9f0a5f0060", checked := Tryz.checked }
namespace Rows
def none {H : Type} : Left H := { results := [], args := [] }

/- WHAT THE LISTED PACKAGE-LEVEL VARIABLES READ AS WHEN THE CALL BEGINS. Each datum BY PROGRAM (the guide's laid-datum.mjs) off the statement by which the dump's own 'gosem.cut.vars' lays the variable. In a bare row this is a premise. The card (YthbdpfccfcceiaaGreatDoorCards.lean) ties it to the program's text. -/
def laid_palimpsest_sums_lowSums {H : Type} : DataW H := .agg [.lit (.int .u32 0), .lit (.int .u32 1996959894), .lit (.int .u32 3993919788), .lit (.int .u32 2567524794), .lit (.int .u32 124634137), .lit (.int .u32 1886057615), .lit (.int .u32 3915621685), .lit (.int .u32 2657392035), .lit (.int .u32 249268274), .lit (.int .u32 2044508324), .lit (.int .u32 3772115230), .lit (.int .u32 2547177864), .lit (.int .u32 162941995), .lit (.int .u32 2125561021), .lit (.int .u32 3887607047), .lit (.int .u32 2428444049), .lit (.int .u32 498536548), .lit (.int .u32 1789927666), .lit (.int .u32 4089016648), .lit (.int .u32 2227061214), .lit (.int .u32 450548861), .lit (.int .u32 1843258603), .lit (.int .u32 4107580753), .lit (.int .u32 2211677639), .lit (.int .u32 325883990), .lit (.int .u32 1684777152), .lit (.int .u32 4251122042), .lit (.int .u32 2321926636), .lit (.int .u32 335633487), .lit (.int .u32 1661365465), .lit (.int .u32 4195302755), .lit (.int .u32 2366115317), .lit (.int .u32 997073096), .lit (.int .u32 1281953886), .lit (.int .u32 3579855332), .lit (.int .u32 2724688242), .lit (.int .u32 1006888145), .lit (.int .u32 1258607687), .lit (.int .u32 3524101629), .lit (.int .u32 2768942443), .lit (.int .u32 901097722), .lit (.int .u32 1119000684), .lit (.int .u32 3686517206), .lit (.int .u32 2898065728), .lit (.int .u32 853044451), .lit (.int .u32 1172266101), .lit (.int .u32 3705015759), .lit (.int .u32 2882616665), .lit (.int .u32 651767980), .lit (.int .u32 1373503546), .lit (.int .u32 3369554304), .lit (.int .u32 3218104598), .lit (.int .u32 565507253), .lit (.int .u32 1454621731), .lit (.int .u32 3485111705), .lit (.int .u32 3099436303), .lit (.int .u32 671266974), .lit (.int .u32 1594198024), .lit (.int .u32 3322730930), .lit (.int .u32 2970347812), .lit (.int .u32 795835527), .lit (.int .u32 1483230225), .lit (.int .u32 3244367275), .lit (.int .u32 3060149565), .lit (.int .u32 1994146192), .lit (.int .u32 31158534), .lit (.int .u32 2563907772), .lit (.int .u32 4023717930), .lit (.int .u32 1907459465), .lit (.int .u32 112637215), .lit (.int .u32 2680153253), .lit (.int .u32 3904427059), .lit (.int .u32 2013776290), .lit (.int .u32 251722036), .lit (.int .u32 2517215374), .lit (.int .u32 3775830040), .lit (.int .u32 2137656763), .lit (.int .u32 141376813), .lit (.int .u32 2439277719), .lit (.int .u32 3865271297), .lit (.int .u32 1802195444), .lit (.int .u32 476864866), .lit (.int .u32 2238001368), .lit (.int .u32 4066508878), .lit (.int .u32 1812370925), .lit (.int .u32 453092731), .lit (.int .u32 2181625025), .lit (.int .u32 4111451223), .lit (.int .u32 1706088902), .lit (.int .u32 314042704), .lit (.int .u32 2344532202), .lit (.int .u32 4240017532), .lit (.int .u32 1658658271), .lit (.int .u32 366619977), .lit (.int .u32 2362670323), .lit (.int .u32 4224994405), .lit (.int .u32 1303535960), .lit (.int .u32 984961486), .lit (.int .u32 2747007092), .lit (.int .u32 3569037538), .lit (.int .u32 1256170817), .lit (.int .u32 1037604311), .lit (.int .u32 2765210733), .lit (.int .u32 3554079995), .lit (.int .u32 1131014506), .lit (.int .u32 879679996), .lit (.int .u32 2909243462), .lit (.int .u32 3663771856), .lit (.int .u32 1141124467), .lit (.int .u32 855842277), .lit (.int .u32 2852801631), .lit (.int .u32 3708648649), .lit (.int .u32 1342533948), .lit (.int .u32 654459306), .lit (.int .u32 3188396048), .lit (.int .u32 3373015174), .lit (.int .u32 1466479909), .lit (.int .u32 544179635), .lit (.int .u32 3110523913), .lit (.int .u32 3462522015), .lit (.int .u32 1591671054), .lit (.int .u32 702138776), .lit (.int .u32 2966460450), .lit (.int .u32 3352799412), .lit (.int .u32 1504918807), .lit (.int .u32 783551873), .lit (.int .u32 3082640443), .lit (.int .u32 3233442989)]
def laid_palimpsest_sums_highSums {H : Type} : DataW H := .agg [.lit (.int .u32 3988292384), .lit (.int .u32 2596254646), .lit (.int .u32 62317068), .lit (.int .u32 1957810842), .lit (.int .u32 3939845945), .lit (.int .u32 2647816111), .lit (.int .u32 81470997), .lit (.int .u32 1943803523), .lit (.int .u32 3814918930), .lit (.int .u32 2489596804), .lit (.int .u32 225274430), .lit (.int .u32 2053790376), .lit (.int .u32 3826175755), .lit (.int .u32 2466906013), .lit (.int .u32 167816743), .lit (.int .u32 2097651377), .lit (.int .u32 4027552580), .lit (.int .u32 2265490386), .lit (.int .u32 503444072), .lit (.int .u32 1762050814), .lit (.int .u32 4150417245), .lit (.int .u32 2154129355), .lit (.int .u32 426522225), .lit (.int .u32 1852507879), .lit (.int .u32 4275313526), .lit (.int .u32 2312317920), .lit (.int .u32 282753626), .lit (.int .u32 1742555852), .lit (.int .u32 4189708143), .lit (.int .u32 2394877945), .lit (.int .u32 397917763), .lit (.int .u32 1622183637), .lit (.int .u32 3604390888), .lit (.int .u32 2714866558), .lit (.int .u32 953729732), .lit (.int .u32 1340076626), .lit (.int .u32 3518719985), .lit (.int .u32 2797360999), .lit (.int .u32 1068828381), .lit (.int .u32 1219638859), .lit (.int .u32 3624741850), .lit (.int .u32 2936675148), .lit (.int .u32 906185462), .lit (.int .u32 1090812512), .lit (.int .u32 3747672003), .lit (.int .u32 2825379669), .lit (.int .u32 829329135), .lit (.int .u32 1181335161), .lit (.int .u32 3412177804), .lit (.int .u32 3160834842), .lit (.int .u32 628085408), .lit (.int .u32 1382605366), .lit (.int .u32 3423369109), .lit (.int .u32 3138078467), .lit (.int .u32 570562233), .lit (.int .u32 1426400815), .lit (.int .u32 3317316542), .lit (.int .u32 2998733608), .lit (.int .u32 733239954), .lit (.int .u32 1555261956), .lit (.int .u32 3268935591), .lit (.int .u32 3050360625), .lit (.int .u32 752459403), .lit (.int .u32 1541320221), .lit (.int .u32 2607071920), .lit (.int .u32 3965973030), .lit (.int .u32 1969922972), .lit (.int .u32 40735498), .lit (.int .u32 2617837225), .lit (.int .u32 3943577151), .lit (.int .u32 1913087877), .lit (.int .u32 83908371), .lit (.int .u32 2512341634), .lit (.int .u32 3803740692), .lit (.int .u32 2075208622), .lit (.int .u32 213261112), .lit (.int .u32 2463272603), .lit (.int .u32 3855990285), .lit (.int .u32 2094854071), .lit (.int .u32 198958881), .lit (.int .u32 2262029012), .lit (.int .u32 4057260610), .lit (.int .u32 1759359992), .lit (.int .u32 534414190), .lit (.int .u32 2176718541), .lit (.int .u32 4139329115), .lit (.int .u32 1873836001), .lit (.int .u32 414664567), .lit (.int .u32 2282248934), .lit (.int .u32 4279200368), .lit (.int .u32 1711684554), .lit (.int .u32 285281116), .lit (.int .u32 2405801727), .lit (.int .u32 4167216745), .lit (.int .u32 1634467795), .lit (.int .u32 376229701), .lit (.int .u32 2685067896), .lit (.int .u32 3608007406), .lit (.int .u32 1308918612), .lit (.int .u32 956543938), .lit (.int .u32 2808555105), .lit (.int .u32 3495958263), .lit (.int .u32 1231636301), .lit (.int .u32 1047427035), .lit (.int .u32 2932959818), .lit (.int .u32 3654703836), .lit (.int .u32 1088359270), .lit (.int .u32 936918000), .lit (.int .u32 2847714899), .lit (.int .u32 3736837829), .lit (.int .u32 1202900863), .lit (.int .u32 817233897), .lit (.int .u32 3183342108), .lit (.int .u32 3401237130), .lit (.int .u32 1404277552), .lit (.int .u32 615818150), .lit (.int .u32 3134207493), .lit (.int .u32 3453421203), .lit (.int .u32 1423857449), .lit (.int .u32 601450431), .lit (.int .u32 3009837614), .lit (.int .u32 3294710456), .lit (.int .u32 1567103746), .lit (.int .u32 711928724), .lit (.int .u32 3020668471), .lit (.int .u32 3272380065), .lit (.int .u32 1510334235), .lit (.int .u32 755167117)]

/-- 'palimpsestlaw.Txs': WHATEVER THE INPUT: true; the input reads as it did. -/
def txsSpec : ChangeSpec := { name := "txs", fn := fun _ => fun
  | [d] => { results := [.lit (.bool true)], args := [d] }
  | _ => none }
def txsRow : OpenClaim := { program := "ythbdpfccfcceiaagreatdoor", sum := "faf90abffab10ae1f45cac725a9fefbf3590125e8e2b04dca3811b9f0a5f0060", func := "palimpsest/palimpsestlaw.Txs", spec := "txs", inPlace := ["(*sync.WaitGroup).Add", "internal/race.ReleaseMerge", "internal/race.Disable", "internal/race.Enable", "internal/synctest.IsInBubble", "internal/synctest.Associate[sync.WaitGroup]", "sync.fatal", "sync/atomic.OrUint64", "sync/atomic.AddUint64", "internal/race.Read", "sync/atomic.LoadUint64", "sync/atomic.StoreUint64", "internal/synctest.Disassociate[sync.WaitGroup]", "sync.runtime_Semrelease", "(*sync.WaitGroup).Done", "(*sync.WaitGroup).Wait", "internal/race.Acquire", "internal/synctest.IsAssociated[sync.WaitGroup]", "sync/atomic.CompareAndSwapUint64", "internal/race.Write", "sync.runtime_SemacquireWaitGroup"], unfollowed := true, recurses := true, named := ["palimpsest/sums.lowSums", "palimpsest/sums.highSums"], plainKeys := false, leaving := true, apart := false, laid := [("palimpsest/sums.lowSums", laid_palimpsest_sums_lowSums), ("palimpsest/sums.highSums", laid_palimpsest_sums_highSums)] }
def TxsSaid : Prop := txsRow.holds Tryz.pinned (OpenSpec.ofChange txsSpec)

/-- ITS FALSE NEIGHBOUR: 'it returns false'. Refute it at one input. -/
def txsWrong : ChangeSpec := { name := "txs", fn := fun _ => fun
  | [d] => { results := [.lit (.bool false)], args := [d] }
  | _ => none }
def TxsWrongFalsely : Prop := txsRow.holds Tryz.pinned (OpenSpec.ofChange txsWrong)

/-- 'palimpsestlaw.Past': WHATEVER THE INPUT: true; the input reads as it did. -/
def pastSpec : ChangeSpec := { name := "past", fn := fun _ => fun
  | [d] => { results := [.lit (.bool true)], args := [d] }
  | _ => none }
def pastRow : OpenClaim := { program := "ythbdpfccfcceiaagreatdoor", sum := "faf90abffab10ae1f45cac725a9fefbf3590125e8e2b04dca3811b9f0a5f0060", func := "palimpsest/palimpsestlaw.Past", spec := "past", inPlace := ["(*sync.WaitGroup).Add", "internal/race.ReleaseMerge", "internal/race.Disable", "internal/race.Enable", "internal/synctest.IsInBubble", "internal/synctest.Associate[sync.WaitGroup]", "sync.fatal", "sync/atomic.OrUint64", "sync/atomic.AddUint64", "internal/race.Read", "sync/atomic.LoadUint64", "sync/atomic.StoreUint64", "internal/synctest.Disassociate[sync.WaitGroup]", "sync.runtime_Semrelease", "(*sync.WaitGroup).Done", "(*sync.WaitGroup).Wait", "internal/race.Acquire", "internal/synctest.IsAssociated[sync.WaitGroup]", "sync/atomic.CompareAndSwapUint64", "internal/race.Write", "sync.runtime_SemacquireWaitGroup"], unfollowed := true, recurses := true, named := ["palimpsest/sums.lowSums", "palimpsest/sums.highSums"], plainKeys := false, leaving := true, apart := false, laid := [("palimpsest/sums.lowSums", laid_palimpsest_sums_lowSums), ("palimpsest/sums.highSums", laid_palimpsest_sums_highSums)] }
def PastSaid : Prop := pastRow.holds Tryz.pinned (OpenSpec.ofChange pastSpec)

/-- ITS FALSE NEIGHBOUR: 'it returns false'. Refute it at one input. -/
def pastWrong : ChangeSpec := { name := "past", fn := fun _ => fun
  | [d] => { results := [.lit (.bool false)], args := [d] }
  | _ => none }
def PastWrongFalsely : Prop := pastRow.holds Tryz.pinned (OpenSpec.ofChange pastWrong)

/-- 'palimpsestlaw.Logs': WHATEVER THE INPUT: true; the input reads as it did. -/
def logsSpec : ChangeSpec := { name := "logs", fn := fun _ => fun
  | [d] => { results := [.lit (.bool true)], args := [d] }
  | _ => none }
def logsRow : OpenClaim := { program := "ythbdpfccfcceiaagreatdoor", sum := "faf90abffab10ae1f45cac725a9fefbf3590125e8e2b04dca3811b9f0a5f0060", func := "palimpsest/palimpsestlaw.Logs", spec := "logs", inPlace := ["(*sync.WaitGroup).Add", "internal/race.ReleaseMerge", "internal/race.Disable", "internal/race.Enable", "internal/synctest.IsInBubble", "internal/synctest.Associate[sync.WaitGroup]", "sync.fatal", "sync/atomic.OrUint64", "sync/atomic.AddUint64", "internal/race.Read", "sync/atomic.LoadUint64", "sync/atomic.StoreUint64", "internal/synctest.Disassociate[sync.WaitGroup]", "sync.runtime_Semrelease", "(*sync.WaitGroup).Done", "(*sync.WaitGroup).Wait", "internal/race.Acquire", "internal/synctest.IsAssociated[sync.WaitGroup]", "sync/atomic.CompareAndSwapUint64", "internal/race.Write", "sync.runtime_SemacquireWaitGroup"], unfollowed := true, recurses := true, named := ["palimpsest/sums.lowSums", "palimpsest/sums.highSums"], plainKeys := false, leaving := true, apart := false, laid := [("palimpsest/sums.lowSums", laid_palimpsest_sums_lowSums), ("palimpsest/sums.highSums", laid_palimpsest_sums_highSums)] }
def LogsSaid : Prop := logsRow.holds Tryz.pinned (OpenSpec.ofChange logsSpec)

/-- ITS FALSE NEIGHBOUR: 'it returns false'. Refute it at one input. -/
def logsWrong : ChangeSpec := { name := "logs", fn := fun _ => fun
  | [d] => { results := [.lit (.bool false)], args := [d] }
  | _ => none }
def LogsWrongFalsely : Prop := logsRow.holds Tryz.pinned (OpenSpec.ofChange logsWrong)

/-- 'palimpsestkeep.Fallen': WHATEVER THE INPUT: true; the input reads as it did. -/
def fallenSpec : ChangeSpec := { name := "fallen", fn := fun _ => fun
  | [d1, d2, d3] => { results := [.lit (.bool true)], args := [d1, d2, d3] }
  | _ => none }
def fallenRow : OpenClaim := { program := "ythbdpfccfcceiaagreatdoor", sum := "faf90abffab10ae1f45cac725a9fefbf3590125e8e2b04dca3811b9f0a5f0060", func := "palimpsest/palimpsestkeep.Fallen", spec := "fallen", unfollowed := true, recurses := true, named := ["palimpsest/sums.lowSums", "palimpsest/sums.highSums"], plainKeys := false, leaving := true, apart := false, laid := [("palimpsest/sums.lowSums", laid_palimpsest_sums_lowSums), ("palimpsest/sums.highSums", laid_palimpsest_sums_highSums)] }
def FallenSaid : Prop := fallenRow.holds Tryz.pinned (OpenSpec.ofChange fallenSpec)

/-- ITS FALSE NEIGHBOUR: 'it returns false'. Refute it at one input. -/
def fallenWrong : ChangeSpec := { name := "fallen", fn := fun _ => fun
  | [d1, d2, d3] => { results := [.lit (.bool false)], args := [d1, d2, d3] }
  | _ => none }
def FallenWrongFalsely : Prop := fallenRow.holds Tryz.pinned (OpenSpec.ofChange fallenWrong)

/-- 'palimpsestlaw.All': WHATEVER THE INPUT: true; the input reads as it did. -/
def allSpec : ChangeSpec := { name := "all", fn := fun _ => fun
  | [d] => { results := [.lit (.bool true)], args := [d] }
  | _ => none }
def allRow : OpenClaim := { program := "ythbdpfccfcceiaagreatdoor", sum := "faf90abffab10ae1f45cac725a9fefbf3590125e8e2b04dca3811b9f0a5f0060", func := "palimpsest/palimpsestlaw.All", spec := "all", inPlace := ["(*sync.WaitGroup).Add", "internal/race.ReleaseMerge", "internal/race.Disable", "internal/race.Enable", "internal/synctest.IsInBubble", "internal/synctest.Associate[sync.WaitGroup]", "sync.fatal", "sync/atomic.OrUint64", "sync/atomic.AddUint64", "internal/race.Read", "sync/atomic.LoadUint64", "sync/atomic.StoreUint64", "internal/synctest.Disassociate[sync.WaitGroup]", "sync.runtime_Semrelease", "(*sync.WaitGroup).Done", "(*sync.WaitGroup).Wait", "internal/race.Acquire", "internal/synctest.IsAssociated[sync.WaitGroup]", "sync/atomic.CompareAndSwapUint64", "internal/race.Write", "sync.runtime_SemacquireWaitGroup"], unfollowed := true, recurses := true, named := ["palimpsest/sums.lowSums", "palimpsest/sums.highSums"], plainKeys := false, leaving := true, apart := false, laid := [("palimpsest/sums.lowSums", laid_palimpsest_sums_lowSums), ("palimpsest/sums.highSums", laid_palimpsest_sums_highSums)] }
def AllSaid : Prop := allRow.holds Tryz.pinned (OpenSpec.ofChange allSpec)

/-- ITS FALSE NEIGHBOUR: 'it returns false'. Refute it at one input. -/
def allWrong : ChangeSpec := { name := "all", fn := fun _ => fun
  | [d] => { results := [.lit (.bool false)], args := [d] }
  | _ => none }
def AllWrongFalsely : Prop := allRow.holds Tryz.pinned (OpenSpec.ofChange allWrong)

/-- 'palimpsestkeep.Rebuilt': WHATEVER THE INPUT: true; the input reads as it did. -/
def rebuiltSpec : ChangeSpec := { name := "rebuilt", fn := fun _ => fun
  | [d1, d2, d3, d4, d5, d6, d7] => { results := [.lit (.bool true)], args := [d1, d2, d3, d4, d5, d6, d7] }
  | _ => none }
def rebuiltRow : OpenClaim := { program := "ythbdpfccfcceiaagreatdoor", sum := "faf90abffab10ae1f45cac725a9fefbf3590125e8e2b04dca3811b9f0a5f0060", func := "palimpsest/palimpsestkeep.Rebuilt", spec := "rebuilt", inPlace := ["(*sync.WaitGroup).Add", "internal/race.ReleaseMerge", "internal/race.Disable", "internal/race.Enable", "internal/synctest.IsInBubble", "internal/synctest.Associate[sync.WaitGroup]", "sync.fatal", "sync/atomic.OrUint64", "sync/atomic.AddUint64", "internal/race.Read", "sync/atomic.LoadUint64", "sync/atomic.StoreUint64", "internal/synctest.Disassociate[sync.WaitGroup]", "sync.runtime_Semrelease", "(*sync.WaitGroup).Done", "(*sync.WaitGroup).Wait", "internal/race.Acquire", "internal/synctest.IsAssociated[sync.WaitGroup]", "sync/atomic.CompareAndSwapUint64", "internal/race.Write", "sync.runtime_SemacquireWaitGroup"], unfollowed := true, recurses := true, named := ["palimpsest/sums.lowSums", "palimpsest/sums.highSums"], plainKeys := false, leaving := true, apart := false, laid := [("palimpsest/sums.lowSums", laid_palimpsest_sums_lowSums), ("palimpsest/sums.highSums", laid_palimpsest_sums_highSums)] }
def RebuiltSaid : Prop := rebuiltRow.holds Tryz.pinned (OpenSpec.ofChange rebuiltSpec)

/-- ITS FALSE NEIGHBOUR: 'it returns false'. Refute it at one input. -/
def rebuiltWrong : ChangeSpec := { name := "rebuilt", fn := fun _ => fun
  | [d1, d2, d3, d4, d5, d6, d7] => { results := [.lit (.bool false)], args := [d1, d2, d3, d4, d5, d6, d7] }
  | _ => none }
def RebuiltWrongFalsely : Prop := rebuiltRow.holds Tryz.pinned (OpenSpec.ofChange rebuiltWrong)

/-- 'palimpsestkeep.Hurt': WHATEVER THE INPUT: true; the input reads as it did. -/
def hurtSpec : ChangeSpec := { name := "hurt", fn := fun _ => fun
  | [d1, d2, d3, d4] => { results := [.lit (.bool true)], args := [d1, d2, d3, d4] }
  | _ => none }
def hurtRow : OpenClaim := { program := "ythbdpfccfcceiaagreatdoor", sum := "faf90abffab10ae1f45cac725a9fefbf3590125e8e2b04dca3811b9f0a5f0060", func := "palimpsest/palimpsestkeep.Hurt", spec := "hurt", inPlace := ["(*sync.WaitGroup).Add", "internal/race.ReleaseMerge", "internal/race.Disable", "internal/race.Enable", "internal/synctest.IsInBubble", "internal/synctest.Associate[sync.WaitGroup]", "sync.fatal", "sync/atomic.OrUint64", "sync/atomic.AddUint64", "internal/race.Read", "sync/atomic.LoadUint64", "sync/atomic.StoreUint64", "internal/synctest.Disassociate[sync.WaitGroup]", "sync.runtime_Semrelease", "(*sync.WaitGroup).Done", "(*sync.WaitGroup).Wait", "internal/race.Acquire", "internal/synctest.IsAssociated[sync.WaitGroup]", "sync/atomic.CompareAndSwapUint64", "internal/race.Write", "sync.runtime_SemacquireWaitGroup"], unfollowed := true, recurses := true, named := ["palimpsest/sums.lowSums", "palimpsest/sums.highSums"], plainKeys := false, leaving := true, apart := false, laid := [("palimpsest/sums.lowSums", laid_palimpsest_sums_lowSums), ("palimpsest/sums.highSums", laid_palimpsest_sums_highSums)] }
def HurtSaid : Prop := hurtRow.holds Tryz.pinned (OpenSpec.ofChange hurtSpec)

/-- ITS FALSE NEIGHBOUR: 'it returns false'. Refute it at one input. -/
def hurtWrong : ChangeSpec := { name := "hurt", fn := fun _ => fun
  | [d1, d2, d3, d4] => { results := [.lit (.bool false)], args := [d1, d2, d3, d4] }
  | _ => none }
def HurtWrongFalsely : Prop := hurtRow.holds Tryz.pinned (OpenSpec.ofChange hurtWrong)

/- THE SECOND FORM. 'bulk': how many values and letters a reading holds, each counted each time it is reached (what is shared counts as often as it is met; a slice's spare places count too). A statement '..UptoSaid' is the law's where the arguments, and the package variables that the reading takes, are together of bulk at most 1048576: NARROWER than '..Said'. Prove '..Said' where nothing that the law and all that it calls make is longer than what came in: it says more and counts as full. Else prove '..UptoSaid'. A law counts once. -/
mutual
def uptoBulk {H : Type} : DataW H → Nat
  | .lit (.string bytes) => bytes.length + 1
  | .lit _ => 1
  | .nil => 1
  | .ptr d => uptoBulk d + 1
  | .slice elems spare => uptoBulkAll elems + uptoBulkAll spare + 1
  | .agg parts => uptoBulkAll parts + 1
  | .iface _ d => uptoBulk d + 1
  | .map entries => uptoBulkEntries entries + 1
  | .held _ => 1
def uptoBulkAll {H : Type} : List (DataW H) → Nat
  | [] => 0
  | d :: r => uptoBulk d + uptoBulkAll r
def uptoBulkEntries {H : Type} : List (Lit × DataW H) → Nat
  | [] => 0
  | x :: r => uptoBulkEntry x + uptoBulkEntries r
def uptoBulkEntry {H : Type} : Lit × DataW H → Nat
  | (.string bytes, d) => bytes.length + uptoBulk d + 1
  | (_, d) => uptoBulk d + 1
 end
def uptoSmall : (H : Type) → List (DataW H) → Bool := fun _ ds => decide (uptoBulkAll ds ≤ 1048576)
def OpenSpec.upto (s : _root_.Go.ChangeSpec) : _root_.Go.OpenSpec := { _root_.Go.OpenSpec.ofChange s with cond := some uptoSmall }

/-- 'palimpsestlaw.Txs', WHERE WHAT IT READS IS OF BULK AT MOST 1048576: true; the input reads as it did. -/
def txsUptoRow : OpenClaim := { program := "ythbdpfccfcceiaagreatdoor", sum := "faf90abffab10ae1f45cac725a9fefbf3590125e8e2b04dca3811b9f0a5f0060", func := "palimpsest/palimpsestlaw.Txs", spec := "txs", inPlace := ["(*sync.WaitGroup).Add", "internal/race.ReleaseMerge", "internal/race.Disable", "internal/race.Enable", "internal/synctest.IsInBubble", "internal/synctest.Associate[sync.WaitGroup]", "sync.fatal", "sync/atomic.OrUint64", "sync/atomic.AddUint64", "internal/race.Read", "sync/atomic.LoadUint64", "sync/atomic.StoreUint64", "internal/synctest.Disassociate[sync.WaitGroup]", "sync.runtime_Semrelease", "(*sync.WaitGroup).Done", "(*sync.WaitGroup).Wait", "internal/race.Acquire", "internal/synctest.IsAssociated[sync.WaitGroup]", "sync/atomic.CompareAndSwapUint64", "internal/race.Write", "sync.runtime_SemacquireWaitGroup"], unfollowed := true, recurses := true, named := ["palimpsest/sums.lowSums", "palimpsest/sums.highSums"], plainKeys := false, leaving := true, apart := false, laid := [("palimpsest/sums.lowSums", laid_palimpsest_sums_lowSums), ("palimpsest/sums.highSums", laid_palimpsest_sums_highSums)], narrowed := true }
def TxsUptoSaid : Prop := txsUptoRow.holds Tryz.pinned (OpenSpec.upto txsSpec)

/-- 'palimpsestlaw.Past', WHERE WHAT IT READS IS OF BULK AT MOST 1048576: true; the input reads as it did. -/
def pastUptoRow : OpenClaim := { program := "ythbdpfccfcceiaagreatdoor", sum := "faf90abffab10ae1f45cac725a9fefbf3590125e8e2b04dca3811b9f0a5f0060", func := "palimpsest/palimpsestlaw.Past", spec := "past", inPlace := ["(*sync.WaitGroup).Add", "internal/race.ReleaseMerge", "internal/race.Disable", "internal/race.Enable", "internal/synctest.IsInBubble", "internal/synctest.Associate[sync.WaitGroup]", "sync.fatal", "sync/atomic.OrUint64", "sync/atomic.AddUint64", "internal/race.Read", "sync/atomic.LoadUint64", "sync/atomic.StoreUint64", "internal/synctest.Disassociate[sync.WaitGroup]", "sync.runtime_Semrelease", "(*sync.WaitGroup).Done", "(*sync.WaitGroup).Wait", "internal/race.Acquire", "internal/synctest.IsAssociated[sync.WaitGroup]", "sync/atomic.CompareAndSwapUint64", "internal/race.Write", "sync.runtime_SemacquireWaitGroup"], unfollowed := true, recurses := true, named := ["palimpsest/sums.lowSums", "palimpsest/sums.highSums"], plainKeys := false, leaving := true, apart := false, laid := [("palimpsest/sums.lowSums", laid_palimpsest_sums_lowSums), ("palimpsest/sums.highSums", laid_palimpsest_sums_highSums)], narrowed := true }
def PastUptoSaid : Prop := pastUptoRow.holds Tryz.pinned (OpenSpec.upto pastSpec)

/-- 'palimpsestlaw.Logs', WHERE WHAT IT READS IS OF BULK AT MOST 1048576: true; the input reads as it did. -/
def logsUptoRow : OpenClaim := { program := "ythbdpfccfcceiaagreatdoor", sum := "faf90abffab10ae1f45cac725a9fefbf3590125e8e2b04dca3811b9f0a5f0060", func := "palimpsest/palimpsestlaw.Logs", spec := "logs", inPlace := ["(*sync.WaitGroup).Add", "internal/race.ReleaseMerge", "internal/race.Disable", "internal/race.Enable", "internal/synctest.IsInBubble", "internal/synctest.Associate[sync.WaitGroup]", "sync.fatal", "sync/atomic.OrUint64", "sync/atomic.AddUint64", "internal/race.Read", "sync/atomic.LoadUint64", "sync/atomic.StoreUint64", "internal/synctest.Disassociate[sync.WaitGroup]", "sync.runtime_Semrelease", "(*sync.WaitGroup).Done", "(*sync.WaitGroup).Wait", "internal/race.Acquire", "internal/synctest.IsAssociated[sync.WaitGroup]", "sync/atomic.CompareAndSwapUint64", "internal/race.Write", "sync.runtime_SemacquireWaitGroup"], unfollowed := true, recurses := true, named := ["palimpsest/sums.lowSums", "palimpsest/sums.highSums"], plainKeys := false, leaving := true, apart := false, laid := [("palimpsest/sums.lowSums", laid_palimpsest_sums_lowSums), ("palimpsest/sums.highSums", laid_palimpsest_sums_highSums)], narrowed := true }
def LogsUptoSaid : Prop := logsUptoRow.holds Tryz.pinned (OpenSpec.upto logsSpec)

/-- 'palimpsestkeep.Fallen', WHERE WHAT IT READS IS OF BULK AT MOST 1048576: true; the input reads as it did. -/
def fallenUptoRow : OpenClaim := { program := "ythbdpfccfcceiaagreatdoor", sum := "faf90abffab10ae1f45cac725a9fefbf3590125e8e2b04dca3811b9f0a5f0060", func := "palimpsest/palimpsestkeep.Fallen", spec := "fallen", unfollowed := true, recurses := true, named := ["palimpsest/sums.lowSums", "palimpsest/sums.highSums"], plainKeys := false, leaving := true, apart := false, laid := [("palimpsest/sums.lowSums", laid_palimpsest_sums_lowSums), ("palimpsest/sums.highSums", laid_palimpsest_sums_highSums)], narrowed := true }
def FallenUptoSaid : Prop := fallenUptoRow.holds Tryz.pinned (OpenSpec.upto fallenSpec)

/-- 'palimpsestlaw.All', WHERE WHAT IT READS IS OF BULK AT MOST 1048576: true; the input reads as it did. -/
def allUptoRow : OpenClaim := { program := "ythbdpfccfcceiaagreatdoor", sum := "faf90abffab10ae1f45cac725a9fefbf3590125e8e2b04dca3811b9f0a5f0060", func := "palimpsest/palimpsestlaw.All", spec := "all", inPlace := ["(*sync.WaitGroup).Add", "internal/race.ReleaseMerge", "internal/race.Disable", "internal/race.Enable", "internal/synctest.IsInBubble", "internal/synctest.Associate[sync.WaitGroup]", "sync.fatal", "sync/atomic.OrUint64", "sync/atomic.AddUint64", "internal/race.Read", "sync/atomic.LoadUint64", "sync/atomic.StoreUint64", "internal/synctest.Disassociate[sync.WaitGroup]", "sync.runtime_Semrelease", "(*sync.WaitGroup).Done", "(*sync.WaitGroup).Wait", "internal/race.Acquire", "internal/synctest.IsAssociated[sync.WaitGroup]", "sync/atomic.CompareAndSwapUint64", "internal/race.Write", "sync.runtime_SemacquireWaitGroup"], unfollowed := true, recurses := true, named := ["palimpsest/sums.lowSums", "palimpsest/sums.highSums"], plainKeys := false, leaving := true, apart := false, laid := [("palimpsest/sums.lowSums", laid_palimpsest_sums_lowSums), ("palimpsest/sums.highSums", laid_palimpsest_sums_highSums)], narrowed := true }
def AllUptoSaid : Prop := allUptoRow.holds Tryz.pinned (OpenSpec.upto allSpec)

/-- 'palimpsestkeep.Rebuilt', WHERE WHAT IT READS IS OF BULK AT MOST 1048576: true; the input reads as it did. -/
def rebuiltUptoRow : OpenClaim := { program := "ythbdpfccfcceiaagreatdoor", sum := "faf90abffab10ae1f45cac725a9fefbf3590125e8e2b04dca3811b9f0a5f0060", func := "palimpsest/palimpsestkeep.Rebuilt", spec := "rebuilt", inPlace := ["(*sync.WaitGroup).Add", "internal/race.ReleaseMerge", "internal/race.Disable", "internal/race.Enable", "internal/synctest.IsInBubble", "internal/synctest.Associate[sync.WaitGroup]", "sync.fatal", "sync/atomic.OrUint64", "sync/atomic.AddUint64", "internal/race.Read", "sync/atomic.LoadUint64", "sync/atomic.StoreUint64", "internal/synctest.Disassociate[sync.WaitGroup]", "sync.runtime_Semrelease", "(*sync.WaitGroup).Done", "(*sync.WaitGroup).Wait", "internal/race.Acquire", "internal/synctest.IsAssociated[sync.WaitGroup]", "sync/atomic.CompareAndSwapUint64", "internal/race.Write", "sync.runtime_SemacquireWaitGroup"], unfollowed := true, recurses := true, named := ["palimpsest/sums.lowSums", "palimpsest/sums.highSums"], plainKeys := false, leaving := true, apart := false, laid := [("palimpsest/sums.lowSums", laid_palimpsest_sums_lowSums), ("palimpsest/sums.highSums", laid_palimpsest_sums_highSums)], narrowed := true }
def RebuiltUptoSaid : Prop := rebuiltUptoRow.holds Tryz.pinned (OpenSpec.upto rebuiltSpec)

/-- 'palimpsestkeep.Hurt', WHERE WHAT IT READS IS OF BULK AT MOST 1048576: true; the input reads as it did. -/
def hurtUptoRow : OpenClaim := { program := "ythbdpfccfcceiaagreatdoor", sum := "faf90abffab10ae1f45cac725a9fefbf3590125e8e2b04dca3811b9f0a5f0060", func := "palimpsest/palimpsestkeep.Hurt", spec := "hurt", inPlace := ["(*sync.WaitGroup).Add", "internal/race.ReleaseMerge", "internal/race.Disable", "internal/race.Enable", "internal/synctest.IsInBubble", "internal/synctest.Associate[sync.WaitGroup]", "sync.fatal", "sync/atomic.OrUint64", "sync/atomic.AddUint64", "internal/race.Read", "sync/atomic.LoadUint64", "sync/atomic.StoreUint64", "internal/synctest.Disassociate[sync.WaitGroup]", "sync.runtime_Semrelease", "(*sync.WaitGroup).Done", "(*sync.WaitGroup).Wait", "internal/race.Acquire", "internal/synctest.IsAssociated[sync.WaitGroup]", "sync/atomic.CompareAndSwapUint64", "internal/race.Write", "sync.runtime_SemacquireWaitGroup"], unfollowed := true, recurses := true, named := ["palimpsest/sums.lowSums", "palimpsest/sums.highSums"], plainKeys := false, leaving := true, apart := false, laid := [("palimpsest/sums.lowSums", laid_palimpsest_sums_lowSums), ("palimpsest/sums.highSums", laid_palimpsest_sums_highSums)], narrowed := true }
def HurtUptoSaid : Prop := hurtUptoRow.holds Tryz.pinned (OpenSpec.upto hurtSpec)

end Rows
end Go.Proofs.YthbdpfccfcceiaaGreatDoor
