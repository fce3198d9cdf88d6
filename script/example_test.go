package script_test

import (
	"testing"

	"culvert/api"
)

// The examples of the chapter.
func TestExamples(t *testing.T) {
	wantParse(t, "culvert 64\nrun 1", of(api.Op{Kind: api.OpRun, K: 1}))
	wantFault(t, "", 0, noScript)
	wantFault(t, "# so", 0, noScript)
	wantFault(t, "run 1", 1, noScript)
	wantFault(t, "culvert 64 1", 1, badWords)
	wantFault(t, "culvert 064", 1, badNumber)

	ten := api.Prefix{Addr: api.Addr{Family: 4, Lo: 0x0A000000}, Bits: 8}
	wantStep(t, "commit 0 add 1 0A 1 , allow 1 10.0.0.0/8", api.Op{Kind: api.OpCommit, Changes: []api.Change{
		{Kind: api.ChAdd, Link: 1, Key: []byte{0x0A}, Side: 1}, {Kind: api.ChAllow, Link: 1, Prefix: ten},
	}})
	wantStep(t, "commit 0", api.Op{Kind: api.OpCommit})
	wantStepFault(t, "commit 0 ,", badWord)
	wantStepFault(t, "commit 0 add 1 0A 1 ,", badWord)
	wantStepFault(t, "commit x add 1", badNumber)
	wantStepFault(t, "commit 0 add 1", badWords)
	wantStepFault(t, "commit 0 put 1 , add", badWord)
	wantStepFault(t, "commit 0 add 1 0 1", badHex)

	wantStep(t, "send 0 -", api.Op{Kind: api.OpSend})
	wantStep(t, "send 0 aBcd", api.Op{Kind: api.OpSend, Data: []byte{0xAB, 0xCD}})
	wantStepFault(t, "send 0 abc", badHex)
	wantStep(t, "arm 1", api.Op{Kind: api.OpArm, A: 1})
	wantStep(t, "arm 1 power 3 io 5", api.Op{Kind: api.OpArm, A: 1, Faults: []api.Fault{{At: 3, Kind: api.FaultPower}, {At: 5, Kind: api.FaultIO}}})
	wantStepFault(t, "arm 1 power", badWords)
	wantStepFault(t, "arm 1 3 power", badWord)
	wantStep(t, "crash 0 0110", api.Op{Kind: api.OpCrash, Keep: []bool{false, true, true, false}})
	wantStep(t, "crash 0 -", api.Op{Kind: api.OpCrash})
	wantStepFault(t, "crash 0 2", badNumber)
	wantStepFault(t, "tick 0 5", badStamp)
	wantStep(t, "look 0 # é", api.Op{Kind: api.OpLook})
	wantStepFault(t, "look 0 é", badText)

	all6 := api.Prefix{Addr: api.Addr{Family: 6}}
	wantPrint(t, api.Script{Sectors: 64, Ops: []api.Op{
		{Kind: api.OpCommit, A: 1, Changes: []api.Change{{Kind: api.ChRemove, Link: 7}, {Kind: api.ChDeny, Link: 7, Prefix: all6}}},
		{Kind: api.OpCrash},
	}}, "culvert 64\ncommit 1 remove 7 , deny 7 0000:0000:0000:0000:0000:0000:0000:0000/0\ncrash 0 -\n")
	wantNoPrintChanges(t, spare, api.Change{Kind: api.ChRemove, Link: 7, Side: 1})
}
