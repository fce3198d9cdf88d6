package world_test

import (
	"encoding/hex"
	"strings"
	"testing"

	"culvert/api"
	"culvert/world"
)

// The chapter's examples, step by step and as a text.
func TestExamples(t *testing.T) {
	for _, row := range []struct{ steps, want string }{
		{"send 0 -", "refused 0 200"},
		{"boot 0 8 64; boot 0 8 64", "up 0 1; refused 0 230"},
		{"boot 2 8 64; run 0; give 1; junk 1 00", "refused 2 2; refused 0 2; refused 0 218; sent -1 0 1"},
		{"boot 0 8 64, crash 0 -, look 0", "up 0 1; down 0 0 0; node 0 0 0"},
		{"arm 0 power 1, boot 0 8 64, crash 0 -, boot 0 8 64", "done 0; refused 0 201; down 0 0 0; up 0 1"},
		{"boot 0 8 64, boot 1 8 64, junk 1 00, run 1", "up 0 1; up 1 1; sent -1 0 1; dropped 1 210"},
	} {
		lines := strings.Split(strings.ReplaceAll(row.steps, ", ", "; "), "; ")
		x := begin(t, 64)
		text := ""
		for i, want := range strings.Split(row.want, "; ") {
			x.says(lines[i], want)
			text += string('1'+rune(i)) + " " + want + "\n"
		}
		if got, line, e := world.Run("culvert 64\n" + strings.Join(lines, "\n")); got != text || line != 0 || e != api.OK {
			t.Errorf("Run of %q = %q, %d, %d, want %q", row.steps, got, line, e, text)
		}
	}
}

// A tunnel's whole life, line by line.
func TestTunnel(t *testing.T) {
	x, k := laid(t, 64), hex.EncodeToString(key(1))
	x.says("send 0 "+there, "sent 0 7 1")
	x.says("copy 1", "sent -1 0 2")
	x.says("run 1", "delivered 1 7 040a0000010a0100016869; dropped 1 213")
	x.says("send 1 "+back, "sent 1 7 3")
	x.says("send 1 "+back, "sent 1 7 4")
	x.says("give 4", "delivered 0 7 040a0100010a0000016f6b")
	x.says("flip 3 30 1", "done 0")
	x.says("give 3", "dropped 0 214")
	x.says("look 0", "node 0 1 12; up 0 1; peer 0 7 "+k+" 10.1.0.0/16; lane 0 "+k+" 0 1 0 4 5 0.000000000")
	x.says("crash 0 1", "down 0 0 0")
	x.says("send 1 "+back, "sent 1 7 5")
	x.says("give 5", "lost 0")
	x.says("boot 0 9 128", "up 0 2")
	x.says("tick 0 5.000000000", "done 0")
	x.says("rekey 0 7", "sent 0 7 6")
	x.says("run 2", "sent 1 7 7; opened 0 7")
	x.says("send 0 "+there, "sent 0 7 8")
	x.says("drop 8", "done 0")
	x.says("send 0 "+there, "sent 0 7 9")
	x.says("look 1", "node 1 1 14; up 1 1; peer 1 7 "+k+" 10.0.0.0/16; lane 1 "+k+" 1 2 0 4 4 5.000000000; flight 9 1 "+hex.EncodeToString(x.flight(9).Data))
	x.says("give 9", "delivered 1 7 040a0000010a0100016869")
	x.says("commit 1 deny 7 10.0.0.0/16", "done 1")
	x.says("send 0 "+there, "sent 0 7 10")
	x.says("give 10", "dropped 1 217")
	x.says("commit 1 allow 7 10.0.0.0/16", "done 1")
	x.says("send 1 "+back, "sent 1 7 11")
	x.says("arm 0 io 2", "done 0")
	x.says("give 11", "delivered 0 7 040a0100010a0000016f6b")
	x.says("send 1 "+back, "sent 1 7 12")
	x.says("commit 0 setkey 7 K2 1", "refused 0 201")
	x.says("look 0", "node 0 0 2; pending 0 40; flight 12 0 "+hex.EncodeToString(x.flight(12).Data))
	x.says("give 12", "lost 0")
	x.wantNumbers()
}
