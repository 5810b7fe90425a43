package words

import (
	"testing"

	"plumbob/api"
)

func TestOperation(t *testing.T) {
	for op, want := range map[int]string{api.Neg: "neg", api.Ext32: "ext32", api.Add: "add", api.Ge: "ge", 0: "0", 5: "5", 10: "10", 27: "27", -1: "-1", -1 << 63: "-9223372036854775808", 1<<63 - 1: "9223372036854775807"} {
		if got := Operation(op); got != want {
			t.Errorf("Operation(%d): %s, want %s", op, got, want)
		}
	}
	seen := map[string]int{}
	for op := -100; op < 100; op++ {
		word := Operation(op)
		if other, ok := seen[word]; ok {
			t.Errorf("%d and %d are both told as %s", other, op, word)
		}
		seen[word] = op
	}
}
