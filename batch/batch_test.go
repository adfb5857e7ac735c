package batch

import (
	"testing"

	"choir/api"
)

func TestCompareLabels(t *testing.T) {
	rising := [][]api.Label{
		nil,
		{{Key: "\x00"}},
		{{Key: "a"}},
		{{Key: "a"}, {Key: "b"}},
		{{Key: "a"}, {Key: "b"}, {Key: "c"}},
		{{Key: "a"}, {Key: "c"}},
		{{Key: "a", Value: "x"}},
		{{Key: "a", Value: "x"}, {Key: "b"}},
		{{Key: "a", Value: "xx"}},
		{{Key: "a", Value: "\xff"}},
		{{Key: "aa"}},
		{{Key: "b"}},
		{{Key: "\xff"}},
	}
	for i, a := range rising {
		for k, b := range rising {
			got := CompareLabels(a, b)
			if (got < 0) != (i < k) || (got > 0) != (i > k) {
				t.Errorf("%v and %v: %d", a, b, got)
			}
		}
	}
}
