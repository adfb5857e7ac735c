package batch

import (
	"testing"

	"choir/api"
)

func TestCompareLabels(t *testing.T) {
	rising := [][]api.Label{
		nil,
		{{Key: "\x00"}},
		{{Key: "a"}},
		{{Key: "a"}, {Key: "b"}},
		{{Key: "a"}, {Key: "b"}, {Key: "c"}},
		{{Key: "a"}, {Key: "c"}},
		{{Key: "a", Value: "x"}},
		{{Key: "a", Value: "x"}, {Key: "b"}},
		{{Key: "a", Value: "xx"}},
		{{Key: "a", Value: "\xff"}},
		{{Key: "aa"}},
		{{Key: "b"}},
		{{Key: "\xff"}},
	}
	for i, a := range rising {
		for k, b := range rising {
			got := CompareLabels(a, b)
			if (got < 0) != (i < k) || (got > 0) != (i > k) {
				t.Errorf("%v and %v: %d", a, b, got)
			}
		}
	}
}

func TestSame(t *testing.T) {
	of := func(key string, time int, bits uint64) []api.Series {
		return []api.Series{{Labels: []api.Label{{Key: key}}, Samples: []api.Sample{{Time: time, Bits: bits}}}}
	}
	different := [][]api.Series{
		nil, of("a", 1, 1), of("b", 1, 1), of("a", 2, 1), of("a", 1, 2), append(of("a", 1, 1), of("b", 1, 1)...),
		{{Samples: []api.Sample{{Time: 1, Bits: 1}}}}, {{Samples: []api.Sample{{Time: 1, Bits: 1}, {Time: 2}}}},
		{{Labels: []api.Label{{Key: "a", Value: "v"}}, Samples: []api.Sample{{Time: 1, Bits: 1}}}},
	}
	for i, a := range different {
		for k, b := range different {
			if Same(a, b) != (i == k) {
				t.Errorf("%v and %v", a, b)
			}
		}
	}
	none := []api.Series{{Labels: []api.Label{}, Samples: []api.Sample{{Time: 1, Bits: 1}}}}
	if !Same(nil, []api.Series{}) || !Same(none, different[6]) {
		t.Error("a list without elements is not the same as none")
	}
}
