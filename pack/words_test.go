package pack

import (
	"testing"

	"stanchion/api"
)

// The document's sections Errors and Limits. These tests stand here, because nothing is added to package api.

func TestErrors(t *testing.T) {
	for _, x := range []struct {
		name string
		e    any // not api.Errno: a constant without a type would pass as one
		want int
	}{
		{"OK", api.OK, 0},
		{"ErrNum", api.ErrNum, 10},
		{"ErrShort", api.ErrShort, 11},
		{"ErrForm", api.ErrForm, 12},
		{"ErrLong", api.ErrLong, 13},
		{"ErrDown", api.ErrDown, 40},
		{"ErrArea", api.ErrArea, 41},
		{"ErrConf", api.ErrConf, 60},
		{"ErrKind", api.ErrKind, 80},
		{"ErrField", api.ErrField, 81},
		{"ErrPath", api.ErrPath, 90},
		{"ErrNone", api.ErrNone, 100},
		{"ErrThere", api.ErrThere, 101},
		{"ErrVersion", api.ErrVersion, 102},
		{"ErrKids", api.ErrKids, 103},
		{"ErrQuota", api.ErrQuota, 104},
		{"ErrBrief", api.ErrBrief, 105},
		{"ErrSession", api.ErrSession, 120},
		{"ErrOp", api.ErrOp, 130},
		{"ErrSnap", api.ErrSnap, 140},
		{"ErrFull", api.ErrFull, 210},
		{"ErrPick", api.ErrPick, 211},
		{"ErrClash", api.ErrClash, 230},
		{"ErrLine", api.ErrLine, 240},
	} {
		if e, ok := x.e.(api.Errno); !ok || int(e) != x.want {
			t.Errorf("%s: %v", x.name, x.e)
		}
	}
}

func TestErrnoIsAnError(t *testing.T) {
	var err error = api.ErrForm
	if err.Error() != "stanchion error 12" {
		t.Error(err.Error())
	}
}

func TestLimits(t *testing.T) {
	for _, x := range []struct {
		name      string
		got, want int
	}{
		{"MaxNum", api.MaxNum, 4611686018427387904},
		{"MaxField", api.MaxField, 65536},
		{"MaxParts", api.MaxParts, 1024},
		{"MaxU", api.MaxU, 2},
		{"MaxPeers", api.MaxPeers, 8},
		{"MaxOp", api.MaxOp, 1024},
		{"MaxPath", api.MaxPath, 64},
		{"MaxName", api.MaxName, 16},
		{"MaxData", api.MaxData, 128},
		{"MaxNodes", api.MaxNodes, 32},
		{"MaxWatch", api.MaxWatch, 8},
		{"MaxMulti", api.MaxMulti, 4},
		{"MaxNet", api.MaxNet, 4096},
		{"MaxWide", api.MaxWide, 1099511627776},
		{"MaxTags", api.MaxTags, 64},
	} {
		if x.got != x.want {
			t.Errorf("%s: %d", x.name, x.got)
		}
	}
}
