package remap

import (
	"reflect"
	"testing"

	"treenail/dev"
	"treenail/table"
)

// Ways: both sides stand in arrays. Another kind isn't built.
var (
	_ [2]*dev.Device = Pair{}.devices
	_ [2]table.Table = Pair{}.tables
)

// TestBothSidesStandInArrays: all that a pair has, so that no side has anything elsewhere.
func TestBothSidesStandInArrays(t *testing.T) {
	pair := reflect.TypeFor[Pair]()
	for i := range pair.NumField() {
		f := pair.Field(i)
		if f.Type.Kind() != reflect.Array || f.Type.Len() != Sides {
			t.Errorf("%s is %v", f.Name, f.Type)
		}
	}
}
