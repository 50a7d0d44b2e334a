package plain

import (
	"slices"
	"strings"

	"vesper/api"
)

func atItem(at int) api.Item { return api.Item{Kind: api.ItemAt, Arg: at} }

func codeItem(i api.Instr) api.Item {
	return api.Item{Kind: api.ItemCode, Name: i.Name, Arg: i.Arg}
}

// dataItem has a copy of the bytes: they are the caller's.
func dataItem(b []byte) api.Item {
	return api.Item{Kind: api.ItemData, Bytes: slices.Clone(b)}
}

// labelItem has a name in memory of its own, for the same reason.
func labelItem(name string) api.Item {
	return api.Item{Kind: api.ItemLabel, Name: strings.Clone(name)}
}
