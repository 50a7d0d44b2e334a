package code

import (
	"vesper/api"
	"vesper/bits"
)

// Print is an instruction as a line.
func Print(i api.Instr) (string, api.Errno) {
	if _, e := Encode(i); e != api.OK {
		return "", e
	}
	info, _ := Find(i.Name)
	if info.Form == api.FormNone {
		return info.Name, api.OK
	}
	return info.Name + " " + bits.Hex(i.Arg, layouts[info.Form].digits), api.OK
}

// Parse reads such a line.
func Parse(line string) (api.Instr, api.Errno) {
	name, behind := cut(line)
	info, ok := Find(name)
	if !ok {
		return api.Instr{}, api.ErrCodeName
	}
	i := api.Instr{Name: info.Name}
	if behind != "" {
		i.Arg, _ = bits.Number(behind)
	}
	// A line is right just if it is what is written of the instruction that it seems to be.
	if text, e := Print(i); e != api.OK || text != line {
		return api.Instr{}, api.ErrCodeArg
	}
	return i, api.OK
}

// longestName lets a long line without a blank be refused at its front.
const longestName = 4

// cut parts a line at its first blank; where there is none, or it comes too late for a name, the whole line is the name.
func cut(line string) (name, behind string) {
	name = line
reading:
	for at := range len(line) {
		switch {
		case line[at] == ' ':
			name, behind = line[:at], line[at+1:]
			break reading
		case at == longestName:
			break reading
		}
	}
	return name, behind
}
