package inter

// The interpreter's second page: all other orders.

// jumping: a call puts PC onto the stack, its low byte first.
const jumping = `
	at 0100
call:
	GLO 2
	XRI b7
deep:
	BZ to deep
	SEX 2
	INC 5
	GLO 5
	STXD
	GHI 5
	STXD
	DEC 5
jump:
	LDN 5
jump-on:
	PLO 5
	GHI d
	ADCI 00			; DF is off but for the carry of jump-by
	PHI 5
	SEP 4
jump-by:
	LDI f0
	PLO 7
	SEX 7
	LDN 5
	ADD
	BR to jump-on
`

// skipping: of the keys' orders OUT 2 takes the low four bits of VX.
const skipping = `
skip-same:
	INC 5
	LDN 7
	BR to is
skip-is:
	LDA 5
is:
	XOR
	BZ to skip
	SEP 4
keys:
	OUT 2
	LDA 5
	XRI 9e
	BZ to skip-down
	XRI 3f			; 9e and 3f are a1
no-key:
	BNZ to no-key
	BN3 to skip
	SEP 4
skip-down:
	B3 to skip
	SEP 4
skip-other:
	INC 5
	LDN 7
	BR to is-not
skip-not:
	LDA 5
is-not:
	XOR
	BZ to stay
skip:
	INC 5
	INC 5
stay:
	SEP 4
`

// setting: VX is a byte, or more by it.
const setting = `
set:
	LDA 5
	STR 6
	SEP 4
add:
	LDA 5
	ADD
	STR 6
	SEP 4
`

// reckoning makes an instruction of VX and VY by the order's last digit, OR F1, AND F2, ADD F4, SD F5, and does it at the stack, with P 2. An interrupt then writes below R2, as ever, where nothing is to come any more. DF stays off but by a carry. Of last digits from 8 on the first bit is not looked at: so it is always an instruction of one byte.
const reckoning = `
reckon:
	LDI d3			; SEP 3
	SEX 2
	STXD
	LDA 5
	ANI 07
	BZ to move
	ORI f0
	STR 2
	SEX 6
	LDN 7
	SEP 2
	DEC 2
	STR 6
	LDI ff
	PLO 6
	LDI 00
	SHLC
	STR 6
	SEP 4
move:
	INC 2
	LDN 7
	STR 6
	SEP 4
`

// choosing goes through the orders that begin with F, by what lies between their second bytes. DF is on, and D 0, where one is found.
const choosing = `
choose:
	LDA 5
	SMI 07			; 07
	BZ to timer
	SMI 03			; 0a
	BZ to wait
	SMI 0b			; 15
	BZ to delay
	SMI 03			; 18
	BZ to sound
	SMI 06			; 1e
	BZ to on
	SMI 0b			; 29
	BZ to digit
	SMI 0a			; 33
	BZ to three
	SMI 22			; 55
	BZ to store
	SMI 10			; 65
no-such:
	BNZ to no-such
`

// moving fills V0 to VX, if DF is off, and stores them, if it is on: what was stored is then filled in again, which changes nothing.
const moving = `
	SHR			; of 0: DF is off
store:
	GHI d
	PLO d
	LDI f0
	PLO 7
each-one:
	BNF to fill
	GHI a
	ANI fe
below:
	BZ to below
	LDN 7
	STR a
fill:
	LDN a
	STR 7
	INC 7
	INC a
	GLO d
	DEC d
	BNZ to each-one
	SEP 4
`

// timing: the timers are R8's bytes.
const timing = `
timer:
	GHI 8
	STR 6
	SEP 4
delay:
	LDN 6
	PHI 8
	SEP 4
sound:
	LDN 6
	PLO 8
	SEP 4
`

// waiting looks at one key behind the other, round and round; at the one that it finds it waits till that is up.
const waiting = `
wait:
	SEX 2
look:
	INC e
	GLO e
	STR 2
	OUT 2
	DEC 2
	BN3 to look
is-down:
	B3 to is-down
	ANI 0f
	STR 6
	SEP 4
`

// pointing: I is an address, more by VX, or a digit's picture.
const pointing = `
point:
	GHI d
	PHI a
	LDA 5
	PLO a
	SEP 4
on:
	GLO a
	ADD
	PLO a
	GHI a
	ADCI 00
	PHI a
	SEP 4
digit:
	LDN 6
	ANI 0f
	STR 2
	SHL
	SHL
	SEX 2
	ADD			; five times the digit
	ADI low pictures
	PLO a
	LDI high pictures
	PHI a
	SEP 4
`

// splitting counts how often a hundred, ten and one are in VX. RD is what is left of it, R7 counts.
const splitting = `
three:
	LDI low powers
	PLO c
	SEX c
	LDN 6
	PLO d
power:
	LDI 00
	PLO 7
count:
	GLO d
	SM
	BNF to counted
	PLO d
	INC 7
	BR to count
counted:
	GHI f
	ANI fe
too-low:
	BZ to too-low
	GLO 7
	STR f
	INC f
	LDA c
	XRI 01
	BNZ to power
	SEP 4
`
