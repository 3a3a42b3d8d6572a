"""Relays: delays dealt to the links of a chain, and chains run by one clock."""

from mendsontime.bar import lowest, share_at_most
from mendsontime.errors import BadShape, check_list, check_list_from, check_matrix, check_number, is_whole
from mendsontime.forms import is_list
from mendsontime.mender import run_mender
from mendsontime.timecode import encode_rows

MOST_LINKS = 3
MOST_BURST = 6
MOST_DELAY = 6
MOST_TOTAL = 18
MOST_ROWS = 20


def check_bursts(bursts):
    """Return a copy of the bursts of the links."""
    check_list_from(bursts, 1, MOST_LINKS, "bursts")
    return [check_number(burst, 0, MOST_BURST, "bursts") for burst in bursts]


def check_deal(bursts, delays):
    """Return a copy of the delays of links with these bursts."""
    check_list(delays, len(bursts), "delays", exact=True)
    return [check_number(delay, max(1, burst), MOST_DELAY, "delays") for burst, delay in zip(bursts, delays)]


def checked_links(bursts, total):
    """Return a copy of the bursts after their checks and that of the total."""
    links = check_bursts(bursts)
    check_number(total, 1, MOST_TOTAL, "total")
    return links


def all_deals(bursts, total):
    """The ascending list of all deals of the total."""
    found = [[]]
    for burst in bursts:
        found = [deal + [delay] for deal in found for delay in range(max(1, burst), MOST_DELAY + 1)]
    return [deal for deal in found if sum(deal) <= total]


def deals(bursts, total):
    """The ascending list of all deals of the total."""
    return all_deals(checked_links(bursts, total), total)


def is_less(share, other):
    """Tell whether the first share is less than the second one."""
    return not share_at_most(other, share)


def least_share(bursts, delays):
    """The least share of the links, in lowest terms."""
    least = None
    for burst, delay in zip(bursts, delays):
        share = lowest(delay, delay + burst)
        if least is None or is_less(share, least):
            least = share
    return least


def deal_share(bursts, delays):
    """The share of the deal."""
    links = check_bursts(bursts)
    return least_share(links, check_deal(links, delays))


def raised_delay(burst, delay, share):
    """The least delay from this one on at which the share of the link is above that share."""
    while delay <= MOST_DELAY and not is_less(share, (delay, delay + burst)):
        delay += 1
    return delay


def found_deal(bursts, total):
    """The best deal, or None."""
    delays = [max(1, burst) for burst in bursts]
    best = None
    # Each turn has the least delays of all deals with a larger share than the turn before.
    while sum(delays) <= total and max(delays) <= MOST_DELAY:
        best = delays
        share = least_share(bursts, delays)
        delays = [raised_delay(burst, delay, share) for burst, delay in zip(bursts, delays)]
    return best


def best_deal(bursts, total):
    """The best deal of the total, with the least delays, or None."""
    return found_deal(checked_links(bursts, total), total)


def best_by_all(bursts, total):
    """The share and the delays of the first best deal, by trying all; or None."""
    links = checked_links(bursts, total)
    best = None
    for deal in all_deals(links, total):
        share = least_share(links, deal)
        if best is None or is_less(best[0], share):
            best = (share, deal)
    return best


def is_best_deal(bursts, total, paper):
    """Tell whether the paper is a best deal of the total."""
    links = checked_links(bursts, total)
    best = found_deal(links, total)
    if best is None or not is_list(paper, len(links), len(links)):
        return False
    if not all([is_whole(delay, max(1, burst), MOST_DELAY) for burst, delay in zip(links, paper)]):
        return False
    return sum(paper) <= total and least_share(links, paper) == least_share(links, best)


def check_codes(codes):
    """Return a copy of a list of codes with equal fields and equal letters."""
    check_list_from(codes, 1, MOST_LINKS, "codes")
    first = codes[0]
    if not all([code.field == first.field and code.letters == first.letters for code in codes]):
        raise BadShape("codes")
    return list(codes)


def run_chain(codes, delays, rows, patterns):
    """The rows that the end of the chain tells, with None for each letter that is gone."""
    links = check_codes(codes)
    check_list(delays, len(links), "delays", exact=True)
    for delay in delays:
        check_number(delay, 1, MOST_DELAY, "delays")
    many = links[0].letters
    told = check_matrix(rows, links[0].field.size, MOST_ROWS, many, "rows", exact=False)
    beats = len(told) + sum(delays)
    flags = check_matrix(patterns, 2, len(links), beats, "patterns")
    offset = 0
    for code, delay, pattern in zip(links, delays, flags):
        told = told_by_link(code, delay, told, offset, pattern)
        offset += delay
    return told


def told_by_link(code, delay, rows, offset, pattern):
    """The rows that the end of a link tells; None stays, whatever is told of the 0 that is sent for it."""
    ahead = [[0] * code.letters for _ in range(offset)]
    behind = [[0] * code.letters for _ in range(len(pattern) - offset - len(rows))]
    sent = [[0 if letter is None else letter for letter in row] for row in rows]
    signs = encode_rows(code, ahead + sent + behind)
    heard = [None if flag == 1 else row for row, flag in zip(signs, pattern)]
    told = run_mender(code, delay, heard).mended()[offset:offset + len(rows)]
    return [[None if letter is None else value for letter, value in zip(row, fresh)]
            for row, fresh in zip(rows, told)]
